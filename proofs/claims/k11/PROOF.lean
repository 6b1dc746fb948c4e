import PyProof.Rows.All
import Wide.All
import OpenK.AllK
import Wide.FinOn
import Lean
import PyProof.EqAt
import PyProof.EqKinds
import PyProof.TupleCall
import PySem.Syntax
import PySem.Eval
import PyProof.P3In
import KE.KIsAll
import PyProof.CollectIter
import PyProof.ListRange
import KE.KDictLaws
import KE.KDictList
import PyProof.EnumMake
import PyProof.WalksEnum
import PyProof.LayNew
import PySem.Challenge.RW_leaffold_k11_cut_pieces
noncomputable section
set_option linter.all false
set_option maxRecDepth 100000
set_option maxHeartbeats 4000000
set_option Elab.async false
set_option genSizeOf false
set_option bootstrap.genMatcherCode false
set_option compiler.extract_closed false
open Array (length_toList)
open Bool (not_eq_true' or_eq_true)
open Int (toNat_natCast)
open List (all_cons all_eq_true all_map any_cons find?_cons getElem?_eq_none getElem?_replicate length_filter_le length_set lookup_cons map_nil mem_filter mem_filterMap mem_reverse nodup_cons of_mem_zip range_succ reverse_cons)
open Nat (le_of_lt le_succ_of_le lt_trans min_eq_left min_eq_right mul_comm mul_le_mul not_lt succ_le_succ)
open PySem.F (args_tuple_add_2 entry_tuple_add plainAttrs_list slot_tuple_add)
open PySem.Heap (size_push)
open PySem.W (callWith_K callWith_K0 cellsFrom_some codeIn emptyDict excIn findIn handedIn hasDictIn hideAll instObj isFn keepIn kia_one kitOne kitx_dict kitx_list lookIn makesIn methodObj mg_none_of mg_of mroIn nsIn plainGet plainGet_of plainOver specialIn tail_of_in takerIn takesIn)
abbrev q9:=@List.getElem?_eq_some_iff
abbrev qd:=@List.getD_eq_getElem?_getD
abbrev qe:=@Option.some.injEq
abbrev qf:=@List.mem_of_getElem?
abbrev qg:=@Option.bind_eq_some_iff
abbrev qh:=@List.getElem?_eq_getElem
abbrev qi:=@List.getElem?_map
abbrev qj:=@List.length_map
abbrev qk:=@Nat.le_refl
abbrev ql:=@Option.bind_eq_bind
abbrev qm:=@decide_eq_false
abbrev qo:=@PySem.Heap.get?_push_of_some
abbrev qp:=@Bool.false_eq_true
abbrev qq:=@List.mem_cons_of_mem
abbrev qr:=@List.size_toArray
abbrev qt:=@Bool.and_eq_true
abbrev qu:=@Option.some.inj
abbrev qv:=@Option.map_eq_some_iff
abbrev qw:=@Nat.lt_of_lt_of_le
abbrev qx:=@Bool.false_ne_true
abbrev qy:=@decide_eq_true_eq
abbrev qz:=@List.length_range
abbrev r8:=@List.getElem?_set_self
abbrev rg:=@List.getElem?_set_ne
abbrev rh:=@PySem.Heap.lt_size
abbrev rj:=@Nat.le_trans
abbrev rn:=@List.mem_singleton
abbrev rz:=@List.mem_cons
abbrev se:=@PyProof.Rows.callWith_type1
abbrev sf:=@Nat.zero_add
abbrev sh:=@List.length_append
abbrev sj:=@Bool.not_true
abbrev sk:=@List.append_nil
abbrev so:=@List.length_eq_zero_iff
abbrev sq:=@List.map_cons
abbrev sr:=@decide_eq_true
abbrev su:=@beq_iff_eq
abbrev sv:=@List.mem_map
abbrev tf:=@PySem.mem_of_lookup
abbrev tj:=@beq_eq_false_iff_ne
abbrev tm:=@Nat.ne_of_lt
abbrev tw:=@List.length_take
abbrev u0:=@List.mem_append_right
abbrev u1:=@Nat.lt_irrefl
abbrev u2:=@PySem.wpAny_bind
abbrev u7:=@PySem.wpAny_pure
abbrev ua:=@PySem.wpAny_mono
abbrev ub:=@PySem.Heap.get?_push_size
abbrev uc:=@Option.map_some
abbrev ud:=@Option.bind_some
abbrev ue:=@Nat.le_succ
abbrev uf:=@List.mem_cons_self
abbrev ug:=@Nat.lt_succ_self
abbrev uh:=@List.getElem?_range
abbrev ui:=@List.length_cons
abbrev uj:=@List.map_append
abbrev uk:=@List.not_mem_nil
abbrev um:=@List.map_map
abbrev uo:=@List.getElem?_append_left
abbrev uq:=@List.getElem?_append_right
abbrev ur:=@List.mem_range
abbrev uu:=@Nat.zero_le
abbrev uv:=@List.length_reverse
abbrev uw:=@List.length_drop
abbrev ux:=@List.getElem_mem
abbrev uy:=@List.mem_append
abbrev uz:=PySem.W.Frag
abbrev v3:=PySem.FuncData
abbrev v7:=PySem.Program
abbrev v8:=PySem.Value→PySem.Shared→Prop
abbrev v9:=List (PySem.Addr×PySem.Obj)
abbrev va:=PySem.Str→Option PySem.Value
namespace L2
open PySem PySem.Spec PyProof.Rows
abbrev Key:=Sum Int Str
noncomputable def qG:Key→Value→Bool
 |.inl k,v=>Value.isInt k v
 |.inr x,v=>Value.isStrOf x v
noncomputable def aHM(w:World):Key→Int
 |.inl k=>hashInt k
 |.inr x=>hashStr w x
theorem bR:∀{k:Key} {v:Value},qG k v=true→(∃i t,k=Sum.inl i∧v=Value.int i t)∨(∃x t,k=Sum.inr x∧v=Value.str x t)
 |.inl i,v,h=>by
  obtain⟨t,e⟩:=Value.isInt_shape (k:=i) (v:=v) h;exact .inl ⟨i,t,rfl,e⟩
 |.inr x,v,h=>by
  obtain⟨t,e⟩:=Value.isStrOf_shape (x:=x) (v:=v) h;exact .inr ⟨x,t,rfl,e⟩
theorem EJ(i:Int)(t:Tok):qG (.inl i) (.int i t)=true:=by simp[qG,Value.isInt]
theorem EI(x:Str)(t:Tok):qG (.inr x) (.str x t)=true:=by simp[qG,Value.isStrOf]
theorem ZX(a b:Int):decide ((Sum.inl a:Key)=Sum.inl b)=(a == b):=by
 by_cases e:a=b
 ·subst e;simp
 ·have h:¬(Sum.inl a:Key)=Sum.inl b:=fun q=>e (Sum.inl.inj q)
  rw[qm h];exact(tj.mpr e).symm
theorem ZU(a b:Str):decide ((Sum.inr a:Key)=Sum.inr b)=decide (a=b):=by
 by_cases e:a=b
 ·subst e;simp
 ·have h:¬(Sum.inr a:Key)=Sum.inr b:=fun q=>e (Sum.inr.inj q)
  rw[qm h,qm e]
theorem ZW(a:Int)(b:Str):decide ((Sum.inl a:Key)=Sum.inr b)=false:=qm (fun q=>nomatch q)
theorem ZV(a:Str)(b:Int):decide ((Sum.inr a:Key)=Sum.inl b)=false:=qm (fun q=>nomatch q)
noncomputable def bH(prog:v7)(w:World):PySem.KeyKind prog w Key where
 is:=qG
 hash:=aHM w
 inj:=fun v a b ha hb=>by
  rcases bR ha with ⟨i,t,rfl,rfl⟩|⟨x,t,rfl,rfl⟩
  ·rcases bR hb with ⟨j,u,rfl,e⟩|⟨y,u,rfl,e⟩
   ·injection e with e1 _;rw[e1]
   ·exact nomatch e
  ·rcases bR hb with ⟨j,u,rfl,e⟩|⟨y,u,rfl,e⟩
   ·exact nomatch e
   ·injection e with e1 _;rw[e1]
 byValue:=fun k v h=>by
  rcases bR h with ⟨i,t,rfl,rfl⟩|⟨x,t,rfl,rfl⟩<;>rfl
 pyHash:=fun hv h=>by
  rcases bR hv with ⟨i,t,rfl,rfl⟩|⟨x,t,rfl,rfl⟩
  ·exact wpAny_pyHash_int h
  ·exact wpAny_pyHash_str h
 eqBool:=fun hu hv h=>by
  rcases bR hu with ⟨i,t,rfl,rfl⟩|⟨x,t,rfl,rfl⟩
  ·rcases bR hv with ⟨j,u,rfl,rfl⟩|⟨y,u,rfl,rfl⟩
   ·rw[ZX]at h;exact wpAny_eqBool_int h
   ·rw[ZW]at h;exact SeqAt.EqAt.int_str i t y u _ _ _ _ h
  ·rcases bR hv with ⟨j,u,rfl,rfl⟩|⟨y,u,rfl,rfl⟩
   ·rw[ZV]at h;exact SeqAt.EqAt.str_int x t j u _ _ _ _ h
   ·rw[ZU]at h;exact wpAny_eqBool_str h
 «strs»:=fun k x t v h=>by
  rcases bR h with ⟨i,u,rfl,e⟩|⟨y,u,rfl,e⟩
  ·exact nomatch e
  ·injection e with e1 _
   subst e1;cases v<;>rfl
theorem vO(prog:v7)(w:World)(i:Int)(t:Tok):(bH prog w).is (.inl i) (.int i t)=true:=EJ i t
theorem iP(prog:v7)(w:World)(x:Str)(t:Tok):(bH prog w).is (.inr x) (.str x t)=true:=EI x t
inductive V where
 |non|bl (b:Bool)|int (i:Int)|str (x:Str)|byt (b:Array UInt8)|flt (b:UInt64)|ref (a:Addr)|ty (n:String)
 deriving DecidableEq
noncomputable def RelV:V→Value→Prop
 |.non,u=>u=Value.none
 |.bl b,u=>u=Value.bool b
 |.int i,u=>∃t,u=Value.int i t
 |.str x,u=>∃t,u=Value.str x t
 |.byt b,u=>∃t,u=Value.bytes b t
 |.flt b,u=>∃t,u=Value.float b t
 |.ref a,u=>u=Value.ref a
 |.ty n,u=>u=Value.type n
abbrev aQ:List V→List Value→Prop:=Paired RelV
theorem aQ.length{xs:List V}{us:List Value}(r:aQ xs us):xs.length=us.length:=Paired.length r
theorem aQ.get:∀{xs:List V} {us:List Value} {i:Nat} {x:V},aQ xs us→xs[i]?=some x→∃u,us[i]?=some u∧RelV x u
 |_,_,_,_,.nil,e=>by simp at e
 |_,_,0,_,.cons r _,e=>by simp at e;subst e;exact⟨_,rfl,r⟩
 |_,_,i+1,x,.cons _ t,e=>by
  obtain⟨u,h1,h2⟩:=aQ.get (i:=i) (x:=x) t (by simpa using e)
  exact⟨u,by simpa using h1,h2⟩
theorem aQ.set{x:V}{u:Value}(r:RelV x u):∀{xs:List V} {us:List Value} (i:Nat),aQ xs us→aQ (xs.set i x) (us.set i u)
 |_,_,_,.nil=>.nil
 |_,_,0,.cons _ t=>.cons r t
 |_,_,i+1,.cons q t=>.cons q (aQ.set r i t)
theorem aQ.append:∀{xs ys:List V} {us ws:List Value},aQ xs us→aQ ys ws→aQ (xs++ys) (us++ws)
 |_,_,_,_,.nil,s=>s
 |_,_,_,_,.cons r t,s=>.cons r (aQ.append t s)
theorem aQ.take:∀{xs:List V} {us:List Value} (n:Nat),aQ xs us→aQ (xs.take n) (us.take n)
 |_,_,0,_=>.nil
 |_,_,_+1,.nil=>.nil
 |_,_,n+1,.cons r t=>.cons r (aQ.take n t)
theorem aQ.drop:∀{xs:List V} {us:List Value} (n:Nat),aQ xs us→aQ (xs.drop n) (us.drop n)
 |_,_,0,r=>r
 |_,_,_+1,.nil=>.nil
 |_,_,n+1,.cons _ t=>aQ.drop n t
noncomputable def gI:Option V→Option Value→Prop
 |some v,some u=>RelV v u
 |none,none=>True
 |_,_=>False
noncomputable def KV{κ:Type}:List (κ×V)→List (κ×Value)→Prop:=Paired fun (p:κ×V) (q:κ×Value)=>p.1=q.1∧RelV p.2 q.2
noncomputable def kV:Key→V
 |.inl i=>.int i
 |.inr x=>.str x
inductive HO where
 |lst (xs:List V)
 |tup (xs:List V)
 |dK (kvs:List (Key×V))|dT (kvs:List (List Key×V))
 |set (S:Int→Bool) (n:Nat)
 |ins (C dx:Addr) (fs:List (Str×V))
 |own (x:Addr)
 |xd (fs:List (Str×V))
 |met (f x:Addr)
 |rng (lo hi:Int)
 |frz (o:Obj) (u:HO)
 |tbl (ps:Array Value)
 |ext (φ:Heap→Prop)
abbrev Hp:=Addr→Option HO
noncomputable def upd(H:Hp)(a:Addr)(o:HO):Hp:=fun b=>if b=a then some o else H b
theorem aH{H:Hp}{a:Addr}{o:HO}:upd H a o a=some o:=by unfold upd;rw[if_pos rfl]
theorem aG{H:Hp}{a b:Addr}{o:HO}(h:b≠a):upd H a o b=H b:=by unfold upd;rw[if_neg h]
theorem aEd{H:Hp}{a b:Addr}{o u:HO}(h:H a=some o)(h':H b=some u)(d:o≠u):a≠b:=by
 intro e;subst e;rw[h]at h';exact d (qu h')
theorem aJ{H:Hp}{a b:Addr}{o:HO}(h:H a=some o)(h':H b=none):a≠b:=by
 intro e;subst e;rw[h]at h';cases h'
section
variable (P:v7)(w:World)
noncomputable def bT(H:Hp)(h:Heap)(a:Addr):HO→Prop
 |.lst xs=>xs.length≤sizeLine∧∃(its:List Value) (n:Nat),aQ xs its∧h.get? a=some { cls:=.type "list",data:=.seq its.toArray n }
 |.tup xs=>xs.length≤sizeLine∧∃its:List Value,aQ xs its∧IsTup h a its.toArray
 |.dK kvs=>kvs.length≤sizeLine∧(a == sysModules)=false∧∃vs,KV kvs vs∧h.DictOf (bH P w) a vs
 |.dT kvs=>kvs.length≤sizeLine∧(a == sysModules)=false∧∃xs:List (List Key×Addr×Value),
   Paired (fun (p:List Key×V) (q:List Key×Addr×Value)=>p.1=q.1∧H q.2.1=some (.tup (p.1.map kV))∧RelV p.2 q.2.2) kvs xs ∧
   ∃o es ep,h.get? a=some o∧o.ExactDict∧o.data=.dict es ep∧es.toList=xs.map (entryOfKey (tupleKind (bH P w)))∧(xs.map (·.1)).Nodup
 |.set S n=>h.SetOf (intKind P w) a S n
 |.ins C dx fs=>H dx=some (.own a)∧fs.length≤1000∧dx≠a∧h.get? a=some (instObj C dx) ∧
   ∃mA,h.Ns1 dx mA∧(∀f,gI (fs.lookup f) (mA f))∧PySem.Within mA (fs.map (·.1))
 |.own _=>∃o,h.get? a=some o
 |.xd fs=>∃mA,h.Ns1 a mA∧∀f,gI (fs.lookup f) (mA f)
 |.rng lo hi=>∃t u v,h.get? a=some { cls:=.type "range",data:=.fields #[.int lo t,.int hi u,.int 1 v] }
 |.frz o u=>h.get? a=some o∧bT H h a u
 |.tbl ps=>h.get? a=some { cls:=.none,data:=.fields ps }
 |.met f x=>h.get? a=some (methodObj (.ref f) (.ref x))
 |.ext φ=>φ h∧(∃o,h.get? a=some o)∧∀h1 h2:Heap,φ h1→(∀o,h1.get? a=some o→h2.get? a=some o)→φ h2
def HOk(H:Hp)(h:Heap):Prop:=∀a o,H a=some o→bT P w H h a o
end
section
variable {P:v7}{w:World}{H H':Hp}{h h':Heap}{a:Addr}{o:HO}
theorem bT.lt(x:bT P w H h a o):a<h.objs.size:=by
 cases o with
 |lst xs=>obtain⟨_,_,_,_,e⟩:=x;exact rh e
 |tup xs=>obtain⟨_,_,_,p⟩:=x;exact p.lt
 |dK kvs=>obtain⟨_,_,_,_,o,_,_,e,_⟩:=x;exact rh e
 |dT kvs=>obtain⟨_,_,_,_,o,_,_,e,_⟩:=x;exact rh e
 |set S n=>obtain⟨o,_,_,_,e,_⟩:=x;exact rh e
 |ins C dx fs=>obtain⟨_,_,_,e,_⟩:=x;exact rh e
 |own y=>obtain⟨_,e⟩:=x;exact rh e
 |xd fs=>obtain⟨_,⟨_,_,_,e,_⟩,_⟩:=x;exact rh e
 |rng lo hi=>obtain⟨_,_,_,e⟩:=x;exact rh e
 |frz ob u=>obtain⟨e,_⟩:=x;exact rh e
 |tbl ps=>exact rh (show h.get? a=some _ from x)
 |met f y=>exact rh (show h.get? a=some _ from x)
 |ext φ=>obtain⟨_,⟨_,e⟩,_⟩:=x;exact rh e
theorem Paired.mapP{α β:Type}{F G:α→β→Prop}:∀{l₁:List α} {l₂:List β},Paired F l₁ l₂→(∀a b,F a b→G a b)→Paired G l₁ l₂
 |_,_,.nil,_=>.nil
 |_,_,.cons r t,f=>.cons (f _ _ r) (Paired.mapP t f)
theorem bT.stay(x:bT P w H h a o)(k:∀b u,(b=a∨H b=some (.own a))→h.get? b=some u→h'.get? b=some u)
  (ho:∀b,H b=some (.own a)→H' b=some (.own a)) (ht:∀b xs,H b=some (.tup xs)→H' b=some (.tup xs)):bT P w H' h' a o:=by
 induction o with
 |lst xs=>obtain⟨z,its,n,r,e⟩:=x;exact⟨z,its,n,r,k _ _ (.inl rfl) e⟩
 |tup xs=>obtain⟨z,its,r,ob,e,c⟩:=x;exact⟨z,its,r,ob,k _ _ (.inl rfl) e,c⟩
 |dK kvs=>obtain⟨z,y,vs,r,ob,es,ep,e,c⟩:=x;exact⟨z,y,vs,r,ob,es,ep,k _ _ (.inl rfl) e,c⟩
 |dT kvs =>
  obtain⟨z,y,xs,r,ob,es,ep,e,c⟩:=x;exact⟨z,y,xs,Paired.mapP r fun p q z=>⟨z.1,ht _ _ z.2.1,z.2.2⟩,ob,es,ep,k _ _ (.inl rfl) e,c⟩
 |set S n=>obtain⟨ob,es,ep,t,e,c⟩:=x;exact⟨ob,es,ep,t,k _ _ (.inl rfl) e,c⟩
 |ins C dx fs =>
  obtain⟨d,z,ne,e,mA,⟨od,es,ep,e2,c⟩,r⟩:=x;exact⟨ho _ d,z,ne,k _ _ (.inl rfl) e,mA,⟨od,es,ep,k _ _ (.inr d) e2,c⟩,r⟩
 |own y=>obtain⟨ob,e⟩:=x;exact⟨ob,k _ _ (.inl rfl) e⟩
 |xd fs=>obtain⟨mA,⟨od,es,ep,e,c⟩,r⟩:=x;exact⟨mA,⟨od,es,ep,k _ _ (.inl rfl) e,c⟩,r⟩
 |rng lo hi=>obtain⟨t,u,v,e⟩:=x;exact⟨t,u,v,k _ _ (.inl rfl) e⟩
 |frz ob u ih=>obtain⟨e,q⟩:=x;exact⟨k _ _ (.inl rfl) e,ih q⟩
 |tbl ps =>
  have e:h.get? a=some { cls:=.none,data:=.fields ps }:=x
  show h'.get? a=some { cls:=.none,data:=.fields ps }
  exact k a _ (.inl rfl) e
 |met f y =>
  have e:h.get? a=some (methodObj (.ref f) (.ref y)):=x
  show h'.get? a=some (methodObj (.ref f) (.ref y))
  exact k a _ (.inl rfl) e
 |ext φ=>obtain⟨p,⟨o,e⟩,st⟩:=x;exact⟨st _ _ p fun o q=>k _ _ (.inl rfl) q,⟨o,k _ _ (.inl rfl) e⟩,st⟩
theorem HOk.lt(x:HOk P w H h)(e:H a=some o):a<h.objs.size:=(x a o e).lt
theorem HOk.fresh(x:HOk P w H h)(e:h.objs.size≤a):H a=none:=by
 cases q:H a with
 |none=>rfl
 |some u=>exact absurd (qw (x.lt q) e) (u1 _)
theorem HOk.kept(x:HOk P w H h)(k:∀b u,h.get? b=some u→h'.get? b=some u):HOk P w H h':=fun a o e =>
 (x a o e).stay (fun b u _ q=>k b u q) (fun _ q=>q) fun _ _ q=>q
theorem HOk.laid(x:HOk P w H h)(k:∀b u,h.get? b=some u→h'.get? b=some u)(hp:h.objs.size≤a)(new:bT P w (upd H a o) h' a o):HOk P w (upd H a o) h':=fun b u e=>by
 have hn:=x.fresh hp
 by_cases hb:b=a
 ·subst hb;rw[aH]at e;cases e;exact new
 ·rw[aG hb]at e;exact(x b u e).stay (fun c v _ q=>k c v q) (fun c q=>by rw[aG (aJ q hn)];exact q) fun c xs q=>by rw[aG (aJ q hn)];exact q
end
def Rd(H:Hp)(a:Addr)(u:HO):Prop:=H a=some u∨∃o,H a=some (.frz o u)
theorem Rd.ok{P:v7}{w:World}{H:Hp}{h:Heap}{a:Addr}{u:HO}(r:Rd H a u)(x:HOk P w H h):bT P w H h a u:=by
 rcases r with r|⟨o,r⟩
 ·exact x a u r
 ·obtain⟨_,q⟩:=x a _ r;exact q
noncomputable def qb:Option HO→Prop
 |some (.lst _)=>True
 |some (.dK _)=>True
 |some (.dT _)=>True
 |some (.set _ _)=>True
 |some (.ins _ _ _)=>True
 |some (.ext _)=>True
 |_=>False
section
variable {P:v7}{w:World}{H:Hp}{h h':Heap}{x e:Addr}{o':HO}
theorem HOk.write(ok:HOk P w H h)(mu:qb (H x))(he:e=x∨H e=some (.own x))(k:∀b u,b≠e→h.get? b=some u→h'.get? b=some u)(lu:∃u,h'.get? e=some u)
  (new:bT P w (upd H x o') h' x o'):HOk P w (upd H x o') h':=fun b u q=>by
 have nown:∀c y,H c=some (.own y)→c≠x:=fun c y r z=>by subst z;rw[r]at mu;exact mu
 have ntup:∀c xs,H c=some (.tup xs)→c≠x:=fun c xs r z=>by subst z;rw[r]at mu;exact mu
 by_cases hb:b=x
 ·subst hb;rw[aH]at q;cases q;exact new
 ·rw[aG hb]at q
  by_cases j9:b=e
  ·have q':H b=some (.own x):=by
    rcases he with z|z
    ·exact absurd (j9.trans z) hb
    ·rw[j9];exact z
   rw[q]at q';cases q';obtain⟨v,hv⟩:=lu;exact⟨v,by rw[j9];exact hv⟩
  ·refine(ok b u q).stay (fun c v hc r=>k c v ?_ r) (fun c r=>by rw[aG (nown c b r)];exact r) fun c xs r=>by rw[aG (ntup c xs r)];exact r
   rcases hc with rfl|hc
   ·exact j9
   ·rintro rfl
    rcases he with z|z
    ·exact nown c b hc z
    ·rw[hc]at z;cases z;exact hb rfl
end
structure Un (fs ex:List Addr) (H H':Hp) (h h':Heap):Prop where
 keep:∀b o,h.get? b=some o→H b=none→b∉fs→b∉ex→h'.get? b=some o
 slot:∀b o,h.get? b=some o→H b=none→b∈fs→b∉ex→∃sl,h'.get? b=some { o with slots:=sl }
 free:∀b o,h.get? b=some o→H b=none→b∉ex→H' b=none
 there:∀b o,h.get? b=some o→b∉ex→∃o',h'.get? b=some o'
 tups:∀b xs,H b=some (.tup xs)→H' b=some (.tup xs)
 frzs:∀b o u,H b=some (.frz o u)→H' b=some (.frz o u)
 tbls:∀b ps,H b=some (.tbl ps)→∃more,H' b=some (.tbl (ps++more))
section
variable {fs fs' ex ex':List Addr}{H H1 H2:Hp}{h h1 h2 h':Heap}{a x e:Addr}{o:HO}
theorem Un.any(u:Un fs ex H H1 h h1){b:Addr}{ob:Obj}(q:h.get? b=some ob)(n:H b=none)(hx:b∉ex):∃sl,h1.get? b=some { ob with slots:=sl }:=by
 by_cases hb:b∈fs
 ·exact u.slot b ob q n hb hx
 ·exact⟨ob.slots,u.keep b ob q n hb hx⟩
theorem Un.kept(k:∀b u,h.get? b=some u→h'.get? b=some u):Un fs ex H H h h':=
 ⟨fun b ob q _ _ _=>k b ob q,fun b ob q _ _ _=>⟨ob.slots,k b ob q⟩,fun _ _ _ n _=>n,fun b ob q _=>⟨ob,k b ob q⟩,fun _ _ q=>q,fun _ _ _ q=>q,fun _ ps q=>⟨#[],by rw[q];simp⟩⟩
theorem Un.refl:Un fs ex H H h h:=Un.kept fun _ _ q=>q
theorem Un.laid(k:∀b u,h.get? b=some u→h'.get? b=some u)(hp:h.objs.size≤a)(hn:H a=none):Un fs ex H (upd H a o) h h' where
 keep:=fun b u q _ _ _=>k b u q
 slot:=fun b u q _ _ _=>⟨u.slots,k b u q⟩
 free:=fun b u q n _=>by rw[aG (tm (qw (rh q) hp))];exact n
 there:=fun b u q _=>⟨u,k b u q⟩
 tups:=fun b xs q=>by rw[aG (aJ q hn)];exact q
 frzs:=fun b u xs q=>by rw[aG (aJ q hn)];exact q
 tbls:=fun b ps q=>⟨#[],by rw[aG (aJ q hn),q];simp⟩
theorem Un.write(mu:qb (H x))(he:e=x∨H e=some (.own x))(k:∀b u,b≠e→h.get? b=some u→h'.get? b=some u)(lu:∃u,h'.get? e=some u):Un fs ex H (upd H x o) h h':=by
 have hx:∀b,H b=none→b≠x:=fun b n z=>by subst z;rw[n]at mu;exact mu
 have hb:∀b,H b=none→b≠e:=fun b n z=>by
  subst z
  rcases he with r|r
  ·exact hx b n r
  ·rw[n]at r;cases r
 have hm:∀b u,H b=some u→¬qb (some u)→b≠x:=fun b u q nm z=>by subst z;rw[q]at mu;exact nm mu
 refine⟨fun b u q n _ _=>k b u (hb b n) q,fun b u q n _ _=>⟨u.slots,k b u (hb b n) q⟩,fun b u q n _=>by rw[aG (hx b n)];exact n,fun b u q _=>?_,
  fun b xs q=>by rw[aG (hm b _ q fun z=>z)];exact q,fun b u xs q=>by rw[aG (hm b _ q fun z=>z)];exact q,fun b ps q=>⟨#[],by rw[aG (hm b _ q fun z=>z),q];simp⟩⟩
 by_cases j9:b=e
 ·subst j9;exact lu
 ·exact⟨u,k b u j9 q⟩
end
noncomputable def trk(h:Heap)(H:Hp):List Addr:=(List.range h.objs.size).filter fun a=>(H a).isSome
noncomputable def sT(h:Heap)(H:Hp):Heap:=hideAll h (trk h H)
theorem EO(h:Heap)(H:Hp):(sT h H).objs.size=h.objs.size:=PySem.W.hideAll_size _ _
theorem JO{h:Heap}{H:Hp}{b:Addr}{o:Obj}(e:h.get? b=some o)(n:H b=none):(sT h H).get? b=some o:=
 PySem.W.hideAll_get _ e fun hm=>by
  have q:(H b).isSome=true:=(mem_filter.mp hm).2
  rw[n]at q;simp at q
theorem QD{h:Heap}{H:Hp}{b:Addr}{o:Obj}(e:(sT h H).get? b=some o):h.get? b=some o∧H b=none:=by
 have e':h.get? b=some o:=PySem.W.of_hideAll (trk h H) e
 refine⟨e',?_⟩;cases q:H b with
 |none=>rfl
 |some x =>
  have hm:b∈trk h H:=mem_filter.mpr ⟨ur.mpr (rh e'),by simp[q]⟩
  have z:(sT h H).get? b=none:=PySem.W.hideAll_none (trk h H) hm
  rw[z]at e;cases e
noncomputable def SS(g h:Heap)(L:Addr):List (Addr×Obj):=(List.range h.objs.size).filterMap fun a=>if a=L∨(g.get? a).isSome=true then none else(h.get? a).map fun o=>(a,o)
noncomputable def rest(g h:Heap)(L d:Addr):List (Addr×Obj):=(SS g h L).filter fun p=>decide (p.1≠d)
structure Mod (K:uz) (mg:va) (base:Heap):Prop where
 kin:K.In base
 glob:base.Ns mainGlobals mg
 blt:∃mb,base.Ns builtinsNs mb∧∀x:Str,x≠"__name__"→mb x=bootBuiltins x
 nolimit:base.NoLimit
structure Cx where
 prog:v7
 w:World
 K:uz
 mg:Str→Option Value
 base:Heap
 A:Around
 N:List Str
 s₀:Shared
 H₀:Hp
 env:Env
 outer:List Env
 stack:List Env
 ex:List Addr
 fn:Str→Bool
 calm:Bool
 pn:List (Addr×Obj)
 xe:Value→Shared→Prop
noncomputable def frs(l:List Env):List Addr:=l.filterMap (·.frame)
abbrev Cx.fs(X:Cx):List Addr:=frs X.outer
def Vis(sc:Scope)(x:Str):Prop:=sc.names.lookup x=some .local∨sc.names.lookup x=some .cell∨sc.names.lookup x=some .free
def Loc(sc:Scope)(x:Str):Prop:=sc.names.lookup x=some .local∨sc.names.lookup x=some .cell
def Look(env:Env)(h:Heap)(m:va)(x:Str)(u:Value):Prop:=
 (env.kindOf x=some .local∧m x=some u)∨((env.kindOf x=some .cell∨env.kindOf x=some .free)∧∃c,env.cells.lookup x=some c∧h.IsCell c (some u))
structure Cx.Ok (X:Cx):Prop where
 mod:Mod X.K X.mg X.base
 kind:X.env.scope.kind=.function
 glob:X.env.globals=mainGlobals
 blt:X.env.builtins=builtinsNs
 above:X.s₀.heap.objs.size≤X.env.locals
 inj:∀x y c,X.env.cells.lookup x=some c→X.env.cells.lookup y=some c→x=y
 has:∀x,(X.env.kindOf x=some .cell∨X.env.kindOf x=some .free)→∃c,X.env.cells.lookup x=some c
 cab:∀x c,X.fn x=true→X.env.cells.lookup x=some c→X.s₀.heap.objs.size≤c
 hd:X.calm=true→X.A.handled=none
 frames:X.A.frames=some X.stack
 stk:X.stack=X.outer∨(X.stack=X.env::X.outer∧X.env.frame=some X.env.locals)
 exf:∀b∈X.ex,b≠X.env.locals∧∀x c,X.env.cells.lookup x=some c→c≠b
 bs:∀b o,X.base.get? b=some o→X.s₀.heap.get? b=some o∧X.H₀ b=none
 bsz:X.base.objs.size≤X.s₀.heap.objs.size
 noex:∀b o,X.base.get? b=some o→b∉X.ex
 exfs:∀b∈X.ex,b∉X.fs
 funs:X.s₀.heap.FunFrames X.base X.outer
 frf:∀b∈X.fs,X.H₀ b=none
structure Inv (X:Cx) (pins:v9) (σ:List (Option V)) (H:Hp) (s:Shared):Prop where
 ok:X.Ok
 os:s.os=X.s₀.os
 bare:AllBare s.gens
 base:Un X.fs X.ex X.H₀ H X.s₀.heap s.heap
 loc:∃m,s.heap.Ns X.env.locals m∧∀(i:Nat) (x:Str) (v:V),X.N[i]?=some x→σ[i]?=some (some v)→Vis X.env.scope x→∃u,RelV v u∧Look X.env s.heap m x u
 cell:∀x c,X.env.cells.lookup x=some c→∃v,s.heap.IsCell c v
 free:H X.env.locals=none
 freeC:∀x c,X.env.cells.lookup x=some c→H c=none
 pin:∀p∈X.pn++pins,s.heap.get? p.1=some p.2∧H p.1=none∧p.1≠X.env.locals∧p.1∉X.fs∧∀v,p.2.data≠.cell v
 hok:HOk X.prog X.w H s.heap
 len:σ.length=X.N.length
section
variable {X:Cx}{pins:v9}{σ:List (Option V)}{H H':Hp}{s:Shared}{h':Heap}
theorem Cx.Ok.nofr(ok:X.Ok){b:Addr}{o:Obj}(e:X.base.get? b=some o):b∉X.fs:=fun hb=>by
 have:=(ok.funs.mem hb).1
 rw[e]at this;cases this
theorem Inv.bs(I:Inv X pins σ H s):∀b o,X.base.get? b=some o→s.heap.get? b=some o∧H b=none:=fun b o e =>
 ⟨I.base.keep b o (I.ok.bs b o e).1 (I.ok.bs b o e).2 (I.ok.nofr e) (I.ok.noex b o e),I.base.free b o (I.ok.bs b o e).1 (I.ok.bs b o e).2 (I.ok.noex b o e)⟩
theorem Inv.bk(I:Inv X pins σ H s):∀b o,X.base.get? b=some o→s.heap.get? b=some o:=fun b o e=>(I.bs b o e).1
theorem Inv.mod(I:Inv X pins σ H s):Mod X.K X.mg X.base:=I.ok.mod
theorem Inv.kIn(I:Inv X pins σ H s):X.K.In s.heap:=I.ok.mod.kin.keeps I.bk
theorem Inv.lt(I:Inv X pins σ H s):X.env.locals<s.heap.objs.size:=let ⟨_,hn,_⟩:=I.loc;hn.lt
theorem Inv.sz(I:Inv X pins σ H s):X.s₀.heap.objs.size≤s.heap.objs.size:=rj I.ok.above (le_of_lt I.lt)
theorem Inv.nofs(I:Inv X pins σ H s){a:Addr}(h:s.heap.objs.size≤a):a∉X.fs:=fun hb=>by
 obtain⟨_,o,ho,_⟩:=I.ok.funs.mem hb;exact absurd (qw (rh ho) (rj I.sz h)) (u1 _)
theorem Inv.cne(I:Inv X pins σ H s):∀x c,X.env.cells.lookup x=some c→c≠X.env.locals:=fun x c e z=>by
 obtain⟨v,o,ho,hd⟩:=I.cell x c e;obtain⟨m,⟨o',es,ep,gb,hd',_⟩,_⟩:=I.loc;rw[z,gb]at ho;cases ho;rw[hd']at hd;cases hd
theorem Inv.funs(I:Inv X pins σ H s):s.heap.FunFrames X.base X.outer:=by
 have all:∀(l:List Env),(∀b∈frs l,b∈X.fs)→X.s₀.heap.FunFrames X.base l→s.heap.FunFrames X.base l:=by
  intro l
  induction l with
  |nil=>intro _ _;trivial
  |cons env r ih =>
   intro hs hl;obtain⟨hk,⟨L,o,hf,hn,ho,hd⟩,hr⟩:=hl;have hL:L∈X.fs:=hs L (by unfold frs;rw[List.filterMap_cons,hf];exact uf)
   obtain⟨sl,e⟩:=I.base.slot L o ho (I.ok.frf L hL) hL fun z=>I.ok.exfs L z hL
   exact⟨hk,⟨L,_,hf,hn,e,hd⟩,ih (fun b hb=>hs b (by unfold frs;rw[List.filterMap_cons,hf];exact qq _ hb)) hr⟩
 exact all X.outer (fun _ hb=>hb) I.ok.funs
theorem Inv.stack(I:Inv X pins σ H s):s.heap.FunFrames X.base X.stack:=by
 rcases I.ok.stk with e|⟨e,hf⟩
 ·rw[e];exact I.funs
 ·rw[e];obtain⟨m,hn,_⟩:=I.loc;refine .cons (by rw[I.ok.kind];decide) hf hn ?_ I.funs
  exact Heap.get?_none_of_le (rj I.ok.bsz I.ok.above)
theorem Inv.stkSub(I:Inv X pins σ H s):∀b∈frs X.stack,b∈X.env.locals::X.fs:=fun b hb=>by
 rcases I.ok.stk with e|⟨e,hf⟩
 ·rw[e]at hb;exact qq _ hb
 ·rw[e]at hb;unfold frs at hb;rw[List.filterMap_cons,hf]at hb;exact hb
theorem Inv.stkFree(I:Inv X pins σ H s):∀b∈frs X.stack,H b=none:=fun b hb=>by
 rcases rz.mp (I.stkSub b hb) with e|hb
 ·rw[e];exact I.free
 ·obtain⟨_,o,ho,_⟩:=I.ok.funs.mem hb;exact I.base.free b o ho (I.ok.frf b hb) fun z=>I.ok.exfs b z hb
theorem Inv.step{g':Array GenState}{t':Nat}{d':Drawn}{ch:List Addr}(I:Inv X pins σ H s)
  (ic:∀b∈ch,(b∈X.ex∨X.s₀.heap.objs.size≤b)∧b≠X.env.locals∧(∀x c,X.env.cells.lookup x=some c→c≠b)∧∀p∈X.pn++pins,p.1≠b)
  (keep:∀b o,b≠X.env.locals→b∉X.fs→b∉ch→s.heap.get? b=some o→H b=none→h'.get? b=some o)
  (slot:∀b o,b≠X.env.locals→b∈X.fs→b∉ch→s.heap.get? b=some o→H b=none→∃sl,h'.get? b=some { o with slots:=sl }) (free:∀b o,b∉ch→s.heap.get? b=some o→H b=none→H' b=none)
  (there:∀b o,b∉ch→s.heap.get? b=some o→∃o',h'.get? b=some o')
  (tups:∀b xs,H b=some (.tup xs)→H' b=some (.tup xs)) (frzs:∀b o u,H b=some (.frz o u)→H' b=some (.frz o u)) (tbls:∀b ps,H b=some (.tbl ps)→∃more,H' b=some (.tbl (ps++more)))
  (ns:∀m,s.heap.Ns X.env.locals m→h'.Ns X.env.locals m) (hok:HOk X.prog X.w H' h') (hg:AllBare g') :
  Inv X pins σ H' { s with heap:=h',gens:=g',drawn:=d',toks:=t' }:=by
 have neL:∀b o,X.s₀.heap.get? b=some o→b≠X.env.locals:=fun b o e=>tm (qw (rh e) I.ok.above)
 have neC:∀b o,X.s₀.heap.get? b=some o→b∉X.ex→b∉ch:=fun b o e hx hb=>by
  rcases (ic b hb).1 with z|z
  ·exact hx z
  ·exact absurd (qw (rh e) z) (u1 _)
 have cellK:∀x c,X.env.cells.lookup x=some c→∀v,s.heap.IsCell c v→h'.IsCell c v:=fun x c e v ⟨o,ho,hd⟩=>by
  have ni:c∉ch:=fun z=>(ic c z).2.2.1 x c e rfl
  by_cases hc:c∈X.fs
  ·obtain⟨sl,q⟩:=slot c o (I.cne x c e) hc ni ho (I.freeC x c e);exact⟨_,q,hd⟩
  ·exact⟨o,keep c o (I.cne x c e) hc ni ho (I.freeC x c e),hd⟩
 refine⟨I.ok,I.os,hg,⟨fun b o e n hb hx=>?_,fun b o e n hb hx=>?_,fun b o e n hx=>?_,fun b o e hx=>?_,fun b xs e=>tups b xs (I.base.tups b xs e),fun b o xs e=>frzs b o xs (I.base.frzs b o xs e),fun b ps e=>?_⟩,?_,fun x c e=>?_,?_,fun x c e=>?_,fun p hp=>?_,hok,I.len⟩
 ·exact keep b o (neL b o e) hb (neC b o e hx) (I.base.keep b o e n hb hx) (I.base.free b o e n hx)
 ·obtain⟨sl,e1⟩:=I.base.slot b o e n hb hx;obtain⟨sl',e2⟩:=slot b _ (neL b o e) hb (neC b o e hx) e1 (I.base.free b o e n hx);exact⟨sl',e2⟩
 ·obtain⟨o',e1⟩:=I.base.there b o e hx;exact free b o' (neC b o e hx) e1 (I.base.free b o e n hx)
 ·obtain⟨o',e1⟩:=I.base.there b o e hx;exact there b o' (neC b o e hx) e1
 ·obtain⟨m1,e1⟩:=I.base.tbls b ps e;obtain⟨m2,e2⟩:=tbls b _ e1;exact⟨m1++m2,by rw[e2,Array.append_assoc]⟩
 ·obtain⟨m,hn,hl⟩:=I.loc;refine⟨m,ns m hn,fun i x v e1 e2 e3=>?_⟩
  obtain⟨u,r,l⟩:=hl i x v e1 e2 e3;refine⟨u,r,?_⟩
  rcases l with l|⟨k,c,e,z⟩
  ·exact .inl l
  ·exact .inr ⟨k,c,e,cellK x c e _ z⟩
 ·obtain⟨v,z⟩:=I.cell x c e;exact⟨v,cellK x c e v z⟩
 ·obtain⟨m,⟨o,_,_,ho,_⟩,_⟩:=I.loc;exact free _ o (fun z=>(ic _ z).2.1 rfl) ho I.free
 ·obtain⟨v,o,ho,hd⟩:=I.cell x c e;exact free c o (fun z=>(ic c z).2.2.1 x c e rfl) ho (I.freeC x c e)
 ·obtain⟨e,n,ne,nf,d⟩:=I.pin p hp;have ni:p.1∉ch:=fun z=>(ic p.1 z).2.2.2 p hp rfl
  exact⟨keep p.1 p.2 ne nf ni e n,free p.1 p.2 ni e n,ne,nf,d⟩
theorem Inv.un{t':Nat}(I:Inv X pins σ H s)(u:Un X.fs [] H H' s.heap h')(hok:HOk X.prog X.w H' h'):Inv X pins σ H' { s with heap:=h',toks:=t' }:=by
 obtain⟨m,⟨o,es,ep,ho,r⟩,_⟩:=id I.loc;obtain⟨sl,hL⟩:=u.any ho I.free (by simp)
 exact I.step (g':=s.gens) (d':=s.drawn) (ch:=[]) (fun _ z=>nomatch z) (fun b o _ hb _ e n=>u.keep b o e n hb (by simp)) (fun b o _ hb _ e n=>u.slot b o e n hb (by simp)) (fun b o _ e n=>u.free b o e n (by simp)) (fun b o _ e=>u.there b o e (by simp)) u.tups u.frzs u.tbls (fun m' hm=>by
  obtain⟨o',gw,ep',gb,r'⟩:=hm;rw[ho]at gb;cases gb;exact⟨_,gw,ep',hL,r'⟩) hok I.bare
theorem Inv.call{g':Array GenState}{t':Nat}{d':Drawn}{ch:List Addr}(I:Inv X pins σ H s)(u:Un (frs X.stack) ch H H' s.heap h')(hok:HOk X.prog X.w H' h')(hg:AllBare g')
  (ic:∀b∈ch,(b∈X.ex∨X.s₀.heap.objs.size≤b)∧b≠X.env.locals∧(∀x c,X.env.cells.lookup x=some c→c≠b)∧∀p∈X.pn++pins,p.1≠b) :
  Inv X pins σ H' { s with heap:=h',gens:=g',drawn:=d',toks:=t' }:=by
 obtain⟨m,⟨o,es,ep,ho,r⟩,_⟩:=id I.loc;obtain⟨sl,hL⟩:=u.any ho I.free fun z=>(ic _ z).2.1 rfl
 exact I.step (ch:=ch) ic (fun b o hL hb hc e n=>u.keep b o e n (fun z=>(rz.mp (I.stkSub b z)).elim hL hb) hc) (fun b o _ _ hc e n=>u.any e n hc) (fun b o hc e n=>u.free b o e n hc) (fun b o hc e=>u.there b o e hc) u.tups u.frzs u.tbls (fun m' hm=>by
  obtain⟨o',gw,ep',gb,r'⟩:=hm;rw[ho]at gb;cases gb;exact⟨_,gw,ep',hL,r'⟩) hok hg
theorem Inv.turned{t':Nat}{it:Addr}(I:Inv X pins σ H s)(k:∀b o,b≠it→s.heap.get? b=some o→h'.get? b=some o)(hn:H it=none)(hL:it≠X.env.locals)
  (h1:it∈X.ex∨X.s₀.heap.objs.size≤it) (h2:∀x c,X.env.cells.lookup x=some c→c≠it) (h3:∀p∈X.pn++pins,p.1≠it):Inv X pins σ H { s with heap:=h',toks:=t' }:=by
 have nit:∀b u,H b=some u→b≠it:=fun b u e z=>by rw[z,hn]at e;cases e
 refine I.step (g':=s.gens) (d':=s.drawn) (ch:=[it]) (fun b hb=>?_) (fun b o _ _ hc e _=>k b o (fun z=>hc (by simp[z])) e) (fun b o _ _ hc e _=>⟨o.slots,k b o (fun z=>hc (by simp[z])) e⟩) (fun _ _ _ _ n=>n)
  (fun b o hc e=>⟨o,k b o (fun z=>hc (by simp[z])) e⟩) (fun _ _ e=>e) (fun _ _ _ e=>e) (fun b ps e=>⟨#[],by rw[e];simp⟩) (fun m hm=>?_) (fun b u e=>?_) I.bare
 ·have e:b=it:=by simpa using hb
  subst e;exact⟨h1,hL,h2,h3⟩
 ·obtain⟨o,es,ep,ho,r⟩:=hm;exact⟨o,es,ep,k _ o (Ne.symm hL) ho,r⟩
 ·refine(I.hok b u e).stay (fun c v hc q=>k c v ?_ q) (fun _ q=>q) fun _ _ q=>q
  rcases hc with z|z
  ·rw[z];exact nit b u e
  ·exact nit c _ z
theorem Inv.tok(I:Inv X pins σ H s)(t:Nat):Inv X pins σ H { s with toks:=t }:=I.un (h':=s.heap) (t':=t) Un.refl I.hok
theorem Inv.kept{t':Nat}(I:Inv X pins σ H s)(k:∀b u,s.heap.get? b=some u→h'.get? b=some u):Inv X pins σ H { s with heap:=h',toks:=t' }:=I.un (Un.kept k) (I.hok.kept k)
theorem Inv.laid{a:Addr}{o:HO}{t':Nat}(I:Inv X pins σ H s)(k:∀b u,s.heap.get? b=some u→h'.get? b=some u)(hp:s.heap.objs.size≤a)(new:bT X.prog X.w (upd H a o) h' a o) :
  Inv X pins σ (upd H a o) { s with heap:=h',toks:=t' }:=I.un (Un.laid k hp (I.hok.fresh hp)) (I.hok.laid k hp new)
theorem Inv.write{x e:Addr}{o:HO}{t':Nat}(I:Inv X pins σ H s)(mu:qb (H x))(he:e=x∨H e=some (.own x))(k:∀b u,b≠e→s.heap.get? b=some u→h'.get? b=some u)(lu:∃u,h'.get? e=some u)
  (new:bT X.prog X.w (upd H x o) h' x o):Inv X pins σ (upd H x o) { s with heap:=h',toks:=t' }:=I.un (Un.write mu he k lu) (I.hok.write mu he k lu new)
theorem Inv.pins_of{cu:v9}(I:Inv X pins σ H s)(h:∀p∈cu,s.heap.get? p.1=some p.2∧H p.1=none∧p.1≠X.env.locals∧p.1∉X.fs∧∀v,p.2.data≠.cell v):Inv X cu σ H s:=
 ⟨I.ok,I.os,I.bare,I.base,I.loc,I.cell,I.free,I.freeC,fun p hp=>(uy.mp hp).elim (fun z=>I.pin p (List.mem_append_left _ z)) (h p),I.hok,I.len⟩
theorem vL{N:List Str}(hN:N.Nodup){i j:Nat}{x:Str}(a:N[i]?=some x)(b:N[j]?=some x):i=j:=by
 obtain⟨h1,e1⟩:=q9.mp a;obtain⟨h2,e2⟩:=q9.mp b;exact(List.getElem_inj hN).mp (e1.trans e2.symm)
theorem pW{M:Model}{A:Around}{E:v8}{i:Nat}{x:Str}{v:V}{u:Value}{Q:Unit→Shared→Prop}(I:Inv X pins σ H s)(hN:X.N.Nodup)(hi:X.N[i]?=some x)(hx:Loc X.env.scope x)(r:RelV v u)
  (h:∀s',Inv X pins (σ.set i (some v)) H s'→(∃a,Heap.SameBut a s.heap s'.heap∧(a=X.env.locals∨X.env.cells.lookup x=some a))→Q () s') (hf:X.fn x=true∨X.env.scope.names.lookup x=some .local:=by first|exact .inl rfl|exact .inr rfl|assumption):wpAny M A (storeName X.env x u) Q E s:=by
 obtain⟨m,hn,hl⟩:=id I.loc;have gm:(X.env.scope.kind == .class || (X.env.scope.kind == .module&&X.env.locals != X.env.globals))=false:=by rw[I.ok.kind];rfl
 have hiσ:i<σ.length:=by rw[I.len];exact(q9.mp hi).1
 have cne:=I.cne
 have tracked:∀{a:Addr} {h':Heap},(∃o,s.heap.get? a=some o∧H a=none)→Heap.SameBut a s.heap h'→HOk X.prog X.w H h':=fun {a h'} ha hs b ob e=>by
  obtain⟨_,_,hfree⟩:=ha;refine(I.hok b ob e).stay (fun c w' hc q=>(hs.2 c ?_).trans q) (fun _ q=>q) fun _ _ q=>q
  rintro rfl
  rcases hc with rfl|hc
  ·rw[hfree]at e;cases e
  ·rw[hfree]at hc;cases hc
 rcases hx with hk|hk
 ·refine wpAny_storeName_local hk hn (fun h' jj hs=>?_) gm
  obtain⟨oL,_,_,hoL,_⟩:=id hn;refine h _ ⟨I.ok,I.os,I.bare,⟨fun b o e n hb hx=>?_,fun b o e n hb hx=>?_,I.base.free,fun b o e hx=>?_,I.base.tups,I.base.frzs,I.base.tbls⟩,⟨_,jj,fun j y v' e1 e2 e3=>?_⟩,fun y c e=>?_,I.free,I.freeC,fun p hp=>?_,tracked ⟨oL,hoL,I.free⟩ hs,by simpa using I.len⟩ ⟨_,hs,.inl rfl⟩
  ·exact(hs.2 b (tm (qw (rh e) I.ok.above))).trans (I.base.keep b o e n hb hx)
  ·obtain⟨sl,e1⟩:=I.base.slot b o e n hb hx;exact⟨sl,(hs.2 b (tm (qw (rh e) I.ok.above))).trans e1⟩
  ·obtain⟨o',e1⟩:=I.base.there b o e hx;exact⟨o',(hs.2 b (tm (qw (rh e) I.ok.above))).trans e1⟩
  ·by_cases hj:j=i
   ·subst hj;rw[hi]at e1;cases e1;rw[r8 hiσ]at e2;cases e2;exact⟨u,r,.inl ⟨hk,by simp⟩⟩
   ·rw[rg (Ne.symm hj)]at e2;obtain⟨u',r',q⟩:=hl j y v' e1 e2 e3;refine⟨u',r',?_⟩
    rcases q with ⟨k,e⟩|⟨k,c,e,z⟩
    ·refine .inl ⟨k,?_⟩;have:y≠x:=fun e=>hj (vL hN e1 (e ▸ hi))
     simp[this,e]
    ·exact .inr ⟨k,c,e,z.sameBut hs (cne y c e)⟩
  ·obtain⟨w',z⟩:=I.cell y c e;exact⟨w',z.sameBut hs (cne y c e)⟩
  ·obtain⟨e,n,ne,nf,d⟩:=I.pin p hp;exact⟨(hs.2 p.1 ne).trans e,n,ne,nf,d⟩
 ·have ed:X.fn x=true:=by
   rcases hf with z|z
   ·exact z
   ·rw[z]at hk;cases hk
  obtain⟨c,hc⟩:=I.ok.has x (.inl hk);obtain⟨w',z⟩:=I.cell x c hc;refine wpAny_storeName_cell I.ok.kind hk hc z (fun h' lx hs=>?_)
  obtain⟨oc,lj,hocd⟩:=id z;refine h { s with heap:=h' } ⟨I.ok,I.os,I.bare,⟨fun b o e n hb hx=>?_,fun b o e n hb hx=>?_,I.base.free,fun b o e hx=>?_,I.base.tups,I.base.frzs,I.base.tbls⟩,⟨m,hn.sameBut hs (Ne.symm (cne x c hc)),fun j y v' e1 e2 e3=>?_⟩,fun y c' e=>?_,I.free,I.freeC,fun p hp=>?_,tracked ⟨oc,lj,I.freeC x c hc⟩ hs,by simpa using I.len⟩ ⟨c,hs,.inr hc⟩
  ·exact(hs.2 b (tm (qw (rh e) (I.ok.cab x c ed hc)))).trans (I.base.keep b o e n hb hx)
  ·obtain⟨sl,e1⟩:=I.base.slot b o e n hb hx;exact⟨sl,(hs.2 b (tm (qw (rh e) (I.ok.cab x c ed hc)))).trans e1⟩
  ·obtain⟨o',e1⟩:=I.base.there b o e hx;exact⟨o',(hs.2 b (tm (qw (rh e) (I.ok.cab x c ed hc)))).trans e1⟩
  ·by_cases hj:j=i
   ·subst hj;rw[hi]at e1;cases e1;rw[r8 hiσ]at e2;cases e2;exact⟨u,r,.inr ⟨.inl hk,c,hc,lx⟩⟩
   ·rw[rg (Ne.symm hj)]at e2;obtain⟨u',r',q⟩:=hl j y v' e1 e2 e3;refine⟨u',r',?_⟩
    rcases q with q|⟨k,c',e,z'⟩
    ·exact .inl q
    ·refine .inr ⟨k,c',e,z'.sameBut hs ?_⟩;rintro rfl;exact hj (vL hN e1 (I.ok.inj _ _ _ e hc ▸ hi))
  ·by_cases hcc:c'=c
   ·subst hcc;exact⟨_,lx⟩
   ·obtain⟨w2,z2⟩:=I.cell y c' e;exact⟨w2,z2.sameBut hs hcc⟩
  ·obtain⟨e,n,ne,nf,d⟩:=I.pin p hp;refine⟨(hs.2 p.1 ?_).trans e,n,ne,nf,d⟩;intro q;rw[q,lj]at e;have q':oc=p.2:=qu e
   exact d w' (by rw[←q'];exact hocd)
theorem nJ{M:Model}{A:Around}{E:v8}{i:Nat}{x:Str}{v:V}{u:Value}{Q:Unit→Shared→Prop}(I:Inv X pins σ H s)(hN:X.N.Nodup)(hi:X.N[i]?=some x)(hx:Loc X.env.scope x)(r:RelV v u)
  (h:∀s',Inv X pins (σ.set i (some v)) H s'→Q () s') (hf:X.fn x=true∨X.env.scope.names.lookup x=some .local:=by first|exact .inl rfl|exact .inr rfl|assumption):wpAny M A (storeName X.env x u) Q E s:=
 pW I hN hi hx r (fun s' I' _=>h s' I') hf
theorem Inv.call'{s':Shared}{ch:List Addr}(I:Inv X pins σ H s)(ho:s'.os=s.os)(u:Un (frs X.stack) ch H H' s.heap s'.heap)(hok:HOk X.prog X.w H' s'.heap)(hg:AllBare s'.gens)
  (ic:∀b∈ch,(b∈X.ex∨X.s₀.heap.objs.size≤b)∧b≠X.env.locals∧(∀x c,X.env.cells.lookup x=some c→c≠b)∧∀p∈X.pn++pins,p.1≠b):Inv X pins σ H' s':=by
 obtain⟨h',g',d',t',o'⟩:=s';have e:o'=s.os:=ho
 subst e;exact I.call (g':=g') (t':=t') (d':=d') u hok hg ic
end
abbrev XK:=Value→Option Addr→Hp→Prop
abbrev St:=List (Option V)
abbrev VK:=V→Hp→Prop
abbrev TE:=St→Hp→VK→Prop
abbrev TT:=St→Hp→(Bool→Hp→Prop)→Prop
abbrev TA:=St→Hp→(List V→Hp→Prop)→Prop
structure Ends where
 nx:St→Hp→Prop
 rt:VK
 bk:St→Hp→Prop:=fun _ _=>False
 ct:St→Hp→Prop:=fun _ _=>False
abbrev TS:=Ends→St→Hp→Prop
def EP(X:Cx)(pins:v9)(σ:St)(Q:VK)(u:Value)(s':Shared):Prop:=∃v H',Inv X pins σ H' s'∧RelV v u∧Q v H'
def TP(X:Cx)(pins:v9)(σ:St)(Q:Bool→Hp→Prop)(b:Bool)(s':Shared):Prop:=∃H',Inv X pins σ H' s'∧Q b H'
def AP(X:Cx)(pins:v9)(σ:St)(Q:List V→Hp→Prop)(us:List Value)(s':Shared):Prop:=∃vs H',Inv X pins σ H' s'∧aQ vs us∧Q vs H'
def SP(X:Cx)(pins:v9)(D:Ends)(f:Flow)(s':Shared):Prop:=
 match f with
 |.next=>∃σ' H',Inv X pins σ' H' s'∧D.nx σ' H'
 |.brk=>∃σ' H',Inv X pins σ' H' s'∧D.bk σ' H'
 |.cont=>∃σ' H',Inv X pins σ' H' s'∧D.ct σ' H'
 |.ret u=>∃v σ' H',Inv X pins σ' H' s'∧RelV v u∧D.rt v H'
def PE(X:Cx)(e:Expr)(t:TE):Prop:=
 ∀(pins:v9) (s:Shared) (σ:St) (H:Hp) (Q:VK),Inv X pins σ H s→t σ H Q→wpAny (model X.prog X.w) X.A (eval e X.env) (EP X pins σ Q) X.xe s
def PT(X:Cx)(e:Expr)(t:TT):Prop:=
 ∀(pins:v9) (s:Shared) (σ:St) (H:Hp) (Q:Bool→Hp→Prop),Inv X pins σ H s→t σ H Q→wpAny (model X.prog X.w) X.A (isTrue e X.env (eval e X.env)) (TP X pins σ Q) X.xe s
def PW(X:Cx)(e:Expr)(t:TT):Prop:=
 ∀(whole:Sem Value) (pins:v9) (s:Shared) (σ:St) (H:Hp) (Q:Bool→Hp→Prop),Inv X pins σ H s→t σ H Q→wpAny (model X.prog X.w) X.A (isTrue e X.env whole) (TP X pins σ Q) X.xe s
theorem PW.pt{X:Cx}{e:Expr}{t:TT}(h:PW X e t):PT X e t:=h _
def PA(X:Cx)(es:List Expr)(t:TA):Prop:=
 ∀(pos:Pos) (pins:v9) (s:Shared) (σ:St) (H:Hp) (Q:List V→Hp→Prop),Inv X pins σ H s→t σ H Q→wpAny (model X.prog X.w) X.A (spliced (backTo pos (starEach es X.env))) (AP X pins σ Q) X.xe s
def PS(X:Cx)(st:Stmt)(t:TS):Prop:=
 ∀(pins:v9) (s:Shared) (σ:St) (H:Hp) (D:Ends),Inv X pins σ H s→t D σ H→wpAny (model X.prog X.w) X.A (exec st X.env) (SP X pins D) X.xe s
def PSs(X:Cx)(st:List Stmt)(t:TS):Prop:=
 ∀(pins:v9) (s:Shared) (σ:St) (H:Hp) (D:Ends),Inv X pins σ H s→t D σ H→wpAny (model X.prog X.w) X.A (execs st X.env) (SP X pins D) X.xe s
theorem ae{α:Type}{t:Sem α}{Q Q':α→Shared→Prop}{M:Model}{A:Around}{E:v8}{s:Shared}(h:wpAny M A t Q E s)(hQ:∀a s,Q a s→Q' a s):wpAny M A t Q' E s:=ua h hQ fun _ _ x=>x
section
variable {X:Cx}
theorem bin{a b:Expr}{ta tb:TE}(ha:PE X a ta)(hb:PE X b tb){pins:v9}{s:Shared}{σ:St}{H:Hp}{R:V→V→Hp→Prop}(I:Inv X pins σ H s)(h:ta σ H fun x H1=>tb σ H1 fun y H2=>R x y H2)
  {α:Type} {Q:α→Shared→Prop} {f:Value→Value→Sem α}
  (hf:∀v u s2 x y H2,Inv X pins σ H2 s2→RelV x v→RelV y u→R x y H2→wpAny (model X.prog X.w) X.A (f v u) Q X.xe s2) :
  wpAny (model X.prog X.w) X.A (eval a X.env) (fun v s₁=>wpAny (model X.prog X.w) X.A (eval b X.env) (fun u s₂=>wpAny (model X.prog X.w) X.A (f v u) Q X.xe s₂) X.xe s₁) X.xe s:=by
 refine ae (ha pins s σ H _ I h) fun v s1 ⟨x,H1,I1,r1,q1⟩=>?_
 refine ae (hb pins s1 σ H1 _ I1 q1) fun u s2 ⟨y,H2,I2,r2,q2⟩=>?_
 exact hf v u s2 x y H2 I2 r1 r2 q2
def pH(i:Nat):TE:=fun σ H Q=>∃v,σ[i]?=some (some v)∧Q v H
def tC(v:V):TE:=fun _ H Q=>Q v H
theorem lF{i:Nat}{x:Str}{pos:Pos}(hN:X.N[i]?=some x)(hv:Vis X.env.scope x)(hd:(x == ("__debug__":Str))=false:=by decide)(cf:(x == ("__classdict__":Str))=false:=by decide):PE X (.Name x pos) (pH i):=by
 intro pins s σ H Q I h;obtain⟨v,e,h⟩:=h;obtain⟨m,hn,hl⟩:=I.loc;obtain⟨u,r,l⟩:=hl i x v hN e hv;have fin:EP X pins σ Q u s:=⟨v,H,I,r,h⟩
 rcases l with ⟨hk,hm⟩|⟨hk,c,hc,hcell⟩
 ·exact wpAny_Name (wpAny_loadName_local I.ok.kind hk hn hm fin) hd
 ·rcases hk with hk|hk
  ·exact wpAny_Name (wpAny_loadName_cell I.ok.kind hk hc hcell fin) hd
  ·exact wpAny_Name (wpAny_loadName_free I.ok.kind hk hc hcell fin cf) hd
theorem sA{i j pos}:PE X (.Constant (.int i) j pos) (tC (.int i)):=fun _ _ _ H _ I h=>wpAny_Constant_int ⟨.int i,H,I.tok _,⟨_,rfl⟩,h⟩
theorem zV{b j pos}:PE X (.Constant (.bool b) j pos) (tC (.bl b)):=fun _ _ _ H _ I h=>Constant_bool ⟨.bl b,H,I,rfl,h⟩
theorem YB{j pos}:PE X (.Constant .none j pos) (tC .non):=fun _ _ _ H _ I h=>Constant_none ⟨.non,H,I,rfl,h⟩
theorem fM{x j pos}:PE X (.Constant (.str x) j pos) (tC (.str x)):=fun _ _ _ H _ I h=>Calls.Constant_str ⟨.str x,H,I.tok _,⟨_,rfl⟩,h⟩
def Gl(X:Cx)(x:Str):Prop:=X.env.kindOf x=some .globalImplicit
theorem dW{E:v8}{pins:v9}{s:Shared}{σ:St}{H:Hp}{x:Str}{u:Value}{pos:Pos}{Q:v8}(I:Inv X pins σ H s)(hg:Gl X x)(hm:X.mg x=some u)(h:Q u s)
  (hd:(x == ("__debug__":Str))=false:=by decide):wpAny (model X.prog X.w) X.A (eval (.Name x pos) X.env) Q E s:=
 Calls.Name_function_global I.ok.kind hg (Calls.loadGlobal_global (by rw[I.ok.glob];exact I.mod.glob.keeps I.bk) hm h) hd
theorem eU{E:v8}{pins:v9}{s:Shared}{σ:St}{H:Hp}{x:Str}{u:Value}{pos:Pos}{Q:v8}(I:Inv X pins σ H s)(hg:Gl X x)(hm:X.mg x=none)(hv:bootBuiltins x=some u)(h:Q u s)
  (hn:x≠"__name__":=by decide) (hd:(x == ("__debug__":Str))=false:=by decide):wpAny (model X.prog X.w) X.A (eval (.Name x pos) X.env) Q E s:=by
 obtain⟨mb,h1,h2⟩:=I.mod.blt;exact Calls.Name_function_global I.ok.kind hg (Calls.loadGlobal_builtin (by rw[I.ok.glob];exact I.mod.glob.keeps I.bk) hm (by rw[I.ok.blt];exact h1.keeps I.bk) ((h2 x hn).trans hv) h) hd
theorem OX{x:Str}{v:V}{u:Value}{pos:Pos}(hg:Gl X x)(hm:X.mg x=some u)(r:RelV v u)(hd:(x == ("__debug__":Str))=false:=by decide):PE X (.Name x pos) (tC v):=
 fun _ _ _ H _ I h=>dW I hg hm ⟨v,H,I,r,h⟩ hd
theorem zU{x:Str}{v:V}{u:Value}{pos:Pos}(hg:Gl X x)(hm:X.mg x=none)(hv:bootBuiltins x=some u)(r:RelV v u)(hn:x≠"__name__":=by decide)(hd:(x == ("__debug__":Str))=false:=by decide):PE X (.Name x pos) (tC v):=
 fun _ _ _ H _ I h=>eU I hg hm hv ⟨v,H,I,r,h⟩ hn hd
variable {a b:Expr}{ta tb:TE}{pos:Pos}
def PC(X:Cx)(op:CmpOp)(a b:Expr)(t:TE):Prop:=
 ∀(pins:v9) (s:Shared) (σ:St) (H:Hp) (Q:VK),Inv X pins σ H s→t σ H Q →
  wpAny (model X.prog X.w) X.A (eval a X.env) (fun v s₁=>wpAny (model X.prog X.w) X.A (eval b X.env) (fun u s₂=>wpAny (model X.prog X.w) X.A (compareOp op v u) (EP X pins σ Q) X.xe s₂) X.xe s₁) X.xe s
theorem vM(b:Expr){op:CmpOp}(h:op≠.In)(h2:op≠.NotIn):behindInMarks op b=false:=by
 have e1:(op == CmpOp.In)=false:=by cases op<;>first|rfl|exact absurd rfl h
 have e2:(op == CmpOp.NotIn)=false:=by cases op<;>first|rfl|exact absurd rfl h2
 cases b<;>simp[behindInMarks,e1,e2]
noncomputable def tB(t:TE):TT:=fun σ H Q=>t σ H fun x H1=>∃c,x=.bl c∧Q c H1
theorem YF{op:CmpOp}{t:TE}(h:PC X op a b t)(h1:behindInMarks op b=false:=by first|exact vM _ (by decide) (by decide)|rfl):PE X (.Compare a [op] [b] pos) t:=fun pins s σ H Q I hw=>wpAny_Compare1 (h pins s σ H Q I hw) h1
theorem XU{op:CmpOp}{t:TE}(h:PC X op a b t)(h1:behindInMarks op b=false:=by first|exact vM _ (by decide) (by decide)|rfl):PT X (.Compare a [op] [b] pos) (tB t):=by
 intro pins s σ H Q I hw;refine wpAny_isTrue_Compare1 (ae (h pins s σ H _ I hw) fun v s1 h1=>ae h1 fun u s2 h2=>ae h2 fun c s3 ⟨x,H1,I1,r1,q1⟩=>?_) h1
 obtain⟨d,rfl,q⟩:=q1;cases r1;exact wpAny_truthy_bool ⟨H1,I1,q⟩
theorem XR{e:Expr}{t:TE}(h:PE X e t)(he:∀whole,isTrue e X.env whole=(do let v ←whole;standAt e.pos;holding [v] (truthy v)):=by intro _;rfl):PT X e (tB t):=by
 intro pins s σ H Q I hw;refine isTrue_plain (ae (h pins s σ H _ I hw) fun v s1 ⟨x,H1,I1,r1,q1⟩=>?_) (he _)
 obtain⟨d,rfl,q⟩:=q1;cases r1;exact wpAny_truthy_bool ⟨H1,I1,q⟩
variable {tA tB':TT}{rest:List Expr}
noncomputable def aGT(t u:TT):TT:=fun σ H Q=>t σ H fun c H1=>if c=true then u σ H1 Q else Q false H1
noncomputable def tOr(t u:TT):TT:=fun σ H Q=>t σ H fun c H1=>if c=true then Q true H1 else u σ H1 Q
noncomputable def aBU(t:TT):TT:=fun σ H Q=>t σ H fun c H1=>Q (!c) H1
theorem OK(ha:PT X a tA):PW X (.BoolOp .And [a] pos) tA:=by
 intro wh pins s σ H Q I h;refine isTrue_and (ae (ha pins s σ H Q I h) fun c s1 e=>?_)
 cases c with
 |true=>exact isTrue_and_nil e
 |false=>exact e
theorem GZ(ha:PT X a tA):PW X (.BoolOp .Or [a] pos) tA:=by
 intro wh pins s σ H Q I h;refine isTrue_or (ae (ha pins s σ H Q I h) fun c s1 e=>?_)
 cases c with
 |false=>exact isTrue_or_nil e
 |true=>exact e
theorem HB(ha:PT X a tA)(hb:PW X (.BoolOp .And (b::rest) pos) tB'):PW X (.BoolOp .And (a::b::rest) pos) (aGT tA tB'):=by
 intro wh pins s σ H Q I h;refine isTrue_and (ae (ha pins s σ H _ I h) fun c s1 ⟨H1,I1,q1⟩=>?_)
 cases c with
 |true=>exact hb wh pins s1 σ H1 Q I1 q1
 |false=>exact⟨H1,I1,q1⟩
theorem HA(ha:PT X a tA)(hb:PW X (.BoolOp .Or (b::rest) pos) tB'):PW X (.BoolOp .Or (a::b::rest) pos) (tOr tA tB'):=by
 intro wh pins s σ H Q I h;refine isTrue_or (ae (ha pins s σ H _ I h) fun c s1 ⟨H1,I1,q1⟩=>?_)
 cases c with
 |true=>exact⟨H1,I1,q1⟩
 |false=>exact hb wh pins s1 σ H1 Q I1 q1
theorem HF(ha:PT X a tA):PT X (.UnaryOp .Not a pos) (aBU tA):=by
 intro pins s σ H Q I h;exact isTrue_not (ha pins s σ H (fun c H1=>Q (!c) H1) I h)
def aBX(ta tb:TE):TE:=fun σ H Q=>ta σ H fun x H1=>∃c,x=.bl c∧if c=true then tb σ H1 Q else Q (.bl false) H1
def aGP(ta tb:TE):TE:=fun σ H Q=>ta σ H fun x H1=>∃c,x=.bl c∧if c=true then Q (.bl true) H1 else tb σ H1 Q
theorem YA{op}{t:TE}(h:PE X a t):PE X (.BoolOp op [a] pos) t:=fun pins s σ H Q I hw=>BoolOp_one (h pins s σ H Q I hw)
theorem HQ(ha:PE X a ta)(hb:PE X (.BoolOp .And (b::rest) pos) tb):PE X (.BoolOp .And (a::b::rest) pos) (aBX ta tb):=by
 intro pins s σ H Q I h;refine BoolOp_and (ae (ha pins s σ H _ I h) fun v s1 ⟨x,H1,I1,r1,q1⟩=>?_)
 obtain⟨c,rfl,q1⟩:=q1;cases r1;refine wpAny_truthy_bool ?_;cases c with
 |true=>exact hb pins s1 σ H1 Q I1 q1
 |false=>exact⟨.bl false,H1,I1,rfl,q1⟩
theorem TV(ha:PE X a ta)(hb:PE X (.BoolOp .Or (b::rest) pos) tb):PE X (.BoolOp .Or (a::b::rest) pos) (aGP ta tb):=by
 intro pins s σ H Q I h;refine BoolOp_or (ae (ha pins s σ H _ I h) fun v s1 ⟨x,H1,I1,r1,q1⟩=>?_)
 obtain⟨c,rfl,q1⟩:=q1;cases r1;refine wpAny_truthy_bool ?_;cases c with
 |false=>exact hb pins s1 σ H1 Q I1 q1
 |true=>exact⟨.bl true,H1,I1,rfl,q1⟩
def tIf(t:TT)(ta tb:TE):TE:=fun σ H Q=>t σ H fun c H1=>if c=true then ta σ H1 Q else tb σ H1 Q
theorem vI{c:Expr}(hc:PT X c tA)(ha:PE X a ta)(hb:PE X b tb):PE X (.IfExp c a b pos) (tIf tA ta tb):=by
 intro pins s σ H Q I h;refine wpAny_IfExp (ae (hc pins s σ H _ I h) fun d s1 ⟨H1,I1,q1⟩=>?_)
 cases d with
 |true=>exact ha pins s1 σ H1 Q I1 q1
 |false=>exact hb pins s1 σ H1 Q I1 q1
end
def SqL(K:uz)(H:Hp)(a:Addr)(xs:List V):Prop:=
 Rd H a (.lst xs) ∨
  ∃(o:Obj) (its:Array Value) (n:Nat),K.lookup a=some o∧o.cls=.type "list"∧o.dict=none∧o.data=.seq its n∧its.size≤sizeLine∧aQ xs its.toList
def SqT(K:uz)(H:Hp)(a:Addr)(xs:List V):Prop:=
 Rd H a (.tup xs) ∨
  ∃(o:Obj) (its:Array Value) (n:Nat),K.lookup a=some o∧o.cls=.type "tuple"∧o.data=.seq its n∧its.size≤sizeLine∧aQ xs its.toList
noncomputable def aIm:Value→Option V
 |.none=>some .non
 |.bool b=>some (.bl b)
 |.int i _=>some (.int i)
 |.str x _=>some (.str x)
 |.bytes b _=>some (.byt b)
 |.float b _=>some (.flt b)
 |.ref a=>some (.ref a)
 |.type n=>some (.ty n)
 |_=>none
theorem RelV.abs{x:V}{u:Value}(r:RelV x u):aIm u=some x:=by
 cases x with
 |non=>cases r;rfl
 |bl _=>cases r;rfl
 |int _=>obtain⟨t,rfl⟩:=r;rfl
 |str _=>obtain⟨t,rfl⟩:=r;rfl
 |byt _=>obtain⟨t,rfl⟩:=r;rfl
 |flt _=>obtain⟨t,rfl⟩:=r;rfl
 |ref _=>cases r;rfl
 |ty _=>cases r;rfl
theorem RelV.inj{x y:V}{u:Value}(r:RelV x u)(q:RelV y u):x=y:=qu (r.abs.symm.trans q.abs)
theorem aQ.inj:∀{xs ys:List V} {us:List Value},aQ xs us→aQ ys us→xs=ys
 |_,_,_,.nil,.nil=>rfl
 |_,_,_,.cons r t,.cons r' t'=>by rw[r.inj r',aQ.inj t t']
section
variable {X:Cx}{pins:v9}{σ:St}{H:Hp}{s:Shared}{a:Addr}{xs ys:List V}
theorem SqL.of{K:uz}(h:H a=some (.lst xs)):SqL K H a xs:=.inl (.inl h)
theorem SqT.of{K:uz}(h:H a=some (.tup xs)):SqT K H a xs:=.inl (.inl h)
theorem Inv.list(I:Inv X pins σ H s)(h:SqL X.K H a xs):∃its:List Value,aQ xs its∧PlainL s.heap a its.toArray∧xs.length≤sizeLine:=by
 rcases h with h|⟨o,its,n,hk,hc,hd,hs,hz,r⟩
 ·obtain⟨z,its,n,r,e⟩:=h.ok I.hok;exact⟨its,r,⟨_,n,e,rfl,rfl,rfl⟩,z⟩
 ·refine⟨its.toList,r,⟨o,n,I.kIn a o hk,hc,hd,by simpa using hs⟩,?_⟩
  have e:=r.length
  simp only[length_toList]at e;omega
theorem Inv.tuple(I:Inv X pins σ H s)(h:SqT X.K H a xs):∃its:List Value,aQ xs its∧IsTup s.heap a its.toArray∧xs.length≤sizeLine:=by
 rcases h with h|⟨o,its,n,hk,hc,hs,hz,r⟩
 ·obtain⟨z,its,r,p⟩:=h.ok I.hok;exact⟨its,r,p,z⟩
 ·refine⟨its.toList,r,⟨o,I.kIn a o hk,hc,n,by simpa using hs⟩,?_⟩
  have e:=r.length
  simp only[length_toList]at e;omega
theorem Inv.list_inj(I:Inv X pins σ H s)(h:SqL X.K H a xs)(h':SqL X.K H a ys):xs=ys:=by
 obtain⟨its,r,⟨o,n,e,_,_,d⟩,_⟩:=I.list h;obtain⟨its',r',⟨o',n',e',_,_,d'⟩,_⟩:=I.list h';rw[e]at e';cases e';rw[d]at d';injection d' with d1 _
 have:its=its':=by simpa using congrArg Array.toList d1
 subst this;exact r.inj r'
theorem Inv.tuple_inj(I:Inv X pins σ H s)(h:SqT X.K H a xs)(h':SqT X.K H a ys):xs=ys:=by
 obtain⟨its,r,⟨o,e,_,n,d⟩,_⟩:=I.tuple h;obtain⟨its',r',⟨o',e',_,n',d'⟩,_⟩:=I.tuple h';rw[e]at e';cases e';rw[d]at d';injection d' with d1 _
 have:its=its':=by simpa using congrArg Array.toList d1
 subst this;exact r.inj r'
end
abbrev Cx.wish(X:Cx)(E:v8):Cx:={ X with xe:=E }
abbrev Cx.nox(X:Cx):Cx:=X.wish fun _ _=>False
theorem Cx.Ok.wish{X:Cx}(ok:X.Ok)(E:v8):(X.wish E).Ok:=
 ⟨ok.mod,ok.kind,ok.glob,ok.blt,ok.above,ok.inj,ok.has,ok.cab,ok.hd,ok.frames,ok.stk,ok.exf,ok.bs,ok.bsz,ok.noex,ok.exfs,ok.funs,ok.frf⟩
theorem Cx.Ok.unwish{X:Cx}{E:v8}(ok:(X.wish E).Ok):X.Ok:=
 ⟨ok.mod,ok.kind,ok.glob,ok.blt,ok.above,ok.inj,ok.has,ok.cab,ok.hd,ok.frames,ok.stk,ok.exf,ok.bs,ok.bsz,ok.noex,ok.exfs,ok.funs,ok.frf⟩
section
variable {X:Cx}{pins:v9}{σ:St}{H:Hp}{s:Shared}{E:v8}
theorem Inv.wish(I:Inv X pins σ H s)(E:v8):Inv (X.wish E) pins σ H s:=⟨I.ok.wish E,I.os,I.bare,I.base,I.loc,I.cell,I.free,I.freeC,I.pin,I.hok,I.len⟩
theorem Inv.unwish(I:Inv (X.wish E) pins σ H s):Inv X pins σ H s:=⟨I.ok.unwish,I.os,I.bare,I.base,I.loc,I.cell,I.free,I.freeC,I.pin,I.hok,I.len⟩
theorem SP.unwish{D:Ends}{f:Flow}{s':Shared}(h:SP (X.wish E) pins D f s'):SP X pins D f s':=by
 cases f with
 |next=>obtain⟨σ',H',I,q⟩:=h;exact⟨σ',H',I.unwish,q⟩
 |brk=>obtain⟨σ',H',I,q⟩:=h;exact⟨σ',H',I.unwish,q⟩
 |cont=>obtain⟨σ',H',I,q⟩:=h;exact⟨σ',H',I.unwish,q⟩
 |ret u=>obtain⟨v,σ',H',I,r,q⟩:=h;exact⟨v,σ',H',I.unwish,r,q⟩
theorem PSs.nox{st:List Stmt}{t:TS}(h:PSs X.nox st t):PSs X st t:=fun pins s σ H D I hw =>
 ua (h pins s σ H D (I.wish _) hw) (fun _ _ q=>q.unwish) fun _ _ z=>False.elim z
end
section
variable {X:Cx}{st:Stmt}{rest:List Stmt}{t u:TS}{e:Expr}{te:TE}{pos:Pos}
def TH:TS:=fun D σ H=>D.nx σ H
def aGO(t u:TS):TS:=fun D σ H=>t { D with nx:=u D } σ H
theorem gW:PSs X [] TH:=fun _ _ σ H _ I h=>wpAny_execs_nil ⟨σ,H,I,h⟩
theorem bI(h1:PS X st t)(h2:PSs X rest u):PSs X (st::rest) (aGO t u):=by
 intro pins s σ H D I h;refine wpAny_execs_cons (ae (h1 pins s σ H { D with nx:=u D } I h) fun f s1 q=>?_)
 cases f with
 |next =>
  obtain⟨σ',H',I',q⟩:=q;exact h2 pins s1 σ' H' D I' q
 |ret v=>exact q
 |brk=>exact q
 |cont=>exact q
theorem dP(h1:PS X st t):PSs X [st] t:=by
 intro pins s σ H D I h;refine wpAny_execs_cons (ae (h1 pins s σ H D I h) fun f s1 q=>?_)
 cases f with
 |next=>exact wpAny_execs_nil q
 |ret v=>exact q
 |brk=>exact q
 |cont=>exact q
theorem ON:PS X (.Pass pos) TH:=fun _ _ σ H _ I h=>wpAny_Pass ⟨σ,H,I,h⟩
theorem Inv.quiet{pins:v9}{σ:St}{H:Hp}{s:Shared}(I:Inv X pins σ H s):interactive X.env=false:=by simp[interactive,I.ok.kind]
def TJ(te:TE):TS:=fun D σ H=>te σ H fun _ H1=>D.nx σ H1
theorem eY(he:PE X e te)(hs:swapsWith e none pos.line X.env=pure false:=by rfl):PS X (.Expr e pos) (TJ te):=by
 intro pins s σ H D I h;exact wpAny_Expr_any (ae (he pins s σ H _ I h) fun v s1 ⟨x,H1,I1,r1,q1⟩=>⟨σ,H1,I1,q1⟩) I.quiet hs
def aBR(te:TE):TS:=fun D σ H=>te σ H D.rt
theorem gF(he:PE X e te):PS X (.Return (some e) pos) (aBR te):=by
 intro pins s σ H D I h;exact wpAny_Return_some (ae (he pins s σ H _ I h) fun v s1 ⟨x,H1,I1,r1,q1⟩=>⟨x,σ,H1,I1,r1,q1⟩)
def aBQ:TS:=fun D _ H=>D.rt .non H
theorem OM:PS X (.Return none pos) aBQ:=fun _ _ σ H _ I h=>wpAny_Return_none ⟨.non,σ,H,I,rfl,h⟩
def aGQ(c:TT)(t u:TS):TS:=fun D σ H=>c σ H fun b H1=>if b=true then t D σ H1 else u D σ H1
theorem qC{c:Expr}{a b:List Stmt}{tc:TT}(hc:PT X c tc)(ha:PSs X a t)(hb:PSs X b u):PS X (.If c a b pos) (aGQ tc t u):=by
 intro pins s σ H D I h;refine wpAny_If (ae (hc pins s σ H _ I h) fun d s1 ⟨H1,I1,q1⟩=>?_)
 cases d with
 |true=>exact ha pins s1 σ H1 D I1 q1
 |false=>exact hb pins s1 σ H1 D I1 q1
def VZ:TS:=fun _ _ _=>False
theorem jF{sts:List Stmt}:PSs X sts VZ:=fun _ _ _ _ _ _ h=>h.elim
end
abbrev TG:=V→St→Hp→(St→Hp→Prop)→Prop
abbrev jt:=List V→St→Hp→(St→Hp→Prop)→Prop
def PG(X:Cx)(target:Expr)(t:TG):Prop:=
 ∀(pins:v9) (s:Shared) (σ:St) (H:Hp) (v:V) (u:Value) (Q:St→Hp→Prop),Inv X pins σ H s→RelV v u→t v σ H Q →
  wpAny (model X.prog X.w) X.A (assign target X.env u) (fun _ s'=>∃σ' H',Inv X pins σ' H' s'∧Q σ' H') X.xe s
def p8(X:Cx)(ts:List Expr)(t:jt):Prop:=
 ∀(pins:v9) (s:Shared) (σ:St) (H:Hp) (vs:List V) (us:List Value) (Q:St→Hp→Prop),Inv X pins σ H s→aQ vs us→t vs σ H Q →
  wpAny (model X.prog X.w) X.A (assignInOrder ((assignEach ts X.env).map (·.2)) us) (fun _ s'=>∃σ' H',Inv X pins σ' H' s'∧Q σ' H') X.xe s
abbrev aAJ:=V→V→V→Hp→(Hp→Prop)→Prop
def aFP(X:Cx)(t:aAJ):Prop:=
 ∀(pins:v9) (s:Shared) (σ:St) (H:Hp) (o i v:V) (ov iv u:Value) (Q:Hp→Prop),Inv X pins σ H s→RelV o ov→RelV i iv→RelV v u→t o i v H Q →
  wpAny (model X.prog X.w) X.A (setItem ov iv u) (fun _ s'=>∃H',Inv X pins σ H' s'∧Q H') X.xe s
section
variable {X:Cx}{pos:Pos}
def jS(i:Nat):TG:=fun v σ H Q=>Q (σ.set i (some v)) H
theorem kL{i:Nat}{x:Str}(hN:X.N.Nodup)(hi:X.N[i]?=some x)(hx:Loc X.env.scope x)(hf:X.fn x=true∨X.env.scope.names.lookup x=some .local:=by first|exact .inl rfl|exact .inr rfl|assumption):PG X (.Name x pos) (jS i):=by
 intro pins s σ H v u Q I r h;exact wpAny_assign_Name (nJ I hN hi hx r (fun s' I'=>⟨_,H,I',h⟩) hf)
noncomputable def aHW:jt:=fun vs σ H Q=>vs=[]∧Q σ H
noncomputable def aEU(t:TG)(u:jt):jt:=fun vs σ H Q=>∃v r,vs=v::r∧t v σ H fun σ' H'=>u r σ' H' Q
theorem OV:p8 X [] aHW:=by
 intro pins s σ H vs us Q I r h;obtain⟨e,h⟩:=h;subst e;cases r;exact assignInOrder_nil ⟨σ,H,I,h⟩
theorem HM{e:Expr}{es:List Expr}{t:TG}{u:jt}(h1:PG X e t)(h2:p8 X es u)
  (hs:(assignEach (e::es) X.env).map (·.2)=assign e X.env::(assignEach es X.env).map (·.2):=by rfl):p8 X (e::es) (aEU t u):=by
 intro pins s σ H vs us Q I r h;obtain⟨v,vr,e1,h⟩:=h;subst e1;cases r with
 |cons r rr =>
  rw[hs];refine assignInOrder_cons (ae (h1 pins s σ H _ _ _ I r h) fun _ s1 ⟨σ1,H1,I1,q1⟩=>?_)
  exact h2 pins s1 σ1 H1 _ _ Q I1 rr q1
def aHU(K:uz)(n:Nat)(t:jt):TG:=fun v σ H Q=>∃a xs,v=.ref a∧SqT K H a xs∧xs.length=n∧t xs σ H Q
theorem XX{es:List Expr}{k:Nat}{t:jt}{n:Nat}(hc:X.calm=true)(h:p8 X es t)
  (hn:(assignEach es X.env).length=n:=by rfl) (cz:(assignEach es X.env).findIdx? (·.1)=none:=by rfl):PG X (.Tuple es k pos) (aHU X.K n t):=by
 intro pins s σ H v u Q I r hw;obtain⟨a,xs,e1,hq,hl,hw⟩:=hw;subst e1;cases r;obtain⟨its,rv,ht,hz⟩:=I.tuple hq;refine assign_Tuple_tuple (I.ok.hd hc) ht (by simp[hn,←hl,rv.length]) cz fun h' hx=>?_
 have I1:Inv X pins σ H { s with heap:=h' }:=I.kept (t':=s.toks) fun b o e=>hx b o (tm (rh e)) e
 exact h pins _ σ H xs _ Q I1 (by simpa using rv) hw
def aHV(to ti:TE)(t:aAJ):TG:=fun v σ H Q=>to σ H fun o H1=>ti σ H1 fun i H2=>t o i v H2 fun H3=>Q σ H3
theorem XY{o i:Expr}{to ti:TE}{t:aAJ}(ho:PE X o to)(hi:PE X i ti)(hs:aFP X t)
  (ha:∀v,assign (.Subscript o i pos) X.env v=(do
   let ov ←holding [v] (eval o X.env)
   let iv ←holding [v,ov] (eval i X.env)
   standAt pos
   holding [v,ov,iv] (setItem ov iv v)
   release [v,ov,iv] []):=by intro _;rfl):PG X (.Subscript o i pos) (aHV to ti t):=by
 intro pins s σ H v u Q I r h;rw[ha];refine u2 (wpAny_holding (ae (ho pins s σ H _ I h) fun ov s1 ⟨x,H1,I1,r1,q1⟩=>?_))
 refine u2 (wpAny_holding (ae (hi pins s1 σ H1 _ I1 q1) fun iv s2 ⟨y,H2,I2,r2,q2⟩=>?_))
 refine u2 (wpAny_standAt (u2 (wpAny_holding (ae (hs pins s2 σ H2 x y v ov iv u _ I2 r1 r2 r q2) fun _ s3 ⟨H3,I3,q3⟩=>?_))))
 exact wpAny_release ⟨σ,H3,I3,q3⟩
def MZ(te:TE)(g:TG):TS:=fun D σ H=>te σ H fun x H1=>g x σ H1 D.nx
theorem HI{tg e:Expr}{te:TE}{g:TG}(he:PE X e te)(hg:PG X tg g)(hs:swapsWithSole [tg] e pos.line X.env=pure false:=by rfl)(hw:swappedStores [tg] e X.env=pure none:=by rfl)
  (h1:(assignEach [tg] X.env).map (·.2)=[assign tg X.env]:=by rfl):PS X (.Assign [tg] e pos) (MZ te g):=by
 intro pins s σ H D I h;refine wpAny_Assign_stores (ae (he pins s σ H _ I h) fun v s1 ⟨x,H1,I1,r1,q1⟩=>?_) hs hw
 rw[h1];exact ae (hg pins s1 σ H1 x v _ I1 r1 q1) fun _ s2 q=>q
theorem jW{i:Nat}{x:Str}{e:Expr}{te:TE}{pos':Pos}(hN:X.N.Nodup)(hi:X.N[i]?=some x)(hx:Loc X.env.scope x)(he:PE X e te)(hs:swapsWith e (some (.Name x pos')) pos.line X.env=pure false:=by rfl)(hf:X.fn x=true∨X.env.scope.names.lookup x=some .local:=by first|exact .inl rfl|exact .inr rfl|assumption) :
  PS X (.Assign [.Name x pos'] e pos) (MZ te (jS i)):=by
 intro pins s σ H D I h;refine wpAny_Assign_Name (ae (he pins s σ H _ I h) fun v s1 ⟨y,H1,I1,r1,q1⟩=>?_) hs
 exact nJ I1 hN hi hx r1 (fun s2 I2=>⟨_,H1,I2,q1⟩) hf
end
section
variable {X:Cx}{pos:Pos}
def VY(c:TT)(tb:TS):TS:=fun D σ H=>∃W:Nat→St→Hp→Prop,(∃m,W m σ H)∧∀m σ H,W m σ H →
 c σ H fun b H1=>if b=true then ∃N:St→Hp→Prop,(∀σ' H',N σ' H'→∃m',m'<m∧W m' σ' H')∧tb { D with nx:=N,ct:=N,bk:=D.nx } σ H1 else D.nx σ H1
theorem HG{c:Expr}{body:List Stmt}{tc:TT}{tb:TS}(hp:PassesOwn (model X.prog X.w) X.A X.env X.xe)(hc:PT X c tc)(hb:PSs X body tb):PS X (.While c body [] pos) (VY tc tb):=by
 intro pins s σ H D I h;obtain⟨W,⟨m0,w0⟩,turn⟩:=h;refine wpAny_While (codeAny_whileLoop (fun n s'=>∃σ' H',Inv X pins σ' H' s'∧W n σ' H') ?_ m0 ⟨σ,H,I,w0⟩)
 rintro n s1 ⟨σ1,H1,I1,w1⟩;refine wpAny_passesOwn hp (ae (hc pins s1 σ1 H1 _ I1 (turn n σ1 H1 w1)) fun b s2 ⟨H2,I2,q2⟩=>?_)
 cases b with
 |true =>
  obtain⟨N,hN,q2⟩:=q2;rw[if_pos rfl];refine wpAny_passesOwn hp (ae (hb pins s2 σ1 H2 _ I2 q2) fun f s3 q3=>?_)
  cases f with
  |next =>
   obtain⟨σ3,H3,I3,n3⟩:=q3;obtain⟨m',hm,w3⟩:=hN σ3 H3 n3;exact⟨m',hm,σ3,H3,I3,w3⟩
  |cont =>
   obtain⟨σ3,H3,I3,n3⟩:=q3;obtain⟨m',hm,w3⟩:=hN σ3 H3 n3;exact⟨m',hm,σ3,H3,I3,w3⟩
  |brk=>exact q3
  |ret v=>exact q3
 |false =>
  rw[if_neg qx];exact wpAny_execs_nil ⟨σ1,H2,I2,q2⟩
end
structure It where
 go:Nat→Hp→Prop
 yld:Nat→Hp→V→Hp→Prop
 stop:Nat→Hp→Prop
def kY(X:Cx)(pins:v9)(H:Hp)(b:Addr):Prop:=
 H b=none∧b≠X.env.locals∧b∉X.fs∧(b∈X.ex∨X.s₀.heap.objs.size≤b)∧(∀x c,X.env.cells.lookup x=some c→c≠b)∧∀p∈X.pn++pins,p.1≠b
theorem Inv.fpOk{X:Cx}{pins:v9}{σ:St}{H H':Hp}{s:Shared}{b:Addr}(I:Inv X pins σ H s)(hb:s.heap.objs.size≤b)(hn:H' b=none):kY X pins H' b:=by
 refine⟨hn,Nat.ne_of_gt (qw I.lt hb),I.nofs hb,.inr (rj I.sz hb),fun x c e z=>?_,fun p hp z=>?_⟩
 ·obtain⟨v,q⟩:=I.cell x c e;exact absurd (qw q.lt (by rw[z];exact hb)) (u1 _)
 ·exact absurd (qw (rh (I.pin p hp).1) (by rw[z];exact hb)) (u1 _)
structure Turn (P:v7) (w:World) (K:uz) (tg:Expr) (J:It) (fp:List Addr) (it:Addr) (tn:Nat→Heap→Prop):Prop where
 mem:it∈fp
 obj:∀i h,tn i h→∀b∈fp,∃o,h.get? b=some o∧∀v,o.data≠.cell v
 keep:∀i h h',tn i h→(∀b∈fp,∀o,h.get? b=some o→h'.get? b=some o)→tn i h'
 item:∀(X:Cx),X.prog=P→X.w=w→X.K=K→X.calm=true→∀(i:Nat) (pins:v9) (s:Shared) (σ:St) (H:Hp) (E:v8),Inv X pins σ H s→(∀b∈fp,kY X pins H b)→tn i s.heap→J.go i H →
  wpAny (model P w) X.A (pyNext (.ref it)) (fun r s1=>∃u,r=some u ∧
   wpAny (model P w) X.A (letOwnedTupleGo tg (.ref it) u) (fun _ s2=>∃x H',Inv X pins σ H' s2∧RelV x u∧J.yld i H x H'∧tn (i+1) s2.heap∧∀b∈fp,H' b=none) E s1) E s
 done:∀(X:Cx),X.prog=P→X.w=w→X.K=K→X.calm=true→∀(i:Nat) (pins:v9) (s:Shared) (σ:St) (H:Hp) (E:v8),Inv X pins σ H s→(∀b∈fp,kY X pins H b)→tn i s.heap→J.stop i H →
  wpAny (model P w) X.A (pyNext (.ref it)) (fun r s1=>r=none∧Inv X pins σ H s1) E s
 self:∀(A:Around) (i:Nat) (s:Shared) (Q:v8) (E:v8),tn i s.heap→Q (.ref it) s→wpAny (model P w) A (pyIter (.ref it)) Q E s
abbrev TI:=St→Hp→(It→Hp→Prop)→Prop
def PIE(X:Cx)(pins:v9)(σ:St)(tg:Expr)(R:It→Hp→Prop)(itv:Value)(s2:Shared):Prop:=
 ∃(it:Addr) (fp:List Addr) (tn:Nat→Heap→Prop) (J:It) (H':Hp),itv=.ref it∧Inv X pins σ H' s2∧Turn X.prog X.w X.K tg J fp it tn∧tn 0 s2.heap∧(∀b∈fp,kY X pins H' b)∧R J H'
def PI(X:Cx)(tg iter:Expr)(wi:TI):Prop:=
 ∀(pins:v9) (s:Shared) (σ:St) (H:Hp) (R:It→Hp→Prop),Inv X pins σ H s→wi σ H R →
  wpAny (model X.prog X.w) X.A (eval iter X.env) (fun v s1=>wpAny (model X.prog X.w) X.A (pyIter v) (PIE X pins σ tg R) X.xe s1) X.xe s
theorem AM{M:Model}{A:Around}{E:v8}{s:Shared}{tg:Expr}{it:Addr}{u:Value}{o:Obj}{n:String}{vs:Array Value}{Q:Unit→Shared→Prop}(ho:s.heap.get? it=some o)(hc:o.cls=.type n)(hd:o.data=.fields vs)
  (hn:["enumerate","zip","dict_itemiterator","dict_reverseitemiterator","odict_iterator","itertools.zip_longest","itertools.pairwise"].contains n=false) (hQ:Q () s):wpAny M A (letOwnedTupleGo tg (.ref it) u) Q E s:=by
 unfold letOwnedTupleGo;cases tg<;>first
  |exact u7 hQ
  | (cases u<;>first
    |exact u7 hQ
    | (refine u2 (wpAny_load ho ?_)
       rw[hc,hd];show wpAny M A (if (["enumerate","zip","dict_itemiterator","dict_reverseitemiterator","odict_iterator","itertools.zip_longest","itertools.pairwise"].contains n&&vs[0]? == some (rawInt _))=true then _ else _) Q E s
       rw[if_neg (by intro h;rw[hn,Bool.false_and]at h;cases h)]
       exact u7 hQ))
noncomputable def mh(K:uz)(a:Addr):It:=
 ⟨fun i H=>∃xs x,SqL K H a xs∧xs[i]?=some x,fun i H x H'=>H'=H∧∀xs,SqL K H a xs→xs[i]?=some x,fun i H=>∃xs,SqL K H a xs∧xs.length≤i⟩
noncomputable def Itt(K:uz)(a:Addr):It:=
 ⟨fun i H=>∃xs x,SqT K H a xs∧xs[i]?=some x,fun i H x H'=>H'=H∧∀xs,SqT K H a xs→xs[i]?=some x,fun i H=>∃xs,SqT K H a xs∧xs.length≤i⟩
noncomputable def l9(lo:Int)(n:Nat):It:=⟨fun i _=>i<n,fun i H x H'=>H'=H∧x=.int (lo+i),fun i _=>n≤i⟩
theorem pS{P:v7}{w:World}{K:uz}{tg:Expr}(a it:Addr):Turn P w K tg (mh K a) [it] it (fun i h=>h.IsListIter it a i) where
 mem:=by simp
 obj:=fun i h st b hb=>by
  have e:b=it:=by simpa using hb
  subst e;obtain⟨o,e,c,d⟩:=st;exact⟨o,e,fun v z=>by rw[d]at z;cases z⟩
 keep:=fun i h h' st k=>st.at fun o e=>k it (by simp) o e
 item:=by
  intro X hP hw hK hc i pins s σ H E I hf st hg;subst hP hw hK;obtain⟨xs,x,hq,hx⟩:=hg;obtain⟨its,rv,p,hz⟩:=I.list hq;obtain⟨u,hu,ru⟩:=rv.get hx;obtain⟨f0,f1,f2,f3,f4,f5⟩:=hf it (by simp)
  refine wpAny_pyNext_list_item st p.isList (x:=u) (by simpa using hu) fun h' ez sb=>?_
  have I1:Inv X pins σ H { s with heap:=h' }:=I.turned (t':=s.toks) (fun b o hb e=>(sb.2 b hb).trans e) f0 f1 f3 f4 f5
  obtain⟨o,e,c,d⟩:=id ez;exact⟨u,rfl,AM (s:={ s with heap:=h' }) e c d (by decide) ⟨x,H,I1,ru,⟨rfl,fun ys hy=>by rw[I.list_inj hy hq];exact hx⟩,ez,fun b hb=>(hf b hb).1⟩⟩
 done:=by
  intro X hP hw hK hc i pins s σ H E I hf st hg;subst hP hw hK;obtain⟨xs,hq,hx⟩:=hg;obtain⟨its,rv,p,hz⟩:=I.list hq;obtain⟨f0,f1,f2,f3,f4,f5⟩:=hf it (by simp)
  have hl:=rv.length
  exact wpAny_pyNext_list_end (I.ok.hd hc) st p.isList (by simp;omega) fun h' eb=>⟨rfl,I.turned (t':=s.toks) (fun b o hb e=>eb b o hb e) f0 f1 f3 f4 f5⟩
 self:=fun _ _ _ _ _ st h=>wpAny_pyIter_listiter st h
theorem xB{P:v7}{w:World}{K:uz}{tg:Expr}(a it:Addr):Turn P w K tg (Itt K a) [it] it (fun i h=>h.IsTupleIter it a i) where
 mem:=by simp
 obj:=fun i h st b hb=>by
  have e:b=it:=by simpa using hb
  subst e;obtain⟨o,e,c,d⟩:=st;exact⟨o,e,fun v z=>by rw[d]at z;cases z⟩
 keep:=fun i h h' st k=>st.at fun o e=>k it (by simp) o e
 item:=by
  intro X hP hw hK hc i pins s σ H E I hf st hg;subst hP hw hK;obtain⟨xs,x,hq,hx⟩:=hg;obtain⟨its,rv,p,hz⟩:=I.tuple hq;obtain⟨u,hu,ru⟩:=rv.get hx;obtain⟨f0,f1,f2,f3,f4,f5⟩:=hf it (by simp)
  refine wpAny_pyNext_tuple_item st (show s.heap.IsTuple a its.toArray from p) (x:=u) (by simpa using hu) fun h' ez sb=>?_
  have I1:Inv X pins σ H { s with heap:=h' }:=I.turned (t':=s.toks) (fun b o hb e=>(sb.2 b hb).trans e) f0 f1 f3 f4 f5
  obtain⟨o,e,c,d⟩:=id ez;exact⟨u,rfl,AM (s:={ s with heap:=h' }) e c d (by decide) ⟨x,H,I1,ru,⟨rfl,fun ys hy=>by rw[I.tuple_inj hy hq];exact hx⟩,ez,fun b hb=>(hf b hb).1⟩⟩
 done:=by
  intro X hP hw hK hc i pins s σ H E I hf st hg;subst hP hw hK;obtain⟨xs,hq,hx⟩:=hg;obtain⟨its,rv,p,hz⟩:=I.tuple hq;obtain⟨f0,f1,f2,f3,f4,f5⟩:=hf it (by simp)
  have hl:=rv.length
  exact wpAny_pyNext_tuple_end (I.ok.hd hc) st (show s.heap.IsTuple a its.toArray from p) (by simp;omega) fun h' eb=>⟨rfl,I.turned (t':=s.toks) (fun b o hb e=>eb b o hb e) f0 f1 f3 f4 f5⟩
 self:=fun _ _ _ _ _ st h=>wpAny_pyIter_tupleiter st h
theorem xC{P:v7}{w:World}{K:uz}{tg:Expr}(it:Addr)(lo:Int)(n:Nat):Turn P w K tg (l9 lo n) [it] it (fun i h=>IsRangeIter h it (lo+(i:Nat)*1) ((n:Int)-(i:Nat)) 1) where
 mem:=by simp
 obj:=fun i h st b hb=>by
  have e:b=it:=by simpa using hb
  subst e;exact⟨_,st,fun v z=>by
   have z':Data.fields _=Data.cell v:=z
   cases z'⟩
 keep:=fun i h h' st k=>k it (by simp) _ st
 item:=by
  intro X hP hw hK hc i pins s σ H E I hf st hg;subst hP hw hK;obtain⟨f0,f1,f2,f3,f4,f5⟩:=hf it (by simp)
  have W:=Walks.range (prog:=X.prog) (w:=X.w) (I.ok.hd hc) it lo 1 n
  refine W.item i s _ _ hg st fun v h' tk hv ez kk=>?_
  obtain⟨t,rfl⟩:=hv;have I1:Inv X pins σ H { s with heap:=h',toks:=tk }:=I.turned (fun b o hb e=>kk b o (by simpa using hb) e) f0 f1 f3 f4 f5
  refine⟨_,rfl,AM (s:={ s with heap:=h',toks:=tk }) (n:="range_iterator") ez rfl rfl (by decide) ⟨.int (lo+i),H,I1,⟨t,?_⟩,⟨rfl,rfl⟩,ez,fun b hb=>(hf b hb).1⟩⟩
  rw[Int.mul_one]
 done:=by
  intro X hP hw hK hc i pins s σ H E I hf st hg;subst hP hw hK;obtain⟨f0,f1,f2,f3,f4,f5⟩:=hf it (by simp)
  exact wpAny_pyNext_range_end (I.ok.hd hc) st (by have:n≤i:=hg;omega) fun h' eb=>⟨rfl,I.turned (t':=s.toks) (fun b o hb e=>eb b o hb e) f0 f1 f3 f4 f5⟩
 self:=fun _ _ _ _ _ st h=>wpAny_pyIter_rangeiter st h
section
variable {X:Cx}{tg:Expr}
def aEK(K:uz)(tl:TE):TI:=fun σ H R=>tl σ H fun x H1=>∃a,x=.ref a∧(∃xs,SqL K H1 a xs)∧R (mh K a) H1
theorem zQ{l:Expr}{tl:TE}(hl:PE X l tl):PI X tg l (aEK X.K tl):=by
 intro pins s σ H R I h;refine ae (hl pins s σ H _ I h) fun v s1 ⟨x,H1,I1,r1,q1⟩=>?_
 obtain⟨a,e,⟨xs,hq⟩,q⟩:=q1;subst e;cases r1;obtain⟨its,rv,p,hz⟩:=I1.list hq;refine wpAny_pyIter_list p.isList ?_;refine⟨s1.heap.objs.size,[s1.heap.objs.size],_,_,H1,rfl,I1.kept (t':=s1.toks) fun b o e=>qo _ e,pS a _,⟨_,ub _ rfl,rfl,rfl⟩,fun b hb=>?_,q⟩
 have e:b=s1.heap.objs.size:=by simpa using hb
 subst e;exact I1.fpOk (qk _) (I1.hok.fresh (qk _))
theorem vE{pins:v9}{σ:St}{H:Hp}{s:Shared}{R:It→Hp→Prop}{E:v8}{lo hi:Int}{t u v:Tok}{tk:Nat}(I:Inv X pins σ H s)(h1:-(2 ^ 62)≤lo)(h2:lo<2 ^ 62)(h3:-(2 ^ 62)≤hi)(h4:hi<2 ^ 62)
  (q:R (l9 lo (hi-lo).toNat) H):wpAny (model X.prog X.w) X.A (pyIter (.ref s.heap.objs.size)) (PIE X pins σ tg R) E { s with heap:=s.heap.push { cls:=.type "range",data:=.fields #[.int lo t,.int hi u,.int 1 v] },toks:=tk }:=by
 refine wpAny_pyIter_range (IsRange.new ..) (small_one h1 h2 h3 h4) ?_;have I1:Inv X pins σ H { s with heap:=s.heap.push { cls:=.type "range",data:=.fields #[.int lo t,.int hi u,.int 1 v] },toks:=tk }:=I.kept fun b o e=>qo _ e
 refine⟨(s.heap.push { cls:=.type "range",data:=.fields #[.int lo t,.int hi u,.int 1 v] }).objs.size,[(s.heap.push { cls:=.type "range",data:=.fields #[.int lo t,.int hi u,.int 1 v] }).objs.size],_,_,H,rfl,
  I1.kept (t':=tk) fun b o e=>qo _ e,xC _ lo (hi-lo).toNat,?_,fun b hb=>?_,q⟩
 ·have e1:lo+((0:Nat):Int)*1=lo:=by simp
  have e2:(((hi-lo).toNat:Nat):Int)-((0:Nat):Int)=Builtin.Range.rangeSize lo hi 1:=by rw[rangeSize_one];split<;>omega
  show IsRangeIter _ _ (lo+((0:Nat):Int)*1) ((((hi-lo).toNat:Nat):Int)-((0:Nat):Int)) 1
  rw[e1,e2];exact ub _ rfl
 ·have e:b=(s.heap.push { cls:=.type "range",data:=.fields #[.int lo t,.int hi u,.int 1 v] }).objs.size:=by simpa using hb
  subst e;exact I1.fpOk (qk _) (I1.hok.fresh (qk _))
def aEJ(ta:TA):TI:=fun σ H R=>ta σ H fun vs H1=>∃j:Int,vs=[.int j]∧-(2 ^ 62)≤j∧j<2 ^ 62∧R (l9 0 j.toNat) H1
def aEI(ta:TA):TI:=fun σ H R=>ta σ H fun vs H1=>∃i j:Int,vs=[.int i,.int j]∧(-(2 ^ 62)≤i∧i<2 ^ 62∧-(2 ^ 62)≤j∧j<2 ^ 62)∧R (l9 i (j-i).toNat) H1
theorem DV{a:Expr}{ta:TA}{p pos:Pos}(hg:Gl X "range")(hm:X.mg "range" = none)(ha:PA X [a] ta)(hs:starEach [a] X.env=[(false,eval a X.env)]:=by rfl):PI X tg (.Call (.Name "range" p) [a] [] pos) (aEJ ta):=by
 intro pins s σ H R I h;refine Call_ (eU I hg hm boot_range (se (ae (ha pos pins s σ H _ I h) fun us s1 ⟨vs,H1,I1,r1,q1⟩=>?_) hs rfl))
 obtain⟨j,e,q1,q2,q⟩:=q1;subst e;cases r1 with
 |cons r rr =>
  cases rr;obtain⟨t,rfl⟩:=r;exact call_range_1 (vE I1 (by omega) (by omega) q1 q2 (by simpa using q))
theorem DU{a b:Expr}{ta:TA}{p pos:Pos}(hg:Gl X "range")(hm:X.mg "range" = none)(ha:PA X [a,b] ta)(hs:starEach [a,b] X.env=[(false,eval a X.env),(false,eval b X.env)]:=by rfl)(dt:starEach [b] X.env=[(false,eval b X.env)]:=by rfl) :
  PI X tg (.Call (.Name "range" p) [a,b] [] pos) (aEI ta):=by
 intro pins s σ H R I h;refine Call_ (eU I hg hm boot_range (se (ae (ha pos pins s σ H _ I h) fun us s1 ⟨vs,H1,I1,r1,q1⟩=>?_) (by rw[hs,dt]) (by rw[dt];rfl)))
 obtain⟨i,j,e,⟨q1,q2,q3,q4⟩,q⟩:=q1;subst e;cases r1 with
 |cons r rr =>
  cases rr with
  |cons r' rr =>
   cases rr;obtain⟨t,rfl⟩:=r;obtain⟨t',rfl⟩:=r';exact call_range_2 (vE I1 q1 q2 q3 q4 q)
def aGR(wi:TI)(g:TG)(tb:TS):TS:=fun D σ H=>wi σ H fun J H1=>∃W:Nat→Nat→St→Hp→Prop,(∃m,W 0 m σ H1)∧∀i m σ H,W i m σ H →
 (J.stop i H∧D.nx σ H)∨(J.go i H∧∃N:St→Hp→Prop,(∀σ' H',N σ' H'→∃m',m'<m∧W (i+1) m' σ' H')∧∀x H',J.yld i H x H'→g x σ H' fun σ2 H2=>tb { D with nx:=N,ct:=N,bk:=D.nx } σ2 H2)
noncomputable def lE(fp:List Addr)(h:Heap):List (Addr×Obj):=fp.filterMap fun b=>(h.get? b).map fun o=>(b,o)
theorem hJ{fp:List Addr}{h:Heap}{b:Addr}{o:Obj}(hb:b∈fp)(e:h.get? b=some o):(b,o)∈lE fp h:=mem_filterMap.mpr ⟨b,hb,by rw[e];rfl⟩
theorem EA{fp:List Addr}{h:Heap}{p:Addr×Obj}(hp:p∈lE fp h):p.1∈fp∧h.get? p.1=some p.2:=by
 obtain⟨b,hb,e⟩:=mem_filterMap.mp hp;cases q:h.get? b with
 |none=>rw[q]at e;cases e
 |some o =>
  rw[q]at e;have e':(b,o)=p:=qu e
  subst e';exact⟨hb,q⟩
theorem Inv.pinned{pins:v9}{σ:St}{H:Hp}{s:Shared}{fp:List Addr}(I:Inv X pins σ H s)(hf:∀b∈fp,kY X pins H b)(ho:∀b∈fp,∃o,s.heap.get? b=some o∧∀v,o.data≠.cell v):Inv X (pins++lE fp s.heap) σ H s:=
 I.pins_of fun p hp=>(uy.mp hp).elim (fun z=>I.pin p (u0 _ z)) fun z=>by
  obtain⟨hb,e⟩:=EA z;obtain⟨f0,f1,f2,_⟩:=hf p.1 hb;obtain⟨o,e',d⟩:=ho p.1 hb;rw[e]at e';cases e';exact⟨e,f0,f1,f2,d⟩
theorem Inv.unpinned{pins pl:v9}{σ:St}{H:Hp}{s:Shared}(I:Inv X (pins++pl) σ H s):Inv X pins σ H s:=I.pins_of fun p hp=>I.pin p (u0 _ (List.mem_append_left _ hp))
theorem rY{iter:Expr}{body:List Stmt}{wi:TI}{g:TG}{tb:TS}{pos:Pos}(hp:PassesOwn (model X.prog X.w) X.A X.env X.xe)(hc:X.calm=true)(hi:PI X tg iter wi)(hg:PG X tg g)(hb:PSs X body tb)
  (hs:∀x,foldedSetIterable iter X.env x=pure x:=by intro _;rfl):PS X (.For tg iter body [] pos) (aGR wi g tb):=by
 intro pins s σ H D I h;refine wpAny_For (ae (hi pins s σ H _ I h) fun v s1 h1=>ae h1 fun itv s2 h2=>?_) hs
 obtain⟨it,fp,tn,J,H2,e,I2,T,mn,f2,W,⟨m0,w0⟩,turn⟩:=h2;subst e;have da:∀{H':Hp},(∀b∈fp,H' b=none)→∀b∈fp,kY X pins H' b:=fun hn b hb=>⟨hn b hb,(f2 b hb).2⟩
 refine codeAny_forLoop_any (fun n s'=>∃i σ' H',Inv X pins σ' H' s'∧tn i s'.heap∧(∀b∈fp,H' b=none)∧W i n σ' H') ?_ m0 ⟨0,σ,H2,I2,mn,fun b hb=>(f2 b hb).1,w0⟩
 rintro n s3 ⟨i,σ3,H3,I3,st3,fr3,w3⟩
 rcases turn i n σ3 H3 w3 with ⟨stop,qn⟩|⟨go,N,hN,step⟩
 ·refine wpAny_passesOwn hp (ae (T.done X rfl rfl rfl hc i pins s3 σ3 H3 X.xe I3 (da fr3) st3 stop) fun r s4 ⟨hr,I4⟩=>?_)
  subst hr;exact wpAny_execs_nil ⟨σ3,H3,I4,qn⟩
 ·refine wpAny_passesOwn hp (ae (T.item X rfl rfl rfl hc i pins s3 σ3 H3 X.xe I3 (da fr3) st3 go) fun r s4 ⟨u,hr,h4⟩=>?_)
  subst hr;refine wpAny_passesOwn hp (ae h4 fun _ s5 ⟨x,H5,I5,r5,y5,st5,fr5⟩=>?_)
  have I5':=I5.pinned (da fr5) (T.obj _ _ st5)
  refine wpAny_passesOwn hp (ae (hg _ s5 σ3 H5 x u _ I5' r5 (step x H5 y5)) fun _ s6 ⟨σ6,H6,I6,q6⟩=>?_)
  refine wpAny_passesOwn hp (ae (hb _ s6 σ6 H6 _ I6 q6) fun f s7 q7=>?_)
  have again:∀{σ7:St} {H7:Hp},Inv X (pins++lE fp s5.heap) σ7 H7 s7→N σ7 H7→∃m,m<n∧∃i σ' H',Inv X pins σ' H' s7∧tn i s7.heap∧(∀b∈fp,H' b=none)∧W i m σ' H':=fun {σ7 H7} I7 n7=>by
   obtain⟨m',hm,w7⟩:=hN σ7 H7 n7;refine⟨m',hm,i+1,σ7,H7,I7.unpinned,T.keep _ _ _ st5 fun b hb o e=>(I7.pin (b,o) (u0 _ (u0 _ (hJ hb e)))).1,fun b hb=>?_,w7⟩
   obtain⟨o,e,d⟩:=T.obj _ _ st5 b hb;exact(I7.pin (b,o) (u0 _ (u0 _ (hJ hb e)))).2.1
  cases f with
  |next=>obtain⟨σ7,H7,I7,n7⟩:=q7;exact again I7 n7
  |cont=>obtain⟨σ7,H7,I7,n7⟩:=q7;exact again I7 n7
  |brk=>obtain⟨σ7,H7,I7,q7⟩:=q7;exact⟨σ7,H7,I7.unpinned,q7⟩
  |ret v=>obtain⟨x7,σ7,H7,I7,r7,q7⟩:=q7;exact⟨x7,σ7,H7,I7.unpinned,r7,q7⟩
end
theorem wA{K:uz}{a:Addr}{xs:List V}{g:TG}{tb:TS}{D:Ends}{σ:St}{H:Hp}(Pv:Nat→St→Hp→Prop)(h0:Pv 0 σ H)(hl:∀i σ H,i≤xs.length→Pv i σ H→SqL K H a xs)
  (hs:∀i x σ H,xs[i]?=some x→Pv i σ H→g x σ H fun σ2 H2=>tb { D with nx:=Pv (i+1),ct:=Pv (i+1),bk:=D.nx } σ2 H2) (hd:∀σ H,Pv xs.length σ H→D.nx σ H) :
  ∃W:Nat→Nat→St→Hp→Prop,(∃m,W 0 m σ H)∧∀i m σ H,W i m σ H →
   ((mh K a).stop i H∧D.nx σ H)∨((mh K a).go i H∧∃N:St→Hp→Prop,(∀σ' H',N σ' H'→∃m',m'<m∧W (i+1) m' σ' H')∧∀x H',(mh K a).yld i H x H'→g x σ H' fun σ2 H2=>tb { D with nx:=N,ct:=N,bk:=D.nx } σ2 H2):=by
 refine⟨fun i m σ H=>m=xs.length-i∧i≤xs.length∧Pv i σ H,⟨xs.length,by simp,uu _,h0⟩,?_⟩
 rintro i m σ H ⟨rfl,hi,p⟩;have q:=hl i σ H hi p
 by_cases dy:i<xs.length
 ·refine .inr ⟨⟨xs,xs[i],q,by simp[dy]⟩,Pv (i+1),fun σ' H' p'=>⟨xs.length-(i+1),by omega,rfl,dy,p'⟩,fun x H' y=>?_⟩
  obtain⟨e,y⟩:=y;subst e;exact hs i x σ _ (y xs q) p
 ·have e:i=xs.length:=by omega
  subst e;exact .inl ⟨⟨xs,q,qk _⟩,hd σ H p⟩
abbrev R2:=V→V→Hp→VK→Prop
def OpR(X:Cx)(f:Value→Value→Sem Value)(r:R2):Prop:=
 ∀(pins:v9) (s:Shared) (σ:St) (H:Hp) (x y:V) (v u:Value) (Q:VK),Inv X pins σ H s→RelV x v→RelV y u→r x y H Q →
  wpAny (model X.prog X.w) X.A (f v u) (EP X pins σ Q) X.xe s
def UnR(X:Cx)(f:Value→Sem Value)(r:V→Hp→VK→Prop):Prop:=
 ∀(pins:v9) (s:Shared) (σ:St) (H:Hp) (x:V) (v:Value) (Q:VK),Inv X pins σ H s→RelV x v→r x H Q →
  wpAny (model X.prog X.w) X.A (f v) (EP X pins σ Q) X.xe s
def cX(X:Cx)(f:Value)(r:List V→Hp→VK→Prop):Prop:=
 ∀(pins:v9) (s:Shared) (σ:St) (H:Hp) (xs:List V) (us:List Value) (Q:VK),Inv X pins σ H s→aQ xs us→r xs H Q →
  wpAny (model X.prog X.w) X.A (call f us) (EP X pins σ Q) X.xe s
def aIn(X:Cx)(r:V→Hp→(Bool→Hp→Prop)→Prop):Prop:=
 ∀(pins:v9) (s:Shared) (σ:St) (H:Hp) (x:V) (v:Value) (Q:Bool→Hp→Prop),Inv X pins σ H s→RelV x v→r x H Q →
  wpAny (model X.prog X.w) X.A (truthy v) (TP X pins σ Q) X.xe s
def iy(r:R2)(ta tb:TE):TE:=fun σ H Q=>ta σ H fun x H1=>tb σ H1 fun y H2=>r x y H2 Q
def tUn(r:V→Hp→VK→Prop)(ta:TE):TE:=fun σ H Q=>ta σ H fun x H1=>r x H1 Q
noncomputable def rI(C:Int→Int→Prop)(g:Int→Int→V):R2:=fun x y H Q=>∃i j,x=.int i∧y=.int j∧C i j∧Q (g i j) H
noncomputable def jf(g:Int→Int→V):R2:=fun x y H Q=>∃i j,x=.int i∧y=.int j∧Q (g i j) H
noncomputable def rU(g:Int→V):V→Hp→VK→Prop:=fun x H Q=>∃i,x=.int i∧Q (g i) H
section
variable {X:Cx}{a b c:Expr}{ta tb tc:TE}{pos:Pos}
theorem aAD(ha:PE X a ta)(hb:PE X b tb){pins:v9}{s:Shared}{σ:St}{H:Hp}{R:V→V→Hp→Prop}(I:Inv X pins σ H s)
  (h:ta σ H fun x H1=>tb σ H1 fun y H2=>R x y H2) {Q:v8} {f:Value→Value→Sem Value}
  (hf:∀v u s2 x y H2,Inv X pins σ H2 s2→RelV x v→RelV y u→R x y H2→wpAny (model X.prog X.w) X.A (f v u) Q X.xe s2) :
  wpAny (model X.prog X.w) X.A (eval a X.env) (fun v s₁=>wpAny (model X.prog X.w) X.A (eval b X.env) (fun u s₂=>wpAny (model X.prog X.w) X.A (f v u) Q X.xe s₂) X.xe s₁) X.xe s:=by
 refine ae (ha pins s σ H _ I h) fun v s1 ⟨x,H1,I1,r1,q1⟩=>?_
 refine ae (hb pins s1 σ H1 _ I1 q1) fun u s2 ⟨y,H2,I2,r2,q2⟩=>?_
 exact hf v u s2 x y H2 I2 r1 r2 q2
theorem TX{op:Operator}{r:R2}(ho:OpR X (binaryOp op) r)(ha:PE X a ta)(hb:PE X b tb):PE X (.BinOp a op b pos) (iy r ta tb):=by
 intro pins s σ H Q I h;exact wpAny_BinOp (aAD ha hb I h fun v u s2 x y H2 I2 rx ry q=>ho pins s2 σ H2 x y v u Q I2 rx ry q)
theorem aDo{op:UnaryOp}{r:V→Hp→VK→Prop}(ho:UnR X (unaryOp op) r)(ha:PE X a ta):PE X (.UnaryOp op a pos) (tUn r ta):=by
 intro pins s σ H Q I h;exact UnaryOp_ (ae (ha pins s σ H _ I h) fun v s1 ⟨x,H1,I1,r1,q1⟩=>ho pins s1 σ H1 x v Q I1 r1 q1)
theorem opI{f:Value→Value→Sem Value}{C:Int→Int→Prop}{g:Int→Int→Int}
  (rule:∀(i j:Int) (t u:Tok) (s:Shared) (Q:v8) (E:v8),C i j→Q (.int (g i j) s.toks) { s with toks:=s.toks+1 }→wpAny (model X.prog X.w) X.A (f (.int i t) (.int j u)) Q E s) :
  OpR X f (rI C fun i j=>.int (g i j)):=by
 intro pins s σ H x y v u Q I rx ry h;obtain⟨i,j,rfl,rfl,hc,q⟩:=h;obtain⟨t,rfl⟩:=rx;obtain⟨t',rfl⟩:=ry;exact rule i j t t' s _ _ hc ⟨.int (g i j),H,I.tok _,⟨_,rfl⟩,q⟩
theorem aDz{f:Value→Value→Sem Value}{g:Int→Int→Int}
  (rule:∀(i j:Int) (t u:Tok) (s:Shared) (Q:v8) (E:v8),Q (.int (g i j) s.toks) { s with toks:=s.toks+1 }→wpAny (model X.prog X.w) X.A (f (.int i t) (.int j u)) Q E s) :
  OpR X f (jf fun i j=>.int (g i j)):=by
 intro pins s σ H x y v u Q I rx ry h;obtain⟨i,j,rfl,rfl,q⟩:=h;obtain⟨t,rfl⟩:=rx;obtain⟨t',rfl⟩:=ry;exact rule i j t t' s _ _ ⟨.int (g i j),H,I.tok _,⟨_,rfl⟩,q⟩
theorem QA{f:Value→Value→Sem Value}{g:Int→Int→Bool}
  (rule:∀(i j:Int) (t u:Tok) (s:Shared) (Q:v8) (E:v8),Q (.bool (g i j)) s→wpAny (model X.prog X.w) X.A (f (.int i t) (.int j u)) Q E s) :
  OpR X f (jf fun i j=>.bl (g i j)):=by
 intro pins s σ H x y v u Q I rx ry h;obtain⟨i,j,rfl,rfl,q⟩:=h;obtain⟨t,rfl⟩:=rx;obtain⟨t',rfl⟩:=ry;exact rule i j t t' s _ _ ⟨.bl (g i j),H,I,rfl,q⟩
def aIz(i j:Int):Prop:=0<j∧j<1073741824
def aIy(i j:Int):Prop:=0≤j∧j≤1000000∧i.natAbs<2 ^ 64
def aBb(i j:Int):Prop:=(-(2 ^ 64)<i∧i<2 ^ 64)∨(-(2 ^ 64)<j∧j<2 ^ 64)
theorem aBb.ok{i j:Int}(h:aBb i j):IntMulOk i j:=by
 rcases h with ⟨h1,h2⟩|⟨h1,h2⟩
 ·exact .of_left (intBits_le_64 h1 h2)
 ·exact .of_right (intBits_le_64 h1 h2)
theorem YM:OpR X (binaryOp .Add) (jf fun i j=>.int (i+j)):=aDz fun _ _ _ _ _ _ _ q=>add_int q
theorem YH:OpR X (binaryOp .Sub) (jf fun i j=>.int (i-j)):=aDz fun _ _ _ _ _ _ _ q=>sub_int q
theorem YJ:OpR X (binaryOp .Mult) (rI aBb fun i j=>.int (i*j)):=opI fun _ _ _ _ _ _ _ hc q=>mul_int q hc.ok
theorem PN:OpR X (binaryOp .FloorDiv) (rI aIz fun i j=>.int (i / j)):=opI fun i j _ _ _ _ _ hc q=>by
 have h1:(0:Int)<j:=hc.1
 have h2:j<1073741824:=hc.2
 exact floordiv_int (by omega) (by rw[Int.fdiv_eq_ediv_of_nonneg i (by omega)];exact q) (.inl (PyProof.noPylong_small (by omega)))
theorem YK:OpR X (binaryOp .Mod) (rI (fun _ j=>0<j) fun i j=>.int (i % j)):=opI fun i j _ _ _ _ _ hc q=>by
 have h1:(0:Int)<j:=hc
 exact mod_int' (by omega) (by rw[Int.fmod_eq_emod_of_nonneg i (by omega)];exact q)
theorem YI:OpR X (binaryOp .Pow) (rI aIy fun i j=>.int (i ^ j.toNat)):=opI fun _ _ _ _ _ _ _ hc q=>pow_int_small hc.1 hc.2.1 hc.2.2 q
theorem unI{f:Value→Sem Value}{g:Int→Int}
  (rule:∀(i:Int) (t:Tok) (s:Shared) (Q:v8) (E:v8),Q (.int (g i) s.toks) { s with toks:=s.toks+1 }→wpAny (model X.prog X.w) X.A (f (.int i t)) Q E s) :
  UnR X f (rU fun i=>.int (g i)):=by
 intro pins s σ H x v Q I rx h;obtain⟨i,rfl,q⟩:=h;obtain⟨t,rfl⟩:=rx;exact rule i t s _ _ ⟨.int (g i),H,I.tok _,⟨_,rfl⟩,q⟩
theorem VV:UnR X (unaryOp .USub) (rU fun i=>.int (-i)):=unI fun _ _ _ _ _ q=>neg_int q
end
noncomputable def xH:V→V→Bool
 |.non,.non=>true | .non,.int _=>true | .int _,.non=>true | .non,.bl _=>true | .bl _,.non=>true | .non,.str _=>true | .str _,.non=>true
 |.int _,.int _=>true | .bl _,.bl _=>true | .str _,.str _=>true | .byt _,.byt _=>true
 |.int _,.str _=>true | .str _,.int _=>true | .bl _,.str _=>true | .str _,.bl _=>true
 |_,_=>false
noncomputable def rEq:R2:=fun x y H Q=>xH x y=true∧Q (.bl (decide (x=y))) H
noncomputable def rNe:R2:=fun x y H Q=>xH x y=true∧Q (.bl (!decide (x=y))) H
theorem CF{i j:Int}:decide (V.int i=V.int j)=(i == j):=by
 rw[Bool.eq_iff_iff];simp
theorem KO{i j:Bool}:decide (V.bl i=V.bl j)=(i == j):=by
 rw[Bool.eq_iff_iff];simp
theorem uH{i j:Str}:decide (V.str i=V.str j)=(i == j):=by
 rw[Bool.eq_iff_iff];simp
theorem CG{i j:Array UInt8}:decide (V.byt i=V.byt j)=(i.toList == j.toList):=by
 rw[Bool.eq_iff_iff];cases i;cases j;simp
section
variable {X:Cx}{a b c:Expr}{ta tb tc:TE}{pos:Pos}
theorem aZ{pins:v9}{σ:St}{H:Hp}{s:Shared}{Q:VK}{k k':Bool}(I:Inv X pins σ H s)(q:Q (.bl k) H)(e:k=k'):EP X pins σ Q (.bool k') s:=by
 subst e;exact⟨.bl k,H,I,rfl,q⟩
theorem aDy:OpR X (compareOp .Eq) rEq:=by
 intro pins s σ H x y v u Q I rx ry h;obtain⟨hs,q⟩:=h;cases x with
 |non =>
  cases rx;cases y with
  |non=>cases ry;exact PySem.EqNone.eq_none_none (aZ I q (by simp))
  |bl j=>cases ry;exact PySem.EqNone.eq_none_bool (aZ I q (by simp))
  |int j=>obtain⟨t',rfl⟩:=ry;exact PySem.EqNone.eq_none_int (aZ I q (by simp))
  |str j=>obtain⟨t',rfl⟩:=ry;exact PySem.EqNone.eq_none_str (aZ I q (by simp))
  |_=>exact absurd (show false=true from hs) qx
 |bl i =>
  cases rx;cases y with
  |non=>cases ry;exact PySem.EqNone.eq_bool_none (aZ I q (by simp))
  |bl j=>cases ry;exact eq_bool (aZ I q KO)
  |str j=>obtain⟨t',rfl⟩:=ry;exact PySem.EqMixed.eq_bool_str (aZ I q (by simp))
  |_=>exact absurd (show false=true from hs) qx
 |int i =>
  obtain⟨t,rfl⟩:=rx;cases y with
  |non=>cases ry;exact PySem.EqNone.eq_int_none (aZ I q (by simp))
  |int j=>obtain⟨t',rfl⟩:=ry;exact eq_int (aZ I q CF)
  |str j=>obtain⟨t',rfl⟩:=ry;exact PySem.EqMixed.eq_int_str (aZ I q (by simp))
  |_=>exact absurd (show false=true from hs) qx
 |str i =>
  obtain⟨t,rfl⟩:=rx;cases y with
  |non=>cases ry;exact PySem.EqNone.eq_str_none (aZ I q (by simp))
  |bl j=>cases ry;exact PySem.EqMixed.eq_str_bool (aZ I q (by simp))
  |int j=>obtain⟨t',rfl⟩:=ry;exact PySem.EqMixed.eq_str_int (aZ I q (by simp))
  |str j=>obtain⟨t',rfl⟩:=ry;exact eq_str (aZ I q uH)
  |_=>exact absurd (show false=true from hs) qx
 |byt i =>
  obtain⟨t,rfl⟩:=rx;cases y with
  |byt j=>obtain⟨t',rfl⟩:=ry;exact PySem.W.eq_bytes (aZ I q CG)
  |_=>exact absurd (show false=true from hs) qx
 |_=>cases y<;>exact absurd (show false=true from hs) qx
theorem aDt:OpR X (compareOp .NotEq) rNe:=by
 intro pins s σ H x y v u Q I rx ry h;obtain⟨hs,q⟩:=h;cases x with
 |non =>
  cases rx;cases y with
  |non=>cases ry;exact PySem.EqNone.ne_none_none (aZ I q (by simp))
  |bl j=>cases ry;exact PySem.EqNone.ne_none_bool (aZ I q (by simp))
  |int j=>obtain⟨t',rfl⟩:=ry;exact PySem.EqNone.ne_none_int (aZ I q (by simp))
  |str j=>obtain⟨t',rfl⟩:=ry;exact PySem.EqNone.ne_none_str (aZ I q (by simp))
  |_=>exact absurd (show false=true from hs) qx
 |bl i =>
  cases rx;cases y with
  |non=>cases ry;exact PySem.EqNone.ne_bool_none (aZ I q (by simp))
  |bl j=>cases ry;exact ne_bool (aZ I q (congrArg not KO))
  |str j=>obtain⟨t',rfl⟩:=ry;exact PySem.EqMixed.ne_bool_str (aZ I q (by simp))
  |_=>exact absurd (show false=true from hs) qx
 |int i =>
  obtain⟨t,rfl⟩:=rx;cases y with
  |non=>cases ry;exact PySem.EqNone.ne_int_none (aZ I q (by simp))
  |int j=>obtain⟨t',rfl⟩:=ry;exact ne_int (aZ I q (congrArg not CF))
  |str j=>obtain⟨t',rfl⟩:=ry;exact PySem.EqMixed.ne_int_str (aZ I q (by simp))
  |_=>exact absurd (show false=true from hs) qx
 |str i =>
  obtain⟨t,rfl⟩:=rx;cases y with
  |non=>cases ry;exact PySem.EqNone.ne_str_none (aZ I q (by simp))
  |bl j=>cases ry;exact PySem.EqMixed.ne_str_bool (aZ I q (by simp))
  |int j=>obtain⟨t',rfl⟩:=ry;exact PySem.EqMixed.ne_str_int (aZ I q (by simp))
  |str j=>obtain⟨t',rfl⟩:=ry;exact ne_str (aZ I q (congrArg not uH))
  |_=>exact absurd (show false=true from hs) qx
 |byt i =>
  obtain⟨t,rfl⟩:=rx;cases y with
  |byt j=>obtain⟨t',rfl⟩:=ry;exact PySem.W.ne_bytes (aZ I q (congrArg not CG))
  |_=>exact absurd (show false=true from hs) qx
 |_=>cases y<;>exact absurd (show false=true from hs) qx
theorem aDu:OpR X (compareOp .Lt) (jf fun i j=>.bl (decide (i<j))):=QA fun _ _ _ _ _ _ _ q=>lt_int q
theorem aDv:OpR X (compareOp .LtE) (jf fun i j=>.bl (decide (i≤j))):=QA fun _ _ _ _ _ _ _ q=>le_int q
theorem aDw:OpR X (compareOp .Gt) (jf fun i j=>.bl (decide (j<i))):=QA fun _ _ _ _ _ _ _ q=>gt_int q
theorem aDx:OpR X (compareOp .GtE) (jf fun i j=>.bl (decide (j≤i))):=QA fun _ _ _ _ _ _ _ q=>ge_int q
theorem YL:OpR X (compareOp .Is) (fun x y H Q=>y=.non∧Q (.bl (decide (x=.non))) H):=by
 intro pins s σ H x y v u Q I rx ry h;obtain⟨rfl,q⟩:=h;cases ry;refine is_none_gen (aZ I q ?_);cases x<;>first
  | (cases rx;rfl)
  | (obtain⟨t,rfl⟩:=rx;rfl)
theorem PM:OpR X (compareOp .IsNot) (fun x y H Q=>y=.non∧Q (.bl (!decide (x=.non))) H):=by
 intro pins s σ H x y v u Q I rx ry h;obtain⟨rfl,q⟩:=h;cases ry;refine isnot_none_gen (aZ I q ?_);cases x<;>first
  | (cases rx;rfl)
  | (obtain⟨t,rfl⟩:=rx;rfl)
theorem OpR.or{f:Value→Value→Sem Value}{r r':R2}(h:OpR X f r)(h':OpR X f r'):OpR X f (fun x y H Q=>r x y H Q∨r' x y H Q):=by
 intro pins s σ H x y v u Q I rx ry q
 rcases q with q|q
 ·exact h pins s σ H x y v u Q I rx ry q
 ·exact h' pins s σ H x y v u Q I rx ry q
theorem IJ(b:Expr){op:CmpOp}(h:op≠.In:=by decide)(h2:op≠.NotIn:=by decide):behindInMarks op b=false:=by
 have e1:(op == CmpOp.In)=false:=by cases op<;>first|rfl|exact absurd rfl h
 have e2:(op == CmpOp.NotIn)=false:=by cases op<;>first|rfl|exact absurd rfl h2
 cases b<;>simp[behindInMarks,e1,e2]
theorem zT{op:CmpOp}{r:R2}(ho:OpR X (compareOp op) r)(ha:PE X a ta)(hb:PE X b tb)(hm:behindInMarks op b=false):PE X (.Compare a [op] [b] pos) (iy r ta tb):=by
 intro pins s σ H Q I h;exact wpAny_Compare1 (aAD ha hb I h fun v u s2 x y H2 I2 rx ry q=>ho pins s2 σ H2 x y v u Q I2 rx ry q) hm
noncomputable def GD(t:TE):TT:=fun σ H Q=>t σ H fun x H'=>∃k,x=.bl k∧Q k H'
theorem zO{op:CmpOp}{r:R2}(ho:OpR X (compareOp op) r)(ha:PE X a ta)(hb:PE X b tb)(hm:behindInMarks op b=false):PT X (.Compare a [op] [b] pos) (GD (iy r ta tb)):=by
 intro pins s σ H Q I h;refine wpAny_isTrue_Compare1 (ae (ha pins s σ H _ I h) fun v s1 ⟨x,H1,I1,r1,q1⟩=>ae (hb pins s1 σ H1 _ I1 q1) fun u s2 ⟨y,H2,I2,r2,q2⟩ =>
  ae (ho pins s2 σ H2 x y v u _ I2 r1 r2 q2) fun c s3 ⟨z,H3,I3,r3,k,e,q3⟩=>?_) hm
 subst e;cases r3;exact wpAny_truthy_bool ⟨H3,I3,q3⟩
def xE(r r':R2)(ta tb tc:TE):TE:=fun σ H Q=>ta σ H fun x H1=>tb σ H1 fun y H2=>r x y H2 fun z H3=>∃k,z=.bl k ∧
 (if k=true then tc σ H3 fun w' H4=>r' y w' H4 Q else Q (.bl false) H3)
theorem vJ{op cv:CmpOp}{r r':R2}(ho:OpR X (compareOp op) r)(gb:OpR X (compareOp cv) r')(ha:PE X a ta)(hb:PE X b tb)(hc:PE X c tc)
  (hm:lastMarks [op,cv] [b,c]=false:=by with_unfolding_all rfl):PE X (.Compare a [op,cv] [b,c] pos) (xE r r' ta tb tc):=by
 intro pins s σ H Q I h;refine Compare_chain (ae (ha pins s σ H _ I h) fun v s1 ⟨x,H1,I1,r1,q1⟩=>chain_link (ae (hb pins s1 σ H1 _ I1 q1) fun u s2 ⟨y,H2,I2,r2,q2⟩ =>
  ae (ho pins s2 σ H2 x y v u _ I2 r1 r2 q2) fun d s3 ⟨z,H3,I3,r3,k,e,q3⟩=>?_)) hm
 subst e;cases r3;refine wpAny_truthy_bool ?_;cases k with
 |false=>exact ite_ff ⟨.bl false,H3,I3,rfl,q3⟩
 |true=>exact ite_tt (chain_last (ae (hc pins s3 σ H3 _ I3 q3) fun w' s4 ⟨z',H4,I4,r4,q4⟩=>gb pins s4 σ H4 y z' u w' Q I4 r2 r4 q4))
theorem vH{op cv:CmpOp}{r r':R2}(ho:OpR X (compareOp op) r)(gb:OpR X (compareOp cv) r')(ha:PE X a ta)(hb:PE X b tb)(hc:PE X c tc)
  (hm:lastMarks [op,cv] [b,c]=false:=by with_unfolding_all rfl):PT X (.Compare a [op,cv] [b,c] pos) (GD (xE r r' ta tb tc)):=by
 intro pins s σ H Q I h;refine isTrue_chain (ae (ha pins s σ H _ I h) fun v s1 ⟨x,H1,I1,r1,q1⟩=>test_link (ae (hb pins s1 σ H1 _ I1 q1) fun u s2 ⟨y,H2,I2,r2,q2⟩ =>
  ae (ho pins s2 σ H2 x y v u _ I2 r1 r2 q2) fun d s3 ⟨z,H3,I3,r3,k,e,q3⟩=>?_)) hm
 subst e;cases r3;refine wpAny_truthy_bool ?_;cases k with
 |false =>
  obtain⟨k',e',q'⟩:=q3;cases e';exact ite_ff ⟨H3,I3,q'⟩
 |true =>
  refine ite_tt (test_last (ae (hc pins s3 σ H3 _ I3 q3) fun w' s4 ⟨z',H4,I4,r4,q4⟩=>ae (gb pins s4 σ H4 y z' u w' _ I4 r2 r4 q4) fun d' s5 ⟨z2,H5,I5,r5,k2,e2,q5⟩=>?_))
  subst e2;cases r5;exact wpAny_truthy_bool ⟨H5,I5,q5⟩
def aAI(K:uz)(x:V)(H:Hp)(k:Bool):Prop:=
 match x with
 |.non=>k=false
 |.bl b=>k=b
 |.int i=>k=(i != 0)
 |.str y=>y.length≤sizeLine∧k=((y.length:Int) != 0)
 |.byt y=>y.size≤sizeLine∧k=((y.size:Int) != 0)
 |.ref p=>(∃xs,SqL K H p xs∧k=!xs.isEmpty)∨(∃xs,SqT K H p xs∧k=!xs.isEmpty)∨∃kvs,H p=some (.dK kvs)∧k=!kvs.isEmpty
 |_=>False
theorem yL{κ:Type}{kvs:List (κ×V)}{vs:List (κ×Value)}(r:KV kvs vs):(!vs.isEmpty)=!kvs.isEmpty:=by
 cases r<;>rfl
theorem nY{xs:List V}{its:List Value}(r:aQ xs its):(!its.toArray.isEmpty)=!xs.isEmpty:=by
 cases r<;>simp
theorem jX:(sizeLine:Nat)<2 ^ 63:=by rw[sizeLine_eq];decide
theorem GB:aIn X (fun x H Q=>∃k,aAI X.K x H k∧Q k H):=by
 intro pins s σ H x v Q I rx h;obtain⟨k,e,q⟩:=h;have hl:=jX
 have hs:sizeLine=16777216:=sizeLine_eq
 cases x with
 |non =>
  cases rx;have e':k=false:=e
  subst e';exact truthy_none ⟨H,I,q⟩
 |bl b =>
  cases rx;have e':k=b:=e
  subst e';exact wpAny_truthy_bool ⟨H,I,q⟩
 |int i =>
  obtain⟨t,rfl⟩:=rx;have e':k=(i != 0):=e
  subst e';exact PySem.P.truthy_int ⟨H,I,q⟩
 |str y =>
  obtain⟨t,rfl⟩:=rx;obtain⟨hy,e'⟩:y.length≤sizeLine∧k=((y.length:Int) != 0):=e;subst e';exact PySem.P.truthy_str (by omega) ⟨H,I.tok _,q⟩
 |byt y =>
  obtain⟨t,rfl⟩:=rx;obtain⟨hy,e'⟩:y.size≤sizeLine∧k=((y.size:Int) != 0):=e;subst e';exact PySem.W.truthy_bytes (by omega) ⟨H,I.tok _,q⟩
 |ref p =>
  cases rx;have e':(∃xs,SqL X.K H p xs∧k=!xs.isEmpty)∨(∃xs,SqT X.K H p xs∧k=!xs.isEmpty)∨∃kvs,H p=some (.dK kvs)∧k=!kvs.isEmpty:=e
  rcases e' with ⟨xs,hx,e'⟩|⟨xs,hx,e'⟩|⟨kvs,hx,e'⟩
  ·subst e';obtain⟨its,r,pl,hz⟩:=I.list hx;have hlen:=r.length
   exact wpAny_truthy_list pl.isList (by simp only[qr];omega) ⟨H,I.tok _,by rw[nY r];exact q⟩
  ·subst e';obtain⟨its,r,pl,hz⟩:=I.tuple hx;have hlen:=r.length
   exact truthy_tuple pl (by simp only[qr];omega) ⟨H,I.tok _,by rw[nY r];exact q⟩
  ·subst e';obtain⟨hz,hS,vs,r,m⟩:kvs.length≤sizeLine∧(p == sysModules)=false∧∃vs,KV kvs vs∧s.heap.DictOf (bH X.prog X.w) p vs:=I.hok p _ hx;have hlen:kvs.length=vs.length:=Paired.length r
   exact wpAny_truthy_dict hS m (by omega) ⟨H,I.tok _,by rw[yL r];exact q⟩
 |_=>exact(show False from e).elim
theorem HE(ha:PE X a ta)(he:∀whole,isTrue a X.env whole=(do let v ←whole;standAt a.pos;holding [v] (truthy v))) :
  PT X a (fun σ H Q=>ta σ H fun x H'=>∃k,aAI X.K x H' k∧Q k H'):=by
 intro pins s σ H Q I h;exact isTrue_plain (ae (ha pins s σ H _ I h) fun v s1 ⟨x,H1,I1,r1,q1⟩=>GB pins s1 σ H1 x v Q I1 r1 q1) (he _)
theorem xU:OpR X (binaryOp .Add) (fun x y H Q=>∃i j,x=.str i∧y=.str j∧i.length+j.length≤sizeLine∧Q (.str (i++j)) H):=by
 intro pins s σ H x y v u Q I rx ry h;obtain⟨i,j,rfl,rfl,hz,q⟩:=h;obtain⟨t,rfl⟩:=rx;obtain⟨t',rfl⟩:=ry;exact add_str (fun t' tk=>⟨.str (i++j),H,I.tok _,⟨_,rfl⟩,q⟩) hz
theorem vals1{x:V}{us:List Value}(r:aQ [x] us):∃u,us=[u]∧RelV x u:=by
 cases r with
 |cons r1 r2=>cases r2;exact⟨_,rfl,r1⟩
theorem vals2{x y:V}{us:List Value}(r:aQ [x,y] us):∃u w',us=[u,w']∧RelV x u∧RelV y w':=by
 cases r with
 |cons r1 r2 =>
  cases r2 with
  |cons r3 r4=>cases r4;exact⟨_,_,rfl,r1,r3⟩
theorem FQ(hc:X.calm=true):cX X (.builtin "max") (fun xs H Q=>∃i j,xs=[.int i,.int j]∧Q (.int (if j > i then j else i)) H):=by
 intro pins s σ H xs us Q I r h;obtain⟨i,j,rfl,q⟩:=h;obtain⟨u,w',rfl,⟨t,rfl⟩,⟨t',rfl⟩⟩:=vals2 r;refine max_two_ints (I.ok.hd hc) fun h' tk k=>⟨_,H,I.kept k,?_,q⟩
 by_cases hj:j > i
 ·rw[if_pos hj,if_pos hj];exact⟨_,rfl⟩
 ·rw[if_neg hj,if_neg hj];exact⟨_,rfl⟩
theorem FP(hc:X.calm=true):cX X (.builtin "min") (fun xs H Q=>∃i j,xs=[.int i,.int j]∧Q (.int (if j<i then j else i)) H):=by
 intro pins s σ H xs us Q I r h;obtain⟨i,j,rfl,q⟩:=h;obtain⟨u,w',rfl,⟨t,rfl⟩,⟨t',rfl⟩⟩:=vals2 r;refine min_two_ints (I.ok.hd hc) fun h' tk k=>⟨_,H,I.kept k,?_,q⟩
 by_cases hj:j<i
 ·rw[if_pos hj,if_pos hj];exact⟨_,rfl⟩
 ·rw[if_neg hj,if_neg hj];exact⟨_,rfl⟩
theorem qV:cX X (.type "int") (fun xs H Q=>(∃i,xs=[.int i]∧Q (.int i) H)∨∃k,xs=[.bl k]∧Q (.int (if k then 1 else 0)) H):=by
 intro pins s σ H xs us Q I r h
 rcases h with ⟨i,rfl,q⟩|⟨k,rfl,q⟩
 ·obtain⟨u,rfl,t,rfl⟩:=vals1 r;exact call_int_int ⟨.int i,H,I,⟨_,rfl⟩,q⟩
 ·obtain⟨u,rfl,r1⟩:=vals1 r;cases r1;exact call_int_bool ⟨.int (if k then 1 else 0),H,I.tok _,⟨_,rfl⟩,q⟩
end
structure ObjM (h:Heap) (x dx C:Addr) (mA:va):Prop where
 obj:h.get? x=some (instObj C dx)
 ns:h.Ns1 dx mA
 ne:dx≠x
theorem EF{h:Heap}{dx:Addr}{mA:va}(n:h.Ns1 dx mA):∃od,h.get? dx=some od∧∀name,lookIn name od=some (mA name):=by
 obtain⟨o,es,ep,ho,hd,hk,_,hm⟩:=n;refine⟨o,ho,fun name=>?_⟩
 have e:=hm name
 unfold nsFind findBy at e;rw[←Array.find?_toList]at e;unfold lookIn;rw[hd];dsimp only;split
 ·rename_i y q;rw[q]at e;exact congrArg some e
 ·rename_i q;rw[q]at e;have a:es.toList.any (·.refKey)=false:=by
   rw[List.any_eq_false];intro y hy;obtain⟨z,t,hkey⟩:=hk y (Array.mem_toList_iff.mp hy);simp[DictEntry.refKey,hkey]
  have a':¬es.toList.any (·.refKey)=true:=by rw[a];exact qx
  rw[if_neg a'];exact congrArg some e
theorem ObjM.look{h:Heap}{x dx C:Addr}{mA:va}(I:ObjM h x dx C mA):∃od,PySem.W.InstAt h x (instObj C dx) C (some od)∧∀name,lookIn name od=some (mA name):=
 let ⟨od,ho,hl⟩:=EF I.ns
 ⟨od,⟨I.obj,rfl,rfl,ho⟩,hl⟩
section
variable {prog:v7}{w:World}{A:Around}{E:v8}{s:Shared}{K:uz}{x dx C f:Addr}{mA:va}{name:Str}{v:Value}
theorem get_map{expr:Bool}{Q:v8}(X:K.In s.heap)(I:ObjM s.heap x dx C mA)(hg:plainGet K C name=true)(hh:hasDictIn K C=true)
  (ha:findIn K (.ref C) name=some none) (hv:mA name=some v) (hv':handedIn v=true) (h:Q v { s with toks:=s.toks+1 }) :
  wpAny (model prog w) A (getAttr (.ref x) name expr) Q E s:=by
 obtain⟨od,J,hl⟩:=I.look;exact PySem.W.get_value X J (plainGet_of hg).1 (PySem.W.findObj_own hh ha rfl (by rw[hl,hv])) hv' h
theorem JQ{pl:Sem Bool}{Q:Value×List Value→Shared→Prop}(X:K.In s.heap)(I:ObjM s.heap x dx C mA)(hg:plainGet K C name=true)
  (hf:findIn K (.ref C) name=some (some (.ref f))) (ht:isFn K (.ref f)=true) (hv:mA name=none) (h:Q (.ref f,[.ref x]) s) :
  wpAny (model prog w) A (getMethod (.ref x) name pl) Q E s:=by
 obtain⟨od,J,hl⟩:=I.look;exact PySem.W.method_fn X J (plainGet_of hg).1 (plainGet_of hg).2 hf (su.mp ht) (by show (lookIn name od).map (·.isSome)=some false;rw[hl,hv];rfl) h
theorem NK{ns:List Str}{Q:Unit→Shared→Prop}(X:K.In s.heap)(I:ObjM s.heap x dx C mA)
  (hs:findIn K (.ref C) "__setattr__" = some (some (.builtin "object.__setattr__"))) (hp:plainOver K C=true) (ht:takerIn K C name=some none) (hh:hasDictIn K C=true)
  (hw:PySem.Within mA ns) (hsz:ns.length≤sizeLine)
  (h:∀h',ObjM h' x dx C (fun y=>if y=name then some v else mA y)→Heap.SameBut dx s.heap h'→Q () { s with heap:=h',toks:=s.toks+2 }) :
  wpAny (model prog w) A (setAttr (.ref x) name v) Q E s:=by
 obtain⟨od,J,hl⟩:=I.look;refine PySem.W.set_plain X J hs (PySem.W.osa_open (s:={ s with toks:=s.toks+1 }) (r:=none) X J hp ht fun b=>?_)
 obtain⟨cd,hc,hd'⟩:=PySem.W.any_some hh;have hx:s.heap.get? x=some ⟨.ref C,some dx,.plain,#[]⟩:=I.obj
 refine u2 (u7 (u2 (u2 (wpAny_loadPart hx (u2 (PySem.W.Looks.here (s:={ s with toks:=s.toks+1 }) (PySem.W.looks_clsIn X hc) ?_))))))
 rw[hd'];refine u7 (a:=some dx) (u2 (u7 (u2 ?_)));refine wpAny_nsSet1 (s:={ s with toks:=s.toks+1 }) I.ns fun h' ji dt=>?_
 obtain⟨oD,esD,epD,hoD,hdD,hcD⟩:=ji.count (PySem.Within.cons name v hw);refine u2 (wpAny_lookBehind hoD (by rw[hdD];exact pastItsLine_dict (rj hcD (by rw[ui];omega))) ?_)
 exact u7 (h _ ⟨(dt.2 _ (Ne.symm I.ne)).trans I.obj,ji,I.ne⟩ dt)
theorem IT{R:Result→Shared→Prop}{vs:List Value}{kw:List (Str×Value)}(X:K.In s.heap)(hm:makesIn K C=true)
  (hi:findIn K (.ref C) "__init__" = some (some (.ref f))) (hf:PySem.W.typeIn K (.ref f)=some (.type "function"))
  (h:codeAny (model prog w) (A.under (.builtin "type.__call__" ⟨.ref C::vs,kw⟩)) (.call (.ref f) ⟨.ref (s.heap.objs.size+1)::vs,kw⟩) (PySem.W.InitBack (s.heap.objs.size+1) R)
   {s with heap:=(s.heap.push emptyDict).push (instObj C s.heap.objs.size) }) :
  codeAny (model prog w) A (.call (.ref C) ⟨vs,kw⟩) R s:=by
 obtain⟨hh,g,d,t,os⟩:=s;exact PySem.W.make_core (PySem.W.makes_of X hm) (PySem.W.looks_findIn X hi) (fun self=>PySem.W.bind_fn X self hf) (.inl rfl) h
end
noncomputable def iI(f:Str)(v:V):List (Str×V)→List (Str×V)
 |[]=>[(f,v)]
 | (g,x)::r=>if g=f then(g,v)::r else(g,x)::iI f v r
theorem mD(f g:Str)(v:V):∀fs:List (Str×V),(iI f v fs).lookup g=if g=f then some v else fs.lookup g
 |[]=>by
  show List.lookup g [(f,v)]=_
  by_cases h:g=f
  ·have hb:(g == f)=true:=su.mpr h
   simp only[List.lookup,hb,if_pos h]
  ·have hb:(g == f)=false:=tj.mpr h
   simp only[List.lookup,hb,if_neg h]
 | (k,x)::r=>by
  have ih:=mD f g v r
  rw[show iI f v ((k,x)::r)=(if k=f then(k,v)::r else(k,x)::iI f v r) from rfl]
  by_cases hk:k=f
  ·rw[if_pos hk]
   by_cases h:g=k
   ·have hb:(g == k)=true:=su.mpr h
    simp only[List.lookup,hb,if_pos (h.trans hk)]
   ·have hb:(g == k)=false:=tj.mpr h
    simp only[List.lookup,hb,if_neg (fun e:g=f=>h (e.trans hk.symm))]
  ·rw[if_neg hk]
   by_cases h:g=k
   ·have hb:(g == k)=true:=su.mpr h
    simp only[List.lookup,hb,if_neg (fun e:g=f=>hk (h.symm.trans e))]
   ·have hb:(g == k)=false:=tj.mpr h
    simp only[List.lookup,hb];exact ih
theorem lL(f:Str)(v:V):∀fs:List (Str×V),f∈(iI f v fs).map (·.1)∧∀g,g∈fs.map (·.1)→g∈(iI f v fs).map (·.1)
 |[]=>⟨by simp[iI],fun g h=>by simp at h⟩
 | (k,x)::r=>by
  obtain⟨i1,i2⟩:=lL f v r;rw[show iI f v ((k,x)::r)=(if k=f then(k,v)::r else(k,x)::iI f v r) from rfl]
  by_cases hk:k=f
  ·rw[if_pos hk];subst hk;exact⟨by simp,fun g h=>by simpa using h⟩
  ·rw[if_neg hk];refine⟨?_,fun g h=>?_⟩
   ·rw[sq];exact qq _ i1
   ·rw[sq]at h ⊢
    rcases rz.mp h with e|e
    ·exact rz.mpr (.inl e)
    ·exact qq _ (i2 g e)
theorem mE(f:Str)(v:V):∀fs:List (Str×V),(iI f v fs).length≤fs.length+1
 |[]=>by simp[iI]
 | (k,x)::r=>by
  have ih:=mE f v r
  rw[show iI f v ((k,x)::r)=(if k=f then(k,v)::r else(k,x)::iI f v r) from rfl]
  by_cases hk:k=f
  ·rw[if_pos hk,ui,ui];omega
  ·rw[if_neg hk,ui,ui];omega
theorem gI.some_of{v:V}{o:Option Value}(r:gI (some v) o):∃u,o=some u∧RelV v u:=by
 cases o with
 |none=>exact(show False from r).elim
 |some u=>exact⟨u,rfl,r⟩
theorem gI.none_of{o:Option Value}(r:gI none o):o=none:=by
 cases o with
 |none=>rfl
 |some u=>exact(show False from r).elim
theorem ES{v:V}{u:Value}(r:RelV v u):handedIn u=true:=by
 cases v with
 |non=>cases (show u=Value.none from r);rfl
 |bl b=>cases (show u=Value.bool b from r);rfl
 |int i=>obtain⟨t,e⟩:=(show ∃t,u=Value.int i t from r);cases e;rfl
 |str x=>obtain⟨t,e⟩:=(show ∃t,u=Value.str x t from r);cases e;rfl
 |byt b=>obtain⟨t,e⟩:=(show ∃t,u=Value.bytes b t from r);cases e;rfl
 |flt b=>obtain⟨t,e⟩:=(show ∃t,u=Value.float b t from r);cases e;rfl
 |ref a=>cases (show u=Value.ref a from r);rfl
 |ty n=>cases (show u=Value.type n from r);rfl
section
variable {P:v7}{w:World}{H H':Hp}{h h':Heap}{a C dx:Addr}{fs fs':List (Str×V)}
theorem mS(hok:HOk P w H h)(e:H a=some (.ins C dx fs)):∃mA,ObjM h a dx C mA∧(∀f,gI (fs.lookup f) (mA f))∧PySem.Within mA (fs.map (·.1))∧fs.length≤1000∧H dx=some (.own a):=by
 obtain⟨d,z,ne,ob,mA,n,r,q⟩:=(show bT P w H h a (.ins C dx fs) from hok a _ e)
 exact⟨mA,⟨ob,n,ne⟩,r,q,z,d⟩
end
structure Cls (K:uz) (C:Addr):Prop where
 pg:plainGet K C Str.empty=true
 hd:hasDictIn K C=true
 po:plainOver K C=true
 sa:findIn K (.ref C) "__setattr__" = some (some (.builtin "object.__setattr__"))
theorem Cls.get{K:uz}{C:Addr}(c:Cls K C)(f:Str):plainGet K C f=true:=c.pg
def dZ(K:uz)(C:Addr)(f:Str):Prop:=findIn K (.ref C) f=some none
theorem dZ.taker{K:uz}{C:Addr}{f:Str}(n:dZ K C f):takerIn K C f=some none:=by
 unfold takerIn;rw[show findIn K (.ref C) f=some none from n]
 rfl
structure Con (K:uz) (C:Addr) (f:Str) (v:V) (u:Value):Prop where
 at_:findIn K (.ref C) f=some (some u)
 rel:RelV v u
 get:specialIn K u "__get__" = some none
 cp:PySem.W.copiedNames.contains f=false
structure gy (K:uz) (C:Addr) (m:Str) (f:Addr):Prop where
 at_:findIn K (.ref C) m=some (some (.ref f))
 fn:isFn K (.ref f)=true
 kp:keepIn K (.ref f)=true
section
variable {X:Cx}{pins:v9}{σ:St}{H:Hp}{s:Shared}{a C dx:Addr}{fs:List (Str×V)}{f:Str}{v:V}{A:Around}{E:v8}
theorem yP{b:Bool}{Q:v8}(I:Inv X pins σ H s)(e:H a=some (.ins C dx fs))(c:Cls X.K C)(n:dZ X.K C f)(l:fs.lookup f=some v)
  (h:∀u s',Inv X pins σ H s'→RelV v u→Q u s'):wpAny (model X.prog X.w) A (getAttr (.ref a) f b) Q E s:=by
 obtain⟨mA,O,r,_,_,_⟩:=mS I.hok e;obtain⟨u,hu,ru⟩:=gI.some_of (v:=v) (o:=mA f) (by rw[←l];exact r f)
 exact get_map I.kIn O (c.get f) c.hd n hu (ES ru) (h u _ (I.tok _) ru)
theorem oH{m:Str}{g:Addr}{pl:Sem Bool}{Q:Value×List Value→Shared→Prop}(I:Inv X pins σ H s)(e:H a=some (.ins C dx fs))(c:Cls X.K C)(k:gy X.K C m g)(l:fs.lookup m=none)
  (h:Q (.ref g,[.ref a]) s):wpAny (model X.prog X.w) A (getMethod (.ref a) m pl) Q E s:=by
 obtain⟨mA,O,r,_,_,_⟩:=mS I.hok e;have hn:mA m=none:=gI.none_of (by rw[←l];exact r m)
 exact JQ I.kIn O (c.get m) k.at_ k.fn hn h
theorem xG{y:V}{u:Value}{Q:Unit→Shared→Prop}(I:Inv X pins σ H s)(e:H a=some (.ins C dx fs))(c:Cls X.K C)(n:dZ X.K C f)(hl:fs.length<1000)(ry:RelV y u)
  (h:∀s',Inv X pins σ (upd H a (.ins C dx (iI f y fs))) s'→Q () s'):wpAny (model X.prog X.w) A (setAttr (.ref a) f u) Q E s:=by
 obtain⟨mA,O,r,wi,_,ho⟩:=mS I.hok e;have hz:(fs.map (·.1)).length≤sizeLine:=by rw[qj,sizeLine_eq];omega
 refine NK I.kIn O c.sa c.po n.taker c.hd wi hz fun h' O' sb=>h _ ?_
 have hd:∃o,h'.get? dx=some o:=let ⟨o,_,_,e',_⟩:=O'.ns;⟨o,e'⟩
 refine I.write (x:=a) (e:=dx) (by rw[e];exact True.intro) (.inr ho) (fun b q hb z=>(sb.2 b hb).trans z) hd ?_
 refine⟨by rw[aG O.ne];exact ho,?_,O.ne,O'.obj,_,O'.ns,fun g=>?_,fun g hg=>?_⟩
 ·have:=mE f y fs;omega
 ·show gI ((iI f y fs).lookup g) (if g=f then some u else mA g)
  rw[mD]
  by_cases q:g=f
  ·rw[if_pos q,if_pos q];exact ry
  ·rw[if_neg q,if_neg q];exact r g
 ·by_cases q:g=f
  ·rw[q];exact(lL f y fs).1
  ·refine(lL f y fs).2 g (wi g fun z=>hg ?_)
   show (if g=f then some u else mA g)=none
   rw[if_neg q];exact z
theorem Inv.made(I:Inv X pins σ H s):Inv X pins σ (upd (upd H s.heap.objs.size (.own (s.heap.objs.size+1))) (s.heap.objs.size+1) (.ins C s.heap.objs.size []))
  {s with heap:=(s.heap.push emptyDict).push (instObj C s.heap.objs.size) }:=by
 have e1:(s.heap.push emptyDict).get? s.heap.objs.size=some emptyDict:=ub s.heap rfl
 have e2:((s.heap.push emptyDict).push (instObj C s.heap.objs.size)).get? (s.heap.objs.size+1)=some (instObj C s.heap.objs.size):=by
  have:=ub (s.heap.push emptyDict) (o:=instObj C s.heap.objs.size) rfl
  rwa [size_push]at this
 have e3:(s.heap.push emptyDict).Ns s.heap.objs.size (fun _=>none):=⟨emptyDict,#[],_,e1,rfl,(fun e he=>absurd he (by simp)),fun _=>rfl⟩
 have I1:=I.laid (a:=s.heap.objs.size) (o:=.own (s.heap.objs.size+1)) (h':=s.heap.push emptyDict) (t':=s.toks) (fun b u q=>qo _ q) (qk _) ⟨_,e1⟩
 refine I1.laid (a:=s.heap.objs.size+1) (o:=.ins C s.heap.objs.size []) (t':=s.toks) (fun b u q=>qo _ q) (Nat.le_of_eq (size_push _ _)) ?_
 have ne:s.heap.objs.size≠s.heap.objs.size+1:=tm (ug _)
 refine⟨by rw[aG ne,aH],uu _,ne,e2,fun _=>none,(Heap.Ns1.of_empty e3).at fun o q=>qo _ q,fun _=>True.intro,fun y hy=>absurd rfl hy⟩
theorem SO{prog:v7}{w:World}{env:Env}{e:Expr}{f:Str}{pos:Pos}{s:Shared}{Q:v8}(hb:attributeBase e f env (eval e env)=eval e env)
  (h:wpAny (model prog w) A (eval e env) (fun o s₁=>wpAny (model prog w) A (getAttr o f true) Q E s₁) E s):wpAny (model prog w) A (eval (.Attribute e f pos) env) Q E s:=
 Attribute_any_ h (by rw[arm_eval_Attribute,hb])
end
def aGS(K:uz)(ta:TE)(f:Str):TE:=fun σ H Q=>ta σ H fun x H1=>∃a C dx fs v,x=.ref a∧H1 a=some (.ins C dx fs)∧Cls K C∧dZ K C f∧fs.lookup f=some v∧Q v H1
def aHd(K:uz)(ta tv:TE)(f:Str):TS:=fun D σ H=>tv σ H fun y H1=>ta σ H1 fun x H2=>∃a C dx fs,x=.ref a∧H2 a=some (.ins C dx fs)∧Cls K C∧dZ K C f∧fs.length<1000 ∧
 D.nx σ (upd H2 a (.ins C dx (iI f y fs)))
section
variable {X:Cx}{o e value:Expr}{f:Str}{pos pos' tpos:Pos}{ta tv:TE}
theorem YE(he:PE X e ta)(hb:attributeBase e f X.env (eval e X.env)=eval e X.env):PE X (.Attribute e f pos) (aGS X.K ta f):=by
 intro pins s σ H Q I h;refine SO hb (ae (he pins s σ H _ I h) fun u s1 ⟨x,H1,I1,rx,a,C,dx,fs,v,ex,ea,c,n,l,q⟩=>?_)
 subst ex;obtain rfl:u=Value.ref a:=rx;exact yP I1 ea c n l fun u' s2 I2 ru=>⟨v,H1,I2,ru,q⟩
theorem XW(ha:PE X o ta)(hv:PE X value tv)(hs:swapsWith value (some (.Attribute o f pos')) pos.line X.env=pure false):PS X (.Assign [.Attribute o f pos'] value pos) (aHd X.K ta tv f):=by
 intro pins s σ H D I h;refine plainObj_wpAny_Assign_Attribute (ae (hv pins s σ H _ I h) fun u s1 ⟨y,H1,I1,ry,q⟩=>ae (ha pins s1 σ H1 _ I1 q) fun ov s2 ⟨x,H2,I2,rx,a,C,dx,fs,ex,ea,c,n,l,q2⟩=>?_) hs
 subst ex;obtain rfl:ov=Value.ref a:=rx;exact xG I2 ea c n l ry fun s3 I3=>⟨σ,_,I3,q2⟩
end
section
variable {X:Cx}{pins:v9}{σ:St}{H:Hp}{s:Shared}{A:Around}{E:v8}{Q:v8}{c:Value}{b:Bool}
inductive bj (K:uz) (H:Hp):V→Value→Prop where
 |non:bj K H .non (.type "NoneType")
 |bl (x:Bool):bj K H (.bl x) (.type "bool")
 |int (i:Int):bj K H (.int i) (.type "int")
 |str (x:Str):bj K H (.str x) (.type "str")
 |flt (x:UInt64):bj K H (.flt x) (.type "float")
 |lst {a:Addr} {xs:List V} (e:H a=some (.lst xs)):bj K H (.ref a) (.type "list")
 |frz {a:Addr} {o:Obj} {xs:List V} (e:H a=some (.frz o (.lst xs))):bj K H (.ref a) (.type "list")
 |tup {a:Addr} {xs:List V} (e:H a=some (.tup xs)):bj K H (.ref a) (.type "tuple")
 |dK {a:Addr} {kvs:List (Key×V)} (e:H a=some (.dK kvs)):bj K H (.ref a) (.type "dict")
 |dT {a:Addr} {kvs:List (List Key×V)} (e:H a=some (.dT kvs)):bj K H (.ref a) (.type "dict")
 |ins {a C dx:Addr} {fs:List (Str×V)} (e:H a=some (.ins C dx fs)) (cl:Cls K C) (ha:findIn K (.ref C) "__class__" = some (some (.builtin "object.__class__")))
   (hn:specialIn K (.builtin "object.__class__") "__get__" = some (some (.builtin "getset_descriptor.__get__"))) (la:takesIn K (.builtin "object.__class__")=some true)
   (hm:mroIn K C (.type "object")=some true):bj K H (.ref a) (.ref C)
theorem gP{x:V}{u t:Value}(I:Inv X pins σ H s)(rx:RelV x u)(ty:bj X.K H x t)(e:kitOne X.K t c=some b)(h:∀tk,Q (.bool b) { s with toks:=tk }) :
  wpAny (model X.prog X.w) A (call (.builtin "isinstance") [u,c]) Q E s:=by
 cases ty with
 |non=>cases (show u=Value.none from rx);exact kia_one PySem.W.kitx_none I.kIn True.intro e (fun z=>nomatch z) h
 |bl y=>cases (show u=Value.bool y from rx);exact kia_one PySem.W.kitx_bool I.kIn True.intro e (fun z=>nomatch z) h
 |int i=>obtain⟨t,q⟩:=(show ∃t,u=Value.int i t from rx);cases q;exact kia_one PySem.W.kitx_int I.kIn True.intro e (fun z=>nomatch z) h
 |str y=>obtain⟨t,q⟩:=(show ∃t,u=Value.str y t from rx);cases q;exact kia_one PySem.W.kitx_str I.kIn True.intro e (fun z=>nomatch z) h
 |flt y=>obtain⟨t,q⟩:=(show ∃t,u=Value.float y t from rx);cases q;exact kia_one PySem.W.kitx_float I.kIn True.intro e (fun z=>nomatch z) h
 | @lst a xs ea =>
  cases (show u=Value.ref a from rx)
  obtain⟨_,_,n,_,h1⟩:=(show bT X.prog X.w H s.heap a (.lst xs) from I.hok a _ ea)
  exact kia_one kitx_list I.kIn ⟨_,h1,rfl⟩ e (fun z=>nomatch z) h
 | @frz a ob xs ea =>
  cases (show u=Value.ref a from rx)
  obtain⟨_,_,_,n,_,h1⟩:=(show bT X.prog X.w H s.heap a (.frz ob (.lst xs)) from I.hok a _ ea)
  exact kia_one kitx_list I.kIn ⟨_,h1,rfl⟩ e (fun z=>nomatch z) h
 | @tup a xs ea =>
  cases (show u=Value.ref a from rx)
  obtain⟨_,_,_,p⟩:=(show bT X.prog X.w H s.heap a (.tup xs) from I.hok a _ ea)
  obtain⟨o,h1,h2,_⟩:=p;exact kia_one PySem.W.kitx_tuple I.kIn ⟨o,h1,h2⟩ e (fun z=>nomatch z) h
 | @dK a kvs ea =>
  cases (show u=Value.ref a from rx)
  obtain⟨_,_,vs,_,p⟩:=(show bT X.prog X.w H s.heap a (.dK kvs) from I.hok a _ ea)
  obtain⟨o,es,ep,h1,h2,_⟩:=p;exact kia_one kitx_dict I.kIn ⟨o,h1,h2.1⟩ e (fun z=>nomatch z) h
 | @dT a kvs ea =>
  cases (show u=Value.ref a from rx)
  obtain⟨_,_,xs,_,o,es,ep,h1,h2,_⟩:=(show bT X.prog X.w H s.heap a (.dT kvs) from I.hok a _ ea)
  exact kia_one kitx_dict I.kIn ⟨o,h1,h2.1⟩ e (fun z=>nomatch z) h
 | @ins a C dx fs ea cl ha hn la hm =>
  cases (show u=Value.ref a from rx)
  obtain⟨mA,O,_⟩:=mS I.hok ea;obtain⟨od,J,_⟩:=O.look;exact kia_one (PySem.W.kitx_own (cl.get _) cl.hd ha hn la hm) I.kIn J e (fun z=>nomatch z) h
end
structure Room (k:Nat) (A:Around):Prop where
 hd:A.handled=none
 dp:A.depth+3*k+5<recursionLimit
 un:A.units+16*k+200<cLine
theorem Room.mono{j k:Nat}{A:Around}(r:Room k A)(h:j≤k):Room j A:=⟨r.hd,by have:=r.dp;omega,by have:=r.un;omega⟩
theorem Room.deeper{k:Nat}{A:Around}(r:Room (k+1) A)(env:Env):Room k (A.deeper env):=
 ⟨r.hd,by have:=r.dp;show A.depth+1+3*k+5<_;omega,by have:=r.un;show A.units+3+16*k+200<_;omega⟩
theorem yC{A:Around}{C:Addr}{us:List Value}{kw:List (Str×Value)}:(A.under (.builtin "type.__call__" ⟨.ref C::us,kw⟩)).depth=A.depth+1:=by
 first|rfl|simp[Around.under,Code.weight,Code.isCreation,Code.isGuard,Code.isCaller,Code.frames,Code.isFrame,guardIds]
theorem yB{A:Around}{C:Addr}{us:List Value}{kw:List (Str×Value)}:(A.under (.builtin "type.__call__" ⟨.ref C::us,kw⟩)).units=A.units+1:=by
 first|rfl|simp[Around.under,Code.cUnits,Code.frames,Code.isFrame]
theorem Room.make{k:Nat}{A:Around}(r:Room (k+1) A)(C:Addr)(us:List Value)(kw:List (Str×Value)):Room k (A.under (.builtin "type.__call__" ⟨.ref C::us,kw⟩)):=
 ⟨r.hd,by have:=r.dp;rw[yC];omega,by have:=r.un;rw[yB];omega⟩
theorem Room.depth{k:Nat}{A:Around}(r:Room k A):A.depth<recursionLimit:=by have:=r.dp;omega
theorem Room.units{k:Nat}{A:Around}(r:Room k A):A.units+64<cLine:=by have:=r.un;omega
def GE:TA:=fun _ H Q=>Q [] H
def iL(ta:TE)(tr:TA):TA:=fun σ H Q=>ta σ H fun x H1=>tr σ H1 fun xs H2=>Q (x::xs) H2
section
variable {X:Cx}{e:Expr}{es:List Expr}{te:TE}{t:TA}{pos:Pos}
theorem bU:PA X [] GE:=fun _ _ _ _ H Q I h=>Calls.spliced_nil ⟨[],H,I,.nil,h⟩
theorem aR(ha:PE X e te)(hr:PA X es t)(hs:starEach (e::es) X.env=(false,eval e X.env)::starEach es X.env:=by rfl):PA X (e::es) (iL te t):=by
 intro pos pins s σ H Q I h;rw[hs];show wpAny _ _ (spliced ((false,eval e X.env)::backTo pos (starEach es X.env))) _ _ s
 refine Calls.spliced_cons (ae (ha pins s σ H _ I h) fun u s1 ⟨x,H1,I1,r1,q1⟩=>?_)
 exact ae (hr pos pins s1 σ H1 _ I1 q1) fun us s2 ⟨xs,H2,I2,r2,q2⟩=>⟨x::xs,H2,I2,.cons r1 r2,q2⟩
def aGN(t:TA):TE:=fun σ H Q=>t σ H fun xs H1=>xs.length≤sizeLine∧∀p,H1 p=none→Q (.ref p) (upd H1 p (.tup xs))
def aBV(t:TA):TE:=fun σ H Q=>t σ H fun xs H1=>xs.length≤sizeLine∧∀p,H1 p=none→Q (.ref p) (upd H1 p (.lst xs))
theorem XZ{x1}(h:PA X es t):PE X (.Tuple es x1 pos) (aGN t):=by
 intro pins s σ H Q I hq;refine wpAny_Tuple_spliced (ae (h pos pins s σ H _ I hq) fun us s1 ⟨xs,H1,I1,r,z,q⟩=>⟨by rw[←r.length];exact z,?_⟩)
 have hf:H1 s1.heap.objs.size=none:=I1.hok.fresh (qk _)
 refine⟨.ref s1.heap.objs.size,upd H1 s1.heap.objs.size (.tup xs),I1.laid (t':=s1.toks) (fun b u e=>qo _ e) (qk _) ?_,rfl,q _ hf⟩
 exact⟨z,us,r,⟨_,ub _ rfl,rfl,_,rfl⟩⟩
theorem nP(h:PA X es t):PE X (.List es pos) (aBV t):=by
 intro pins s σ H Q I hq;refine wpAny_List_spliced (ae (h pos pins s σ H _ I hq) fun us s1 ⟨xs,H1,I1,r,z,q⟩=>⟨by rw[←r.length];exact z,?_⟩)
 have hf:H1 s1.heap.objs.size=none:=I1.hok.fresh (qk _)
 refine⟨.ref s1.heap.objs.size,upd H1 s1.heap.objs.size (.lst xs),I1.laid (t':=s1.toks) (fun b u e=>qo _ e) (qk _) ?_,rfl,q _ hf⟩
 exact⟨z,us,0,r,ub _ rfl⟩
end
abbrev Sp:=List V→Hp→VK→XK→Prop
abbrev aj:=List Env→Hp→Shared→XK→Value→Shared→Prop
structure Env0 (P:v7) (w:World) (K:uz) (mg:va) (base:Heap) (A:Around) (outer:List Env) (s:Shared) (H:Hp):Prop where
 frames:A.frames=some outer
 mod:Mod K mg base
 bs:∀b o,base.get? b=some o→s.heap.get? b=some o∧H b=none
 bsz:base.objs.size≤s.heap.objs.size
 funs:s.heap.FunFrames base outer
 frf:∀b∈frs outer,H b=none
 hok:HOk P w H s.heap
 bare:AllBare s.gens
def CE(outer:List Env)(P:v7)(w:World)(H:Hp)(s:Shared)(Q:VK)(u:Value)(s':Shared):Prop:=
 ∃v H',s'.os=s.os∧AllBare s'.gens∧Un (frs outer) [] H H' s.heap s'.heap∧HOk P w H' s'.heap∧RelV v u∧Q v H'
def CR(CX:aj)(outer:List Env)(P:v7)(w:World)(H:Hp)(s:Shared)(Q:VK)(E:XK)(r:Result)(s':Shared):Prop:=
 match r with
 |.ok (.ret u)=>CE outer P w H s Q u s'
 |.ok _=>False
 |.error e=>CX outer H s E e s'
structure FnOk (P:v7) (w:World) (K:uz) (mg:va) (base:Heap) (CX:aj) (k:Nat) (f:Addr) (fd:v3) (ps:List Str) (sp:Sp):Prop where
 len:∀vs H Q E,sp vs H Q E→vs.length=ps.length
 run:∀(A:Around) (outer:List Env) (s:Shared) (H:Hp) (args:Args) (us:List Value) (vs:List V) (Q:VK) (E:XK),Room k A→Env0 P w K mg base A outer s H→BindsTo s fd args (ps.zip us)→aQ vs us→sp vs H Q E →
  codeAny (model P w) A (.call (.ref f) args) (CR CX outer P w H s Q E) s
theorem FnOk.mono{P:v7}{w:World}{K:uz}{mg:va}{base:Heap}{CX:aj}{j k:Nat}{f:Addr}{fd:v3}{ps:List Str}{sp:Sp}(F:FnOk P w K mg base CX j f fd ps sp)(h:j≤k) :
  FnOk P w K mg base CX k f fd ps sp:=⟨F.len,fun A outer s H args us vs Q E hr=>F.run A outer s H args us vs Q E (hr.mono h)⟩
theorem FnOk.imp{P:v7}{w:World}{K:uz}{mg:va}{base:Heap}{CX:aj}{k:Nat}{f:Addr}{fd:v3}{ps:List Str}{sp ko:Sp}(F:FnOk P w K mg base CX k f fd ps sp)
  (h:∀vs H Q E,ko vs H Q E→sp vs H Q E):FnOk P w K mg base CX k f fd ps ko:=
 ⟨fun vs H Q E q=>F.len vs H Q E (h _ _ _ _ q),fun A outer s H args us vs Q E hr he hb hv hs=>F.run A outer s H args us vs Q E hr he hb hv (h _ _ _ _ hs)⟩
theorem Env0.make{P:v7}{w:World}{K:uz}{mg:va}{base:Heap}{A:Around}{outer:List Env}{s:Shared}{H:Hp}(e:Env0 P w K mg base A outer s H)(C:Addr)(us:List Value)(kw:List (Str×Value)) :
  Env0 P w K mg base (A.under (.builtin "type.__call__" ⟨.ref C::us,kw⟩)) outer s H:=⟨by first|exact e.frames|(simpa [Around.under,Code.envs,Code.isFrame,pushEnvs] using e.frames),e.mod,e.bs,e.bsz,e.funs,e.frf,e.hok,e.bare⟩
section
variable {X:Cx}{pins:v9}{σ:St}{H:Hp}{s s':Shared}
theorem Inv.env0(I:Inv X pins σ H s):Env0 X.prog X.w X.K X.mg X.base X.A X.stack s H:=
 ⟨I.ok.frames,I.ok.mod,I.bs,rj I.ok.bsz I.sz,I.stack,I.stkFree,I.hok,I.bare⟩
theorem Inv.after{Q:VK}{u:Value}(I:Inv X pins σ H s)(h:CE X.stack X.prog X.w H s Q u s'):EP X pins σ Q u s':=by
 obtain⟨v,H',os,bare,un,hok,r,q⟩:=h;obtain⟨hh,g,d,t,os'⟩:=s';obtain rfl:os'=s.os:=os;exact⟨v,H',I.call (h':=hh) (g':=g) (d':=d) (t':=t) (ch:=[]) un hok bare (fun b z=>absurd z (by simp)),r,q⟩
end
def uZ(sp:Sp)(dvs:List V)(E:XK)(t:TA):TE:=fun σ H Q=>t σ H fun vs H1=>sp (vs++dvs) H1 Q E
def Binds(K:uz)(fd:v3)(ps:List Str)(ds:List Value):Prop:=
 ∀(s:Shared) (us:List Value),K.In s.heap→(us++ds).length=ps.length→BindsTo s fd ⟨us,[]⟩ (ps.zip (us++ds))
theorem Binds.all{K:uz}{fd:v3}{ps:List Str}(h:∀us:List Value,us.length=ps.length→bindArgs fd ⟨us,[]⟩=pure (ps.zip us)):Binds K fd ps []:=fun s us _ hl=>by
 rw[sk]at hl ⊢;exact .of_eq (h us hl)
def fU(CX:aj)(X:Cx)(E:XK):Prop:=∀(pins:v9) (σ:St) (H:Hp) (s:Shared) (e:Value) (s':Shared),Inv X pins σ H s→CX X.stack H s E e s'→X.xe e s'
section
variable {X:Cx}{CX:aj}{k:Nat}{f C:Addr}{fd:v3}{ps:List Str}{sp:Sp}{dvs:List V}{ds:List Value}{E:XK}{x m:Str}{p pos apos:Pos}{e o:Expr}{es:List Expr}{ta:TE}{t:TA}
theorem rT{pins:v9}{σ:St}{H:Hp}{s:Shared}{Q:VK}{us:List Value}{vs:List V}(F:FnOk X.prog X.w X.K X.mg X.base CX k f fd ps sp)(hr:Room k X.A)(hb:Binds X.K fd ps ds)(hd:aQ dvs ds)(hx:fU CX X E)
  (I:Inv X pins σ H s) (r:aQ vs us) (h:sp (vs++dvs) H Q E):wpAny (model X.prog X.w) X.A (call (.ref f) us) (EP X pins σ Q) X.xe s:=by
 have r2:aQ (vs++dvs) (us++ds):=r.append hd
 have hl:(us++ds).length=ps.length:=by rw[←r2.length];exact F.len _ _ _ _ h
 refine wpAny_call (codeAny_mono (F.run X.A X.stack s H ⟨us,[]⟩ (us++ds) (vs++dvs) Q E hr I.env0 (hb s us I.kIn hl) r2 h) fun r s' hq=>?_)
 cases r with
 |error e=>exact hx pins σ H s e s' I hq
 |ok fl =>
  cases fl with
  |ret u=>exact I.after hq
  |next=>exact False.elim hq
  |brk=>exact False.elim hq
  |cont=>exact False.elim hq
theorem sC(F:FnOk X.prog X.w X.K X.mg X.base CX k f fd ps sp)(hr:Room k X.A)(hg:Gl X x)(hm:X.mg x=some (.ref f))(hk:keepIn X.K (.ref f)=true)(hb:Binds X.K fd ps ds)(hd:aQ dvs ds)(hx:fU CX X E)
  (ha:PA X (e::es) t) (dg:(x == ("__debug__":Str))=false:=by decide) (he:starEach (e::es) X.env=(false,eval e X.env)::starEach es X.env:=by rfl) (i7:(backTo pos (starEach es X.env)).any (·.1)=false:=by rfl) :
  PE X (.Call (.Name x p) (e::es) [] pos) (uZ sp dvs E t):=by
 intro pins s σ H Q I h;refine wpAny_Call_Name_kw (dW I hg hm ?_ dg);refine callWith_K (h₀:=X.base) I.ok.mod.kin hk (ae (ha pos pins s σ H _ I h) fun us s1 ⟨vs,H1,I1,r,q⟩=>⟨I1.kIn,?_⟩) he i7
 exact rT F hr hb hd hx I1 r q
theorem vK(F:FnOk X.prog X.w X.K X.mg X.base CX k f fd ps sp)(hr:Room k X.A)(hg:Gl X x)(hm:X.mg x=some (.ref f))(hk:keepIn X.K (.ref f)=true)(hb:Binds X.K fd ps ds)(hd:aQ dvs ds)(hx:fU CX X E)
  (dg:(x == ("__debug__":Str))=false:=by decide):PE X (.Call (.Name x p) [] [] pos) (uZ sp dvs E GE):=by
 intro pins s σ H Q I h;refine wpAny_Call_Name_kw (dW I hg hm ?_ dg);exact callWith_K0 I.kIn hk (rT (us:=[]) F hr hb hd hx I .nil h)
structure Mk (K:uz) (C f:Addr):Prop where
 makes:makesIn K C=true
 init:findIn K (.ref C) "__init__" = some (some (.ref f))
 fn:isFn K (.ref f)=true
 kp:keepIn K (.ref C)=true
end
section
variable {X:Cx}{CX:aj}{k:Nat}{f C:Addr}{fd:v3}{ps ks:List Str}{sp:Sp}{E:XK}{x m:Str}{p pos apos kpos:Pos}{e o:Expr}{es:List Expr}{kws:List Keyword}{te ta:TE}{t tk:TA}{nm:Option Str}
structure KBinds (K:uz) (fd:v3) (ps ks:List Str) (g:List Value→List Value→List Value) (gV:List V→List V→List V):Prop where
 to:∀(s:Shared) (us ws:List Value),K.In s.heap→(g us ws).length=ps.length→BindsTo s fd ⟨us,ks.zip ws⟩ (ps.zip (g us ws))
 rel:∀{vs:List V} {us:List Value} {zs:List V} {ws:List Value},aQ vs us→aQ zs ws→aQ (gV vs zs) (g us ws)
variable {g:List Value→List Value→List Value}{gV:List V→List V→List V}
end
structure aa (N P:List Str) (sc:Scope):Prop where
 kind:sc.kind=.function
 co:sc.isCoroutine=false
 gen:sc.isGenerator=false
 nd:N.Nodup
 pre:N.take P.length=P
 par:∀x∈P,sc.names.lookup x=some .local∨sc.names.lookup x=some .cell
 nofree:∀y∈sc.names,y.2≠.free
theorem qY{kindOf:Str→Option NameKind}{x:Str}:∀{binds:List (Str×Value)} {m:va},(∀v,(x,v)∉binds)→bindL kindOf binds m x=m x
 |[],_,_=>rfl
 | (n,v)::r,m,h=>by
  unfold bindL;rw[qY fun w hw=>h w (qq _ hw)]
  split
  ·have:x≠n:=by rintro rfl;exact h v uf
   simp[this]
  ·rfl
theorem rA{kindOf:Str→Option NameKind}{x:Str}:∀{binds:List (Str×Value)} {m:va},(∀v,(x,v)∉binds)→bindC kindOf binds m x=m x
 |[],_,_=>rfl
 | (n,v)::r,m,h=>by
  unfold bindC;rw[rA fun w hw=>h w (qq _ hw)]
  split
  ·rfl
  ·have:x≠n:=by rintro rfl;exact h v uf
   simp[this]
theorem qZ{kindOf:Str→Option NameKind}{x:Str}{v:Value}:∀{P:List Str} {vs:List Value} {i:Nat} {m:va},P.Nodup→P[i]?=some x→vs[i]?=some v→kindOf x=some .local →
  bindL kindOf (P.zip vs) m x=some v
 |[],_,_,_,_,h,_,_=>by simp at h
 |_::_,[],_,_,_,_,h,_=>by simp at h
 |p::P,w::vs,0,m,nd,h1,h2,hk=>by
  simp at h1 h2;subst h1;subst h2;show bindL kindOf ((p,w)::P.zip vs) m p=_
  unfold bindL;rw[qY fun v hv=>(nodup_cons.mp nd).1 (of_mem_zip hv).1,if_pos hk]
  simp
 |p::P,w::vs,i+1,m,nd,h1,h2,hk=>by
  show bindL kindOf ((p,w)::P.zip vs) m x=_
  unfold bindL;exact qZ (i:=i) (nodup_cons.mp nd).2 (by simpa using h1) (by simpa using h2) hk
theorem rB{kindOf:Str→Option NameKind}{x:Str}{v:Value}:∀{P:List Str} {vs:List Value} {i:Nat} {m:va},P.Nodup→P[i]?=some x→vs[i]?=some v→kindOf x≠some .local →
  bindC kindOf (P.zip vs) m x=some v
 |[],_,_,_,_,h,_,_=>by simp at h
 |_::_,[],_,_,_,_,h,_=>by simp at h
 |p::P,w::vs,0,m,nd,h1,h2,hk=>by
  simp at h1 h2;subst h1;subst h2;show bindC kindOf ((p,w)::P.zip vs) m p=_
  unfold bindC;rw[rA fun v hv=>(nodup_cons.mp nd).1 (of_mem_zip hv).1,if_neg hk]
  simp
 |p::P,w::vs,i+1,m,nd,h1,h2,hk=>by
  show bindC kindOf ((p,w)::P.zip vs) m x=_
  unfold bindC;exact rB (i:=i) (nodup_cons.mp nd).2 (by simpa using h1) (by simpa using h2) hk
noncomputable def start(N:List Str)(vs:List V):St:=vs.map some++List.replicate (N.length-vs.length) none
noncomputable def iZ(CX:aj)(P:v7)(w:World)(K:uz)(mg:va)(base:Heap)(N:List Str)(qual:Str)(scope:Scope)(f:Addr)(cd:Value)(A:Around)(outer:List Env)(s:Shared)(H:Hp)(E:XK):Cx where
 prog:=P
 w:=w
 K:=K
 mg:=mg
 base:=base
 A:=A.deeper (envOfC qual scope s.heap.objs.size f cd)
 N:=N
 s₀:=s
 H₀:=H
 env:=envOfC qual scope s.heap.objs.size f cd
 outer:=outer
 stack:=envOfC qual scope s.heap.objs.size f cd::outer
 ex:=[]
 calm:=true
 fn:=fun _=>true
 pn:=[]
 xe:=fun e s'=>wpAny (model P w) (A.deeper (envOfC qual scope s.heap.objs.size f cd)) (leaving (envOfC qual scope s.heap.objs.size f cd) e) (fun _ mz=>CX outer H s E e mz) (fun e' mz=>CX outer H s E e' mz) s'
theorem wW{sc:Scope}{n:Nat}{x:Str}(h:sc.names.lookup x=some .cell):∃c,(cellsFrom n sc.names []).lookup x=some c:=by
 have q:=cellsFrom_some sc.names n [] (.inl h)
 exact Option.isSome_iff_exists.mp q
theorem qJ{CX:aj}{P:v7}{w:World}{K:uz}{mg:va}{base:Heap}{N ps:List Str}{qual:Str}{scope:Scope}{f:Addr}{cd:Value}{A:Around}{outer:List Env}{s s1:Shared}{H:Hp}{E:XK}{us:List Value}{vs:List V}
  (S:aa N ps scope) (hd:A.handled=none) (e0:Env0 P w K mg base A outer s H) (hl:vs.length=ps.length) (r:aQ vs us)
  (x:InCallC s s.heap.objs.size (bindL (envOfC qual scope s.heap.objs.size f cd).kindOf (ps.zip us) fun _=>none) (cellsFrom (s.heap.objs.size+1) scope.names []) (bindC (envOfC qual scope s.heap.objs.size f cd).kindOf (ps.zip us) fun _=>none) s1) :
  Inv (iZ CX P w K mg base N qual scope f cd A outer s H E) [] (start N vs) H s1:=by
 have i7:ps.length≤N.length:=by have:=congrArg List.length S.pre;rw[tw]at this;omega
 obtain⟨h1,tk,rfl,hk⟩:=x.done;have nh:∀b:Addr,b∉(iZ CX P w K mg base N qual scope f cd A outer s H E).ex:=fun b z=>absurd (show b∈([]:List Addr) from z) (by simp)
 refine⟨⟨e0.mod,S.kind,rfl,rfl,qk _,fun y z c h1 h2=>?_,fun y hy=>?_,fun y c _ h=>?_,fun _=>hd,Around.frames_deeper e0.frames,.inr ⟨rfl,rfl⟩,fun b z=>absurd z (nh b),e0.bs,e0.bsz,fun b _ _=>nh b,fun b z=>absurd z (nh b),e0.funs,e0.frf⟩,
  rfl,e0.bare,Un.kept hk,⟨_,x.toInCall.ns,fun i y v h1 h2 h3=>?_⟩,fun y c h=>⟨_,x.cell y c h⟩,e0.hok.fresh (qk _),fun y c h=>?_,fun p hp=>absurd (show p∈([]:v9) from hp) (by simp),e0.hok.kept hk,?_⟩
 ·exact name_of_addr x.apart (tf h1) (tf h2)
 ·have hy:scope.names.lookup y=some .cell∨scope.names.lookup y=some .free:=hy
  rcases hy with hy|hy
  ·exact wW hy
  ·exact absurd rfl (S.nofree _ (tf hy))
 ·exact le_of_lt (x.above y c (tf h))
 ·have hi:i<vs.length:=by
   unfold start at h2
   by_cases hi:i<vs.length
   ·exact hi
   ·rw[uq (by simpa using hi)]at h2
    rw[getElem?_replicate]at h2;split at h2<;>cases h2
  have ha:vs[i]?=some v:=by
   unfold start at h2;rw[uo (by simpa using hi),qi]at h2
   cases e:vs[i]? with
   |none=>rw[e]at h2;cases h2
   |some a=>rw[e]at h2;cases h2;rfl
  obtain⟨u,hu,rv⟩:=r.get ha;have hp:ps[i]?=some y:=by
   rw[←S.pre,List.getElem?_take_of_lt (by omega)];exact h1
  have ndP:ps.Nodup:=by rw[←S.pre];exact S.nd.sublist (List.take_sublist _ _)
  refine⟨u,rv,?_⟩
  rcases S.par y (qf hp) with k|k
  ·exact .inl ⟨k,qZ ndP hp hu k⟩
  ·obtain⟨c,e⟩:=wW (n:=s.heap.objs.size+1) k;refine .inr ⟨.inl k,c,e,?_⟩;have q:=x.cell y c e
   rw[rB ndP hp hu (by show scope.names.lookup y≠_;rw[k];decide)]at q
   exact q
 ·exact e0.hok.fresh (le_of_lt (x.above y c (tf h)))
 ·unfold start;show _=N.length
  rw[sh,qj,List.length_replicate];omega
theorem AO{CX:aj}{P:v7}{w:World}{K:uz}{mg:va}{base:Heap}{k:Nat}{f:Addr}{name qual:Str}{params:Arguments}{body:List Stmt}{scope:Scope}{dV kV doc pm aw ct oc:Value}{an od:Option Addr}
  {i4:Array (Option Value)} {N ps:List Str} {sp:Sp} (lk:K.lookup f=some ⟨oc,od,.func (PySem.W.fnOf name qual params body scope dV kV doc pm an aw ct),i4⟩) (cf:codeIn K aw qual=true) (S:aa N ps scope)
  (len:∀vs H Q E,sp vs H Q E→vs.length=ps.length)
  (hbody:∀(A:Around) (outer:List Env) (s:Shared) (H:Hp) (vs:List V) (Q:VK) (E:XK),Room k (A.deeper (envOfC qual scope s.heap.objs.size f aw))→sp vs H Q E →
   ∃t,PSs (iZ CX P w K mg base N qual scope f aw A outer s H E) body t∧t { nx:=fun _ H'=>Q .non H',rt:=Q } (start N vs) H) :
  FnOk P w K mg base CX (k+1) f (PySem.W.fnOf name qual params body scope dV kV doc pm an aw ct) ps sp:=by
 refine⟨len,fun A outer s H args us vs Q E hr e0 hb r aq=>?_⟩
 have hl:=len _ _ _ _ aq
 have KX:K.In s.heap:=e0.mod.kin.keeps fun b o e=>(e0.bs b o e).1
 have lim:s.heap.NoLimit:=e0.mod.nolimit.keeps fun b o e=>(e0.bs b o e).1
 have hkind:∀y∈ps.zip us,scope.names.lookup y.1=some .local∨(scope.names.lookup y.1=some .cell∧((cellsFrom (s.heap.objs.size+1) scope.names []).lookup y.1).isSome=true):=fun⟨n,v⟩ hy=>by
  rcases S.par n (of_mem_zip hy).1 with q|q
  ·exact .inl q
  ·exact .inr ⟨q,cellsFrom_some _ _ _ (.inl q)⟩
 refine codeAny_call_function hr.depth (KX _ _ lk) rfl S.co S.gen rfl (PySem.W.codeRec_of KX cf) (hb _ _ _ _ ?_);refine wpAny_newFunctionEnv_cells S.kind hkind fun env he s1 x=>?_
 subst he;refine⟨lim.keeps x.toInCall.keep,codeAny_func ?_⟩;obtain⟨t,ht,hq⟩:=hbody A outer s H vs Q E (hr.deeper _) aq;have I:Inv (iZ CX P w K mg base N qual scope f aw A outer s H E) [] (start N vs) H s1:=qJ S hr.hd e0 hl r x
 refine ua (ht [] s1 (start N vs) H _ I hq) (fun fl s' hs=>?_) fun e s' hs=>hs
 have fin:∀{σ':St} {H':Hp} {v:V} {u:Value},Inv (iZ CX P w K mg base N qual scope f aw A outer s H E) [] σ' H' s'→RelV v u→Q v H'→CE outer P w H s Q u s':=
  fun {σ' H' v u} J rv q=>⟨v,H',J.os,J.bare,J.base,J.hok,rv,q⟩
 cases fl with
 |ret u =>
  obtain⟨v,σ',H',J,rv,q⟩:=hs;exact fin J rv q
 |next =>
  obtain⟨σ',H',J,q⟩:=hs;exact fin (v:=V.non) (u:=Value.none) J rfl q
 |brk =>
  obtain⟨_,_,_,q⟩:=hs;exact False.elim q
 |cont =>
  obtain⟨_,_,_,q⟩:=hs;exact False.elim q
section
variable {X:Cx}{x:Str}{p pos:Pos}{e:Expr}{es:List Expr}{t:TA}{id T:String}{r:List V→Hp→VK→Prop}
def tCB(r:List V→Hp→VK→Prop)(t:TA):TE:=fun σ H Q=>t σ H fun vs H1=>r vs H1 Q
theorem fN(hc:cX X (.builtin id) r)(hg:Gl X x)(hm:X.mg x=none)(hv:bootBuiltins x=some (.builtin id))(ha:PA X (e::es) t)(hn:x≠"__name__":=by decide)(dg:(x == ("__debug__":Str))=false:=by decide)
  (he:starEach (e::es) X.env=(false,eval e X.env)::starEach es X.env:=by rfl) (i7:(backTo pos (starEach es X.env)).any (·.1)=false:=by rfl):PE X (.Call (.Name x p) (e::es) [] pos) (tCB r t):=by
 intro pins s σ H Q I h;refine wpAny_Call_Name_kw (eU I hg hm hv ?_ hn dg);exact PyProof.Rows.callWith_builtin1 (ae (ha pos pins s σ H _ I h) fun us s1 ⟨vs,H1,I1,r1,q1⟩=>hc pins s1 σ H1 vs us Q I1 r1 q1) he i7
theorem lG(hc:cX X (.type T) r)(hg:Gl X x)(hm:X.mg x=none)(hv:bootBuiltins x=some (.type T))(ha:PA X (e::es) t)(hn:x≠"__name__":=by decide)(dg:(x == ("__debug__":Str))=false:=by decide)
  (he:starEach (e::es) X.env=(false,eval e X.env)::starEach es X.env:=by rfl) (i7:(backTo pos (starEach es X.env)).any (·.1)=false:=by rfl):PE X (.Call (.Name x p) (e::es) [] pos) (tCB r t):=by
 intro pins s σ H Q I h;refine wpAny_Call_Name_kw (eU I hg hm hv ?_ hn dg);exact se (ae (ha pos pins s σ H _ I h) fun us s1 ⟨vs,H1,I1,r1,q1⟩=>hc pins s1 σ H1 vs us Q I1 r1 q1) he i7
end
end L2
namespace HT
open PySem PyProof.Rows
section
open PySem.SeqAt
open PySem.AutoSeq1 (wpAny_loadPart')
open PySem.MeetsSeq PySem.MeetsSeq2 PySem.MeetsSeq3
end
section
variable {prog:v7}{w:World}{A:Around}{E:v8}{s:Shared}
theorem SL{t b:Addr}{vs ws:List Value}{Q:v8}(ht:IsTup s.heap t vs.toArray)(hb:IsTup s.heap b ws.toArray)(hv:vs≠[])
  (h1:ws=[]→Q (.ref t) s) (h2:ws≠[]→Q (.ref s.heap.objs.size) { s with heap:=s.heap.push { cls:=.type "tuple",data:=.seq (vs++ws).toArray } })
  (hsz:vs.length+ws.length≤sizeLine):wpAny (model prog w) A (binaryOp .Add (.ref t) (.ref b)) Q E s:=by
 obtain⟨⟨cls,dd,data,sl⟩,ho,hc,n,hd⟩:=id ht;obtain⟨⟨cls2,jq,data2,ku⟩,df,gp,n2,hd2⟩:=id hb;simp only at hc hd gp hd2;subst hc hd gp hd2;have e:vs.toArray++ws.toArray=(vs++ws).toArray:=by simp
 by_cases hw:ws=[]
 ·exact concat_meets ⟨_,ho,rfl⟩ ⟨_,df,rfl⟩ noFill_tuple_add seq_tuple_add slot_tuple_add entry_tuple_add (args_tuple_add_2 _ _)
   (tuple_addW1 t b vs.toArray ws.toArray n n2 dd jq sl ku (by simpa using hv) (by simp[hw])) ⟨ho,df,h1 hw⟩
 ·refine concat_meets ⟨_,ho,rfl⟩ ⟨_,df,rfl⟩ noFill_tuple_add seq_tuple_add slot_tuple_add entry_tuple_add (args_tuple_add_2 _ _)
   (tuple_addW2 t b vs.toArray ws.toArray n n2 dd jq sl ku (by simpa using hv) (by simpa using hw) (by rw[qr,qr];exact hsz)) ⟨ho,df,?_⟩
  rw[e];exact h2 hw
noncomputable def sIx(n d:Nat):Option Int→Nat
 |none=>d
 |some v=>if v<0 then(v+(n:Int)).toNat else min v.toNat n
theorem WS(n d:Nat)(hd:d≤n)(o:Option Int):sIx n d o≤n:=by
 cases o with
 |none=>exact hd
 |some v =>
  show (if v<0 then(v+(n:Int)).toNat else min v.toNat n)≤n
  by_cases hv:v<0
  ·rw[if_pos hv];omega
  ·rw[if_neg hv];exact Nat.min_le_right _ _
theorem CK(v:Int)(n d:Nat):(if v<0 then max (v+(n:Int)) 0 else min v (n:Int))=((sIx n d (some v):Nat):Int):=by
 show (if v<0 then max (v+(n:Int)) 0 else min v (n:Int))=(((if v<0 then(v+(n:Int)).toNat else min v.toNat n):Nat):Int)
 by_cases hv:v<0
 ·simp only[if_pos hv];omega
 ·simp only[if_neg hv];omega
theorem zB(lo hi:Option Int)(n:Nat):Builtin.Slice.sliceAdjust lo hi 1 (n:Int)=(((sIx n 0 lo:Nat):Int),((sIx n n hi:Nat):Int)):=by
 have h1:¬((1:Int)<0):=by omega
 unfold Builtin.Slice.sliceAdjust;simp only[h1,if_false];refine Prod.ext ?_ ?_
 ·cases lo with
  |none=>rfl
  |some v=>exact CK v n 0
 ·cases hi with
  |none=>rfl
  |some v=>exact CK v n n
theorem xQ(i j:Nat):Builtin.Slice.slicePlaces (i:Int) (j:Int) 1=j-i:=by
 unfold Builtin.Slice.slicePlaces;have h1:(1:Int) > 0:=by omega
 simp only[h1,if_true,Int.ediv_one];split<;>omega
theorem nM{v:Value}{o:Option Int}{Q:Option Int→Shared→Prop}(p:IsPart v o)(h:Q o s):wpAny (model prog w) A (Builtin.Slice.slicePartIndex v) Q E s:=by
 cases p with
 |none=>exact slicePart_none h
 |int i t=>exact slicePart_int h
theorem lA{sl:Addr}{vl vu:Value}{lo hi:Option Int}{n:Nat}{Q:Int×Int×Nat→Shared→Prop}(hs:s.heap.IsSliceOf sl vl vu .none)(pl:IsPart vl lo)(pu:IsPart vu hi)
  (h:Q (((sIx n 0 lo:Nat):Int),1,sIx n n hi-sIx n 0 lo) s):wpAny (model prog w) A (Builtin.Slice.sliceApplied (.ref sl) (pure (n:Int))) Q E s:=by
 obtain⟨os,j3,hcs,az⟩:=id hs;unfold Builtin.Slice.sliceApplied Builtin.Slice.sliceFields;refine u2 (u2 (wpAny_field j3 az (x:=vl) rfl (u2 (wpAny_field j3 az (x:=vu) rfl (u2 (wpAny_field j3 az (x:=.none) rfl (u7 ?_)))))));refine u2 (slicePart_none ?_);show wpAny _ _ (if ((1:Int) == 0)=true then _ else _) _ _ s
 rw[if_neg (by decide)]
 refine u2 (nM pl (u2 (nM pu (u2 (u7 ?_)))));show wpAny _ _ (match Builtin.Slice.sliceAdjust lo hi 1 (n:Int) with|(lo,hi)=>pure (lo,(1:Int),Builtin.Slice.slicePlaces lo hi 1)) _ _ s
 rw[zB lo hi n];show wpAny _ _ (pure (((sIx n 0 lo:Nat):Int),(1:Int),Builtin.Slice.slicePlaces ((sIx n 0 lo:Nat):Int) ((sIx n n hi:Nat):Int) 1)) _ _ s
 rw[xQ];exact u7 h
theorem HK(xs:Array Value)(i k:Nat):((List.range k).filterMap fun (m:Nat)=>xs[((i:Int)+(m:Int)*1).toNat]?).toArray=((xs.toList.drop i).take k).toArray:=by
 have e:(fun (m:Nat)=>xs[((i:Int)+(m:Int)*1).toNat]?)=fun m=>xs[i+m]?:=by
  funext m
  have:((i:Int)+(m:Int)*1).toNat=i+m:=by omega
  rw[this]
 rw[e];have:=pick_run xs i k
 rw[List.filterMap_map]at this;have e2:((fun x=>xs[x]?) ∘ fun x=>i+x)=fun m=>xs[i+m]?:=rfl
 rw[e2]at this;rw[this]
theorem kQ{t sl:Addr}{items:Array Value}{vl vu:Value}{lo hi:Option Int}{Q:v8}(ht:IsTup s.heap t items)(hs:s.heap.IsSliceOf sl vl vu .none)(pl:IsPart vl lo)(pu:IsPart vu hi)
  (hw:¬(sIx items.size 0 lo=0∧sIx items.size items.size hi=items.size))
  (h:Q (.ref s.heap.objs.size) { s with heap:=s.heap.push { cls:=.type "tuple",data:=.seq ((items.toList.drop (sIx items.size 0 lo)).take (sIx items.size items.size hi-sIx items.size 0 lo)).toArray } })
  (hsz:items.size≤sizeLine):wpAny (model prog w) A (getItem (.ref t) (.ref sl)) Q E s:=by
 have htake:sizeOk (.seq ((items.toList.drop (sIx items.size 0 lo)).take (sIx items.size items.size hi-sIx items.size 0 lo)).toArray):=by
  show ((items.toList.drop (sIx items.size 0 lo)).take (sIx items.size items.size hi-sIx items.size 0 lo)).toArray.size≤sizeLine
  rw[qr,tw,uw,length_toList];omega
 have hj:sIx items.size items.size hi≤items.size:=WS _ _ (qk _) hi
 obtain⟨os,j3,hcs,az⟩:=id hs;have hTs:s.TypeIs (.ref sl) "slice":=⟨os,j3,hcs⟩
 unfold getItem
 try with_reducible refine wpAny_holding ?_
 first|refine u2 (u7 ?_)|skip
 refine u2 (wpAny_sequenceKey ht.typeIs (by decide) ?_)
 refine u2 (wpAny_callSpecial?_slot (name:=Str.ofString "__getitem__") ht.typeIs PyProof.Rows.slot_tuple_getitem
  (wpAny_call_entry PyProof.Rows.slot_tuple_getitem ht.typeIs entry_tuple_getitem ?_ (args_tuple_getitem _ _)))
 show wpAny _ _ (Builtin.Tuple.tupleItemsOf (.ref t) >>= _) _ _ s
 refine u2 (tupleItemsOf_ ht ?_);refine u2 (wpAny_typeOf hTs ?_);rw[if_pos (by decide)]
 refine u2 (lA hs pl pu ?_);have hno:¬((((sIx items.size 0 lo:Nat):Int) == 0&&(1:Int) == 1&&(sIx items.size items.size hi-sIx items.size 0 lo) == items.size)=true):=by
  intro q;rw[qt,qt]at q;have q1:((sIx items.size 0 lo:Nat):Int)=0:=eq_of_beq q.1.1
  have q2:sIx items.size items.size hi-sIx items.size 0 lo=items.size:=eq_of_beq q.2
  exact hw ⟨by omega,by omega⟩
 show wpAny _ _ (if (((sIx items.size 0 lo:Nat):Int) == 0&&(1:Int) == 1&&(sIx items.size items.size hi-sIx items.size 0 lo) == items.size)=true then _ else _) _ _ s
 rw[if_neg hno,HK]
 first
  |exact u2 (m:=Builtin.Tuple.tupleExact _) (wpAny_newObj_type (u7 ⟨_,rfl,u7 h⟩) htake)
  |exact u2 (m:=Builtin.Tuple.tupleExact _) (wpAny_newObj_type (u2 (u7 (u7 ⟨_,rfl,u7 h⟩))) htake)
  |exact u2 (u2 (m:=Builtin.Tuple.tupleExact _) (wpAny_newObj_type (u7 (u7 ⟨_,rfl,u7 h⟩)) htake))
  |exact u2 (u2 (m:=Builtin.Tuple.tupleExact _) (wpAny_newObj_type (u7 ⟨_,rfl,u7 h⟩) htake))
end
end HT
namespace L2
open PySem PySem.Spec PyProof.Rows
abbrev TO:=St→Hp→(Option Int→Hp→Prop)→Prop
def PO(X:Cx)(e:Option Expr)(t:TO):Prop:=
 ∀(pins:v9) (s:Shared) (σ:St) (H:Hp) (Q:Option Int→Hp→Prop),Inv X pins σ H s→t σ H Q →
  wpAny (model X.prog X.w) X.A (evalPart e X.env) (fun u s'=>∃o H',Inv X pins σ H' s'∧IsPart u o∧Q o H') X.xe s
noncomputable def MY:TO:=fun _ H Q=>Q none H
noncomputable def aBS(t:TE):TO:=fun σ H Q=>t σ H fun x H1=>∃i,x=.int i∧Q (some i) H1
section
variable {X:Cx}{e:Expr}{te:TE}{lo hi:Option Expr}{tl th:TO}{pos p2:Pos}
theorem OQ:PO X none MY:=by
 intro pins s σ H Q I h;rw[evalPart_none];exact u7 ⟨none,H,I,.none,h⟩
theorem OP(h:PE X e te):PO X (some e) (aBS te):=by
 intro pins s σ H Q I hw;rw[evalPart_some];refine ae (h pins s σ H _ I hw) fun u s1 ⟨x,H1,I1,r1,q1⟩=>?_
 obtain⟨i,rfl,q⟩:=q1;obtain⟨t,rfl⟩:=r1;exact⟨some i,H1,I1,.int i t,q⟩
def SlR(X:Cx)(r:V→Option Int→Option Int→Hp→VK→Prop):Prop:=
 ∀(pins:v9) (s:Shared) (σ:St) (H:Hp) (x:V) (v vl vu:Value) (lo hi:Option Int) (sl:Addr) (Q:VK),Inv X pins σ H s→RelV x v→s.heap.IsSliceOf sl vl vu .none→IsPart vl lo→IsPart vu hi→r x lo hi H Q →
  ∃T id,typeLookup (.type T) "__getitem__" = pure (some (.builtin id))∧s.TypeIs v T∧wpAny (model X.prog X.w) X.A (getItem v (.ref sl)) (EP X pins σ Q) X.xe s
theorem SlR.or{r r':V→Option Int→Option Int→Hp→VK→Prop}(h:SlR X r)(h':SlR X r'):SlR X (fun x lo hi H Q=>r x lo hi H Q∨r' x lo hi H Q):=by
 intro pins s σ H x v vl vu lo hi sl Q I rx hs pl pu q
 rcases q with q|q
 ·exact h pins s σ H x v vl vu lo hi sl Q I rx hs pl pu q
 ·exact h' pins s σ H x v vl vu lo hi sl Q I rx hs pl pu q
def tSl(r:V→Option Int→Option Int→Hp→VK→Prop)(te:TE)(tl th:TO):TE:=fun σ H Q=>te σ H fun x H1=>tl σ H1 fun l H2=>th σ H2 fun u H3=>r x l u H3 Q
theorem nO{r:V→Option Int→Option Int→Hp→VK→Prop}(hr:SlR X r)(he:PE X e te)(hl:PO X lo tl)(hu:PO X hi th):PE X (.Subscript e (.Slice lo hi none p2) pos) (tSl r te tl th):=by
 intro pins s σ H Q I h;refine Subscript_ (ae (he pins s σ H _ I h) fun v s1 ⟨x,H1,I1,r1,q1⟩=>?_)
 refine wpAny_Slice (ae (hl pins s1 σ H1 _ I1 q1) fun vl s2 ⟨l,H2,I2,pl,q2⟩=>ae (hu pins s2 σ H2 _ I2 q2) fun vu s3 ⟨u,H3,I3,pu,q3⟩=>?_)
 rw[evalPart_none];refine u7 ?_;have I4:Inv X pins σ H3 { s3 with heap:=s3.heap.push { cls:=.type "slice",data:=.fields #[vl,vu,.none] } }:=I3.kept (t':=s3.toks) fun b ob q=>qo _ q
 obtain⟨T,id,hT,ht,hg⟩:=hr pins { s3 with heap:=s3.heap.push { cls:=.type "slice",data:=.fields #[vl,vu,.none] } } σ H3 x v vl vu l u s3.heap.objs.size Q I4 r1 (Heap.IsSliceOf.new ..) pl pu q3
 show wpAny (model X.prog X.w) X.A (subscriptTail e (.Slice lo hi none p2) v (.ref s3.heap.objs.size)) (EP X pins σ Q) X.xe { s3 with heap:=s3.heap.push { cls:=.type "slice",data:=.fields #[vl,vu,.none] } }
 exact tail_any (ops:=[.ref s3.heap.objs.size,v]) ht hT hg (by with_unfolding_all rfl)
noncomputable def wN(xs:List V)(lo hi:Option Int):List V:=(xs.drop (HT.sIx xs.length 0 lo)).take (HT.sIx xs.length xs.length hi-HT.sIx xs.length 0 lo)
theorem mI(xs:List V)(lo hi:Option Int):(wN xs lo hi).length≤xs.length:=by
 unfold wN;rw[tw,uw];omega
noncomputable def aHp(K:uz):V→Option Int→Option Int→Hp→VK→Prop:=fun x lo hi H Q=>∃a xs,x=.ref a∧SqT K H a xs ∧
 ¬(HT.sIx xs.length 0 lo=0∧HT.sIx xs.length xs.length hi=xs.length)∧∀p,H p=none→Q (.ref p) (upd H p (.tup (wN xs lo hi)))
theorem WR:SlR X (aHp X.K):=by
 intro pins s σ H x v vl vu lo hi sl Q I rx hs pl pu h;obtain⟨a,xs,rfl,hx,hw,q⟩:=h;cases rx;obtain⟨its,r,ht,hz⟩:=I.tuple hx;have hlen:its.toArray.size=xs.length:=by rw[qr];exact r.length.symm
 refine⟨"tuple",_,PyProof.Rows.slot_tuple_getitem.lookup,ht.typeIs,?_⟩;refine HT.kQ ht hs pl pu (by rw[hlen];exact hw) ?_ (by rw[hlen];exact hz)
 rw[hlen];refine⟨.ref s.heap.objs.size,_,I.laid (t':=s.toks) (o:=.tup (wN xs lo hi)) (fun b ob q=>qo _ q) (qk _) ?_,rfl,q _ (I.hok.fresh (qk _))⟩
 exact⟨rj (mI xs lo hi) hz,_,(r.drop (HT.sIx xs.length 0 lo)).take (HT.sIx xs.length xs.length hi-HT.sIx xs.length 0 lo),IsTup.new _ _⟩
noncomputable def aDj(K:uz):R2:=fun x y H Q=>∃a b xs ys,x=.ref a∧y=.ref b∧SqT K H a xs∧SqT K H b ys∧xs≠[]∧xs.length+ys.length≤sizeLine ∧
 (ys=[]→Q (.ref a) H)∧(ys≠[]→∀p,H p=none→Q (.ref p) (upd H p (.tup (xs++ys))))
theorem aQ.nil_iff{xs:List V}{us:List Value}(r:aQ xs us):us=[]↔xs=[]:=by
 cases r with
 |nil=>simp
 |cons _ _=>simp
theorem PP:OpR X (binaryOp .Add) (aDj X.K):=by
 intro pins s σ H x y v u Q I rx ry h;obtain⟨a,b,xs,ys,rfl,rfl,ha,hb,hx,hz,q1,q2⟩:=h;cases rx;cases ry;obtain⟨its,r1,p1,_⟩:=I.tuple ha;obtain⟨cb,r2,p2,_⟩:=I.tuple hb;refine HT.SL p1 p2 (fun z=>hx (r1.nil_iff.mp z)) (fun z=>⟨.ref a,H,I,rfl,q1 (r2.nil_iff.mp z)⟩) (fun z=>?_) (by rw[←r1.length,←r2.length];exact hz)
 refine⟨.ref s.heap.objs.size,_,I.laid (t':=s.toks) (o:=.tup (xs++ys)) (fun b ob q=>qo _ q) (qk _) ?_,rfl,q2 (fun w=>z (r2.nil_iff.mpr w)) _ (I.hok.fresh (qk _))⟩
 exact⟨by rw[sh];exact hz,_,r1.append r2,IsTup.new _ _⟩
end
noncomputable def ixN(n:Nat)(i:Int):Option Nat:=if 0≤i then(if i<n then some i.toNat else none) else if -(n:Int)≤i then some (i+n).toNat else none
noncomputable def atI{α:Type}(xs:List α)(i:Int):Option α:=(ixN xs.length i).bind fun j=>xs[j]?
theorem AF{n:Nat}{i:Int}{j:Nat}(h:ixN n i=some j):seqIndex? i n=some j∧j<n∧-(n:Int)≤i∧i<n:=by
 unfold ixN at h
 by_cases h0:0≤i
 ·rw[if_pos h0]at h
  by_cases h1:i<n
  ·rw[if_pos h1]at h;have e:i.toNat=j:=qu h
   exact⟨by rw[seqIndex_of h0 h1,e],by omega,by omega,h1⟩
  ·rw[if_neg h1]at h;cases h
 ·rw[if_neg h0]at h
  by_cases h1:-(n:Int)≤i
  ·rw[if_pos h1]at h;have e:(i+n).toNat=j:=qu h
   exact⟨by rw[seqIndex_neg (by omega) h1,e],by omega,h1,by omega⟩
  ·rw[if_neg h1]at h;cases h
theorem uQ{α:Type}{xs:List α}{i:Int}{v:α}(h:atI xs i=some v):∃j,seqIndex? i xs.length=some j∧xs[j]?=some v∧j<xs.length∧-(xs.length:Int)≤i∧i<xs.length:=by
 unfold atI at h;cases e:ixN xs.length i with
 |none=>rw[e]at h;cases h
 |some j =>
  rw[e]at h;obtain⟨h1,h2,h3,h4⟩:=AF e;exact⟨j,h1,h,h2,h3,h4⟩
theorem CQ{α:Type}{xs:List α}{j:Nat}{v:α}(h:xs[j]?=some v):atI xs (j:Int)=some v:=by
 have hj:j<xs.length:=(q9.mp h).1
 have e:ixN xs.length (j:Int)=some j:=by
  unfold ixN;rw[if_pos (by omega),if_pos (by omega)];simp
 unfold atI;rw[e];exact h
def kX(b:Expr):Prop:=∀o i,subscripted b false o i=operate [o,i] (getItem o i)
def IxR(X:Cx)(r:R2):Prop:=
 ∀(value slice:Expr) (pins:v9) (s:Shared) (σ:St) (H:Hp) (x y:V) (v u:Value) (Q:VK),Inv X pins σ H s→RelV x v→RelV y u→r x y H Q →
  subscripted slice false v u=operate [v,u] (getItem v u)→wpAny (model X.prog X.w) X.A (subscriptTail value slice v u) (EP X pins σ Q) X.xe s
def MtR(X:Cx)(id:String)(r:V→List V→Hp→VK→Prop):Prop:=
 ∀(pins:v9) (s:Shared) (σ:St) (H:Hp) (x:V) (xs:List V) (v:Value) (us:List Value) (Q:VK),Inv X pins σ H s→RelV x v→aQ xs us→r x xs H Q →
  wpAny (model X.prog X.w) X.A (call (.builtin id) (v::us)) (EP X pins σ Q) X.xe s
section
variable {X:Cx}{a b:Expr}{ta tb:TE}{pos:Pos}
theorem IxR.or{r r':R2}(h:IxR X r)(h':IxR X r'):IxR X (fun x y H Q=>r x y H Q∨r' x y H Q):=by
 intro value slice pins s σ H x y v u Q I rx ry q hs
 rcases q with q|q
 ·exact h value slice pins s σ H x y v u Q I rx ry q hs
 ·exact h' value slice pins s σ H x y v u Q I rx ry q hs
theorem MtR.or{id:String}{r r':V→List V→Hp→VK→Prop}(h:MtR X id r)(h':MtR X id r'):MtR X id (fun x xs H Q=>r x xs H Q∨r' x xs H Q):=by
 intro pins s σ H x xs v us Q I rx rs q
 rcases q with q|q
 ·exact h pins s σ H x xs v us Q I rx rs q
 ·exact h' pins s σ H x xs v us Q I rx rs q
theorem zR{r:R2}(hr:IxR X r)(ha:PE X a ta)(hb:PE X b tb)(hs:kX b):PE X (.Subscript a b pos) (iy r ta tb):=by
 intro pins s σ H Q I h;exact Subscript_ (aAD ha hb I h fun v u s2 x y H2 I2 rx ry q=>hr a b pins s2 σ H2 x y v u Q I2 rx ry q (hs _ _))
noncomputable def WZ(K:uz):R2:=fun x y H Q=>∃p xs i v,x=.ref p∧y=.int i∧SqL K H p xs∧atI xs i=some v∧Q v H
noncomputable def aDe(K:uz):R2:=fun x y H Q=>∃p xs i v,x=.ref p∧y=.int i∧SqT K H p xs∧atI xs i=some v∧Q v H
noncomputable def aDf:R2:=fun x y H Q=>∃z i c,x=.str z∧y=.int i∧z.length≤sizeLine∧atI z.cps.toList i=some c∧Q (.str ⟨#[c]⟩) H
theorem AE:IxR X (WZ X.K):=by
 intro value slice pins s σ H x y v u Q I rx ry h hs;obtain⟨p,xs,i,z,rfl,rfl,hq,he,q⟩:=h;cases rx;obtain⟨t,rfl⟩:=ry;obtain⟨its,r,pl,hz⟩:=I.list hq;obtain⟨j,h1,h2,h3,h4,h5⟩:=uQ he;obtain⟨w,ew,cq⟩:=r.get h2;have hl:=r.length
 have hn:=jX
 have fin:EP X pins σ Q w s:=⟨z,H,I,cq,q⟩
 by_cases h0:0≤i
 ·have hj:i.toNat=j:=by
   rw[seqIndex_of h0 h5]at h1;exact qu h1
  exact item_listR pl.isList h0 (by omega) (by rw[hj];simpa using ew) fin hs
 ·have hj:(i+(its.toArray.size:Int)).toNat=j:=by
   rw[seqIndex_neg (by omega) h4]at h1
   rw[qr,←hl];exact qu h1
  exact subscriptTail_builtinR (x:=w) pl.isList.typeIs slot_list_getitem.lookup
   (wpAny_getItem_list_neg (Q:=fun r s'=>r=w∧EP X pins σ Q r s') pl.isList (by omega) (by rw[qr]<;>omega) (by omega) (by rw[hj];simpa using ew) ⟨rfl,fin⟩) hs
theorem ZY:IxR X (aDe X.K):=by
 intro value slice pins s σ H x y v u Q I rx ry h hs;obtain⟨p,xs,i,z,rfl,rfl,hq,he,q⟩:=h;cases rx;obtain⟨t,rfl⟩:=ry;obtain⟨its,r,pl,hz⟩:=I.tuple hq;obtain⟨j,h1,h2,h3,h4,h5⟩:=uQ he;obtain⟨w,ew,cq⟩:=r.get h2;have hl:=r.length
 have hn:=jX
 have fin:EP X pins σ Q w s:=⟨z,H,I,cq,q⟩
 exact subscriptTail_builtinR (x:=w) pl.typeIs slot_tuple_getitem.lookup
  (getItem_tuple (j:=j) (Q:=fun r s'=>r=w∧EP X pins σ Q r s') pl (by omega) (by omega) (by rw[qr,←hl];exact h1) (by simpa using ew) ⟨rfl,fin⟩) hs
theorem ZZ:IxR X aDf:=by
 intro value slice pins s σ H x y v u Q I rx ry h hs;obtain⟨z,i,c,rfl,rfl,hz,he,q⟩:=h;obtain⟨t,rfl⟩:=rx;obtain⟨t',rfl⟩:=ry;obtain⟨j,h1,h2,h3,h4,h5⟩:=uQ he;have hl:z.cps.toList.length=z.length:=by simp[Str.length]
 rw[hl]at h1 h4 h5;have hn:=jX
 exact tail_any (typeIs_str s z t) slot_str_getitem.lookup (getItem_str (c:=c) (by
  have e1:decide (i < -(2 ^ 63:Int))=false:=qm (by omega)
  have e2:decide (i ≥ 2 ^ 63)=false:=qm (by omega)
  rw[e1,e2,Bool.or_false]) (by rw[h1];simpa using h2) ⟨.str ⟨#[c]⟩,H,I.tok _,⟨_,rfl⟩,q⟩) hs
noncomputable def rIx(K:uz):R2:=fun x y H Q=>WZ K x y H Q∨aDe K x y H Q∨aDf x y H Q
theorem yG:IxR X (rIx X.K):=AE.or (ZY.or ZZ)
theorem yA(its:List Value)(n j:Nat)(u:Value):Obj.mapSeq (·.setIfInBounds j u) { cls:=.type "list",data:=.seq its.toArray n }={ cls:=.type "list",data:=.seq (its.set j u).toArray n }:=by
 simp[Obj.mapSeq]
theorem Inv.lst{pins:v9}{σ:St}{H:Hp}{s:Shared}{p:Addr}{xs:List V}(I:Inv X pins σ H s)(h:H p=some (.lst xs)) :
  ∃(its:List Value) (n:Nat),aQ xs its∧s.heap.get? p=some { cls:=.type "list",data:=.seq its.toArray n }∧xs.length≤sizeLine:=by
 obtain⟨z,its,n,r,e⟩:=I.hok p _ h;exact⟨its,n,r,e,z⟩
theorem Inv.lstUpd{pins:v9}{σ:St}{H:Hp}{s:Shared}{p:Addr}{xs ys:List V}{its its':List Value}{n n':Nat}{f:Obj→Obj}(I:Inv X pins σ H s)(h:H p=some (.lst xs))
  (ho:s.heap.get? p=some { cls:=.type "list",data:=.seq its.toArray n }) (hf:f { cls:=.type "list",data:=.seq its.toArray n }={ cls:=.type "list",data:=.seq its'.toArray n' }) (r:aQ ys its') (hz:ys.length≤sizeLine) (t:Nat) :
  Inv X pins σ (upd H p (.lst ys)) { s with heap:=s.heap.update p f,toks:=t }:=by
 have e:(s.heap.update p f).get? p=some { cls:=.type "list",data:=.seq its'.toArray n' }:=by
  rw[Heap.get?_update_self f ho (by rw[hf]<;>rfl),hf]
 refine I.write (x:=p) (e:=p) (by rw[h];trivial) (.inl rfl) (fun b u hb q=>(Heap.get?_update_other _ _ (Ne.symm hb)).trans q) ⟨_,e⟩ ?_
 exact⟨hz,its',n',r,e⟩
noncomputable def aDd:V→V→V→Hp→(Hp→Prop)→Prop:=fun o i v H Q=>∃p xs k j,o=.ref p∧i=.int k∧H p=some (.lst xs)∧ixN xs.length k=some j∧Q (upd H p (.lst (xs.set j v)))
theorem set_list:aFP X aDd:=by
 intro pins s σ H o i v ov iv u Q I ro ri rv h;obtain⟨p,xs,k,j,rfl,rfl,hp,hj,q⟩:=h;cases ro;obtain⟨t,rfl⟩:=ri;obtain⟨its,n,r,ho,hz⟩:=I.lst hp;obtain⟨h1,h2,h3,h4⟩:=AF hj;have hl:=r.length
 have hn:=jX
 have I':Inv X pins σ (upd H p (.lst (xs.set j v))) { s with heap:=s.heap.update p (Obj.mapSeq (·.setIfInBounds j u)) }:=
  I.lstUpd hp ho (yA its n j u) (r.set rv j) (by rw[length_set];exact hz) s.toks
 by_cases h0:0≤k
 ·have hk:k.toNat=j:=by
   rw[seqIndex_of h0 h4]at h1;exact qu h1
  exact PySem.W.ki_setAt ho h0 (by omega) (by rw[qr,←hl];exact h4) (by rw[hk];exact⟨_,I',q⟩)
 ·have hk:(k+(its.toArray.size:Int)).toNat=j:=by
   rw[seqIndex_neg (by omega) h3]at h1
   rw[qr,←hl];exact qu h1
  exact PySem.W.ki_setBack ho (by omega) (by rw[qr,←hl];exact h3) (by omega) (by rw[hk];exact⟨_,I',q⟩)
theorem rS(lo hi:Option Int)(n:Nat):(sliceBounds lo hi none n).1=((HT.sIx n 0 lo:Nat):Int)∧(sliceBounds lo hi none n).2.1=((HT.sIx n n hi:Nat):Int)∧(sliceBounds lo hi none n).2.2=1:=by
 refine⟨?_,?_,rfl⟩
 ·cases lo with
  |none=>simp[sliceBounds,HT.sIx]
  |some i =>
   simp only[sliceBounds,HT.sIx,Option.getD_none,show (1:Int) > 0 by decide,if_true]
   by_cases h:i<0
   ·simp only[h,if_true]<;>omega
   ·simp only[h,if_false]<;>omega
 ·cases hi with
  |none=>simp[sliceBounds,HT.sIx]
  |some i =>
   simp only[sliceBounds,HT.sIx,Option.getD_none,show (1:Int) > 0 by decide,if_true]
   by_cases h:i<0
   ·simp only[h,if_true]<;>omega
   ·simp only[h,if_false]<;>omega
theorem pI(its:List Value)(lo hi:Option Int):slicePick its.toArray lo hi none=((its.drop (HT.sIx its.length 0 lo)).take (HT.sIx its.length its.length hi-HT.sIx its.length 0 lo)).toArray:=by
 obtain⟨h1,h2,h3⟩:=rS lo hi its.toArray.size;unfold slicePick;rw[h1,h2,h3];simp only[sliceRange_one,pick_run,qr]<;>rfl
noncomputable def aHq(K:uz):V→Option Int→Option Int→Hp→VK→Prop:=fun x lo hi H Q=>∃a xs,x=.ref a∧SqL K H a xs∧∀p,H p=none→Q (.ref p) (upd H p (.lst (wN xs lo hi)))
theorem zJ:SlR X (aHq X.K):=by
 intro pins s σ H x v vl vu lo hi sl Q I rx hs pl pu h;obtain⟨a,xs,rfl,hx,q⟩:=h;cases rx;obtain⟨its,r,ht,hz⟩:=I.list hx;have hlen:=r.length
 refine⟨"list",_,slot_list_getitem.lookup,ht.isList.typeIs,?_⟩;refine wpAny_getItem_list_slice ht.isList hs pl pu .none (by simp) ?_ (by rw[qr]<;>omega)
 rw[pI,←hlen];refine⟨.ref s.heap.objs.size,_,I.laid (t':=s.toks) (o:=.lst (wN xs lo hi)) (fun b ob q=>qo _ q) (qk _) ?_,rfl,q _ (I.hok.fresh (qk _))⟩
 exact⟨rj (mI xs lo hi) hz,_,0,(r.drop (HT.sIx xs.length 0 lo)).take (HT.sIx xs.length xs.length hi-HT.sIx xs.length 0 lo),ub _ rfl⟩
theorem fG:cX X (.builtin "len") (fun xs H Q=>∃p ys,xs=[.ref p]∧(SqL X.K H p ys∨SqT X.K H p ys)∧Q (.int ys.length) H):=by
 intro pins s σ H xs us Q I r h;obtain⟨p,ys,rfl,hq,q⟩:=h;obtain⟨u,rfl,rx⟩:=vals1 r;cases rx;have hn:=jX
 rcases hq with hq|hq
 ·obtain⟨its,r',pl,hz⟩:=I.list hq;have hlen:=r'.length
  exact Calls.call_len_list pl.isList (by simp only[qr]<;>omega) ⟨.int ys.length,H,I.tok _,⟨s.toks+1,by rw[qr,hlen]⟩,q⟩
 ·obtain⟨its,r',pl,hz⟩:=I.tuple hq;have hlen:=r'.length
  exact len_tuple pl (by simp only[qr]<;>omega) ⟨.int ys.length,H,I.tok _,⟨s.toks+1,by rw[qr,hlen]⟩,q⟩
theorem uO:cX X (.builtin "len") (fun xs H Q=>∃z,xs=[.str z]∧z.length≤sizeLine∧Q (.int z.length) H):=by
 intro pins s σ H xs us Q I r h;obtain⟨z,rfl,hz,q⟩:=h;obtain⟨u,rfl,t,rfl⟩:=vals1 r;have hn:=jX
 exact len_str (by omega) ⟨.int z.length,H,I.tok _,⟨_,rfl⟩,q⟩
theorem cX.or{f:Value}{r r':List V→Hp→VK→Prop}(h:cX X f r)(h':cX X f r'):cX X f (fun xs H Q=>r xs H Q∨r' xs H Q):=by
 intro pins s σ H xs us Q I rs q
 rcases q with q|q
 ·exact h pins s σ H xs us Q I rs q
 ·exact h' pins s σ H xs us Q I rs q
theorem iC:cX X (.type "list") (fun xs H Q=>∃p ys,xs=[.ref p]∧(SqL X.K H p ys∨SqT X.K H p ys)∧∀l,H l=none→Q (.ref l) (upd H l (.lst ys))):=by
 intro pins s σ H xs us Q I r h;obtain⟨p,ys,rfl,hq,q⟩:=h;obtain⟨u,rfl,rx⟩:=vals1 r;cases rx;have fin:∀(its:List Value),aQ ys its→ys.length≤sizeLine→∀(h':Heap) (c':Nat),(∀b o',s.heap.get? b=some o'→h'.get? b=some o') →
   h'.get? s.heap.objs.size=some { cls:=.type "list",dict:=none,data:=.seq its.toArray c',slots:=#[] }→EP X pins σ Q (.ref s.heap.objs.size) { s with heap:=h' }:=fun its r' hz h' c' kp e =>
  ⟨.ref s.heap.objs.size,_,I.laid (t':=s.toks) kp (qk _) (show bT X.prog X.w _ h' _ (.lst ys) from⟨hz,its,c',r',e⟩),rfl,q _ (I.hok.fresh (qk _))⟩
 rcases hq with hq|hq
 ·obtain⟨its,r',pl,hz⟩:=I.list hq;have hlen:=r'.length
  obtain⟨o,ho,hc,n,hd⟩:=pl.isList;exact call_list_seq p (.inl rfl) ho hc hd (fun h' c' kp e=>fin its r' hz h' c' kp e) (by simp only[qr]<;>omega)
 ·obtain⟨its,r',pl,hz⟩:=I.tuple hq;have hlen:=r'.length
  obtain⟨o,ho,hc,n,hd⟩:=pl;exact call_list_seq p (.inr rfl) ho hc hd (fun h' c' kp e=>fin its r' hz h' c' kp e) (by simp only[qr]<;>omega)
theorem jU:cX X (.type "tuple") (fun xs H Q=>∃p ys,xs=[.ref p]∧((SqL X.K H p ys∧∀l,H l=none→Q (.ref l) (upd H l (.tup ys)))∨(SqT X.K H p ys∧Q (.ref p) H))):=by
 intro pins s σ H xs us Q I r h;obtain⟨p,ys,rfl,h⟩:=h;obtain⟨u,rfl,rx⟩:=vals1 r;cases rx
 rcases h with ⟨hq,q⟩|⟨hq,q⟩
 ·obtain⟨its,r',pl,hz⟩:=I.list hq;have hlen:=r'.length
  refine call_tuple_list pl.isList (fun h' kp=>?_) (by simp only[qr]<;>omega)
  have I1:Inv X pins σ H { s with heap:=h' }:=I.kept (t':=s.toks) kp
  have I2:Inv X pins σ (upd H h'.objs.size (.tup ys)) { s with heap:=h'.push { cls:=.type "tuple",data:=.seq its.toArray } }:=
   I1.laid (t':=s.toks) (fun b o e=>qo _ e) (qk _) (show bT X.prog X.w _ _ _ (.tup ys) from⟨hz,its,r',IsTup.new _ _⟩)
  exact⟨.ref h'.objs.size,_,I2,rfl,q _ (I1.hok.fresh (qk _))⟩
 ·obtain⟨its,r',pl,hz⟩:=I.tuple hq;exact call_tuple_same pl ⟨.ref p,H,I,rfl,q⟩
def tyV(K:uz)(T:String)(x:V)(H:Hp):Prop:=match x with
 |.str _=>T = "str"
 |.int _=>T = "int"
 |.ref p=>(T = "list"∧∃xs,SqL K H p xs)∨(T = "tuple"∧∃o,K.lookup p=some o∧o.cls=.type "tuple"∧o.dict=none) ∨
   (T = "dict"∧((∃kvs,H p=some (.dK kvs))∨∃kvs,H p=some (.dT kvs)))∨(T = "set"∧∃S n,H p=some (.set S n))
 |_=>False
theorem FZ{pins:v9}{σ:St}{H:Hp}{s:Shared}{T:String}{x:V}{v:Value}(I:Inv X pins σ H s)(r:RelV x v)(ty:tyV X.K T x H) :
  s.TypeIs v T∧∀a,v=.ref a→∃ob,s.heap.get? a=some ob∧ob.dict=none:=by
 cases x with
 |str z =>
  obtain⟨t,rfl⟩:=r;cases (show T = "str" from ty)
  exact⟨typeIs_str s z t,fun _ e=>nomatch e⟩
 |int i =>
  obtain⟨t,rfl⟩:=r;cases (show T = "int" from ty)
  exact⟨typeIs_int s i t,fun _ e=>nomatch e⟩
 |ref p =>
  cases r
  rcases ty with ⟨rfl,xs,hq⟩|⟨rfl,o,hk,hc,hd⟩|⟨rfl,hk⟩|⟨rfl,S,n,hk⟩
  ·obtain⟨its,_,pl,_⟩:=I.list hq;refine⟨pl.isList.typeIs,fun a e=>?_⟩
   cases e;obtain⟨o,n,e,c,hd,_⟩:=pl;exact⟨o,e,hd⟩
  ·refine⟨⟨o,I.kIn p o hk,hc⟩,fun a e=>?_⟩
   cases e;exact⟨o,I.kIn _ o hk,hd⟩
  ·have z:∃o,s.heap.get? p=some o∧o.ExactDict:=by
    rcases hk with ⟨kvs,hk⟩|⟨kvs,hk⟩
    ·obtain⟨_,_,_,_,o,_,_,e,ex,_⟩:=I.hok p _ hk;exact⟨o,e,ex⟩
    ·obtain⟨_,_,_,_,o,_,_,e,ex,_⟩:=I.hok p _ hk;exact⟨o,e,ex⟩
   obtain⟨o,e,ex⟩:=z;refine⟨⟨o,e,ex.1⟩,fun a e2=>?_⟩
   cases e2;exact⟨o,e,ex.2.1⟩
  ·obtain⟨o,_,_,_,e,ex,_⟩:=I.hok p _ hk;refine⟨⟨o,e,ex.1⟩,fun a e2=>?_⟩
   cases e2;exact⟨o,e,ex.2.1⟩
 |_=>exact False.elim ty
def tBM(K:uz)(T:String)(r:V→List V→Hp→VK→Prop)(to:TE)(t:TA):TE:=fun σ H Q=>to σ H fun x H1=>tyV K T x H1∧t σ H1 fun xs H2=>r x xs H2 Q
variable {o e:Expr}{es:List Expr}{to:TE}{t:TA}{name:Str}{apos ay:Pos}{T id:String}{r:V→List V→Hp→VK→Prop}
theorem lZ(pa:PlainAttrs T)(slot:Slot T name id)(hty:typeOf (.builtin id)=pure (.type "method_descriptor"))(hm:MtR X id r)(ho:PE X o to)(ha:PA X (e::es) t)
  (hbase:attributeBase o name X.env (eval o X.env)=eval o X.env:=by rfl)
  (hfew:((backTo ay (starEach (e::es) X.env)).all (fun x=>!x.1)&&(backToKw ay (keywordEach [] X.env)).all (fun x=>x.1.isSome)
   && decide ((e::es).length+([]:List Keyword).length+(if ([]:List Keyword).isEmpty then 0 else 1)<30))=true:=by rfl)
  (hline:(apos.endLine == ay.line)=true:=by rfl) (hs:starEach (e::es) X.env=(false,eval e X.env)::starEach es X.env:=by rfl) (hplain:(backTo ay (starEach es X.env)).any (·.1)=false:=by rfl) :
  PE X (.Call (.Attribute o name apos) (e::es) [] ay) (tBM X.K T r to t):=by
 intro pins s σ H Q I h;refine wpAny_Call_method_late hbase hfew hline rfl (ae (ho pins s σ H _ I h) fun v s1 ⟨x,H1,I1,r1,ty,q1⟩=>?_)
 obtain⟨h1,h2⟩:=FZ I1 r1 ty;refine⟨T,id,pa,slot,hty,h1,h2,?_⟩;have hA:=ha ay pins s1 σ H1 _ I1 q1
 rw[hs]at hA ⊢;refine Calls.callWith_builtin (by show (false || (backTo ay (starEach es X.env)).any (·.1))=false;rw[hplain]<;>rfl) (Calls.evalArgs_plain ?_)
 exact ae hA fun us s2 ⟨vs,H2,I2,r2,q2⟩=>hm pins s2 σ H2 x vs v us Q I2 r1 r2 q2
end
def qc(X:Cx)(id:String)(r:V→List V→Hp→VK→Prop):Prop:=
 ∀(pins:v9) (s:Shared) (σ:St) (H:Hp) (x:V) (xs:List V) (v:Value) (us:List Value) (Q:VK),Inv X pins σ H s→RelV x v→aQ xs us→r x xs H Q →
  wpAny (model X.prog X.w) X.A (call (.builtin id) (v::us)) (EP X pins σ Q) X.xe s
theorem aQ.one:∀{x:V} {us:List Value},aQ [x] us→∃u,us=[u]∧RelV x u
 |_,_,.cons r .nil=>⟨_,rfl,r⟩
theorem aQ.eraseIdx:∀{xs:List V} {us:List Value} (i:Nat),aQ xs us→aQ (xs.eraseIdx i) (us.eraseIdx i)
 |_,_,_,.nil=>.nil
 |_,_,0,.cons _ t=>t
 |_,_,i+1,.cons r t=>.cons r (aQ.eraseIdx i t)
theorem aQ.reverse{xs:List V}{us:List Value}(h:aQ xs us):aQ xs.reverse us.reverse:=by
 induction h with
 |nil=>exact .nil
 |cons r t ih=>rw[reverse_cons,reverse_cons];exact aQ.append ih (.cons r .nil)
theorem qF{α:Type}:∀(l:List α) (i:Nat),(l.eraseIdx i).length≤l.length
 |[],_=>qk _
 |_::_,0=>ue _
 |_::r,i+1=>succ_le_succ (qF r i)
section
variable {X:Cx}{pins:v9}{σ:St}{H:Hp}{s:Shared}{l b:Addr}{xs ys zs:List V}
theorem Inv.lset{its its':List Value}{n:Nat}{f:Array Value→Array Value}{t':Nat}(I:Inv X pins σ H s)(hH:H l=some (.lst xs))
  (e:s.heap.get? l=some { cls:=.type "list",data:=.seq its.toArray n }) (hf:f its.toArray=its'.toArray) (hv:aQ ys its') (hz:ys.length≤sizeLine) :
  Inv X pins σ (upd H l (.lst ys)) { s with heap:=s.heap.update l (Obj.mapSeq f),toks:=t' }:=by
 have q:=PySem.IsL.update e f
 rw[hf]at q;refine I.write (x:=l) (e:=l) (by rw[hH];exact trivial) (.inl rfl) (fun b' u hb hu=>(Heap.get?_update_other s.heap (Obj.mapSeq f) (Ne.symm hb)).trans hu) ⟨_,q⟩ ?_
 exact⟨hz,its',_,hv,q⟩
theorem Inv.lnew{its:List Value}{t':Nat}(I:Inv X pins σ H s)(hv:aQ ys its)(hz:ys.length≤sizeLine) :
  Inv X pins σ (upd H s.heap.objs.size (.lst ys)) { s with heap:=s.heap.push { cls:=.type "list",data:=.seq its.toArray },toks:=t' }:=
 I.laid (fun _ _ q=>qo _ q) (qk _) ⟨hz,its,0,hv,ub _ rfl⟩
theorem Inv.fresh(I:Inv X pins σ H s):H s.heap.objs.size=none:=I.hok.fresh (qk _)
theorem Inv.lstM(I:Inv X pins σ H s)(hH:H l=some (.lst xs)):xs.length≤sizeLine∧∃(its:List Value) (n:Nat),aQ xs its∧xs.length=its.length∧s.heap.get? l=some { cls:=.type "list",data:=.seq its.toArray n }:=by
 obtain⟨z,its,n,r,e⟩:=I.hok l _ hH;exact⟨z,its,n,r,r.length,e⟩
theorem II{n:Nat}(h:n≤sizeLine):Builtin.List.listTooLong n=false:=by
 unfold Builtin.List.listTooLong;exact qm (by omega)
end
section
variable {X:Cx}
noncomputable def NQ:V→List V→Hp→VK→Prop:=fun x vs H Q=>∃l xs y,x=.ref l∧vs=[y]∧H l=some (.lst xs)∧xs.length<sizeLine∧Q .non (upd H l (.lst (xs++[y])))
theorem gO:qc X "list.append" NQ:=by
 intro pins s σ H x vs v us Q I rx rv h;obtain⟨l,xs,y,rfl,rfl,hH,hz,q⟩:=h;cases rx;obtain⟨u,rfl,ru⟩:=rv.one;obtain⟨z,its,n,r,hl,e⟩:=I.lstM hH;refine call_meets F.slot_list_append ⟨_,e,rfl⟩ F.entry_list_append (F.args_list_append_2 _ _) (PySem.list_append l its.toArray n u (by rw[qr];omega)) ⟨e,?_⟩
 refine⟨.non,_,I.lset (its':=its++[u]) hH e (by simp) (r.append (.cons ru .nil)) ?_,rfl,q⟩
 rw[sh,List.length_singleton];omega
noncomputable def NP:V→List V→Hp→VK→Prop:=fun x vs H Q=>∃l b xs zs,x=.ref l∧vs=[.ref b]∧H l=some (.lst xs)∧H b=some (.lst zs)∧xs.length+zs.length≤sizeLine∧Q .non (upd H l (.lst (xs++zs)))
theorem aBc:qc X "list.extend" NP:=by
 intro pins s σ H x vs v us Q I rx rv h;obtain⟨l,b,xs,zs,rfl,rfl,hH,hB,hz,q⟩:=h;cases rx;obtain⟨u,rfl,ru⟩:=rv.one;cases ru;obtain⟨z,its,n,r,hl,e⟩:=I.lstM hH;obtain⟨z2,cb,n2,r2,fi,e2⟩:=I.lstM hB;have hsz:its.toArray.size+cb.toArray.size≤sizeLine:=by rw[qr,qr];omega
 have hlong:¬(!its.toArray.isEmpty&&Builtin.List.listTooLong (its.toArray.size+cb.toArray.size))=true:=by
  rw[II hsz,Bool.and_false];exact qx
 refine call_meets F.slot_list_extend ⟨_,e,rfl⟩ F.entry_list_extend (F.args_list_extend_2 _ _)
  (AutoSeq1.list_extend_list_list_0 l its.toArray n b cb.toArray n2 hlong (by rw[qr];omega) (by omega)) ⟨e,e2,?_⟩
 refine⟨.non,_,I.lset (its':=its++cb) hH e (by simp) (r.append r2) ?_,rfl,q⟩
 rw[sh];omega
noncomputable def WY:V→List V→Hp→VK→Prop:=fun x vs H Q=>∃l xs i k y,x=.ref l∧vs=[.int i]∧H l=some (.lst xs)∧-(2 ^ 63)≤i∧i<2 ^ 63∧seqIndex? i xs.length=some k∧xs[k]?=some y∧Q y (upd H l (.lst (xs.eraseIdx k)))
theorem IR:qc X "list.pop" WY:=by
 intro pins s σ H x vs v us Q I rx rv h;obtain⟨l,xs,i,k,y,rfl,rfl,hH,h1,h2,hk,hy,q⟩:=h;cases rx;obtain⟨u,rfl,ru⟩:=rv.one;obtain⟨t,rfl⟩:=ru;obtain⟨z,its,n,r,hl,e⟩:=I.lstM hH;obtain⟨w,hw,cq⟩:=r.get hy;refine call_meets F.slot_list_pop ⟨_,e,rfl⟩ F.entry_list_pop (F.args_list_pop_2 _ _)
  (MeetsSeq.list_pop_at l its.toArray n i t k w (fitsIndex_both h1 h2) (by rw[qr,←hl];exact hk) (by rw[←Array.getElem?_toList];exact hw) (by rw[qr];omega)) ⟨e,?_⟩
 refine⟨y,_,I.lset (its':=its.eraseIdx k) hH e ?_ (r.eraseIdx k) ?_,cq,q⟩
 ·show its.toArray.eraseIdxIfInBounds k=(its.eraseIdx k).toArray
  rw[List.eraseIdxIfInBounds_toArray]
 ·have:=qF xs k
  omega
noncomputable def aDk:R2:=fun x y H Q=>∃l b xs zs,x=.ref l∧y=.ref b∧H l=some (.lst xs)∧H b=some (.lst zs)∧xs.length+zs.length≤sizeLine∧∀p,H p=none→Q (.ref p) (upd H p (.lst (xs++zs)))
theorem HV:OpR X (binaryOp .Add) aDk:=by
 intro pins s σ H x y v u Q I rx ry h;obtain⟨l,b,xs,zs,rfl,rfl,hH,hB,hz,q⟩:=h;cases rx;cases ry;obtain⟨z,its,n,r,hl,e⟩:=I.lstM hH;obtain⟨z2,cb,n2,r2,fi,e2⟩:=I.lstM hB;refine PySem.P.add_list e e2 ?_ (by rw[qr,qr];omega)
 have ea:its.toArray++cb.toArray=(its++cb).toArray:=by simp
 rw[ea];exact⟨.ref _,_,I.lnew (t':=s.toks) (r.append r2) (by rw[sh];omega),rfl,q _ I.fresh⟩
end
section
variable {prog:v7}{w:World}{A:Around}{E:v8}{s:Shared}
end
section
variable {X:Cx}
end
end L2
namespace Att
open PySem PySem.W PySem.Calls PyProof.Rows
theorem mL{P:Params}{h:Heap}:∀(ns:List Int) (vs:List Value),WellAll P h vs (ns.map WData.int)→IntsAre vs ns:=by
 intro ns
 induction ns with
 |nil =>
  intro vs w;rw[map_nil]at w;cases w;exact .nil
 |cons n ns ih =>
  intro vs w;rw[sq]at w;cases w with
  |cons a b =>
   cases a;exact .cons _ _ (ih _ b)
theorem DN{l:OpenLaw}{n:Nat}(hn:l.most=some n){P:Params}{h:Heap}{args:List WData}{vals:List Value}
  (hpre:l.row.toRowW.claim.pre args=true) (hwl:WellAll P h vals args) :
  ∃a vs ns,vals=[Value.ref a]∧args=[WData.list (ns.map WData.int)]∧h.get? a=some { cls:=.type "list",data:=.seq vs.toArray }∧IntsAre vs ns∧ns.length≤n:=by
 have hsh:WShape.hasAll [] args [.list .int]=true:=(pre_splitW hpre).1
 have hc:l.pre.holds [] { args:=args }=true:=(pre_splitW hpre).2
 obtain⟨d,r,rfl,h1,h2⟩:=hasAllW_cons hsh;obtain rfl:=hasAllW_nil h2;obtain⟨xs,rfl,h3⟩:=hasW_list h1;obtain⟨ns,rfl⟩:=items_int h3;have hlen:ns.length≤n:=by
  unfold OpenLaw.pre at hc;have h4:(WTm.not (.lt (.lit (.int (n:Int))) (.len (.arg 0)))).holds [] { args:=[.list (ns.map .int)] }=true:=by
   have h4:=(holds_andW hc).1
   rw[hn]at h4;exact h4
  have h5:=condW_of h4 (w_not (w_lt w_lit (w_len_list (w_arg rfl))))
  rw[qj]at h5;refine Nat.le_of_not_lt fun q=>?_
  have q':(n:Int)<((ns.length:Nat):Int):=by omega
  first
   | (rw[sr q']at h5;exact absurd h5 (by decide))
   | (simp at h5;omega)
 cases hwl with
 |cons w1 w2 =>
  cases w2;cases w1 with
  |list ho hall=>exact⟨_,_,ns,rfl,rfl,ho,mL ns _ hall,hlen⟩
theorem DT(l:OpenLaw)(args:List WData):l.row.toRowW.claim.post args (.bool true) args=true:=
 postW_of (r:=l.row.toRowW) (X:=(true == true))
  (show WShape.has [] (.bool true) .bool=true by first|rfl|decide|simp[WShape.has,WShape.arms,WShape.armsAll])
  (show (WTm.eq .res (.lit (.bool true))).value [] { args:=args,res:=some (.bool true),after:=args }=some (.bool (true == true)) from w_eq_bool (w_res rfl) w_lit) rfl
theorem wZ{l:OpenLaw}{n:Nat}{q:v7}{loose:List Str}{XP:(va)→Heap→Prop}{YP:World→Heap→Prop}{d:DefRec}
  (hn:l.most=some n) (o6:d.params.defaults=[])
  (call:∀(w:World) (s₀ s₁:Shared) (mg mb:va) (fa:Addr) (o:Obj) (pm cd doc:Value) (a:Addr) (vs:List Value) (ns:List Int),
   Ground q loose [] XP w s₀ mg mb s₁.heap→YP w s₁.heap →
   s₁.heap.get? fa=some o→o.data=.func (docDef d.name d.params d.body d.scope pm cd doc)→s₁.heap.CodeRec cd d.name→mg d.name=some (.ref fa) →
   s₁.heap.get? a=some { cls:=.type "list",data:=.seq vs.toArray }→IntsAre vs ns→ns.length≤n→s₁.gens=#[] →
   codeAny (model l.prog w) callerA (.call (.ref fa) ⟨[.ref a],[]⟩) (fun r s'=>r=.ok (.ret (.bool true))∧OldK s₁.heap s'.heap∧s'.os=s₁.os∧AllBare s'.gens) s₁) :
  WalkO q loose XP YP l.row.toRowW d [] (fun f vs=>PySem.call f vs):=by
 intro w s₀ s₁ mg mb G Y fa o pm cd doc dV kV ho hd cf hD ow hg args vals as hpre hlay hrd hwl hlo;obtain rfl:dV=.none:=Dflts.none hD o6;obtain rfl:kV=.none:=Dflts.noKw hD;obtain⟨a,vs,ns,rfl,rfl,hobj,hints,hlen⟩:=DN hn hpre hwl;refine enter_call (codeAny_mono (call w s₀ s₁ mg mb fa o pm cd doc a vs ns G Y ho (fd_plain hd) cf ow hobj hints hlen hg) fun r s' hq=>?_)
 obtain⟨rfl,h2,h3,h4⟩:=hq;exact⟨.inl ⟨.bool true,.bool true,[],rfl,fun _=>rfl,.bool true,DT l _,fun _=>⟨List.Pairwise.nil,fun _ hm=>(nomatch hm)⟩⟩,h2,h3,h4⟩
section
variable {prog:v7}{w:World}{A:Around}{E:v8}{s:Shared}{K:Frag}
end
end Att
namespace L2
open PySem PySem.Spec PyProof.Rows
theorem pQ:∀{vs:List Value} {ns:List Int},IntsAre vs ns→aQ (ns.map V.int) vs
 |_,_,.nil=>.nil
 |_,_,.cons n t h=>.cons ⟨t,rfl⟩ (pQ h)
def aAS(H:Hp):Prop:=∀b,H b=none∨∃o xs,H b=some (.frz o (.lst xs))
theorem IZ{P:v7}{w:World}{K:uz}{mg mb:va}{CX:aj}{k:Nat}{fa a:Addr}{fd:v3}{x:Str}{sp:Sp}{s₁:Shared}{vs:List Value}{ns:List Int}
  (KX:K.In s₁.heap) (fh:s₁.heap.Ns mainGlobals mg) (hb:s₁.heap.Ns builtinsNs mb) (hbb:∀x:Str,x≠"__name__"→mb x=bootBuiltins x) (hlim:s₁.heap.NoLimit) (hg:s₁.gens=#[])
  (ha:s₁.heap.get? a=some { cls:=.type "list",data:=.seq vs.toArray }) (hi:IntsAre vs ns) (hl:ns.length≤sizeLine) (hr:Room k callerA)
  (F:∀base:Heap,K.In base→base.Ns mainGlobals mg→FnOk P w K mg base CX k fa fd [x] sp) (hbind:∀(s:Shared) (u:Value),BindsTo s fd ⟨[u],[]⟩ [(x,u)])
  (aq:∀H:Hp,aAS H→SqL K H a (ns.map V.int)→sp [.ref a] H (fun v _=>v=.bl true) fun _ _ _=>False)
  (hCX:∀H e s',CX [] H s₁ (fun _ _ _=>False) e s'→False) :
  codeAny (model P w) callerA (.call (.ref fa) ⟨[.ref a],[]⟩) (fun r s'=>r=.ok (.ret (.bool true))∧OldK s₁.heap s'.heap∧s'.os=s₁.os∧AllBare s'.gens) s₁:=by
 have rv:=pQ hi
 have lenV:=hi.length
 have core:∀H:Hp,aAS H→SqL K H a (ns.map V.int)→HOk P w H s₁.heap→(∀b,H b≠none→b=a)→(H a≠none→K.lookup a=none) →
   codeAny (model P w) callerA (.call (.ref fa) ⟨[.ref a],[]⟩) (fun r s'=>r=.ok (.ret (.bool true))∧OldK s₁.heap s'.heap∧s'.os=s₁.os∧AllBare s'.gens) s₁:=by
  intro H hO hS hok hA hK;have kW:∀{b:Addr} {o:Obj},s₁.heap.get? b=some o→H b=none→(sT s₁.heap H).get? b=some o:=fun e n=>JO e n
  have nh:∀{b:Addr} {o:Obj} {es:Array DictEntry} {ep:Nat},s₁.heap.get? b=some o→o.data=.dict es ep→H b=none:=fun {b o es ep} e d=>by
   cases q:H b with
   |none=>rfl
   |some u =>
    have e':b=a:=hA b (by rw[q];simp)
    subst e';rw[ha]at e;cases e;have d':Data.seq vs.toArray _=Data.dict es ep:=d
    cases d'
  have nsK:∀{b:Addr} {m:va},s₁.heap.Ns b m→(sT s₁.heap H).Ns b m:=fun {b m} ⟨o,es,ep,e,d,r⟩=>⟨o,es,ep,kW e (nh e d),d,r⟩
  have hKb:K.In (sT s₁.heap H):=fun b o e=>kW (KX b o e) (by
   cases q:H b with
   |none=>rfl
   |some u =>
    have e':b=a:=hA b (by rw[q];simp)
    subst e';rw[hK (by rw[q];simp)]at e;cases e)
  have hM:Mod K mg (sT s₁.heap H):=⟨hKb,nsK fh,⟨mb,nsK hb,hbb⟩,let ⟨mc,h1,h2⟩:=hlim;⟨mc,nsK h1,h2⟩⟩
  have e0:Env0 P w K mg (sT s₁.heap H) callerA [] s₁ H:=⟨rfl,hM,fun b o e=>QD e,Nat.le_of_eq (EO _ _),trivial,fun b hb=>absurd (show b∈([]:List Addr) from hb) (by simp),hok,.of_eq hg⟩
  refine codeAny_mono ((F _ hKb (nsK fh)).run callerA [] s₁ H ⟨[.ref a],[]⟩ [.ref a] [.ref a] _ _ hr e0 (hbind s₁ (.ref a)) (.cons rfl .nil) (aq H hO hS)) fun r s' h=>?_
  cases r with
  |error e=>exact(hCX H e s' h).elim
  |ok fl =>
   cases fl with
   |next=>exact False.elim h
   |brk=>exact False.elim h
   |cont=>exact False.elim h
   |ret u =>
    obtain⟨v,H',os,bare,un,hok',r',q⟩:=h;have q':v=.bl true:=q
    subst q';obtain rfl:u=Value.bool true:=r';refine⟨rfl,OldK.of_keep fun b o e=>?_,os,bare⟩
    cases q:H b with
    |none=>exact un.keep b o e q (by intro z;exact absurd (show b∈([]:List Addr) from z) (by simp)) (by simp)
    |some u =>
     rcases hO b with z|⟨ob,xs,z⟩
     ·rw[q]at z;cases z
     ·have z2:=un.frzs b ob _ z
      obtain⟨e1,_⟩:=hok b _ z;obtain⟨e2,_⟩:=hok' b _ z2;rw[e]at e1;cases e1;exact e2
 cases hk:K.lookup a with
 |some o =>
  have e:=KX a o hk
  rw[ha]at e;cases e;refine core (fun _=>none) (fun _=>.inl rfl) (.inr ⟨_,vs.toArray,_,hk,rfl,rfl,rfl,by rw[qr,lenV];exact hl,by simpa using rv⟩) (fun b u z=>by have z':(none:Option HO)=some u:=z;cases z') (fun b z=>absurd rfl z) fun z=>absurd rfl z
 |none =>
  refine core (fun b=>if b=a then some (.frz { cls:=.type "list",data:=.seq vs.toArray } (.lst (ns.map V.int))) else none) (fun b=>?_) (.inl (.inr ⟨{ cls:=.type "list",data:=.seq vs.toArray },if_pos rfl⟩)) (fun b u z=>?_) (fun b z=>?_) fun _=>hk
  ·by_cases hb:b=a
   ·exact .inr ⟨_,_,if_pos hb⟩
   ·exact .inl (if_neg hb)
  ·by_cases hb:b=a
   ·have z':=(if_pos hb).symm.trans z
    cases z';subst hb;exact⟨ha,by rw[qj];exact hl,vs,_,rv,ha⟩
   ·have z':=(if_neg hb).symm.trans z
    cases z'
  ·by_cases hb:b=a
   ·exact hb
   ·exact absurd (if_neg hb) z
theorem MS{l:PySem.W.OpenLaw}{n k:Nat}{q:v7}{loose:List Str}{XP:(va)→Heap→Prop}{YP:World→Heap→Prop}{d:DefRec}{K:Params→uz}{CX:World→aj}{sp:World→Sp}{x:Str}
  (hn:l.most=some n) (ji:n≤sizeLine) (o6:d.params.defaults=[]) (hr:Room k callerA)
  (hY:∀(w:World) (h:Heap),YP w h→(K w.params).In h)
  (F:∀(w:World) (mg:va) (fa:Addr) (h:Heap),(K w.params).In h→h.Ns mainGlobals mg→mg d.name=some (.ref fa) →
   ∃fd:v3,(∀(s:Shared) (u:Value),BindsTo s fd ⟨[u],[]⟩ [(x,u)]) ∧
    ∀base:Heap,(K w.params).In base→base.Ns mainGlobals mg→FnOk l.prog w (K w.params) mg base (CX w) k fa fd [x] (sp w))
  (aq:∀(w:World) (H:Hp) (a:Addr) (ns:List Int),ns.length≤n→aAS H→SqL (K w.params) H a (ns.map V.int)→sp w [.ref a] H (fun v _=>v=.bl true) fun _ _ _=>False)
  (hCX:∀(w:World) (H:Hp) (s:Shared) (e:Value) (s':Shared),CX w [] H s (fun _ _ _=>False) e s'→False) :
  PySem.W.WalkO q loose XP YP l.row.toRowW d [] (fun f vs=>PySem.call f vs):=by
 refine Att.wZ hn o6 fun w s₀ s₁ mg mb fa o pm cd doc a vs ns G Y ho hd cf ow hobj hints hlen hg=>?_
 have KX:=hY w _ Y
 obtain⟨fd,hb,hF⟩:=F w mg fa _ KX G.T.g ow;exact IZ KX G.T.g G.T.b G.T.builtins G.T.nolimit hg hobj hints (rj hlen ji) hr hF hb (fun H hO hS=>aq w H a ns hlen hO hS) fun H e s'=>hCX w H s₁ e s'
noncomputable def inClass(s:Stmt)(j:Nat):Stmt:=match s with
 |.ClassDef _ _ _ body _ _ _ _ _ _ _=>body.getD j (.Pass ⟨0,0,0,0⟩)
 |_=>.Pass ⟨0,0,0,0⟩
noncomputable def gB(s:Stmt):Arguments:=match s with
 |.FunctionDef _ a _ _ _ _ _ _ _ _=>a
 |_=>{ posonlyargs:=[],args:=[],vararg:=none,kwonlyargs:=[],kw_defaults:=[],kwarg:=none,defaults:=[] }
noncomputable def aL(s:Stmt):List Stmt:=match s with
 |.FunctionDef _ _ b _ _ _ _ _ _ _=>b
 |_=>[]
noncomputable def aB(s:Stmt):Scope:=match s with
 |.FunctionDef _ _ _ _ _ _ sc _ _ _=>sc
 |_=>{ kind:=.function,names:=[],isGenerator:=false,isCoroutine:=false }
abbrev kl:aj:=fun _ _ _ _ _ _=>False
abbrev E0:XK:=fun _ _ _=>False
structure Fun (K:uz) (x qual:Str) (st:Stmt) (f:Addr) (fd:v3):Prop where
 ex:∃(oc:Value) (od:Option Addr) (kV doc pm:Value) (an:Option Addr) (aw ct:Value) (i4:Array (Option Value)),
  fd=PySem.W.fnOf x qual (gB st) (aL st) (aB st) .none kV doc pm an aw ct∧K.lookup f=some ⟨oc,od,.func fd,i4⟩∧codeIn K aw qual=true
 kp:keepIn K (.ref f)=true
section
variable {P:v7}{w:World}{K:uz}{mg:va}{base:Heap}
theorem Fun.binds{x qual:Str}{st:Stmt}{f:Addr}{fd:v3}{ps:List Str}(F:Fun K x qual st f fd)
  (h:∀(kV doc pm:Value) (an:Option Addr) (aw ct:Value) (us:List Value),us.length=ps.length→bindArgs (PySem.W.fnOf x qual (gB st) (aL st) (aB st) .none kV doc pm an aw ct) ⟨us,[]⟩=pure (ps.zip us)):Binds K fd ps []:=by
 obtain⟨oc,od,kV,doc,pm,an,aw,ct,i4,rfl,lk,cf⟩:=F.ex;exact .all (h kV doc pm an aw ct)
end
theorem UK{A:Around}{k:Nat}(hr:Room k A):A.units+1<cLine:=Nat.lt_of_le_of_lt (Nat.add_le_add_left (by decide:1≤64) _) hr.units
section
variable {X:Cx}
theorem pv(i:Nat){x:Str}{pos:Pos}(hN:X.N[i]?=some x:=by rfl)(hv:Vis X.env.scope x:=by first|exact Or.inl rfl|exact Or.inr (Or.inl rfl)|exact Or.inr (Or.inr rfl))(hd:(x == ("__debug__":Str))=false:=by decide)
  (cf:(x == ("__classdict__":Str))=false:=by decide):PE X (.Name x pos) (pH i):=lF hN hv hd cf
end
theorem jZ{A B:Prop}(h:B):if false=true then A else B:=by
 rw[if_neg qx];exact h
theorem yH{A B:Prop}(h:A):if true=true then A else B:=by
 rw[if_pos rfl];exact h
theorem aEC{c A B:Prop}[Decidable c](hc:c)(h:B):if (!decide c)=true then A else B:=by
 rw[sr hc];exact jZ h
def aF(H H':Hp):Prop:=∀b o,H b=some o→H' b=some o
theorem aF.refl(H:Hp):aF H H:=fun _ _ h=>h
theorem aF.trans{H H1 H2:Hp}(a:aF H H1)(b:aF H1 H2):aF H H2:=fun c o h=>b c o (a c o h)
theorem aF.free{H H':Hp}(e:aF H H'){l:Addr}(h:H' l=Option.none):H l=Option.none:=by
 cases q:H l with
 |none=>rfl
 |some o =>
  rw[e l o q]at h;cases h
theorem aF.seq{K:uz}{H H':Hp}{a:Addr}{xs:List V}(e:aF H H')(h:SqL K H a xs):SqL K H' a xs:=by
 rcases h with (h|⟨o,h⟩)|h
 ·exact .inl (.inl (e _ _ h))
 ·exact .inl (.inr ⟨o,e _ _ h⟩)
 ·exact .inr h
section
variable {κ:Type}[DecidableEq κ]
noncomputable def fJ(kvs:List (κ×V))(k:κ):Option V:=(kvs.find? fun kv=>decide (kv.1=k)).map (·.2)
noncomputable def putK(kvs:List (κ×V))(k:κ)(v:V):List (κ×V):=
 if (kvs.any fun kv=>decide (kv.1=k))=true then kvs.map (fun kv=>if kv.1=k then(kv.1,v) else kv) else kvs++[(k,v)]
theorem gJ{p:κ×V}{r:List (κ×V)}{k:κ}(e:p.1=k):fJ (p::r) k=some p.2:=by simp[fJ,find?_cons,e]
theorem gK{p:κ×V}{r:List (κ×V)}{k:κ}(e:¬p.1=k):fJ (p::r) k=fJ r k:=by simp[fJ,find?_cons,e]
theorem nB(k:κ):∀kvs:List (κ×V),(kvs.any fun kv=>decide (kv.1=k))=(fJ kvs k).isSome
 |[]=>rfl
 |p::r=>by
  rw[any_cons]
  by_cases e:p.1=k
  ·simp only[gJ e,sr e,Bool.true_or,Option.isSome_some]
  ·rw[gK e,qm e,Bool.false_or];exact nB k r
theorem iR(kvs:List (κ×V))(k:κ)(v:V):(putK kvs k v).length≤kvs.length+1:=by
 unfold putK;split
 ·rw[qj];omega
 ·rw[sh,ui,List.length_nil];omega
theorem HC{kvs:List (κ×V)}{k:κ}(v:V)(h:fJ kvs k=none):putK kvs k v=kvs++[(k,v)]:=by
 unfold putK;rw[nB,h];exact if_neg (by decide)
theorem gI.isSome_eq{o:Option V}{u:Option Value}(r:gI o u):o.isSome=u.isSome:=by
 cases o with
 |none=>cases u with
  |none=>rfl
  |some _=>exact(show False from r).elim
 |some _=>cases u with
  |none=>exact(show False from r).elim
  |some _=>rfl
theorem gI.getD{o:Option V}{u:Option Value}{d:V}{d':Value}(r:gI o u)(rd:RelV d d'):RelV (o.getD d) (u.getD d'):=by
 cases o with
 |none=>cases u with
  |none=>exact rd
  |some _=>exact(show False from r).elim
 |some _=>cases u with
  |none=>exact(show False from r).elim
  |some _=>exact r
theorem KV.val{kvs:List (κ×V)}{vs:List (κ×Value)}(r:KV kvs vs)(k:κ):gI (fJ kvs k) (valueAt vs k):=by
 unfold KV at r
 induction r with
 |nil=>exact True.intro
 | @cons p q ps qs h t ih =>
  obtain⟨h1,h2⟩:=h
  by_cases e:p.1=k
  ·have e':q.1=k:=h1.symm.trans e
   have b:valueAt (q::qs) k=some q.2:=by simp[valueAt,find?_cons,e']
   rw[gJ e,b];exact h2
  ·have e':¬q.1=k:=fun z=>e (h1.trans z)
   have b:valueAt (q::qs) k=valueAt qs k:=by simp[valueAt,find?_cons,e']
   rw[gK e,b];exact ih
theorem KV.any{kvs:List (κ×V)}{vs:List (κ×Value)}(r:KV kvs vs)(k:κ):(kvs.any fun kv=>decide (kv.1=k))=vs.any fun kv=>decide (kv.1=k):=by
 unfold KV at r
 induction r with
 |nil=>rfl
 |cons h t ih=>rw[any_cons,any_cons,ih,h.1]
theorem KV.repl{kvs:List (κ×V)}{vs:List (κ×Value)}(r:KV kvs vs)(k:κ){y:V}{u:Value}(ry:RelV y u) :
  KV (kvs.map fun kv=>if kv.1=k then(kv.1,y) else kv) (vs.map fun kv=>if kv.1=k then(kv.1,u) else kv):=by
 unfold KV at r ⊢
 induction r with
 |nil=>exact .nil
 | @cons p q ps qs h t ih =>
  rw[sq,sq];refine .cons ?_ ih;obtain⟨h1,h2⟩:=h
  by_cases e:p.1=k
  ·rw[if_pos e,if_pos (h1.symm.trans e)];exact⟨h1,ry⟩
  ·rw[if_neg e,if_neg (fun z=>e (h1.trans z))];exact⟨h1,h2⟩
theorem KV.put{kvs:List (κ×V)}{vs:List (κ×Value)}(r:KV kvs vs)(k:κ){y:V}{u:Value}(ry:RelV y u):KV (putK kvs k y) (stored vs k u):=by
 unfold putK stored;rw[r.any k]
 by_cases e:(vs.any fun kv=>decide (kv.1=k))=true
 ·rw[if_pos e,if_pos e];exact r.repl k ry
 ·rw[if_neg e,if_neg e];exact Paired.snoc r ⟨rfl,ry⟩
theorem KV.length{kvs:List (κ×V)}{vs:List (κ×Value)}(r:KV kvs vs):kvs.length=vs.length:=Paired.length r
end
theorem AD{P:v7}{w:World}{k:Key}{u:Value}(r:RelV (kV k) u):(bH P w).is k u=true:=by
 cases k with
 |inl i=>obtain⟨t,e⟩:=(show ∃t,u=Value.int i t from r);subst e;exact vO P w i t
 |inr x=>obtain⟨t,e⟩:=(show ∃t,u=Value.str x t from r);subst e;exact iP P w x t
theorem qI{P:v7}{w:World}:∀{ks:List Key} {us:List Value},aQ (ks.map kV) us→ItemsAre (bH P w) ks us
 |[],_,r=>by rw[map_nil]at r;cases r;exact .nil
 |k::ks,_,r=>by
  rw[sq]at r;cases r with
  |cons h t=>exact .cons (AD h) (qI t)
abbrev KT(H:Hp):List (List Key×V)→List (List Key×Addr×Value)→Prop:=Paired fun p q=>p.1=q.1∧H q.2.1=some (.tup (p.1.map kV))∧RelV p.2 q.2.2
theorem KT.val{H:Hp}{kvs:List (List Key×V)}{xs:List (List Key×Addr×Value)}(r:KT H kvs xs)(k:List Key):gI (fJ kvs k) ((atKey xs k).map (·.2)):=by
 induction r with
 |nil=>exact True.intro
 | @cons p q ps qs h t ih =>
  obtain⟨h1,_,h2⟩:=h
  by_cases e:p.1=k
  ·have e':q.1=k:=h1.symm.trans e
   have b:atKey (q::qs) k=some q.2:=by simp[atKey,find?_cons,e']
   rw[gJ e,b];exact h2
  ·have e':¬q.1=k:=fun z=>e (h1.trans z)
   have b:atKey (q::qs) k=atKey qs k:=by simp[atKey,find?_cons,e']
   rw[gK e,b];exact ih
theorem KT.repl{H:Hp}{kvs:List (List Key×V)}{xs:List (List Key×Addr×Value)}(r:KT H kvs xs)(k:List Key){y:V}{u:Value}(ry:RelV y u) :
  KT H (kvs.map fun kv=>if kv.1=k then(kv.1,y) else kv) (xs.map (putAt k u)):=by
 induction r with
 |nil=>exact .nil
 | @cons p q ps qs h t ih =>
  rw[sq,sq];refine .cons ?_ ih;obtain⟨h1,h2,h3⟩:=h;unfold putAt
  by_cases e:p.1=k
  ·rw[if_pos e,if_pos (h1.symm.trans e)];exact⟨h1,h2,ry⟩
  ·rw[if_neg e,if_neg (fun z=>e (h1.trans z))];exact⟨h1,h2,h3⟩
theorem KT.put{H:Hp}{kvs:List (List Key×V)}{xs:List (List Key×Addr×Value)}(r:KT H kvs xs)(k:List Key){b:Addr}{y:V}{u:Value}(hb:H b=some (.tup (k.map kV)))(ry:RelV y u) :
  KT H (putK kvs k y) (storedH xs k b u):=by
 have e:(kvs.any fun kv=>decide (kv.1=k))=(atKey xs k).isSome:=by
  rw[nB,(r.val k).isSome_eq,Option.isSome_map]
 unfold putK storedH;rw[e]
 by_cases q:(atKey xs k).isSome=true
 ·rw[if_pos q,if_pos q];exact r.repl k ry
 ·rw[if_neg q,if_neg q];exact Paired.snoc r ⟨rfl,hb,ry⟩
theorem KT.keeps{H H':Hp}{kvs:List (List Key×V)}{xs:List (List Key×Addr×Value)}(r:KT H kvs xs)(ht:∀b ys,H b=some (.tup ys)→H' b=some (.tup ys)):KT H' kvs xs:=
 Paired.mapP r fun _ _ z=>⟨z.1,ht _ _ z.2.1,z.2.2⟩
section
variable {P:v7}{w:World}{H:Hp}{h:Heap}{a:Addr}
theorem TQ{u:HO}(ok:HOk P w H h)(e:Rd H a u):bT P w H h a u:=e.ok ok
theorem KI{kvs:List (Key×V)}(ok:HOk P w H h)(e:Rd H a (.dK kvs)):kvs.length≤sizeLine∧(a == sysModules)=false∧∃vs,KV kvs vs∧h.DictOf (bH P w) a vs:=
 show bT P w H h a (.dK kvs) from TQ ok e
theorem CB{kvs:List (Key×V)}(ok:HOk P w H h)(e:H a=some (.dK kvs)):kvs.length≤sizeLine∧(a == sysModules)=false∧∃vs,KV kvs vs∧h.DictOf (bH P w) a vs:=KI ok (.inl e)
theorem yE{ks:List Key}(ok:HOk P w H h)(e:H a=some (.tup (ks.map kV))):(tupleKind (bH P w)).is h ks a:=by
 obtain⟨_,its,r,o,h1,h2,n,h3⟩:=(show bT P w H h a (.tup (ks.map kV)) from ok a _ e)
 exact⟨o,its.toArray,n,h1,h2,h3,by simpa using qI r⟩
theorem KH{kvs:List (List Key×V)}(ok:HOk P w H h)(e:Rd H a (.dT kvs)):kvs.length≤sizeLine∧(a == sysModules)=false ∧
  ∃xs,KT H kvs xs∧h.DictOfH (tupleKind (bH P w)) a xs:=by
 obtain⟨z,y,xs,r,o,es,ep,h1,h2,h3,h4,h5⟩:=(show bT P w H h a (.dT kvs) from TQ ok e)
 refine⟨z,y,xs,r,o,es,ep,h1,h2,h3,h4,fun x hx=>?_,h5⟩
 have all:∀{l:List (List Key×V)} {m:List (List Key×Addr×Value)},KT H l m→∀x∈m,(tupleKind (bH P w)).is h x.1 x.2.1:=by
  intro l m q
  induction q with
  |nil=>intro x hx;exact nomatch hx
  | @cons p q ps qs hq t ih =>
   intro x hx
   rcases rz.mp hx with e|hx
   ·subst e;exact yE ok (by rw[←hq.1];exact hq.2.1)
   ·exact ih x hx
 exact all r x hx
theorem aFa{kvs:List (List Key×V)}(ok:HOk P w H h)(e:H a=some (.dT kvs)):kvs.length≤sizeLine∧(a == sysModules)=false ∧
  ∃xs,KT H kvs xs∧h.DictOfH (tupleKind (bH P w)) a xs:=KH ok (.inl e)
end
def FV(H:Hp)(a:Addr)(y:V)(r:Option V):Prop:=
 (∃kvs k,Rd H a (.dK kvs)∧y=kV k∧r=fJ kvs k)∨∃kvs k b,Rd H a (.dT kvs)∧y=.ref b∧H b=some (.tup (k.map kV))∧r=fJ kvs k
def MM(H:Hp)(a:Addr)(y v:V)(H':Hp):Prop:=
 (∃kvs k,H a=some (.dK kvs)∧y=kV k∧kvs.length<sizeLine∧H'=upd H a (.dK (putK kvs k v))) ∨
 ∃kvs k b,H a=some (.dT kvs)∧y=.ref b∧H b=some (.tup (k.map kV))∧kvs.length<sizeLine∧H'=upd H a (.dT (putK kvs k v))
theorem FV.k{H:Hp}{a:Addr}{kvs:List (Key×V)}{k:Key}(e:H a=some (.dK kvs)):FV H a (kV k) (fJ kvs k):=.inl ⟨kvs,k,.inl e,rfl,rfl⟩
theorem MM.k{H:Hp}{a:Addr}{kvs:List (Key×V)}{k:Key}{v:V}(e:H a=some (.dK kvs))(hl:kvs.length<sizeLine):MM H a (kV k) v (upd H a (.dK (putK kvs k v))):=.inl ⟨kvs,k,e,rfl,hl,rfl⟩
section
variable {X:Cx}{pins:v9}{σ:St}{H:Hp}{s:Shared}{a:Addr}{y v:V}{u r:Value}{o:Option V}{A:Around}{E:v8}
theorem Inv.big(I:Inv X pins σ H s):sysModules<s.heap.objs.size:=by
 have h:mainGlobals<s.heap.objs.size:=(I.mod.glob.keeps I.bk).lt
 exact lt_trans (by decide) h
theorem FK{Q:v8}(hu:A.units+1<cLine)(I:Inv X pins σ H s)(g:FV H a y (some v))(ry:RelV y u)(h:∀w' s',Inv X pins σ H s'→RelV v w'→Q w' s') :
  wpAny (model X.prog X.w) A (getItem (.ref a) u) Q E s:=by
 rcases g with ⟨kvs,k,e,ey,l⟩|⟨kvs,k,b,e,ey,eb,l⟩
 ·subst ey;obtain⟨z,hd,vs,rel,dd⟩:=KI I.hok e;obtain⟨w',hw,cq⟩:=gI.some_of (v:=v) (o:=valueAt vs k) (by rw[l];exact rel.val k)
  exact wpAny_getItem_of (AD ry) dd.mapOf hw (h w' _ (I.tok _) cq)
 ·subst ey;cases (show u=Value.ref b from ry)
  obtain⟨z,hd,xs,rel,dd⟩:=KH I.hok e;obtain⟨w',hw,cq⟩:=gI.some_of (v:=v) (o:=(atKey xs k).map (·.2)) (by rw[l];exact rel.val k)
  obtain⟨p,hp,hp2⟩:=qv.mp hw;refine wpAny_getItem_heap (tupleKind_room_in1 hu) (yE I.hok eb) dd hp ?_;rw[hp2];exact h w' _ (I.tok _) cq
theorem uI{h':Heap}{t':Nat}{ob:HO}(I:Inv X pins σ H s)(mu:qb (H a))(hs:Heap.SameBut a s.heap h')(he:∃q,h'.get? a=some q)(new:bT X.prog X.w (upd H a ob) h' a ob) :
  Inv X pins σ (upd H a ob) { s with heap:=h',toks:=t' }:=
 I.write (x:=a) (e:=a) mu (.inl rfl) (fun b q hb z=>(hs.2 b hb).trans z) he new
theorem KJ{P:v7}{w:World}{H':Hp}{h':Heap}{kvs:List (Key×V)}{vs:List (Key×Value)}(z:kvs.length≤sizeLine)(hd:(a == sysModules)=false)(rel:KV kvs vs)(dd:h'.DictOf (bH P w) a vs) :
  bT P w H' h' a (.dK kvs):=⟨z,hd,vs,rel,dd⟩
theorem FJ{H':Hp}{Q:Unit→Shared→Prop}(hu:A.units+1<cLine)(I:Inv X pins σ H s)(g:MM H a y v H')(ry:RelV y u)(rv:RelV v r)(h:∀s',Inv X pins σ H' s'→Q () s') :
  wpAny (model X.prog X.w) A (setItem (.ref a) u r) Q E s:=by
 rcases g with ⟨kvs,k,e,ey,l,eH⟩|⟨kvs,k,b,e,ey,eb,l,eH⟩
 ·subst ey eH;obtain⟨z,hd,vs,rel,dd⟩:=CB I.hok e;have hz:vs.length≤sizeLine:=by rw[←rel.length];exact z
  have hl:(putK kvs k v).length≤sizeLine:=by have:=iR kvs k v;omega
  refine wpAny_setItem_pairs (hsz:=hz) (AD ry) dd fun h' iN hs=>h _ ?_
  have he:∃q,h'.get? a=some q:=let ⟨q,_,_,hq,_⟩:=iN;⟨q,hq⟩
  exact uI I (by rw[e];exact True.intro) hs he (KJ hl hd (rel.put k rv) iN)
 ·subst ey eH;cases (show u=Value.ref b from ry)
  obtain⟨z,hd,xs,rel,dd⟩:=aFa I.hok e;have hz:xs.length≤sizeLine:=by rw[←Paired.length rel];exact z
  have hl:(putK kvs k v).length≤sizeLine:=by have:=iR kvs k v;omega
  refine wpAny_setItem_heap (hsz:=hz) (tupleKind_room_in1 hu) (yE I.hok eb) dd fun h' iN hs=>h _ ?_
  obtain⟨q,es,ep,hq,h2,h3,h4,_,h5⟩:=iN;refine uI I (by rw[e];exact True.intro) hs ⟨q,hq⟩ ⟨hl,hd,_,(rel.put k eb rv).keeps fun c ys ec=>?_,q,es,ep,hq,h2,h3,h4,h5⟩
  rw[aG (aEd ec e (fun z=>nomatch z))]
  exact ec
end
section
variable {X:Cx}{pins:v9}{σ:St}{H:Hp}{s:Shared}{a:Addr}{kvs:List (Key×V)}{k:Key}{u:Value}{A:Around}{E:v8}
end
def aFQ(i:Expr):Prop:=∀ov iv,subscripted i false ov iv=operate [ov,iv] (getItem ov iv)
theorem NA{prog:v7}{w:World}{A:Around}{E:v8}{s:Shared}{env:Env}{value slice:Expr}{pos:Pos}{T id:String}{Q:v8}
  (hl:typeLookup (.type T) "__getitem__" = pure (some (.builtin id))) (hs:aFQ slice)
  (h:wpAny (model prog w) A (eval value env) (fun o s₁=>wpAny (model prog w) A (eval slice env) (fun i s₂=>s₂.TypeIs o T∧wpAny (model prog w) A (getItem o i) Q E s₂) E s₁) E s) :
  wpAny (model prog w) A (eval (.Subscript value slice pos) env) Q E s:=by
 refine Subscript_ (ua h (fun o s₁ h₁=>ua h₁ (fun i s₂ h₂=>?_) fun _ _ x=>x) fun _ _ x=>x)
 obtain⟨hT,h₂⟩:=h₂;unfold subscriptTail;refine u2 ?_;rw[getitemInPython_of_ne hT.not_modules];refine u2 (wpAny_specialOf hT hl ?_);have fin:wpAny (model prog w) A (subscripted slice false o i) (fun r s₃=>wpAny (model prog w) A (letTemporaryGo value o r >>= fun _=>pure r) Q E s₃) E s₂:=by
  rw[hs o i];exact wpAny_operating (ua h₂ (fun r s₃ h₃=>u2 (wpAny_letTemporaryGo (u7 h₃))) fun _ _ x=>x)
 first
  |exact u7 (u2 fin)
  |exact u2 (u7 (u2 fin))
  |exact u2 fin
theorem wM{X:Cx}{pins:v9}{σ:St}{H:Hp}{s:Shared}{a:Addr}{y:V}{o:Option V}(I:Inv X pins σ H s)(g:FV H a y o):s.TypeIs (.ref a) "dict":=by
 rcases g with ⟨kvs,k,e,_,_⟩|⟨kvs,k,b,e,_,_,_⟩
 ·obtain⟨_,_,vs,_,dd⟩:=KI I.hok e;exact dd.typeIs
 ·obtain⟨_,_,xs,_,dd⟩:=KH I.hok e;exact dd.typeIs
def aBW(td ty:TE):TE:=fun σ H Q=>td σ H fun x H1=>ty σ H1 fun y H2=>∃a v,x=.ref a∧FV H2 a y (some v)∧Q v H2
def aCz(td ty tv:TE):TS:=fun D σ H=>tv σ H fun v H1=>td σ H1 fun x H2=>ty σ H2 fun y H3=>∃a H4,x=.ref a∧MM H3 a y v H4∧D.nx σ H4
section
variable {X:Cx}{o i e value:Expr}{pos pos' tpos:Pos}{td ty tv:TE}
theorem OY(hu:X.A.units+1<cLine)(ho:PE X o td)(hi:PE X i ty)(hs:aFQ i):PE X (.Subscript o i pos) (aBW td ty):=by
 intro pins s σ H Q I h;refine NA PySem.F.slot_dict_getitem.lookup hs (ae (ho pins s σ H _ I h) fun u s1 ⟨x,H1,I1,rx,q1⟩=>ae (hi pins s1 σ H1 _ I1 q1) fun iv s2 ⟨y,H2,I2,ry,a,v,ex,g,q2⟩=>?_)
 subst ex;obtain rfl:u=Value.ref a:=rx;exact⟨wM I2 g,FK hu I2 g ry fun w' s3 I3 cq=>⟨v,H2,I3,cq,q2⟩⟩
theorem OO(hu:X.A.units+1<cLine)(ho:PE X o td)(hi:PE X i ty)(hv:PE X value tv)(hs:swapsWith value (some (.Subscript o i pos')) pos.line X.env=pure false) :
  PS X (.Assign [.Subscript o i pos'] value pos) (aCz td ty tv):=by
 intro pins s σ H D I h;refine wpAny_Assign_Subscript (ae (hv pins s σ H _ I h) fun r s1 ⟨v,H1,I1,rv,q1⟩=>ae (ho pins s1 σ H1 _ I1 q1) fun u s2 ⟨x,H2,I2,rx,q2⟩=>ae (hi pins s2 σ H2 _ I2 q2) fun iv s3 ⟨y,H3,I3,ry,a,H4,ex,g,q3⟩=>?_) hs
 subst ex;obtain rfl:u=Value.ref a:=rx;exact FJ hu I3 g ry rv fun s4 I4=>⟨σ,H4,I4,q3⟩
end
theorem KL{P:v7}{w:World}{H:Hp}(h:Heap)(hb:sysModules<h.objs.size):bT P w H (h.push { cls:=.type "dict",data:=.dict #[] }) h.objs.size (.dK []):=
 ⟨uu _,tj.mpr (Ne.symm (tm hb)),[],.nil,Heap.DictOf.new h⟩
def WB:TE:=fun _ H Q=>∀p,H p=none→Q (.ref p) (upd H p (.dK []))
section
variable {X:Cx}{pos:Pos}
theorem HN:PE X (.Dict [] [] pos) WB:=fun pins s σ H Q I h =>
 wpAny_Dict_empty ⟨.ref s.heap.objs.size,_,I.laid (a:=s.heap.objs.size) (o:=.dK []) (t':=s.toks) (fun _ _ q=>qo _ q) (qk _) (KL s.heap I.big),rfl,h _ (I.hok.fresh (qk _))⟩
end
structure M1 (X:Cx) (o:Expr) (m:Str) (apos:Pos) (e:Expr) (ay:Pos):Prop where
 base:attributeBase o m X.env (eval o X.env)=eval o X.env
 few:((backTo ay (starEach [e] X.env)).all (fun x=>!x.1)&&(backToKw ay (keywordEach [] X.env)).all (fun x=>x.1.isSome)
  && decide (([e]:List Expr).length+([]:List Keyword).length+(if ([]:List Keyword).isEmpty then 0 else 1)<30))=true
 line:(apos.endLine == ay.line)=true
 trees:backTo ay (starEach [e] X.env)=[(false,eval e X.env)]
structure M2 (X:Cx) (o:Expr) (m:Str) (apos:Pos) (e f:Expr) (ay:Pos):Prop where
 base:attributeBase o m X.env (eval o X.env)=eval o X.env
 few:((backTo ay (starEach [e,f] X.env)).all (fun x=>!x.1)&&(backToKw ay (keywordEach [] X.env)).all (fun x=>x.1.isSome)
  && decide (([e,f]:List Expr).length+([]:List Keyword).length+(if ([]:List Keyword).isEmpty then 0 else 1)<30))=true
 line:(apos.endLine == ay.line)=true
 trees:backTo ay (starEach [e,f] X.env)=[(false,eval e X.env),(false,eval f X.env)]
section
variable {X:Cx}{pins:v9}{σ:St}{H:Hp}{s:Shared}{a:Addr}{y d:V}{u r:Value}{o:Option V}{A:Around}{E:v8}
end
section
variable {X:Cx}{o e f:Expr}{apos ay:Pos}{td ty tx:TE}
end
section
variable {X:Cx}{pins:v9}{σ:St}{H:Hp}{s:Shared}{a:Addr}{kvs:List (Key×V)}{A:Around}{E:v8}
end
section
variable {X:Cx}{pins:v9}{σ:St}{H:Hp}{s:Shared}{a:Addr}{y:V}{u:Value}{A:Around}{E:v8}
end
end L2
namespace Att
open PySem PySem.W PySem.Calls PyProof.Rows
end Att
namespace L2
open PySem PySem.Spec PyProof.Rows
section
variable {X:Cx}
end
section
variable {κ:Type}[DecidableEq κ]
end
end L2
namespace Toy
open PySem L2
open PySem.W (fnOf)
noncomputable def top(i:Nat):Stmt:=PySem.Challenge.pw_leaffold_k11_cut_pieces.main.body.getD i (.Pass ⟨0,0,0,0⟩)
noncomputable def dF(n q:Str)(s:Stmt)(m:Str)(t c:Nat):v3:=fnOf n q (L2.gB s) (L2.aL s) (L2.aB s) .none .none .none (.str m t) none (.ref c) .none
noncomputable def oF(f:v3):Obj:=⟨.type "function",none,.func f,#[]⟩
noncomputable def oC(x:Array Value):Obj:=⟨.type "code",none,.fields x,#[]⟩
noncomputable def en(P:Params)(x:Str)(t:Nat)(v:Value):DictEntry:=⟨PyData.keyHash P x,.str x t,v⟩
noncomputable def j(i:Int):Value:=.int i 0
noncomputable def l(a:Nat):Value:=.ref a
noncomputable def cF(t:Nat):Value:=.str "/claim/cut.py" t
noncomputable def yU:v3:=dF "__init__" "Pile.__init__" (L2.inClass (top 15) 0) "leaffold.piles" 335 139
noncomputable def tH:v3:=dF "heap" "Pile.heap" (L2.inClass (top 15) 1) "leaffold.piles" 335 146
noncomputable def tG:v3:=dF "done" "Pile.done" (L2.inClass (top 15) 2) "leaffold.piles" 335 153
noncomputable def tF:v3:=dF "laid" "laid" (top 16) "leaffold.piles" 335 165
noncomputable def tN:v3:=dF "laid_row" "laid_row" (top 17) "leaffold.piles" 335 170
noncomputable def tJ:v3:=dF "folded" "folded" (top 18) "leaffold.piles" 335 177
noncomputable def AZ:v3:=dF "refuse_severed" "refuse_severed" (top 19) "leaffold.piles" 335 184
noncomputable def tS:v3:=dF "has_crease" "has_crease" (top 20) "leaffold.piles" 335 191
noncomputable def AV:v3:=dF "folded_table" "folded_table" (top 21) "leaffold.piles" 335 196
noncomputable def tT:v3:=dF "transposed" "transposed" (top 22) "leaffold.piles" 335 201
noncomputable def tO:v3:=dF "column_of" "column_of" (top 23) "leaffold.piles" 335 206
noncomputable def AU:v3:=dF "folded_strip" "folded_strip" (top 24) "leaffold.piles" 335 213
noncomputable def tX:v3:=dF "turned_part" "turned_part" (top 25) "leaffold.piles" 335 218
noncomputable def tY:v3:=dF "turned_heap" "turned_heap" (top 26) "leaffold.piles" 335 223
noncomputable def AY:v3:=dF "laid_together" "laid_together" (top 27) "leaffold.piles" 335 228
noncomputable def tM:v3:=dF "heap_at" "heap_at" (top 28) "leaffold.piles" 335 235
noncomputable def tL:v3:=dF "joints" "joints" (top 30) "leaffold.joints" 500 240
noncomputable def tV:v3:=dF "all_joints" "all_joints" (top 31) "leaffold.joints" 500 247
noncomputable def tP:v3:=dF "neighbours" "neighbours" (top 32) "leaffold.joints" 500 254
noncomputable def tQ:v3:=dF "edge_lines" "edge_lines" (top 33) "leaffold.joints" 500 261
noncomputable def sZ:v3:=dF "cut" "cut" (top 34) "leaffold.joints" 500 266
noncomputable def tK:v3:=dF "pieces" "pieces" (top 35) "leaffold.joints" 500 273
noncomputable def AX:v3:=dF "hung_together" "hung_together" (top 36) "leaffold.joints" 500 278
noncomputable def tZ:v3:=dF "_law_cell_at" "_law_cell_at" (top 38) "law_leaffold_k11_cut_pieces" 568 285
noncomputable def tR:v3:=dF "_law_whole" "_law_whole" (top 39) "law_leaffold_k11_cut_pieces" 568 292
noncomputable def AW:v3:=dF "_law_sheet_by" "_law_sheet_by" (top 40) "law_leaffold_k11_cut_pieces" 568 299
noncomputable def AS:v3:=dF "_law_fold_by" "_law_fold_by" (top 41) "law_leaffold_k11_cut_pieces" 568 306
noncomputable def tW:v3:=dF "_law_groups" "_law_groups" (top 42) "law_leaffold_k11_cut_pieces" 568 311
noncomputable def AR:v3:=dF "_law_word_of" "_law_word_of" (top 43) "law_leaffold_k11_cut_pieces" 568 318
noncomputable def uA:v3:=dF "_law_refused" "_law_refused" (top 44) "law_leaffold_k11_cut_pieces" 568 325
noncomputable def BA:v3:=dF "_law_heaps_told" "_law_heaps_told" (top 45) "law_leaffold_k11_cut_pieces" 568 330
noncomputable def BB:v3:=dF "_law_groups_told" "_law_groups_told" (top 46) "law_leaffold_k11_cut_pieces" 568 335
noncomputable def tU:v3:=dF "_law_knife" "_law_knife" (top 47) "law_leaffold_k11_cut_pieces" 568 340
noncomputable def oK:v3:=dF "law" "law" (top 48) "law_leaffold_k11_cut_pieces" 568 347
noncomputable def KK(P:Params):uz:=[(3,⟨(.type "dict"),none,(.dict #[en P "__name__" 165 (.str "law_leaffold_k11_cut_pieces" 568),en P "__doc__" 166 .none,en P "__package__" 167 .none,en P "__loader__" 168 (.builtin "__main__.__loader__#opaque"),en P "__spec__" 169 .none,en P "__annotations__" 170 (.ref 6),en P "__builtins__" 171 (.ref 4),en P "__file__" 173 (cF 172),en P "__cached__" 174 .none,en P "LeafError" 206 (.ref 24),en P "NoSheet" 222 (.ref 37),en P "NoFold" 238 (.ref 49),en P "NoPlace" 254 (.ref 61),en P "Ajar" 270 (.ref 73),en P "Severed" 286 (.ref 85),en P "Bolted" 302 (.ref 97),en P "Loose" 318 (.ref 109),en P "NoWord" 334 (.ref 121),en P "MOST_CELLS" 338 (.int 64 337),en P "UPRIGHT_SIDES" 341 (.ref 124),en P "LEVEL_SIDES" 344 (.ref 125),en P "NEAR_SIDES" 347 (.ref 126),en P "Pile" 402 (.ref 157),en P "laid" 408 (.ref 166),en P "laid_row" 414 (.ref 171),en P "folded" 426 (.ref 178),en P "refuse_severed" 433 (.ref 185),en P "has_crease" 442 (.ref 192),en P "folded_table" 448 (.ref 197),en P "transposed" 454 (.ref 202),en P "column_of" 460 (.ref 207),en P "folded_strip" 473 (.ref 214),en P "turned_part" 479 (.ref 219),en P "turned_heap" 485 (.ref 224),en P "laid_together" 491 (.ref 229),en P "heap_at" 499 (.ref 236),en P "joints" 507 (.ref 241),en P "all_joints" 519 (.ref 248),en P "neighbours" 530 (.ref 255),en P "edge_lines" 543 (.ref 262),en P "cut" 549 (.ref 267),en P "pieces" 561 (.ref 274),en P "hung_together" 567 (.ref 279),en P "_law_cell_at" 577 (.ref 286),en P "_law_whole" 584 (.ref 293),en P "_law_sheet_by" 593 (.ref 300),en P "_law_fold_by" 605 (.ref 307),en P "_law_groups" 611 (.ref 312),en P "_law_word_of" 619 (.ref 319),en P "_law_refused" 629 (.ref 326),en P "_law_heaps_told" 635 (.ref 331),en P "_law_groups_told" 641 (.ref 336),en P "_law_knife" 647 (.ref 341),en P "law" 661 (.ref 348)] 54),#[]⟩),
 (23,⟨(.type "dict"),none,(.dict #[en P "__module__" 196 (.str "leaffold.errors" 187),en P "__firstlineno__" 200 (.int 2 199),en P "__static_attributes__" 201 (.ref 22),en P "__weakref__" 203 (.ref 25),en P "__doc__" 204 .none] 3),#[]⟩),
 (24,⟨(.type "type"),none,(.cls ⟨"LeafError",[(.type "ValueError")],[(.ref 24),(.type "ValueError"),(.type "Exception"),(.type "BaseException"),(.type "object")],23,"LeafError",true,[],[(.ref 37),(.ref 49),(.ref 61),(.ref 73),(.ref 85),(.ref 97),(.ref 109),(.ref 121)],false,none,false⟩),#[(some (.ref 15)),none,(some (.str "LeafError" 189)),(some (.str "LeafError" 197)),(some (.builtin "ValueError.__new__")),(some (.bool true))]⟩),
 (36,⟨(.type "dict"),none,(.dict #[en P "__module__" 214 (.str "leaffold.errors" 187),en P "__firstlineno__" 218 (.int 4 217),en P "__static_attributes__" 219 (.ref 35),en P "__doc__" 220 .none] 2),#[]⟩),
 (37,⟨(.type "type"),none,(.cls ⟨"NoSheet",[(.ref 24)],[(.ref 37),(.ref 24),(.type "ValueError"),(.type "Exception"),(.type "BaseException"),(.type "object")],36,"NoSheet",true,[],[],false,none,false⟩),#[(some (.ref 28)),none,(some (.str "NoSheet" 207)),(some (.str "NoSheet" 215)),(some (.builtin "ValueError.__new__")),(some (.bool true))]⟩),
 (48,⟨(.type "dict"),none,(.dict #[en P "__module__" 230 (.str "leaffold.errors" 187),en P "__firstlineno__" 234 (.int 6 233),en P "__static_attributes__" 235 (.ref 47),en P "__doc__" 236 .none] 2),#[]⟩),
 (49,⟨(.type "type"),none,(.cls ⟨"NoFold",[(.ref 24)],[(.ref 49),(.ref 24),(.type "ValueError"),(.type "Exception"),(.type "BaseException"),(.type "object")],48,"NoFold",true,[],[],false,none,false⟩),#[(some (.ref 40)),none,(some (.str "NoFold" 223)),(some (.str "NoFold" 231)),(some (.builtin "ValueError.__new__")),(some (.bool true))]⟩),
 (60,⟨(.type "dict"),none,(.dict #[en P "__module__" 246 (.str "leaffold.errors" 187),en P "__firstlineno__" 250 (.int 8 249),en P "__static_attributes__" 251 (.ref 59),en P "__doc__" 252 .none] 2),#[]⟩),
 (61,⟨(.type "type"),none,(.cls ⟨"NoPlace",[(.ref 24)],[(.ref 61),(.ref 24),(.type "ValueError"),(.type "Exception"),(.type "BaseException"),(.type "object")],60,"NoPlace",true,[],[],false,none,false⟩),#[(some (.ref 52)),none,(some (.str "NoPlace" 239)),(some (.str "NoPlace" 247)),(some (.builtin "ValueError.__new__")),(some (.bool true))]⟩),
 (72,⟨(.type "dict"),none,(.dict #[en P "__module__" 262 (.str "leaffold.errors" 187),en P "__firstlineno__" 266 (.int 10 265),en P "__static_attributes__" 267 (.ref 71),en P "__doc__" 268 .none] 2),#[]⟩),
 (73,⟨(.type "type"),none,(.cls ⟨"Ajar",[(.ref 24)],[(.ref 73),(.ref 24),(.type "ValueError"),(.type "Exception"),(.type "BaseException"),(.type "object")],72,"Ajar",true,[],[],false,none,false⟩),#[(some (.ref 64)),none,(some (.str "Ajar" 255)),(some (.str "Ajar" 263)),(some (.builtin "ValueError.__new__")),(some (.bool true))]⟩),
 (84,⟨(.type "dict"),none,(.dict #[en P "__module__" 278 (.str "leaffold.errors" 187),en P "__firstlineno__" 282 (.int 12 281),en P "__static_attributes__" 283 (.ref 83),en P "__doc__" 284 .none] 2),#[]⟩),
 (85,⟨(.type "type"),none,(.cls ⟨"Severed",[(.ref 24)],[(.ref 85),(.ref 24),(.type "ValueError"),(.type "Exception"),(.type "BaseException"),(.type "object")],84,"Severed",true,[],[],false,none,false⟩),#[(some (.ref 76)),none,(some (.str "Severed" 271)),(some (.str "Severed" 279)),(some (.builtin "ValueError.__new__")),(some (.bool true))]⟩),
 (96,⟨(.type "dict"),none,(.dict #[en P "__module__" 294 (.str "leaffold.errors" 187),en P "__firstlineno__" 298 (.int 14 297),en P "__static_attributes__" 299 (.ref 95),en P "__doc__" 300 .none] 2),#[]⟩),
 (97,⟨(.type "type"),none,(.cls ⟨"Bolted",[(.ref 24)],[(.ref 97),(.ref 24),(.type "ValueError"),(.type "Exception"),(.type "BaseException"),(.type "object")],96,"Bolted",true,[],[],false,none,false⟩),#[(some (.ref 88)),none,(some (.str "Bolted" 287)),(some (.str "Bolted" 295)),(some (.builtin "ValueError.__new__")),(some (.bool true))]⟩),
 (108,⟨(.type "dict"),none,(.dict #[en P "__module__" 310 (.str "leaffold.errors" 187),en P "__firstlineno__" 314 (.int 16 313),en P "__static_attributes__" 315 (.ref 107),en P "__doc__" 316 .none] 2),#[]⟩),
 (109,⟨(.type "type"),none,(.cls ⟨"Loose",[(.ref 24)],[(.ref 109),(.ref 24),(.type "ValueError"),(.type "Exception"),(.type "BaseException"),(.type "object")],108,"Loose",true,[],[],false,none,false⟩),#[(some (.ref 100)),none,(some (.str "Loose" 303)),(some (.str "Loose" 311)),(some (.builtin "ValueError.__new__")),(some (.bool true))]⟩),
 (120,⟨(.type "dict"),none,(.dict #[en P "__module__" 326 (.str "leaffold.errors" 187),en P "__firstlineno__" 330 (.int 18 329),en P "__static_attributes__" 331 (.ref 119),en P "__doc__" 332 .none] 2),#[]⟩),
 (121,⟨(.type "type"),none,(.cls ⟨"NoWord",[(.ref 24)],[(.ref 121),(.ref 24),(.type "ValueError"),(.type "Exception"),(.type "BaseException"),(.type "object")],120,"NoWord",true,[],[],false,none,false⟩),#[(some (.ref 112)),none,(some (.str "NoWord" 319)),(some (.str "NoWord" 327)),(some (.builtin "ValueError.__new__")),(some (.bool true))]⟩),
 (124,⟨(.type "tuple"),none,(.seq #[(.str "west" 339),(.str "east" 340)] 0),#[]⟩),
 (125,⟨(.type "tuple"),none,(.seq #[(.str "north" 342),(.str "south" 343)] 0),#[]⟩),
 (126,⟨(.type "tuple"),none,(.seq #[(.str "west" 345),(.str "north" 346)] 0),#[]⟩),
 (139,oC #[.str "__init__" 360,.str "Pile.__init__" 361,cF 362,j 27,j 6,j 0,j 0,j 3,l 134,(.bool true),j 181,l 135,.none,l 136,l 137,l 138,j 369,j 27,cF 370]),
 (140,oF yU),
 (146,oC #[.str "heap" 372,.str "Pile.heap" 373,cF 374,j 36,j 3,j 0,j 0,j 3,l 141,(.bool true),j 181,l 142,.none,l 143,l 144,l 145,j 378,j 36,cF 379]),
 (147,oF tH),
 (153,oC #[.str "done" 381,.str "Pile.done" 382,cF 383,j 41,j 1,j 0,j 0,j 3,l 148,(.bool true),j 181,l 149,.none,l 150,l 151,l 152,j 385,j 41,cF 386]),
 (154,oF tG),
 (156,⟨(.type "dict"),none,(.dict #[en P "__module__" 355 (.str "leaffold.piles" 335),en P "__firstlineno__" 359 (.int 25 358),en P "__init__" 371 (.ref 140),en P "heap" 380 (.ref 147),en P "done" 387 (.ref 154),en P "__static_attributes__" 395 (.ref 155),en P "__dict__" 397 (.ref 158),en P "__weakref__" 399 (.ref 159),en P "__doc__" 400 .none] 4),#[]⟩),
 (157,⟨(.type "type"),none,(.cls ⟨"Pile",[(.type "object")],[(.ref 157),(.type "object")],156,"Pile",true,[],[],false,none,false⟩),#[none,none,(some (.str "Pile" 348)),(some (.str "Pile" 356)),(some (.builtin "object.__new__")),(some (.bool true))]⟩),
 (165,oC #[.str "laid" 403,.str "laid" 404,cF 405,j 43,j 2,j 0,j 0,j 3,l 162,(.bool true),j 181,l 163,.none,.none,.none,l 164,j 406,j 43,cF 407]),
 (166,oF tF),
 (170,oC #[.str "laid_row" 409,.str "laid_row" 410,cF 411,j 48,j 2,j 0,j 0,j 3,l 167,(.bool true),j 181,l 168,.none,.none,.none,l 169,j 412,j 48,cF 413]),
 (171,oF tN),
 (177,oC #[.str "folded" 415,.str "folded" 416,cF 417,j 50,j 4,j 0,j 0,j 3,l 172,(.bool true),j 181,l 173,.none,l 174,l 175,l 176,j 424,j 50,cF 425]),
 (178,oF tJ),
 (184,oC #[.str "refuse_severed" 427,.str "refuse_severed" 428,cF 429,j 57,j 1,j 0,j 0,j 3,l 179,(.bool true),j 181,l 180,.none,l 181,l 182,l 183,j 431,j 57,cF 432]),
 (185,oF AZ),
 (191,oC #[.str "has_crease" 434,.str "has_crease" 435,cF 436,j 60,j 3,j 0,j 0,j 3,l 186,(.bool true),j 181,l 187,.none,l 188,l 189,l 190,j 440,j 60,cF 441]),
 (192,oF tS),
 (196,oC #[.str "folded_table" 443,.str "folded_table" 444,cF 445,j 66,j 4,j 0,j 0,j 3,l 193,(.bool true),j 181,l 194,.none,.none,.none,l 195,j 446,j 66,cF 447]),
 (197,oF AV),
 (201,oC #[.str "transposed" 449,.str "transposed" 450,cF 451,j 71,j 1,j 0,j 0,j 3,l 198,(.bool true),j 181,l 199,.none,.none,.none,l 200,j 452,j 71,cF 453]),
 (202,oF tT),
 (206,oC #[.str "column_of" 455,.str "column_of" 456,cF 457,j 73,j 2,j 0,j 0,j 3,l 203,(.bool true),j 181,l 204,.none,.none,.none,l 205,j 458,j 73,cF 459]),
 (207,oF tO),
 (213,oC #[.str "folded_strip" 461,.str "folded_strip" 462,cF 463,j 75,j 4,j 0,j 0,j 3,l 208,(.bool true),j 181,l 209,.none,l 210,l 211,l 212,j 471,j 75,cF 472]),
 (214,oF AU),
 (218,oC #[.str "turned_part" 474,.str "turned_part" 475,cF 476,j 82,j 2,j 0,j 0,j 3,l 215,(.bool true),j 181,l 216,.none,.none,.none,l 217,j 477,j 82,cF 478]),
 (219,oF tX),
 (223,oC #[.str "turned_heap" 480,.str "turned_heap" 481,cF 482,j 84,j 2,j 0,j 0,j 3,l 220,(.bool true),j 181,l 221,.none,.none,.none,l 222,j 483,j 84,cF 484]),
 (224,oF tY),
 (228,oC #[.str "laid_together" 486,.str "laid_together" 487,cF 488,j 88,j 3,j 0,j 0,j 3,l 225,(.bool true),j 181,l 226,.none,.none,.none,l 227,j 489,j 88,cF 490]),
 (229,oF AY),
 (235,oC #[.str "heap_at" 492,.str "heap_at" 493,cF 494,j 93,j 2,j 0,j 0,j 3,l 230,(.bool true),j 181,l 231,.none,l 232,l 233,l 234,j 497,j 93,cF 498]),
 (236,oF tM),
 (240,oC #[.str "joints" 502,.str "joints" 503,cF 504,j 96,j 1,j 0,j 0,j 3,l 237,(.bool true),j 181,l 238,.none,.none,.none,l 239,j 505,j 96,cF 506]),
 (241,oF tL),
 (247,oC #[.str "all_joints" 508,.str "all_joints" 509,cF 510,j 98,j 1,j 0,j 0,j 3,l 242,(.bool true),j 181,l 243,.none,l 244,l 245,l 246,j 517,j 98,cF 518]),
 (248,oF tV),
 (254,oC #[.str "neighbours" 520,.str "neighbours" 521,cF 522,j 104,j 2,j 0,j 0,j 3,l 249,(.bool true),j 181,l 250,.none,l 251,l 252,l 253,j 528,j 104,cF 529]),
 (255,oF tP),
 (261,oC #[.str "edge_lines" 531,.str "edge_lines" 532,cF 533,j 113,j 1,j 0,j 0,j 3,l 256,(.bool true),j 181,l 257,.none,l 258,l 259,l 260,j 541,j 113,cF 542]),
 (262,oF tQ),
 (266,oC #[.str "cut" 544,.str "cut" 545,cF 546,j 120,j 3,j 0,j 0,j 3,l 263,(.bool true),j 181,l 264,.none,.none,.none,l 265,j 547,j 120,cF 548]),
 (267,oF sZ),
 (273,oC #[.str "pieces" 550,.str "pieces" 551,cF 552,j 126,j 1,j 0,j 0,j 3,l 268,(.bool true),j 181,l 269,.none,l 270,l 271,l 272,j 559,j 126,cF 560]),
 (274,oF tK),
 (278,oC #[.str "hung_together" 562,.str "hung_together" 563,cF 564,j 134,j 3,j 0,j 0,j 3,l 275,(.bool true),j 181,l 276,.none,.none,.none,l 277,j 565,j 134,cF 566]),
 (279,oF AX),
 (285,oC #[.str "_law_cell_at" 570,.str "_law_cell_at" 571,cF 572,j 139,j 2,j 0,j 0,j 3,l 280,(.bool true),j 181,l 281,.none,l 282,l 283,l 284,j 575,j 139,cF 576]),
 (286,oF tZ),
 (292,oC #[.str "_law_whole" 578,.str "_law_whole" 579,cF 580,j 143,j 1,j 0,j 0,j 3,l 287,(.bool true),j 181,l 288,.none,l 289,l 290,l 291,j 582,j 143,cF 583]),
 (293,oF tR),
 (299,oC #[.str "_law_sheet_by" 585,.str "_law_sheet_by" 586,cF 587,j 145,j 1,j 0,j 0,j 3,l 294,(.bool true),j 181,l 295,.none,l 296,l 297,l 298,j 591,j 145,cF 592]),
 (300,oF AW),
 (306,oC #[.str "_law_fold_by" 594,.str "_law_fold_by" 595,cF 596,j 157,j 3,j 0,j 0,j 3,l 301,(.bool true),j 181,l 302,.none,l 303,l 304,l 305,j 603,j 157,cF 604]),
 (307,oF AS),
 (311,oC #[.str "_law_groups" 606,.str "_law_groups" 607,cF 608,j 162,j 2,j 0,j 0,j 3,l 308,(.bool true),j 181,l 309,.none,.none,.none,l 310,j 609,j 162,cF 610]),
 (312,oF tW),
 (318,oC #[.str "_law_word_of" 612,.str "_law_word_of" 613,cF 614,j 177,j 1,j 0,j 0,j 3,l 313,(.bool true),j 181,l 314,.none,l 315,l 316,l 317,j 617,j 177,cF 618]),
 (319,oF AR),
 (325,oC #[.str "_law_refused" 620,.str "_law_refused" 621,cF 622,j 183,j 3,j 0,j 0,j 3,l 320,(.bool true),j 181,l 321,.none,l 322,l 323,l 324,j 627,j 183,cF 628]),
 (326,oF uA),
 (330,oC #[.str "_law_heaps_told" 630,.str "_law_heaps_told" 631,cF 632,j 189,j 1,j 0,j 0,j 3,l 327,(.bool true),j 181,l 328,.none,.none,.none,l 329,j 633,j 189,cF 634]),
 (331,oF BA),
 (335,oC #[.str "_law_groups_told" 636,.str "_law_groups_told" 637,cF 638,j 191,j 3,j 0,j 0,j 3,l 332,(.bool true),j 181,l 333,.none,.none,.none,l 334,j 639,j 191,cF 640]),
 (336,oF BB),
 (340,oC #[.str "_law_knife" 642,.str "_law_knife" 643,cF 644,j 207,j 4,j 0,j 0,j 3,l 337,(.bool true),j 181,l 338,.none,.none,.none,l 339,j 645,j 207,cF 646]),
 (341,oF tU),
 (347,oC #[.str "law" 648,.str "law" 649,cF 650,j 231,j 1,j 0,j 0,j 3,l 342,(.bool true),j 181,l 343,.none,l 344,l 345,l 346,j 659,j 231,cF 660]),
 (348,oF oK)]
noncomputable def aas:List Addr:=[3,23,24,36,37,48,49,60,61,72,73,84,85,96,97,108,109,120,121,124,125,126,139,140,146,147,153,154,156,157,165,166,170,171,177,178,184,185,191,192,196,197,201,202,206,207,213,214,218,219,223,224,228,229,235,236,240,241,247,248,254,255,261,262,266,267,273,274,278,279,285,286,292,293,299,300,306,307,311,312,318,319,325,326,330,331,335,336,340,341,347,348]
theorem aEB:∀P,aas=(KK P).map (·.1):=fun _=>by kernel_rfl
abbrev lw:PySem.W.OpenLaw:=PySem.Challenge.rw_leaffold_k11_cut_pieces
abbrev HH:PySem.W.Hook:=PySem.W.kHook KK aas aEB
open PySem.W PyProof.Rows
noncomputable def vw:v7:=view lw.prog [1,2,3,4,5,6,7,8,9,11,12,13,14,15,16,17,18,19,20,21,22,23,24,25,26,27,28,30,31,32,33,34,35,36,38,39,40,41,42,43,44,45,46,47,48]
abbrev Xt(s:Shared):Bool:=xlAt vw [] s&&recOk (RowW.records (OpenRow.toRowW (OpenLaw.row lw))) s
set_option maxHeartbeats 0 in
theorem sL{p q:v7}{loose:List Str}{Xt:Shared→Bool}{α:Type}{Yf:Shared→α}{Ya:World→α}{N:Nat}{g0:Bool}(open_:∀w:World,(fencedOpening treeTable p w N).map (fun s=>(s.heap,s.gens,s.drawn,s.toks))=some (boot_heap w.params,Array.mk [],boot_drawn,boot_toks))
  (h:∀(w:World) (os:OsState),(topFrom treeTable p w N ⟨boot_heap w.params,Array.mk [],boot_drawn,boot_toks,os⟩).map (fun s=>(openSeen q loose (importedModules p.main.body) Xt g0 s,Yf s))=some (openGood q loose,Ya w)):LeftO p q loose Xt Yf Ya N g0:=fun w=>by
 obtain⟨⟨hp,gs,d,k,os⟩,e,e'⟩:=qv.mp (open_ w);obtain⟨rfl,rfl,rfl,rfl⟩:hp=boot_heap w.params∧gs=Array.mk []∧d=boot_drawn∧k=boot_toks:=by simpa using e'
 unfold openEnds;rw[e];exact h w os
set_option maxHeartbeats 0 in
theorem left:LeftO lw.prog vw [] Xt (Hook.obs HH) (Hook.val HH) 6474:=by
 refine sL (boot_open rfl rfl fun s=>rfl) fun w os=>?_
 unfold topFrom
 rewrite[Fast.te14082659384304107361,Fast.te4187177175401517315]
 kernel_rfl
end Toy
namespace Z
open PySem
inductive D where
 |non
 |bl (b:Bool)
 |int (i:Int)
 |str (x:Str)
 |lst (xs:List D)
 |tup (xs:List D)
 |obj (c:Str) (fs:List (Str×D))
 |exc (c:Str)
 |dct (kvs:List (Int×D))
 |frz (xs:List D)
noncomputable def dE(kvs:List (Int×D))(k:Int):Option D:=(kvs.find? fun kv=>decide (kv.1=k)).map (·.2)
noncomputable def lD(kvs:List (Int×D))(k:Int)(d:D):List (Int×D):=if kvs.any (fun kv=>decide (kv.1=k)) then kvs.map (fun kv=>if kv.1=k then(kv.1,d) else kv) else kvs++[(k,d)]
inductive Lit where
 |non|bl (b:Bool)|int (i:Int)|str (x:Str)
noncomputable def Lit.d:Lit→D
 |.non=>.non
 |.bl b=>.bl b
 |.int i=>.int i
 |.str x=>.str x
inductive Rs where
 |ok (d:D)
 |er (c:Str)
mutual
noncomputable def ax:D→D→Bool
 |.non,.non=>true
 |.bl a,.bl b=>a == b
 |.bl a,.int b=>(if a then 1 else 0) == b
 |.int a,.bl b=>a == (if b then 1 else 0)
 |.int a,.int b=>a == b
 |.str a,.str b=>a == b
 |.lst a,.lst b=>iK a b
 |.tup a,.tup b=>iK a b
 |_,_=>false
noncomputable def iK:List D→List D→Bool
 |[],[]=>true
 |x::xs,y::ys=>ax x y&&iK xs ys
 |_,_=>false
end
noncomputable def kz(x:Str):Bool:=x.cps.all (· < 0x110000)
noncomputable def flat:Nat→D→Bool
 |_,.non=>true
 |_,.bl _=>true
 |_,.int _=>true
 |_,.str x=>kz x
 |n+1,.lst xs=>xs.all (flat n)
 |n+1,.tup xs=>xs.all (flat n)
 |_,_=>false
noncomputable def plain(d:D):Bool:=flat 8 d
noncomputable def ck:D→Option Bool
 |.non=>some false
 |.bl b=>some b
 |.int i=>some (i != 0)
 |.lst xs=>some (!xs.isEmpty)
 |.tup xs=>some (!xs.isEmpty)
 |.frz xs=>some (!xs.isEmpty)
 |_=>none
inductive O2 where
 |add|sub|mul|fdiv|mod|pow|eq|ne|lt|le|gt|ge|isin|notin|is|isnot
noncomputable def big:Nat:=1000000
noncomputable def ixN(n:Nat)(i:Int):Option Nat:=if 0≤i then(if i<n then some i.toNat else none) else if -(n:Int)≤i then some (i+n).toNat else none
noncomputable def atI{α:Type}(xs:List α)(i:Int):Option α:=(ixN xs.length i).bind fun j=>xs[j]?
noncomputable def sIx(n d:Nat):Option Int→Nat
 |none=>d
 |some v=>if v<0 then(v+(n:Int)).toNat else min v.toNat n
noncomputable def cut{α:Type}(xs:List α)(lo hi:Option Int):List α:=(xs.drop (sIx xs.length 0 lo)).take (sIx xs.length xs.length hi-sIx xs.length 0 lo)
noncomputable def isD:D→D→Option Bool
 |.non,.non=>some true
 |.bl _,.non=>some false
 |.int _,.non=>some false
 |.str _,.non=>some false
 |.lst _,.non=>some false
 |.tup _,.non=>some false
 |.obj _ _,.non=>some false
 |.bl a,.bl b=>some (a == b)
 |_,_=>none
noncomputable def QF:D→D→Option D
 |.int i,.int j=>some (.int (i+j))
 |.str x,.str y=>if x.length+y.length≤big then some (.str (x++y)) else none
 |.lst xs,.lst ys=>if xs.length+ys.length≤big then some (.lst (xs++ys)) else none
 |.tup xs,.tup ys=>if xs.length+ys.length≤big then some (.tup (xs++ys)) else none
 |_,_=>none
noncomputable def aEb:D→D→Option D
 |.int i,.int j=>some (.int (i-j))
 |_,_=>none
noncomputable def aEc:D→D→Option D
 |.int i,.int j=>if (-(2 ^ 64)<i∧i<2 ^ 64)∨(-(2 ^ 64)<j∧j<2 ^ 64) then some (.int (i*j)) else none
 |_,_=>none
noncomputable def oDiv:D→D→Option D
 |.int i,.int j=>if 0<j∧j<1073741824 then some (.int (i / j)) else none
 |_,_=>none
noncomputable def oMod:D→D→Option D
 |.int i,.int j=>if 0<j then some (.int (i % j)) else none
 |_,_=>none
noncomputable def ZA:D→D→Option D
 |.int i,.int j=>if 0≤j∧j≤1000∧i.natAbs<2 ^ 64 then some (.int (i ^ j.toNat)) else none
 |_,_=>none
noncomputable def oEq(a b:D):Option D:=if plain a&&plain b then some (.bl (ax a b)) else none
noncomputable def k6(a b:D):Option D:=if plain a&&plain b then some (.bl (!ax a b)) else none
noncomputable def oLt:D→D→Option D
 |.int i,.int j=>some (.bl (decide (i<j)))
 |_,_=>none
noncomputable def oLe:D→D→Option D
 |.int i,.int j=>some (.bl (decide (i≤j)))
 |_,_=>none
noncomputable def oGt:D→D→Option D
 |.int i,.int j=>some (.bl (decide (j<i)))
 |_,_=>none
noncomputable def oGe:D→D→Option D
 |.int i,.int j=>some (.bl (decide (j≤i)))
 |_,_=>none
noncomputable def oIn(a:D):D→Option D
 |.lst ys=>if plain a&&ys.all plain then some (.bl (ys.any fun y=>ax y a)) else none
 |.tup ys=>if plain a&&ys.all plain then some (.bl (ys.any fun y=>ax y a)) else none
 |_=>none
noncomputable def IG(a:D):D→Option D
 |.lst ys=>if plain a&&ys.all plain then some (.bl (!ys.any fun y=>ax y a)) else none
 |.tup ys=>if plain a&&ys.all plain then some (.bl (!ys.any fun y=>ax y a)) else none
 |_=>none
noncomputable def oIs(a b:D):Option D:=(isD a b).map .bl
noncomputable def IH(a b:D):Option D:=(isD a b).map fun k=>.bl (!k)
noncomputable def af(o:O2)(a b:D):Option D:=match o with
 |.add=>QF a b
 |.sub=>aEb a b
 |.mul=>aEc a b
 |.fdiv=>oDiv a b
 |.mod=>oMod a b
 |.pow=>ZA a b
 |.eq=>oEq a b
 |.ne=>k6 a b
 |.lt=>oLt a b
 |.le=>oLe a b
 |.gt=>oGt a b
 |.ge=>oGe a b
 |.isin=>oIn a b
 |.notin=>IG a b
 |.is=>oIs a b
 |.isnot=>IH a b
inductive BF where
 |len|int|list|tuple|max|min|str|sorted|any
noncomputable def fY:List D→Option (List Int)
 |[]=>some []
 |.int i::r=>(fY r).map (i :: ·)
 |_::_=>none
noncomputable def lJ:Int→List Int→Int
 |m,[]=>m
 |m,x::r=>lJ (if x > m then x else m) r
noncomputable def nV:Int→List Int→Int
 |m,[]=>m
 |m,x::r=>nV (if x<m then x else m) r
noncomputable def RS:List D→Option D
 |[.lst xs]=>some (.int xs.length)
 |[.tup xs]=>some (.int xs.length)
 |[.frz xs]=>some (.int xs.length)
 |[.str x]=>if x.length≤big then some (.int x.length) else none
 |_=>none
noncomputable def RT:List D→Option D
 |[.int i]=>some (.int i)
 |[.bl b]=>some (.int (if b then 1 else 0))
 |_=>none
noncomputable def wG:List D→Option D
 |[.lst xs]=>some (.lst xs)
 |[.tup xs]=>some (.lst xs)
 |[.frz xs]=>some (.lst xs)
 |_=>none
noncomputable def uB:List D→Option D
 |[.lst xs]=>some (.tup xs)
 |[.tup xs]=>some (.tup xs)
 |_=>none
noncomputable def JY:List D→Option D
 |[.int i,.int j]=>some (.int (if j > i then j else i))
 |[.lst xs]=>match fY xs with|some (i::r)=>some (.int (lJ i r))|_=>none
 |_=>none
noncomputable def RQ:List D→Option D
 |[.int i,.int j]=>some (.int (if j<i then j else i))
 |[.lst xs]=>match fY xs with|some (i::r)=>some (.int (nV i r))|_=>none
 |_=>none
noncomputable def HU:List D→Option (List (Int×Int))
 |[]=>some []
 |.tup [.int a,.int b]::r=>(HU r).map ((a,b) :: ·)
 |_::_=>none
noncomputable def aFc(p:Int×Int):D:=.tup [.int p.1,.int p.2]
noncomputable def i3(x y:Int×Int):Bool:=decide (x.1<y.1) || (x.1 == y.1&&decide (x.2<y.2))
noncomputable def yM(x:Int×Int):List (Int×Int)→List (Int×Int)
 |[]=>[x]
 |y::r=>if i3 x y then x::y::r else y::yM x r
noncomputable def nL:List (Int×Int)→List (Int×Int)
 |[]=>[]
 |x::r=>yM x (nL r)
noncomputable def CL(ps:List (Int×Int)):Bool:=decide (ps.length≤64)&&decide ps.Nodup
noncomputable def aCa(ds:List D):Option (List D):=match HU ds with
 |some ps=>if CL ps then some ((nL ps).map aFc) else none
 |none=>match fY ds with
  |some is=>if CL (is.map fun i=>(i,0)) then some ((nL (is.map fun i=>(i,0))).map fun p=>.int p.1) else none
  |none=>none
noncomputable def uC:List D→Option D
 |[.lst xs]=>(aCa xs).map .lst
 |_=>none
noncomputable def bf(b:BF)(ds:List D):Option D:=match b with
 |.sorted=>uC ds
 |.len=>RS ds
 |.int=>RT ds
 |.list=>wG ds
 |.tuple=>uB ds
 |.max=>JY ds
 |.min=>RQ ds
 |_=>none
inductive Src where
 |seq|rng|rev|enum|rvr
noncomputable def cC(lo hi:Int):List D:=(List.range (hi-lo).toNat).map fun (k:Nat)=>D.int (lo+k)
noncomputable def kT:Nat→List D→List D
 |_,[]=>[]
 |k,x::r=>.tup [.int k,x]::kT (k+1) r
noncomputable def dJ(i:Int):Bool:=decide (-(2 ^ 62)≤i)&&decide (i<2 ^ 62)
noncomputable def UJ:D→Option (List D)
 |.lst xs=>some xs
 |.tup xs=>some xs
 |.frz xs=>some xs
 |_=>none
noncomputable def AH:List D→Option (List D)
 |[.int j]=>if dJ j&&decide (j.toNat≤big) then some (cC 0 j) else none
 |[.int i,.int j]=>if dJ i&&dJ j&&decide ((j-i).toNat≤big) then some (cC i j) else none
 |_=>none
noncomputable def aED:List D→Option (List D)
 |[.int j]=>if decide (0≤j)&&decide (j.toNat≤big) then some (cC 0 j).reverse else none
 |_=>none
noncomputable def vU:D→Option (List D)
 |.lst xs=>some xs.reverse
 |_=>none
noncomputable def yK:D→Option (List D)
 |.lst xs=>some (kT 0 xs)
 |_=>none
noncomputable def items(k:Src)(d:D):Option (List D):=match k with
 |.seq=>UJ d
 |.rng=>match d with
  |.tup as=>AH as
  |_=>none
 |.rev=>vU d
 |.enum=>yK d
 |.rvr=>match d with
  |.tup as=>aED as
  |_=>none
set_option genSizeOf false
set_option genInjectivity false
inductive IE where
 |var (i:Nat)
 |lit (l:Lit)
 |glo (x:Str)
 |bin (o:O2) (a b:IE)
 |neg (a:IE)
 |and (a b:IE)
 |or (a b:IE)
 |not (a:IE)
 |tr (a:IE)
 |ite (c a b:IE)
 |chain (o o':O2) (a b c:IE)
 |nil
 |cons (e es:IE)
 |tup (es:IE)
 |lst (es:IE)
 |ix (a i:IE)
 |ixm (x:Nat) (i:IE)
 |lenm (x:Nat)
 |sortm (x:Nat)
 |sl (a:IE) (bl:Bool) (lo:IE) (bh:Bool) (hi:IE)
 |slm (x:Nat) (bl:Bool) (lo:IE) (bh:Bool) (hi:IE)
 |fld (a:IE) (f:Str)
 |call (f:Str) (es:IE)
 |meth (o:IE) (m:Str) (es:IE)
 |mk (c:Str) (es:IE)
 |bcall (b:BF) (es:IE)
 |isi (a:IE) (t:Str)
 |walk (k:Src) (a:IE)
 |comp (n:Nat) (fr:List (Nat×Nat)) (tg:List Nat) (tp:Bool) (k:Src) (src test elt:IE)
 |inC (neg:Bool) (x:Str) (a:IE)
set_option genInjectivity true
inductive Sl where
 |un
 |im (d:D)
 |mu (d:D)
structure GS where
 fn:Str→List D→Option Rs
 ff:Str→Bool
 me:Str→Str→List D→Option Rs
 mf:Str→Str→Bool
 mo:Str→List D→Option Rs
 cst:Str→Option D
 sub:Str→Str→Bool
 fl:Str→List Str
 xn:Str→Bool
 wd:Str→Str→Option Str
 dk:Str→Option (List (Str×D))
noncomputable def nX(G:GS)(t:Str):D→Option Bool
 |.non=>if t = "int"∨t = "bool"∨t = "str"∨t = "list"∨t = "tuple" then some false else none
 |.bl _=>if t = "int"∨t = "bool" then some true else if t = "str"∨t = "list"∨t = "tuple" then some false else none
 |.int _=>if t = "int" then some true else if t = "bool"∨t = "str"∨t = "list"∨t = "tuple" then some false else none
 |.str _=>if t = "str" then some true else if t = "int"∨t = "bool"∨t = "list"∨t = "tuple" then some false else none
 |.lst _=>if t = "list" then some true else if t = "int"∨t = "bool"∨t = "str"∨t = "tuple" then some false else none
 |.tup _=>if t = "tuple" then some true else if t = "int"∨t = "bool"∨t = "str"∨t = "list" then some false else none
 |_=>none
noncomputable def slot(ρ:List Sl)(i:Nat):Option D:=match ρ[i]? with
 |some (.im d)=>some d
 |_=>none
noncomputable def gM(ρ:List Sl)(i:Nat):Option (List D):=match ρ[i]? with
 |some (.im (.lst ds))=>some ds
 |some (.mu (.lst ds))=>some ds
 |_=>none
noncomputable def iJ:Option Rs→Option D
 |some (.ok d)=>some d
 |_=>none
noncomputable def bC:Option D→Option (List D)
 |some (.tup ds)=>some ds
 |_=>none
noncomputable def boolOf:Option D→Option Bool
 |some (.bl b)=>some b
 |_=>none
noncomputable def intOf:Option D→Option Int
 |some (.int b)=>some b
 |_=>none
noncomputable def frame(n:Nat)(fr:List (Nat×Nat))(ρ:List Sl):List Sl:=(List.range n).map fun i=>match fr.lookup i with
 |some j=>ρ.getD j .un
 |none=>.un
noncomputable def bF:List Nat→List D→List Sl→Option (List Sl)
 |[],[],ρ=>some ρ
 |i::is,d::ds,ρ=>bF is ds (ρ.set i (.im d))
 |_,_,_=>none
noncomputable def bD(tg:List Nat)(tp:Bool)(d:D)(ρ:List Sl):Option (List Sl):=
 if tp then(match d with | .tup ds=>bF tg ds ρ|_=>none) else bF tg [d] ρ
noncomputable def bO(f:D→Option (Option D)):List D→Option (List D)
 |[]=>some []
 |d::r=>do
  let o ←f d
  let t ←bO f r
  match o with
  |some y=>some (y::t)
  |none=>some t
noncomputable def part(b:Bool)(o:Option D):Option (Option Int):=if b then(intOf o).map some else some none
noncomputable def ev(G:GS):IE→List Sl→Option D
 |.var i,ρ=>slot ρ i
 |.lit l,_=>some l.d
 |.glo x,_=>G.cst x
 |.bin o a b,ρ=>do af o (←ev G a ρ) (←ev G b ρ)
 |.neg a,ρ=>do match ←ev G a ρ with | .int i=>some (.int (-i))|_=>none
 |.and a b,ρ=>do match ←ev G a ρ with | .bl true=>(match ←ev G b ρ with | .bl k=>some (.bl k)|_=>none) | .bl false=>some (.bl false)|_=>none
 |.or a b,ρ=>do match ←ev G a ρ with | .bl false=>(match ←ev G b ρ with | .bl k=>some (.bl k)|_=>none) | .bl true=>some (.bl true)|_=>none
 |.not a,ρ=>do match ←ev G a ρ with | .bl k=>some (.bl (!k))|_=>none
 |.tr a,ρ=>do (ck (←ev G a ρ)).map .bl
 |.ite c a b,ρ=>do match ←ev G c ρ with | .bl true=>ev G a ρ | .bl false=>ev G b ρ|_=>none
 |.chain o o' a b c,ρ=>do
  let y ←ev G b ρ
  match ←af o (←ev G a ρ) y with
  |.bl true=>af o' y (←ev G c ρ)
  |.bl false=>some (.bl false)
  |_=>none
 |.nil,_=>some (.tup [])
 |.cons e es,ρ=>do
  let d ←ev G e ρ
  match ←ev G es ρ with
  |.tup ds=>some (.tup (d::ds))
  |_=>none
 |.tup es,ρ=>(bC (ev G es ρ)).map .tup
 |.lst es,ρ=>(bC (ev G es ρ)).map .lst
 |.ix a i,ρ=>do
  match ←ev G a ρ,←ev G i ρ with
  |.lst xs,.int k=>atI xs k
  |.tup xs,.int k=>atI xs k
  |.frz xs,.int k=>atI xs k
  |.dct kvs,.int k=>dE kvs k
  |_,_=>none
 |.ixm x i,ρ=>do atI (←gM ρ x) (←intOf (ev G i ρ))
 |.lenm x,ρ=>do some (.int (←gM ρ x).length)
 |.sortm x,ρ=>do uC [.lst (←gM ρ x)]
 |.sl a bl lo bh hi,ρ=>do
  let d ←ev G a ρ
  let l ←part bl (ev G lo ρ)
  let h ←part bh (ev G hi ρ)
  match d with
  |.lst xs=>some (.lst (cut xs l h))
  |.frz xs=>some (.lst (cut xs l h))
  |.tup xs=>if sIx xs.length 0 l=0∧sIx xs.length xs.length h=xs.length then none else some (.tup (cut xs l h))
  |_=>none
 |.slm x bl lo bh hi,ρ=>do
  let xs ←gM ρ x
  let l ←part bl (ev G lo ρ)
  let h ←part bh (ev G hi ρ)
  some (.lst (cut xs l h))
 |.fld a f,ρ=>do match ←ev G a ρ with | .obj c fs=>if (G.fl c).contains f then fs.lookup f else none|_=>none
 |.call f es,ρ=>do iJ (G.fn f (←bC (ev G es ρ)))
 |.meth o m es,ρ=>do match ←ev G o ρ with | .obj c fs=>(if (fs.lookup m).isNone then(bC (ev G es ρ)).bind fun as=>iJ (G.me c m (.obj c fs::as)) else none)|_=>none
 |.mk c es,ρ=>do iJ (G.mo c (←bC (ev G es ρ)))
 |.bcall b es,ρ=>do bf b (←bC (ev G es ρ))
 |.isi a t,ρ=>do (nX G t (←ev G a ρ)).map .bl
 |.walk k a,ρ=>do (items k (←ev G a ρ)).map .lst
 |.comp n fr tg tp k src test elt,ρ=>do
  let ds ←items k (←ev G src ρ)
  (bO (fun d=>do
   let ρ1 ←bD tg tp d (frame n fr ρ)
   match ←ev G test ρ1 with
   |.bl true=>(ev G elt ρ1).map some
   |.bl false=>some none
   |_=>none) ds).map .lst
 |.inC neg x a,ρ=>do match ←ev G a ρ with | .str s=>(G.dk x).map fun kvs=>.bl (neg != (kvs.lookup s).isSome)|_=>none
noncomputable def gu(G:GS):IE→List Sl→Option Rs
 |.call f es,ρ=>(bC (ev G es ρ)).bind (G.fn f)
 |.meth o m es,ρ=>match ev G o ρ with
  |some (.obj c fs)=>if (fs.lookup m).isNone then(bC (ev G es ρ)).bind fun as=>G.me c m (.obj c fs::as) else none
  |_=>none
 |_,_=>none
inductive HR where
 |lit (l:Lit)
 |word (f:Str)
 |weq (f:Str) (x:Str)
noncomputable def f7(G:GS)(c:Str):HR→Option D
 |.lit l=>some l.d
 |.word f=>(G.wd f c).map .str
 |.weq f x=>(G.wd f c).map fun y=>.bl (y == x)
set_option genInjectivity false
inductive IS where
 |nop
 |seq (a b:IS)
 |ret (fr:Bool) (e:IE)
 |retm (x:Nat)
 |retn
 |set (x:Nat) (e:IE)
 |setm (x:Nat) (e:IE)
 |setd (x:Nat)
 |sett (tg:List Nat) (e:IE)
 |par (x y:Nat) (a b:IE)
 |iff (c:IE) (a b:IS)
 |loop (tg:List Nat) (tp:Bool) (k:Src) (src:IE) (body:IS)
 |whl (c:IE) (body:IS)
 |app (x:Nat) (e:IE)
 |put (x:Nat) (k e:IE)
 |drop (e:IE)
 |frz (xs:List Nat) (st:IS)
 |rse (c:Str)
 |tryx (ce:IE) (hc:Str) (hb:Option Nat) (r:HR)
 |pop0 (x:Nat)
set_option genInjectivity true
inductive Out where
 |nx (ρ:List Sl)
 |rt (d:D)
 |bk (ρ:List Sl)
 |ct (ρ:List Sl)
 |er (c:Str)
noncomputable def cV(bind:D→List Sl→Option (List Sl))(body:List Sl→Option Out):List D→List Sl→Option Out
 |[],ρ=>some (.nx ρ)
 |d::r,ρ=>do
  let ρ1 ←bind d ρ
  match ←body ρ1 with
  |.nx ρ2=>cV bind body r ρ2
  |.ct ρ2=>cV bind body r ρ2
  |.bk ρ2=>some (.nx ρ2)
  |o=>some o
noncomputable def dH(test:List Sl→Option D)(body:List Sl→Option Out):Nat→List Sl→Option Out
 | 0,_=>none
 |n+1,ρ=>do
  match ←test ρ with
  |.bl true=>(match ←body ρ with
   |.nx ρ2=>dH test body n ρ2
   |.ct ρ2=>dH test body n ρ2
   |.bk ρ2=>some (.nx ρ2)
   |o=>some o)
  |.bl false=>some (.nx ρ)
  |_=>none
noncomputable def RD(i:Nat)(ρ:List Sl):List Sl:=match ρ[i]? with
 |some (.mu d)=>ρ.set i (.im d)
 |_=>ρ
noncomputable def freeze:List Nat→List Sl→List Sl
 |[],ρ=>ρ
 |i::r,ρ=>freeze r (RD i ρ)
noncomputable def iG:Sl→Sl
 |.mu d=>.im d
 |s=>s
noncomputable def view(ρ:List Sl):List Sl:=ρ.map iG
noncomputable def xH:D→Bool
 |.non=>true
 |.bl _=>true
 |.int _=>true
 |.str _=>true
 |_=>false
noncomputable def cy(G:GS)(e:IE)(ρ:List Sl):Option D:=match ev G e ρ with
 |some d=>some d
 |none=>match ev G e (view ρ) with
  |some d=>if xH d then some d else none
  |none=>none
noncomputable def aHr(o:D)(i:Int)(d:D):Option D:=match o with
 |.lst ds=>(ixN ds.length i).map fun j=>.lst (ds.set j d)
 |.dct kvs=>if kvs.length<big then some (.dct (lD kvs i d)) else none
 |_=>none
noncomputable def ex(G:GS):IS→List Sl→Option Out
 |.nop,ρ=>some (.nx ρ)
 |.seq a b,ρ=>do
  match ←ex G a ρ with
  |.nx ρ'=>ex G b ρ'
  |o=>some o
 |.ret _ e,ρ=>(cy G e ρ).map .rt
 |.retm x,ρ=>match ρ[x]? with|some (.mu d)=>some (.rt d)|_=>none
 |.retn,_=>some (.rt .non)
 |.set x e,ρ=>(cy G e ρ).map fun d=>.nx (ρ.set x (.im d))
 |.setm x e,ρ=>do match ←ev G e ρ with | .lst ds=>some (.nx (ρ.set x (.mu (.lst ds))))|_=>none
 |.setd x,ρ=>some (.nx (ρ.set x (.mu (.dct []))))
 |.sett tg e,ρ=>do (bD tg true (←ev G e ρ) ρ).map .nx
 |.par x y a b,ρ=>do
  let u ←ev G a ρ
  let v ←ev G b ρ
  some (.nx ((ρ.set x (.im u)).set y (.im v)))
 |.iff c a b,ρ=>do match ←ev G c (view ρ) with | .bl true=>ex G a ρ | .bl false=>ex G b ρ|_=>none
 |.loop tg tp k src body,ρ=>do cV (bD tg tp) (ex G body) (←items k (←ev G src ρ)) ρ
 |.whl c body,ρ=>dH (fun ρ=>ev G c (view ρ)) (ex G body) 5000 ρ
 |.app x e,ρ=>do
  let d ←cy G e ρ
  match ρ[x]? with
  |some (.mu (.lst ds))=>if ds.length<big then some (.nx (ρ.set x (.mu (.lst (ds++[d]))))) else none
  |_=>none
 |.put x k e,ρ=>do
  let d ←cy G e ρ
  let i ←intOf (cy G k ρ)
  match ρ[x]? with
  |some (.mu o)=>(aHr o i d).map fun o=>.nx (ρ.set x (.mu o))
  |_=>none
 |.drop e,ρ=>match ev G e (view ρ) with
  |some _=>some (.nx ρ)
  |none=>match gu G e (view ρ) with
   |some (.er k)=>if G.xn k then some (.er k) else none
   |_=>none
 |.frz xs st,ρ=>ex G st (freeze xs ρ)
 |.rse c,_=>if G.xn c then some (.er c) else none
 |.tryx ce hc _ r,ρ=>match gu G ce (view ρ) with
  |some (.ok _)=>some (.nx ρ)
  |some (.er k)=>if G.xn k&&G.xn hc&&G.sub k hc then(f7 G k r).map .rt else none
  |none=>none
 |.pop0 x,ρ=>match ρ[x]? with
  |some (.mu (.lst ds))=>if ds.isEmpty then none else some (.nx (ρ.set x (.mu (.lst (ds.eraseIdx 0)))))
  |_=>none
noncomputable def iA:IS→Bool
 |.seq a b=>iA a&&iA b
 |.ret fr _=>fr
 |.iff _ a b=>iA a&&iA b
 |.loop _ _ _ _ b=>iA b
 |.whl _ b=>iA b
 |.frz _ b=>iA b
 |.tryx _ _ _ _=>true
 |_=>true
noncomputable def aS(G:GS)(n:Nat)(b:IS)(args:List D):Option Rs:=
 match ex G b (args.map .im++List.replicate (n-args.length) .un) with
 |some (.rt d)=>some (.ok d)
 |some (.nx _)=>some (.ok .non)
 |some (.er c)=>some (.er c)
 |_=>none
section
variable {G:GS}{ρ:List Sl}{a b e es src test elt:IE}{i j:Int}
theorem lT{k:Nat}:ev G (.var k) ρ=slot ρ k:=id rfl
theorem aAr{l:Lit}:ev G (.lit l) ρ=some l.d:=id rfl
theorem aAt{x:Str}:ev G (.glo x) ρ=G.cst x:=id rfl
theorem bW{o:O2}:ev G (.bin o a b) ρ=(ev G a ρ).bind fun x=>(ev G b ρ).bind fun y=>af o x y:=id rfl
theorem aAq:ev G (.neg a) ρ=(ev G a ρ).bind fun x=>match x with | .int i=>some (.int (-i))|_=>none:=id rfl
theorem KG:ev G (.and a b) ρ=(ev G a ρ).bind fun x=>match x with | .bl true=>((ev G b ρ).bind fun y=>match y with | .bl k=>some (.bl k)|_=>none) | .bl false=>some (.bl false)|_=>none:=id rfl
theorem UQ:ev G (.or a b) ρ=(ev G a ρ).bind fun x=>match x with | .bl false=>((ev G b ρ).bind fun y=>match y with | .bl k=>some (.bl k)|_=>none) | .bl true=>some (.bl true)|_=>none:=id rfl
theorem aAp:ev G (.not a) ρ=(ev G a ρ).bind fun x=>match x with | .bl k=>some (.bl (!k))|_=>none:=id rfl
theorem UP:ev G (.tr a) ρ=(ev G a ρ).bind fun x=>(ck x).map .bl:=id rfl
theorem iV{c:IE}:ev G (.ite c a b) ρ=(ev G c ρ).bind fun x=>match x with | .bl true=>ev G a ρ | .bl false=>ev G b ρ|_=>none:=id rfl
theorem wJ{o o':O2}{c:IE}:ev G (.chain o o' a b c) ρ=(ev G b ρ).bind fun y=>(ev G a ρ).bind fun x=>(af o x y).bind fun w=>match w with | .bl true=>(ev G c ρ).bind fun z=>af o' y z | .bl false=>some (.bl false)|_=>none:=id rfl
theorem lU:ev G .nil ρ=some (.tup []):=id rfl
theorem aU:ev G (.cons e es) ρ=(ev G e ρ).bind fun d=>(ev G es ρ).bind fun t=>match t with | .tup ds=>some (.tup (d::ds))|_=>none:=id rfl
theorem oS:ev G (.tup es) ρ=(bC (ev G es ρ)).map .tup:=id rfl
theorem yV:ev G (.lst es) ρ=(bC (ev G es ρ)).map .lst:=id rfl
theorem aEX:ev G (.ix a b) ρ=(ev G a ρ).bind fun x=>(ev G b ρ).bind fun y=>(match x,y with
  |.lst xs,.int k=>atI xs k
  |.tup xs,.int k=>atI xs k
  |.frz xs,.int k=>atI xs k
  |.dct kvs,.int k=>dE kvs k
  |_,_=>none):=id rfl
theorem iW{f:Str}:ev G (.fld a f) ρ=(ev G a ρ).bind fun x=>match x with | .obj c fs=>if (G.fl c).contains f then fs.lookup f else none|_=>none:=id rfl
theorem kS{f:Str}:ev G (.call f es) ρ=(bC (ev G es ρ)).bind fun as=>iJ (G.fn f as):=id rfl
theorem BX{m:Str}:ev G (.meth a m es) ρ=(ev G a ρ).bind fun x=>match x with | .obj c fs=>(if (fs.lookup m).isNone then(bC (ev G es ρ)).bind fun as=>iJ (G.me c m (.obj c fs::as)) else none)|_=>none:=id rfl
theorem KD{c:Str}:ev G (.mk c es) ρ=(bC (ev G es ρ)).bind fun as=>iJ (G.mo c as):=id rfl
theorem iX{f:BF}:ev G (.bcall f es) ρ=(bC (ev G es ρ)).bind fun as=>bf f as:=id rfl
theorem aAs{t:Str}:ev G (.isi a t) ρ=(ev G a ρ).bind fun x=>(nX G t x).map .bl:=id rfl
theorem BV{k:Src}:ev G (.walk k a) ρ=(ev G a ρ).bind fun x=>(items k x).map .lst:=id rfl
theorem kD{x:Nat}:ev G (.ixm x b) ρ=(gM ρ x).bind fun xs=>(intOf (ev G b ρ)).bind fun k=>atI xs k:=id rfl
theorem SB{x:Nat}:ev G (.lenm x) ρ=(gM ρ x).bind fun xs=>some (.int xs.length):=id rfl
theorem BW{bl bh:Bool}{lo hi:IE}:ev G (.sl a bl lo bh hi) ρ=(ev G a ρ).bind fun d=>(part bl (ev G lo ρ)).bind fun l=>(part bh (ev G hi ρ)).bind fun h=>(match d with
  |.lst xs=>some (.lst (cut xs l h))
  |.frz xs=>some (.lst (cut xs l h))
  |.tup xs=>if sIx xs.length 0 l=0∧sIx xs.length xs.length h=xs.length then none else some (.tup (cut xs l h))
  |_=>none):=id rfl
theorem uE{n:Nat}{fr:List (Nat×Nat)}{tg:List Nat}{tp:Bool}{k:Src}:ev G (.comp n fr tg tp k src test elt) ρ=(ev G src ρ).bind fun s=>(items k s).bind fun ds =>
  (bO (fun d=>(bD tg tp d (frame n fr ρ)).bind fun ρ1=>(ev G test ρ1).bind fun w=>match w with
   |.bl true=>(ev G elt ρ1).map some
   |.bl false=>some none
   |_=>none) ds).map .lst:=id rfl
theorem jR{ds:List D}:bC (some (.tup ds))=some ds:=id rfl
theorem QC{d:D}:iJ (some (.ok d))=some d:=id rfl
theorem aDD:af .add (.int i) (.int j)=some (.int (i+j)):=id rfl
theorem aDB:af .sub (.int i) (.int j)=some (.int (i-j)):=id rfl
theorem IF(h0:-1000000≤i)(h1:i≤1000000):af .mul (.int i) (.int j)=some (.int (i*j)):=if_pos (.inl ⟨by omega,by omega⟩)
theorem kN(h0:0<j)(h1:j<1000000):af .fdiv (.int i) (.int j)=some (.int (i / j)):=if_pos ⟨h0,by omega⟩
theorem kM(h0:0<j):af .mod (.int i) (.int j)=some (.int (i % j)):=if_pos h0
theorem aHt:af .lt (.int i) (.int j)=some (.bl (decide (i<j))):=id rfl
theorem aHu:af .le (.int i) (.int j)=some (.bl (decide (i≤j))):=id rfl
theorem aHv:af .gt (.int i) (.int j)=some (.bl (decide (j<i))):=id rfl
theorem aHw:af .ge (.int i) (.int j)=some (.bl (decide (j≤i))):=id rfl
theorem QE:af .eq (.int i) (.int j)=some (.bl (i == j)):=id rfl
theorem YY:af .ne (.int i) (.int j)=some (.bl (!(i == j))):=id rfl
theorem aDC{x y:Bool}:af .is (.bl x) (.bl y)=some (.bl (x == y)):=id rfl
theorem YZ{x y:Bool}:af .isnot (.bl x) (.bl y)=some (.bl (!(x == y))):=id rfl
theorem GO(h0:-1000000≤j)(h1:j≤1000000):dJ j=true:=by
 unfold dJ;rw[qt,qy,qy];omega
theorem yI{n:Nat}(h:n≤1000000):items .rng (.tup [.int (n:Int)])=some (cC 0 (n:Int)):=by
 have h1:(dJ (n:Int)&&decide ((n:Int).toNat≤big))=true:=by
  rw[GO (by omega) (by omega),Bool.true_and,qy]
  unfold big;omega
 simp only[items,AH];rw[if_pos h1]
theorem slot0{d:D}{r:List Sl}:slot (.im d::r) 0=some d:=id rfl
theorem TL{x:Sl}{r:List Sl}{k:Nat}:slot (x::r) (k+1)=slot r k:=id rfl
end
section
variable {G:GS}{ρ:List Sl}{a b:IS}{e c:IE}
theorem bG:ex G .nop ρ=some (.nx ρ):=id rfl
theorem JZ:ex G (.seq a b) ρ=(ex G a ρ).bind fun o=>match o with | .nx ρ'=>ex G b ρ'|o=>some o:=id rfl
theorem KB:ex G (.iff c a b) ρ=(ev G c (view ρ)).bind fun x=>match x with | .bl true=>ex G a ρ | .bl false=>ex G b ρ|_=>none:=id rfl
theorem kC{d:D}(h:ev G e ρ=some d):cy G e ρ=some d:=by unfold cy;rw[h]
theorem aV{d:D}{f:Bool}(h:ev G e ρ=some d):ex G (.ret f e) ρ=some (.rt d):=by show (cy G e ρ).map Out.rt=_;rw[kC h];rfl
theorem aN{d:D}{x:Nat}(h:ev G e ρ=some d):ex G (.set x e) ρ=some (.nx (ρ.set x (.im d))):=by show (cy G e ρ).map _=_;rw[kC h];rfl
theorem jO{ds:List D}{x:Nat}(h:ev G e ρ=some (.lst ds)):ex G (.setm x e) ρ=some (.nx (ρ.set x (.mu (.lst ds)))):=by show (ev G e ρ).bind _=_;rw[h];rfl
theorem eN{tg:List Nat}{tp:Bool}{k:Src}{d:D}{ds:List D}(h1:ev G e ρ=some d)(h2:items k d=some ds):ex G (.loop tg tp k e a) ρ=cV (bD tg tp) (ex G a) ds ρ:=by show (ev G e ρ).bind _=_;rw[h1];show ((items k d).bind _)=_;rw[h2];rfl
end
theorem oW{f:D→Option (Option D)}{h:D→D}:∀{ds:List D},(∀d∈ds,f d=some (some (h d)))→bO f ds=some (ds.map h)
 |[],_=>rfl
 |d::r,e=>by
  unfold bO;rw[e d (uf),oW fun x hx=>e x (qq _ hx)]
  rfl
theorem nW{lo hi:Int}{d:D}(h:d∈cC lo hi):∃i:Int,d=.int i∧lo≤i∧i<hi:=by
 unfold cC at h;simp only[sv,ur]at h;obtain⟨k,hk,rfl⟩:=h;exact⟨_,rfl,by omega,by omega⟩
theorem jV{n:Nat}:cC 0 (n:Int)=(List.range n).map fun (k:Nat)=>D.int k:=by
 unfold cC;simp
theorem fI{bind:D→List Sl→Option (List Sl)}{body:List Sl→Option Out}(P:Nat→List Sl→Prop):∀{ds:List D} {k:Nat} {ρ:List Sl},P k ρ →
  (∀(i:Nat) (d:D) (ρ:List Sl),ds[i]?=some d→P (k+i) ρ→∃ρ1,bind d ρ=some ρ1∧∃ρ2,body ρ1=some (.nx ρ2)∧P (k+i+1) ρ2)→∃ρ',cV bind body ds ρ=some (.nx ρ')∧P (k+ds.length) ρ'
 |[],k,ρ,h,_=>⟨ρ,rfl,h⟩
 |d::r,k,ρ,h,st=>by
  obtain⟨ρ1,h1,ρ2,h2,h3⟩:=st 0 d ρ rfl h;obtain⟨ρ',h4,h5⟩:=fI P (ds:=r) (k:=k+1) h3 fun i d' ρ' e p=>by
   have:=st (i+1) d' ρ' (by simpa using e) (by rw[Nat.add_comm i 1,←Nat.add_assoc];exact p)
   rw[show k+1+i+1=k+(i+1)+1 by omega]
   exact this
  refine⟨ρ',?_,by rw[ui,show k+(r.length+1)=k+1+r.length by omega];exact h5⟩
  unfold cV;rw[h1];show ((body ρ1).bind _)=_
  rw[h2];exact h4
theorem aO{G:GS}{n:Nat}{b:IS}{args:List D}{ρ:List Sl}{d:D}(h0:args.map .im++List.replicate (n-args.length) .un=ρ)(h:ex G b ρ=some (.rt d)):aS G n b args=some (.ok d):=by unfold aS;rw[h0,h]
theorem NL{G:GS}{n:Nat}{b:IS}{args:List D}{ρ ρ':List Sl}(h0:args.map .im++List.replicate (n-args.length) .un=ρ)(h:ex G b ρ=some (.nx ρ')):aS G n b args=some (.ok .non):=by unfold aS;rw[h0,h]
theorem NM{G:GS}{n:Nat}{b:IS}{args:List D}{ρ:List Sl}{k:Str}(h0:args.map .im++List.replicate (n-args.length) .un=ρ)(h:ex G b ρ=some (.er k)):aS G n b args=some (.er k):=by unfold aS;rw[h0,h]
theorem wI{G:GS}{ρ:List Sl}{n:Nat}{fr:List (Nat×Nat)}{tg:List Nat}{tp:Bool}{k:Src}{src test elt:IE}{s:D}{ds:List D}(h:D→D)(h1:ev G src ρ=some s)(h2:items k s=some ds)
  (h3:∀d∈ds,∃ρ1,bD tg tp d (frame n fr ρ)=some ρ1∧ev G test ρ1=some (.bl true)∧ev G elt ρ1=some (h d)):ev G (.comp n fr tg tp k src test elt) ρ=some (.lst (ds.map h)):=by
 rw[uE,h1,ud,h2,ud,oW (h:=h)]
 ·rfl
 ·intro d hd;obtain⟨ρ1,e1,e2,e3⟩:=h3 d hd;rw[e1,ud,e2,ud];show Option.map some (ev G elt ρ1)=_
  rw[e3];rfl
theorem bL:view []=[]:=id rfl
theorem eI{d:D}{r:List Sl}:view (.im d::r)=.im d::view r:=id rfl
theorem zD{r:List Sl}:view (.un::r)=.un::view r:=id rfl
theorem MU{d:D}{r:List Sl}:view (.mu d::r)=.im d::view r:=id rfl
theorem aAo{G:GS}{ρ:List Sl}{c:Str}(h:G.xn c=true):ex G (.rse c) ρ=some (.er c):=if_pos h
theorem RW{G:GS}{ρ:List Sl}{ce:IE}{hc k:Str}{hb:Option Nat}{r:HR}(h:gu G ce (view ρ)=some (.er k)):ex G (.tryx ce hc hb r) ρ=(if G.xn k&&G.xn hc&&G.sub k hc then(f7 G k r).map .rt else none):=by
 show (match gu G ce (view ρ) with|some (.ok _)=>some (Out.nx ρ)|some (.er k)=>_|none=>_)=_
 rw[h]
theorem wH{G:GS}{ρ:List Sl}{tg:List Nat}{e:IE}:ex G (.sett tg e) ρ=(ev G e ρ).bind fun d=>(bD tg true d ρ).map .nx:=id rfl
theorem aI{G:GS}{ρ ρ':List Sl}{a b:IS}{o:Out}(h1:ex G a ρ=some (.nx ρ'))(h2:ex G b ρ'=some o):ex G (.seq a b) ρ=some o:=by rw[JZ,h1];exact h2
theorem gS{G:GS}{ρ:List Sl}{a b:IS}{o:Out}(h1:ex G a ρ=some o)(h2:∀ρ',o≠.nx ρ'):ex G (.seq a b) ρ=some o:=by
 rw[JZ,h1];cases o<;>first|rfl|exact absurd rfl (h2 _)
theorem kB{G:GS}{ρ:List Sl}{a b:IS}{c:IE}{o:Option Out}(h1:ev G c (view ρ)=some (.bl true))(h2:ex G a ρ=o):ex G (.iff c a b) ρ=o:=by rw[KB,h1];exact h2
theorem eF{G:GS}{ρ:List Sl}{a b:IS}{c:IE}{o:Option Out}(h1:ev G c (view ρ)=some (.bl false))(h2:ex G b ρ=o):ex G (.iff c a b) ρ=o:=by rw[KB,h1];exact h2
theorem eV{G:GS}{ρ:List Sl}{a b:IE}{x y:Bool}(ha:ev G a ρ=some (.bl x))(hb:x=false→ev G b ρ=some (.bl y)):ev G (.or a b) ρ=some (.bl (x || y)):=by
 rw[UQ,ha];cases x with
 |true=>rfl
 |false=>show ((ev G b ρ).bind _)=_;rw[hb rfl];rfl
theorem SC{G:GS}{ρ:List Sl}{a b:IE}{x y:Bool}(ha:ev G a ρ=some (.bl x))(hb:x=true→ev G b ρ=some (.bl y)):ev G (.and a b) ρ=some (.bl (x&&y)):=by
 rw[KG,ha];cases x with
 |false=>rfl
 |true=>show ((ev G b ρ).bind _)=_;rw[hb rfl];rfl
theorem aEW{xs:List D}:bf .len [.lst xs]=some (.int xs.length):=id rfl
theorem aAm{xs:List D}:bf .len [.frz xs]=some (.int xs.length):=id rfl
theorem aAl{xs:List D}:bf .len [.tup xs]=some (.int xs.length):=id rfl
theorem aAk{xs:List D}:bf .list [.lst xs]=some (.lst xs):=id rfl
theorem RI{xs:List D}:bf .list [.tup xs]=some (.lst xs):=id rfl
theorem fT{α:Type}{xs:List α}{k:Nat}{x:α}(h:xs[k]?=some x):atI xs (k:Int)=some x:=by
 have hl:=(q9.mp h).1
 unfold atI ixN;rw[if_pos (by omega),if_pos (by omega)]
 simpa using h
theorem aA{α β:Type}{a:α}{f:α→Option β}:(some a).bind f=f a:=id rfl
theorem aC{α β:Type}{a:α}{f:α→β}:(some a).map f=some (f a):=id rfl
theorem aEA{i:Int}:(Lit.int i).d=.int i:=id rfl
theorem aHL{b:Bool}:(Lit.bl b).d=.bl b:=id rfl
theorem aEy{x:Str}:(Lit.str x).d=.str x:=id rfl
theorem aEz:(Lit.non).d=.non:=id rfl
theorem zz:(∀G ρ k,ev G (.var k) ρ=slot ρ k)∧(∀G ρ l,ev G (.lit l) ρ=some l.d)∧(∀G ρ x,ev G (.glo x) ρ=G.cst x)∧(∀G ρ o a b,ev G (.bin o a b) ρ=(ev G a ρ).bind fun x=>(ev G b ρ).bind fun y=>af o x y) ∧
  (∀G ρ a,ev G (.neg a) ρ=(ev G a ρ).bind fun x=>match x with | .int i=>some (.int (-i))|_=>none) ∧
  (∀G ρ a b,ev G (.and a b) ρ=(ev G a ρ).bind fun x=>match x with | .bl true=>((ev G b ρ).bind fun y=>match y with | .bl k=>some (.bl k)|_=>none) | .bl false=>some (.bl false)|_=>none) ∧
  (∀G ρ a b,ev G (.or a b) ρ=(ev G a ρ).bind fun x=>match x with | .bl false=>((ev G b ρ).bind fun y=>match y with | .bl k=>some (.bl k)|_=>none) | .bl true=>some (.bl true)|_=>none) ∧
  (∀G ρ a,ev G (.not a) ρ=(ev G a ρ).bind fun x=>match x with | .bl k=>some (.bl (!k))|_=>none)∧(∀G ρ a,ev G (.tr a) ρ=(ev G a ρ).bind fun x=>(ck x).map .bl) ∧
  (∀G ρ c a b,ev G (.ite c a b) ρ=(ev G c ρ).bind fun x=>match x with | .bl true=>ev G a ρ | .bl false=>ev G b ρ|_=>none) ∧
  (∀G ρ o o' a b c,ev G (.chain o o' a b c) ρ=(ev G b ρ).bind fun y=>(ev G a ρ).bind fun x=>(af o x y).bind fun w=>match w with | .bl true=>(ev G c ρ).bind fun z=>af o' y z | .bl false=>some (.bl false)|_=>none) ∧
  (∀G ρ,ev G .nil ρ=some (.tup []))∧(∀G ρ e es,ev G (.cons e es) ρ=(ev G e ρ).bind fun d=>(ev G es ρ).bind fun t=>match t with | .tup ds=>some (.tup (d::ds))|_=>none) ∧
  (∀G ρ es,ev G (.tup es) ρ=(bC (ev G es ρ)).map .tup)∧(∀G ρ es,ev G (.lst es) ρ=(bC (ev G es ρ)).map .lst) ∧
  (∀G ρ a b,ev G (.ix a b) ρ=(ev G a ρ).bind fun x=>(ev G b ρ).bind fun y=>(match x,y with | .lst xs,.int k=>atI xs k | .tup xs,.int k=>atI xs k | .frz xs,.int k=>atI xs k | .dct kvs,.int k=>dE kvs k|_,_=>none)) ∧
  (∀G ρ a f,ev G (.fld a f) ρ=(ev G a ρ).bind fun x=>match x with | .obj c fs=>if (G.fl c).contains f then fs.lookup f else none|_=>none) ∧
  (∀G ρ f es,ev G (.call f es) ρ=(bC (ev G es ρ)).bind fun as=>iJ (G.fn f as)) ∧
  (∀G ρ a m es,ev G (.meth a m es) ρ=(ev G a ρ).bind fun x=>match x with | .obj c fs=>(if (fs.lookup m).isNone then(bC (ev G es ρ)).bind fun as=>iJ (G.me c m (.obj c fs::as)) else none)|_=>none) ∧
  (∀G ρ c es,ev G (.mk c es) ρ=(bC (ev G es ρ)).bind fun as=>iJ (G.mo c as))∧(∀G ρ f es,ev G (.bcall f es) ρ=(bC (ev G es ρ)).bind fun as=>bf f as) ∧
  (∀G ρ a t,ev G (.isi a t) ρ=(ev G a ρ).bind fun x=>(nX G t x).map .bl)∧(∀G ρ k a,ev G (.walk k a) ρ=(ev G a ρ).bind fun x=>(items k x).map .lst) ∧
  (∀G ρ x b,ev G (.ixm x b) ρ=(gM ρ x).bind fun xs=>(intOf (ev G b ρ)).bind fun k=>atI xs k)∧(∀G ρ x,ev G (.lenm x) ρ=(gM ρ x).bind fun xs=>some (.int xs.length)) ∧
  (∀G ρ a bl lo bh hi,ev G (.sl a bl lo bh hi) ρ=(ev G a ρ).bind fun d=>(part bl (ev G lo ρ)).bind fun l=>(part bh (ev G hi ρ)).bind fun h=>(match d with
   |.lst xs=>some (.lst (cut xs l h))
   |.frz xs=>some (.lst (cut xs l h))
   |.tup xs=>if sIx xs.length 0 l=0∧sIx xs.length xs.length h=xs.length then none else some (.tup (cut xs l h))
   |_=>none)):=
 ⟨fun _ _ _=>lT,fun _ _ _=>aAr,fun _ _ _=>aAt,fun _ _ _ _ _=>bW,fun _ _ _=>aAq,fun _ _ _ _=>KG,fun _ _ _ _=>UQ,fun _ _ _=>aAp,fun _ _ _=>UP,fun _ _ _ _ _=>iV,fun _ _ _ _ _ _ _=>wJ,fun _ _=>lU,fun _ _ _ _=>aU,fun _ _ _=>oS,fun _ _ _=>yV,fun _ _ _ _=>aEX,fun _ _ _ _=>iW,fun _ _ _ _=>kS,fun _ _ _ _ _=>BX,fun _ _ _ _=>KD,fun _ _ _ _=>iX,fun _ _ _ _=>aAs,fun _ _ _ _=>BV,fun _ _ _ _=>kD,fun _ _ _=>SB,fun _ _ _ _ _ _ _=>BW⟩
theorem yy:(∀ds,bC (some (.tup ds))=some ds)∧(∀d,iJ (some (.ok d))=some d)∧(∀i j,af .add (.int i) (.int j)=some (.int (i+j)))∧(∀i j,af .sub (.int i) (.int j)=some (.int (i-j)))∧(∀i j,af .lt (.int i) (.int j)=some (.bl (decide (i<j))))∧(∀i j,af .le (.int i) (.int j)=some (.bl (decide (i≤j)))) ∧
  (∀i j,af .gt (.int i) (.int j)=some (.bl (decide (j<i))))∧(∀i j,af .ge (.int i) (.int j)=some (.bl (decide (j≤i))))∧(∀i j,af .eq (.int i) (.int j)=some (.bl (i == j)))∧(∀i j,af .ne (.int i) (.int j)=some (.bl (!(i == j))))∧(∀x y,af .is (.bl x) (.bl y)=some (.bl (x == y)))∧(∀x y,af .isnot (.bl x) (.bl y)=some (.bl (!(x == y)))) ∧
  (∀d r,slot (.im d::r) 0=some d)∧(∀x r k,slot (x::r) (k+1)=slot r k)∧(view []=[])∧(∀d r,view (.im d::r)=.im d::view r)∧(∀r,view (.un::r)=.un::view r)∧(∀d r,view (.mu d::r)=.im d::view r) ∧
  (∀xs,bf .len [.lst xs]=some (.int xs.length))∧(∀xs,bf .len [.frz xs]=some (.int xs.length))∧(∀xs,bf .len [.tup xs]=some (.int xs.length))∧(∀xs,bf .list [.lst xs]=some (.lst xs))∧(∀xs,bf .list [.tup xs]=some (.lst xs)) ∧
  (∀i,(Lit.int i).d=.int i)∧(∀b,(Lit.bl b).d=.bl b)∧(∀x,(Lit.str x).d=.str x)∧((Lit.non).d=.non):=
 ⟨fun _=>jR,fun _=>QC,fun _ _=>aDD,fun _ _=>aDB,fun _ _=>aHt,fun _ _=>aHu,fun _ _=>aHv,fun _ _=>aHw,fun _ _=>QE,fun _ _=>YY,fun _ _=>aDC,fun _ _=>YZ,fun _ _=>slot0,fun _ _ _=>TL,bL,fun _ _=>eI,fun _=>zD,fun _ _=>MU,fun _=>aEW,fun _=>aAm,fun _=>aAl,fun _=>aAk,fun _=>RI,fun _=>aEA,fun _=>aHL,fun _=>aEy,aEz⟩
namespace Pg
noncomputable def hZ:IS:=(.ret true (.comp 4 [(2,0),(3,1)] [1] false .rng (.tup (.cons (.var 0) .nil)) (.lit (.bl true)) (.lst (.cons (.tup (.cons (.bin .add (.bin .mul (.var 3) (.var 2)) (.var 1)) (.cons (.lit (.bl false)) (.cons (.lit (.bl false)) .nil)))) .nil))))
noncomputable def UR(i:Int)(e n:Bool):D:=.tup [.int i,.bl e,.bl n]
noncomputable def mK(c y:Nat):List D:=(List.range c).map fun x=>.lst [UR (y*c+x:Nat) false false]
theorem vR{G:GS}{c y:Nat}(hc:c≤64)(hy:y≤64):aS G 2 hZ [.int c,.int y]=some (.ok (.lst (mK c y))):=by
 have e:=wI (G:=G) (ρ:=[.im (.int c),.im (.int y)]) (n:=4) (fr:=[(2,0),(3,1)]) (tg:=[1]) (tp:=false) (k:=.rng) (src:=.tup (.cons (.var 0) .nil)) (test:=.lit (.bl true)) (elt:=.lst (.cons (.tup (.cons (.bin .add (.bin .mul (.var 3) (.var 2)) (.var 1)) (.cons (.lit (.bl false)) (.cons (.lit (.bl false)) .nil)))) .nil))
  (fun d=>match d with | .int x=>.lst [UR (y*c+x) false false]|_=>.non) (s:=.tup [.int c]) (by simp only[zz,yy,aA,aC]) (yI (by omega)) (fun d hd=>by
   obtain⟨x,rfl,h1,h2⟩:=nW hd;refine⟨[.un,.im (.int x),.im (.int c),.im (.int y)],rfl,by simp only[zz,yy,aA,aC],?_⟩
   simp only[zz,yy,aA,aC,IF (show (-1000000:Int)≤y by omega) (show (y:Int)≤1000000 by omega)]
   rfl)
 refine aO (ρ:=[.im (.int c),.im (.int y)]) rfl (aV (e.trans ?_));rw[jV];simp[mK]
noncomputable def bE(c r w h:Int)(T F S:List D):D:=.obj "Pile" [("columns",.int c),("rows",.int r),("wide",.int w),("high",.int h),("table",.lst T),("folds",.tup F),("severed",.tup S)]
noncomputable def fK(c r:Nat):List D:=(List.range r).map fun y=>.lst (mK c y)
noncomputable def sQ:IS:=(.seq (.iff (.or (.bin .lt (.var 0) (.lit (.int 1))) (.or (.bin .lt (.var 1) (.lit (.int 1))) (.bin .gt (.bin .mul (.var 0) (.var 1)) (.glo "MOST_CELLS")))) (.rse "NoSheet") .nop) (.seq (.set 2 (.comp 3 [(2,0)] [1] false .rng (.tup (.cons (.var 1) .nil)) (.lit (.bl true)) (.call "laid_row" (.cons (.var 2) (.cons (.var 1) .nil))))) (.ret false (.mk "Pile" (.cons (.var 0) (.cons (.var 1) (.cons (.var 2) (.cons (.tup .nil) (.cons (.tup .nil) .nil)))))))))
section
variable {G:GS}
theorem EH(hm:G.cst "MOST_CELLS" = some (.int 64)){c r:Int}{ρ:List Sl}(hmul:af .mul (.int c) (.int r)=some (.int (c*r)))(h0:slot ρ 0=some (.int c))(h1:slot ρ 1=some (.int r)) :
  ev G (.or (.bin .lt (.var 0) (.lit (.int 1))) (.or (.bin .lt (.var 1) (.lit (.int 1))) (.bin .gt (.bin .mul (.var 0) (.var 1)) (.glo "MOST_CELLS")))) ρ=some (.bl (decide (c<1) || (decide (r<1) || decide (64<c*r)))):=by
 refine eV (by simp only[zz,yy,aA,aC,h0]) fun _=>eV (by simp only[zz,yy,aA,aC,h1]) fun _=>?_
 simp only[zz,yy,aA,aC,h0,h1,hmul,hm]
theorem QS(hm:G.cst "MOST_CELLS" = some (.int 64))(hrow:∀c y:Nat,c≤64→y≤64→G.fn "laid_row" [.int c,.int y]=some (.ok (.lst (mK c y))))
  (oq:∀(c r:Int) (T row:List D),T[0]?=some (.lst row)→G.mo "Pile" [.int c,.int r,.lst T,.tup [],.tup []]=some (.ok (bE c r row.length T.length T [] []))) {c r:Nat} (hc:1≤c) (hr:1≤r) (ao:c*r≤64) :
  aS G 3 sQ [.int c,.int r]=some (.ok (bE c r c r (fK c r) [] [])):=by
 have gp:c≤64:=rj (Nat.le_mul_of_pos_right c hr) ao
 have hr2:r≤64:=rj (Nat.le_mul_of_pos_left r hc) ao
 have e:=wI (G:=G) (ρ:=[.im (.int c),.im (.int r),.un]) (n:=3) (fr:=[(2,0)]) (tg:=[1]) (tp:=false) (k:=.rng) (src:=.tup (.cons (.var 1) .nil)) (test:=.lit (.bl true)) (elt:=.call "laid_row" (.cons (.var 2) (.cons (.var 1) .nil)))
  (fun d=>match d with | .int y=>.lst (mK c y.toNat)|_=>.non) (s:=.tup [.int r]) (by simp only[zz,yy,aA,aC]) (yI (by omega)) (fun d hd=>by
   obtain⟨y,rfl,h1,h2⟩:=nW hd;obtain⟨k,rfl⟩:∃k:Nat,y=k:=⟨y.toNat,by omega⟩
   refine⟨[.un,.im (.int k),.im (.int c)],rfl,by simp only[zz,yy,aA,aC],?_⟩
   simp only[zz,yy,aA,aC,hrow c k gp (by omega)]
   rfl)
 have e2:(cC 0 (r:Int)).map (fun d=>match d with | .int y=>D.lst (mK c y.toNat)|_=>.non)=fK c r:=by
  rw[jV];simp[fK]
 rw[e2]at e;have hmul:af .mul (.int (c:Int)) (.int (r:Int))=some (.int (c*r)):=IF (by omega) (by omega)
 have ht:(fK c r)[0]?=some (.lst (mK c 0)):=by unfold fK;rw[qi,uh hr];rfl
 have e3:=oq c r (fK c r) (mK c 0) ht
 have l1:(mK c 0).length=c:=by simp[mK]
 have l2:(fK c r).length=r:=by simp[fK]
 rw[l1,l2]at e3;refine aO (ρ:=[.im (.int c),.im (.int r),.un]) rfl (aI (eF ?_ bG) (aI (aN e) (aV ?_)))
 ·rw[eI,eI,zD,bL,EH hm hmul (by simp only[zz,yy,aA,aC]) (by simp only[zz,yy,aA,aC])]
  have h3:((c:Int)*r)≤64:=by exact_mod_cast ao
  rw[qm (show ¬(c:Int)<1 by omega),qm (show ¬(r:Int)<1 by omega),qm (show ¬64<(c:Int)*r by omega)]
  rfl
 ·show ev G _ [.im (.int c),.im (.int r),.im (.lst (fK c r))]=_
  simp only[zz,yy,aA,aC,e3]
end
noncomputable def bt:List Str:=["columns","rows","wide","high","table","folds","severed"]
section
variable {G:GS}{c r w h:Int}{T F S:List D}{ρ:List Sl}{a:IE}
theorem gN(hf:G.fl "Pile" = bt)(e:ev G a ρ=some (bE c r w h T F S)):ev G (.fld a "columns") ρ=some (.int c):=by rw[iW,e];show (if (G.fl "Pile").contains _ then _ else _)=_;rw[hf];rfl
theorem nR(hf:G.fl "Pile" = bt)(e:ev G a ρ=some (bE c r w h T F S)):ev G (.fld a "rows") ρ=some (.int r):=by rw[iW,e];show (if (G.fl "Pile").contains _ then _ else _)=_;rw[hf];rfl
theorem gX(hf:G.fl "Pile" = bt)(e:ev G a ρ=some (bE c r w h T F S)):ev G (.fld a "wide") ρ=some (.int w):=by rw[iW,e];show (if (G.fl "Pile").contains _ then _ else _)=_;rw[hf];rfl
theorem iO(hf:G.fl "Pile" = bt)(e:ev G a ρ=some (bE c r w h T F S)):ev G (.fld a "high") ρ=some (.int h):=by rw[iW,e];show (if (G.fl "Pile").contains _ then _ else _)=_;rw[hf];rfl
theorem sG(hf:G.fl "Pile" = bt)(e:ev G a ρ=some (bE c r w h T F S)):ev G (.fld a "table") ρ=some (.lst T):=by rw[iW,e];show (if (G.fl "Pile").contains _ then _ else _)=_;rw[hf];rfl
theorem sH(hf:G.fl "Pile" = bt)(e:ev G a ρ=some (bE c r w h T F S)):ev G (.fld a "folds") ρ=some (.tup F):=by rw[iW,e];show (if (G.fl "Pile").contains _ then _ else _)=_;rw[hf];rfl
theorem jH(hf:G.fl "Pile" = bt)(e:ev G a ρ=some (bE c r w h T F S)):ev G (.fld a "severed") ρ=some (.tup S):=by rw[iW,e];show (if (G.fl "Pile").contains _ then _ else _)=_;rw[hf];rfl
theorem xT{m:Str}{es:IE}{ds:List D}{o:Option Rs}(hm:([("columns",D.int c),("rows",.int r),("wide",.int w),("high",.int h),("table",.lst T),("folds",.tup F),("severed",.tup S)]:List (Str×D)).lookup m=none)(e:ev G a ρ=some (bE c r w h T F S))(ea:ev G es ρ=some (.tup ds))(eo:G.me "Pile" m (bE c r w h T F S::ds)=o):ev G (.meth a m es) ρ=iJ o:=by
 rw[BX,e];show (if (List.lookup m _).isNone=true then _ else _)=_
 rw[hm,ea];show iJ (G.me "Pile" m (bE c r w h T F S::ds))=_
 rw[eo]
noncomputable def sR:IS:=(.seq (.iff (.or (.bin .lt (.var 1) (.lit (.int 0))) (.or (.bin .ge (.var 1) (.fld (.var 0) "wide")) (.or (.bin .lt (.var 2) (.lit (.int 0))) (.bin .ge (.var 2) (.fld (.var 0) "high"))))) (.rse "NoPlace") .nop) (.ret true (.bcall .list (.cons (.ix (.ix (.fld (.var 0) "table") (.var 2)) (.var 1)) .nil))))
theorem ER(hf:G.fl "Pile" = bt){x y:Int}:ev G (.or (.bin .lt (.var 1) (.lit (.int 0))) (.or (.bin .ge (.var 1) (.fld (.var 0) "wide")) (.or (.bin .lt (.var 2) (.lit (.int 0))) (.bin .ge (.var 2) (.fld (.var 0) "high"))))) [.im (bE c r w h T F S),.im (.int x),.im (.int y)] =
  some (.bl (decide (x<0) || (decide (w≤x) || (decide (y<0) || decide (h≤y))))):=by
 have e0:ev G (.var 0) [.im (bE c r w h T F S),.im (.int x),.im (.int y)]=some (bE c r w h T F S):=by simp only[zz,yy,aA,aC]
 refine eV (by simp only[zz,yy,aA,aC]) fun _=>eV ?_ fun _=>eV (by simp only[zz,yy,aA,aC]) fun _=>?_
 ·rw[bW,gX hf e0];simp only[zz,yy,aA,aC]
 ·rw[bW,iO hf e0];simp only[zz,yy,aA,aC]
theorem QZ(hf:G.fl "Pile" = bt){x y:Nat}{row hp:List D}(hw:(x:Int)<w)(hh:(y:Int)<h)(h1:T[y]?=some (.lst row))(h2:row[x]?=some (.lst hp)):aS G 3 sR [bE c r w h T F S,.int x,.int y]=some (.ok (.lst hp)):=by
 have e0:ev G (.var 0) [.im (bE c r w h T F S),.im (.int x),.im (.int y)]=some (bE c r w h T F S):=by simp only[zz,yy,aA,aC]
 refine aO (ρ:=[.im (bE c r w h T F S),.im (.int x),.im (.int y)]) rfl (aI (eF ?_ bG) (aV ?_))
 ·rw[eI,eI,eI,bL,ER hf];rw[qm (show ¬(x:Int)<0 by omega),qm (show ¬w≤(x:Int) by omega),qm (show ¬(y:Int)<0 by omega),qm (show ¬h≤(y:Int) by omega)]
  rfl
 ·simp only[zz,yy,aA,aC,sG hf e0,fT h1,fT h2]
noncomputable def sS:IS:=(.ret true (.bcall .list (.cons (.fld (.var 0) "folds") .nil)))
theorem SE(hf:G.fl "Pile" = bt):aS G 1 sS [bE c r w h T F S]=some (.ok (.lst F)):=by
 have e0:ev G (.var 0) [.im (bE c r w h T F S)]=some (bE c r w h T F S):=by simp only[zz,yy,aA,aC]
 refine aO (ρ:=[.im (bE c r w h T F S)]) rfl (aV ?_);simp only[zz,yy,aA,aC,sH hf e0]
noncomputable def jN:IS:=(.seq (.iff (.bin .lt (.var 1) (.bcall .len (.cons (.var 0) .nil))) (.ret false (.ix (.var 0) (.var 1))) .nop) (.ret false (.lit (.int 0))))
noncomputable def iq(ns:List Int)(k:Nat):Int:=ns.getD k 0
theorem yY{ns:List Int}{k:Nat}:aS G 2 jN [.frz (ns.map .int),.int k]=some (.ok (.int (iq ns k))):=by
 have e:ev G (.bin .lt (.var 1) (.bcall .len (.cons (.var 0) .nil))) [.im (.frz (ns.map .int)),.im (.int k)]=some (.bl (decide ((k:Int)<ns.length))):=by
  simp only[zz,yy,aA,aC,qj]
 by_cases hk:k<ns.length
 ·refine aO (ρ:=[.im (.frz (ns.map .int)),.im (.int k)]) rfl (gS (kB ?_ (aV (d:=.int (iq ns k)) ?_)) (fun _ z=>by cases z))
  ·rw[eI,eI,bL,e,sr (by omega)]
  ·have:(ns.map D.int)[k]?=some (.int (iq ns k)):=by
    unfold iq;rw[qi,qd,qh hk];rfl
   simp only[zz,yy,aA,aC,fT this]
 ·refine aO (ρ:=[.im (.frz (ns.map .int)),.im (.int k)]) rfl (aI (eF ?_ bG) (aV ?_))
  ·rw[eI,eI,bL,e,qm (by omega)]
  ·have:iq ns k=0:=by
    unfold iq;rw[qd,getElem?_eq_none (by omega)];rfl
   simp only[zz,yy,aA,aC,this]
noncomputable def mT:IS:=(.ret false (.and (.isi (.var 0) "int") (.not (.tr (.isi (.var 0) "bool")))))
theorem vV{i:Int}:nX G "int" (.int i)=some true:=by simp only[nX];rw[if_pos trivial]
theorem sN{i:Int}:nX G "bool" (.int i)=some false:=by simp only[nX];rw[if_neg (by decide +kernel),if_pos (.inl trivial)]
theorem FX{i:Int}:aS G 1 mT [.int i]=some (.ok (.bl true)):=by
 refine aO (ρ:=[.im (.int i)]) rfl (aV ?_);simp only[zz,yy,aA,aC,vV,sN,ck];rfl
end
end Pg
theorem wR{α:Type}{f:D→Option (Option D)}{enc:α→D}{g:α→D}:∀{L:List α},(∀a∈L,f (enc a)=some (some (g a)))→bO f (L.map enc)=some (L.map g)
 |[],_=>rfl
 |a::r,e=>by
  rw[sq];unfold bO;rw[e a (uf),wR fun x hx=>e x (qq _ hx)]
  rfl
theorem cJ{α:Type}{G:GS}{ρ:List Sl}{n:Nat}{fr:List (Nat×Nat)}{tg:List Nat}{tp:Bool}{k:Src}{src test elt:IE}{s:D}{L:List α}(enc g:α→D)(h1:ev G src ρ=some s)(h2:items k s=some (L.map enc))
  (h3:∀a∈L,∃ρ1,bD tg tp (enc a) (frame n fr ρ)=some ρ1∧ev G test ρ1=some (.bl true)∧ev G elt ρ1=some (g a)):ev G (.comp n fr tg tp k src test elt) ρ=some (.lst (L.map g)):=by
 rw[uE,h1,ud,h2,ud,wR (g:=g)]
 ·rfl
 ·intro a ha;obtain⟨ρ1,e1,e2,e3⟩:=h3 a ha;rw[e1,ud,e2,ud];show Option.map some (ev G elt ρ1)=_
  rw[e3];rfl
theorem eK{n:Nat}(h:n≤1000000):items .rng (.tup [.int (n:Int)])=some ((List.range n).map fun (k:Nat)=>D.int k):=by rw[yI h,jV]
theorem eD{xs:List D}:items .seq (.lst xs)=some xs:=id rfl
theorem yJ{xs:List D}:items .rev (.lst xs)=some xs.reverse:=id rfl
namespace Pg
abbrev Cell:=Int×Bool×Bool
abbrev dD:=List Cell
abbrev aW:=List dD
abbrev Table:=List aW
noncomputable def ip(c:Cell):D:=.tup [.int c.1,.bl c.2.1,.bl c.2.2]
noncomputable def hE(h:dD):D:=.lst (h.map ip)
noncomputable def sE(s:aW):D:=.lst (s.map hE)
noncomputable def tE(T:Table):D:=.lst (T.map sE)
inductive Side|west|east|north|south deriving DecidableEq
noncomputable def Side.str:Side→Str
 |.west=>"west" | .east=>"east" | .north=>"north" | .south=>"south"
noncomputable def Side.up:Side→Bool
 |.west=>true | .east=>true | .north=>false | .south=>false
noncomputable def Side.near:Side→Bool
 |.west=>true | .east=>false | .north=>true | .south=>false
noncomputable def fV(up:Bool)(c:Cell):Cell:=if up then(c.1,!c.2.1,c.2.2) else(c.1,c.2.1,!c.2.2)
noncomputable def eA(up:Bool)(h:dD):dD:=h.reverse.map (fV up)
noncomputable def dI(up:Bool)(p:aW):aW:=p.map (eA up)
noncomputable def tog(u l:aW):aW:=(List.range (max u.length l.length)).map fun k=>u.getD k []++l.getD k []
noncomputable def bQ(mv st:aW)(over:Bool):aW:=tog (if over then mv else st) (if over then st else mv)
noncomputable def cP(sd:Side)(over:Bool)(c:Nat)(s:aW):aW:=
 if sd.near then bQ (dI sd.up (s.take c).reverse) (s.drop c) over else(bQ (dI sd.up (s.drop c)) (s.take c).reverse over).reverse
noncomputable def width(T:Table):Nat:=(T.getD 0 []).length
noncomputable def transp(T:Table):Table:=(List.range (width T)).map fun x=>T.map fun s=>s.getD x []
noncomputable def foldT(sd:Side)(over:Bool)(c:Nat)(T:Table):Table:=if sd.up then T.map (cP sd over c) else transp ((transp T).map (cP sd over c))
section
variable {G:GS}
noncomputable def cUP:D:=.tup [.str "west",.str "east"]
noncomputable def cLV:D:=.tup [.str "north",.str "south"]
noncomputable def cNR:D:=.tup [.str "west",.str "north"]
theorem xV{a:D}{ys:List D}{b:Bool}(hp:(plain a&&ys.all plain)=true)(hb:(ys.any fun y=>ax y a)=b):af .isin a (.tup ys)=some (.bl b):=by
 simp only[af,oIn];rw[if_pos hp,hb]
theorem JL{sd:Side}:af .isin (.str sd.str) cUP=some (.bl sd.up):=by cases sd<;>exact xV (by decide +kernel) (by decide +kernel)
theorem aEF{sd:Side}:af .isin (.str sd.str) cLV=some (.bl (!sd.up)):=by cases sd<;>exact xV (by decide +kernel) (by decide +kernel)
theorem aEE{sd:Side}:af .isin (.str sd.str) cNR=some (.bl sd.near):=by cases sd<;>exact xV (by decide +kernel) (by decide +kernel)
noncomputable def jM:IS:=(.ret false (.ite (.bin .lt (.var 1) (.bcall .len (.cons (.var 0) .nil))) (.ix (.var 0) (.var 1)) (.lst .nil)))
theorem yN{p:aW}{k:Nat}:aS G 2 jM [sE p,.int k]=some (.ok (hE (p.getD k []))):=by
 refine aO (ρ:=[.im (sE p),.im (.int k)]) rfl (aV ?_);have e:ev G (.bin .lt (.var 1) (.bcall .len (.cons (.var 0) .nil))) [.im (sE p),.im (.int k)]=some (.bl (decide ((k:Int)<p.length))):=by
  unfold sE;simp only[zz,yy,aA,aC,qj]
 by_cases hk:k<p.length
 ·have h1:(p.map hE)[k]?=some (hE (p.getD k [])):=by rw[qi,qd,qh hk];rfl
  rw[iV,e,sr (by omega)]
  unfold sE;simp only[zz,yy,aA,aC,fT h1]
 ·have h1:p.getD k []=[]:=by rw[qd,getElem?_eq_none (by omega)];rfl
  rw[iV,e,qm (by omega),h1]
  simp only[zz,yy,aA,aC];rfl
noncomputable def eM:IS:=(.seq (.iff (.bin .isin (.var 1) (.glo "UPRIGHT_SIDES")) (.ret true (.comp 4 [] [1,2,3] true .rev (.var 0) (.lit (.bl true)) (.tup (.cons (.var 1) (.cons (.not (.tr (.var 2))) (.cons (.var 3) .nil)))))) .nop) (.ret true (.comp 4 [] [1,2,3] true .rev (.var 0) (.lit (.bl true)) (.tup (.cons (.var 1) (.cons (.var 2) (.cons (.not (.tr (.var 3))) .nil)))))))
theorem nG(hc:G.cst "UPRIGHT_SIDES" = some cUP){h:dD}{sd:Side}:aS G 2 eM [hE h,.str sd.str]=some (.ok (hE (eA sd.up h))):=by
 have et:ev G (.bin .isin (.var 1) (.glo "UPRIGHT_SIDES")) (view [.im (hE h),.im (.str sd.str)])=some (.bl sd.up):=by simp only[zz,yy,aA,aC,hc,JL]
 have er:items .rev (hE h)=some (h.reverse.map ip):=by unfold hE;rw[yJ,List.map_reverse]
 cases hs:sd.up with
 |true =>
  refine aO (ρ:=[.im (hE h),.im (.str sd.str)]) rfl (gS (kB (et.trans (by rw[hs])) (aV (d:=hE (eA true h)) ?_)) (fun _ z=>by cases z))
  have e:=cJ (G:=G) (ρ:=[.im (hE h),.im (.str sd.str)]) (n:=4) (fr:=[]) (tg:=[1,2,3]) (tp:=true) (k:=.rev) (src:=.var 0) (test:=.lit (.bl true)) (elt:=.tup (.cons (.var 1) (.cons (.not (.tr (.var 2))) (.cons (.var 3) .nil)))) (L:=h.reverse) ip (fun c=>ip (fV true c)) (by simp only[zz,yy,aA,aC]) er (fun c _=>⟨[.un,.im (.int c.1),.im (.bl c.2.1),.im (.bl c.2.2)],rfl,by simp only[zz,yy,aA,aC],by simp only[zz,yy,aA,aC,ck];rfl⟩)
  rw[e];unfold hE eA;rw[um];rfl
 |false =>
  refine aO (ρ:=[.im (hE h),.im (.str sd.str)]) rfl (aI (eF (et.trans (by rw[hs])) bG) (aV ?_))
  have e:=cJ (G:=G) (ρ:=[.im (hE h),.im (.str sd.str)]) (n:=4) (fr:=[]) (tg:=[1,2,3]) (tp:=true) (k:=.rev) (src:=.var 0) (test:=.lit (.bl true)) (elt:=.tup (.cons (.var 1) (.cons (.var 2) (.cons (.not (.tr (.var 3))) .nil)))) (L:=h.reverse) ip (fun c=>ip (fV false c)) (by simp only[zz,yy,aA,aC]) er (fun c _=>⟨[.un,.im (.int c.1),.im (.bl c.2.1),.im (.bl c.2.2)],rfl,by simp only[zz,yy,aA,aC],by simp only[zz,yy,aA,aC,ck];rfl⟩)
  rw[e];unfold hE eA;rw[um];rfl
noncomputable def eL:IS:=(.ret true (.comp 3 [(2,1)] [1] false .seq (.var 0) (.lit (.bl true)) (.call "turned_heap" (.cons (.var 1) (.cons (.var 2) .nil)))))
theorem nE(ht:∀(h:dD) (sd:Side),G.fn "turned_heap" [hE h,.str sd.str]=some (.ok (hE (eA sd.up h)))){p:aW}{sd:Side}:aS G 2 eL [sE p,.str sd.str]=some (.ok (sE (dI sd.up p))):=by
 refine aO (ρ:=[.im (sE p),.im (.str sd.str)]) rfl (aV ?_);refine(cJ (L:=p) hE (fun h=>hE (eA sd.up h)) (s:=sE p) (by simp only[zz,yy,aA,aC]) (by unfold sE;exact eD) (fun h _=>⟨[.un,.im (hE h),.im (.str sd.str)],rfl,by simp only[zz,yy,aA,aC],by simp only[zz,yy,aA,aC,ht]⟩)).trans ?_
 unfold sE dI;rw[um];rfl
theorem aHK{a b:Nat}:bf .max [.int (a:Int),.int (b:Int)]=some (.int ((max a b:Nat):Int)):=by
 simp only[bf,JY]
 by_cases h:(b:Int) > a
 ·rw[if_pos h];rw[Nat.max_eq_right (by omega)]
 ·rw[if_neg h];rw[Nat.max_eq_left (by omega)]
theorem aIl{a b:dD}(h:a.length+b.length≤1000000):af .add (hE a) (hE b)=some (hE (a++b)):=by
 unfold hE;simp only[af,QF];rw[if_pos (by simp only[qj];exact h),uj]
noncomputable def cY:IS:=(.seq (.set 3 (.ite (.tr (.var 2)) (.var 0) (.var 1))) (.seq (.set 4 (.ite (.tr (.var 2)) (.var 1) (.var 0))) (.seq (.set 5 (.bcall .max (.cons (.bcall .len (.cons (.var 3) .nil)) (.cons (.bcall .len (.cons (.var 4) .nil)) .nil)))) (.ret true (.comp 4 [(2,4),(3,3)] [1] false .rng (.tup (.cons (.var 5) .nil)) (.lit (.bl true)) (.bin .add (.call "heap_at" (.cons (.var 3) (.cons (.var 1) .nil))) (.call "heap_at" (.cons (.var 2) (.cons (.var 1) .nil)))))))))
def Few(b:Nat)(p:aW):Prop:=∀h∈p,h.length≤b
theorem Few.at_{b:Nat}{p:aW}(h:Few b p)(k:Nat):(p.getD k []).length≤b:=by
 rw[qd];cases e:p[k]? with
 |none=>exact uu _
 |some x=>exact h x (qf e)
theorem lK(hh:∀(p:aW) (k:Nat),G.fn "heap_at" [sE p,.int k]=some (.ok (hE (p.getD k [])))){mv st:aW}{over:Bool}(l1:mv.length≤1000)(l2:st.length≤1000)(f1:Few 400000 mv)(f2:Few 400000 st):aS G 6 cY [sE mv,sE st,.bl over]=some (.ok (sE (bQ mv st over))):=by
 have key:∀u l:aW,u.length≤1000→l.length≤1000→Few 400000 u→Few 400000 l→∀s0 s1 s2,ex G (.seq (.set 5 (.bcall .max (.cons (.bcall .len (.cons (.var 3) .nil)) (.cons (.bcall .len (.cons (.var 4) .nil)) .nil)))) (.ret true (.comp 4 [(2,4),(3,3)] [1] false .rng (.tup (.cons (.var 5) .nil)) (.lit (.bl true)) (.bin .add (.call "heap_at" (.cons (.var 3) (.cons (.var 1) .nil))) (.call "heap_at" (.cons (.var 2) (.cons (.var 1) .nil)))))))
   [s0,s1,s2,.im (sE u),.im (sE l),.un]=some (.rt (sE (tog u l))):=fun u l a1 a2 b1 b2 s0 s1 s2=>by
  refine aI (aN (d:=.int ((max u.length l.length:Nat):Int)) (by unfold sE;simp only[zz,yy,aA,aC,qj,aHK])) (aV ?_)
  show ev G _ [s0,s1,s2,.im (sE u),.im (sE l),.im (.int ((max u.length l.length:Nat):Int))]=_
  refine(cJ (L:=List.range (max u.length l.length)) (fun k=>.int (k:Nat)) (fun k=>hE (u.getD k []++l.getD k [])) (s:=.tup [.int ((max u.length l.length:Nat):Int)]) (by simp only[zz,yy,aA,aC]) (eK (by omega)) (fun k _=>⟨[.un,.im (.int k),.im (sE l),.im (sE u)],rfl,by simp only[zz,yy,aA,aC],?_⟩)).trans ?_
  ·have:=b1.at_ k
   have:=b2.at_ k
   simp only[zz,yy,aA,aC,hh,aIl (show (u.getD k []).length+(l.getD k []).length≤1000000 by omega)]
  ·unfold tog sE;rw[um];rfl
 cases over with
 |true=>exact aO (ρ:=[.im (sE mv),.im (sE st),.im (.bl true),.un,.un,.un]) rfl (aI (aN (d:=sE mv) (by simp only[zz,yy,aA,aC,ck])) (aI (aN (d:=sE st) (by simp only[List.set];simp only[zz,yy,aA,aC,ck])) (key mv st l1 l2 f1 f2 _ _ _)))
 |false=>exact aO (ρ:=[.im (sE mv),.im (sE st),.im (.bl false),.un,.un,.un]) rfl (aI (aN (d:=sE st) (by simp only[zz,yy,aA,aC,ck])) (aI (aN (d:=sE mv) (by simp only[List.set];simp only[zz,yy,aA,aC,ck])) (key st mv l2 l1 f2 f1 _ _ _)))
end
theorem KQ{α:Type}{xs:List α}{c:Nat}:cut xs none (some (c:Int))=xs.take c:=by
 simp only[cut,sIx];rw[if_neg (by omega)]
 simp only[List.drop_zero,Nat.sub_zero,toNat_natCast]
 by_cases h:c≤xs.length
 ·rw[min_eq_left h]
 ·rw[min_eq_right (by omega),List.take_of_length_le (by omega),List.take_of_length_le (by omega)]
theorem KR{α:Type}{xs:List α}{c:Nat}:cut xs (some (c:Int)) none=xs.drop c:=by
 simp only[cut,sIx];rw[if_neg (by omega)]
 simp only[toNat_natCast]
 by_cases h:c≤xs.length
 ·rw[min_eq_left h,List.take_of_length_le (by rw[uw];exact qk _)]
 ·rw[min_eq_right (by omega),List.drop_of_length_le (by omega),List.drop_of_length_le (by omega),List.take_nil]
theorem Few.sub{b:Nat}{p q:aW}(h:Few b p)(s:∀x∈q,x∈p):Few b q:=fun x hx=>h x (s x hx)
theorem Few.turn{b:Nat}{p:aW}{u:Bool}(h:Few b p):Few b (dI u p):=by
 intro x hx;unfold dI at hx;obtain⟨y,hy,rfl⟩:=sv.mp hx;unfold eA;rw[qj,uv];exact h y hy
theorem rP{u l:aW}:(tog u l).length=max u.length l.length:=by unfold tog;simp
theorem gT{u l:aW}{over:Bool}:(bQ u l over).length=max u.length l.length:=by
 unfold bQ;cases over with
 |true=>exact rP
 |false=>rw[Nat.max_comm];exact rP
theorem gL{u:Bool}{p:aW}:(dI u p).length=p.length:=by unfold dI;simp
theorem EY{sd:Side}{over:Bool}{c:Nat}{s:aW}(h:c≤s.length):(cP sd over c s).length=max c (s.length-c):=by
 unfold cP;split
 ·rw[gT,gL,uv,tw,uw,min_eq_left h]
 ·rw[uv,gT,gL,uv,tw,uw,min_eq_left h,Nat.max_comm]
section
variable {G:GS}
noncomputable def dY:IS:=(.seq (.set 4 (.walk .rev (.sl (.var 0) false (.lit .non) true (.var 3)))) (.seq (.set 5 (.sl (.var 0) true (.var 3) false (.lit .non))) (.seq (.iff (.bin .isin (.var 1) (.glo "NEAR_SIDES")) (.ret false (.call "laid_together" (.cons (.call "turned_part" (.cons (.var 4) (.cons (.var 1) .nil))) (.cons (.var 5) (.cons (.var 2) .nil))))) .nop) (.seq (.set 6 (.call "laid_together" (.cons (.call "turned_part" (.cons (.var 5) (.cons (.var 1) .nil))) (.cons (.var 4) (.cons (.var 2) .nil))))) (.ret true (.walk .rev (.var 6)))))))
theorem mP(hc:G.cst "NEAR_SIDES" = some cNR)(ht:∀(p:aW) (sd:Side),G.fn "turned_part" [sE p,.str sd.str]=some (.ok (sE (dI sd.up p))))
  (hl:∀(mv st:aW) (over:Bool),mv.length≤1000→st.length≤1000→Few 400000 mv→Few 400000 st→G.fn "laid_together" [sE mv,sE st,.bl over]=some (.ok (sE (bQ mv st over)))) {s:aW} {sd:Side} {over:Bool} {c:Nat} (ls:s.length≤1000) (hf:Few 400000 s) :
  aS G 7 dY [sE s,.str sd.str,.bl over,.int c]=some (.ok (sE (cP sd over c s))):=by
 have a1:Few 400000 (s.take c).reverse:=hf.sub fun x hx=>List.mem_of_mem_take (mem_reverse.mp hx)
 have a2:Few 400000 (s.drop c):=hf.sub fun x hx=>List.mem_of_mem_drop hx
 have l1:(s.take c).reverse.length≤1000:=by rw[uv,tw];omega
 have l2:(s.drop c).length≤1000:=by rw[uw];omega
 have e1:ev G (.walk .rev (.sl (.var 0) false (.lit .non) true (.var 3))) [.im (sE s),.im (.str sd.str),.im (.bl over),.im (.int c),.un,.un,.un]=some (sE (s.take c).reverse):=by
  unfold sE;simp only[zz,yy,aA,aC,part,intOf];simp only[qp,if_false,if_true];simp only[zz,yy,aA,aC,KQ,yJ];rw[←List.map_take,←List.map_reverse]
 have e2:ev G (.sl (.var 0) true (.var 3) false (.lit .non)) [.im (sE s),.im (.str sd.str),.im (.bl over),.im (.int c),.im (sE (s.take c).reverse),.un,.un]=some (sE (s.drop c)):=by
  unfold sE;simp only[zz,yy,aA,aC,part,intOf];simp only[qp,if_false,if_true];simp only[zz,yy,aA,aC,KR];rw[←List.map_drop]
 have et:ev G (.bin .isin (.var 1) (.glo "NEAR_SIDES")) (view [.im (sE s),.im (.str sd.str),.im (.bl over),.im (.int c),.im (sE (s.take c).reverse),.im (sE (s.drop c)),.un])=some (.bl sd.near):=by simp only[zz,yy,aA,aC,hc,aEE]
 refine aO (ρ:=[.im (sE s),.im (.str sd.str),.im (.bl over),.im (.int c),.un,.un,.un]) rfl (aI (aN e1) (aI (aN e2) ?_));show ex G _ [.im (sE s),.im (.str sd.str),.im (.bl over),.im (.int c),.im (sE (s.take c).reverse),.im (sE (s.drop c)),.un]=_
 cases hn:sd.near with
 |true =>
  refine gS (kB (et.trans (by rw[hn])) (aV ?_)) (fun _ z=>by cases z)
  unfold cP;rw[if_pos hn];simp only[zz,yy,aA,aC,ht,hl (dI sd.up (s.take c).reverse) (s.drop c) over (by rw[gL];exact l1) l2 a1.turn a2]
 |false =>
  refine aI (eF (et.trans (by rw[hn])) bG) (aI (aN (d:=sE (bQ (dI sd.up (s.drop c)) (s.take c).reverse over)) ?_) (aV ?_))
  ·simp only[zz,yy,aA,aC,ht,hl (dI sd.up (s.drop c)) (s.take c).reverse over (by rw[gL];exact l2) l1 a2.turn a1]
  ·show ev G _ [.im (sE s),.im (.str sd.str),.im (.bl over),.im (.int c),.im (sE (s.take c).reverse),.im (sE (s.drop c)),.im (sE (bQ (dI sd.up (s.drop c)) (s.take c).reverse over))]=_
   unfold cP;rw[if_neg (by rw[hn];decide)]
   unfold sE;simp only[zz,yy,aA,aC,yJ];rw[←List.map_reverse]
noncomputable def fZ:IS:=(.ret true (.comp 3 [(2,1)] [1] false .seq (.var 0) (.lit (.bl true)) (.ix (.var 1) (.var 2))))
theorem uN{T:Table}{x:Nat}(h:∀s∈T,x<s.length):aS G 2 fZ [tE T,.int x]=some (.ok (sE (T.map fun s=>s.getD x []))):=by
 refine aO (ρ:=[.im (tE T),.im (.int x)]) rfl (aV ?_);refine(cJ (L:=T) sE (fun s=>hE (s.getD x [])) (s:=tE T) (by simp only[zz,yy,aA,aC]) (by unfold tE;exact eD) (fun s hs=>⟨[.un,.im (sE s),.im (.int x)],rfl,by simp only[zz,yy,aA,aC],?_⟩)).trans ?_
 ·have h1:(s.map hE)[x]?=some (hE (s.getD x [])):=by rw[qi,qd,qh (h s hs)];rfl
  unfold sE;simp only[zz,yy,aA,aC,fT h1]
 ·unfold sE;rw[um];rfl
structure Rect (T:Table) (w h:Nat):Prop where
 len:T.length=h
 row:∀s∈T,s.length=w
 h1:1≤h
 w1:1≤w
theorem Rect.width{T:Table}{w h:Nat}(r:Rect T w h):Pg.width T=w:=by
 obtain⟨len,row,h1,w1⟩:=r;unfold Pg.width;rw[qd,qh (by omega)]
 exact row _ (ux _)
theorem Rect.transp{T:Table}{w h:Nat}(r:Rect T w h):Rect (transp T) h w:=by
 refine⟨?_,fun s hs=>?_,r.w1,r.h1⟩
 ·unfold Pg.transp;rw[qj,qz,r.width]
 ·unfold Pg.transp at hs;obtain⟨x,_,rfl⟩:=sv.mp hs;rw[qj,r.len]
noncomputable def fA:IS:=(.ret true (.comp 3 [(2,0)] [1] false .rng (.tup (.cons (.bcall .len (.cons (.ix (.var 0) (.lit (.int 0))) .nil)) .nil)) (.lit (.bl true)) (.call "column_of" (.cons (.var 2) (.cons (.var 1) .nil)))))
theorem pG(hc:∀(T:Table) (x:Nat),(∀s∈T,x<s.length)→G.fn "column_of" [tE T,.int x]=some (.ok (sE (T.map fun s=>s.getD x [])))){T:Table}{w h:Nat}(r:Rect T w h)(hw:w≤1000):aS G 1 fA [tE T]=some (.ok (tE (transp T))):=by
 refine aO (ρ:=[.im (tE T)]) rfl (aV ?_);have h0:(T.map sE)[0]?=some (sE (T.getD 0 [])):=by
  have:=r.len;have:=r.h1
  rw[qi,qd,qh (by omega)];rfl
 have e0:atI (T.map sE) 0=some (sE (T.getD 0 [])):=fT (k:=0) h0
 refine(cJ (L:=List.range (width T)) (fun k=>.int (k:Nat)) (fun x=>sE (T.map fun s=>s.getD x [])) (s:=.tup [.int (width T:Nat)]) ?_ (eK (by rw[r.width];omega)) (fun x hx=>⟨[.un,.im (.int x),.im (tE T)],rfl,by simp only[zz,yy,aA,aC],?_⟩)).trans ?_
 ·unfold tE;simp only[zz,yy,aA,aC,e0];unfold sE;simp only[zz,yy,aA,aC,qj];rfl
 ·have fz:x<w:=by rw[←r.width];exact ur.mp hx
  simp only[zz,yy,aA,aC,hc T x (fun s hs=>by rw[r.row s hs];exact fz)]
 ·unfold tE transp;rw[um];rfl
def pF(b:Nat)(T:Table):Prop:=∀s∈T,Few b s
theorem pF.transp{b:Nat}{T:Table}(h:pF b T):pF b (transp T):=by
 intro s hs;unfold Pg.transp at hs;obtain⟨x,_,rfl⟩:=sv.mp hs;intro y hy;obtain⟨s,hs,rfl⟩:=sv.mp hy;exact(h s hs).at_ x
theorem Rect.fold{T:Table}{w h:Nat}{sd:Side}{over:Bool}{c:Nat}(r:Rect T w h)(h1:1≤c)(h2:c<w):Rect (T.map (cP sd over c)) (max c (w-c)) h:=by
 refine⟨by rw[qj,r.len],fun s hs=>?_,r.h1,by omega⟩
 obtain⟨s',bw,rfl⟩:=sv.mp hs;rw[EY (by rw[r.row s' bw];omega),r.row s' bw]
theorem Rect.foldT{T:Table}{w h:Nat}{sd:Side}{over:Bool}{c:Nat}(r:Rect T w h)(h1:1≤c)(h2:c<if sd.up then w else h):Rect (foldT sd over c T) (if sd.up then max c (w-c) else w) (if sd.up then h else max c (h-c)):=by
 unfold Pg.foldT;cases hs:sd.up with
 |true=>rw[hs]at h2;exact r.fold h1 h2
 |false=>rw[hs]at h2;exact(r.transp.fold h1 h2).transp
noncomputable def dX:IS:=(.seq (.iff (.bin .isin (.var 1) (.glo "UPRIGHT_SIDES")) (.ret true (.comp 5 [(2,3),(3,2),(4,1)] [1] false .seq (.var 0) (.lit (.bl true)) (.call "folded_strip" (.cons (.var 1) (.cons (.var 4) (.cons (.var 3) (.cons (.var 2) .nil))))))) .nop) (.seq (.set 4 (.comp 5 [(2,3),(3,2),(4,1)] [1] false .seq (.call "transposed" (.cons (.var 0) .nil)) (.lit (.bl true)) (.call "folded_strip" (.cons (.var 1) (.cons (.var 4) (.cons (.var 3) (.cons (.var 2) .nil))))))) (.ret false (.call "transposed" (.cons (.var 4) .nil)))))
theorem mO(hc:G.cst "UPRIGHT_SIDES" = some cUP)(ht:∀(T:Table) (w h:Nat),Rect T w h→w≤1000→G.fn "transposed" [tE T]=some (.ok (tE (transp T))))
  (hs:∀(s:aW) (sd:Side) (over:Bool) (c:Nat),s.length≤1000→Few 400000 s→G.fn "folded_strip" [sE s,.str sd.str,.bl over,.int c]=some (.ok (sE (cP sd over c s)))) {T:Table} {w h:Nat} {sd:Side} {over:Bool} {c:Nat} (r:Rect T w h) (hw:w≤1000) (hh:h≤1000) (hf:pF 400000 T) (h1:1≤c) (h2:c<if sd.up then w else h) :
  aS G 5 dX [tE T,.str sd.str,.bl over,.int c]=some (.ok (tE (foldT sd over c T))):=by
 have et:ev G (.bin .isin (.var 1) (.glo "UPRIGHT_SIDES")) (view [.im (tE T),.im (.str sd.str),.im (.bl over),.im (.int c),.un])=some (.bl sd.up):=by simp only[zz,yy,aA,aC,hc,JL]
 cases hu:sd.up with
 |true =>
  refine aO (ρ:=[.im (tE T),.im (.str sd.str),.im (.bl over),.im (.int c),.un]) rfl (gS (kB (et.trans (by rw[hu])) (aV ?_)) (fun _ z=>by cases z))
  refine(cJ (L:=T) sE (fun s=>sE (cP sd over c s)) (s:=tE T) (by simp only[zz,yy,aA,aC]) (by unfold tE;exact eD) (fun s bw=>⟨[.un,.im (sE s),.im (.int c),.im (.bl over),.im (.str sd.str)],rfl,by simp only[zz,yy,aA,aC],?_⟩)).trans ?_
  ·simp only[zz,yy,aA,aC,hs s sd over c (by rw[r.row s bw];exact hw) (hf s bw)]
  ·unfold tE foldT;rw[if_pos hu,um];rfl
 |false =>
  rw[hu]at h2;have h2:c<h:=h2
  refine aO (ρ:=[.im (tE T),.im (.str sd.str),.im (.bl over),.im (.int c),.un]) rfl (aI (eF (et.trans (by rw[hu])) bG) (aI (aN (d:=tE ((transp T).map (cP sd over c))) ?_) (aV ?_)))
  ·refine(cJ (L:=transp T) sE (fun s=>sE (cP sd over c s)) (s:=tE (transp T)) (by simp only[zz,yy,aA,aC,ht T w h r hw]) (by unfold tE;exact eD) (fun s bw=>⟨[.un,.im (sE s),.im (.int c),.im (.bl over),.im (.str sd.str)],rfl,by simp only[zz,yy,aA,aC],?_⟩)).trans ?_
   ·simp only[zz,yy,aA,aC,hs s sd over c (by rw[r.transp.row s bw];exact hh) (hf.transp s bw)]
   ·unfold tE;rw[um];rfl
  ·show ev G _ [.im (tE T),.im (.str sd.str),.im (.bl over),.im (.int c),.im (tE ((transp T).map (cP sd over c)))]=_
   unfold foldT;rw[if_neg (by rw[hu];decide)]
   simp only[zz,yy,aA,aC,ht ((transp T).map (cP sd over c)) (max c (h-c)) w (r.transp.fold h1 h2) (by omega)]
end
noncomputable def pile(c r w h:Nat)(T:Table)(F S:List D):D:=bE c r w h (T.map sE) F S
noncomputable def gA(c r:Nat):Table:=(List.range r).map fun y=>(List.range c).map fun x=>[(((y*c+x:Nat):Int),false,false)]
theorem uY{c r:Nat}:fK c r=(gA c r).map sE:=by
 unfold fK gA mK;rw[um]
 congr 1
 funext y
 show _=D.lst (((List.range c).map _).map hE)
 rw[um];rfl
theorem FB{c r:Nat}(hc:1≤c)(hr:1≤r):Rect (gA c r) c r:=by
 refine⟨by unfold gA;simp,fun s hs=>?_,hr,hc⟩
 unfold gA at hs;obtain⟨y,_,rfl⟩:=sv.mp hs;simp
section
variable {G:GS}{c r w h:Nat}{T:Table}{F S:List D}
noncomputable def cR:IS:=(.iff (.tr (.fld (.var 0) "severed")) (.rse "Severed") .nop)
theorem kK(hf:G.fl "Pile" = bt):aS G 1 cR [pile c r w h T F []]=some (.ok .non):=by
 have e0:ev G (.var 0) (view [.im (pile c r w h T F [])])=some (bE c r w h (T.map sE) F []):=by simp only[zz,yy,aA,aC];rfl
 refine NL (ρ:=[.im (pile c r w h T F [])]) (ρ':=[.im (pile c r w h T F [])]) rfl (eF ?_ bG);rw[UP,jH hf e0];rfl
noncomputable def fC:IS:=(.seq (.iff (.bin .isin (.var 1) (.glo "UPRIGHT_SIDES")) (.ret false (.chain .le .lt (.lit (.int 1)) (.var 2) (.fld (.var 0) "wide"))) .nop) (.seq (.iff (.bin .isin (.var 1) (.glo "LEVEL_SIDES")) (.ret false (.chain .le .lt (.lit (.int 1)) (.var 2) (.fld (.var 0) "high"))) .nop) (.ret false (.lit (.bl false)))))
theorem wV{ρ:List Sl}{a:IE}{i j:Int}(h1:slot ρ 2=some (.int i))(h2:ev G a ρ=some (.int j)):ev G (.chain .le .lt (.lit (.int 1)) (.var 2) a) ρ=some (.bl (decide (1≤i)&&decide (i<j))):=by
 rw[wJ,lT,h1];simp only[zz,yy,aA,aC];cases hb:decide (1≤i) with
 |true=>rw[h2];simp only[zz,yy,aA,aC];rfl
 |false=>rfl
theorem pL(hf:G.fl "Pile" = bt)(h1:G.cst "UPRIGHT_SIDES" = some cUP)(h2:G.cst "LEVEL_SIDES" = some cLV){sd:Side}{i:Int}:aS G 3 fC [pile c r w h T F S,.str sd.str,.int i]=some (.ok (.bl (decide (1≤i)&&decide (i<((if sd.up then w else h:Nat):Int))))):=by
 have e0:ev G (.var 0) [.im (pile c r w h T F S),.im (.str sd.str),.im (.int i)]=some (bE c r w h (T.map sE) F S):=by simp only[zz,yy,aA,aC];rfl
 have et:ev G (.bin .isin (.var 1) (.glo "UPRIGHT_SIDES")) (view [.im (pile c r w h T F S),.im (.str sd.str),.im (.int i)])=some (.bl sd.up):=by simp only[zz,yy,aA,aC,h1,JL]
 have el:ev G (.bin .isin (.var 1) (.glo "LEVEL_SIDES")) (view [.im (pile c r w h T F S),.im (.str sd.str),.im (.int i)])=some (.bl (!sd.up)):=by simp only[zz,yy,aA,aC,h2,aEF]
 cases hu:sd.up with
 |true=>exact aO (ρ:=[.im (pile c r w h T F S),.im (.str sd.str),.im (.int i)]) rfl (gS (kB (et.trans (by rw[hu])) (aV (wV (by simp only[zz,yy,aA,aC]) (gX hf e0)))) (fun _ z=>by cases z))
 |false=>exact aO (ρ:=[.im (pile c r w h T F S),.im (.str sd.str),.im (.int i)]) rfl (aI (eF (et.trans (by rw[hu])) bG) (gS (kB (el.trans (by rw[hu];rfl)) (aV (wV (by simp only[zz,yy,aA,aC]) (iO hf e0)))) (fun _ z=>by cases z)))
noncomputable def eP(sd:Side)(over:Bool)(k:Nat):D:=.tup [.str sd.str,.bl over,.int k]
noncomputable def kP:IS:=(.seq (.drop (.call "refuse_severed" (.cons (.var 0) .nil))) (.seq (.iff (.not (.tr (.call "has_crease" (.cons (.var 0) (.cons (.var 1) (.cons (.var 3) .nil)))))) (.rse "NoFold") .nop) (.seq (.set 4 (.call "folded_table" (.cons (.fld (.var 0) "table") (.cons (.var 1) (.cons (.var 2) (.cons (.var 3) .nil)))))) (.seq (.set 5 (.bin .add (.fld (.var 0) "folds") (.tup (.cons (.tup (.cons (.var 1) (.cons (.var 2) (.cons (.var 3) .nil)))) .nil)))) (.ret false (.mk "Pile" (.cons (.fld (.var 0) "columns") (.cons (.fld (.var 0) "rows") (.cons (.var 4) (.cons (.var 5) (.cons (.fld (.var 0) "severed") .nil)))))))))))
theorem aFO{a b:List D}(h:a.length+b.length≤1000000):af .add (.tup a) (.tup b)=some (.tup (a++b)):=by
 simp only[af,QF];rw[if_pos (by unfold big;exact h)]
theorem SA{ρ:List Sl}{e:IE}{d:D}(h:ev G e (view ρ)=some d):ex G (.drop e) ρ=some (.nx ρ):=by
 show (match ev G e (view ρ) with|some _=>some (Out.nx ρ)|none=>_)=_
 rw[h]
theorem EV(hf:G.fl "Pile" = bt)(hsv:∀(c r w h:Nat) (T:Table) (F:List D),G.fn "refuse_severed" [pile c r w h T F []]=some (.ok .non))
  (ao:∀(c r w h:Nat) (T:Table) (F S:List D) (sd:Side) (i:Int),G.fn "has_crease" [pile c r w h T F S,.str sd.str,.int i]=some (.ok (.bl (decide (1≤i)&&decide (i<((if sd.up then w else h:Nat):Int))))))
  (hft:∀(T:Table) (w h:Nat) (sd:Side) (over:Bool) (k:Nat),Rect T w h→w≤1000→h≤1000→pF 400000 T→1≤k→(k<if sd.up then w else h)→G.fn "folded_table" [tE T,.str sd.str,.bl over,.int k]=some (.ok (tE (foldT sd over k T))))
  (oq:∀(c r:Int) (T row:List D) (F S:List D),T[0]?=some (.lst row)→G.mo "Pile" [.int c,.int r,.lst T,.tup F,.tup S]=some (.ok (bE c r row.length T.length T F S)))
  {sd:Side} {over:Bool} {k:Nat} (R:Rect T w h) (hw:w≤1000) (hh:h≤1000) (hfew:pF 400000 T) (h1:1≤k) (h2:k<if sd.up then w else h) (hF:F.length≤1000) :
  aS G 6 kP [pile c r w h T F [],.str sd.str,.bl over,.int k]=some (.ok (pile c r (if sd.up then max k (w-k) else w) (if sd.up then h else max k (h-k)) (foldT sd over k T) (F++[eP sd over k]) [])):=by
 have R':=R.foldT (over:=over) h1 h2
 have e0:∀s4 s5,ev G (.var 0) [.im (pile c r w h T F []),.im (.str sd.str),.im (.bl over),.im (.int k),s4,s5]=some (bE c r w h (T.map sE) F []):=fun _ _=>by simp only[zz,yy,aA,aC];rfl
 have ht:=hft T w h sd over k R hw hh hfew h1 h2
 unfold tE at ht;have em:=oq c r ((foldT sd over k T).map sE) (((foldT sd over k T).getD 0 []).map hE) (F++[eP sd over k]) [] (by
  have:=R'.len;have:=R'.h1
  rw[qi,qd,qh (by omega)];rfl)
 rw[qj,qj,R'.len,show ((foldT sd over k T).getD 0 []).length=_ from R'.width]at em
 refine aO (ρ:=[.im (pile c r w h T F []),.im (.str sd.str),.im (.bl over),.im (.int k),.un,.un]) rfl ?_;refine aI (SA (d:=.non) (by simp only[zz,yy,aA,aC,hsv])) (aI (eF ?_ bG) (aI (aN (d:=.lst ((foldT sd over k T).map sE)) ?_) (aI (aN (d:=.tup (F++[eP sd over k])) ?_) (aV ?_))))
 ·have hb:(decide ((1:Int)≤(k:Int))&&decide ((k:Int)<((if sd.up then w else h:Nat):Int)))=true:=by
   rw[qt,qy,qy];exact⟨by omega,by exact_mod_cast h2⟩
  simp only[zz,yy,aA,aC,ao,hb,ck,sj]
 ·rw[kS,aU,sG hf (e0 _ _)];simp only[zz,yy,aA,aC,ht]
 ·show ev G _ [.im (pile c r w h T F []),.im (.str sd.str),.im (.bl over),.im (.int k),.im (.lst ((foldT sd over k T).map sE)),.un]=_
  rw[bW,sH hf (e0 _ _)];simp only[zz,yy,aA,aC,aFO (show F.length + [D.tup [.str sd.str,.bl over,.int k]].length≤1000000 by simp only[ui,List.length_nil];omega)]
  rfl
 ·show ev G _ [.im (pile c r w h T F []),.im (.str sd.str),.im (.bl over),.im (.int k),.im (.lst ((foldT sd over k T).map sE)),.im (.tup (F++[eP sd over k]))]=_
  rw[KD,aU,gN hf (e0 _ _),aU,nR hf (e0 _ _)];simp only[zz,yy,aA,aC,jH hf (e0 _ _),em];rfl
noncomputable def gR:IS:=(.seq (.set 3 (.or (.bin .eq (.var 1) (.lit (.int 1))) (.and (.bin .gt (.var 2) (.lit (.int 1))) (.bin .eq (.bin .mod (.var 0) (.lit (.int 2))) (.lit (.int 1)))))) (.seq (.set 4 (.ite (.tr (.var 3)) (.var 2) (.var 1))) (.seq (.set 5 (.ite (.tr (.var 3)) (.lst (.cons (.lit (.str "north")) (.cons (.lit (.str "south")) .nil))) (.lst (.cons (.lit (.str "west")) (.cons (.lit (.str "east")) .nil))))) (.ret false (.tup (.cons (.ix (.var 5) (.bin .mod (.bin .fdiv (.var 0) (.lit (.int 2))) (.lit (.int 2)))) (.cons (.bin .eq (.bin .mod (.bin .fdiv (.var 0) (.lit (.int 4))) (.lit (.int 2))) (.lit (.int 1))) (.cons (.bin .add (.lit (.int 1)) (.bin .mod (.bin .fdiv (.var 0) (.lit (.int 8))) (.bin .sub (.var 4) (.lit (.int 1))))) .nil))))))))
theorem mod2(i:Int):i % 2=0∨i % 2=1:=by omega
theorem yS{cell:Int}(hw:1≤w)(hh:1≤h)(hwh:1<w*h):∃(sd:Side) (over:Bool) (k:Nat),1≤k∧(k<if sd.up then w else h)∧aS G 6 gR [.int cell,.int w,.int h]=some (.ok (eP sd over k)):=by
 have m2:∀i:Int,af .mod (.int i) (.int 2)=some (.int (i % 2)):=fun i=>kM (by decide)
 have d2:∀i:Int,af .fdiv (.int i) (.int 2)=some (.int (i / 2)):=fun i=>kN (by decide) (by decide)
 have d4:∀i:Int,af .fdiv (.int i) (.int 4)=some (.int (i / 4)):=fun i=>kN (by decide) (by decide)
 have d8:∀i:Int,af .fdiv (.int i) (.int 8)=some (.int (i / 8)):=fun i=>kN (by decide) (by decide)
 have e3:ev G (.or (.bin .eq (.var 1) (.lit (.int 1))) (.and (.bin .gt (.var 2) (.lit (.int 1))) (.bin .eq (.bin .mod (.var 0) (.lit (.int 2))) (.lit (.int 1))))) [.im (.int cell),.im (.int w),.im (.int h),.un,.un,.un]=some (.bl (((w:Int) == 1) || (decide (1<(h:Int))&&(cell % 2 == 1)))):=
  eV (by simp only[zz,yy,aA,aC]) fun _=>SC (by simp only[zz,yy,aA,aC]) fun _=>by simp only[zz,yy,aA,aC,m2]
 have s01:∀{a b:D},atI [a,b] 0=some a:=fun {a b}=>fT (k:=0) rfl
 have s11:∀{a b:D},atI [a,b] 1=some b:=fun {a b}=>fT (k:=1) rfl
 have fin:∀(lv:Bool) (ext:Nat) (a b:Side),(((w:Int) == 1) || (decide (1<(h:Int))&&(cell % 2 == 1)))=lv→ext=(if lv then h else w)→2≤ext→(a=if lv then .north else .west)→(b=if lv then .south else .east) →
   ∃(sd:Side) (over:Bool) (k:Nat),1≤k∧(k<if sd.up then w else h)∧aS G 6 gR [.int cell,.int w,.int h]=some (.ok (eP sd over k)):=by
  intro lv ext a b h1 h2 h3 ha hb;have mx:af .mod (.int (cell / 8)) (.int ((ext:Int)-1))=some (.int (cell / 8 % ((ext:Int)-1))):=kM (by omega)
  have r0:=Int.emod_nonneg (cell / 8) (show ((ext:Int)-1)≠0 by omega)
  have r1:=Int.emod_lt_of_pos (cell / 8) (show (0:Int)<(ext:Int)-1 by omega)
  have hk:(((1+cell / 8 % ((ext:Int)-1)).toNat:Nat):Int)=1+cell / 8 % ((ext:Int)-1):=by omega
  have up_a:(if a.up then w else h)=ext:=by subst ha h2;cases lv<;>rfl
  have up_b:(if b.up then w else h)=ext:=by subst hb h2;cases lv<;>rfl
  have e4:ev G (.ite (.tr (.var 3)) (.var 2) (.var 1)) [.im (.int cell),.im (.int w),.im (.int h),.im (.bl lv),.un,.un]=some (.int ext):=by subst h2;cases lv<;>simp only[zz,yy,aA,aC,ck]<;>rfl
  have e5:ev G (.ite (.tr (.var 3)) (.lst (.cons (.lit (.str "north")) (.cons (.lit (.str "south")) .nil))) (.lst (.cons (.lit (.str "west")) (.cons (.lit (.str "east")) .nil)))) [.im (.int cell),.im (.int w),.im (.int h),.im (.bl lv),.im (.int ext),.un]=some (.lst [.str a.str,.str b.str]):=by subst ha hb;cases lv<;>simp only[zz,yy,aA,aC,ck]<;>rfl
  rcases mod2 (cell / 2) with q|q
  ·refine⟨a,(cell / 4 % 2 == 1),(1+cell / 8 % ((ext:Int)-1)).toNat,by omega,by rw[up_a];omega,?_⟩
   refine aO (ρ:=[.im (.int cell),.im (.int w),.im (.int h),.un,.un,.un]) rfl (aI (aN (e3.trans (by rw[h1]))) (aI (aN e4) (aI (aN e5) (aV ?_))))
   show ev G _ [.im (.int cell),.im (.int w),.im (.int h),.im (.bl lv),.im (.int ext),.im (.lst [.str a.str,.str b.str])]=_
   simp only[zz,yy,aA,aC,d2,m2,q,s01,d4,d8,mx];unfold eP;rw[hk]
  ·refine⟨b,(cell / 4 % 2 == 1),(1+cell / 8 % ((ext:Int)-1)).toNat,by omega,by rw[up_b];omega,?_⟩
   refine aO (ρ:=[.im (.int cell),.im (.int w),.im (.int h),.un,.un,.un]) rfl (aI (aN (e3.trans (by rw[h1]))) (aI (aN e4) (aI (aN e5) (aV ?_))))
   show ev G _ [.im (.int cell),.im (.int w),.im (.int h),.im (.bl lv),.im (.int ext),.im (.lst [.str a.str,.str b.str])]=_
   simp only[zz,yy,aA,aC,d2,m2,q,s11,d4,d8,mx];unfold eP;rw[hk]
 cases hb:(((w:Int) == 1) || (decide (1<(h:Int))&&(cell % 2 == 1))) with
 |true =>
  refine fin true h .north .south hb rfl ?_ rfl rfl;rw[or_eq_true,qt,su,qy]at hb
  rcases hb with hb|hb
  ·have:w=1:=by omega
   subst this;omega
  ·omega
 |false =>
  refine fin false w .west .east hb rfl ?_ rfl rfl;rw[Bool.or_eq_false_iff]at hb;have:(w:Int)≠1:=by simpa using hb.1
  omega
end
end Pg
theorem gC{s:Sl}{r:List Sl}:view (s::r)=iG s::view r:=id rfl
theorem CH{α β:Type}{f:α→β}{xs:List α}{a b:Option Int}:cut (xs.map f) a b=(cut xs a b).map f:=by
 unfold cut;rw[qj,List.map_take,List.map_drop]
theorem CI{α:Type}{xs:List α}{a b:Nat}:(cut xs (some (a:Int)) (some (b:Int))).length≤b-a:=by
 simp only[cut,sIx];rw[if_neg (by omega),if_neg (by omega)]
 refine rj (List.length_take_le _ _) ?_;rw[toNat_natCast,toNat_natCast];generalize xs.length=n;omega
namespace Pg
def Full(s:aW):Prop:=∀h∈s,h≠[]
def jC(T:Table):Prop:=∀s∈T,Full s
theorem getD_mem{s:aW}{k:Nat}(h:k<s.length):s.getD k []∈s:=by
 rw[qd,qh h];exact ux h
theorem Full.turn{s:aW}{u:Bool}(h:Full s):Full (dI u s):=by
 intro x hx;unfold dI at hx;obtain⟨y,hy,rfl⟩:=sv.mp hx;unfold eA;intro z;exact h y hy (by simpa using z)
theorem Full.tog{u l:aW}(h1:Full u)(h2:Full l):Full (tog u l):=by
 intro x hx;unfold Pg.tog at hx;obtain⟨k,hk,rfl⟩:=sv.mp hx;have hk:=ur.mp hk
 intro z;have z:=List.append_eq_nil_iff.mp z
 by_cases e:k<u.length
 ·exact h1 _ (getD_mem e) z.1
 ·exact h2 _ (getD_mem (by omega)) z.2
theorem Full.sub{s t:aW}(h:Full s)(q:∀x∈t,x∈s):Full t:=fun x hx=>h x (q x hx)
theorem yT{sd:Side}{over:Bool}{c:Nat}{s:aW}(h:Full s):Full (cP sd over c s):=by
 have a1:Full (s.take c).reverse:=h.sub fun x hx=>List.mem_of_mem_take (mem_reverse.mp hx)
 have a2:Full (s.drop c):=h.sub fun x hx=>List.mem_of_mem_drop hx
 have t:∀{u l:aW},Full u→Full l→Full (bQ u l over):=fun {u l} p q=>by
  unfold bQ;cases over with
  |true=>exact p.tog q
  |false=>exact q.tog p
 unfold cP;split
 ·exact t a1.turn a2
 ·exact(t a2.turn a1).sub fun x hx=>mem_reverse.mp hx
theorem jC.transp{T:Table}{w h:Nat}(r:Rect T w h)(f:jC T):jC (transp T):=by
 intro s hs;unfold Pg.transp at hs;obtain⟨x,hx,rfl⟩:=sv.mp hs;have hx:=ur.mp hx
 intro y hy;obtain⟨t,ht,rfl⟩:=sv.mp hy;exact f t ht _ (getD_mem (by rw[r.row t ht,←r.width];exact hx))
theorem jC.foldT{T:Table}{w h:Nat}{sd:Side}{over:Bool}{c:Nat}(r:Rect T w h)(f:jC T)(h1:1≤c)(h2:c<if sd.up then w else h):jC (foldT sd over c T):=by
 have g:∀{U:Table},jC U→jC (U.map (cP sd over c)):=fun {U} q s hs=>by
  obtain⟨s',bw,rfl⟩:=sv.mp hs;exact yT (q s' bw)
 unfold Pg.foldT;cases hu:sd.up with
 |true=>exact g f
 |false =>
  rw[hu]at h2;exact(g (f.transp r)).transp (r.transp.fold h1 h2)
theorem FD{c r:Nat}:jC (gA c r):=by
 intro s hs;unfold gA at hs;obtain⟨y,_,rfl⟩:=sv.mp hs;intro h hh;obtain⟨x,_,rfl⟩:=sv.mp hh;exact List.cons_ne_nil _ _
structure Spot where
 x:Nat
 y:Nat
 z:Int
 e:Bool
 n:Bool
noncomputable def aT(T:Table)(x y:Nat):dD:=(T.getD y []).getD x []
noncomputable def a9(sp:List Spot)(k:Int):Int:=match sp[k.toNat]? with
 |some s=>s.z
 |none=>0
structure Lk (T:Table) (sp:List Spot):Prop where
 mem:∀(x y:Nat) (c:Cell),c∈aT T x y↔∃(i:Nat) (s:Spot),sp[i]?=some s∧s.x=x∧s.y=y∧c=((i:Int),s.e,s.n)
 ord:∀x y:Nat,(aT T x y).Pairwise (fun a b=>a9 sp b.1<a9 sp a.1)
noncomputable def Spot.al(up:Bool)(s:Spot):Nat:=if up then s.x else s.y
noncomputable def Spot.ac(up:Bool)(s:Spot):Nat:=if up then s.y else s.x
noncomputable def sY(c p:Nat):Nat:=if c≤p then p-c else c-1-p
noncomputable def dQ(nr:Bool)(c gr p:Nat):Nat:=if nr then sY c p else gr-1-sY c p
noncomputable def moves(nr:Bool)(c p:Nat):Bool:=decide (c≤p) != nr
noncomputable def cO(sd:Side)(over:Bool)(c gr:Nat)(top low:Int)(s:Spot):Spot:=
 {x:=if sd.up then dQ sd.near c gr (s.al sd.up) else s.x
  y:=if sd.up then s.y else dQ sd.near c gr (s.al sd.up)
  z:=if moves sd.near c (s.al sd.up) then(if over then 2*top+1-s.z else 2*low-1-s.z) else s.z
  e:=if moves sd.near c (s.al sd.up)&&sd.up then !s.e else s.e
  n:=if moves sd.near c (s.al sd.up)&&!sd.up then !s.n else s.n }
theorem kI{sd:Side}{over:Bool}{c gr:Nat}{top low:Int}{s:Spot}:(cO sd over c gr top low s).al sd.up=dQ sd.near c gr (s.al sd.up):=by
 unfold cO Spot.al;cases sd.up<;>rfl
theorem nK{sd:Side}{over:Bool}{c gr:Nat}{top low:Int}{s:Spot}:(cO sd over c gr top low s).ac sd.up=s.ac sd.up:=by
 unfold cO Spot.ac;cases sd.up<;>rfl
noncomputable def hA(up:Bool)(T:Table)(p q:Nat):dD:=if up then aT T p q else aT T q p
theorem getD_map{α β:Type}{f:α→β}{l:List α}{k:Nat}{d:β}{d':α}(h:f d'=d):(l.map f).getD k d=f (l.getD k d'):=by
 rw[qd,qd,qi];cases l[k]?<;>simp[h]
theorem getD_none{α:Type}{l:List α}{k:Nat}{d:α}(h:l.length≤k):l.getD k d=d:=by
 rw[qd,getElem?_eq_none h];rfl
theorem pT{u:Bool}:eA u []=[]:=rfl
theorem vC{s:aW}{c k:Nat}(hc:c≤s.length):(s.take c).reverse.getD k []=if k<c then s.getD (c-1-k) [] else []:=by
 by_cases h:k<c
 ·rw[if_pos h,qd,List.getElem?_reverse (by rw[tw];omega),tw,min_eq_left hc,List.getElem?_take,if_pos (by omega),qd]
 ·rw[if_neg h];exact getD_none (by rw[uv,tw];omega)
theorem CA{s:aW}{c k:Nat}:(s.drop c).getD k []=s.getD (c+k) []:=by
 rw[qd,List.getElem?_drop,qd]
theorem GC{u l:aW}{k:Nat}:(tog u l).getD k []=u.getD k []++l.getD k []:=by
 by_cases h:k<max u.length l.length
 ·unfold tog;rw[qd,qi,uh h];rfl
 ·rw[getD_none (by rw[rP];omega),getD_none (by omega),getD_none (by omega)];rfl
noncomputable def qH(over:Bool)(m s:dD):dD:=if over then m++s else s++m
theorem lY{m s:aW}{over:Bool}{k:Nat}:(bQ m s over).getD k []=qH over (m.getD k []) (s.getD k []):=by
 unfold bQ qH;cases over
 ·exact GC
 ·exact GC
theorem uX{u:Bool}{p:aW}{k:Nat}:(dI u p).getD k []=eA u (p.getD k []):=by unfold dI;exact getD_map pT
noncomputable def cm(c g:Nat)(s:Nat→dD):dD:=if g<c then s (c-1-g) else []
noncomputable def xX(sd:Side)(over:Bool)(c g:Nat)(s:Nat→dD):dD:=qH over (eA sd.up (if sd.near then cm c g s else s (c+g))) (if sd.near then s (c+g) else cm c g s)
theorem JS{sd:Side}{over:Bool}{c:Nat}{s:aW}(hc:c≤s.length){k:Nat}(hk:k<max c (s.length-c)) :
  (cP sd over c s).getD k []=xX sd over c (if sd.near then k else max c (s.length-c)-1-k) fun j=>s.getD j []:=by
 unfold cP xX cm;cases hn:sd.near with
 |true =>
  simp only[if_true];rw[lY,uX,vC hc,CA]
 |false =>
  simp only[qp,if_false];have hl:(bQ (dI sd.up (s.drop c)) (s.take c).reverse over).length=max c (s.length-c):=by
   rw[gT,gL,uv,tw,uw,min_eq_left hc,Nat.max_comm]
  rw[qd,List.getElem?_reverse (by rw[hl];exact hk),hl,←qd,lY,uX,vC hc,CA]
theorem pU{T:Table}{w h:Nat}(r:Rect T w h){x y:Nat}:aT (transp T) x y=aT T y x:=by
 unfold aT
 by_cases hy:y<w
 ·have e1:(transp T).getD y []=T.map fun s=>s.getD y []:=by
   unfold transp;rw[r.width,qd,qi,uh hy];rfl
  rw[e1];exact getD_map (f:=fun s:aW=>s.getD y []) (by simp)
 ·rw[show (transp T).getD y []=[] from getD_none (by unfold transp;rw[qj,qz,r.width];omega)]
  rw[show ([]:aW).getD x []=[] by simp]
  by_cases hx:x<T.length
  ·have hm:T.getD x []∈T:=by rw[qd,qh hx];exact ux hx
   rw[getD_none (by rw[r.row _ hm];omega)]
  ·rw[getD_none (l:=T) (by omega)];simp
noncomputable def ext(sd:Side)(w h:Nat):Nat:=if sd.up then w else h
theorem yO{T:Table}{w h:Nat}(r:Rect T w h){sd:Side}{p q:Nat}(hp:ext sd w h≤p):hA sd.up T p q=[]:=by
 unfold hA;unfold ext at hp;unfold aT;cases hu:sd.up with
 |true =>
  rw[hu]at hp;simp only[if_true]at hp ⊢
  by_cases hq:q<T.length
  ·have hm:T.getD q []∈T:=by rw[qd,qh hq];exact ux hq
   exact getD_none (by rw[r.row _ hm];exact hp)
  ·rw[getD_none (l:=T) (by omega)];simp
 |false =>
  rw[hu]at hp;simp only[qp,if_false]at hp ⊢;rw[getD_none (l:=T) (by rw[r.len];exact hp)];simp
theorem AN{T:Table}{w h:Nat}(r:Rect T w h){sd:Side}{over:Bool}{c:Nat}(h1:1≤c)(h2:c<ext sd w h){p q:Nat}(hp:p<max c (ext sd w h-c)) :
  hA sd.up (foldT sd over c T) p q=xX sd over c (if sd.near then p else max c (ext sd w h-c)-1-p) fun j=>hA sd.up T j q:=by
 have key:∀{U:Table} {w h:Nat},Rect U w h→c<w→∀{p q:Nat},p<max c (w-c)→aT (U.map (cP sd over c)) p q=xX sd over c (if sd.near then p else max c (w-c)-1-p) fun j=>aT U j q:=by
  intro U w h r h2 p q hp;unfold aT
  by_cases hq:q<U.length
  ·have hm:U.getD q []∈U:=by rw[qd,qh hq];exact ux hq
   have hw:=r.row _ hm
   have e1:(U.map (cP sd over c)).getD q []=cP sd over c (U.getD q []):=by
    rw[qd,qi,qd,qh hq];rfl
   rw[e1,JS (by omega) (by rw[hw];exact hp),hw]
  ·rw[getD_none (l:=U.map (cP sd over c)) (by rw[qj];omega),getD_none (l:=U) (by omega)]
   unfold xX cm qH;simp[pT]
 unfold hA foldT;unfold ext at h2 hp ⊢;cases hu:sd.up with
 |true =>
  rw[hu]at h2 hp;simp only[if_true]at h2 hp ⊢;exact key r h2 hp
 |false =>
  rw[hu]at h2 hp;simp only[qp,if_false]at h2 hp ⊢;rw[pU (r.transp.fold h1 h2),key r.transp h2 hp]
  congr 1
  funext j
  exact pU r
theorem yQ{c p ex:Nat}(h1:1≤c)(hp:p<ex):sY c p<max c (ex-c):=by
 unfold sY;split<;>omega
theorem place_lt{nr:Bool}{c p ex:Nat}(h1:1≤c)(hp:p<ex):dQ nr c (max c (ex-c)) p<max c (ex-c):=by
 have:=yQ h1 hp
 unfold dQ;split<;>omega
theorem rO{u:Bool}{c:Cell}:(fV u c).1=c.1:=by unfold fV;cases u<;>rfl
theorem vQ{u:Bool}{h:dD}{c:Cell}:c∈eA u h↔fV u c∈h:=by
 have inv:∀d:Cell,fV u (fV u d)=d:=fun d=>by unfold fV;cases u<;>simp
 unfold eA;rw[sv];constructor
 ·rintro⟨d,hd,rfl⟩;rw[inv];exact mem_reverse.mp hd
 ·intro hc;exact⟨_,mem_reverse.mpr hc,inv c⟩
theorem zC{sp:List Spot}{f:Spot→Spot}{i:Nat}{s:Spot}(h:sp[i]?=some s):a9 (sp.map f) (i:Int)=(f s).z:=by
 unfold a9;rw[toNat_natCast,qi,h];rfl
theorem rH{sp:List Spot}{i:Nat}{s:Spot}(h:sp[i]?=some s):a9 sp (i:Int)=s.z:=by
 unfold a9;rw[toNat_natCast,h]
section
variable {T:Table}{w h:Nat}{sp:List Spot}
theorem Lk.memA(L:Lk T sp)(up:Bool){p q:Nat}{c:Cell}:c∈hA up T p q↔∃(i:Nat) (s:Spot),sp[i]?=some s∧s.al up=p∧s.ac up=q∧c=((i:Int),s.e,s.n):=by
 unfold hA Spot.al Spot.ac;cases up with
 |true=>exact L.mem p q c
 |false =>
  refine(L.mem q p c).trans ⟨fun⟨i,s,a,b,d,e⟩=>⟨i,s,a,d,b,e⟩,fun⟨i,s,a,b,d,e⟩=>⟨i,s,a,d,b,e⟩⟩
theorem Lk.of{up:Bool}(h1:∀(p q:Nat) (c:Cell),c∈hA up T p q↔∃(i:Nat) (s:Spot),sp[i]?=some s∧s.al up=p∧s.ac up=q∧c=((i:Int),s.e,s.n))(h2:∀p q:Nat,(hA up T p q).Pairwise (fun a b=>a9 sp b.1<a9 sp a.1)):Lk T sp:=by
 cases up with
 |true=>exact⟨h1,h2⟩
 |false=>exact⟨fun x y c=>(h1 y x c).trans ⟨fun⟨i,s,a,b,d,e⟩=>⟨i,s,a,d,b,e⟩,fun⟨i,s,a,b,d,e⟩=>⟨i,s,a,d,b,e⟩⟩,fun x y=>h2 y x⟩
theorem Lk.al_lt(L:Lk T sp)(r:Rect T w h)(sd:Side){i:Nat}{s:Spot}(e:sp[i]?=some s):s.al sd.up<ext sd w h:=by
 refine Nat.lt_of_not_le fun z=>?_
 have:=(L.memA sd.up (p:=s.al sd.up) (q:=s.ac sd.up) (c:=((i:Int),s.e,s.n))).mpr ⟨i,s,e,rfl,rfl,rfl⟩
 rw[yO r z]at this;cases this
theorem Lk.fold(L:Lk T sp)(r:Rect T w h){sd:Side}{over:Bool}{c:Nat}{top low:Int}(h1:1≤c)(h2:c<ext sd w h)(ht:∀s∈sp,s.z≤top)(hl:∀s∈sp,low≤s.z) :
  Lk (foldT sd over c T) (sp.map (cO sd over c (max c (ext sd w h-c)) top low)):=by
 have get:∀{i:Nat} {s':Spot},(sp.map (cO sd over c (max c (ext sd w h-c)) top low))[i]?=some s'→∃s,sp[i]?=some s∧s'=cO sd over c (max c (ext sd w h-c)) top low s:=fun {i s'} e=>by
  rw[qi]at e;obtain⟨s,a,b⟩:=qv.mp e;exact⟨s,a,b.symm⟩
 have mvP:∀{p' p:Nat},p'<ext sd w h→dQ sd.near c (max c (ext sd w h-c)) p'=p→moves sd.near c p'=true→p<max c (ext sd w h-c) →
   p'=(if sd.near then c-1-p else c+(max c (ext sd w h-c)-1-p))∧(sd.near=true→p<c):=by
  intro p' p q0 q1 q2 q3;have:=yQ h1 q0
  unfold moves at q2;unfold dQ at q1;cases hn:sd.near with
  |true =>
   rw[hn]at q1 q2;simp only[if_true]at q1 ⊢;simp only[bne_iff_ne,ne_eq,qy]at q2;unfold sY at q1;rw[if_neg q2]at q1;exact⟨by omega,fun _=>by omega⟩
  |false =>
   rw[hn]at q1 q2;simp only[qp,if_false]at q1 ⊢;simp only[bne_iff_ne,ne_eq,decide_eq_false_iff_not,Classical.not_not]at q2;unfold sY at q1 this;rw[if_pos q2]at q1 this;exact⟨by omega,fun z=>absurd z (by decide)⟩
 have stP:∀{p' p:Nat},p'<ext sd w h→dQ sd.near c (max c (ext sd w h-c)) p'=p→moves sd.near c p'=false→p<max c (ext sd w h-c) →
   p'=(if sd.near then c+p else c-1-(max c (ext sd w h-c)-1-p))∧(sd.near=false→max c (ext sd w h-c)-1-p<c):=by
  intro p' p q0 q1 q2 q3;have:=yQ h1 q0
  unfold moves at q2;unfold dQ at q1;cases hn:sd.near with
  |true =>
   rw[hn]at q1 q2;simp only[if_true]at q1 ⊢;simp only[bne_eq_false_iff_eq,qy]at q2;unfold sY at q1;rw[if_pos q2]at q1;exact⟨by omega,fun z=>absurd z (by decide)⟩
  |false =>
   rw[hn]at q1 q2;simp only[qp,if_false]at q1 ⊢;simp only[bne_eq_false_iff_eq,decide_eq_false_iff_not]at q2;unfold sY at q1 this;rw[if_neg q2]at q1 this;exact⟨by omega,fun _=>by omega⟩
 have bk:∀{p' p:Nat},p<max c (ext sd w h-c)→p'<ext sd w h→(p'=(if sd.near then c-1-p else c+(max c (ext sd w h-c)-1-p))∧(sd.near=true→p<c)→moves sd.near c p'=true∧dQ sd.near c (max c (ext sd w h-c)) p'=p) ∧
   (p'=(if sd.near then c+p else c-1-(max c (ext sd w h-c)-1-p))∧(sd.near=false→max c (ext sd w h-c)-1-p<c)→moves sd.near c p'=false∧dQ sd.near c (max c (ext sd w h-c)) p'=p):=by
  intro p' p q3 q0;unfold moves dQ sY;cases hn:sd.near with
  |true =>
   simp only[if_true];refine⟨fun⟨a,b⟩=>?_,fun⟨a,b⟩=>?_⟩
   ·have:=b trivial
    have z:¬c≤p':=by omega
    rw[qm z,if_neg z];exact⟨rfl,by omega⟩
   ·have z:c≤p':=by omega
    rw[sr z,if_pos z];exact⟨rfl,by omega⟩
  |false =>
   simp only[qp,if_false];refine⟨fun⟨a,b⟩=>?_,fun⟨a,b⟩=>?_⟩
   ·have z:c≤p':=by omega
    rw[sr z,if_pos z];exact⟨rfl,by omega⟩
   ·have:=b trivial
    have z:¬c≤p':=by omega
    rw[qm z,if_neg z];exact⟨rfl,by omega⟩
 have mvI:∀{p q:Nat} {d:Cell},p<max c (ext sd w h-c)→(d∈(if sd.near then cm c (if sd.near then p else max c (ext sd w h-c)-1-p) (fun j=>hA sd.up T j q) else hA sd.up T (c+(if sd.near then p else max c (ext sd w h-c)-1-p)) q) ↔
   ∃(i:Nat) (s:Spot),sp[i]?=some s∧moves sd.near c (s.al sd.up)=true∧dQ sd.near c (max c (ext sd w h-c)) (s.al sd.up)=p∧s.ac sd.up=q∧d=((i:Int),s.e,s.n)):=by
  intro p q d hp;constructor
  ·intro hd;have:∃p',d∈hA sd.up T p' q∧p'=(if sd.near then c-1-p else c+(max c (ext sd w h-c)-1-p))∧(sd.near=true→p<c):=by
    cases hn:sd.near with
    |true =>
     rw[hn]at hd;simp only[if_true,cm]at hd
     by_cases hq:p<c
     ·rw[if_pos hq]at hd;exact⟨_,hd,rfl,fun _=>hq⟩
     ·rw[if_neg hq]at hd;cases hd
    |false =>
     rw[hn]at hd;simp only[qp,if_false]at hd;exact⟨_,hd,rfl,fun z=>absurd z (by decide)⟩
   obtain⟨p',hd,e1,e2⟩:=this;obtain⟨i,s,a1,a2,a3,a4⟩:=(L.memA sd.up).mp hd;have b:=(bk (p':=p') hp (by rw[←a2];exact L.al_lt r sd a1)).1 ⟨e1,e2⟩
   rw[←a2]at b;exact⟨i,s,a1,b.1,b.2,a3,a4⟩
  ·rintro⟨i,s,a1,a2,a3,a4,a5⟩;have b:=mvP (L.al_lt r sd a1) a3 a2 hp
   have hd:=(L.memA sd.up (p:=s.al sd.up) (q:=q) (c:=d)).mpr ⟨i,s,a1,rfl,a4,a5⟩
   rw[b.1]at hd;cases hn:sd.near with
   |true =>
    rw[hn]at hd b;simp only[if_true,cm]at hd ⊢;rw[if_pos (b.2 rfl)];exact hd
   |false =>
    rw[hn]at hd;simp only[qp,if_false]at hd ⊢;exact hd
 have stI:∀{p q:Nat} {d:Cell},p<max c (ext sd w h-c)→(d∈(if sd.near then hA sd.up T (c+(if sd.near then p else max c (ext sd w h-c)-1-p)) q else cm c (if sd.near then p else max c (ext sd w h-c)-1-p) (fun j=>hA sd.up T j q)) ↔
   ∃(i:Nat) (s:Spot),sp[i]?=some s∧moves sd.near c (s.al sd.up)=false∧dQ sd.near c (max c (ext sd w h-c)) (s.al sd.up)=p∧s.ac sd.up=q∧d=((i:Int),s.e,s.n)):=by
  intro p q d hp;constructor
  ·intro hd;have:∃p',d∈hA sd.up T p' q∧p'=(if sd.near then c+p else c-1-(max c (ext sd w h-c)-1-p))∧(sd.near=false→max c (ext sd w h-c)-1-p<c):=by
    cases hn:sd.near with
    |true =>
     rw[hn]at hd;simp only[if_true]at hd;exact⟨_,hd,rfl,fun z=>absurd z (by decide)⟩
    |false =>
     rw[hn]at hd;simp only[qp,if_false,cm]at hd
     by_cases hq:max c (ext sd w h-c)-1-p<c
     ·rw[if_pos hq]at hd;exact⟨_,hd,rfl,fun _=>hq⟩
     ·rw[if_neg hq]at hd;cases hd
   obtain⟨p',hd,e1,e2⟩:=this;obtain⟨i,s,a1,a2,a3,a4⟩:=(L.memA sd.up).mp hd;have b:=(bk (p':=p') hp (by rw[←a2];exact L.al_lt r sd a1)).2 ⟨e1,e2⟩
   rw[←a2]at b;exact⟨i,s,a1,b.1,b.2,a3,a4⟩
  ·rintro⟨i,s,a1,a2,a3,a4,a5⟩;have b:=stP (L.al_lt r sd a1) a3 a2 hp
   have hd:=(L.memA sd.up (p:=s.al sd.up) (q:=q) (c:=d)).mpr ⟨i,s,a1,rfl,a4,a5⟩
   rw[b.1]at hd;cases hn:sd.near with
   |true =>
    rw[hn]at hd;simp only[if_true]at hd ⊢;exact hd
   |false =>
    rw[hn]at hd b;simp only[qp,if_false,cm]at hd ⊢;rw[if_pos (b.2 rfl)];exact hd
 refine Lk.of (up:=sd.up) (fun p q d=>?_) fun p q=>?_
 ·by_cases hp:p<max c (ext sd w h-c)
  ·rw[AN r h1 h2 hp];unfold xX qH;have sw:∀a b:dD,d∈(if over then a++b else b++a)↔d∈a∨d∈b:=fun a b=>by cases over<;>simp[or_comm]
   rw[sw,vQ,mvI hp,stI hp];constructor
   ·rintro (⟨i,s,a1,a2,a3,a4,a5⟩|⟨i,s,a1,a2,a3,a4,a5⟩)
    ·refine⟨i,cO sd over c (max c (ext sd w h-c)) top low s,by rw[qi,a1];rfl,by rw[kI];exact a3,by rw[nK];exact a4,?_⟩
     have inv:d=fV sd.up (fV sd.up d):=by unfold fV;cases sd.up<;>simp
     rw[inv,a5];unfold fV cO;dsimp only;rw[a2];cases sd.up<;>rfl
    ·refine⟨i,cO sd over c (max c (ext sd w h-c)) top low s,by rw[qi,a1];rfl,by rw[kI];exact a3,by rw[nK];exact a4,?_⟩
     rw[a5];unfold cO;dsimp only;rw[a2];rfl
   ·rintro⟨i,s',a1,a2,a3,a4⟩;obtain⟨s,e1,rfl⟩:=get a1;rw[kI]at a2;rw[nK]at a3;cases hm:moves sd.near c (s.al sd.up) with
    |true =>
     refine .inl ⟨i,s,e1,hm,a2,a3,?_⟩;rw[a4];unfold fV cO;dsimp only;rw[hm];cases sd.up<;>simp
    |false =>
     refine .inr ⟨i,s,e1,hm,a2,a3,?_⟩;rw[a4];unfold cO;dsimp only;rw[hm];rfl
  ·constructor
   ·intro hd;have r':=r.foldT (over:=over) h1 h2
    rw[yO r' (by unfold ext;unfold ext at hp;cases hu:sd.up<;>rw[hu]at hp<;>simp only[if_true,qp,if_false]at hp ⊢<;>omega)]at hd
    cases hd
   ·rintro⟨i,s',a1,a2,a3,a4⟩;obtain⟨s,e1,rfl⟩:=get a1;rw[kI]at a2;exact absurd (a2 ▸ place_lt h1 (L.al_lt r sd e1)) hp
 ·by_cases hp:p<max c (ext sd w h-c)
  ·rw[AN r h1 h2 hp];unfold xX;have ordA:∀j,(hA sd.up T j q).Pairwise (fun a b=>a9 sp b.1<a9 sp a.1):=fun j=>by
    unfold hA;cases sd.up
    ·exact L.ord q j
    ·exact L.ord j q
   have ordL:∀g,(cm c g fun j=>hA sd.up T j q).Pairwise (fun a b=>a9 sp b.1<a9 sp a.1):=fun g=>by
    unfold cm;split
    ·exact ordA _
    ·exact List.Pairwise.nil
   have mvZ:∀{d:Cell},d∈(if sd.near then cm c (if sd.near then p else max c (ext sd w h-c)-1-p) (fun j=>hA sd.up T j q) else hA sd.up T (c+(if sd.near then p else max c (ext sd w h-c)-1-p)) q) →
     a9 (sp.map (cO sd over c (max c (ext sd w h-c)) top low)) d.1=(if over then 2*top+1-a9 sp d.1 else 2*low-1-a9 sp d.1)∧a9 sp d.1≤top∧low≤a9 sp d.1:=fun {d} hd=>by
    obtain⟨i,s,a1,a2,a3,a4,a5⟩:=(mvI hp).mp hd;rw[a5];dsimp only;rw[zC a1,rH a1];refine⟨?_,ht s (qf a1),hl s (qf a1)⟩;unfold cO;dsimp only;rw[a2];rfl
   have stZ:∀{d:Cell},d∈(if sd.near then hA sd.up T (c+(if sd.near then p else max c (ext sd w h-c)-1-p)) q else cm c (if sd.near then p else max c (ext sd w h-c)-1-p) (fun j=>hA sd.up T j q)) →
     a9 (sp.map (cO sd over c (max c (ext sd w h-c)) top low)) d.1=a9 sp d.1∧a9 sp d.1≤top∧low≤a9 sp d.1:=fun {d} hd=>by
    obtain⟨i,s,a1,a2,a3,a4,a5⟩:=(stI hp).mp hd;rw[a5];dsimp only;rw[zC a1,rH a1];refine⟨?_,ht s (qf a1),hl s (qf a1)⟩;unfold cO;dsimp only;rw[a2];rfl
   have mvO:(if sd.near then cm c (if sd.near then p else max c (ext sd w h-c)-1-p) (fun j=>hA sd.up T j q) else hA sd.up T (c+(if sd.near then p else max c (ext sd w h-c)-1-p)) q).Pairwise (fun a b=>a9 sp b.1<a9 sp a.1):=by
    split
    ·exact ordL _
    ·exact ordA _
   have stO:(if sd.near then hA sd.up T (c+(if sd.near then p else max c (ext sd w h-c)-1-p)) q else cm c (if sd.near then p else max c (ext sd w h-c)-1-p) (fun j=>hA sd.up T j q)).Pairwise (fun a b=>a9 sp b.1<a9 sp a.1):=by
    split
    ·exact ordA _
    ·exact ordL _
   generalize (if sd.near then cm c (if sd.near then p else max c (ext sd w h-c)-1-p) (fun j=>hA sd.up T j q) else hA sd.up T (c+(if sd.near then p else max c (ext sd w h-c)-1-p)) q)=mv at *
   generalize (if sd.near then hA sd.up T (c+(if sd.near then p else max c (ext sd w h-c)-1-p)) q else cm c (if sd.near then p else max c (ext sd w h-c)-1-p) (fun j=>hA sd.up T j q))=st at *
   have mvO':(eA sd.up mv).Pairwise (fun a b=>a9 (sp.map (cO sd over c (max c (ext sd w h-c)) top low)) b.1<a9 (sp.map (cO sd over c (max c (ext sd w h-c)) top low)) a.1):=by
    unfold eA;rw[List.pairwise_map,List.pairwise_reverse];refine mvO.imp_of_mem fun {a b} ha hb k=>?_
    rw[rO,rO,(mvZ ha).1,(mvZ hb).1];split<;>omega
   have stO':st.Pairwise (fun a b=>a9 (sp.map (cO sd over c (max c (ext sd w h-c)) top low)) b.1<a9 (sp.map (cO sd over c (max c (ext sd w h-c)) top low)) a.1):=
    stO.imp_of_mem fun {a b} ha hb k=>by rw[(stZ ha).1,(stZ hb).1];exact k
   have mvM:∀{d:Cell},d∈eA sd.up mv→a9 (sp.map (cO sd over c (max c (ext sd w h-c)) top low)) d.1=(if over then 2*top+1-a9 sp d.1 else 2*low-1-a9 sp d.1)∧a9 sp d.1≤top∧low≤a9 sp d.1:=fun {d} hd=>by
    have:=mvZ (vQ.mp hd)
    rw[rO]at this;exact this
   unfold qH;cases over with
   |true =>
    refine List.pairwise_append.mpr ⟨mvO',stO',fun a ha b hb=>?_⟩
    have k1:=mvM ha
    have k2:=stZ hb
    rw[k1.1,k2.1];simp only[if_true];omega
   |false =>
    refine List.pairwise_append.mpr ⟨stO',mvO',fun a ha b hb=>?_⟩
    have k1:=mvM hb
    have k2:=stZ ha
    rw[k1.1,k2.1];simp only[qp,if_false];omega
  ·have r':=r.foldT (over:=over) h1 h2
   rw[yO r' (by unfold ext;unfold ext at hp;cases hu:sd.up<;>rw[hu]at hp<;>simp only[if_true,qp,if_false]at hp ⊢<;>omega)]
   exact List.Pairwise.nil
end
end Pg
theorem gY{x y:Int×Int}:i3 x y=true↔x.1<y.1∨(x.1=y.1∧x.2<y.2):=by
 unfold i3;simp only[or_eq_true,qt,qy,su]
theorem PH{x y:Int×Int}:i3 x y=false↔¬(x.1<y.1∨(x.1=y.1∧x.2<y.2)):=by rw[←gY,Bool.not_eq_true]
theorem lO(x:Int×Int):∀l:List (Int×Int),(yM x l).Perm (x::l)
 |[]=>List.Perm.refl _
 |y::r=>by
  unfold yM;split
  ·exact List.Perm.refl _
  ·exact((lO x r).cons y).trans (List.Perm.swap x y r)
theorem gU:∀l:List (Int×Int),(nL l).Perm l
 |[]=>List.Perm.refl _
 |x::r=>(lO x _).trans ((gU r).cons x)
theorem mH{x:Int×Int}:∀{l:List (Int×Int)},l.Pairwise (fun a b=>i3 a b=true)→x∉l→(yM x l).Pairwise (fun a b=>i3 a b=true)
 |[],_,_=>by unfold yM;simp
 |y::r,h,n=>by
  obtain⟨h1,h2⟩:=List.pairwise_cons.mp h;unfold yM;split
  ·rename_i e;refine List.pairwise_cons.mpr ⟨fun z hz=>?_,h⟩
   rcases rz.mp hz with rfl|hz
   ·exact e
   ·have:=h1 z hz
    rw[gY]at this e ⊢;omega
  ·rename_i e;rw[Bool.not_eq_true]at e;refine List.pairwise_cons.mpr ⟨fun z hz=>?_,mH h2 fun z=>n (qq _ z)⟩
   rcases rz.mp ((lO x r).mem_iff.mp hz) with rfl|hz
   ·have dw:z≠y:=fun q=>n (by rw[q];simp)
    rw[PH]at e;rw[gY];have:¬(z.1=y.1∧z.2=y.2):=fun q=>dw (Prod.ext q.1 q.2)
    omega
   ·exact h1 z hz
theorem kJ:∀{l:List (Int×Int)},l.Nodup→(nL l).Pairwise (fun a b=>i3 a b=true)
 |[],_=>List.Pairwise.nil
 |x::r,h=>by
  obtain⟨h1,h2⟩:=nodup_cons.mp h;exact mH (kJ h2) fun z=>h1 ((gU r).mem_iff.mp z)
theorem GN{l m:List (Int×Int)}(p:m.Perm l)(h:m.Pairwise (fun a b=>i3 a b=true)):m=nL l:=by
 have nd:m.Nodup:=h.imp fun {a b} e q=>by subst q;rw[gY]at e;omega
 exact List.Perm.eq_of_pairwise (fun a b _ _ e1 e2=>by rw[gY]at e1 e2;omega) h (kJ (p.nodup_iff.mp nd)) (p.trans (gU l).symm)
theorem qE:∀(r:List Int) (m:Int),(lJ m r=m∨lJ m r∈r)∧m≤lJ m r∧∀a∈r,a≤lJ m r
 |[],m=>⟨.inl rfl,Int.le_refl _,fun a h=>by simp at h⟩
 |x::r,m=>by
  obtain⟨h1,h2,h3⟩:=qE r (if x > m then x else m)
  show (lJ (if x > m then x else m) r=m∨_)∧m≤lJ (if x > m then x else m) r∧_
  have e:lJ m (x::r)=lJ (if x > m then x else m) r:=rfl
  rw[e];refine⟨?_,?_,fun a ha=>?_⟩
  ·rcases h1 with h|h
   ·split at h
    ·rename_i hx;rw[if_pos hx,h];exact .inr (by simp)
    ·rename_i hx;rw[if_neg hx,h];exact .inl rfl
   ·exact .inr (qq _ h)
  ·split at h2
   ·rename_i hx;rw[if_pos hx];omega
   ·rename_i hx;rw[if_neg hx];exact h2
  ·rcases rz.mp ha with rfl|ha
   ·split at h2
    ·rename_i hx;rw[if_pos hx];exact h2
    ·rename_i hx;rw[if_neg hx];omega
   ·exact h3 a ha
theorem qD:∀(r:List Int) (m:Int),(nV m r=m∨nV m r∈r)∧nV m r≤m∧∀a∈r,nV m r≤a
 |[],m=>⟨.inl rfl,Int.le_refl _,fun a h=>by simp at h⟩
 |x::r,m=>by
  obtain⟨h1,h2,h3⟩:=qD r (if x<m then x else m)
  have e:nV m (x::r)=nV (if x<m then x else m) r:=rfl
  rw[e];refine⟨?_,?_,fun a ha=>?_⟩
  ·rcases h1 with h|h
   ·split at h
    ·rename_i hx;rw[if_pos hx,h];exact .inr (by simp)
    ·rename_i hx;rw[if_neg hx,h];exact .inl rfl
   ·exact .inr (qq _ h)
  ·split at h2
   ·rename_i hx;rw[if_pos hx];omega
   ·rename_i hx;rw[if_neg hx];exact h2
  ·rcases rz.mp ha with rfl|ha
   ·split at h2
    ·rename_i hx;rw[if_pos hx];exact h2
    ·rename_i hx;rw[if_neg hx];omega
   ·exact h3 a ha
namespace Pg
noncomputable def kA(c r:Nat):List Spot:=(List.range (c*r)).map fun k=>⟨k % c,k / c,0,false,false⟩
section
variable {G:GS}
theorem AQ{c r x y:Nat}:aT (gA c r) x y=if x<c∧y<r then [(((y*c+x:Nat):Int),false,false)] else []:=by
 unfold aT gA
 by_cases hy:y<r
 ·have e1:((List.range r).map fun y=>(List.range c).map fun x=>[(((y*c+x:Nat):Int),false,false)]).getD y []=(List.range c).map fun x=>[(((y*c+x:Nat):Int),false,false)]:=by
   rw[qd,qi,uh hy];rfl
  rw[e1]
  by_cases hx:x<c
  ·rw[if_pos ⟨hx,hy⟩,qd,qi,uh hx];rfl
  ·rw[if_neg (fun z=>hx z.1)]
   exact getD_none (by rw[qj,qz];omega)
 ·rw[if_neg (fun z=>hy z.2),getD_none (l:=List.map _ _) (by rw[qj,qz];omega)]
  simp
theorem RH{c r:Nat}(hc:1≤c):Lk (gA c r) (kA c r):=by
 have get:∀{i:Nat} {s:Spot},(kA c r)[i]?=some s↔i<c*r∧s=⟨i % c,i / c,0,false,false⟩:=fun {i s}=>by
  unfold kA;rw[qi]
  by_cases hi:i<c*r
  ·rw[uh hi];simp only[uc,qe,hi,true_and];exact eq_comm
  ·rw[getElem?_eq_none (by rw[qz];omega)]
   simp[hi]
 refine⟨fun x y d=>?_,fun x y=>?_⟩
 ·rw[AQ];constructor
  ·intro h;split at h
   ·rename_i j1;have e:d=(((y*c+x:Nat):Int),false,false):=by simpa using h
    have h1:(y*c+x) % c=x:=by rw[Nat.add_comm,Nat.add_mul_mod_self_right];exact Nat.mod_eq_of_lt j1.1
    have h2:(y*c+x) / c=y:=by rw[Nat.add_comm,Nat.add_mul_div_right _ _ (by omega),Nat.div_eq_of_lt j1.1];omega
    refine⟨y*c+x,_,get.mpr ⟨?_,rfl⟩,h1,h2,e⟩;have:(y+1)*c≤r*c:=Nat.mul_le_mul_right c (by omega)
    rw[Nat.add_mul,Nat.one_mul]at this;rw[mul_comm c r];omega
   ·cases h
  ·rintro⟨i,s,a1,rfl,rfl,a4⟩;obtain⟨hi,rfl⟩:=get.mp a1;have h1:i % c<c:=Nat.mod_lt _ (by omega)
   have h2:i / c<r:=by rw[Nat.div_lt_iff_lt_mul (by omega),mul_comm];exact hi
   rw[if_pos ⟨h1,h2⟩,a4];have:=Nat.div_add_mod i c
   rw[mul_comm]at this;simp[this]
 ·rw[AQ];split
  ·simp
  ·exact List.Pairwise.nil
theorem oJ{c r:Nat}:(kA c r).length=c*r:=by unfold kA;simp
theorem KA{ρ:List Sl}{x:Nat}{k e:IE}{d:D}{i:Int}{ds:List D}{j:Nat}(h1:ev G e ρ=some d)(h2:ev G k ρ=some (.int i))(h3:ρ[x]?=some (.mu (.lst ds)))(h4:ixN ds.length i=some j):ex G (.put x k e) ρ=some (.nx (ρ.set x (.mu (.lst (ds.set j d))))):=by
 show (cy G e ρ).bind (fun d=>(intOf (cy G k ρ)).bind fun i=>_)=_
 rw[kC h1,kC h2];show (match ρ[x]? with|some (.mu o)=>_|_=>_)=_
 rw[h3];show Option.map _ (Option.map _ (ixN ds.length i))=_
 rw[h4];rfl
end
section
variable {G:GS}
theorem aAH{α:Type}{a b c:α}:atI [a,b,c] 0=some a∧atI [a,b,c] 1=some b∧atI [a,b,c] 2=some c:=⟨rfl,rfl,rfl⟩
noncomputable def isAt(x y:Nat)(s:Spot):Bool:=(s.x == x)&&(s.y == y)
noncomputable def sM(sp:List Spot)(x y i:Nat):Option (Int×Int):=match sp[i]? with
 |some s=>if isAt x y s then some (0-s.z,(i:Int)) else none
 |none=>none
noncomputable def lay(sp:List Spot)(x y k:Nat):List (Int×Int):=(List.range k).filterMap (sM sp x y)
theorem IW{sp:List Spot}{x y k:Nat}:lay sp x y (k+1)=lay sp x y k++(sM sp x y k).toList:=by
 unfold lay;rw[range_succ,List.filterMap_append]
 congr 1
noncomputable def EK(sp:List Spot)(c:Cell):Int×Int:=(0-a9 sp c.1,c.1)
theorem QQ{sp:List Spot}{x y:Nat}{p:Int×Int}:p∈lay sp x y sp.length↔∃(i:Nat) (s:Spot),sp[i]?=some s∧s.x=x∧s.y=y∧p=(0-s.z,(i:Int)):=by
 unfold lay;rw[mem_filterMap];constructor
 ·rintro⟨i,hi,e⟩;unfold sM at e;split at e
  ·rename_i s hs;split at e
   ·rename_i j1;cases e;unfold isAt at j1;rw[qt,su,su]at j1;exact⟨i,s,hs,j1.1,j1.2,rfl⟩
   ·cases e
  ·cases e
 ·rintro⟨i,s,hs,rfl,rfl,rfl⟩;refine⟨i,ur.mpr (q9.mp hs).1,?_⟩;unfold sM isAt;rw[hs];simp
theorem EG{sp:List Spot}{x y k:Nat}:(lay sp x y k).Nodup:=by
 have h2:∀{i:Nat} {p:Int×Int},sM sp x y i=some p→p.2=i:=fun {i p} e=>by
  unfold sM at e;split at e
  ·split at e
   ·cases e;rfl
   ·cases e
  ·cases e
 induction k with
 |zero=>exact List.nodup_nil
 |succ k ih =>
  rw[IW];refine List.nodup_append.mpr ⟨ih,?_,fun a ha b hb=>?_⟩
  ·cases sM sp x y k<;>simp
  ·have hb':sM sp x y k=some b:=by simpa using hb
   unfold lay at ha;obtain⟨i,hi,e⟩:=mem_filterMap.mp ha;intro z;have q1:=h2 e
   have q2:=h2 hb'
   rw[z]at q1;have:=ur.mp hi
   omega
theorem IX{T:Table}{sp:List Spot}(L:Lk T sp){x y:Nat}:nL (lay sp x y sp.length)=(aT T x y).map (EK sp):=by
 have pw:((aT T x y).map (EK sp)).Pairwise (fun a b=>i3 a b=true):=by
  rw[List.pairwise_map];refine(L.ord x y).imp fun {a b} h=>?_
  rw[gY];unfold EK;exact .inl (by dsimp only;omega)
 have nd:((aT T x y).map (EK sp)).Nodup:=pw.imp fun {a b} e q=>by subst q;rw[gY]at e;omega
 refine(GN ?_ pw).symm;refine(List.perm_ext_iff_of_nodup nd EG).mpr fun p=>?_
 rw[QQ,sv];constructor
 ·rintro⟨c,hc,rfl⟩;obtain⟨i,s,a1,a2,a3,a4⟩:=(L.mem x y c).mp hc;refine⟨i,s,a1,a2,a3,?_⟩;subst a4;unfold EK;dsimp only;rw[rH a1]
 ·rintro⟨i,s,a1,a2,a3,rfl⟩;refine⟨((i:Int),s.e,s.n),(L.mem x y _).mpr ⟨i,s,a1,a2,a3,rfl⟩,?_⟩;unfold EK;dsimp only;rw[rH a1]
theorem QR{T:Table}{sp:List Spot}(L:Lk T sp){x y:Nat}:(lay sp x y sp.length).length=(aT T x y).length:=by
 rw[←(gU _).length_eq,IX L,qj]
theorem uD{ρ:List Sl}{x:Nat}{e:IE}{d:D}{ds:List D}(h1:ev G e ρ=some d)(h2:ρ[x]?=some (.mu (.lst ds)))(h3:ds.length<1000000):ex G (.app x e) ρ=some (.nx (ρ.set x (.mu (.lst (ds++[d]))))):=by
 show (cy G e ρ).bind _=_
 rw[kC h1];show (match ρ[x]? with|some (.mu (.lst ds))=>_|_=>_)=_
 rw[h2];exact if_pos h3
theorem ne_self{d:D}(h1:plain d=true)(h2:ax d d=true):af .ne d d=some (.bl false):=by
 show k6 d d=_
 unfold k6;rw[h1,h2];rfl
theorem eQ{b:Bool}:ck (.bl b)=some b:=rfl
structure Fold where
 sd:Side
 over:Bool
 k:Nat
noncomputable def Fold.d(f:Fold):D:=eP f.sd f.over f.k
theorem KN{f:Fold}:ax f.d f.d=true:=by
 unfold Fold.d eP;simp[ax,iK]
theorem xP{f:Fold}:plain f.d=true:=by
 obtain⟨sd,over,k⟩:=f;have:kz sd.str=true:=by cases sd<;>decide +kernel
 show (kz sd.str&&(true&&(true&&true)))=true
 rw[this];rfl
end
structure Sits (T:Table) (w h:Nat) (sp:List Spot):Prop where
 lk:Lk T sp
 rect:Rect T w h
 full:jC T
 w64:w≤64
 h64:h≤64
 len:sp.length≤64
section
variable {G:GS}{T:Table}{w h:Nat}{sp:List Spot}
theorem Sits.xlt(S:Sits T w h sp){s:Spot}(hs:s∈sp):s.x<w:=by
 obtain⟨i,hi,rfl⟩:=List.getElem_of_mem hs;exact S.lk.al_lt S.rect .west (qh hi)
theorem Sits.ylt(S:Sits T w h sp){s:Spot}(hs:s∈sp):s.y<h:=by
 obtain⟨i,hi,rfl⟩:=List.getElem_of_mem hs;exact S.lk.al_lt S.rect .north (qh hi)
theorem Sits.some_at(S:Sits T w h sp){x y:Nat}(hx:x<w)(hy:y<h):∃s∈sp,s.x=x∧s.y=y:=by
 have b8:y<T.length:=by rw[S.rect.len];exact hy
 have hm:T.getD y []∈T:=by rw[qd,qh b8];exact ux b8
 have dw:aT T x y≠[]:=S.full _ hm _ (getD_mem (by rw[S.rect.row _ hm];exact hx))
 cases e:aT T x y with
 |nil=>exact absurd e dw
 |cons c r =>
  obtain⟨i,s,a1,a2,a3,_⟩:=(S.lk.mem x y c).mp (by rw[e];simp)
  exact⟨s,qf a1,a2,a3⟩
theorem Sits.ne(S:Sits T w h sp):sp≠[]:=by
 have:=S.rect.w1
 have:=S.rect.h1
 obtain⟨s,hs,_⟩:=S.some_at (x:=0) (y:=0) (by omega) (by omega)
 intro z;rw[z]at hs;cases hs
theorem Lk.short(L:Lk T sp){x y:Nat}:(aT T x y).length≤sp.length:=by
 rw[←QR L];unfold lay;have:=List.length_filterMap_le (sM sp x y) (List.range sp.length)
 rwa [qz]at this
theorem Sits.few(S:Sits T w h sp):pF 64 T:=by
 intro s hs hp hm;obtain⟨y,hy,rfl⟩:=List.getElem_of_mem hs;obtain⟨x,hx,rfl⟩:=List.getElem_of_mem hm;have e:aT T x y=T[y][x]:=by
  unfold aT;rw[qd (l:=T),qh hy];simp[hx]
 rw[←e];exact rj S.lk.short S.len
theorem Sits.fold(S:Sits T w h sp){sd:Side}{over:Bool}{c:Nat}{top low:Int}(h1:1≤c)(h2:c<ext sd w h)(ht:∀s∈sp,s.z≤top)(hl:∀s∈sp,low≤s.z) :
  Sits (foldT sd over c T) (if sd.up then max c (w-c) else w) (if sd.up then h else max c (h-c)) (sp.map (cO sd over c (max c (ext sd w h-c)) top low)):=by
 have a:=S.w64
 have b:=S.h64
 have h2':c<if sd.up then w else h:=h2
 refine⟨S.lk.fold S.rect h1 h2 ht hl,S.rect.foldT h1 h2,S.full.foldT S.rect h1 h2,?_,?_,by rw[qj];exact S.len⟩
 ·split
  ·rename_i hu;rw[if_pos hu]at h2';omega
  ·exact a
 ·split
  ·exact b
  ·rename_i hu;rw[if_neg hu]at h2';omega
theorem FA{c r:Nat}(hc:1≤c)(hr:1≤r)(ao:c*r≤64):Sits (gA c r) c r (kA c r):=
 ⟨RH hc,FB hc hr,FD,rj (Nat.le_mul_of_pos_right c hr) ao,rj (Nat.le_mul_of_pos_left r hc) ao,by rw[oJ];exact ao⟩
end
end Pg
theorem dC{i k:Int}{d:D}{r:List (Int×D)}:dE ((i,d)::r) k=if i=k then some d else dE r k:=by
 unfold dE
 by_cases e:i=k
 ·rw[List.find?_cons_of_pos (by simpa using e),if_pos e];rfl
 ·rw[List.find?_cons_of_neg (by simpa using e),if_neg e]
theorem uV{k:Int}:∀{kvs:List (Int×D)},(kvs.any fun kv=>decide (kv.1=k))=(dE kvs k).isSome
 |[]=>rfl
 | (i,d)::r=>by
  rw[any_cons,dC,uV (kvs:=r)]
  by_cases e:i=k
  ·rw[if_pos e,sr e];rfl
  ·rw[if_neg e,qm e];rfl
theorem nC{k j:Int}{d:D}:∀{kvs:List (Int×D)},dE (kvs.map fun kv=>if kv.1=k then(kv.1,d) else kv) j=if j=k then(dE kvs j).map fun _=>d else dE kvs j
 |[]=>by
  show none=_
  split<;>rfl
 | (i,e)::r=>by
  rw[sq]
  by_cases h:i=k
  ·rw[if_pos h,dC,dC,nC (kvs:=r)]
   by_cases g:i=j
   ·rw[if_pos g,if_pos g,if_pos (g.symm.trans h)];rfl
   ·rw[if_neg g,if_neg g]
  ·rw[if_neg h,dC,dC,nC (kvs:=r)]
   by_cases g:i=j
   ·rw[if_pos g,if_pos g,if_neg (fun z=>h (g.trans z))]
   ·rw[if_neg g,if_neg g]
theorem pR{k j:Int}{d:D}:∀{kvs:List (Int×D)},dE (kvs++[(k,d)]) j=(dE kvs j).or (if k=j then some d else none)
 |[]=>by
  rw[List.nil_append,dC];split<;>rfl
 | (i,e)::r=>by
  rw[List.cons_append,dC,dC,pR (kvs:=r)];split<;>rfl
theorem uU{kvs:List (Int×D)}{k j:Int}{d:D}:dE (lD kvs k d) j=if j=k then some d else dE kvs j:=by
 unfold lD;rw[uV]
 by_cases h:(dE kvs k).isSome=true
 ·rw[if_pos h,nC]
  by_cases e:j=k
  ·subst e;rw[if_pos rfl,if_pos rfl];obtain⟨x,hx⟩:=Option.isSome_iff_exists.mp h;rw[hx];rfl
  ·rw[if_neg e,if_neg e]
 ·rw[if_neg h,pR]
  by_cases e:j=k
  ·subst e;rw[if_pos rfl,if_pos rfl,Option.not_isSome_iff_eq_none.mp h];rfl
  ·rw[if_neg e,if_neg (Ne.symm e)];cases dE kvs j<;>rfl
theorem HD{kvs:List (Int×D)}{k:Int}{d:D}:(lD kvs k d).length≤kvs.length+1:=by
 unfold lD;split
 ·rw[qj];omega
 ·rw[sh];exact qk _
theorem RY{G:GS}{ρ:List Sl}{x:Nat}{k e:IE}{d:D}{i:Int}{kvs:List (Int×D)}(h1:ev G e ρ=some d)(h2:ev G k ρ=some (.int i))(h3:ρ[x]?=some (.mu (.dct kvs)))(h4:kvs.length<1000000):ex G (.put x k e) ρ=some (.nx (ρ.set x (.mu (.dct (lD kvs i d))))):=by
 show (cy G e ρ).bind (fun d=>(intOf (cy G k ρ)).bind fun i=>_)=_
 rw[kC h1,kC h2];show (match ρ[x]? with|some (.mu o)=>_|_=>_)=_
 rw[h3];show Option.map _ (if kvs.length<big then some (D.dct (lD kvs i d)) else none)=_
 rw[if_pos (by unfold big;exact h4)];rfl
theorem RX{G:GS}{ρ:List Sl}{x:Nat}:ex G (.setd x) ρ=some (.nx (ρ.set x (.mu (.dct [])))):=id rfl
theorem mW{G:GS}{ρ:List Sl}{x:Nat}{d:D}(h:ρ[x]?=some (.mu d)):ex G (.retm x) ρ=some (.rt d):=by
 show (match ρ[x]? with|some (.mu d)=>some (Out.rt d)|_=>none)=_
 rw[h]
namespace Pg
section
variable {G:GS}{T:Table}{w h:Nat}{sp:List Spot}
noncomputable def BZ(s:Spot):Int:=if s.e then s.x else s.x+1
noncomputable def zZ(s:Spot):Int:=if s.n then s.y else s.y+1
noncomputable def iQ(s:Spot):D:=.tup [.int (BZ s),.int (zZ s)]
noncomputable def zA:IS:=(.put 1 (.var 4) (.tup (.cons (.ite (.tr (.var 5)) (.var 3) (.bin .add (.var 3) (.lit (.int 1)))) (.cons (.ite (.tr (.var 6)) (.var 2) (.bin .add (.var 2) (.lit (.int 1)))) .nil))))
noncomputable def CO:IS:=(.loop [4,5,6] true .seq (.meth (.var 0) "heap" (.cons (.var 3) (.cons (.var 2) .nil))) zA)
noncomputable def uP:IS:=(.loop [3] false .rng (.tup (.cons (.fld (.var 0) "wide") .nil)) CO)
noncomputable def fE:IS:=(.seq (.setd 1) (.seq (.loop [2] false .rng (.tup (.cons (.fld (.var 0) "high") .nil)) uP) (.retm 1)))
structure Lines (sp:List Spot) (kvs:List (Int×D)) (n:Nat) (P:Nat→Spot→Prop):Prop where
 ok:∀(k:Int) (d:D),dE kvs k=some d→∃(i:Nat) (s:Spot),k=i∧sp[i]?=some s∧d=iQ s
 has:∀(i:Nat) (s:Spot),sp[i]?=some s→P i s→(dE kvs i).isSome=true
 len:kvs.length≤n
theorem Lines.put{kvs:List (Int×D)}{n:Nat}{P Q:Nat→Spot→Prop}(L:Lines sp kvs n P){i:Nat}{s:Spot}(hs:sp[i]?=some s)(h:∀j t,sp[j]?=some t→Q j t→P j t∨j=i):Lines sp (lD kvs i (iQ s)) (n+1) Q:=by
 refine⟨fun k d e=>?_,fun j t ht hq=>?_,rj HD (succ_le_succ L.len)⟩
 ·rw[uU]at e
  by_cases z:k=i
  ·rw[if_pos z]at e;cases e;exact⟨i,s,z,hs,rfl⟩
  ·rw[if_neg z]at e;exact L.ok k d e
 ·rw[uU]
  by_cases z:(j:Int)=i
  ·rw[if_pos z];rfl
  ·rw[if_neg z]
   rcases h j t ht hq with g|g
   ·exact L.has j t ht g
   ·exact absurd (by rw[g]) z
theorem Lines.mono{kvs:List (Int×D)}{n m:Nat}{P Q:Nat→Spot→Prop}(L:Lines sp kvs n P)(hm:n≤m)(h:∀j t,sp[j]?=some t→Q j t→P j t):Lines sp kvs m Q:=
 ⟨L.ok,fun i s hs hq=>L.has i s hs (h i s hs hq),rj L.len hm⟩
theorem Lines.at_{kvs:List (Int×D)}{n:Nat}{P:Nat→Spot→Prop}(L:Lines sp kvs n P){i:Nat}{s:Spot}(hs:sp[i]?=some s)(hp:P i s):dE kvs i=some (iQ s):=by
 obtain⟨d,hd⟩:=Option.isSome_iff_exists.mp (L.has i s hs hp);obtain⟨j,t,e,ht,rfl⟩:=L.ok _ _ hd;have:j=i:=by exact_mod_cast e.symm
 subst this;rw[hs]at ht;cases ht;exact hd
noncomputable def c7(P:D)(kvs:List (Int×D))(a b c d e:Sl):List Sl:=[.im P,.mu (.dct kvs),a,b,c,d,e]
theorem pM(hf:G.fl "Pile" = bt)
  (hhp:∀(c r w h:Nat) (T:Table) (F S:List D) (x y:Nat),Rect T w h→x<w→y<h→G.me "Pile" "heap" [pile c r w h T F S,.int x,.int y]=some (.ok (hE (aT T x y))))
  {c r:Nat} {F C:List D} (S:Sits T w h sp):∃kvs,aS G 7 fE [pile c r w h T F C]=some (.ok (.dct kvs))∧∀(i:Nat) (s:Spot),sp[i]?=some s→dE kvs i=some (iQ s):=by
 have w64:=S.w64
 have h64:=S.h64
 have e0:∀r',ev G (.var 0) (.im (pile c r w h T F C)::r')=some (bE c r w h (T.map sE) F C):=fun _=>by simp only[zz,yy];rfl
 have cells:∀(x y n:Nat) (kvs:List (Int×D)) (P:Nat→Spot→Prop) (s4 s5 s6:Sl),x<w→y<h→n+64<1000000→Lines sp kvs n P →
   ∃ρ',cV (bD [4,5,6] true) (ex G zA) ((aT T x y).map ip) (c7 (pile c r w h T F C) kvs (.im (.int y)) (.im (.int x)) s4 s5 s6)=some (.nx ρ')∧∃ai t4 t5 t6,ρ'=c7 (pile c r w h T F C) ai (.im (.int y)) (.im (.int x)) t4 t5 t6∧Lines sp ai (n+64) (fun i s=>P i s∨(s.x=x∧s.y=y)):=by
  intro x y n kvs P s4 s5 s6 hx hy hn L;have hl:(aT T x y).length≤64:=rj S.lk.short S.len
  obtain⟨ρ',a,ai,t4,t5,t6,b,L'⟩:=fI (bind:=bD [4,5,6] true) (body:=ex G zA) (fun k ρ=>∃ai t4 t5 t6,ρ=c7 (pile c r w h T F C) ai (.im (.int y)) (.im (.int x)) t4 t5 t6∧Lines sp ai (n+k) (fun i s=>P i s∨((i:Int),s.e,s.n)∈(aT T x y).take k))
   (ds:=(aT T x y).map ip) (k:=0) (ρ:=c7 (pile c r w h T F C) kvs (.im (.int y)) (.im (.int x)) s4 s5 s6) ⟨kvs,s4,s5,s6,rfl,L.mono (by omega) fun j t _ q=>q.elim id fun z=>by simp at z⟩ (by
    rintro k d ρ hd ⟨ai,t4,t5,t6,rfl,L'⟩;rw[qi]at hd;obtain⟨cl,ar,rfl⟩:=qv.mp hd;have hk:k<(aT T x y).length:=(q9.mp ar).1
    obtain⟨i,s,hs,sx,sy,rfl⟩:=(S.lk.mem x y cl).mp (qf ar);refine⟨c7 (pile c r w h T F C) ai (.im (.int y)) (.im (.int x)) (.im (.int i)) (.im (.bl s.e)) (.im (.bl s.n)),rfl,_,RY (kvs:=ai) (i:=i) (d:=iQ s) ?_ ?_ rfl (by have:=L'.len;omega),lD ai i (iQ s),_,_,_,rfl,?_⟩
    ·unfold c7 iQ BZ zZ;rw[sx,sy];cases s.e<;>cases s.n<;>(simp only[zz,yy,aA,aC,eQ];rfl)
    ·unfold c7;simp only[zz,yy]
    ·refine(L'.put hs fun j t ht q=>?_).mono (by omega) fun _ _ _ q=>q
     rcases q with q|q
     ·exact .inl (.inl q)
     ·rw[sf,List.take_add_one,ar]at q
      rcases uy.mp q with q|q
      ·exact .inl (.inr (by rw[sf];exact q))
      ·refine .inr ?_;have q:((j:Int),t.e,t.n)=((i:Int),s.e,s.n):=by simpa using q
       have q:(j:Int)=i:=congrArg (·.1) q
       exact_mod_cast q)
  refine⟨ρ',a,ai,t4,t5,t6,b,L'.mono (by rw[qj];omega) fun j t ht q=>q.imp id fun⟨q1,q2⟩=>?_⟩
  rw[qj,sf,List.take_length];exact(S.lk.mem x y _).mpr ⟨j,t,ht,q1,q2,rfl⟩
 have row:∀(y n:Nat) (kvs:List (Int×D)) (P:Nat→Spot→Prop) (s3 s4 s5 s6:Sl),y<h→n+64*64+64<1000000→Lines sp kvs n P →
   ∃ρ',ex G uP (c7 (pile c r w h T F C) kvs (.im (.int y)) s3 s4 s5 s6)=some (.nx ρ')∧∃ai t3 t4 t5 t6,ρ'=c7 (pile c r w h T F C) ai (.im (.int y)) t3 t4 t5 t6∧Lines sp ai (n+64*64) (fun i s=>P i s∨s.y=y):=by
  intro y n kvs P s3 s4 s5 s6 hy hn L;obtain⟨ρ',a,ai,t3,t4,t5,t6,b,L'⟩:=fI (bind:=bD [3] false) (body:=ex G CO) (fun k ρ=>∃ai t3 t4 t5 t6,ρ=c7 (pile c r w h T F C) ai (.im (.int y)) t3 t4 t5 t6∧Lines sp ai (n+k*64) (fun i s=>P i s∨(s.y=y∧s.x<k)))
   (ds:=(List.range w).map fun (k:Nat)=>D.int k) (k:=0) (ρ:=c7 (pile c r w h T F C) kvs (.im (.int y)) s3 s4 s5 s6) ⟨kvs,s3,s4,s5,s6,rfl,L.mono (by omega) fun j t _ q=>q.elim id fun z=>by omega⟩ (by
    rintro x d ρ hd ⟨ai,t3,t4,t5,t6,rfl,L'⟩;rw[qi]at hd;obtain⟨x',fz,rfl⟩:=qv.mp hd;have hx:x<w:=by have:=(q9.mp fz).1;rwa [qz]at this
    obtain rfl:x=x':=by rw[uh hx]at fz;exact qu fz
    rw[sf]at L';have bx:n+x*64+64<1000000:=by have:x*64≤64*64:=Nat.mul_le_mul_right 64 (by omega);omega
    obtain⟨ρ2,l2,kvs2,u4,u5,u6,rfl,L2⟩:=cells x y _ ai _ t4 t5 t6 hx hy bx L';refine⟨c7 (pile c r w h T F C) ai (.im (.int y)) (.im (.int x)) t4 t5 t6,rfl,_,(eN (d:=hE (aT T x y)) ?_ eD).trans l2,kvs2,_,u4,u5,u6,rfl,L2.mono (by omega) fun j t ht q=>?_⟩
    ·exact xT (c:=c) (r:=r) (w:=w) (h:=h) (T:=T.map sE) (F:=F) (S:=C) (ds:=[.int x,.int y]) rfl (e0 _) (by simp only[zz,yy,aA,aC]) (hhp c r w h T F C x y S.rect hx hy)
    ·rcases q with q|⟨q1,q2⟩
     ·exact .inl (.inl q)
     ·by_cases z:t.x=x
      ·exact .inr ⟨z,q1⟩
      ·exact .inl (.inr ⟨q1,by omega⟩))
  refine⟨ρ',(eN (d:=.tup [.int ((w:Nat):Int)]) ?_ (eK (by omega))).trans a,ai,t3,t4,t5,t6,b,L'.mono ?_ fun j t ht q=>q.imp id fun q=>⟨q,?_⟩⟩
  ·unfold c7;rw[oS,aU,gX hf (e0 _)];simp only[zz,yy,aA,aC]
  ·rw[qj,qz];have:(0+w)*64≤64*64:=Nat.mul_le_mul_right 64 (by omega)
   omega
  ·rw[qj,qz,sf];exact S.xlt (qf ht)
 obtain⟨ρ',a,ai,t2,t3,t4,t5,t6,rfl,L'⟩:=fI (bind:=bD [2] false) (body:=ex G uP) (fun k ρ=>∃ai t2 t3 t4 t5 t6,ρ=c7 (pile c r w h T F C) ai t2 t3 t4 t5 t6∧Lines sp ai (k*(64*64)) (fun i s=>s.y<k))
  (ds:=(List.range h).map fun (k:Nat)=>D.int k) (k:=0) (ρ:=c7 (pile c r w h T F C) [] .un .un .un .un .un) ⟨[],.un,.un,.un,.un,.un,rfl,⟨fun _ _ z=>(nomatch (show none=some _ from z)),fun _ _ _ z=>absurd z (Nat.not_lt_zero _),uu _⟩⟩ (by
   rintro y d ρ hd ⟨ai,t2,t3,t4,t5,t6,rfl,L'⟩;rw[qi]at hd;obtain⟨y',b8,rfl⟩:=qv.mp hd;have hy:y<h:=by have:=(q9.mp b8).1;rwa [qz]at this
   obtain rfl:y=y':=by rw[uh hy]at b8;exact qu b8
   rw[sf]at L';have by_:y*(64*64)+64*64+64<1000000:=by have:y*(64*64)≤64*(64*64):=Nat.mul_le_mul_right _ (by omega);omega
   obtain⟨ρ2,l2,kvs2,u3,u4,u5,u6,rfl,L2⟩:=row y _ ai _ t3 t4 t5 t6 hy by_ L';exact⟨c7 (pile c r w h T F C) ai (.im (.int y)) t3 t4 t5 t6,rfl,_,l2,kvs2,_,u3,u4,u5,u6,rfl,L2.mono (by omega) fun j t ht q=>by omega⟩)
 refine⟨ai,aO (ρ:=[.im (pile c r w h T F C),.un,.un,.un,.un,.un,.un]) rfl (aI RX (aI ((eN (d:=.tup [.int ((h:Nat):Int)]) ?_ (eK (by omega))).trans a) (mW rfl))),fun i s hs=>L'.at_ hs ?_⟩
 ·simp only[List.set];rw[oS,aU,iO hf (e0 _)];simp only[zz,yy,aA,aC]
 ·rw[qj,qz,sf];exact S.ylt (qf hs)
end
end Pg
theorem GQ{α:Type}{l:List α}{x:Nat}{a:α}(h:l[x]?=some a):l.set x a=l:=by
 apply List.ext_getElem?;intro i
 by_cases e:x=i
 ·subst e;rw[r8 (q9.mp h).1,h]
 ·rw[rg e]
theorem oQ{G:GS}{ρ:List Sl}{x:Nat}{t e:IE}{b:Bool}{d:D}{ds:List D}(ht:ev G t (view ρ)=some (.bl b))(he:ev G e ρ=some d)(hx:ρ[x]?=some (.mu (.lst ds)))(hl:ds.length<1000000):ex G (.iff t (.app x e) .nop) ρ=some (.nx (ρ.set x (.mu (.lst (ds++if b then [d] else []))))):=by
 cases b with
 |true=>exact kB ht (Pg.uD he hx hl)
 |false =>
  rw[eF ht bG,if_neg (by decide),sk,GQ hx]
theorem qR{bind:D→List Sl→Option (List Sl)}{body:List Sl→Option Out}(P:Nat→List Sl→Prop){n:Nat}{ρ:List Sl}(h0:P 0 ρ)(st:∀k,k<n→∀ρ,P k ρ→∃ρ1,bind (.int (k:Nat)) ρ=some ρ1∧∃ρ2,body ρ1=some (.nx ρ2)∧P (k+1) ρ2) :
  ∃ρ',cV bind body ((List.range n).map fun (k:Nat)=>D.int k) ρ=some (.nx ρ')∧P n ρ':=by
 obtain⟨ρ',a,b⟩:=fI (bind:=bind) (body:=body) P (ds:=(List.range n).map fun (k:Nat)=>D.int k) (k:=0) h0 fun k d ρ hd hp=>by
  rw[qi]at hd;obtain⟨k',fj,rfl⟩:=qv.mp hd;have hk:k<n:=by have:=(q9.mp fj).1;rwa [qz]at this
  obtain rfl:k=k':=by rw[uh hk]at fj;exact qu fj
  rw[sf]at hp ⊢;exact st k hk ρ hp
 exact⟨ρ',a,by rw[qj,qz,sf]at b;exact b⟩
theorem lS{α:Type}{enc:α→D}{bind:D→List Sl→Option (List Sl)}{body:List Sl→Option Out}(P:Nat→List Sl→Prop){L:List α}{ρ:List Sl}(h0:P 0 ρ)(st:∀k a,L[k]?=some a→∀ρ,P k ρ→∃ρ1,bind (enc a) ρ=some ρ1∧∃ρ2,body ρ1=some (.nx ρ2)∧P (k+1) ρ2) :
  ∃ρ',cV bind body (L.map enc) ρ=some (.nx ρ')∧P L.length ρ':=by
 obtain⟨ρ',a,b⟩:=fI (bind:=bind) (body:=body) P (ds:=L.map enc) (k:=0) h0 fun k d ρ hd hp=>by
  rw[qi]at hd;obtain⟨x,hx,rfl⟩:=qv.mp hd;rw[sf]at hp ⊢;exact st k x hx ρ hp
 exact⟨ρ',a,by rw[qj,sf]at b;exact b⟩
namespace Pg
section
variable {G:GS}{T:Table}{w h:Nat}{sp:List Spot}
noncomputable def i5(c n k:Nat):List (Nat×Nat×Bool):=(if decide (k % c<c-1) then [(k,k+1,false)] else [])++(if decide (k+c<n) then [(k,k+c,true)] else [])
noncomputable def bY(c n k:Nat):List (Nat×Nat×Bool):=(List.range k).flatMap (i5 c n)
theorem vN{c n k:Nat}:bY c n (k+1)=bY c n k++i5 c n k:=by
 unfold bY;rw[range_succ,List.flatMap_append,List.flatMap_cons,List.flatMap_nil,sk]
theorem QI{c n k:Nat}:(i5 c n k).length≤2:=by
 unfold i5;rw[sh];split<;>split<;>simp
theorem jK{c n:Nat}:∀k,(bY c n k).length≤2*k
 | 0=>uu _
 |k+1=>by
  rw[vN,sh];have:=jK (c:=c) (n:=n) k
  have:=QI (c:=c) (n:=n) (k:=k)
  omega
theorem ZE{c n k:Nat}{j:Nat×Nat×Bool}(h:j∈bY c n k):j.1<k:=by
 unfold bY at h;obtain⟨i,hi,hj⟩:=List.mem_flatMap.mp h;have hi:=ur.mp hi
 unfold i5 at hj
 rcases uy.mp hj with q|q<;>(split at q<;>first|(simp only[rn]at q;rw[q];exact hi)|(simp at q))
theorem SQ{α:Type}{a b:α}:atI [a,b] 0=some a∧atI [a,b] 1=some b:=⟨rfl,rfl⟩
noncomputable def jg(j:Nat×Nat×Bool):D:=.tup [.int j.1,.int j.2.1,.bl j.2.2]
noncomputable def IU(sp:List Spot)(k:Nat)(l:Bool):Int:=match sp[k]? with
 |some s=>if l then zZ s else BZ s
 |none=>0
noncomputable def jD(sp:List Spot)(j:Nat×Nat×Bool):D:=.tup [.int j.1,.int j.2.1,.bl j.2.2,.int (IU sp j.1 j.2.2)]
noncomputable def jsE(sp:List Spot)(c r:Nat):D:=.lst ((bY c (c*r) (c*r)).map (jD sp))
theorem QH{c n k:Nat}{α:Type}{f:Nat×Nat×Bool→α}:(i5 c n k).map f=(if decide (k % c<c-1) then [f (k,k+1,false)] else [])++(if decide (k+c<n) then [f (k,k+c,true)] else []):=by
 unfold i5;rw[uj];cases decide (k % c<c-1)<;>cases decide (k+c<n)<;>rfl
noncomputable def fB:IS:=(.seq (.set 2 (.bin .mul (.var 0) (.var 1))) (.seq (.setm 3 (.lst .nil)) (.seq (.loop [4] false .rng (.tup (.cons (.var 2) .nil)) (.seq (.iff (.bin .lt (.bin .mod (.var 4) (.var 0)) (.bin .sub (.var 0) (.lit (.int 1)))) (.app 3 (.tup (.cons (.var 4) (.cons (.bin .add (.var 4) (.lit (.int 1))) (.cons (.lit (.bl false)) .nil))))) .nop) (.iff (.bin .lt (.bin .add (.var 4) (.var 0)) (.var 2)) (.app 3 (.tup (.cons (.var 4) (.cons (.bin .add (.var 4) (.var 0)) (.cons (.lit (.bl true)) .nil))))) .nop))) (.retm 3))))
theorem AA{a b:Nat}(h:0<b):af .mod (.int (a:Int)) (.int (b:Int))=some (.int ((a % b:Nat):Int)):=(kM (by omega)).trans (by rw[Int.natCast_emod])
theorem SF{a b:Nat}(h:0<b)(h1:b<1000000):af .fdiv (.int (a:Int)) (.int (b:Int))=some (.int ((a / b:Nat):Int)):=(kN (by omega) (by omega)).trans (by rw[Int.natCast_ediv])
theorem jL{a b:Nat}(h:a≤1000000):af .mul (.int (a:Int)) (.int (b:Int))=some (.int ((a*b:Nat):Int)):=(IF (by omega) (by omega)).trans (by rw[Int.natCast_mul])
theorem SH{a b:Nat}(hb:1≤b):decide ((a:Int)<(b:Int)-1)=decide (a<b-1):=decide_eq_decide.mpr (by omega)
theorem pK{c r:Nat}(hc:1≤c)(ao:c*r≤64)(bo:c≤64):aS G 5 fB [.int c,.int r]=some (.ok (.lst ((bY c (c*r) (c*r)).map jg))):=by
 refine aO (ρ:=[.im (.int c),.im (.int r),.un,.un,.un]) rfl ?_;refine aI (aN (d:=.int ((c*r:Nat):Int)) (by simp only[zz,yy,aA,aC,jL (show c≤1000000 by omega)])) (aI (jO (ds:=[]) (by simp only[zz,yy,aC])) ?_)
 simp only[List.set];obtain⟨ρ',l,s4,rfl⟩:=qR (bind:=bD [4] false) (body:=ex G (.seq (.iff (.bin .lt (.bin .mod (.var 4) (.var 0)) (.bin .sub (.var 0) (.lit (.int 1)))) (.app 3 (.tup (.cons (.var 4) (.cons (.bin .add (.var 4) (.lit (.int 1))) (.cons (.lit (.bl false)) .nil))))) .nop) (.iff (.bin .lt (.bin .add (.var 4) (.var 0)) (.var 2)) (.app 3 (.tup (.cons (.var 4) (.cons (.bin .add (.var 4) (.var 0)) (.cons (.lit (.bl true)) .nil))))) .nop)))
  (fun k ρ=>∃s4,ρ=[.im (.int c),.im (.int r),.im (.int ((c*r:Nat):Int)),.mu (.lst ((bY c (c*r) k).map jg)),s4]) (n:=c*r) (ρ:=[.im (.int c),.im (.int r),.im (.int ((c*r:Nat):Int)),.mu (.lst []),.un]) ⟨_,rfl⟩ (by
   rintro k hk ρ ⟨s4,rfl⟩;have hl:=jK (c:=c) (n:=c*r) k
   refine⟨_,rfl,_,aI (oQ (b:=decide (k % c<c-1)) (d:=jg (k,k+1,false)) ?_ ?_ rfl (by rw[qj];omega)) (oQ (b:=decide (k+c<c*r)) (d:=jg (k,k+c,true)) ?_ ?_ rfl ?_),.im (.int k),?_⟩
   ·simp only[List.set];simp only[zz,yy,aA,aC,AA hc,SH hc]
   ·simp only[List.set];simp only[zz,yy,aA,aC];rfl
   ·simp only[List.set];simp only[zz,yy,aA,aC];exact congrArg (fun b=>some (D.bl b)) (decide_eq_decide.mpr (by omega))
   ·simp only[List.set];simp only[zz,yy,aA,aC];rfl
   ·rw[sh,qj];split<;>simp<;>omega
   ·simp only[List.set,vN,uj,List.append_assoc,QH])
 exact aI ((eN (d:=.tup [.int ((c*r:Nat):Int)]) (by simp only[zz,yy,aA,aC]) (eK (by omega))).trans l) (mW rfl)
noncomputable def aFn:IS:=(.app 2 (.tup (.cons (.var 3) (.cons (.var 4) (.cons (.var 5) (.cons (.ite (.tr (.var 5)) (.ix (.ix (.var 1) (.var 3)) (.lit (.int 1))) (.ix (.ix (.var 1) (.var 3)) (.lit (.int 0)))) .nil))))))
noncomputable def fF:IS:=(.seq (.set 1 (.call "edge_lines" (.cons (.var 0) .nil))) (.seq (.setm 2 (.lst .nil)) (.seq (.loop [3,4,5] true .seq (.call "neighbours" (.cons (.fld (.var 0) "columns") (.cons (.fld (.var 0) "rows") .nil))) aFn) (.retm 2))))
theorem QP{k:Nat}{s:Spot}{l:Bool}(h:sp[k]?=some s):IU sp k l=if l then zZ s else BZ s:=by unfold IU;rw[h]
theorem pP(hf:G.fl "Pile" = bt){c r:Nat}{F C:List D}{kvs:List (Int×D)}(hel:G.fn "edge_lines" [pile c r w h T F C]=some (.ok (.dct kvs)))(hk:∀(i:Nat) (s:Spot),sp[i]?=some s→dE kvs i=some (iQ s))
  (hnb:G.fn "neighbours" [.int c,.int r]=some (.ok (.lst ((bY c (c*r) (c*r)).map jg)))) (ao:c*r≤64) (aq:sp.length=c*r):aS G 6 fF [pile c r w h T F C]=some (.ok (jsE sp c r)):=by
 have e0:∀r',ev G (.var 0) (.im (pile c r w h T F C)::r')=some (bE c r w h (T.map sE) F C):=fun _=>by simp only[zz,yy];rfl
 refine aO (ρ:=[.im (pile c r w h T F C),.un,.un,.un,.un,.un]) rfl ?_;refine aI (aN (d:=.dct kvs) (by simp only[zz,yy,aA,aC,hel])) (aI (jO (ds:=[]) (by simp only[zz,yy,aC])) ?_)
 simp only[List.set];have hl:=jK (c:=c) (n:=c*r) (c*r)
 obtain⟨ρ',l,s3,s4,s5,rfl⟩:=lS (enc:=jg) (bind:=bD [3,4,5] true) (body:=ex G aFn) (fun k ρ=>∃s3 s4 s5,ρ=[.im (pile c r w h T F C),.im (.dct kvs),.mu (.lst (((bY c (c*r) (c*r)).take k).map (jD sp))),s3,s4,s5])
  (L:=bY c (c*r) (c*r)) (ρ:=[.im (pile c r w h T F C),.im (.dct kvs),.mu (.lst []),.un,.un,.un]) ⟨_,_,_,rfl⟩ (by
   rintro k j hj ρ ⟨s3,s4,s5,rfl⟩;have ha:j.1<sp.length:=by rw[aq];exact ZE (qf hj)
   have hs:=qh ha
   refine⟨[.im (pile c r w h T F C),.im (.dct kvs),.mu (.lst (((bY c (c*r) (c*r)).take k).map (jD sp))),.im (.int j.1),.im (.int j.2.1),.im (.bl j.2.2)],rfl,_,uD (d:=jD sp j) ?_ rfl (by rw[qj,tw];omega),.im (.int j.1),.im (.int j.2.1),.im (.bl j.2.2),?_⟩
   ·have hv:=hk j.1 _ hs
    unfold jD;rw[QP hs];cases hb:j.2.2
    ·simp only[zz,yy,aA,aC,eQ,hv,iQ,SQ.1,SQ.2];rfl
    ·simp only[zz,yy,aA,aC,eQ,hv,iQ,SQ.1,SQ.2];rfl
   ·rw[List.take_add_one,hj,uj];rfl)
 rw[List.take_length]at l;refine aI ((eN (d:=.lst ((bY c (c*r) (c*r)).map jg)) ?_ eD).trans l) (mW rfl);rw[kS,aU,gN hf (e0 _),aU,nR hf (e0 _)];simp only[zz,yy,aA,aC,hnb]
noncomputable def kO:IS:=(.ret true (.comp 3 [(2,0)] [1] false .seq (.call "all_joints" (.cons (.var 0) .nil)) (.bin .notin (.sl (.var 1) false (.lit .non) true (.lit (.int 2))) (.fld (.var 2) "severed")) (.var 1)))
end
end Pg
theorem wU{α:Type}{f:D→Option (Option D)}{enc g:α→D}{p:α→Bool}:∀{L:List α},(∀a∈L,f (enc a)=some (if p a then some (g a) else none))→bO f (L.map enc)=some ((L.filter p).map g)
 |[],_=>rfl
 |a::r,e=>by
  rw[sq];unfold bO;rw[e a (uf),wU fun x hx=>e x (qq _ hx)]
  cases h:p a
  ·rw[List.filter_cons_of_neg (by simp[h])];rfl
  ·rw[List.filter_cons_of_pos (by simp[h])];rfl
theorem kR{α:Type}{G:GS}{ρ:List Sl}{n:Nat}{fr:List (Nat×Nat)}{tg:List Nat}{tp:Bool}{k:Src}{src test elt:IE}{s:D}{L:List α}(enc g:α→D)(p:α→Bool)(h1:ev G src ρ=some s)(h2:items k s=some (L.map enc))
  (h3:∀a∈L,∃ρ1,bD tg tp (enc a) (frame n fr ρ)=some ρ1∧ev G test ρ1=some (.bl (p a))∧ev G elt ρ1=some (g a)):ev G (.comp n fr tg tp k src test elt) ρ=some (.lst ((L.filter p).map g)):=by
 rw[uE,h1,ud,h2,ud,wU (g:=g) (p:=p)]
 ·rfl
 ·intro a ha;obtain⟨ρ1,e1,e2,e3⟩:=h3 a ha;rw[e1,ud,e2,ud];cases p a
  ·rfl
  ·show Option.map some (ev G elt ρ1)=_
   rw[e3];rfl
theorem fS{α:Type}{f:α→D}:∀{L:List α},(∀a,ax (f a) (f a)=true)→iK (L.map f) (L.map f)=true
 |[],_=>by rw[map_nil,iK]
 |a::r,h=>by rw[sq,iK,h a,fS (L:=r) h];rfl
theorem jG{α:Type}{f:α→D}{L:List α}(h:∀a,flat 7 (f a)=true):plain (.lst (L.map f))=true:=by
 show (L.map f).all (flat 7)=true
 rw[all_map];exact all_eq_true.mpr fun a _=>h a
theorem jQ{xs ys:List D}:ax (.lst xs) (.lst ys)=iK xs ys:=by rw[ax]
namespace Pg
section
variable {G:GS}
theorem aFb{sp:List Spot}{j:Nat×Nat×Bool}:ax (jD sp j) (jD sp j)=true:=by
 unfold jD;simp[ax,iK]
noncomputable def vW:IS:=(.seq (.set 3 (.ite (.tr (.var 1)) (.fld (.var 0) "high") (.fld (.var 0) "wide"))) (.seq (.iff (.or (.bin .lt (.var 2) (.lit (.int 0))) (.bin .gt (.var 2) (.var 3))) (.rse "NoPlace") .nop) (.seq (.set 4 (.comp 4 [(2,1),(3,2)] [1] false .seq (.call "joints" (.cons (.var 0) .nil)) (.bin .eq (.sl (.var 1) true (.lit (.int 2)) false (.lit .non)) (.tup (.cons (.var 2) (.cons (.var 3) .nil)))) (.sl (.var 1) false (.lit .non) true (.lit (.int 2))))) (.ret false (.mk "Pile" (.cons (.fld (.var 0) "columns") (.cons (.fld (.var 0) "rows") (.cons (.fld (.var 0) "table") (.cons (.fld (.var 0) "folds") (.cons (.bin .add (.fld (.var 0) "severed") (.bcall .tuple (.cons (.var 4) .nil))) .nil))))))))))
theorem SD{a b:Bool}{i j:Int}:af .eq (.tup [.bl a,.int i]) (.tup [.bl b,.int j])=some (.bl ((a == b)&&(i == j))):=by
 show oEq _ _=_
 unfold oEq;rw[show (plain (.tup [.bl a,.int i])&&plain (.tup [.bl b,.int j]))=true from rfl]
 simp[ax,iK]
noncomputable def TK(p:Table×Nat×Nat)(f:Fold):Table×Nat×Nat:=(foldT f.sd f.over f.k p.1,if f.sd.up then max f.k (p.2.1-f.k) else p.2.1,if f.sd.up then p.2.2 else max f.k (p.2.2-f.k))
noncomputable def runs(c r:Nat)(fs:List Fold):Table×Nat×Nat:=fs.foldl TK (gA c r,c,r)
theorem pY{c r:Nat}{fs:List Fold}{f:Fold}:runs c r (fs++[f])=TK (runs c r fs) f:=by unfold runs;rw[List.foldl_append];rfl
noncomputable def bS(c r:Nat)(fs:List Fold):D:=pile c r (runs c r fs).2.1 (runs c r fs).2.2 (runs c r fs).1 (fs.map Fold.d) []
structure Stg (c r:Nat) (fs:List Fold) (sp:List Spot):Prop where
 sits:Sits (runs c r fs).1 (runs c r fs).2.1 (runs c r fs).2.2 sp
 len:sp.length=c*r
def Fits(c r:Nat)(fs:List Fold)(f:Fold):Prop:=1≤f.k∧f.k<ext f.sd (runs c r fs).2.1 (runs c r fs).2.2
theorem Stg.fold{c r:Nat}{fs:List Fold}{sp:List Spot}(S:Stg c r fs sp){f:Fold}{top low:Int}(ok:Fits c r fs f)(ht:∀s∈sp,s.z≤top)(hl:∀s∈sp,low≤s.z) :
  Stg c r (fs++[f]) (sp.map (cO f.sd f.over f.k (max f.k (ext f.sd (runs c r fs).2.1 (runs c r fs).2.2-f.k)) top low)):=by
 refine⟨?_,by rw[qj];exact S.len⟩
 rw[pY];exact S.sits.fold ok.1 ok.2 ht hl
structure Stgs (c r:Nat) (fs:List Fold) (sps:List (List Spot)):Prop where
 len:sps.length=fs.length+1
 at_:∀i sp,sps[i]?=some sp→Stg c r (fs.take i) sp
 ok:∀i f,fs[i]?=some f→Fits c r (fs.take i) f
theorem EW(o4:∀(c r w h:Nat) (T:Table) (F:List D) (sd:Side) (over:Bool) (k:Nat),Rect T w h→w≤1000→h≤1000→pF 400000 T→1≤k→(k<if sd.up then w else h)→F.length≤1000 →
   G.fn "folded" [pile c r w h T F [],.str sd.str,.bl over,.int k]=some (.ok (pile c r (if sd.up then max k (w-k) else w) (if sd.up then h else max k (h-k)) (foldT sd over k T) (F++[eP sd over k]) [])))
  {c r:Nat} {fs:List Fold} {sp:List Spot} (S:Stg c r fs sp) {f:Fold} (ok:Fits c r fs f) (hl:fs.length≤1000):G.fn "folded" [bS c r fs,.str f.sd.str,.bl f.over,.int f.k]=some (.ok (bS c r (fs++[f]))):=by
 have a:=S.sits.w64
 have b:=S.sits.h64
 unfold bS;rw[o4 c r _ _ _ _ f.sd f.over f.k S.sits.rect (by omega) (by omega) (fun s hs x hx=>rj (S.sits.few s hs x hx) (by decide)) ok.1 ok.2 (by rw[qj];exact hl),pY,uj]
 rfl
end
section
variable {G:GS}
noncomputable def pD(p:Nat×Nat):D:=.tup [.int p.1,.int p.2]
noncomputable def pairOf(j:Nat×Nat×Bool):Nat×Nat:=(j.1,j.2.1)
noncomputable def left(c n:Nat)(sev:List (Nat×Nat)):List (Nat×Nat×Bool):=(bY c n n).filter fun j=>!sev.contains (pairOf j)
noncomputable def nT(sp:List Spot)(l:Bool)(n:Int)(j:Nat×Nat×Bool):Bool:=(j.2.2 == l)&&(IU sp j.1 j.2.2 == n)
noncomputable def eW(c n:Nat)(sp:List Spot)(sev:List (Nat×Nat))(l:Bool)(k:Int):List (Nat×Nat):=((left c n sev).filter (nT sp l k)).map pairOf
theorem aAv{p q:Nat×Nat}:ax (pD p) (pD q)=(p == q):=by
 unfold pD;obtain⟨a,b⟩:=p;obtain⟨c,d⟩:=q;simp only[ax,iK,Bool.and_true];rw[Bool.eq_iff_iff];simp;omega
theorem EB{p:Nat×Nat}{sev:List (Nat×Nat)}:af .notin (pD p) (.tup (sev.map pD))=some (.bl (!sev.contains p)):=by
 show (if (plain (pD p)&&(sev.map pD).all plain)=true then some (D.bl (!(sev.map pD).any fun y=>ax y (pD p))) else none)=_
 rw[if_pos]
 ·congr 2
  rw[List.any_map]
  congr 1
  rw[List.contains_eq_any_beq]
  congr 1
  funext q
  show ax (pD q) (pD p)=(p == q)
  rw[aAv,Bool.beq_comm]
 ·rw[qt];exact⟨rfl,all_eq_true.mpr fun x hx=>by obtain⟨y,_,rfl⟩:=sv.mp hx;rfl⟩
theorem yF(hf:G.fl "Pile" = bt){c r w h:Nat}{T:Table}{F:List D}{sp:List Spot}{sev:List (Nat×Nat)}(haj:G.fn "all_joints" [pile c r w h T F (sev.map pD)]=some (.ok (jsE sp c r))) :
  aS G 1 kO [pile c r w h T F (sev.map pD)]=some (.ok (.lst ((left c (c*r) sev).map (jD sp)))):=by
 refine aO (ρ:=[.im (pile c r w h T F (sev.map pD))]) rfl (aV ?_);refine kR (jD sp) (jD sp) (fun j=>!sev.contains (pairOf j)) (s:=jsE sp c r) (by simp only[zz,yy,aA,aC,haj]) eD fun j _=>⟨[.un,.im (jD sp j),.im (pile c r w h T F (sev.map pD))],rfl,?_,by simp only[zz,yy]⟩
 rw[bW,jH (c:=c) (r:=r) (w:=w) (h:=h) (T:=T.map sE) (F:=F) (S:=sev.map pD) hf (by simp only[zz,yy];rfl),BW,lT]
 unfold jD;simp only[zz,yy,aA,aC,part,intOf];exact EB (p:=pairOf j)
theorem SI(hf:G.fl "Pile" = bt){c r w h:Nat}{T:Table}{F:List D}{sp:List Spot}{sev:List (Nat×Nat)}(R:Rect T w h)(oz:G.fn "joints" [pile c r w h T F (sev.map pD)]=some (.ok (.lst ((left c (c*r) sev).map (jD sp)))))
  (oq:∀(c r:Int) (T row:List D) (F S:List D),T[0]?=some (.lst row)→G.mo "Pile" [.int c,.int r,.lst T,.tup F,.tup S]=some (.ok (bE c r row.length T.length T F S)))
  {l:Bool} {n:Int} (h0:0≤n) (h1:n≤((if l then h else w:Nat):Int)) (hlen:sev.length+c*r*2≤1000000) :
  aS G 5 vW [pile c r w h T F (sev.map pD),.bl l,.int n]=some (.ok (pile c r w h T F ((sev++eW c (c*r) sp sev l n).map pD))):=by
 have e0:∀r',ev G (.var 0) (.im (pile c r w h T F (sev.map pD))::r')=some (bE c r w h (T.map sE) F (sev.map pD)):=fun _=>by simp only[zz,yy];rfl
 have em:=oq c r (T.map sE) ((T.getD 0 []).map hE) F ((sev++eW c (c*r) sp sev l n).map pD) (by
  have:=R.len;have:=R.h1
  rw[qi,qd,qh (by omega)];rfl)
 rw[qj,qj,R.len,show (T.getD 0 []).length=_ from R.width]at em
 refine aO (ρ:=[.im (pile c r w h T F (sev.map pD)),.im (.bl l),.im (.int n),.un,.un]) rfl ?_;refine aI (aN (d:=.int ((if l then h else w:Nat):Int)) ?_) (aI (eF ?_ bG) (aI (aN (d:=.lst ((eW c (c*r) sp sev l n).map pD)) ?_) (aV ?_)))
 ·rw[iV];cases l
  ·simp only[zz,yy,aA,aC,eQ,gX hf (e0 _)];rfl
  ·simp only[zz,yy,aA,aC,eQ,iO hf (e0 _)];rfl
 ·simp only[List.set];simp only[zz,yy,aA,aC];rw[qm (show ¬n<0 by omega),qm (show ¬((if l then h else w:Nat):Int)<n by omega)]
 ·simp only[List.set];have e:=kR (G:=G) (L:=left c (c*r) sev) (jD sp) (fun j=>pD (pairOf j)) (nT sp l n) (n:=4) (fr:=[(2,1),(3,2)]) (tg:=[1]) (tp:=false) (k:=.seq) (src:=.call "joints" (.cons (.var 0) .nil))
   (test:=.bin .eq (.sl (.var 1) true (.lit (.int 2)) false (.lit .non)) (.tup (.cons (.var 2) (.cons (.var 3) .nil)))) (elt:=.sl (.var 1) false (.lit .non) true (.lit (.int 2))) (ρ:=[.im (pile c r w h T F (sev.map pD)),.im (.bl l),.im (.int n),.im (.int ((if l then h else w:Nat):Int)),.un]) (s:=.lst ((left c (c*r) sev).map (jD sp)))
   (by simp only[zz,yy,aA,aC,oz]) eD fun j _=>⟨[.un,.im (jD sp j),.im (.bl l),.im (.int n)],rfl,by
    unfold jD;rw[bW,BW,lT];simp only[zz,yy,aA,aC,part,intOf];exact SD,by
    unfold jD;rw[BW,lT];simp only[zz,yy,aA,aC,part,intOf];rfl⟩
  rw[e];unfold eW;rw[um];rfl
 ·simp only[List.set];rw[KD,aU,gN hf (e0 _),aU,nR hf (e0 _),aU,sG hf (e0 _),aU,sH hf (e0 _),aU,bW,jH hf (e0 _)];simp only[zz,yy,aA,aC];rw[show bf .tuple [.lst ((eW c (c*r) sp sev l n).map pD)]=some (.tup ((eW c (c*r) sp sev l n).map pD)) from rfl]
  have ar:(eW c (c*r) sp sev l n).length≤c*r*2:=by
   unfold eW left;rw[qj];refine rj (length_filter_le _ _) (rj (length_filter_le _ _) ?_);have:=jK (c:=c) (n:=c*r) (c*r)
   omega
  simp only[aA,aFO (a:=sev.map pD) (b:=(eW c (c*r) sp sev l n).map pD) (by rw[qj,qj];omega),←uj,zz,yy,em]
  rfl
theorem aAw(hf:G.fl "Pile" = bt)(hx:G.xn "NoPlace" = true){c r w h:Nat}{T:Table}{F C:List D}{l:Bool}{n:Int}(h0:n<0∨((if l then h else w:Nat):Int)<n):aS G 5 vW [pile c r w h T F C,.bl l,.int n]=some (.er "NoPlace"):=by
 have e0:∀r',ev G (.var 0) (.im (pile c r w h T F C)::r')=some (bE c r w h (T.map sE) F C):=fun _=>by simp only[zz,yy];rfl
 refine NM (ρ:=[.im (pile c r w h T F C),.im (.bl l),.im (.int n),.un,.un]) rfl ?_;refine aI (aN (d:=.int ((if l then h else w:Nat):Int)) ?_) (gS (kB ?_ (aAo hx)) fun _ z=>by cases z)
 ·rw[iV];cases l
  ·simp only[zz,yy,aA,aC,eQ,gX hf (e0 _)];rfl
  ·simp only[zz,yy,aA,aC,eQ,iO hf (e0 _)];rfl
 ·simp only[List.set];refine(eV (x:=decide (n<0)) (y:=decide (((if l then h else w:Nat):Int)<n)) ?_ fun _=>?_).trans ?_
  ·simp only[gC,iG,bL];simp only[zz,yy,aA,aC]
  ·simp only[gC,iG,bL];simp only[zz,yy,aA,aC]
  ·rcases h0 with h0|h0
   ·rw[sr h0];rfl
   ·rw[sr h0,Bool.or_true]
end
section
variable {G:GS}
theorem md{i n:Int}(h:0<n):af .mod (.int i) (.int n)=some (.int (i % n)):=kM h
theorem dv{i n:Int}(h:0<n)(h':n<1000000):af .fdiv (.int i) (.int n)=some (.int (i / n)):=kN h h'
theorem ZQ(i:Int)(n:Nat)(h:0<n):∃k:Nat,k<n∧i % (n:Int)=k:=by
 have h0:=Int.emod_nonneg i (show (n:Int)≠0 by omega)
 have h1:=Int.emod_lt_of_pos i (show (0:Int)<n by omega)
 exact⟨(i % (n:Int)).toNat,by omega,by omega⟩
end
end Pg
namespace K02
open Pg
section
variable {G:GS}
end
end K02
namespace Pg
section
variable {G:GS}
theorem uS:∀sp:List Spot,∃top low:Int,(∀s∈sp,s.z≤top)∧(∀s∈sp,low≤s.z)
 |[]=>⟨0,0,fun _ h=>(nomatch h),fun _ h=>(nomatch h)⟩
 |s::sp=>by
  obtain⟨t,l,h1,h2⟩:=uS sp;refine⟨max t s.z,min l s.z,fun u hu=>?_,fun u hu=>?_⟩
  ·rcases rz.mp hu with e|hu
   ·rw[e];omega
   ·have:=h1 u hu;omega
  ·rcases rz.mp hu with e|hu
   ·rw[e];omega
   ·have:=h2 u hu;omega
theorem Stg.fold'{c r:Nat}{fs:List Fold}{sp:List Spot}(S:Stg c r fs sp){f:Fold}(ok:Fits c r fs f):∃ko,Stg c r (fs++[f]) ko:=by
 obtain⟨t,l,h1,h2⟩:=uS sp;exact⟨_,S.fold ok h1 h2⟩
noncomputable def fQ:IS:=(.seq (.set 1 (.bin .mod (.var 0) (.lit (.int 8)))) (.seq (.set 2 (.bin .fdiv (.var 0) (.lit (.int 8)))) (.seq (.iff (.bin .lt (.var 1) (.lit (.int 4))) (.ret false (.tup (.cons (.bin .add (.lit (.int 1)) (.bin .mod (.var 2) (.lit (.int 5)))) (.cons (.bin .add (.lit (.int 1)) (.bin .mod (.bin .fdiv (.var 2) (.lit (.int 5))) (.lit (.int 4)))) .nil)))) .nop) (.seq (.iff (.bin .eq (.var 1) (.lit (.int 4))) (.ret false (.tup (.cons (.bin .add (.lit (.int 1)) (.bin .mod (.var 2) (.lit (.int 24)))) (.cons (.lit (.int 1)) .nil)))) .nop) (.seq (.iff (.bin .eq (.var 1) (.lit (.int 5))) (.ret false (.tup (.cons (.bin .add (.lit (.int 1)) (.bin .mod (.var 2) (.lit (.int 2)))) (.cons (.bin .add (.lit (.int 1)) (.bin .mod (.bin .fdiv (.var 2) (.lit (.int 2))) (.lit (.int 12)))) .nil)))) .nop) (.seq (.iff (.bin .eq (.var 1) (.lit (.int 6))) (.ret false (.tup (.cons (.bin .add (.lit (.int 1)) (.bin .mod (.var 2) (.lit (.int 8)))) (.cons (.bin .add (.lit (.int 1)) (.bin .mod (.bin .fdiv (.var 2) (.lit (.int 8))) (.lit (.int 8)))) .nil)))) .nop) (.ret false (.ix (.lst (.cons (.tup (.cons (.lit (.int 8)) (.cons (.lit (.int 8)) .nil))) (.cons (.tup (.cons (.lit (.int 16)) (.cons (.lit (.int 4)) .nil))) (.cons (.tup (.cons (.lit (.int 3)) (.cons (.lit (.int 21)) .nil))) (.cons (.tup (.cons (.lit (.int 64)) (.cons (.lit (.int 1)) .nil))) .nil))))) (.bin .mod (.var 2) (.lit (.int 4)))))))))))
theorem DM{cell:Int}:∃c r:Nat,1≤c∧1≤r∧c*r≤64∧aS G 3 fQ [.int cell]=some (.ok (.tup [.int c,.int r])):=by
 have e1:ev G (.bin .mod (.var 0) (.lit (.int 8))) [.im (.int cell),.un,.un]=some (.int (cell % 8)):=by simp only[zz,yy,aA,aC,md (show (0:Int)<8 by decide)]
 have e2:ev G (.bin .fdiv (.var 0) (.lit (.int 8))) [.im (.int cell),.im (.int (cell % 8)),.un]=some (.int (cell / 8)):=by simp only[zz,yy,aA,aC,dv (show (0:Int)<8 by decide) (show (8:Int)<1000000 by decide)]
 have t1:ev G (.bin .lt (.var 1) (.lit (.int 4))) (view [.im (.int cell),.im (.int (cell % 8)),.im (.int (cell / 8))])=some (.bl (decide (cell % 8<4))):=by simp only[zz,yy,aA,aC]
 have tq:∀n:Int,ev G (.bin .eq (.var 1) (.lit (.int n))) (view [.im (.int cell),.im (.int (cell % 8)),.im (.int (cell / 8))])=some (.bl (cell % 8 == n)):=fun n=>by simp only[zz,yy,aA,aC]
 have start:∀{o:D},(∃x,ex G x [.im (.int cell),.im (.int (cell % 8)),.im (.int (cell / 8))]=some (.rt o)∧fQ=(.seq (.set 1 (.bin .mod (.var 0) (.lit (.int 8)))) (.seq (.set 2 (.bin .fdiv (.var 0) (.lit (.int 8)))) x)))→aS G 3 fQ [.int cell]=some (.ok o):=by
  rintro o ⟨x,hx,e⟩;rw[e];exact aO (ρ:=[.im (.int cell),.un,.un]) rfl (aI (aN e1) (aI (aN e2) hx))
 have nr:∀(d:D) ρ',Out.rt d≠.nx ρ':=fun _ _ z=>by cases z
 have f:∀(i:Int) (n:Nat),0<n→∃k:Nat,k<n∧i % (n:Int)=k:=ZQ
 cases h1:decide (cell % 8<4) with
 |true =>
  obtain⟨a,ha,ea⟩:=f (cell / 8) 5 (by decide)
  obtain⟨b,hb,eb⟩:=f (cell / 8 / 5) 4 (by decide)
  have ea:cell / 8 % 5=a:=ea
  have eb:cell / 8 / 5 % 4=b:=eb
  refine⟨1+a,1+b,by omega,by omega,?_,start ⟨_,gS (kB (t1.trans (by rw[h1])) (aV ?_)) (nr _),rfl⟩⟩
  ·have:(1+a)*(1+b)≤5*4:=mul_le_mul (by omega) (by omega)
   omega
  ·simp only[zz,yy,aA,aC,md (show (0:Int)<5 by decide),dv (show (0:Int)<5 by decide) (show (5:Int)<1000000 by decide),md (show (0:Int)<4 by decide),ea,eb]
   push_cast
   rfl
 |false =>
  have n1:=eF (a:=.ret false (.tup (.cons (.bin .add (.lit (.int 1)) (.bin .mod (.var 2) (.lit (.int 5)))) (.cons (.bin .add (.lit (.int 1)) (.bin .mod (.bin .fdiv (.var 2) (.lit (.int 5))) (.lit (.int 4)))) .nil)))) (t1.trans (by rw[h1])) (bG (G:=G))
  cases h2:(cell % 8 == 4) with
  |true =>
   obtain⟨a,ha,ea⟩:=f (cell / 8) 24 (by decide)
   have ea:cell / 8 % 24=a:=ea
   refine⟨1+a,1,by omega,by omega,by omega,start ⟨_,aI n1 (gS (kB ((tq 4).trans (by rw[h2])) (aV ?_)) (nr _)),rfl⟩⟩
   simp only[zz,yy,aA,aC,md (show (0:Int)<24 by decide),ea]
   push_cast
   rfl
  |false =>
   cases h3:(cell % 8 == 5) with
   |true =>
    obtain⟨a,ha,ea⟩:=f (cell / 8) 2 (by decide)
    obtain⟨b,hb,eb⟩:=f (cell / 8 / 2) 12 (by decide)
    have ea:cell / 8 % 2=a:=ea
    have eb:cell / 8 / 2 % 12=b:=eb
    refine⟨1+a,1+b,by omega,by omega,?_,start ⟨_,aI n1 (aI (eF ((tq 4).trans (by rw[h2])) bG) (gS (kB ((tq 5).trans (by rw[h3])) (aV ?_)) (nr _))),rfl⟩⟩
    ·have:(1+a)*(1+b)≤2*12:=mul_le_mul (by omega) (by omega)
     omega
    ·simp only[zz,yy,aA,aC,md (show (0:Int)<2 by decide),dv (show (0:Int)<2 by decide) (show (2:Int)<1000000 by decide),md (show (0:Int)<12 by decide),ea,eb]
     push_cast
     rfl
   |false =>
    cases h4:(cell % 8 == 6) with
    |true =>
     obtain⟨a,ha,ea⟩:=f (cell / 8) 8 (by decide)
     obtain⟨b,hb,eb⟩:=f (cell / 8 / 8) 8 (by decide)
     have ea:cell / 8 % 8=a:=ea
     have eb:cell / 8 / 8 % 8=b:=eb
     refine⟨1+a,1+b,by omega,by omega,?_,start ⟨_,aI n1 (aI (eF ((tq 4).trans (by rw[h2])) bG) (aI (eF ((tq 5).trans (by rw[h3])) bG) (gS (kB ((tq 6).trans (by rw[h4])) (aV ?_)) (nr _)))),rfl⟩⟩
     ·have:(1+a)*(1+b)≤8*8:=mul_le_mul (by omega) (by omega)
      omega
     ·simp only[zz,yy,aA,aC,md (show (0:Int)<8 by decide),dv (show (0:Int)<8 by decide) (show (8:Int)<1000000 by decide),ea,eb]
      push_cast
      rfl
    |false =>
     obtain⟨a4,b4,f4⟩:=f (cell / 8) 4 (by decide)
     have f4:cell / 8 % 4=a4:=f4
     have key:∀(c r:Nat),1≤c→1≤r→c*r≤64→([.tup [.int 8,.int 8],.tup [.int 16,.int 4],.tup [.int 3,.int 21],.tup [.int 64,.int 1]]:List D)[a4]?=some (.tup [.int c,.int r])→∃c r:Nat,1≤c∧1≤r∧c*r≤64∧aS G 3 fQ [.int cell]=some (.ok (.tup [.int c,.int r])):=by
      intro c r hc hr ao he;refine⟨c,r,hc,hr,ao,start ⟨_,aI n1 (aI (eF ((tq 4).trans (by rw[h2])) bG) (aI (eF ((tq 5).trans (by rw[h3])) bG) (aI (eF ((tq 6).trans (by rw[h4])) bG) (aV ?_)))),rfl⟩⟩
      simp only[zz,yy,aA,aC,md (show (0:Int)<4 by decide),f4]
      exact fT he
     have:a4=0∨a4=1∨a4=2∨a4=3:=by omega
     rcases this with rfl|rfl|rfl|rfl
     ·exact key 8 8 (by decide) (by decide) (by decide) rfl
     ·exact key 16 4 (by decide) (by decide) (by decide) rfl
     ·exact key 3 21 (by decide) (by decide) (by decide) rfl
     ·exact key 64 1 (by decide) (by decide) (by decide) rfl
theorem ne_int{i:Int}:af .ne (.int i) (.int i)=some (.bl false):=by rw[YY,beq_self_eq_true];rfl
theorem ne_str{a b:Str}(h1:kz a=true)(h2:kz b=true)(h:(a == b)=true):af .ne (.str a) (.str b)=some (.bl false):=by
 show (if plain (.str a)&&plain (.str b) then some (D.bl (!ax (.str a) (.str b))) else none)=_
 rw[if_pos (by rw[qt];exact⟨h1,h2⟩),ax,h];rfl
end
end Pg
end Z
namespace G11
abbrev Nm:=Nat→Nat
structure Good (n:Nat) (bK:List (Nat×Nat)) (l:Nm):Prop where
 le:∀k,k<n→l k≤k
 tie:∀a b,(a,b)∈bK→l a=l b
 hang:∀g:Nm,(∀a b,(a,b)∈bK→g a=g b)→∀k,k<n→g (l k)=g k
theorem Good.one{n:Nat}{bK:List (Nat×Nat)}{l m:Nm}(h:Good n bK l)(g:Good n bK m){k:Nat}(hk:k<n):l k≤m k:=by
 have e:=g.hang l h.tie k hk
 rw[←e];exact h.le _ (Nat.lt_of_le_of_lt (g.le k hk) hk)
theorem Good.uniq{n:Nat}{bK:List (Nat×Nat)}{l m:Nm}(h:Good n bK l)(g:Good n bK m){k:Nat}(hk:k<n):l k=m k:=
 Nat.le_antisymm (h.one g hk) (g.one h hk)
theorem Good.idem{n:Nat}{bK:List (Nat×Nat)}{l:Nm}(h:Good n bK l){k:Nat}(hk:k<n):l (l k)=l k:=h.hang l h.tie k hk
structure Half (n:Nat) (bK:List (Nat×Nat)) (l:Nm):Prop where
 le:∀k,k<n→l k≤k
 hang:∀g:Nm,(∀a b,(a,b)∈bK→g a=g b)→∀k,k<n→g (l k)=g k
theorem Half.start{n:Nat}{bK:List (Nat×Nat)}:Half n bK id:=⟨fun k _=>qk k,fun _ _ _ _=>rfl⟩
noncomputable def hung(l:Nm)(p q:Nat):Nm:=fun k=>if l k=max p q then min p q else l k
theorem Half.hung{n:Nat}{bK:List (Nat×Nat)}{l:Nm}{a b:Nat}(h:Half n bK l)(m:(a,b)∈bK)(ha:a<n)(hb:b<n):Half n bK (hung l (l a) (l b)):=by
 refine⟨fun k hk=>?_,fun g hg k hk=>?_⟩
 ·unfold G11.hung;have:=h.le k hk
  split<;>omega
 ·unfold G11.hung;have e1:=h.hang g hg a ha
  have e2:=h.hang g hg b hb
  have e3:=hg a b m
  have e4:=h.hang g hg k hk
  have e5:g (max (l a) (l b))=g (min (l a) (l b)):=by
   rcases Nat.le_total (l a) (l b) with q|q
   ·rw[Nat.max_eq_right q,min_eq_left q,e1,e2,e3]
   ·rw[Nat.max_eq_left q,min_eq_right q,e1,e2,e3]
  split
  ·rename_i q;rw[←e5,←q,e4]
  ·exact e4
theorem JM{l:Nm}{p q a b:Nat}(h:l a=l b):hung l p q a=hung l p q b:=by
 unfold hung;rw[h]
theorem EM{l:Nm}{a b:Nat}:hung l (l a) (l b) a=hung l (l a) (l b) b:=by
 unfold hung
 rcases Nat.le_total (l a) (l b) with q|q
 ·rw[Nat.max_eq_right q,min_eq_left q,if_pos rfl];split
  ·rfl
  ·rfl
 ·rw[Nat.max_eq_left q,min_eq_right q,if_pos rfl];split
  ·rfl
  ·rfl
noncomputable def hungs:List (Nat×Nat)→Nm→Nm
 |[],l=>l
 | (a,b)::ts,l=>hungs ts (hung l (l a) (l b))
theorem nZ{a b:Nat}:∀(ts:List (Nat×Nat)) {l:Nm},l a=l b→hungs ts l a=hungs ts l b
 |[],_,h=>h
 | (_,_)::ts,_,h=>nZ ts (JM h)
theorem qM{a b:Nat}:∀(ts:List (Nat×Nat)) {l:Nm},(a,b)∈ts→hungs ts l a=hungs ts l b
 | (c,d)::ts,l,h=>by
  rcases rz.mp h with e|h
  ·cases e;exact nZ ts EM
  ·exact qM ts h
theorem oA{n:Nat}{bK:List (Nat×Nat)}:∀(ts:List (Nat×Nat)) {l:Nm},(∀a b,(a,b)∈ts→(a,b)∈bK∧a<n∧b<n)→Half n bK l→Half n bK (hungs ts l)
 |[],_,_,h=>h
 | (a,b)::ts,_,m,h=>by
  obtain⟨m1,m2,m3⟩:=m a b uf;exact oA ts (fun a b z=>m a b (qq _ z)) (h.hung m1 m2 m3)
theorem hungs_good{n:Nat}{bK:List (Nat×Nat)}(h:∀a b,(a,b)∈bK→a<n∧b<n):Good n bK (hungs bK id):=
 let g:=oA bK (fun a b z=>⟨z,h a b z⟩) Half.start
 ⟨g.le,fun _ _=>qM bK,g.hang⟩
noncomputable def upd(l:Nm)(a v:Nat):Nm:=fun k=>if k=a then v else l k
noncomputable def tied(l:Nm)(a b:Nat):Nm:=upd (upd l a (min (l a) (l b))) b (min (l a) (l b))
theorem Half.tied{n:Nat}{bK:List (Nat×Nat)}{l:Nm}{a b:Nat}(h:Half n bK l)(m:(a,b)∈bK)(ha:a<n)(hb:b<n):Half n bK (tied l a b):=by
 have h1:=h.le a ha
 have h2:=h.le b hb
 refine⟨fun k hk=>?_,fun g hg k hk=>?_⟩
 ·unfold G11.tied upd;have:=h.le k hk
  split
  ·rename_i q;subst q;omega
  ·split
   ·rename_i q;subst q;omega
   ·exact this
 ·unfold G11.tied upd;have e1:=h.hang g hg a ha
  have e2:=h.hang g hg b hb
  have e3:=hg a b m
  have e5:g (min (l a) (l b))=g a:=by
   rcases Nat.le_total (l a) (l b) with q|q
   ·rw[min_eq_left q,e1]
   ·rw[min_eq_right q,e2,e3]
  split
  ·rename_i q;rw[q,e5,e3]
  ·split
   ·rename_i q;rw[q,e5]
   ·exact h.hang g hg k hk
noncomputable def go:List (Nat×Nat)→Nm×Bool→Nm×Bool
 |[],s=>s
 | (a,b)::ts,(l,mv)=>go ts (if l a=l b then(l,mv) else(tied l a b,true))
theorem sX{n:Nat}{bK:List (Nat×Nat)}:∀(ts:List (Nat×Nat)) {s:Nm×Bool},(∀a b,(a,b)∈ts→(a,b)∈bK∧a<n∧b<n)→Half n bK s.1→Half n bK (go ts s).1
 |[],_,_,h=>h
 | (a,b)::ts,(l,mv),m,h=>by
  obtain⟨m1,m2,m3⟩:=m a b uf;unfold go;split
  ·exact sX ts (fun a b z=>m a b (qq _ z)) h
  ·exact sX (s:=(G11.tied l a b,true)) ts (fun a b z=>m a b (qq _ z)) (h.tied m1 m2 m3)
theorem sW:∀(ts:List (Nat×Nat)) {l:Nm},(go ts (l,true)).2=true
 |[],_=>rfl
 | (a,b)::ts,l=>by
  unfold go;split
  ·exact sW ts
  ·exact sW ts
theorem vZ:∀(ts:List (Nat×Nat)) {l:Nm},(go ts (l,false)).2=false→(go ts (l,false)).1=l∧∀a b,(a,b)∈ts→l a=l b
 |[],l,_=>⟨rfl,fun _ _ z=>nomatch z⟩
 | (a,b)::ts,l,h=>by
  unfold go at h ⊢;split at h
  ·rename_i q;rw[if_pos q];obtain⟨h1,h2⟩:=vZ ts h;refine⟨h1,fun c d z=>?_⟩
   rcases rz.mp z with e|z
   ·cases e;exact q
   ·exact h2 c d z
  ·rw[sW]at h;cases h
noncomputable def sum(n:Nat)(l:Nm):Nat:=((List.range n).map l).sum
theorem iM{n:Nat}{l:Nm}:sum (n+1) l=sum n l+l n:=by
 unfold sum;rw[range_succ,uj,List.sum_append];simp
theorem GH{l m:Nm}:∀{n:Nat},(∀k,k<n→l k≤m k)→sum n l≤sum n m
 | 0,_=>qk _
 |n+1,h=>by
  rw[iM,iM];exact Nat.add_le_add (GH fun k z=>h k (Nat.lt_succ_of_lt z)) (h n (ug n))
theorem GG{l m:Nm}:∀{n:Nat},(∀k,k<n→l k≤m k)→(∃k,k<n∧l k<m k)→sum n l<sum n m
 | 0,_,⟨_,z,_⟩=>nomatch z
 |n+1,h,⟨k,z,q⟩=>by
  rw[iM,iM]
  rcases Nat.lt_or_eq_of_le (Nat.le_of_lt_succ z) with z|z
  ·exact Nat.add_lt_add_of_lt_of_le (GG (fun k z=>h k (Nat.lt_succ_of_lt z)) ⟨k,z,q⟩) (h n (ug n))
  ·subst z;exact Nat.add_lt_add_of_le_of_lt (GH fun k z=>h k (Nat.lt_succ_of_lt z)) q
theorem MV{l:Nm}{a b:Nat}:∀k,tied l a b k≤l k:=fun k=>by
 unfold tied upd;split
 ·rename_i q;subst q;exact Nat.min_le_right _ _
 ·split
  ·rename_i q;subst q;exact Nat.min_le_left _ _
  ·exact qk _
theorem zH{n:Nat}{l:Nm}{a b:Nat}(ha:a<n)(hb:b<n)(h:l a≠l b):sum n (tied l a b)<sum n l:=by
 refine GG (fun k _=>MV k) ?_
 rcases Nat.lt_or_gt_of_ne h with q|q
 ·refine⟨b,hb,?_⟩;unfold tied upd;rw[if_pos rfl];omega
 ·have ne:a≠b:=fun z=>h (by rw[z])
  refine⟨a,ha,?_⟩;unfold tied upd;rw[if_neg ne,if_pos rfl];omega
theorem lR{n:Nat}:∀(ts:List (Nat×Nat)) {s:Nm×Bool},(∀a b,(a,b)∈ts→a<n∧b<n)→sum n (go ts s).1≤sum n s.1
 |[],_,_=>qk _
 | (a,b)::ts,(l,mv),m=>by
  unfold go;split
  ·exact lR ts fun a b z=>m a b (qq _ z)
  ·rename_i q;obtain⟨m2,m3⟩:=m a b uf;exact rj (lR (s:=(tied l a b,true)) ts fun a b z=>m a b (qq _ z)) (le_of_lt (zH m2 m3 q))
theorem qP{n:Nat}:∀(ts:List (Nat×Nat)) {l:Nm},(∀a b,(a,b)∈ts→a<n∧b<n)→(go ts (l,false)).2=true→sum n (go ts (l,false)).1<sum n l
 |[],_,_,h=>nomatch h
 | (a,b)::ts,l,m,h=>by
  unfold go at h ⊢;split at h
  ·rename_i q;rw[if_pos q];exact qP ts (fun a b z=>m a b (qq _ z)) h
  ·rename_i q;rw[if_neg q];obtain⟨m2,m3⟩:=m a b uf;exact Nat.lt_of_le_of_lt (lR (s:=(tied l a b,true)) ts fun a b z=>m a b (qq _ z)) (zH m2 m3 q)
theorem GI:∀{n:Nat},2*sum n id≤n*n
 | 0=>qk _
 |n+1=>by
  rw[iM];have:=GI (n:=n)
  have e:(n+1)*(n+1)=n*n+2*n+1:=by rw[Nat.add_mul,Nat.mul_add];omega
  show 2*(sum n id+n)≤_
  omega
noncomputable def heads(n:Nat)(l:Nm):List Nat:=(List.range n).filter fun k=>l k == k
noncomputable def cells(n:Nat)(l:Nm)(h:Nat):List Nat:=(List.range n).filter fun k=>l k == h
noncomputable def told(n:Nat)(l:Nm):List (List Nat):=(heads n l).map (cells n l)
theorem xD{n:Nat}{l m:Nm}(h:∀k,k<n→l k=m k):told n l=told n m:=by
 have e1:heads n l=heads n m:=List.filter_congr fun k z=>by rw[h k (ur.mp z)]
 have e2:∀x,cells n l x=cells n m x:=fun x=>List.filter_congr fun k z=>by rw[h k (ur.mp z)]
 unfold told;rw[e1];exact List.map_congr_left fun x _=>e2 x
noncomputable def put(k c:Nat):List (Nat×List Nat)→List (Nat×List Nat)
 |[]=>[(k,[c])]
 | (h,cs)::r=>if h=k then(h,cs++[c])::r else(h,cs)::put k c r
noncomputable def dict(m:Nat)(l:Nm):List (Nat×List Nat):=(heads m l).map fun h=>(h,cells m l h)
theorem zM{k c:Nat}:∀{r:List (Nat×List Nat)},(∀h cs,(h,cs)∈r→h≠k)→put k c r=r++[(k,[c])]
 |[],_=>rfl
 | (h,cs)::r,n=>by
  unfold put;rw[if_neg (n h cs uf),zM fun h cs z=>n h cs (qq _ z)]
  rfl
theorem zN{k c:Nat}{f g:Nat→List Nat}(e1:g k=f k++[c])(e2:∀h,h≠k→g h=f h):∀{hs:List Nat},hs.Nodup→k∈hs→put k c (hs.map fun h=>(h,f h))=hs.map fun h=>(h,g h)
 |[],_,h=>nomatch h
 |h::hs,nd,m=>by
  have nd':=nodup_cons.mp nd
  rw[sq,sq];unfold put
  by_cases q:h=k
  ·subst q;rw[if_pos rfl,e1]
   congr 1
   exact List.map_congr_left fun x z=>by rw[e2 x fun w=>nd'.1 (by rw[←w];exact z)]
  ·rw[if_neg q,e2 h q]
   congr 1
   refine zN e1 e2 nd'.2 ?_
   rcases rz.mp m with z|z
   ·exact(q z.symm).elim
   ·exact z
theorem FH{n m:Nat}{l:Nm}(h1:∀k,k<n→l k≤k)(h2:∀k,k<n→l (l k)=l k)(hm:m<n):dict (m+1) l=put (l m) m (dict m l):=by
 have ec:∀h,cells (m+1) l h=if l m=h then cells m l h++[m] else cells m l h:=fun h=>by
  unfold cells;rw[range_succ,List.filter_append]
  by_cases q:l m=h
  ·rw[if_pos q];simp[q]
  ·rw[if_neg q];simp[q]
 have hin:∀x,x∈heads m l↔x<m∧l x=x:=fun x=>by
  unfold heads;simp[mem_filter]
 have eh:heads (m+1) l=if l m=m then heads m l++[m] else heads m l:=by
  unfold heads;rw[range_succ,List.filter_append]
  by_cases q:l m=m
  ·rw[if_pos q];simp[q]
  ·rw[if_neg q];simp[q]
 unfold dict
 by_cases q:l m=m
 ·rw[eh,if_pos q,uj,q,zM]
  ·congr 1
   ·exact List.map_congr_left fun x z=>by
     rw[ec,if_neg];rw[q];exact fun w=>u1 x (by have:=((hin x).mp z).1;omega)
   ·show [(m,cells (m+1) l m)]=[(m,[m])]
    rw[ec,if_pos q];have:cells m l m=[]:=by
     unfold cells;rw[List.filter_eq_nil_iff];intro x z;have z:=ur.mp z
     have:=h1 x (lt_trans z hm)
     simp;omega
    rw[this];rfl
  ·intro h cs z;obtain⟨x,z1,z2⟩:=sv.mp z;cases z2;have:=((hin h).mp z1).1
   omega
 ·rw[eh,if_neg q];refine(zN ?_ ?_ ?_ ?_).symm
  ·rw[ec,if_pos rfl]
  ·intro h z;rw[ec,if_neg (Ne.symm z)]
  ·exact List.Nodup.sublist List.filter_sublist List.nodup_range
  ·rw[hin];have:=h1 m hm
   exact⟨by omega,h2 m hm⟩
end G11
namespace Z
open PySem Pg G11
namespace Gp
noncomputable def CN:IS:=(.iff (.bin .ne (.ixm 3 (.var 5)) (.ixm 3 (.var 6))) (.seq (.put 3 (.var 5) (.bcall .min (.cons (.ixm 3 (.var 5)) (.cons (.ixm 3 (.var 6)) .nil)))) (.seq (.put 3 (.var 6) (.ixm 3 (.var 5))) (.set 4 (.lit (.bl true))))) .nop)
noncomputable def FR:IS:=(.seq (.set 4 (.lit (.bl false))) (.loop [5,6] true .seq (.var 1) CN))
noncomputable def yZ:IS:=(.iff (.bin .eq (.ixm 3 (.var 2)) (.var 2)) (.app 7 (.comp 4 [(2,2),(3,3)] [1] false .rng (.tup (.cons (.var 0) .nil)) (.bin .eq (.ixm 3 (.var 1)) (.var 2)) (.var 1))) .nop)
noncomputable def i_groups:IS:=(.seq (.setm 3 (.comp 2 [] [1] false .rng (.tup (.cons (.var 0) .nil)) (.lit (.bl true)) (.var 1))) (.seq (.set 4 (.lit (.bl true))) (.seq (.whl (.tr (.var 4)) FR) (.seq (.setm 7 (.lst .nil)) (.seq (.loop [2] false .rng (.tup (.cons (.var 0) .nil)) yZ) (.retm 7))))))
noncomputable def nmL(n:Nat)(l:Nm):List D:=(List.range n).map fun k=>D.int (l k:Nat)
noncomputable def tieD(t:Nat×Nat):D:=.tup [.int (t.1:Nat),.int (t.2:Nat)]
theorem ZC{n:Nat}{l:Nm}:(nmL n l).length=n:=by unfold nmL;rw[qj,qz]
theorem mB{n:Nat}{l:Nm}{a:Nat}(h:a<n):atI (nmL n l) (a:Int)=some (.int (l a:Nat)):=fT (by
 unfold nmL;rw[qi,uh h];rfl)
theorem UB{n:Nat}{l:Nm}{a:Nat}(h:a<n):ixN (nmL n l).length (a:Int)=some a:=by
 rw[ZC];unfold ixN;rw[if_pos (by omega),if_pos (by omega)];rfl
theorem IK{n:Nat}{l:Nm}{a v:Nat}:(nmL n l).set a (.int (v:Nat))=nmL n (upd l a v):=by
 refine List.ext_getElem? fun i=>?_
 unfold nmL
 by_cases e:a=i
 ·subst e
  by_cases h:a<n
  ·rw[r8 (by rw[qj,qz];exact h),qi,uh h]
   unfold upd;simp
  ·rw[getElem?_eq_none (by simp;omega),getElem?_eq_none (by simp;omega)]
 ·rw[rg e,qi,qi]
  by_cases h:i<n
  ·rw[uh h];unfold upd;simp[Ne.symm e]
  ·rw[getElem?_eq_none (by simp;omega)];rfl
section
variable {G:GS}{n:Nat}
noncomputable def fg(n:Nat)(T:List D)(l:Nm)(mv:Bool)(k f s:Sl)(out:Sl):List Sl:=[.im (.int (n:Nat)),.im (.lst T),k,.mu (.lst (nmL n l)),.im (.bl mv),f,s,out]
theorem AB{a b:Nat}:bf .min [.int (a:Nat),.int (b:Nat)]=some (.int ((min a b:Nat):Int)):=by
 show some (D.int (if (b:Int)<(a:Int) then(b:Int) else(a:Int)))=_
 congr 2
 split<;>omega
theorem uF{a b:Nat}:((a:Int) == (b:Int))=(a == b):=by
 rw[Bool.eq_iff_iff,su,su];omega
theorem aFM{T:List D}{l:Nm}{mv:Bool}{k s o:Sl}{a:Nat}(h:a<n):ev G (.ixm 3 (.var 5)) (fg n T l mv k (.im (.int (a:Nat))) s o)=some (.int (l a:Nat)):=by
 rw[kD];show atI (nmL n l) (a:Int)=_
 exact mB h
theorem aIj{T:List D}{l:Nm}{mv:Bool}{k s o:Sl}{a:Nat}(h:a<n):ev G (.ixm 3 (.var 6)) (fg n T l mv k s (.im (.int (a:Nat))) o)=some (.int (l a:Nat)):=by
 rw[kD];show atI (nmL n l) (a:Int)=_
 exact mB h
theorem VX{T:List D}{l:Nm}{mv:Bool}{k o:Sl}{a b:Nat}(ha:a<n)(hb:b<n) :
  ex G CN (fg n T l mv k (.im (.int (a:Nat))) (.im (.int (b:Nat))) o)=some (.nx (fg n T (if l a=l b then(l,mv) else(tied l a b,true)).1 (if l a=l b then(l,mv) else(tied l a b,true)).2 k (.im (.int (a:Nat))) (.im (.int (b:Nat))) o)):=by
 have tst:ev G (.bin .ne (.ixm 3 (.var 5)) (.ixm 3 (.var 6))) (view (fg n T l mv k (.im (.int (a:Nat))) (.im (.int (b:Nat))) o))=some (.bl (!decide (l a=l b))):=by
  rw[bW,kD,kD];show (atI (nmL n l) (a:Int)).bind (fun x=>(atI (nmL n l) (b:Int)).bind fun y=>af .ne x y)=_
  rw[mB ha,mB hb];show af .ne (.int _) (.int _)=_
  rw[YY];rw[uF];rfl
 by_cases e:l a=l b
 ·rw[if_pos e];exact eF (by rw[tst,sr e];rfl) bG
 ·rw[if_neg e];refine kB (by rw[tst,qm e];rfl) ?_
  refine aI (KA (d:=.int ((min (l a) (l b):Nat):Int)) (i:=(a:Nat)) (j:=a) (ds:=nmL n l) ?_ rfl rfl (UB ha)) ?_
  ·rw[iX,aU,aU,aFM ha,aIj hb,lU];exact AB
  rw[IK];refine aI (ρ':=fg n T (tied l a b) mv k (.im (.int (a:Nat))) (.im (.int (b:Nat))) o) ?_ (aN (d:=.bl true) rfl);refine(KA (d:=.int ((min (l a) (l b):Nat):Int)) (i:=(b:Nat)) (j:=b) (ds:=nmL n (upd l a (min (l a) (l b)))) ?_ rfl rfl (UB hb)).trans ?_
  ·refine(aFM (k:=k) (s:=.im (.int (b:Nat))) (o:=o) (T:=T) (mv:=mv) ha).trans ?_;unfold upd;rw[if_pos rfl]
  ·rw[IK];rfl
theorem zG{T:List D}{k o:Sl}:∀(ts:List (Nat×Nat)) {l:Nm} {mv:Bool} {f s:Sl},(∀a b,(a,b)∈ts→a<n∧b<n) →
  ∃f' s',cV (bD [5,6] true) (ex G CN) (ts.map tieD) (fg n T l mv k f s o)=some (.nx (fg n T (go ts (l,mv)).1 (go ts (l,mv)).2 k f' s' o))
 |[],l,mv,f,s,_=>⟨f,s,rfl⟩
 | (a,b)::ts,l,mv,f,s,h=>by
  obtain⟨ha,hb⟩:=h a b uf;obtain⟨f',s',e⟩:=zG (T:=T) (k:=k) (o:=o) ts (l:=(if l a=l b then(l,mv) else(tied l a b,true)).1) (mv:=(if l a=l b then(l,mv) else(tied l a b,true)).2) (f:=.im (.int (a:Nat))) (s:=.im (.int (b:Nat))) fun a b z=>h a b (qq _ z)
  refine⟨f',s',?_⟩;rw[sq];unfold cV;show (ex G CN (fg n T l mv k (.im (.int (a:Nat))) (.im (.int (b:Nat))) o)).bind _=_
  rw[VX ha hb];exact e
theorem FY{ts:List (Nat×Nat)}{k o:Sl}(h:∀a b,(a,b)∈ts→a<n∧b<n):∀(N:Nat) {l:Nm} {f s:Sl},Half n ts l→sum n l+2≤N →
  ∃l' f' s',dH (fun ρ=>ev G (.tr (.var 4)) (view ρ)) (ex G FR) N (fg n (ts.map tieD) l true k f s o)=some (.nx (fg n (ts.map tieD) l' false k f' s' o))∧Good n ts l'
 | 0,_,_,_,_,z=>by omega
 | 1,_,_,_,_,z=>by omega
 |N+2,l,f,s,hl,z=>by
  obtain⟨f',s',e⟩:=zG (G:=G) (T:=ts.map tieD) (k:=k) (o:=o) ts (l:=l) (mv:=false) (f:=f) (s:=s) h;have body:ex G FR (fg n (ts.map tieD) l true k f s o)=some (.nx (fg n (ts.map tieD) (go ts (l,false)).1 (go ts (l,false)).2 k f' s' o)):=
   aI (ρ':=fg n (ts.map tieD) l false k f s o) (aN (d:=.bl false) rfl) ((eN (d:=.lst (ts.map tieD)) rfl rfl).trans e)
  have g:=sX ts (s:=(l,false)) (bK:=ts) (fun a b z=>⟨z,h a b z⟩) hl
  cases q:(go ts (l,false)).2 with
  |true =>
   have lt:=qP ts h q
   rw[q]at body;obtain⟨l',f2,s2,w,good⟩:=FY h (N+1) (l:=(go ts (l,false)).1) (f:=f') (s:=s') g (by omega)
   refine⟨l',f2,s2,?_,good⟩;unfold dH;show (ex G FR (fg n (ts.map tieD) l true k f s o)).bind _=_
   rw[body];exact w
  |false =>
   obtain⟨e1,e2⟩:=vZ ts q;rw[q,e1]at body;refine⟨l,f',s',?_,hl.le,e2,hl.hang⟩;unfold dH;show (ex G FR (fg n (ts.map tieD) l true k f s o)).bind _=_
   rw[body];exact(id rfl:dH (fun ρ=>ev G (.tr (.var 4)) (view ρ)) (ex G FR) (N+1) (fg n (ts.map tieD) l false k f' s' o)=some (.nx (fg n (ts.map tieD) l false k f' s' o)))
noncomputable def grpD(g:List Nat):D:=.lst (g.map fun k=>D.int (k:Nat))
theorem MX{T:List D}{l:Nm}{mv:Bool}{f s:Sl}(hn:n≤64):∃k,cV (bD [2] false) (ex G yZ) ((List.range n).map fun (k:Nat)=>D.int k) (fg n T l mv .un f s (.mu (.lst [])))=some (.nx (fg n T l mv k f s (.mu (.lst ((told n l).map grpD))))):=by
 obtain⟨ρ',e,k,rfl⟩:=qR (bind:=bD [2] false) (body:=ex G yZ) (fun m ρ=>∃k,ρ=fg n T l mv k f s (.mu (.lst (((heads m l).map (cells n l)).map grpD)))) (n:=n) (ρ:=fg n T l mv .un f s (.mu (.lst []))) ⟨.un,rfl⟩ (by
  rintro m hm ρ ⟨k,rfl⟩;have hlen:(heads m l).length≤m:=by
   unfold heads;have:=length_filter_le (fun k=>l k == k) (List.range m)
   rwa [qz]at this
  refine⟨fg n T l mv (.im (.int (m:Nat))) f s (.mu (.lst (((heads m l).map (cells n l)).map grpD))),rfl,_,oQ (b:=l m == m) (d:=grpD (cells n l m)) ?_ ?_ rfl (by rw[qj,qj];omega),.im (.int (m:Nat)),?_⟩
  ·rw[bW,kD];show (atI (nmL n l) (m:Int)).bind (fun x=>some (D.int (m:Nat)) |>.bind fun y=>af .eq x y)=_
   rw[mB hm];show af .eq (.int _) (.int _)=_
   rw[QE];rw[uF]
  ·refine kR (L:=List.range n) (fun (k:Nat)=>D.int k) (fun (k:Nat)=>D.int k) (fun k=>l k == m) (s:=.tup [.int (n:Nat)]) rfl (eK (by omega)) fun a ha=>⟨[.un,.im (.int (a:Nat)),.im (.int (m:Nat)),.mu (.lst (nmL n l))],rfl,?_,rfl⟩
   rw[bW,kD];show (atI (nmL n l) (a:Int)).bind (fun x=>some (D.int (m:Nat)) |>.bind fun y=>af .eq x y)=_
   rw[mB (ur.mp ha)];show af .eq (.int _) (.int _)=_
   rw[QE];rw[uF]
  ·have eh:heads (m+1) l=heads m l++if l m == m then [m] else []:=by
    unfold heads;rw[range_succ,List.filter_append];cases q:l m == m<;>simp[q]
   rw[eh];cases l m == m<;>simp<;>rfl)
 exact⟨k,e⟩
theorem groups_ok{ts:List (Nat×Nat)}(hn:n≤64)(h:∀a b,(a,b)∈ts→a<n∧b<n):aS G 8 i_groups [.int (n:Nat),.lst (ts.map tieD)]=some (.ok (.lst ((told n (hungs ts id)).map grpD))):=by
 obtain⟨l',f',s',w,good⟩:=FY (G:=G) (k:=.un) (o:=.un) h 5000 (l:=id) (f:=.un) (s:=.un) Half.start (by
  have:=GI (n:=n)
  have:=mul_le_mul hn hn
  omega)
 obtain⟨k,e⟩:=MX (G:=G) (T:=ts.map tieD) (l:=l') (mv:=false) (f:=f') (s:=s') hn;rw[xD (m:=l') fun k hk=>(hungs_good h).uniq good hk]
 refine aO (ρ:=[.im (.int (n:Nat)),.im (.lst (ts.map tieD)),.un,.un,.un,.un,.un,.un]) rfl (aI (jO (ds:=nmL n id) ?_) (aI (aN (d:=.bl true) rfl) (aI (ρ':=fg n (ts.map tieD) l' false .un f' s' .un) w (aI (ρ':=fg n (ts.map tieD) l' false .un f' s' (.mu (.lst []))) (jO rfl) (aI ((eN (d:=.tup [.int (n:Nat)]) rfl (eK (by omega))).trans e) (mW rfl))))))
 exact cJ (L:=List.range n) (fun (k:Nat)=>D.int k) (fun (k:Nat)=>D.int k) (s:=.tup [.int (n:Nat)]) rfl (eK (by omega)) fun k _=>⟨[.un,.im (.int (k:Nat))],rfl,rfl,rfl⟩
end
noncomputable def i_hung:IS:=(.seq (.set 3 (.bcall .min (.cons (.var 1) (.cons (.var 2) .nil)))) (.seq (.set 4 (.bcall .max (.cons (.var 1) (.cons (.var 2) .nil)))) (.ret true (.comp 4 [(2,4),(3,3)] [1] false .seq (.var 0) (.lit (.bl true)) (.ite (.bin .eq (.var 1) (.var 2)) (.var 3) (.var 1))))))
section
variable {G:GS}{n:Nat}
theorem QO{a b:Nat}:bf .max [.int (a:Nat),.int (b:Nat)]=some (.int ((max a b:Nat):Int)):=by
 show some (D.int (if (b:Int) > (a:Int) then(b:Int) else(a:Int)))=_
 congr 2
 split<;>omega
theorem hung_ok{l:Nm}{p q:Nat}:aS G 5 i_hung [.lst (nmL n l),.int (p:Nat),.int (q:Nat)]=some (.ok (.lst (nmL n (hung l p q)))):=by
 refine aO (ρ:=[.im (.lst (nmL n l)),.im (.int (p:Nat)),.im (.int (q:Nat)),.un,.un]) rfl (aI (aN (d:=.int ((min p q:Nat):Int)) ?_) (aI (aN (d:=.int ((max p q:Nat):Int)) ?_) (aV ?_)))
 ·rw[iX];exact AB
 ·rw[iX];exact QO
 ·refine cJ (L:=List.range n) (fun k=>D.int (l k:Nat)) (fun k=>D.int (hung l p q k:Nat)) (s:=.lst (nmL n l)) rfl rfl fun k _=>⟨[.un,.im (.int (l k:Nat)),.im (.int ((max p q:Nat):Int)),.im (.int ((min p q:Nat):Int))],rfl,rfl,?_⟩
  rw[iV,bW];show ((af .eq (.int (l k:Nat)) (.int ((max p q:Nat):Int))).bind _)=_
  rw[QE,uF];unfold hung
  by_cases e:l k=max p q
  ·rw[if_pos e,e];show (match D.bl (max p q == max p q) with | .bl true=>_ | .bl false=>_|_=>_)=_
   rw[beq_self_eq_true];rfl
  ·rw[if_neg e];show (match D.bl (l k == max p q) with | .bl true=>_ | .bl false=>_|_=>_)=_
   rw[tj.mpr e];rfl
end
end Gp
end Z
namespace Z
open PySem
structure CC where
 N:List Str
 sc:Scope
 fns:List Str
 cls:List Str
 csts:List Str
 mus:List Str
 fresh:List Str
noncomputable def bB(c:CC)(x:Str):Option Nat:=match c.sc.names.lookup x with
 |some .local=>c.N.idxOf? x
 |some .cell=>c.N.idxOf? x
 |some .free=>c.N.idxOf? x
 |_=>none
noncomputable def aP(c:CC)(x:Str):Bool:=c.sc.names.lookup x == some .globalImplicit
noncomputable def ZN(c:CC)(x:Str):Option Nat:=if c.mus.contains x then bB c x else none
noncomputable def one?{α:Type}:List α→Option α
 |[a]=>some a
 |_=>none
noncomputable def nameP:Expr→Option (Str×Pos)
 |.Name x p=>some (x,p)
 |_=>none
noncomputable def CP:Expr→Option (Expr×Str×Pos)
 |.Attribute o m p=>some (o,m,p)
 |_=>none
noncomputable def mJ:Expr→Option (Expr×List Expr×List Keyword×Pos)
 |.Call f as kw p=>some (f,as,kw,p)
 |_=>none
noncomputable def my:Expr→Option (Option Expr×Option Expr×Option Expr×Pos)
 |.Slice a b st p=>some (a,b,st,p)
 |_=>none
noncomputable def tupP:Expr→Option (List Expr×Nat×Pos)
 |.Tuple es k p=>some (es,k,p)
 |_=>none
noncomputable def aFd:Expr→Option (Const×Nat×Pos)
 |.Constant v k p=>some (v,k,p)
 |_=>none
noncomputable def eS(c:CC)(e:Expr):Option Nat:=(nameP e).bind fun x=>ZN c x.1
noncomputable def PQ:Operator→Option O2
 |.Add=>some .add
 |.Sub=>some .sub
 |.Mult=>some .mul
 |.FloorDiv=>some .fdiv
 |.Mod=>some .mod
 |.Pow=>some .pow
 |_=>none
noncomputable def jT:CmpOp→O2
 |.Eq=>.eq
 |.NotEq=>.ne
 |.Lt=>.lt
 |.LtE=>.le
 |.Gt=>.gt
 |.GtE=>.ge
 |.Is=>.is
 |.IsNot=>.isnot
 |.In=>.isin
 |.NotIn=>.notin
noncomputable def pA(x:Str):Option BF:=
 if x = "len" then some .len else if x = "int" then some .int else if x = "list" then some .list else if x = "tuple" then some .tuple else if x = "max" then some .max
 else if x = "min" then some .min else if x = "str" then some .str else if x = "any" then some .any else none
noncomputable def srcOf(x:Str):Option Src:=
 if x = "range" then some .rng else if x = "reversed" then some .rev else none
noncomputable def UN(_:Bool)(_:Src):Bool:=true
noncomputable def jE:List Str:=["int","bool","str","list","tuple"]
noncomputable def dS(c:CC):Expr→Option Nat
 |.Name x _=>match c.sc.names.lookup x with
  |some .local=>c.N.idxOf? x
  |some .cell=>c.N.idxOf? x
  |_=>none
 |_=>none
noncomputable def eR(c:CC):List Expr→Option (List Nat)
 |[]=>some []
 |e::r=>do some ((←dS c e)::(←eR c r))
noncomputable def cM(c:CC):Expr→Option (List Nat×Bool)
 |.Name x p=>(dS c (.Name x p)).map fun i=>([i],false)
 |.Tuple es _ _=>(eR c es).map fun is=>(is,true)
 |_=>none
noncomputable def sO:NameKind→Bool
 |.globalImplicit=>true
 |.globalExplicit=>true
 |_=>false
noncomputable def ownNames(sc:Scope):List Str:=(sc.names.filter fun x=>!sO x.2).map (·.1)
noncomputable def jJ:Expr→Bool
 |.Call _ _ _ _=>false
 |_=>true
noncomputable def kF(c:CC)(sc:Scope):Bool:=
 sc.kind == .function&&sc.names.all (fun x=>x.2 != .cell)&&sc.names.all (fun x=>x.2 != .local || sc.names.lookup x.1 == some .local)&&sc.names.all (fun x=>x.2 != .free || sc.names.lookup x.1 == some .free)&&decide (ownNames sc).Nodup &&
 (ownNames sc).all (fun x=>!(x == ("__debug__":Str))&&!(x == ("__classdict__":Str)))&&!(sc.names.lookup ("__debug__":Str) == some NameKind.globalImplicit) &&
 sc.names.all (fun x=>x.2 != .free || (c.sc.names.lookup x.1 == some .cell || c.sc.names.lookup x.1 == some .free))
noncomputable def freeOf(c:CC)(sc:Scope):List (Str×NameKind)→Option (List (Nat×Nat))
 |[]=>some []
 |x::r=>do some ((←(ownNames sc).idxOf? x.1,←bB c x.1)::(←freeOf c sc r))
noncomputable def own(c:CC)(x:Str):Bool:=c.fns.contains x || c.cls.contains x
noncomputable def xN(c:CC)(x:Str):Option IE:=match bB c x with
 |some i=>some (.var i)
 |none=>if aP c x&&c.csts.contains x then some (.glo x) else none
noncomputable def zK:Const→Option IE
 |.int i=>some (.lit (.int i))
 |.bool b=>some (.lit (.bl b))
 |.str x=>some (.lit (.str x))
 |.none=>some (.lit .non)
 |_=>none
noncomputable def aCB(a:Option IE):UnaryOp→Option IE
 |.USub=>a.map .neg
 |.Not=>a.map fun x=>.not (.tr x)
 |_=>none
noncomputable def boK:BoolOp→Bool
 |.And=>true
 |.Or=>false
noncomputable def FI:List Str:=["SPINE_LINES","WAYS"]
noncomputable def aEG:CmpOp→Option Bool
 |.In=>some false
 |.NotIn=>some true
 |_=>none
noncomputable def aEH(c:CC)(o:CmpOp)(b:Expr):Option (Bool×Str):=(aEG o).bind fun k=>(nameP b).bind fun q=>if aP c q.1&&FI.contains q.1 then some (k,q.1) else none
noncomputable def GX(c:CC)(f:Expr→Option IE)(a:Option IE):List CmpOp→List Expr→Option IE
 |[o],[b]=>a.bind fun x=>match aEH c o b with
  |some q=>some (.inC q.1 q.2 x)
  |none=>(f b).map fun y=>.bin (jT o) x y
 |[o,o'],[b,d]=>a.bind fun x=>(f b).bind fun y=>(f d).map fun z=>.chain (jT o) (jT o') x y z
 |_,_=>none
noncomputable def rW(f:Expr→Option IE):Option Expr→Option IE
 |none=>some (.lit .non)
 |some e=>f e
noncomputable def aCD(m:Option Nat)(a:Option IE)(bl:Bool)(l:IE)(bh:Bool)(h:IE):Option IE:=match m with
 |some i=>some (.slm i bl l bh h)
 |none=>a.map fun x=>.sl x bl l bh h
noncomputable def aCG(m:Option Nat)(a:Option IE)(k:IE):Option IE:=match m with
 |some i=>some (.ixm i k)
 |none=>a.map fun x=>.ix x k
noncomputable def GU(f:Expr→Option IE)(m:Option Nat)(a:Option IE)(i:Expr):Option IE:=match my i with
 |some q=>if q.2.2.1.isSome then none else(rW f q.1).bind fun l=>(rW f q.2.1).bind fun h=>aCD m a q.1.isSome l q.2.1.isSome h
 |none=>(f i).bind (aCG m a)
noncomputable def GV(f:Expr→Option IE)(c:CC):List Expr→Option IE
 |[a,y]=>(nameP y).bind fun y=>if aP c y.1&&jE.contains y.1&&!own c y.1 then(f a).map fun x=>.isi x y.1 else none
 |_=>none
noncomputable def UH(c:CC)(args:List Expr):Option Nat:=(one? args).bind (eS c)
noncomputable def lW(c:CC)(e:Expr):Option (Str×List Expr):=(mJ e).bind fun q=>(nameP q.1).bind fun x=>if q.2.2.1.isEmpty&&aP c x.1&&!own c x.1 then some (x.1,q.2.1) else none
noncomputable def xJ(c:CC)(args:List Expr):Option Expr:=(one? args).bind fun e=>(lW c e).bind fun q=>if q.1 == "reversed" then one? q.2 else none
noncomputable def aHf(b:BF)(as:Option IE)(i:Nat):Option IE:=match b with
 |.len=>some (.lenm i)
 |_=>as.map fun x=>.bcall b x
noncomputable def xI(c:CC)(e:Expr):Option Expr:=(lW c e).bind fun q=>if q.1 == "range" then one? q.2 else none
noncomputable def WV(b:BF)(as:Option IE)(w w2:Option (Option IE)):Option IE:=match b,w,w2 with
 |.list,some o,_=>o.map fun x=>.walk .rev x
 |.list,none,some o=>o.map fun x=>.walk .rng (.tup (.cons x .nil))
 |_,_,_=>as.map fun x=>.bcall b x
noncomputable def DS(f:Expr→Option IE)(c:CC)(b:BF)(args:List Expr)(as:Option IE):Option IE:=match UH c args with
 |some i=>aHf b as i
 |none=>WV b as ((xJ c args).map f) (((one? args).bind (xI c)).map f)
noncomputable def zL(f:Expr→Option IE)(c:CC)(x:Str)(args:List Expr)(as:Option IE):Option IE:=
 if aP c x then
  (if c.fns.contains x then as.map fun y=>.call x y
   else if c.cls.contains x then as.map fun y=>.mk x y
   else if x == "isinstance" then GV f c args
   else(pA x).bind fun b=>DS f c b args as)
 else none
noncomputable def WW(f:Expr→Option IE)(c:CC)(g:Expr)(args:List Expr)(as:Option IE)(p:Pos):Option IE:=match g with
 |.Name x _=>zL f c x args as
 |.Attribute o m ap=>if jJ o&&decide (args.length<30)&&(ap.endLine == p.line) then(f o).bind fun x=>as.map fun y=>.meth x m y else none
 |_=>none
noncomputable def WU(f:Expr→Option IE):List Expr→Option IE
 |[]=>some (.lit (.bl true))
 |[e]=>f e
 |_=>none
noncomputable def GW(c:CC)(sc:Scope)(g:Comprehension)(it:Option (Src×IE))(ct:Expr→Option IE)(el:Option IE):Option IE:=
 (cM { c with N:=ownNames sc,sc:=sc } g.target).bind fun tg=>it.bind fun k=>(WU ct g.ifs).bind fun te=>el.bind fun el=>(freeOf c sc (sc.names.filter fun x=>x.2 == .free)).bind fun fr =>
  if kF c sc&&tg.1.all (fun i=>(fr.lookup i).isNone) then some (.comp (ownNames sc).length fr tg.1 tg.2 k.1 k.2 te el) else none
noncomputable def few(es:List Expr):Bool:=decide (es.length≤100)
mutual
noncomputable def cE:Nat→CC→Expr→Option IE
 | 0,_,_=>none
 |n+1,c,e=>match e with
  |.Name x _=>xN c x
  |.Constant v _ _=>zK v
  |.BinOp a o b _=>(PQ o).bind fun o=>(cE n c a).bind fun x=>(cE n c b).map fun y=>.bin o x y
  |.UnaryOp o a _=>aCB (cE n c a) o
  |.BoolOp o vs _=>cB n c false (boK o) vs
  |.IfExp d a b _=>(cT n c d).bind fun x=>(cE n c a).bind fun y=>(cE n c b).map fun z=>.ite x y z
  |.Compare a os bs _=>GX c (cE n c) (cE n c a) os bs
  |.Tuple es _ _=>if few es then(cA n c es).map .tup else none
  |.List es _=>if few es then(cA n c es).map .lst else none
  |.Subscript a i _=>GU (cE n c) (eS c a) (cE n c a) i
  |.Attribute a f _=>if jJ a then(cE n c a).map fun x=>.fld x f else none
  |.ListComp elt gs sc _=>(one? gs).bind fun g=>if g.is_async=0 then GW c sc g (cI n c g.iter) (cT n { c with N:=ownNames sc,sc:=sc }) (cE n { c with N:=ownNames sc,sc:=sc } elt) else none
  |.Call f args kw p=>if kw.isEmpty then WW (cE n c) c f args (cA n c args) p else none
  |_=>none
noncomputable def cT:Nat→CC→Expr→Option IE
 | 0,_,_=>none
 |n+1,c,e=>match e with
  |.BoolOp o vs _=>cB n c true (boK o) vs
  |.UnaryOp .Not a _=>(cT n c a).map .not
  |.Compare a os bs _=>GX c (cE n c) (cE n c a) os bs
  |.IfExp _ _ _ _=>none
  |e=>(cE n c e).map .tr
noncomputable def cB:Nat→CC→Bool→Bool→List Expr→Option IE
 | 0,_,_,_,_=>none
 |n+1,c,t,k,[]=>none
 |n+1,c,t,k,[a]=>if t then cT n c a else cE n c a
 |n+1,c,t,k,a::b::r=>(if t then cT n c a else cE n c a).bind fun x=>(cB n c t k (b::r)).map fun y=>if k then .and x y else .or x y
noncomputable def cA:Nat→CC→List Expr→Option IE
 | 0,_,_=>none
 |n+1,c,[]=>some .nil
 |n+1,c,e::es=>(cE n c e).bind fun x=>(cA n c es).map fun y=>.cons x y
noncomputable def cI:Nat→CC→Expr→Option (Src×IE)
 | 0,_,_=>none
 |n+1,c,e=>match (lW c e).bind fun q=>(srcOf q.1).map fun k=>(k,q.2) with
  |some q=>(match q.1 with
   |.rng=>(cA n c q.2).map fun y=>(.rng,.tup y)
   |k=>(one? q.2).bind fun a=>(cE n c a).map fun y=>(k,y))
  |none=>(cE n c e).map fun y=>(.seq,y)
end
noncomputable def aHN(i:Expr):Bool:=(my i).isSome
noncomputable def aAh(c:CC):Expr→Bool
 |.Name x _=>(c.fns.contains x&&c.fresh.contains x) || (aP c x&&(x == "list" || x == "sorted")&&!own c x)
 |.Attribute _ m _=>c.fresh.contains m
 |_=>false
noncomputable def gG(c:CC):Expr→Bool
 |.List _ _=>true
 |.ListComp _ _ _ _=>true
 |.Subscript _ i _=>aHN i
 |.Call f _ _ _=>aAh c f
 |_=>false
noncomputable def cW(c:CC)(nm:Option Str)(e:Expr):Option Str:=(mJ e).bind fun q=>(nameP q.1).bind fun f=>(one? q.2.1).bind fun a=>(nameP a).bind fun y=>if q.2.2.1.isEmpty&&nm == some y.1&&aP c f.1 then some f.1 else none
noncomputable def WD(e:Expr):Option Str:=(aFd e).bind fun v=>match v.1 with
 |.str x=>some x
 |_=>none
noncomputable def cH(c:CC)(nm:Option Str):Expr→Option HR
 |.Constant (.bool b) _ _=>some (.lit (.bl b))
 |.Compare e os bs _=>(cW c nm e).bind fun f=>(one? os).bind fun o=>(one? bs).bind fun b=>(WD b).bind fun x=>if o == .Eq then some (.weq f x) else none
 |e=>(cW c nm e).map .word
noncomputable def cN(c:CC):Option Str→Option (Option Nat)
 |none=>some none
 |some n=>if c.sc.names.lookup n == some .local&&!(n == ("__debug__":Str))&&!(n == ("__classdict__":Str)) then(c.N.idxOf? n).map some else none
noncomputable def aCF(f:Expr→Option IE)(c:CC):Option Expr→Option IS
 |none=>some .retn
 |some e=>match eS c e with
  |some i=>some (.retm i)
  |none=>(f e).map fun x=>.ret (gG c e) x
noncomputable def AI:Expr→Bool
 |.Dict [] [] _=>true
 |_=>false
noncomputable def GY(f:Expr→Option IE)(c:CC)(x:Str)(e:Expr)(i:Nat):Option IS:=
 if c.mus.contains x then(if AI e then some (.setd i) else if gG c e then(f e).map fun y=>.setm i y else none) else(f e).map fun y=>.set i y
noncomputable def xM(f:Expr→Option IE)(c:CC)(ts:List Expr)(e:Expr):Option IS:=match tupP e with
 |some _=>none
 |none=>(eR c ts).bind fun is=>(f e).map fun y=>.sett is y
noncomputable def TR(f:Expr→Option IE)(c:CC)(e:Expr):Expr→Option IS
 |.Name x p=>(dS c (.Name x p)).bind (GY f c x e)
 |.Tuple ts _ _=>xM f c ts e
 |.Subscript a i _=>(eS c a).bind fun j=>(f i).bind fun k=>(f e).map fun y=>.put j k y
 |_=>none
noncomputable def SR(c:CC)(e:Expr):Option (Nat×Expr):=(mJ e).bind fun q=>(CP q.1).bind fun g=>(eS c g.1).bind fun j=>(one? q.2.1).bind fun a=>if q.2.2.1.isEmpty&&g.2.1 == "append" && g.2.2.endLine == q.2.2.2.line then some (j,a) else none
noncomputable def SY:Expr→Bool
 |.Constant (.int i) _ _=>i == 0
 |_=>false
noncomputable def HJ(c:CC)(e:Expr):Option Nat:=(mJ e).bind fun q=>(CP q.1).bind fun g=>(eS c g.1).bind fun j=>(one? q.2.1).bind fun a=>if q.2.2.1.isEmpty&&g.2.1 == "pop" && g.2.2.endLine == q.2.2.2.line&&SY a then some j else none
noncomputable def rX(f:Expr→Option IE)(c:CC)(e:Expr):Option IS:=match HJ c e with
 |some j=>some (.pop0 j)
 |none=>(mJ e).bind fun _=>(f e).map .drop
noncomputable def aHg(f:Expr→Option IE)(c:CC)(e:Expr):Option IS:=match SR c e with
 |some q=>(f q.2).map fun x=>.app q.1 x
 |none=>rX f c e
noncomputable def aCE(c:CC)(e:Option Expr)(h:Option Expr):Option IS:=e.bind fun e=>(mJ e).bind fun q=>(nameP q.1).bind fun x=>(one? q.2.1).bind fun a=>(WD a).bind fun _ =>
 if h.isNone&&q.2.2.1.isEmpty&&aP c x.1&&c.cls.contains x.1 then some (.rse x.1) else none
noncomputable def exP:Stmt→Option (Expr×Pos)
 |.Expr e p=>some (e,p)
 |_=>none
noncomputable def aCA:Stmt→Option (Option Expr×Pos)
 |.Return e p=>some (e,p)
 |_=>none
noncomputable def aCC(f:Expr→Option IE)(c:CC)(b:List Stmt):List ExceptHandler→Option IS
 |[.ExceptHandler ty nm body _]=>(one? b).bind fun s=>(exP s).bind fun e=>(mJ e.1).bind fun _=>ty.bind fun ty=>(nameP ty).bind fun x=>(one? body).bind fun r=>(aCA r).bind fun r=>r.1.bind fun re =>
   if aP c x.1 then(cN c nm).bind fun i=>(cH c nm re).bind fun r=>(f e.1).map fun u=>.tryx u x.1 i r else none
 |_=>none
mutual
noncomputable def cS:Nat→CC→Stmt→Option IS
 | 0,_,_=>none
 |n+1,c,st=>match st with
  |.Pass _=>some .nop
  |.Return v _=>aCF (cE n c) c v
  |.Assign ts e _=>(one? ts).bind (TR (cE n c) c e)
  |.If t a b _=>(cT n c t).bind fun t=>(il n c a).bind fun a=>(il n c b).map fun b=>.iff t a b
  |.For tg iter body jn _=>if jn.isEmpty then(cM c tg).bind fun g=>(cI n c iter).bind fun k=>if UN g.2 k.1 then(il n c body).map fun b=>.loop g.1 g.2 k.1 k.2 b else none else none
  |.While t body jn _=>if jn.isEmpty then(cT n c t).bind fun t=>(il n c body).map fun b=>.whl t b else none
  |.Expr e _=>aHg (cE n c) c e
  |.Raise e h _=>aCE c e h
  |.Try b hs jn fin _=>if jn.isEmpty&&fin.isEmpty then aCC (cE n c) c b hs else none
  |_=>none
noncomputable def il:Nat→CC→List Stmt→Option IS
 | 0,_,_=>none
 |n+1,c,[]=>some .nop
 |n+1,c,[s]=>cS n c s
 |n+1,c,s::s2::r=>(cS n c s).bind fun a=>(il n c (s2::r)).map fun b=>.seq a b
end
theorem bJ{α:Type}{l:List α}{a:α}(h:one? l=some a):l=[a]:=by
 match l,h with
 |[_],h=>exact congrArg (fun x=>[x]) (qu h)
theorem cD{e:Expr}{x:Str×Pos}(h:nameP e=some x):e=.Name x.1 x.2:=by
 cases e<;>first|exact nomatch (show none=some x from h)|(cases (show some _=some x from h);rfl)
theorem kG{e:Expr}{x:Expr×Str×Pos}(h:CP e=some x):e=.Attribute x.1 x.2.1 x.2.2:=by
 cases e<;>first|exact nomatch (show none=some x from h)|(cases (show some _=some x from h);rfl)
theorem dB{e:Expr}{x:Expr×List Expr×List Keyword×Pos}(h:mJ e=some x):e=.Call x.1 x.2.1 x.2.2.1 x.2.2.2:=by
 cases e<;>first|exact nomatch (show none=some x from h)|(cases (show some _=some x from h);rfl)
theorem GP{e:Expr}{x:Option Expr×Option Expr×Option Expr×Pos}(h:my e=some x):e=.Slice x.1 x.2.1 x.2.2.1 x.2.2.2:=by
 cases e<;>first|exact nomatch (show none=some x from h)|(cases (show some _=some x from h);rfl)
theorem FL{e:Expr}{x:Const×Nat×Pos}(h:aFd e=some x):e=.Constant x.1 x.2.1 x.2.2:=by
 cases e<;>first|exact nomatch (show none=some x from h)|(cases (show some _=some x from h);rfl)
theorem aE{α β:Type}{o:Option α}{f:α→Option β}{b:β}(h:o.bind f=some b):∃a,o=some a∧f a=some b:=qg.mp h
theorem aM{α β:Type}{o:Option α}{f:α→β}{b:β}(h:o.map f=some b):∃a,o=some a∧b=f a:=by
 obtain⟨a,h1,h2⟩:=qv.mp h;exact⟨a,h1,h2.symm⟩
theorem aX{α:Type}{k:Bool}{o:Option α}{a:α}(h:(if k then o else none)=some a):k=true∧o=some a:=by
 cases k with
 |true=>exact⟨rfl,h⟩
 |false=>exact nomatch (show none=some a from h)
theorem bM{a b:Bool}(h:(a&&b)=true):a=true∧b=true:=(qt a b) ▸ h
theorem UA{a:Bool}(h:(!a)=true):a=false:=by cases a<;>first|rfl|exact h.symm
theorem iY{α:Type}{l:List α}(h:l.isEmpty=true):l=[]:=List.isEmpty_iff.mp h
theorem zW{c:CC}{x:Str}(h:own c x=false):c.fns.contains x=false∧c.cls.contains x=false:=by
 unfold own at h;rw[Bool.or_eq_false_iff]at h;exact h
theorem jB{c:CC}{e:Expr}{q:Str×List Expr}(h:lW c e=some q):∃p1 p2,e=.Call (.Name q.1 p1) q.2 [] p2∧aP c q.1=true∧own c q.1=false:=by
 obtain⟨r,h1,h⟩:=aE h;obtain⟨x,h2,h⟩:=aE h;obtain⟨h3,h⟩:=aX h;obtain⟨h3,h5⟩:=bM h3;obtain⟨h3,h4⟩:=bM h3;cases h;exact⟨x.2,r.2.2.2,by rw[dB h1,cD h2,iY h3],h4,UA h5⟩
theorem pV{e:Expr}{x:Str}(h:WD e=some x):∃j p,e=.Constant (.str x) j p:=by
 obtain⟨v,h1,h⟩:=aE h;obtain⟨v,j,p⟩:=v;have e1:=FL h1
 cases v<;>first|exact nomatch (show none=some x from h)|(cases (show some _=some x from h);exact⟨j,p,e1⟩)
end Z
namespace Z
open PySem PySem.Spec PyProof.Rows L2
def ExcAt(xc:Str→Option Addr)(H:Hp)(a:Addr)(c:Str):Prop:=
 ∃φ C,H a=some (.ext φ)∧xc c=some C∧∀h:Heap,φ h→∃o,h.get? a=some o∧o.cls=.ref C
structure Tx where
 cl:Str→Option Addr
 xc:Str→Option Addr
section
variable (K:uz)(T:Tx)(H:Hp)(S:Addr→Prop)
mutual
noncomputable def Rep:D→V→Prop
 |.non,v=>v=.non
 |.bl b,v=>v=.bl b
 |.int i,v=>v=.int i
 |.str x,v=>v=.str x
 |.lst ds,v=>∃a xs,v=.ref a∧¬S a∧H a=some (.lst xs)∧aD ds xs
 |.tup ds,v=>∃a xs,v=.ref a∧¬S a∧SqT K H a xs∧aD ds xs
 |.obj c fs,v=>∃a C dx gs,v=.ref a∧¬S a∧T.cl c=some C∧H a=some (.ins C dx gs)∧bX fs gs
 |.exc c,v=>∃a,v=.ref a∧¬S a∧ExcAt T.xc H a c
 |.dct kvs,v=>∃a gs,v=.ref a∧¬S a∧H a=some (.dK gs)∧aY kvs gs
 |.frz ds,v=>∃a xs,v=.ref a∧¬S a∧SqL K H a xs∧aD ds xs
noncomputable def aD:List D→List V→Prop
 |[],xs=>xs=[]
 |d::ds,xs=>∃x r,xs=x::r∧Rep d x∧aD ds r
noncomputable def bX:List (Str×D)→List (Str×V)→Prop
 |[],gs=>gs=[]
 | (f,d)::fs,gs=>∃x r,gs=(f,x)::r∧Rep d x∧bX fs r
noncomputable def aY:List (Int×D)→List (Key×V)→Prop
 |[],gs=>gs=[]
 | (i,d)::fs,gs=>∃x r,gs=(Sum.inl i,x)::r∧Rep d x∧aY fs r
end
end
section
variable {K:uz}{T:Tx}{H H':Hp}{S S':Addr→Prop}
theorem SqT.keeps{a:Addr}{xs:List V}(h:SqT K H a xs)(k:∀o,H a=some o→H' a=some o):SqT K H' a xs:=by
 rcases h with (h|⟨o,h⟩)|h
 ·exact .inl (.inl (k _ h))
 ·exact .inl (.inr ⟨o,k _ h⟩)
 ·exact .inr h
theorem SqL.keeps{a:Addr}{xs:List V}(h:SqL K H a xs)(k:∀o,H a=some o→H' a=some o):SqL K H' a xs:=by
 rcases h with (h|⟨o,h⟩)|h
 ·exact .inl (.inl (k _ h))
 ·exact .inl (.inr ⟨o,k _ h⟩)
 ·exact .inr h
def aK(K:uz)(H H':Hp)(S S':Addr→Prop):Prop:=∀a,¬S a→((∃o,H a=some o)∨∃o,K.lookup a=some o)→¬S' a∧∀o,H a=some o→H' a=some o
theorem SqT.has{a:Addr}{xs:List V}(h:SqT K H a xs):(∃o,H a=some o)∨∃o,K.lookup a=some o:=by
 rcases h with (h|⟨o,h⟩)|⟨o,_,_,h,_⟩
 ·exact .inl ⟨_,h⟩
 ·exact .inl ⟨_,h⟩
 ·exact .inr ⟨_,h⟩
theorem SqL.has{a:Addr}{xs:List V}(h:SqL K H a xs):(∃o,H a=some o)∨∃o,K.lookup a=some o:=by
 rcases h with (h|⟨o,h⟩)|⟨o,_,_,h,_⟩
 ·exact .inl ⟨_,h⟩
 ·exact .inl ⟨_,h⟩
 ·exact .inr ⟨_,h⟩
mutual
theorem Rep.gen(hk:aK K H H' S S'):∀(d:D) (v:V),Rep K T H S d v→Rep K T H' S' d v
 |.non,v,h=>by unfold Rep at h ⊢;exact h
 |.bl b,v,h=>by unfold Rep at h ⊢;exact h
 |.int i,v,h=>by unfold Rep at h ⊢;exact h
 |.str x,v,h=>by unfold Rep at h ⊢;exact h
 |.lst ds,v,h=>by
  unfold Rep at h ⊢;obtain⟨a,xs,e,n,q,r⟩:=h;obtain⟨n',k⟩:=hk a n (.inl ⟨_,q⟩);exact⟨a,xs,e,n',k _ q,aD.gen hk ds xs r⟩
 |.tup ds,v,h=>by
  unfold Rep at h ⊢;obtain⟨a,xs,e,n,q,r⟩:=h;obtain⟨n',k⟩:=hk a n (SqT.has q);exact⟨a,xs,e,n',SqT.keeps q k,aD.gen hk ds xs r⟩
 |.obj c fs,v,h=>by
  unfold Rep at h ⊢;obtain⟨a,C,dx,gs,e,n,ec,q,r⟩:=h;obtain⟨n',k⟩:=hk a n (.inl ⟨_,q⟩);exact⟨a,C,dx,gs,e,n',ec,k _ q,bX.gen hk fs gs r⟩
 |.exc c,v,h=>by
  unfold Rep at h ⊢;obtain⟨a,e,n,φ,C,q,r⟩:=h;obtain⟨n',k⟩:=hk a n (.inl ⟨_,q⟩);exact⟨a,e,n',φ,C,k _ q,r⟩
 |.dct kvs,v,h=>by
  unfold Rep at h ⊢;obtain⟨a,gs,e,n,q,r⟩:=h;obtain⟨n',k⟩:=hk a n (.inl ⟨_,q⟩);exact⟨a,gs,e,n',k _ q,aY.gen hk kvs gs r⟩
 |.frz ds,v,h=>by
  unfold Rep at h ⊢;obtain⟨a,xs,e,n,q,r⟩:=h;obtain⟨n',k⟩:=hk a n (SqL.has q);exact⟨a,xs,e,n',SqL.keeps q k,aD.gen hk ds xs r⟩
theorem aD.gen(hk:aK K H H' S S'):∀(ds:List D) (xs:List V),aD K T H S ds xs→aD K T H' S' ds xs
 |[],xs,h=>by unfold aD at h ⊢;exact h
 |d::ds,xs,h=>by
  unfold aD at h ⊢;obtain⟨x,r,e,p,q⟩:=h;exact⟨x,r,e,Rep.gen hk d x p,aD.gen hk ds r q⟩
theorem bX.gen(hk:aK K H H' S S'):∀(ds:List (Str×D)) (xs:List (Str×V)),bX K T H S ds xs→bX K T H' S' ds xs
 |[],xs,h=>by unfold bX at h ⊢;exact h
 | (f,d)::ds,xs,h=>by
  unfold bX at h ⊢;obtain⟨x,r,e,p,q⟩:=h;exact⟨x,r,e,Rep.gen hk d x p,bX.gen hk ds r q⟩
theorem aY.gen(hk:aK K H H' S S'):∀(ds:List (Int×D)) (xs:List (Key×V)),aY K T H S ds xs→aY K T H' S' ds xs
 |[],xs,h=>by unfold aY at h ⊢;exact h
 | (f,d)::ds,xs,h=>by
  unfold aY at h ⊢;obtain⟨x,r,e,p,q⟩:=h;exact⟨x,r,e,Rep.gen hk d x p,aY.gen hk ds r q⟩
end
theorem aK.mk(hS:∀a,S' a→S a)(hk:∀b o,¬S b→H b=some o→H' b=some o):aK K H H' S S':=fun a n _=>⟨fun z=>n (hS a z),fun o=>hk a o n⟩
theorem aK.add{D:Addr}{o:HO}(hD:H D=none)(hK:K.lookup D=none):aK K H (upd H D o) S (fun a=>S a∨a=D):=fun a n h=>by
 have ne:a≠D:=by
  rintro rfl
  rcases h with ⟨u,e⟩|⟨u,e⟩
  ·rw[hD]at e;cases e
  ·rw[hK]at e;cases e
 exact⟨fun z=>z.elim n ne,fun u e=>by rw[aG ne];exact e⟩
theorem Rep.mono(hS:∀a,S' a→S a)(hk:∀b o,¬S b→H b=some o→H' b=some o)(d:D)(v:V)(h:Rep K T H S d v):Rep K T H' S' d v:=Rep.gen (aK.mk hS hk) d v h
theorem aD.mono(hS:∀a,S' a→S a)(hk:∀b o,¬S b→H b=some o→H' b=some o)(d:List D)(v:List V)(h:aD K T H S d v):aD K T H' S' d v:=aD.gen (aK.mk hS hk) d v h
theorem Rep.same(k:aF H H'){d:D}{v:V}(h:Rep K T H S d v):Rep K T H' S d v:=Rep.mono (fun _ z=>z) (fun b o _=>k b o) d v h
theorem aD.same(k:aF H H'){d:List D}{v:List V}(h:aD K T H S d v):aD K T H' S d v:=aD.mono (fun _ z=>z) (fun b o _=>k b o) d v h
theorem aD.len:∀{ds:List D} {xs:List V},aD K T H S ds xs→ds.length=xs.length
 |[],xs,h=>by unfold aD at h;subst h;rfl
 |d::ds,xs,h=>by
  unfold aD at h;obtain⟨x,r,rfl,_,q⟩:=h;simp[aD.len q]
theorem aD.get:∀{ds:List D} {xs:List V} {i:Nat} {d:D},aD K T H S ds xs→ds[i]?=some d→∃x,xs[i]?=some x∧Rep K T H S d x
 |[],_,_,_,_,e=>by simp at e
 |d::ds,xs,0,d',h,e=>by
  unfold aD at h;obtain⟨x,r,rfl,p,q⟩:=h;simp at e;subst e;exact⟨x,rfl,p⟩
 |d::ds,xs,i+1,d',h,e=>by
  unfold aD at h;obtain⟨x,r,rfl,p,q⟩:=h;obtain⟨y,h1,h2⟩:=aD.get (i:=i) (d:=d') q (by simpa using e)
  exact⟨y,by simpa using h1,h2⟩
theorem aD.app:∀{ds es:List D} {xs ys:List V},aD K T H S ds xs→aD K T H S es ys→aD K T H S (ds++es) (xs++ys)
 |[],es,xs,ys,h,g=>by unfold aD at h;subst h;exact g
 |d::ds,es,xs,ys,h,g=>by
  unfold aD at h;obtain⟨x,r,rfl,p,q⟩:=h;show aD K T H S (d::(ds++es)) _
  unfold aD;exact⟨x,r++ys,rfl,p,aD.app q g⟩
theorem aD.nil:aD K T H S [] []:=by unfold aD;rfl
theorem aD.cons{d:D}{x:V}{ds:List D}{xs:List V}(h:Rep K T H S d x)(g:aD K T H S ds xs):aD K T H S (d::ds) (x::xs):=by unfold aD;exact⟨x,xs,rfl,h,g⟩
theorem aD.drop:∀{ds:List D} {xs:List V} (n:Nat),aD K T H S ds xs→aD K T H S (ds.drop n) (xs.drop n)
 |ds,xs,0,h=>h
 |[],xs,n+1,h=>by unfold aD at h;subst h;exact aD.nil
 |d::ds,xs,n+1,h=>by
  unfold aD at h;obtain⟨x,r,rfl,p,q⟩:=h;exact aD.drop n q
theorem aD.take:∀{ds:List D} {xs:List V} (n:Nat),aD K T H S ds xs→aD K T H S (ds.take n) (xs.take n)
 |ds,xs,0,h=>by simp;exact aD.nil
 |[],xs,n+1,h=>by unfold aD at h;subst h;exact aD.nil
 |d::ds,xs,n+1,h=>by
  unfold aD at h;obtain⟨x,r,rfl,p,q⟩:=h;exact aD.cons p (aD.take n q)
theorem aD.set:∀{ds:List D} {xs:List V} (n:Nat) {d:D} {v:V},aD K T H S ds xs→Rep K T H S d v→aD K T H S (ds.set n d) (xs.set n v)
 |[],xs,n,d,v,h,g=>by unfold aD at h;subst h;exact aD.nil
 |_::ds,xs,0,d,v,h,g=>by
  unfold aD at h;obtain⟨x,r,rfl,p,q⟩:=h;exact aD.cons g q
 |_::ds,xs,n+1,d,v,h,g=>by
  unfold aD at h;obtain⟨x,r,rfl,p,q⟩:=h;exact aD.cons p (aD.set n q g)
theorem aD.rev:∀{ds:List D} {xs:List V},aD K T H S ds xs→aD K T H S ds.reverse xs.reverse
 |[],xs,h=>by unfold aD at h;subst h;exact aD.nil
 |d::ds,xs,h=>by
  unfold aD at h;obtain⟨x,r,rfl,p,q⟩:=h;rw[reverse_cons,reverse_cons];exact aD.app (aD.rev q) (aD.cons p aD.nil)
theorem bX.look{f:Str}:∀{ds:List (Str×D)} {xs:List (Str×V)},bX K T H S ds xs→(∀d,ds.lookup f=some d→∃x,xs.lookup f=some x∧Rep K T H S d x)∧(ds.lookup f=none→xs.lookup f=none)
 |[],xs,h=>by unfold bX at h;subst h;exact⟨fun d e=>by simp at e,fun _=>rfl⟩
 | (g,d)::ds,xs,h=>by
  unfold bX at h;obtain⟨x,r,rfl,p,q⟩:=h;obtain⟨i1,i2⟩:=bX.look (f:=f) q;rw[lookup_cons,lookup_cons];cases e:f == g with
  |true=>exact⟨fun d' z=>⟨x,rfl,by cases z;exact p⟩,fun z=>by cases z⟩
  |false=>exact⟨i1,i2⟩
end
noncomputable def er(H:Hp)(p:Addr):Hp:=fun a=>if a=p then none else H a
theorem BY{H:Hp}{p a:Addr}{o:HO}:er H p a=some o↔a≠p∧H a=some o:=by
 unfold er;split<;>simp_all
theorem iB{H:Hp}{p:Addr}{o:HO}(h:H p=none):er (upd H p o) p=H:=by
 funext a
 unfold er
 by_cases e:a=p
 ·rw[if_pos e,e,h]
 ·rw[if_neg e,aG e]
theorem aD.er{K:uz}{T:Tx}{H:Hp}{S:Addr→Prop}{p:Addr}{ds:List D}{xs:List V}(h:aD K T (er H p) S ds xs):aD K T H S ds xs:=aD.mono (fun _ z=>z) (fun b o _ e=>(BY.mp e).2) ds xs h
theorem aD.disown{K:uz}{T:Tx}{H:Hp}{S S':Addr→Prop}{p:Addr}{ds:List D}{xs:List V}(hp:S p)(hs:∀a,S' a→S a)(h:aD K T H S ds xs):aD K T (Z.er H p) S' ds xs:=
 aD.gen (fun a n _=>⟨fun z=>n (hs a z),fun o e=>BY.mpr ⟨fun z=>n (by rw[z];exact hp),e⟩⟩) ds xs h
theorem aK.own{K:uz}{H:Hp}{S:Addr→Prop}{p:Addr}(hk:K.lookup p=none):aK K (Z.er H p) H S (fun a=>S a∨a=p):=fun a n q=>by
 have ne:a≠p:=by
  rintro rfl
  rcases q with ⟨o,e⟩|⟨o,e⟩
  ·exact(BY.mp e).1 rfl
  ·rw[hk]at e;cases e
 exact⟨fun z=>z.elim n ne,fun o e=>(BY.mp e).2⟩
def lX(K:uz)(T:Tx)(H:Hp)(S:Addr→Prop)(d:D)(o:HO):Prop:=(∃ds xs,d=.lst ds∧o=.lst xs∧aD K T H S ds xs)∨∃kvs gs,d=.dct kvs∧o=.dK gs∧aY K T H S kvs gs
theorem lX.gen{K:uz}{T:Tx}{H H':Hp}{S S':Addr→Prop}{d:D}{o:HO}(mv:aK K H H' S S')(h:lX K T H S d o):lX K T H' S' d o:=by
 rcases h with ⟨ds,xs,e1,e2,r⟩|⟨ds,xs,e1,e2,r⟩
 ·exact .inl ⟨ds,xs,e1,e2,aD.gen mv _ _ r⟩
 ·exact .inr ⟨ds,xs,e1,e2,aY.gen mv _ _ r⟩
theorem lX.lst{K:uz}{T:Tx}{H:Hp}{S:Addr→Prop}{ds:List D}{o:HO}(h:lX K T H S (.lst ds) o):∃xs,o=.lst xs∧aD K T H S ds xs:=by
 rcases h with ⟨ds',xs,e1,e2,r⟩|⟨ds',xs,e1,e2,r⟩
 ·cases e1;exact⟨xs,e2,r⟩
 ·cases e1
theorem lX.dct{K:uz}{T:Tx}{H:Hp}{S:Addr→Prop}{ds:List (Int×D)}{o:HO}(h:lX K T H S (.dct ds) o):∃xs,o=.dK xs∧aY K T H S ds xs:=by
 rcases h with ⟨ds',xs,e1,e2,r⟩|⟨ds',xs,e1,e2,r⟩
 ·cases e1
 ·cases e1;exact⟨xs,e2,r⟩
theorem lX.rep{K:uz}{T:Tx}{H:Hp}{S S':Addr→Prop}{d:D}{o:HO}{p:Addr}(h:lX K T H S d o)(hp:H p=some o)(hn:¬S' p)(hs:∀a,S' a→S a):Rep K T H S' d (.ref p):=by
 rcases h with ⟨ds,xs,rfl,rfl,r⟩|⟨ds,xs,rfl,rfl,r⟩
 ·unfold Rep;exact⟨p,xs,rfl,hn,hp,aD.gen (aK.mk hs fun _ _ _ e=>e) _ _ r⟩
 ·unfold Rep;exact⟨p,xs,rfl,hn,hp,aY.gen (aK.mk hs fun _ _ _ e=>e) _ _ r⟩
section
variable (K:uz)(T:Tx)(H:Hp)(S:Addr→Prop)
def LD(s:Sl)(o:Option (Option V)):Prop:=match s with
 |.un=>True
 |.im d=>∃v,o=some (some v)∧Rep K T H S d v
 |.mu d=>∃p ob,o=some (some (.ref p))∧S p∧H p=some ob∧lX K T H S d ob
structure RE (ρ:List Sl) (σ:L2.St):Prop where
 dom:∀a,S a→∃o,H a=some o
 len:ρ.length=σ.length
 at_:∀(i:Nat) s,ρ[i]?=some s→LD K T H S s σ[i]?
def tD(ρ:List Sl)(d:D):TE:=fun σ H Q=>RE K T H S ρ σ∧∀v H',aF H H'→Rep K T H' S d v→Q v H'
def b9(ρ:List Sl)(ds:List D):TA:=fun σ H Q=>RE K T H S ρ σ∧∀vs H',aF H H'→aD K T H' S ds vs→Q vs H'
noncomputable def dh(ρ:List Sl)(b:Bool):TT:=fun σ H Q=>RE K T H S ρ σ∧∀H',aF H H'→Q b H'
def c9(ρ:List Sl)(ds:List D):TE:=fun σ H Q=>RE K T H S ρ σ∧∀p xs H',aF H H'→H p=none→H' p=some (.lst xs)→aD K T (er H' p) S ds xs→Q (.ref p) H'
end
section
variable {K:uz}{T:Tx}{H H':Hp}{S S':Addr→Prop}{ρ:List Sl}{σ:L2.St}
theorem LD.same(k:aF H H'){s:Sl}{o:Option (Option V)}(h:LD K T H S s o):LD K T H' S s o:=by
 cases s with
 |un=>trivial
 |im d=>obtain⟨v,e,r⟩:=h;exact⟨v,e,r.same k⟩
 |mu ds=>obtain⟨p,xs,e,n,q,r⟩:=h;exact⟨p,xs,e,n,k _ _ q,r.gen (aK.mk (fun _ z=>z) fun b o _=>k b o)⟩
theorem RE.same(k:aF H H')(h:RE K T H S ρ σ):RE K T H' S ρ σ:=
 ⟨fun a z=>let ⟨o,e⟩:=h.dom a z;⟨o,k a o e⟩,h.len,fun i s e=>(h.at_ i s e).same k⟩
theorem RE.nS(h:RE K T H S ρ σ){a:Addr}(e:H a=none):¬S a:=fun z=>by
 obtain⟨o,q⟩:=h.dom a z;rw[e]at q;cases q
end
theorem PE.mono{X:Cx}{e:Expr}{t t':TE}(h:PE X e t)(m:∀σ H Q,t' σ H Q→t σ H Q):PE X e t':=fun pins s σ H Q I hw=>h pins s σ H Q I (m σ H Q hw)
theorem PT.mono{X:Cx}{e:Expr}{t t':TT}(h:PT X e t)(m:∀σ H Q,t' σ H Q→t σ H Q):PT X e t':=fun pins s σ H Q I hw=>h pins s σ H Q I (m σ H Q hw)
theorem PW.mono{X:Cx}{e:Expr}{t t':TT}(h:PW X e t)(m:∀σ H Q,t' σ H Q→t σ H Q):PW X e t':=fun wh pins s σ H Q I hw=>h wh pins s σ H Q I (m σ H Q hw)
theorem PA.mono{X:Cx}{e:List Expr}{t t':TA}(h:PA X e t)(m:∀σ H Q,t' σ H Q→t σ H Q):PA X e t':=fun pos pins s σ H Q I hw=>h pos pins s σ H Q I (m σ H Q hw)
theorem aF.upd{H:Hp}{p:Addr}{o:HO}(h:H p=none):aF H (upd H p o):=fun b u e=>by rw[aG (aJ e h)];exact e
mutual
noncomputable def py:D→PyData
 |.non=>.none
 |.bl b=>.bool b
 |.int i=>.int i
 |.str x=>.str x
 |.lst xs=>.list (bq xs)
 |.tup xs=>.tuple (bq xs)
 |.obj _ _=>.none
 |.exc _=>.none
 |.dct _=>.none
 |.frz _=>.none
noncomputable def bq:List D→List PyData
 |[]=>[]
 |d::r=>py d::bq r
end
theorem dA{n:Nat}(h:∀d,flat n d=true→(py d).canLay0=true):∀ds:List D,ds.all (flat n)=true→PyData.canLayAll0 (bq ds)=true
 |[],_=>by simp[bq,PyData.canLayAll0]
 |d::ds,e=>by
  rw[all_cons,qt]at e;simp only[bq,PyData.canLayAll0,qt];exact⟨h d e.1,dA h ds e.2⟩
theorem canLay:∀(n:Nat) (d:D),flat n d=true→(py d).canLay0=true
 |n,.non,_=>by simp[py,PyData.canLay0]
 |n,.bl _,_=>by simp[py,PyData.canLay0]
 |n,.int _,_=>by simp[py,PyData.canLay0]
 |n,.str x,h=>by
  have e:kz x=true:=by cases n<;>simpa [flat] using h
  simp only[py,PyData.canLay0];exact e
 | 0,.lst _,h=>by simp[flat]at h
 | 0,.tup _,h=>by simp[flat]at h
 |n+1,.lst xs,h=>by
  simp only[py,PyData.canLay0];exact dA (canLay n) xs (by simpa [flat] using h)
 |n+1,.tup xs,h=>by
  simp only[py,PyData.canLay0];exact dA (canLay n) xs (by simpa [flat] using h)
 |n,.obj _ _,h=>by cases n<;>simp[flat]at h
 |n,.exc _,h=>by cases n<;>simp[flat]at h
 |n,.dct _,h=>by cases n<;>simp[flat]at h
 |n,.frz _,h=>by cases n<;>simp[flat]at h
theorem lV{n:Nat}(h:∀d,flat n d=true→(py d).depth≤n):∀ds:List D,ds.all (flat n)=true→PyData.depthAll (bq ds)≤n
 |[],_=>by simp[bq,PyData.depthAll]
 |d::ds,e=>by
  rw[all_cons,qt]at e;simp only[bq,PyData.depthAll];exact Nat.max_le.mpr ⟨h d e.1,lV h ds e.2⟩
theorem oT:∀(n:Nat) (d:D),flat n d=true→(py d).depth≤n
 |n,.non,_=>by simp[py,PyData.depth]
 |n,.bl _,_=>by simp[py,PyData.depth]
 |n,.int _,_=>by simp[py,PyData.depth]
 |n,.str x,h=>by simp[py,PyData.depth]
 | 0,.lst _,h=>by simp[flat]at h
 | 0,.tup _,h=>by simp[flat]at h
 |n+1,.lst xs,h=>by
  simp only[py,PyData.depth];exact succ_le_succ (lV (oT n) xs (by simpa [flat] using h))
 |n+1,.tup xs,h=>by
  simp only[py,PyData.depth];exact succ_le_succ (lV (oT n) xs (by simpa [flat] using h))
 |n,.obj _ _,h=>by simp[py,PyData.depth]
 |n,.exc _,h=>by simp[py,PyData.depth]
 |n,.dct _,h=>by simp[py,PyData.depth]
 |n,.frz _,h=>by simp[py,PyData.depth]
theorem CD{n:Nat}(h:∀d e,flat n d=true→flat n e=true→ax d e=PyData.eqv (py d) (py e)):∀ds es:List D,ds.all (flat n)=true→es.all (flat n)=true→iK ds es=PyData.eqvAll (bq ds) (bq es)
 |[],[],_,_=>by simp[iK,bq,PyData.eqvAll]
 |[],_::_,_,_=>by simp[iK,bq,PyData.eqvAll]
 |_::_,[],_,_=>by simp[iK,bq,PyData.eqvAll]
 |d::ds,e::es,a,b=>by
  rw[all_cons,qt]at a b;simp only[iK,bq,PyData.eqvAll];rw[h d e a.1 b.1,CD h ds es a.2 b.2]
theorem uG:∀(n:Nat) (d e:D),flat n d=true→flat n e=true→ax d e=PyData.eqv (py d) (py e)
 | 0,d,e,a,b=>by
  cases d<;>cases e<;>first|(simp[flat]at a;done)|(simp[flat]at b;done)|simp[ax,py,PyData.eqv]
 |n+1,d,e,a,b=>by
  cases d<;>cases e<;>first
   | (simp[flat]at a;done)
   | (simp[flat]at b;done)
   | (simp only[ax,py,PyData.eqv];exact CD (uG n) _ _ (by simpa [flat] using a) (by simpa [flat] using b))
   |simp[ax,py,PyData.eqv]
section
variable {X:Cx}{T:Tx}{pins:v9}{σ:L2.St}{H:Hp}{s:Shared}{S:Addr→Prop}
theorem lC{n:Nat}(h:∀d v u,flat n d=true→Rep X.K T H S d v→RelV v u→∃as,Reads s.heap u (py d) as) :
  ∀(ds:List D) (xs:List V) (us:List Value),ds.all (flat n)=true→aD X.K T H S ds xs→aQ xs us→∃as,ReadsAll s.heap us (bq ds) as
 |[],xs,us,_,r,v=>by
  unfold aD at r;subst r;cases v;exact⟨_,.nil⟩
 |d::ds,xs,us,e,r,v=>by
  rw[all_cons,qt]at e;unfold aD at r;obtain⟨x,q,rfl,r1,r2⟩:=r;cases v with
  |cons v1 v2 =>
   obtain⟨as,h1⟩:=h d x _ e.1 r1 v1;obtain⟨bs,h2⟩:=lC h ds q _ e.2 r2 v2;exact⟨_,.cons h1 h2⟩
theorem dN(I:Inv X pins σ H s):∀(n:Nat) (d:D) (v:V) (u:Value),flat n d=true→Rep X.K T H S d v→RelV v u→∃as,Reads s.heap u (py d) as
 |n,.non,v,u,_,r,q=>by
  unfold Rep at r;subst r;cases q;exact⟨_,.none⟩
 |n,.bl b,v,u,_,r,q=>by
  unfold Rep at r;subst r;cases q;exact⟨_,.bool b⟩
 |n,.int i,v,u,_,r,q=>by
  unfold Rep at r;subst r;obtain⟨t,rfl⟩:=q;exact⟨_,.int i t⟩
 |n,.str x,v,u,_,r,q=>by
  unfold Rep at r;subst r;obtain⟨t,rfl⟩:=q;exact⟨_,.str x t⟩
 | 0,.lst _,_,_,h,_,_=>by simp[flat]at h
 | 0,.tup _,_,_,h,_,_=>by simp[flat]at h
 |n+1,.lst ds,v,u,h,r,q=>by
  unfold Rep at r;obtain⟨a,xs,rfl,_,e,r⟩:=r;cases q;obtain⟨its,rv,⟨o,k,ho,hc,hd,hs⟩,_⟩:=I.list (SqL.of e);obtain⟨as,ra⟩:=lC (dN I n) ds xs its (by simpa [flat] using h) r rv
  simp only[py];exact⟨_,.list ho hc hs (by simpa using ra)⟩
 |n+1,.tup ds,v,u,h,r,q=>by
  unfold Rep at r;obtain⟨a,xs,rfl,_,e,r⟩:=r;cases q;obtain⟨its,rv,⟨o,ho,hc,k,hs⟩,_⟩:=I.tuple e;obtain⟨as,ra⟩:=lC (dN I n) ds xs its (by simpa [flat] using h) r rv
  simp only[py];exact⟨_,.tuple ho hc hs (by simpa using ra)⟩
 |n,.obj _ _,_,_,h,_,_=>by cases n<;>simp[flat]at h
 |n,.exc _,_,_,h,_,_=>by cases n<;>simp[flat]at h
 |n,.dct _,_,_,h,_,_=>by cases n<;>simp[flat]at h
 |n,.frz _,_,_,h,_,_=>by cases n<;>simp[flat]at h
end
noncomputable def rD(K:uz)(T:Tx)(S:Addr→Prop)(o:O2):R2:=fun x y H Q =>
 ∃a b d,(∀a,S a→∃o,H a=some o)∧Rep K T H S a x∧Rep K T H S b y∧af o a b=some d∧∀v H',aF H H'→Rep K T H' S d v→Q v H'
theorem iD:big≤sizeLine:=by rw[sizeLine_eq];decide
section
variable {X:Cx}{T:Tx}{S:Addr→Prop}
theorem vD{K:uz}{H:Hp}{p:Addr}{ds:List D}{xs:List V}(dom:∀a,S a→∃o,H a=some o)(hp:H p=none)(r:aD K T H S ds xs):Rep K T (upd H p (.lst xs)) S (.lst ds) (.ref p):=by
 unfold Rep;exact⟨p,xs,rfl,fun z=>(by obtain⟨o,e⟩:=dom p z;rw[hp]at e;cases e),aH,r.same (aF.upd hp)⟩
theorem eO{K:uz}{H:Hp}{p:Addr}{ds:List D}{xs:List V}(dom:∀a,S a→∃o,H a=some o)(hp:H p=none)(r:aD K T H S ds xs):Rep K T (upd H p (.tup xs)) S (.tup ds) (.ref p):=by
 unfold Rep;exact⟨p,xs,rfl,fun z=>(by obtain⟨o,e⟩:=dom p z;rw[hp]at e;cases e),SqT.of aH,r.same (aF.upd hp)⟩
theorem KZ{prog:v7}{w:World}{A:Around}{E:v8}{s:Shared}{t b:Addr}{ws:List Value}{Q:v8}(ht:IsTup s.heap t (#[]:Array Value))(hb:IsTup s.heap b ws.toArray)
  (h1:Q (.ref b) s) (hsz:ws.length≤sizeLine):wpAny (model prog w) A (binaryOp .Add (.ref t) (.ref b)) Q E s:=by
 obtain⟨⟨cls,dd,data,sl⟩,ho,hc,n,hd⟩:=id ht;obtain⟨⟨cls2,jq,data2,ku⟩,df,gp,n2,hd2⟩:=id hb;simp only at hc hd gp hd2;subst hc hd gp hd2;exact concat_meets ⟨_,ho,rfl⟩ ⟨_,df,rfl⟩ noFill_tuple_add seq_tuple_add slot_tuple_add entry_tuple_add (args_tuple_add_2 _ _)
   (tuple_addW0 t b #[] ws.toArray n n2 dd jq sl ku (by simp)) ⟨ho,df,h1⟩
theorem PZ:OpR X (binaryOp .Add) (rD X.K T S .add):=by
 rintro pins s σ H x y v u Q I rx ry ⟨a,b,d,dom,ra,rb,e,q⟩;simp only[af,QF]at e;split at e
 ·rename_i i j;unfold Rep at ra rb;cases e;exact YM pins s σ H x y v u Q I rx ry ⟨i,j,ra,rb,q _ H (aF.refl H) (by unfold Rep;rfl)⟩
 ·rename_i i j;unfold Rep at ra rb;split at e
  ·rename_i hz;cases e;exact xU pins s σ H x y v u Q I rx ry ⟨i,j,ra,rb,rj hz iD,q _ H (aF.refl H) (by unfold Rep;rfl)⟩
  ·cases e
 ·rename_i as bs;unfold Rep at ra rb;obtain⟨l,xs,ex,_,e1,r1⟩:=ra;obtain⟨b,ys,ey,_,e2,r2⟩:=rb;split at e
  ·rename_i hz;cases e;refine HV pins s σ H x y v u Q I rx ry ⟨l,b,xs,ys,ex,ey,e1,e2,?_,fun p hp=>q _ _ (aF.upd hp) (vD dom hp (r1.app r2))⟩
   rw[←r1.len,←r2.len];exact rj hz iD
  ·cases e
 ·rename_i as bs;have ra':=ra
  have rb':=rb
  unfold Rep at ra rb;obtain⟨l,xs,ex,_,e1,r1⟩:=ra;obtain⟨b,ys,ey,_,e2,r2⟩:=rb;split at e
  ·rename_i hz;cases e;have hz':xs.length+ys.length≤sizeLine:=by rw[←r1.len,←r2.len];exact rj hz iD
   by_cases hx:xs=[]
   ·subst hx ex ey;cases rx;cases ry;have ea:as=[]:=so.mp r1.len
    subst ea;obtain⟨its,v1,p1,_⟩:=I.tuple e1;obtain⟨cb,v2,p2,z2⟩:=I.tuple e2;cases v1;exact KZ p1 p2 ⟨.ref b,H,I,rfl,q _ H (aF.refl H) (by simpa using rb')⟩ (by rw[←v2.length];exact z2)
   ·refine PP pins s σ H x y v u Q I rx ry ⟨l,b,xs,ys,ex,ey,e1,e2,hx,hz',fun hy=>?_,fun hy p hp=>q _ _ (aF.upd hp) (eO dom hp (r1.app r2))⟩
    subst hy;have eb:bs=[]:=so.mp r2.len
    subst eb;rw[←ex];exact q _ H (aF.refl H) (by simpa using ra')
  ·cases e
 ·cases e
theorem PR:OpR X (binaryOp .Sub) (rD X.K T S .sub):=by
 rintro pins s σ H x y v u Q I rx ry ⟨a,b,d,dom,ra,rb,e,q⟩;simp only[af,aEb]at e;split at e
 ·rename_i i j;unfold Rep at ra rb;cases e;exact YH pins s σ H x y v u Q I rx ry ⟨i,j,ra,rb,q _ H (aF.refl H) (by unfold Rep;rfl)⟩
 ·cases e
theorem PV:OpR X (binaryOp .Mult) (rD X.K T S .mul):=by
 rintro pins s σ H x y v u Q I rx ry ⟨a,b,d,dom,ra,rb,e,q⟩;simp only[af,aEc]at e;split at e
 ·rename_i i j;unfold Rep at ra rb;split at e
  ·rename_i hz;cases e;exact YJ pins s σ H x y v u Q I rx ry ⟨i,j,ra,rb,hz,q _ H (aF.refl H) (by unfold Rep;rfl)⟩
  ·cases e
 ·cases e
theorem HW:OpR X (binaryOp .FloorDiv) (rD X.K T S .fdiv):=by
 rintro pins s σ H x y v u Q I rx ry ⟨a,b,d,dom,ra,rb,e,q⟩;simp only[af,oDiv]at e;split at e
 ·rename_i i j;unfold Rep at ra rb;split at e
  ·rename_i hz;cases e;exact PN pins s σ H x y v u Q I rx ry ⟨i,j,ra,rb,hz,q _ H (aF.refl H) (by unfold Rep;rfl)⟩
  ·cases e
 ·cases e
theorem PX:OpR X (binaryOp .Mod) (rD X.K T S .mod):=by
 rintro pins s σ H x y v u Q I rx ry ⟨a,b,d,dom,ra,rb,e,q⟩;simp only[af,oMod]at e;split at e
 ·rename_i i j;unfold Rep at ra rb;split at e
  ·rename_i hz;cases e;exact YK pins s σ H x y v u Q I rx ry ⟨i,j,ra,rb,hz,q _ H (aF.refl H) (by unfold Rep;rfl)⟩
  ·cases e
 ·cases e
theorem PU:OpR X (binaryOp .Pow) (rD X.K T S .pow):=by
 rintro pins s σ H x y v u Q I rx ry ⟨a,b,d,dom,ra,rb,e,q⟩;simp only[af,ZA]at e;split at e
 ·rename_i i j;unfold Rep at ra rb;split at e
  ·rename_i hz;cases e;exact YI pins s σ H x y v u Q I rx ry ⟨i,j,ra,rb,⟨hz.1,by omega,hz.2.2⟩,q _ H (aF.refl H) (by unfold Rep;rfl)⟩
  ·cases e
 ·cases e
theorem PY{op:Operator}{o:O2}(h:PQ op=some o):OpR X (binaryOp op) (rD X.K T S o):=by
 cases op<;>simp only[PQ]at h<;>first|(cases h;done)|(cases h;first|exact PZ|exact PR|exact PV|exact HW|exact PX|exact PU)
theorem bN{K:uz}{H:Hp}{b:Bool}:Rep K T H S (.bl b) (.bl b):=by unfold Rep;rfl
theorem YO:OpR X (compareOp .Lt) (rD X.K T S .lt):=by
 rintro pins s σ H x y v u Q I rx ry ⟨a,b,d,dom,ra,rb,e,q⟩;simp only[af,oLt]at e;split at e
 ·rename_i i j;unfold Rep at ra rb;cases e;exact aDu pins s σ H x y v u Q I rx ry ⟨i,j,ra,rb,q _ H (aF.refl H) bN⟩
 ·cases e
theorem YQ:OpR X (compareOp .LtE) (rD X.K T S .le):=by
 rintro pins s σ H x y v u Q I rx ry ⟨a,b,d,dom,ra,rb,e,q⟩;simp only[af,oLe]at e;split at e
 ·rename_i i j;unfold Rep at ra rb;cases e;exact aDv pins s σ H x y v u Q I rx ry ⟨i,j,ra,rb,q _ H (aF.refl H) bN⟩
 ·cases e
theorem YT:OpR X (compareOp .Gt) (rD X.K T S .gt):=by
 rintro pins s σ H x y v u Q I rx ry ⟨a,b,d,dom,ra,rb,e,q⟩;simp only[af,oGt]at e;split at e
 ·rename_i i j;unfold Rep at ra rb;cases e;exact aDw pins s σ H x y v u Q I rx ry ⟨i,j,ra,rb,q _ H (aF.refl H) bN⟩
 ·cases e
theorem YU:OpR X (compareOp .GtE) (rD X.K T S .ge):=by
 rintro pins s σ H x y v u Q I rx ry ⟨a,b,d,dom,ra,rb,e,q⟩;simp only[af,oGe]at e;split at e
 ·rename_i i j;unfold Rep at ra rb;cases e;exact aDx pins s σ H x y v u Q I rx ry ⟨i,j,ra,rb,q _ H (aF.refl H) bN⟩
 ·cases e
theorem TN{A:Around}(hu:A.units+64<cLine){d e:D}(hd:plain d=true):A.units+min (py d).depth (py e).depth<cLine:=by
 have h1:=oT 8 d hd
 have h2:min (py d).depth (py e).depth≤(py d).depth:=Nat.min_le_left _ _
 omega
theorem YV(hu:X.A.units+64<cLine):OpR X (compareOp .Eq) (rD X.K T S .eq):=by
 rintro pins s σ H x y v u Q I rx ry ⟨a,b,d,dom,ra,rb,e,q⟩;simp only[af,oEq]at e;split at e
 ·rename_i hp;rw[qt]at hp;cases e;obtain⟨as,h1⟩:=dN I 8 a x v hp.1 ra rx;obtain⟨bs,h2⟩:=dN I 8 b y u hp.2 rb ry;refine SeqAt.compareEq_reads h1 h2 (canLay 8 a hp.1) (canLay 8 b hp.2) (TN hu hp.1) ⟨.bl _,H,I,rfl,?_⟩;rw[←uG 8 a b hp.1 hp.2];exact q _ H (aF.refl H) bN
 ·cases e
theorem YN(hu:X.A.units+64<cLine):OpR X (compareOp .NotEq) (rD X.K T S .ne):=by
 rintro pins s σ H x y v u Q I rx ry ⟨a,b,d,dom,ra,rb,e,q⟩;simp only[af,k6]at e;split at e
 ·rename_i hp;rw[qt]at hp;cases e;obtain⟨as,h1⟩:=dN I 8 a x v hp.1 ra rx;obtain⟨bs,h2⟩:=dN I 8 b y u hp.2 rb ry;refine SeqAt.compareNe_reads h1 h2 (canLay 8 a hp.1) (canLay 8 b hp.2) (TN hu hp.1) ⟨.bl _,H,I,rfl,?_⟩;rw[←uG 8 a b hp.1 hp.2];exact q _ H (aF.refl H) bN
 ·cases e
theorem pB(a:D)(ha:plain a=true):∀ds:List D,ds.all plain=true→((bq ds).any fun y=>PyData.eqv y (py a))=ds.any fun y=>ax y a
 |[],_=>by simp[bq]
 |d::ds,h=>by
  rw[all_cons,qt]at h;simp only[bq,any_cons];rw[pB a ha ds h.2,uG 8 d a h.1 ha]
theorem YS(hu:X.A.units+64<cLine):OpR X (compareOp .In) (rD X.K T S .isin):=by
 rintro pins s σ H x y v u Q I rx ry ⟨a,b,d,dom,ra,rb,e,q⟩;have go:∀(ds:List D),plain a=true→ds.all plain=true→X.A.units+1+min (PyData.depthAll (bq ds)) (py a).depth<cLine:=fun ds h1 h2=>by
  have h3:=oT 8 a h1
  have h4:min (PyData.depthAll (bq ds)) (py a).depth≤(py a).depth:=Nat.min_le_right _ _
  omega
 simp only[af,oIn]at e;split at e
 ·rename_i ds;split at e
  ·rename_i hp;rw[qt]at hp;cases e;obtain⟨as,h1⟩:=dN I 8 a x v hp.1 ra rx;obtain⟨bs,h2⟩:=dN I 9 (.lst ds) y u (by show ds.all (flat 8)=true;exact hp.2) rb ry
   simp only[py]at h2;refine SeqAt.in_list_reads h2 h1 (dA (canLay 8) ds hp.2) (canLay 8 a hp.1) (go ds hp.1 hp.2) ⟨.bl _,H,I,rfl,?_⟩;rw[pB a hp.1 ds hp.2];exact q _ H (aF.refl H) bN
  ·cases e
 ·rename_i ds;split at e
  ·rename_i hp;rw[qt]at hp;cases e;obtain⟨as,h1⟩:=dN I 8 a x v hp.1 ra rx;obtain⟨bs,h2⟩:=dN I 9 (.tup ds) y u (by show ds.all (flat 8)=true;exact hp.2) rb ry
   simp only[py]at h2;refine SeqAt.in_tuple_reads h2 h1 (dA (canLay 8) ds hp.2) (canLay 8 a hp.1) (go ds hp.1 hp.2) ⟨.bl _,H,I,rfl,?_⟩;rw[pB a hp.1 ds hp.2];exact q _ H (aF.refl H) bN
  ·cases e
 ·cases e
theorem DW(hu:X.A.units+64<cLine):OpR X (compareOp .NotIn) (rD X.K T S .notin):=by
 rintro pins s σ H x y v u Q I rx ry ⟨a,b,d,dom,ra,rb,e,q⟩;have go:∀(ds:List D),plain a=true→ds.all plain=true→X.A.units+1+min (PyData.depthAll (bq ds)) (py a).depth<cLine:=fun ds h1 h2=>by
  have h3:=oT 8 a h1
  have h4:min (PyData.depthAll (bq ds)) (py a).depth≤(py a).depth:=Nat.min_le_right _ _
  omega
 simp only[af,IG]at e;split at e
 ·rename_i ds;split at e
  ·rename_i hp;rw[qt]at hp;cases e;obtain⟨as,h1⟩:=dN I 8 a x v hp.1 ra rx;obtain⟨bs,h2⟩:=dN I 9 (.lst ds) y u (by show ds.all (flat 8)=true;exact hp.2) rb ry
   simp only[py]at h2;refine SeqAt.notIn_list_reads h2 h1 (dA (canLay 8) ds hp.2) (canLay 8 a hp.1) (go ds hp.1 hp.2) ⟨.bl _,H,I,rfl,?_⟩;rw[pB a hp.1 ds hp.2];exact q _ H (aF.refl H) bN
  ·cases e
 ·rename_i ds;split at e
  ·rename_i hp;rw[qt]at hp;cases e;obtain⟨as,h1⟩:=dN I 8 a x v hp.1 ra rx;obtain⟨bs,h2⟩:=dN I 9 (.tup ds) y u (by show ds.all (flat 8)=true;exact hp.2) rb ry
   simp only[py]at h2;refine SeqAt.notIn_tuple_reads h2 h1 (dA (canLay 8) ds hp.2) (canLay 8 a hp.1) (go ds hp.1 hp.2) ⟨.bl _,H,I,rfl,?_⟩;rw[pB a hp.1 ds hp.2];exact q _ H (aF.refl H) bN
  ·cases e
 ·cases e
theorem YR:OpR X (compareOp .Is) (rD X.K T S .is):=by
 rintro pins s σ H x y v u Q I rx ry ⟨a,b,d,dom,ra,rb,e,q⟩;have go:∀k,b=.non→k=decide (x=V.non)→d=.bl k→wpAny (model X.prog X.w) X.A (compareOp .Is v u) (EP X pins σ Q) X.xe s:=fun k hb hk hd=>by
  subst hb hd hk;unfold Rep at rb;exact YL pins s σ H x y v u Q I rx ry ⟨rb,q _ H (aF.refl H) bN⟩
 simp only[af,oIs,isD]at e;split at e<;>simp only[uc,Option.map_none,qe,reduceCtorEq]at e
 all_goals subst e
 all_goals first
  | (unfold Rep at ra;refine go _ rfl ?_ rfl;first|(subst ra;rfl)|(obtain⟨_,_,rfl,_⟩:=ra;rfl)|(obtain⟨_,_,_,_,rfl,_⟩:=ra;rfl))
  | (unfold Rep at ra rb
     subst ra rb;cases rx;cases ry;exact is_bool ⟨.bl _,H,I,rfl,q _ H (aF.refl H) bN⟩)
end
structure Fly (P:v7) (w:World) (l:List Env) (H:Hp) (s:Shared) (B:Heap) (a:Addr) (cls a0:Value) (H':Hp) (s':Shared):Prop where
 os:s'.os=s.os
 bare:AllBare s'.gens
 un:Un (frs l) [] H H' s.heap s'.heap
 hok:HOk P w H' s'.heap
 fly:Heap.FlyingW B l a cls a0 s'.heap
 new:H' a=none
 old:s.heap.get? a=none
 frf:∀b∈frs l,H' b=none
 cov:∀b o,s'.heap.get? b=some o→b∉frs l→((∃u,H' b=some u)∨∃o',s.heap.get? b=some o')→B.get? b=some o
noncomputable def bP(P:v7)(w:World):aj:=fun l H s E e s'=>∃a cls a0 B H',e=.ref a∧Fly P w l H s B a cls a0 H' s'∧E cls none H'
theorem UO{P:v7}{w:World}:∀outer H s e s',bP P w outer H s E0 e s'→False:=fun _ _ _ _ _ ⟨_,_,_,_,_,_,_,h⟩=>h
section
variable {P:v7}{w:World}{l:List Env}{H H':Hp}{s s':Shared}{B:Heap}{a:Addr}{cls a0:Value}
theorem jI{h:Heap}{b:Addr}:∀{o:HO},bT P w H h b o→∃u,h.get? b=some u:=by
 intro o x;cases o with
 |lst xs=>obtain⟨_,_,_,_,e⟩:=x;exact⟨_,e⟩
 |tup xs=>obtain⟨_,_,_,ob,e,_⟩:=x;exact⟨_,e⟩
 |dK kvs=>obtain⟨_,_,_,_,o,_,_,e,_⟩:=x;exact⟨_,e⟩
 |dT kvs=>obtain⟨_,_,_,_,o,_,_,e,_⟩:=x;exact⟨_,e⟩
 |set S n=>obtain⟨o,_,_,_,e,_⟩:=x;exact⟨_,e⟩
 |ins C dx fs=>obtain⟨_,_,_,e,_⟩:=x;exact⟨_,e⟩
 |own y=>obtain⟨_,e⟩:=x;exact⟨_,e⟩
 |xd fs=>obtain⟨_,⟨_,_,_,e,_⟩,_⟩:=x;exact⟨_,e⟩
 |rng lo hi=>obtain⟨_,_,_,e⟩:=x;exact⟨_,e⟩
 |frz ob u=>obtain⟨e,_⟩:=x;exact⟨_,e⟩
 |tbl ps=>exact⟨_,(show h.get? b=some _ from x)⟩
 |met f y=>exact⟨_,(show h.get? b=some _ from x)⟩
 |ext φ=>obtain⟨_,⟨_,e⟩,_⟩:=x;exact⟨_,e⟩
theorem rN{fs:List Addr}{h0 h1 h2:Heap}(u:Un fs [] H H' h0 h1)(keep:∀b o,h1.get? b=some o→(∃o',h0.get? b=some o')→b∉fs→h2.get? b=some o)
  (slot:∀b o,h1.get? b=some o→b∈fs→∃sl,h2.get? b=some { o with slots:=sl }):Un fs [] H H' h0 h2 where
 keep b o e n hb hx:=keep b o (u.keep b o e n hb hx) ⟨o,e⟩ hb
 slot b o e n hb hx:=by
  obtain⟨sl,e1⟩:=u.slot b o e n hb hx;obtain⟨ku,e2⟩:=slot b _ e1 hb;exact⟨ku,e2⟩
 free:=u.free
 there b o e hx:=by
  obtain⟨o',e1⟩:=u.there b o e hx
  by_cases hb:b∈fs
  ·obtain⟨sl,e2⟩:=slot b _ e1 hb;exact⟨_,e2⟩
  ·exact⟨_,keep b o' e1 ⟨o,e⟩ hb⟩
 tups:=u.tups
 frzs:=u.frzs
 tbls:=u.tbls
theorem oB{h1 h2:Heap}(ok:HOk P w H h1)(keep:∀b o u,H b=some u→h1.get? b=some o→h2.get? b=some o):HOk P w H h2:=fun b u e =>
 (ok b u e).stay (fun c v hc q=>by
  rcases hc with rfl|hc
  ·exact keep _ v u e q
  ·exact keep _ v _ hc q) (fun _ q=>q) fun _ _ q=>q
theorem Fly.move(F:Fly P w l H s B a cls a0 H' s'){h2:Heap}(fl:Heap.FlyingW B l a cls a0 h2)(up:s'.heap.UpToSlots h2):Fly P w l H s B a cls a0 H' { s' with heap:=h2 }:=by
 have keep:∀b o,s'.heap.get? b=some o→((∃u,H' b=some u)∨∃o',s.heap.get? b=some o')→b∉frs l→h2.get? b=some o:=fun b o e t nb=>fl.1 b o (F.cov b o e nb t)
 have tr:∀b u,H' b=some u→b∉frs l:=fun b u e z=>by rw[F.frf b z]at e;cases e
 refine⟨F.os,F.bare,rN F.un (fun b o e t nb=>keep b o e (.inr t) nb) (fun b o e hb=>?_),oB F.hok fun b o u e q=>keep b o q (.inl ⟨u,e⟩) (tr b u e),fl,F.new,F.old,F.frf,fun b o e nb t=>?_⟩
 ·obtain⟨_,o2,e2,nf⟩:=F.fly.2.2.1.mem hb;rw[e]at e2;cases e2;exact up b o e nf
 ·have:∃o1,s'.heap.get? b=some o1:=by
   rcases t with ⟨u,e1⟩|⟨o',e1⟩
   ·exact jI (F.hok b u e1)
   ·exact F.un.there b o' e1 (by simp)
  obtain⟨o1,e1⟩:=this;have e2:=keep b o1 e1 t nb
  have e:h2.get? b=some o:=e
  rw[e2]at e;cases e;exact F.cov b _ e1 nb t
end
section
variable {X:Cx}{pins:v9}{σ:L2.St}{H H':Hp}{s s':Shared}{B:Heap}{a:Addr}{cls a0:Value}
theorem Fly.inv(I:Inv X pins σ H s)(F:Fly X.prog X.w X.stack H s B a cls a0 H' s'):Inv X pins σ H' s':=I.call' F.os F.un F.hok F.bare fun b z=>absurd z (by simp)
theorem Fly.up{env:Env}{outer:List Env}(I:Inv X pins σ H s)(cz:X.stack=env::outer)(j2:X.outer=outer)(hex:X.ex=[])(ak:env.frame=some X.env.locals)(F:Fly X.prog X.w X.stack H s B a cls a0 H' s'){h2:Heap}(fl:Heap.FlyingW B outer a cls a0 h2)(up:s'.heap.UpToSlots h2) :
  Fly X.prog X.w outer X.H₀ X.s₀ B a cls a0 H' { s' with heap:=h2 }:=by
 have J:=F.inv I
 have kc:frs X.stack=X.env.locals::frs outer:=by
  rw[cz];unfold frs;rw[List.filterMap_cons,ak]
 have olds:∀b o,X.s₀.heap.get? b=some o→b≠X.env.locals:=fun b o e=>tm (qw (rh e) I.ok.above)
 have tr:∀b u,H' b=some u→b∉frs X.stack:=fun b u e z=>by rw[F.frf b z]at e;cases e
 have old1:∀b o,X.s₀.heap.get? b=some o→∃o',s.heap.get? b=some o':=fun b o e=>I.base.there b o e (by rw[hex];simp)
 have ns:∀b,b∉frs outer→b≠X.env.locals→b∉frs X.stack:=fun b h1 h2 z=>by
  rw[kc]at z
  rcases rz.mp z with z|z
  ·exact h2 z
  ·exact h1 z
 have km:Un (frs outer) [] X.H₀ H' X.s₀.heap s'.heap:=by
  have:=J.base
  rw[hex]at this;unfold Cx.fs at this;rw[j2]at this;exact this
 refine⟨J.os,F.bare,rN km (fun b o e t nb=>?_) (fun b o e hb=>?_),oB F.hok fun b o u e q=>fl.1 b o (F.cov b o q (tr b u e) (.inl ⟨u,e⟩)),fl,F.new,?_,fun b hb=>F.frf b (by rw[kc];exact qq _ hb),fun b o e nb t=>?_⟩
 ·obtain⟨o',e'⟩:=t;exact fl.1 b o (F.cov b o e (ns b nb (olds b o' e')) (.inr (old1 b o' e')))
 ·obtain⟨_,o2,e2,nf⟩:=F.fly.2.2.1.mem (show b∈frs X.stack by rw[kc];exact qq _ hb)
  rw[e]at e2;cases e2;exact up b o e nf
 ·cases e:X.s₀.heap.get? a with
  |none=>rfl
  |some o =>
   obtain⟨o',e'⟩:=old1 a o e;rw[F.old]at e';cases e'
 ·have e:h2.get? b=some o:=e
  rcases t with ⟨u,e1⟩|⟨o',e1⟩
  ·obtain⟨o1,q⟩:=jI (F.hok b u e1);have c:=F.cov b o1 q (tr b u e1) (.inl ⟨u,e1⟩)
   have:=fl.1 b o1 c
   rw[e]at this;cases this;exact c
  ·obtain⟨o1,q⟩:=km.there b o' e1 (by simp)
   have c:=F.cov b o1 q (ns b nb (olds b o' e1)) (.inr (old1 b o' e1))
   have:=fl.1 b o1 c
   rw[e]at this;cases this;exact c
end
noncomputable def d6:List Value:=[.type "ValueError",.type "Exception",.type "BaseException",.type "object"]
noncomputable def fO(K:uz)(C:Addr)(v:Value):Bool:=match K.lookup C with
 |some ⟨_,_,.cls cd,_⟩=>cd.mro.contains v
 |_=>false
theorem uT{K:uz}{C:Addr}(q:excIn K C d6 "ValueError.__new__" = true):∃nm qn N bs bm hdct sn sub ab col dd k0 k1 k2 k3 k5,
  K.lookup C=some (excClassObj nm qn C N bs bm hdct sn sub ab col dd k0 k1 k2 k3 k5 "ValueError.__new__")∧PySem.W.tailIn K d6 bm=true∧PySem.W.nsOkIn K N=true∧nsIn K N "__init__" = some none∧∀v,fO K C v=(Value.ref C::bm).contains v:=by
 unfold excIn at q;split at q
 ·rename_i dd cd sl ho;split at q
  ·rename_i C' bm k0 k1 k2 k3 n k5 hm hs;simp only[qt,su,not_eq_true']at q;obtain⟨⟨⟨⟨⟨rfl,rfl⟩,hdel⟩,ht⟩,hok⟩,hni⟩:=q;obtain⟨nm,bs,mro,ns,qn,hd,sn,sub,ab,col,del⟩:=cd;dsimp only at hm hdel hok hni;subst hm hdel;have dq:sl=#[k0,k1,k2,k3,some (.builtin "ValueError.__new__"),k5]:=by
    obtain⟨l⟩:=sl;simp only at hs;rw[hs]
   subst dq;refine⟨nm,qn,ns,bs,bm,hd,sn,sub,ab,col,dd,k0,k1,k2,k3,k5,ho,ht,hok,hni,fun v=>?_⟩
   unfold fO;rw[ho]
  ·cases q
 ·cases q
theorem nN{X:Cx}{x m:Str}{j:Nat}{p p' q pos:Pos}{C:Addr}{W:Hp→Prop}(hc:X.calm=true)(hg:Gl X x)(dg:(x == ("__debug__":Str))=false)(hm:X.mg x=some (.ref C))(hx:excIn X.K C d6 "ValueError.__new__" = true)
  (hw:∀pins σ H s h' e vs,Inv X pins σ H s→Heap.MadeExcOf s.heap h' e (.ref C) vs→W H→X.xe (.ref e) { s with heap:=h' }) :
  PS X (.Raise (some (.Call (.Name x p) [.Constant (.str m) j p'] [] q)) none pos) (fun D σ H=>W H):=by
 intro pins s σ H D I hW;obtain⟨nm,qn,N,bs,bm,hdct,sn,sub,ab,col,dd,k0,k1,k2,k3,k5,ho,ht,hok,hni,_⟩:=uT hx;have T:OwnTail s.heap d6 bm:=tail_of_in I.kIn ht
 have hN:s.heap.Ns N (s.heap.nsMap N):=.of_isNs (PySem.W.isNs_of_in I.kIn hok)
 have hni':(s.heap.nsMap N) "__init__" = none:=PySem.W.nsMap_none_of_in I.kIn hok hni
 have hC:=I.kIn _ _ ho
 refine wpAny_Raise_call_subT (C:=C) (nm:=nm) (q:=qn) (N:=N) (bs:=bs) (bm:=bm) (hdct:=hdct) (sn:=sn) (sub:=sub) (ab:=ab) (col:=col) (dd:=dd) (k0:=k0) (k1:=k1) (k2:=k2) (k3:=k3) (k5:=k5)
  PySem.F.excBase_ValueError (mN:=s.heap.nsMap N) (T.hasType PySem.F.excBase_ValueError.hasBase) (I.ok.hd hc) rfl hni' (dW I hg hm ⟨rfl,?_⟩ dg)
 exact Calls.evalArgs_plain (Calls.spliced_cons (Calls.Constant_str (k:=j) (pos:=p') (Calls.spliced_nil ⟨rfl,by show 1≤sizeLine;rw[sizeLine_eq];decide,hC,hN,T,fun h' e hm=>hw pins σ H { s with toks:=s.toks+1 } h' e _ (I.tok _) hm hW⟩)))
section
variable {P:v7}{w:World}{K:uz}{mg:va}{base:Heap}{N:List Str}{qual:Str}{sc:Scope}{f:Addr}{cd:Value}{A:Around}{outer:List Env}{s:Shared}{H:Hp}{E:XK}
theorem jY{pins:v9}{σ:L2.St}{H1:Hp}{s1:Shared}{h':Heap}{e:Addr}{cls:Value}{vs:List Value}(I:Inv (iZ (bP P w) P w K mg base N qual sc f cd A outer s H E) pins σ H1 s1)(hm:Heap.MadeExcOf s1.heap h' e cls vs)(hE:E cls none H1) :
  (iZ (bP P w) P w K mg base N qual sc f cd A outer s H E).xe (.ref e) { s1 with heap:=h' }:=by
 have cz:=I.stack
 have ak:∀b∈frs (envOfC qual sc s.heap.objs.size f cd::outer),H1 b=none:=I.stkFree
 have kc:frs (envOfC qual sc s.heap.objs.size f cd::outer)=s.heap.objs.size::frs outer:=rfl
 have tr:∀b u,H1 b=some u→b∉frs (envOfC qual sc s.heap.objs.size f cd::outer):=fun b u e z=>by rw[ak b z]at e;cases e
 have ns:∀b o,s.heap.get? b=some o→b∉frs outer→b∉frs (envOfC qual sc s.heap.objs.size f cd::outer):=fun b o e h1 z=>by
  rw[kc]at z
  rcases rz.mp z with z|z
  ·exact absurd (rh e) (by rw[z];exact u1 _)
  ·exact h1 z
 have km:Un (frs outer) [] H H1 s.heap s1.heap:=I.base
 refine wpAny_leaves_madeW (base:=hideAll s1.heap (frs (envOfC qual sc s.heap.objs.size f cd::outer))) (L:=s.heap.objs.size) (outer:=outer) I.ok.frames rfl (fun b o q=>PySem.W.of_hideAll _ q)
  (PySem.W.funFrames_hide cz fun env he b hb=>mem_filterMap.mpr ⟨env,he,hb⟩) hm fun h2 t x1 x2 x3 x4=>⟨e,cls,.ref t,hideAll s1.heap (frs (envOfC qual sc s.heap.objs.size f cd::outer)),H1,rfl,?_,hE⟩
 have inB:∀b o,s1.heap.get? b=some o→b∉frs (envOfC qual sc s.heap.objs.size f cd::outer)→(hideAll s1.heap (frs (envOfC qual sc s.heap.objs.size f cd::outer))).get? b=some o:=fun b o q n=>PySem.W.hideAll_get _ q n
 refine⟨I.os,I.bare,rN km (fun b o e t nb=>?_) (fun b o e hb=>?_),oB I.hok fun b o u e q=>x1.1 b o (inB b o q (tr b u e)),x1,?_,?_,fun b hb=>ak b (by rw[kc];exact qq _ hb),fun b o e nb t=>?_⟩
 ·obtain⟨o',e'⟩:=t;exact x1.1 b o (inB b o e (ns b o' e' nb))
 ·obtain⟨_,o2,e2,nf⟩:=cz.mem (show b∈frs (envOfC qual sc s.heap.objs.size f cd::outer) by rw[kc];exact qq _ hb)
  rw[e]at e2;cases e2;exact x4 b o (hm.keeps b o e) nf
 ·cases q:H1 e with
  |none=>rfl
  |some u =>
   obtain⟨o,q2⟩:=jI (I.hok e u q);rw[hm.new]at q2;cases q2
 ·cases q:s.heap.get? e with
  |none=>rfl
  |some u =>
   obtain⟨o,q2⟩:=km.there e u q (by simp)
   rw[hm.new]at q2;cases q2
 ·have e:h2.get? b=some o:=e
  rcases t with ⟨u,e1⟩|⟨o',e1⟩
  ·obtain⟨o1,q⟩:=jI (I.hok b u e1);have c:=inB b o1 q (tr b u e1)
   have:=x1.1 b o1 c
   rw[e]at this;cases this;exact c
  ·obtain⟨o1,q⟩:=km.there b o' e1 (by simp)
   have c:=inB b o1 q (ns b o' e1 nb)
   have:=x1.1 b o1 c
   rw[e]at this;cases this;exact c
theorem sF{E1:XK}(hE:∀cls H',E1 cls none H'→E cls none H'):fU (bP P w) (iZ (bP P w) P w K mg base N qual sc f cd A outer s H E) E1:=by
 rintro pins σ H1 s1 e s' I ⟨a,cls,a0,B,H',rfl,F,q⟩;exact wpAny_leaves_onW (L:=s.heap.objs.size) (outer:=outer) I.ok.frames rfl F.fly fun h2 x1 x2=>⟨a,cls,a0,B,H',rfl,Fly.up (env:=envOfC qual sc s.heap.objs.size f cd) I rfl rfl rfl rfl F x1 x2,hE _ _ q⟩
end
abbrev fR(X:Cx)(a:Addr):Cx:={ X with A:=X.A.mark (some (.ref a)),calm:=false,xe:=fun _ _=>False }
section
variable {X:Cx}{pins:v9}{σ:L2.St}{H H':Hp}{s s':Shared}{B:Heap}{a:Addr}{cls a0:Value}
theorem YX(ok:X.Ok)(a:Addr):(fR X a).Ok:=⟨ok.mod,ok.kind,ok.glob,ok.blt,ok.above,ok.inj,ok.has,ok.cab,(fun z=>by cases z),ok.frames,ok.stk,ok.exf,ok.bs,ok.bsz,ok.noex,ok.exfs,ok.funs,ok.frf⟩
theorem mR(I:Inv X pins σ H s)(a:Addr):Inv (fR X a) pins σ H s:=⟨YX I.ok a,I.os,I.bare,I.base,I.loc,I.cell,I.free,I.freeC,I.pin,I.hok,I.len⟩
theorem EL(ok:X.Ok)(I:Inv (fR X a) pins σ H s):Inv X pins σ H s:=⟨ok,I.os,I.bare,I.base,I.loc,I.cell,I.free,I.freeC,I.pin,I.hok,I.len⟩
theorem QX{h':Heap}{t:Nat}{m':va}(I:Inv X pins σ H s)(hn:h'.Ns X.env.locals m')(hs:Heap.SameBut X.env.locals s.heap h'):Inv X pins (List.replicate X.N.length none) H { s with heap:=h',toks:=t }:=by
 obtain⟨m,hn0,hl⟩:=id I.loc;obtain⟨oL,_,_,hoL,_⟩:=id hn0;have cne:=I.cne
 have old:∀b o,X.s₀.heap.get? b=some o→b≠X.env.locals:=fun b o e=>tm (qw (rh e) I.ok.above)
 have tracked:HOk X.prog X.w H h':=fun b ob e=>by
  refine(I.hok b ob e).stay (fun c w' hc q=>(hs.2 c ?_).trans q) (fun _ q=>q) fun _ _ q=>q
  rintro rfl
  rcases hc with hc|hc
  ·rw[←hc,I.free]at e;cases e
  ·rw[I.free]at hc;cases hc
 refine⟨I.ok,I.os,I.bare,⟨fun b o e n hb hx=>?_,fun b o e n hb hx=>?_,I.base.free,fun b o e hx=>?_,I.base.tups,I.base.frzs,I.base.tbls⟩,⟨m',hn,fun j y v' e1 e2 e3=>?_⟩,fun y c e=>?_,I.free,I.freeC,fun p hp=>?_,tracked,by simp⟩
 ·exact(hs.2 b (old b o e)).trans (I.base.keep b o e n hb hx)
 ·obtain⟨sl,e1⟩:=I.base.slot b o e n hb hx;exact⟨sl,(hs.2 b (old b o e)).trans e1⟩
 ·obtain⟨o',e1⟩:=I.base.there b o e hx;exact⟨o',(hs.2 b (old b o e)).trans e1⟩
 ·rw[getElem?_replicate]at e2;split at e2<;>cases e2
 ·obtain⟨w',z⟩:=I.cell y c e;exact⟨w',z.sameBut hs (cne y c e)⟩
 ·obtain⟨e,n,ne,nf,d⟩:=I.pin p hp;exact⟨(hs.2 p.1 ne).trans e,n,ne,nf,d⟩
def isExc(a C:Addr)(h:Heap):Prop:=∃o,h.get? a=some o∧o.cls=.ref C
theorem Fly.track{C:Addr}(I:Inv X pins σ H s)(F:Fly X.prog X.w X.stack H s B a (.ref C) a0 H' s'):Inv X pins σ (upd H' a (.ext (isExc a C))) s':=by
 obtain⟨o,ho,hc⟩:=F.fly.there;have ne:∀b u,H' b=some u→b≠a:=fun b u e z=>by rw[z,F.new]at e;cases e
 refine I.call' (H':=upd H' a (.ext (isExc a C))) F.os (ch:=[]) ?_ ?_ F.bare fun b z=>absurd z (by simp)
 ·refine⟨F.un.keep,F.un.slot,fun b o e n hx=>?_,F.un.there,fun b xs e=>?_,fun b o u e=>?_,fun b ps e=>?_⟩
  ·rw[aG fun z=>by rw[z,F.old]at e;cases e]
   exact F.un.free b o e n hx
  ·have:=F.un.tups b xs e
   rw[aG (ne b _ this)];exact this
  ·have:=F.un.frzs b o u e
   rw[aG (ne b _ this)];exact this
  ·obtain⟨more,this⟩:=F.un.tbls b ps e;exact⟨more,by rw[aG (ne b _ this)];exact this⟩
 ·intro b u e
  by_cases hb:b=a
  ·subst hb;rw[aH]at e;cases e;exact⟨⟨o,ho,hc⟩,⟨o,ho⟩,fun h1 h2 ⟨o1,e1,c1⟩ k=>⟨o1,k o1 e1,c1⟩⟩
  ·rw[aG hb]at e;refine(F.hok b u e).stay (fun _ _ _ q=>q) (fun c q=>?_) fun c xs q=>?_
   ·rw[aG (ne c _ q)];exact q
   ·rw[aG (ne c _ q)];exact q
end
section
variable {M:Model}{A:Around}{E:v8}{h:Heap}{g:Array GenState}{d:Drawn}{t:Nat}{os:OsState}
variable {nm q:Str}{C N:Addr}{bs bm:List Value}{hdct:Bool}{sn:List Str}{sub:List Value}{ab:Bool}{col:Option Bool}{dd:Option Addr}{k0 k1 k2 k3 k5:Option Value}{newId:String}
variable {nm' q':Str}{L N':Addr}{bs' bm':List Value}{hdct':Bool}{sn':List Str}{sub':List Value}{ab':Bool}{col':Option Bool}{iN:Option Addr}{k0' k1' k2' k3' k5':Option Value}{newId':String}
theorem iU{e:Addr}{oe:Obj}{Q:Bool→Shared→Prop}(hC:h.get? C=some (excClassObj nm q C N bs bm hdct sn sub ab col dd k0 k1 k2 k3 k5 newId))(hL:h.get? L=some (excClassObj nm' q' L N' bs' bm' hdct' sn' sub' ab' col' iN k0' k1' k2' k3' k5' newId'))(he:h.get? e=some oe)(gm:oe.cls=.ref C)(hbase:bm'.contains (.type "BaseException")=true)
  (hs:(Value.ref C::bm).contains (.ref L)=true) (hq:Q true ⟨h,g,d,t,os⟩):wpAny M A (excMatches (.ref e) (.ref L)) Q E ⟨h,g,d,t,os⟩:=by
 have hcB:(Value.ref L::bm').contains (.type "BaseException")=true:=by rw[List.contains_cons,hbase,Bool.or_true]
 have f:=tc_notTuple
 unfold excMatches
 repeat (first|(with_reducible refine wpAny_loadPart_at he ?_;rw[gm])|with_reducible refine wpAny_loadPart_at hL ?_|(with_reducible refine wpAny_isSubtype_exc hL ?_;rw[hcB])|(with_reducible refine wpAny_isSubtype_exc hC ?_;rw[hs])|wp_step)
 exact hq
end
section
variable {X:Cx}{pins:v9}{σ:L2.St}{H H':Hp}{s s':Shared}{B:Heap}{a C L:Addr}{a0:Value}{x:Str}{np hp:Pos}{b₀:Stmt}{suite:List Stmt}{rest:List ExceptHandler}{rt:VK}
noncomputable def lB(rt:VK):Ends:={ nx:=fun _ _=>False,rt:=rt }
theorem GM{D:Ends}{f:Flow}{s1:Shared}(ok:X.Ok)(hD:D.rt=rt)(h:SP (fR X a) pins (lB rt) f s1):SP X pins D f s1:=by
 cases f with
 |next=>obtain⟨_,_,_,z⟩:=h;exact z.elim
 |brk=>obtain⟨_,_,_,z⟩:=h;exact z.elim
 |cont=>obtain⟨_,_,_,z⟩:=h;exact z.elim
 |ret u=>obtain⟨v,σ',H',I,r,q⟩:=h;exact⟨v,σ',H',EL ok I,r,by rw[hD];exact q⟩
theorem aAx{D:Ends}(I:Inv X pins σ H s)(F:Fly X.prog X.w X.stack H s B a (.ref C) a0 H' s')(cz:X.stack=X.env::X.outer)(hf:X.env.frame=some X.env.locals)(hC:excIn X.K C d6 "ValueError.__new__" = true)(hL:excIn X.K L d6 "ValueError.__new__" = true)(mM:fO X.K C (.ref L)=true)
  (hg:Gl X x) (dg:(x == ("__debug__":Str))=false) (hm:X.mg x=some (.ref L)) (hD:D.rt=rt)
  (hs:PSs (fR X a) (b₀::suite) (fun D' σ' d9=>D'=lB rt∧σ'=σ∧d9=upd H' a (.ext (isExc a C)))) :
  wpAny (model X.prog X.w) X.A (noteFrame (.ref a) X.env) (fun _ s₂=>wpAny (model X.prog X.w) X.A (setFlight (.ref a) none) (fun _ s₃ =>
   wpAny (model X.prog X.w) X.A (handleBy (.ref a) X.env (.ExceptHandler (some (.Name x np)) none (b₀::suite) hp::rest)) (SP X pins D) X.xe s₃) X.xe s₂) X.xe s':=by
 refine wpAny_looks_onW (env:=X.env) (outer:=X.outer) (L:=X.env.locals) (by rw[←cz];exact I.ok.frames) hf (by rw[←cz];exact F.fly) fun h₄ held up4=>?_
 refine wpAny_landsW held fun h₅ ke up5=>?_
 have F5:=F.move (h2:=h₅) (by rw[cz];exact ke) (up4.trans up5)
 have I5:=F5.inv I
 refine wpAny_handleBy_cons (codeAny_handlers_test ?_) (by intro q;cases q)
 refine dW (X:=fR X a) (mR I5 a) hg hm ?_ dg;obtain⟨nm1,qn1,N1,bs1,bm1,hdct1,sn1,sub1,ab1,col1,dd1,c0,c1,c2,c3,c5,j4,ht1,_,_,mr1⟩:=uT hC;obtain⟨nm2,qn2,N2,bs2,bm2,hdct2,sn2,sub2,ab2,col2,jq,d0,d1,d2,d3,d5,df,ht2,_,_,mr2⟩:=uT hL;obtain⟨oe,hoe,lj⟩:=ke.there;refine iU (I5.kIn _ _ j4) (I5.kIn _ _ df) hoe lj ((tail_of_in I5.kIn ht2).hasType (by decide +kernel)) (by rw[←mr1];exact mM) ?_
 refine codeAny_handlers_suite (lands_againW ke fun h₆ fl6 up6=>?_)
 have F6:=F5.move (h2:=h₆) (by rw[cz];exact fl6) up6
 have I6:=F6.track I
 exact ua (hs pins _ σ _ (lB rt) (mR I6 a) ⟨rfl,rfl,rfl⟩) (fun f s₇ h₇=>GM I.ok hD h₇) fun _ _ z=>z.elim
theorem KY{D:Ends}{n:Str}{i:Nat}(I:Inv X pins σ H s)(F:Fly X.prog X.w X.stack H s B a (.ref C) a0 H' s')(cz:X.stack=X.env::X.outer)(hf:X.env.frame=some X.env.locals)(hC:excIn X.K C d6 "ValueError.__new__" = true)(hL:excIn X.K L d6 "ValueError.__new__" = true)(mM:fO X.K C (.ref L)=true)
  (hg:Gl X x) (dg:(x == ("__debug__":Str))=false) (hm:X.mg x=some (.ref L)) (hD:D.rt=rt) (hN:X.N.Nodup) (hi:X.N[i]?=some n) (hlo:X.env.kindOf n=some .local)
  (hs:PSs (fR X a) (b₀::suite) (fun D' σ' d9=>D'=lB rt∧σ'=σ.set i (some (.ref a))∧d9=upd H' a (.ext (isExc a C)))) :
  wpAny (model X.prog X.w) X.A (noteFrame (.ref a) X.env) (fun _ s₂=>wpAny (model X.prog X.w) X.A (setFlight (.ref a) none) (fun _ s₃ =>
   wpAny (model X.prog X.w) X.A (handleBy (.ref a) X.env (.ExceptHandler (some (.Name x np)) (some n) (b₀::suite) hp::rest)) (SP X pins D) X.xe s₃) X.xe s₂) X.xe s':=by
 refine wpAny_looks_onW (env:=X.env) (outer:=X.outer) (L:=X.env.locals) (by rw[←cz];exact I.ok.frames) hf (by rw[←cz];exact F.fly) fun h₄ held up4=>?_
 refine wpAny_landsW held fun h₅ ke up5=>?_
 have F5:=F.move (h2:=h₅) (by rw[cz];exact ke) (up4.trans up5)
 have I5:=F5.inv I
 refine wpAny_handleBy_cons (codeAny_handlers_test ?_) (by intro q;cases q)
 refine dW (X:=fR X a) (mR I5 a) hg hm ?_ dg;obtain⟨nm1,qn1,N1,bs1,bm1,hdct1,sn1,sub1,ab1,col1,dd1,c0,c1,c2,c3,c5,j4,ht1,_,_,mr1⟩:=uT hC;obtain⟨nm2,qn2,N2,bs2,bm2,hdct2,sn2,sub2,ab2,col2,jq,d0,d1,d2,d3,d5,df,ht2,_,_,mr2⟩:=uT hL;obtain⟨oe,hoe,lj⟩:=ke.there;refine iU (I5.kIn _ _ j4) (I5.kIn _ _ df) hoe lj ((tail_of_in I5.kIn ht2).hasType (by decide +kernel)) (by rw[←mr1];exact mM) ?_
 refine codeAny_handlers_suite_as (lands_againW ke fun h₆ fl6 up6=>?_)
 have F6:=F5.move (h2:=h₆) (by rw[cz];exact fl6) up6
 have I6:=F6.track I
 have gm:(X.env.scope.kind == .class || (X.env.scope.kind == .module&&X.env.locals != X.env.globals))=false:=by rw[I.ok.kind];rfl
 refine nJ (X:=fR X a) (v:=.ref a) (mR I6 a) hN hi (.inl hlo) rfl (fun s₇ I7=>?_) (.inr hlo)
 refine ua (hs pins _ _ _ (lB rt) I7 ⟨rfl,rfl,rfl⟩) (fun f s₈ h₈=>?_) fun _ _ z=>z.elim
 have h9:=GM (D:={ D with nx:=fun _ _=>False,bk:=fun _ _=>False,ct:=fun _ _=>False }) I.ok hD h₈
 cases f with
 |next=>obtain⟨_,_,_,z⟩:=h9;exact z.elim
 |brk=>obtain⟨_,_,_,z⟩:=h9;exact z.elim
 |cont=>obtain⟨_,_,_,z⟩:=h9;exact z.elim
 |ret u =>
  obtain⟨v,σ',H9,I9,r,q⟩:=h9;obtain⟨m,hn,_⟩:=id I9.loc;exact wpAny_nameGoes hlo hn gm fun h' m' jj hsb=>⟨v,_,H9,QX I9 jj hsb,r,q⟩
end
structure RoomM (k:Nat) (A:Around):Prop where
 dp:A.depth+3*k+5<recursionLimit
 un:A.units+16*k+200<cLine
theorem TM{k:Nat}{A:Around}(r:Room k A):RoomM k A:=⟨r.dp,r.un⟩
theorem RoomM.mono{j k:Nat}{A:Around}(r:RoomM k A)(h:j≤k):RoomM j A:=⟨by have:=r.dp;omega,by have:=r.un;omega⟩
theorem RoomM.under{k:Nat}{A:Around}(r:RoomM (k+1) A)(env:Env):RoomM k (A.deeper env):=
 ⟨by have z:=r.dp;show A.depth+1+3*k+5<_;omega,by have z:=r.un;show A.units+3+16*k+200<_;omega⟩
structure kj (P:v7) (w:World) (K:uz) (mg:va) (base:Heap) (k:Nat) (f:Addr) (fd:v3) (ps:List Str) (sp:Sp):Prop where
 len:∀vs H Q,sp vs H Q E0→vs.length=ps.length
 run:∀(A:Around) (outer:List Env) (s:Shared) (H:Hp) (args:Args) (us:List Value) (vs:List V) (Q:VK),RoomM k A→Env0 P w K mg base A outer s H→BindsTo s fd args (ps.zip us)→aQ vs us→sp vs H Q E0 →
  codeAny (model P w) A (.call (.ref f) args) (CR kl outer P w H s Q E0) s
noncomputable def cxM(P:v7)(w:World)(K:uz)(mg:va)(base:Heap)(N:List Str)(qual:Str)(sc:Scope)(f:Addr)(cd:Value)(A:Around)(outer:List Env)(s:Shared)(H:Hp):Cx:=
 {iZ kl P w K mg base N qual sc f cd A outer s H E0 with calm:=false,xe:=fun _ _=>False }
theorem FG{P:v7}{w:World}{K:uz}{mg:va}{base:Heap}{A:Around}{outer:List Env}{s:Shared}{H:Hp}(e:Env0 P w K mg base A outer s H):Env0 P w K mg base { A with handled:=none } outer s H:=
 ⟨e.frames,e.mod,e.bs,e.bsz,e.funs,e.frf,e.hok,e.bare⟩
theorem JI{P:v7}{w:World}{K:uz}{mg:va}{base:Heap}{N:List Str}{qual:Str}{sc:Scope}{f:Addr}{cd:Value}{A:Around}{outer:List Env}{s s1:Shared}{H:Hp}{σ:L2.St}
  (ak:A.frames=some outer) (I:Inv (iZ kl P w K mg base N qual sc f cd { A with handled:=none } outer s H E0) [] σ H s1):Inv (cxM P w K mg base N qual sc f cd A outer s H) [] σ H s1:=
 ⟨⟨I.ok.mod,I.ok.kind,I.ok.glob,I.ok.blt,I.ok.above,I.ok.inj,I.ok.has,I.ok.cab,(fun z=>by cases z),Around.frames_deeper ak,I.ok.stk,I.ok.exf,I.ok.bs,I.ok.bsz,I.ok.noex,I.ok.exfs,I.ok.funs,I.ok.frf⟩,
  I.os,I.bare,I.base,I.loc,I.cell,I.free,I.freeC,I.pin,I.hok,I.len⟩
theorem aAj{P:v7}{w:World}{K:uz}{mg:va}{base:Heap}{k:Nat}{x qual:Str}{st:Stmt}{f:Addr}{fd:v3}{N ps:List Str}{sp:Sp}(F:Fun K x qual st f fd)(fs:aa N ps (aB st))(len:∀vs H Q,sp vs H Q E0→vs.length=ps.length)
  (hb:∀(cd:Value) (A:Around) (outer:List Env) (s:Shared) (H:Hp) (vs:List V) (Q:VK),RoomM k (A.deeper (envOfC qual (aB st) s.heap.objs.size f cd))→sp vs H Q E0 →
   ∃t,PSs (cxM P w K mg base N qual (aB st) f cd A outer s H) (aL st) t∧t { nx:=fun _ H'=>Q .non H',rt:=Q } (L2.start N vs) H):kj P w K mg base (k+1) f fd ps sp:=by
 obtain⟨oc,od,kV,doc,pm,an,aw,ct,i4,rfl,lk,cf⟩:=F.ex;refine⟨len,fun A outer s H args us vs Q hr e0 j8 r aq=>?_⟩
 have hl:=len _ _ _ aq
 have kin:K.In s.heap:=e0.mod.kin.keeps fun b o e=>(e0.bs b o e).1
 have lim:s.heap.NoLimit:=e0.mod.nolimit.keeps fun b o e=>(e0.bs b o e).1
 refine codeAny_call_function (by have:=hr.dp;omega) (kin _ _ lk) rfl fs.co fs.gen rfl (PySem.W.codeRec_of kin cf) (j8 _ _ _ _ ?_)
 refine wpAny_newFunctionEnv_cells fs.kind ?_ fun env he s1 y=>?_
 ·rintro⟨n,v⟩ hy
  rcases fs.par n (of_mem_zip hy).1 with q|q
  ·exact Or.inl q
  ·exact Or.inr ⟨q,cellsFrom_some _ _ _ (Or.inl q)⟩
 subst he;refine⟨lim.keeps y.toInCall.keep,codeAny_func ?_⟩;obtain⟨t,ht,hq⟩:=hb aw A outer s H vs Q (hr.under _) aq;have I:=JI e0.frames (qJ (A:={ A with handled:=none }) fs rfl (FG e0) hl r y)
 refine ua (ht [] s1 _ H _ I hq) (fun fl s' hs=>?_) fun e s' z=>z.elim
 cases fl with
 |ret u =>
  obtain⟨v,σ',H',J,rv,q⟩:=hs;exact⟨v,H',J.os,J.bare,J.base,J.hok,rv,q⟩
 |next =>
  obtain⟨σ',H',J,q⟩:=hs;exact⟨.non,H',J.os,J.bare,J.base,J.hok,rfl,q⟩
 |brk=>obtain⟨_,_,_,q⟩:=hs;exact q.elim
 |cont=>obtain⟨_,_,_,q⟩:=hs;exact q.elim
theorem HP{X:Cx}{k:Nat}{f:Addr}{fd:v3}{ps:List Str}{sp:Sp}{x:Str}{p pos:Pos}{e:Expr}{es:List Expr}{t:TA}(F:kj X.prog X.w X.K X.mg X.base k f fd ps sp)(hr:RoomM k X.A)(hg:Gl X x)(hm:X.mg x=some (.ref f))(hk:keepIn X.K (.ref f)=true)(hb:Binds X.K fd ps [])
  (ha:PA X (e::es) t) (dg:(x == ("__debug__":Str))=false) (he:starEach (e::es) X.env=(false,eval e X.env)::starEach es X.env) (i7:(backTo pos (starEach es X.env)).any (·.1)=false) :
  PE X (.Call (.Name x p) (e::es) [] pos) (uZ sp [] E0 t):=by
 intro pins s σ H Q I h;refine wpAny_Call_Name_kw (dW I hg hm ?_ dg);refine callWith_K (h₀:=X.base) I.ok.mod.kin hk (ae (ha pos pins s σ H _ I h) fun us s1 hh=>?_) he i7
 obtain⟨vs,H1,I1,r,q⟩:=hh;refine⟨I1.kIn,?_⟩;rw[sk]at q;have hl:(us++[]).length=ps.length:=by rw[sk,←r.length];exact F.len _ _ _ q
 have lz:=hb s1 us I1.kIn hl
 rw[sk]at lz;refine wpAny_call (codeAny_mono (F.run X.A X.stack s1 H1 ⟨us,[]⟩ us vs Q hr I1.env0 lz r q) fun rr s2 hq=>?_)
 cases rr with
 |error e=>exact hq.elim
 |ok fl =>
  cases fl with
  |ret u=>exact I1.after hq
  |next=>exact hq.elim
  |brk=>exact hq.elim
  |cont=>exact hq.elim
structure XcK (K:uz) (C:Addr):Prop where
 ga:findIn K (.ref C) "__getattribute__" = some (some (.builtin "BaseException.__getattribute__"))
 gn:findIn K (.ref C) "__getattr__" = some none
 ha:findIn K (.ref C) "__class__" = some (some (.builtin "object.__class__"))
 hn:specialIn K (.builtin "object.__class__") "__get__" = some (some (.builtin "getset_descriptor.__get__"))
 tk:takesIn K (.builtin "object.__class__")=some true
 hm:mroIn K C (.type "object")=some true
 hb:mroIn K C (.type "BaseException")=some true
theorem XcK.cl{K:uz}{C:Addr}(F:XcK K C):(PySem.W.clsIn K C).isSome=true:=by
 have h:=F.hm
 unfold mroIn at h;obtain⟨cd,h1,_⟩:=qg.mp h;rw[h1];rfl
section
open PySem.W PySem.Builtin PySem.Builtin.ObjectAttr PySem.Builtin.Getset_descriptor
variable {K:uz}{x C:Addr}
theorem oP{M:Model}{h:Heap}(p:isExc x C h):Looks M h (typeOf (.ref x)) (.ref C):=by
 obtain⟨o,e,c⟩:=p;exact c ▸ (Looks.ld e).andThen .now
theorem KW{h:Heap}(k:K.In h)(z:(clsIn K C).isSome=true):(∃c d cd sl,h.get? C=some ⟨c,d,.cls cd,sl⟩)∧∀M:Model,Looks M h (isType (.ref C)) true:=by
 unfold clsIn at z;split at z
 ·rename_i c d cd sl ho;refine⟨⟨c,d,cd,sl,k _ _ ho⟩,fun M A Q E s kk q=>?_⟩
  unfold isType loadHead;exact u2 (wpAny_loadPart (kk _ _ (k _ _ ho)) (u7 q))
 ·cases z
theorem RU{prog:v7}{w:World}{A:Around}{R:Result→Shared→Prop}{s:Shared}{tp:Value}(F:XcK K C)(k:K.In s.heap)(p:isExc x C s.heap)(q:R (.ok (.ret (.ref C))) s) :
  codeAny (model prog w) A (.call (.builtin "getset_descriptor.__get__") ⟨[.builtin "object.__class__",.ref x,tp],[]⟩) R s:=by
 obtain⟨hp,gs,dr,tks,oss⟩:=s;have lt:Looks (model prog w) hp (typeOf (.ref x)) (.ref C):=oP p
 have lm:=looks_mroIn (M:=model prog w) k F.hm
 refine codeAny_call_builtin KF.slot_gs.plain KF.entry_gs (KF.slot_gs.check _ _ _ _ _ _ _ _ KF.type_class (KF.args_gs _ _ _) ?_);unfold Builtin.«getset_descriptor.__get__»;unfold descrGet;rw[dga_obj];refine u2 (u7 ?_);unfold descrGetter;unfold descrCheckInstance descrNameAndClass;unfold isInstance;simp only[KF.owner_class]
 repeat lk
 refine⟨Code.quiet_builtin _ (by decide +kernel),?_⟩
 refine codeAny_builtin KF.entry_class ?_;unfold Builtin.«object.__class__»;unfold shownTypeOf
 repeat lk
 exact q
theorem FE{prog:v7}{w:World}{A:Around}{E:v8}{s:Shared}{tk:Tok}{Q:Fin→Shared→Prop}(F:XcK K C)(k:K.In s.heap)(p:isExc x C s.heap)(q:Q (.done (.ret (.ref C))) s) :
  wpAny (model prog w) A (Builtin.«object.__getattribute__» ⟨[.ref x,.str "__class__" tk],[]⟩) Q E s:=by
 obtain⟨hp,gs,dr,tks,oss⟩:=s;have lt:Looks (model prog w) hp (typeOf (.ref x)) (.ref C):=oP p
 have lf:Looks (model prog w) hp (find (.ref x) (.ref C) "__class__") (.bind (.builtin "getset_descriptor.__get__") (.builtin "object.__class__")):=
  (looks_findIn k F.ha).andThen ((looks_specialIn k F.hn).andThen ((show Looks (model prog w) hp (dataDescriptor? (some (.builtin "object.__class__")) (some (.builtin "getset_descriptor.__get__"))) (some (.builtin "getset_descriptor.__get__",.builtin "object.__class__")) from(looks_takesIn k F.tk).andThen .now).andThen (Looks.tag .now)))
 unfold Builtin.«object.__getattribute__»;refine u2 (wpAny_of_eq (a:=(Value.ref x,[Value.str "__class__" tk])) (by rfl) ?_)
 refine u2 (u7 (u2 (lt.at (u2 (lf.at ?_)))));show wpAny _ _ (holding [Value.builtin "object.__class__"] (call (.builtin "getset_descriptor.__get__") [.builtin "object.__class__",.ref x,.ref C]) >>= ret) _ _ _
 exact u2 (wpAny_holding (ua (wpAny_call (RU (R:=fun r s'=>match r with | .ok (.ret v)=>Q (.done (.ret v)) s' | .ok _=>False | .error e=>E e s') F k p (tp:=.ref C) q)) (fun v s' z=>u7 z) fun _ _ z=>z))
theorem FF{M:Model}{A:Around}{E:v8}{s:Shared}{v:Value}{Q:Unit→Shared→Prop}(F:XcK K C)(k:K.In s.heap)(p:isExc x C s.heap)(q:Q () s) :
  wpAny M A (checkBuiltinCall "BaseException.__getattribute__" ⟨[.ref x,v],[]⟩) Q E s:=by
 obtain⟨hp,gs,dr,tks,oss⟩:=s;have lt:Looks M hp (typeOf (.ref x)) (.ref C):=oP p
 have lb:=looks_mroIn (M:=M) k F.hb
 have hk:builtinKind "BaseException.__getattribute__" = some .slot:=by decide +kernel
 have aq:splitId "BaseException.__getattribute__" = some ("BaseException","__getattribute__"):=by decide +kernel
 have har:=PySem.F.args_bexc_ga (.ref x) v
 simp only[checkBuiltinCall,hk,aq];refine u2 ?_;unfold isInstance;refine u2 (lt.at (lb.at ?_));simp only[sj,qp,if_false]
 repeat wp_step
 exact q
theorem RV{prog:v7}{w:World}{A:Around}{E:v8}{Q:Option Value→Shared→Prop}{s:Shared}(F:XcK K C)(k:K.In s.heap)(p:isExc x C s.heap)(q:Q (some (.ref C)) { s with toks:=s.toks+1 }) :
  wpAny (model prog w) A (getAttr? (.ref x) "__class__") Q E s:=by
 obtain⟨hp,gs,dr,tks,oss⟩:=s;have lt:Looks (model prog w) hp (typeOf (.ref x)) (.ref C):=oP p
 have lg:=looks_findIn (M:=model prog w) k F.ga
 have lh:=looks_findIn (M:=model prog w) k F.gn
 have lb:=looks_mroIn (M:=model prog w) k F.hb
 have hx2:(Value.builtin "BaseException.__getattribute__" == Value.builtin "object.__getattribute__")=false:=by decide +kernel
 have hk:builtinKind "BaseException.__getattribute__" = some .slot:=by decide +kernel
 have aq:splitId "BaseException.__getattribute__" = some ("BaseException","__getattribute__"):=by decide +kernel
 unfold getAttr? getAttrBy? getAttrBy;refine u2 (wpAny_mkText (u2 (wpAny_attempt (wpAny_holding (u2 (lt.at (u2 (lg.at ?_))))))));dsimp only;rw[hx2,Bool.and_false,if_neg (by decide)]
 unfold getAttrByItsOwn hookBefore;refine u2 ?_;rw[if_pos (show onTheHeap (Value.ref C)=true from rfl)]
 refine lh.at ?_;refine u2 (wpAny_attempt (wpAny_holding ?_));unfold callGetattribute;rw[Bool.false_and,if_neg (by decide)]
 unfold boundAndCalled;refine u2 (wpAny_of_eq (PySem.F.attrBase_ValueError.ga.bind (.ref x)) ?_);refine wpAny_call (codeAny_call_builtin PySem.F.attrBase_ValueError.ga.plain PySem.F.entry_bexc_ga ?_);refine FF F k p ?_;refine ua (FE (Q:=fun fin s'=>fin=.done (.ret (.ref C))∧s'=⟨hp,gs,dr,tks+1,oss⟩) (E:=fun _ _=>False) F k p ⟨rfl,rfl⟩) (fun fin s' z=>?_) fun _ _ z=>z.elim
 obtain⟨rfl,rfl⟩:=z;exact handed_on rfl (u7 q)
theorem JB(F:XcK K C):KitX K (.ref x) (.ref C) (isExc x C) where
 ty:=fun _ _ _ p=>oP p
 it:=fun M _ k _=>(KW k F.cl).2 M
 ne:=fun h tp dd its n sl k htp=>by
  obtain⟨⟨c,d,cd,sl',e⟩,_⟩:=KW k F.cl;refine Bool.eq_false_iff.mpr fun q=>?_
  have ee:C=tp:=Value.ref.inj (su.mp q)
  rw[ee,htp]at e;cases e
 ca:=fun k p q=>RV F k p q
end
end Z
namespace Z
open PySem
end Z
namespace Z
open PySem PySem.Spec PyProof.Rows L2
def rG(K:uz)(T:Tx)(S:Addr→Prop)(H H':Hp)(d:D)(v:V):Prop:=∀ds,d=.lst ds→∃p xs,v=.ref p∧H p=none∧H' p=some (.lst xs)∧aD K T (er H' p) S ds xs
def fc(K:uz)(T:Tx)(n:Nat)(f:List D→Option Rs)(fr:Bool):Sp:=fun vs H Q E=>vs.length=n∧∃(S:Addr→Prop) (ds:List D),(∀a,S a→∃o,H a=some o)∧aD K T H S ds vs ∧
 ((∃d,f ds=some (.ok d)∧∀v H',aF H H'→Rep K T H' S d v→(fr=true→rG K T S H H' d v)→Q v H') ∨
  (∃c C,f ds=some (.er c)∧T.xc c=some C∧∀H',aF H H'→E (.ref C) none H'))
def WQ(K:uz)(T:Tx)(C:Addr)(n:Nat)(g:List D→Option Rs):Sp:=fun vs H Q _=>vs.length=n∧∃(p dx:Addr) (ws:List V) (S:Addr→Prop) (ds:List D) (d:D),vs=.ref p::ws∧H p=some (.ins C dx [])∧S p∧(∀a,S a→∃o,H a=some o) ∧
 aD K T H S ds ws∧g ds=some (.ok d)∧∀H',(∀b o,b≠p→H b=some o→H' b=some o)→(∀S':Addr→Prop,(∀a,S' a→S a∧a≠p)→Rep K T H' S' d (.ref p))→Q .non H'
noncomputable def fH:List Str:=["len","int","list","tuple","max","min","str","sorted","any","range","reversed","enumerate","isinstance","bool","ValueError"]
def mr(C:Addr)(x:Str):Sp:=fun vs H Q _=>∃a,vs=[.ref a]∧H a=some (.ext (isExc a C))∧∀H',aF H H'→Q (.str x) H'
def aGb(X:Cx)(T:Tx)(a:Addr)(kvs:List (Str×D)):Prop:=(a == sysModules)=false∧∃o vs,X.K.lookup a=some o∧o.IsDictOf (bH X.prog X.w) vs∧(∀k,(valueAt vs (Sum.inr k)).isSome=(kvs.lookup k).isSome) ∧
 ∀k d u,kvs.lookup k=some d→valueAt vs (Sum.inr k)=some u→∃v,RelV v u∧∀(H:Hp) (S:Addr→Prop),(∀a o,X.K.lookup a=some o→H a=none)→(∀a,S a→∃o,H a=some o)→Rep X.K T H S d v
structure kh (CX:aj) (X:Cx) (c:CC) (G:GS) (T:Tx) (lv:Nat):Prop where
 fn:∀x,c.fns.contains x=true→∃f fd ps,X.mg x=some (.ref f)∧keepIn X.K (.ref f)=true∧Binds X.K fd ps []∧(∀ds r,G.fn x ds=some r→ds.length=ps.length) ∧
  FnOk X.prog X.w X.K X.mg X.base CX lv f fd ps (fc X.K T ps.length (G.fn x) (G.ff x))
 me:∀cn C m ds r,T.cl cn=some C→G.me cn m ds=some r→∃f fd ps,gy X.K C m f∧Binds X.K fd ps []∧(∀ds r,G.me cn m ds=some r→ds.length=ps.length) ∧
  FnOk X.prog X.w X.K X.mg X.base CX lv f fd ps (fc X.K T ps.length (G.me cn m) (G.mf cn m))
 cls:∀cn C,T.cl cn=some C→Cls X.K C
 fld:∀cn C f,T.cl cn=some C→(G.fl cn).contains f=true→dZ X.K C f
 mo:∀x,c.cls.contains x=true→∀ds d,G.mo x ds=some (.ok d)→∃C f fd ps j,j+1≤lv∧X.mg x=some (.ref C)∧Mk X.K C f∧Binds X.K fd ps []∧ds.length+1=ps.length ∧
  FnOk X.prog X.w X.K X.mg X.base CX j f fd ps (WQ X.K T C ps.length (G.mo x))
 cst:∀x d,G.cst x=some d→c.csts.contains x=true→∃u v,X.mg x=some u∧RelV v u∧∀(H:Hp) (S:Addr→Prop),(∀a o,X.K.lookup a=some o→H a=none)→(∀a,S a→∃o,H a=some o)→Rep X.K T H S d v
 bi:∀x,fH.contains x=true→c.fns.contains x=false→c.cls.contains x=false→X.mg x=none
 xcl:∀x C,T.xc x=some C→X.mg x=some (.ref C)
 frs:∀x,c.fresh.contains x=true→G.ff x=true∧∀cn,G.mf cn x=true
 cx0:∀outer H s e s',CX outer H s E0 e s'→False
 cxf:∀outer H s E e s',CX outer H s E e s'→bP X.prog X.w outer H s E e s'
 xns:∀k,G.xn k=true→∃C,T.xc k=some C
 xk:∀k C,T.xc k=some C→excIn X.K C d6 "ValueError.__new__" = true
 sub:∀k k' C C',T.xc k=some C→T.xc k'=some C'→G.sub k k'=true→fO X.K C (.ref C')=true
 wd:∀f k x C,T.xc k=some C→G.wd f k=some x→∃fa fd ps j,j≤lv∧X.mg f=some (.ref fa)∧keepIn X.K (.ref fa)=true∧Binds X.K fd ps []∧kj X.prog X.w X.K X.mg X.base j fa fd ps (mr C x)
 dk:∀x kvs,G.dk x=some kvs→∃a,X.mg x=some (.ref a)∧aGb X T a kvs
def uR(k:Option NameKind)(k':Option NameKind):Prop:=match k with
 |some .local=>k'=some .local
 |some .cell=>k'=some .cell
 |some .free=>k'=some .free∨k'=some .cell
 |some .globalImplicit=>k'=some .globalImplicit
 |_=>True
structure XC (CX:aj) (X:Cx) (c:CC) (G:GS) (T:Tx) (lv:Nat):Prop where
 N:X.N=c.N
 nd:c.N.Nodup
 kd:∀x,uR (c.sc.names.lookup x) (X.env.kindOf x)
 own:∀x,c.sc.names.lookup x=some .cell→X.fn x=true
 dbg:∀x∈c.N,(x == ("__debug__":Str))=false∧(x == ("__classdict__":Str))=false
 gdb:aP c "__debug__" = false
 calm:X.calm=true
 room:Room lv X.A
 go:kh CX X c G T lv
section
variable {CX:aj}{X:Cx}{c:CC}{G:GS}{T:Tx}{lv:Nat}
theorem XC.units(h:XC CX X c G T lv):X.A.units+64<cLine:=h.room.units
theorem XC.glob(h:XC CX X c G T lv){x:Str}(e:aP c x=true):Gl X x:=by
 have k:=h.kd x
 have e':c.sc.names.lookup x=some .globalImplicit:=by
  unfold aP at e;exact su.mp e
 rw[e']at k;exact k
theorem XC.gne(h:XC CX X c G T lv){x:Str}(e:aP c x=true):(x == ("__debug__":Str))=false:=by
 cases q:x == ("__debug__":Str) with
 |false=>rfl
 |true =>
  have q':x = "__debug__":=su.mp q
  subst q';rw[h.gdb]at e;cases e
theorem hV{α:Type}[DecidableEq α][BEq α][LawfulBEq α]:∀{l:List α} {x:α} {i:Nat},l.idxOf? x=some i→l[i]?=some x:=by
 intro l x i h;unfold List.idxOf? at h;rw[List.findIdx?_eq_some_iff_getElem]at h;obtain⟨h1,h2,_⟩:=h;rw[qh h1];exact congrArg some (su.mp h2)
theorem rR{x:Str}{i:Nat}(e:bB c x=some i):c.N[i]?=some x∧(c.sc.names.lookup x=some .local∨c.sc.names.lookup x=some .cell∨c.sc.names.lookup x=some .free):=by
 unfold bB at e;split at e
 ·rename_i h;exact⟨hV e,.inl h⟩
 ·rename_i h;exact⟨hV e,.inr (.inl h)⟩
 ·rename_i h;exact⟨hV e,.inr (.inr h)⟩
 ·cases e
theorem XC.vis(h:XC CX X c G T lv){x:Str}(e:c.sc.names.lookup x=some .local∨c.sc.names.lookup x=some .cell∨c.sc.names.lookup x=some .free):Vis X.env.scope x:=by
 have k:=h.kd x
 rcases e with e|e|e
 ·rw[e]at k;exact .inl k
 ·rw[e]at k;exact .inr (.inl k)
 ·rw[e]at k
  rcases k with k|k
  ·exact .inr (.inr k)
  ·exact .inr (.inl k)
theorem cQ{x:Str}{p:Pos}{i:Nat}(e:dS c (.Name x p)=some i):c.N[i]?=some x∧(c.sc.names.lookup x=some .local∨c.sc.names.lookup x=some .cell):=by
 simp only[dS]at e;split at e
 ·rename_i h;exact⟨hV e,.inl h⟩
 ·rename_i h;exact⟨hV e,.inr h⟩
 ·cases e
theorem XC.loc(h:XC CX X c G T lv){x:Str}(e:c.sc.names.lookup x=some .local∨c.sc.names.lookup x=some .cell):Loc X.env.scope x∧(X.fn x=true∨X.env.scope.names.lookup x=some .local):=by
 have k:=h.kd x
 rcases e with e|e
 ·rw[e]at k;exact⟨.inl k,.inr k⟩
 ·have o:=h.own x e
  rw[e]at k;exact⟨.inr k,.inl o⟩
theorem UI{pins:v9}{σ:L2.St}{H:Hp}{s:Shared}(I:Inv X pins σ H s):∀a o,X.K.lookup a=some o→H a=none:=fun a o e=>(I.bs a o (I.mod.kin a o e)).2
def gD(K:uz)(T:Tx)(S:Addr→Prop)(is:List Nat)(ρ ρ1:List Sl)(d:D):TG:=fun v σ H Q=>RE K T H S ρ σ∧Rep K T H S d v∧∀σ',RE K T H S ρ1 σ'→(∀j,j∉is→σ'[j]?=σ[j]?)→Q σ' H
theorem RE.set{K:uz}{H:Hp}{S:Addr→Prop}{ρ:List Sl}{σ:L2.St}{i:Nat}{d:D}{v:V}(re:RE K T H S ρ σ)(r:Rep K T H S d v):RE K T H S (ρ.set i (.im d)) (σ.set i (some v)):=by
 refine⟨re.dom,by simp[re.len],fun j s e=>?_⟩
 by_cases hj:j=i
 ·subst hj;have hl:j<ρ.length:=by
   have:=(q9.mp e).1
   simpa using this
  rw[r8 hl]at e;cases e;rw[r8 (by rw[←re.len];exact hl)]
  exact⟨v,rfl,r⟩
 ·rw[rg (Ne.symm hj)]at e ⊢;exact re.at_ j s e
noncomputable def gDs(K:uz)(T:Tx)(S:Addr→Prop)(is:List Nat)(ρ ρ1:List Sl)(ds:List D):jt:=fun vs σ H Q=>RE K T H S ρ σ∧aD K T H S ds vs∧∀σ',RE K T H S ρ1 σ'→(∀j,j∉is→σ'[j]?=σ[j]?)→Q σ' H
theorem eG(env:Env):∀{es:List Expr} {is:List Nat},eR c es=some is→(assignEach es env).map (·.2)=es.map (fun e=>assign e env)∧(assignEach es env).length=es.length∧(assignEach es env).findIdx? (·.1)=none:=by
 intro es
 induction es with
 |nil=>intro is _;exact⟨rfl,rfl,rfl⟩
 |cons e es ih =>
  intro is h;simp only[eR,ql,qg]at h;obtain⟨i,h1,r,h2,_⟩:=h;obtain⟨a1,a2,a3⟩:=ih h2;cases e<;>simp only[dS,reduceCtorEq]at h1
  rename_i x p;refine⟨?_,?_,?_⟩
  ·show assign (.Name x p) env::(assignEach es env).map (·.2)=_
   rw[a1];rfl
  ·show (assignEach es env).length+1=_
   rw[a2];rfl
  ·show List.findIdx? (·.1) ((false,assign (.Name x p) env)::assignEach es env)=none
   rw[List.findIdx?_cons,a3];rfl
theorem aDn(h:XC CX X c G T lv){S:Addr→Prop}:∀{es:List Expr} {is:List Nat} {ds:List D} {ρ ρ1:List Sl},eR c es=some is→bF is ds ρ=some ρ1→p8 X es (gDs X.K T S is ρ ρ1 ds):=by
 intro es
 induction es with
 |nil =>
  intro is ds ρ ρ1 h1 h2;simp only[eR]at h1;cases h1;cases ds with
  |nil =>
   simp only[bF]at h2;cases h2;intro pins s σ H vs us Q I r ⟨re,rl,q⟩;unfold aD at rl;exact OV pins s σ H vs us Q I r ⟨rl,q σ re fun _ _=>rfl⟩
  |cons d ds=>simp[bF]at h2
 |cons e es ih =>
  intro is ds ρ ρ1 h1 h2;simp only[eR,ql,qg]at h1;obtain⟨i,h1,r,h3,h4⟩:=h1;cases h4;cases ds with
  |nil=>simp[bF]at h2
  |cons d ds =>
   simp only[bF]at h2;have hs:=(eG (c:=c) X.env (es:=e::es) (is:=i::r) (by simp[eR,h1,h3])).1
   have dt:=(eG (c:=c) X.env h3).1
   cases e<;>simp only[dS,reduceCtorEq]at h1
   rename_i x p;have o8:dS c (.Name x p)=some i:=h1
   obtain⟨hN,hk⟩:=cQ o8;obtain⟨hl,hf⟩:=h.loc hk;have p1:PG X (.Name x p) (jS i):=kL (by rw[h.N];exact h.nd) (by rw[h.N];exact hN) hl hf
   have p2:=HM p1 (ih h3 h2) (by rw[hs,dt];rfl)
   intro pins s σ H vs us Q I rv ⟨re,rl,q⟩;unfold aD at rl;obtain⟨y,w,e1,ry,cq⟩:=rl;refine p2 pins s σ H vs us Q I rv ⟨y,w,e1,?_⟩;refine⟨re.set ry,cq,fun σ2 re2 ag=>q σ2 re2 fun j hj=>?_⟩
   rw[ag j fun z=>hj (qq _ z),rg (fun z=>hj (by rw[z];simp))]
theorem OW(h:XC CX X c G T lv){S:Addr→Prop}{tg:Expr}{is:List Nat}{tp:Bool}{d:D}{ρ ρ1:List Sl}(h1:cM c tg=some (is,tp))(h2:bD is tp d ρ=some ρ1):PG X tg (gD X.K T S is ρ ρ1 d):=by
 cases tg<;>simp only[cM,reduceCtorEq,qv,Prod.mk.injEq]at h1
 ·rename_i x p;obtain⟨i,h3,rfl,rfl⟩:=h1;simp only[bD,qp,if_false,bF]at h2;cases h2;obtain⟨hN,hk⟩:=cQ h3;obtain⟨hl,hf⟩:=h.loc hk;have p1:PG X (.Name x p) (jS i):=kL (by rw[h.N];exact h.nd) (by rw[h.N];exact hN) hl hf
  intro pins s σ H v u Q I rv ⟨re,rd,q⟩;exact p1 pins s σ H v u Q I rv (q _ (re.set rd) fun j hj=>rg (fun z=>hj (by rw[z];simp)))
 ·rename_i es k p;obtain⟨is',h3,rfl,rfl⟩:=h1;simp only[bD,if_true]at h2;cases d<;>simp only[reduceCtorEq]at h2
  rename_i ds;obtain⟨a1,a2,a3⟩:=eG (c:=c) X.env h3;have p1:=XX (pos:=p) (k:=k) (n:=es.length) h.calm (aDn h (S:=S) h3 h2) a2 a3
  intro pins s σ H v u Q I rv ⟨re,rd,q⟩;unfold Rep at rd;obtain⟨a,xs,ev,_,e,rl⟩:=rd;refine p1 pins s σ H v u Q I rv ⟨a,xs,ev,e,?_,re,rl,q⟩;have l1:=rl.len
  have l2:is'.length=es.length:=by
   clear p1 a1 a2 a3 rl h2 q
   induction es generalizing is' with
   |nil=>simp only[eR]at h3;cases h3;rfl
   |cons e es ih =>
    simp only[eR,ql,qg]at h3;obtain⟨i,_,r,h4,h5⟩:=h3;cases h5;simp only[ui,Nat.add_right_cancel_iff];exact ih r h4
  have l3:∀{is:List Nat} {ds:List D} {ρ ρ1:List Sl},bF is ds ρ=some ρ1→is.length=ds.length:=by
   intro is
   induction is with
   |nil=>intro ds ρ ρ1 z;cases ds<;>simp_all [bF]
   |cons i is ih =>
    intro ds ρ ρ1 z;cases ds with
    |nil=>simp[bF]at z
    |cons d ds=>simp only[bF]at z;simp[ih z]
  rw[←l1,←l3 h2,l2]
end
def jb(K:uz)(T:Tx)(S:Addr→Prop)(H0:Hp)(J:It)(ds:List D):Prop:=∀(H:Hp) (S':Addr→Prop),aK K H0 H S S'→(∀a,S' a→∃o,H a=some o) →
 (∀i d,ds[i]?=some d→J.go i H∧∀x H',J.yld i H x H'→aF H H'∧Rep K T H' S' d x)∧∀i,ds.length≤i→J.stop i H
def tI(K:uz)(T:Tx)(S:Addr→Prop)(ρ:List Sl)(ds:List D):TI:=fun σ H R=>RE K T H S ρ σ∧∀J H',aF H H'→jb K T S H' J ds→ds.length≤sizeLine→R J H'
theorem fL(sc:Scope)(env:Env)(x:Str):(relabel sc env).names.lookup x=(sc.names.lookup x).map fun k=>if (k == .free&&env.scope.kind == .function&&env.kindOf x == some .cell)=true then .cell else k:=by
 show (sc.names.map fun (p:Str×NameKind)=>if (p.2 == .free&&env.scope.kind == .function&&env.kindOf p.1 == some .cell) then(p.1,NameKind.cell) else(p.1,p.2)).lookup x=_
 induction sc.names with
 |nil=>rfl
 |cons p r ih =>
  obtain⟨n,k⟩:=p;rw[sq]
  by_cases hx:x=n
  ·subst hx
   by_cases hc:(k == .free&&env.scope.kind == .function&&env.kindOf x == some .cell)=true
   ·show List.lookup x ((if (k == .free&&env.scope.kind == .function&&env.kindOf x == some .cell)=true then(x,NameKind.cell) else(x,k))::_)=_
    rw[if_pos hc,lookup_cons,lookup_cons,beq_self_eq_true];simp only[uc];rw[if_pos hc]
   ·show List.lookup x ((if (k == .free&&env.scope.kind == .function&&env.kindOf x == some .cell)=true then(x,NameKind.cell) else(x,k))::_)=_
    rw[if_neg hc,lookup_cons,lookup_cons,beq_self_eq_true];simp only[uc];rw[if_neg hc]
  ·have hb:(x == n)=false:=by simpa using hx
   show List.lookup x ((if (k == .free&&env.scope.kind == .function&&env.kindOf n == some .cell)=true then(n,NameKind.cell) else(n,k))::_)=_
   by_cases hc:(k == .free&&env.scope.kind == .function&&env.kindOf n == some .cell)=true
   ·rw[if_pos hc,lookup_cons,lookup_cons,hb];exact ih
   ·rw[if_neg hc,lookup_cons,lookup_cons,hb];exact ih
theorem gH{env:Env}:∀(names:List (Str×NameKind)) (acc:List (Str×Addr)),(∀x∈names,x.2=.free→∃a,env.cells.lookup x.1=some a) →
  ∃cl,(forIn names acc fun (x:Str×NameKind) (cs:List (Str×Addr))=>if (x.2 == .free)=true then(do let a ←cellOf env x.1;pure (ForInStep.yield ((x.1,a)::cs))) else pure (ForInStep.yield cs):Sem (List (Str×Addr)))=pure cl ∧
   (∀x a,cl.lookup x=some a→acc.lookup x=some a∨env.cells.lookup x=some a)∧(∀x,((x,NameKind.free)∈names∨∃a,acc.lookup x=some a)→∃a,cl.lookup x=some a)
 |[],acc,_=>⟨acc,rfl,fun x a h=>.inl h,fun x h=>by
   rcases h with h|h
   ·simp at h
   ·exact h⟩
 | (n,k)::r,acc,h=>by
  by_cases hk:k=.free
  ·subst hk;obtain⟨a,ha⟩:=h (n,.free) (by simp) rfl
   obtain⟨cl,e,h1,h2⟩:=gH r ((n,a)::acc) fun x hx=>h x (qq _ hx)
   refine⟨cl,?_,fun x b q=>?_,fun x q=>h2 x ?_⟩
   ·rw[List.forIn_cons];simp only[beq_self_eq_true,if_true,cellOf,ha];exact e
   ·rcases h1 x b q with z|z
    ·rw[lookup_cons]at z;cases hx:x == n with
     |true =>
      rw[hx]at z;have:x=n:=su.mp hx
      subst this;cases z;exact .inr ha
     |false=>rw[hx]at z;exact .inl z
    ·exact .inr z
   ·by_cases hx:x=n
    ·subst hx;exact .inr ⟨a,by simp⟩
    ·have hb:(x == n)=false:=by simpa using hx
     rcases q with q|⟨b,q⟩
     ·rcases rz.mp q with q|q
      ·exact absurd (Prod.mk.inj q).1 hx
      ·exact .inl q
     ·exact .inr ⟨b,by rw[lookup_cons,hb];exact q⟩
  ·have hb:(k == NameKind.free)=false:=by simpa using hk
   obtain⟨cl,e,h1,h2⟩:=gH r acc fun x hx=>h x (qq _ hx)
   refine⟨cl,?_,h1,fun x q=>h2 x ?_⟩
   ·rw[List.forIn_cons];simp only[hb,qp,if_false];exact e
   ·rcases q with q|q
    ·rcases rz.mp q with q|q
     ·exact absurd (Prod.mk.inj q).2.symm hk
     ·exact .inl q
    ·exact .inr q
theorem oX{env:Env}{sc:Scope}(h:∀x∈sc.names,x.2=.free→∃a,env.cells.lookup x.1=some a) :
  ∃cl,closureFor sc env=pure cl∧(∀x a,cl.lookup x=some a→env.cells.lookup x=some a)∧(∀x,(x,NameKind.free)∈sc.names→∃a,cl.lookup x=some a):=by
 obtain⟨cl,e,h1,h2⟩:=gH (env:=env) sc.names [] h;refine⟨cl,?_,fun x a q=>(h1 x a q).elim (fun z=>by simp at z) id,fun x q=>h2 x (.inl q)⟩
 show ((forIn sc.names [] fun (x:Str×NameKind) (cs:List (Str×Addr))=>if (x.2 == .free)=true then(do let a ←cellOf env x.1;pure (ForInStep.yield ((x.1,a)::cs))) else pure (ForInStep.yield cs):Sem (List (Str×Addr))) >>= fun cs=>pure cs)=pure cl
 rw[e];rfl
noncomputable def wO(X:Cx)(N':List Str)(sc:Scope)(cl:List (Str×Addr))(C:Addr)(s:Shared)(H:Hp)(fp:List Addr)(E:v8):Cx:=
 {X with N:=N',s₀:=s,H₀:=H,env:=compEnvC sc cl C X.env,outer:=X.stack,ex:=fp,fn:=fun _=>false,pn:=[],xe:=E }
theorem uM{prog:v7}{w:World}{A:Around}{R:Result→Shared→Prop}{s:Shared}{elt target iter:Expr}{ifs:List Expr}{scope:Scope}{pos:Pos}{it acc:Value}{env:Env}(I:Nat→Shared→Prop)
  (turn:∀n s,I n s→wpAny (model prog w) A (pyNext it) (fun r s₁=>match r with
   |none=>R (.ok .next) s₁
   |some v=>wpAny (model prog w) A (letOwnedTupleGo target it v) (fun _ s₁=>wpAny (model prog w) A (assign target env v) (fun _ s₂ =>
     wpAny (model prog w) A (forIn ifs true fun c r=>if r=true then do let ok ←isTrue c env (eval c env);pure (ForInStep.yield ok) else pure (ForInStep.yield r)) (fun ok s₃ =>
      if ok=true then wpAny (model prog w) A (eval elt env) (fun x s₄ =>
       wpAny (model prog w) A (call (.builtin "list.append") [acc,x]) (fun _ s₅=>∃m,m<n∧I m s₅) (notedBy (model prog w) A env fun e s'=>R (.error e) s') s₄) (notedBy (model prog w) A env fun e s'=>R (.error e) s') s₃
      else ∃m,m<n∧I m s₃) (notedBy (model prog w) A env fun e s'=>R (.error e) s') s₂) (notedBy (model prog w) A env fun e s'=>R (.error e) s') s₁) (notedBy (model prog w) A env fun e s'=>R (.error e) s') s₁) (notedBy (model prog w) A env fun e s'=>R (.error e) s') s)
  (n:Nat) (h:I n s):codeAny (model prog w) A (.compLoop (.ListComp elt [⟨target,iter,ifs,0⟩] scope pos) 0 it acc env) R s:=by
 refine codeAny_loop rfl I (fun n s hI=>?_) n h
 show wpAny _ A ((compTurn (.ListComp elt [⟨target,iter,ifs,0⟩] scope pos) 0 it acc env).onRaise (fun x=>do noteFrame x env;theTreesLotGoes x)) _ _ s
 refine wpAny_noted ?_;rw[compTurn_list];refine u2 (wpAny_standAt (u2 (ua (turn n s hI) (fun r s₁ h₁=>?_) fun _ _ h'=>h')))
 cases r with
 |none=>exact u7 h₁
 |some v =>
  refine u2 (ua h₁ (fun _ s₁' h₁'=>?_) fun _ _ h'=>h')
  refine u2 (ua h₁' (fun _ s₂ h₂=>u2 (ua h₂ (fun ok s₃ h₃=>?_) fun _ _ h'=>h')) fun _ _ h'=>h')
  cases ok with
  |false=>exact u7 ⟨rfl,h₃⟩
  |true =>
   exact u2 (u2 (ua h₃ (fun x s₄ h₄=>u2 (ua h₄ (fun _ s₅ h₅=>u7 (u7 ⟨rfl,h₅⟩)) fun _ _ h'=>h')) fun _ _ h'=>h'))
section
variable {CX:aj}{X:Cx}{c:CC}{G:GS}{T:Tx}{lv:Nat}{pins:v9}{σ:L2.St}{H:Hp}{s:Shared}
theorem kU(I:Inv X pins σ H s){N':List Str}{sc:Scope}{cl:List (Str×Addr)}{C:Addr}{fp:List Addr}{E:v8}(hk:sc.kind=.function)(hC:s.heap.objs.size≤C)
  (ar:∀x a,cl.lookup x=some a→X.env.cells.lookup x=some a) (bc:∀x,(x,NameKind.free)∈sc.names→∃a,cl.lookup x=some a) (hnc:∀x∈sc.names,x.2≠.cell)
  (hf:∀b∈fp,kY X pins H b) (fm:∀b∈fp,b<s.heap.objs.size):(wO X N' sc cl C s H fp E).Ok where
 mod:=I.ok.mod
 kind:=hk
 glob:=I.ok.glob
 blt:=I.ok.blt
 above:=hC
 inj:=fun x y c h1 h2=>I.ok.inj x y c (ar _ _ h1) (ar _ _ h2)
 has:=fun x hx=>by
  have e:∀k,(relabel sc X.env).names.lookup x=some k→(k=.cell∨k=.free)→(x,NameKind.free)∈sc.names:=fun k e hk=>by
   rw[fL]at e;cases q:sc.names.lookup x with
   |none=>rw[q]at e;cases e
   |some k0 =>
    rw[q]at e;have hm:=tf q
    by_cases hk0:k0=.free
    ·subst hk0;exact hm
    ·have hb:(k0 == NameKind.free)=false:=by simpa using hk0
     simp only[uc,hb,Bool.false_and,qp,if_false,qe]at e;subst e
     rcases hk with z|z
     ·exact absurd z (hnc _ hm)
     ·exact absurd z hk0
  rcases hx with hx|hx
  ·exact bc x (e _ hx (.inl rfl))
  ·exact bc x (e _ hx (.inr rfl))
 cab:=fun x c h=>by cases h
 hd:=I.ok.hd
 frames:=I.ok.frames
 stk:=.inl rfl
 exf:=fun b hb=>⟨tm (qw (fm b hb) hC),fun x c e=>(hf b hb).2.2.2.2.1 x c (ar _ _ e)⟩
 bs:=I.bs
 bsz:=rj I.ok.bsz I.sz
 noex:=fun b o e hb=>by
  obtain⟨_,_,_,h1,_⟩:=hf b hb
  rcases h1 with h1|h1
  ·exact I.ok.noex b o e h1
  ·exact absurd (qw (rh e) I.ok.bsz) (not_lt.mpr h1)
 exfs:=fun b hb hs=>by
  obtain⟨_,h1,h2,_⟩:=hf b hb
  rcases rz.mp (I.stkSub b hs) with z|z
  ·exact h1 z
  ·exact h2 z
 funs:=I.stack
 frf:=I.stkFree
end
section
variable {CX:aj}{X:Cx}{c:CC}{G:GS}{T:Tx}{lv:Nat}{pins:v9}{σ:L2.St}{H:Hp}{s:Shared}
structure au (c:CC) (sc:Scope):Prop where
 kind:sc.kind=.function
 nocell:∀x∈sc.names,x.2≠.cell
 loc:∀x∈sc.names,x.2=.local→sc.names.lookup x.1=some .local
 fl:∀x∈sc.names,x.2=.free→sc.names.lookup x.1=some .free
 nd:(ownNames sc).Nodup
 dbg:∀x∈ownNames sc,(x == ("__debug__":Str))=false∧(x == ("__classdict__":Str))=false
 gdb:sc.names.lookup ("__debug__":Str)≠some .globalImplicit
 fre:∀x∈sc.names,x.2=.free→c.sc.names.lookup x.1=some .cell∨c.sc.names.lookup x.1=some .free
theorem qU{sc:Scope}(h:kF c sc=true):au c sc:=by
 unfold kF at h;simp only[qt]at h;obtain⟨⟨⟨⟨⟨⟨⟨h1,h2⟩,h3⟩,h8⟩,h4⟩,h5⟩,h6⟩,h7⟩:=h;rw[all_eq_true]at h2 h3 h5 h7 h8;refine⟨su.mp h1,fun x hx=>?_,fun x hx e=>?_,fun x hx e=>?_,of_decide_eq_true h4,fun x hx=>?_,fun e=>?_,fun x hx e=>?_⟩
 ·have:=h2 x hx
  simpa using this
 ·have:=h3 x hx
  simpa [e] using this
 ·have:=h8 x hx
  simpa [e] using this
 ·have:=h5 x hx
  simpa [qt] using this
 ·rw[e]at h6;simp at h6
 ·have:=h7 x hx
  simpa [e] using this
theorem KU(h:XC CX X c G T lv){sc:Scope}(cs:au c sc){cl:List (Str×Addr)}{C:Addr}{s:Shared}{H:Hp}{fp:List Addr}{E:v8} :
  XC CX (wO X (ownNames sc) sc cl C s H fp E) { c with N:=ownNames sc,sc:=sc } G T lv where
 N:=rfl
 nd:=cs.nd
 kd:=fun x=>by
  show uR (sc.names.lookup x) ((relabel sc X.env).names.lookup x)
  rw[fL];cases q:sc.names.lookup x with
  |none=>trivial
  |some k =>
   cases k with
   | «local»=>rfl
   |cell=>exact absurd rfl (cs.nocell _ (tf q))
   |free =>
    simp only[uc,uR]
    by_cases hc:((NameKind.free == NameKind.free)&&X.env.scope.kind == .function&&X.env.kindOf x == some .cell)=true
    ·rw[if_pos hc];exact .inr rfl
    ·rw[if_neg hc];exact .inl rfl
   |globalExplicit=>trivial
   |globalImplicit=>rfl
 own:=fun x e=>absurd rfl (cs.nocell _ (tf e))
 dbg:=cs.dbg
 gdb:=by
  unfold aP;exact tj.mpr cs.gdb
 calm:=h.calm
 room:=h.room
 go:=⟨h.go.fn,h.go.me,h.go.cls,h.go.fld,h.go.mo,h.go.cst,h.go.bi,h.go.xcl,h.go.frs,h.go.cx0,h.go.cxf,h.go.xns,h.go.xk,h.go.sub,h.go.wd,h.go.dk⟩
theorem ET{sc:Scope}:∀{l:List (Str×NameKind)} {fr:List (Nat×Nat)} {i j:Nat},freeOf c sc l=some fr→fr.lookup i=some j→∃x∈l,(ownNames sc).idxOf? x.1=some i∧bB c x.1=some j:=by
 intro l
 induction l with
 |nil =>
  intro fr i j h e;simp only[freeOf]at h;cases h;simp at e
 |cons x r ih =>
  intro fr i j h e;simp only[freeOf,ql,qg]at h;obtain⟨a,h1,b,h2,t,h3,h4⟩:=h;cases h4;rw[lookup_cons]at e;cases q:i == a with
  |true =>
   rw[q]at e;cases e;have:i=a:=by simpa using q
   subst this;exact⟨x,by simp,h1,h2⟩
  |false =>
   rw[q]at e;obtain⟨y,hy,z⟩:=ih h3 e;exact⟨y,qq _ hy,z⟩
noncomputable def eE(n:Nat)(fr:List (Nat×Nat))(σ:L2.St):L2.St:=(List.range n).map fun i=>match fr.lookup i with
 |some j=>σ.getD j none
 |none=>none
theorem JR{K:uz}{S:Addr→Prop}{ρ:List Sl}{n:Nat}{fr:List (Nat×Nat)}(re:RE K T H S ρ σ):RE K T H S (frame n fr ρ) (eE n fr σ):=by
 refine⟨re.dom,by simp[frame,eE],fun i sl e=>?_⟩
 unfold frame at e;unfold eE;rw[qi]at e ⊢;cases hr:(List.range n)[i]? with
 |none=>rw[hr]at e;cases e
 |some k =>
  rw[hr]at e;simp only[uc,qe]at e ⊢;subst e;cases q:fr.lookup k with
  |none=>trivial
  |some j =>
   simp only;cases q2:ρ[j]? with
   |none =>
    rw[qd,q2];trivial
   |some sl =>
    have h:=re.at_ j sl q2
    rw[qd,q2];simp only[Option.getD_some];cases sl with
    |un=>trivial
    |im d =>
     obtain⟨v,e1,r⟩:=h;exact⟨v,by rw[qd,e1];rfl,r⟩
    |mu ds =>
     obtain⟨p,xs,e1,r⟩:=h;exact⟨p,xs,by rw[qd,e1];rfl,r⟩
theorem RE.gen{K:uz}{H':Hp}{S S':Addr→Prop}{ρ:List Sl}(re:RE K T H S ρ σ)(mv:aK K H H' S S')(hm:∀a ob,S a→H a=some ob→(∃d,lX K T H S d ob)→S' a∧H' a=some ob)(hd:∀a,S' a→∃o,H' a=some o):RE K T H' S' ρ σ:=by
 refine⟨hd,re.len,fun i sl e=>?_⟩
 have h:=re.at_ i sl e
 cases sl with
 |un=>trivial
 |im d=>obtain⟨v,e1,r⟩:=h;exact⟨v,e1,Rep.gen mv d v r⟩
 |mu ds =>
  obtain⟨p,xs,e1,sp,hp,r⟩:=h;obtain⟨a1,a2⟩:=hm p xs sp hp ⟨ds,r⟩;exact⟨p,xs,e1,a1,a2,r.gen mv⟩
theorem JH(h:XC CX X c G T lv)(I:Inv X pins σ H s){sc:Scope}(cs:au c sc){cl:List (Str×Addr)}{fr:List (Nat×Nat)}{C:Addr}{fp:List Addr}{E:v8}{s4:Shared}{m:va}
  (ak:freeOf c sc (sc.names.filter fun x=>x.2 == .free)=some fr)
  (ar:∀x a,cl.lookup x=some a→X.env.cells.lookup x=some a) (bc:∀x,(x,NameKind.free)∈sc.names→∃a,cl.lookup x=some a)
  (hf:∀b∈fp,kY X pins H b) (fm:∀b∈fp,b<s.heap.objs.size) (hC:s.heap.objs.size≤C) (hn:s4.heap.Ns C m) (hk:∀b o,s.heap.get? b=some o→s4.heap.get? b=some o)
  (j3:s4.os=s.os) (jk:AllBare s4.gens):Inv (wO X (ownNames sc) sc cl C s H fp E) [] (eE (ownNames sc).length fr σ) H s4 where
 ok:=kU I cs.kind hC ar bc cs.nocell hf fm
 os:=j3
 bare:=jk
 base:=Un.kept hk
 loc:=⟨m,hn,fun i x v h1 h2 h3=>by
  unfold eE at h2;rw[qi]at h2;cases hr:(List.range (ownNames sc).length)[i]? with
  |none=>rw[hr]at h2;cases h2
  |some k =>
   have ek:k=i:=by
    obtain⟨_,e⟩:=q9.mp hr;simpa using e.symm
   subst ek;rw[hr]at h2;simp only[uc,qe]at h2;cases q:fr.lookup k with
   |none=>rw[q]at h2;cases h2
   |some j =>
    rw[q]at h2;simp only at h2;obtain⟨y,hy,hy1,hy2⟩:=ET ak q;have hyx:y.1=x:=by
     have:=hV hy1
     have o8:(ownNames sc)[k]?=some x:=h1
     rw[o8]at this;exact(qu this).symm
    obtain⟨hym,hyf⟩:=mem_filter.mp hy;have hyf':y.2=.free:=by simpa using hyf
    have hxm:(x,NameKind.free)∈sc.names:=by
     rw[←hyx,←hyf'];exact hym
    obtain⟨hN,_⟩:=rR hy2;rw[hyx]at hN hy2;have hσ:σ[j]?=some (some v):=by
     rw[qd]at h2;cases q2:σ[j]? with
     |none=>rw[q2]at h2;cases h2
     |some o=>rw[q2]at h2;simp only[Option.getD_some]at h2;rw[h2]
    obtain⟨m0,_,hl⟩:=I.loc;have o4:=cs.fre _ hym hyf'
    rw[hyx]at o4;obtain⟨u,ru,lk⟩:=hl j x v (by rw[h.N];exact hN) hσ (h.vis (.inr o4))
    refine⟨u,ru,.inr ?_⟩;have kd:=h.kd x
    have notloc:X.env.kindOf x≠some .local:=by
     rcases o4 with z|z
     ·rw[z]at kd;intro w;rw[kd]at w;cases w
     ·rw[z]at kd;intro w
      rcases kd with kd|kd<;>(rw[kd]at w;cases w)
    rcases lk with ⟨z,_⟩|⟨_,cc,e1,e2⟩
    ·exact absurd z notloc
    ·obtain⟨a,ha⟩:=bc x hxm;have ea:=ar x a ha
     rw[e1]at ea;cases ea;refine⟨?_,cc,ha,?_⟩
     ·show (relabel sc X.env).names.lookup x=some .cell∨(relabel sc X.env).names.lookup x=some .free
      rw[fL];have hlk:sc.names.lookup x=some .free:=cs.fl _ hxm rfl
      rw[hlk];simp only[uc];split
      ·exact .inl rfl
      ·exact .inr rfl
     ·obtain⟨o,h5,h6⟩:=e2;exact⟨o,hk _ _ h5,h6⟩⟩
 cell:=fun x a e=>by
  obtain⟨v,o,h5,h6⟩:=I.cell x a (ar x a e);exact⟨v,o,hk _ _ h5,h6⟩
 free:=I.hok.fresh hC
 freeC:=fun x a e=>I.freeC x a (ar x a e)
 pin:=fun p hp=>absurd (show p∈([]:v9) from hp) (by simp)
 hok:=I.hok.kept hk
 len:=by simp[eE,wO]
end
section
variable {CX:aj}{X:Cx}{c:CC}{G:GS}{T:Tx}{lv:Nat}{pins:v9}{σ:L2.St}{H:Hp}{s:Shared}
theorem wQ{f:D→Option (Option D)}{d:D}{r out:List D}(h:bO f (d::r)=some out):∃o t,f d=some o∧bO f r=some t∧out=(match o with|some y=>y::t|none=>t):=by
 simp only[bO,ql,qg]at h;obtain⟨o,h1,t,h2,h3⟩:=h;refine⟨o,t,h1,h2,?_⟩;cases o<;>simp at h3<;>exact h3.symm
def TurnOk(CX:aj)(G:GS)(T:Tx)(lv:Nat)(c':CC)(K:uz)(ifs:List Expr)(elt:Expr)(ρ1:List Sl)(o:Option D):Prop:=
 ∀(X':Cx) (S:Addr→Prop),XC CX X' c' G T lv→X'.K=K →
  ((ifs=[]∧o.isSome=true)∨∃e,ifs=[e]∧PT X' e (dh X'.K T S ρ1 o.isSome))∧∀y,o=some y→PE X' elt (tD X'.K T S ρ1 y)
theorem oV(h:XC CX X c G T lv){sc:Scope}(cs:au c sc){tg iter elt:Expr}{ifs:List Expr}{pos:Pos}{cl:List (Str×Addr)}{fr:List (Nat×Nat)}{av:List Nat}{tp:Bool}{ρ:List Sl}{S:Addr→Prop}
  {J:It} {fp:List Addr} {it:Addr} {tn:Nat→Heap→Prop} {ds outs:List D} {f:D→Option (Option D)} {RR:Value→Addr→Result→Shared→Prop} {E:v8}
  (ak:freeOf c sc (sc.names.filter fun x=>x.2 == .free)=some fr) (oj:av.all (fun i=>(fr.lookup i).isNone)=true) (de:cM { c with N:=ownNames sc,sc:=sc } tg=some (av,tp))
  (ar:∀x a,cl.lookup x=some a→X.env.cells.lookup x=some a) (bc:∀x,(x,NameKind.free)∈sc.names→∃a,cl.lookup x=some a)
  (I:Inv X pins σ H s) (re:RE X.K T H S ρ σ) (TU:Turn X.prog X.w X.K tg J fp it tn) (st:tn 0 s.heap) (hf:∀b∈fp,kY X pins H b) (i6:jb X.K T S H J ds) (hlen:ds.length≤sizeLine)
  (f9:bO f ds=some outs) (cw:∀d o,f d=some o→∃ρ1,bD av tp d (frame (ownNames sc).length fr ρ)=some ρ1∧TurnOk CX G T lv { c with N:=ownNames sc,sc:=sc } X.K ifs elt ρ1 o)
  (hRR:∀(D C:Addr) (s':Shared) (H':Hp) (ys:List V) (m:va),Inv X pins σ H' s'→aF H H'→H D=none→H' D=some (.lst ys)→aD X.K T (er H' D) S outs ys→s'.heap.Ns C m →
   (H' C=none∧C≠X.env.locals∧X.s₀.heap.objs.size≤C∧(∀x a,X.env.cells.lookup x=some a→a≠C)∧∀p∈X.pn++pins,p.1≠C)→RR (.ref D) C (.ok .next) s') :
  wpAny (model X.prog X.w) X.A (newList []) (fun acc s₃=>wpAny (model X.prog X.w) X.A (newFunctionEnv sc X.env.globals cl [] X.env.qual none .none (some X.env)) (fun cenv s₄ =>
   codeAny (model X.prog X.w) X.A (.compStart (.ListComp elt [⟨tg,iter,ifs,0⟩] sc pos) 0 (.ref it) acc { cenv with scope:=relabel sc X.env }) (RR acc cenv.locals) s₄) E s₃) E s:=by
 refine wpAny_newObj_type (wpAny_newFunctionEnv cs.nocell (by intro y hy;simp at hy) (fun h₁ hns₁ hsb₁=>?_) cs.kind)
 dsimp only at hns₁ hsb₁ ⊢;have I3:=I.lnew (t':=s.toks) (its:=[]) (ys:=[]) .nil (uu _)
 have fm:∀b∈fp,b<s.heap.objs.size:=fun b hb=>by
  obtain⟨o,e,_⟩:=TU.obj _ _ st b hb;exact rh e
 generalize hD:s.heap.objs.size=D at *;generalize hs3:s.heap.push { cls:=.type "list",dict:=none,data:=.seq ([]:List Value).toArray }=h3 at *;have hC:h3.objs.size=D+1:=by rw[←hs3,size_push,hD]
 generalize l0:h3.objs.size=C at *;have jl:H D=none:=by rw[←hD];exact I.hok.fresh (qk _)
 have hKD:X.K.lookup D=none:=by
  cases q:X.K.lookup D with
  |none=>rfl
  |some o =>
   have e:=I.kIn D o q
   exact absurd (rh e) (by rw[hD];exact u1 _)
 have k3:∀b o,s.heap.get? b=some o→h3.get? b=some o:=fun b o e=>by rw[←hs3];exact qo _ e
 have k4:∀b o,h3.get? b=some o→h₁.get? b=some o:=fun b o e=>hsb₁.extBut b o (by rw[←l0];exact tm (rh e)) (qo _ e)
 have je:RE X.K T (upd H D (.lst [])) (fun a=>S a∨a=D) ρ σ:=re.gen (aK.add jl hKD) (fun a xs hs e _=>⟨.inl hs,by rw[aG (aJ e jl)];exact e⟩) fun a hs=>by
  rcases hs with z|z
  ·obtain⟨o,e⟩:=re.dom a z;exact⟨o,by rw[aG (aJ e jl)];exact e⟩
  ·subst z;exact⟨_,aH⟩
 have j6:∀b∈fp,kY X pins (upd H D (.lst [])) b:=fun b hb=>⟨by rw[aG (tm (fm b hb))];exact(hf b hb).1,(hf b hb).2⟩
 have hfl3:∀b∈fp,b<h3.objs.size:=fun b hb=>by rw[l0,hC];exact Nat.lt_succ_of_lt (fm b hb)
 have loop:∀(E':v8) (s4:Shared),s4={ s with heap:=h₁,toks:=s.toks+([]:List (Str×Value)).length } →
   codeAny (model X.prog X.w) X.A (.compLoop (.ListComp elt [⟨tg,iter,ifs,0⟩] sc pos) 0 (.ref it) (.ref D) (compEnvC sc cl C X.env)) (RR (.ref D) C) s4:=by
  rintro E' s4 rfl
  let EN:=notedBy (model X.prog X.w) X.A (compEnvC sc cl C X.env) fun e s'=>RR (.ref D) C (.error e) s'
  let Y:=wO X (ownNames sc) sc cl C { s with heap:=h3,toks:=s.toks } (upd H D (.lst [])) fp EN
  have xY:XC CX Y { c with N:=ownNames sc,sc:=sc } G T lv:=KU h cs
  have J0:Inv Y [] (eE (ownNames sc).length fr σ) (upd H D (.lst [])) { s with heap:=h₁,toks:=s.toks+([]:List (Str×Value)).length }:=
   JH h I3 cs ak ar bc j6 hfl3 (by show h3.objs.size≤C;rw[l0];exact qk _) hns₁ k4 rfl I3.bare
  have da:∀{H':Hp},(∀b∈fp,H' b=none)→∀b∈fp,kY Y [] H' b:=fun hn b hb =>
   ⟨hn b hb,((kU (E:=EN) (N':=ownNames sc) I3 cs.kind (show h3.objs.size≤C by rw[l0];exact qk _) ar bc cs.nocell j6 hfl3).exf b hb).1,
    (kU (E:=EN) (N':=ownNames sc) I3 cs.kind (show h3.objs.size≤C by rw[l0];exact qk _) ar bc cs.nocell j6 hfl3).exfs b hb,.inl hb,
    ((kU (E:=EN) (N':=ownNames sc) I3 cs.kind (show h3.objs.size≤C by rw[l0];exact qk _) ar bc cs.nocell j6 hfl3).exf b hb).2,fun p hp=>absurd (show p∈([]:v9) from hp) (by simp)⟩
  have jj:∀(σ':L2.St) (H':Hp),aF H H'→(∃ys,H' D=some (.lst ys))→σ'.length=(ownNames sc).length→(∀j,j∉av→σ'[j]?=(eE (ownNames sc).length fr σ)[j]?) →
    RE X.K T H' (fun a=>S a∨a=D) (frame (ownNames sc).length fr ρ) σ':=fun σ' H' sm hys hl ag=>by
   have r0:=JR (n:=(ownNames sc).length) (fr:=fr) re
   have mv:aK X.K H H' S (fun a=>S a∨a=D):=fun a n hh=>by
    have ne:a≠D:=by
     rintro rfl
     rcases hh with ⟨u,e⟩|⟨u,e⟩
     ·rw[jl]at e;cases e
     ·rw[hKD]at e;cases e
    exact⟨fun z=>z.elim n ne,fun o e=>sm a o e⟩
   refine⟨fun a hs=>?_,by simp[frame,hl],fun j sl e=>?_⟩
   ·rcases hs with z|z
    ·obtain⟨o,e⟩:=re.dom a z;exact⟨o,sm a o e⟩
    ·subst z;obtain⟨ys,e⟩:=hys;exact⟨_,e⟩
   ·have h0:=r0.at_ j sl e
    by_cases hj:j∈av
    ·have hu:sl=.un:=by
      unfold frame at e;rw[qi]at e;cases hr:(List.range (ownNames sc).length)[j]? with
      |none=>rw[hr]at e;cases e
      |some k =>
       have ek:k=j:=by
        obtain⟨_,e'⟩:=q9.mp hr;simpa using e'.symm
       subst ek;rw[hr]at e;simp only[uc,qe]at e;have:=all_eq_true.mp oj k hj
       cases q:fr.lookup k with
       |none =>
        rw[q]at e;simpa using e.symm
       |some z=>rw[q]at this;simp at this
     subst hu;trivial
    ·rw[ag j hj];cases sl with
     |un=>trivial
     |im d=>obtain⟨v,e1,r⟩:=h0;exact⟨v,e1,Rep.gen mv d v r⟩
     |mu ds'=>obtain⟨p,xs,e1,sp,hp,r⟩:=h0;exact⟨p,xs,e1,.inl sp,sm _ _ hp,r.gen mv⟩
  refine uM (fun k s'=>∃(i:Nat) (σ':L2.St) (H':Hp) (ys:List V) (pre post:List Z.D),k=ds.length+1-i∧i≤ds.length∧Inv Y [] σ' H' s'∧tn i s'.heap∧(∀b∈fp,H' b=none) ∧
   aF H H'∧H' D=some (.lst ys)∧aD X.K T H' (fun a=>S a∨a=D) pre ys∧ys.length≤i∧outs=pre++post∧bO f (ds.drop i)=some post ∧
   σ'.length=(ownNames sc).length∧(∀j,j∉av→σ'[j]?=(eE (ownNames sc).length fr σ)[j]?)) ?_ (ds.length+1)
   ⟨0,_,_,[],[],outs,rfl,uu _,J0,TU.keep _ _ _ st fun b _ o e=>k4 b o (k3 b o e),fun b hb=>(j6 b hb).1,aF.upd jl,aH,aD.nil,qk _,rfl,by simpa using f9,by simp[eE],fun _ _=>rfl⟩
  rintro k s' ⟨i,σ',H',ys,pre,post,rfl,hi,IY,sti,fri,same,hHD,rp,nz,ho,i9,hlσ,hag⟩;have rei:=jj σ' H' same ⟨ys,hHD⟩ hlσ hag
  have mv:aK X.K H H' S (fun a=>S a∨a=D):=fun a n hh=>by
   have ne:a≠D:=by
    rintro rfl
    rcases hh with ⟨u,e⟩|⟨u,e⟩
    ·rw[jl]at e;cases e
    ·rw[hKD]at e;cases e
   exact⟨fun z=>z.elim n ne,fun o e=>same a o e⟩
  obtain⟨ny,nv⟩:=i6 H' _ mv rei.dom
  by_cases dy:i<ds.length
  ·obtain⟨d,hd⟩:∃d,ds[i]?=some d:=⟨ds[i],by simp[dy]⟩
   have hdr:ds.drop i=d::ds.drop (i+1):=by
    obtain⟨h1,h2⟩:=q9.mp hd;rw[←h2];exact List.drop_eq_getElem_cons h1
   rw[hdr]at i9;obtain⟨o,t,hfd,ht,hpost⟩:=wQ i9;obtain⟨ρ1,hb,hok⟩:=cw d o hfd;obtain⟨go,yl⟩:=ny i d hd;refine ae (TU.item Y rfl rfl rfl h.calm i [] s' σ' H' EN IY (da fri) sti go) fun r s5 ⟨u,hr,h5⟩=>?_
   subst hr;refine ae h5 fun _ s6 ⟨x,H6,I6,r6,y6,st6,fr6⟩=>?_
   obtain⟨mw,rd6⟩:=yl x H6 y6;have I6':=I6.pinned (da fr6) (TU.obj _ _ st6)
   have hD6:H6 D=some (.lst ys):=mw _ _ hHD
   refine ae (OW xY (S:=fun a=>S a∨a=D) de hb _ s6 σ' H6 x u (fun σ2 H2=>H2=H6∧RE X.K T H6 (fun a=>S a∨a=D) ρ1 σ2∧∀j,j∉av→σ2[j]?=σ'[j]?) I6' r6
    ⟨rei.same mw,rd6,fun σ7 mG ag7=>⟨rfl,mG,ag7⟩⟩) fun _ s7 ⟨σ7,H7,I7,e7,mG,ag7⟩=>?_
   subst e7;have next:∀(s9:Shared) (H9:Hp) (iu:List V) (pre':List Z.D),Inv Y ([]++lE fp s6.heap) σ7 H9 s9→aF H H9→H9 D=some (.lst iu)→aD X.K T H9 (fun a=>S a∨a=D) pre' iu→iu.length≤i+1→outs=pre'++t →
     ∃m,m<ds.length+1-i∧∃(i:Nat) (σ':L2.St) (H':Hp) (ys:List V) (pre post:List Z.D),m=ds.length+1-i∧i≤ds.length∧Inv Y [] σ' H' s9∧tn i s9.heap∧(∀b∈fp,H' b=none) ∧
      aF H H'∧H' D=some (.lst ys)∧aD X.K T H' (fun a=>S a∨a=D) pre ys∧ys.length≤i∧outs=pre++post∧bO f (ds.drop i)=some post ∧
      σ'.length=(ownNames sc).length∧(∀j,j∉av→σ'[j]?=(eE (ownNames sc).length fr σ)[j]?):=fun s9 H9 iu pre' I9 jv hD9 rp9 hl9 ho9=>by
    refine⟨ds.length+1-(i+1),by omega,i+1,σ7,H9,iu,pre',t,rfl,dy,I9.unpinned,?_,fun b hb=>?_,jv,hD9,rp9,hl9,ho9,ht,?_,fun j hj=>(ag7 j hj).trans (hag j hj)⟩
    ·exact TU.keep _ _ _ st6 fun b hb o e=>(I9.pin (b,o) (u0 _ (u0 _ (hJ hb e)))).1
    ·obtain⟨o,e,_⟩:=TU.obj _ _ st6 b hb;exact(I9.pin (b,o) (u0 _ (u0 _ (hJ hb e)))).2.1
    ·have l1:=mG.len
     have l2:=I9.len
     exact l2
   obtain⟨bu,helt⟩:=hok Y (fun a=>S a∨a=D) xY rfl
   have fin:∀(s8:Shared) (H8:Hp),Inv Y ([]++lE fp s6.heap) σ7 H8 s8→aF H7 H8 →
     (if o.isSome=true then wpAny (model X.prog X.w) X.A (eval elt (compEnvC sc cl C X.env)) (fun x s₄=>wpAny (model X.prog X.w) X.A (call (.builtin "list.append") [.ref D,x]) (fun _ s₅=>∃m,m<ds.length+1-i∧∃(i:Nat) (σ':L2.St) (H':Hp) (ys:List V) (pre post:List Z.D),m=ds.length+1-i∧i≤ds.length∧Inv Y [] σ' H' s₅∧tn i s₅.heap∧(∀b∈fp,H' b=none) ∧
      aF H H'∧H' D=some (.lst ys)∧aD X.K T H' (fun a=>S a∨a=D) pre ys∧ys.length≤i∧outs=pre++post∧bO f (ds.drop i)=some post ∧
      σ'.length=(ownNames sc).length∧(∀j,j∉av→σ'[j]?=(eE (ownNames sc).length fr σ)[j]?)) EN s₄) EN s8
     else ∃m,m<ds.length+1-i∧∃(i:Nat) (σ':L2.St) (H':Hp) (ys:List V) (pre post:List Z.D),m=ds.length+1-i∧i≤ds.length∧Inv Y [] σ' H' s8∧tn i s8.heap∧(∀b∈fp,H' b=none) ∧
      aF H H'∧H' D=some (.lst ys)∧aD X.K T H' (fun a=>S a∨a=D) pre ys∧ys.length≤i∧outs=pre++post∧bO f (ds.drop i)=some post ∧
      σ'.length=(ownNames sc).length∧(∀j,j∉av→σ'[j]?=(eE (ownNames sc).length fr σ)[j]?)):=fun s8 H8 I8 gz=>by
    have smH8:aF H H8:=same.trans (mw.trans gz)
    cases o with
    |none =>
     rw[if_neg (by simp)]
     refine next s8 H8 ys pre I8 smH8 (gz _ _ hD6) ((rp.same mw).same gz) (le_succ_of_le nz) ?_
     rw[ho,hpost]
    |some y =>
     rw[if_pos (show (some y).isSome=true from rfl)]
     refine ae (helt y rfl _ s8 σ7 H8 (fun v H9=>aF H8 H9∧Rep X.K T H9 (fun a=>S a∨a=D) y v) I8 ⟨mG.same gz,fun v H9 jv rv=>⟨jv,rv⟩⟩) fun u9 s9 ⟨v,H9,I9,r9,jv,rv⟩=>?_
     have hD9:H9 D=some (.lst ys):=jv _ _ (gz _ _ hD6)
     refine ae (gO (X:=Y) _ s9 σ7 H9 (.ref D) [v] (.ref D) [u9] (fun _ H10=>H10=upd H9 D (.lst (ys++[v]))) I9 rfl (.cons r9 .nil) ⟨D,ys,v,rfl,rfl,hD9,by omega,rfl⟩) fun _ s10 ⟨_,H10,I10,_,e10⟩=>?_
     subst e10;have smD:aF H (upd H9 D (.lst (ys++[v]))):=fun b ob e=>by
      rw[aG (aJ e jl)];exact jv _ _ (smH8 _ _ e)
     have mvD:aK X.K H9 (upd H9 D (.lst (ys++[v]))) (fun a=>S a∨a=D) (fun a=>S a∨a=D):=fun a n _=>⟨n,fun ob e=>by rw[aG (fun z=>n (.inr z))];exact e⟩
     refine next s10 _ (ys++[v]) (pre++[y]) I10 smD aH ?_ (by rw[sh];simp;omega) ?_
     ·exact aD.gen mvD _ _ (aD.app (((rp.same mw).same gz).same jv) (aD.cons rv aD.nil))
     ·rw[ho,hpost,List.append_assoc];rfl
   rcases bu with ⟨hifs,hsome⟩|⟨e,hifs,hpt⟩
   ·subst hifs;refine wpAny_tests_nil ?_;have z:=fin s7 H7 I7 (aF.refl _)
    rw[hsome]at z;exact z
   ·subst hifs;refine wpAny_tests_one (ae (hpt _ s7 σ7 H7 (fun b H8=>b=o.isSome∧aF H7 H8) I7 ⟨mG,fun H8 gz=>⟨rfl,gz⟩⟩) fun b s8 ⟨H8,I8,eb,gz⟩=>?_)
    subst eb;exact fin s8 H8 I8 gz
  ·have ei:i=ds.length:=by omega
   subst ei;refine ae (TU.done Y rfl rfl rfl h.calm ds.length [] s' σ' H' EN IY (da fri) sti (nv _ (qk _))) fun r s5 ⟨hr,I5⟩=>?_
   subst hr;have hp0:post=[]:=by
    rw[List.drop_length]at i9;simp only[bO,qe]at i9;exact i9.symm
   subst hp0;rw[sk]at ho;subst ho;obtain⟨m,hnC,_⟩:=I5.loc;have I9:Inv X pins σ H' s5:=I3.call' I5.os I5.base I5.hok I5.bare fun b hb=>⟨(hf b hb).2.2.2.1,(hf b hb).2.1,(hf b hb).2.2.2.2.1,(hf b hb).2.2.2.2.2⟩
   have hCs:s.heap.objs.size≤C:=by rw[hD,hC];exact ue _
   refine hRR D C s5 H' ys m I9 same jl hHD (aD.disown (p:=D) (.inr rfl) (fun a z=>.inl z) rp) hnC ⟨I5.free,?_,rj I.sz hCs,fun x a e=>?_,fun p hp=>?_⟩
   ·intro z;have:=I.lt
    rw[←z]at this;exact absurd this (not_lt.mpr hCs)
   ·intro z;obtain⟨v,ob,h5,_⟩:=I.cell x a e;rw[z]at h5;exact absurd (rh h5) (not_lt.mpr hCs)
   ·intro z;have:=(I.pin p hp).1
    rw[z]at this;exact absurd (rh this) (not_lt.mpr hCs)
 exact codeAny_compStart_list (loop E _ rfl) (TU.self X.A 0 _ _ _ (TU.keep _ _ _ st fun b _ o e=>k4 b o (k3 b o e)) (loop E _ rfl))
end
section
variable {CX:aj}{X:Cx}{c:CC}{G:GS}{T:Tx}{lv:Nat}{ρ:List Sl}{S:Addr→Prop}{tg:Expr}
theorem JC{H1:Hp}{a:Addr}{xs:List V}{ds:List D}(n:¬S a)(hq:SqL X.K H1 a xs)(r:aD X.K T H1 S ds xs):jb X.K T S H1 (mh X.K a) ds:=fun H S' mv dom=>by
 obtain⟨n',k⟩:=mv a n (SqL.has hq);have ba:=SqL.keeps hq k
 refine⟨fun i d e=>?_,fun i hi=>⟨xs,ba,by rw[←r.len];exact hi⟩⟩
 obtain⟨x,e1,rx⟩:=r.get e;refine⟨⟨xs,x,ba,e1⟩,fun y H' ⟨eH,ey⟩=>?_⟩
 subst eH;have:=ey xs ba
 rw[e1]at this;cases this;exact⟨aF.refl _,Rep.gen mv d x rx⟩
theorem QV{H1:Hp}{a:Addr}{xs:List V}{ds:List D}(n:¬S a)(hq:SqT X.K H1 a xs)(r:aD X.K T H1 S ds xs):jb X.K T S H1 (Itt X.K a) ds:=fun H S' mv dom=>by
 obtain⟨n',k⟩:=mv a n (SqT.has hq);have ba:=SqT.keeps hq k
 refine⟨fun i d e=>?_,fun i hi=>⟨xs,ba,by rw[←r.len];exact hi⟩⟩
 obtain⟨x,e1,rx⟩:=r.get e;refine⟨⟨xs,x,ba,e1⟩,fun y H' ⟨eH,ey⟩=>?_⟩
 subst eH;have:=ey xs ba
 rw[e1]at this;cases this;exact⟨aF.refl _,Rep.gen mv d x rx⟩
theorem AG{H1:Hp}{lo hi:Int}:jb X.K T S H1 (l9 lo (hi-lo).toNat) (cC lo hi):=fun H S' mv dom=>by
 refine⟨fun i d e=>?_,fun i h=>by
  show (hi-lo).toNat≤i
  unfold cC at h;rw[qj,qz]at h;exact h⟩
 unfold cC at e;rw[qi]at e;cases hr:(List.range (hi-lo).toNat)[i]? with
 |none=>rw[hr]at e;cases e
 |some k =>
  obtain⟨h1,e'⟩:=q9.mp hr;have ek:k=i:=by simpa using e'.symm
  subst ek;rw[hr]at e;simp only[uc,qe]at e;subst e;refine⟨by show k<(hi-lo).toNat;simpa using h1,fun y H' ⟨eH,ey⟩=>?_⟩
  subst eH ey;exact⟨aF.refl _,by unfold Rep;rfl⟩
theorem OS{l:Expr}{d:D}{ds:List D}(hl:PE X l (tD X.K T S ρ d))(hi:items .seq d=some ds):PI X tg l (tI X.K T S ρ ds):=by
 intro pins s σ H R I ⟨re,q⟩;refine ae (hl pins s σ H (fun v H'=>aF H H'∧Rep X.K T H' S d v) I ⟨re,fun v H' a b=>⟨a,b⟩⟩) fun v s1 ⟨x,H1,I1,r1,sm,rep⟩=>?_
 have golist:∀(a:Addr) (xs:List V),x=.ref a→¬S a→SqL X.K H1 a xs→aD X.K T H1 S ds xs→wpAny (model X.prog X.w) X.A (pyIter v) (PIE X pins σ tg R) X.xe s1:=fun a xs e n hq r=>by
  subst e;cases r1;obtain⟨its,rv,p,hz⟩:=I1.list hq;refine wpAny_pyIter_list p.isList ?_;refine⟨s1.heap.objs.size,[s1.heap.objs.size],_,_,H1,rfl,I1.kept (t':=s1.toks) fun b o e=>qo _ e,pS a _,⟨_,ub _ rfl,rfl,rfl⟩,fun b hb=>?_,q _ _ sm (JC n hq r) (by rw[r.len];exact hz)⟩
  have e:b=s1.heap.objs.size:=by simpa using hb
  subst e;exact I1.fpOk (qk _) (I1.hok.fresh (qk _))
 cases d<;>simp only[items,UJ,reduceCtorEq,qe]at hi
 ·subst hi;unfold Rep at rep;obtain⟨a,xs,e,n,hq,r⟩:=rep;exact golist a xs e n (SqL.of hq) r
 ·subst hi;unfold Rep at rep;obtain⟨a,xs,e,n,hq,r⟩:=rep;subst e;cases r1;obtain⟨its,rv,p,hz⟩:=I1.tuple hq;refine wpAny_pyIter_tuple (show s1.heap.IsTuple a its.toArray from p) ?_
  refine⟨s1.heap.objs.size,[s1.heap.objs.size],_,_,H1,rfl,I1.kept (t':=s1.toks) fun b o e=>qo _ e,xB a _,⟨_,ub _ rfl,rfl,rfl⟩,fun b hb=>?_,q _ _ sm (QV n hq r) (by rw[r.len];exact hz)⟩
  have e:b=s1.heap.objs.size:=by simpa using hb
  subst e;exact I1.fpOk (qk _) (I1.hok.fresh (qk _))
 ·subst hi;unfold Rep at rep;obtain⟨a,xs,e,n,hq,r⟩:=rep;exact golist a xs e n hq r
theorem qB{lo hi:Int}(h:(hi-lo).toNat≤big):(cC lo hi).length≤sizeLine:=by
 unfold cC;rw[qj,qz];exact rj h iD
theorem fW{i:Int}(h:dJ i=true):-(2 ^ 62)≤i∧i<2 ^ 62:=by
 unfold dJ at h;rw[qt]at h;exact⟨of_decide_eq_true h.1,of_decide_eq_true h.2⟩
theorem OT{args:List Expr}{p pos:Pos}{as ds:List D}(hg:Gl X "range")(hm:X.mg "range" = none)(ha:PA X args (b9 X.K T S ρ as))(hs:starEach args X.env=args.map fun e=>(false,eval e X.env))(hi:items .rng (.tup as)=some ds)(hlen:as.length=args.length) :
  PI X tg (.Call (.Name "range" p) args [] pos) (tI X.K T S ρ ds):=by
 simp only[items]at hi;unfold AH at hi;split at hi
 ·rename_i j;split at hi
  ·rename_i hc;rw[qt]at hc;cases hi;obtain⟨b1,b2⟩:=fW hc.1
   match args,hlen with
   |[a],_ =>
    intro pins s σ H R I ⟨re,q⟩;refine DV hg hm ha hs pins s σ H R I ⟨re,fun vs H' sm r=>?_⟩
    unfold aD at r;obtain⟨x,r',rfl,rx,rr⟩:=r;unfold aD at rr;subst rr;unfold Rep at rx;subst rx;refine⟨j,rfl,b1,b2,?_⟩;have hz:=qB (lo:=0) (hi:=j) (by simpa using of_decide_eq_true hc.2)
    have:=q (l9 0 (j-0).toNat) H' sm AG hz
    simpa using this
  ·cases hi
 ·rename_i i j;split at hi
  ·rename_i hc;rw[qt,qt]at hc;cases hi;obtain⟨b1,b2⟩:=fW hc.1.1;obtain⟨b3,b4⟩:=fW hc.1.2
   match args,hlen with
   |[a,b],_ =>
    intro pins s σ H R I ⟨re,q⟩;refine DU hg hm ha hs (by
     have h2:=congrArg List.tail hs
     have e:starEach [a,b] X.env=(false,eval a X.env)::starEach [b] X.env:=by
      cases a<;>first|rfl|(simp[starEach]at hs)
     rw[e]at h2;exact h2) pins s σ H R I ⟨re,fun vs H' sm r=>?_⟩
    unfold aD at r;obtain⟨x,r',rfl,rx,rr⟩:=r;unfold aD at rr;obtain⟨y,r'',rfl,ry,rr⟩:=rr;unfold aD at rr;subst rr;unfold Rep at rx ry;subst rx ry;exact⟨i,j,rfl,⟨b1,b2,b3,b4⟩,q _ H' sm AG (qB (of_decide_eq_true hc.2))⟩
  ·cases hi
 ·cases hi
theorem oI(h:XC CX X c G T lv){pins:v9}{σ:L2.St}{H:Hp}{s:Shared}(I:Inv X pins σ H s){sc:Scope}(cs:au c sc):∀x∈sc.names,x.2=.free→∃a,X.env.cells.lookup x.1=some a:=fun x hx hf=>by
 refine I.ok.has x.1 ?_;have k:=h.kd x.1
 rcases cs.fre x hx hf with e|e
 ·rw[e]at k;exact .inl k
 ·rw[e]at k
  rcases k with k|k
  ·exact .inr k
  ·exact .inl k
theorem OZ(h:XC CX X c G T lv){sc:Scope}(chk:kF c sc=true){iter elt:Expr}{ifs:List Expr}{pos:Pos}{fr:List (Nat×Nat)}{av:List Nat}{tp:Bool}{ds outs:List D}{f:D→Option (Option D)}
  (ak:freeOf c sc (sc.names.filter fun x=>x.2 == .free)=some fr) (oj:av.all (fun i=>(fr.lookup i).isNone)=true) (de:cM { c with N:=ownNames sc,sc:=sc } tg=some (av,tp))
  (hi:PI X tg iter (tI X.K T S ρ ds)) (hs:∀x,foldedSetIterable iter X.env x=pure x)
  (f9:bO f ds=some outs) (cw:∀d o,f d=some o→∃ρ1,bD av tp d (frame (ownNames sc).length fr ρ)=some ρ1∧TurnOk CX G T lv { c with N:=ownNames sc,sc:=sc } X.K ifs elt ρ1 o) :
  PE X (.ListComp elt [⟨tg,iter,ifs,0⟩] sc pos) (c9 X.K T S ρ outs):=by
 intro pins s σ H Q I ⟨re,q⟩;have cs:=qU chk
 obtain⟨cl,hclos,ar,bc⟩:=oX (oI h I cs);rw[eval_ListComp];refine wpAny_comprehension_free (use:=none) rfl hs hclos cs.kind cs.loc (ae (hi pins s σ H (fun J H2=>aF H H2∧jb X.K T S H2 J ds∧ds.length≤sizeLine) I ⟨re,fun J H2 a b z=>⟨a,b,z⟩⟩) fun v s1 h1=>ae h1 fun itv s2 h2=>?_)
 obtain⟨it,fp,tn,J,H2,e,I2,TU,mn,f2,sm,i6,hlen⟩:=h2;subst e;refine oV (RR:=fun acc C=>compPost (model X.prog X.w) X.A X.xe none (EP X pins σ Q) acc C) h cs ak oj de ar bc I2 (re.same sm) TU mn f2 i6 hlen f9 cw ?_
 intro D C s' H' ys m I' jx hD hD' rp hn ⟨c1,c2,c3,c4,c5⟩;refine⟨m,hn,fun h' bw=>⟨.ref D,H',I'.turned (t':=s'.toks) (fun b o hb e=>bw.extBut b o hb e) c1 c2.symm.symm (.inr c3) c4 c5,rfl,?_⟩⟩
 exact q D ys H' (sm.trans jx) (sm.free hD) hD' rp
theorem zP(h:XC CX X c G T lv){sc:Scope}(chk:kF c sc=true){iter elt:Expr}{ifs:List Expr}{pos spos px:Pos}{fr:List (Nat×Nat)}{av:List Nat}{tp:Bool}{ds outs:List D}{f:D→Option (Option D)}{x:Str}{i:Nat}
  (ak:freeOf c sc (sc.names.filter fun x=>x.2 == .free)=some fr) (oj:av.all (fun i=>(fr.lookup i).isNone)=true) (de:cM { c with N:=ownNames sc,sc:=sc } tg=some (av,tp))
  (hi:PI X tg iter (tI X.K T S ρ ds)) (hs:∀x,foldedSetIterable iter X.env x=pure x) (hx:dS c (.Name x px)=some i)
  (hsw:swapsWith (.ListComp elt [⟨tg,iter,ifs,0⟩] sc pos) (some (.Name x px)) spos.line X.env=pure true)
  (f9:bO f ds=some outs) (cw:∀d o,f d=some o→∃ρ1,bD av tp d (frame (ownNames sc).length fr ρ)=some ρ1∧TurnOk CX G T lv { c with N:=ownNames sc,sc:=sc } X.K ifs elt ρ1 o) :
  PS X (.Assign [.Name x px] (.ListComp elt [⟨tg,iter,ifs,0⟩] sc pos) spos) (fun D σ H=>RE X.K T H S ρ σ∧∀p xs H',aF H H'→H p=none→H' p=some (.lst xs)→aD X.K T (er H' p) S outs xs→D.nx (σ.set i (some (.ref p))) H'):=by
 intro pins s σ H DD I ⟨re,q⟩;have cs:=qU chk
 obtain⟨cl,hclos,ar,bc⟩:=oX (oI h I cs);rw[exec_Assign_Name_used _ _ _ _ hsw];refine u2 (wpAny_standAt (u2 ?_));show wpAny _ X.A (do let _ ←comprehension (.ListComp elt [⟨tg,iter,ifs,0⟩] sc pos) sc X.env _ (newList []) false (eval iter X.env) (some (assign (.Name x px) X.env))) _ _ s
 refine u2 (ua (wpAny_comprehension_free (use:=some (assign (.Name x px) X.env)) (Q:=fun _ s'=>SP X pins DD .next s') rfl hs hclos cs.kind cs.loc
  (ae (hi pins s σ H (fun J H2=>aF H H2∧jb X.K T S H2 J ds∧ds.length≤sizeLine) I ⟨re,fun J H2 a b z=>⟨a,b,z⟩⟩) fun v s1 h1=>ae h1 fun itv s2 h2=>?_)) (fun _ s' hq=>u7 (u7 hq)) fun _ _ e=>e)
 obtain⟨it,fp,tn,J,H2,e,I2,TU,mn,f2,sm,i6,hlen⟩:=h2;subst e;refine oV (RR:=fun acc C=>compPost (model X.prog X.w) X.A X.xe (some (assign (.Name x px) X.env)) (fun _ s'=>SP X pins DD .next s') acc C) h cs ak oj de ar bc I2 (re.same sm) TU mn f2 i6 hlen f9 cw ?_
 intro D C s' H' ys m I' jx hD hD' rp hn ⟨c1,c2,c3,c4,c5⟩;obtain⟨hN,hk⟩:=cQ hx;obtain⟨hl,hf⟩:=h.loc hk;show wpAny _ X.A (assign (.Name x px) X.env (.ref D)) _ _ _
 refine wpAny_assign_Name (pW I' (by rw[h.N];exact h.nd) (by rw[h.N];exact hN) hl (v:=.ref D) (u:=.ref D) rfl (fun mz I'' ⟨a,sb,ha⟩=>?_) hf)
 have hCa:C≠a:=by
  rcases ha with z|z
  ·rw[z];exact c2
  ·exact fun w=>c4 x a z w.symm
 refine⟨m,hn.sameBut sb hCa,fun h' bw=>⟨_,H',I''.turned (t':=mz.toks) (fun b o hb e=>bw.extBut b o hb e) c1 c2 (.inr c3) c4 c5,q D ys H' (sm.trans jx) (sm.free hD) hD' rp⟩⟩
end
noncomputable def Itv(K:uz)(a:Addr)(n:Nat):It:=
 ⟨fun i H=>∃xs x,SqL K H a xs∧xs.length=n∧xs[n-1-i]?=some x∧i<n,fun i H x H'=>H'=H∧∀xs,SqL K H a xs→xs[n-1-i]?=some x,fun i H=>n≤i⟩
theorem GA{P:v7}{w:World}{K:uz}{tg:Expr}(a it:Addr)(n:Nat):Turn P w K tg (Itv K a n) [it] it (fun i h=>i≤n∧h.IsRevIter it a ((n:Int)-1-(i:Int))) where
 mem:=by simp
 obj:=fun i h st b hb=>by
  have e:b=it:=by simpa using hb
  subst e;obtain⟨_,o,e,c,d⟩:=st;exact⟨o,e,fun v z=>by rw[d]at z;cases z⟩
 keep:=fun i h h' st k=>⟨st.1,st.2.at fun o e=>k it (by simp) o e⟩
 item:=by
  intro X hP hw hK hc i pins s σ H E I hf st hg;subst hP hw hK;obtain⟨xs,x,hq,hn,hx,hi⟩:=hg;obtain⟨its,rv,p,hz⟩:=I.list hq;obtain⟨u,hu,ru⟩:=rv.get hx;obtain⟨f0,f1,f2,f3,f4,f5⟩:=hf it (by simp)
  have e1:(n:Int)-1-(i:Int)=((n-1-i:Nat):Int):=by omega
  have mq:=st.2
  rw[e1]at mq;refine wpAny_pyNext_rev_item mq p.isList (x:=u) (by simpa using hu) fun h' ez sb=>?_
  have I1:Inv X pins σ H { s with heap:=h' }:=I.turned (t':=s.toks) (fun b o hb e=>(sb.2 b hb).trans e) f0 f1 f3 f4 f5
  obtain⟨o,e,c,d⟩:=id ez;have e2:((n-1-i:Nat):Int)-1=(n:Int)-1-((i+1:Nat):Int):=by omega
  rw[e2]at ez;exact⟨u,rfl,AM (s:={ s with heap:=h' }) e c d (by decide) ⟨x,H,I1,ru,⟨rfl,fun ys hy=>by rw[I.list_inj hy hq];exact hx⟩,⟨hi,ez⟩,fun b hb=>(hf b hb).1⟩⟩
 done:=by
  intro X hP hw hK hc i pins s σ H E I hf st hg;subst hP hw hK;have iF:n≤i:=hg
  have ei:i=n:=Nat.le_antisymm st.1 iF
  subst ei;obtain⟨f0,f1,f2,f3,f4,f5⟩:=hf it (by simp)
  have e1:(i:Int)-1-(i:Int)=-1:=by omega
  have mq:=st.2
  rw[e1]at mq;exact wpAny_pyNext_rev_end (I.ok.hd hc) mq fun h' eb=>⟨rfl,I.turned (t':=s.toks) (fun b o hb e=>eb b o hb e) f0 f1 f3 f4 f5⟩
 self:=fun _ _ _ _ _ st h=>wpAny_pyIter_revIter st.2 h
section
variable {CX:aj}{X:Cx}{c:CC}{G:GS}{T:Tx}{lv:Nat}{ρ:List Sl}{S:Addr→Prop}{tg:Expr}
theorem QW{H1:Hp}{a:Addr}{xs:List V}{ds:List D}(n:¬S a)(hq:SqL X.K H1 a xs)(r:aD X.K T H1 S ds xs):jb X.K T S H1 (Itv X.K a xs.length) ds.reverse:=fun H S' mv dom=>by
 obtain⟨n',k⟩:=mv a n (SqL.has hq);have ba:=SqL.keeps hq k
 have hl:=r.len
 refine⟨fun i d e=>?_,fun i hi=>?_⟩
 ·have hi:i<ds.length:=by
   have:=(q9.mp e).1
   simpa using this
  rw[List.getElem?_reverse hi]at e;obtain⟨x,e1,rx⟩:=r.get e;rw[hl]at e1 hi;refine⟨⟨xs,x,ba,rfl,e1,hi⟩,fun y H' ⟨eH,ey⟩=>?_⟩
  subst eH;have:=ey xs ba
  rw[e1]at this;cases this;exact⟨aF.refl _,Rep.gen mv d x rx⟩
 ·show xs.length≤i
  rw[←hl];simpa using hi
theorem OU{a:Expr}{p pos:Pos}{d:D}{ds:List D}(hg:Gl X "reversed")(hm:X.mg "reversed" = none)(ha:PA X [a] (b9 X.K T S ρ [d]))(hs:starEach [a] X.env=[(false,eval a X.env)])(hi:vU d=some ds) :
  PI X tg (.Call (.Name "reversed" p) [a] [] pos) (tI X.K T S ρ ds):=by
 intro pins s σ H R I ⟨re,q⟩;refine Call_ (eU I hg hm boot_reversed (se (ae (ha pos pins s σ H (fun vs H'=>aF H H'∧aD X.K T H' S [d] vs) I ⟨re,fun vs H' a b=>⟨a,b⟩⟩) fun us s1 ⟨vs,H1,I1,r1,sm,rl⟩=>?_) hs rfl))
 unfold aD at rl;obtain⟨x,r',rfl,rx,rr⟩:=rl;unfold aD at rr;subst rr;cases r1 with
 |cons r rr =>
  cases rr;cases d<;>simp only[vU,reduceCtorEq,qe]at hi
  rename_i ds';subst hi;unfold Rep at rx;obtain⟨l,xs,e,n,hq,rl⟩:=rx;subst e;cases r;obtain⟨its,rv,pl,hz⟩:=I1.list (SqL.of hq);have hlen:=rv.length
  refine call_reversed_list pl.isList ?_;have I2:Inv X pins σ H1 { s1 with heap:=s1.heap.push (revObj l ((its.toArray.size:Int)-1)) }:=I1.kept (t':=s1.toks) fun b o e=>qo _ e
  have hri:({ s1 with heap:=s1.heap.push (revObj l ((its.toArray.size:Int)-1)) }:Shared).heap.IsRevIter s1.heap.objs.size l ((xs.length:Int)-1):=by
   refine⟨_,ub _ rfl,rfl,?_⟩;have:(its.toArray.size:Int)=(xs.length:Int):=by rw[qr,hlen]
   show Data.fields #[.ref l,rawInt ((its.toArray.size:Int)-1)]=_
   rw[this]
  refine wpAny_pyIter_revIter hri ?_;refine⟨s1.heap.objs.size,[s1.heap.objs.size],_,_,H1,rfl,I2,GA l _ xs.length,⟨uu _,by simpa using hri⟩,fun b hb=>?_,q _ _ sm (QW n (SqL.of hq) rl) ?_⟩
  ·have e:b=s1.heap.objs.size:=by simpa using hb
   subst e;exact I1.fpOk (qk _) (I1.hok.fresh (qk _))
  ·rw[uv,rl.len];exact hz
end
theorem mY:bootBuiltins "list" = some (.type "list"):=by decide +kernel
theorem EC:typeLookup (.type "list_reverseiterator") "__len__" = pure none:=by rw[typeLookup_type,builtinLookup_eq_fast];kernel_rfl
theorem JN:typeLookup (.type "list_reverseiterator") "__length_hint__" = pure (some (.builtin "list_reverseiterator.__length_hint__")):=by rw[typeLookup_type,builtinLookup_eq_fast];kernel_rfl
section
variable {prog:v7}{w:World}{A:Around}{E:v8}{s:Shared}
theorem pN{Q:v8}{I l:Addr}{items:Array Value}(hh:A.handled=none)(dw:l≠I)(hit:s.heap.IsRevIter I l ((items.size:Int)-1))(hl:s.heap.IsList l items)(hz:items.size≤sizeLine)
  (hQ:∀h' tk b7 c',(∀b o,b≠I→s.heap.get? b=some o→h'.get? b=some o)→h'.get? s.heap.objs.size=some { cls:=.type "list",dict:=none,data:=.seq b7 c',slots:=#[] } →
   b7=items.reverse→Q (.ref s.heap.objs.size) { s with heap:=h',toks:=tk }) :
  wpAny (model prog w) A (call (.type "list") [.ref I]) Q E s:=by
 refine callType_codes (Q₁:=fun obj s₁=>obj=.ref s.heap.objs.size∧s₁={ s with heap:=s.heap.push { cls:=.type "list",data:=.seq #[] } }) F.called_list (F.typeCall_list_1 _) F.entry_list_init
  (code_list_new _ ⟨rfl,rfl⟩) fun obj s₁ h₁=>?_
 obtain⟨rfl,rfl⟩:=h₁;have hIlt:I<s.heap.objs.size:=by obtain⟨o,e,_⟩:=hit;exact rh e
 have hllt:l<s.heap.objs.size:=by obtain⟨o,e,_⟩:=hl;exact rh e
 have hS:(s.heap.push { cls:=.type "list",data:=.seq #[] }).get? s.heap.objs.size=some { cls:=.type "list",data:=.seq #[] }:=ub _ rfl
 have hup:∀b o,s.heap.get? b=some o→(s.heap.push { cls:=.type "list",data:=.seq #[] }).get? b=some o:=fun b o e=>qo _ e
 refine⟨⟨_,hS,rfl⟩,F.args_list_init_2 _ _,?_⟩;generalize hSe:s.heap.objs.size=S at *;generalize hs1:s.heap.push { cls:=.type "list",data:=.seq #[] }=h1 at *;have hSI:S≠I:=Nat.ne_of_gt hIlt
 have hSl:S≠l:=Nat.ne_of_gt hllt
 show wpAny _ _ (do let old ←Builtin.List.listItems (.ref S);Builtin.List.listUpdate (.ref S) (fun _=>#[]);letGo old.toList.reverse;Builtin.List.listExtendWith (.ref S) (.ref I) .none) _ _ _
 refine u2 ?_;unfold Builtin.List.listItems;refine u2 (wpAny_seqItems hS rfl (u7 ?_));show wpAny _ _ (updateSeq S (fun _=>#[]) >>= fun _=>letGo (#[]:Array Value).toList.reverse >>= fun _=>Builtin.List.listExtendWith (.ref S) (.ref I) .none) _ _ _
 refine u2 (wpAny_updateSeq hS rfl ?_);have hS₂:=Heap.get?_update_self (Obj.mapSeq (fun _=>(#[]:Array Value))) hS rfl
 have oth:∀b o,b≠S→h1.get? b=some o→(h1.update S (Obj.mapSeq (fun _=>(#[]:Array Value)))).get? b=some o:=
  fun b o hb e=>(Heap.get?_update_other _ _ (Ne.symm hb)).trans e
 refine u2 (wpAny_letGo ?_);generalize h1.update S (Obj.mapSeq (fun _=>(#[]:Array Value)))=h2 at *
 have W:=(Walks.listRev (prog:=prog) (w:=w) (A:=A.in1.in1) hh I l dw items).toS
 have hit2:h2.IsRevIter I l ((items.size:Int)-1-((0:Nat):Int)):=by
  have e0:(items.size:Int)-1-((0:Nat):Int)=(items.size:Int)-1:=by omega
  rw[e0];exact hit.at fun o e=>oth I o (Ne.symm hSI) (hup _ _ e)
 have fi:h2.IsList l items:=hl.at fun o e=>oth l o (Ne.symm hSl) (hup _ _ e)
 have hT:({ s with heap:=h2 }:Shared).TypeIs (.ref I) "list_reverseiterator":=hit2.typeIs (s:={ s with heap:=h2 })
 have hSf:S∉[I,l]:=by simp[hSI,hSl]
 have hs1':Builtin.List.listSameRef (.ref S) (.ref I)=false:=by simp[Builtin.List.listSameRef,hSI]
 show wpAny _ _ (Builtin.List.listExtendWith (.ref S) (.ref I) .none) _ _ { s with heap:=h2 }
 unfold Builtin.List.listExtendWith;refine u2 (wpAny_typeOf hT ?_);rw[if_neg (by rw[hs1'];decide)]
 refine u2 (W.self 0 _ _ _ ⟨uu _,hit2,fi⟩ ?_);refine u2 (wpAny_holding ?_);unfold Builtin.List.listLengthHint;refine u2 (wpAny_specialOf hT EC ?_);show wpAny _ _ (specialOf (Value.ref I) (Str.ofString "__length_hint__") >>= _) _ _ _
 refine u2 (wpAny_specialOf hT JN ?_)
 (generalize hid:("list_reverseiterator.__length_hint__":String)=id0;(fail_if_success (clear hid id0));wp_delta;rw[show splitId id0=some ("list_reverseiterator","__length_hint__") from by subst hid;decide +kernel];subst hid)
 refine u2 (wpAny_isInstance (b:=true) hT (by rw[isSubtype_type];kernel_rfl) ?_)
 refine u7 ?_;rw[if_neg (by decide)]
 refine u7 ⟨plainId_quiet F.plain_extend_loop _,codeAny_extend_loopS W hz S hSf _ items.size 0 _ _ _ rfl (uu _) ⟨uu _,hit2,fi⟩ hS₂ (ItemsOf.nil _) fun s' b7 c' hm ie cg=>?_⟩
 refine⟨rfl,?_⟩;rw[Moved.eq_with hm];refine hQ s'.heap s'.toks b7 c' (fun b o hb e=>?_) ie ?_
 ·have hbS:b≠S:=fun z=>by
   subst z;exact absurd (rh e) (by rw[hSe];exact u1 _)
  exact hm.heap b o (by simp[hbS,hb]) (oth b o hbS (hup _ _ e))
 ·obtain⟨j5,fi⟩:=cg;apply Array.ext
  ·rw[j5,Array.size_reverse]
  ·intro i h3 h4;have h5:=fi i b7[i] (Array.getElem?_eq_getElem h3)
   rw[Array.getElem_reverse];obtain⟨_,e⟩:=Array.getElem?_eq_some_iff.mp h5;exact e.symm
end
section
variable {CX:aj}{X:Cx}{c:CC}{G:GS}{T:Tx}{lv:Nat}{ρ:List Sl}{S:Addr→Prop}
theorem xS{a:Expr}{p pos p2 fw:Pos}{d:D}{ds:List D}(hc:X.calm=true)(hg:Gl X "reversed")(hm:X.mg "reversed" = none)(fk:Gl X "list")(ot:X.mg "list" = none)(ha:PA X [a] (b9 X.K T S ρ [d]))(hs:starEach [a] X.env=[(false,eval a X.env)])(hi:vU d=some ds) :
  PE X (.Call (.Name "list" p2) [.Call (.Name "reversed" p) [a] [] pos] [] fw) (c9 X.K T S ρ ds):=by
 intro pins s σ H Q I ⟨re,q⟩;refine Call_ (eU I fk ot mY (se (Calls.spliced_cons (Call_ (eU I hg hm boot_reversed (se (ae (ha pos pins s σ H (fun vs H'=>aF H H'∧aD X.K T H' S [d] vs) I ⟨re,fun vs H' a b=>⟨a,b⟩⟩) fun us s1 ⟨vs,H1,I1,r1,sm,rl⟩=>?_) hs rfl)))) rfl rfl))
 unfold aD at rl;obtain⟨x,r',rfl,rx,rr⟩:=rl;unfold aD at rr;subst rr;cases r1 with
 |cons r rr =>
  cases rr;cases d<;>simp only[vU,reduceCtorEq,qe]at hi
  rename_i ds';subst hi;unfold Rep at rx;obtain⟨l,xs,e,n,hq,rl⟩:=rx;subst e;cases r;obtain⟨its,rv,pl,hz⟩:=I1.list (SqL.of hq);have hlen:=rv.length
  refine call_reversed_list pl.isList ?_;refine Calls.spliced_nil ?_;have hllt:l<s1.heap.objs.size:=by obtain⟨o,e,_⟩:=pl.isList;exact rh e
  refine pN (I:=s1.heap.objs.size) (items:=its.toArray) (I1.ok.hd hc) (tm hllt) ⟨_,ub _ rfl,rfl,rfl⟩ (pl.isList.at fun o e=>qo _ e) (by rw[qr,←hlen];exact hz) fun h' tk b7 c' hk ie cg=>?_
  have e1:(s1.heap.push (revObj l ((its.toArray.size:Int)-1))).objs.size=s1.heap.objs.size+1:=size_push ..
  have I3:Inv X pins σ (upd H1 (s1.heap.push (revObj l ((its.toArray.size:Int)-1))).objs.size (.lst xs.reverse)) { s1 with heap:=h',toks:=tk }:=by
   refine I1.laid (fun b u e=>hk b u (tm (rh e)) (qo _ e)) (by rw[e1];exact ue _) ?_
   refine⟨by rw[uv];exact hz,its.reverse,c',aQ.reverse rv,?_⟩
   rw[ie,cg];simp
  have ak:H1 (s1.heap.push (revObj l ((its.toArray.size:Int)-1))).objs.size=none:=I1.hok.fresh (by rw[e1];exact ue _)
  exact⟨.ref _,_,I3,rfl,q _ xs.reverse _ (sm.trans (aF.upd ak)) (sm.free ak) aH (by rw[iB ak];exact rl.rev)⟩
end
section
variable {CX:aj}{X:Cx}{c:CC}{G:GS}{T:Tx}{lv:Nat}{ρ:List Sl}{S:Addr→Prop}{pos:Pos}{ea eb ec:Expr}{a b d:D}
theorem zI{i:Nat}(h:slot ρ i=some d):ρ[i]?=some (.im d):=by
 unfold slot at h;split at h
 ·rename_i e;cases h;exact e
 ·cases h
theorem UC(h:XC CX X c G T lv){x:Str}{i:Nat}(e:bB c x=some i)(hs:slot ρ i=some d):PE X (.Name x pos) (tD X.K T S ρ d):=by
 obtain⟨hN,hk⟩:=rR e;have hm:x∈c.N:=qf hN
 refine PE.mono (lF (by rw[h.N];exact hN) (h.vis hk) (h.dbg x hm).1 (h.dbg x hm).2) fun σ H Q ⟨re,q⟩=>?_
 obtain⟨v,e1,r⟩:=re.at_ i _ (zI hs);exact⟨v,e1,q v H (aF.refl H) r⟩
theorem dU(h:XC CX X c G T lv){x:Str}{i:Nat}(e:bB c x=some i):PE X (.Name x pos) (pH i):=by
 obtain⟨hN,hk⟩:=rR e;have hm:x∈c.N:=qf hN
 exact lF (by rw[h.N];exact hN) (h.vis hk) (h.dbg x hm).1 (h.dbg x hm).2
theorem aEt(h:XC CX X c G T lv){x:Str}(e:aP c x=true)(hc:c.csts.contains x=true)(hd:G.cst x=some d):PE X (.Name x pos) (tD X.K T S ρ d):=by
 obtain⟨u,v,e1,r,hr⟩:=h.go.cst x d hd hc;intro pins s σ H Q I ⟨re,q⟩;exact dW I (h.glob e) e1 ⟨v,H,I,r,q v H (aF.refl H) (hr H S (UI I) re.dom)⟩ (h.gne e)
theorem aEr{i:Int}{j:Nat}:PE X (.Constant (.int i) j pos) (tD X.K T S ρ (.int i)):=PE.mono sA fun σ H Q ⟨re,q⟩=>q _ H (aF.refl H) (by unfold Rep;rfl)
theorem aHI{i:Bool}{j:Nat}:PE X (.Constant (.bool i) j pos) (tD X.K T S ρ (.bl i)):=PE.mono zV fun σ H Q ⟨re,q⟩=>q _ H (aF.refl H) (by unfold Rep;rfl)
theorem aEf{i:Str}{j:Nat}:PE X (.Constant (.str i) j pos) (tD X.K T S ρ (.str i)):=PE.mono fM fun σ H Q ⟨re,q⟩=>q _ H (aF.refl H) (by unfold Rep;rfl)
theorem aEm{j:Nat}:PE X (.Constant .none j pos) (tD X.K T S ρ .non):=PE.mono YB fun σ H Q ⟨re,q⟩=>q _ H (aF.refl H) (by unfold Rep;rfl)
theorem nD{o:O2}(hd:af o a b=some d):∀σ H Q,tD X.K T S ρ d σ H Q→iy (rD X.K T S o) (tD X.K T S ρ a) (tD X.K T S ρ b) σ H Q:=fun σ H Q ⟨re,q⟩ =>
 ⟨re,fun x H1 s1 r1=>⟨re.same s1,fun y H2 s2 r2=>⟨a,b,d,((re.same s1).same s2).dom,r1.same s2,r2,hd,fun v H' s3 r3=>q v H' (s1.trans (s2.trans s3)) r3⟩⟩⟩
theorem aEx{op:Operator}{o:O2}(ho:PQ op=some o)(ha:PE X ea (tD X.K T S ρ a))(hb:PE X eb (tD X.K T S ρ b))(hd:af o a b=some d):PE X (.BinOp ea op eb pos) (tD X.K T S ρ d):=
 PE.mono (TX (PY ho) ha hb) (nD hd)
theorem DX:OpR X (compareOp .IsNot) (rD X.K T S .isnot):=by
 rintro pins s σ H x y v u Q I rx ry ⟨a,b,d,dom,ra,rb,e,q⟩;have go:∀k,b=.non→k=decide (x=V.non)→d=.bl (!k)→wpAny (model X.prog X.w) X.A (compareOp .IsNot v u) (EP X pins σ Q) X.xe s:=fun k hb hk hd=>by
  subst hb hd hk;unfold Rep at rb;exact PM pins s σ H x y v u Q I rx ry ⟨rb,q _ H (aF.refl H) bN⟩
 simp only[af,IH,isD]at e;split at e<;>simp only[uc,Option.map_none,qe,reduceCtorEq]at e
 all_goals subst e
 all_goals first
  | (unfold Rep at ra;refine go _ rfl ?_ rfl;first|(subst ra;rfl)|(obtain⟨_,_,rfl,_⟩:=ra;rfl)|(obtain⟨_,_,_,_,rfl,_⟩:=ra;rfl))
  | (unfold Rep at ra rb
     subst ra rb;cases rx;cases ry;exact isnot_bool ⟨.bl _,H,I,rfl,q _ H (aF.refl H) bN⟩)
theorem eJ(hu:X.A.units+64<cLine)(op:CmpOp):OpR X (compareOp op) (rD X.K T S (jT op)):=by
 cases op
 ·exact YV hu
 ·exact YN hu
 ·exact YO
 ·exact YQ
 ·exact YT
 ·exact YU
 ·exact YR
 ·exact DX
 ·exact YS hu
 ·exact DW hu
theorem aEw(hu:X.A.units+64<cLine){op:CmpOp}(ha:PE X ea (tD X.K T S ρ a))(hb:PE X eb (tD X.K T S ρ b))(hm:behindInMarks op eb=false)(hd:af (jT op) a b=some d):PE X (.Compare ea [op] [eb] pos) (tD X.K T S ρ d):=
 PE.mono (zT (eJ hu op) ha hb hm) (nD hd)
theorem ZL(hu:X.A.units+64<cLine){op:CmpOp}{k:Bool}(ha:PE X ea (tD X.K T S ρ a))(hb:PE X eb (tD X.K T S ρ b))(hm:behindInMarks op eb=false)(hd:af (jT op) a b=some (.bl k)):PT X (.Compare ea [op] [eb] pos) (dh X.K T S ρ k):=
 PT.mono (zO (eJ hu op) ha hb hm) fun σ H Q ⟨re,q⟩=>nD hd σ H _ ⟨re,fun v H' sm r=>by
  unfold Rep at r;exact⟨k,r,q H' sm⟩⟩
theorem oY{o o':O2}{c':D}{k:Bool}(h1:af o a b=some (.bl k))(h2:if k=true then af o' b c'=some d else d=.bl false):∀σ H Q,tD X.K T S ρ d σ H Q→xE (rD X.K T S o) (rD X.K T S o') (tD X.K T S ρ a) (tD X.K T S ρ b) (tD X.K T S ρ c') σ H Q:=
 fun σ H Q ⟨re,q⟩=>⟨re,fun x H1 s1 r1=>⟨re.same s1,fun y H2 s2 r2=>⟨a,b,.bl k,((re.same s1).same s2).dom,r1.same s2,r2,h1,fun z H3 s3 r3=>by
  unfold Rep at r3;refine⟨k,r3,?_⟩;cases k with
  |true =>
   rw[if_pos rfl]at h2 ⊢;exact⟨((re.same s1).same s2).same s3,fun w' H4 s4 r4=>⟨b,c',d,(((re.same s1).same s2).same s3).same s4 |>.dom,(r2.same s3).same s4,r4,h2,fun v H' s5 r5=>q v H' (s1.trans (s2.trans (s3.trans (s4.trans s5)))) r5⟩⟩
  |false =>
   rw[if_neg qx]at h2 ⊢;subst h2;exact q _ H3 (s1.trans (s2.trans s3)) bN⟩⟩⟩
theorem QL(hu:X.A.units+64<cLine){op cv:CmpOp}{c':D}{k:Bool}(ha:PE X ea (tD X.K T S ρ a))(hb:PE X eb (tD X.K T S ρ b))(hc:PE X ec (tD X.K T S ρ c'))(hm:lastMarks [op,cv] [eb,ec]=false)
  (h1:af (jT op) a b=some (.bl k)) (h2:if k=true then af (jT cv) b c'=some d else d=.bl false):PE X (.Compare ea [op,cv] [eb,ec] pos) (tD X.K T S ρ d):=
 PE.mono (vJ (eJ hu op) (eJ hu cv) ha hb hc hm) (oY h1 h2)
theorem IP(hu:X.A.units+64<cLine){op cv:CmpOp}{c':D}{k k':Bool}(ha:PE X ea (tD X.K T S ρ a))(hb:PE X eb (tD X.K T S ρ b))(hc:PE X ec (tD X.K T S ρ c'))(hm:lastMarks [op,cv] [eb,ec]=false)
  (h1:af (jT op) a b=some (.bl k)) (h2:if k=true then af (jT cv) b c'=some (.bl k') else D.bl k'=.bl false):PT X (.Compare ea [op,cv] [eb,ec] pos) (dh X.K T S ρ k'):=
 PT.mono (vH (eJ hu op) (eJ hu cv) ha hb hc hm) fun σ H Q ⟨re,q⟩=>oY h1 h2 σ H _ ⟨re,fun v H' sm r=>by
  unfold Rep at r;exact⟨k',r,q H' sm⟩⟩
theorem aEn{i:Int}(ha:PE X ea (tD X.K T S ρ (.int i))):PE X (.UnaryOp .USub ea pos) (tD X.K T S ρ (.int (-i))):=
 PE.mono (aDo VV ha) fun σ H Q ⟨re,q⟩=>⟨re,fun x H1 s1 r1=>by
  unfold Rep at r1;exact⟨i,r1,q _ H1 s1 (by unfold Rep;rfl)⟩⟩
theorem _root_.Z.aD.emp{K:uz}{H:Hp}{ds:List D}{xs:List V}(r:aD K T H S ds xs):ds.isEmpty=xs.isEmpty:=by
 have:=r.len
 cases ds<;>cases xs<;>simp_all
theorem aBN{H:Hp}{v:V}{k:Bool}(r:Rep X.K T H S a v)(h:ck a=some k):aAI X.K v H k:=by
 cases a<;>simp only[ck,reduceCtorEq,qe]at h
 ·unfold Rep at r;subst r;exact h.symm
 ·unfold Rep at r;subst r;exact h.symm
 ·unfold Rep at r;subst r;exact h.symm
 ·unfold Rep at r;obtain⟨p,xs,rfl,_,e,rl⟩:=r;refine .inl ⟨xs,SqL.of e,?_⟩;rw[←h];rw[rl.emp]
 ·unfold Rep at r;obtain⟨p,xs,rfl,_,e,rl⟩:=r;refine .inr (.inl ⟨xs,e,?_⟩);rw[←h];rw[rl.emp]
 ·unfold Rep at r;obtain⟨p,xs,rfl,_,e,rl⟩:=r;refine .inl ⟨xs,e,?_⟩;rw[←h];rw[rl.emp]
theorem QJ{k:Bool}(ha:PE X ea (tD X.K T S ρ a))(he:∀whole,isTrue ea X.env whole=(do let v ←whole;standAt ea.pos;holding [v] (truthy v)))(h:ck a=some k):PT X ea (dh X.K T S ρ k):=
 PT.mono (HE ha he) fun σ H Q ⟨re,q⟩=>⟨re,fun x H1 s1 r1=>⟨k,aBN r1 h,q H1 s1⟩⟩
theorem ZG{k:Bool}(ha:PT X ea (dh X.K T S ρ k)):PT X (.UnaryOp .Not ea pos) (dh X.K T S ρ (!k)):=PT.mono (HF ha) fun σ H Q ⟨re,q⟩=>⟨re,fun H1 s1=>q H1 s1⟩
theorem aEk{k:Bool}(ha:PE X ea (tD X.K T S ρ a))(h:ck a=some k):PE X (.UnaryOp .Not ea pos) (tD X.K T S ρ (.bl (!k))):=by
 intro pins s σ H Q I ⟨re,q⟩;refine UnaryOp_ (ae (ha pins s σ H (fun v H'=>aF H H'∧Rep X.K T H' S a v) I ⟨re,fun v H' a b=>⟨a,b⟩⟩) fun v s1 ⟨x,H1,I1,r1,sm,rx⟩=>?_)
 exact not_of (ae (GB pins s1 σ H1 x v (fun b H2=>b=k∧H2=H1) I1 r1 ⟨k,aBN rx h,rfl,rfl⟩) fun b s2 ⟨H2,I2,eb,eH⟩=>by
  subst eb eH;exact⟨.bl (!b),H2,I2,rfl,q _ H2 sm bN⟩)
theorem UF{k:Bool}(hc:PT X ec (dh X.K T S ρ k))(ha:k=true→PE X ea (tD X.K T S ρ d))(hb:k=false→PE X eb (tD X.K T S ρ d)):PE X (.IfExp ec ea eb pos) (tD X.K T S ρ d):=by
 cases k with
 |true =>
  refine PE.mono (vI hc (ha rfl) (tb:=fun _ _ _=>False) (fun _ _ _ _ _ _ h=>h.elim)) fun σ H Q ⟨re,q⟩=>⟨re,fun H1 s1=>?_⟩
  exact yH ⟨re.same s1,fun v H' s2 r=>q v H' (s1.trans s2) r⟩
 |false =>
  refine PE.mono (vI hc (ta:=fun _ _ _=>False) (fun _ _ _ _ _ _ h=>h.elim) (hb rfl)) fun σ H Q ⟨re,q⟩=>⟨re,fun H1 s1=>?_⟩
  exact jZ ⟨re.same s1,fun v H' s2 r=>q v H' (s1.trans s2) r⟩
theorem zY:PA X [] (b9 X.K T S ρ []):=PA.mono bU fun σ H Q ⟨re,q⟩=>q [] H (aF.refl H) aD.nil
theorem sJ{es:List Expr}{ds:List D}(ha:PE X ea (tD X.K T S ρ a))(hr:PA X es (b9 X.K T S ρ ds))(hs:starEach (ea::es) X.env=(false,eval ea X.env)::starEach es X.env):PA X (ea::es) (b9 X.K T S ρ (a::ds)):=
 PA.mono (aR ha hr hs) fun σ H Q ⟨re,q⟩=>⟨re,fun x H1 s1 r1=>⟨re.same s1,fun xs H2 s2 r2=>q _ H2 (s1.trans s2) (aD.cons (r1.same s2) r2)⟩⟩
theorem aEe{es:List Expr}{ds:List D}{x1:Nat}(h:PA X es (b9 X.K T S ρ ds))(hl:ds.length≤sizeLine):PE X (.Tuple es x1 pos) (tD X.K T S ρ (.tup ds)):=
 PE.mono (XZ h) fun σ H Q ⟨re,q⟩=>⟨re,fun xs H1 s1 r1=>⟨by rw[←r1.len];exact hl,fun p hp=>q _ _ (s1.trans (aF.upd hp)) (eO (re.same s1).dom hp r1)⟩⟩
theorem aEo{es:List Expr}{ds:List D}(h:PA X es (b9 X.K T S ρ ds))(hl:ds.length≤sizeLine):PE X (.List es pos) (c9 X.K T S ρ ds):=
 PE.mono (nP h) fun σ H Q ⟨re,q⟩=>⟨re,fun xs H1 s1 r1=>⟨by rw[←r1.len];exact hl,fun p hp=>q _ _ _ (s1.trans (aF.upd hp)) (s1.free hp) aH (by rw[iB hp];exact r1)⟩⟩
theorem UE{e:Expr}{ds:List D}(h:PE X e (c9 X.K T S ρ ds)):PE X e (tD X.K T S ρ (.lst ds)):=
 PE.mono h fun σ H Q ⟨re,q⟩=>⟨re,fun p xs H' sm hp c6 r=>q _ H' sm (by unfold Rep;exact⟨p,xs,rfl,re.nS hp,c6,r.er⟩)⟩
theorem mZ{K:uz}{H:Hp}{ds:List D}{xs:List V}{i:Int}(r:aD K T H S ds xs)(h:atI ds i=some d):∃x,L2.atI xs i=some x∧Rep K T H S d x:=by
 unfold atI at h;unfold L2.atI;rw[qg]at h;obtain⟨j,h1,h2⟩:=h;obtain⟨x,e,rx⟩:=r.get h2;have o8:L2.ixN xs.length i=some j:=by rw[←r.len];exact h1
 exact⟨x,by rw[o8];exact e,rx⟩
theorem QU{i:Int}{ds:List D}(hc:a=.lst ds∨a=.tup ds∨a=.frz ds)(hd:atI ds i=some d):∀σ H Q,tD X.K T S ρ d σ H Q→iy (rIx X.K) (tD X.K T S ρ a) (tD X.K T S ρ (.int i)) σ H Q:=fun σ H Q ⟨re,q⟩ =>
 ⟨re,fun x H1 s1 r1=>⟨re.same s1,fun y H2 s2 r2=>by
  have dm:=r1.same s2
  unfold Rep at r2
  rcases hc with rfl|rfl|rfl
  ·unfold Rep at dm;obtain⟨p,xs,ex,_,e,rl⟩:=dm;obtain⟨v,e1,rv⟩:=mZ rl hd;exact .inl ⟨p,xs,i,v,ex,r2,SqL.of e,e1,q v H2 (s1.trans s2) rv⟩
  ·unfold Rep at dm;obtain⟨p,xs,ex,_,e,rl⟩:=dm;obtain⟨v,e1,rv⟩:=mZ rl hd;exact .inr (.inl ⟨p,xs,i,v,ex,r2,e,e1,q v H2 (s1.trans s2) rv⟩)
  ·unfold Rep at dm;obtain⟨p,xs,ex,_,e,rl⟩:=dm;obtain⟨v,e1,rv⟩:=mZ rl hd;exact .inl ⟨p,xs,i,v,ex,r2,e,e1,q v H2 (s1.trans s2) rv⟩⟩⟩
theorem ZJ{i:Int}{ds:List D}(ha:PE X ea (tD X.K T S ρ a))(hb:PE X eb (tD X.K T S ρ (.int i)))(hp:kX eb)(hc:a=.lst ds∨a=.tup ds∨a=.frz ds)(hd:atI ds i=some d):PE X (.Subscript ea eb pos) (tD X.K T S ρ d):=
 PE.mono (zR yG ha hb hp) (QU hc hd)
theorem kZ{i:Nat}{ds:List D}{σ:L2.St}{H:Hp}(re:RE X.K T H S ρ σ)(h:gM ρ i=some ds):∃p xs,σ[i]?=some (some (.ref p))∧H p=some (.lst xs)∧aD X.K T H S ds xs:=by
 unfold gM at h;split at h
 ·rename_i e;cases h;obtain⟨v,e1,r⟩:=re.at_ i _ e;unfold Rep at r;obtain⟨p,xs,rfl,_,e2,rl⟩:=r;exact⟨p,xs,e1,e2,rl⟩
 ·rename_i e;cases h;obtain⟨p,ob,e1,_,e2,rm⟩:=re.at_ i _ e;obtain⟨xs,rfl,rl⟩:=rm.lst;exact⟨p,xs,e1,e2,rl⟩
 ·cases h
theorem aEp(h:XC CX X c G T lv){x:Str}{p2:Pos}{j:Nat}{i:Int}{ds:List D}(e:bB c x=some j)(hb:PE X eb (tD X.K T S ρ (.int i)))(hp:kX eb)(hs:gM ρ j=some ds)(hd:atI ds i=some d):PE X (.Subscript (.Name x p2) eb pos) (tD X.K T S ρ d):=
 PE.mono (zR yG (dU h e) hb hp) fun σ H Q ⟨re,q⟩=>by
  obtain⟨p,xs,e1,e2,rl⟩:=kZ re hs;refine⟨.ref p,e1,re,fun y H2 s2 r2=>?_⟩
  unfold Rep at r2;obtain⟨v,e3,rv⟩:=mZ (rl.same s2) hd;exact .inl ⟨p,xs,i,v,rfl,r2,SqL.of (s2 _ _ e2),e3,q v H2 s2 rv⟩
theorem mX{K:uz}{H:Hp}{ds:List D}{xs:List V}{lo hi:Option Int}(r:aD K T H S ds xs):aD K T H S (cut ds lo hi) (wN xs lo hi):=by
 unfold cut wN;rw[r.len];exact(r.drop _).take _
noncomputable def iw(K:uz)(T:Tx)(S:Addr→Prop)(ρ:List Sl)(o:Option Int):TO:=fun σ H Q=>RE K T H S ρ σ∧∀H',aF H H'→Q o H'
theorem aEj:PO X none (iw X.K T S ρ none):=fun pins s σ H Q I ⟨re,q⟩=>OQ pins s σ H Q I (q H (aF.refl H))
theorem aEi{i:Int}(ha:PE X ea (tD X.K T S ρ (.int i))):PO X (some ea) (iw X.K T S ρ (some i)):=fun pins s σ H Q I ⟨re,q⟩=>OP ha pins s σ H Q I ⟨re,fun v H' sm r=>by
 unfold Rep at r;exact⟨i,r,q H' sm⟩⟩
theorem UD{lo hi:Option Expr}{l h:Option Int}{p2:Pos}{ds:List D}(ha:PE X ea (tD X.K T S ρ a))(hl:PO X lo (iw X.K T S ρ l))(hh:PO X hi (iw X.K T S ρ h))(hc:a=.lst ds∨a=.frz ds):PE X (.Subscript ea (.Slice lo hi none p2) pos) (c9 X.K T S ρ (cut ds l h)):=
 PE.mono (nO zJ ha hl hh) fun σ H Q ⟨re,q⟩=>⟨re,fun x H1 s1 r1=>⟨re.same s1,fun H2 s2=>⟨(re.same s1).same s2,fun H3 s3=>by
  have dm:=(r1.same s2).same s3
  have sm:=s1.trans (s2.trans s3)
  rcases hc with rfl|rfl
  ·unfold Rep at dm;obtain⟨p,xs,ex,_,e,rl⟩:=dm;exact⟨p,xs,ex,SqL.of e,fun p hp=>q _ _ _ (sm.trans (aF.upd hp)) (sm.free hp) aH (by rw[iB hp];exact mX rl)⟩
  ·unfold Rep at dm;obtain⟨p,xs,ex,_,e,rl⟩:=dm;exact⟨p,xs,ex,e,fun p hp=>q _ _ _ (sm.trans (aF.upd hp)) (sm.free hp) aH (by rw[iB hp];exact mX rl)⟩⟩⟩⟩
theorem aEh{lo hi:Option Expr}{l h:Option Int}{p2:Pos}{ds:List D}(ha:PE X ea (tD X.K T S ρ (.tup ds)))(hl:PO X lo (iw X.K T S ρ l))(hh:PO X hi (iw X.K T S ρ h))(hw:¬(sIx ds.length 0 l=0∧sIx ds.length ds.length h=ds.length)) :
  PE X (.Subscript ea (.Slice lo hi none p2) pos) (tD X.K T S ρ (.tup (cut ds l h))):=
 PE.mono (nO WR ha hl hh) fun σ H Q ⟨re,q⟩=>⟨re,fun x H1 s1 r1=>⟨re.same s1,fun H2 s2=>⟨(re.same s1).same s2,fun H3 s3=>by
  have dm:=(r1.same s2).same s3
  have sm:=s1.trans (s2.trans s3)
  have je:=((re.same s1).same s2).same s3
  unfold Rep at dm;obtain⟨p,xs,ex,_,e,rl⟩:=dm;exact⟨p,xs,ex,e,by rw[←rl.len];exact hw,fun p hp=>q _ _ (sm.trans (aF.upd hp)) (eO je.dom hp (mX rl))⟩⟩⟩⟩
theorem aEg(h:XC CX X c G T lv){x:Str}{p3:Pos}{j:Nat}{lo hi:Option Expr}{l u:Option Int}{p2:Pos}{ds:List D}(e:bB c x=some j)(hs:gM ρ j=some ds)(hl:PO X lo (iw X.K T S ρ l))(hh:PO X hi (iw X.K T S ρ u)) :
  PE X (.Subscript (.Name x p3) (.Slice lo hi none p2) pos) (c9 X.K T S ρ (cut ds l u)):=
 PE.mono (nO zJ (dU h e) hl hh) fun σ H Q ⟨re,q⟩=>by
  obtain⟨p,xs,e1,e2,rl⟩:=kZ re hs;refine⟨.ref p,e1,re,fun H2 s2=>⟨re.same s2,fun H3 s3=>?_⟩⟩
  have sm:=s2.trans s3
  exact⟨p,xs,rfl,SqL.of (s3 _ _ (s2 _ _ e2)),fun p hp=>q _ _ _ (sm.trans (aF.upd hp)) (sm.free hp) aH (by rw[iB hp];exact mX ((rl.same s2).same s3))⟩
theorem aEu(h:XC CX X c G T lv){cn f:Str}{fs:List (Str×D)}(ha:PE X ea (tD X.K T S ρ (.obj cn fs)))(hb:attributeBase ea f X.env (eval ea X.env)=eval ea X.env)(hf:(G.fl cn).contains f=true)(hd:fs.lookup f=some d):PE X (.Attribute ea f pos) (tD X.K T S ρ d):=
 PE.mono (YE ha hb) fun σ H Q ⟨re,q⟩=>⟨re,fun x H1 s1 r1=>by
  unfold Rep at r1;obtain⟨p,C,dx,gs,ex,_,ec,e,rf⟩:=r1;obtain⟨v,e1,rv⟩:=(bX.look rf).1 d hd;exact⟨p,C,dx,gs,v,ex,e,h.go.cls cn C ec,h.go.fld cn C f ec hf,e1,q v H1 s1 rv⟩⟩
theorem nQ(h:XC CX X c G T lv):fU CX X E0:=fun _ _ H s e s' _ z=>(h.go.cx0 _ H s e s' z).elim
theorem pX{e:Expr}{es:List Expr}(hs:starEach (e::es) X.env=(e::es).map fun e=>(false,eval e X.env)):starEach (e::es) X.env=(false,eval e X.env)::starEach es X.env∧(backTo pos (starEach es X.env)).any (·.1)=false:=by
 have h2:starEach (e::es) X.env=(false,eval e X.env)::starEach es X.env:=by
  cases e<;>first|rfl|(simp[starEach]at hs)
 have h3:starEach es X.env=es.map fun e=>(false,eval e X.env):=by
  have:=congrArg List.tail (h2.symm.trans hs)
  simpa using this
 refine⟨h2,?_⟩;rw[h3];clear h2 h3 hs
 induction es with
 |nil=>rfl
 |cons a r ih=>exact ih
theorem ZM(h:XC CX X c G T lv){x:Str}{es:List Expr}{ds:List D}{p:Pos}(hg:aP c x=true)(hf:c.fns.contains x=true)(ha:PA X es (b9 X.K T S ρ ds))(hs:starEach es X.env=es.map fun e=>(false,eval e X.env))(hlen:ds.length=es.length)(hd:G.fn x ds=some (.ok d)) :
  PE X (.Call (.Name x p) es [] pos) (fun σ H Q=>RE X.K T H S ρ σ∧∀v H1 H',aF H H1→aF H1 H'→Rep X.K T H' S d v→(G.ff x=true→rG X.K T S H1 H' d v)→Q v H'):=by
 obtain⟨f,fd,ps,hm,hk,hb,hl,F⟩:=h.go.fn x hf;have key:∀σ H Q,(RE X.K T H S ρ σ∧∀v H1 H',aF H H1→aF H1 H'→Rep X.K T H' S d v→(G.ff x=true→rG X.K T S H1 H' d v)→Q v H')→uZ (fc X.K T ps.length (G.fn x) (G.ff x)) [] E0 (b9 X.K T S ρ ds) σ H Q:=fun σ H Q ⟨re,q⟩ =>
  ⟨re,fun vs H1 s1 r1=>⟨by rw[sk,←r1.len];exact hl ds _ hd,S,ds,(re.same s1).dom,by rw[sk];exact r1,.inl ⟨d,hd,fun v H' s2 r2 fr=>q v H1 H' s1 s2 r2 fr⟩⟩⟩
 cases es with
 |nil =>
  refine PE.mono (vK F h.room (h.glob hg) hm hk hb .nil (nQ h) (h.gne hg)) fun σ H Q hq=>?_
  obtain⟨re,q⟩:=hq;have az:ds=[]:=so.mp hlen
  subst az;exact(key σ H Q ⟨re,q⟩).2 [] H (aF.refl H) aD.nil
 |cons e es =>
  obtain⟨h1,h2⟩:=pX (pos:=pos) hs;exact PE.mono (sC F h.room (h.glob hg) hm hk hb .nil (nQ h) ha (h.gne hg) h1 h2) key
end
section
variable {CX:aj}{X:Cx}{c:CC}{G:GS}{T:Tx}{lv:Nat}{ρ:List Sl}{S:Addr→Prop}{pos:Pos}{ea eb ec:Expr}{a b d:D}
def pE(X:Cx)(o:Expr)(m:Str)(args:List Expr)(apos pos:Pos):Prop:=∃pl:Sem Bool,eval (.Call (.Attribute o m apos) args [] pos) X.env=(do
   let ov ←eval o X.env
   standAt apos.atName
   let (f,first) ←holding [ov] (getMethod ov m pl)
   callWith pos f first (backTo pos (starEach args X.env)) (backToKw pos (keywordEach [] X.env)))
theorem ZH(h:XC CX X c G T lv){m cn:Str}{fs:List (Str×D)}{es:List Expr}{ds:List D}{apos:Pos}(ht:pE X ea m es apos pos)(ho:PE X ea (tD X.K T S ρ (.obj cn fs)))(hn:fs.lookup m=none)
  (ha:PA X es (b9 X.K T S ρ ds)) (hs:starEach es X.env=es.map fun e=>(false,eval e X.env)) (hlen:ds.length=es.length) (hd:G.me cn m (.obj cn fs::ds)=some (.ok d)) :
  PE X (.Call (.Attribute ea m apos) es [] pos) (fun σ H Q=>RE X.K T H S ρ σ∧∀v H1 H',aF H H1→aF H1 H'→Rep X.K T H' S d v→(G.mf cn m=true→rG X.K T S H1 H' d v)→Q v H'):=by
 obtain⟨pl,ht⟩:=ht;intro pins s σ H Q I ⟨re,q⟩;refine PySem.W.methodCall_KW (pl:=pl) (ae (ho pins s σ H (fun v H'=>aF H H'∧Rep X.K T H' S (.obj cn fs) v) I ⟨re,fun v H' a b=>⟨a,b⟩⟩) fun u s1 ⟨x,H1,I1,rx,sm,ro⟩=>?_) ht
 have ro':=ro
 unfold Rep at ro;obtain⟨p,C,dx,gs,ex,_,ec,e,rf⟩:=ro;subst ex;obtain rfl:u=Value.ref p:=rx;obtain⟨f,fd,ps,hm,hb,hl,F⟩:=h.go.me cn C m _ _ ec hd;refine oH I1 e (h.go.cls cn C ec) hm ((bX.look rf).2 hn) ?_;have fin:∀(us:List Value) (vs:List V) (s2:Shared) (H2:Hp),Inv X pins σ H2 s2→aQ vs us→aF H1 H2→aD X.K T H2 S ds vs→wpAny (model X.prog X.w) X.A (call (.ref f) (.ref p::us)) (EP X pins σ Q) X.xe s2:=fun us vs s2 H2 I2 r2 dj rl=>by
  refine rT (us:=.ref p::us) (vs:=.ref p::vs) (dvs:=[]) (ds:=[]) (E:=E0) F h.room hb .nil (nQ h) I2 (.cons rfl r2) ?_;refine⟨?_,S,.obj cn fs::ds,((re.same sm).same dj).dom,?_,.inl ⟨d,hd,fun v H' s3 r3 fr=>q v H2 H' (sm.trans dj) s3 r3 fr⟩⟩
  ·have:=hl _ _ hd
   simp only[sk,ui]at this ⊢;rw[←rl.len];exact this
  ·rw[sk];exact aD.cons (ro'.same dj) rl
 cases es with
 |nil =>
  have az:ds=[]:=so.mp hlen
  subst az;exact callWith_K0 (first:=[.ref p]) I1.kIn hm.kp (fin [] [] s1 H1 I1 .nil (aF.refl _) aD.nil)
 |cons e es =>
  obtain⟨h1,h2⟩:=pX (pos:=pos) hs;refine callWith_K (first:=[.ref p]) (h₀:=X.base) I.ok.mod.kin hm.kp (ae (ha pos pins s1 σ H1 (fun vs H'=>aF H1 H'∧aD X.K T H' S ds vs) I1 ⟨re.same sm,fun vs H' a b=>⟨a,b⟩⟩) fun us s2 ⟨vs,H2,I2,r,dj,rl⟩=>⟨I2.kIn,?_⟩) h1 h2
  exact fin us vs s2 H2 I2 r dj rl
theorem DO{CX:aj}{k:Nat}{f C:Addr}{fd:v3}{ps:List Str}{sp:Sp}{E:XK}{pins:v9}{σ:L2.St}{H:Hp}{s:Shared}{Q:VK}{us:List Value}{vs:List V}(M:Mk X.K C f)(F:FnOk X.prog X.w X.K X.mg X.base CX k f fd ps sp)(hr:Room (k+1) X.A)(hb:Binds X.K fd ps [])
  (hx:fU CX X E) (I:Inv X pins σ H s) (r:aQ vs us)
  (h:∀x dx,H x=none→H dx=none→dx≠x→X.K.lookup x=none→X.K.lookup dx=none→sp (.ref x::vs) (upd (upd H dx (.own x)) x (.ins C dx [])) (fun v H2=>v=.non∧Q (.ref x) H2) E) :
  wpAny (model X.prog X.w) X.A (call (.ref C) us) (EP X pins σ Q) X.xe s:=by
 have nk:∀a,s.heap.objs.size≤a→X.K.lookup a=none:=fun a ha=>by
  cases q:X.K.lookup a with
  |none=>rfl
  |some o=>exact absurd (rh (I.kIn a o q)) (not_lt.mpr ha)
 have hq:=h (s.heap.objs.size+1) s.heap.objs.size (I.hok.fresh (ue _)) (I.hok.fresh (qk _)) (tm (ug _)) (nk _ (ue _)) (nk _ (qk _))
 have I2:=Inv.made (C:=C) I
 have r2:aQ (V.ref (s.heap.objs.size+1)::vs) (Value.ref (s.heap.objs.size+1)::us):=.cons rfl r
 have hl:(Value.ref (s.heap.objs.size+1)::us++[]).length=ps.length:=by
  have e:=r2.length
  rw[F.len _ _ _ _ hq]at e;rw[sk];exact e.symm
 refine wpAny_call (IT (f:=f) I.kIn M.makes M.init (su.mp M.fn) (codeAny_mono (F.run _ X.stack _ _ ⟨Value.ref (s.heap.objs.size+1)::us,[]⟩ (Value.ref (s.heap.objs.size+1)::us) _ _ E (hr.make C us [])
  (I2.env0.make C us []) (by have:=hb _ (Value.ref (s.heap.objs.size+1)::us) I2.kIn hl;rw[sk]at this;exact this) r2 hq) fun r s' ba=>?_))
 cases r with
 |error e=>exact hx pins σ _ _ e s' I2 ba
 |ok fl =>
  cases fl with
  |ret u =>
   obtain⟨v,H',I3,rv,ev,q3⟩:=I2.after ba;subst ev;exact⟨rv,⟨V.ref (s.heap.objs.size+1),H',I3,rfl,q3⟩⟩
  |next=>exact False.elim ba
  |brk=>exact False.elim ba
  |cont=>exact False.elim ba
theorem aHH(h:XC CX X c G T lv){x:Str}{es:List Expr}{ds:List D}{p:Pos}(hg:aP c x=true)(hf:c.cls.contains x=true)(ha:PA X es (b9 X.K T S ρ ds))(hs:starEach es X.env=es.map fun e=>(false,eval e X.env))(hlen:ds.length=es.length)(hd:G.mo x ds=some (.ok d)) :
  PE X (.Call (.Name x p) es [] pos) (tD X.K T S ρ d):=by
 obtain⟨C,f,fd,ps,j,hj,hm,M,hb,hl,F⟩:=h.go.mo x hf ds d hd;have fin:∀(pins:v9) (σ:L2.St) (H:Hp) (Q:VK) (us:List Value) (vs:List V) (s2:Shared) (H2:Hp),RE X.K T H S ρ σ→(∀v H',aF H H'→Rep X.K T H' S d v→Q v H')→Inv X pins σ H2 s2→aQ vs us→aF H H2→aD X.K T H2 S ds vs→wpAny (model X.prog X.w) X.A (call (.ref C) us) (EP X pins σ Q) X.xe s2:=fun pins σ H Q us vs s2 H2 re q I2 r2 dj rl=>by
  refine DO (E:=E0) M F (h.room.mono hj) hb (nQ h) I2 r2 fun y dx hy hdx ne ky kdx=>?_
  have dom2:=(re.same dj).dom
  have m1:aK X.K H2 (upd H2 dx (.own y)) S S:=fun a n _=>⟨n,fun o e=>by rw[aG (aJ e hdx)];exact e⟩
  have hy1:(upd H2 dx (.own y)) y=none:=by rw[aG (Ne.symm ne)];exact hy
  have m2:=aK.add (S:=S) (o:=.ins C dx []) hy1 ky
  refine⟨by simp only[ui];rw[←rl.len];exact hl,y,dx,vs,(fun a=>S a∨a=y),ds,d,rfl,aH,.inr rfl,fun a hs=>?_,aD.gen m2 _ _ (aD.gen m1 _ _ rl),hd,fun H' kp rp=>⟨rfl,q _ H' ?_ (rp S fun a ha=>⟨.inl ha,?_⟩)⟩⟩
  ·rcases hs with z|z
   ·obtain⟨o,e⟩:=dom2 a z;exact⟨o,by rw[aG (aJ e hy),aG (aJ e hdx)];exact e⟩
   ·subst z;exact⟨_,aH⟩
  ·intro b o e;have e2:=dj b o e
   refine kp b o (aJ e2 hy) ?_;rw[aG (aJ e2 hy),aG (aJ e2 hdx)];exact e2
  ·intro z;subst z;obtain⟨o,e⟩:=dom2 a ha;rw[hy]at e;cases e
 cases es with
 |nil =>
  have az:ds=[]:=so.mp hlen
  subst az;intro pins s σ H Q I ⟨re,q⟩;refine wpAny_Call_Name_kw (dW I (h.glob hg) hm ?_ (h.gne hg));exact callWith_K0 I.kIn M.kp (fin pins σ H Q [] [] s H re q I .nil (aF.refl _) aD.nil)
 |cons e es =>
  obtain⟨h1,h2⟩:=pX (pos:=pos) hs;intro pins s σ H Q I ⟨re,q⟩;refine wpAny_Call_Name_kw (dW I (h.glob hg) hm ?_ (h.gne hg));refine callWith_K (h₀:=X.base) I.ok.mod.kin M.kp (ae (ha pos pins s σ H (fun vs H'=>aF H H'∧aD X.K T H' S ds vs) I ⟨re,fun vs H' a b=>⟨a,b⟩⟩) fun us s1 ⟨vs,H1,I1,r,sm,rl⟩=>⟨I1.kIn,?_⟩) h1 h2
  exact fin pins σ H Q us vs s1 H1 re q I1 r sm rl
noncomputable def kx(K:uz)(T:Tx)(S:Addr→Prop)(g:List D→Option D):List V→Hp→VK→Prop:=fun xs H Q =>
 ∃ds d,(∀a,S a→∃o,H a=some o)∧aD K T H S ds xs∧g ds=some d∧∀v H',aF H H'→Rep K T H' S d v→Q v H'
theorem rep1{K:uz}{H:Hp}{xs:List V}(r:aD K T H S [a] xs):∃x,xs=[x]∧Rep K T H S a x:=by
 unfold aD at r;obtain⟨x,r',rfl,rx,rr⟩:=r;unfold aD at rr;subst rr;exact⟨x,rfl,rx⟩
theorem rep2{K:uz}{H:Hp}{xs:List V}(r:aD K T H S [a,b] xs):∃x y,xs=[x,y]∧Rep K T H S a x∧Rep K T H S b y:=by
 unfold aD at r;obtain⟨x,r',rfl,rx,rr⟩:=r;obtain⟨y,rfl,ry⟩:=rep1 rr;exact⟨x,y,rfl,rx,ry⟩
theorem dM{K:uz}{H:Hp}{i:Int}:Rep K T H S (.int i) (.int i):=by unfold Rep;rfl
theorem aFk:cX X (.builtin "len") (kx X.K T S RS):=by
 rintro pins s σ H xs us Q I r ⟨ds,d,dom,rl,e,q⟩;unfold RS at e;split at e
 ·obtain⟨x,rfl,rx⟩:=rep1 rl;cases e;unfold Rep at rx;obtain⟨p,ys,rfl,_,hq,ry⟩:=rx;exact fG pins s σ H _ us Q I r ⟨p,ys,rfl,.inl (SqL.of hq),by rw[←ry.len];exact q _ H (aF.refl H) dM⟩
 ·obtain⟨x,rfl,rx⟩:=rep1 rl;cases e;unfold Rep at rx;obtain⟨p,ys,rfl,_,hq,ry⟩:=rx;exact fG pins s σ H _ us Q I r ⟨p,ys,rfl,.inr hq,by rw[←ry.len];exact q _ H (aF.refl H) dM⟩
 ·obtain⟨x,rfl,rx⟩:=rep1 rl;cases e;unfold Rep at rx;obtain⟨p,ys,rfl,_,hq,ry⟩:=rx;exact fG pins s σ H _ us Q I r ⟨p,ys,rfl,.inl hq,by rw[←ry.len];exact q _ H (aF.refl H) dM⟩
 ·obtain⟨x,rfl,rx⟩:=rep1 rl;unfold Rep at rx;subst rx;split at e
  ·rename_i hz;cases e;exact uO pins s σ H _ us Q I r ⟨_,rfl,rj hz iD,q _ H (aF.refl H) dM⟩
  ·cases e
 ·cases e
theorem aFl:cX X (.type "int") (kx X.K T S RT):=by
 rintro pins s σ H xs us Q I r ⟨ds,d,dom,rl,e,q⟩;unfold RT at e;split at e
 ·obtain⟨x,rfl,rx⟩:=rep1 rl;cases e;unfold Rep at rx;subst rx;exact qV pins s σ H _ us Q I r (.inl ⟨_,rfl,q _ H (aF.refl H) dM⟩)
 ·obtain⟨x,rfl,rx⟩:=rep1 rl;cases e;unfold Rep at rx;subst rx;exact qV pins s σ H _ us Q I r (.inr ⟨_,rfl,q _ H (aF.refl H) dM⟩)
 ·cases e
noncomputable def rBl(K:uz)(T:Tx)(S:Addr→Prop):List V→Hp→VK→Prop:=fun xs H Q =>
 ∃ds es,aD K T H S ds xs∧wG ds=some (.lst es)∧∀p ys H',aF H H'→H p=none→H' p=some (.lst ys)→aD K T (er H' p) S es ys→Q (.ref p) H'
theorem aAE:cX X (.type "list") (rBl X.K T S):=by
 rintro pins s σ H xs us Q I r ⟨ds,es,rl,e,q⟩;unfold wG at e;split at e
 ·obtain⟨x,rfl,rx⟩:=rep1 rl;cases e;unfold Rep at rx;obtain⟨p,ys,rfl,_,hq,ry⟩:=rx;exact iC pins s σ H _ us Q I r ⟨p,ys,rfl,.inl (SqL.of hq),fun l hl=>q l ys _ (aF.upd hl) hl aH (by rw[iB hl];exact ry)⟩
 ·obtain⟨x,rfl,rx⟩:=rep1 rl;cases e;unfold Rep at rx;obtain⟨p,ys,rfl,_,hq,ry⟩:=rx;exact iC pins s σ H _ us Q I r ⟨p,ys,rfl,.inr hq,fun l hl=>q l ys _ (aF.upd hl) hl aH (by rw[iB hl];exact ry)⟩
 ·obtain⟨x,rfl,rx⟩:=rep1 rl;cases e;unfold Rep at rx;obtain⟨p,ys,rfl,_,hq,ry⟩:=rx;exact iC pins s σ H _ us Q I r ⟨p,ys,rfl,.inl hq,fun l hl=>q l ys _ (aF.upd hl) hl aH (by rw[iB hl];exact ry)⟩
 ·cases e
theorem SN:cX X (.type "tuple") (kx X.K T S uB):=by
 rintro pins s σ H xs us Q I r ⟨ds,d,dom,rl,e,q⟩;unfold uB at e;split at e
 ·obtain⟨x,rfl,rx⟩:=rep1 rl;cases e;unfold Rep at rx;obtain⟨p,ys,rfl,_,hq,ry⟩:=rx;exact jU pins s σ H _ us Q I r ⟨p,ys,rfl,.inl ⟨SqL.of hq,fun l hl=>q _ _ (aF.upd hl) (eO dom hl ry)⟩⟩
 ·obtain⟨x,rfl,rx⟩:=rep1 rl;cases e;have rx':=rx
  unfold Rep at rx;obtain⟨p,ys,rfl,_,hq,ry⟩:=rx;exact jU pins s σ H _ us Q I r ⟨p,ys,rfl,.inr ⟨hq,q _ H (aF.refl H) rx'⟩⟩
 ·cases e
theorem lN{K:uz}{H:Hp}:∀{ds:List D} {ns:List Int} {ys:List V} {us:List Value},fY ds=some ns→aD K T H S ds ys→aQ ys us→IntsAre us ns
 |[],ns,ys,us,h,r,v=>by
  simp only[fY]at h;cases h;unfold aD at r;subst r;cases v;exact .nil
 |d::ds,ns,ys,us,h,r,v=>by
  cases d<;>simp only[fY,reduceCtorEq]at h
  rename_i i;rw[qv]at h;obtain⟨r',h1,rfl⟩:=h;unfold aD at r;obtain⟨x,w,rfl,rx,rr⟩:=r;unfold Rep at rx;subst rx;cases v with
  |cons v1 v2 =>
   obtain⟨t,rfl⟩:=v1;exact .cons i t (lN h1 rr v2)
section
variable {prog:v7}{w:World}{A:Around}{E:v8}{s:Shared}
theorem xZ{l:Addr}{vs:List Value}{ns:List Int}{Q:v8}(hh:A.handled=none)(hl:s.heap.IsList l vs.toArray)(hi:IntsAre vs ns)(dw:0<ns.length)
  (h:∀h' M (t:Tok) tk,(∀b o,s.heap.get? b=some o→h'.get? b=some o)→M∈ns→(∀a,a∈ns→a≤M)→Q (.int M t) { s with heap:=h',toks:=tk }) :
  wpAny (model prog w) A (call (.builtin "max") [.ref l]) Q E s:=by
 obtain⟨xs,e⟩:=hi.allInts.items;have fh:ns=xs.toList.map (·.1):=by
  rw[←hi.numsOf,←nums_intItems,←e]
 have hsz:0<xs.size:=by
  have h3:=dw;rw[fh,qj,length_toList]at h3;exact h3
 rw[e]at hl;refine max_intList hh hl hsz fun v h' tk hv hk=>?_
 obtain⟨t,rfl⟩:=intItems_at hv;obtain⟨h1,h2⟩:=argBest_gt (numAt xs) (xs.size-1);refine h _ _ t tk hk ?_ fun a ha=>?_
 ·rw[fh,numAt_eq];exact getD_mem (by rw[qj,length_toList];omega)
 ·rw[fh]at ha;obtain⟨j,hj,rfl⟩:=mem_getD ha;rw[qj,length_toList]at hj;rw[←numAt_eq];exact h2 j (by omega)
theorem xW{l:Addr}{vs:List Value}{ns:List Int}{Q:v8}(hh:A.handled=none)(hl:s.heap.IsList l vs.toArray)(hi:IntsAre vs ns)(dw:0<ns.length)
  (h:∀h' M (t:Tok) tk,(∀b o,s.heap.get? b=some o→h'.get? b=some o)→M∈ns→(∀a,a∈ns→M≤a)→Q (.int M t) { s with heap:=h',toks:=tk }) :
  wpAny (model prog w) A (call (.builtin "min") [.ref l]) Q E s:=by
 obtain⟨xs,e⟩:=hi.allInts.items;have fh:ns=xs.toList.map (·.1):=by
  rw[←hi.numsOf,←nums_intItems,←e]
 have hsz:0<xs.size:=by
  have h3:=dw;rw[fh,qj,length_toList]at h3;exact h3
 rw[e]at hl;refine min_intList hh hl hsz fun v h' tk hv hk=>?_
 obtain⟨t,rfl⟩:=intItems_at hv;obtain⟨h1,h2⟩:=argBest_lt (numAt xs) (xs.size-1);refine h _ _ t tk hk ?_ fun a ha=>?_
 ·rw[fh,numAt_eq];exact getD_mem (by rw[qj,length_toList];omega)
 ·rw[fh]at ha;obtain⟨j,hj,rfl⟩:=mem_getD ha;rw[qj,length_toList]at hj;rw[←numAt_eq];exact h2 j (by omega)
end
theorem aFj(hc:X.calm=true):cX X (.builtin "max") (kx X.K T S JY):=by
 rintro pins s σ H xs us Q I r ⟨ds,d,dom,rl,e,q⟩;unfold JY at e;split at e
 ·obtain⟨x,y,rfl,rx,ry⟩:=rep2 rl;cases e;unfold Rep at rx ry;subst rx ry;exact FQ hc pins s σ H _ us Q I r ⟨_,_,rfl,q _ H (aF.refl H) dM⟩
 ·obtain⟨x,rfl,rx⟩:=rep1 rl;split at e
  ·rename_i i t he;cases e;unfold Rep at rx;obtain⟨p,ys,rfl,_,hq,ry⟩:=rx;obtain⟨u,rfl,ru⟩:=vals1 r;cases ru;obtain⟨its,rv,pl,hz⟩:=I.list (SqL.of hq);have hi:=lN he ry rv
   refine xZ (I.ok.hd hc) pl.isList hi (by simp) fun h' M tt tk hk hM hle=>⟨.int M,H,I.kept (t':=tk) hk,⟨_,rfl⟩,?_⟩
   obtain⟨m1,m2,m3⟩:=qE t i;have e1:lJ i t∈i::t:=by
    rcases m1 with z|z
    ·rw[z];simp
    ·exact qq _ z
   have e2:M≤lJ i t:=by
    rcases rz.mp hM with z|z
    ·rw[z];exact m2
    ·exact m3 M z
   have e3:M=lJ i t:=Int.le_antisymm e2 (hle _ e1)
   rw[e3];exact q _ H (aF.refl H) dM
  ·cases e
 ·cases e
theorem aFi(hc:X.calm=true):cX X (.builtin "min") (kx X.K T S RQ):=by
 rintro pins s σ H xs us Q I r ⟨ds,d,dom,rl,e,q⟩;unfold RQ at e;split at e
 ·obtain⟨x,y,rfl,rx,ry⟩:=rep2 rl;cases e;unfold Rep at rx ry;subst rx ry;exact FP hc pins s σ H _ us Q I r ⟨_,_,rfl,q _ H (aF.refl H) dM⟩
 ·obtain⟨x,rfl,rx⟩:=rep1 rl;split at e
  ·rename_i i t he;cases e;unfold Rep at rx;obtain⟨p,ys,rfl,_,hq,ry⟩:=rx;obtain⟨u,rfl,ru⟩:=vals1 r;cases ru;obtain⟨its,rv,pl,hz⟩:=I.list (SqL.of hq);have hi:=lN he ry rv
   refine xW (I.ok.hd hc) pl.isList hi (by simp) fun h' M tt tk hk hM hle=>⟨.int M,H,I.kept (t':=tk) hk,⟨_,rfl⟩,?_⟩
   obtain⟨m1,m2,m3⟩:=qD t i;have e1:nV i t∈i::t:=by
    rcases m1 with z|z
    ·rw[z];simp
    ·exact qq _ z
   have e2:nV i t≤M:=by
    rcases rz.mp hM with z|z
    ·rw[z];exact m2
    ·exact m3 M z
   have e3:M=nV i t:=Int.le_antisymm (hle _ e1) e2
   rw[e3];exact q _ H (aF.refl H) dM
  ·cases e
 ·cases e
end
section
variable {CX:aj}{X:Cx}{c:CC}{G:GS}{T:Tx}{lv:Nat}{ρ:List Sl}{S:Addr→Prop}{pos:Pos}{ea eb ec:Expr}{a b d:D}
noncomputable def kn:D→Option String
 |.non=>some "NoneType"
 |.bl _=>some "bool"
 |.int _=>some "int"
 |.str _=>some "str"
 |.lst _=>some "list"
 |.tup _=>some "tuple"
 |_=>none
theorem JE{pins:v9}{σ:L2.St}{H:Hp}{s:Shared}{A:Around}{E:v8}{Q:v8}{x:V}{u c:Value}{tn:String}{k:Bool}(I:Inv X pins σ H s)(rx:RelV x u)(rep:Rep X.K T H S d x)(ht:kn d=some tn)
  (e:kitOne X.K (.type tn) c=some k) (h:∀tk,Q (.bool k) { s with toks:=tk }):wpAny (model X.prog X.w) A (call (.builtin "isinstance") [u,c]) Q E s:=by
 cases d<;>simp only[kn,reduceCtorEq,qe]at ht
 all_goals subst ht
 ·unfold Rep at rep;subst rep;exact gP I rx (.non) e h
 ·unfold Rep at rep;subst rep;exact gP I rx (.bl _) e h
 ·unfold Rep at rep;subst rep;exact gP I rx (.int _) e h
 ·unfold Rep at rep;subst rep;exact gP I rx (.str _) e h
 ·unfold Rep at rep;obtain⟨p,xs,rfl,_,hq,_⟩:=rep;exact gP I rx (.lst hq) e h
 ·unfold Rep at rep;obtain⟨p,xs,rfl,_,hq,_⟩:=rep;obtain rfl:u=Value.ref p:=rx;obtain⟨its,rv,⟨o,h1,h2,_⟩,_⟩:=I.tuple hq;exact kia_one PySem.W.kitx_tuple I.kIn ⟨o,h1,h2⟩ e (fun z=>nomatch z) h
theorem gQ(K:uz):∀(t n:String),(t,n)∈([("NoneType","int"),("NoneType","bool"),("NoneType","str"),("NoneType","list"),("NoneType","tuple"),("bool","str"),("bool","list"),("bool","tuple"),("int","bool"),("int","str"),("int","list"),("int","tuple"),
  ("str","int"),("str","bool"),("str","list"),("str","tuple"),("list","int"),("list","bool"),("list","str"),("list","tuple"),("tuple","int"),("tuple","bool"),("tuple","str"),("tuple","list")]:List (String×String))→kitOne K (.type t) (.type n)=some false:=by
 intro t n h;simp only[rz,Prod.mk.injEq,uk,or_false]at h
 rcases h with ⟨rfl,rfl⟩|⟨rfl,rfl⟩|⟨rfl,rfl⟩|⟨rfl,rfl⟩|⟨rfl,rfl⟩|⟨rfl,rfl⟩|⟨rfl,rfl⟩|⟨rfl,rfl⟩|⟨rfl,rfl⟩|⟨rfl,rfl⟩|⟨rfl,rfl⟩|⟨rfl,rfl⟩|⟨rfl,rfl⟩|⟨rfl,rfl⟩|⟨rfl,rfl⟩|⟨rfl,rfl⟩|⟨rfl,rfl⟩|⟨rfl,rfl⟩|⟨rfl,rfl⟩|⟨rfl,rfl⟩|⟨rfl,rfl⟩|⟨rfl,rfl⟩|⟨rfl,rfl⟩|⟨rfl,rfl⟩<;>kernel_rfl
theorem JF(K:uz):kitOne K (.type "bool") (.type "int")=some true:=by kernel_rfl
theorem iS(K:uz)(t:String):kitOne K (.type t) (.type t)=some true:=by
 unfold kitOne;rw[if_pos (by simp)]
theorem VW:¬(("bool":Str) = "int")∧¬(("str":Str) = "int")∧¬(("list":Str) = "int")∧¬(("tuple":Str) = "int")∧¬(("int":Str) = "bool")∧¬(("str":Str) = "bool")∧¬(("list":Str) = "bool")∧¬(("tuple":Str) = "bool") ∧
  ¬(("int":Str) = "str")∧¬(("bool":Str) = "str")∧¬(("list":Str) = "str")∧¬(("tuple":Str) = "str")∧¬(("int":Str) = "list")∧¬(("bool":Str) = "list")∧¬(("str":Str) = "list")∧¬(("tuple":Str) = "list") ∧
  ¬(("int":Str) = "tuple")∧¬(("bool":Str) = "tuple")∧¬(("str":Str) = "tuple")∧¬(("list":Str) = "tuple"):=by decide +kernel
theorem aAb{t:Str}{k:Bool}{tn:String}(K:uz)(ht:jE.contains t=true)(hd:kn d=some tn)(h:nX G t d=some k):∃n:String,bootBuiltins t=some (.type n)∧kitOne K (.type tn) (.type n)=some k:=by
 obtain⟨n1,n2,n3,n4,n5,n6,n7,n8,n9,n10,n11,n12,n13,n14,n15,n16,n17,n18,n19,n20⟩:=VW;have ht':t = "int"∨t = "bool"∨t = "str"∨t = "list"∨t = "tuple":=by
  simpa [jE] using ht
 have b1:bootBuiltins "int" = some (.type "int"):=by decide +kernel
 have b2:bootBuiltins "bool" = some (.type "bool"):=by decide +kernel
 have b3:bootBuiltins "str" = some (.type "str"):=by decide +kernel
 have b4:bootBuiltins "list" = some (.type "list"):=by decide +kernel
 have b5:bootBuiltins "tuple" = some (.type "tuple"):=by decide +kernel
 rcases ht' with rfl|rfl|rfl|rfl|rfl<;>cases d<;>simp only[kn,reduceCtorEq,qe]at hd
 all_goals subst hd
 all_goals simp only[nX,n1,n2,n3,n4,n5,n6,n7,n8,n9,n10,n11,n12,n13,n14,n15,n16,n17,n18,n19,n20,if_true,if_false,true_or,or_true,or_false,or_self,qe]at h
 all_goals subst h
 all_goals first
  |exact⟨_,b1,by first|exact iS K _|exact JF K|exact gQ K _ _ (by decide)⟩
  |exact⟨_,b2,by first|exact iS K _|exact gQ K _ _ (by decide)⟩
  |exact⟨_,b3,by first|exact iS K _|exact gQ K _ _ (by decide)⟩
  |exact⟨_,b4,by first|exact iS K _|exact gQ K _ _ (by decide)⟩
  |exact⟨_,b5,by first|exact iS K _|exact gQ K _ _ (by decide)⟩
theorem pO:bootBuiltins "isinstance" = some (.builtin "isinstance"):=by decide +kernel
theorem aEq(h:XC CX X c G T lv){t:Str}{p p2:Pos}{k:Bool}{tn:String}(hg:aP c "isinstance" = true)(hm:X.mg "isinstance" = none)(hgt:aP c t=true)(hmt:X.mg t=none)(ht:jE.contains t=true)(ha:PE X ea (tD X.K T S ρ a))(hs:starEach [ea,.Name t p2] X.env=[(false,eval ea X.env),(false,eval (.Name t p2) X.env)])
  (hd:kn a=some tn) (hi:nX G t a=some k):PE X (.Call (.Name "isinstance" p) [ea,.Name t p2] [] pos) (tD X.K T S ρ (.bl k)):=by
 obtain⟨n,hb,hk⟩:=aAb X.K ht hd hi;have hnn:t≠"__name__":=by
  intro z;subst z
  revert ht
  decide +kernel
 have hp:PE X (.Name t p2) (tC (.ty n)):=zU (h.glob hgt) hmt hb rfl hnn (h.gne hgt)
 have hc:cX X (.builtin "isinstance") (fun xs H Q=>∃x,xs=[x,.ty n]∧Rep X.K T H S a x∧Q (.bl k) H):=by
  rintro pins s σ H xs us Q I r ⟨x,rfl,rep,q⟩;obtain⟨u,w',rfl,r1,r2⟩:=vals2 r;obtain rfl:w'=Value.type n:=r2;exact JE I r1 rep hd hk fun tk=>⟨.bl k,H,I.tok tk,rfl,q⟩
 have hs1:starEach [ea,.Name t p2] X.env=(false,eval ea X.env)::starEach [.Name t p2] X.env:=hs
 refine PE.mono (fN hc (h.glob hg) hm pO (aR ha (aR hp bU) hs1) (by decide +kernel) ?_ ?_ ?_) fun σ H Q ⟨re,q⟩=>⟨re,fun x H1 s1 r1=>⟨x,rfl,r1,q _ H1 s1 bN⟩⟩
 all_goals first|exact h.gne hg|exact hs1|rfl|decide +kernel
end
theorem kW{o:Expr}{m:Str}{env:Env}(ho:jJ o=true):attributeBase o m env (eval o env)=eval o env:=by
 cases o<;>first|rfl|(simp[jJ]at ho)
theorem wY{env:Env}{pos:Pos}:∀(l:List Expr),(backTo pos (l.map fun e=>(false,eval e env))).all (!·.1)=true
 |[]=>rfl
 |_::r=>wY r
theorem vP{X:Cx}{o:Expr}{m:Str}{args:List Expr}{apos pos:Pos}(ho:jJ o=true)(hs:starEach args X.env=args.map fun e=>(false,eval e X.env))(hl:args.length<30)(hp:(apos.endLine == pos.line)=true):pE X o m args apos pos:=by
 refine⟨do return (←importBound o X.env).getD true,?_⟩
 show (do
  let ov ←attributeBase o m X.env (eval o X.env)
  standAt apos.atName
  methodCall o m apos pos X.env ov (args.length+0) (backTo pos (starEach args X.env)) (backToKw pos (keywordEach [] X.env)))=_
 rw[kW ho];have hf:methodCallForm (args.length+0) (backTo pos (starEach args X.env)) (backToKw pos (keywordEach [] X.env))=true:=by
  unfold methodCallForm;rw[hs,wY];simp[backToKw,keywordEach]
  first|omega|(refine⟨?_,?_⟩<;>first|rfl|omega)
 have hpp:methodCallPos true o X.env apos pos=pure pos:=by
  unfold methodCallPos;rw[hp];rfl
 unfold methodCall;rw[hf,hpp];unfold calleeOf;rfl
section
variable {K:uz}{T:Tx}{H:Hp}{S:Addr→Prop}
theorem aY.len:∀{kvs:List (Int×D)} {gs:List (Key×V)},aY K T H S kvs gs→kvs.length=gs.length
 |[],gs,h=>by unfold aY at h;subst h;rfl
 | (i,d)::kvs,gs,h=>by
  unfold aY at h;obtain⟨x,r,rfl,_,q⟩:=h;exact congrArg (· + 1) (aY.len q)
theorem aY.nil:aY K T H S [] []:=by unfold aY;rfl
theorem aY.cons{i:Int}{d:D}{x:V}{kvs:List (Int×D)}{gs:List (Key×V)}(h:Rep K T H S d x)(g:aY K T H S kvs gs):aY K T H S ((i,d)::kvs) ((Sum.inl i,x)::gs):=by unfold aY;exact⟨x,gs,rfl,h,g⟩
theorem JK{i j:Int}(h:¬i=j):¬(Sum.inl i:Key)=Sum.inl j:=fun z=>h (Sum.inl.inj z)
theorem aY.val{k:Int}:∀{kvs:List (Int×D)} {gs:List (Key×V)},aY K T H S kvs gs→(∀d,dE kvs k=some d→∃x,fJ gs (Sum.inl k)=some x∧Rep K T H S d x)∧(dE kvs k=none→fJ gs (Sum.inl k)=none)
 |[],gs,h=>by unfold aY at h;subst h;exact⟨fun d e=>(nomatch (show none=some d from e)),fun _=>rfl⟩
 | (i,d)::kvs,gs,h=>by
  unfold aY at h;obtain⟨x,r,rfl,p,q⟩:=h;obtain⟨i1,i2⟩:=aY.val (k:=k) q
  by_cases e:i=k
  ·have e1:dE ((i,d)::kvs) k=some d:=by unfold dE;rw[List.find?_cons_of_pos (by simpa using e)];rfl
   rw[e1,gJ (congrArg Sum.inl e)];exact⟨fun d' z=>⟨x,rfl,by cases z;exact p⟩,fun z=>by cases z⟩
  ·have e1:dE ((i,d)::kvs) k=dE kvs k:=by unfold dE;rw[List.find?_cons_of_neg (by simpa using e)]
   rw[e1,gK (JK e)];exact⟨i1,i2⟩
theorem aY.any{k:Int}:∀{kvs:List (Int×D)} {gs:List (Key×V)},aY K T H S kvs gs→(kvs.any fun kv=>decide (kv.1=k))=gs.any fun kv=>decide (kv.1=(Sum.inl k:Key))
 |[],gs,h=>by unfold aY at h;subst h;rfl
 | (i,d)::kvs,gs,h=>by
  unfold aY at h;obtain⟨x,r,rfl,p,q⟩:=h;rw[any_cons,any_cons,aY.any q]
  congr 1
  exact decide_eq_decide.mpr ⟨fun z=>congrArg Sum.inl z,fun z=>Sum.inl.inj z⟩
theorem aY.repl{k:Int}{d:D}{v:V}(hv:Rep K T H S d v):∀{kvs:List (Int×D)} {gs:List (Key×V)},aY K T H S kvs gs→aY K T H S (kvs.map fun kv=>if kv.1=k then(kv.1,d) else kv) (gs.map fun kv=>if kv.1=(Sum.inl k:Key) then(kv.1,v) else kv)
 |[],gs,h=>by unfold aY at h;subst h;exact aY.nil
 | (i,d')::kvs,gs,h=>by
  unfold aY at h;obtain⟨x,r,rfl,p,q⟩:=h;rw[sq,sq]
  by_cases e:i=k
  ·rw[if_pos e,if_pos (congrArg Sum.inl e)];exact aY.cons hv (aY.repl hv q)
  ·rw[if_neg e,if_neg (JK e)];exact aY.cons p (aY.repl hv q)
theorem aY.snoc{k:Int}{d:D}{v:V}(hv:Rep K T H S d v):∀{kvs:List (Int×D)} {gs:List (Key×V)},aY K T H S kvs gs→aY K T H S (kvs++[(k,d)]) (gs++[(Sum.inl k,v)])
 |[],gs,h=>by unfold aY at h;subst h;exact aY.cons hv aY.nil
 | (i,d')::kvs,gs,h=>by
  unfold aY at h;obtain⟨x,r,rfl,p,q⟩:=h;exact aY.cons p (aY.snoc hv q)
theorem aY.put{k:Int}{d:D}{v:V}(hv:Rep K T H S d v){kvs:List (Int×D)}{gs:List (Key×V)}(h:aY K T H S kvs gs):aY K T H S (lD kvs k d) (putK gs (Sum.inl k) v):=by
 unfold lD putK;rw[aY.any h];split
 ·exact aY.repl hv h
 ·exact aY.snoc hv h
end
section
variable {CX:aj}{X:Cx}{c:CC}{G:GS}{T:Tx}{lv:Nat}{ρ:List Sl}{S:Addr→Prop}{pos:Pos}{ea eb ec:Expr}{a b d:D}
theorem aEv(hu:X.A.units+1<cLine){i:Int}{kvs:List (Int×D)}(ha:PE X ea (tD X.K T S ρ (.dct kvs)))(hb:PE X eb (tD X.K T S ρ (.int i)))(hp:kX eb)(hd:dE kvs i=some d):PE X (.Subscript ea eb pos) (tD X.K T S ρ d):=
 PE.mono (OY hu ha hb hp) fun σ H Q ⟨re,q⟩=>⟨re,fun x H1 s1 r1=>⟨re.same s1,fun y H2 s2 r2=>by
  have r1:=r1.same s2
  unfold Rep at r1 r2;subst r2;obtain⟨p,gs,rfl,_,e,rk⟩:=r1;obtain⟨v,e1,rv⟩:=(aY.val (k:=i) rk).1 d hd;refine⟨p,v,rfl,?_,q v H2 (s1.trans s2) rv⟩;rw[←e1];exact FV.k (k:=Sum.inl i) e⟩⟩
end
structure Plain (e:Expr):Prop where
 star:∀(env:Env) (es:List Expr),starEach (e::es) env=(false,eval e env)::starEach es env
 marks:∀op,behindInMarks op e=false
 set_:∀env x,foldedSetIterable e env x=pure x
 ix:kX e
theorem cZ{n:Nat}{c:CC}{e:Expr}{ir:IE}(h:cE n c e=some ir):Plain e:=by
 cases e<;>first|exact⟨fun _ _=>rfl,fun _=>rfl,fun _ _=>rfl,fun _ _=>rfl⟩|(cases n<;>exact nomatch (show none=some ir from h))
section
variable {CX:aj}{G:GS}{T:Tx}{lv:Nat}
def d7(CX:aj)(G:GS)(T:Tx)(lv n:Nat):Prop:=∀(X:Cx) (c:CC) (S:Addr→Prop) (ρ:List Sl) (e:Expr) (ir:IE),XC CX X c G T lv→cE n c e=some ir→∀d,ev G ir ρ=some d →
 PE X e (tD X.K T S ρ d)∧(gG c e=true→∀ds,d=.lst ds→PE X e (c9 X.K T S ρ ds))
def l8(CX:aj)(G:GS)(T:Tx)(lv n:Nat):Prop:=∀(X:Cx) (c:CC) (S:Addr→Prop) (ρ:List Sl) (e:Expr) (ir:IE),XC CX X c G T lv→cT n c e=some ir→∀k,ev G ir ρ=some (.bl k)→PT X e (dh X.K T S ρ k)
def p9(CX:aj)(G:GS)(T:Tx)(lv n:Nat):Prop:=∀(X:Cx) (c:CC) (S:Addr→Prop) (ρ:List Sl) (k:Bool) (vs:List Expr) (ir:IE) (pos:Pos),XC CX X c G T lv →
 (cB n c false k vs=some ir→∀d,ev G ir ρ=some d→PE X (.BoolOp (if k then .And else .Or) vs pos) (tD X.K T S ρ d)) ∧
 (cB n c true k vs=some ir→∀b,ev G ir ρ=some (.bl b)→PW X (.BoolOp (if k then .And else .Or) vs pos) (dh X.K T S ρ b))
def ju(CX:aj)(G:GS)(T:Tx)(lv n:Nat):Prop:=∀(X:Cx) (c:CC) (S:Addr→Prop) (ρ:List Sl) (es:List Expr) (ir:IE),XC CX X c G T lv→cA n c es=some ir→∀d,ev G ir ρ=some d →
 ∃ds,d=.tup ds∧ds.length=es.length∧PA X es (b9 X.K T S ρ ds)∧starEach es X.env=es.map fun e=>(false,eval e X.env)
def LC(_:Src)(_:Expr):Prop:=True
theorem MW{c:CC}{tg:Expr}{av:List Nat}{tp:Bool}{k:Src}(de:cM c tg=some (av,tp))(h:UN tp k=true):LC k tg:=trivial
def OkI(CX:aj)(G:GS)(T:Tx)(lv n:Nat):Prop:=∀(X:Cx) (c:CC) (S:Addr→Prop) (ρ:List Sl) (e:Expr) (k:Src) (ir:IE),XC CX X c G T lv→cI n c e=some (k,ir)→∀d ds,ev G ir ρ=some d→items k d=some ds →
 (∀tg,LC k tg→PI X tg e (tI X.K T S ρ ds))∧∀x,foldedSetIterable e X.env x=pure x
theorem ID{n:Nat}(hE:d7 CX G T lv n)(hA:ju CX G T lv n):ju CX G T lv (n+1):=by
 intro X c S ρ es ir xc h d hd;cases es with
 |nil =>
  cases (show some IE.nil=some ir from h)
  simp only[ev,qe]at hd;exact⟨[],hd.symm,rfl,zY,rfl⟩
 |cons e es =>
  obtain⟨x,hx,h⟩:=aE h;obtain⟨y,hy,rfl⟩:=aM h;simp only[ev,ql,qg]at hd;obtain⟨a,ha,w,hw,hd⟩:=hd;obtain⟨ds,rfl,hl,pa,hs⟩:=hA X c S ρ es y xc hy w hw;simp only[qe]at hd;have st:=(cZ hx).star X.env es
  refine⟨a::ds,hd.symm,by simp[hl],sJ (hE X c S ρ e x xc hx a ha).1 pa st,?_⟩
  rw[st,hs];rfl
theorem IC{n:Nat}(hE:d7 CX G T lv n)(hT:l8 CX G T lv n)(hB:p9 CX G T lv n):p9 CX G T lv (n+1):=by
 intro X c S ρ k vs ir pos xc;refine⟨fun h d hd=>?_,fun h b hb=>?_⟩
 ·cases vs with
  |nil=>exact nomatch (show none=some ir from h)
  |cons a r =>
   cases r with
   |nil =>
    exact YA (hE X c S ρ a ir xc h d hd).1
   |cons b r =>
    obtain⟨x,hx,h⟩:=aE h;obtain⟨y,hy,rfl⟩:=aM h;cases k with
    |true =>
     simp only[if_true,ev,ql,qg]at hd;obtain⟨w,hw,hd⟩:=hd;have p1:=(hE X c S ρ a x xc hx w hw).1
     cases w<;>first|(simp only[reduceCtorEq]at hd;done)|skip
     rename_i kk;cases kk with
     |true =>
      simp only[qg]at hd;obtain⟨z,hz,hd⟩:=hd;have p2:=(hB X c S ρ true (b::r) y pos xc).1 hy z hz
      have j0:z=d:=by cases z<;>simp_all
      subst j0;exact PE.mono (HQ p1 p2) fun σ H Q ⟨re,q⟩=>⟨re,fun x H1 s1 r1=>by
       unfold Rep at r1;exact⟨true,r1,yH ⟨re.same s1,fun v H' s2 r=>q v H' (s1.trans s2) r⟩⟩⟩
     |false =>
      simp only[qe]at hd;subst hd;exact PE.mono (HQ p1 (tb:=fun _ _ _=>False) (fun _ _ _ _ _ _ h=>h.elim)) fun σ H Q ⟨re,q⟩=>⟨re,fun x H1 s1 r1=>by
       unfold Rep at r1;exact⟨false,r1,jZ (q _ H1 s1 bN)⟩⟩
    |false =>
     simp only[qp,if_false,ev,ql,qg]at hd;obtain⟨w,hw,hd⟩:=hd;have p1:=(hE X c S ρ a x xc hx w hw).1
     cases w<;>first|(simp only[reduceCtorEq]at hd;done)|skip
     rename_i kk;cases kk with
     |false =>
      simp only[qg]at hd;obtain⟨z,hz,hd⟩:=hd;have p2:=(hB X c S ρ false (b::r) y pos xc).1 hy z hz
      have j0:z=d:=by cases z<;>simp_all
      subst j0;exact PE.mono (TV p1 p2) fun σ H Q ⟨re,q⟩=>⟨re,fun x H1 s1 r1=>by
       unfold Rep at r1;exact⟨false,r1,jZ ⟨re.same s1,fun v H' s2 r=>q v H' (s1.trans s2) r⟩⟩⟩
     |true =>
      simp only[qe]at hd;subst hd;exact PE.mono (TV p1 (tb:=fun _ _ _=>False) (fun _ _ _ _ _ _ h=>h.elim)) fun σ H Q ⟨re,q⟩=>⟨re,fun x H1 s1 r1=>by
       unfold Rep at r1;exact⟨true,r1,yH (q _ H1 s1 bN)⟩⟩
 ·cases vs with
  |nil=>exact nomatch (show none=some ir from h)
  |cons a r =>
   cases r with
   |nil =>
    cases k with
    |true=>exact OK (hT X c S ρ a ir xc h b hb)
    |false=>exact GZ (hT X c S ρ a ir xc h b hb)
   |cons b' r =>
    obtain⟨x,hx,h⟩:=aE h;obtain⟨y,hy,rfl⟩:=aM h;cases k with
    |true =>
     simp only[if_true,ev,ql,qg]at hb;obtain⟨w,hw,hb⟩:=hb;cases w<;>first|(simp only[reduceCtorEq]at hb;done)|skip
     rename_i kk;have p1:=hT X c S ρ a x xc hx kk hw
     cases kk with
     |true =>
      simp only[qg]at hb;obtain⟨z,hz,hb⟩:=hb;have j0:z=.bl b:=by cases z<;>simp_all
      subst j0;have p2:=(hB X c S ρ true (b'::r) y pos xc).2 hy b hz
      exact PW.mono (HB p1 p2) fun σ H Q ⟨re,q⟩=>⟨re,fun H1 s1=>yH ⟨re.same s1,fun H' s2=>q H' (s1.trans s2)⟩⟩
     |false =>
      simp only[qe,D.bl.injEq]at hb;subst hb;exact PW.mono (HB p1 (tB':=fun _ _ _=>False) (fun _ _ _ _ _ _ _ h=>h.elim)) fun σ H Q ⟨re,q⟩=>⟨re,fun H1 s1=>jZ (q H1 s1)⟩
    |false =>
     simp only[qp,if_false,ev,ql,qg]at hb;obtain⟨w,hw,hb⟩:=hb;cases w<;>first|(simp only[reduceCtorEq]at hb;done)|skip
     rename_i kk;have p1:=hT X c S ρ a x xc hx kk hw
     cases kk with
     |false =>
      simp only[qg]at hb;obtain⟨z,hz,hb⟩:=hb;have j0:z=.bl b:=by cases z<;>simp_all
      subst j0;have p2:=(hB X c S ρ false (b'::r) y pos xc).2 hy b hz
      exact PW.mono (HA p1 p2) fun σ H Q ⟨re,q⟩=>⟨re,fun H1 s1=>jZ ⟨re.same s1,fun H' s2=>q H' (s1.trans s2)⟩⟩
     |true =>
      simp only[qe,D.bl.injEq]at hb;subst hb;exact PW.mono (HA p1 (tB':=fun _ _ _=>False) (fun _ _ _ _ _ _ _ h=>h.elim)) fun σ H Q ⟨re,q⟩=>⟨re,fun H1 s1=>yH (q H1 s1)⟩
theorem iE(xc:XC CX X c G T lv){x:Str}(h1:fH.contains x=true)(h2:c.fns.contains x=false)(h3:c.cls.contains x=false):X.mg x=none:=xc.go.bi x h1 h2 h3
theorem IA{n:Nat}(hE:d7 CX G T lv n)(hA:ju CX G T lv n):OkI CX G T lv (n+1):=by
 intro X c S ρ e k ir xc h d ds hd hi;have h:(match (lW c e).bind fun q=>(srcOf q.1).map fun k=>(k,q.2) with
  |some q=>(match q.1 with
   |.rng=>(cA n c q.2).map fun y=>(Src.rng,IE.tup y)
   |k=>(one? q.2).bind fun a=>(cE n c a).map fun y=>(k,y))
  |none=>(cE n c e).map fun y=>(Src.seq,y))=some (k,ir):=h
 cases hb:((lW c e).bind fun q=>(srcOf q.1).map fun k=>(k,q.2)) with
 |none =>
  rw[hb]at h;obtain⟨y,hy,e1⟩:=aM h;cases e1;exact⟨fun tg _=>OS (hE X c S ρ e ir xc hy d hd).1 hi,(cZ hy).set_ X.env⟩
 |some q =>
  rw[hb]at h;obtain⟨r,hr,hq⟩:=aE hb;obtain⟨k',hk,rfl⟩:=aM hq;obtain⟨p1,p2,rfl,hg,ho⟩:=jB hr;obtain⟨hf,hc⟩:=zW ho;have hx:(r.1 = "range"∧k'=.rng)∨(r.1 = "reversed"∧k'=.rev):=by
   unfold srcOf at hk;split at hk
   ·rename_i e0;cases hk;exact .inl ⟨e0,rfl⟩
   ·split at hk
    ·rename_i e0;cases hk;exact .inr ⟨e0,rfl⟩
    ·cases hk
  obtain⟨x,args⟩:=r
  rcases hx with ⟨rfl,rfl⟩|⟨rfl,rfl⟩
  ·obtain⟨y,hy,e1⟩:=aM h;cases e1;simp only[ev,qv]at hd;obtain⟨as,has,rfl⟩:=hd;have j7:ev G y ρ=some (.tup as):=by
    unfold bC at has;split at has
    ·cases has;assumption
    ·cases has
   obtain⟨cj,e1,hl,pa,hs⟩:=hA X _ S ρ args y xc hy _ j7;cases e1;exact⟨fun tg _=>OT (xc.glob hg) (iE xc (by decide +kernel) hf hc) pa hs hi hl,fun _=>rfl⟩
  ·obtain⟨a,ha,h⟩:=aE h;obtain rfl:=bJ ha;obtain⟨y,hy,e1⟩:=aM h;cases e1;have st:=(cZ hy).star X.env []
   exact⟨fun tg _=>OU (xc.glob hg) (iE xc (by decide +kernel) hf hc) (sJ (hE X _ S ρ a ir xc hy d hd).1 zY st) st hi,fun _=>rfl⟩
end
section
variable {CX:aj}{X:Cx}{c:CC}{G:GS}{T:Tx}{lv:Nat}{ρ:List Sl}{S:Addr→Prop}{pos p:Pos}{ea:Expr}
noncomputable def QY:Bool→CmpOp
 |false=>.In
 |true=>.NotIn
theorem HS(h:XC CX X c G T lv){x y:Str}{kvs:List (Str×D)}(e:aP c x=true)(hk:G.dk x=some kvs)(ha:PE X ea (tD X.K T S ρ (.str y)))(neg:Bool):PC X (QY neg) ea (.Name x p) (tD X.K T S ρ (.bl (neg != (kvs.lookup y).isSome))):=by
 obtain⟨a,hm,hs,o,vs,hl,hd,hks,_⟩:=h.go.dk x kvs hk;intro pins s σ H Q I ⟨re,q⟩;refine ae (ha pins s σ H (fun v H'=>aF H H'∧Rep X.K T H' S (.str y) v) I ⟨re,fun v H' sm r=>⟨sm,r⟩⟩) fun iv s1 ⟨v,H1,I1,ry,sm,r⟩=>?_
 refine dW I1 (h.glob e) hm ?_ (h.gne e);unfold Rep at r;subst r;obtain⟨t,rfl⟩:=ry;have dd:s1.heap.DictOf (bH X.prog X.w) a vs:=Heap.dictOf_iff.mpr ⟨o,I1.kIn a o hl,hd⟩
 have fin:∀b,b=(neg != (kvs.lookup y).isSome)→EP X pins σ Q (.bool b) { s1 with toks:=s1.toks+1 }:=fun b hb=>⟨.bl b,H1,I1.tok _,rfl,q _ H1 sm (by rw[hb];unfold Rep;rfl)⟩
 cases neg with
 |false=>exact wpAny_in_of (knd:=bH X.prog X.w) (iP X.prog X.w y t) hs dd.mapOf (fin _ (by rw[hks];simp))
 |true=>exact wpAny_notIn_of (knd:=bH X.prog X.w) (iP X.prog X.w y t) hs dd.mapOf (fin _ (by rw[hks];simp))
theorem aEs(h:XC CX X c G T lv){x y:Str}{kvs:List (Str×D)}(e:aP c x=true)(hk:G.dk x=some kvs)(ha:PE X ea (tD X.K T S ρ (.str y)))(neg:Bool):PE X (.Compare ea [QY neg] [.Name x p] pos) (tD X.K T S ρ (.bl (neg != (kvs.lookup y).isSome))):=YF (HS h e hk ha neg) (by cases neg<;>rfl)
theorem ZK(h:XC CX X c G T lv){x y:Str}{kvs:List (Str×D)}(e:aP c x=true)(hk:G.dk x=some kvs)(ha:PE X ea (tD X.K T S ρ (.str y)))(neg:Bool):PT X (.Compare ea [QY neg] [.Name x p] pos) (dh X.K T S ρ (neg != (kvs.lookup y).isSome)):=
 PT.mono (XU (HS h e hk ha neg) (by cases neg<;>rfl)) fun σ H Q ⟨re,q⟩=>⟨re,fun v H' sm r=>by
  unfold Rep at r;exact⟨_,r,q H' sm⟩⟩
end
theorem rL:∀{xs:List V} {us:List Value},xs.length=us.length→(∀(i:Nat) x u,xs[i]?=some x→us[i]?=some u→RelV x u)→aQ xs us
 |[],[],_,_=>.nil
 |x::xs,u::us,h,k=>.cons (k 0 x u rfl rfl) (rL (Nat.succ.inj h) fun i y v e f=>k (i+1) y v e f)
section
variable {CX:aj}{X:Cx}{c:CC}{G:GS}{T:Tx}{lv:Nat}{ρ:List Sl}{S:Addr→Prop}{tg:Expr}
theorem pZ{K:uz}{H:Hp}:∀{l:List Int},aD K T H S (l.map D.int) (l.map V.int)
 |[]=>by unfold aD;rfl
 |i::l=>by
  show aD K T H S (D.int i::l.map D.int) (V.int i::l.map V.int)
  unfold aD;exact⟨_,_,rfl,by unfold Rep;rfl,pZ⟩
theorem xR{a:Expr}{p pos p2 fw:Pos}{j:Int}(hc:X.calm=true)(hg:Gl X "range")(hm:X.mg "range" = none)(fk:Gl X "list")(ot:X.mg "list" = none)(ha:PA X [a] (b9 X.K T S ρ [.int j]))(hs:starEach [a] X.env=[(false,eval a X.env)])(h0:dJ j=true)(hn:j.toNat≤big) :
  PE X (.Call (.Name "list" p2) [.Call (.Name "range" p) [a] [] pos] [] fw) (c9 X.K T S ρ (cC 0 j)):=by
 intro pins s σ H Q I ⟨re,q⟩;refine Call_ (eU I fk ot mY (se (Calls.spliced_cons (Call_ (eU I hg hm boot_range (se (ae (ha pos pins s σ H (fun vs H'=>aF H H'∧aD X.K T H' S [.int j] vs) I ⟨re,fun vs H' a b=>⟨a,b⟩⟩) fun us s1 ⟨vs,H1,I1,r1,sm,rl⟩=>?_) hs rfl)))) rfl rfl))
 unfold aD at rl;obtain⟨x,r',rfl,rx,rr⟩:=rl;unfold aD at rr;subst rr;unfold Rep at rx;subst rx;obtain⟨b1,b2⟩:=fW h0;have hb:j.toNat≤1000000:=hn
 cases r1 with
 |cons r rr =>
  cases rr;obtain⟨t,rfl⟩:=r;refine call_range_1 (Calls.spliced_nil ?_);generalize dt:({ s1 with heap:=s1.heap.push { cls:=.type "range",data:=.fields #[.int 0 s1.toks,.int j t,.int 1 (s1.toks+1)] },toks:=s1.toks+1+1 }:Shared)=s2
  have I2:Inv X pins σ H1 s2:=by subst dt;exact I1.kept fun b o e=>qo _ e
  have hr:IsRange s2.heap s1.heap.objs.size 0 j 1 s1.toks t (s1.toks+1):=by subst dt;exact IsRange.new ..
  refine call_list_range (n:=j.toNat) (I2.ok.hd hc) hr (small_one (by decide) (by decide) b1 b2) (by rw[rangeSize_one];split<;>omega) (by omega) fun h' tk b7 c' hk ie cg=>?_
  have vs:aQ (((List.range j.toNat).map fun (k:Nat)=>(k:Int)).map V.int) b7.toList:=by
   refine rL (by simp[cg.1]) fun i y u e f=>?_
   obtain⟨t',rfl⟩:=cg.2 i u (by simpa using f)
   rw[um,qi]at e;cases hr:(List.range j.toNat)[i]? with
   |none=>rw[hr]at e;cases e
   |some k =>
    rw[hr]at e;have hk:k=i:=by
     obtain⟨h1,h2⟩:=q9.mp hr;simpa using h2.symm
    subst hk;cases e;exact⟨t',by rw[Int.mul_one,Int.zero_add]⟩
  have ak:H1 s2.heap.objs.size=none:=I2.hok.fresh (qk _)
  have I3:Inv X pins σ (upd H1 s2.heap.objs.size (.lst (((List.range j.toNat).map fun (k:Nat)=>(k:Int)).map V.int))) { s2 with heap:=h',toks:=tk }:=by
   refine I2.laid (fun b u e=>hk b u e) (qk _) ?_
   refine⟨by simp only[qj,qz];rw[sizeLine_eq];omega,b7.toList,c',vs,?_⟩
   rw[ie]
  refine⟨.ref _,_,I3,rfl,q _ _ _ (sm.trans (aF.upd ak)) (sm.free ak) aH ?_⟩;rw[iB ak];have e:cC 0 j=((List.range j.toNat).map fun (k:Nat)=>(k:Int)).map D.int:=by
   unfold cC;rw[um];simp
  rw[e];exact pZ
end
variable {CX:aj}{G:GS}{T:Tx}{lv:Nat}
theorem bZ{o:Option D}{ds:List D}(h:bC o=some ds):o=some (.tup ds):=by
 unfold bC at h;split at h
 ·cases h;rfl
 ·cases h
theorem lH{o:Option Rs}{d:D}(h:iJ o=some d):o=some (.ok d):=by
 unfold iJ at h;split at h
 ·cases h;rfl
 ·cases h
theorem hU{o:Option D}{i:Int}(h:intOf o=some i):o=some (.int i):=by
 unfold intOf at h;split at h
 ·cases h;rfl
 ·cases h
theorem dR{X:Cx}{K:uz}{c:CC}{S:Addr→Prop}{ρ:List Sl}{e:Expr}{d:D}(h:PE X e (tD X.K T S ρ d))(hf:gG c e=false):PE X e (tD X.K T S ρ d)∧(gG c e=true→∀ds,d=.lst ds→PE X e (c9 X.K T S ρ ds)):=
 ⟨h,fun z=>by rw[hf]at z;cases z⟩
theorem eB{X:Cx}{c:CC}{S:Addr→Prop}{ρ:List Sl}{e:Expr}{ds:List D}(h:PE X e (c9 X.K T S ρ ds)):PE X e (tD X.K T S ρ (.lst ds))∧(gG c e=true→∀es,D.lst ds=.lst es→PE X e (c9 X.K T S ρ es)):=
 ⟨UE h,fun _ es z=>by cases z;exact h⟩
theorem fX{X:Cx}{c:CC}{S:Addr→Prop}{ρ:List Sl}{n:Nat}(hE:d7 CX G T lv n)(xc:XC CX X c G T lv){lo:Option Expr}{l:IE}{o:Option Int}(h:rW (cE n c) lo=some l)(hp:part lo.isSome (ev G l ρ)=some o):PO X lo (iw X.K T S ρ o):=by
 cases lo with
 |none =>
  simp only[part,Option.isSome_none,qp,if_false,qe]at hp;subst hp;exact aEj
 |some e =>
  simp only[part,Option.isSome_some,if_true,qv]at hp;obtain⟨i,hi,rfl⟩:=hp;exact aEi (hE X c S ρ e l xc h _ (hU hi)).1
theorem ED{c:CC}{x:Str}{i:Nat}(h:ZN c x=some i):bB c x=some i:=by
 unfold ZN at h;exact(aX h).2
theorem eC{c:CC}{e:Expr}{i:Nat}(h:eS c e=some i):∃x p,e=.Name x p∧bB c x=some i:=by
 obtain⟨x,h1,h⟩:=aE h;exact⟨x.1,x.2,cD h1,ED h⟩
theorem qQ{K:uz}{S:Addr→Prop}{H H1 H':Hp}{es:List D}{v:V}{Q:VK}(s1:aF H H1)(s2:aF H1 H')(fr:rG K T S H1 H' (.lst es) v)(q:∀p xs H',aF H H'→H p=none→H' p=some (.lst xs)→aD K T (er H' p) S es xs→Q (.ref p) H'):Q v H':=by
 obtain⟨p,xs,rfl,hn,hs,rl⟩:=fr es rfl;exact q p xs H' (s1.trans s2) (s1.free hn) hs rl
theorem ZI{X:Cx}{c:CC}{S:Addr→Prop}{ρ:List Sl}(xc:XC CX X c G T lv){y:Str}{p py q:Pos}{i:Nat}{xs:List D}(hg:aP c "len" = true)(hm:X.mg "len" = none)(e:bB c y=some i)(hs:gM ρ i=some xs) :
  PE X (.Call (.Name "len" p) [.Name y py] [] q) (tD X.K T S ρ (.int xs.length)):=by
 have st:starEach [.Name y py] X.env=(false,eval (.Name y py) X.env)::starEach [] X.env:=rfl
 refine PE.mono (fN fG (xc.glob hg) hm (by decide +kernel) (aR (dU xc e) bU st) (by decide +kernel) (by decide +kernel) rfl rfl) fun σ H Q ⟨re,q⟩=>?_
 obtain⟨p,ys,e1,e2,rl⟩:=kZ re hs;exact⟨_,e1,p,ys,rfl,.inl (SqL.of e2),by rw[←rl.len];exact q _ H (aF.refl H) dM⟩
theorem aAB:bootBuiltins "len" = some (.builtin "len"):=by decide +kernel
theorem aAC:bootBuiltins "int" = some (.type "int"):=by decide +kernel
theorem LB:bootBuiltins "tuple" = some (.type "tuple"):=by decide +kernel
theorem aAA:bootBuiltins "max" = some (.builtin "max"):=by decide +kernel
theorem aAz:bootBuiltins "min" = some (.builtin "min"):=by decide +kernel
theorem QN{X:Cx}{c:CC}{S:Addr→Prop}{ρ:List Sl}(xc:XC CX X c G T lv){x:Str}{b:BF}{p pos:Pos}{es:List Expr}{ds:List D}{d:D}(hg:aP c x=true)(hm:X.mg x=none)(hb:pA x=some b)(ha:PA X es (b9 X.K T S ρ ds))(hs:starEach es X.env=es.map fun e=>(false,eval e X.env))(hlen:ds.length=es.length)(hd:bf b ds=some d) :
  PE X (.Call (.Name x p) es [] pos) (tD X.K T S ρ d)∧(x = "list"∨x = "sorted"→∀gw,d=.lst gw→PE X (.Call (.Name x p) es [] pos) (c9 X.K T S ρ gw)):=by
 cases es with
 |nil =>
  have:ds=[]:=so.mp hlen
  subst this;cases b<;>simp[bf,RS,RT,wG,uB,JY,RQ,uC]at hd
 |cons e es =>
  obtain⟨h1,h2⟩:=pX (pos:=pos) hs;have fk:=xc.glob hg
  have go:∀{g:List D→Option D},g ds=some d→∀σ H Q,tD X.K T S ρ d σ H Q→tCB (kx X.K T S g) (b9 X.K T S ρ ds) σ H Q:=fun {g} iF σ H Q ⟨re,q⟩=>⟨re,fun vs H1 s1 r1=>⟨ds,d,(re.same s1).dom,r1,iF,fun v H' s2 r2=>q v H' (s1.trans s2) r2⟩⟩
  unfold pA at hb;split at hb
  ·rename_i e0;subst e0;cases hb;exact⟨PE.mono (fN aFk fk hm aAB ha (by decide +kernel) (by decide +kernel) h1 h2) (go hd),fun z=>absurd z (by decide +kernel)⟩
  split at hb
  ·rename_i e0;subst e0;cases hb;exact⟨PE.mono (lG aFl fk hm aAC ha (by decide +kernel) (by decide +kernel) h1 h2) (go hd),fun z=>absurd z (by decide +kernel)⟩
  split at hb
  ·rename_i e0;subst e0;cases hb;have hl:∃gw,d=.lst gw:=by
    simp only[bf]at hd;unfold wG at hd;split at hd<;>first|(cases hd;exact⟨_,rfl⟩)|cases hd
   obtain⟨gw,rfl⟩:=hl;have pn:PE X (.Call (.Name "list" p) (e::es) [] pos) (c9 X.K T S ρ gw):=PE.mono (lG aAE fk hm mY ha (by decide +kernel) (by decide +kernel) h1 h2) fun σ H Q ⟨re,q⟩=>⟨re,fun vs H1 s1 r1=>⟨ds,gw,r1,hd,fun p ys H' s2 hn bw rl=>by
    refine q p ys H' (s1.trans s2) ?_ bw rl;cases e0:H p with
    |none=>rfl
    |some o=>rw[s1 p o e0]at hn;cases hn⟩⟩
   exact⟨UE pn,fun _ es2 z=>by cases z;exact pn⟩
  split at hb
  ·rename_i e0;subst e0;cases hb;exact⟨PE.mono (lG SN fk hm LB ha (by decide +kernel) (by decide +kernel) h1 h2) (go hd),fun z=>absurd z (by decide +kernel)⟩
  split at hb
  ·rename_i e0;subst e0;cases hb;exact⟨PE.mono (fN (aFj xc.calm) fk hm aAA ha (by decide +kernel) (by decide +kernel) h1 h2) (go hd),fun z=>absurd z (by decide +kernel)⟩
  split at hb
  ·rename_i e0;subst e0;cases hb;exact⟨PE.mono (fN (aFi xc.calm) fk hm aAz ha (by decide +kernel) (by decide +kernel) h1 h2) (go hd),fun z=>absurd z (by decide +kernel)⟩
  split at hb
  ·cases hb;cases hd
  split at hb
  ·cases hb;cases hd
  ·cases hb
theorem aFg{x:Str}{b:BF}(h:pA x=some b):fH.contains x=true:=by
 unfold pA at h
 repeat' split at h
 all_goals first|cases h;done|(rename_i e;subst e;decide +kernel)
theorem aBM{x:Str}(h:jE.contains x=true):fH.contains x=true:=by
 rw[List.contains_iff_mem]at h ⊢;unfold jE at h;simp only[rz,uk,or_false]at h;rw[←List.contains_iff_mem]
 rcases h with h|h|h|h|h<;>subst h<;>decide +kernel
section
variable {n:Nat}{X:Cx}{c:CC}{S:Addr→Prop}{ρ:List Sl}{ir:IE}{d:D}
abbrev Tells(CX:aj)(T:Tx)(X:Cx)(c:CC)(S:Addr→Prop)(ρ:List Sl)(e:Expr)(d:D):Prop:=PE X e (tD X.K T S ρ d)∧(gG c e=true→∀ds,d=.lst ds→PE X e (c9 X.K T S ρ ds))
theorem WT{G:GS}{z:IE}{ρ:List Sl}{d:D}(hd:ev G (.walk .rng (.tup (.cons z .nil))) ρ=some d):∃j,ev G z ρ=some (.int j)∧dJ j=true∧j.toNat≤big∧d=.lst (cC 0 j):=by
 replace hd:(((bC ((ev G z ρ).bind fun d=>some (.tup [d]))).map D.tup).bind fun s=>(items .rng s).map D.lst)=some d:=hd
 cases hz:ev G z ρ with
 |none=>rw[hz]at hd;cases hd
 |some v =>
  rw[hz]at hd;replace hd:(AH [v]).map D.lst=some d:=hd;cases v<;>first|exact nomatch (show none=some d from hd)|skip
  rename_i j;replace hd:(if dJ j&&decide (j.toNat≤big) then some (cC 0 j) else none).map D.lst=some d:=hd
  split at hd
  ·rename_i hc;rw[qt,qy]at hc;cases hd;exact⟨j,rfl,hc.1,hc.2,rfl⟩
  ·cases hd
theorem aDA(hE:d7 CX G T lv n)(hA:ju CX G T lv n)(xc:XC CX X c G T lv){x:Str}{p q:Pos}{args:List Expr}{b:BF}(hg:aP c x=true)(hf:c.fns.contains x=false)(hc:c.cls.contains x=false)(hb:pA x=some b)(h:DS (cE n c) c b args (cA n c args)=some ir)(hd:ev G ir ρ=some d):Tells CX T X c S ρ (.Call (.Name x p) args [] q) d:=by
 have hm:=iE xc (aFg hb) hf hc
 have bcl:∀{y:IE},cA n c args=some y→ir=.bcall b y→Tells CX T X c S ρ (.Call (.Name x p) args [] q) d:=fun {y} hy e=>by
  subst e;simp only[ev,ql,qg]at hd;obtain⟨ds,az,hd⟩:=hd;obtain⟨ds',e1,hl,pa,hs⟩:=hA X _ S ρ args y xc hy _ (bZ az);cases e1;have r:=QN (p:=p) (pos:=q) xc hg hm hb pa hs hl hd
  refine⟨r.1,fun z es e=>r.2 ?_ es e⟩
  have z:((c.fns.contains x&&c.fresh.contains x) || (aP c x&&(x == "list" || x == "sorted")&&!own c x))=true:=z
  simp only[own,hf,hc,hg,Bool.false_and,Bool.false_or,Bool.true_and,Bool.or_false,Bool.not_false,Bool.and_true,or_eq_true,su]at z;exact z
 have mb:(cA n c args).map (fun x=>IE.bcall b x)=some ir→Tells CX T X c S ρ (.Call (.Name x p) args [] q) d:=fun h=>by
  obtain⟨y,hy,e⟩:=aM h;exact bcl hy e
 unfold DS at h;cases oo:UH c args with
 |some i =>
  rw[oo]at h;obtain⟨e,h1,h2⟩:=aE oo;obtain⟨y,py,rfl,dq⟩:=eC h2;obtain rfl:=bJ h1;cases b with
  |int=>exact mb h
  |list=>exact mb h
  |tuple=>exact mb h
  |max=>exact mb h
  |min=>exact mb h
  |str=>exact mb h
  |any=>exact mb h
  |len =>
   cases (show some (IE.lenm i)=some ir from h)
   simp only[ev,ql,qg,qe]at hd;obtain⟨xs,fe,rfl⟩:=hd;have hx:x = "len":=by
    unfold pA at hb
    repeat' split at hb
    all_goals first|assumption|cases hb
   subst hx;exact⟨ZI xc hg hm dq fe,fun _ ds z=>by cases z⟩
  |sorted=>exact mb h
 |none =>
  rw[oo]at h;cases hr:xJ c args with
  |none =>
   rw[hr]at h;cases hq:(one? args).bind (xI c) with
   |none =>
    rw[hq]at h;exact mb (by cases b<;>exact h)
   |some a =>
    rw[hq]at h;cases b with
    |int=>exact mb h
    |len=>exact mb h
    |tuple=>exact mb h
    |max=>exact mb h
    |min=>exact mb h
    |str=>exact mb h
    |any=>exact mb h
    |sorted=>exact mb h
    |list =>
     clear bcl mb;obtain⟨z,hz,rfl⟩:=aM (show (cE n c a).map (fun x=>IE.walk .rng (.tup (.cons x .nil)))=some ir from h)
     obtain⟨j,hj,h0,hn,rfl⟩:=WT hd;have hx:x = "list":=by
      unfold pA at hb
      repeat' split at hb
      all_goals first|assumption|cases hb
     subst hx;obtain⟨e,h1,r1⟩:=aE hq;obtain⟨r,h2,r2⟩:=aE r1;obtain⟨jj,r3⟩:=aX r2;obtain⟨p1,p2,e5,iF,ho⟩:=jB h2;obtain⟨y,as⟩:=r;have e6:y = "range":=su.mp jj
     have e7:as=[a]:=bJ r3
     have e8:=bJ h1
     clear hr hq h1 r1 h2 r2 jj r3 oo h;subst e6 e7;dsimp only at e5 iF ho;subst e5;subst e8;obtain⟨gj,lx⟩:=zW ho;have st:=(cZ hz).star X.env []
     exact eB (xR xc.calm (xc.glob iF) (iE xc (by decide +kernel) gj lx) (xc.glob hg) hm (sJ (hE X _ S ρ a z xc hz _ hj).1 zY st) st h0 hn)
  |some a =>
   rw[hr]at h;cases b with
   |int=>exact mb h
   |len=>exact mb h
   |tuple=>exact mb h
   |max=>exact mb h
   |min=>exact mb h
   |str=>exact mb h
   |any=>exact mb h
   |sorted=>exact mb h
   |list =>
   clear bcl mb;obtain⟨z,hz,rfl⟩:=aM (show (cE n c a).map (fun x=>IE.walk .rev x)=some ir from h)
   simp only[ev,ql,qg,qv]at hd;obtain⟨w,hw,ds,az,rfl⟩:=hd;have hx:x = "list":=by
    unfold pA at hb
    repeat' split at hb
    all_goals first|assumption|cases hb
   subst hx;obtain⟨e,h1,r1⟩:=aE hr;obtain⟨r,h2,r2⟩:=aE r1;obtain⟨hn,r3⟩:=aX r2;obtain⟨p1,p2,e5,iF,ho⟩:=jB h2;obtain⟨y,as⟩:=r;have e6:y = "reversed":=su.mp hn
   have e7:as=[a]:=bJ r3
   have e8:=bJ h1
   clear hr h1 r1 h2 r2 hn r3 oo h;subst e6 e7;dsimp only at e5 iF ho;subst e5;subst e8;obtain⟨gj,lx⟩:=zW ho;have st:=(cZ hz).star X.env []
   exact eB (xS xc.calm (xc.glob iF) (iE xc (by decide +kernel) gj lx) (xc.glob hg) hm (sJ (hE X _ S ρ a z xc hz w hw).1 zY st) st az)
theorem HY(hE:d7 CX G T lv n)(hA:ju CX G T lv n)(xc:XC CX X c G T lv){x:Str}{p q:Pos}{args:List Expr}(h:zL (cE n c) c x args (cA n c args)=some ir)(hd:ev G ir ρ=some d):Tells CX T X c S ρ (.Call (.Name x p) args [] q) d:=by
 obtain⟨hg,h⟩:=aX h;cases ed:c.fns.contains x with
 |true =>
  rw[ed]at h;obtain⟨y,hy,rfl⟩:=aM (show (cA n c args).map (fun y=>IE.call x y)=some ir from h)
  simp only[ev,ql,qg]at hd;obtain⟨ds,az,hd⟩:=hd;obtain⟨ds',e1,hl,pa,hs⟩:=hA X _ S ρ args y xc hy _ (bZ az);cases e1;have r:=ZM (p:=p) (pos:=q) xc hg ed pa hs hl (lH hd)
  refine⟨PE.mono r fun σ H Q ⟨re,q⟩=>⟨re,fun v H1 H' s1 s2 rp _=>q v H' (s1.trans s2) rp⟩,fun hf es e=>?_⟩
  subst e;have gj:G.ff x=true:=by
   have z:((c.fns.contains x&&c.fresh.contains x) || (aP c x&&(x == "list" || x == "sorted")&&!own c x))=true:=hf
   simp only[own,ed,Bool.true_and,Bool.true_or,sj,Bool.and_false,Bool.or_false]at z;exact(xc.go.frs x z).1
  exact PE.mono r fun σ H Q ⟨re,q⟩=>⟨re,fun v H1 H' s1 s2 rp fr=>qQ s1 s2 (fr gj) q⟩
 |false =>
  rw[ed]at h;cases ar:c.cls.contains x with
  |true =>
   rw[ar]at h;obtain⟨y,hy,rfl⟩:=aM (show (cA n c args).map (fun y=>IE.mk x y)=some ir from h)
   simp only[ev,ql,qg]at hd;obtain⟨ds,az,hd⟩:=hd;obtain⟨ds',e1,hl,pa,hs⟩:=hA X _ S ρ args y xc hy _ (bZ az);cases e1;refine dR (K:=X.K) (aHH xc hg ar pa hs hl (lH hd)) ?_;show ((c.fns.contains x&&c.fresh.contains x) || (aP c x&&(x == "list" || x == "sorted")&&!own c x))=false
   simp only[own,ed,ar,Bool.false_and,Bool.or_true,sj,Bool.and_false,Bool.or_false]
  |false =>
   rw[ar]at h;cases hi:x == "isinstance" with
   |false =>
    rw[hi]at h;obtain⟨b,hb,h⟩:=aE (show (pA x).bind (fun b=>DS (cE n c) c b args (cA n c args))=some ir from h)
    exact aDA hE hA xc hg ed ar hb h hd
   |true =>
    rw[hi]at h;obtain rfl:=su.mp hi;have h:GV (cE n c) c args=some ir:=h
    match args,h with
    |[a,y],h =>
     obtain⟨y',b8,h⟩:=aE h;obtain⟨hk,h⟩:=aX h;obtain⟨hk,hk3⟩:=bM hk;obtain⟨oy,hk2⟩:=bM hk;obtain⟨z,hz,rfl⟩:=aM h;obtain rfl:=cD b8;obtain⟨j4,df⟩:=zW (UA hk3);simp only[ev,ql,qg,qv]at hd;obtain⟨w,hw,k,hk,rfl⟩:=hd;have ht:∃tn,kn w=some tn:=by
      cases w<;>first|exact⟨_,rfl⟩|(simp only[nX,reduceCtorEq]at hk)
     obtain⟨tn,ht⟩:=ht;have st:=(cZ hz).star X.env [.Name y'.1 y'.2]
     exact⟨aEq xc hg (iE xc (by decide +kernel) ed ar) oy (iE xc (aBM hk2) j4 df) hk2 (hE X _ S ρ a z xc hz w hw).1 (by rw[st];rfl) ht hk,fun _ ds z=>by cases z⟩
theorem QB(hE:d7 CX G T lv n)(hA:ju CX G T lv n)(xc:XC CX X c G T lv){o:Expr}{m:Str}{ap q:Pos}{args:List Expr}(h:(if jJ o&&decide (args.length<30)&&(ap.endLine == q.line) then(cE n c o).bind fun x=>(cA n c args).map fun y=>IE.meth x m y else none)=some ir)(hd:ev G ir ρ=some d):Tells CX T X c S ρ (.Call (.Attribute o m ap) args [] q) d:=by
 obtain⟨hc,h⟩:=aX h;obtain⟨hc,hc3⟩:=bM hc;obtain⟨hc1,gp⟩:=bM hc;obtain⟨x,hx,h⟩:=aE h;obtain⟨y,hy,rfl⟩:=aM h;simp only[ev,ql,qg]at hd;obtain⟨w,hw,hd⟩:=hd;cases w<;>first|exact nomatch (show none=some d from hd)|skip
 rename_i cn fs;obtain⟨hnone,hd⟩:=aX hd;obtain⟨ds,az,hd⟩:=aE hd;obtain⟨ds',e1,hl,pa,hs⟩:=hA X _ S ρ args y xc hy _ (bZ az);cases e1;have r:=ZH (pos:=q) xc (vP hc1 hs (of_decide_eq_true gp) hc3) (hE X _ S ρ o x xc hx _ hw).1 (Option.isNone_iff_eq_none.mp hnone) pa hs hl (lH hd)
 refine⟨PE.mono r fun σ H Q ⟨re,q⟩=>⟨re,fun v H1 H' s1 s2 rp _=>q v H' (s1.trans s2) rp⟩,fun hf es e=>?_⟩
 subst e;have gj:=(xc.go.frs m hf).2 cn
 exact PE.mono r fun σ H Q ⟨re,q⟩=>⟨re,fun v H1 H' s1 s2 rp fr=>qQ s1 s2 (fr gj) q⟩
theorem JU{es:List Expr}(h:few es=true):es.length≤sizeLine:=rj (of_decide_eq_true h) (rj (by decide) iD)
theorem YW(hE:d7 CX G T lv n)(xc:XC CX X c G T lv){a i:Expr}{p:Pos}(h:GU (cE n c) (eS c a) (cE n c a) i=some ir)(hd:ev G ir ρ=some d):Tells CX T X c S ρ (.Subscript a i p) d:=by
 unfold GU at h;cases dq:my i with
 |some q =>
  rw[dq]at h;obtain⟨lo,hi,st,pp⟩:=q;obtain rfl:=GP dq;cases st with
  |some _=>exact nomatch (show none=some ir from h)
  |none =>
   obtain⟨l,hl,h⟩:=aE (show (rW (cE n c) lo).bind _=some ir from h)
   obtain⟨u,hu,h⟩:=aE h;unfold aCD at h;cases hm:eS c a with
   |some j =>
    rw[hm]at h;cases h;obtain⟨x,px,rfl,dq⟩:=eC hm;simp only[ev,ql,qg,qe]at hd;obtain⟨xs,fe,ol,om,ou,j2,rfl⟩:=hd;exact eB (aEg xc dq fe (fX hE xc hl om) (fX hE xc hu j2))
   |none =>
    rw[hm]at h;obtain⟨x,hx,rfl⟩:=aM h;simp only[ev,ql,qg]at hd;obtain⟨w,hw,ol,om,ou,j2,hd⟩:=hd;have pa:=(hE X _ S ρ a x xc hx w hw).1
    cases w<;>first|exact nomatch (show none=some d from hd)|skip
    ·cases hd;exact eB (UD pa (fX hE xc hl om) (fX hE xc hu j2) (.inl rfl))
    ·simp only at hd;split at hd
     ·cases hd
     ·rename_i oi;cases hd;exact⟨aEh pa (fX hE xc hl om) (fX hE xc hu j2) oi,fun _ ds z=>by cases z⟩
    ·cases hd;exact eB (UD pa (fX hE xc hl om) (fX hE xc hu j2) (.inr rfl))
 |none =>
  rw[dq]at h;obtain⟨k,hk,h⟩:=aE h;refine dR (K:=X.K) ?_ (by show (my i).isSome=false;rw[dq];rfl)
  unfold aCG at h;cases hm:eS c a with
  |some j =>
   rw[hm]at h;cases h;obtain⟨x,px,rfl,dq⟩:=eC hm;simp only[ev,ql,qg]at hd;obtain⟨xs,fe,ii,hii,hd⟩:=hd;exact aEp xc dq (hE X _ S ρ i k xc hk _ (hU hii)).1 (cZ hk).ix fe hd
  |none =>
   rw[hm]at h;obtain⟨x,hx,rfl⟩:=aM h;simp only[ev,ql,qg]at hd;obtain⟨u,hu,v,hv,hd⟩:=hd;have pa:=(hE X _ S ρ a x xc hx u hu).1
   have pi:=(hE X _ S ρ i k xc hk v hv).1
   cases v<;>first|(cases u<;>exact nomatch (show none=some d from hd))|skip
   cases u<;>first|exact nomatch (show none=some d from hd)|skip
   ·exact ZJ pa pi (cZ hk).ix (.inl rfl) hd
   ·exact ZJ pa pi (cZ hk).ix (.inr (.inl rfl)) hd
   ·exact aEv (UK xc.room) pa pi (cZ hk).ix hd
   ·exact ZJ pa pi (cZ hk).ix (.inr (.inr rfl)) hd
theorem CJ(hE:d7 CX G T lv n)(hT:l8 CX G T lv n)(hI:OkI CX G T lv n)(xc:XC CX X c G T lv){elt:Expr}{gs:List Comprehension}{sc:Scope}{p:Pos}(h:cE (n+1) c (.ListComp elt gs sc p)=some ir)(hd:ev G ir ρ=some d) :
  ∃tg iter ifs fr av tp ds outs f,gs=[⟨tg,iter,ifs,0⟩]∧d=.lst outs∧kF c sc=true∧freeOf c sc (sc.names.filter fun x=>x.2 == .free)=some fr∧av.all (fun i=>(fr.lookup i).isNone)=true∧cM { c with N:=ownNames sc,sc:=sc } tg=some (av,tp) ∧
   PI X tg iter (tI X.K T S ρ ds)∧(∀x,foldedSetIterable iter X.env x=pure x)∧bO f ds=some outs ∧
   (∀d o,f d=some o→∃ρ1,bD av tp d (frame (ownNames sc).length fr ρ)=some ρ1∧TurnOk CX G T lv { c with N:=ownNames sc,sc:=sc } X.K ifs elt ρ1 o):=by
 obtain⟨g,jk,h⟩:=aE h;obtain⟨tg,iter,ifs,as⟩:=g
 by_cases ha:as=0
 ·subst ha;obtain⟨⟨av,tp⟩,de,h⟩:=aE (show GW c sc ⟨tg,iter,ifs,0⟩ (cI n c iter) (cT n { c with N:=ownNames sc,sc:=sc }) (cE n { c with N:=ownNames sc,sc:=sc } elt)=some ir from h)
  obtain⟨⟨k,src⟩,hk,h⟩:=aE h;obtain⟨test,bu,h⟩:=aE h;obtain⟨el,hel,h⟩:=aE h;obtain⟨fr,ak,h⟩:=aE h;obtain⟨hok,h⟩:=aX h;have tgk:LC k tg:=trivial
  obtain⟨j4,df⟩:=bM hok;cases h;obtain⟨s,hs,hd⟩:=aE hd;obtain⟨ds,az,hd⟩:=aE hd;obtain⟨outs,houts,rfl⟩:=aM hd;obtain⟨hi,hset⟩:=hI X _ S ρ iter k src xc hk s ds hs az;refine⟨tg,iter,ifs,fr,av,tp,ds,outs,_,bJ jk,rfl,j4,ak,df,de,hi tg tgk,hset,houts,?_⟩;intro d o hf;obtain⟨ρ1,h1,hf⟩:=aE hf;obtain⟨w,hw,hf⟩:=aE hf;refine⟨ρ1,h1,fun X' S' xc' hK=>?_⟩
  cases w<;>first|exact nomatch (show none=some o from hf)|skip
  rename_i kk;have ho:kk=o.isSome∧∀y,o=some y→ev G el ρ1=some y:=by
   cases kk with
   |true =>
    obtain⟨y,hy,rfl⟩:=aM hf;exact⟨rfl,fun z e=>by cases e;exact hy⟩
   |false =>
    cases hf;exact⟨rfl,fun z e=>by cases e⟩
  obtain⟨rfl,hy⟩:=ho;refine⟨?_,fun y e=>(hE X' _ S' ρ1 elt el xc' hel y (hy y e)).1⟩
  match ifs,bu with
  |[],bu =>
   cases bu;simp only[ev,Lit.d,qe,D.bl.injEq]at hw;exact .inl ⟨rfl,hw.symm⟩
  |[e],bu=>exact .inr ⟨e,rfl,hT X' _ S' ρ1 e test xc' bu _ hw⟩
 ·exact nomatch (show none=some ir from(if_neg ha).symm.trans h)
theorem HX(hE:d7 CX G T lv n)(xc:XC CX X c G T lv){a:Expr}{os:List CmpOp}{bs:List Expr}{p:Pos}(h:GX c (cE n c) (cE n c a) os bs=some ir)(hd:ev G ir ρ=some d):PE X (.Compare a os bs p) (tD X.K T S ρ d)∧∀k,d=.bl k→PT X (.Compare a os bs p) (dh X.K T S ρ k):=by
 match os,bs,h with
 |[o],[b],h =>
  obtain⟨x,hx,h⟩:=aE h;cases hi:aEH c o b with
  |some q =>
   rw[hi]at h;cases h;obtain⟨k,hk,hi⟩:=aE hi;obtain⟨r,hr,hi⟩:=aE hi;obtain⟨hg,hi⟩:=aX hi;cases hi;obtain rfl:=cD hr;obtain rfl:o=QY k:=by cases o<;>first|exact nomatch (show none=some k from hk)|(cases hk;rfl)
   cases hu:ev G x ρ with
   |none=>simp only[ev,hu]at hd;cases hd
   |some u =>
    simp only[ev,hu,ql,ud]at hd;cases u<;>first|exact nomatch (show none=some d from hd)|skip
    rename_i s;obtain⟨kvs,hkv,rfl⟩:=aM hd;have pa:=(hE X _ S ρ a x xc hx _ hu).1
    exact⟨aEs xc (bM hg).1 hkv pa k,fun k' e=>by cases e;exact ZK xc (bM hg).1 hkv pa k⟩
  |none =>
  rw[hi]at h;obtain⟨y,hy,rfl⟩:=aM h;simp only[ev,ql,qg]at hd;obtain⟨u,hu,v,hv,hd⟩:=hd;have pa:=(hE X _ S ρ a x xc hx u hu).1
  have pb:=(hE X _ S ρ b y xc hy v hv).1
  exact⟨aEw xc.units pa pb ((cZ hy).marks o) hd,fun k e=>by subst e;exact ZL xc.units pa pb ((cZ hy).marks o) hd⟩
 |[o,o'],[b,b'],h =>
  obtain⟨x,hx,h⟩:=aE h;obtain⟨y,hy,h⟩:=aE h;obtain⟨z,hz,rfl⟩:=aM h;simp only[ev,ql,qg]at hd;obtain⟨v,hv,u,hu,w,hw,hd⟩:=hd;have pa:=(hE X _ S ρ a x xc hx u hu).1
  have pb:=(hE X _ S ρ b y xc hy v hv).1
  have lm:lastMarks [o,o'] [b,b']=false:=(cZ hz).marks o'
  cases w<;>first|exact nomatch (show none=some d from hd)|skip
  rename_i kk;cases kk with
  |true =>
   obtain⟨w,oi,hd⟩:=aE hd;have pc:=(hE X _ S ρ b' z xc hz w oi).1
   exact⟨QL xc.units pa pb pc lm hw (by rw[if_pos rfl];exact hd),fun k e=>by subst e;exact IP xc.units pa pb pc lm hw (by rw[if_pos rfl];exact hd)⟩
  |false =>
   cases hd;refine⟨PE.mono (vJ (eJ (T:=T) (S:=S) xc.units o) (eJ (T:=T) (S:=S) xc.units o') pa pb (tc:=fun _ _ _=>False) (fun _ _ _ _ _ _ h=>h.elim) lm) fun σ H Q ⟨re,q⟩=>⟨re,fun x H1 s1 r1=>⟨re.same s1,fun y H2 s2 r2=>⟨u,v,.bl false,((re.same s1).same s2).dom,r1.same s2,r2,hw,fun z H3 s3 r3=>?_⟩⟩⟩,fun k e=>?_⟩
   ·unfold Rep at r3;exact⟨false,r3,jZ (q _ H3 (s1.trans (s2.trans s3)) bN)⟩
   ·cases e;refine PT.mono (vH (eJ (T:=T) (S:=S) xc.units o) (eJ (T:=T) (S:=S) xc.units o') pa pb (tc:=fun _ _ _=>False) (fun _ _ _ _ _ _ h=>h.elim) lm) fun σ H Q ⟨re,q⟩=>⟨re,fun x H1 s1 r1=>⟨re.same s1,fun y H2 s2 r2=>⟨u,v,.bl false,((re.same s1).same s2).dom,r1.same s2,r2,hw,fun z H3 s3 r3=>?_⟩⟩⟩
    unfold Rep at r3;exact⟨false,r3,jZ ⟨_,rfl,q H3 (s1.trans (s2.trans s3))⟩⟩
end
theorem IB{n:Nat}(hE:d7 CX G T lv n)(hT:l8 CX G T lv n)(hB:p9 CX G T lv n)(hA:ju CX G T lv n)(hI:OkI CX G T lv n):d7 CX G T lv (n+1):=by
 intro X c S ρ e ir xc h d hd;cases e<;>first|exact nomatch (show none=some ir from h)|skip
 case Name x p =>
  refine dR (K:=X.K) ?_ rfl;have h:xN c x=some ir:=h
  unfold xN at h;cases hs:bB c x with
  |some i =>
   rw[hs]at h;cases h;simp only[ev]at hd;exact UC xc hs hd
  |none =>
   rw[hs]at h;obtain⟨hg,h⟩:=aX h;cases h;simp only[ev]at hd;exact aEt xc (bM hg).1 (bM hg).2 hd
 case Constant v k p =>
  refine dR (K:=X.K) ?_ rfl;have h:zK v=some ir:=h
  cases v<;>first|exact nomatch (show none=some ir from h)|skip
  all_goals
   cases h;simp only[ev,Lit.d,qe]at hd;subst hd
  ·exact aEm
  ·exact aHI
  ·exact aEr
  ·exact aEf
 case BinOp a o b p =>
  refine dR (K:=X.K) ?_ rfl;obtain⟨o',ho,h⟩:=aE h;obtain⟨x,hx,h⟩:=aE h;obtain⟨y,hy,rfl⟩:=aM h;simp only[ev,ql,qg]at hd;obtain⟨u,hu,v,hv,hd⟩:=hd;exact aEx ho (hE X _ S ρ a x xc hx u hu).1 (hE X _ S ρ b y xc hy v hv).1 hd
 case UnaryOp o a p =>
  refine dR (K:=X.K) ?_ rfl;have h:aCB (cE n c a) o=some ir:=h
  cases o<;>first|exact nomatch (show none=some ir from h)|skip
  ·obtain⟨x,hx,rfl⟩:=aM h;simp only[ev,ql,qg,qv]at hd;obtain⟨u,⟨w,hw,k,hk,rfl⟩,hd⟩:=hd;cases hd;exact aEk (hE X _ S ρ a x xc hx w hw).1 hk
  ·obtain⟨x,hx,rfl⟩:=aM h;simp only[ev,ql,qg]at hd;obtain⟨u,hu,hd⟩:=hd;cases u<;>first|exact nomatch (show none=some d from hd)|skip
   cases hd;exact aEn (hE X _ S ρ a x xc hx _ hu).1
 case BoolOp o vs p =>
  refine dR (K:=X.K) ?_ rfl;cases o with
  |And=>exact(hB X _ S ρ true vs ir p xc).1 h d hd
  |Or=>exact(hB X _ S ρ false vs ir p xc).1 h d hd
 case IfExp t a b p =>
  refine dR (K:=X.K) ?_ rfl;obtain⟨x,hx,h⟩:=aE h;obtain⟨y,hy,h⟩:=aE h;obtain⟨z,hz,rfl⟩:=aM h;simp only[ev,ql,qg]at hd;obtain⟨u,hu,hd⟩:=hd;cases u<;>first|exact nomatch (show none=some d from hd)|skip
  rename_i k;have pt:=hT X _ S ρ t x xc hx k hu
  cases k with
  |true=>exact UF pt (fun _=>(hE X _ S ρ a y xc hy d hd).1) (fun z=>by cases z)
  |false=>exact UF pt (fun z=>by cases z) (fun _=>(hE X _ S ρ b z xc hz d hd).1)
 case Compare a os bs p=>exact dR (K:=X.K) (HX hE xc h hd).1 rfl
 case Tuple es k p =>
  refine dR (K:=X.K) ?_ rfl;obtain⟨i8,h⟩:=aX h;obtain⟨x,hx,rfl⟩:=aM h;simp only[ev,qv]at hd;obtain⟨ds,az,rfl⟩:=hd;obtain⟨ds',e1,hl,pa,hs⟩:=hA X _ S ρ es x xc hx _ (bZ az);cases e1;exact aEe pa (by rw[hl];exact JU i8)
 case List es p =>
  obtain⟨i8,h⟩:=aX h;obtain⟨x,hx,rfl⟩:=aM h;simp only[ev,qv]at hd;obtain⟨ds,az,rfl⟩:=hd;obtain⟨ds',e1,hl,pa,hs⟩:=hA X _ S ρ es x xc hx _ (bZ az);cases e1;exact eB (aEo pa (by rw[hl];exact JU i8))
 case Subscript a i p=>exact YW hE xc h hd
 case Attribute a f p =>
  refine dR (K:=X.K) ?_ rfl;obtain⟨fh,h⟩:=aX h;obtain⟨x,hx,rfl⟩:=aM h;simp only[ev,ql,qg]at hd;obtain⟨u,hu,hd⟩:=hd;have pa:=(hE X _ S ρ a x xc hx u hu).1
  cases u<;>first|exact nomatch (show none=some d from hd)|skip
  obtain⟨hf,hd⟩:=aX hd;exact aEu xc pa (kW fh) hf hd
 case ListComp elt gs sc p =>
  obtain⟨tg,iter,ifs,fr,av,tp,ds,outs,f,rfl,rfl,h1,h2,h3,h4,h5,h6,h7,h8⟩:=CJ (S:=S) hE hT hI xc h hd;exact eB (OZ xc h1 h2 h3 h4 h5 h6 h7 h8)
 case Call f args kw p =>
  obtain⟨hkw,h⟩:=aX h;obtain rfl:=iY hkw;cases f<;>first|exact nomatch (show none=some ir from h)|skip
  ·exact QB hE hA xc h hd
  ·exact HY hE hA xc h hd
end Z
namespace Z
open PySem PySem.Spec PyProof.Rows L2
variable {CX:aj}{G:GS}{T:Tx}{lv:Nat}
theorem HZ{n:Nat}(hE:d7 CX G T lv n)(hT:l8 CX G T lv n)(hB:p9 CX G T lv n):l8 CX G T lv (n+1):=by
 intro X c S ρ e ir xc h k hk;have tr:(cE n c e).map .tr=some ir→(∀whole,isTrue e X.env whole=(do let v ←whole;standAt e.pos;holding [v] (truthy v)))→PT X e (dh X.K T S ρ k):=fun h he=>by
  obtain⟨x,hx,rfl⟩:=aM h;simp only[ev,ql,qg,qv,D.bl.injEq]at hk;obtain⟨w,hw,k',fj,rfl⟩:=hk;exact QJ (hE X c S ρ e x xc hx w hw).1 he fj
 cases e<;>first|exact tr h fun _=>rfl|skip
 case BoolOp o vs p =>
  cases o with
  |And=>exact PW.pt ((hB X c S ρ true vs ir p xc).2 h k hk)
  |Or=>exact PW.pt ((hB X c S ρ false vs ir p xc).2 h k hk)
 case UnaryOp o a p =>
  cases o<;>first|exact tr h fun _=>rfl|skip
  obtain⟨x,hx,rfl⟩:=aM h;simp only[ev,ql,qg]at hk;obtain⟨w,hw,hk⟩:=hk;cases w<;>first|exact nomatch (show none=some (D.bl k) from hk)|skip
  cases hk;exact ZG (hT X c S ρ a x xc hx _ hw)
 case IfExp _ _ _ _=>exact nomatch (show none=some ir from h)
 case Compare a os bs p=>exact(HX hE xc h hk).2 k rfl
theorem bV:∀n,d7 CX G T lv n∧l8 CX G T lv n∧p9 CX G T lv n∧ju CX G T lv n∧OkI CX G T lv n
 | 0=>⟨fun X c S ρ e ir xc h=>(nomatch (show none=some ir from h)),fun X c S ρ e ir xc h=>(nomatch (show none=some ir from h)),fun X c S ρ k vs ir pos xc=>⟨fun h=>(nomatch (show none=some ir from h)),fun h=>(nomatch (show none=some ir from h))⟩,fun X c S ρ es ir xc h=>(nomatch (show none=some ir from h)),fun X c S ρ e k ir xc h=>(nomatch (show none=some (k,ir) from h))⟩
 |n+1=>by
  obtain⟨hE,hT,hB,hA,hI⟩:=bV n;exact⟨IB hE hT hB hA hI,HZ hE hT hB,IC hE hT hB,ID hE hA,IA hE hA⟩
end Z
namespace Z
open PySem PySem.Spec PyProof.Rows L2
abbrev Dm(S₀:Addr→Prop)(H₀:Hp)(_:List Sl)(_:L2.St):Prop:=∀a,S₀ a→∃o,H₀ a=some o
structure SInv (K:uz) (T:Tx) (S₀:Addr→Prop) (H₀:Hp) (S:Addr→Prop) (ρ:List Sl) (σ:L2.St) (H:Hp):Prop where
 re:RE K T H S ρ σ
 dom0:Dm S₀ H₀ ρ σ
 sup:∀a,S₀ a→S a
 same:aF H₀ H
 dist:∀(i j:Nat) xs ys p,ρ[i]?=some (.mu xs)→ρ[j]?=some (.mu ys)→σ[i]?=some (some (.ref p))→σ[j]?=some (some (.ref p))→i=j
 own:∀(i:Nat) xs p,ρ[i]?=some (.mu xs)→σ[i]?=some (some (.ref p))→H₀ p=none
section
variable {K:uz}{T:Tx}{S₀ S S':Addr→Prop}{H₀ H H' d9:Hp}{ρ ρ1:List Sl}{σ σ1:L2.St}
theorem aK.refl:aK K H H S S:=fun a n _=>⟨n,fun _ e=>e⟩
theorem aK.same(h:aF H H'):aK K H H' S S:=fun a n _=>⟨n,fun o e=>h a o e⟩
theorem aK.trans{S'':Addr→Prop}(h:aK K H H' S S')(g:aK K H' d9 S' S''):aK K H d9 S S'':=fun a n q=>by
 obtain⟨n1,k1⟩:=h a n q;obtain⟨n2,k2⟩:=g a n1 (q.elim (fun⟨o,e⟩=>.inl ⟨o,k1 o e⟩) .inr)
 exact⟨n2,fun o e=>k2 o (k1 o e)⟩
theorem SInv.step(si:SInv K T S₀ H₀ S ρ σ H)(h:aF H H'):SInv K T S₀ H₀ S ρ σ H':=⟨si.re.same h,si.dom0,si.sup,si.same.trans h,si.dist,si.own⟩
theorem SInv.set(si:SInv K T S₀ H₀ S ρ σ H){i:Nat}{d:D}{v:V}(r:Rep K T H S d v):SInv K T S₀ H₀ S (ρ.set i (.im d)) (σ.set i (some v)) H:=by
 have old:∀(j:Nat) xs p,(ρ.set i (.im d))[j]?=some (.mu xs)→(σ.set i (some v))[j]?=some (some (.ref p))→j≠i∧ρ[j]?=some (.mu xs)∧σ[j]?=some (some (.ref p)):=fun j xs p h1 h2=>by
  have ne:j≠i:=by
   rintro rfl;have hl:j<ρ.length:=by simpa using (q9.mp h1).1
   rw[r8 hl]at h1;cases h1
  rw[rg (Ne.symm ne)]at h1 h2;exact⟨ne,h1,h2⟩
 refine⟨si.re.set r,si.dom0,si.sup,si.same,fun a b xs ys p h1 h2 h3 h4=>?_,fun a xs p h1 h2=>?_⟩
 ·obtain⟨_,q1,q2⟩:=old a xs p h1 h3;obtain⟨_,q3,q4⟩:=old b ys p h2 h4;exact si.dist a b xs ys p q1 q3 q2 q4
 ·obtain⟨_,q1,q2⟩:=old a xs p h1 h2;exact si.own a xs p q1 q2
theorem SInv.setm(si:SInv K T S₀ H₀ S ρ σ H){i:Nat}{ds:D}{p:Addr}{xs:HO}(sm:aF H H')(hp:H p=none)(hk:K.lookup p=none)(c6:H' p=some xs)(rl:lX K T (er H' p) S ds xs) :
  SInv K T S₀ H₀ (fun a=>S a∨a=p) (ρ.set i (.mu ds)) (σ.set i (some (.ref p))) H'∧aK K H H' S (fun a=>S a∨a=p):=by
 have mv:aK K H H' S (fun a=>S a∨a=p):=fun a n q=>by
  have ne:a≠p:=by
   rintro rfl
   rcases q with ⟨o,e⟩|⟨o,e⟩
   ·rw[hp]at e;cases e
   ·rw[hk]at e;cases e
  exact⟨fun z=>z.elim n ne,fun o e=>sm a o e⟩
 have dom:∀a,(S a∨a=p)→∃o,H' a=some o:=fun a z=>z.elim (fun z=>let ⟨o,e⟩:=si.re.dom a z;⟨o,sm a o e⟩) fun z=>⟨xs,by rw[z];exact c6⟩
 have re':RE K T H' (fun a=>S a∨a=p) ρ σ:=si.re.gen mv (fun a ys z e _=>⟨.inl z,sm a _ e⟩) dom
 have slotp:∀(j:Nat) ys,ρ[j]?=some (.mu ys)→σ[j]?=some (some (.ref p))→False:=fun j ys h1 h2=>by
  obtain⟨q,zs,e1,e2,e3,_⟩:=si.re.at_ j _ h1;rw[h2]at e1;cases e1;rw[hp]at e3;cases e3
 have at_:∀(j:Nat) ys q,(ρ.set i (.mu ds))[j]?=some (.mu ys)→(σ.set i (some (.ref p)))[j]?=some (some (.ref q))→(j=i∧q=p)∨(j≠i∧ρ[j]?=some (.mu ys)∧σ[j]?=some (some (.ref q))):=fun j ys q h1 h2=>by
  by_cases e:j=i
  ·subst e;have hl:j<ρ.length:=by simpa using (q9.mp h1).1
   rw[r8 (by rw[←si.re.len];exact hl)]at h2
   cases h2;exact .inl ⟨rfl,rfl⟩
  ·rw[rg (Ne.symm e)]at h1 h2;exact .inr ⟨e,h1,h2⟩
 refine⟨⟨⟨dom,by simp[si.re.len],fun j s e=>?_⟩,si.dom0,fun a z=>.inl (si.sup a z),si.same.trans sm,fun a b ys zs q h1 h2 h3 h4=>?_,fun a ys q h1 h2=>?_⟩,mv⟩
 ·by_cases hj:j=i
  ·subst hj;have hl:j<ρ.length:=by simpa using (q9.mp e).1
   rw[r8 hl]at e;cases e;rw[r8 (by rw[←si.re.len];exact hl)]
   exact⟨p,xs,rfl,.inr rfl,c6,rl.gen (aK.own hk)⟩
  ·rw[rg (Ne.symm hj)]at e ⊢;exact re'.at_ j s e
 ·rcases at_ a ys q h1 h3 with ⟨ea,eq⟩|⟨na,q1,q2⟩
  ·rcases at_ b zs q h2 h4 with ⟨eb,_⟩|⟨nb,q3,q4⟩
   ·rw[ea,eb]
   ·subst eq;exact(slotp b zs q3 q4).elim
  ·rcases at_ b zs q h2 h4 with ⟨eb,eq⟩|⟨nb,q3,q4⟩
   ·subst eq;exact(slotp a ys q1 q2).elim
   ·exact si.dist a b ys zs q q1 q3 q2 q4
 ·rcases at_ a ys q h1 h2 with ⟨ea,eq⟩|⟨na,q1,q2⟩
  ·subst eq;exact si.same.free hp
  ·exact si.own a ys q q1 q2
theorem SInv.write(si:SInv K T S₀ H₀ S ρ σ H){i:Nat}{ds ds':D}{p:Addr}{jc:HO}(hi:ρ[i]?=some (.mu ds))(hp:σ[i]?=some (some (.ref p)))(rl:lX K T H S ds' jc) :
  SInv K T S₀ H₀ S (ρ.set i (.mu ds')) σ (upd H p jc)∧aK K H (upd H p jc) S S:=by
 obtain⟨q,zs,e1,e2,e3,_⟩:=si.re.at_ i _ hi;rw[hp]at e1;cases e1;have mv:aK K H (upd H p jc) S S:=fun a n _=>⟨n,fun o e=>by rw[aG (fun z=>n (by rw[z];exact e2))];exact e⟩
 have dom:∀a,S a→∃o,upd H p jc a=some o:=fun a z=>by
  by_cases e:a=p
  ·exact⟨jc,by rw[e];exact aH⟩
  ·obtain⟨o,q⟩:=si.re.dom a z;exact⟨o,by rw[aG e];exact q⟩
 have hl:i<ρ.length:=(q9.mp hi).1
 have old:∀(j:Nat) ys,(ρ.set i (.mu ds'))[j]?=some (.mu ys)→∃zs,ρ[j]?=some (.mu zs):=fun j ys h=>by
  by_cases e:j=i
  ·exact⟨ds,by rw[e];exact hi⟩
  ·rw[rg (Ne.symm e)]at h;exact⟨ys,h⟩
 refine⟨⟨⟨dom,by simp[si.re.len],fun j s e=>?_⟩,si.dom0,si.sup,fun b o e=>?_,fun a b ys zs q h1 h2 h3 h4=>?_,fun a ys q h1 h2=>?_⟩,mv⟩
 ·by_cases hj:j=i
  ·subst hj;rw[r8 hl]at e;cases e;exact⟨p,jc,hp,e2,aH,rl.gen mv⟩
  ·rw[rg (Ne.symm hj)]at e;have h:=si.re.at_ j s e
   cases s with
   |un=>trivial
   |im d=>obtain⟨v,e4,r⟩:=h;exact⟨v,e4,Rep.gen mv d v r⟩
   |mu ys =>
    obtain⟨q,ws,e4,e5,e6,r⟩:=h;refine⟨q,ws,e4,e5,?_,r.gen mv⟩;rw[aG]
    ·exact e6
    ·rintro rfl;exact hj (si.dist j i ys ds q e hi e4 hp)
 ·have ne:b≠p:=by
   rintro rfl;rw[si.own i ds b hi hp]at e;cases e
  rw[aG ne];exact si.same b o e
 ·obtain⟨iu,q1⟩:=old a ys h1;obtain⟨zs',q2⟩:=old b zs h2;exact si.dist a b iu zs' q q1 q2 h3 h4
 ·obtain⟨iu,q1⟩:=old a ys h1;exact si.own a iu q q1 h2
theorem jA:∀{is:List Nat} {ds:List D} {ρ ρ1:List Sl} {j:Nat} {xs:D},bF is ds ρ=some ρ1→ρ1[j]?=some (.mu xs)→j∉is∧ρ[j]?=some (.mu xs)
 |[],[],ρ,ρ1,j,xs,h,e=>by
  simp only[bF,qe]at h;subst h;exact⟨by simp,e⟩
 |i::is,d::ds,ρ,ρ1,j,xs,h,e=>by
  simp only[bF]at h;obtain⟨n,q⟩:=jA h e;have ne:j≠i:=by
   rintro rfl;have hl:j<ρ.length:=by simpa using (q9.mp q).1
   rw[r8 hl]at q;cases q
  rw[rg (Ne.symm ne)]at q;exact⟨by simp[n,ne],q⟩
 |[],_::_,_,_,_,_,h,_=>by simp[bF]at h
 |_::_,[],_,_,_,_,h,_=>by simp[bF]at h
theorem oZ{is:List Nat}{tp:Bool}{d:D}{j:Nat}{xs:D}(h:bD is tp d ρ=some ρ1)(e:ρ1[j]?=some (.mu xs)):j∉is∧ρ[j]?=some (.mu xs):=by
 unfold bD at h;split at h
 ·split at h
  ·exact jA h e
  ·cases h
 ·exact jA h e
theorem SInv.bind(si:SInv K T S₀ H₀ S ρ σ H){is:List Nat}{tp:Bool}{d:D}(h:bD is tp d ρ=some ρ1)(re:RE K T H S ρ1 σ1)(ag:∀j,j∉is→σ1[j]?=σ[j]?):SInv K T S₀ H₀ S ρ1 σ1 H:=by
 refine⟨re,si.dom0,si.sup,si.same,fun a b xs ys p h1 h2 h3 h4=>?_,fun a xs p h1 h2=>?_⟩
 ·obtain⟨n1,q1⟩:=oZ h h1;obtain⟨n2,q2⟩:=oZ h h2;rw[ag a n1]at h3;rw[ag b n2]at h4;exact si.dist a b xs ys p q1 q2 h3 h4
 ·obtain⟨n1,q1⟩:=oZ h h1;rw[ag a n1]at h2;exact si.own a xs p q1 h2
theorem RE.view(re:RE K T H S ρ σ):RE K T H (fun _=>False) (view ρ) σ:=by
 refine⟨fun a z=>z.elim,by simp[Z.view,re.len],fun i s e=>?_⟩
 unfold Z.view at e;rw[qi]at e;cases h:ρ[i]? with
 |none=>rw[h]at e;cases e
 |some s' =>
  rw[h]at e;cases e;have r:=re.at_ i s' h
  cases s' with
  |un=>trivial
  |im d=>obtain⟨v,e1,r⟩:=r;exact⟨v,e1,Rep.mono (fun _ z=>z.elim) (fun _ _ _ e=>e) d v r⟩
  |mu ds =>
   obtain⟨p,xs,e1,_,e3,r⟩:=r;exact⟨.ref p,e1,r.rep e3 (fun z=>z) fun _ z=>z.elim⟩
theorem GT{d:D}{v:V}(h:xH d=true)(r:Rep K T H S d v):Rep K T H S' d v:=by
 cases d<;>first|(simp only[xH,qp]at h;done)|(unfold Rep at r ⊢;exact r)
end
variable {CX:aj}{G:GS}{T:Tx}{lv:Nat}{X:Cx}{c:CC}{S₀:Addr→Prop}{H₀:Hp}{fr:Bool}{EX:Str→Hp→Prop}{pos:Pos}
noncomputable def FU(K:uz)(T:Tx)(S₀:Addr→Prop)(H₀:Hp)(fr:Bool)(EX:Str→Hp→Prop)(H:Hp)(S:Addr→Prop)(D:Ends):Out→Prop
 |.nx ρ=>∀S' σ' H',SInv K T S₀ H₀ S' ρ σ' H'→aK K H H' S S'→D.nx σ' H'
 |.bk ρ=>∀S' σ' H',SInv K T S₀ H₀ S' ρ σ' H'→aK K H H' S S'→D.bk σ' H'
 |.ct ρ=>∀S' σ' H',SInv K T S₀ H₀ S' ρ σ' H'→aK K H H' S S'→D.ct σ' H'
 |.rt d=>∀v H',aF H₀ H'→Rep K T H' S₀ d v→(fr=true→rG K T S₀ H₀ H' d v)→D.rt v H'
 |.er c=>∀H',aF H₀ H'→EX c H'
def bb(K:uz)(T:Tx)(S₀:Addr→Prop)(H₀:Hp)(fr:Bool)(EX:Str→Hp→Prop)(G:GS)(is:IS):TS:=fun D σ H=>∃ρ out S,ex G is ρ=some out∧SInv K T S₀ H₀ S ρ σ H∧FU K T S₀ H₀ fr EX H S D out
structure XS (CX:aj) (T:Tx) (X:Cx) (c:CC) (EX:Str→Hp→Prop):Prop where
 kind:X.env.scope.kind=.function
 pass:PassesOwn (model X.prog X.w) X.A X.env X.xe
 rse:∀x m j p p' q pos,aP c x=true→c.cls.contains x=true→PS X (.Raise (some (.Call (.Name x p) [.Constant (.str m) j p'] [] q)) none pos) (fun D σ H=>EX x H)
 pss:∀E1:XK,(∀cls H',E1 cls none H'→∃k C,T.xc k=some C∧cls=.ref C∧EX k H')→fU CX X E1
 stk:X.stack=X.env::X.outer
 frm:X.env.frame=some X.env.locals
theorem FU.step{K:uz}{H H':Hp}{S S':Addr→Prop}{D:Ends}{o:Out}(mv:aK K H H' S S')(h:FU K T S₀ H₀ fr EX H S D o):FU K T S₀ H₀ fr EX H' S' D o:=by
 cases o with
 |nx ρ=>exact fun S2 σ2 H2 si m=>h S2 σ2 H2 si (mv.trans m)
 |bk ρ=>exact fun S2 σ2 H2 si m=>h S2 σ2 H2 si (mv.trans m)
 |ct ρ=>exact fun S2 σ2 H2 si m=>h S2 σ2 H2 si (mv.trans m)
 |rt d=>exact h
 |er c=>exact h
theorem oR{e:IE}{ρ:List Sl}{d:D}(h:cy G e ρ=some d):ev G e ρ=some d∨(ev G e (view ρ)=some d∧xH d=true):=by
 unfold cy at h;split at h
 ·rename_i h1;cases h;exact .inl h1
 ·split at h
  ·rename_i h2;split at h
   ·rename_i h3;cases h;exact .inr ⟨h2,h3⟩
   ·cases h
  ·cases h
theorem nU(xc:XC CX X c G T lv){n:Nat}{e:Expr}{ir:IE}{ρ:List Sl}{d:D}{S:Addr→Prop}(he:cE n c e=some ir)(h:cy G ir ρ=some d):PE X e (tD X.K T S ρ d):=by
 rcases oR h with h|⟨h,hs⟩
 ·exact((bV n).1 X c S ρ e ir xc he d h).1
 ·exact PE.mono ((bV n).1 X c (fun _=>False) (view ρ) e ir xc he d h).1 fun σ H Q ⟨re,q⟩=>⟨re.view,fun v H' sm r=>q v H' sm (GT hs r)⟩
theorem NI:PS X (.Pass pos) (bb X.K T S₀ H₀ fr EX G .nop):=fun pins s σ H D I ⟨ρ,out,S,hx,si,po⟩=>by
 simp only[ex,qe]at hx;subst hx;exact ON pins s σ H D I (po S σ H si aK.refl)
theorem NF:PS X (.Return none pos) (bb X.K T S₀ H₀ fr EX G .retn):=fun pins s σ H D I ⟨ρ,out,S,hx,si,po⟩=>by
 simp only[ex,qe]at hx;subst hx;exact OM pins s σ H D I (po .non H si.same (by unfold Rep;rfl) fun _ ds e=>by cases e)
theorem NG(xc:XC CX X c G T lv){x:Str}{p:Pos}{i:Nat}(e:bB c x=some i):PS X (.Return (some (.Name x p)) pos) (bb X.K T S₀ H₀ fr EX G (.retm i)):=fun pins s σ H D I ⟨ρ,out,S,hx,si,po⟩=>by
 simp only[ex]at hx;split at hx
 ·rename_i ds hi;cases hx;obtain⟨q,xs,e1,e2,e3,rl⟩:=si.re.at_ i _ hi;have hn:=si.own i ds q hi e1
  have n0:¬S₀ q:=fun z=>by obtain⟨o,z⟩:=si.dom0 q z;rw[hn]at z;cases z
  refine gF (dU xc e) pins s σ H D I ⟨_,e1,po (.ref q) H si.same ?_ fun _ ds' z=>?_⟩
  ·exact rl.rep e3 n0 si.sup
  ·subst z;obtain⟨ys,rfl,rl'⟩:=rl.lst;exact⟨q,ys,rfl,hn,e3,aD.disown e2 si.sup rl'⟩
 ·cases hx
theorem WJ(xc:XC CX X c G T lv){n:Nat}{e:Expr}{ir:IE}{b:Bool}(he:cE n c e=some ir)(hb:b=true→gG c e=true)(ak:fr=true→b=true):PS X (.Return (some e) pos) (bb X.K T S₀ H₀ fr EX G (.ret b ir)):=fun pins s σ H D I ⟨ρ,out,S,hx,si,po⟩=>by
 simp only[ex,qv]at hx;obtain⟨d,hd,rfl⟩:=hx;have plain:(∀ds,d=.lst ds→fr=false)→wpAny (model X.prog X.w) X.A (exec (.Return (some e) pos) X.env) (SP X pins D) X.xe s:=fun hn =>
  gF (nU (S:=S) xc he hd) pins s σ H D I ⟨si.re,fun v H' sm r=>po v H' (si.same.trans sm) (Rep.mono si.sup (fun _ _ _ e=>e) d v r) fun z ds e=>by rw[hn ds e]at z;cases z⟩
 cases hf:fr with
 |false=>exact plain fun _ _=>hf
 |true =>
  by_cases hl:∃ds,d=.lst ds
  ·obtain⟨ds,rfl⟩:=hl;have j7:ev G ir ρ=some (.lst ds):=by
    rcases oR hd with h|⟨_,h⟩
    ·exact h
    ·cases h
   refine gF (((bV n).1 X c S ρ e ir xc he _ j7).2 (hb (ak hf)) ds rfl) pins s σ H D I ⟨si.re,fun p xs H' sm hp c6 rl=>po (.ref p) H' (si.same.trans sm) ?_ fun _ ds' z=>?_⟩
   ·unfold Rep;exact⟨p,xs,rfl,fun z=>si.re.nS hp (si.sup p z),c6,aD.mono si.sup (fun _ _ _ e=>e) _ _ rl.er⟩
   ·cases z;exact⟨p,xs,rfl,si.same.free hp,c6,aD.mono si.sup (fun _ _ _ e=>e) _ _ rl⟩
  ·exact plain fun ds e=>(hl ⟨ds,e⟩).elim
theorem aBY(xc:XC CX X c G T lv){n:Nat}{t:Expr}{ir:IE}{a b:List Stmt}{ia ib:IS}(ht:cT n c t=some ir)(ha:PSs X a (bb X.K T S₀ H₀ fr EX G ia))(hb:PSs X b (bb X.K T S₀ H₀ fr EX G ib)) :
  PS X (.If t a b pos) (bb X.K T S₀ H₀ fr EX G (.iff ir ia ib)):=fun pins s σ H D I ⟨ρ,out,S,hx,si,po⟩=>by
 simp only[ex,ql,qg]at hx;obtain⟨w,hw,hx⟩:=hx;cases w<;>first|(simp only[reduceCtorEq]at hx;done)|skip
 rename_i k;refine qC ((bV n).2.1 X c (fun _=>False) (view ρ) t ir xc ht k hw) ha hb pins s σ H D I ⟨si.re.view,fun H' sm=>?_⟩
 cases k with
 |true=>exact yH ⟨ρ,out,S,hx,si.step sm,po.step (aK.same sm)⟩
 |false=>exact jZ ⟨ρ,out,S,hx,si.step sm,po.step (aK.same sm)⟩
theorem WL:PSs X [] (bb X.K T S₀ H₀ fr EX G .nop):=fun pins s σ H D I ⟨ρ,out,S,hx,si,po⟩=>by
 simp only[ex,qe]at hx;subst hx;exact gW pins s σ H D I (po S σ H si aK.refl)
theorem WH{st:Stmt}{rest:List Stmt}{a b:IS}(ha:PS X st (bb X.K T S₀ H₀ fr EX G a))(hb:PSs X rest (bb X.K T S₀ H₀ fr EX G b)):PSs X (st::rest) (bb X.K T S₀ H₀ fr EX G (.seq a b)):=fun pins s σ H D I ⟨ρ,out,S,hx,si,po⟩=>by
 simp only[ex,ql,qg]at hx;obtain⟨o,ho,hx⟩:=hx;refine bI ha hb pins s σ H D I ⟨ρ,o,S,ho,si,?_⟩;cases o with
 |nx ρ'=>exact fun S' σ' H' dc mv=>⟨ρ',out,S',hx,dc,po.step mv⟩
 |bk ρ'=>simp only[qe]at hx;subst hx;exact po
 |ct ρ'=>simp only[qe]at hx;subst hx;exact po
 |rt d=>simp only[qe]at hx;subst hx;exact po
 |er d=>simp only[qe]at hx;subst hx;exact po
theorem WI(xs:XS CX T X c EX){x:Str}{m:Str}{j:Nat}{p p' q:Pos}(hg:aP c x=true)(hc:c.cls.contains x=true):PS X (.Raise (some (.Call (.Name x p) [.Constant (.str m) j p'] [] q)) none pos) (bb X.K T S₀ H₀ fr EX G (.rse x)):=fun pins s σ H D I ⟨ρ,out,S,hx,si,po⟩=>by
 simp only[ex]at hx;split at hx
 ·cases hx;exact xs.rse x m j p p' q pos hg hc pins s σ H D I (po H si.same)
 ·cases hx
theorem NB(xc:XC CX X c G T lv){n:Nat}{es:List Expr}{k:Nat}{p:Pos}{e:Expr}{ir:IE}{is:List Nat}(hn:eR c es=some is)(he:cE n c e=some ir)(hnt:∀vs k p,e≠.Tuple vs k p) :
  PS X (.Assign [.Tuple es k p] e pos) (bb X.K T S₀ H₀ fr EX G (.sett is ir)):=fun pins s σ H D I ⟨ρ,out,S,hx,si,po⟩=>by
 simp only[ex,ql,qg,qv]at hx;obtain⟨d,hd,ρ1,hb,rfl⟩:=hx;have de:cM c (.Tuple es k p)=some (is,true):=by simp only[cM,hn,uc]
 refine HI ((bV n).1 X c S ρ e ir xc he d hd).1 (OW xc (S:=S) de hb) ?_ ?_ rfl pins s σ H D I ⟨si.re,fun v H' sm r=>⟨si.re.same sm,r,fun σ' re' ag=>po S σ' H' ((si.step sm).bind hb re' ag) (aK.same sm)⟩⟩
 ·cases e<;>rfl
 ·cases e<;>first|rfl|exact absurd rfl (hnt _ _ _)
end Z
namespace Z
open PySem PySem.Spec PyProof.Rows L2
variable {CX:aj}{G:GS}{T:Tx}{lv:Nat}{X:Cx}{c:CC}{S₀:Addr→Prop}{H₀:Hp}{fr:Bool}{EX:Str→Hp→Prop}{pos:Pos}
noncomputable def lM:Expr→Bool
 |.ListComp _ _ _ _=>true
 |_=>false
theorem nH{n:Nat}{c:CC}{e:Expr}{ir:IE}(h:cE n c e=some ir)(hc:lM e=false)(t:Expr)(l:Nat)(env:Env):swapsWith e (some t) l env=pure false:=by
 cases e<;>first|rfl|exact nomatch (show true=false from hc)|(cases n<;>exact nomatch (show none=some ir from h))
theorem nI{elt:Expr}{gs:List Comprehension}{sc:Scope}{p px:Pos}{x:Str}{l:Nat}{env:Env}:∃b,swapsWith (.ListComp elt gs sc p) (some (.Name x px)) l env=pure b:=⟨_,rfl⟩
theorem kE{n:Nat}{elt:Expr}{gs:List Comprehension}{sc:Scope}{p:Pos}{ir:IE}{ρ:List Sl}{d:D}(xc:XC CX X c G T lv)(h:cE n c (.ListComp elt gs sc p)=some ir)(hd:ev G ir ρ=some d)(S:Addr→Prop) :
  ∃tg iter ifs fr av tp ds outs f,gs=[⟨tg,iter,ifs,0⟩]∧d=.lst outs∧kF c sc=true∧freeOf c sc (sc.names.filter fun x=>x.2 == .free)=some fr∧av.all (fun i=>(fr.lookup i).isNone)=true∧cM { c with N:=ownNames sc,sc:=sc } tg=some (av,tp) ∧
   PI X tg iter (tI X.K T S ρ ds)∧(∀x,foldedSetIterable iter X.env x=pure x)∧bO f ds=some outs ∧
   (∀d o,f d=some o→∃ρ1,bD av tp d (frame (ownNames sc).length fr ρ)=some ρ1∧TurnOk CX G T lv { c with N:=ownNames sc,sc:=sc } X.K ifs elt ρ1 o):=by
 cases n with
 |zero=>exact nomatch (show none=some ir from h)
 |succ n =>
  obtain⟨hE,hT,hB,hA,hI⟩:=bV (CX:=CX) (G:=G) (T:=T) (lv:=lv) n;exact CJ hE hT hI xc h hd
theorem vS{pins:v9}{σ:L2.St}{H:Hp}{s:Shared}{p:Addr}{o:HO}(I:Inv X pins σ H s)(h:H p=some o):X.K.lookup p=none:=by
 cases e:X.K.lookup p with
 |none=>rfl
 |some u=>rw[UI I p u e]at h;cases h
def tNk(K:uz)(T:Tx)(S:Addr→Prop)(ρ:List Sl)(ds:List D):TE:=fun σ H Q=>RE K T H S ρ σ∧∀p xs H',aF H H'→H p=none→K.lookup p=none→H' p=some (.lst xs)→aD K T (er H' p) S ds xs→Q (.ref p) H'
theorem aHG{e:Expr}{S:Addr→Prop}{ρ:List Sl}{ds:List D}(h:PE X e (c9 X.K T S ρ ds)):PE X e (tNk X.K T S ρ ds):=fun pins s σ H Q I ⟨re,q⟩ =>
 ae (h pins s σ H (fun v H'=>∃p xs,v=.ref p∧aF H H'∧H p=none∧H' p=some (.lst xs)∧aD X.K T (er H' p) S ds xs) I ⟨re,fun p xs H' a b c d=>⟨p,xs,rfl,a,b,c,d⟩⟩) fun u s1 ⟨v,H',I',r,p,xs,e,a,b,c,d⟩=>⟨v,H',I',r,by rw[e];exact q p xs H' a b (vS I' c) c d⟩
theorem ND(xc:XC CX X c G T lv){x:Str}{px nc pd:Pos}{i:Nat}(hx:dS c (.Name x nc)=some i):PS X (.Assign [.Name x px] (.Dict [] [] pd) pos) (bb X.K T S₀ H₀ fr EX G (.setd i)):=fun pins s σ H D I ⟨ρ,out,S,hex,si,po⟩=>by
 cases hex;obtain⟨hN,hk⟩:=cQ hx;obtain⟨hl,hf⟩:=xc.loc hk;have pn:PE X (.Dict [] [] pd) (fun σ H Q=>∀p,H p=none→X.K.lookup p=none→Q (.ref p) (upd H p (.dK []))):=fun pins s σ H Q I q =>
  ae (HN pins s σ H (fun v H'=>∃p,v=.ref p∧H p=none∧H'=upd H p (.dK [])) I fun p hp=>⟨p,rfl,hp,rfl⟩) fun u s1 ⟨v,H',I',r,p,e1,hp,e2⟩=>⟨v,H',I',r,by
   subst e1 e2;exact q p hp (vS I' (aH))⟩
 refine jW (by rw[xc.N];exact xc.nd) (by rw[xc.N];exact hN) hl pn rfl hf pins s σ H D I fun p hp hkp=>?_
 obtain⟨dc,mv⟩:=si.setm (i:=i) (ds:=.dct []) (xs:=.dK []) (aF.upd hp) hp hkp aH (.inr ⟨_,_,rfl,rfl,aY.nil⟩);exact po _ _ _ dc mv
theorem WG(xc:XC CX X c G T lv){n:Nat}{e:Expr}{ir:IE}{x:Str}{px nc:Pos}{i:Nat}(hx:dS c (.Name x nc)=some i)(he:cE n c e=some ir):PS X (.Assign [.Name x px] e pos) (bb X.K T S₀ H₀ fr EX G (.set i ir)):=fun pins s σ H D I ⟨ρ,out,S,hex,si,po⟩=>by
 simp only[ex,qv]at hex;obtain⟨d,hd,rfl⟩:=hex;obtain⟨hN,hk⟩:=cQ hx;obtain⟨hl,hf⟩:=xc.loc hk;have plain:swapsWith e (some (.Name x px)) pos.line X.env=pure false→wpAny (model X.prog X.w) X.A (exec (.Assign [.Name x px] e pos) X.env) (SP X pins D) X.xe s:=fun hs =>
  jW (by rw[xc.N];exact xc.nd) (by rw[xc.N];exact hN) hl (nU (S:=S) xc he hd) hs hf pins s σ H D I ⟨si.re,fun v H' sm r=>po S _ H' ((si.step sm).set r) (aK.same sm)⟩
 cases hc:lM e with
 |false=>exact plain (nH he hc _ _ _)
 |true =>
  cases e<;>simp only[lM,qp]at hc
  rename_i elt gs sc p;obtain⟨b,hb⟩:=nI (elt:=elt) (gs:=gs) (sc:=sc) (p:=p) (px:=px) (x:=x) (l:=pos.line) (env:=X.env);cases b with
  |false=>exact plain hb
  |true =>
   have j7:ev G ir ρ=some d:=by
    rcases oR hd with h|⟨h,hs⟩
    ·exact h
    ·obtain⟨_,_,_,_,_,_,_,outs,_,_,rfl,_⟩:=kE xc he h (fun _=>False)
     cases hs
   obtain⟨tg,iter,ifs,fr',av,tp,ds,outs,f,rfl,rfl,h1,h2,h3,h4,h5,h6,h7,h8⟩:=kE xc he j7 S;exact zP xc h1 h2 h3 h4 h5 h6 (px:=px) (by simp only[dS]at hx ⊢;exact hx) hb h7 h8 pins s σ H D I ⟨si.re,fun p xs H' sm hp c6 rl=>po S _ H' ((si.step sm).set (by unfold Rep;exact⟨p,xs,rfl,si.re.nS hp,c6,rl.er⟩)) (aK.same sm)⟩
theorem NC(xc:XC CX X c G T lv){n:Nat}{e:Expr}{ir:IE}{x:Str}{px nc:Pos}{i:Nat}(hx:dS c (.Name x nc)=some i)(he:cE n c e=some ir)(ak:gG c e=true):PS X (.Assign [.Name x px] e pos) (bb X.K T S₀ H₀ fr EX G (.setm i ir)):=fun pins s σ H D I ⟨ρ,out,S,hex,si,po⟩=>by
 simp only[ex,ql,qg]at hex;obtain⟨d,hd,hex⟩:=hex;cases d<;>first|(simp only[reduceCtorEq]at hex;done)|skip
 rename_i outs;simp only[qe]at hex;subst hex;obtain⟨hN,hk⟩:=cQ hx;obtain⟨hl,hf⟩:=xc.loc hk;have pn:=((bV n).1 X c S ρ e ir xc he _ hd).2 ak outs rfl
 have plain:swapsWith e (some (.Name x px)) pos.line X.env=pure false→wpAny (model X.prog X.w) X.A (exec (.Assign [.Name x px] e pos) X.env) (SP X pins D) X.xe s:=fun hs =>
  jW (by rw[xc.N];exact xc.nd) (by rw[xc.N];exact hN) hl (aHG pn) hs hf pins s σ H D I ⟨si.re,fun p xs H' sm hp hkp c6 rl=>by
   obtain⟨dc,mv⟩:=si.setm (i:=i) (ds:=.lst outs) sm hp hkp c6 (.inl ⟨_,_,rfl,rfl,rl⟩);exact po _ _ H' dc mv⟩
 cases hc:lM e with
 |false=>exact plain (nH he hc _ _ _)
 |true =>
  cases e<;>simp only[lM,qp]at hc
  rename_i elt gs sc p;obtain⟨b,hb⟩:=nI (elt:=elt) (gs:=gs) (sc:=sc) (p:=p) (px:=px) (x:=x) (l:=pos.line) (env:=X.env);cases b with
  |false=>exact plain hb
  |true =>
   obtain⟨tg,iter,ifs,fr',av,tp,ds,outs',f,rfl,e1,h1,h2,h3,h4,h5,h6,h7,h8⟩:=kE xc he hd S;cases e1;refine ua (zP xc h1 h2 h3 h4 h5 h6 (px:=px) (by simp only[dS]at hx ⊢;exact hx) hb h7 h8 pins s σ H ⟨fun σ' H'=>∃p xs,σ'=σ.set i (some (.ref p))∧aF H H'∧H p=none∧H' p=some (.lst xs)∧aD X.K T (er H' p) S outs xs,fun _ _=>False,fun _ _=>False,fun _ _=>False⟩ I ⟨si.re,fun p xs H' sm hp c6 rl=>⟨p,xs,rfl,sm,hp,c6,rl⟩⟩) (fun f s' q=>?_) fun _ _ z=>z
   cases f with
   |next =>
    obtain⟨σ',H',I',p,xs,rfl,sm,hp,c6,rl⟩:=q;obtain⟨dc,mv⟩:=si.setm (i:=i) (ds:=.lst outs) sm hp (vS I' c6) c6 (.inl ⟨_,_,rfl,rfl,rl⟩);exact⟨_,H',I',po _ _ H' dc mv⟩
   |brk=>obtain⟨_,_,_,z⟩:=q;exact z.elim
   |cont=>obtain⟨_,_,_,z⟩:=q;exact z.elim
   |ret u=>obtain⟨_,_,_,_,_,z⟩:=q;exact z.elim
end Z
namespace Z
open PySem PySem.Spec PyProof.Rows L2
variable {CX:aj}{G:GS}{T:Tx}{lv:Nat}{X:Cx}{c:CC}{S₀:Addr→Prop}{H₀:Hp}{fr:Bool}{EX:Str→Hp→Prop}{pos:Pos}
theorem WO(xc:XC CX X c G T lv){n:Nat}{e:Expr}{ir:IE}{x:Str}{i:Nat}{p1 p2 p:Pos}(hx:bB c x=some i)(hl:(p2.endLine == p.line)=true)(he:cE n c e=some ir) :
  PS X (.Expr (.Call (.Attribute (.Name x p1) "append" p2) [e] [] p) pos) (bb X.K T S₀ H₀ fr EX G (.app i ir)):=fun pins s σ H D I ⟨ρ,out,S,hex,si,po⟩=>by
 simp only[ex,ql,qg]at hex;obtain⟨d,hd,hex⟩:=hex;split at hex
 ·rename_i ds hi;split at hex
  ·rename_i hz;cases hex;obtain⟨q,ob,e1,e2,e3,rm⟩:=si.re.at_ i _ hi;obtain⟨xs,rfl,rl⟩:=rm.lst;have st:=(cZ he).star X.env []
   refine eY (lZ plainAttrs_list PySem.F.slot_list_append PySem.F.type_list_append gO (dU xc hx) (aR (nU (S:=S) xc he hd) bU st) rfl ?_ hl st rfl) rfl pins s σ H D I ⟨.ref q,e1,.inl ⟨rfl,xs,SqL.of e3⟩,si.re,fun v H' sm r=>⟨q,xs,v,rfl,rfl,sm _ _ e3,?_,?_⟩⟩
   ·rw[st];rfl
   ·rw[←rl.len];exact qw hz iD
   ·obtain⟨dc,mv⟩:=(si.step sm).write (ds':=.lst (ds++[d])) hi e1 (.inl ⟨_,_,rfl,rfl,(rl.same sm).app (aD.cons r aD.nil)⟩);exact po S σ _ dc ((aK.same sm).trans mv)
  ·cases hex
 ·cases hex
theorem DQ{K:uz}{H:Hp}{S:Addr→Prop}{ds:List D}{xs:List V}(r:aD K T H S ds xs):aD K T H S (ds.eraseIdx 0) (xs.eraseIdx 0):=by
 cases ds with
 |nil=>unfold aD at r;subst r;exact aD.nil
 |cons d ds =>
  unfold aD at r;obtain⟨x,q,rfl,_,r⟩:=r;exact r
theorem NH(xc:XC CX X c G T lv){x:Str}{i:Nat}{p1 p2 p p3:Pos}{k:Nat}(hx:bB c x=some i)(hl:(p2.endLine == p.line)=true) :
  PS X (.Expr (.Call (.Attribute (.Name x p1) "pop" p2) [.Constant (.int 0) k p3] [] p) pos) (bb X.K T S₀ H₀ fr EX G (.pop0 i)):=fun pins s σ H D I ⟨ρ,out,S,hex,si,po⟩=>by
 simp only[ex]at hex;split at hex
 ·rename_i ds hi;split at hex
  ·cases hex
  ·rename_i hz;cases hex;obtain⟨q,ob,e1,e2,e3,rm⟩:=si.re.at_ i _ hi;obtain⟨xs,rfl,rl⟩:=rm.lst;cases xs with
   |nil =>
    have hn:=rl.len
    cases ds with
    |nil=>exact absurd rfl hz
    |cons a r=>cases hn
   |cons y ys =>
    refine eY (lZ plainAttrs_list PySem.F.slot_list_pop PySem.F.type_list_pop IR (dU xc hx) (aR sA bU rfl) rfl rfl hl rfl rfl) rfl pins s σ H D I ⟨.ref q,e1,.inl ⟨rfl,_,SqL.of e3⟩,?_⟩;refine⟨q,y::ys,0,0,y,rfl,rfl,e3,by decide,by decide,?_,rfl,?_⟩
    ·unfold seqIndex?;have h:((0:Int)<((y::ys).length:Int)):=by rw[ui];omega
     show (if (decide ((0:Int)≤0)&&decide ((0:Int)<((y::ys).length:Int)))=true then some (0:Int).toNat else none)=some 0
     rw[sr h];rfl
    ·obtain⟨dc,mv⟩:=si.write (ds':=.lst (ds.eraseIdx 0)) hi e1 (.inl ⟨_,_,rfl,rfl,DQ rl⟩);exact po S σ _ dc mv
 ·cases hex
theorem aAa(n:Nat)(i:Int):Z.ixN n i=L2.ixN n i:=by
 unfold Z.ixN L2.ixN;rfl
theorem DL{n:Nat}{c:CC}{e:Expr}{ir:IE}(h:cE n c e=some ir){o i:Expr}{p:Pos}{l:Nat}{env:Env}:swapsWith e (some (.Subscript o i p)) l env=pure false:=by
 cases e<;>first|rfl|(cases n<;>exact nomatch (show none=some ir from h))
theorem WK(xc:XC CX X c G T lv){n:Nat}{e k:Expr}{ir kr:IE}{x:Str}{i:Nat}{p1 p2:Pos}(hx:bB c x=some i)(hk:cE n c k=some kr)(he:cE n c e=some ir) :
  PS X (.Assign [.Subscript (.Name x p1) k p2] e pos) (bb X.K T S₀ H₀ fr EX G (.put i kr ir)):=fun pins s σ H D I ⟨ρ,out,S,hex,si,po⟩=>by
 simp only[ex,ql,qg]at hex;obtain⟨d,hd,ki,hki,hex⟩:=hex;split at hex
 ·rename_i o hi;obtain⟨o',ho,rfl⟩:=qv.mp hex;obtain⟨q,ob,e1,e2,e3,rm⟩:=si.re.at_ i _ hi;cases o<;>first|exact nomatch (show none=some o' from ho)|skip
  ·rename_i ds;obtain⟨j,hj,rfl⟩:=qv.mp ho;obtain⟨xs,rfl,rl⟩:=rm.lst;refine HI (nU (S:=S) xc he hd) (XY (dU xc hx) (nU (S:=S) xc hk (hU hki)) set_list ?_) ?_ ?_ rfl pins s σ H D I ⟨si.re,fun v H' sm r=>⟨.ref q,e1,(si.step sm).re,fun w H2 di r2=>?_⟩⟩
   ·intro v;cases k<;>first|rfl|(cases n<;>exact nomatch (show none=some kr from hk))
   ·cases e<;>rfl
   ·cases e<;>rfl
   ·unfold Rep at r2;subst r2;refine⟨q,xs,ki,j,rfl,rfl,di _ _ (sm _ _ e3),by rw[←rl.len,←aAa];exact hj,?_⟩
    obtain⟨dc,mv⟩:=(si.step (sm.trans di)).write (ds':=.lst (ds.set j d)) hi e1 (.inl ⟨_,_,rfl,rfl,aD.set j (rl.same (sm.trans di)) (r.same di)⟩);exact po S σ _ dc ((aK.same (sm.trans di)).trans mv)
  ·rename_i kvs;have ho:(if kvs.length<big then some (Z.D.dct (lD kvs ki d)) else none)=some o':=ho
   split at ho
   ·rename_i hz;cases ho;obtain⟨gs,rfl,rk⟩:=rm.dct;refine OO (UK xc.room) (dU xc hx) (nU (S:=S) xc hk (hU hki)) (nU (S:=S) xc he hd) (DL he) pins s σ H D I ⟨si.re,fun v H' sm r=>⟨.ref q,e1,(si.step sm).re,fun w H2 di r2=>?_⟩⟩
    unfold Rep at r2;subst r2;refine⟨q,_,rfl,MM.k (k:=Sum.inl ki) (di _ _ (sm _ _ e3)) (by rw[←aY.len rk];exact qw hz iD),?_⟩
    obtain⟨dc,mv⟩:=(si.step (sm.trans di)).write (ds':=.dct (lD kvs ki d)) hi e1 (.inr ⟨_,_,rfl,rfl,aY.put (r.same di) (aY.gen (aK.same (S:=S) (sm.trans di)) _ _ rk)⟩);exact po S σ _ dc ((aK.same (sm.trans di)).trans mv)
   ·cases ho
 ·cases hex
theorem yR{bind:D→List Sl→Option (List Sl)}{body:List Sl→Option Out}{d:D}{r:List D}{ρ:List Sl}{out:Out}(h:cV bind body (d::r) ρ=some out):∃ρ1 o,bind d ρ=some ρ1∧body ρ1=some o ∧
  ((∃ρ2,o=.nx ρ2∧cV bind body r ρ2=some out)∨(∃ρ2,o=.ct ρ2∧cV bind body r ρ2=some out)∨(∃ρ2,o=.bk ρ2∧out=.nx ρ2)∨(∃d,o=.rt d∧out=o)∨∃x,o=.er x∧out=o):=by
 simp only[cV,ql,qg]at h;obtain⟨ρ1,h1,o,h2,h3⟩:=h;refine⟨ρ1,o,h1,h2,?_⟩;cases o<;>simp only[qe]at h3
 ·exact .inl ⟨_,rfl,h3⟩
 ·exact .inr (.inr (.inr (.inl ⟨_,rfl,h3.symm⟩)))
 ·exact .inr (.inr (.inl ⟨_,rfl,h3.symm⟩))
 ·exact .inr (.inl ⟨_,rfl,h3⟩)
 ·exact .inr (.inr (.inr (.inr ⟨_,rfl,h3.symm⟩)))
def gEx(K:uz)(T:Tx)(is:List Nat)(tp:Bool):TG:=fun v σ H Q=>∃ρ S ρ1 d,bD is tp d ρ=some ρ1∧gD K T S is ρ ρ1 d v σ H Q
theorem WM(xc:XC CX X c G T lv)(xs:XS CX T X c EX){n:Nat}{tg iter:Expr}{body:List Stmt}{av:List Nat}{tp:Bool}{k:Src}{src:IE}{ib:IS}(de:cM c tg=some (av,tp))(hi:cI n c iter=some (k,src))(la:LC k tg)(hb:PSs X body (bb X.K T S₀ H₀ fr EX G ib)) :
  PS X (.For tg iter body [] pos) (bb X.K T S₀ H₀ fr EX G (.loop av tp k src ib)):=fun pins s σ H D I ⟨ρ,out,S,hex,si,po⟩=>by
 simp only[ex,ql,qg]at hex;obtain⟨d,hd,ds,az,i9⟩:=hex;obtain⟨hit,hset⟩:=(bV n).2.2.2.2 X c S ρ iter k src xc hi d ds hd az;have hg:PG X tg (gEx X.K T av tp):=fun pins s σ H v u Q I r ⟨ρ,S,ρ1,d,ly,h⟩=>OW xc de ly pins s σ H v u Q I r h
 refine rY xs.pass xc.calm (hit tg la) hg hb hset pins s σ H D I ⟨si.re,fun J H1 sm i6 hlen=>?_⟩
 refine⟨fun i m σ H=>∃ρi Si,m=ds.length-i∧i≤ds.length∧cV (bD av tp) (ex G ib) (ds.drop i) ρi=some out∧SInv X.K T S₀ H₀ Si ρi σ H∧aK X.K H1 H S Si,⟨ds.length,ρ,S,by simp,uu _,by simpa using i9,si.step sm,aK.refl⟩,?_⟩
 rintro i m σ' H' ⟨ρi,Si,rfl,hile,o3,jd,mv⟩;obtain⟨ny,nv⟩:=i6 H' Si mv jd.re.dom;have i0:FU X.K T S₀ H₀ fr EX H' Si D out:=po.step ((aK.same sm).trans mv)
 by_cases dy:i<ds.length
 ·refine .inr ?_;have hdr:ds.drop i=ds[i]::ds.drop (i+1):=List.drop_eq_getElem_cons dy
  rw[hdr]at o3;obtain⟨ρ1,o,ly,hbo,cx⟩:=yR o3;obtain⟨hgo',hy⟩:=ny i ds[i] (by simp[dy])
  refine⟨hgo',fun σ2 H2=>∃ρ2 S2,cV (bD av tp) (ex G ib) (ds.drop (i+1)) ρ2=some out∧SInv X.K T S₀ H₀ S2 ρ2 σ2 H2∧aK X.K H1 H2 S S2,fun σ2 H2 ⟨ρ2,S2,a,b,c⟩=>⟨ds.length-(i+1),by omega,ρ2,S2,rfl,dy,a,b,c⟩,fun x H2 nz=>?_⟩
  obtain⟨s2,rx⟩:=hy x H2 nz;refine⟨ρi,Si,ρ1,ds[i],ly,(jd.step s2).re,rx,fun σ3 je ag=>⟨ρ1,o,Si,hbo,(jd.step s2).bind ly je ag,?_⟩⟩
  have k7:aK X.K H1 H2 S Si:=mv.trans (aK.same s2)
  rcases cx with ⟨ρ2,rfl,hr⟩|⟨ρ2,rfl,hr⟩|⟨ρ2,rfl,rfl⟩|⟨d',rfl,rfl⟩|⟨x',rfl,rfl⟩
  ·exact fun S3 σ4 H4 fv fx=>⟨ρ2,S3,hr,fv,k7.trans fx⟩
  ·exact fun S3 σ4 H4 fv fx=>⟨ρ2,S3,hr,fv,k7.trans fx⟩
  ·exact fun S3 σ4 H4 fv fx=>i0 S3 σ4 H4 fv ((aK.same s2).trans fx)
  ·exact i0
  ·exact i0
 ·have hn:i=ds.length:=by omega
  refine .inl ⟨nv i (by omega),?_⟩
  rw[hn,List.drop_length]at o3;simp only[cV,qe]at o3;subst o3;exact i0 Si σ' H' jd aK.refl
theorem GJ(xc:XC CX X c G T lv)(xs:XS CX T X c EX){n:Nat}{t:Expr}{ir:IE}{body:List Stmt}{ib:IS}(ht:cT n c t=some ir)(hb:PSs X body (bb X.K T S₀ H₀ fr EX G ib)) :
  PS X (.While t body [] pos) (bb X.K T S₀ H₀ fr EX G (.whl ir ib)):=fun pins s σ H D I ⟨ρ,out,S,hex,si,po⟩=>by
 simp only[ex]at hex;have hc:PT X t (fun σ H Q=>∃ρ k,ev G ir (view ρ)=some (.bl k)∧RE X.K T H (fun _=>False) (view ρ) σ∧∀H',aF H H'→Q k H'):=fun pins s σ H Q I ⟨ρ,k,h1,h2,h3⟩=>(bV n).2.1 X c (fun _=>False) (view ρ) t ir xc ht k h1 pins s σ H Q I ⟨h2,h3⟩
 refine HG xs.pass hc hb pins s σ H D I ⟨fun m σ' H'=>∃ρi Si,dH (fun ρ=>ev G ir (view ρ)) (ex G ib) m ρi=some out∧SInv X.K T S₀ H₀ Si ρi σ' H'∧aK X.K H H' S Si,⟨5000,ρ,S,hex,si,aK.refl⟩,?_⟩
 rintro m σ' H' ⟨ρi,Si,hw,jd,mv⟩;cases m with
 |zero=>simp[dH]at hw
 |succ m =>
  simp only[dH,ql,qg]at hw;obtain⟨w,hw1,hw⟩:=hw;cases w<;>first|(simp only[reduceCtorEq]at hw;done)|skip
  rename_i k;refine⟨ρi,k,hw1,jd.re.view,fun H2 sm=>?_⟩
  have i0:FU X.K T S₀ H₀ fr EX H2 Si D out:=po.step (mv.trans (aK.same sm))
  cases k with
  |false =>
   simp only[qe]at hw;subst hw;exact jZ (i0 Si σ' H2 (jd.step sm) aK.refl)
  |true =>
   simp only[qg]at hw;obtain⟨o,ho,hw⟩:=hw;refine yH ⟨fun σ2 H3=>∃ρ2 S2,dH (fun ρ=>ev G ir (view ρ)) (ex G ib) m ρ2=some out∧SInv X.K T S₀ H₀ S2 ρ2 σ2 H3∧aK X.K H H3 S S2,fun σ2 H3 ⟨ρ2,S2,a,b,c⟩=>⟨m,ug m,ρ2,S2,a,b,c⟩,ρi,o,Si,ho,jd.step sm,?_⟩
   have k7:=mv.trans (aK.same (K:=X.K) (S:=Si) sm)
   cases o with
   |nx ρ2=>exact fun S3 σ4 H4 fv fx=>⟨ρ2,S3,hw,fv,k7.trans fx⟩
   |ct ρ2=>exact fun S3 σ4 H4 fv fx=>⟨ρ2,S3,hw,fv,k7.trans fx⟩
   |bk ρ2=>simp only[qe]at hw;subst hw;exact fun S3 σ4 H4 fv fx=>i0 S3 σ4 H4 fv fx
   |rt d=>simp only[qe]at hw;subst hw;exact i0
   |er x=>simp only[qe]at hw;subst hw;exact i0
end Z
namespace Z
open PySem PySem.Spec PyProof.Rows L2
variable {CX:aj}{G:GS}{T:Tx}{lv:Nat}{X:Cx}{c:CC}{S₀:Addr→Prop}{H₀:Hp}{fr:Bool}{EX:Str→Hp→Prop}{pos:Pos}
theorem QM(h:XC CX X c G T lv){S:Addr→Prop}{ρ:List Sl}{x:Str}{es:List Expr}{ds:List D}{p:Pos}{k:Str}{C:Addr}{E1:XK}(hg:aP c x=true)(hf:c.fns.contains x=true)(ha:PA X es (b9 X.K T S ρ ds))(hs:starEach es X.env=es.map fun e=>(false,eval e X.env))(hlen:ds.length=es.length)
  (hd:G.fn x ds=some (.er k)) (hT:T.xc k=some C) (hp:fU CX X E1):PE X (.Call (.Name x p) es [] pos) (fun σ H Q=>RE X.K T H S ρ σ∧∀H',aF H H'→E1 (.ref C) none H'):=by
 obtain⟨f,fd,ps,hm,hk,hb,hl,F⟩:=h.go.fn x hf;have key:∀σ H Q,(RE X.K T H S ρ σ∧∀H',aF H H'→E1 (.ref C) none H')→uZ (fc X.K T ps.length (G.fn x) (G.ff x)) [] E1 (b9 X.K T S ρ ds) σ H Q:=fun σ H Q ⟨re,q⟩ =>
  ⟨re,fun vs H1 s1 r1=>⟨by rw[sk,←r1.len];exact hl ds _ hd,S,ds,(re.same s1).dom,by rw[sk];exact r1,.inr ⟨k,C,hd,hT,fun H' s2=>q H' (s1.trans s2)⟩⟩⟩
 cases es with
 |nil =>
  refine PE.mono (vK F h.room (h.glob hg) hm hk hb .nil hp (h.gne hg)) fun σ H Q hq=>?_
  obtain⟨re,q⟩:=hq;have az:ds=[]:=so.mp hlen
  subst az;exact(key σ H Q ⟨re,q⟩).2 [] H (aF.refl H) aD.nil
 |cons e es =>
  obtain⟨h1,h2⟩:=pX (pos:=pos) hs;exact PE.mono (sC F h.room (h.glob hg) hm hk hb .nil hp ha (h.gne hg) h1 h2) key
theorem QK(h:XC CX X c G T lv){S:Addr→Prop}{ρ:List Sl}{ea:Expr}{m cn:Str}{fs:List (Str×D)}{es:List Expr}{ds:List D}{apos:Pos}{k:Str}{C:Addr}{E1:XK}(ht:pE X ea m es apos pos)(ho:PE X ea (tD X.K T S ρ (.obj cn fs)))(hn:fs.lookup m=none)
  (ha:PA X es (b9 X.K T S ρ ds)) (hs:starEach es X.env=es.map fun e=>(false,eval e X.env)) (hlen:ds.length=es.length) (hd:G.me cn m (.obj cn fs::ds)=some (.er k)) (hT:T.xc k=some C) (hp:fU CX X E1) :
  PE X (.Call (.Attribute ea m apos) es [] pos) (fun σ H Q=>RE X.K T H S ρ σ∧∀H',aF H H'→E1 (.ref C) none H'):=by
 obtain⟨pl,ht⟩:=ht;intro pins s σ H Q I ⟨re,q⟩;refine PySem.W.methodCall_KW (pl:=pl) (ae (ho pins s σ H (fun v H'=>aF H H'∧Rep X.K T H' S (.obj cn fs) v) I ⟨re,fun v H' a b=>⟨a,b⟩⟩) fun u s1 ⟨x,H1,I1,rx,sm,ro⟩=>?_) ht
 have ro':=ro
 unfold Rep at ro;obtain⟨p,C',dx,gs,ex,_,ec,e,rf⟩:=ro;subst ex;obtain rfl:u=Value.ref p:=rx;obtain⟨f,fd,ps,hm,hb,hl,F⟩:=h.go.me cn C' m _ _ ec hd;refine oH I1 e (h.go.cls cn C' ec) hm ((bX.look rf).2 hn) ?_;have fin:∀(us:List Value) (vs:List V) (s2:Shared) (H2:Hp),Inv X pins σ H2 s2→aQ vs us→aF H1 H2→aD X.K T H2 S ds vs→wpAny (model X.prog X.w) X.A (call (.ref f) (.ref p::us)) (EP X pins σ Q) X.xe s2:=fun us vs s2 H2 I2 r2 dj rl=>by
  refine rT (us:=.ref p::us) (vs:=.ref p::vs) (dvs:=[]) (ds:=[]) (E:=E1) F h.room hb .nil hp I2 (.cons rfl r2) ?_;refine⟨?_,S,.obj cn fs::ds,((re.same sm).same dj).dom,?_,.inr ⟨k,C,hd,hT,fun H' s3=>q H' ((sm.trans dj).trans s3)⟩⟩
  ·have:=hl _ _ hd
   simp only[sk,ui]at this ⊢;rw[←rl.len];exact this
  ·rw[sk];exact aD.cons (ro'.same dj) rl
 cases es with
 |nil =>
  have az:ds=[]:=so.mp hlen
  subst az;exact callWith_K0 (first:=[.ref p]) I1.kIn hm.kp (fin [] [] s1 H1 I1 .nil (aF.refl _) aD.nil)
 |cons e es =>
  obtain⟨h1,h2⟩:=pX (pos:=pos) hs;refine callWith_K (first:=[.ref p]) (h₀:=X.base) I.ok.mod.kin hm.kp (ae (ha pos pins s1 σ H1 (fun vs H'=>aF H1 H'∧aD X.K T H' S ds vs) I1 ⟨re.same sm,fun vs H' a b=>⟨a,b⟩⟩) fun us s2 ⟨vs,H2,I2,r,dj,rl⟩=>⟨I2.kIn,?_⟩) h1 h2
  exact fin us vs s2 H2 I2 r dj rl
theorem UG(xc:XC CX X c G T lv){S:Addr→Prop}{ρ:List Sl}{n:Nat}{f:Expr}{args:List Expr}{kw:List Keyword}{p:Pos}{ir:IE}{k:Str}{C:Addr}{E1:XK}(he:cE n c (.Call f args kw p)=some ir)(hr:gu G ir ρ=some (.er k))(hT:T.xc k=some C)(hp:fU CX X E1) :
  PE X (.Call f args kw p) (fun σ H Q=>RE X.K T H S ρ σ∧∀H',aF H H'→E1 (.ref C) none H'):=by
 cases n with
 |zero=>exact nomatch (show none=some ir from he)
 |succ n =>
  obtain⟨hE,ef,hB,hA,hI⟩:=bV (CX:=CX) (G:=G) (T:=T) (lv:=lv) n;obtain⟨hkw,he⟩:=aX he;obtain rfl:=iY hkw;cases f<;>first|exact nomatch (show none=some ir from he)|skip
  case Attribute o m ap _ =>
   obtain⟨hc,he⟩:=aX he;obtain⟨hc,hc3⟩:=bM hc;obtain⟨hc1,gp⟩:=bM hc;obtain⟨x,hx,he⟩:=aE he;obtain⟨y,hy,rfl⟩:=aM he;simp only[gu]at hr;split at hr
   ·rename_i cn fs hw;obtain⟨hnone,hr⟩:=aX hr;obtain⟨ds,az,hd⟩:=aE hr;obtain⟨ds',e1,hl,pa,hs⟩:=hA X _ S ρ args y xc hy _ (bZ az);cases e1;exact QK xc (vP hc1 hs (of_decide_eq_true gp) hc3) (hE X _ S ρ o x xc hx _ hw).1 (Option.isNone_iff_eq_none.mp hnone) pa hs hl hd hT hp
   ·cases hr
  case Name x px _ =>
   obtain⟨hg,he⟩:=aX he;cases hf:c.fns.contains x with
   |true =>
    rw[hf]at he;obtain⟨y,hy,rfl⟩:=aM (show (cA n c args).map (fun y=>IE.call x y)=some ir from he)
    obtain⟨ds,az,hd⟩:=aE (show (bC (ev G y ρ)).bind (G.fn x)=some (.er k) from hr)
    obtain⟨ds',e1,hl,pa,hs⟩:=hA X _ S ρ args y xc hy _ (bZ az);cases e1;exact QM xc hg hf pa hs hl hd hT hp
   |false =>
    exfalso
    rw[hf]at he;have no:∀{o:Option IE} {g:IE→IE},(∀y,gu G (g y) ρ=none)→o.map g=some ir→False:=fun {o g} hn z=>by
     obtain⟨y,_,rfl⟩:=aM z;rw[hn y]at hr;cases hr
    cases ar:c.cls.contains x with
    |true=>rw[ar]at he;exact no (g:=fun y=>IE.mk x y) (fun _=>rfl) he
    |false =>
     rw[ar]at he;cases hi:x == "isinstance" with
     |true =>
      rw[hi]at he;have he:GV (cE n c) c args=some ir:=he
      match args,he with
      |[a,y],he =>
       obtain⟨y',_,he⟩:=aE he;obtain⟨_,he⟩:=aX he;exact no (g:=fun z=>IE.isi z y'.1) (fun _=>rfl) he
     |false =>
      rw[hi]at he;obtain⟨b,hb,he⟩:=aE (show (pA x).bind (fun b=>DS (cE n c) c b args (cA n c args))=some ir from he)
      unfold DS at he;have nb:∀b:BF,((cA n c args).map fun z=>IE.bcall b z)=some ir→False:=fun b he=>no (g:=fun z=>IE.bcall b z) (fun _=>rfl) he
      split at he
      ·rename_i i _;cases b<;>first|exact nb _ he|(cases (show some _=some ir from he);cases hr)
      ·cases hra:xJ c args with
       |none =>
        rw[hra]at he;cases hq:(one? args).bind (xI c) with
        |none=>rw[hq]at he;exact nb b (by cases b<;>exact he)
        |some a=>rw[hq]at he;cases b<;>first|exact nb _ he|exact no (g:=fun z=>IE.walk .rng (.tup (.cons z .nil))) (fun _=>rfl) he
       |some a=>rw[hra]at he;cases b<;>first|exact nb _ he|exact no (g:=fun z=>IE.walk .rev z) (fun _=>rfl) he
theorem NJ(xc:XC CX X c G T lv)(xs:XS CX T X c EX){n:Nat}{f:Expr}{args:List Expr}{kw:List Keyword}{p:Pos}{ir:IE}(he:cE n c (.Call f args kw p)=some ir):PS X (.Expr (.Call f args kw p) pos) (bb X.K T S₀ H₀ fr EX G (.drop ir)):=fun pins s σ H D I ⟨ρ,out,S,hx,si,po⟩=>by
 simp only[ex]at hx;split at hx
 ·rename_i d hd;cases hx;exact eY ((bV n).1 X c (fun _=>False) (view ρ) _ ir xc he d hd).1 rfl pins s σ H D I ⟨si.re.view,fun v H' sm _=>po S σ H' (si.step sm) (aK.same sm)⟩
 ·split at hx
  ·rename_i k hk;split at hx
   ·rename_i hn;cases hx;obtain⟨C,hT⟩:=xc.go.xns k hn;refine eY (UG (S:=fun _=>False) (E1:=fun cls _ H'=>∃k C,T.xc k=some C∧cls=.ref C∧EX k H') xc he hk hT (xs.pss _ fun cls H' z=>z)) rfl pins s σ H D I ⟨si.re.view,fun H' sm=>⟨k,C,hT,rfl,po H' (si.same.trans sm)⟩⟩
   ·cases hx
  ·cases hx
theorem XC.re{X':Cx}(xc:XC CX X c G T lv)(h1:X'.prog=X.prog)(h2:X'.w=X.w)(h3:X'.K=X.K)(h4:X'.mg=X.mg)(h5:X'.base=X.base)(h6:X'.N=X.N)(h7:X'.env=X.env)(h8:X'.fn=X.fn)(h9:X'.calm=X.calm)(h10:X'.A=X.A):XC CX X' c G T lv:=by
 obtain⟨pr,w,K,mg,base,A,N,s0,H0,env,outer,stack,ex,fn,calm,pn,xe⟩:=X;obtain⟨pr',w',K',mg',base',A',N',s0',H0',env',outer',stack',ex',fn',calm',pn',xe'⟩:=X';dsimp only at h1 h2 h3 h4 h5 h6 h7 h8 h9 h10;subst h1 h2 h3 h4 h5 h6 h7 h8 h9 h10;exact⟨xc.N,xc.nd,xc.kd,xc.own,xc.dbg,xc.gdb,xc.calm,xc.room,⟨xc.go.fn,xc.go.me,xc.go.cls,xc.go.fld,xc.go.mo,xc.go.cst,xc.go.bi,xc.go.xcl,xc.go.frs,xc.go.cx0,xc.go.cxf,xc.go.xns,xc.go.xk,xc.go.sub,xc.go.wd,xc.go.dk⟩⟩
abbrev OR(X:Cx)(pins:v9)(W:v8):Cx:={ X with pn:=X.pn++pins,xe:=W }
theorem aAc{pins:v9}{σ:L2.St}{H:Hp}{s:Shared}{W:v8}(I:Inv X pins σ H s):Inv (OR X pins W) [] σ H s:=
 ⟨⟨I.ok.mod,I.ok.kind,I.ok.glob,I.ok.blt,I.ok.above,I.ok.inj,I.ok.has,I.ok.cab,I.ok.hd,I.ok.frames,I.ok.stk,I.ok.exf,I.ok.bs,I.ok.bsz,I.ok.noex,I.ok.exfs,I.ok.funs,I.ok.frf⟩,I.os,I.bare,I.base,I.loc,I.cell,I.free,I.freeC,fun p hp=>I.pin p (by simpa using hp),I.hok,I.len⟩
theorem JJ{pins cu:v9}{σ:L2.St}{H:Hp}{s:Shared}{W:v8}(ok:X.Ok)(I:Inv (OR X pins W) cu σ H s):Inv X pins σ H s:=
 ⟨ok,I.os,I.bare,I.base,I.loc,I.cell,I.free,I.freeC,fun p hp=>I.pin p (List.mem_append_left _ hp),I.hok,I.len⟩
theorem aAu{ir:IE}{ρ:List Sl}{d:D}(h:gu G ir ρ=some (.ok d)):ev G ir ρ=some d:=by
 cases ir<;>simp only[gu,reduceCtorEq]at h
 ·simp only[ev,ql];cases q:bC (ev G _ ρ) with
  |none=>rw[q]at h;cases h
  |some as=>rw[q]at h;show iJ (G.fn _ as)=_;rw[show G.fn _ as=_ from h];rfl
 ·simp only[ev,ql];split at h
  ·rename_i c fs hw;rw[hw];split at h
   ·rename_i hn;show (if _ then _ else _)=_
    rw[if_pos hn];cases q:bC (ev G _ ρ) with
    |none=>rw[q]at h;cases h
    |some as=>rw[q]at h;show iJ (G.me _ _ _)=_;rw[show G.me _ _ _=_ from h];rfl
   ·cases h
  ·cases h
theorem CM{c:CC}{nm:Option Str}{e:Expr}{f:Str}(h:cW c nm e=some f):∃p1 y p2 p3,e=.Call (.Name f p1) [.Name y p2] [] p3∧nm=some y∧aP c f=true:=by
 obtain⟨q,h1,h⟩:=aE h;obtain⟨g,h2,h⟩:=aE h;obtain⟨a,h3,h⟩:=aE h;obtain⟨y,h4,h⟩:=aE h;obtain⟨h5,h⟩:=aX h;obtain⟨h5,h7⟩:=bM h5;obtain⟨h5,h6⟩:=bM h5;cases h;exact⟨g.2,y.1,y.2,q.2.2.2,by rw[dB h1,cD h2,bJ h3,cD h4,iY h5],su.mp h6,h7⟩
theorem aAy{c:CC}{nm:Option Str}{e:Expr}{r:HR}(h:cH c nm e=some r):(∃b j q,e=.Constant (.bool b) j q∧r=.lit (.bl b))∨(∃f p1 y p2 p3,e=.Call (.Name f p1) [.Name y p2] [] p3∧nm=some y∧aP c f=true∧r=.word f) ∨
  (∃f p1 y p2 p3 x j p4 p5,e=.Compare (.Call (.Name f p1) [.Name y p2] [] p3) [.Eq] [.Constant (.str x) j p4] p5∧nm=some y∧aP c f=true∧r=.weq f x):=by
 have wd:(cW c nm e).map HR.word=some r→(∃f p1 y p2 p3,e=.Call (.Name f p1) [.Name y p2] [] p3∧nm=some y∧aP c f=true∧r=.word f):=fun h=>by
  obtain⟨f,h1,rfl⟩:=aM h;obtain⟨p1,y,p2,p3,a,b,d⟩:=CM h1;exact⟨f,p1,y,p2,p3,a,b,d,rfl⟩
 cases e<;>first|exact .inr (.inl (wd h))|skip
 case Compare e os bs p =>
  obtain⟨f,h1,h⟩:=aE h;obtain⟨o,h2,h⟩:=aE h;obtain⟨b,h3,h⟩:=aE h;obtain⟨x,h4,h⟩:=aE h;obtain⟨h5,h⟩:=aX h;cases h;obtain⟨p1,y,p2,p3,rfl,a,d⟩:=CM h1;obtain⟨j,p4,rfl⟩:=pV h4;have ho:o=.Eq:=by cases o<;>first|rfl|exact nomatch (show false=true from h5)
  subst ho;exact .inr (.inr ⟨f,p1,y,p2,p3,x,j,p4,p,by rw[bJ h2,bJ h3],a,d,rfl⟩)
 case Constant v k p =>
  cases v<;>first|exact .inr (.inl (wd h))|skip
  cases (show some _=some r from h)
  exact .inl ⟨_,_,_,rfl,rfl⟩
theorem vA(xc:XC CX X c G T lv){nm:Option Str}{e:Expr}{r:HR}{rp:Pos}{a C:Addr}{k:Str}{d:D}{σ0:L2.St}{H1:Hp}{rt:VK}{S:Addr→Prop}(hr:cH c nm e=some r)(hd:f7 G k r=some d)(hT:T.xc k=some C)(dq:∀n,nm=some n→∃i:Nat,c.N[i]?=some n∧c.sc.names.lookup n=some .local∧(n == ("__debug__":Str))=false∧(n == ("__classdict__":Str))=false∧σ0[i]?=some (some (V.ref a)))
  (hx:H1 a=some (.ext (isExc a C))) (hq:∀v H',aF H1 H'→Rep X.K T H' S d v→rt v H'):PSs (fR X a) [.Return (some e) rp] (fun D' σ' d9=>D'=lB rt∧σ'=σ0∧d9=H1):=by
 have word:∀{f y:Str} {p1 p2 p3:Pos} {x:Str},nm=some y→aP c f=true→G.wd f k=some x→PE (fR X a) (.Call (.Name f p1) [.Name y p2] [] p3) (fun σ' d9 Q=>σ'=σ0∧d9=H1∧∀H',aF H1 H'→Q (.str x) H'):=fun {f y p1 p2 p3 x} e1 hg hw=>by
  obtain⟨i,h1,h2,h3,h4,h5⟩:=dq y e1;obtain⟨fa,fd,ps,j,hj,hm,hk,hb,F⟩:=xc.go.wd f k x C hT hw;have kd:X.env.kindOf y=some .local:=by
   have:=xc.kd y
   rw[h2]at this;exact this
  have pv:PE (fR X a) (.Name y p2) (pH i):=lF (X:=fR X a) (by show X.N[i]?=_;rw[xc.N];exact h1) (.inl kd) h3 h4
  have rm:RoomM j (fR X a).A:=⟨((TM xc.room).mono hj).dp,((TM xc.room).mono hj).un⟩
  refine PE.mono (HP (X:=fR X a) F rm (xc.glob hg) hm hk hb (aR pv bU) (xc.gne hg) rfl rfl) fun σ' d9 Q hh=>?_
  obtain⟨rfl,rfl,q⟩:=hh;exact⟨.ref a,h5,a,rfl,hx,q⟩
 refine dP ?_
 rcases aAy hr with ⟨b,j,q,rfl,rfl⟩|⟨f,p1,y,p2,p3,rfl,h1,h2,rfl⟩|⟨f,p1,y,p2,p3,x,j,p4,p5,rfl,h1,h2,rfl⟩
 ·simp only[f7,Lit.d,qe]at hd;subst hd;intro pins s σ' d9 D' I hh;obtain⟨rfl,rfl,rfl⟩:=hh;exact gF zV pins s _ _ _ I (hq _ _ (aF.refl _) bN)
 ·simp only[f7,qv]at hd;obtain⟨x,hw,rfl⟩:=hd;intro pins s σ' d9 D' I hh;obtain⟨rfl,rfl,rfl⟩:=hh;exact gF (word h1 h2 hw) pins s _ _ _ I ⟨rfl,rfl,fun H' sm=>hq _ H' sm (by unfold Rep;rfl)⟩
 ·simp only[f7,qv]at hd;obtain⟨z,hw,rfl⟩:=hd;intro pins s σ' d9 D' I hh;obtain⟨rfl,rfl,rfl⟩:=hh;refine gF (zT aDy (word h1 h2 hw) fM (IJ _)) pins s _ _ _ I ⟨rfl,rfl,fun H' sm=>⟨rfl,?_⟩⟩
  rw[uH];exact hq _ H' sm bN
theorem aEL{k:Str}{r:HR}{d:D}(h:f7 G k r=some d):∀ds,d≠.lst ds:=by
 intro ds z;subst z;cases r with
 |lit l=>cases l<;>simp only[f7,Lit.d,qe,reduceCtorEq]at h
 |word f=>simp only[f7,qv,reduceCtorEq,and_false,exists_false]at h
 |weq f x=>simp only[f7,qv,reduceCtorEq,and_false,exists_false]at h
theorem WE(xc:XC CX X c G T lv)(xs:XS CX T X c EX){n:Nat}{f:Expr}{args:List Expr}{kw:List Keyword}{p ep np rp hp:Pos}{ir:IE}{x:Str}{nm:Option Str}{e:Expr}{i:Option Nat}{r:HR}(hg:aP c x=true)(hn:cN c nm=some i)(hr:cH c nm e=some r)(he:cE n c (.Call f args kw p)=some ir) :
  PS X (.Try [.Expr (.Call f args kw p) ep] [.ExceptHandler (some (.Name x np)) nm [.Return (some e) rp] hp] [] [] pos) (bb X.K T S₀ H₀ fr EX G (.tryx ir x i r)):=fun pins s σ H D I ⟨ρ,out,S,hx,si,po⟩=>by
 refine wpAny_Try_except ?_;simp only[ex]at hx;split at hx
 ·rename_i d hd;cases hx;have j7:ev G ir (view ρ)=some d:=aAu hd
  have pn:PSs X.nox [.Expr (.Call f args kw p) ep] (TJ (tD X.K T (fun _=>False) (view ρ) d)):=dP (eY ((bV n).1 X.nox c (fun _=>False) (view ρ) _ ir (xc.re rfl rfl rfl rfl rfl rfl rfl rfl rfl rfl) he d j7).1 rfl)
  refine ua (pn pins s σ H { nx:=fun σ' H'=>D.nx σ' H',rt:=fun _ _=>False } (I.wish _) ⟨si.re.view,fun v H' sm _=>po S σ H' (si.step sm) (aK.same sm)⟩) (fun fl s1 h1=>?_) fun _ _ z=>z.elim
  cases fl with
  |next =>
   obtain⟨σ',H',I',q⟩:=h1;exact wpAny_execs_nil ⟨σ',H',I'.unwish,q⟩
  |brk=>obtain⟨_,_,_,z⟩:=h1;exact z.elim
  |cont=>obtain⟨_,_,_,z⟩:=h1;exact z.elim
  |ret u=>obtain⟨_,_,_,_,_,z⟩:=h1;exact z.elim
 ·rename_i k hk;split at hx
  ·rename_i hb;rw[qt,qt]at hb;simp only[qv]at hx;obtain⟨d,hd,rfl⟩:=hx;obtain⟨C,hT⟩:=xc.go.xns k hb.1.1;obtain⟨L,hL⟩:=xc.go.xns x hb.1.2;have mM:=xc.go.sub k x C L hT hL hb.2
   have f6:∀ds,d≠.lst ds:=aEL hd
   have fin:∀v H',aF H H'→Rep X.K T H' S₀ d v→D.rt v H':=fun v H' sm rp=>po v H' (si.same.trans sm) rp fun _ ds z=>absurd z (f6 ds)
   have hCx:=xc.go.xk k C hT
   have hLx:=xc.go.xk x L hL
   have hmL:=xc.go.xcl x L hL
   have di:∀{H':Hp} {a:Addr},aF H H'→H' a=none→aF H (upd H' a (.ext (isExc a C))):=fun {H' a} sm ha=>sm.trans (aF.upd ha)
   have hp1:fU CX (OR X pins fun v s1=>wpAny (model X.prog X.w) X.A (noteFrame v X.env) (fun _ s₂=>wpAny (model X.prog X.w) X.A (setFlight v none) (fun _ s₃=>wpAny (model X.prog X.w) X.A (handleBy v X.env [.ExceptHandler (some (.Name x np)) nm [.Return (some e) rp] hp]) (SP X pins D) X.xe s₃) X.xe s₂) X.xe s1) (fun cls _ H'=>cls=.ref C∧aF H H'):=by
    intro cu σ1 H1 s1 v s2 I1 hcx;obtain⟨a,cls,a0,B,H',rfl,F,rfl,sm⟩:=xc.go.cxf _ _ _ _ _ _ hcx;have I2:=JJ I.ok I1
    cases nm with
    |none =>
     refine aAx (rt:=D.rt) I2 F xs.stk xs.frm hCx hLx mM (xc.glob hg) (xc.gne hg) hmL rfl (vA (S:=S₀) xc hr hd hT (fun n z=>by cases z) aH fun v H2 jx rp=>fin v H2 ((di sm F.new).trans jx) rp)
    |some nn =>
     simp only[cN]at hn;split at hn
     ·rename_i hc;simp only[qt,su,not_eq_true']at hc;simp only[qv]at hn;obtain⟨ii,hii,rfl⟩:=hn;have hNi:=hV hii
      have kd:X.env.kindOf nn=some .local:=by
       have:=xc.kd nn
       rw[hc.1.1]at this;exact this
      have dy:ii<σ1.length:=by rw[I2.len,xc.N];exact(q9.mp hNi).1
      refine KY (rt:=D.rt) (i:=ii) I2 F xs.stk xs.frm hCx hLx mM (xc.glob hg) (xc.gne hg) hmL rfl (by rw[xc.N];exact xc.nd) (by rw[xc.N];exact hNi) kd (vA (S:=S₀) xc hr hd hT (fun n z=>?_) aH fun v H2 jx rp=>fin v H2 ((di sm F.new).trans jx) rp)
      cases z;exact⟨ii,hNi,hc.1.1,hc.1.2,hc.2,by rw[r8 dy]⟩
     ·cases hn
   have xc1:XC CX (OR X pins fun v s1=>wpAny (model X.prog X.w) X.A (noteFrame v X.env) (fun _ s₂=>wpAny (model X.prog X.w) X.A (setFlight v none) (fun _ s₃=>wpAny (model X.prog X.w) X.A (handleBy v X.env [.ExceptHandler (some (.Name x np)) nm [.Return (some e) rp] hp]) (SP X pins D) X.xe s₃) X.xe s₂) X.xe s1) c G T lv:=xc.re rfl rfl rfl rfl rfl rfl rfl rfl rfl rfl
   have pn:=dP (eY (pos:=ep) (UG (S:=fun _=>False) xc1 he hk hT hp1) rfl)
   refine ua (pn [] s σ H { nx:=fun _ _=>False,rt:=fun _ _=>False } (aAc I) ⟨si.re.view,fun H' sm=>⟨rfl,sm⟩⟩) (fun fl s1 h1=>?_) fun _ _ z=>z
   cases fl with
   |next=>obtain⟨_,_,_,z⟩:=h1;exact z.elim
   |brk=>obtain⟨_,_,_,z⟩:=h1;exact z.elim
   |cont=>obtain⟨_,_,_,z⟩:=h1;exact z.elim
   |ret u=>obtain⟨_,_,_,_,_,z⟩:=h1;exact z.elim
  ·cases hx
 ·cases hx
end Z
namespace Z
open PySem PySem.Spec PyProof.Rows L2
variable {CX:aj}{G:GS}{T:Tx}{lv:Nat}{X:Cx}{c:CC}{S₀:Addr→Prop}{H₀:Hp}{fr:Bool}{EX:Str→Hp→Prop}{pos:Pos}
def aAT(CX:aj)(G:GS)(T:Tx)(lv:Nat)(S₀:Addr→Prop)(H₀:Hp)(fr:Bool)(EX:Str→Hp→Prop)(n:Nat):Prop:=∀(X:Cx) (c:CC) (st:Stmt) (is:IS),XC CX X c G T lv→XS CX T X c EX→cS n c st=some is→(fr=true→iA is=true)→PS X st (bb X.K T S₀ H₀ fr EX G is)
def SV(CX:aj)(G:GS)(T:Tx)(lv:Nat)(S₀:Addr→Prop)(H₀:Hp)(fr:Bool)(EX:Str→Hp→Prop)(n:Nat):Prop:=∀(X:Cx) (c:CC) (st:List Stmt) (is:IS),XC CX X c G T lv→XS CX T X c EX→il n c st=some is→(fr=true→iA is=true)→PSs X st (bb X.K T S₀ H₀ fr EX G is)
theorem DR{s:Stmt}{x:Option Expr×Pos}(h:aCA s=some x):s=.Return x.1 x.2:=by
 cases s<;>first|exact nomatch (show none=some x from h)|(cases (show some _=some x from h);rfl)
theorem KC{s:Stmt}{x:Expr×Pos}(h:exP s=some x):s=.Expr x.1 x.2:=by
 cases s<;>first|exact nomatch (show none=some x from h)|(cases (show some _=some x from h);rfl)
theorem FT{c:CC}{e:Expr}{q:Nat×Expr}(h:SR c e=some q):∃x p1 p2 p,e=.Call (.Attribute (.Name x p1) "append" p2) [q.2] [] p∧bB c x=some q.1∧(p2.endLine == p.line)=true:=by
 obtain⟨r,h1,h⟩:=aE h;obtain⟨g,h2,h⟩:=aE h;obtain⟨j,h3,h⟩:=aE h;obtain⟨a,h4,h⟩:=aE h;obtain⟨h5,h⟩:=aX h;obtain⟨h5,h7⟩:=bM h5;obtain⟨h5,h6⟩:=bM h5;cases h;obtain⟨x,p1,e3,hs⟩:=eC h3;refine⟨x,p1,g.2.2,r.2.2.2,?_,hs,h7⟩;rw[dB h1,kG h2,bJ h4,iY h5,e3,su.mp h6]
theorem xO{c:CC}{e:Expr}{j:Nat}(h:HJ c e=some j):∃x p1 p2 p k p3,e=.Call (.Attribute (.Name x p1) "pop" p2) [.Constant (.int 0) k p3] [] p∧bB c x=some j∧(p2.endLine == p.line)=true:=by
 obtain⟨r,h1,h⟩:=aE h;obtain⟨g,h2,h⟩:=aE h;obtain⟨j,h3,h⟩:=aE h;obtain⟨a,h4,h⟩:=aE h;obtain⟨h5,h⟩:=aX h;obtain⟨h5,h8⟩:=bM h5;obtain⟨h5,h7⟩:=bM h5;obtain⟨h5,h6⟩:=bM h5;cases h;obtain⟨x,p1,e3,hs⟩:=eC h3;have hz:∃k p3,a=.Constant (.int 0) k p3:=by
  unfold SY at h8;split at h8
  ·rename_i i k p3;have:i=0:=su.mp h8
   subst this;exact⟨k,p3,rfl⟩
  ·cases h8
 obtain⟨k,p3,e4⟩:=hz;refine⟨x,p1,g.2.2,r.2.2.2,k,p3,?_,hs,h7⟩;rw[dB h1,kG h2,bJ h4,iY h5,e3,e4,su.mp h6]
theorem GK{n:Nat}(xc:XC CX X c G T lv)(xs:XS CX T X c EX){e:Expr}{is:IS}(h:rX (cE n c) c e=some is):PS X (.Expr e pos) (bb X.K T S₀ H₀ fr EX G is):=by
 unfold rX at h;cases hp:HJ c e with
 |some j =>
  rw[hp]at h;cases h;obtain⟨x,p1,p2,p,k,p3,rfl,hs,hl⟩:=xO hp;exact NH xc hs hl
 |none =>
 rw[hp]at h;obtain⟨r,hr,h⟩:=aE h;obtain⟨u,hu,rfl⟩:=aM h;obtain rfl:=dB hr;exact NJ xc xs hu
theorem WN{n:Nat}(xc:XC CX X c G T lv)(xs:XS CX T X c EX){t e:Expr}{is:IS}(h:TR (cE n c) c e t=some is):PS X (.Assign [t] e pos) (bb X.K T S₀ H₀ fr EX G is):=by
 cases t<;>first|exact nomatch (show none=some is from h)|skip
 case Name x p =>
  obtain⟨i,hx,h⟩:=aE h;unfold GY at h;split at h
  ·split at h
   ·rename_i hz;cases h;unfold AI at hz;split at hz
    ·exact ND xc hx
    ·cases hz
   ·obtain⟨hf,h⟩:=aX h;obtain⟨y,hy,rfl⟩:=aM h;exact NC xc hx hy hf
  ·obtain⟨y,hy,rfl⟩:=aM h;exact WG xc hx hy
 case Subscript a i p =>
  obtain⟨j,hj,h⟩:=aE h;obtain⟨k,hkk,h⟩:=aE h;obtain⟨y,hy,rfl⟩:=aM h;obtain⟨x,p1,rfl,hs⟩:=eC hj;exact WK xc hs hkk hy
 case Tuple ts k p =>
  have h:xM (cE n c) c ts e=some is:=h
  unfold xM at h;cases ht:tupP e with
  |some q =>
   rw[ht]at h;exact nomatch (show none=some is from h)
  |none =>
   rw[ht]at h;obtain⟨is',his,h⟩:=aE h;obtain⟨u,hu,rfl⟩:=aM h;refine NB xc his hu fun vs k p z=>?_
   subst z;exact nomatch (show some _=none from ht)
theorem DY{n:Nat}(hS:SV CX G T lv S₀ H₀ fr EX n):aAT CX G T lv S₀ H₀ fr EX (n+1):=by
 intro X c st is xc xs h ak;cases st<;>first|exact nomatch (show none=some is from h)|skip
 case Pass q=>cases (show some IS.nop=some is from h);exact NI
 case Return v q =>
  cases v with
  |none=>cases (show some IS.retn=some is from h);exact NF
  |some e =>
   have h:(match eS c e with|some i=>some (IS.retm i)|none=>(cE n c e).map fun x=>IS.ret (gG c e) x)=some is:=h
   cases hm:eS c e with
   |some i =>
    rw[hm]at h;cases h;obtain⟨x,p,rfl,hs⟩:=eC hm;exact NG xc hs
   |none =>
    rw[hm]at h;obtain⟨y,hy,rfl⟩:=aM h;exact WJ xc hy (fun z=>z) fun z=>ak z
 case Assign ts e q =>
  obtain⟨t,ht,h⟩:=aE h;obtain rfl:=bJ ht;exact WN xc xs h
 case If t a b q =>
  obtain⟨u,hu,h⟩:=aE h;obtain⟨v,hv,h⟩:=aE h;obtain⟨w,hw,rfl⟩:=aM h;have o5:fr=true→iA v=true∧iA w=true:=fun z=>bM (ak z)
  exact aBY xc hu (hS X _ a v xc xs hv fun z=>(o5 z).1) (hS X _ b w xc xs hw fun z=>(o5 z).2)
 case For tg iter body jn q =>
  obtain⟨he,h⟩:=aX h;obtain rfl:=iY he;obtain⟨⟨av,tp⟩,de,h⟩:=aE h;obtain⟨⟨k,src⟩,hk,h⟩:=aE h;obtain⟨hen,h⟩:=aX h;have la:LC k tg:=MW de hen
  obtain⟨v,hv,rfl⟩:=aM h;exact WM xc xs de hk la (hS X _ body v xc xs hv fun z=>ak z)
 case While t body jn q =>
  obtain⟨he,h⟩:=aX h;obtain rfl:=iY he;obtain⟨u,hu,h⟩:=aE h;obtain⟨v,hv,rfl⟩:=aM h;exact GJ xc xs hu (hS X _ body v xc xs hv fun z=>ak z)
 case Expr e q =>
  have h:(match SR c e with|some q=>(cE n c q.2).map fun x=>IS.app q.1 x|none=>rX (cE n c) c e)=some is:=h
  cases ha:SR c e with
  |some r =>
   rw[ha]at h;obtain⟨u,hu,rfl⟩:=aM h;obtain⟨x,p1,p2,p,rfl,hs,hp⟩:=FT ha;exact WO xc hs hp hu
  |none =>
   rw[ha]at h;exact GK xc xs h
 case Raise e f q =>
  obtain⟨e',he,h⟩:=aE h;obtain⟨r,h1,h⟩:=aE h;obtain⟨x,h2,h⟩:=aE h;obtain⟨a,h3,h⟩:=aE h;obtain⟨m,h4,h⟩:=aE h;obtain⟨h5,h⟩:=aX h;obtain⟨h5,h8⟩:=bM h5;obtain⟨h5,h7⟩:=bM h5;obtain⟨h5,h6⟩:=bM h5;cases h;obtain⟨j,p',ea⟩:=pV h4;rw[he,Option.isNone_iff_eq_none.mp h5,dB h1,cD h2,bJ h3,iY h6,ea];exact WI xs h7 h8
 case Try b hs jn fin q =>
  obtain⟨h0,h⟩:=aX h;obtain⟨h1,h2⟩:=bM h0;obtain rfl:=iY h1;obtain rfl:=iY h2
  match hs,h with
  |[.ExceptHandler ty nm body hp],h =>
   obtain⟨s,a1,h⟩:=aE h;obtain⟨e,a2,h⟩:=aE h;obtain⟨r,a3,h⟩:=aE h;obtain⟨ty',a4,h⟩:=aE h;obtain⟨x,a5,h⟩:=aE h;obtain⟨s',a6,h⟩:=aE h;obtain⟨re,a7,h⟩:=aE h;obtain⟨re',a8,h⟩:=aE h;obtain⟨hg,h⟩:=aX h;obtain⟨i,hi,h⟩:=aE h;obtain⟨rr,hr,h⟩:=aE h;obtain⟨u,hu,rfl⟩:=aM h;have e3:=dB a3
   rw[e3]at hu;rw[bJ a1,KC a2,a4,cD a5,bJ a6,DR a7,a8,e3];exact WE xc xs hg hi hr hu
theorem DZ{n:Nat}(hS:aAT CX G T lv S₀ H₀ fr EX n)(hR:SV CX G T lv S₀ H₀ fr EX n):SV CX G T lv S₀ H₀ fr EX (n+1):=by
 intro X c st is xc xs h ak
 rcases st with _|⟨s,_|⟨s2,r⟩⟩
 ·cases (show some IS.nop=some is from h)
  exact WL
 ·exact dP (hS X c s is xc xs h ak)
 ·obtain⟨u,hu,h⟩:=aE h;obtain⟨v,hv,rfl⟩:=aM h;have o5:fr=true→iA u=true∧iA v=true:=fun z=>bM (ak z)
  exact WH (hS X c s u xc xs hu fun z=>(o5 z).1) (hR X c (s2::r) v xc xs hv fun z=>(o5 z).2)
theorem gZ:∀n,aAT CX G T lv S₀ H₀ fr EX n∧SV CX G T lv S₀ H₀ fr EX n
 | 0=>⟨fun X c st is xc xs h=>(nomatch (show none=some is from h)),fun X c st is xc xs h=>(nomatch (show none=some is from h))⟩
 |n+1=>⟨DY (gZ n).2,DZ (gZ n).1 (gZ n).2⟩
end Z
namespace Z
open PySem PySem.Spec PyProof.Rows L2
variable {CX:aj}{G:GS}{T:Tx}{lv:Nat}
noncomputable def gE(n:Nat)(ds:List D):List Sl:=ds.map .im++List.replicate (n-ds.length) .un
theorem kH{K:uz}{H:Hp}{S:Addr→Prop}{N:List Str}{ds:List D}{vs:List V}(dom:∀a,S a→∃o,H a=some o)(rl:aD K T H S ds vs):SInv K T S H S (gE N.length ds) (L2.start N vs) H:=by
 have hl:=rl.len
 have nomu:∀(i:Nat) xs,(gE N.length ds)[i]?≠some (.mu xs):=fun i xs e=>by
  unfold gE at e
  by_cases h:i<(ds.map Sl.im).length
  ·rw[uo h,qi]at e;cases h2:ds[i]? with
   |none=>rw[h2]at e;cases e
   |some d=>rw[h2]at e;cases e
  ·rw[uq (by omega),getElem?_replicate]at e
   split at e<;>cases e
 refine⟨⟨dom,by simp[gE,L2.start,hl],fun i s e=>?_⟩,dom,fun _ z=>z,aF.refl H,fun i j xs ys p h=>absurd h (nomu i xs),fun i xs p h=>absurd h (nomu i xs)⟩
 unfold gE at e;unfold L2.start
 by_cases h:i<(ds.map Sl.im).length
 ·rw[uo h,qi]at e;cases h2:ds[i]? with
  |none=>rw[h2]at e;cases e
  |some d =>
   rw[h2]at e;cases e;obtain⟨v,h3,r⟩:=rl.get h2;exact⟨v,by rw[uo (by rw[qj]at h ⊢;omega),qi,h3];rfl,r⟩
 ·rw[uq (by omega),getElem?_replicate]at e
  split at e
  ·cases e;trivial
  ·cases e
theorem vT(k:Option NameKind):uR k k:=by
 cases k with
 |none=>trivial
 |some k=>cases k<;>first|rfl|trivial|exact .inl rfl
noncomputable def iH(c:CC)(sc:Scope):Bool:=c.N.all (fun x=>!(x == ("__debug__":Str))&&!(x == ("__classdict__":Str)))&&!(aP c "__debug__")
theorem rJ{P:v7}{w:World}{K:uz}{mg:va}{base:Heap}{N ps:List Str}{qual:Str}{sc:Scope}{f:Addr}{cd:Value}{A:Around}{outer:List Env}{s:Shared}{H:Hp}{E:XK}{c:CC}(hN:c.N=N)(f6:c.sc=sc)(fs:aa N ps sc)(hk:iH c sc=true)
  (hr:Room lv (A.deeper (envOfC qual sc s.heap.objs.size f cd))) (go:kh CX (iZ CX P w K mg base N qual sc f cd A outer s H E).nox c G T lv):XC CX (iZ CX P w K mg base N qual sc f cd A outer s H E).nox c G T lv:=by
 unfold iH at hk;rw[qt,all_eq_true]at hk;refine⟨hN.symm,by rw[hN];exact fs.nd,fun x=>?_,fun _ _=>rfl,fun x hx=>?_,?_,rfl,hr,go⟩
 ·rw[f6];exact vT _
 ·have:=hk.1 x hx
  simpa using this
 ·simpa using hk.2
theorem aAi{P:v7}{w:World}{K:uz}{mg:va}{base:Heap}{x qual:Str}{st:Stmt}{f:Addr}{fd:v3}{N ps:List Str}{c:CC}{n:Nat}{ir:IS}{fr:Bool}(F:Fun K x qual st f fd)(fs:aa N ps (aB st))(hN:c.N=N)(f6:c.sc=aB st)(hk:iH c (aB st)=true)
  (gh:il n c (aL st)=some ir) (ak:fr=true→iA ir=true)
  (go:∀(X:Cx),X.prog=P→X.w=w→X.K=K→X.mg=mg→X.base=base→kh (bP P w) X c G T lv):FnOk P w K mg base (bP P w) (lv+1) f fd ps (fc K T ps.length (fun ds=>aS G N.length ir ds) fr):=by
 obtain⟨oc,od,kV,doc,pm,an,aw,ct,i4,rfl,lk,cf⟩:=F.ex;refine AO lk cf fs (fun vs H Q E h=>h.1) fun A outer s H vs Q E hr aq=>?_
 obtain⟨hlen,S,ds,dom,rl,cx⟩:=aq;have xc:XC (bP P w) (iZ (bP P w) P w K mg base N qual (aB st) f aw A outer s H E) c G T lv:=(rJ (CX:=bP P w) (E:=E) (P:=P) (w:=w) (mg:=mg) (base:=base) (outer:=outer) (s:=s) (H:=H) (f:=f) (cd:=aw) (qual:=qual) hN f6 fs hk hr (go _ rfl rfl rfl rfl rfl)).re rfl rfl rfl rfl rfl rfl rfl rfl rfl rfl
 have xs:XS (bP P w) T (iZ (bP P w) P w K mg base N qual (aB st) f aw A outer s H E) c (fun k H'=>∃C,T.xc k=some C∧E (.ref C) none H'):=by
  refine⟨fs.kind,PassesOwn.leaving,fun y m j p p' q pos hg hc=>?_,fun E1 h1=>sF fun cls H' z=>?_,rfl,rfl⟩
  ·rintro pins s1 σ H1 D I ⟨C,hT,hE⟩;exact nN (W:=fun H'=>E (.ref C) none H') rfl (xc.glob hg) (xc.gne hg) (xc.go.xcl y C hT) (xc.go.xk y C hT) (fun pins σ H s h' e vs I hm hE=>jY I hm hE) pins s1 σ H1 D I hE
  ·obtain⟨k,C,hT,rfl,C',ef,hE⟩:=h1 cls H' z;rw[hT]at ef;cases ef;exact hE
 refine⟨_,(gZ (S₀:=S) (H₀:=H) (fr:=fr) n).2 _ c _ ir xc xs gh ak,?_⟩;have hs:gE N.length ds=ds.map .im++List.replicate (N.length-ds.length) .un:=rfl
 rcases cx with ⟨d,hd,q⟩|⟨e,C,he,hT,q⟩
 ·dsimp only at hd;unfold aS at hd;rw[←hs]at hd;split at hd
  ·rename_i d' ho;cases hd;exact⟨_,_,S,ho,kH dom rl,fun v H' sm r fr'=>q v H' sm r fr'⟩
  ·rename_i ρ' ho;cases hd;exact⟨_,_,S,ho,kH dom rl,fun S' σ' H' si mv=>q .non H' si.same (by unfold Rep;rfl) fun _ ds' z=>by cases z⟩
  ·cases hd
  ·cases hd
 ·dsimp only at he;unfold aS at he;rw[←hs]at he;split at he
  ·cases he
  ·cases he
  ·rename_i k ho;cases he;exact⟨_,_,S,ho,kH dom rl,fun H' sm=>⟨C,hT,q H' sm⟩⟩
  ·cases he
end Z
namespace Z
open PySem PySem.Spec PyProof.Rows L2
structure Nm where
 fns:List Str
 cls:List Str
 csts:List Str
 fresh:List Str
noncomputable def Nm.cc(m:Nm)(N:List Str)(sc:Scope)(mus:List Str):CC:=⟨N,sc,m.fns,m.cls,m.csts,mus,m.fresh⟩
def MOk(P:v7)(w:World)(K:uz)(mg:va)(base:Heap)(CX:aj)(m:Nm)(G:GS)(T:Tx)(lv:Nat):Prop:=
 ∀(X:Cx) (c:CC),X.prog=P→X.w=w→X.K=K→X.mg=mg→X.base=base→c.fns=m.fns→c.cls=m.cls→c.csts=m.csts→c.fresh=m.fresh→kh CX X c G T lv
noncomputable def Nm.addF(m:Nm)(x:Str)(fr:Bool):Nm:={ m with fns:=x::m.fns,fresh:=if fr then x::m.fresh else m.fresh }
noncomputable def GS.addF(G:GS)(x:Str)(g:List D→Option Rs)(fr:Bool):GS:={ G with fn:=fun y=>if y=x then g else G.fn y,ff:=fun y=>if y=x then fr else G.ff y,mf:=fun cn y=>if y=x then fr else G.mf cn y }
section
variable {P:v7}{w:World}{K:uz}{mg:va}{base:Heap}{CX:aj}{m:Nm}{G:GS}{T:Tx}{lv:Nat}
theorem contains_cons{x y:Str}{l:List Str}:(x::l).contains y=true→y=x∨l.contains y=true:=fun h=>by
 rw[List.contains_cons,or_eq_true,su]at h;exact h
theorem MOk.addF(h:MOk P w K mg base CX m G T lv){x:Str}{f:Addr}{fd:v3}{ps:List Str}{g:List D→Option Rs}{fr:Bool}(hn:m.fns.contains x=false)(gf:∀cn ds,G.me cn x ds=none)(gc:m.fresh.contains x=false)
  (hm:mg x=some (.ref f)) (hk:keepIn K (.ref f)=true) (hb:Binds K fd ps []) (hl:∀ds r,g ds=some r→ds.length=ps.length) (F:FnOk P w K mg base CX (lv+1) f fd ps (fc K T ps.length g fr)) :
  MOk P w K mg base CX (m.addF x fr) (G.addF x g fr) T (lv+1):=by
 intro X c e1 e2 e3 e4 e5 e6 e7 e8 e9;subst e1 e2 e3 e4 e5;have o:=h X { c with fns:=m.fns,fresh:=m.fresh } rfl rfl rfl rfl rfl rfl e7 e8 rfl
 refine⟨fun y hy=>?_,fun cn C mm ds r hT hr=>?_,o.cls,o.fld,fun y hy ds d hd=>?_,fun y d hd hc=>o.cst y d hd hc,fun y hy h1 h2=>?_,o.xcl,fun y hy=>?_,o.cx0,o.cxf,o.xns,o.xk,o.sub,fun f k x C h1 h2=>let ⟨a,b,c,j,d,e⟩:=o.wd f k x C h1 h2;⟨a,b,c,j,le_succ_of_le d,e⟩,o.dk⟩
 ·rw[e6]at hy
  by_cases e:y=x
  ·subst e;refine⟨f,fd,ps,hm,hk,hb,?_,?_⟩
   ·intro ds r hr;simp only[GS.addF,if_true]at hr;exact hl ds r hr
   ·simp only[GS.addF,if_true];exact F
  ·rcases contains_cons hy with z|z
   ·exact absurd z e
   ·obtain⟨f',b0,br,a1,a2,a3,a4,a5⟩:=o.fn y z;refine⟨f',b0,br,a1,a2,a3,?_,?_⟩
    ·intro ds r hr;simp only[GS.addF,if_neg e]at hr;exact a4 ds r hr
    ·simp only[GS.addF,if_neg e];exact a5.mono (ue _)
 ·have dw:mm≠x:=by
   rintro rfl;have:G.me cn mm ds=some r:=hr
   rw[gf]at this;cases this
  obtain⟨f',b0,br,a1,a2,a3,a4⟩:=o.me cn C mm ds r hT hr;refine⟨f',b0,br,a1,a2,a3,?_⟩;simp only[GS.addF,if_neg dw];exact a4.mono (ue _)
 ·obtain⟨C,f',b0,br,j,a1,a2⟩:=o.mo y hy ds d hd;exact⟨C,f',b0,br,j,le_succ_of_le a1,a2⟩
 ·refine o.bi y hy ?_ h2;rw[e6]at h1;rw[Nm.addF,List.contains_cons,Bool.or_eq_false_iff]at h1;exact h1.2
 ·rw[e9]at hy
  by_cases e:y=x
  ·subst e;cases ak:fr with
   |true=>exact⟨by simp[GS.addF],fun cn=>by simp[GS.addF]⟩
   |false =>
    exfalso
    rw[ak]at hy;have:m.fresh.contains y=true:=hy
    rw[gc]at this;cases this
  ·have:m.fresh.contains y=true:=by
    unfold Nm.addF at hy;simp only at hy;split at hy
    ·rcases contains_cons hy with z|z
     ·exact absurd z e
     ·exact z
    ·exact hy
   obtain⟨b1,b2⟩:=o.frs y this;exact⟨by simp only[GS.addF,if_neg e];exact b1,fun cn=>by simp only[GS.addF,if_neg e];exact b2 cn⟩
noncomputable def Nm.addM(m:Nm)(x:Str)(fr:Bool):Nm:={ m with fresh:=if fr then x::m.fresh else m.fresh }
noncomputable def GS.addM(G:GS)(cn x:Str)(g:List D→Option Rs)(fr:Bool):GS:={ G with me:=fun c y=>if c=cn∧y=x then g else G.me c y,ff:=fun y=>if y=x then fr else G.ff y,mf:=fun c y=>if y=x then fr else G.mf c y }
theorem MOk.addM(h:MOk P w K mg base CX m G T lv){cn x:Str}{C:Addr}{f:Addr}{fd:v3}{ps:List Str}{g:List D→Option Rs}{fr:Bool}(hn:m.fns.contains x=false)(gf:∀cn ds,G.me cn x ds=none)(gc:m.fresh.contains x=false)
  (hT:T.cl cn=some C) (hm:gy K C x f) (hb:Binds K fd ps []) (hl:∀ds r,g ds=some r→ds.length=ps.length) (F:FnOk P w K mg base CX (lv+1) f fd ps (fc K T ps.length g fr)) :
  MOk P w K mg base CX (m.addM x fr) (G.addM cn x g fr) T (lv+1):=by
 intro X c e1 e2 e3 e4 e5 e6 e7 e8 e9;subst e1 e2 e3 e4 e5;have o:=h X { c with fresh:=m.fresh } rfl rfl rfl rfl rfl e6 e7 e8 rfl
 have nfn:∀y,c.fns.contains y=true→y≠x:=fun y hy z=>by
  subst z;rw[e6]at hy;have b8:m.fns.contains y=true:=hy
  rw[hn]at b8;cases b8
 refine⟨fun y hy=>?_,fun cn' C' mm ds r ef hr=>?_,o.cls,o.fld,fun y hy ds d hd=>?_,fun y d hd hc=>o.cst y d hd hc,fun y hy h1 h2=>o.bi y hy h1 h2,o.xcl,fun y hy=>?_,o.cx0,o.cxf,o.xns,o.xk,o.sub,fun f k x C h1 h2=>let ⟨a,b,c,j,d,e⟩:=o.wd f k x C h1 h2;⟨a,b,c,j,le_succ_of_le d,e⟩,o.dk⟩
 ·have e:=nfn y hy
  obtain⟨f',b0,br,a1,a2,a3,a4,a5⟩:=o.fn y hy;refine⟨f',b0,br,a1,a2,a3,a4,?_⟩;simp only[GS.addM,if_neg e];exact a5.mono (ue _)
 ·by_cases e:mm=x
  ·subst e;have ec:cn'=cn:=by
    by_cases e:cn'=cn
    ·exact e
    ·simp only[GS.addM,e,false_and,if_false]at hr;rw[gf]at hr;cases hr
   subst ec;rw[hT]at ef;cases ef;refine⟨f,fd,ps,hm,hb,?_,?_⟩
   ·intro ds r hr;simp only[GS.addM,and_self,if_true]at hr;exact hl ds r hr
   ·simp only[GS.addM,and_self,if_true];exact F
  ·simp only[GS.addM,e,and_false,if_false]at hr;obtain⟨f',b0,br,a1,a2,a3,a4⟩:=o.me cn' C' mm ds r ef hr;refine⟨f',b0,br,a1,a2,?_,?_⟩
   ·intro ds r hr;simp only[GS.addM,e,and_false,if_false]at hr;exact a3 ds r hr
   ·simp only[GS.addM,e,and_false,if_false];exact a4.mono (ue _)
 ·obtain⟨C,f',b0,br,j,a1,a2⟩:=o.mo y hy ds d hd;exact⟨C,f',b0,br,j,le_succ_of_le a1,a2⟩
 ·rw[e9]at hy
  by_cases e:y=x
  ·subst e;cases ak:fr with
   |true=>exact⟨by simp[GS.addM],fun cn=>by simp[GS.addM]⟩
   |false =>
    exfalso
    rw[ak]at hy;have:m.fresh.contains y=true:=hy
    rw[gc]at this;cases this
  ·have:m.fresh.contains y=true:=by
    unfold Nm.addM at hy;simp only at hy;split at hy
    ·rcases contains_cons hy with z|z
     ·exact absurd z e
     ·exact z
    ·exact hy
   obtain⟨b1,b2⟩:=o.frs y this;exact⟨by simp only[GS.addM,if_neg e];exact b1,fun cn=>by simp only[GS.addM,if_neg e];exact b2 cn⟩
theorem yD{n:Nat}{o:Option Rs}{r:Rs}{ds:List D}(h:(if ds.length=n then o else none)=some r):ds.length=n:=by
 by_cases e:ds.length=n
 ·exact e
 ·rw[if_neg e]at h;cases h
theorem MOk.defF(h:MOk P w K mg base (bP P w) m G T lv){x:Str}{st:Stmt}{f:Addr}{fd:v3}{N ps mus:List Str}{n:Nat}{ir:IS}{fr:Bool}(hn:m.fns.contains x=false)(gf:∀cn ds,G.me cn x ds=none)(gc:m.fresh.contains x=false)(hm:mg x=some (.ref f))(hb:Binds K fd ps [])
  (F:Fun K x x st f fd) (fs:aa N ps (aB st)) (hk:iH (m.cc N (aB st) mus) (aB st)=true) (gh:il n (m.cc N (aB st) mus) (aL st)=some ir) (ak:fr=true→iA ir=true) :
  MOk P w K mg base (bP P w) (m.addF x fr) (G.addF x (fun ds=>if ds.length=ps.length then aS G N.length ir ds else none) fr) T (lv+1):=by
 refine h.addF hn gf gc hm F.kp hb (fun ds r hr=>yD hr) ?_
 have G1:=aAi (P:=P) (w:=w) (mg:=mg) (base:=base) (T:=T) (lv:=lv) F fs (c:=m.cc N (aB st) mus) rfl rfl hk gh ak (fun X a1 a2 a3 a4 a5=>h X _ a1 a2 a3 a4 a5 rfl rfl rfl rfl)
 refine⟨fun vs H Q E h=>h.1,fun A outer s H args us vs Q E hr e0 j8 hv aq=>G1.run A outer s H args us vs Q E hr e0 j8 hv ?_⟩
 obtain⟨h1,S,ds,dom,rl,hc⟩:=aq;refine⟨h1,S,ds,dom,rl,?_⟩;have el:ds.length=ps.length:=by rw[rl.len];exact h1
 dsimp only at hc;rw[if_pos el]at hc;exact hc
theorem MOk.defM(h:MOk P w K mg base (bP P w) m G T lv){cn x qual:Str}{C:Addr}{st:Stmt}{f:Addr}{fd:v3}{N ps mus:List Str}{n:Nat}{ir:IS}{fr:Bool}(hn:m.fns.contains x=false)(gf:∀cn ds,G.me cn x ds=none)(gc:m.fresh.contains x=false)(hT:T.cl cn=some C)(hm:gy K C x f)(hb:Binds K fd ps [])
  (F:Fun K x qual st f fd) (fs:aa N ps (aB st)) (hk:iH (m.cc N (aB st) mus) (aB st)=true) (gh:il n (m.cc N (aB st) mus) (aL st)=some ir) (ak:fr=true→iA ir=true) :
  MOk P w K mg base (bP P w) (m.addM x fr) (G.addM cn x (fun ds=>if ds.length=ps.length then aS G N.length ir ds else none) fr) T (lv+1):=by
 refine h.addM hn gf gc hT hm hb (fun ds r hr=>yD hr) ?_
 have G1:=aAi (P:=P) (w:=w) (mg:=mg) (base:=base) (T:=T) (lv:=lv) F fs (c:=m.cc N (aB st) mus) rfl rfl hk gh ak (fun X a1 a2 a3 a4 a5=>h X _ a1 a2 a3 a4 a5 rfl rfl rfl rfl)
 refine⟨fun vs H Q E h=>h.1,fun A outer s H args us vs Q E hr e0 j8 hv aq=>G1.run A outer s H args us vs Q E hr e0 j8 hv ?_⟩
 obtain⟨h1,S,ds,dom,rl,hc⟩:=aq;refine⟨h1,S,ds,dom,rl,?_⟩;have el:ds.length=ps.length:=by rw[rl.len];exact h1
 dsimp only at hc;rw[if_pos el]at hc;exact hc
end
end Z
namespace L2
open PySem PySem.Spec PyProof.Rows
section
variable {X:Cx}{pins:v9}{σ:St}{H:Hp}{s:Shared}{A:Around}{E:v8}{a:Addr}{kvs:List (Key×V)}{k:Key}{u:Value}
theorem KP{v:V}{r:Value}{Q:v8}(I:Inv X pins σ H s)(e:H a=some (.dK kvs))(hl:kvs.length<sizeLine)(ry:RelV (kV k) u)(rv:RelV v r)
  (h1:∀w w' s',fJ kvs k=some w→Inv X pins σ H s'→RelV w w'→Q w' s') (h2:fJ kvs k=none→∀s',Inv X pins σ (upd H a (.dK (putK kvs k v))) s'→Q r s') :
  wpAny (model X.prog X.w) A (call (.builtin "dict.setdefault") [.ref a,u,r]) Q E s:=by
 obtain⟨z,hd,vs,rel,dd⟩:=CB I.hok e;have hz:vs.length≤sizeLine:=by rw[←rel.length];exact z
 have gg:(putK kvs k v).length≤sizeLine:=by have:=iR kvs k v;omega
 refine call_meetsIn PySem.F.slot_dict_setdefault dd.typeIs PySem.F.entry_dict_setdefault (PySem.F.args_dict_setdefault_3 _ _ _) (PySem.kt_meets_setdefault (bH X.prog X.w) a (AD ry) hd r)
  ⟨vs,dd,hz,fun w' hw=>?_,fun hn h' iN hs=>?_⟩
 ·cases l:fJ kvs k with
  |some w =>
   obtain⟨w2,oh,cq⟩:=gI.some_of (v:=w) (o:=valueAt vs k) (by rw[←l];exact rel.val k)
   rw[hw]at oh;cases oh;exact h1 w w' _ l (I.tok _) cq
  |none =>
   have:=gI.none_of (o:=valueAt vs k) (by rw[←l];exact rel.val k)
   rw[hw]at this;cases this
 ·have he:∃q,h'.get? a=some q:=let ⟨q,_,_,hq,_⟩:=iN;⟨q,hq⟩
  have l:fJ kvs k=none:=by
   cases l:fJ kvs k with
   |none=>rfl
   |some w =>
    obtain⟨w2,oh,_⟩:=gI.some_of (v:=w) (o:=valueAt vs k) (by rw[←l];exact rel.val k)
    rw[hn]at oh;cases oh
  exact h2 l _ (uI I (by rw[e];exact True.intro) hs he (KJ gg hd (rel.put k rv) iN))
end
section
variable {X:Cx}{pins:v9}{σ:St}{H:Hp}{s:Shared}{A:Around}{E:v8}{a:Addr}{kvs:List (Key×V)}
theorem QT:∀{kvs:List (Key×V)} {vs:List (Key×Value)},KV kvs vs→∀(i:Nat) (y:V) (k:Key) (u:Value),(kvs.map (·.2))[i]?=some y→vs[i]?=some (k,u)→RelV y u:=by
 intro kvs vs h
 induction h with
 |nil=>intro i y k u e;simp at e
 |cons a b ih =>
  intro i y k u e f;cases i with
  |zero=>simp at e f;obtain⟨rfl,rfl⟩:=f;subst e;exact a.2
  |succ i=>exact ih i y k u (by simpa using e) (by simpa using f)
theorem uJ{Q:v8}(I:Inv X pins σ H s)(hh:A.handled=none)(e:H a=some (.dK kvs))(h:∀(s':Shared) (p:Addr),H p=none→Inv X pins σ (upd H p (.lst (kvs.map (·.2)))) s'→Q (.ref p) s') :
  wpAny (model X.prog X.w) A (call (.builtin "dict.values") [.ref a]) (fun u s1=>wpAny (model X.prog X.w) A (call (.type "list") [u]) Q E s1) E s:=by
 obtain⟨z,hd,vs,rel,dd⟩:=CB I.hok e;refine call_meetsIn PySem.F.slot_dict_values dd.typeIs PySem.F.entry_dict_values (PySem.F.args_dict_values_1 _) (meets_dict_values (bH X.prog X.w) a hd) ⟨⟨vs,dd⟩,?_⟩;generalize dt:({ s with heap:=s.heap.push { cls:=.type "dict_values",data:=.fields #[.ref a] } }:Shared)=s2
 have I2:Inv X pins σ H s2:=by subst dt;exact I.kept (t':=s.toks) fun b o e=>qo _ e
 obtain⟨z2,hd2,vs2,rel2,jq⟩:=CB I2.hok e;obtain⟨ep,hat⟩:=jq.dictAt;have hv:s2.heap.IsValuesView s.heap.objs.size a:=by subst dt;exact⟨_,ub _ rfl,rfl,rfl⟩
 show wpAny _ _ (call (.type "list") [.ref s.heap.objs.size]) Q E _
 first|rw[dt]|skip
 refine PySem.W.kdl_call (PySem.W.kdl_values (knd:=bH X.prog X.w) (kvs:=vs2) (ep:=ep)) hh ⟨hv,hat⟩ (by rw[←rel2.length];exact z2) fun h' tk b7 c' hk ie cg=>?_
 have ak:H s2.heap.objs.size=none:=I2.hok.fresh (qk _)
 refine h _ _ ak (I2.laid (fun b u e=>hk b u e) (qk _) ⟨by rw[qj];exact z2,b7.toList,c',?_,by rw[ie]⟩)
 refine Z.rL (by rw[qj,rel2.length];simp[cg.1]) fun i y u e f=>?_
 obtain⟨k,hk⟩:=cg.2 i u (by simpa using f)
 exact QT rel2 i y k u e hk
theorem pJ{i:Nat}{x:Str}{p ap pos p2 fw:Pos}(hc:X.calm=true)(hx:PE X (.Name x p) (pH i))(fk:Gl X "list")(ot:X.mg "list" = none)(hline:(ap.endLine == pos.line)=true) :
  PE X (.Call (.Name "list" p2) [.Call (.Attribute (.Name x p) "values" ap) [] [] pos] [] fw) (fun σ H Q=>∃a kvs,σ[i]?=some (some (.ref a))∧H a=some (.dK kvs)∧∀q,H q=none→Q (.ref q) (upd H q (.lst (kvs.map (·.2))))):=by
 intro pins s σ H Q I ⟨a,kvs,e1,e2,q⟩;refine Call_ (eU I fk ot Z.mY (se (Calls.spliced_cons (wpAny_Call_method0_late rfl hline (ae (hx pins s σ H (fun v H'=>v=.ref a∧H'=H) I ⟨.ref a,e1,rfl,rfl⟩) fun u s1 ⟨v,H1,I1,rv,ev,eH⟩=>?_))) rfl rfl))
 subst ev eH;obtain rfl:u=Value.ref a:=rv;obtain⟨h1,h2⟩:=FZ (T:="dict") (x:=.ref a) (v:=.ref a) I1 rfl (.inr (.inr (.inl ⟨rfl,.inl ⟨kvs,e2⟩⟩)));exact⟨"dict","dict.values",PySem.F.plainAttrs_dict,PySem.F.slot_dict_values,PySem.F.type_dict_values,h1,h2,Calls.callWith_builtin rfl (PySem.evalArgs_none (ua (uJ I1 (I1.ok.hd hc) e2 fun s' p hp I'=>⟨.ref p,_,I',rfl,q p hp⟩) (fun u s1 h=>Calls.spliced_nil h) fun _ _ z=>z))⟩
noncomputable def NO:V→List V→Hp→VK→Prop:=fun x xs H Q=>∃a kvs k v,x=.ref a∧xs=[kV k,v]∧H a=some (.dK kvs)∧kvs.length<sizeLine∧(∀w,fJ kvs k=some w→Q w H)∧(fJ kvs k=none→Q v (upd H a (.dK (putK kvs k v))))
theorem EE:MtR X "dict.setdefault" NO:=by
 rintro pins s σ H x xs v us Q I rx rs ⟨a,kvs,k,w,rfl,rfl,e,hl,h1,h2⟩;obtain rfl:v=Value.ref a:=rx;cases rs with
 |cons r1 rs =>
  cases rs with
  |cons r2 rs =>
   cases rs;exact KP I e hl r1 r2 (fun w w' s' l I' cq=>⟨w,H,I',cq,h1 w l⟩) fun l s' I'=>⟨_,_,I',r2,h2 l⟩
end
end L2
namespace Z
open PySem PySem.Spec PyProof.Rows L2
theorem SM:bootBuiltins "enumerate" = some (.type "enumerate"):=by decide +kernel
theorem zF{X:Cx}{pins:v9}{σ:L2.St}{H:Hp}{s:Shared}{h':Heap}{t':Nat}{a b:Addr}(I:Inv X pins σ H s)(k:∀c o,c≠a→c≠b→s.heap.get? c=some o→h'.get? c=some o)(fa:kY X pins H a)(fb:kY X pins H b):Inv X pins σ H { s with heap:=h',toks:=t' }:=by
 have c8:∀{c:Addr},c∉[a,b]→c≠a∧c≠b:=fun {c} h=>⟨fun z=>h (by simp[z]),fun z=>h (by simp[z])⟩
 have sees:∀c u,H c=some u→c≠a∧c≠b:=fun c u e=>⟨fun z=>(by rw[z,fa.1]at e;cases e),fun z=>(by rw[z,fb.1]at e;cases e)⟩
 refine I.step (g':=s.gens) (d':=s.drawn) (ch:=[a,b]) (fun c hc=>?_) (fun c o _ _ hc e _=>k c o (c8 hc).1 (c8 hc).2 e) (fun c o _ _ hc e _=>⟨o.slots,k c o (c8 hc).1 (c8 hc).2 e⟩) (fun _ _ _ _ n=>n)
  (fun c o hc e=>⟨o,k c o (c8 hc).1 (c8 hc).2 e⟩) (fun _ _ e=>e) (fun _ _ _ e=>e) (fun c ps e=>⟨#[],by rw[e];simp⟩) (fun m hm=>?_) (fun c u e=>?_) I.bare
 ·rcases rz.mp hc with rfl|hc
  ·exact⟨fa.2.2.2.1,fa.2.1,fa.2.2.2.2.1,fa.2.2.2.2.2⟩
  ·obtain rfl:=rn.mp hc;exact⟨fb.2.2.2.1,fb.2.1,fb.2.2.2.2.1,fb.2.2.2.2.2⟩
 ·obtain⟨o,es,ep,ho,r⟩:=hm;exact⟨o,es,ep,k _ o (Ne.symm fa.2.1) (Ne.symm fb.2.1) ho,r⟩
 ·refine(I.hok c u e).stay (fun d v hd q=>?_) (fun _ q=>q) fun _ _ q=>q
  have n:d≠a∧d≠b:=by
   rcases hd with z|z
   ·rw[z];exact sees c u e
   ·exact sees d _ z
  exact k d v n.1 n.2 q
noncomputable def Ite(K:uz)(a:Addr):It:=
 ⟨fun i H=>∃xs x,SqL K H a xs∧xs[i]?=some x,fun i H x H'=>∃p y,x=.ref p∧H p=none∧H'=upd H p (.tup [.int i,y])∧∀xs,SqL K H a xs→xs[i]?=some y,fun i H=>∃xs,SqL K H a xs∧xs.length≤i⟩
theorem DK{P:v7}{w:World}{K:uz}{es:List Expr}{j:Nat}{q:Pos}(a e it:Addr)(dw:e≠it):Turn P w K (.Tuple es j q) (Ite K a) [e,it] e (fun i h=>(∃old,IsEnum h e it (i:Nat) old)∧h.IsListIter it a i) where
 mem:=by simp
 obj:=fun i h st b hb=>by
  obtain⟨⟨old,he⟩,hi⟩:=st
  rcases rz.mp hb with rfl|hb
  ·exact⟨_,he,fun v z=>by
    have z':Data.fields _=Data.cell v:=z
    cases z'⟩
  ·obtain rfl:=rn.mp hb;obtain⟨o,e,c,d⟩:=hi;exact⟨o,e,fun v z=>by rw[d]at z;cases z⟩
 keep:=fun i h h' st k=>⟨let ⟨old,he⟩:=st.1;⟨old,k e (by simp) _ he⟩,st.2.at fun o x=>k it (by simp) o x⟩
 item:=by
  intro X hP hw hK hc i pins s σ H E I hf st hg;subst hP hw hK;obtain⟨xs,x,hq,hx⟩:=hg;obtain⟨its,rv,p,hz⟩:=I.list hq;obtain⟨u,hu,ru⟩:=rv.get hx;obtain⟨⟨old,he⟩,hi⟩:=st;have hT:=I.hok.fresh (qk s.heap.objs.size)
  have eT:e≠s.heap.objs.size:=tm (rh he)
  have iT:it≠s.heap.objs.size:=by obtain⟨o,e',_⟩:=hi;exact tm (rh e')
  refine wpAny_pyNext_enum_item he hi p.isList (x:=u) (by simpa using hu) dw fun h1 ho hi1 hT1 hsz hk=>?_
  refine⟨_,rfl,wpAny_letOwnedTupleGo_enum (s:={ s with heap:=h1,toks:=s.toks+1 }) ho fun h2 he2 hs=>?_⟩
  have I1:Inv X pins σ (upd H s.heap.objs.size (.tup [.int i,x])) { s with heap:=s.heap.push { cls:=.type "tuple",data:=.seq #[.int i s.toks,u] },toks:=s.toks }:=
   I.laid (fun b o e=>qo _ e) (qk _) ⟨rj (show 2≤big from by decide) iD,[.int i s.toks,u],.cons ⟨_,rfl⟩ (.cons ru .nil),⟨_,ub _ rfl,rfl,_,rfl⟩⟩
  have fo:∀b,b∈[e,it]→b≠s.heap.objs.size→kY X pins (upd H s.heap.objs.size (.tup [.int i,x])) b:=fun b hb hn=>by
   obtain⟨f0,f1⟩:=hf b hb;exact⟨(aG hn).trans f0,f1⟩
  have I2:Inv X pins σ (upd H s.heap.objs.size (.tup [.int i,x])) { s with heap:=h2,toks:=s.toks+1 }:=by
   have q:=zF (h':=h2) (t':=s.toks+1) I1 (fun b o n1 n2 eb=>by
    rw[hs.2 b n1]
    rcases Heap.get?_push_cases eb with ⟨rfl,rfl⟩|eb
    ·exact hT1
    ·exact hk b o n1 n2 eb) (fo e (by simp) eT) (fo it (by simp) iT)
   exact q
  refine⟨.ref s.heap.objs.size,_,I2,rfl,⟨_,x,rfl,hT,rfl,fun ys hy=>by rw[I.list_inj hy hq];exact hx⟩,⟨⟨_,by simpa using he2⟩,hi1.at fun o y=>(hs.2 it dw.symm).trans y⟩,fun b hb=>?_⟩
  rcases rz.mp hb with rfl|hb
  ·exact(fo b (by simp) eT).1
  ·obtain rfl:=rn.mp hb;exact(fo b (by simp) iT).1
 done:=by
  intro X hP hw hK hc i pins s σ H E I hf st hg;subst hP hw hK;obtain⟨xs,hq,hx⟩:=hg;obtain⟨its,rv,p,hz⟩:=I.list hq;obtain⟨⟨old,he⟩,hi⟩:=st;have hl:=rv.length
  exact wpAny_pyNext_enum_end (I.ok.hd hc) he hi p.isList (by simp;omega) fun h' eb=>⟨rfl,zF I (t':=s.toks) (fun b o n1 n2 y=>eb b o n2 y) (hf e (by simp)) (hf it (by simp))⟩
 self:=fun _ _ _ _ _ st h=>let ⟨_,he⟩:=st.1;wpAny_pyIter_enum he h
section
variable {CX:aj}{X:Cx}{c:CC}{G:GS}{T:Tx}{lv:Nat}{ρ:List Sl}{S:Addr→Prop}
theorem qT:∀{ds:List D} {k i:Nat} {d:D},(kT k ds)[i]?=some d→∃d',ds[i]?=some d'∧d=.tup [.int (k+i:Nat),d']
 |[],k,i,d,h=>by cases i<;>cases h
 |x::r,k,0,d,h=>by cases h;exact⟨x,rfl,rfl⟩
 |x::r,k,i+1,d,h=>by
  obtain⟨d',e1,e2⟩:=qT (ds:=r) (k:=k+1) (i:=i) h;exact⟨d',e1,by rw[e2,show k+1+i=k+(i+1) by omega]⟩
theorem jP:∀{ds:List D} {k:Nat},(kT k ds).length=ds.length
 |[],_=>rfl
 |x::r,k=>congrArg (· + 1) (jP (ds:=r) (k:=k+1))
theorem JD{H1:Hp}{a:Addr}{xs:List V}{ds:List D}(n:¬S a)(hq:SqL X.K H1 a xs)(r:aD X.K T H1 S ds xs):jb X.K T S H1 (Ite X.K a) (kT 0 ds):=fun H S' mv dom=>by
 obtain⟨n',k⟩:=mv a n (SqL.has hq);have ba:=SqL.keeps hq k
 refine⟨fun i d e=>?_,fun i hi=>⟨xs,ba,by rw[←r.len];rw[jP]at hi;exact hi⟩⟩
 obtain⟨d',e1,rfl⟩:=qT e;obtain⟨x,e2,rx⟩:=r.get e1;refine⟨⟨xs,x,ba,e2⟩,fun v H' hy=>?_⟩
 obtain⟨p,y,rfl,hp,rfl,ey⟩:=hy;have:=ey xs ba
 rw[e2]at this;cases this;rw[sf];exact⟨aF.upd hp,eO dom hp (aD.cons (by unfold Rep;rfl) (aD.cons (Rep.gen mv d' x rx) aD.nil))⟩
theorem HL{a:Expr}{p pos q:Pos}{d:D}{ds:List D}{es:List Expr}{j:Nat}(hg:Gl X "enumerate")(hm:X.mg "enumerate" = none)(ha:PA X [a] (b9 X.K T S ρ [d]))(hs:starEach [a] X.env=[(false,eval a X.env)])(hi:yK d=some ds) :
  PI X (.Tuple es j q) (.Call (.Name "enumerate" p) [a] [] pos) (tI X.K T S ρ ds):=by
 intro pins s σ H R I ⟨re,q⟩;refine Call_ (eU I hg hm SM (se (ae (ha pos pins s σ H (fun vs H'=>aF H H'∧aD X.K T H' S [d] vs) I ⟨re,fun vs H' a b=>⟨a,b⟩⟩) fun us s1 ⟨vs,H1,I1,r1,sm,rl⟩=>?_) hs rfl))
 unfold aD at rl;obtain⟨x,r',rfl,rx,rr⟩:=rl;unfold aD at rr;subst rr;cases r1 with
 |cons r rr =>
  cases rr;cases d<;>simp only[yK,reduceCtorEq,qe]at hi
  rename_i ds';subst hi;unfold Rep at rx;obtain⟨l,xs,e,n,hq,rl⟩:=rx;subst e;cases r;obtain⟨its,rv,pl,hz⟩:=I1.list (SqL.of hq);refine call_enumerate_list pl.isList fun h' hE hI hsz hk=>?_
  refine wpAny_pyIter_enum hE ?_;refine⟨s1.heap.objs.size+1,[s1.heap.objs.size+1,s1.heap.objs.size],_,_,H1,rfl,I1.kept (t':=s1.toks) hk,DK l _ _ (Nat.succ_ne_self _),⟨⟨.none,by simpa using hE⟩,hI⟩,fun b hb=>?_,q _ _ sm (JD n (SqL.of hq) rl) ?_⟩
  ·have hb:s1.heap.objs.size≤b:=by
    rcases rz.mp hb with rfl|hb
    ·exact ue _
    ·rw[rn.mp hb];exact qk _
   exact I1.fpOk hb (I1.hok.fresh hb)
  ·rw[jP,rl.len];exact hz
end
noncomputable def cU(h c:Int):List (Int×List Int)→List (Int×List Int)
 |[]=>[(h,[c])]
 |g::r=>if g.1=h then(g.1,g.2++[c])::r else g::cU h c r
noncomputable def lQ(is:List Int):Nat→List (Int×List Int)
 | 0=>[]
 |i+1=>match is[i]? with
  |some h=>cU h i (lQ is i)
  |none=>lQ is i
theorem lI{a b:Addr}{as:List Addr}(m:b∈as)(n:a∉as):b≠a:=fun z=>n (by rw[←z];exact m)
theorem oE{h c:Int}:∀{gs:List (Int×List Int)},(cU h c gs).length≤gs.length+1
 |[]=>qk _
 |g::r=>by
  unfold cU;split
  ·simp
  ·have:=oE (h:=h) (c:=c) (gs:=r)
   simp only[ui];omega
theorem oG{is:List Int}:∀i,(lQ is i).length≤i
 | 0=>qk _
 |i+1=>by
  unfold lQ;split
  ·have:=oG (is:=is) i
   exact rj oE (by omega)
  ·have:=oG (is:=is) i
   omega
inductive GR (H:Hp):List (Int×List Int)→List (Key×V)→List Addr→Prop
 |nil:GR H [] [] []
 |cons {k:Int} {cs:List Int} {gs:List (Int×List Int)} {kvs:List (Key×V)} {a:Addr} {as:List Addr} (h:H a=some (.lst (cs.map .int))) (n:a∉as) (r:GR H gs kvs as):GR H ((k,cs)::gs) ((Sum.inl k,.ref a)::kvs) (a::as)
theorem GR.frame{H H':Hp}:∀{gs kvs as},GR H gs kvs as→(∀a∈as,∀o,H a=some o→H' a=some o)→GR H' gs kvs as:=by
 intro gs kvs as h
 induction h with
 |nil=>intro _;exact .nil
 |cons h n r ih=>exact fun f=>.cons (f _ uf _ h) n (ih fun a m=>f a (qq _ m))
theorem GR.len{H:Hp}{gs:List (Int×List Int)}{kvs:List (Key×V)}{as:List Addr}(h:GR H gs kvs as):kvs.length=gs.length:=by
 induction h with
 |nil=>rfl
 |cons _ _ _ ih=>simp[ih]
theorem GR.vals{H:Hp}{gs:List (Int×List Int)}{kvs:List (Key×V)}{as:List Addr}(h:GR H gs kvs as):kvs.map (·.2)=as.map .ref:=by
 induction h with
 |nil=>rfl
 |cons _ _ _ ih=>simp[ih]
theorem GR.mem{H:Hp}{gs:List (Int×List Int)}{kvs:List (Key×V)}{as:List Addr}(h:GR H gs kvs as):∀a∈as,∃o,H a=some o:=by
 induction h with
 |nil=>intro a m;cases m
 |cons h _ _ ih =>
  intro a m
  rcases rz.mp m with rfl|m
  ·exact⟨_,h⟩
  ·exact ih a m
theorem GR.hit{H:Hp}{h:Int}{w:V}{gs:List (Int×List Int)}{kvs:List (Key×V)}{as:List Addr}(g:GR H gs kvs as)(e:fJ kvs (Sum.inl h)=some w):∃(a:Addr) (cs:List Int),w=.ref a∧a∈as∧H a=some (.lst (cs.map .int))∧cs∈gs.map (·.2)∧∀c,GR (upd H a (.lst ((cs.map .int)++[.int c]))) (cU h c gs) kvs as:=by
 induction g with
 |nil=>cases e
 |cons hh n r ih =>
  rename_i k cs gs kvs a as
  by_cases ek:k=h
  ·subst ek;rw[gJ (p:=((Sum.inl k:Key),V.ref a)) rfl]at e;cases e;refine⟨a,cs,rfl,uf,hh,uf,fun c=>?_⟩
   unfold cU;rw[if_pos rfl];refine .cons (by rw[aH,uj];rfl) n (r.frame fun b m o q=>?_)
   rw[aG (lI m n)];exact q
  ·rw[gK (p:=((Sum.inl k:Key),V.ref a)) (fun z=>ek (Sum.inl.inj z))]at e
   obtain⟨b,cs',e1,m,q,mc,f⟩:=ih e;refine⟨b,cs',e1,qq _ m,q,qq _ mc,fun c=>?_⟩
   unfold cU;rw[if_neg ek];exact .cons (by rw[aG (lI m n).symm];exact hh) n (f c)
theorem GR.miss{H:Hp}{h c:Int}{p:Addr}{gs:List (Int×List Int)}{kvs:List (Key×V)}{as:List Addr}(g:GR H gs kvs as)(e:fJ kvs (Sum.inl h)=none)(hp:H p=some (.lst [.int c]))(np:p∉as):GR H (cU h c gs) (kvs++[(Sum.inl h,.ref p)]) (as++[p]):=by
 induction g with
 |nil=>exact .cons hp (by simp) .nil
 |cons hh n r ih =>
  rename_i k cs gs kvs a as;have ek:¬k=h:=fun z=>by
   subst z;rw[gJ (p:=((Sum.inl k:Key),V.ref a)) rfl]at e;cases e
  rw[gK (p:=((Sum.inl k:Key),V.ref a)) (fun z=>ek (Sum.inl.inj z))]at e
  unfold cU;rw[if_neg ek];refine .cons hh (fun m=>?_) (ih e fun m=>np (qq _ m))
  rcases uy.mp m with m|m
  ·exact n m
  ·exact np (by rw[←rn.mp m];exact uf)
inductive GL (H:Hp):List (List Int)→List Addr→Prop
 |nil:GL H [] []
 |cons {cs:List Int} {gs:List (List Int)} {a:Addr} {as:List Addr} (h:H a=some (.lst (cs.map .int))) (n:a∉as) (r:GL H gs as):GL H (cs::gs) (a::as)
theorem GR.gl{H:Hp}{gs:List (Int×List Int)}{kvs:List (Key×V)}{as:List Addr}(h:GR H gs kvs as):GL H (gs.map (·.2)) as:=by
 induction h with
 |nil=>exact .nil
 |cons h n _ ih=>exact .cons h n ih
theorem GL.frame{H H':Hp}{gs:List (List Int)}{as:List Addr}(h:GL H gs as):(∀a∈as,∀o,H a=some o→H' a=some o)→GL H' gs as:=by
 induction h with
 |nil=>intro _;exact .nil
 |cons h n r ih=>exact fun f=>.cons (f _ uf _ h) n (ih fun a m=>f a (qq _ m))
theorem GL.mem{H:Hp}{gs:List (List Int)}{as:List Addr}(h:GL H gs as):∀a∈as,∃o,H a=some o:=by
 induction h with
 |nil=>intro a m;cases m
 |cons h _ _ ih =>
  intro a m
  rcases rz.mp m with rfl|m
  ·exact⟨_,h⟩
  ·exact ih a m
noncomputable def bz(g:List Int):D:=.lst (g.map .int)
theorem mQ{K:uz}{T:Tx}{H:Hp}{S:Addr→Prop}:∀is:List Int,aD K T H S (is.map D.int) (is.map V.int)
 |[]=>aD.nil
 |i::is=>aD.cons (by unfold Rep;rfl) (mQ is)
theorem AJ{K:uz}{T:Tx}{H:Hp}{S:Addr→Prop}:∀{is:List Int} {xs:List V},aD K T H S (is.map D.int) xs→xs=is.map V.int
 |[],xs,h=>by unfold aD at h;exact h
 |i::is,xs,h=>by
  rw[sq]at h;unfold aD at h;obtain⟨x,r,rfl,h1,h2⟩:=h;unfold Rep at h1;rw[h1,AJ h2];rfl
theorem GL.rep{K:uz}{T:Tx}{H:Hp}{S:Addr→Prop}{gs:List (List Int)}{as:List Addr}(h:GL H gs as):(∀a∈as,¬S a)→aD K T H S (gs.map bz) (as.map .ref):=by
 induction h with
 |nil=>intro _;exact aD.nil
 |cons h _ _ ih =>
  intro f;refine aD.cons ?_ (ih fun a m=>f a (qq _ m))
  unfold bz Rep;exact⟨_,_,rfl,f _ uf,h,mQ _⟩
noncomputable def sD(p:Nat→Pos):List Stmt:=[
 .For (.Tuple [.Name "cell" (p 0),.Name "head" (p 1)] 0 (p 2)) (.Call (.Name "enumerate" (p 3)) [.Name "least" (p 4)] [] (p 5))
  [.Expr (.Call (.Attribute (.Call (.Attribute (.Name "groups" (p 6)) "setdefault" (p 7)) [.Name "head" (p 8),.List [] (p 9)] [] (p 10)) "append" (p 11)) [.Name "cell" (p 12)] [] (p 13)) (p 14)] [] (p 15),
 .Return (some (.Call (.Name "list" (p 16)) [.Call (.Attribute (.Name "groups" (p 17)) "values" (p 18)) [] [] (p 19)] [] (p 20))) (p 21)]
structure p7 (c:CC) (p:Nat→Pos):Prop where
 least:bB c "least" = some 1
 groups:bB c "groups" = some 3
 cell:bB c "cell" = some 4
 head:bB c "head" = some 5
 tg:cM c (.Tuple [.Name "cell" (p 0),.Name "head" (p 1)] 0 (p 2))=some ([4,5],true)
 en:aP c "enumerate" = true
 li:aP c "list" = true
 en1:c.fns.contains "enumerate" = false
 en2:c.cls.contains "enumerate" = false
 li1:c.fns.contains "list" = false
 li2:c.cls.contains "list" = false
 l1:((p 7).endLine == (p 10).line)=true
 l2:((p 11).endLine == (p 13).line)=true
 l3:((p 18).endLine == (p 19).line)=true
section
variable {CX:aj}{G:GS}{T:Tx}{lv:Nat}{X:Cx}{c:CC}{p:Nat→Pos}
def aBP:TS:=fun D σ H=>∃(g:Addr) (gs:List (Int×List Int)) (kvs:List (Key×V)) (as:List Addr) (i:Nat) (h:Int),σ[3]?=some (some (.ref g))∧σ[4]?=some (some (.int i))∧σ[5]?=some (some (.int h))∧H g=some (.dK kvs)∧GR H gs kvs as∧g∉as∧gs.length≤big∧(∀cs∈gs.map (·.2),cs.length<big) ∧
 ∀H' ai cj,(∀b o,b≠g→b∉as→H b=some o→H' b=some o)→(∀b∈cj,b∈as∨H b=none)→H' g=some (.dK ai)→GR H' (cU h i gs) ai cj→g∉cj→D.nx σ H'
theorem PB(xc:XC CX X c G T lv)(P:p7 c p):PSs X [.Expr (.Call (.Attribute (.Call (.Attribute (.Name "groups" (p 6)) "setdefault" (p 7)) [.Name "head" (p 8),.List [] (p 9)] [] (p 10)) "append" (p 11)) [.Name "cell" (p 12)] [] (p 13)) (p 14)] aBP:=by
 refine dP fun pins s σ H D I ⟨g,gs,kvs,as,i,h,e3,e4,e5,eg,gr,ng,hl,hcs,q⟩=>?_
 have b1:big<sizeLine:=by rw[sizeLine_eq];decide
 refine eY (lZ plainAttrs_list PySem.F.slot_list_append PySem.F.type_list_append gO
  (lZ PySem.F.plainAttrs_dict PySem.F.slot_dict_setdefault PySem.F.type_dict_setdefault EE (dU xc P.groups) (aR (dU xc P.head) (aR (nP bU) bU rfl) rfl) rfl rfl P.l1 rfl rfl)
  (aR (dU xc P.cell) bU rfl) rfl rfl P.l2 rfl rfl) rfl pins s σ H D I ?_
 refine⟨.ref g,e3,.inr (.inr (.inl ⟨rfl,.inl ⟨kvs,eg⟩⟩)),.int h,e5,⟨uu _,fun n hn=>?_⟩⟩
 have gn:g≠n:=aJ eg hn
 have na:n∉as:=fun m=>by
  obtain⟨o,z⟩:=gr.mem n m;rw[hn]at z;cases z
 refine⟨g,kvs,Sum.inl h,.ref n,rfl,rfl,by rw[aG gn];exact eg,by rw[gr.len];exact Nat.lt_of_le_of_lt hl b1,fun w hw=>?_,fun hw=>?_⟩
 ·obtain⟨a,cs,rfl,ma,ha,mc,f⟩:=gr.hit hw;have an:a≠n:=aJ ha hn
  have ga:g≠a:=(lI ma ng).symm
  refine⟨.inl ⟨rfl,_,SqL.of (by rw[aG an];exact ha)⟩,.int i,e4,a,cs.map .int,.int i,rfl,rfl,by rw[aG an];exact ha,?_,?_⟩
  ·rw[qj];exact lt_trans (hcs cs mc) b1
  ·refine q _ kvs as (fun b o n1 n2 hb=>?_) (fun b m=>.inl m) (by rw[aG ga,aG gn];exact eg) ?_ ng
   ·rw[aG (lI ma n2).symm,aG (aJ hb hn)];exact hb
   ·refine(f i).frame fun b m o hb=>?_
    by_cases e:b=a
    ·subst e;rw[aH]at hb ⊢;exact hb
    ·rw[aG e]at hb ⊢;rw[aG (aJ hb hn)];exact hb
 ·have np:upd (upd H n (.lst [])) g (.dK (putK kvs (Sum.inl h) (.ref n))) n=some (.lst []):=by rw[aG (Ne.symm gn),aH]
  refine⟨.inl ⟨rfl,_,SqL.of np⟩,.int i,e4,n,[],.int i,rfl,rfl,np,Nat.lt_of_le_of_lt (uu _) b1,?_⟩;rw[HC _ hw];refine q _ (kvs++[(Sum.inl h,.ref n)]) (as++[n]) (fun b o n1 n2 hb=>?_) (fun b m=>?_) (by rw[aG gn,aH]) ?_ (fun m=>?_)
  ·rw[aG (aJ hb hn),aG n1,aG (aJ hb hn)];exact hb
  ·rcases uy.mp m with m|m
   ·exact .inl m
   ·rw[rn.mp m];exact .inr hn
  ·refine GR.miss (gr.frame fun b m o hb=>?_) hw (by rw[aH];rfl) na
   rw[aG (aJ hb hn),aG (lI m ng),aG (aJ hb hn)];exact hb
  ·rcases uy.mp m with m|m
   ·exact ng m
   ·exact gn (rn.mp m)
end
theorem qN{h c:Int}{m:Nat}:∀{gs:List (Int×List Int)},(∀cs∈gs.map (·.2),cs.length≤m)→∀cs∈(cU h c gs).map (·.2),cs.length≤m+1
 |[],_,cs,k=>by
  have:cs=[c]:=by simpa [cU] using k
  rw[this];exact succ_le_succ (uu _)
 |g::r,f,cs,k=>by
  unfold cU at k;split at k
  ·rcases rz.mp k with rfl|k
   ·have:=f g.2 uf
    simp only[sh,ui,List.length_nil];omega
   ·exact le_succ_of_le (f cs (qq _ k))
  ·rcases rz.mp k with rfl|k
   ·exact le_succ_of_le (f _ uf)
   ·exact qN (fun cs k=>f cs (qq _ k)) cs k
theorem sV{is:List Int}:∀i,∀cs∈(lQ is i).map (·.2),cs.length≤i
 | 0,cs,k=>by cases k
 |i+1,cs,k=>by
  unfold lQ at k;split at k
  ·exact qN (sV i) cs k
  ·exact le_succ_of_le (sV i cs k)
theorem wK:∀{ds:List D} {k i:Nat} {d:D},ds[i]?=some d→(kT k ds)[i]?=some (.tup [.int ((k+i:Nat):Int),d])
 |[],k,i,d,h=>by cases i<;>cases h
 |x::r,k,0,d,h=>by cases h;rfl
 |x::r,k,i+1,d,h=>by
  have:=wK (ds:=r) (k:=k+1) (i:=i) h
  show (kT (k+1) r)[i]?=_
  rw[this,show k+1+i=k+(i+1) by omega]
section
variable {CX:aj}{G:GS}{T:Tx}{lv:Nat}{X:Cx}{c:CC}{p:Nat→Pos}{EX:Str→Hp→Prop}
noncomputable def pcR(is:List Int):List Sl:=[.un,.im (.lst (is.map .int)),.un,.un,.un,.un]
theorem TY{K:uz}{H:Hp}{g a:Addr}{is:List Int}{σ:L2.St}(hl:σ.length=6)(e1:σ[1]?=some (some (.ref a)))(eg:∃o,H g=some o)(ea:H a=some (.lst (is.map .int)))(ne:a≠g):RE K T H (fun b=>b=g) (pcR is) σ:=by
 refine⟨fun b z=>by rw[z];exact eg,hl.symm,fun i s e=>?_⟩
 match i,e with
 | 0,e=>cases e;trivial
 | 1,e =>
  cases e;refine⟨_,e1,?_⟩;unfold Rep;exact⟨a,_,rfl,ne,ea,mQ is⟩
 | 2,e=>cases e;trivial
 | 3,e=>cases e;trivial
 | 4,e=>cases e;trivial
 | 5,e=>cases e;trivial
 |i+6,e=>cases e
def tPc:TS:=fun D σ H=>∃(g a:Addr) (is:List Int),σ.length=6∧σ[1]?=some (some (.ref a))∧σ[3]?=some (some (.ref g))∧H a=some (.lst (is.map .int))∧H g=some (.dK [])∧is.length<big ∧
 ∀q as H',(∀b o,b≠g→H b=some o→H' b=some o)→H q=none→H' q=some (.lst (as.map .ref))→GL H' ((lQ is is.length).map (·.2)) as→(∀x∈as,H x=none∧x≠q)→D.rt (.ref q) H'
theorem PD(xc:XC CX X c G T lv)(xs:XS CX T X c EX)(P:p7 c p):PSs X (sD p) tPc:=by
 intro pins s σ H Dn I ⟨g,a,is,hl,e1,e3,ea,eg,hb,q⟩;have nag:a≠g:=fun z=>by rw[z,eg]at ea;cases ea
 have me:X.mg "enumerate" = none:=xc.go.bi _ (by decide +kernel) P.en1 P.en2
 have ml:X.mg "list" = none:=xc.go.bi _ (by decide +kernel) P.li1 P.li2
 have hg:PG X (.Tuple [.Name "cell" (p 0),.Name "head" (p 1)] 0 (p 2)) (gEx X.K T [4,5] true):=fun pins s σ H v u Q I r ⟨ρ,S,ρ1,d,ly,h⟩=>OW xc P.tg ly pins s σ H v u Q I r h
 have hpa:PA X [.Name "least" (p 4)] (b9 X.K T (fun b=>b=g) (pcR is) [.lst (is.map .int)]):=fun pos pins s σ H Q I ⟨re,q⟩ =>
  aR (UC (S:=fun b=>b=g) (ρ:=pcR is) xc P.least rfl) bU rfl pos pins s σ H Q I ⟨re,fun v H' sm r=>q [v] H' sm (aD.cons r aD.nil)⟩
 refine bI (rY xs.pass xc.calm (HL (xc.glob P.en) me hpa rfl (ds:=kT 0 (is.map .int)) rfl) hg (PB xc P)) (dP (gF (pJ xc.calm (dU xc P.groups) (xc.glob P.li) ml P.l3))) pins s σ H Dn I ?_;refine⟨TY hl e1 ⟨_,eg⟩ ea nag,fun J H1 sm i6 hlen=>?_⟩
 have k1:∀b o,b≠g→H b=some o→H1 b=some o:=fun b o _ e=>sm b o e
 refine⟨fun i m σ' H'=>m=is.length-i∧i≤is.length∧σ'.length=6∧σ'[1]?=some (some (.ref a))∧σ'[3]?=some (some (.ref g))∧∃kvs as,H' g=some (.dK kvs)∧GR H' (lQ is i) kvs as∧g∉as∧(∀b o,b≠g→H1 b=some o→H' b=some o)∧∀b∈as,H1 b=none,⟨is.length,rfl,uu _,hl,e1,e3,[],[],sm _ _ eg,.nil,by simp,fun b o _ e=>e,by simp⟩,?_⟩
 rintro i m σ' H' ⟨rfl,hi,gg,e1',e3',kvs,as,p6,gr,ng,kp,fr⟩;have ea':H' a=some (.lst (is.map .int)):=kp a _ nag (sm _ _ ea)
 obtain⟨ny,nv⟩:=i6 H' (fun b=>b=g) (fun b n _=>⟨n,fun o e=>kp b o n e⟩) (fun b z=>⟨.dK kvs,by rw[z];exact p6⟩)
 by_cases dy:i<is.length
 ·refine .inr ?_;have hat:is[i]?=some is[i]:=qh dy
  have hd:(kT 0 (is.map D.int))[i]?=some (.tup [.int (i:Nat),.int is[i]]):=by
   have:=wK (k:=0) (i:=i) (ds:=is.map D.int) (d:=.int is[i]) (by rw[qi,hat];rfl)
   rw[sf]at this;exact this
  obtain⟨i9,hy⟩:=ny i _ hd;refine⟨i9,fun σ2 H2=>σ2.length=6∧σ2[1]?=some (some (.ref a))∧σ2[3]?=some (some (.ref g))∧∃kvs as,H2 g=some (.dK kvs)∧GR H2 (lQ is (i+1)) kvs as∧g∉as∧(∀b o,b≠g→H1 b=some o→H2 b=some o)∧∀b∈as,H1 b=none,fun σ2 H2 h=>⟨is.length-(i+1),by omega,rfl,dy,h⟩,fun x H2 nz=>?_⟩
  obtain⟨s2,rx⟩:=hy x H2 nz;refine⟨pcR is,fun b=>b=g,[.un,.im (.lst (is.map .int)),.un,.un,.im (.int (i:Nat)),.im (.int is[i])],.tup [.int (i:Nat),.int is[i]],rfl,TY gg e1' ⟨_,s2 _ _ p6⟩ (s2 _ _ ea') nag,rx,fun σ3 je ag=>?_⟩
  obtain⟨v4,f4,r4⟩:=je.at_ 4 _ rfl;obtain⟨v5,f5,r5⟩:=je.at_ 5 _ rfl;unfold Rep at r4 r5;subst r4 r5;have g1:σ3[1]?=some (some (.ref a)):=(ag 1 (by decide)).trans e1'
  have g3:σ3[3]?=some (some (.ref g)):=(ag 3 (by decide)).trans e3'
  refine⟨g,lQ is i,kvs,as,i,is[i],g3,f4,f5,s2 _ _ p6,gr.frame fun b _ o e=>s2 b o e,ng,?_,fun cs k=>?_,fun H3 ai cj kp' new eg3 gr3 ng3=>⟨je.len.symm,g1,g3,ai,cj,eg3,?_,ng3,fun b o n e=>kp' b o n (fun m=>by rw[fr b m]at e;cases e) (s2 b o (kp b o n e)),fun b m=>?_⟩⟩
  ·have:=oG (is:=is) i
   omega
  ·have:=sV i cs k
   omega
  ·unfold lQ;rw[hat];exact gr3
  ·rcases new b m with m|hn
   ·exact fr b m
   ·cases e:H1 b with
    |none=>rfl
    |some o =>
     have:H2 b=some o:=s2 b o (kp b o (lI m ng3) e)
     rw[hn]at this;cases this
 ·have hn:i=is.length:=by omega
  subst hn;refine .inl ⟨nv is.length (by rw[jP,qj];exact qk _),g,kvs,e3',p6,fun l i8=>?_⟩
  rw[gr.vals];have nl:∀b∈as,b≠l:=fun b m z=>by
   obtain⟨o,hb⟩:=gr.mem b m;rw[z,i8]at hb;cases hb
  have hH:∀b,b≠g→H' b=none→H b=none:=fun b n e=>by
   cases z:H b with
   |none=>rfl
   |some o =>
    have:=kp b o n (sm _ _ z)
    rw[e]at this;cases this
  have lg:l≠g:=fun z=>by rw[z,p6]at i8;cases i8
  refine q l as _ (fun b o n e=>?_) (hH l lg i8) aH ((gr.frame fun b m o e=>by rw[aG (nl b m)];exact e).gl) fun x m=>⟨?_,nl x m⟩
  ·rw[aG (aJ (kp b o n (sm _ _ e)) i8)];exact kp b o n (sm _ _ e)
  ·exact sm.free (fr x m)
end
noncomputable def dO(G:GS)(i1 i2:IS)(ds:List D):Option (List (List Int)):=match ex G i1 (gE 6 ds) with
 |some (.nx ρ1)=>(match ex G i2 ρ1 with
  |some (.nx ρ2)=>(match slot ρ2 1 with
   |some (.lst ls)=>(match fY ls with
    |some is=>if is.length<big∧ρ2.length=6 then some ((lQ is is.length).map (·.2)) else none
    |none=>none)
   |_=>none)
  |_=>none)
 |_=>none
def iz(K:uz)(T:Tx)(f:List D→Option (List (List Int))):Sp:=fun vs H Q _=>vs.length=1∧∃(S:Addr→Prop) (ds:List D) (gs:List (List Int)),(∀a,S a→∃o,H a=some o)∧aD K T H S ds vs∧f ds=some gs ∧
 ∀q as H',aF H H'→H q=none→H' q=some (.lst (as.map .ref))→GL H' gs as→(∀x∈as,H x=none∧x≠q)→Q (.ref q) H'
theorem qK:∀{ls:List D} {is:List Int},fY ls=some is→ls=is.map .int
 |[],is,h=>by cases h;rfl
 |d::ls,is,h=>by
  cases d<;>first|exact nomatch (show none=some is from h)|skip
  rename_i i;obtain⟨js,h1,rfl⟩:=aM (show (fY ls).map (i :: ·)=some is from h)
  rw[qK h1];rfl
theorem EZ{G:GS}{T:Tx}{lv:Nat}{P:v7}{w:World}{K:uz}{mg:va}{base:Heap}{x qual:Str}{st:Stmt}{f:Addr}{fd:v3}{N:List Str}{c:CC}{n:Nat}{s1 s2 s3:Stmt}{i1 i2:IS}{p:Nat→Pos}{a0:Str}(F:Fun K x qual st f fd)(fs:aa N [a0] (aB st))(hN:c.N=N)(o7:N.length=6)(f6:c.sc=aB st)(hk:iH c (aB st)=true)
  (hb:aL st=s1::s2::s3::sD p) (h1:cS n c s1=some i1) (h2:cS n c s2=some i2) (h3:cS n c s3=some (.setd 3)) (hP:p7 c p)
  (go:∀(X:Cx),X.prog=P→X.w=w→X.K=K→X.mg=mg→X.base=base→kh (bP P w) X c G T lv):FnOk P w K mg base (bP P w) (lv+1) f fd [a0] (iz K T (dO G i1 i2)):=by
 obtain⟨oc,od,kV,doc,pm,an,aw,ct,i4,rfl,lk,cf⟩:=F.ex;refine AO lk cf fs (fun vs H Q E h=>h.1) fun A outer s H vs Q E hr aq=>?_
 obtain⟨hlen,S,ds,gs,dom,rl,hd,q⟩:=aq;have xc:XC (bP P w) (iZ (bP P w) P w K mg base N qual (aB st) f aw A outer s H E) c G T lv:=(rJ (CX:=bP P w) (E:=E) (P:=P) (w:=w) (mg:=mg) (base:=base) (outer:=outer) (s:=s) (H:=H) (f:=f) (cd:=aw) (qual:=qual) hN f6 fs hk hr (go _ rfl rfl rfl rfl rfl)).re rfl rfl rfl rfl rfl rfl rfl rfl rfl rfl
 have xs:XS (bP P w) T (iZ (bP P w) P w K mg base N qual (aB st) f aw A outer s H E) c (fun k H'=>∃C,T.xc k=some C∧E (.ref C) none H'):=by
  refine⟨fs.kind,PassesOwn.leaving,fun y m j p p' q pos hg hc=>?_,fun E1 h1=>sF fun cls H' z=>?_,rfl,rfl⟩
  ·rintro pins s1 σ H1 D I ⟨C,hT,hE⟩;exact nN (W:=fun H'=>E (.ref C) none H') rfl (xc.glob hg) (xc.gne hg) (xc.go.xcl y C hT) (xc.go.xk y C hT) (fun pins σ H s h' e vs I hm hE=>jY I hm hE) pins s1 σ H1 D I hE
  ·obtain⟨k,C,hT,rfl,C',ef,hE⟩:=h1 cls H' z;rw[hT]at ef;cases ef;exact hE
 refine⟨_,by rw[hb];exact bI ((gZ (S₀:=S) (H₀:=H) (fr:=false) n).1 _ c _ i1 xc xs h1 (fun z=>by cases z)) (bI ((gZ (S₀:=S) (H₀:=H) (fr:=false) n).1 _ c _ i2 xc xs h2 (fun z=>by cases z)) (bI ((gZ (S₀:=S) (H₀:=H) (fr:=false) n).1 _ c _ (.setd 3) xc xs h3 (fun z=>by cases z)) (PD xc xs hP))),?_⟩
 unfold dO at hd;split at hd
 ·rename_i ρ1 x1;split at hd
  ·rename_i ρ2 x2;split at hd
   ·rename_i ls x3;split at hd
    ·rename_i is x4;split at hd
     ·rename_i hbig;cases hd;obtain rfl:=qK x4;refine⟨gE N.length ds,.nx ρ1,S,by rw[←o7]at x1;exact x1,kH dom rl,?_⟩
      show ∀S' σ' H',SInv K T S H S' ρ1 σ' H'→_→_
      intro S1 σ1 H1 si1 mv1;refine⟨ρ1,.nx ρ2,S1,x2,si1,?_⟩;show ∀S' σ' H',SInv K T S H S' ρ2 σ' H'→_→_
      intro S2 σ2 H2 si2 k7;refine⟨ρ2,.nx (ρ2.set 3 (.mu (.dct []))),S2,rfl,si2,?_⟩;show ∀S' σ' H',SInv K T S H S' (ρ2.set 3 (.mu (.dct []))) σ' H'→_→_
      intro S3 σ3 H3 jy mv3;have l2:3<ρ2.length:=by rw[hbig.2];decide
      obtain⟨v1,e1,r1⟩:=jy.re.at_ 1 (.im (.lst (is.map .int))) (by rw[rg (by decide)];exact zI x3)
      obtain⟨g,ob,e3,sg,eg,rm⟩:=jy.re.at_ 3 (.mu (.dct [])) (r8 l2);obtain⟨ys,rfl,rk⟩:=rm.dct;unfold aY at rk;subst rk;unfold Rep at r1;obtain⟨a,jc,rfl,na,ea,rl1⟩:=r1;obtain rfl:=AJ rl1;refine⟨g,a,is,by rw[←jy.re.len,length_set,hbig.2],e1,e3,ea,eg,hbig.1,fun q' as H' kp hq ba gl nw=>?_⟩
      have og:H g=none:=jy.own 3 _ g (r8 l2) e3
      refine q q' as H' (fun b o e=>kp b o (aJ e og) (jy.same b o e)) (jy.same.free hq) ba gl fun x m=>⟨jy.same.free (nw x m).1,(nw x m).2⟩
     ·cases hd
    ·cases hd
   ·cases hd
  ·cases hd
 ·cases hd
theorem aBZ{K:uz}{T:Tx}{f:List D→Option (List (List Int))}{vs:List V}{H:Hp}{Q:VK}{E:XK}(h:fc K T 1 (fun ds=>(f ds).map fun gs=>.ok (.lst (gs.map bz))) false vs H Q E):iz K T f vs H Q E:=by
 obtain⟨h1,S,ds,dom,rl,hc⟩:=h
 rcases hc with ⟨d,hd,q⟩|⟨c,C,hd,_⟩
 ·obtain⟨gs,hg,e⟩:=aM hd;cases e;refine⟨h1,S,ds,gs,dom,rl,hg,fun q' as H' sm hq ba gl nw=>q (.ref q') H' sm ?_ (fun z=>by cases z)⟩
  have nS:∀b,H b=none→¬S b:=fun b e z=>by
   obtain⟨o,z⟩:=dom b z;rw[e]at z;cases z
  unfold Rep;exact⟨q',_,rfl,nS q' hq,ba,gl.rep fun a m=>nS a (nw a m).1⟩
 ·obtain⟨gs,hg,e⟩:=aM hd;cases e
noncomputable def ir2:IE:=.not (.tr (.isi (.var 3) "list"))
noncomputable def ir3:IE:=.not (.tr (.isi (.var 4) "list"))
noncomputable def fy:IE:=.not (.tr (.call "_law_whole" (.cons (.var 5) .nil)))
noncomputable def k9:IE:=.call "_law_groups" (.cons (.var 2) (.cons (.comp 2 [] [1] false .seq (.var 1) (.lit (.bl true)) (.tup (.cons (.ix (.var 1) (.lit (.int 0))) (.cons (.ix (.var 1) (.lit (.int 1))) .nil)))) .nil))
noncomputable def ir6:IE:=.bin .ne (.var 3) (.var 6)
noncomputable def ir8:IE:=.bin .eq (.call "pieces" (.cons (.var 0) .nil)) (.var 6)
noncomputable def k8:Option D→Bool
 |some (.bl b)=>!b
 |_=>false
theorem JG{o:Option D}(h:k8 o=true):o=some (.bl false):=by
 unfold k8 at h;split at h
 ·rename_i b;cases b with
  |true=>cases h
  |false=>rfl
 ·cases h
noncomputable def ig(G:GS)(fP:List D→Option (List (List Int))):List D→Option Rs
 |[pl,lf,ct]=>(match fP [pl] with
  |some (g::gs)=>(match ev G k9 [.im pl,.im lf,.im ct,.un,.un,.un,.un] with
   |some d=>if plain (.lst ((g::gs).map bz))&&plain d&&ax (.lst ((g::gs).map bz)) d&&decide (g.length<big)&&decide ((g::gs).length<big)&&(g::gs).all (fun cs=>cs.all fun i=>k8 (ev G fy [.un,.un,.un,.un,.un,.im (.int i),.un])) then some (.ok (.bl true)) else none
   |none=>none)
  |_=>none)
 |_=>none
structure kg (c:CC) (n:Nat) (e2 e3 e4 e5 e6 e8:Expr) (p:Nat→Pos):Prop where
 pile:bB c "pile" = some 0
 count:bB c "count" = some 2
 found:bB c "found" = some 3
 one:bB c "one" = some 4
 tfound:dS c (.Name "found" (p 0))=some 3
 tone:dS c (.Name "one" (p 5))=some 4
 tpart:dS c (.Name "part" (p 7))=some 5
 tdue:dS c (.Name "due" (p 9))=some 6
 pc:aP c "pieces" = true
 h2:cT n c e2=some ir2
 h3:cT n c e3=some ir3
 h4:cT n c e4=some fy
 h5:cE n c e5=some k9
 h6:cT n c e6=some ir6
 h8:cE n c e8=some ir8
 c5:lM e5=false
 l1:((p 18).endLine == (p 20).line)=true
 l2:((p 23).endLine == (p 25).line)=true
noncomputable def sU(e2 e3 e4 e5 e6 e8:Expr)(b2 b3 b4 b6:List Stmt)(p:Nat→Pos):List Stmt:=[
 .Assign [.Name "found" (p 0)] (.Call (.Name "pieces" (p 1)) [.Name "pile" (p 2)] [] (p 3)) (p 4),
 .If e2 b2 [] (p 27),
 .For (.Name "one" (p 5)) (.Name "found" (p 6)) [.If e3 b3 [] (p 28),.For (.Name "part" (p 7)) (.Name "one" (p 8)) [.If e4 b4 [] (p 29)] [] (p 30)] [] (p 31),
 .Assign [.Name "due" (p 9)] e5 (p 10),
 .If e6 b6 [] (p 32),
 .Expr (.Call (.Attribute (.Subscript (.Name "found" (p 15)) (.Constant (.int 0) 0 (p 16)) (p 17)) "append" (p 18)) [.Name "count" (p 19)] [] (p 20)) (p 21),
 .Expr (.Call (.Attribute (.Name "found" (p 22)) "append" (p 23)) [.List [] (p 24)] [] (p 25)) (p 26),
 .Return (some e8) (p 33)]
section
variable {CX:aj}{G:GS}{T:Tx}{lv:Nat}{X:Cx}{c:CC}{p:Nat→Pos}{EX:Str→Hp→Prop}{n:Nat}{e2 e3 e4 e5 e6 e8:Expr}{b2 b3 b4 b6:List Stmt}
noncomputable def fu(i:Nat)(d:D):List Sl:=(List.replicate 7 Sl.un).set i (.im d)
theorem rV{K:uz}{H:Hp}{σ:L2.St}{i:Nat}{d:D}{v:V}(hl:σ.length=7)(e:σ[i]?=some (some v))(r:Rep K T H (fun _=>False) d v):RE K T H (fun _=>False) (fu i d) σ:=by
 have hi:i<7:=by rw[←hl];exact(q9.mp e).1
 refine⟨fun a z=>z.elim,by rw[hl];simp[fu],fun j s ej=>?_⟩
 unfold fu at ej
 by_cases hj:i=j
 ·subst hj;rw[r8 (by simpa using hi)]at ej
  cases ej;exact⟨v,e,r⟩
 ·rw[rg hj,getElem?_replicate]at ej;split at ej
  ·cases ej;trivial
  ·cases ej
theorem XT(xc:XC CX X c G T lv)(P:kg c n e2 e3 e4 e5 e6 e8 p):PT X e3 (fun σ H Q=>∃cs:List Int,RE X.K T H (fun _=>False) (fu 4 (bz cs)) σ∧∀H',aF H H'→Q false H'):=fun pins s σ H Q I ⟨cs,h⟩ =>
 (bV n).2.1 X c (fun _=>False) (fu 4 (bz cs)) e3 ir3 xc P.h3 false rfl pins s σ H Q I h
theorem OL(xc:XC CX X c G T lv)(P:kg c n e2 e3 e4 e5 e6 e8 p):PT X e4 (fun σ H Q=>∃i:Int,ev G fy (fu 5 (.int i))=some (.bl false)∧RE X.K T H (fun _=>False) (fu 5 (.int i)) σ∧∀H',aF H H'→Q false H'):=fun pins s σ H Q I ⟨i,he,h⟩ =>
 (bV n).2.1 X c (fun _=>False) (fu 5 (.int i)) e4 fy xc P.h4 false he pins s σ H Q I h
def aBT(G:GS):TS:=fun D σ H=>∃(a:Addr) (cs:List Int),σ.length=7∧σ[4]?=some (some (.ref a))∧H a=some (.lst (cs.map .int))∧(∀i∈cs,ev G fy (fu 5 (.int i))=some (.bl false))∧∀σ' H',aF H H'→(∀j,j≠5→σ'[j]?=σ[j]?)→σ'.length=7→D.nx σ' H'
theorem aAg(xc:XC CX X c G T lv)(xs:XS CX T X c EX)(P:kg c n e2 e3 e4 e5 e6 e8 p):PSs X [.If e3 b3 [] (p 28),.For (.Name "part" (p 7)) (.Name "one" (p 8)) [.If e4 b4 [] (p 29)] [] (p 30)]
  (aBT G):=by
 intro pins s σ H Dn I ⟨a,cs,hl,e4',ea,hw,q⟩;obtain⟨hN5,hk5⟩:=cQ P.tpart;obtain⟨hl5,hf5⟩:=xc.loc hk5;have pg5:PG X (.Name "part" (p 7)) (jS 5):=kL (by rw[xc.N];exact xc.nd) (by rw[xc.N];exact hN5) hl5 hf5
 refine bI (qC (XT xc P) jF gW) (dP (rY xs.pass xc.calm (zQ (dU xc P.one)) pg5 (dP (qC (OL xc P) jF gW)))) pins s σ H Dn I ?_;refine⟨cs,rV hl e4' (by unfold bz Rep;exact⟨a,_,rfl,fun z=>z,ea,mQ cs⟩),fun H1 s1=>jZ ?_⟩
 refine⟨.ref a,e4',a,rfl,⟨_,SqL.of (s1 _ _ ea)⟩,?_⟩;refine wA (xs:=cs.map .int) (fun _ σ' H'=>aF H1 H'∧(∀j,j≠5→σ'[j]?=σ[j]?)∧σ'.length=7) ⟨aF.refl _,fun _ _=>rfl,hl⟩ (fun i σ' H' _ ⟨sm,_⟩=>SqL.of (sm _ _ (s1 _ _ ea))) (fun i x σ' H' hx ⟨sm,ag,gg⟩=>?_) fun σ' H' ⟨sm,ag,gg⟩=>q σ' H' (s1.trans sm) ag gg
 rw[qi]at hx;obtain⟨k,hk,rfl⟩:=qv.mp hx;refine⟨k,hw k (qf hk),rV (v:=.int k) (by rw[length_set];exact gg) (r8 (by rw[gg];decide)) (by unfold Rep;rfl),fun H2 s2=>jZ ⟨sm.trans s2,fun j hj=>by rw[rg (Ne.symm hj)];exact ag j hj,by rw[length_set];exact gg⟩⟩
end
end Z
namespace Z
open PySem Pg G11 Gp
namespace K11
noncomputable def pc1:IS:=(.set 1 (.walk .rng (.tup (.cons (.bin .mul (.fld (.var 0) "columns") (.fld (.var 0) "rows")) .nil))))
noncomputable def pcB:IS:=(.set 1 (.call "hung_together" (.cons (.var 1) (.cons (.ix (.var 1) (.ix (.var 2) (.lit (.int 0)))) (.cons (.ix (.var 1) (.ix (.var 2) (.lit (.int 1)))) .nil)))))
noncomputable def pc2:IS:=(.loop [2] false .seq (.call "joints" (.cons (.var 0) .nil)) pcB)
noncomputable def cK(g:List Nat):List Int:=g.map fun (k:Nat)=>(k:Int)
theorem vF{k c:Nat}:∀{gs:List (Nat×List Nat)},cU (k:Int) (c:Int) (gs.map fun g=>((g.1:Int),cK g.2))=(put k c gs).map fun g=>((g.1:Int),cK g.2)
 |[]=>rfl
 | (h,cs)::r=>by
  rw[sq];unfold cU put
  by_cases e:h=k
  ·rw[if_pos e,if_pos (by show (h:Int)=k;omega)]
   simp[cK]
  ·rw[if_neg e,if_neg (by show ¬(h:Int)=k;omega),vF]
   rfl
theorem qO{n:Nat}{l:G11.Nm}(h1:∀k,k<n→l k≤k)(h2:∀k,k<n→l (l k)=l k):∀m,m≤n→lQ ((List.range n).map fun k=>(l k:Int)) m=(dict m l).map fun g=>((g.1:Int),cK g.2)
 | 0,_=>rfl
 |m+1,hm=>by
  have e:((List.range n).map fun k=>(l k:Int))[m]?=some (l m:Int):=by rw[qi,uh (by omega)];rfl
  rw[FH h1 h2 (show m<n by omega),←vF,←qO h1 h2 m (by omega)]
  show (match ((List.range n).map fun k=>(l k:Int))[m]? with|some h=>cU h m _|none=>_)=_
  rw[e]
theorem AK{α:Type}{f:α→Int}:∀{L:List α},fY (L.map fun k=>D.int (f k))=some (L.map f)
 |[]=>rfl
 |a::L=>by
  show (fY (L.map fun k=>D.int (f k))).map (f a :: ·)=_
  rw[AK];rfl
section
variable {G:GS}{c r w h:Nat}{T:Table}{F:List D}{sp:List Spot}{sev:List (Nat×Nat)}
noncomputable def bK(c n:Nat)(sev:List (Nat×Nat)):List (Nat×Nat):=(left c n sev).map pairOf
theorem ZF{c n k:Nat}{j:Nat×Nat×Bool}(h:j∈i5 c n k):(j=(k,k+1,false)∧k % c<c-1)∨(j=(k,k+c,true)∧k+c<n):=by
 unfold i5 at h
 rcases uy.mp h with h|h
 ·by_cases e:k % c<c-1
  ·rw[sr e]at h;exact .inl ⟨rn.mp h,e⟩
  ·rw[qm e]at h;cases h
 ·by_cases e:k+c<n
  ·rw[sr e]at h;exact .inr ⟨rn.mp h,e⟩
  ·rw[qm e]at h;cases h
theorem sI{c n m:Nat}{j:Nat×Nat×Bool}(h:j∈bY c n m):∃k,k<m∧((j=(k,k+1,false)∧k % c<c-1)∨(j=(k,k+c,true)∧k+c<n)):=by
 obtain⟨k,hk,h⟩:=List.mem_flatMap.mp h;exact⟨k,ur.mp hk,ZF h⟩
theorem QG{c n m:Nat}{j j':Nat×Nat×Bool}(h:j∈bY c n m)(h':j'∈bY c n m)(e:pairOf j=pairOf j'):j=j':=by
 obtain⟨k,_,hk⟩:=sI h;obtain⟨k',_,fj⟩:=sI h'
 rcases hk with ⟨rfl,a⟩|⟨rfl,a⟩<;>rcases fj with ⟨rfl,a'⟩|⟨rfl,a'⟩<;>simp only[pairOf,Prod.mk.injEq]at e<;>obtain⟨rfl,e⟩:=e
 ·rfl
 ·exfalso
  have:c=1:=by omega
  subst this;omega
 ·exfalso
  have:c=1:=by omega
  subst this;omega
 ·rfl
theorem zX{j:Nat×Nat×Bool}(hc:1≤c)(h:j∈bY c (c*r) (c*r)):j.1<c*r∧j.2.1<c*r:=by
 obtain⟨k,hk,h⟩:=sI h
 rcases h with ⟨rfl,a⟩|⟨rfl,a⟩
 ·refine⟨hk,?_⟩;show k+1<c*r
  have h1:k / c<r:=by rw[Nat.div_lt_iff_lt_mul (by omega),mul_comm];exact hk
  have h2:c*(k / c)+k % c=k:=Nat.div_add_mod k c
  have h3:c*(k / c+1)≤c*r:=Nat.mul_le_mul_left c h1
  rw[Nat.mul_add]at h3;omega
 ·exact⟨hk,a⟩
theorem rQ(hc:1≤c){a b:Nat}(h:(a,b)∈bK c (c*r) sev):a<c*r∧b<c*r:=by
 obtain⟨j,hj,e⟩:=sv.mp h;have:=zX hc ((mem_filter.mp hj).1)
 unfold pairOf at e;cases e;exact this
theorem IV{n:Nat}{l:Bool}{k:Int}:left c n (sev++eW c n sp sev l k)=(left c n sev).filter fun j=>!nT sp l k j:=by
 unfold left;rw[List.filter_filter];refine List.filter_congr fun j hj=>?_
 rw[Bool.eq_iff_iff,not_eq_true',qt,not_eq_true',not_eq_true',List.contains_eq_any_beq,List.contains_eq_any_beq,List.any_append,Bool.or_eq_false_iff];constructor
 ·rintro⟨h1,h2⟩;refine⟨?_,h1⟩;cases e:nT sp l k j with
  |false=>rfl
  |true =>
   exfalso
   have hm:pairOf j∈eW c n sp sev l k:=sv.mpr ⟨j,mem_filter.mpr ⟨mem_filter.mpr ⟨hj,by rw[List.contains_eq_any_beq,h1];rfl⟩,e⟩,rfl⟩
   have:=List.any_eq_false.mp h2 _ hm
   simp at this
 ·rintro⟨h1,h2⟩;refine⟨h2,List.any_eq_false.mpr fun q hq=>?_⟩
  obtain⟨j',hj',rfl⟩:=sv.mp hq;obtain⟨gg,e⟩:=mem_filter.mp hj';intro z;have:j=j':=QG hj ((mem_filter.mp gg).1) (su.mp z)
  subst this;rw[h1]at e;cases e
theorem rC{α:Type}{a b c d:α}:atI [a,b,c,d] 0=some a∧atI [a,b,c,d] 1=some b∧atI [a,b,c,d] 2=some c∧atI [a,b,c,d] 3=some d:=⟨rfl,rfl,rfl,rfl⟩
theorem YG(hf:G.fl "Pile" = bt)(hc:1≤c)(bo:c≤64)(ao:c*r≤64)(oz:G.fn "joints" [pile c r w h T F (sev.map pD)]=some (.ok (.lst ((left c (c*r) sev).map (jD sp)))))
  (hhu:∀(l:G11.Nm) (p q:Nat),G.fn "hung_together" [.lst (nmL (c*r) l),.int (p:Nat),.int (q:Nat)]=some (.ok (.lst (nmL (c*r) (hung l p q))))) :
  dO G pc1 pc2 [pile c r w h T F (sev.map pD)]=some ((told (c*r) (hungs (bK c (c*r) sev) id)).map cK):=by
 have x1:ex G pc1 (gE 6 [pile c r w h T F (sev.map pD)])=some (.nx [.im (pile c r w h T F (sev.map pD)),.im (.lst (nmL (c*r) id)),.un,.un,.un,.un]):=by
  refine(aN (d:=.lst (nmL (c*r) id)) ?_).trans rfl;have e0:ev G (.var 0) (gE 6 [pile c r w h T F (sev.map pD)])=some (bE c r w h (T.map sE) F (sev.map pD)):=rfl
  rw[BV,oS,aU,bW,gN hf e0,nR hf e0];simp only[aA,jL (show c≤1000000 by omega),lU,jR,aC]
  rw[eK (by omega)]
  rfl
 have lp:∀(L:List (Nat×Nat×Bool)) (l:G11.Nm) (s2:Sl),(∀j∈L,j.1<c*r∧j.2.1<c*r)→∃s,cV (bD [2] false) (ex G pcB) (L.map (jD sp)) [.im (pile c r w h T F (sev.map pD)),.im (.lst (nmL (c*r) l)),s2,.un,.un,.un]=some (.nx [.im (pile c r w h T F (sev.map pD)),.im (.lst (nmL (c*r) (hungs (L.map pairOf) l))),s,.un,.un,.un]):=by
  intro L
  induction L with
  |nil=>intro l s2 _;exact⟨s2,rfl⟩
  |cons j L ih =>
   intro l s2 hb;obtain⟨h1,h2⟩:=hb j uf;obtain⟨s,e⟩:=ih (hung l (l j.1) (l j.2.1)) (.im (jD sp j)) fun j m=>hb j (qq _ m)
   refine⟨s,?_⟩;have eb:ex G pcB [.im (pile c r w h T F (sev.map pD)),.im (.lst (nmL (c*r) l)),.im (jD sp j),.un,.un,.un]=some (.nx [.im (pile c r w h T F (sev.map pD)),.im (.lst (nmL (c*r) (hung l (l j.1) (l j.2.1)))),.im (jD sp j),.un,.un,.un]):=by
    refine(aN (d:=.lst (nmL (c*r) (hung l (l j.1) (l j.2.1)))) ?_).trans rfl;simp only[zz,yy,aA,aC,jD,rC.1,rC.2.1,mB h1,mB h2,hhu]
   rw[sq];unfold cV;rw[show bD [2] false (jD sp j) [.im (pile c r w h T F (sev.map pD)),.im (.lst (nmL (c*r) l)),s2,.un,.un,.un]=some [.im (pile c r w h T F (sev.map pD)),.im (.lst (nmL (c*r) l)),.im (jD sp j),.un,.un,.un] from rfl]
   show ((ex G pcB [.im (pile c r w h T F (sev.map pD)),.im (.lst (nmL (c*r) l)),.im (jD sp j),.un,.un,.un]).bind _)=_
   rw[eb];exact e
 obtain⟨s,x2⟩:=lp (left c (c*r) sev) id .un fun j m=>zX hc ((mem_filter.mp m).1)
 have x2':ex G pc2 [.im (pile c r w h T F (sev.map pD)),.im (.lst (nmL (c*r) id)),.un,.un,.un,.un]=some (.nx [.im (pile c r w h T F (sev.map pD)),.im (.lst (nmL (c*r) (hungs (bK c (c*r) sev) id))),s,.un,.un,.un]):=
  (eN (d:=.lst ((left c (c*r) sev).map (jD sp))) (by simp only[zz,yy,aA,aC,oz]) eD).trans x2
 have gd:=hungs_good (n:=c*r) (bK:=bK c (c*r) sev) fun a b z=>rQ hc z
 have ei:fY (nmL (c*r) (hungs (bK c (c*r) sev) id))=some ((List.range (c*r)).map fun k=>(hungs (bK c (c*r) sev) id k:Int)):=AK
 unfold dO;rw[x1];dsimp only;rw[x2'];dsimp only;show (match fY (nmL (c*r) (hungs (bK c (c*r) sev) id)) with|some is=>_|none=>_)=_
 rw[ei];dsimp only;have el:((List.range (c*r)).map fun k=>(hungs (bK c (c*r) sev) id k:Int)).length=c*r:=by rw[qj,qz]
 rw[if_pos ⟨by rw[el];unfold big;omega,rfl⟩,el,qO (fun k hk=>gd.le k hk) (fun k hk=>gd.idem hk) _ (qk _)]
 unfold dict told;rw[um,um,um];rfl
theorem vY{g:List Nat}:bz (cK g)=grpD g:=by
 unfold bz cK grpD;rw[um];rfl
theorem JT{g:List Nat}:flat 7 (grpD g)=true:=by
 unfold grpD;show (g.map _).all (flat 6)=true
 rw[all_map];exact all_eq_true.mpr fun _ _=>rfl
theorem SG{g:List Nat}:ax (grpD g) (grpD g)=true:=by
 unfold grpD;rw[jQ];exact fS fun k=>by simp[ax]
theorem aEN{fP:List D→Option (List (List Int))}{pl:D}{n:Nat}{L:List (Nat×Nat×Bool)}{l:G11.Nm}(hn1:1≤n)(hn:n≤64)(h0:l 0=0)(hfP:fP [pl]=some ((told n l).map cK))
  (hgr:G.fn "_law_groups" [.int (n:Nat),.lst ((L.map pairOf).map tieD)]=some (.ok (.lst ((told n l).map grpD)))) (hw:∀i:Int,G.fn "_law_whole" [.int i]=some (.ok (.bl true))) :
  ig G fP [pl,.lst (L.map (jD sp)),.int (n:Nat)]=some (.ok (.bl true)):=by
 have ne:told n l≠[]:=by
  unfold told;intro z;have:(0:Nat)∈heads n l:=mem_filter.mpr ⟨ur.mpr (by omega),by rw[h0];rfl⟩
  rw[List.map_eq_nil_iff.mp z]at this;cases this
 have len:(told n l).length≤n:=by
  unfold told heads;rw[qj];exact rj (length_filter_le _ _) (by rw[qz];exact qk _)
 have lens:∀g∈told n l,g.length≤n:=fun g m=>by
  obtain⟨k,_,rfl⟩:=sv.mp m;unfold cells;exact rj (length_filter_le _ _) (by rw[qz];exact qk _)
 obtain⟨g,gs,e⟩:∃g gs,told n l=g::gs:=by
  cases q:told n l with
  |nil=>exact absurd q ne
  |cons g gs=>exact⟨g,gs,rfl⟩
 have e5:ev G k9 [.im pl,.im (.lst (L.map (jD sp))),.im (.int (n:Nat)),.un,.un,.un,.un]=some (.lst ((told n l).map grpD)):=by
  have ec:ev G (.comp 2 [] [1] false .seq (.var 1) (.lit (.bl true)) (.tup (.cons (.ix (.var 1) (.lit (.int 0))) (.cons (.ix (.var 1) (.lit (.int 1))) .nil)))) [.im pl,.im (.lst (L.map (jD sp))),.im (.int (n:Nat)),.un,.un,.un,.un]=some (.lst ((L.map pairOf).map tieD)):=by
   rw[um];refine cJ (L:=L) (jD sp) (fun j=>tieD (pairOf j)) (s:=.lst (L.map (jD sp))) rfl eD fun j _=>⟨[.un,.im (jD sp j)],rfl,rfl,?_⟩
   simp only[zz,yy,aA,aC,jD,rC.1,rC.2.1];rfl
  unfold k9;rw[kS,aU,aU,ec];simp only[zz,yy,aA,aC,hgr]
 have e4:∀i:Int,k8 (ev G fy [.un,.un,.un,.un,.un,.im (.int i),.un])=true:=fun i=>by
  have:ev G fy [.un,.un,.un,.un,.un,.im (.int i),.un]=some (.bl false):=by
   unfold fy;simp only[zz,yy,aA,aC,hw,eQ,sj]
  rw[this];rfl
 have em:(cK g::gs.map cK).map bz=(told n l).map grpD:=by
  rw[e,sq,sq,vY,um]
  congr 1
  exact List.map_congr_left fun x _=>vY
 unfold ig;dsimp only;rw[hfP,e];show (match ev G k9 [.im pl,.im (.lst (L.map (jD sp))),.im (.int (n:Nat)),.un,.un,.un,.un] with|some d=>(if plain (.lst ((cK g::gs.map cK).map bz))&&plain d&&ax (.lst ((cK g::gs.map cK).map bz)) d&&decide ((cK g).length<big)&&decide ((cK g::gs.map cK).length<big)&&(cK g::gs.map cK).all (fun cs=>cs.all fun i=>k8 (ev G fy [.un,.un,.un,.un,.un,.im (.int i),.un])) then some (Rs.ok (.bl true)) else none)|none=>none)=_
 rw[e5];dsimp only;rw[em];have p1:plain (.lst ((told n l).map grpD))=true:=jG fun _=>JT
 have p2:ax (.lst ((told n l).map grpD)) (.lst ((told n l).map grpD))=true:=by rw[jQ];exact fS fun _=>SG
 have p3:decide ((cK g).length<big)=true:=sr (by
  have:=lens g (by rw[e];exact uf)
  unfold cK big;rw[qj];omega)
 have p4:decide ((cK g::gs.map cK).length<big)=true:=sr (by
  rw[e,ui]at len;unfold big;rw[ui,qj];omega)
 have p5:((cK g::gs.map cK).all fun cs=>cs.all fun i=>k8 (ev G fy [.un,.un,.un,.un,.un,.im (.int i),.un]))=true:=all_eq_true.mpr fun cs _=>all_eq_true.mpr fun i _=>e4 i
 rw[p1,p2,p3,p4,p5];rfl
end
end K11
end Z
namespace Z
open PySem
namespace K17
open Pg
noncomputable def b1:IS:=(.iff (.bin .gt (.bin .mul (.fld (.var 3) "wide") (.fld (.var 3) "high")) (.lit (.int 1))) (.seq (.set 5 (.call "_law_fold_by" (.cons (.var 4) (.cons (.fld (.var 3) "wide") (.cons (.fld (.var 3) "high") .nil))))) (.set 3 (.call "folded" (.cons (.var 3) (.cons (.ix (.var 5) (.lit (.int 0))) (.cons (.ix (.var 5) (.lit (.int 1))) (.cons (.ix (.var 5) (.lit (.int 2))) .nil))))))) .nop)
noncomputable def b2:IS:=(.seq (.set 7 (.call "_law_number_by" (.cons (.call "_law_cell_at" (.cons (.var 0) (.cons (.bin .add (.lit (.int 1)) (.bin .mul (.lit (.int 2)) (.var 6))) .nil))) (.cons (.fld (.var 3) "wide") .nil)))) (.seq (.set 8 (.call "_law_number_by" (.cons (.call "_law_cell_at" (.cons (.var 0) (.cons (.bin .add (.lit (.int 2)) (.bin .mul (.lit (.int 2)) (.var 6))) .nil))) (.cons (.fld (.var 3) "high") .nil)))) (.iff (.and (.chain .le .lt (.lit (.int 0)) (.var 7) (.fld (.var 3) "wide")) (.chain .le .lt (.lit (.int 0)) (.var 8) (.fld (.var 3) "high"))) (.seq (.set 9 (.meth (.var 3) "heap" (.cons (.var 7) (.cons (.var 8) .nil)))) (.iff (.or (.not (.tr (.isi (.var 9) "list"))) (.bin .eq (.bcall .len (.cons (.var 9) .nil)) (.lit (.int 0)))) (.ret false (.lit (.bl false))) .nop)) (.iff (.not (.tr (.call "_law_refused" (.cons (.var 3) (.cons (.var 7) (.cons (.var 8) .nil)))))) (.ret false (.lit (.bl false))) .nop))))
section
variable {G:GS}
theorem aDm:af .pow (.int 10) (.int 20)=some (.int (10 ^ 20)):=by
 simp only[af,ZA];rw[if_pos (by decide)]
 rfl
structure PInv (k w h:Nat) (T:Table) (F:List D):Prop where
 rect:Rect T w h
 w64:w≤64
 h64:h≤64
 few:pF (2 ^ k) T
 full:jC T
 fl:F.length≤k
end
end K17
end Z
namespace Z
open PySem Pg G11 Gp
namespace K11
section
variable {G:GS}{c r w h:Nat}{T:Table}{F:List D}{sp:List Spot}{sev:List (Nat×Nat)}
noncomputable def mV:IS:=(.ret true (.comp 3 [(2,0)] [1] false .rng (.tup (.cons (.bin .mul (.fld (.var 0) "wide") (.fld (.var 0) "high")) .nil)) (.lit (.bl true)) (.meth (.var 2) "heap" (.cons (.bin .mod (.var 1) (.fld (.var 2) "wide")) (.cons (.bin .fdiv (.var 1) (.fld (.var 2) "wide")) .nil)))))
noncomputable def lP(T:Table)(w h:Nat):D:=.lst ((List.range (w*h)).map fun (k:Nat)=>hE (aT T (k % w) (k / w)))
theorem JP(hf:G.fl "Pile" = bt){S:List D}(w1:1≤w)(w64:w≤64)(h64:h≤64)(hhp:∀x y:Nat,x<w→y<h→G.me "Pile" "heap" [pile c r w h T F S,.int (x:Nat),.int (y:Nat)]=some (.ok (hE (aT T x y)))):aS G 1 mV [pile c r w h T F S]=some (.ok (lP T w h)):=by
 have hwh:w*h≤64*64:=mul_le_mul w64 h64
 refine aO (ρ:=[.im (pile c r w h T F S)]) rfl (aV ?_);refine cJ (L:=List.range (w*h)) (fun (k:Nat)=>D.int k) (fun (k:Nat)=>hE (aT T (k % w) (k / w))) (s:=.tup [.int ((w*h:Nat):Int)]) ?_ (eK (by omega)) fun k hk=>⟨[.un,.im (.int (k:Nat)),.im (pile c r w h T F S)],rfl,rfl,?_⟩
 ·have e0:ev G (.var 0) [.im (pile c r w h T F S)]=some (bE c r w h (T.map sE) F S):=rfl
  rw[oS,aU,bW,gX hf e0,iO hf e0];simp only[aA,jL (show w≤1000000 by omega),lU,jR,aC]
 ·have hk:=ur.mp hk
  have hx:k % w<w:=Nat.mod_lt _ w1
  have hy:k / w<h:=by rw[Nat.div_lt_iff_lt_mul (by omega),mul_comm];exact hk
  have e0:ev G (.var 2) [.un,.im (.int (k:Nat)),.im (pile c r w h T F S)]=some (bE c r w h (T.map sE) F S):=rfl
  refine(xT (es:=.cons (.bin .mod (.var 1) (.fld (.var 2) "wide")) (.cons (.bin .fdiv (.var 1) (.fld (.var 2) "wide")) .nil)) (ds:=[.int ((k % w:Nat):Int),.int ((k / w:Nat):Int)]) rfl e0 ?_ (hhp _ _ hx hy)).trans rfl;rw[aU,bW,aU,bW,gX hf e0];simp only[lT,TL,slot0,aA,AA (show 0<w by omega),SF (show 0<w by omega) (show w<1000000 by omega),lU]
theorem FC{x:dD}:flat 7 (hE x)=true:=by
 unfold hE;show (x.map ip).all (flat 6)=true
 rw[all_map];exact all_eq_true.mpr fun _ _=>rfl
theorem KM{x:dD}:ax (hE x) (hE x)=true:=by
 unfold hE;rw[jQ];exact fS fun c=>by unfold ip;simp[ax,iK]
theorem IM:af .ne (lP T w h) (lP T w h)=some (.bl false):=ne_self (jG fun _=>FC) (by unfold lP;rw[jQ];exact fS fun _=>KM)
noncomputable def sP:IS:=(.seq (.tryx (.call "cut" (.cons (.var 0) (.cons (.var 1) (.cons (.var 2) .nil)))) "LeafError" (some 3) (.weq "_law_word_of" "place")) (.ret false (.lit (.bl false))))
theorem NN{p:D}{l:Bool}{i:Int}(hc:G.fn "cut" [p,.bl l,.int i]=some (.er "NoPlace"))(h1:G.xn "NoPlace" = true)(h2:G.xn "LeafError" = true)(h3:G.sub "NoPlace" "LeafError" = true)(h4:G.wd "_law_word_of" "NoPlace" = some ("place":Str)):aS G 4 sP [p,.bl l,.int i]=some (.ok (.bl true)):=by
 refine aO (ρ:=[.im p,.im (.bl l),.im (.int i),.un]) rfl (gS ?_ (fun _ z=>by cases z))
 have e:gu G (.call "cut" (.cons (.var 0) (.cons (.var 1) (.cons (.var 2) .nil)))) (view [.im p,.im (.bl l),.im (.int i),.un])=some (.er "NoPlace"):=by
  simp only[gu,gC,iG,bL];simp only[zz,yy,aA,aC,hc]
 rw[RW e];simp only[h1,h2,h3,f7,h4,Bool.and_self,if_true,uc];rw[show ((("place":Str)) == ("place":Str))=true from by decide +kernel]
noncomputable def aFh:IE:=(.tup (.cons (.lit (.int 0)) (.cons (.lit (.int 1)) (.cons (.lit (.bl false)) (.cons (.lit (.int 0)) .nil)))))
noncomputable def aFm:IE:=(.comp 4 [(2,4),(3,6)] [1] false .seq (.var 1) (.or (.bin .ne (.ix (.var 1) (.lit (.int 2))) (.var 2)) (.bin .ne (.ix (.var 1) (.lit (.int 3))) (.var 3))) (.var 1))
noncomputable def mU:IS:=(.seq (.set 4 (.bin .eq (.bin .mod (.var 2) (.lit (.int 2))) (.lit (.int 1)))) (.seq (.set 5 (.ite (.tr (.var 4)) (.fld (.var 0) "high") (.fld (.var 0) "wide"))) (.seq (.set 6 (.bin .mod (.bin .fdiv (.var 2) (.lit (.int 12))) (.bin .add (.var 5) (.lit (.int 1))))) (.seq (.iff (.bin .eq (.bin .mod (.bin .fdiv (.var 2) (.lit (.int 2))) (.lit (.int 6))) (.lit (.int 5))) (.seq (.set 7 (.bin .mod (.bin .fdiv (.var 2) (.lit (.int 24))) (.bin .pow (.lit (.int 10)) (.lit (.int 20))))) (.seq (.set 6 (.ite (.bin .eq (.bin .mod (.bin .fdiv (.var 2) (.lit (.int 12))) (.lit (.int 2))) (.lit (.int 1))) (.bin .add (.bin .add (.var 5) (.lit (.int 1))) (.var 7)) (.bin .sub (.bin .sub (.lit (.int 0)) (.lit (.int 1))) (.var 7)))) (.seq (.iff (.not (.tr (.call "_law_refused" (.cons (.var 0) (.cons (.var 4) (.cons (.var 6) .nil)))))) (.ret false (.lit .non)) .nop) (.ret false (.tup (.cons (.var 0) (.cons (.var 1) .nil))))))) .nop) (.seq (.set 8 (.comp 4 [(2,4),(3,6)] [1] false .seq (.var 1) (.or (.bin .ne (.ix (.var 1) (.lit (.int 2))) (.var 2)) (.bin .ne (.ix (.var 1) (.lit (.int 3))) (.var 3))) (.var 1))) (.seq (.setm 9 (.call "joints" (.cons (.var 0) .nil))) (.seq (.app 9 (.tup (.cons (.lit (.int 0)) (.cons (.lit (.int 1)) (.cons (.lit (.bl false)) (.cons (.lit (.int 0)) .nil)))))) (.seq (.pop0 9) (.seq (.set 10 (.call "cut" (.cons (.var 0) (.cons (.var 4) (.cons (.var 6) .nil))))) (.seq (.setm 9 (.call "joints" (.cons (.var 10) .nil))) (.seq (.iff (.or (.bin .ne (.var 9) (.var 8)) (.or (.bin .ne (.call "joints" (.cons (.var 0) .nil)) (.var 1)) (.bin .ne (.meth (.var 10) "done" .nil) (.meth (.var 0) "done" .nil)))) (.ret false (.lit .non)) .nop) (.seq (.app 9 (.tup (.cons (.lit (.int 0)) (.cons (.lit (.int 1)) (.cons (.lit (.bl false)) (.cons (.lit (.int 0)) .nil)))))) (.seq (.iff (.or (.bin .ne (.call "joints" (.cons (.var 10) .nil)) (.var 8)) (.bin .ne (.lst (.cons (.fld (.var 10) "columns") (.cons (.fld (.var 10) "rows") .nil))) (.lst (.cons (.fld (.var 0) "columns") (.cons (.fld (.var 0) "rows") .nil))))) (.ret false (.lit .non)) .nop) (.seq (.iff (.or (.bin .ne (.call "_law_heaps_told" (.cons (.var 10) .nil)) (.call "_law_heaps_told" (.cons (.var 0) .nil))) (.not (.tr (.call "_law_groups_told" (.cons (.var 10) (.cons (.var 8) (.cons (.var 3) .nil))))))) (.ret false (.lit .non)) .nop) (.ret false (.tup (.cons (.var 10) (.cons (.var 8) .nil))))))))))))))))))
noncomputable def jsL(c n:Nat)(sp:List Spot)(sev:List (Nat×Nat)):D:=.lst ((left c n sev).map (jD sp))
theorem IL{n:Nat}:af .ne (jsL c n sp sev) (jsL c n sp sev)=some (.bl false):=ne_self (jG fun _=>rfl) (by unfold jsL;rw[jQ];exact fS fun _=>aFb)
theorem ZD{a b:Bool}:af .ne (.bl a) (.bl b)=some (.bl (!(a == b))):=by cases a<;>cases b<;>rfl
theorem RZ{ρ:List Sl}{x:Nat}{ds:List D}(h2:ρ[x]?=some (.mu (.lst ds)))(h3:ds≠[]):ex G (.pop0 x) ρ=some (.nx (ρ.set x (.mu (.lst (ds.eraseIdx 0))))):=by
 show (match ρ[x]? with|some (.mu (.lst ds))=>(if ds.isEmpty then none else some (Out.nx (ρ.set x (.mu (.lst (ds.eraseIdx 0))))))|_=>none)=_
 rw[h2];exact if_neg (by simpa using h3)
structure Kn (G:GS) (c r w h:Nat) (T:Table) (F:List D) (sp:List Spot):Prop where
 jo:∀sev:List (Nat×Nat),G.fn "joints" [pile c r w h T F (sev.map pD)]=some (.ok (jsL c (c*r) sp sev))
 ct:∀(sev:List (Nat×Nat)) (l:Bool) (i:Int),0≤i→i≤((if l then h else w:Nat):Int)→sev.length≤900000→G.fn "cut" [pile c r w h T F (sev.map pD),.bl l,.int i]=some (.ok (pile c r w h T F ((sev++eW c (c*r) sp sev l i).map pD)))
 rf:∀(sev:List (Nat×Nat)) (l:Bool) (i:Int),(i<0∨((if l then h else w:Nat):Int)<i)→G.fn "_law_refused" [pile c r w h T F (sev.map pD),.bl l,.int i]=some (.ok (.bl true))
 dn:∀sev:List (Nat×Nat),G.me "Pile" "done" [pile c r w h T F (sev.map pD)]=some (.ok (.lst F))
 hp:∀sev:List (Nat×Nat),G.fn "_law_heaps_told" [pile c r w h T F (sev.map pD)]=some (.ok (lP T w h))
 gt:∀sev:List (Nat×Nat),G.fn "_law_groups_told" [pile c r w h T F (sev.map pD),jsL c (c*r) sp sev,.int ((c*r:Nat):Int)]=some (.ok (.bl true))
noncomputable def kf(c r w h:Nat)(T:Table)(F:List D)(sp:List Spot)(sev:List (Nat×Nat))(cell:Int)(s4 s5 s6 s7 s8 s9 s10:Sl):List Sl:=[.im (pile c r w h T F (sev.map pD)),.im (jsL c (c*r) sp sev),.im (.int cell),.im (.int ((c*r:Nat):Int)),s4,s5,s6,s7,s8,s9,s10]
theorem JA(hf:G.fl "Pile" = bt)(w64:w≤64)(h64:h≤64)(K:Kn G c r w h T F sp)(hF:af .ne (.lst F) (.lst F)=some (.bl false))(hsv:sev.length≤800000)(ao:c*r≤64)(cell:Int) :
  ∃ah:List (Nat×Nat),ah.length≤sev.length+1000∧aS G 11 mU [pile c r w h T F (sev.map pD),jsL c (c*r) sp sev,.int cell,.int ((c*r:Nat):Int)]=some (.ok (.tup [pile c r w h T F (ah.map pD),jsL c (c*r) sp ah])):=by
 obtain⟨lv,hlv⟩:∃lv,lv=(cell % 2 == 1):=⟨_,rfl⟩;obtain⟨m,hm⟩:∃m:Nat,m=if lv then h else w:=⟨_,rfl⟩
 obtain⟨n,hn⟩:∃n,n=cell / 12 % ((m:Int)+1):=⟨_,rfl⟩;have n0:0≤n:=by rw[hn];exact Int.emod_nonneg _ (by omega)
 have n1:n≤m:=by have:=Int.emod_lt_of_pos (cell / 12) (show (0:Int)<(m:Int)+1 by omega);rw[hn];omega
 have ew:∀{ρ:List Sl} {a:IE} {S:List D},ev G a ρ=some (pile c r w h T F S)→ev G (.fld a "wide") ρ=some (.int w):=fun e=>gX hf e
 have eh:∀{ρ:List Sl} {a:IE} {S:List D},ev G a ρ=some (pile c r w h T F S)→ev G (.fld a "high") ρ=some (.int h):=fun e=>iO hf e
 have ec:∀{ρ:List Sl} {a:IE} {S:List D},ev G a ρ=some (pile c r w h T F S)→ev G (.fld a "columns") ρ=some (.int c):=fun e=>gN hf e
 have er:∀{ρ:List Sl} {a:IE} {S:List D},ev G a ρ=some (pile c r w h T F S)→ev G (.fld a "rows") ρ=some (.int r):=fun e=>nR hf e
 have e4:ev G (.bin .eq (.bin .mod (.var 2) (.lit (.int 2))) (.lit (.int 1))) (kf c r w h T F sp sev cell .un .un .un .un .un .un .un)=some (.bl lv):=by
  unfold kf;rw[hlv];simp only[zz,yy,aA,aC,kM (i:=cell) (j:=2) (by decide)]
 have e5:ev G (.ite (.tr (.var 4)) (.fld (.var 0) "high") (.fld (.var 0) "wide")) (kf c r w h T F sp sev cell (.im (.bl lv)) .un .un .un .un .un .un)=some (.int m):=by
  rw[iV,ew rfl,eh rfl,hm];unfold kf;cases lv<;>simp only[zz,yy,aA,aC,eQ]<;>rfl
 have e6:ev G (.bin .mod (.bin .fdiv (.var 2) (.lit (.int 12))) (.bin .add (.var 5) (.lit (.int 1)))) (kf c r w h T F sp sev cell (.im (.bl lv)) (.im (.int m)) .un .un .un .un .un)=some (.int n):=by
  unfold kf;rw[hn];simp only[zz,yy,aA,aC,kN (i:=cell) (j:=12) (by decide) (by decide)]
  exact kM (by omega)
 have et:ev G (.bin .eq (.bin .mod (.bin .fdiv (.var 2) (.lit (.int 2))) (.lit (.int 6))) (.lit (.int 5))) (view (kf c r w h T F sp sev cell (.im (.bl lv)) (.im (.int m)) (.im (.int n)) .un .un .un .un))=some (.bl (cell / 2 % 6 == 5)):=by
  unfold kf;simp only[gC,iG,bL];simp only[zz,yy,aA,aC,kN (i:=cell) (j:=2) (by decide) (by decide),kM (i:=cell / 2) (j:=6) (by decide)]
 cases hb:(cell / 2 % 6 == 5) with
 |true =>
  refine⟨sev,by omega,aO (ρ:=kf c r w h T F sp sev cell .un .un .un .un .un .un .un) rfl (aI (aN e4) (aI (aN e5) (aI (aN e6) (gS (kB (et.trans (by rw[hb])) ?_) (fun _ z=>by cases z)))))⟩
  obtain⟨c8,hfar⟩:∃c8,c8=cell / 24 % 10 ^ 20:=⟨_,rfl⟩;have f0:0≤c8:=by rw[hfar];exact Int.emod_nonneg _ (by decide)
  obtain⟨i,hi⟩:∃i:Int,i=if (cell / 12 % 2 == 1) then(m:Int)+1+c8 else 0-1-c8:=⟨_,rfl⟩
  have hbad:i<0∨((if lv then h else w:Nat):Int)<i:=by
   rw[←hm,hi];split<;>omega
  refine aI (aN (d:=.int c8) ?_) (aI (aN (d:=.int i) ?_) (aI (eF ?_ bG) (aV ?_)))
  ·show ev G _ (kf c r w h T F sp sev cell (.im (.bl lv)) (.im (.int m)) (.im (.int n)) .un .un .un .un)=_
   unfold kf;rw[hfar];simp only[zz,yy,aA,aC,kN (i:=cell) (j:=24) (by decide) (by decide),K17.aDm]
   exact kM (by decide)
  ·show ev G _ (kf c r w h T F sp sev cell (.im (.bl lv)) (.im (.int m)) (.im (.int n)) (.im (.int c8)) .un .un .un)=_
   unfold kf;rw[hi,iV];simp only[zz,yy,aA,aC,kN (i:=cell) (j:=12) (by decide) (by decide),kM (i:=cell / 12) (j:=2) (by decide)]
   cases (cell / 12 % 2 == 1)<;>rfl
  ·show ev G _ (view (kf c r w h T F sp sev cell (.im (.bl lv)) (.im (.int m)) (.im (.int i)) (.im (.int c8)) .un .un .un))=_
   unfold kf;simp only[gC,iG,bL];simp only[zz,yy,aA,aC,K.rf sev lv i hbad,eQ,sj]
  ·show ev G _ (kf c r w h T F sp sev cell (.im (.bl lv)) (.im (.int m)) (.im (.int i)) (.im (.int c8)) .un .un .un)=_
   unfold kf;simp only[zz,yy,aA,aC]
 |false =>
  obtain⟨ah,bw⟩:∃ah,ah=sev++eW c (c*r) sp sev lv n:=⟨_,rfl⟩;have cl:(eW c (c*r) sp sev lv n).length≤128:=by
   unfold eW left;rw[qj];refine rj (length_filter_le _ _) (rj (length_filter_le _ _) ?_);have:=jK (c:=c) (n:=c*r) (c*r)
   omega
  have ect:=K.ct sev lv n n0 (by rw[←hm];exact n1) (by omega)
  rw[←bw]at ect;have due:∀t7 t8 t9 t10,ev G aFm (kf c r w h T F sp sev cell (.im (.bl lv)) (.im (.int m)) (.im (.int n)) t7 t8 t9 t10)=some (jsL c (c*r) sp ah):=fun _ _ _ _=>by
   unfold jsL;rw[bw,IV];refine kR (jD sp) (jD sp) _ (s:=jsL c (c*r) sp sev) rfl eD fun j _=>⟨[.un,.im (jD sp j),.im (.bl lv),.im (.int n)],rfl,?_,rfl⟩
   refine(eV (x:=!(j.2.2 == lv)) (y:=!(IU sp j.1 j.2.2 == n)) ?_ fun _=>?_).trans ?_
   ·simp only[zz,yy,aA,aC,jD,rC.2.2.1,ZD]
   ·simp only[zz,yy,aA,aC,jD,rC.2.2.2]
   ·unfold nT;rw[Bool.not_and]
  have tu:∀ρ:List Sl,ev G aFh ρ=some (.tup [.int 0,.int 1,.bl false,.int 0]):=fun _=>rfl
  refine⟨ah,by rw[bw,sh];omega,aO (ρ:=kf c r w h T F sp sev cell .un .un .un .un .un .un .un) rfl (aI (aN e4) (aI (aN e5) (aI (aN e6) (aI (eF (et.trans (by rw[hb])) bG) ?_))))⟩
  refine aI ((aN (due _ _ _ _)).trans (show _=some (Out.nx (kf c r w h T F sp sev cell (.im (.bl lv)) (.im (.int m)) (.im (.int n)) .un (.im (jsL c (c*r) sp ah)) .un .un)) from rfl)) ?_
  refine aI ((jO (ds:=(left c (c*r) sev).map (jD sp)) ?_).trans (show _=some (Out.nx (kf c r w h T F sp sev cell (.im (.bl lv)) (.im (.int m)) (.im (.int n)) .un (.im (jsL c (c*r) sp ah)) (.mu (jsL c (c*r) sp sev)) .un)) from rfl)) ?_
  ·unfold kf;simp only[zz,yy,aA,aC,K.jo];rfl
  have ll:∀s:List (Nat×Nat),((left c (c*r) s).map (jD sp)).length<1000000:=fun s=>by
   rw[qj];unfold left;have:=jK (c:=c) (n:=c*r) (c*r)
   have:=length_filter_le (fun j=>!s.contains (pairOf j)) (bY c (c*r) (c*r))
   omega
  refine aI (uD (ds:=(left c (c*r) sev).map (jD sp)) (tu _) rfl (ll sev)) (aI (RZ (ds:=(left c (c*r) sev).map (jD sp)++[.tup [.int 0,.int 1,.bl false,.int 0]]) rfl (by simp)) ?_)
  refine aI ((aN (d:=pile c r w h T F (ah.map pD)) ?_).trans (show _=some (Out.nx (kf c r w h T F sp sev cell (.im (.bl lv)) (.im (.int m)) (.im (.int n)) .un (.im (jsL c (c*r) sp ah)) (.mu (.lst (((left c (c*r) sev).map (jD sp)++[D.tup [.int 0,.int 1,.bl false,.int 0]]).eraseIdx 0))) (.im (pile c r w h T F (ah.map pD))))) from rfl)) ?_
  ·unfold kf;simp only[List.set];simp only[zz,yy,aA,aC,ect]
  refine aI ((jO (ds:=(left c (c*r) ah).map (jD sp)) ?_).trans (show _=some (Out.nx (kf c r w h T F sp sev cell (.im (.bl lv)) (.im (.int m)) (.im (.int n)) .un (.im (jsL c (c*r) sp ah)) (.mu (jsL c (c*r) sp ah)) (.im (pile c r w h T F (ah.map pD))))) from rfl)) ?_
  ·unfold kf;simp only[zz,yy,aA,aC,K.jo];rfl
  have edn:∀{ρ:List Sl} {a:IE} {s:List (Nat×Nat)},ev G a ρ=some (pile c r w h T F (s.map pD))→ev G (.meth a "done" .nil) ρ=some (.lst F):=fun {ρ a s} e=>(xT (es:=.nil) (ds:=[]) rfl e rfl (K.dn s)).trans rfl
  refine aI (eF ?_ bG) (aI (uD (ds:=(left c (c*r) ah).map (jD sp)) (tu _) rfl (ll ah)) (aI (eF ?_ bG) (aI (eF ?_ bG) (aV ?_))))
  ·refine eV (x:=false) (y:=false) (by rw[bW];exact IL) fun _=>eV (x:=false) (y:=false) ?_ fun _=>?_
   ·unfold kf;simp only[gC,iG,bL];simp only[zz,yy,aA,aC,K.jo,IL]
   ·rw[bW,edn (s:=ah) rfl,edn (s:=sev) rfl];exact hF
  ·refine eV (x:=false) (y:=false) ?_ fun _=>?_
   ·unfold kf;simp only[List.set,gC,iG,bL];simp only[zz,yy,aA,aC,K.jo,IL]
   ·rw[bW,yV,aU,aU,yV,aU,aU,ec (S:=ah.map pD) rfl,er (S:=ah.map pD) rfl,ec (S:=sev.map pD) rfl,er (S:=sev.map pD) rfl];simp only[aA,lU,jR,aC];exact ne_self rfl (by simp[ax,iK])
  ·refine eV (x:=false) (y:=false) ?_ fun _=>?_
   ·unfold kf;simp only[List.set,gC,iG,bL];simp only[zz,yy,aA,aC,K.hp,IM]
   ·unfold kf;simp only[List.set,gC,iG,bL];simp only[zz,yy,aA,aC,K.gt,eQ,sj]
  ·unfold kf;simp only[List.set];simp only[zz,yy,aA,aC]
noncomputable def aAG:IS:=(.iff (.bin .gt (.bin .mul (.fld (.var 3) "wide") (.fld (.var 3) "high")) (.lit (.int 1))) (.seq (.set 5 (.call "_law_fold_by" (.cons (.var 4) (.cons (.fld (.var 3) "wide") (.cons (.fld (.var 3) "high") .nil))))) (.set 3 (.call "folded" (.cons (.var 3) (.cons (.ix (.var 5) (.lit (.int 0))) (.cons (.ix (.var 5) (.lit (.int 1))) (.cons (.ix (.var 5) (.lit (.int 2))) .nil))))))) .nop)
noncomputable def aAF:IS:=(.seq (.set 7 (.call "_law_knife" (.cons (.var 3) (.cons (.var 6) (.cons (.var 4) (.cons (.bin .mul (.var 1) (.var 2)) .nil)))))) (.seq (.iff (.bin .is (.var 7) (.lit .non)) (.ret false (.lit (.bl false))) .nop) (.sett [3,6] (.var 7))))
noncomputable def AL:IS:=(.seq (.sett [1,2] (.call "_law_sheet_by" (.cons (.call "_law_cell_at" (.cons (.var 0) (.cons (.lit (.int 0)) .nil))) .nil))) (.seq (.set 3 (.call "laid" (.cons (.var 1) (.cons (.var 2) .nil)))) (.seq (.loop [4] false .seq (.sl (.var 0) true (.lit (.int 6)) true (.lit (.int 10))) aAG) (.seq (.set 6 (.bcall .list (.cons (.call "joints" (.cons (.var 3) .nil)) .nil))) (.seq (.iff (.not (.tr (.call "_law_groups_told" (.cons (.var 3) (.cons (.var 6) (.cons (.bin .mul (.var 1) (.var 2)) .nil)))))) (.ret false (.lit (.bl false))) .nop) (.seq (.loop [4] false .seq (.sl (.var 0) true (.lit (.int 1)) true (.lit (.int 6))) aAF) (.ret false (.lit (.bl true)))))))))
noncomputable def lf(ns:List Int)(c r:Nat)(p:D)(s4 s5 s6 s7:Sl):List Sl:=[.im (.frz (ns.map .int)),.im (.int c),.im (.int r),.im p,s4,s5,s6,s7]
theorem ZS(hf:G.fl "Pile" = bt){ns:List Int}(hca:∀k:Nat,G.fn "_law_cell_at" [.frz (ns.map .int),.int k]=some (.ok (.int (iq ns k))))
  (hsb:∀cell:Int,∃c r:Nat,1≤c∧1≤r∧c*r≤64∧G.fn "_law_sheet_by" [.int cell]=some (.ok (.tup [.int c,.int r])))
  (hl:∀c r:Nat,1≤c→1≤r→c*r≤64→G.fn "laid" [.int c,.int r]=some (.ok (pile c r c r (gA c r) [] [])))
  (hfb:∀(w h:Nat) (cell:Int),1≤w→1≤h→1<w*h→∃(sd:Side) (over:Bool) (k:Nat),1≤k∧(k<if sd.up then w else h)∧G.fn "_law_fold_by" [.int cell,.int w,.int h]=some (.ok (eP sd over k)))
  (hfp:∀(c r:Nat) (fs:List Fold) (sp:List Spot) (f:Fold),Stg c r fs sp→Fits c r fs f→fs.length≤1000→G.fn "folded" [bS c r fs,.str f.sd.str,.bl f.over,.int f.k]=some (.ok (bS c r (fs++[f]))))
  (oz:∀(c r:Nat) (fs:List Fold) (sp:List Spot),1≤c→c*r≤64→c≤64→Stg c r fs sp→G.fn "joints" [bS c r fs]=some (.ok (jsL c (c*r) sp [])))
  (hgt:∀(c r:Nat) (fs:List Fold) (sp:List Spot),1≤c→1≤r→c*r≤64→c≤64→Stg c r fs sp→G.fn "_law_groups_told" [bS c r fs,jsL c (c*r) sp [],.int ((c*r:Nat):Int)]=some (.ok (.bl true)))
  (hkn:∀(c r:Nat) (fs:List Fold) (sp:List Spot) (sev:List (Nat×Nat)) (cell:Int),1≤c→1≤r→c*r≤64→c≤64→Stg c r fs sp→sev.length≤800000→∃ah:List (Nat×Nat),ah.length≤sev.length+1000 ∧
   G.fn "_law_knife" [pile c r (runs c r fs).2.1 (runs c r fs).2.2 (runs c r fs).1 (fs.map Fold.d) (sev.map pD),jsL c (c*r) sp sev,.int cell,.int ((c*r:Nat):Int)]=some (.ok (.tup [pile c r (runs c r fs).2.1 (runs c r fs).2.2 (runs c r fs).1 (fs.map Fold.d) (ah.map pD),jsL c (c*r) sp ah]))) :
  aS G 8 AL [.frz (ns.map .int)]=some (.ok (.bl true)):=by
 have c0:G.fn "_law_cell_at" [.frz (ns.map .int),.int 0]=some (.ok (.int (iq ns 0))):=hca 0
 obtain⟨c,r,hc,hr,ao,esb⟩:=hsb (iq ns 0);have c64:c≤64:=rj (Nat.le_mul_of_pos_right c hr) ao
 have S0:Stg c r [] (kA c r):=⟨FA hc hr ao,oJ⟩
 have go:∀k,k≤900→∀(cell:Int) ρ,(∃fs sp s4 s5,Stg c r fs sp∧fs.length≤k∧ρ=lf ns c r (bS c r fs) s4 s5 .un .un)→∃ρ1,bD [4] false (.int cell) ρ=some ρ1∧∃ρ2,ex G aAG ρ1=some (.nx ρ2)∧∃fs sp s4 s5,Stg c r fs sp∧fs.length≤k+1∧ρ2=lf ns c r (bS c r fs) s4 s5 .un .un:=by
  rintro k hk2 cell ρ ⟨fs,sp,s4,s5,S,hlen,rfl⟩;refine⟨lf ns c r (bS c r fs) (.im (.int cell)) s5 .un .un,rfl,?_⟩;have w1:=S.sits.rect.w1
  have h1:=S.sits.rect.h1
  have w64:=S.sits.w64
  have h64:=S.sits.h64
  have ew:∀{ρ:List Sl} {a:IE},ev G a ρ=some (bS c r fs)→ev G (.fld a "wide") ρ=some (.int (runs c r fs).2.1):=fun e=>gX hf e
  have eh:∀{ρ:List Sl} {a:IE},ev G a ρ=some (bS c r fs)→ev G (.fld a "high") ρ=some (.int (runs c r fs).2.2):=fun e=>iO hf e
  have et:ev G (.bin .gt (.bin .mul (.fld (.var 3) "wide") (.fld (.var 3) "high")) (.lit (.int 1))) (view (lf ns c r (bS c r fs) (.im (.int cell)) s5 .un .un))=some (.bl (decide (1<(runs c r fs).2.1*(runs c r fs).2.2))):=by
   rw[bW,bW,ew rfl,eh rfl];simp only[zz,yy,aA,aC,jL (show (runs c r fs).2.1≤1000000 by omega)]
   exact congrArg (fun b=>some (D.bl b)) (decide_eq_decide.mpr (by omega))
  by_cases hb:1<(runs c r fs).2.1*(runs c r fs).2.2
  ·obtain⟨sd,over,kk,k1,k2,efb⟩:=hfb _ _ cell w1 h1 hb;have ok:Fits c r fs ⟨sd,over,kk⟩:=⟨k1,k2⟩
   have efp:=hfp c r fs sp ⟨sd,over,kk⟩ S ok (by omega)
   obtain⟨ko,S'⟩:=S.fold' ok;refine⟨lf ns c r (bS c r (fs++[⟨sd,over,kk⟩])) (.im (.int cell)) (.im (eP sd over kk)) .un .un,kB (et.trans (by rw[sr hb])) (aI (aN (d:=eP sd over kk) ?_) ((aN (d:=bS c r (fs++[⟨sd,over,kk⟩])) ?_).trans rfl)),fs++[⟨sd,over,kk⟩],ko,_,_,S',by rw[sh];exact succ_le_succ hlen,rfl⟩
   ·rw[kS,aU,aU,ew rfl,aU,eh rfl];unfold lf;simp only[zz,yy,aA,aC,efb]
   ·unfold lf;simp only[List.set];simp only[zz,yy,aA,aC,eP,aAH.1,aAH.2.1,aAH.2.2,efp]
  ·exact⟨_,eF (et.trans (by rw[qm hb])) bG,fs,sp,_,_,S,le_succ_of_le hlen,rfl⟩
 have cl:=CI (xs:=ns) (a:=6) (b:=10)
 obtain⟨ρ',l1,fs,sp,s4,s5,S,hk,rfl⟩:=lS (enc:=D.int) (bind:=bD [4] false) (body:=ex G aAG) (fun k ρ=>∃fs sp s4 s5,Stg c r fs sp∧fs.length≤k∧ρ=lf ns c r (bS c r fs) s4 s5 .un .un) (L:=cut ns (some ((6:Nat):Int)) (some ((10:Nat):Int))) (ρ:=lf ns c r (bS c r []) .un .un .un .un) ⟨[],_,_,_,S0,qk _,rfl⟩
  (fun k a hk ρ h=>go k (by have:=(q9.mp hk).1;omega) a ρ h)
 obtain⟨W,hW⟩:∃W,W=(runs c r fs).2.1:=⟨_,rfl⟩;obtain⟨H,hH⟩:∃H,H=(runs c r fs).2.2:=⟨_,rfl⟩;obtain⟨T,hT⟩:∃T,T=(runs c r fs).1:=⟨_,rfl⟩;have ejo:=oz c r fs sp hc ao c64 S
 have egt:=hgt c r fs sp hc hr ao c64 S
 have ep:bS c r fs=pile c r W H T (fs.map Fold.d) (([]:List (Nat×Nat)).map pD):=by unfold bS;rw[hW,hH,hT];rfl
 have gk:∀k,k≤100→∀(cell:Int) ρ,(∃sev s4 s5 s7,List.length sev≤k*1000∧ρ=lf ns c r (pile c r W H T (fs.map Fold.d) (List.map pD sev)) s4 s5 (.im (jsL c (c*r) sp sev)) s7)→∃ρ1,bD [4] false (.int cell) ρ=some ρ1∧∃ρ2,ex G aAF ρ1=some (.nx ρ2)∧∃sev s4 s5 s7,List.length sev≤(k+1)*1000∧ρ2=lf ns c r (pile c r W H T (fs.map Fold.d) (List.map pD sev)) s4 s5 (.im (jsL c (c*r) sp sev)) s7:=by
  rintro k hk2 cell ρ ⟨sev,s4,s5,s7,hs,rfl⟩;obtain⟨ah,bw,ek⟩:=hkn c r fs sp sev cell hc hr ao c64 S (by omega)
  rw[←hW,←hH,←hT]at ek;refine⟨lf ns c r (pile c r W H T (fs.map Fold.d) (List.map pD sev)) (.im (.int cell)) s5 (.im (jsL c (c*r) sp sev)) s7,rfl,lf ns c r (pile c r W H T (fs.map Fold.d) (List.map pD ah)) (.im (.int cell)) s5 (.im (jsL c (c*r) sp ah)) (.im (.tup [pile c r W H T (fs.map Fold.d) (List.map pD ah),jsL c (c*r) sp ah])),aI (aN (d:=.tup [pile c r W H T (fs.map Fold.d) (List.map pD ah),jsL c (c*r) sp ah]) ?_) (aI (eF rfl bG) (wH.trans rfl)),ah,_,_,_,by omega,rfl⟩
  unfold lf;simp only[zz,yy,aA,aC,jL (show c≤1000000 by omega),ek]
 have cl2:=CI (xs:=ns) (a:=1) (b:=6)
 obtain⟨ρ'',l2,sev,t4,t5,t7,_,rfl⟩:=lS (enc:=D.int) (bind:=bD [4] false) (body:=ex G aAF) (fun k ρ=>∃sev s4 s5 s7,List.length sev≤k*1000∧ρ=lf ns c r (pile c r W H T (fs.map Fold.d) (List.map pD sev)) s4 s5 (.im (jsL c (c*r) sp sev)) s7) (L:=cut ns (some ((1:Nat):Int)) (some ((6:Nat):Int))) (ρ:=lf ns c r (bS c r fs) s4 s5 (.im (jsL c (c*r) sp [])) .un) ⟨[],s4,s5,.un,uu _,by rw[ep]⟩
  (fun k a hk ρ h=>gk k (by have:=(q9.mp hk).1;omega) a ρ h)
 refine aO (ρ:=[.im (.frz (ns.map .int)),.un,.un,.un,.un,.un,.un,.un]) rfl ?_;refine aI (ρ':=[.im (.frz (ns.map .int)),.im (.int c),.im (.int r),.un,.un,.un,.un,.un]) (wH.trans ?_) (aI (aN (d:=bS c r []) ?_) (aI ((eN (d:=.lst ((cut ns (some ((6:Nat):Int)) (some ((10:Nat):Int))).map .int)) ?_ eD).trans l1) (aI (aN (d:=jsL c (c*r) sp []) ?_) (aI (eF ?_ bG) (aI ((eN (d:=.lst ((cut ns (some ((1:Nat):Int)) (some ((6:Nat):Int))).map .int)) ?_ eD).trans l2) (aV rfl))))))
 ·simp only[zz,yy,aA,aC,c0,esb];rfl
 ·simp only[zz,yy,aA,aC,hl c r hc hr (by omega)]
  rfl
 ·simp only[List.set];simp only[zz,yy,aA,aC,part,intOf];simp only[if_true];simp only[zz,yy,aA,aC,CH];rfl
 ·unfold lf;rw[iX,aU];simp only[zz,yy,aA,aC,ejo];rfl
 ·unfold lf;simp only[List.set,gC,iG,bL];simp only[zz,yy,aA,aC,jL (show c≤1000000 by omega),egt,eQ,sj]
 ·unfold lf;simp only[List.set];simp only[zz,yy,aA,aC,part,intOf];simp only[if_true];simp only[zz,yy,aA,aC,CH];rfl
end
end K11
end Z
namespace Z
open PySem PySem.Spec PyProof.Rows L2
variable {CX:aj}{G:GS}{T:Tx}{lv:Nat}{X:Cx}{c:CC}
noncomputable def aFN:Stmt→Option (List Expr×Expr×Pos)
 |.Assign ts e p=>some (ts,e,p)
 |_=>none
theorem FS{s:Stmt}{x:List Expr×Expr×Pos}(h:aFN s=some x):s=.Assign x.1 x.2.1 x.2.2:=by
 cases s<;>first|exact nomatch (show none=some x from h)|(cases (show some _=some x from h);rfl)
noncomputable def qW(n:Nat)(c:CC):List Stmt→Option (List (Str×IE))
 |[]=>some []
 |st::r=>(aFN st).bind fun q=>(one? q.1).bind fun t=>(CP t).bind fun a=>(nameP a.1).bind fun s=>if bB c s.1 == some 0 then(cE n c q.2.1).bind fun y=>(qW n c r).map fun z=>(a.2.1,y)::z else none
noncomputable def ik(G:GS)(ρ:List Sl):List (Str×IE)→Option (List (Str×D))
 |[]=>some []
 | (f,e)::r=>do some ((f,←ev G e ρ)::(←ik G ρ r))
noncomputable def DP(G:GS)(cn:Str)(n:Nat)(fs:List (Str×IE))(ds:List D):Option Rs:=
 (ik G (.un::(ds.map .im++List.replicate (n-1-ds.length) .un)) fs).map fun gs=>.ok (.obj cn gs)
theorem vG{f:Str}{v:V}:∀{gs:List (Str×V)},f∉gs.map (·.1)→iI f v gs=gs++[(f,v)]
 |[],_=>rfl
 | (g,x)::r,h=>by
  simp only[sq,rz,not_or]at h;unfold iI;rw[if_neg (Ne.symm h.1),vG h.2];rfl
theorem bX.names{K:uz}{H:Hp}{S:Addr→Prop}:∀{fs:List (Str×D)} {gs:List (Str×V)},bX K T H S fs gs→gs.map (·.1)=fs.map (·.1)
 |[],gs,h=>by unfold bX at h;subst h;rfl
 | (f,d)::fs,gs,h=>by
  unfold bX at h;obtain⟨x,r,rfl,_,q⟩:=h;simp[bX.names q]
theorem bX.app1{K:uz}{H:Hp}{S:Addr→Prop}{f:Str}{d:D}{v:V}(rv:Rep K T H S d v):∀{fs:List (Str×D)} {gs:List (Str×V)},bX K T H S fs gs→bX K T H S (fs++[(f,d)]) (gs++[(f,v)])
 |[],gs,h=>by
  unfold bX at h;subst h;show bX K T H S [(f,d)] [(f,v)]
  unfold bX;exact⟨v,[],rfl,rv,by unfold bX;rfl⟩
 | (g,e)::fs,gs,h=>by
  unfold bX at h;obtain⟨x,r,rfl,p,q⟩:=h;show bX K T H S ((g,e)::(fs++[(f,d)])) _
  unfold bX;exact⟨x,r++[(f,v)],rfl,p,bX.app1 rv q⟩
structure IInv (K:uz) (T:Tx) (S:Addr→Prop) (H₀:Hp) (C p dx:Addr) (ρ:List Sl) (fs:List (Str×D)) (σ:L2.St) (H:Hp):Prop where
 re:RE K T H S ρ σ
 sp:S p
 self:σ[0]?=some (some (.ref p))
 at_:∃gs,H p=some (.ins C dx gs)∧bX K T H S fs gs
 keep:∀b o,b≠p→H₀ b=some o→H b=some o
theorem qL(xc:XC CX X c G T lv){S:Addr→Prop}{H₀:Hp}{C p dx:Addr}{ρ:List Sl}{n:Nat}(hc:Cls X.K C):∀{body:List Stmt} {is:List (Str×IE)} {gs fs:List (Str×D)},qW n c body=some is→ik G ρ is=some gs→(∀x∈is,dZ X.K C x.1)→((fs++gs).map (·.1)).Nodup→(fs++gs).length<1000 →
  PSs X body (fun D σ H=>IInv X.K T S H₀ C p dx ρ fs σ H∧∀σ' H',IInv X.K T S H₀ C p dx ρ (fs++gs) σ' H'→D.nx σ' H')
 |[],is,gs,fs,h1,h2,_,_,_=>by
  simp only[qW,qe]at h1;subst h1;simp only[ik,qe]at h2;subst h2;exact fun pins s σ H D I ⟨iv,q⟩=>gW pins s σ H D I (q σ H (by rw[sk];exact iv))
 |st::body,is,gs,fs,h1,h2,lr,lq,hlen=>by
  obtain⟨q0,a1,h1⟩:=aE h1;obtain⟨t0,a2,h1⟩:=aE h1;obtain⟨a0,a3,h1⟩:=aE h1;obtain⟨s0,a4,h1⟩:=aE h1;obtain⟨hs,h1⟩:=aX h1;obtain⟨ir,gh,h1⟩:=aE h1;obtain⟨is',his,rfl⟩:=aM h1;have e0:st=.Assign [.Attribute (.Name s0.1 s0.2) a0.2.1 a0.2.2] q0.2.1 q0.2.2:=by rw[FS a1,bJ a2,kG a3,cD a4]
  subst e0;obtain⟨_,e,pe⟩:=q0;obtain⟨_,f,pf⟩:=a0;obtain⟨s,ps⟩:=s0;clear a1 a2 a3 a4;simp only[ik,ql,qg,qe]at h2;obtain⟨d,hd,gs',jk,rfl⟩:=h2;have bw:bB c s=some 0:=su.mp hs
  have ih:=qL xc (S:=S) (H₀:=H₀) (p:=p) (dx:=dx) hc (fs:=fs++[(f,d)]) his jk (fun x hx=>lr x (qq _ hx)) (by simpa using lq) (by simpa using hlen)
  intro pins s1 σ H DD I ⟨iv,q⟩;refine bI (XW (dU xc bw) ((bV n).1 X c S ρ e ir xc gh d hd).1 ?_) ih pins s1 σ H DD I ⟨iv.re,fun v H' sm r=>⟨.ref p,iv.self,?_⟩⟩
  ·cases e<;>rfl
  ·obtain⟨ys,hy,rf⟩:=iv.at_;have ed:f∉ys.map (·.1):=by
    rw[rf.names];have:=lq
    simp only[uj,sq]at this;rw[List.nodup_append]at this;intro z;exact this.2.2 f z f (by simp) rfl
   have hl:ys.length<1000:=by
    have e1:=congrArg List.length rf.names
    simp only[qj]at e1;rw[e1];simp only[sh,ui]at hlen;omega
   refine⟨p,C,dx,ys,rfl,sm _ _ hy,hc,lr (f,ir) (by simp),hl,?_⟩
   rw[vG ed];have mv:aK X.K H' (upd H' p (.ins C dx (ys++[(f,v)]))) S S:=fun a na _=>⟨na,fun o e=>by rw[aG (fun z=>na (by rw[z];exact iv.sp))];exact e⟩
   have rf':bX X.K T H' S fs ys:=bX.gen (aK.same sm) _ _ rf
   refine⟨⟨?_,iv.sp,iv.self,⟨_,aH,bX.gen mv _ _ (bX.app1 r rf')⟩,fun b o hb e=>by rw[aG hb];exact sm _ _ (iv.keep b o hb e)⟩,fun σ' H2 iv2=>q σ' H2 (by simpa using iv2)⟩
   refine(iv.re.same sm).gen mv (fun a xs z e hm=>⟨z,?_⟩) fun a z=>?_
   ·rw[aG]
    ·exact e
    ·rintro rfl;rw[sm _ _ hy]at e;cases e;obtain⟨d',hm⟩:=hm
     rcases hm with ⟨_,_,_,z,_⟩|⟨_,_,_,z,_⟩<;>cases z
   ·by_cases e:a=p
    ·exact⟨.ins C dx (ys++[(f,v)]),by rw[e];exact aH⟩
    ·obtain⟨o,e2⟩:=(iv.re.same sm).dom a z;exact⟨o,by rw[aG e];exact e2⟩
end Z
namespace Z
open PySem PySem.Spec PyProof.Rows L2
variable {CX:aj}{G:GS}{T:Tx}{lv:Nat}
theorem qS{ρ:List Sl}:∀{is:List (Str×IE)} {gs:List (Str×D)},ik G ρ is=some gs→gs.map (·.1)=is.map (·.1)
 |[],gs,h=>by simp only[ik,qe]at h;subst h;rfl
 | (f,e)::r,gs,h=>by
  simp only[ik,ql,qg,qe]at h;obtain⟨d,_,gs',h2,rfl⟩:=h;simp[qS h2]
theorem xF{K:uz}{H:Hp}{S:Addr→Prop}{N:List Str}{ds:List D}{p:Addr}{ws:List V}(dom:∀a,S a→∃o,H a=some o)(rl:aD K T H S ds ws)(hN:ws.length+1≤N.length):RE K T H S (.un::(ds.map .im++List.replicate (N.length-1-ds.length) .un)) (L2.start N (.ref p::ws)):=by
 have hl:=rl.len
 refine⟨dom,by simp[L2.start,hl];omega,fun i s e=>?_⟩
 cases i with
 |zero=>cases e;trivial
 |succ i =>
  rw[List.getElem?_cons_succ]at e;unfold L2.start;rw[sq,List.cons_append,List.getElem?_cons_succ]
  by_cases h:i<(ds.map Sl.im).length
  ·rw[uo h,qi]at e;cases h2:ds[i]? with
   |none=>rw[h2]at e;cases e
   |some d =>
    rw[h2]at e;cases e;obtain⟨v,h3,r⟩:=rl.get h2;exact⟨v,by rw[uo (by rw[qj]at h ⊢;omega),qi,h3];rfl,r⟩
  ·rw[uq (by omega),getElem?_replicate]at e
   split at e
   ·cases e;trivial
   ·cases e
theorem RG{P:v7}{w:World}{K:uz}{mg:va}{base:Heap}{x qual cn:Str}{C:Addr}{st:Stmt}{f:Addr}{fd:v3}{N ps:List Str}{c:CC}{n:Nat}{is:List (Str×IE)}(F:Fun K x qual st f fd)(fs:aa N ps (aB st))(hN:c.N=N)(f6:c.sc=aB st)(hk:iH c (aB st)=true)
  (gh:qW n c (aL st)=some is) (hT:T.cl cn=some C) (ar:Cls K C) (lr:∀x∈is,dZ K C x.1) (lq:(is.map (·.1)).Nodup) (hlen:is.length<1000)
  (go:∀(X:Cx),X.prog=P→X.w=w→X.K=K→X.mg=mg→X.base=base→kh CX X c G T lv):FnOk P w K mg base CX (lv+1) f fd ps (WQ K T C ps.length (DP G cn N.length is)):=by
 obtain⟨oc,od,kV,doc,pm,an,aw,ct,i4,rfl,lk,cf⟩:=F.ex;refine AO lk cf fs (fun vs H Q E h=>h.1) fun A outer s H vs Q E hr aq=>?_
 obtain⟨hl,p,dx,ws,S,ds,d,rfl,hp,sp,dom,rl,hg,q⟩:=aq;have xc:=rJ (E:=E) (P:=P) (w:=w) (mg:=mg) (base:=base) (outer:=outer) (s:=s) (H:=H) (f:=f) (cd:=aw) (qual:=qual) hN f6 fs hk hr (go _ rfl rfl rfl rfl rfl)
 unfold DP at hg;simp only[qv]at hg;obtain⟨gs,jk,hg⟩:=hg;cases hg;have hnm:=qS jk
 have i7:ps.length≤N.length:=by have:=congrArg List.length fs.pre;rw[tw]at this;omega
 refine⟨_,PSs.nox (qL xc (S:=S) (H₀:=H) (C:=C) (p:=p) (dx:=dx) (fs:=[]) ar gh jk lr (by rw[List.nil_append,hnm];exact lq) (by rw[List.nil_append];have:=congrArg List.length hnm;simp only[qj]at this;omega)),?_,?_⟩
 ·exact⟨xF dom rl (by simp only[ui]at hl;omega),sp,rfl,⟨[],hp,by unfold bX;rfl⟩,fun b o _ e=>e⟩
 ·intro σ' H' iv;obtain⟨ys,hy,rf⟩:=iv.at_;refine q H' iv.keep fun S' ie=>?_
  unfold Rep;exact⟨p,C,dx,ys,rfl,fun z=>(ie p z).2 rfl,hT,hy,bX.gen (aK.mk (fun a z=>(ie a z).1) fun b o _ e=>e) _ _ rf⟩
def xA(K:uz)(T:Tx)(mg:va)(x:Str)(d:D):Prop:=∃u v,mg x=some u∧RelV v u∧∀(H:Hp) (S:Addr→Prop),(∀a o,K.lookup a=some o→H a=none)→(∀a,S a→∃o,H a=some o)→Rep K T H S d v
theorem SJ{K:uz}{mg:va}{x:Str}{i:Int}{t:Tok}(h:mg x=some (.int i t)):xA K T mg x (.int i):=⟨_,.int i,h,⟨t,rfl⟩,fun H S _ _=>by unfold Rep;rfl⟩
theorem uK{K:uz}{mg:va}{x:Str}{a:Addr}{ds:List D}{xs:List V}(h:mg x=some (.ref a))(hs:∀H,SqT K H a xs)(hk:∃o,K.lookup a=some o)(hd:∀H S,aD K T H S ds xs):xA K T mg x (.tup ds):=⟨_,.ref a,h,rfl,fun H S h1 h2=>by
 unfold Rep;refine⟨a,xs,rfl,fun z=>?_,hs H,hd H S⟩
 obtain⟨o,e⟩:=h2 a z;obtain⟨u,e2⟩:=hk;rw[h1 a u e2]at e;cases e⟩
noncomputable def G0(csts:List (Str×D))(fl:Str→List Str)(sub:Str→Str→Bool)(xn:Str→Bool)(wd:Str→Str→Option Str)(dks:List (Str×List (Str×D)):=[]):GS:={ fn:=fun _ _=>none,ff:=fun _=>false,me:=fun _ _ _=>none,mf:=fun _ _=>false,mo:=fun _ _=>none,cst:=fun x=>csts.lookup x,sub:=sub,fl:=fl,xn:=xn,wd:=wd,dk:=fun x=>dks.lookup x }
theorem aHJ{P:v7}{w:World}{K:uz}{mg:va}{base:Heap}{cls:List Str}{csts:List (Str×D)}{fl:Str→List Str}{sub:Str→Str→Bool}{xn:Str→Bool}{wd:Str→Str→Option Str}{dks:List (Str×List (Str×D))}(hc:∀x d,csts.lookup x=some d→xA K T mg x d)(ar:∀cn C,T.cl cn=some C→Cls K C)(fm:∀cn C f,T.cl cn=some C→(fl cn).contains f=true→dZ K C f)
  (hbi:∀x,fH.contains x=true→mg x=none) (hx:∀x C,T.xc x=some C→mg x=some (.ref C)) (hxn:∀k,xn k=true→∃C,T.xc k=some C) (oa:∀k C,T.xc k=some C→excIn K C d6 "ValueError.__new__" = true)
  (mM:∀k k' C C',T.xc k=some C→T.xc k'=some C'→sub k k'=true→fO K C (.ref C')=true)
  (hwd:∀f k x C,T.xc k=some C→wd f k=some x→∃fa fd ps j,j≤lv∧mg f=some (.ref fa)∧keepIn K (.ref fa)=true∧Binds K fd ps []∧kj P w K mg base j fa fd ps (mr C x)) (hdk:∀x kvs,dks.lookup x=some kvs→∃a,mg x=some (.ref a)∧∀X:Cx,X.prog=P→X.w=w→X.K=K→aGb X T a kvs:=by intro x kvs h;cases h):MOk P w K mg base (bP P w) ⟨[],cls,csts.map (·.1),[]⟩ (G0 csts fl sub xn wd dks) T lv:=by
 intro X c e1 e2 e3 e4 e5 e6 e7 e8 e9;subst e1 e2 e3 e4 e5;refine⟨fun x hx=>?_,fun cn C m ds r _ hr=>(by cases hr),ar,fm,fun x _ ds d hd=>(by cases hd),fun x d hd _=>hc x d hd,fun x hx _ _=>hbi x hx,hx,fun x hx=>?_,UO,fun _ _ _ _ _ _ z=>z,hxn,oa,mM,hwd,fun x kvs h=>let ⟨a,h1,h2⟩:=hdk x kvs h;⟨a,h1,h2 X rfl rfl rfl⟩⟩
 ·rw[e6]at hx;simp at hx
 ·rw[e9]at hx;simp at hx
noncomputable def GS.addC(G:GS)(x:Str)(g:List D→Option Rs):GS:={ G with mo:=fun y=>if y=x then g else G.mo y }
theorem MOk.addC{P:v7}{w:World}{K:uz}{mg:va}{base:Heap}{m:Nm}(h:MOk P w K mg base CX m G T lv){x:Str}{C f:Addr}{fd:v3}{ps:List Str}{g:List D→Option Rs}(hm:mg x=some (.ref C))(M:Mk K C f)(hb:Binds K fd ps [])(hl:∀ds d,g ds=some (.ok d)→ds.length+1=ps.length)
  (F:FnOk P w K mg base CX lv f fd ps (WQ K T C ps.length g)):MOk P w K mg base CX m (G.addC x g) T (lv+1):=by
 intro X c e1 e2 e3 e4 e5 e6 e7 e8 e9;subst e1 e2 e3 e4 e5;have o:=h X c rfl rfl rfl rfl rfl e6 e7 e8 e9
 refine⟨fun y hy=>?_,fun cn C mm ds r hT hr=>?_,o.cls,o.fld,fun y hy ds d hd=>?_,fun y d hd hc=>o.cst y d hd hc,fun y hy h1 h2=>o.bi y hy h1 h2,o.xcl,o.frs,o.cx0,o.cxf,o.xns,o.xk,o.sub,fun f k x C h1 h2=>let ⟨a,b,c,j,d,e⟩:=o.wd f k x C h1 h2;⟨a,b,c,j,le_succ_of_le d,e⟩,o.dk⟩
 ·obtain⟨f',b0,br,a1,a2,a3,a4,a5⟩:=o.fn y hy;exact⟨f',b0,br,a1,a2,a3,a4,a5.mono (ue _)⟩
 ·obtain⟨f',b0,br,a1,a2,a3,a4⟩:=o.me cn C mm ds r hT hr;exact⟨f',b0,br,a1,a2,a3,a4.mono (ue _)⟩
 ·by_cases e:y=x
  ·subst e;simp only[GS.addC,if_true]at hd ⊢;exact⟨C,f,fd,ps,lv,qk _,hm,M,hb,hl ds d hd,F⟩
  ·simp only[GS.addC,if_neg e]at hd ⊢;obtain⟨C',f',b0,br,j,a1,a2⟩:=o.mo y hy ds d hd;exact⟨C',f',b0,br,j,le_succ_of_le a1,a2⟩
theorem MOk.defC{P:v7}{w:World}{K:uz}{mg:va}{base:Heap}{m:Nm}(h:MOk P w K mg base CX m G T lv){x qual:Str}{C f:Addr}{st:Stmt}{fd:v3}{N ps mus:List Str}{n:Nat}{is:List (Str×IE)}(hm:mg x=some (.ref C))(M:Mk K C f)(hb:Binds K fd ps [])
  (F:Fun K "__init__" qual st f fd) (fs:aa N ps (aB st)) (hk:iH (m.cc N (aB st) mus) (aB st)=true) (gh:qW n (m.cc N (aB st) mus) (aL st)=some is) (hT:T.cl x=some C) (ar:Cls K C) (lr:∀x∈is,dZ K C x.1) (lq:(is.map (·.1)).Nodup) (hlen:is.length<1000) :
  MOk P w K mg base CX m (G.addC x fun ds=>if ds.length+1=ps.length then DP G x N.length is ds else none) T (lv+2):=by
 have G1:=RG (CX:=CX) (P:=P) (w:=w) (mg:=mg) (base:=base) (T:=T) (lv:=lv) F fs (c:=m.cc N (aB st) mus) rfl rfl hk gh hT ar lr lq hlen (fun X a1 a2 a3 a4 a5=>h X _ a1 a2 a3 a4 a5 rfl rfl rfl rfl)
 have h':MOk P w K mg base CX m G T (lv+1):=by
  intro X c e1 e2 e3 e4 e5 e6 e7 e8 e9;subst e1 e2 e3 e4 e5;have o:=h X c rfl rfl rfl rfl rfl e6 e7 e8 e9
  refine⟨fun y hy=>?_,fun cn C mm ds r hT hr=>?_,o.cls,o.fld,fun y hy ds d hd=>?_,fun y d hd hc=>o.cst y d hd hc,fun y hy h1 h2=>o.bi y hy h1 h2,o.xcl,o.frs,o.cx0,o.cxf,o.xns,o.xk,o.sub,fun f k x C h1 h2=>let ⟨a,b,c,j,d,e⟩:=o.wd f k x C h1 h2;⟨a,b,c,j,le_succ_of_le d,e⟩,o.dk⟩
  ·obtain⟨f',b0,br,a1,a2,a3,a4,a5⟩:=o.fn y hy;exact⟨f',b0,br,a1,a2,a3,a4,a5.mono (ue _)⟩
  ·obtain⟨f',b0,br,a1,a2,a3,a4⟩:=o.me cn C mm ds r hT hr;exact⟨f',b0,br,a1,a2,a3,a4.mono (ue _)⟩
  ·obtain⟨C',f',b0,br,j,a1,a2⟩:=o.mo y hy ds d hd;exact⟨C',f',b0,br,j,le_succ_of_le a1,a2⟩
 refine h'.addC hm M hb (fun ds d hd=>?_) ?_
 ·by_cases e:ds.length+1=ps.length
  ·exact e
  ·rw[if_neg e]at hd;cases hd
 ·refine⟨fun vs H Q E h=>h.1,fun A outer s H args us vs Q E hr e0 j8 hv aq=>G1.run A outer s H args us vs Q E hr e0 j8 hv ?_⟩
  obtain⟨h1,p,dx,ws,S,ds,d,e1,h2,h3,h4,h5,h6,h7⟩:=aq;refine⟨h1,p,dx,ws,S,ds,d,e1,h2,h3,h4,h5,?_,h7⟩;have el:ds.length+1=ps.length:=by
   by_cases e:ds.length+1=ps.length
   ·exact e
   ·dsimp only at h6;rw[if_neg e]at h6;cases h6
  dsimp only at h6;rw[if_pos el]at h6;exact h6
end Z
namespace Z
open PySem PySem.Spec PyProof.Rows L2
section
variable {CX:aj}{G:GS}{T:Tx}{lv:Nat}{X:Cx}{c:CC}{p:Nat→Pos}{EX:Str→Hp→Prop}{n:Nat}{e2 e3 e4 e5 e6 e8:Expr}{b2 b3 b4 b6:List Stmt}
structure GtI (σ0 σ:L2.St) (H1 H:Hp) (q:Addr):Prop where
 len:σ.length=7
 a0:∀j,j<3→σ[j]?=σ0[j]?
 a3:σ[3]?=some (some (.ref q))
 sm:aF H1 H
theorem RA(xc:XC CX X c G T lv)(xs:XS CX T X c EX)(P:kg c n e2 e3 e4 e5 e6 e8 p):PS X (.For (.Name "one" (p 5)) (.Name "found" (p 6)) [.If e3 b3 [] (p 28),.For (.Name "part" (p 7)) (.Name "one" (p 8)) [.If e4 b4 [] (p 29)] [] (p 30)] [] (p 31))
  (fun D σ H=>∃(σ0:L2.St) (H1:Hp) (q:Addr) (gs:List (List Int)) (as:List Addr),GtI σ0 σ H1 H q∧H1 q=some (.lst (as.map .ref))∧GL H1 gs as∧(∀cs∈gs,∀i∈cs,ev G fy (fu 5 (.int i))=some (.bl false))∧∀σ' H',GtI σ0 σ' H1 H' q→D.nx σ' H'):=by
 intro pins s σ H Dn I ⟨σ0,H1,q,gs,as,gi,hq,gl,hw,k⟩;obtain⟨hN4,hk4⟩:=cQ P.tone;obtain⟨ox,hf4⟩:=xc.loc hk4;have pg4:PG X (.Name "one" (p 5)) (jS 4):=kL (by rw[xc.N];exact xc.nd) (by rw[xc.N];exact hN4) ox hf4
 refine rY xs.pass xc.calm (zQ (dU xc P.found)) pg4 (aAg xc xs P) (by intro _;rfl) pins s σ H Dn I ?_
 refine⟨.ref q,gi.a3,q,rfl,⟨_,SqL.of (gi.sm _ _ hq)⟩,?_⟩;refine wA (K:=X.K) (g:=jS 4) (tb:=aBT G) (xs:=as.map .ref) (fun _ σ' H'=>GtI σ0 σ' H1 H' q) gi (fun i σ' H' _ g=>SqL.of (g.sm _ _ hq)) (fun i x σ' H' hx g=>?_) fun σ' H' g=>k σ' H' g
 rw[qi]at hx;obtain⟨a,ha,rfl⟩:=qv.mp hx;have get:∀{gs:List (List Int)} {as:List Addr} {i:Nat},GL H1 gs as→as[i]?=some a→∃cs∈gs,H1 a=some (.lst (cs.map .int)):=by
  intro gs as i h
  induction h generalizing i with
  |nil=>intro z;cases i<;>cases z
  |cons h n r ih =>
   intro z;cases i with
   |zero=>cases z;exact⟨_,uf,h⟩
   |succ i =>
    obtain⟨cs,m,e⟩:=ih z;exact⟨cs,qq _ m,e⟩
 obtain⟨cs,m,ea⟩:=get gl ha;refine⟨a,cs,by rw[length_set];exact g.len,r8 (by rw[g.len];decide),g.sm _ _ ea,hw cs m,fun σ2 H2 s2 ag hl=>⟨hl,fun j hj=>?_,?_,g.sm.trans s2⟩⟩
 ·rw[ag j (by omega),rg (by omega)]
  exact g.a0 j hj
 ·rw[ag 3 (by decide),rg (by decide)]
  exact g.a3
noncomputable def jz(pl lf ct:D)(d:Sl):List Sl:=[.im pl,.im lf,.im ct,.un,.un,.un,d]
theorem UL{K:uz}{S:Addr→Prop}{H:Hp}{σ0 σ:L2.St}{pl lf ct:D}{v0 v1 v2:V}{d:Sl}(dom:∀a,S a→∃o,H a=some o)(hl:σ.length=7)(a0:∀j,j<3→σ[j]?=σ0[j]?)(hσ:σ0=[some v0,some v1,some v2,none,none,none,none])(rl:aD K T H S [pl,lf,ct] [v0,v1,v2])(hd:LD K T H S d σ[6]?):RE K T H S (jz pl lf ct d) σ:=by
 subst hσ;unfold aD at rl;obtain⟨_,_,e,r0,rl⟩:=rl;cases e;unfold aD at rl;obtain⟨_,_,e,r1,rl⟩:=rl;cases e;unfold aD at rl;obtain⟨_,_,e,r2,rl⟩:=rl;cases e;refine⟨dom,hl.symm,fun i s e=>?_⟩
 match i,e with
 | 0,e=>cases e;exact⟨_,a0 0 (by decide),r0⟩
 | 1,e=>cases e;exact⟨_,a0 1 (by decide),r1⟩
 | 2,e=>cases e;exact⟨_,a0 2 (by decide),r2⟩
 | 3,e=>cases e;trivial
 | 4,e=>cases e;trivial
 | 5,e=>cases e;trivial
 | 6,e=>cases e;exact hd
 |i+7,e=>cases e
end
theorem aEV{G:GS}{T:Tx}{lv:Nat}{P:v7}{w:World}{K:uz}{mg:va}{base:Heap}{x qual:Str}{st:Stmt}{f fp:Addr}{fd ij:v3}{N:List Str}{c:CC}{n:Nat}{e2 e3 e4 e5 e6 e8:Expr}{b2 b3 b4 b6:List Stmt}{p:Nat→Pos}{a0:Str}{A3:List Str}{fP:List D→Option (List (List Int))}(F:Fun K x qual st f fd)(fs:aa N A3 (aB st))(hA:A3.length=3)(hN:c.N=N)(hN7:N.length=7)(f6:c.sc=aB st)(hk:iH c (aB st)=true)
  (hb:aL st=sU e2 e3 e4 e5 e6 e8 b2 b3 b4 b6 p) (hP:kg c n e2 e3 e4 e5 e6 e8 p)
  (Fp:FnOk P w K mg base (bP P w) lv fp ij [a0] (iz K T fP)) (pm:mg "pieces" = some (.ref fp)) (pk:keepIn K (.ref fp)=true) (pb:Binds K ij [a0] []) (hG:∀d gs,fP [d]=some gs→G.fn "pieces" [d]=some (.ok (.lst (gs.map bz))))
  (go:∀(X:Cx),X.prog=P→X.w=w→X.K=K→X.mg=mg→X.base=base→kh (bP P w) X c G T lv):FnOk P w K mg base (bP P w) (lv+1) f fd A3 (fc K T 3 (ig G fP) false):=by
 obtain⟨oc,od,kV,doc,pm',an,aw,ct',i4,rfl,lk,cf⟩:=F.ex;refine AO lk cf fs (fun vs H Q E h=>h.1.trans hA.symm) fun A outer s H vs Q E hr aq=>?_
 obtain⟨hlen,S,ds,dom,rl,cx⟩:=aq;generalize hX:iZ (bP P w) P w K mg base N qual (aB st) f aw A outer s H E=X;have xc:XC (bP P w) X c G T lv:=by
  rw[←hX];exact(rJ (CX:=bP P w) (E:=E) (P:=P) (w:=w) (mg:=mg) (base:=base) (outer:=outer) (s:=s) (H:=H) (f:=f) (cd:=aw) (qual:=qual) hN f6 fs hk hr (go _ rfl rfl rfl rfl rfl)).re rfl rfl rfl rfl rfl rfl rfl rfl rfl rfl
 have xs:XS (bP P w) T X c (fun k H'=>∃C,T.xc k=some C∧E (.ref C) none H'):=by
  rw[←hX]at xc ⊢;refine⟨fs.kind,PassesOwn.leaving,fun y m j p p' q pos hg hc=>?_,fun E1 h1=>sF fun cls H' z=>?_,rfl,rfl⟩
  ·rintro pins s1 σ H1 D I ⟨C,hT,hE⟩;exact nN (W:=fun H'=>E (.ref C) none H') rfl (xc.glob hg) (xc.gne hg) (xc.go.xcl y C hT) (xc.go.xk y C hT) (fun pins σ H s h' e vs I hm hE=>jY I hm hE) pins s1 σ H1 D I hE
  ·obtain⟨k,C,hT,rfl,C',ef,hE⟩:=h1 cls H' z;rw[hT]at ef;cases ef;exact hE
 have xK:X.K=K:=by rw[←hX];rfl
 have Fp':FnOk X.prog X.w X.K X.mg X.base (bP P w) lv fp ij [a0] (iz X.K T fP):=by rw[←hX];exact Fp
 have pm2:X.mg "pieces" = some (.ref fp):=by rw[←hX];exact pm
 have pk2:keepIn X.K (.ref fp)=true:=by rw[xK];exact pk
 have pb2:Binds X.K ij [a0] []:=by rw[xK];exact pb
 rcases cx with ⟨d,hd,post⟩|⟨k,C,hd,_⟩
 ·match ds,hd,rl with
  |[pl,lf,ct],hd,rl =>
  simp only[ig]at hd;split at hd
  ·rename_i g gs hfP;split at hd
   ·rename_i du hdu;obtain⟨hc,hd⟩:=aX hd;cases hd;obtain⟨hc,cW⟩:=bM hc;obtain⟨hc,cL⟩:=bM hc;obtain⟨hc,cG⟩:=bM hc;obtain⟨hc,cE⟩:=bM hc;obtain⟨cP1,cP2⟩:=bM hc;have rl0:=rl
    unfold aD at rl;obtain⟨v0,r,rfl,r0,rl⟩:=rl;unfold aD at rl;obtain⟨v1,r,rfl,r1,rl⟩:=rl;unfold aD at rl;obtain⟨v2,r,rfl,r2,rl⟩:=rl;unfold aD at rl;subst rl;have hs0:L2.start N [v0,v1,v2]=[some v0,some v1,some v2,none,none,none,none]:=by
     unfold L2.start;rw[hN7];rfl
    rw[hb];have pgN:∀{y:Str} {py:Pos} {i:Nat},dS c (.Name y py)=some i→PG X (.Name y py) (jS i):=fun {y py i} h=>by
     obtain⟨h1,h2⟩:=cQ h;obtain⟨h3,h4⟩:=xc.loc h2;exact kL (by rw[xc.N];exact xc.nd) (by rw[xc.N];exact h1) h3 h4
    have q1:PE X (.Call (.Name "pieces" (p 1)) [.Name "pile" (p 2)] [] (p 3)) (fun σ H Q=>σ[0]?=some (some v0)∧aD X.K T H S [pl] [v0]∧(∀a,S a→∃o,H a=some o)∧∀q as H',aF H H'→H q=none→H' q=some (.lst (as.map .ref))→GL H' (g::gs) as→(∀x∈as,H x=none∧x≠q)→X.K.lookup q=none→(∀x∈as,X.K.lookup x=none)→Q (.ref q) H'):=fun pins s σ H Q I ⟨e0,rl,dom,k⟩ =>
     ae (sC Fp' xc.room (xc.glob hP.pc) pm2 pk2 pb2 .nil (nQ xc) (aR (dU xc hP.pile) bU rfl) (xc.gne hP.pc) rfl rfl pins s σ H (fun v H'=>∃q as,v=.ref q∧aF H H'∧H q=none∧H' q=some (.lst (as.map .ref))∧GL H' (g::gs) as∧∀x∈as,H x=none∧x≠q) I
      ⟨v0,e0,rfl,S,[pl],g::gs,dom,rl,hfP,fun q as H' a b c d e=>⟨q,as,rfl,a,b,c,d,e⟩⟩) fun u s1 ⟨v,H',I',r,q,as,e,a,b,c,d,f⟩=>⟨v,H',I',r,by
       rw[e];exact k q as H' a b c d f (vS I' c) fun x m=>let ⟨o,z⟩:=d.mem x m;vS I' z⟩
    have q2:PT X e2 (dh X.K T (fun _=>False) (fu 3 (.lst ((g::gs).map bz))) false):=(bV n).2.1 X c (fun _=>False) _ e2 ir2 xc hP.h2 false rfl
    have q6:PT X e6 (dh X.K T (fun _=>False) ((fu 3 (.lst ((g::gs).map bz))).set 6 (.im du)) false):=(bV n).2.1 X c (fun _=>False) _ e6 ir6 xc hP.h6 false (by
     show k6 (.lst ((g::gs).map bz)) du=_
     unfold k6;rw[cP1,cP2,cE];rfl)
    have q8:∀S1,PE X e8 (tD X.K T S1 (jz pl lf ct (.im du)) (.bl true)):=fun S1=>((bV n).1 X c S1 (jz pl lf ct (.im du)) e8 ir8 xc hP.h8 (.bl true) (by
     show (iJ (G.fn "pieces" [pl])).bind (fun x=>oEq x du)=_
     rw[hG pl _ hfP];show oEq (.lst ((g::gs).map bz)) du=_
     unfold oEq;rw[cP1,cP2,cE];rfl)).1
    have q5:∀S1,PE X e5 (tD X.K T S1 (jz pl lf ct .un) du):=fun S1=>((bV n).1 X c S1 (jz pl lf ct .un) e5 k9 xc hP.h5 du hdu).1
    have hN0:X.N.Nodup:=by rw[xc.N];exact xc.nd
    obtain⟨hN3,hk3⟩:=cQ hP.tfound;obtain⟨hl3,j6⟩:=xc.loc hk3;obtain⟨o7,hk6⟩:=cQ hP.tdue;obtain⟨hl6,hf6⟩:=xc.loc hk6;have b1:big<sizeLine:=by rw[sizeLine_eq];decide
    refine⟨fun D σ H'=>σ=[some v0,some v1,some v2,none,none,none,none]∧H'=H∧D.rt=Q,fun pins s σ H' D I ⟨hσ,hH,hD⟩=>?_,hs0,rfl,rfl⟩
    have hH:=hH.symm
    subst hσ hH;have pe:∀S1:Addr→Prop,PSs X (sU e2 e3 e4 e5 e6 e8 b2 b3 b4 b6 p) _:=fun S1 =>
     bI (jW hN0 (by rw[xc.N];exact hN3) hl3 q1 rfl j6) (bI (qC q2 jF gW) (bI (RA xc xs hP) (bI (jW hN0 (by rw[xc.N];exact o7) hl6 (fun pins s σ H Q I (h:∃S1,tD X.K T S1 (jz pl lf ct .un) du σ H Q)=>let ⟨S1,h⟩:=h;q5 S1 pins s σ H Q I h) (nH hP.h5 hP.c5 _ _ _) hf6)
      (bI (qC q6 jF gW) (bI (eY (lZ plainAttrs_list PySem.F.slot_list_append PySem.F.type_list_append gO (zR yG (dU xc hP.found) sA (fun _ _=>rfl)) (aR (dU xc hP.count) bU rfl) rfl rfl hP.l1 rfl rfl) rfl)
       (bI (eY (lZ plainAttrs_list PySem.F.slot_list_append PySem.F.type_list_append gO (dU xc hP.found) (aR (nP bU) bU rfl) rfl rfl hP.l2 rfl rfl) rfl) (dP (gF (fun pins s σ H Q I (h:∃S1,tD X.K T S1 (jz pl lf ct (.im du)) (.bl true) σ H Q)=>let ⟨S1,h⟩:=h;q8 S1 pins s σ H Q I h)))))))))
    refine pe (fun _=>False) pins s _ H D I ⟨rfl,by rw[xK];exact aD.cons r0 aD.nil,dom,fun q as H1 sm hq ba gl nw kq ka=>?_⟩
    have nF:∀b,(b=q∨b∈as)→H b=none∧X.K.lookup b=none:=fun b z=>z.elim (fun z=>by rw[z];exact⟨hq,kq⟩) fun m=>⟨(nw b m).1,ka b m⟩
    have mv:aK X.K H H1 S (fun b=>S b∨b=q∨b∈as):=fun b nS h=>by
     refine⟨fun z=>z.elim nS fun z=>?_,fun o e=>sm b o e⟩
     obtain⟨z1,z2⟩:=nF b z
     rcases h with ⟨o,h⟩|⟨o,h⟩
     ·rw[z1]at h;cases h
     ·rw[z2]at h;cases h
    have rl1:aD X.K T H1 (fun b=>S b∨b=q∨b∈as) [pl,lf,ct] [v0,v1,v2]:=aD.gen mv _ _ (by rw[xK];exact rl0)
    have dom1:∀H',aF H1 H'→∀b,(S b∨b=q∨b∈as)→∃o,H' b=some o:=fun H' s b z=>by
     rcases z with z|rfl|m
     ·obtain⟨o,e⟩:=dom b z;exact⟨o,s b o (sm b o e)⟩
     ·exact⟨_,s _ _ ba⟩
     ·obtain⟨o,e⟩:=gl.mem b m;exact⟨o,s b o e⟩
    have rq:∀H',aF H1 H'→Rep X.K T H' (fun _=>False) (.lst ((g::gs).map bz)) (.ref q):=fun H' s=>by
     unfold Rep;exact⟨q,_,rfl,fun z=>z,s _ _ ba,(gl.frame fun a _ o e=>s a o e).rep fun _ _ z=>z⟩
    refine⟨rV rfl rfl (rq H1 (aF.refl _)),fun H2 s2=>jZ ?_⟩
    refine⟨[some v0,some v1,some v2,none,none,none,none],H1,q,g::gs,as,⟨rfl,fun j hj=>rg (by omega),rfl,s2⟩,ba,gl,fun cs m i mi=>?_,fun σ3 H3 g3=>?_⟩
    ·exact JG (all_eq_true.mp (all_eq_true.mp cW cs m) i mi)
    refine⟨fun b=>S b∨b=q∨b∈as,UL (dom1 H3 g3.sm) g3.len g3.a0 rfl (rl1.same g3.sm) trivial,fun v6 H4 s4 r6=>?_⟩
    have sm4:=g3.sm.trans s4
    have l4:(σ3.set 6 (some v6)).length=7:=by rw[length_set];exact g3.len
    have e46:(σ3.set 6 (some v6))[6]?=some (some v6):=r8 (by rw[g3.len];decide)
    have e43:(σ3.set 6 (some v6))[3]?=some (some (.ref q)):=(rg (by decide)).trans g3.a3
    have a04:∀j,j<3→(σ3.set 6 (some v6))[j]?=([some v0,some v1,some v2,none,none,none,none]:L2.St)[j]?:=fun j hj=>(rg (by omega)).trans (g3.a0 j hj)
    refine⟨(rV g3.len g3.a3 (rq H4 sm4)).set (Rep.mono (fun _ z=>z.elim) (fun _ _ _ e=>e) du v6 r6),fun H5 s5=>jZ ?_⟩
    have jw:=sm4.trans s5
    cases gl with
    |cons ha0 n0 r =>
    rename_i a0 cj;have m0:a0∈a0::cj:=uf
    have qa:q≠a0:=fun z=>(nw a0 m0).2 z.symm
    refine⟨.ref q,e43,.inl ⟨q,_,0,.ref a0,rfl,rfl,SqL.of (jw _ _ ba),CQ (xs:=(a0::cj).map V.ref) (j:=0) rfl,.inl ⟨rfl,_,SqL.of (jw _ _ ha0)⟩,v2,a04 2 (by decide),a0,_,v2,rfl,rfl,jw _ _ ha0,?_,?_⟩⟩
    ·rw[qj];exact lt_trans (of_decide_eq_true cG) b1
    have hq6:upd H5 a0 (.lst (g.map .int++[v2])) q=some (.lst ((a0::cj).map .ref)):=by rw[aG qa];exact jw _ _ ba
    refine⟨.ref q,e43,.inl ⟨rfl,_,SqL.of hq6⟩,uu _,fun n hn=>⟨q,(a0::cj).map .ref,.ref n,rfl,rfl,?_,?_,?_⟩⟩
    ·exact(aG (aJ hq6 hn)).trans hq6
    ·have hle:(a0::cj).length=(g::gs).length:=by
      have gll:∀{gs:List (List Int)} {as:List Addr},GL H1 gs as→as.length=gs.length:=by
       intro gs as h
       induction h with
       |nil=>rfl
       |cons _ _ _ ih=>simp[ih]
      simp[gll r]
     rw[qj,hle];exact lt_trans (of_decide_eq_true cL) b1
    have keep:∀b o,b≠q→b≠a0→H5 b=some o→upd (upd (upd H5 a0 (.lst (g.map .int++[v2]))) n (.lst [])) q (.lst ((a0::cj).map .ref++[.ref n])) b=some o:=fun b o z1 z2 e=>by
     have e':upd H5 a0 (.lst (g.map .int++[v2])) b=some o:=by rw[aG z2];exact e
     rw[aG z1,aG (aJ e' hn)];exact e'
    have mv8:aK X.K H5 (upd (upd (upd H5 a0 (.lst (g.map .int++[v2]))) n (.lst [])) q (.lst ((a0::cj).map .ref++[.ref n]))) (fun b=>S b∨b=q∨b∈a0::cj) (fun b=>S b∨b=q∨b∈a0::cj):=fun b nS _=>⟨nS,fun o e=>keep b o (fun z=>nS (.inr (.inl z))) (fun z=>nS (.inr (.inr (by rw[z];exact m0)))) e⟩
    have dom8:∀b,(S b∨b=q∨b∈a0::cj)→∃o,upd (upd (upd H5 a0 (.lst (g.map .int++[v2]))) n (.lst [])) q (.lst ((a0::cj).map .ref++[.ref n])) b=some o:=fun b z=>by
     by_cases z1:b=q
     ·rw[z1];exact⟨_,aH⟩
     ·by_cases z2:b=a0
      ·rw[z2,aG (Ne.symm qa),aG (fun z=>by rw[←z,aH]at hn;cases hn)]
       exact⟨_,aH⟩
      ·obtain⟨o,e⟩:=dom1 H5 jw b z;exact⟨o,keep b o z1 z2 e⟩
    refine⟨fun b=>S b∨b=q∨b∈a0::cj,UL dom8 l4 a04 rfl (aD.gen mv8 _ _ (rl1.same jw)) ⟨v6,e46,Rep.gen mv8 _ _ (r6.same s5)⟩,fun v H9 s9 r9=>?_⟩
    show D.rt v H9
    rw[hD];refine post v H9 (fun b o e=>s9 b o (keep b o (fun z=>?_) (fun z=>?_) (jw b o (sm b o e)))) ?_ fun z=>by cases z
    ·rw[z,hq]at e;cases e
    ·rw[z,(nw a0 m0).1]at e;cases e
    ·unfold Rep at r9 ⊢;exact r9
   ·cases hd
  ·cases hd
 ·exfalso
  unfold ig at hd;split at hd
  ·split at hd
   ·split at hd
    ·split at hd<;>cases hd
    ·cases hd
   ·cases hd
  ·cases hd
noncomputable def noE:Expr:=.Name "" ⟨0,0,0,0⟩
noncomputable def ifT:Stmt→Expr
 |.If t _ _ _=>t
 |_=>noE
noncomputable def ifB:Stmt→List Stmt
 |.If _ b _ _=>b
 |_=>[]
noncomputable def EU:Stmt→List Stmt
 |.For _ _ b _ _=>b
 |_=>[]
noncomputable def aIk:Stmt→Expr
 |.Assign _ e _=>e
 |_=>noE
noncomputable def aHe:Stmt→Expr
 |.Return (some e) _=>e
 |_=>noE
noncomputable def stN(b:List Stmt)(i:Nat):Stmt:=b.getD i (.Pass ⟨0,0,0,0⟩)
noncomputable def pcD(G:GS)(i1 i2:IS)(ds:List D):Option Rs:=if ds.length=1 then(dO G i1 i2 ds).map fun gs=>.ok (.lst (gs.map bz)) else none
section
variable {P:v7}{w:World}{K:uz}{mg:va}{base:Heap}{m:Nm}{G:GS}{T:Tx}{lv:Nat}
theorem MOk.pieces(h:MOk P w K mg base (bP P w) m G T lv){x:Str}{st:Stmt}{f:Addr}{fd:v3}{N mus:List Str}{a0:Str}{n:Nat}{s1 s2 s3:Stmt}{i1 i2:IS}{p:Nat→Pos}(hn:m.fns.contains x=false)(gf:∀cn ds,G.me cn x ds=none)(gc:m.fresh.contains x=false)(hm:mg x=some (.ref f))(hb:Binds K fd [a0] [])
  (F:Fun K x x st f fd) (fs:aa N [a0] (aB st)) (o7:N.length=6) (hk:iH (m.cc N (aB st) mus) (aB st)=true) (lz:aL st=s1::s2::s3::sD p) (h1:cS n (m.cc N (aB st) mus) s1=some i1) (h2:cS n (m.cc N (aB st) mus) s2=some i2) (h3:cS n (m.cc N (aB st) mus) s3=some (.setd 3)) (hP:p7 (m.cc N (aB st) mus) p) :
  MOk P w K mg base (bP P w) (m.addF x false) (G.addF x (pcD G i1 i2) false) T (lv+1)∧FnOk P w K mg base (bP P w) (lv+1) f fd [a0] (iz K T (dO G i1 i2)):=by
 have G1:FnOk P w K mg base (bP P w) (lv+1) f fd [a0] (iz K T (dO G i1 i2)):=EZ (P:=P) (w:=w) (mg:=mg) (base:=base) (T:=T) (lv:=lv) F fs (c:=m.cc N (aB st) mus) rfl o7 rfl hk lz h1 h2 h3 hP (fun X a1 a2 a3 a4 a5=>h X _ a1 a2 a3 a4 a5 rfl rfl rfl rfl)
 refine⟨h.addF hn gf gc hm F.kp hb (fun ds r hr=>yD hr) (G1.imp fun vs H Q E aq=>aBZ ?_),G1⟩
 obtain⟨h1,S,ds,dom,rl,hc⟩:=aq;refine⟨h1,S,ds,dom,rl,?_⟩;have el:ds.length=1:=by rw[rl.len];exact h1
 have e:pcD G i1 i2 ds=(dO G i1 i2 ds).map fun gs=>.ok (.lst (gs.map bz)):=if_pos el
 rw[e]at hc;exact hc
theorem RC{fP:List D→Option (List (List Int))}{ds:List D}{r:Rs}(h:ig G fP ds=some r):ds.length=3:=by
 unfold ig at h;split at h
 ·rfl
 ·cases h
theorem MOk.gt(h:MOk P w K mg base (bP P w) m G T lv){x:Str}{st:Stmt}{f fp:Addr}{fd ij:v3}{N A3 mus:List Str}{a0:Str}{n:Nat}{e2 e3 e4 e5 e6 e8:Expr}{b2 b3 b4 b6:List Stmt}{p:Nat→Pos}{fP:List D→Option (List (List Int))}(hn:m.fns.contains x=false)(gf:∀cn ds,G.me cn x ds=none)(gc:m.fresh.contains x=false)(hm:mg x=some (.ref f))(hb:Binds K fd A3 [])
  (F:Fun K x x st f fd) (fs:aa N A3 (aB st)) (hA:A3.length=3) (hN7:N.length=7) (hk:iH (m.cc N (aB st) mus) (aB st)=true) (lz:aL st=sU e2 e3 e4 e5 e6 e8 b2 b3 b4 b6 p) (hP:kg (m.cc N (aB st) mus) n e2 e3 e4 e5 e6 e8 p)
  (Fp:FnOk P w K mg base (bP P w) lv fp ij [a0] (iz K T fP)) (pm:mg "pieces" = some (.ref fp)) (pk:keepIn K (.ref fp)=true) (pb:Binds K ij [a0] []) (hG:∀d gs,fP [d]=some gs→G.fn "pieces" [d]=some (.ok (.lst (gs.map bz)))) :
  MOk P w K mg base (bP P w) (m.addF x false) (G.addF x (ig G fP) false) T (lv+1):=by
 have G1:=aEV (P:=P) (w:=w) (mg:=mg) (base:=base) (T:=T) (lv:=lv) F fs hA (c:=m.cc N (aB st) mus) rfl hN7 rfl hk lz hP Fp pm pk pb hG (fun X a1 a2 a3 a4 a5=>h X _ a1 a2 a3 a4 a5 rfl rfl rfl rfl)
 exact h.addF hn gf gc hm F.kp hb (fun ds r hr=>(RC hr).trans hA.symm) (by rw[hA];exact G1)
end
section
variable {X:Cx}
theorem rM:∀{bs:List Bool} {its:List Value},aQ (bs.map V.bl) its→its=bs.map Value.bool
 |[],its,h=>by cases h;rfl
 |b::bs,its,h=>by
  cases h with
  |cons h1 h2 =>
   obtain rfl:=h1;rw[rM h2];rfl
noncomputable def eqT:Value→Bool
 |.bool a=>a == true
 |_=>false
theorem aFe:∀bs:List Bool,(bs.map Value.bool).countP eqT=bs.count true
 |[]=>rfl
 |b::bs=>by
  rw[sq,List.countP_cons,List.count_cons,aFe bs];cases b<;>rfl
noncomputable def aDi:V→List V→Hp→VK→Prop:=fun x vs H Q=>∃(l:Addr) (bs:List Bool),x=.ref l∧vs=[.bl true]∧H l=some (.lst (bs.map V.bl))∧Q (.int (bs.count true)) H
theorem ZP:qc X "list.count" aDi:=by
 intro pins s σ H x vs v us Q I rx rv h;obtain⟨l,bs,rfl,rfl,hH,q⟩:=h;cases rx;obtain⟨u,rfl,ru⟩:=rv.one;obtain rfl:u=.bool true:=ru;obtain⟨z,its,n,r,hl,e⟩:=I.lstM hH;have hi:=rM r
 subst hi;refine call_meets PySem.F.slot_list_count ⟨_,e,rfl⟩ PySem.F.entry_list_count (PySem.F.args_list_count_2 _ _) (SeqAt.list_countAt l (bs.map Value.bool).toArray n none #[] (.bool true) eqT) ⟨e,fun y hy=>?_,?_⟩
 ·have b8:y∈bs.map Value.bool:=by simpa using hy
  obtain⟨b,_,rfl⟩:=sv.mp b8;exact SeqAt.EqAt.bool_bool b true
 ·refine⟨.int (bs.count true),H,I.tok _,⟨s.toks,?_⟩,q⟩;rw[←aFe bs]
noncomputable def aDh:V→List V→Hp→VK→Prop:=fun x vs H Q=>∃(l:Addr) (bs:List Bool) (j:Nat),x=.ref l∧vs=[.bl true]∧H l=some (.lst (bs.map V.bl))∧bs[j]?=some true∧(∀m,m<j→bs[m]?=some false)∧j<1000∧Q (.int (j:Nat)) H
theorem ZO:qc X "list.index" aDh:=by
 intro pins s σ H x vs v us Q I rx rv h;obtain⟨l,bs,j,rfl,rfl,hH,hj,hno,hs,q⟩:=h;cases rx;obtain⟨u,rfl,ru⟩:=rv.one;obtain rfl:u=.bool true:=ru;obtain⟨z,its,n,r,hl,e⟩:=I.lstM hH;have hi:=rM r
 subst hi;have hjl:=(q9.mp hj).1
 have hsz:(bs.map Value.bool).toArray.size=bs.length:=by simp
 have at_:∀(m:Nat) (hm:m<(bs.map Value.bool).toArray.size) (b:Bool),bs[m]?=some b→(bs.map Value.bool).toArray[m]=.bool b:=fun m hm b e=>by
  have hm':m<bs.length:=by rw[hsz]at hm;exact hm
  have e':bs[m]=b:=by rw[qh hm']at e;exact qu e
  simp[e']
 refine call_meets PySem.F.slot_list_index ⟨_,e,rfl⟩ PySem.F.entry_list_index (PySem.F.args_list_index_2 _ _) (SeqAt.list_indexAt l (bs.map Value.bool).toArray n none #[] (.bool true) eqT j (by rw[hsz];exact hjl) (by omega) ?_ fun m hm hmj=>?_) ⟨e,fun y hy=>?_,?_⟩
 ·rw[at_ j _ true hj];rfl
 ·rw[at_ m hm false (hno m hmj)];rfl
 ·have b8:y∈bs.map Value.bool:=by simpa using hy
  obtain⟨b,_,rfl⟩:=sv.mp b8;exact SeqAt.EqAt.bool_bool b true
 ·exact⟨.int (j:Nat),H,I.tok _,⟨_,rfl⟩,q⟩
end
noncomputable def eZ(p:Nat→Pos)(k:Nat)(y:Str):Expr:=.Call (.Name "isinstance" (p k)) [.Name "e" (p (k+1)),.Name y (p (k+2))] [] (p (k+3))
noncomputable def nA(p:Nat→Pos):List Stmt:=[
 .Assign [.Name "kinds" (p 0)] (.List [eZ p 1 "NoSheet",eZ p 5 "NoFold",eZ p 9 "NoPlace",eZ p 13 "Ajar"] (p 17)) (p 18),
 .Assign [.Name "kinds" (p 19)] (.BinOp (.Name "kinds" (p 20)) .Add (.List [eZ p 21 "Severed",eZ p 25 "Bolted",eZ p 29 "Loose",eZ p 33 "NoWord"] (p 37)) (p 38)) (p 39),
 .If (.BoolOp .Or [.Compare (.Call (.Attribute (.Name "kinds" (p 40)) "count" (p 41)) [.Constant (.bool true) 0 (p 42)] [] (p 43)) [.NotEq] [.Constant (.int 1) 0 (p 44)] (p 45),.UnaryOp .Not (eZ p 46 "ValueError") (p 50)] (p 51)) [.Return (some (.Constant (.str "other") 0 (p 52))) (p 53)] [] (p 54),
 .Return (some (.Subscript (.List [.Constant (.str "sheet") 0 (p 55),.Constant (.str "fold") 0 (p 56),.Constant (.str "place") 0 (p 57),.Constant (.str "ajar") 0 (p 58),.Constant (.str "severed") 0 (p 59),.Constant (.str "bolted") 0 (p 60),.Constant (.str "loose") 0 (p 61),.Constant (.str "word") 0 (p 62)] (p 63)) (.Call (.Attribute (.Name "kinds" (p 64)) "index" (p 65)) [.Constant (.bool true) 0 (p 66)] [] (p 67)) (p 68))) (p 69)]
noncomputable def bA:List Str:=["NoSheet","NoFold","NoPlace","Ajar","Severed","Bolted","Loose","NoWord"]
noncomputable def rK:List Str:=["sheet","fold","place","ajar","severed","bolted","loose","word"]
section
variable {X:Cx}{p:Nat→Pos}
def WA(K:uz)(c:Value):TE:=fun σ H Q=>∃a C b,σ[0]?=some (some (.ref a))∧H a=some (.ext (isExc a C))∧XcK K C∧kitOne K (.ref C) c=some b∧Q (.bl b) H
theorem wX{c:Value}{v:V}(rc:∀u,RelV v u→u=c):cX X (.builtin "isinstance") (fun xs H Q=>∃a C b,xs=[.ref a,v]∧H a=some (.ext (isExc a C))∧XcK X.K C∧kitOne X.K (.ref C) c=some b∧Q (.bl b) H):=by
 rintro pins s σ H xs us Q I r ⟨a,C,b,rfl,hx,F,hk,q⟩;cases r with
 |cons r1 r2 =>
  cases r2 with
  |cons r2 r3 =>
   cases r3;obtain rfl:=r1;have ec:=rc _ r2
   subst ec;obtain⟨h1,_,_⟩:=I.hok a _ hx;exact kia_one (JB F) I.kIn h1 hk (fun z=>by cases z) fun tk=>⟨.bl b,H,I.tok tk,rfl,q⟩
theorem qX:bootBuiltins "isinstance" = some (.builtin "isinstance"):=by decide +kernel
theorem aFf:bootBuiltins "ValueError" = some (.type "ValueError"):=by decide +kernel
structure WX (X:Cx) (cs:Str→Addr):Prop where
 N:X.N=(["e","kinds"]:List Str)
 le:X.env.kindOf "e" = some .local
 lk:X.env.kindOf "kinds" = some .local
 gi:Gl X "isinstance"
 gv:Gl X "ValueError"
 gx:∀y∈bA,Gl X y
 mi:X.mg "isinstance" = none
 mv:X.mg "ValueError" = none
 mx:∀y∈bA,X.mg y=some (.ref (cs y))
variable {cs:Str→Addr}
theorem aDp(W:WX X cs){q:Pos}:PE X (.Name "e" q) (pH 0):=lF (by rw[W.N];rfl) (.inl W.le) (by decide +kernel) (by decide +kernel)
theorem YC(W:WX X cs){q:Pos}:PE X (.Name "kinds" q) (pH 1):=lF (by rw[W.N];rfl) (.inl W.lk) (by decide +kernel) (by decide +kernel)
theorem rZ(W:WX X cs){k:Nat}{y:Str}(hy:y∈bA):PE X (eZ p k y) (WA X.K (.ref (cs y))):=by
 have hd:(y == ("__debug__":Str))=false:=by
  have:bA.all (fun y=>!(y == ("__debug__":Str)))=true:=by decide +kernel
  have:=all_eq_true.mp this y hy
  simpa using this
 refine PE.mono (fN (wX (v:=.ref (cs y)) fun u h=>h) W.gi W.mi qX (aR (aDp W) (aR (OX (v:=.ref (cs y)) (W.gx y hy) (W.mx y hy) rfl hd) bU)) (by decide +kernel) (by decide +kernel) rfl rfl) fun σ H Q hh=>?_
 obtain⟨a,C,b,h1,h2,h3,h4,q⟩:=hh;exact⟨.ref a,h1,a,C,b,rfl,h2,h3,h4,q⟩
theorem YD(W:WX X cs){k:Nat}:PE X (eZ p k "ValueError") (WA X.K (.type "ValueError")):=by
 refine PE.mono (fN (wX (v:=.ty "ValueError") fun u h=>h) W.gi W.mi qX (aR (aDp W) (aR (zU (v:=.ty "ValueError") W.gv W.mv aFf rfl (by decide +kernel) (by decide +kernel)) bU)) (by decide +kernel) (by decide +kernel) rfl rfl) fun σ H Q hh=>?_
 obtain⟨a,C,b,h1,h2,h3,h4,q⟩:=hh;exact⟨.ref a,h1,a,C,b,rfl,h2,h3,h4,q⟩
def GF(K:uz)(c1 c2 c3 c4:Value):TE:=fun σ H Q=>∃a C b1 b2 b3 b4,σ[0]?=some (some (.ref a))∧H a=some (.ext (isExc a C))∧XcK K C∧kitOne K (.ref C) c1=some b1∧kitOne K (.ref C) c2=some b2∧kitOne K (.ref C) c3=some b3∧kitOne K (.ref C) c4=some b4∧∀l,H l=none→Q (.ref l) (upd H l (.lst ([b1,b2,b3,b4].map V.bl)))
theorem zS(W:WX X cs){k1 k2 k3 k4:Nat}{q:Pos}{y1 y2 y3 y4:Str}(h1:y1∈bA)(h2:y2∈bA)(h3:y3∈bA)(h4:y4∈bA):PE X (.List [eZ p k1 y1,eZ p k2 y2,eZ p k3 y3,eZ p k4 y4] q) (GF X.K (.ref (cs y1)) (.ref (cs y2)) (.ref (cs y3)) (.ref (cs y4))):=
 PE.mono (nP (aR (rZ W h1) (aR (rZ W h2) (aR (rZ W h3) (aR (rZ W h4) bU))))) fun σ H Q hh=>by
  obtain⟨a,C,b1,b2,b3,b4,e1,e2,e3,f1,f2,f3,f4,q⟩:=hh;exact⟨a,C,b1,e1,e2,e3,f1,a,C,b2,e1,e2,e3,f2,a,C,b3,e1,e2,e3,f3,a,C,b4,e1,e2,e3,f4,by show 4≤sizeLine;rw[sizeLine_eq];decide,q⟩
theorem mC{i:Nat}{y:Str}(h:bA[i]?=some y):y∈bA:=qf h
def aBO(K:uz)(cs:Str→Addr):TS:=fun D σ H=>∃a C j w,σ[0]?=some (some (.ref a))∧σ.length=2∧H a=some (.ext (isExc a C))∧XcK K C∧j<8∧(∀i y,bA[i]?=some y→kitOne K (.ref C) (.ref (cs y))=some (decide (i=j)))∧kitOne K (.ref C) (.type "ValueError")=some true∧rK[j]?=some w∧∀H',aF H H'→D.rt (.str w) H'
section
variable (p)
abbrev wS1:Stmt:=.Assign [.Name "kinds" (p 0)] (.List [eZ p 1 "NoSheet",eZ p 5 "NoFold",eZ p 9 "NoPlace",eZ p 13 "Ajar"] (p 17)) (p 18)
abbrev wS2:Stmt:=.Assign [.Name "kinds" (p 19)] (.BinOp (.Name "kinds" (p 20)) .Add (.List [eZ p 21 "Severed",eZ p 25 "Bolted",eZ p 29 "Loose",eZ p 33 "NoWord"] (p 37)) (p 38)) (p 39)
abbrev wC1:Expr:=.Call (.Attribute (.Name "kinds" (p 40)) "count" (p 41)) [.Constant (.bool true) 0 (p 42)] [] (p 43)
abbrev wC2:Expr:=.Call (.Attribute (.Name "kinds" (p 64)) "index" (p 65)) [.Constant (.bool true) 0 (p 66)] [] (p 67)
abbrev wT3:Expr:=.BoolOp .Or [.Compare (wC1 p) [.NotEq] [.Constant (.int 1) 0 (p 44)] (p 45),.UnaryOp .Not (eZ p 46 "ValueError") (p 50)] (p 51)
abbrev wL:Expr:=.List [.Constant (.str "sheet") 0 (p 55),.Constant (.str "fold") 0 (p 56),.Constant (.str "place") 0 (p 57),.Constant (.str "ajar") 0 (p 58),.Constant (.str "severed") 0 (p 59),.Constant (.str "bolted") 0 (p 60),.Constant (.str "loose") 0 (p 61),.Constant (.str "word") 0 (p 62)] (p 63)
end
theorem w1(W:WX X cs):PS X (wS1 p) (MZ (GF X.K (.ref (cs "NoSheet")) (.ref (cs "NoFold")) (.ref (cs "NoPlace")) (.ref (cs "Ajar"))) (jS 1)):=
 jW (i:=1) (by rw[W.N];decide +kernel) (by rw[W.N];rfl) (.inl W.lk) (zS W (mC (i:=0) rfl) (mC (i:=1) rfl) (mC (i:=2) rfl) (mC (i:=3) rfl)) rfl (.inr W.lk)
theorem w2(W:WX X cs):PS X (wS2 p) (MZ (iy aDk (pH 1) (GF X.K (.ref (cs "Severed")) (.ref (cs "Bolted")) (.ref (cs "Loose")) (.ref (cs "NoWord")))) (jS 1)):=
 jW (i:=1) (by rw[W.N];decide +kernel) (by rw[W.N];rfl) (.inl W.lk) (TX HV (YC W) (zS W (mC (i:=4) rfl) (mC (i:=5) rfl) (mC (i:=6) rfl) (mC (i:=7) rfl))) rfl (.inr W.lk)
theorem w3(W:WX X cs)(j5:((p 41).endLine == (p 43).line)=true):PT X (wT3 p) (tOr (GD (iy rNe (tBM X.K "list" aDi (pH 1) (iL (tC (.bl true)) GE)) (tC (.int 1)))) (aBU (tB (WA X.K (.type "ValueError"))))):=
 PW.pt (HA (zO aDt (lZ plainAttrs_list PySem.F.slot_list_count PySem.F.type_list_count ZP (YC W) (aR zV bU) rfl rfl j5) sA (IJ _)) (GZ (HF (XR (YD W)))))
def tWd:TE:=aBV (iL (tC (.str "sheet")) (iL (tC (.str "fold")) (iL (tC (.str "place")) (iL (tC (.str "ajar")) (iL (tC (.str "severed")) (iL (tC (.str "bolted")) (iL (tC (.str "loose")) (iL (tC (.str "word")) GE))))))))
theorem w4(W:WX X cs)(fi:((p 65).endLine == (p 67).line)=true):PS X (.Return (some (.Subscript (wL p) (wC2 p) (p 68))) (p 69)) (aBR (iy (WZ X.K) tWd (tBM X.K "list" aDh (pH 1) (iL (tC (.bl true)) GE)))):=
 gF (zR AE (nP (aR fM (aR fM (aR fM (aR fM (aR fM (aR fM (aR fM (aR fM bU))))))))) (lZ plainAttrs_list PySem.F.slot_list_index PySem.F.type_list_index ZO (YC W) (aR zV bU) rfl rfl fi) (fun _ _=>rfl))
end
section
variable {X:Cx}{p:Nat→Pos}{cs:Str→Addr}
theorem aHX:∀j,j<8→[decide (0=j),decide (1=j),decide (2=j),decide (3=j),decide (4=j),decide (5=j),decide (6=j),decide (7=j)].count true=1:=by decide
theorem at8:∀j,j<8→[decide (0=j),decide (1=j),decide (2=j),decide (3=j),decide (4=j),decide (5=j),decide (6=j),decide (7=j)][j]?=some true:=by decide
theorem no8:∀j,j<8→∀m,m<j→[decide (0=j),decide (1=j),decide (2=j),decide (3=j),decide (4=j),decide (5=j),decide (6=j),decide (7=j)][m]?=some false:=by decide
theorem wd8:∀j:Nat,j<8→∀w,rK[j]?=some w→L2.atI ([.str "sheet",.str "fold",.str "place",.str "ajar",.str "severed",.str "bolted",.str "loose",.str "word"]:List V) (j:Int)=some (.str w):=by
 intro j hj w hw;refine CQ ?_;have:j=0∨j=1∨j=2∨j=3∨j=4∨j=5∨j=6∨j=7:=by omega
 rcases this with rfl|rfl|rfl|rfl|rfl|rfl|rfl|rfl<;>(have oi:=qu hw;subst oi;rfl)
theorem MR(W:WX X cs)(j5:((p 41).endLine == (p 43).line)=true)(fi:((p 65).endLine == (p 67).line)=true):PSs X (nA p) (aBO X.K cs):=by
 intro pins s σ H D I hw;refine bI (w1 W) (bI (w2 W) (bI (qC (w3 W j5) (dP (gF fM)) gW) (dP (w4 W fi)))) pins s σ H D I ?_;obtain⟨a,C,j,w,e0,elen,e1,e2,hj,hk,hv,hwj,q⟩:=hw;refine⟨a,C,_,_,_,_,e0,e1,e2,hk 0 _ rfl,hk 1 _ rfl,hk 2 _ rfl,hk 3 _ rfl,fun l hl=>?_⟩
 have ne1:a≠l:=fun z=>by rw[z,hl]at e1;cases e1
 refine⟨.ref l,by rw[r8 (by omega)],?_⟩
 have a0:(σ.set 1 (some (V.ref l)))[0]?=some (some (.ref a)):=by rw[rg (by decide)];exact e0
 refine⟨a,C,_,_,_,_,a0,by rw[aG ne1];exact e1,e2,hk 4 _ rfl,hk 5 _ rfl,hk 6 _ rfl,hk 7 _ rfl,fun l2 ji=>?_⟩
 have ne2:l≠l2:=fun z=>by rw[←z,aH]at ji;cases ji
 have s1:aF H (upd H l (.lst ([decide (0=j),decide (1=j),decide (2=j),decide (3=j)].map V.bl))):=aF.upd hl
 have s2:=s1.trans (aF.upd (o:=.lst ([decide (4=j),decide (5=j),decide (6=j),decide (7=j)].map V.bl)) ji)
 refine⟨l,l2,_,_,rfl,rfl,by rw[aG ne2];exact aH,aH,?_,fun l3 hl3=>?_⟩
 ·show 4+4≤sizeLine;rw[sizeLine_eq];decide
 have n2:(((σ.set 1 (some (V.ref l))).set 1 (some (V.ref l3))))[1]?=some (some (.ref l3)):=by rw[r8 (by rw[length_set];omega)]
 have n0:(((σ.set 1 (some (V.ref l))).set 1 (some (V.ref l3))))[0]?=some (some (.ref a)):=by rw[rg (by decide)];exact a0
 have s3:=s2.trans (aF.upd (o:=.lst ([decide (0=j),decide (1=j),decide (2=j),decide (3=j),decide (4=j),decide (5=j),decide (6=j),decide (7=j)].map V.bl)) hl3)
 have ha3:=s3 _ _ e1
 refine⟨.ref l3,n2,.inl ⟨rfl,_,SqL.of aH⟩,l3,[decide (0=j),decide (1=j),decide (2=j),decide (3=j),decide (4=j),decide (5=j),decide (6=j),decide (7=j)],rfl,rfl,aH,rfl,⟨_,rfl,?_⟩⟩;refine aEC (by rw[aHX j hj];rfl) ?_
 refine⟨a,C,true,n0,ha3,e2,hv,true,rfl,?_⟩;show if false=true then _ else _
 refine jZ ?_;refine⟨by show 8≤sizeLine;rw[sizeLine_eq];decide,fun l4 ox=>?_⟩
 have ne4:l3≠l4:=fun z=>by
  rw[←z]at ox;have:(some (HO.lst ([decide (0=j),decide (1=j),decide (2=j),decide (3=j),decide (4=j),decide (5=j),decide (6=j),decide (7=j)].map V.bl)))=none:=aH.symm.trans ox
  cases this
 refine⟨.ref l3,n2,.inl ⟨rfl,_,SqL.of (by rw[aG ne4];exact aH)⟩,l3,[decide (0=j),decide (1=j),decide (2=j),decide (3=j),decide (4=j),decide (5=j),decide (6=j),decide (7=j)],j,rfl,rfl,by rw[aG ne4];exact aH,at8 j hj,no8 j hj,by omega,l4,_,_,_,rfl,rfl,SqL.of aH,wd8 j hj w hwj,q _ (s3.trans (aF.upd ox))⟩
end
theorem RF{P:v7}{w:World}{K:uz}{mg:va}{base:Heap}{x qual:Str}{st:Stmt}{f C:Addr}{fd:v3}{p:Nat→Pos}{cs:Str→Addr}{j k:Nat}{wd:Str}(F:Fun K x qual st f fd)(fs:aa ["e","kinds"] ["e"] (aB st))(hb:aL st=nA p)
  (j5:((p 41).endLine == (p 43).line)=true) (fi:((p 65).endLine == (p 67).line)=true) (h1:(aB st).names.lookup ("e":Str)=some .local) (h2:(aB st).names.lookup ("kinds":Str)=some .local)
  (h3:∀y∈("isinstance":Str) :: "ValueError" :: bA,(aB st).names.lookup y=some .globalImplicit) (mi:mg "isinstance" = none) (mv:mg "ValueError" = none) (mx:∀y∈bA,mg y=some (.ref (cs y)))
  (X:XcK K C) (hj:j<8) (hk:∀(i:Nat) (y:Str),bA[i]?=some y→kitOne K (.ref C) (.ref (cs y))=some (decide (i=j))) (hv:kitOne K (.ref C) (.type "ValueError")=some true) (hw:rK[j]?=some wd):kj P w K mg base (k+1) f fd ["e"] (mr C wd):=by
 refine aAj F fs (fun vs H Q aq=>?_) fun cd A outer s H vs Q hr aq=>⟨_,by rw[hb];exact MR (cs:=cs) ⟨rfl,h1,h2,h3 _ (by simp),h3 _ (by simp),fun y hy=>h3 y (by simp[hy]),mi,mv,mx⟩ j5 fi,?_⟩
 ·obtain⟨a,rfl,_⟩:=aq;rfl
 ·obtain⟨a,rfl,hx,q⟩:=aq;exact⟨a,C,j,wd,rfl,rfl,hx,X,hj,hk,hv,hw,q⟩
end Z
namespace Toy
open PySem PySem.Spec PyProof.Rows L2 Z
noncomputable def wB:Str→List Str:=fun c=>if c = "Pile" then ["columns","rows","wide","high","table","folds","severed"] else []
noncomputable def csts:List (Str×D):=[("MOST_CELLS",.int 64),("UPRIGHT_SIDES",.tup [.str "west",.str "east"]),("LEVEL_SIDES",.tup [.str "north",.str "south"]),("NEAR_SIDES",.tup [.str "west",.str "north"])]
noncomputable def bp:List Str:=(["LeafError","NoPlace"]:List Str)
noncomputable def WC:Str→Str→Bool:=fun k k'=>bp.contains k&&(k' == "LeafError" || k == k')
noncomputable def mj:Str→Str→Option Str:=fun f k=>if f = "_law_word_of"∧bp.contains k=true then(bA.idxOf? k).bind (rK[·]?) else none
noncomputable def m0:Nm:=⟨[],(["Pile","LeafError","NoSheet","NoFold","NoPlace","Ajar","Severed","Bolted","Loose","NoWord"]:List Str),csts.map (·.1),[]⟩
noncomputable def g0:GS:=G0 csts wB WC (fun k=>bp.contains k) mj
abbrev Rd(U:List Str)(m:Nm)(N:List Str)(st:Stmt)(i:IS):Prop:=il 60 (m.cc N (aB st) U) (aL st)=some i
abbrev Ok(U:List Str)(m:Nm)(N:List Str)(st:Stmt):Prop:=iH (m.cc N (aB st) U) (aB st)=true
theorem sK{N P:List Str}{sc:Scope}(a:sc.kind=.function:=by rfl)(b:sc.isCoroutine=false:=by rfl)(c:sc.isGenerator=false:=by rfl)(d:N.Nodup:=by decide +kernel)(e:N.take P.length=P:=by rfl)(f:∀x∈P,sc.names.lookup x=some .local∨sc.names.lookup x=some .cell:=by decide +kernel)(h:∀y∈sc.names,y.2≠.free:=by decide +kernel):aa N P sc:=⟨a,b,c,d,e,f,h⟩
noncomputable def fD(k:Nat)(g:GS)(n:Nat)(i:IS)(ds:List D):Option Rs:=if ds.length=k then aS g n i ds else none
theorem dG{k:Nat}{g:GS}{n:Nat}{i:IS}{ds:List D}(h:ds.length=k):fD k g n i ds=aS g n i ds:=if_pos h
noncomputable def vX:List (Str×IE):=[("columns",.var 1),("rows",.var 2),("wide",.bcall .len (.cons (.ix (.var 3) (.lit (.int 0))) .nil)),("high",.bcall .len (.cons (.var 3) .nil)),("table",.var 3),("folds",.var 4),("severed",.var 5)]
theorem aDg:qW 60 (m0.cc (["self","columns","rows","table","folds","severed"]:List Str) (aB (L2.inClass (top 15) 0)) []) (aL (L2.inClass (top 15) 0))=some vX:=by kernel_rfl
noncomputable def JV(ds:List D):Option Rs:=if ds.length+1=6 then DP g0 "Pile" 6 vX ds else none
noncomputable def g1:GS:=g0.addC "Pile" JV
noncomputable def m1:Nm:=m0
noncomputable def CU:List Str:=(["self","x","y"]:List Str)
abbrev LI:List Str:=CU
theorem aCL:Rd ([]:List Str) m1 CU (L2.inClass (top 15) 1) Pg.sR:=by kernel_rfl
theorem aCf:aa CU LI (aB (L2.inClass (top 15) 1)):=sK
theorem aDI:Ok ([]:List Str) m1 CU (L2.inClass (top 15) 1):=by decide +kernel
noncomputable def oM:=fD 3 g1 3 Pg.sR
theorem aBt{ds:List D}:ds.length=3→oM ds=aS g1 3 Pg.sR ds:=dG
noncomputable def g2:GS:=g1.addM "Pile" "heap" oM true
noncomputable def m2:Nm:=m1.addM "heap" true
noncomputable def CT:List Str:=(["self"]:List Str)
abbrev LH:List Str:=CT
theorem aCK:Rd ([]:List Str) m2 CT (L2.inClass (top 15) 2) Pg.sS:=by kernel_rfl
theorem aCe:aa CT LH (aB (L2.inClass (top 15) 2)):=sK
theorem aDH:Ok ([]:List Str) m2 CT (L2.inClass (top 15) 2):=by decide +kernel
noncomputable def wF:=fD 1 g2 1 Pg.sS
theorem aBs{ds:List D}:ds.length=1→wF ds=aS g2 1 Pg.sS ds:=dG
noncomputable def g3:GS:=g2.addM "Pile" "done" wF true
noncomputable def m3:Nm:=m2.addM "done" true
noncomputable def CY:List Str:=(["columns","y"]:List Str)
abbrev LM:List Str:=CY
theorem aCP:Rd ([]:List Str) m3 CY (top 17) Pg.hZ:=by kernel_rfl
theorem aCk:aa CY LM (aB (top 17)):=sK
theorem aDN:Ok ([]:List Str) m3 CY (top 17):=by decide +kernel
noncomputable def BG:=fD 2 g3 2 Pg.hZ
theorem aBy{ds:List D}:ds.length=2→BG ds=aS g3 2 Pg.hZ ds:=dG
noncomputable def g4:GS:=g3.addF "laid_row" BG false
noncomputable def m4:Nm:=m3.addF "laid_row" false
noncomputable def MC:List Str:=(["columns","rows","table"]:List Str)
noncomputable def LG:List Str:=(["columns","rows"]:List Str)
theorem aCJ:Rd ([]:List Str) m4 MC (top 16) Pg.sQ:=by kernel_rfl
theorem aCd:aa MC LG (aB (top 16)):=sK
theorem aDG:Ok ([]:List Str) m4 MC (top 16):=by decide +kernel
noncomputable def BC:=fD 2 g4 3 Pg.sQ
theorem aBr{ds:List D}:ds.length=2→BC ds=aS g4 3 Pg.sQ ds:=dG
noncomputable def g5:GS:=g4.addF "laid" BC false
noncomputable def m5:Nm:=m4.addF "laid" false
noncomputable def CW:List Str:=(["part","k"]:List Str)
abbrev LL:List Str:=CW
theorem aCO:Rd ([]:List Str) m5 CW (top 28) Pg.jM:=by kernel_rfl
theorem aCj:aa CW LL (aB (top 28)):=sK
theorem aDM:Ok ([]:List Str) m5 CW (top 28):=by decide +kernel
noncomputable def BE:=fD 2 g5 2 Pg.jM
theorem aBx{ds:List D}:ds.length=2→BE ds=aS g5 2 Pg.jM ds:=dG
noncomputable def g6:GS:=g5.addF "heap_at" BE false
noncomputable def m6:Nm:=m5.addF "heap_at" false
noncomputable def aAZ:List Str:=(["moving","staying","over","upper","lower","longer"]:List Str)
noncomputable def aAP:List Str:=(["moving","staying","over"]:List Str)
theorem aHm:Rd ([]:List Str) m6 aAZ (top 27) Pg.cY:=by kernel_rfl
theorem aGZ:aa aAZ aAP (aB (top 27)):=sK
theorem aHC:Ok ([]:List Str) m6 aAZ (top 27):=by decide +kernel
noncomputable def RN:=fD 3 g6 6 Pg.cY
theorem aGJ{ds:List D}:ds.length=3→RN ds=aS g6 6 Pg.cY ds:=dG
noncomputable def g7:GS:=g6.addF "laid_together" RN false
noncomputable def m7:Nm:=m6.addF "laid_together" false
noncomputable def DF:List Str:=(["heap","side"]:List Str)
abbrev LY:List Str:=DF
theorem aDa:Rd ([]:List Str) m7 DF (top 26) Pg.eM:=by kernel_rfl
theorem aCv:aa DF LY (aB (top 26)):=sK
theorem aDY:Ok ([]:List Str) m7 DF (top 26):=by decide +kernel
noncomputable def BR:=fD 2 g7 2 Pg.eM
theorem aBJ{ds:List D}:ds.length=2→BR ds=aS g7 2 Pg.eM ds:=dG
noncomputable def g8:GS:=g7.addF "turned_heap" BR false
noncomputable def m8:Nm:=m7.addF "turned_heap" false
noncomputable def DE:List Str:=(["part","side"]:List Str)
abbrev LX:List Str:=DE
theorem aCZ:Rd ([]:List Str) m8 DE (top 25) Pg.eL:=by kernel_rfl
theorem aCu:aa DE LX (aB (top 25)):=sK
theorem aDX:Ok ([]:List Str) m8 DE (top 25):=by decide +kernel
noncomputable def BQ:=fD 2 g8 2 Pg.eL
theorem aBI{ds:List D}:ds.length=2→BQ ds=aS g8 2 Pg.eL ds:=dG
noncomputable def g9:GS:=g8.addF "turned_part" BQ false
noncomputable def m9:Nm:=m8.addF "turned_part" false
noncomputable def aAV:List Str:=(["strip","side","over","crease","before","behind","outward"]:List Str)
noncomputable def aAL:List Str:=(["strip","side","over","crease"]:List Str)
theorem aHi:Rd ([]:List Str) m9 aAV (top 24) Pg.dY:=by kernel_rfl
theorem aGV:aa aAV aAL (aB (top 24)):=sK
theorem aHy:Ok ([]:List Str) m9 aAV (top 24):=by decide +kernel
noncomputable def RK:=fD 4 g9 7 Pg.dY
theorem aGF{ds:List D}:ds.length=4→RK ds=aS g9 7 Pg.dY ds:=dG
noncomputable def g10:GS:=g9.addF "folded_strip" RK false
noncomputable def m10:Nm:=m9.addF "folded_strip" false
noncomputable def CZ:List Str:=(["table","x"]:List Str)
abbrev LN:List Str:=CZ
theorem aCQ:Rd ([]:List Str) m10 CZ (top 23) Pg.fZ:=by kernel_rfl
theorem aCl:aa CZ LN (aB (top 23)):=sK
theorem aDO:Ok ([]:List Str) m10 CZ (top 23):=by decide +kernel
noncomputable def BH:=fD 2 g10 2 Pg.fZ
theorem aBz{ds:List D}:ds.length=2→BH ds=aS g10 2 Pg.fZ ds:=dG
noncomputable def p0:GS:=g10.addF "column_of" BH false
noncomputable def m11:Nm:=m10.addF "column_of" false
noncomputable def DC:List Str:=(["table"]:List Str)
abbrev LS:List Str:=DC
theorem aCV:Rd ([]:List Str) m11 DC (top 22) Pg.fA:=by kernel_rfl
theorem aCq:aa DC LS (aB (top 22)):=sK
theorem aDT:Ok ([]:List Str) m11 DC (top 22):=by decide +kernel
noncomputable def BM:=fD 1 p0 1 Pg.fA
theorem aBE{ds:List D}:ds.length=1→BM ds=aS p0 1 Pg.fA ds:=dG
noncomputable def l7:GS:=p0.addF "transposed" BM false
noncomputable def m12:Nm:=m11.addF "transposed" false
noncomputable def aAW:List Str:=(["table","side","over","crease","strips"]:List Str)
noncomputable def aAM:List Str:=(["table","side","over","crease"]:List Str)
theorem aHj:Rd ([]:List Str) m12 aAW (top 21) Pg.dX:=by kernel_rfl
theorem aGW:aa aAW aAM (aB (top 21)):=sK
theorem aHz:Ok ([]:List Str) m12 aAW (top 21):=by decide +kernel
noncomputable def RL:=fD 4 l7 5 Pg.dX
theorem aGG{ds:List D}:ds.length=4→RL ds=aS l7 5 Pg.dX ds:=dG
noncomputable def g13:GS:=l7.addF "folded_table" RL false
noncomputable def m13:Nm:=m12.addF "folded_table" false
noncomputable def DB:List Str:=(["pile","side","crease"]:List Str)
abbrev LR:List Str:=DB
theorem aCU:Rd ([]:List Str) m13 DB (top 20) Pg.fC:=by kernel_rfl
theorem aCp:aa DB LR (aB (top 20)):=sK
theorem aDS:Ok ([]:List Str) m13 DB (top 20):=by decide +kernel
noncomputable def BL:=fD 3 g13 3 Pg.fC
theorem aBD{ds:List D}:ds.length=3→BL ds=aS g13 3 Pg.fC ds:=dG
noncomputable def g14:GS:=g13.addF "has_crease" BL false
noncomputable def m14:Nm:=m13.addF "has_crease" false
noncomputable def SW:List Str:=(["pile"]:List Str)
abbrev aAQ:List Str:=SW
theorem aHn:Rd ([]:List Str) m14 SW (top 19) Pg.cR:=by kernel_rfl
theorem aHa:aa SW aAQ (aB (top 19)):=sK
theorem aHD:Ok ([]:List Str) m14 SW (top 19):=by decide +kernel
noncomputable def RO:=fD 1 g14 1 Pg.cR
theorem aGK{ds:List D}:ds.length=1→RO ds=aS g14 1 Pg.cR ds:=dG
noncomputable def kb:GS:=g14.addF "refuse_severed" RO false
noncomputable def m15:Nm:=m14.addF "refuse_severed" false
noncomputable def MD:List Str:=(["pile","side","over","crease","table","folds"]:List Str)
noncomputable def LJ:List Str:=(["pile","side","over","crease"]:List Str)
theorem aCM:Rd ([]:List Str) m15 MD (top 18) Pg.kP:=by kernel_rfl
theorem aCg:aa MD LJ (aB (top 18)):=sK
theorem aDJ:Ok ([]:List Str) m15 MD (top 18):=by decide +kernel
noncomputable def BD:=fD 4 kb 6 Pg.kP
theorem aBu{ds:List D}:ds.length=4→BD ds=aS kb 6 Pg.kP ds:=dG
noncomputable def l6:GS:=kb.addF "folded" BD false
noncomputable def m16:Nm:=m15.addF "folded" false
noncomputable def MF:List Str:=(["pile","lines","y","x","cell","east","north"]:List Str)
noncomputable def LP:List Str:=(["pile"]:List Str)
theorem aCS:Rd (["lines"]:List Str) m16 MF (top 33) Pg.fE:=by kernel_rfl
theorem aCn:aa MF LP (aB (top 33)):=sK
theorem aDQ:Ok (["lines"]:List Str) m16 MF (top 33):=by decide +kernel
noncomputable def BJ:=fD 1 l6 7 Pg.fE
theorem aBB{ds:List D}:ds.length=1→BJ ds=aS l6 7 Pg.fE ds:=dG
noncomputable def g17:GS:=l6.addF "edge_lines" BJ false
noncomputable def m17:Nm:=m16.addF "edge_lines" false
noncomputable def ME:List Str:=(["columns","rows","cells","found","cell"]:List Str)
noncomputable def LO:List Str:=(["columns","rows"]:List Str)
theorem aCR:Rd (["found"]:List Str) m17 ME (top 32) Pg.fB:=by kernel_rfl
theorem aCm:aa ME LO (aB (top 32)):=sK
theorem aDP:Ok (["found"]:List Str) m17 ME (top 32):=by decide +kernel
noncomputable def BI:=fD 2 g17 5 Pg.fB
theorem aBA{ds:List D}:ds.length=2→BI ds=aS g17 5 Pg.fB ds:=dG
noncomputable def l5:GS:=g17.addF "neighbours" BI false
noncomputable def m18:Nm:=m17.addF "neighbours" false
noncomputable def MH:List Str:=(["pile","lines","found","first","second","level"]:List Str)
noncomputable def LV:List Str:=(["pile"]:List Str)
theorem aCX:Rd (["found"]:List Str) m18 MH (top 31) Pg.fF:=by kernel_rfl
theorem aCs:aa MH LV (aB (top 31)):=sK
theorem aDV:Ok (["found"]:List Str) m18 MH (top 31):=by decide +kernel
noncomputable def BO:=fD 1 l5 6 Pg.fF
theorem aBG{ds:List D}:ds.length=1→BO ds=aS l5 6 Pg.fF ds:=dG
noncomputable def pz:GS:=l5.addF "all_joints" BO false
noncomputable def m19:Nm:=m18.addF "all_joints" false
noncomputable def CV:List Str:=(["pile"]:List Str)
abbrev LK:List Str:=CV
theorem aCN:Rd ([]:List Str) m19 CV (top 30) Pg.kO:=by kernel_rfl
theorem aCi:aa CV LK (aB (top 30)):=sK
theorem aDL:Ok ([]:List Str) m19 CV (top 30):=by decide +kernel
noncomputable def oO:=fD 1 pz 1 Pg.kO
theorem aBw{ds:List D}:ds.length=1→oO ds=aS pz 1 Pg.kO ds:=dG
noncomputable def pq:GS:=pz.addF "joints" oO true
noncomputable def m20:Nm:=m19.addF "joints" true
noncomputable def MB:List Str:=(["pile","level","number","last","parted"]:List Str)
noncomputable def LF:List Str:=(["pile","level","number"]:List Str)
theorem aCI:Rd ([]:List Str) m20 MB (top 34) Pg.vW:=by kernel_rfl
theorem aCc:aa MB LF (aB (top 34)):=sK
theorem aDF:Ok ([]:List Str) m20 MB (top 34):=by decide +kernel
noncomputable def wD:=fD 3 pq 5 Pg.vW
theorem TC{ds:List D}:ds.length=3→wD ds=aS pq 5 Pg.vW ds:=dG
noncomputable def g21:GS:=pq.addF "cut" wD false
noncomputable def m21:Nm:=m20.addF "cut" false
noncomputable def aAY:List Str:=(["least","one","other","lesser","greater"]:List Str)
noncomputable def aAO:List Str:=(["least","one","other"]:List Str)
theorem aHl:Rd ([]:List Str) m21 aAY (top 36) Gp.i_hung:=by kernel_rfl
theorem aGY:aa aAY aAO (aB (top 36)):=sK
theorem aHB:Ok ([]:List Str) m21 aAY (top 36):=by decide +kernel
noncomputable def RM:=fD 3 g21 5 Gp.i_hung
theorem aGI{ds:List D}:ds.length=3→RM ds=aS g21 5 Gp.i_hung ds:=dG
noncomputable def gq:GS:=g21.addF "hung_together" RM false
noncomputable def jh:Nm:=m21.addF "hung_together" false
noncomputable def rF:List Str:=(["pile","least","joint","groups","cell","head"]:List Str)
abbrev pC:List Str:=(["pile"]:List Str)
theorem aCh:aa rF pC (aB (top 35)):=sK
theorem aDK:Ok (["groups"]:List Str) jh rF (top 35):=by decide +kernel
noncomputable def TZ:Nat→Pos:=fun i=>([⟨131,8,131,12⟩,⟨131,14,131,18⟩,⟨131,8,131,18⟩,⟨131,22,131,31⟩,⟨131,32,131,37⟩,⟨131,22,131,38⟩,⟨132,8,132,14⟩,⟨132,8,132,25⟩,⟨132,26,132,30⟩,⟨132,32,132,34⟩,⟨132,8,132,35⟩,⟨132,8,132,42⟩,⟨132,43,132,47⟩,⟨132,8,132,48⟩,⟨132,8,132,48⟩,⟨131,4,132,48⟩,⟨133,11,133,15⟩,⟨133,16,133,22⟩,⟨133,16,133,29⟩,⟨133,16,133,31⟩,⟨133,11,133,32⟩,⟨133,4,133,32⟩]:List Pos).getD i ⟨0,0,0,0⟩
theorem PF:aL (top 35)=stN (aL (top 35)) 0::stN (aL (top 35)) 1::stN (aL (top 35)) 2::sD TZ:=by rfl
theorem aDs:cS 60 (jh.cc rF (aB (top 35)) (["groups"]:List Str)) (stN (aL (top 35)) 0)=some K11.pc1:=by kernel_rfl
theorem aDr:cS 60 (jh.cc rF (aB (top 35)) (["groups"]:List Str)) (stN (aL (top 35)) 1)=some K11.pc2:=by kernel_rfl
theorem aDq:cS 60 (jh.cc rF (aB (top 35)) (["groups"]:List Str)) (stN (aL (top 35)) 2)=some (.setd 3):=by kernel_rfl
theorem aHs:p7 (jh.cc rF (aB (top 35)) (["groups"]:List Str)) TZ:=⟨by kernel_rfl,by kernel_rfl,by kernel_rfl,by kernel_rfl,by kernel_rfl,by decide +kernel,by decide +kernel,by decide +kernel,by decide +kernel,by decide +kernel,by decide +kernel,by decide +kernel,by decide +kernel,by decide +kernel⟩
noncomputable def JW:=pcD gq K11.pc1 K11.pc2
theorem aBv{d:D}:JW [d]=(dO gq K11.pc1 K11.pc2 [d]).map fun gs=>.ok (.lst (gs.map bz)):=rfl
noncomputable def pj:GS:=gq.addF "pieces" JW false
noncomputable def nu:Nm:=jh.addF "pieces" false
noncomputable def DG:List Str:=(["script","k"]:List Str)
abbrev LZ:List Str:=DG
theorem aDb:Rd ([]:List Str) nu DG (top 38) Pg.jN:=by kernel_rfl
theorem aCw:aa DG LZ (aB (top 38)):=sK
theorem aDZ:Ok ([]:List Str) nu DG (top 38):=by decide +kernel
noncomputable def BS:=fD 2 pj 2 Pg.jN
theorem aBK{ds:List D}:ds.length=2→BS ds=aS pj 2 Pg.jN ds:=dG
noncomputable def g24:GS:=pj.addF "_law_cell_at" BS false
noncomputable def m24:Nm:=nu.addF "_law_cell_at" false
noncomputable def DA:List Str:=(["found"]:List Str)
abbrev LQ:List Str:=DA
theorem aCT:Rd ([]:List Str) m24 DA (top 39) Pg.mT:=by kernel_rfl
theorem aCo:aa DA LQ (aB (top 39)):=sK
theorem aDR:Ok ([]:List Str) m24 DA (top 39):=by decide +kernel
noncomputable def BK:=fD 1 g24 1 Pg.mT
theorem aBC{ds:List D}:ds.length=1→BK ds=aS g24 1 Pg.mT ds:=dG
noncomputable def g25:GS:=g24.addF "_law_whole" BK false
noncomputable def m25:Nm:=m24.addF "_law_whole" false
noncomputable def aAX:List Str:=(["cell","way","more"]:List Str)
noncomputable def aAN:List Str:=(["cell"]:List Str)
theorem aHk:Rd ([]:List Str) m25 aAX (top 40) Pg.fQ:=by kernel_rfl
theorem aGX:aa aAX aAN (aB (top 40)):=sK
theorem aHA:Ok ([]:List Str) m25 aAX (top 40):=by decide +kernel
noncomputable def aAn:=fD 1 g25 3 Pg.fQ
theorem aGH{ds:List D}:ds.length=1→aAn ds=aS g25 3 Pg.fQ ds:=dG
noncomputable def ph:GS:=g25.addF "_law_sheet_by" aAn false
noncomputable def m26:Nm:=m25.addF "_law_sheet_by" false
noncomputable def aAU:List Str:=(["cell","wide","high","level","extent","sides"]:List Str)
noncomputable def aAK:List Str:=(["cell","wide","high"]:List Str)
theorem aHh:Rd ([]:List Str) m26 aAU (top 41) Pg.gR:=by kernel_rfl
theorem aGU:aa aAU aAK (aB (top 41)):=sK
theorem aHx:Ok ([]:List Str) m26 aAU (top 41):=by decide +kernel
noncomputable def RJ:=fD 3 ph 6 Pg.gR
theorem aGE{ds:List D}:ds.length=3→RJ ds=aS ph 6 Pg.gR ds:=dG
noncomputable def g27:GS:=ph.addF "_law_fold_by" RJ false
noncomputable def m27:Nm:=m26.addF "_law_fold_by" false
noncomputable def MI:List Str:=(["count","ties","k","names","moved","first","second","out"]:List Str)
noncomputable def LW:List Str:=(["count","ties"]:List Str)
theorem aCY:Rd (["names","out"]:List Str) m27 MI (top 42) Gp.i_groups:=by kernel_rfl
theorem aCt:aa MI LW (aB (top 42)):=sK
theorem aDW:Ok (["names","out"]:List Str) m27 MI (top 42):=by decide +kernel
noncomputable def BP:=fD 2 g27 8 Gp.i_groups
theorem aBH{ds:List D}:ds.length=2→BP ds=aS g27 8 Gp.i_groups ds:=dG
noncomputable def oN:GS:=g27.addF "_law_groups" BP false
noncomputable def m28:Nm:=m27.addF "_law_groups" false
noncomputable def MJ:List Str:=(["pile","level","line","e"]:List Str)
noncomputable def MA:List Str:=(["pile","level","line"]:List Str)
theorem aDc:Rd ([]:List Str) m28 MJ (top 44) K11.sP:=by kernel_rfl
theorem aCx:aa MJ MA (aB (top 44)):=sK
theorem aEa:Ok ([]:List Str) m28 MJ (top 44):=by decide +kernel
noncomputable def BU:=fD 3 oN 4 K11.sP
theorem aBL{ds:List D}:ds.length=3→BU ds=aS oN 4 K11.sP ds:=dG
noncomputable def o9:GS:=oN.addF "_law_refused" BU false
noncomputable def m29:Nm:=m28.addF "_law_refused" false
noncomputable def SX:List Str:=(["pile"]:List Str)
abbrev aAR:List Str:=SX
theorem aHo:Rd ([]:List Str) m29 SX (top 45) K11.mV:=by kernel_rfl
theorem aHb:aa SX aAR (aB (top 45)):=sK
theorem aHE:Ok ([]:List Str) m29 SX (top 45):=by decide +kernel
noncomputable def RP:=fD 1 o9 1 K11.mV
theorem aGL{ds:List D}:ds.length=1→RP ds=aS o9 1 K11.mV ds:=dG
noncomputable def jm:GS:=o9.addF "_law_heaps_told" RP false
noncomputable def nt:Nm:=m29.addF "_law_heaps_told" false
noncomputable def aBa:List Str:=(["pile","left","count","found","one","part","due"]:List Str)
abbrev SU:List Str:=(["pile","left","count"]:List Str)
theorem aHc:aa aBa SU (aB (top 46)):=sK
theorem aHF:Ok ([]:List Str) nt aBa (top 46):=by decide +kernel
noncomputable def UM:Nat→Pos:=fun i=>([⟨192,4,192,9⟩,⟨192,12,192,18⟩,⟨192,19,192,23⟩,⟨192,12,192,24⟩,⟨192,4,192,24⟩,⟨195,8,195,11⟩,⟨195,15,195,20⟩,⟨198,12,198,16⟩,⟨198,20,198,23⟩,⟨201,4,201,7⟩,⟨201,4,201,64⟩,⟨0,0,0,0⟩,⟨0,0,0,0⟩,⟨0,0,0,0⟩,⟨0,0,0,0⟩,⟨204,4,204,9⟩,⟨204,10,204,11⟩,⟨204,4,204,12⟩,⟨204,4,204,19⟩,⟨204,20,204,25⟩,⟨204,4,204,26⟩,⟨204,4,204,26⟩,⟨205,4,205,9⟩,⟨205,4,205,16⟩,⟨205,17,205,19⟩,⟨205,4,205,20⟩,⟨205,4,205,20⟩,⟨193,4,194,20⟩,⟨196,8,197,24⟩,⟨199,12,200,28⟩,⟨198,8,200,28⟩,⟨195,4,200,28⟩,⟨202,4,203,20⟩,⟨206,4,206,30⟩]:List Pos).getD i ⟨0,0,0,0⟩
noncomputable def aET:Expr:=(ifT (stN (aL (top 46)) 1))
noncomputable def aES:Expr:=(ifT (stN (EU (stN (aL (top 46)) 2)) 0))
noncomputable def aER:Expr:=(ifT (stN (EU (stN (EU (stN (aL (top 46)) 2)) 1)) 0))
noncomputable def aEQ:Expr:=(aIk (stN (aL (top 46)) 3))
noncomputable def aEP:Expr:=(ifT (stN (aL (top 46)) 4))
noncomputable def aEO:Expr:=(aHe (stN (aL (top 46)) 7))
noncomputable def aHT:List Stmt:=(ifB (stN (aL (top 46)) 1))
noncomputable def aHS:List Stmt:=(ifB (stN (EU (stN (aL (top 46)) 2)) 0))
noncomputable def aHR:List Stmt:=(ifB (stN (EU (stN (EU (stN (aL (top 46)) 2)) 1)) 0))
noncomputable def aHQ:List Stmt:=(ifB (stN (aL (top 46)) 4))
theorem RB:aL (top 46)=sU aET aES aER aEQ aEP aEO aHT aHS aHR aHQ UM:=by rfl
theorem aHP:kg (nt.cc aBa (aB (top 46)) ([]:List Str)) 60 aET aES aER aEQ aEP aEO UM:=⟨by kernel_rfl,by kernel_rfl,by kernel_rfl,by kernel_rfl,by kernel_rfl,by kernel_rfl,by kernel_rfl,by kernel_rfl,by decide +kernel,by kernel_rfl,by kernel_rfl,by kernel_rfl,by kernel_rfl,by kernel_rfl,by kernel_rfl,by kernel_rfl,by decide +kernel,by decide +kernel⟩
noncomputable def JX:=ig jm (dO gq K11.pc1 K11.pc2)
theorem aGM{ds:List D}:JX ds=ig jm (dO gq K11.pc1 K11.pc2) ds:=rfl
noncomputable def fq:GS:=jm.addF "_law_groups_told" JX false
noncomputable def nq:Nm:=nt.addF "_law_groups_told" false
noncomputable def MG:List Str:=(["pile","left","cell","count","level","last","line","far","due","told","behind"]:List Str)
noncomputable def LU:List Str:=(["pile","left","cell","count"]:List Str)
theorem aCW:Rd (["told"]:List Str) nq MG (top 47) K11.mU:=by kernel_rfl
theorem aCr:aa MG LU (aB (top 47)):=sK
theorem aDU:Ok (["told"]:List Str) nq MG (top 47):=by decide +kernel
noncomputable def BN:=fD 4 fq 11 K11.mU
theorem aBF{ds:List D}:ds.length=4→BN ds=aS fq 11 K11.mU ds:=dG
noncomputable def eu:GS:=fq.addF "_law_knife" BN false
noncomputable def nj:Nm:=nq.addF "_law_knife" false
noncomputable def CS:List Str:=(["script","columns","rows","pile","cell","fold","left","found"]:List Str)
noncomputable def rE:List Str:=(["script"]:List Str)
theorem aCH:Rd ([]:List Str) nj CS (top 48) K11.AL:=by kernel_rfl
theorem aCb:aa CS rE (aB (top 48)):=sK
theorem aDE:Ok ([]:List Str) nj CS (top 48):=by decide +kernel
noncomputable def wC:=fD 1 eu 8 K11.AL
theorem TB{ds:List D}:ds.length=1→wC ds=aS eu 8 K11.AL ds:=dG
noncomputable def tx(C:Addr)(cs:Str→Addr):Tx:=⟨fun x=>if x = "Pile" then some C else none,fun x=>if bp.contains x=true then some (cs x) else none⟩
theorem zE(C:Addr)(cs:Str→Addr):(tx C cs).cl "Pile" = some C:=by
 unfold tx;simp only[if_true]
theorem TF{C:Addr}{cs:Str→Addr}{cn:Str}{C':Addr}(h:(tx C cs).cl cn=some C'):cn = "Pile"∧C'=C:=by
 unfold tx at h;dsimp only at h;split at h
 ·rename_i e;cases h;exact⟨e,rfl⟩
 ·cases h
theorem uW{C:Addr}{cs:Str→Addr}{k:Str}{C':Addr}(h:(tx C cs).xc k=some C'):bp.contains k=true∧C'=cs k:=by
 unfold tx at h;dsimp only at h;split at h
 ·rename_i e;cases h;exact⟨e,rfl⟩
 ·cases h
structure Df (K:uz) (mg:va) (x:Str) (st:Stmt) (ps:List Str) (f:Addr) (fd:v3):Prop where
 fn:Fun K x x st f fd
 at_:mg x=some (.ref f)
 bd:Binds K fd ps []
structure Mt (K:uz) (C:Addr) (x qual:Str) (st:Stmt) (ps:List Str) (f:Addr) (fd:v3):Prop where
 fn:Fun K x qual st f fd
 at_:gy K C x f
 bd:Binds K fd ps []
section
variable {P:v7}{w:World}{K:uz}{mg:va}{base:Heap}{C:Addr}{cs:Str→Addr}
abbrev MO(P:v7)(w:World)(K:uz)(mg:va)(base:Heap)(C:Addr)(cs:Str→Addr)(m:Nm)(g:GS)(k:Nat):Prop:=MOk P w K mg base (bP P w) m g (tx C cs) k
noncomputable def aGD:Nat→Pos:=fun i=>([⟨178,4,178,9⟩,⟨178,13,178,23⟩,⟨178,24,178,25⟩,⟨178,27,178,34⟩,⟨178,13,178,35⟩,⟨178,37,178,47⟩,⟨178,48,178,49⟩,⟨178,51,178,57⟩,⟨178,37,178,58⟩,⟨178,60,178,70⟩,⟨178,71,178,72⟩,⟨178,74,178,81⟩,⟨178,60,178,82⟩,⟨178,84,178,94⟩,⟨178,95,178,96⟩,⟨178,98,178,102⟩,⟨178,84,178,103⟩,⟨178,12,178,104⟩,⟨178,4,178,104⟩,⟨179,4,179,9⟩,⟨179,12,179,17⟩,⟨179,21,179,31⟩,⟨179,32,179,33⟩,⟨179,35,179,42⟩,⟨179,21,179,43⟩,⟨179,45,179,55⟩,⟨179,56,179,57⟩,⟨179,59,179,65⟩,⟨179,45,179,66⟩,⟨179,68,179,78⟩,⟨179,79,179,80⟩,⟨179,82,179,87⟩,⟨179,68,179,88⟩,⟨179,90,179,100⟩,⟨179,101,179,102⟩,⟨179,104,179,110⟩,⟨179,90,179,111⟩,⟨179,20,179,112⟩,⟨179,12,179,112⟩,⟨179,4,179,112⟩,⟨180,7,180,12⟩,⟨180,7,180,18⟩,⟨180,19,180,23⟩,⟨180,7,180,24⟩,⟨180,28,180,29⟩,⟨180,7,180,29⟩,⟨180,37,180,47⟩,⟨180,48,180,49⟩,⟨180,51,180,61⟩,⟨180,37,180,62⟩,⟨180,33,180,62⟩,⟨180,7,180,62⟩,⟨181,15,181,22⟩,⟨181,8,181,22⟩,⟨180,4,181,22⟩,⟨182,12,182,19⟩,⟨182,21,182,27⟩,⟨182,29,182,36⟩,⟨182,38,182,44⟩,⟨182,46,182,55⟩,⟨182,57,182,65⟩,⟨182,67,182,74⟩,⟨182,76,182,82⟩,⟨182,11,182,83⟩,⟨182,84,182,89⟩,⟨182,84,182,95⟩,⟨182,96,182,100⟩,⟨182,84,182,101⟩,⟨182,11,182,102⟩,⟨182,4,182,102⟩]:List Pos).getD i ⟨0,0,0,0⟩
theorem VU:aL (top 43)=nA aGD:=by rfl
theorem MT:aa ["e","kinds"] ["e"] (aB (top 43)):=sK
theorem VT:∀y∈("isinstance":Str) :: "ValueError" :: bA,(aB (top 43)).names.lookup y=some .globalImplicit:=by
 have:(("isinstance":Str) :: "ValueError" :: bA).all (fun y=>(aB (top 43)).names.lookup y == some .globalImplicit)=true:=by decide +kernel
 intro y hy;exact su.mp (all_eq_true.mp this y hy)
theorem aGC{f:Addr}{fd:v3}(F:Df K mg "_law_word_of" (top 43) ["e"] f fd)(mi:mg "isinstance" = none)(mv:mg "ValueError" = none)(mx:∀y∈bA,mg y=some (.ref (cs y)))(hX:∀k,bp.contains k=true→∀(j:Nat),bA.idxOf? k=some j→XcK K (cs k))
  (hk:∀k,bp.contains k=true→∀(j:Nat),bA.idxOf? k=some j→∀(i:Nat) (y:Str),bA[i]?=some y→kitOne K (.ref (cs k)) (.ref (cs y))=some (decide (i=j))) (hv:∀k,bp.contains k=true→∀(j:Nat),bA.idxOf? k=some j→kitOne K (.ref (cs k)) (.type "ValueError")=some true) :
  ∀g k x C',(tx C cs).xc k=some C'→mj g k=some x→∃fa fd ps j,j≤1∧mg g=some (.ref fa)∧keepIn K (.ref fa)=true∧Binds K fd ps []∧kj P w K mg base j fa fd ps (mr C' x):=by
 intro g k x C' h1 h2;obtain⟨oy,rfl⟩:=uW h1;unfold mj at h2;split at h2
 ·rename_i hc;obtain⟨rfl,_⟩:=hc;obtain⟨j,hj,hw⟩:=qg.mp h2;refine⟨f,fd,["e"],1,qk 1,F.at_,F.fn.kp,F.bd,RF (cs:=cs) (j:=j) F.fn MT VU (by decide) (by decide) (by decide +kernel) (by decide +kernel) VT mi mv mx (hX k oy j hj) ?_ (hk k oy j hj) (hv k oy j hj) hw⟩
  have:=(q9.mp hw).1
  exact this
 ·cases h2
theorem mk0(hc:∀x d,csts.lookup x=some d→xA K (tx C cs) mg x d)(ar:Cls K C)(fm:∀f,(wB "Pile").contains f=true→dZ K C f)(hbi:∀x,fH.contains x=true→mg x=none)(hx:∀k,bp.contains k=true→mg k=some (.ref (cs k)))(oa:∀k,bp.contains k=true→excIn K (cs k) d6 "ValueError.__new__" = true)
  (mM:∀k k',bp.contains k=true→bp.contains k'=true→WC k k'=true→fO K (cs k) (.ref (cs k'))=true) (hwd:∀g k x C',(tx C cs).xc k=some C'→mj g k=some x→∃fa fd ps j,j≤1∧mg g=some (.ref fa)∧keepIn K (.ref fa)=true∧Binds K fd ps []∧kj P w K mg base j fa fd ps (mr C' x)):MO P w K mg base C cs m0 g0 1:=
 aHJ hc (fun cn C' h=>by obtain⟨_,rfl⟩:=TF h;exact ar) (fun cn C' f h hf=>by obtain⟨rfl,rfl⟩:=TF h;exact fm f hf) hbi (fun k C' h=>by obtain⟨h1,rfl⟩:=uW h;exact hx k h1) (fun k h=>⟨cs k,if_pos h⟩) (fun k C' h=>by obtain⟨h1,rfl⟩:=uW h;exact oa k h1)
  (fun k k' C1 C2 a b h=>by obtain⟨h1,rfl⟩:=uW a;obtain⟨h2,rfl⟩:=uW b;exact mM k k' h1 h2 h) hwd
theorem aCy:aa (["self","columns","rows","table","folds","severed"]:List Str) (["self","columns","rows","table","folds","severed"]:List Str) (aB (L2.inClass (top 15) 0)):=sK
theorem mk1{f:Addr}{fd:v3}(h:MO P w K mg base C cs m0 g0 1)(hm:mg "Pile" = some (.ref C))(M:Mk K C f)(hb:Binds K fd (["self","columns","rows","table","folds","severed"]:List Str) [])(F:Fun K "__init__" "Pile.__init__" (L2.inClass (top 15) 0) f fd)(ar:Cls K C)(fm:∀f,(wB "Pile").contains f=true→dZ K C f):MO P w K mg base C cs m1 g1 3:=
 h.defC hm M hb F aCy (by decide +kernel) aDg (zE C cs) ar (fun x hx=>fm x.1 (by
  have:vX.all (fun x=>(wB "Pile").contains x.1)=true:=by decide +kernel
  exact all_eq_true.mp this x hx)) (by decide +kernel) (by decide)
theorem mkM{m:Nm}{g:GS}{k:Nat}{x q:Str}{st:Stmt}{N ps U:List Str}{i:IS}{f:Addr}{fd:v3}(e:∀cn ds,g.me cn x ds=none)(s:aa N ps (aB st))(o:Ok U m N st)(r:Rd U m N st i)(h:MO P w K mg base C cs m g k)(M:Mt K C x q st ps f fd)(a1:m.fns.contains x=false:=by decide +kernel)(a3:m.fresh.contains x=false:=by decide +kernel)(a4:true=true→iA i=true:=by decide +kernel):MO P w K mg base C cs (m.addM x true) (g.addM "Pile" x (fD ps.length g N.length i) true) (k+1):=h.defM a1 e a3 (zE C cs) M.at_ M.bd M.fn s o r a4
theorem aEZ:∀cn ds,g1.me cn "heap" ds=none:=fun cn ds=>by
 rfl
theorem aEY:∀cn ds,g2.me cn "done" ds=none:=fun cn ds=>by
 show (if cn = "Pile"∧("done":Str) = "heap" then oM else fun _=>none) ds=none
 rw[if_neg (fun z=>absurd z.2 (by decide +kernel))]
theorem AC{x:Str}(h_heap:¬x = "heap")(h_done:¬x = "done"):∀cn ds,g3.me cn x ds=none:=fun cn ds=>by
 show (if cn = "Pile"∧x = "done" then wF else if cn = "Pile"∧x = "heap" then oM else fun _=>none) ds=none
 rw[if_neg fun z=>h_done z.2,if_neg fun z=>h_heap z.2]
theorem bg{m:Nm}{g:GS}{k:Nat}{x:Str}{st:Stmt}{N ps U:List Str}{i:IS}{f:Addr}{fd:v3}(s:aa N ps (aB st))(o:Ok U m N st)(r:Rd U m N st i)(h:MO P w K mg base C cs m g k)(M:Df K mg x st ps f fd)(a1:m.fns.contains x=false:=by decide +kernel)(a2:∀cn ds,g.me cn x ds=none:=by exact AC (by decide +kernel) (by decide +kernel))(a3:m.fresh.contains x=false:=by decide +kernel)(a4:false=true→iA i=true:=by first|(intro z;cases z;done)|decide +kernel):MO P w K mg base C cs (m.addF x false) (g.addF x (fD ps.length g N.length i) false) (k+1):=h.defF a1 a2 a3 M.at_ M.bd M.fn s o r a4
theorem mkT{m:Nm}{g:GS}{k:Nat}{x:Str}{st:Stmt}{N ps U:List Str}{i:IS}{f:Addr}{fd:v3}(s:aa N ps (aB st))(o:Ok U m N st)(r:Rd U m N st i)(h:MO P w K mg base C cs m g k)(M:Df K mg x st ps f fd)(a1:m.fns.contains x=false:=by decide +kernel)(a2:∀cn ds,g.me cn x ds=none:=by exact AC (by decide +kernel) (by decide +kernel))(a3:m.fresh.contains x=false:=by decide +kernel)(a4:true=true→iA i=true:=by first|(intro z;cases z;done)|decide +kernel):MO P w K mg base C cs (m.addF x true) (g.addF x (fD ps.length g N.length i) true) (k+1):=h.defF a1 a2 a3 M.at_ M.bd M.fn s o r a4
theorem mkP{f:Addr}{fd:v3}(h:MO P w K mg base C cs jh gq 24)(M:Df K mg "pieces" (top 35) pC f fd):MO P w K mg base C cs nu pj 25∧FnOk P w K mg base (bP P w) 25 f fd pC (iz K (tx C cs) (dO gq K11.pc1 K11.pc2)):=h.pieces (by decide +kernel) (AC (by decide +kernel) (by decide +kernel)) (by decide +kernel) M.at_ M.bd M.fn aCh rfl aDK PF aDs aDr aDq aHs
theorem aHO:jm.fn "pieces" = JW:=by kernel_rfl
theorem mkG{f fp:Addr}{fd ij:v3}(h:MO P w K mg base C cs nt jm 32)(M:Df K mg "_law_groups_told" (top 46) SU f fd)(Fp:FnOk P w K mg base (bP P w) 25 fp ij pC (iz K (tx C cs) (dO gq K11.pc1 K11.pc2)))(Mp:Df K mg "pieces" (top 35) pC fp ij):MO P w K mg base C cs nq fq 33:=h.gt (by decide +kernel) (AC (by decide +kernel) (by decide +kernel)) (by decide +kernel) M.at_ M.bd M.fn aHc rfl rfl aHF RB aHP (Fp.mono (by decide)) Mp.at_ Mp.fn.kp Mp.bd (fun d gs e=>by rw[aHO,aBv,e];rfl)
theorem ZR{f:Addr}{fd:v3}(h:MO P w K mg base C cs nj eu 34)(M:Df K mg "law" (top 48) rE f fd):FnOk P w K mg base (bP P w) 35 f fd rE (fc K (tx C cs) 1 wC false):=
 ((aAi (fr:=false) (n:=60) (c:=nj.cc CS (aB (top 48)) ([]:List Str)) M.fn aCb rfl rfl aDE aCH (fun z=>by cases z) (fun X a1 a2 a3 a4 a5=>h X _ a1 a2 a3 a4 a5 rfl rfl rfl rfl)).imp fun vs H Q E ⟨h1,S,ds,dom,rl,hc⟩=>⟨h1,S,ds,dom,rl,by rw[TB (by rw[rl.len];exact h1)]at hc;exact hc⟩)
end
theorem XE:g4.fn "laid_row" = BG:=by kernel_rfl
theorem XD:g6.fn "heap_at" = BE:=by kernel_rfl
theorem XB:g8.fn "turned_heap" = BR:=by kernel_rfl
theorem aDl:g9.fn "laid_together" = RN:=by kernel_rfl
theorem XA:g9.fn "turned_part" = BQ:=by kernel_rfl
theorem OJ:p0.fn "column_of" = BH:=by kernel_rfl
theorem XQ:l7.fn "folded_strip" = RK:=by kernel_rfl
theorem OI:l7.fn "transposed" = BM:=by kernel_rfl
theorem XN:kb.fn "folded_table" = RL:=by kernel_rfl
theorem OH:kb.fn "has_crease" = BL:=by kernel_rfl
theorem XO:kb.fn "refuse_severed" = RO:=by kernel_rfl
theorem PL:l6.me "Pile" "heap" = oM:=by kernel_rfl
theorem OG:l5.fn "edge_lines" = BJ:=by kernel_rfl
theorem OF:l5.fn "neighbours" = BI:=by kernel_rfl
theorem OE:pz.fn "all_joints" = BO:=by kernel_rfl
theorem OD:pq.fn "joints" = oO:=by kernel_rfl
theorem XM:gq.fn "hung_together" = RM:=by kernel_rfl
theorem OC:gq.fn "joints" = oO:=by kernel_rfl
theorem OB:oN.fn "cut" = wD:=by kernel_rfl
theorem PK:o9.me "Pile" "heap" = oM:=by kernel_rfl
theorem OA:jm.fn "_law_groups" = BP:=by kernel_rfl
theorem NZ:jm.fn "_law_whole" = BK:=by kernel_rfl
theorem XJ:fq.fn "_law_groups_told" = JX:=by kernel_rfl
theorem XI:fq.fn "_law_heaps_told" = RP:=by kernel_rfl
theorem NY:fq.fn "_law_refused" = BU:=by kernel_rfl
theorem NW:fq.fn "cut" = wD:=by kernel_rfl
theorem NX:fq.fn "joints" = oO:=by kernel_rfl
theorem PJ:fq.me "Pile" "done" = wF:=by kernel_rfl
theorem NV:eu.fn "_law_cell_at" = BS:=by kernel_rfl
theorem XF:eu.fn "_law_fold_by" = RJ:=by kernel_rfl
theorem XH:eu.fn "_law_groups_told" = JX:=by kernel_rfl
theorem NU:eu.fn "_law_knife" = BN:=by kernel_rfl
theorem XG:eu.fn "_law_sheet_by" = aAn:=by kernel_rfl
theorem NS:eu.fn "folded" = BD:=by kernel_rfl
theorem NT:eu.fn "joints" = oO:=by kernel_rfl
theorem NR:eu.fn "laid" = BC:=by kernel_rfl
end Toy
namespace Toy
open PySem Z Z.Pg
theorem dz(G:GS)(h:G.fl=wB):G.fl "Pile" = bt:=by rw[h];rfl
theorem mo_(c r:Int)(T row:List D)(F S:List D)(h:T[0]?=some (.lst row)):JV [.int c,.int r,.lst T,.tup F,.tup S]=some (.ok (bE c r row.length T.length T F S)):=by
 show DP g0 "Pile" 6 vX _=_
 unfold DP vX;have e:atI T 0=some (.lst row):=fT (k:=0) h
 show Option.map _ (ik g0 [.un,.im (.int c),.im (.int r),.im (.lst T),.im (.tup F),.im (.tup S)] _)=_
 simp only[ik,ql];simp only[zz,yy,aA,aC,e];rfl
theorem SZ{c r w h:Nat}{T:Table}{F S:List D}{x y:Nat}(R:Rect T w h)(hx:x<w)(hy:y<h):oM [pile c r w h T F S,.int x,.int y]=some (.ok (hE ((T.getD y []).getD x []))):=by
 rw[aBt rfl];have b8:y<T.length:=by rw[R.len];exact hy
 have hr:(T.getD y []).length=w:=R.row _ (by rw[qd,qh b8];exact ux b8)
 refine QZ (dz _ rfl) (row:=(T.getD y []).map hE) (by omega) (by omega) ?_ ?_
 ·rw[qi,qd,qh b8];rfl
 ·rw[qi,qd (l:=T.getD y []),qh (by omega)];rfl
theorem aBf{c r w h:Nat}{T:Table}{F S:List D}:wF [pile c r w h T F S]=some (.ok (.lst F)):=by
 rw[aBs rfl];exact SE (dz _ rfl)
theorem mc_:g4.cst "MOST_CELLS" = some (.int 64):=by rfl
theorem aBi{c y:Nat}(h1:c≤64)(h2:y≤64):BG [.int c,.int y]=some (.ok (.lst (mK c y))):=(aBy rfl).trans (vR h1 h2)
theorem aBe{c r:Nat}(h1:1≤c)(h2:1≤r)(h3:c*r≤64):BC [.int c,.int r]=some (.ok (pile c r c r (gA c r) [] [])):=by
 rw[aBr rfl];unfold pile;rw[←uY];exact QS mc_ (fun c y a b=>by rw[XE];exact aBi a b) (fun c r T row h=>mo_ c r T row [] [] h) h1 h2 h3
theorem aBh(p:aW)(k:Nat):BE [sE p,.int k]=some (.ok (hE (p.getD k []))):=(aBx rfl).trans yN
theorem aGA(mv st:aW)(over:Bool)(l1:mv.length≤1000)(l2:st.length≤1000)(f1:Few 400000 mv)(f2:Few 400000 st):RN [sE mv,sE st,.bl over]=some (.ok (sE (bQ mv st over))):=
 (aGJ rfl).trans (lK (fun p k=>by rw[XD];exact aBh p k) l1 l2 f1 f2)
theorem aBq(h:dD)(sd:Side):BR [hE h,.str sd.str]=some (.ok (hE (eA sd.up h))):=(aBJ rfl).trans (nG rfl)
theorem aBp(p:aW)(sd:Side):BQ [sE p,.str sd.str]=some (.ok (sE (dI sd.up p))):=(aBI rfl).trans (nE fun h sd=>by rw[XB];exact aBq h sd)
theorem aGy(s:aW)(sd:Side)(over:Bool)(c:Nat)(ls:s.length≤1000)(hf:Few 400000 s):RK [sE s,.str sd.str,.bl over,.int c]=some (.ok (sE (cP sd over c s))):=
 (aGF rfl).trans (mP rfl (fun p sd=>by rw[XA];exact aBp p sd) (fun mv st over a b c d=>by rw[aDl];exact aGA mv st over a b c d) ls hf)
theorem aBj(T:Table)(x:Nat)(h:∀s∈T,x<s.length):BH [tE T,.int x]=some (.ok (sE (T.map fun s=>s.getD x []))):=(aBz rfl).trans (uN h)
theorem aBn(T:Table)(w h:Nat)(R:Rect T w h)(hw:w≤1000):BM [tE T]=some (.ok (tE (transp T))):=(aBE rfl).trans (pG (fun T x h=>by rw[OJ];exact aBj T x h) R hw)
theorem aGz(T:Table)(w h:Nat)(sd:Side)(over:Bool)(k:Nat)(R:Rect T w h)(hw:w≤1000)(hh:h≤1000)(hf:pF 400000 T)(h1:1≤k)(h2:k<if sd.up then w else h):RL [tE T,.str sd.str,.bl over,.int k]=some (.ok (tE (foldT sd over k T))):=
 (aGG rfl).trans (mO rfl (fun T w h R hw=>by rw[OI];exact aBn T w h R hw) (fun s sd over c a b=>by rw[XQ];exact aGy s sd over c a b) R hw hh hf h1 h2)
theorem aBm(c r w h:Nat)(T:Table)(F S:List D)(sd:Side)(i:Int):BL [pile c r w h T F S,.str sd.str,.int i]=some (.ok (.bl (decide (1≤i)&&decide (i<((if sd.up then w else h:Nat):Int))))):=(aBD rfl).trans (pL (dz _ rfl) rfl rfl)
theorem aGB(c r w h:Nat)(T:Table)(F:List D):RO [pile c r w h T F []]=some (.ok .non):=(aGK rfl).trans (kK (dz _ rfl))
theorem aBg(c r w h:Nat)(T:Table)(F:List D)(sd:Side)(over:Bool)(k:Nat)(R:Rect T w h)(hw:w≤1000)(hh:h≤1000)(hf:pF 400000 T)(h1:1≤k)(h2:k<if sd.up then w else h)(hF:F.length≤1000):BD [pile c r w h T F [],.str sd.str,.bl over,.int k]=some (.ok (pile c r (if sd.up then max k (w-k) else w) (if sd.up then h else max k (h-k)) (foldT sd over k T) (F++[eP sd over k]) [])):=
 (aBu rfl).trans (EV (dz _ rfl) (fun c r w h T F=>by rw[XO];exact aGB c r w h T F) (fun c r w h T F S sd i=>by rw[OH];exact aBm c r w h T F S sd i) (fun T w h sd over k a b c d e f=>by rw[XN];exact aGz T w h sd over k a b c d e f) (fun c r T row F S h=>mo_ c r T row F S h) R hw hh hf h1 h2 hF)
theorem DJ(ns:List Int)(k:Nat):BS [.frz (ns.map .int),.int k]=some (.ok (.int (iq ns k))):=(aBK rfl).trans yY
theorem MN(i:Int):BK [.int i]=some (.ok (.bl true)):=(aBC rfl).trans FX
theorem DH(w h:Nat)(cell:Int)(hw:1≤w)(hh:1≤h)(hwh:1<w*h):∃(sd:Side) (over:Bool) (k:Nat),1≤k∧(k<if sd.up then w else h)∧RJ [.int cell,.int w,.int h]=some (.ok (eP sd over k)):=by
 obtain⟨sd,over,k,a,b,e⟩:=yS (G:=ph) (cell:=cell) hw hh hwh;exact⟨sd,over,k,a,b,(aGE rfl).trans e⟩
theorem aBl(c r w h:Nat)(T:Table)(F C:List D)(sp:List Spot)(S:Sits T w h sp):∃kvs,BJ [pile c r w h T F C]=some (.ok (.dct kvs))∧∀(i:Nat) (s:Spot),sp[i]?=some s→dE kvs i=some (iQ s):=by
 obtain⟨kvs,e,h⟩:=pM (G:=l6) (c:=c) (r:=r) (F:=F) (C:=C) (dz _ rfl) (fun c r w h T F S x y a b d=>by rw[PL];exact SZ a b d) S
 exact⟨kvs,(aBB rfl).trans e,h⟩
theorem aBk(c r:Nat)(hc:1≤c)(ao:c*r≤64)(bo:c≤64):BI [.int c,.int r]=some (.ok (.lst ((bY c (c*r) (c*r)).map jg))):=(aBA rfl).trans (pK hc ao bo)
theorem aBo(c r w h:Nat)(T:Table)(F C:List D)(sp:List Spot)(S:Sits T w h sp)(hc:1≤c)(ao:c*r≤64)(bo:c≤64)(aq:sp.length=c*r):BO [pile c r w h T F C]=some (.ok (jsE sp c r)):=by
 obtain⟨kvs,e,hk⟩:=aBl c r w h T F C sp S;exact(aBG rfl).trans (pP (dz _ rfl) (by rw[OG];exact e) hk (by rw[OF];exact aBk c r hc ao bo) ao aq)
theorem eX(c r w h:Nat)(T:Table)(F:List D)(sp:List Spot)(sev:List (Nat×Nat))(S:Sits T w h sp)(hc:1≤c)(ao:c*r≤64)(bo:c≤64)(aq:sp.length=c*r):oO [pile c r w h T F (sev.map pD)]=some (.ok (.lst ((Pg.left c (c*r) sev).map (jD sp)))):=
 (aBw rfl).trans (yF (dz _ rfl) (by rw[OE];exact aBo c r w h T F _ sp S hc ao bo aq))
theorem DI(c r w h:Nat)(T:Table)(F:List D)(sp:List Spot)(sev:List (Nat×Nat))(S:Sits T w h sp)(hc:1≤c)(ao:c*r≤64)(bo:c≤64)(aq:sp.length=c*r)(l:Bool)(n:Int)(h0:0≤n)(h1:n≤((if l then h else w:Nat):Int))(hs:sev.length≤900000):wD [pile c r w h T F (sev.map pD),.bl l,.int n]=some (.ok (pile c r w h T F ((sev++eW c (c*r) sp sev l n).map pD))):=
 (TC rfl).trans (SI (dz _ rfl) S.rect (by rw[OD];exact eX c r w h T F sp sev S hc ao bo aq) (fun c r T row F S h=>mo_ c r T row F S h) h0 h1 (by omega))
theorem wP:mj "_law_word_of" "NoPlace" = some ("place":Str):=by decide +kernel
theorem VS(n:Nat)(l:G11.Nm)(p q:Nat):RM [.lst (Gp.nmL n l),.int (p:Nat),.int (q:Nat)]=some (.ok (.lst (Gp.nmL n (G11.hung l p q)))):=(aGI rfl).trans Gp.hung_ok
theorem FW(n:Nat)(ts:List (Nat×Nat))(hn:n≤64)(h:∀a b,(a,b)∈ts→a<n∧b<n):BP [.int (n:Nat),.lst (ts.map Gp.tieD)]=some (.ok (.lst ((G11.told n (G11.hungs ts id)).map Gp.grpD))):=(aBH rfl).trans (Gp.groups_ok hn h)
theorem aBd(c r w h:Nat)(T:Table)(F:List D)(sp:List Spot)(sev:List (Nat×Nat))(S:Sits T w h sp)(hc:1≤c)(ao:c*r≤64)(bo:c≤64)(aq:sp.length=c*r)(hr:1≤r):JX [pile c r w h T F (sev.map pD),K11.jsL c (c*r) sp sev,.int ((c*r:Nat):Int)]=some (.ok (.bl true)):=
 aGM.trans (K11.aEN (L:=Pg.left c (c*r) sev) (l:=G11.hungs (K11.bK c (c*r) sev) id) (Nat.mul_pos hc hr) ao (Nat.le_zero.mp ((G11.hungs_good (n:=c*r) fun a b z=>K11.rQ hc z).le 0 (Nat.mul_pos hc hr)))
  (K11.YG (dz _ rfl) hc bo ao (by rw[OC];exact eX c r w h T F sp sev S hc ao bo aq) (fun l p q=>by rw[XM];exact VS _ l p q)) (by rw[OA];exact FW _ _ ao fun a b z=>K11.rQ hc z) (fun i=>by rw[NZ];exact MN i))
theorem VR(c r w h:Nat)(T:Table)(F:List D)(sev:List (Nat×Nat))(l:Bool)(i:Int)(hi:i<0∨((if l then h else w:Nat):Int)<i):BU [pile c r w h T F (sev.map pD),.bl l,.int i]=some (.ok (.bl true)):=
 (aBL rfl).trans (K11.NN (by rw[OB];exact(TC rfl).trans (aAw (dz _ rfl) rfl hi)) rfl rfl rfl wP)
theorem MQ(c r w h:Nat)(T:Table)(F:List D)(sp:List Spot)(sev:List (Nat×Nat))(S:Sits T w h sp):RP [pile c r w h T F (sev.map pD)]=some (.ok (K11.lP T w h)):=
 (aGL rfl).trans (K11.JP (dz _ rfl) S.rect.w1 S.w64 S.h64 fun x y hx hy=>by rw[PK];exact SZ S.rect hx hy)
theorem aGx(c r w h:Nat)(T:Table)(F:List D)(sp:List Spot)(S:Sits T w h sp)(hc:1≤c)(ao:c*r≤64)(bo:c≤64)(aq:sp.length=c*r)(hr:1≤r):K11.Kn fq c r w h T F sp:=by
 refine⟨fun sev=>?_,fun sev l i h0 h1 hs=>?_,fun sev l i hi=>?_,fun sev=>?_,fun sev=>?_,fun sev=>?_⟩
 ·rw[NX];exact eX c r w h T F sp sev S hc ao bo aq
 ·rw[NW];exact DI c r w h T F sp sev S hc ao bo aq l i h0 h1 hs
 ·rw[NY];exact VR c r w h T F sev l i hi
 ·rw[PJ];exact aBf
 ·rw[XI];exact MQ c r w h T F sp sev S
 ·rw[XJ];exact aBd c r w h T F sp sev S hc ao bo aq hr
theorem MP(c r:Nat)(fs:List Fold)(sp:List Spot)(sev:List (Nat×Nat))(cell:Int)(hc:1≤c)(hr:1≤r)(ao:c*r≤64)(bo:c≤64)(S:Stg c r fs sp)(hs:sev.length≤800000):∃ah:List (Nat×Nat),ah.length≤sev.length+1000 ∧
  BN [pile c r (runs c r fs).2.1 (runs c r fs).2.2 (runs c r fs).1 (fs.map Fold.d) (sev.map pD),K11.jsL c (c*r) sp sev,.int cell,.int ((c*r:Nat):Int)]=some (.ok (.tup [pile c r (runs c r fs).2.1 (runs c r fs).2.2 (runs c r fs).1 (fs.map Fold.d) (ah.map pD),K11.jsL c (c*r) sp ah])):=by
 obtain⟨ah,h1,e⟩:=K11.JA (sev:=sev) (dz _ rfl) S.sits.w64 S.sits.h64 (aGx c r _ _ _ (fs.map Fold.d) sp S.sits hc ao bo S.len hr) (ne_self (jG fun f=>xP (f:=f)) (by rw[jQ];exact fS fun f=>KN)) hs ao cell
 exact⟨ah,h1,(aBF rfl).trans e⟩
theorem law_true(ns:List Int)(_:ns.length≤63):wC [.frz (ns.map .int)]=some (.ok (.bl true)):=by
 refine(TB rfl).trans (K11.ZS (G:=eu) (dz _ rfl) (ns:=ns) (fun k=>by rw[NV];exact DJ ns k) (fun cell=>?_) (fun c r a b d=>by rw[NR];exact aBe a b d) (fun w h cell a b d=>by rw[XF];exact DH w h cell a b d)
  (fun c r fs sp f S ok hl=>EW (fun c r w h T F sd over k a1 a2 a3 a4 a5 a6 a7=>by rw[NS];exact aBg c r w h T F sd over k a1 a2 a3 a4 a5 a6 a7) S ok hl)
  (fun c r fs sp hc ao bo S=>by rw[NT];exact eX c r _ _ _ _ sp [] S.sits hc ao bo S.len) (fun c r fs sp hc hr ao bo S=>by rw[XH];exact aBd c r _ _ _ _ sp [] S.sits hc ao bo S.len hr)
  (fun c r fs sp sev cell hc hr ao bo S hs=>by rw[NU];exact MP c r fs sp sev cell hc hr ao bo S hs))
 rw[XG,aGH rfl];exact DM
end Toy
namespace Toy
open PySem L2 Z
theorem ft{K:uz}{x q:Str}{st:Stmt}{f:Addr}{fd:v3}{ps:List Str}(F:Fun K x q st f fd)(l:ps.length=1)(h:∀(kV doc pm:Value) (an:Option Addr) (aw ct a:Value),bindArgs (PySem.W.fnOf x q (gB st) (aL st) (aB st) .none kV doc pm an aw ct) ⟨[a],[]⟩=pure (ps.zip [a])):Binds K fd ps []:=F.binds fun _ _ _ _ _ _ us hl=>by
 match us,hl.trans l with
 |[a],_=>exact h _ _ _ _ _ _ a
theorem ja{K:uz}{x q:Str}{st:Stmt}{f:Addr}{fd:v3}{ps:List Str}(F:Fun K x q st f fd)(l:ps.length=2)(h:∀(kV doc pm:Value) (an:Option Addr) (aw ct a b:Value),bindArgs (PySem.W.fnOf x q (gB st) (aL st) (aB st) .none kV doc pm an aw ct) ⟨[a,b],[]⟩=pure (ps.zip [a,b])):Binds K fd ps []:=F.binds fun _ _ _ _ _ _ us hl=>by
 match us,hl.trans l with
 |[a,b],_=>exact h _ _ _ _ _ _ a b
theorem jr{K:uz}{x q:Str}{st:Stmt}{f:Addr}{fd:v3}{ps:List Str}(F:Fun K x q st f fd)(l:ps.length=3)(h:∀(kV doc pm:Value) (an:Option Addr) (aw ct a b c:Value),bindArgs (PySem.W.fnOf x q (gB st) (aL st) (aB st) .none kV doc pm an aw ct) ⟨[a,b,c],[]⟩=pure (ps.zip [a,b,c])):Binds K fd ps []:=F.binds fun _ _ _ _ _ _ us hl=>by
 match us,hl.trans l with
 |[a,b,c],_=>exact h _ _ _ _ _ _ a b c
theorem bn4{K:uz}{x q:Str}{st:Stmt}{f:Addr}{fd:v3}{ps:List Str}(F:Fun K x q st f fd)(l:ps.length=4)(h:∀(kV doc pm:Value) (an:Option Addr) (aw ct a b c d:Value),bindArgs (PySem.W.fnOf x q (gB st) (aL st) (aB st) .none kV doc pm an aw ct) ⟨[a,b,c,d],[]⟩=pure (ps.zip [a,b,c,d])):Binds K fd ps []:=F.binds fun _ _ _ _ _ _ us hl=>by
 match us,hl.trans l with
 |[a,b,c,d],_=>exact h _ _ _ _ _ _ a b c d
theorem bn6{K:uz}{x q:Str}{st:Stmt}{f:Addr}{fd:v3}{ps:List Str}(F:Fun K x q st f fd)(l:ps.length=6)(h:∀(kV doc pm:Value) (an:Option Addr) (aw ct a b c d e f:Value),bindArgs (PySem.W.fnOf x q (gB st) (aL st) (aB st) .none kV doc pm an aw ct) ⟨[a,b,c,d,e,f],[]⟩=pure (ps.zip [a,b,c,d,e,f])):Binds K fd ps []:=F.binds fun _ _ _ _ _ _ us hl=>by
 match us,hl.trans l with
 |[a,b,c,d,e,f],_=>exact h _ _ _ _ _ _ a b c d e f
theorem mF{K:uz}{n q:Str}{st:Stmt}{a:Addr}{fd:v3}{m:Str}{t c:Nat}(e:fd=dF n q st m t c)(h:K.lookup a=some (oF fd))(h2:codeIn K (.ref c) q=true)(h3:keepIn K (.ref a)=true):Fun K n q st a fd:=⟨⟨_,_,_,_,_,_,_,_,_,e,h,h2⟩,h3⟩
section
variable (P:Params)
theorem UU:Fun (KK P) "laid" "laid" (top 16) 166 tF:=mF rfl (by kernel_rfl) (by kernel_rfl) (by kernel_rfl)
theorem aFq:Binds (KK P) tF LG []:=ja (UU P) rfl fun _ _ _ _ _ _ _ _=>rfl
theorem UZ:Fun (KK P) "laid_row" "laid_row" (top 17) 171 tN:=mF rfl (by kernel_rfl) (by kernel_rfl) (by kernel_rfl)
theorem aFx:Binds (KK P) tN LM []:=ja (UZ P) rfl fun _ _ _ _ _ _ _ _=>rfl
theorem UV:Fun (KK P) "folded" "folded" (top 18) 178 tJ:=mF rfl (by kernel_rfl) (by kernel_rfl) (by kernel_rfl)
theorem aFt:Binds (KK P) tJ LJ []:=bn4 (UV P) rfl fun _ _ _ _ _ _ _ _ _ _=>rfl
theorem aFY:Fun (KK P) "refuse_severed" "refuse_severed" (top 19) 185 AZ:=mF rfl (by kernel_rfl) (by kernel_rfl) (by kernel_rfl)
theorem aIg:Binds (KK P) AZ aAQ []:=ft (aFY P) rfl fun _ _ _ _ _ _ _=>rfl
theorem VF:Fun (KK P) "has_crease" "has_crease" (top 20) 192 tS:=mF rfl (by kernel_rfl) (by kernel_rfl) (by kernel_rfl)
theorem aFD:Binds (KK P) tS LR []:=jr (VF P) rfl fun _ _ _ _ _ _ _ _ _=>rfl
theorem aFU:Fun (KK P) "folded_table" "folded_table" (top 21) 197 AV:=mF rfl (by kernel_rfl) (by kernel_rfl) (by kernel_rfl)
theorem aIb:Binds (KK P) AV aAM []:=bn4 (aFU P) rfl fun _ _ _ _ _ _ _ _ _ _=>rfl
theorem VG:Fun (KK P) "transposed" "transposed" (top 22) 202 tT:=mF rfl (by kernel_rfl) (by kernel_rfl) (by kernel_rfl)
theorem aFE:Binds (KK P) tT LS []:=ft (VG P) rfl fun _ _ _ _ _ _ _=>rfl
theorem VB:Fun (KK P) "column_of" "column_of" (top 23) 207 tO:=mF rfl (by kernel_rfl) (by kernel_rfl) (by kernel_rfl)
theorem aFz:Binds (KK P) tO LN []:=ja (VB P) rfl fun _ _ _ _ _ _ _ _=>rfl
theorem aFT:Fun (KK P) "folded_strip" "folded_strip" (top 24) 214 AU:=mF rfl (by kernel_rfl) (by kernel_rfl) (by kernel_rfl)
theorem aIa:Binds (KK P) AU aAL []:=bn4 (aFT P) rfl fun _ _ _ _ _ _ _ _ _ _=>rfl
theorem VL:Fun (KK P) "turned_part" "turned_part" (top 25) 219 tX:=mF rfl (by kernel_rfl) (by kernel_rfl) (by kernel_rfl)
theorem aFI:Binds (KK P) tX LX []:=ja (VL P) rfl fun _ _ _ _ _ _ _ _=>rfl
theorem VM:Fun (KK P) "turned_heap" "turned_heap" (top 26) 224 tY:=mF rfl (by kernel_rfl) (by kernel_rfl) (by kernel_rfl)
theorem aFJ:Binds (KK P) tY LY []:=ja (VM P) rfl fun _ _ _ _ _ _ _ _=>rfl
theorem aFX:Fun (KK P) "laid_together" "laid_together" (top 27) 229 AY:=mF rfl (by kernel_rfl) (by kernel_rfl) (by kernel_rfl)
theorem aIf:Binds (KK P) AY aAP []:=jr (aFX P) rfl fun _ _ _ _ _ _ _ _ _=>rfl
theorem UY:Fun (KK P) "heap_at" "heap_at" (top 28) 236 tM:=mF rfl (by kernel_rfl) (by kernel_rfl) (by kernel_rfl)
theorem aFw:Binds (KK P) tM LL []:=ja (UY P) rfl fun _ _ _ _ _ _ _ _=>rfl
theorem UX:Fun (KK P) "joints" "joints" (top 30) 241 tL:=mF rfl (by kernel_rfl) (by kernel_rfl) (by kernel_rfl)
theorem aFv:Binds (KK P) tL LK []:=ft (UX P) rfl fun _ _ _ _ _ _ _=>rfl
theorem VI:Fun (KK P) "all_joints" "all_joints" (top 31) 248 tV:=mF rfl (by kernel_rfl) (by kernel_rfl) (by kernel_rfl)
theorem aFG:Binds (KK P) tV LV []:=ft (VI P) rfl fun _ _ _ _ _ _ _=>rfl
theorem VC:Fun (KK P) "neighbours" "neighbours" (top 32) 255 tP:=mF rfl (by kernel_rfl) (by kernel_rfl) (by kernel_rfl)
theorem aFA:Binds (KK P) tP LO []:=ja (VC P) rfl fun _ _ _ _ _ _ _ _=>rfl
theorem VD:Fun (KK P) "edge_lines" "edge_lines" (top 33) 262 tQ:=mF rfl (by kernel_rfl) (by kernel_rfl) (by kernel_rfl)
theorem aFB:Binds (KK P) tQ LP []:=ft (VD P) rfl fun _ _ _ _ _ _ _=>rfl
theorem UT:Fun (KK P) "cut" "cut" (top 34) 267 sZ:=mF rfl (by kernel_rfl) (by kernel_rfl) (by kernel_rfl)
theorem aFp:Binds (KK P) sZ LF []:=jr (UT P) rfl fun _ _ _ _ _ _ _ _ _=>rfl
theorem UW:Fun (KK P) "pieces" "pieces" (top 35) 274 tK:=mF rfl (by kernel_rfl) (by kernel_rfl) (by kernel_rfl)
theorem aFu:Binds (KK P) tK pC []:=ft (UW P) rfl fun _ _ _ _ _ _ _=>rfl
theorem aFW:Fun (KK P) "hung_together" "hung_together" (top 36) 279 AX:=mF rfl (by kernel_rfl) (by kernel_rfl) (by kernel_rfl)
theorem aIe:Binds (KK P) AX aAO []:=jr (aFW P) rfl fun _ _ _ _ _ _ _ _ _=>rfl
theorem VN:Fun (KK P) "_law_cell_at" "_law_cell_at" (top 38) 286 tZ:=mF rfl (by kernel_rfl) (by kernel_rfl) (by kernel_rfl)
theorem aFK:Binds (KK P) tZ LZ []:=ja (VN P) rfl fun _ _ _ _ _ _ _ _=>rfl
theorem VE:Fun (KK P) "_law_whole" "_law_whole" (top 39) 293 tR:=mF rfl (by kernel_rfl) (by kernel_rfl) (by kernel_rfl)
theorem aFC:Binds (KK P) tR LQ []:=ft (VE P) rfl fun _ _ _ _ _ _ _=>rfl
theorem aFV:Fun (KK P) "_law_sheet_by" "_law_sheet_by" (top 40) 300 AW:=mF rfl (by kernel_rfl) (by kernel_rfl) (by kernel_rfl)
theorem aIc:Binds (KK P) AW aAN []:=ft (aFV P) rfl fun _ _ _ _ _ _ _=>rfl
theorem aFS:Fun (KK P) "_law_fold_by" "_law_fold_by" (top 41) 307 AS:=mF rfl (by kernel_rfl) (by kernel_rfl) (by kernel_rfl)
theorem aHZ:Binds (KK P) AS aAK []:=jr (aFS P) rfl fun _ _ _ _ _ _ _ _ _=>rfl
theorem VJ:Fun (KK P) "_law_groups" "_law_groups" (top 42) 312 tW:=mF rfl (by kernel_rfl) (by kernel_rfl) (by kernel_rfl)
theorem aFH:Binds (KK P) tW LW []:=ja (VJ P) rfl fun _ _ _ _ _ _ _ _=>rfl
theorem aFR:Fun (KK P) "_law_word_of" "_law_word_of" (top 43) 319 AR:=mF rfl (by kernel_rfl) (by kernel_rfl) (by kernel_rfl)
theorem aHY:Binds (KK P) AR (["e"]:List Str) []:=ft (aFR P) rfl fun _ _ _ _ _ _ _=>rfl
theorem VO:Fun (KK P) "_law_refused" "_law_refused" (top 44) 326 uA:=mF rfl (by kernel_rfl) (by kernel_rfl) (by kernel_rfl)
theorem aFL:Binds (KK P) uA MA []:=jr (VO P) rfl fun _ _ _ _ _ _ _ _ _=>rfl
theorem aFZ:Fun (KK P) "_law_heaps_told" "_law_heaps_told" (top 45) 331 BA:=mF rfl (by kernel_rfl) (by kernel_rfl) (by kernel_rfl)
theorem aIh:Binds (KK P) BA aAR []:=ft (aFZ P) rfl fun _ _ _ _ _ _ _=>rfl
theorem aGa:Fun (KK P) "_law_groups_told" "_law_groups_told" (top 46) 336 BB:=mF rfl (by kernel_rfl) (by kernel_rfl) (by kernel_rfl)
theorem aIi:Binds (KK P) BB SU []:=jr (aGa P) rfl fun _ _ _ _ _ _ _ _ _=>rfl
theorem VH:Fun (KK P) "_law_knife" "_law_knife" (top 47) 341 tU:=mF rfl (by kernel_rfl) (by kernel_rfl) (by kernel_rfl)
theorem aFF:Binds (KK P) tU LU []:=bn4 (VH P) rfl fun _ _ _ _ _ _ _ _ _ _=>rfl
theorem US:Fun (KK P) "law" "law" (top 48) 348 oK:=mF rfl (by kernel_rfl) (by kernel_rfl) (by kernel_rfl)
theorem aFo:Binds (KK P) oK rE []:=ft (US P) rfl fun _ _ _ _ _ _ _=>rfl
theorem VA:Fun (KK P) "__init__" "Pile.__init__" (L2.inClass (top 15) 0) 140 yU:=mF rfl (by kernel_rfl) (by kernel_rfl) (by kernel_rfl)
theorem aFy:Binds (KK P) yU (["self","columns","rows","table","folds","severed"]:List Str) []:=bn6 (VA P) rfl fun _ _ _ _ _ _ _ _ _ _ _ _=>rfl
theorem ML:Fun (KK P) "heap" "Pile.heap" (L2.inClass (top 15) 1) 147 tH:=mF rfl (by kernel_rfl) (by kernel_rfl) (by kernel_rfl)
theorem aFs:Binds (KK P) tH LI []:=jr (ML P) rfl fun _ _ _ _ _ _ _ _ _=>rfl
theorem MK:Fun (KK P) "done" "Pile.done" (L2.inClass (top 15) 2) 154 tG:=mF rfl (by kernel_rfl) (by kernel_rfl) (by kernel_rfl)
theorem aFr:Binds (KK P) tG LH []:=ft (MK P) rfl fun _ _ _ _ _ _ _=>rfl
theorem aGf:Mt (KK P) 157 "heap" "Pile.heap" (L2.inClass (top 15) 1) LI 147 tH:=⟨ML P,⟨by kernel_rfl,by kernel_rfl,(ML P).kp⟩,aFs P⟩
theorem aGe:Mt (KK P) 157 "done" "Pile.done" (L2.inClass (top 15) 2) LH 154 tG:=⟨MK P,⟨by kernel_rfl,by kernel_rfl,(MK P).kp⟩,aFr P⟩
theorem aAd:Mk (KK P) 157 140:=⟨by kernel_rfl,by kernel_rfl,by kernel_rfl,by kernel_rfl⟩
theorem LA:Cls (KK P) 157:=⟨by kernel_rfl,by kernel_rfl,by kernel_rfl,by kernel_rfl⟩
theorem IQ:∀f,(wB "Pile").contains f=true→dZ (KK P) 157 f:=by
 intro f hf;have gj:f∈wB "Pile":=by simpa using hf
 rw[show wB "Pile" = (["columns","rows","wide","high","table","folds","severed"]:List Str) from if_pos rfl]at gj
 simp only[rz,uk,or_false]at gj
 rcases gj with rfl|rfl|rfl|rfl|rfl|rfl|rfl
 ·exact(by kernel_rfl:findIn (KK P) (.ref 157) "columns" = some none)
 ·exact(by kernel_rfl:findIn (KK P) (.ref 157) "rows" = some none)
 ·exact(by kernel_rfl:findIn (KK P) (.ref 157) "wide" = some none)
 ·exact(by kernel_rfl:findIn (KK P) (.ref 157) "high" = some none)
 ·exact(by kernel_rfl:findIn (KK P) (.ref 157) "table" = some none)
 ·exact(by kernel_rfl:findIn (KK P) (.ref 157) "folds" = some none)
 ·exact(by kernel_rfl:findIn (KK P) (.ref 157) "severed" = some none)
variable {P}{h:Heap}{mg:va}(X:(KK P).In h)(G:h.Ns mainGlobals mg)
include X G
theorem aGd:Df (KK P) mg "laid" (top 16) LG 166 tF:=⟨UU P,mg_of X G (by kernel_rfl),aFq P⟩
theorem aGj:Df (KK P) mg "laid_row" (top 17) LM 171 tN:=⟨UZ P,mg_of X G (by kernel_rfl),aFx P⟩
theorem aGg:Df (KK P) mg "folded" (top 18) LJ 178 tJ:=⟨UV P,mg_of X G (by kernel_rfl),aFt P⟩
theorem aIv:Df (KK P) mg "refuse_severed" (top 19) aAQ 185 AZ:=⟨aFY P,mg_of X G (by kernel_rfl),aIg P⟩
theorem aGo:Df (KK P) mg "has_crease" (top 20) LR 192 tS:=⟨VF P,mg_of X G (by kernel_rfl),aFD P⟩
theorem aIr:Df (KK P) mg "folded_table" (top 21) aAM 197 AV:=⟨aFU P,mg_of X G (by kernel_rfl),aIb P⟩
theorem aGp:Df (KK P) mg "transposed" (top 22) LS 202 tT:=⟨VG P,mg_of X G (by kernel_rfl),aFE P⟩
theorem aGk:Df (KK P) mg "column_of" (top 23) LN 207 tO:=⟨VB P,mg_of X G (by kernel_rfl),aFz P⟩
theorem aIq:Df (KK P) mg "folded_strip" (top 24) aAL 214 AU:=⟨aFT P,mg_of X G (by kernel_rfl),aIa P⟩
theorem aGt:Df (KK P) mg "turned_part" (top 25) LX 219 tX:=⟨VL P,mg_of X G (by kernel_rfl),aFI P⟩
theorem aGu:Df (KK P) mg "turned_heap" (top 26) LY 224 tY:=⟨VM P,mg_of X G (by kernel_rfl),aFJ P⟩
theorem aIu:Df (KK P) mg "laid_together" (top 27) aAP 229 AY:=⟨aFX P,mg_of X G (by kernel_rfl),aIf P⟩
theorem aGi:Df (KK P) mg "heap_at" (top 28) LL 236 tM:=⟨UY P,mg_of X G (by kernel_rfl),aFw P⟩
theorem aGh:Df (KK P) mg "joints" (top 30) LK 241 tL:=⟨UX P,mg_of X G (by kernel_rfl),aFv P⟩
theorem aGr:Df (KK P) mg "all_joints" (top 31) LV 248 tV:=⟨VI P,mg_of X G (by kernel_rfl),aFG P⟩
theorem aGl:Df (KK P) mg "neighbours" (top 32) LO 255 tP:=⟨VC P,mg_of X G (by kernel_rfl),aFA P⟩
theorem aGm:Df (KK P) mg "edge_lines" (top 33) LP 262 tQ:=⟨VD P,mg_of X G (by kernel_rfl),aFB P⟩
theorem aGc:Df (KK P) mg "cut" (top 34) LF 267 sZ:=⟨UT P,mg_of X G (by kernel_rfl),aFp P⟩
theorem VQ:Df (KK P) mg "pieces" (top 35) pC 274 tK:=⟨UW P,mg_of X G (by kernel_rfl),aFu P⟩
theorem aIt:Df (KK P) mg "hung_together" (top 36) aAO 279 AX:=⟨aFW P,mg_of X G (by kernel_rfl),aIe P⟩
theorem aGv:Df (KK P) mg "_law_cell_at" (top 38) LZ 286 tZ:=⟨VN P,mg_of X G (by kernel_rfl),aFK P⟩
theorem aGn:Df (KK P) mg "_law_whole" (top 39) LQ 293 tR:=⟨VE P,mg_of X G (by kernel_rfl),aFC P⟩
theorem aIs:Df (KK P) mg "_law_sheet_by" (top 40) aAN 300 AW:=⟨aFV P,mg_of X G (by kernel_rfl),aIc P⟩
theorem aIp:Df (KK P) mg "_law_fold_by" (top 41) aAK 307 AS:=⟨aFS P,mg_of X G (by kernel_rfl),aHZ P⟩
theorem aGs:Df (KK P) mg "_law_groups" (top 42) LW 312 tW:=⟨VJ P,mg_of X G (by kernel_rfl),aFH P⟩
theorem aIo:Df (KK P) mg "_law_word_of" (top 43) (["e"]:List Str) 319 AR:=⟨aFR P,mg_of X G (by kernel_rfl),aHY P⟩
theorem aGw:Df (KK P) mg "_law_refused" (top 44) MA 326 uA:=⟨VO P,mg_of X G (by kernel_rfl),aFL P⟩
theorem aIw:Df (KK P) mg "_law_heaps_told" (top 45) aAR 331 BA:=⟨aFZ P,mg_of X G (by kernel_rfl),aIh P⟩
theorem aIx:Df (KK P) mg "_law_groups_told" (top 46) SU 336 BB:=⟨aGa P,mg_of X G (by kernel_rfl),aIi P⟩
theorem aGq:Df (KK P) mg "_law_knife" (top 47) LU 341 tU:=⟨VH P,mg_of X G (by kernel_rfl),aFF P⟩
theorem VP:Df (KK P) mg "law" (top 48) rE 348 oK:=⟨US P,mg_of X G (by kernel_rfl),aFo P⟩
theorem aAf:∀x,fH.contains x=true→mg x=none:=by
 intro x hx;have fz:x∈fH:=by simpa using hx
 simp only[fH,rz,uk,or_false]at fz
 rcases fz with rfl|rfl|rfl|rfl|rfl|rfl|rfl|rfl|rfl|rfl|rfl|rfl|rfl|rfl|rfl
 ·exact mg_none_of X G (by kernel_rfl)
 ·exact mg_none_of X G (by kernel_rfl)
 ·exact mg_none_of X G (by kernel_rfl)
 ·exact mg_none_of X G (by kernel_rfl)
 ·exact mg_none_of X G (by kernel_rfl)
 ·exact mg_none_of X G (by kernel_rfl)
 ·exact mg_none_of X G (by kernel_rfl)
 ·exact mg_none_of X G (by kernel_rfl)
 ·exact mg_none_of X G (by kernel_rfl)
 ·exact mg_none_of X G (by kernel_rfl)
 ·exact mg_none_of X G (by kernel_rfl)
 ·exact mg_none_of X G (by kernel_rfl)
 ·exact mg_none_of X G (by kernel_rfl)
 ·exact mg_none_of X G (by kernel_rfl)
 ·exact mg_none_of X G (by kernel_rfl)
theorem aEM{T:Tx}:∀x d,csts.lookup x=some d→xA (KK P) T mg x d:=by
 intro x d hx;have fz:(x,d)∈csts:=tf hx
 simp only[csts,rz,uk,or_false,Prod.mk.injEq]at fz
 rcases fz with ⟨rfl,rfl⟩|⟨rfl,rfl⟩|⟨rfl,rfl⟩|⟨rfl,rfl⟩
 ·exact SJ (mg_of X G (by kernel_rfl:nsIn (KK P) mainGlobals "MOST_CELLS" = some (some (.int 64 337))))
 ·have u:(KK P).lookup 124=some ⟨(.type "tuple"),none,(.seq #[(.str "west" 339),(.str "east" 340)] 0),#[]⟩:=by kernel_rfl
  exact uK (xs:=[.str "west",.str "east"]) (mg_of X G (by kernel_rfl:nsIn (KK P) mainGlobals "UPRIGHT_SIDES" = some (some (.ref 124)))) (fun H=>.inr ⟨_,_,_,u,rfl,rfl,by show 2≤sizeLine;rw[sizeLine_eq];decide,.cons ⟨_,rfl⟩ (.cons ⟨_,rfl⟩ .nil)⟩) ⟨_,u⟩ fun H S=>aD.cons (by exact rfl) (aD.cons (by exact rfl) aD.nil)
 ·have u:(KK P).lookup 125=some ⟨(.type "tuple"),none,(.seq #[(.str "north" 342),(.str "south" 343)] 0),#[]⟩:=by kernel_rfl
  exact uK (xs:=[.str "north",.str "south"]) (mg_of X G (by kernel_rfl:nsIn (KK P) mainGlobals "LEVEL_SIDES" = some (some (.ref 125)))) (fun H=>.inr ⟨_,_,_,u,rfl,rfl,by show 2≤sizeLine;rw[sizeLine_eq];decide,.cons ⟨_,rfl⟩ (.cons ⟨_,rfl⟩ .nil)⟩) ⟨_,u⟩ fun H S=>aD.cons (by exact rfl) (aD.cons (by exact rfl) aD.nil)
 ·have u:(KK P).lookup 126=some ⟨(.type "tuple"),none,(.seq #[(.str "west" 345),(.str "north" 346)] 0),#[]⟩:=by kernel_rfl
  exact uK (xs:=[.str "west",.str "north"]) (mg_of X G (by kernel_rfl:nsIn (KK P) mainGlobals "NEAR_SIDES" = some (some (.ref 126)))) (fun H=>.inr ⟨_,_,_,u,rfl,rfl,by show 2≤sizeLine;rw[sizeLine_eq];decide,.cons ⟨_,rfl⟩ (.cons ⟨_,rfl⟩ .nil)⟩) ⟨_,u⟩ fun H S=>aD.cons (by exact rfl) (aD.cons (by exact rfl) aD.nil)
end
def vB(K:uz):Sp:=fun vs H Q _=>∃(a:Addr) (ns:List Int),vs=[.ref a]∧SqL K H a (ns.map V.int)∧ns.length≤63∧∀H',Q (.bl true) H'
theorem qA{K:uz}{T:Tx}{H:Hp}{S:Addr→Prop}:∀ns:List Int,aD K T H S (ns.map D.int) (ns.map V.int)
 |[]=>aD.nil
 |n::ns=>aD.cons (by exact rfl) (qA ns)
theorem ZT{P:v7}{w:World}{K:uz}{mg:va}{base:Heap}{T:Tx}{k:Nat}{f:Addr}{fd:v3}{fr:Bool}(F:FnOk P w K mg base (bP P w) k f fd rE (fc K T 1 wC fr))(hk:k≤60):FnOk P w K mg base kl 60 f fd ["script"] (vB K):=by
 have key:∀vs H Q E,vB K vs H Q E→fc K T 1 wC fr vs H Q E0:=by
  rintro vs H Q E ⟨a,ns,rfl,hS,hl,q⟩;refine⟨rfl,fun _=>False,[.frz (ns.map D.int)],fun _ z=>z.elim,aD.cons (show Exists _ from⟨a,ns.map V.int,rfl,fun z=>z,hS,qA ns⟩) aD.nil,.inl ⟨.bl true,law_true ns hl,fun v H' sm r _=>?_⟩⟩
  obtain rfl:=r;exact q H'
 refine⟨fun vs H Q E hs=>F.len _ _ _ _ (key vs H Q E hs),fun A outer s H args us vs Q E hr e0 hb hv hs=>?_⟩
 refine codeAny_mono (F.run A outer s H args us vs Q E0 (hr.mono hk) e0 hb hv (key vs H Q E hs)) fun r s' hq=>?_
 cases r with
 |error e=>exact(UO _ _ _ _ _ hq).elim
 |ok fl=>cases fl<;>exact hq
noncomputable def cs(y:Str):Addr:=if y = "LeafError" then 24 else if y = "NoSheet" then 37 else if y = "NoFold" then 49 else if y = "NoPlace" then 61 else if y = "Ajar" then 73 else if y = "Severed" then 85 else if y = "Bolted" then 97 else if y = "Loose" then 109 else if y = "NoWord" then 121 else 0
section
variable {P:Params}
theorem uL:cs "LeafError" = 24:=by kernel_rfl
theorem yX:cs "NoSheet" = 37:=by kernel_rfl
theorem FN:cs "NoFold" = 49:=by kernel_rfl
theorem oU:cs "NoPlace" = 61:=by kernel_rfl
theorem SK:cs "Ajar" = 73:=by kernel_rfl
theorem yW:cs "Severed" = 85:=by kernel_rfl
theorem FO:cs "Bolted" = 97:=by kernel_rfl
theorem KS:cs "Loose" = 109:=by kernel_rfl
theorem FM:cs "NoWord" = 121:=by kernel_rfl
theorem fe:∀k,bp.contains k=true→k = "LeafError"∨k = "NoPlace":=by
 intro k hk;have fj:k∈bp:=by simpa using hk
 simpa only [bp,rz,uk,or_false] using fj
theorem oa:∀k,bp.contains k=true→excIn (KK P) (cs k) d6 "ValueError.__new__" = true:=by
 intro k hk
 rcases fe k hk with rfl|rfl
 ·exact(by kernel_rfl:excIn (KK P) (cs "LeafError") d6 "ValueError.__new__" = true)
 ·exact(by kernel_rfl:excIn (KK P) (cs "NoPlace") d6 "ValueError.__new__" = true)
theorem mM:∀k k',bp.contains k=true→bp.contains k'=true→WC k k'=true→fO (KK P) (cs k) (.ref (cs k'))=true:=by
 intro k k' hk fj hs
 rcases fe k hk with rfl|rfl
 ·rcases fe k' fj with rfl|rfl
  ·exact(by kernel_rfl:fO (KK P) (cs "LeafError") (.ref (cs "LeafError"))=true)
  ·exact nomatch (show false=true from hs)
 ·rcases fe k' fj with rfl|rfl
  ·exact(by kernel_rfl:fO (KK P) (cs "NoPlace") (.ref (cs "LeafError"))=true)
  ·exact(by kernel_rfl:fO (KK P) (cs "NoPlace") (.ref (cs "NoPlace"))=true)
theorem aAe:∀k,bp.contains k=true→∀j,bA.idxOf? k=some j→(k = "NoPlace"∧j=2):=by
 intro k hk j hj
 rcases fe k hk with rfl|rfl
 ·rw[show bA.idxOf? ("LeafError":Str)=none from by decide +kernel]at hj;cases hj
 ·exact⟨rfl,qu (hj.symm.trans (by decide +kernel))⟩
theorem hX:∀k,bp.contains k=true→∀(j:Nat),bA.idxOf? k=some j→XcK (KK P) (cs k):=by
 intro k hk j hj
 rcases aAe k hk j hj with ⟨rfl,rfl⟩
 ·rw[oU];exact⟨by kernel_rfl,by kernel_rfl,by kernel_rfl,by kernel_rfl,by kernel_rfl,by kernel_rfl,by kernel_rfl⟩
theorem hv:∀k,bp.contains k=true→∀(j:Nat),bA.idxOf? k=some j→kitOne (KK P) (.ref (cs k)) (.type "ValueError")=some true:=by
 intro k hk j hj
 rcases aAe k hk j hj with ⟨rfl,rfl⟩
 ·exact(by kernel_rfl:kitOne (KK P) (.ref (cs "NoPlace")) (.type "ValueError")=some true)
theorem hkt:∀k,bp.contains k=true→∀(j:Nat),bA.idxOf? k=some j→∀(i:Nat) (y:Str),bA[i]?=some y→kitOne (KK P) (.ref (cs k)) (.ref (cs y))=some (decide (i=j)):=by
 intro k hk j hj i y hy;have hi:i<8:=(q9.mp hy).1
 have hi8:i=0∨i=1∨i=2∨i=3∨i=4∨i=5∨i=6∨i=7:=by omega
 rcases aAe k hk j hj with ⟨rfl,rfl⟩
 ·rcases hi8 with rfl|rfl|rfl|rfl|rfl|rfl|rfl|rfl
  ·cases hy;exact(by kernel_rfl:kitOne (KK P) (.ref (cs "NoPlace")) (.ref (cs "NoSheet"))=some (decide (0=2)))
  ·cases hy;exact(by kernel_rfl:kitOne (KK P) (.ref (cs "NoPlace")) (.ref (cs "NoFold"))=some (decide (1=2)))
  ·cases hy;exact(by kernel_rfl:kitOne (KK P) (.ref (cs "NoPlace")) (.ref (cs "NoPlace"))=some (decide (2=2)))
  ·cases hy;exact(by kernel_rfl:kitOne (KK P) (.ref (cs "NoPlace")) (.ref (cs "Ajar"))=some (decide (3=2)))
  ·cases hy;exact(by kernel_rfl:kitOne (KK P) (.ref (cs "NoPlace")) (.ref (cs "Severed"))=some (decide (4=2)))
  ·cases hy;exact(by kernel_rfl:kitOne (KK P) (.ref (cs "NoPlace")) (.ref (cs "Bolted"))=some (decide (5=2)))
  ·cases hy;exact(by kernel_rfl:kitOne (KK P) (.ref (cs "NoPlace")) (.ref (cs "Loose"))=some (decide (6=2)))
  ·cases hy;exact(by kernel_rfl:kitOne (KK P) (.ref (cs "NoPlace")) (.ref (cs "NoWord"))=some (decide (7=2)))
variable {h:Heap}{mg:va}(X:(KK P).In h)(G:h.Ns mainGlobals mg)
include X G
theorem mx:∀y,(["LeafError","NoSheet","NoFold","NoPlace","Ajar","Severed","Bolted","Loose","NoWord"]:List Str).contains y=true→mg y=some (.ref (cs y)):=by
 intro y hy;have b8:y∈(["LeafError","NoSheet","NoFold","NoPlace","Ajar","Severed","Bolted","Loose","NoWord"]:List Str):=by simpa using hy
 simp only[rz,uk,or_false]at b8
 rcases b8 with rfl|rfl|rfl|rfl|rfl|rfl|rfl|rfl|rfl
 ·rw[uL];exact mg_of X G (by kernel_rfl)
 ·rw[yX];exact mg_of X G (by kernel_rfl)
 ·rw[FN];exact mg_of X G (by kernel_rfl)
 ·rw[oU];exact mg_of X G (by kernel_rfl)
 ·rw[SK];exact mg_of X G (by kernel_rfl)
 ·rw[yW];exact mg_of X G (by kernel_rfl)
 ·rw[FO];exact mg_of X G (by kernel_rfl)
 ·rw[KS];exact mg_of X G (by kernel_rfl)
 ·rw[FM];exact mg_of X G (by kernel_rfl)
theorem hxg:∀k,bp.contains k=true→mg k=some (.ref (cs k)):=fun k hk=>mx X G k (by
 rcases fe k hk with rfl|rfl<;>decide +kernel)
theorem hmx:∀y∈bA,mg y=some (.ref (cs y)):=fun y hy=>mx X G y (by
 have:bA.all (fun y=>(["LeafError","NoSheet","NoFold","NoPlace","Ajar","Severed","Bolted","Loose","NoWord"]:List Str).contains y)=true:=by decide +kernel
 exact all_eq_true.mp this y hy)
end
set_option maxHeartbeats 0 in
theorem all_mk{l:PySem.W.OpenLaw}{w:World}{h:Heap}{mg:va}{fa:Addr}(X:(KK w.params).In h)(G:h.Ns mainGlobals mg)(hfa:mg "law" = some (.ref fa)) :
  ∃fd:v3,(∀(s:Shared) (v:Value),BindsTo s fd ⟨[v],[]⟩ [("script",v)])∧∀base:Heap,(KK w.params).In base→base.Ns mainGlobals mg→FnOk l.prog w (KK w.params) mg base kl 60 fa fd ["script"] (vB (KK w.params)):=by
 have e:=hfa.symm.trans (VP X G).at_
 cases e;refine⟨oK,fun s v=>.of_eq rfl,fun base _ _=>?_⟩
 have m:=mk1 (mk0 (P:=l.prog) (w:=w) (base:=base) (cs:=cs) (aEM X G) (LA _) (IQ _) (aAf X G) (hxg X G) oa mM (aGC (aIo X G) (aAf X G _ (by decide +kernel)) (aAf X G _ (by decide +kernel)) (hmx X G) hX hkt hv)) (mg_of X G (by kernel_rfl)) (aAd _) (aFy _) (VA _) (LA _) (IQ _)
 replace m:MO _ _ _ _ _ _ _ m2 g2 4:=mkM aEZ aCf aDI aCL m (aGf _);replace m:MO _ _ _ _ _ _ _ m3 g3 5:=mkM aEY aCe aDH aCK m (aGe _);replace m:MO _ _ _ _ _ _ _ m4 g4 6:=bg aCk aDN aCP m (aGj X G);replace m:MO _ _ _ _ _ _ _ m5 g5 7:=bg aCd aDG aCJ m (aGd X G);replace m:MO _ _ _ _ _ _ _ m6 g6 8:=bg aCj aDM aCO m (aGi X G);replace m:MO _ _ _ _ _ _ _ m7 g7 9:=bg aGZ aHC aHm m (aIu X G);replace m:MO _ _ _ _ _ _ _ m8 g8 10:=bg aCv aDY aDa m (aGu X G);replace m:MO _ _ _ _ _ _ _ m9 g9 11:=bg aCu aDX aCZ m (aGt X G);replace m:MO _ _ _ _ _ _ _ m10 g10 12:=bg aGV aHy aHi m (aIq X G);replace m:MO _ _ _ _ _ _ _ m11 p0 13:=bg aCl aDO aCQ m (aGk X G);replace m:MO _ _ _ _ _ _ _ m12 l7 14:=bg aCq aDT aCV m (aGp X G);replace m:MO _ _ _ _ _ _ _ m13 g13 15:=bg aGW aHz aHj m (aIr X G);replace m:MO _ _ _ _ _ _ _ m14 g14 16:=bg aCp aDS aCU m (aGo X G);replace m:MO _ _ _ _ _ _ _ m15 kb 17:=bg aHa aHD aHn m (aIv X G);replace m:MO _ _ _ _ _ _ _ m16 l6 18:=bg aCg aDJ aCM m (aGg X G);replace m:MO _ _ _ _ _ _ _ m17 g17 19:=bg aCn aDQ aCS m (aGm X G);replace m:MO _ _ _ _ _ _ _ m18 l5 20:=bg aCm aDP aCR m (aGl X G);replace m:MO _ _ _ _ _ _ _ m19 pz 21:=bg aCs aDV aCX m (aGr X G);replace m:MO _ _ _ _ _ _ _ m20 pq 22:=mkT aCi aDL aCN m (aGh X G);replace m:MO _ _ _ _ _ _ _ m21 g21 23:=bg aCc aDF aCI m (aGc X G);replace m:MO _ _ _ _ _ _ _ jh gq 24:=bg aGY aHB aHl m (aIt X G);obtain⟨m',Fp⟩:=mkP m (VQ X G);replace m:MO _ _ _ _ _ _ _ nu pj 25:=m';replace m:MO _ _ _ _ _ _ _ m24 g24 26:=bg aCw aDZ aDb m (aGv X G);replace m:MO _ _ _ _ _ _ _ m25 g25 27:=bg aCo aDR aCT m (aGn X G);replace m:MO _ _ _ _ _ _ _ m26 ph 28:=bg aGX aHA aHk m (aIs X G);replace m:MO _ _ _ _ _ _ _ m27 g27 29:=bg aGU aHx aHh m (aIp X G);replace m:MO _ _ _ _ _ _ _ m28 oN 30:=bg aCt aDW aCY m (aGs X G);replace m:MO _ _ _ _ _ _ _ m29 o9 31:=bg aCx aEa aDc m (aGw X G);replace m:MO _ _ _ _ _ _ _ nt jm 32:=bg aHb aHE aHo m (aIw X G);replace m:MO _ _ _ _ _ _ _ nq fq 33:=mkG m (aIx X G) Fp (VQ X G);replace m:MO _ _ _ _ _ _ _ nj eu 34:=bg aCr aDU aCW m (aGq X G);exact ZT (ZR m (VP X G)) (by decide)
theorem walk{l:PySem.W.OpenLaw}{q:v7}{loose:List Str}{XP:(va)→Heap→Prop}{YP:World→Heap→Prop}{d:DefRec}{K:Params→uz}(hn:l.most=some 63)(o6:d.params.defaults=[])
  (hY:∀(w:World) (h:Heap),YP w h→(K w.params).In h)
  (F:∀(w:World) (mg:va) (fa:Addr) (h:Heap),(K w.params).In h→h.Ns mainGlobals mg→mg d.name=some (.ref fa) →
   ∃fd:v3,(∀(s:Shared) (u:Value),BindsTo s fd ⟨[u],[]⟩ [("script",u)])∧∀base:Heap,(K w.params).In base→base.Ns mainGlobals mg→FnOk l.prog w (K w.params) mg base kl 60 fa fd ["script"] (vB (K w.params))) :
  PySem.W.WalkO q loose XP YP l.row.toRowW d [] (fun f vs=>PySem.call f vs):=
 L2.MS (n:=63) (k:=60) (x:="script") (CX:=fun _=>kl) (sp:=fun w=>vB (K w.params)) hn (by decide) o6 ⟨rfl,by decide,by decide⟩ hY F (fun _ _ a ns hl _ hS=>⟨a,ns,rfl,hS,hl,fun _=>rfl⟩) fun _ _ _ _ _ z=>z
end Toy
open PySem PySem.W PyProof.Rows
set_option maxRecDepth 100000 in
set_option maxHeartbeats 0 in
theorem PySem.Challenge.cw_leaffold_k11_cut_pieces_holds : PySem.Challenge.rw_leaffold_k11_cut_pieces.Holds := by
 w_on;o_law
 refine holds_open (q:=Toy.vw) (loose:=[]) (Xt:=Toy.Xt) (XP:=XL Toy.vw []) (Yf:=Hook.obs Toy.HH) (Ya:=Hook.val Toy.HH) (YP:=Hook.says Toy.HH) (N:=6474) Toy.left (Hook.of Toy.HH) (Hook.keeps Toy.HH) (fun s e=>xl_of s (Bool.and_eq_true_iff.mp e).1) XL.keeps (by rfl) (by rfl) (by rfl) (fun s e=>recFacts_of (Bool.and_eq_true_iff.mp e).2) (by rfl) (by first|assumption|decide +kernel) (by decide +kernel) ⟨rfl,rfl,rfl,rfl,rfl,by decide +kernel⟩ ?hw ?hc
 case hw=>w_witness2
 case hc=>exact Toy.walk (l:=Toy.lw) (K:=Toy.KK) rfl rfl (fun w h Y=>PySem.W.kIn_of Y) fun w mg fa h KX G ow=>Toy.all_mk KX G ow
