import PyProof.Rows.All
import Wide.All
import OpenK.AllK
import Wide.FinOn
import Lean
import PyProof.EqAt
import PyProof.EqKinds
import PyProof.TupleCall
import PySem.Syntax
import PySem.Eval
import PyProof.P3In
import KE.KIsAll
import PyProof.CollectIter
import PyProof.ListRange
import PySem.Challenge.RW_leaffold_k06_whole_joined
noncomputable section
set_option linter.all false
set_option maxRecDepth 100000
set_option maxHeartbeats 4000000
set_option Elab.async false
set_option genSizeOf false
set_option bootstrap.genMatcherCode false
set_option compiler.extract_closed false
open Array (length_toList)
open Bool (or_eq_true)
open List (all_cons all_eq_true any_cons find?_cons getElem?_replicate lookup_cons mem_append mem_filterMap mem_reverse nodup_cons not_mem_nil reverse_cons)
open Nat (le_succ_of_le min_eq_left mul_comm not_lt)
open PySem.F (args_tuple_add_2 entry_tuple_add slot_tuple_add)
open PySem.Heap (size_push)
open PySem.W (callWith_K callWith_K0 codeIn emptyDict excIn findIn handedIn hasDictIn hideAll instObj isFn keepIn kia_one kitOne kitx_dict kitx_list lookIn makesIn methodObj mg_none_of mg_of mroIn nsIn plainGet plainGet_of plainOver specialIn takerIn takesIn)
abbrev l0:=@List.getElem?_eq_some_iff
abbrev l4:=@List.getD_eq_getElem?_getD
abbrev l5:=@Option.some.injEq
abbrev l6:=@List.mem_of_getElem?
abbrev l7:=@Option.bind_eq_some_iff
abbrev l8:=@List.getElem?_eq_getElem
abbrev l9:=@List.getElem?_map
abbrev la:=@List.length_map
abbrev lj:=@Nat.le_refl
abbrev ll:=@Option.bind_eq_bind
abbrev lp:=@decide_eq_false
abbrev lq:=@PySem.Heap.get?_push_of_some
abbrev lr:=@Bool.false_eq_true
abbrev lu:=@List.mem_cons_of_mem
abbrev lx:=@List.size_toArray
abbrev ly:=@Bool.and_eq_true
abbrev lz:=@Option.some.inj
abbrev ma:=@Option.map_eq_some_iff
abbrev md:=@Nat.lt_of_lt_of_le
abbrev mh:=@Bool.false_ne_true
abbrev mj:=@decide_eq_true_eq
abbrev ml:=@List.length_range
abbrev mn:=@List.getElem?_set_self
abbrev mq:=@List.getElem?_set_ne
abbrev mr:=@PySem.Heap.lt_size
abbrev mw:=@Nat.le_trans
abbrev my:=@List.mem_cons
abbrev mz:=@PyProof.Rows.callWith_type1
abbrev mG:=@Nat.zero_add
abbrev nc:=@List.length_append
abbrev ng:=@Bool.not_true
abbrev nh:=@List.append_nil
abbrev ni:=@List.length_eq_zero_iff
abbrev nj:=@List.map_cons
abbrev nq:=@decide_eq_true
abbrev nu:=@beq_iff_eq
abbrev nv:=@List.mem_map
abbrev ny:=@PySem.mem_of_lookup
abbrev nz:=@beq_eq_false_iff_ne
abbrev o3:=@Nat.ne_of_lt
abbrev o4:=@List.length_take
abbrev o5:=@List.mem_append_right
abbrev o6:=@Nat.lt_irrefl
abbrev o7:=@PySem.wpAny_bind
abbrev o8:=@PySem.wpAny_pure
abbrev o9:=@PySem.wpAny_mono
abbrev oa:=@PySem.Heap.get?_push_size
abbrev oe:=@Option.map_some
abbrev og:=@Option.bind_some
abbrev oh:=@Nat.le_succ
abbrev oi:=@List.mem_cons_self
abbrev oj:=@List.getElem?_range
abbrev om:=@List.length_cons
abbrev oo:=@List.map_append
abbrev oq:=@List.take_add_one
abbrev ot:=@List.map_map
abbrev ow:=@List.getElem?_append_left
abbrev ox:=@List.getElem?_append_right
abbrev oy:=@List.mem_range
abbrev oz:=@Nat.zero_le
abbrev oN:=@List.length_reverse
abbrev p4:=@List.length_drop
abbrev p5:=@List.getElem_mem
abbrev p6:=PySem.W.Frag
abbrev p7:=PySem.FuncData
abbrev p8:=PySem.Program
abbrev p9:=PySem.Value→PySem.Shared→Prop
abbrev ph:=List (PySem.Addr×PySem.Obj)
abbrev pj:=PySem.Str→Option PySem.Value
namespace L2
open PySem PySem.Spec PyProof.Rows
abbrev Key:=Sum Int Str
noncomputable def nX:Key→Value→Bool
 |.inl k,v=>Value.isInt k v
 |.inr x,v=>Value.isStrOf x v
noncomputable def aDU(w:World):Key→Int
 |.inl k=>hashInt k
 |.inr x=>hashStr w x
theorem bI:∀{k:Key} {v:Value},nX k v=true→(∃i t,k=Sum.inl i∧v=Value.int i t)∨(∃x t,k=Sum.inr x∧v=Value.str x t)
 |.inl i,v,h=>by
  obtain⟨t,e⟩:=Value.isInt_shape (k:=i) (v:=v) h;exact .inl ⟨i,t,rfl,e⟩
 |.inr x,v,h=>by
  obtain⟨t,e⟩:=Value.isStrOf_shape (x:=x) (v:=v) h;exact .inr ⟨x,t,rfl,e⟩
theorem zY(i:Int)(t:Tok):nX (.inl i) (.int i t)=true:=by simp[nX,Value.isInt]
theorem zX(x:Str)(t:Tok):nX (.inr x) (.str x t)=true:=by simp[nX,Value.isStrOf]
theorem SK(a b:Int):decide ((Sum.inl a:Key)=Sum.inl b)=(a == b):=by
 by_cases e:a=b
 ·subst e;simp
 ·have h:¬(Sum.inl a:Key)=Sum.inl b:=fun q=>e (Sum.inl.inj q)
  rw[lp h];exact(nz.mpr e).symm
theorem SH(a b:Str):decide ((Sum.inr a:Key)=Sum.inr b)=decide (a=b):=by
 by_cases e:a=b
 ·subst e;simp
 ·have h:¬(Sum.inr a:Key)=Sum.inr b:=fun q=>e (Sum.inr.inj q)
  rw[lp h,lp e]
theorem SJ(a:Int)(b:Str):decide ((Sum.inl a:Key)=Sum.inr b)=false:=lp (fun q=>nomatch q)
theorem SI(a:Str)(b:Int):decide ((Sum.inr a:Key)=Sum.inl b)=false:=lp (fun q=>nomatch q)
noncomputable def bG(prog:p8)(w:World):PySem.KeyKind prog w Key where
 is:=nX
 hash:=aDU w
 inj:=fun v a b ha hb=>by
  rcases bI ha with ⟨i,t,rfl,rfl⟩|⟨x,t,rfl,rfl⟩
  ·rcases bI hb with ⟨j,u,rfl,e⟩|⟨y,u,rfl,e⟩
   ·injection e with e1 _;rw[e1]
   ·exact nomatch e
  ·rcases bI hb with ⟨j,u,rfl,e⟩|⟨y,u,rfl,e⟩
   ·exact nomatch e
   ·injection e with e1 _;rw[e1]
 byValue:=fun k v h=>by
  rcases bI h with ⟨i,t,rfl,rfl⟩|⟨x,t,rfl,rfl⟩<;>rfl
 pyHash:=fun hv h=>by
  rcases bI hv with ⟨i,t,rfl,rfl⟩|⟨x,t,rfl,rfl⟩
  ·exact wpAny_pyHash_int h
  ·exact wpAny_pyHash_str h
 eqBool:=fun hu hv h=>by
  rcases bI hu with ⟨i,t,rfl,rfl⟩|⟨x,t,rfl,rfl⟩
  ·rcases bI hv with ⟨j,u,rfl,rfl⟩|⟨y,u,rfl,rfl⟩
   ·rw[SK]at h;exact wpAny_eqBool_int h
   ·rw[SJ]at h;exact SeqAt.EqAt.int_str i t y u _ _ _ _ h
  ·rcases bI hv with ⟨j,u,rfl,rfl⟩|⟨y,u,rfl,rfl⟩
   ·rw[SI]at h;exact SeqAt.EqAt.str_int x t j u _ _ _ _ h
   ·rw[SH]at h;exact wpAny_eqBool_str h
 «strs»:=fun k x t v h=>by
  rcases bI h with ⟨i,u,rfl,e⟩|⟨y,u,rfl,e⟩
  ·exact nomatch e
  ·injection e with e1 _
   subst e1;cases v<;>rfl
theorem sM(prog:p8)(w:World)(i:Int)(t:Tok):(bG prog w).is (.inl i) (.int i t)=true:=zY i t
theorem gG(prog:p8)(w:World)(x:Str)(t:Tok):(bG prog w).is (.inr x) (.str x t)=true:=zX x t
inductive V where
 |non|bl (b:Bool)|int (i:Int)|str (x:Str)|byt (b:Array UInt8)|flt (b:UInt64)|ref (a:Addr)|ty (n:String)
 deriving DecidableEq
noncomputable def RelV:V→Value→Prop
 |.non,u=>u=Value.none
 |.bl b,u=>u=Value.bool b
 |.int i,u=>∃t,u=Value.int i t
 |.str x,u=>∃t,u=Value.str x t
 |.byt b,u=>∃t,u=Value.bytes b t
 |.flt b,u=>∃t,u=Value.float b t
 |.ref a,u=>u=Value.ref a
 |.ty n,u=>u=Value.type n
abbrev aM:List V→List Value→Prop:=Paired RelV
theorem aM.length{xs:List V}{us:List Value}(r:aM xs us):xs.length=us.length:=Paired.length r
theorem aM.get:∀{xs:List V} {us:List Value} {i:Nat} {x:V},aM xs us→xs[i]?=some x→∃u,us[i]?=some u∧RelV x u
 |_,_,_,_,.nil,e=>by simp at e
 |_,_,0,_,.cons r _,e=>by simp at e;subst e;exact⟨_,rfl,r⟩
 |_,_,i+1,x,.cons _ t,e=>by
  obtain⟨u,h1,h2⟩:=aM.get (i:=i) (x:=x) t (by simpa using e)
  exact⟨u,by simpa using h1,h2⟩
theorem aM.set{x:V}{u:Value}(r:RelV x u):∀{xs:List V} {us:List Value} (i:Nat),aM xs us→aM (xs.set i x) (us.set i u)
 |_,_,_,.nil=>.nil
 |_,_,0,.cons _ t=>.cons r t
 |_,_,i+1,.cons q t=>.cons q (aM.set r i t)
theorem aM.append:∀{xs ys:List V} {us ws:List Value},aM xs us→aM ys ws→aM (xs++ys) (us++ws)
 |_,_,_,_,.nil,s=>s
 |_,_,_,_,.cons r t,s=>.cons r (aM.append t s)
theorem aM.take:∀{xs:List V} {us:List Value} (n:Nat),aM xs us→aM (xs.take n) (us.take n)
 |_,_,0,_=>.nil
 |_,_,_+1,.nil=>.nil
 |_,_,n+1,.cons r t=>.cons r (aM.take n t)
theorem aM.drop:∀{xs:List V} {us:List Value} (n:Nat),aM xs us→aM (xs.drop n) (us.drop n)
 |_,_,0,r=>r
 |_,_,_+1,.nil=>.nil
 |_,_,n+1,.cons _ t=>aM.drop n t
noncomputable def hJ:Option V→Option Value→Prop
 |some v,some u=>RelV v u
 |none,none=>True
 |_,_=>False
noncomputable def KV{κ:Type}:List (κ×V)→List (κ×Value)→Prop:=Paired fun (p:κ×V) (q:κ×Value)=>p.1=q.1∧RelV p.2 q.2
noncomputable def kV:Key→V
 |.inl i=>.int i
 |.inr x=>.str x
inductive HO where
 |lst (xs:List V)
 |tup (xs:List V)
 |dK (kvs:List (Key×V))|dT (kvs:List (List Key×V))
 |set (S:Int→Bool) (n:Nat)
 |ins (C dx:Addr) (fs:List (Str×V))
 |own (x:Addr)
 |xd (fs:List (Str×V))
 |met (f x:Addr)
 |rng (lo hi:Int)
 |frz (o:Obj) (u:HO)
 |tbl (ps:Array Value)
 |ext (φ:Heap→Prop)
abbrev Hp:=Addr→Option HO
noncomputable def upd(H:Hp)(a:Addr)(o:HO):Hp:=fun b=>if b=a then some o else H b
theorem aN{H:Hp}{a:Addr}{o:HO}:upd H a o a=some o:=by unfold upd;rw[if_pos rfl]
theorem aK{H:Hp}{a b:Addr}{o:HO}(h:b≠a):upd H a o b=H b:=by unfold upd;rw[if_neg h]
theorem aAt{H:Hp}{a b:Addr}{o u:HO}(h:H a=some o)(h':H b=some u)(d:o≠u):a≠b:=by
 intro e;subst e;rw[h]at h';exact d (lz h')
theorem aV{H:Hp}{a b:Addr}{o:HO}(h:H a=some o)(h':H b=none):a≠b:=by
 intro e;subst e;rw[h]at h';cases h'
section
variable (P:p8)(w:World)
noncomputable def bM(H:Hp)(h:Heap)(a:Addr):HO→Prop
 |.lst xs=>xs.length≤sizeLine∧∃(its:List Value) (n:Nat),aM xs its∧h.get? a=some { cls:=.type "list",data:=.seq its.toArray n }
 |.tup xs=>xs.length≤sizeLine∧∃its:List Value,aM xs its∧IsTup h a its.toArray
 |.dK kvs=>kvs.length≤sizeLine∧(a == sysModules)=false∧∃vs,KV kvs vs∧h.DictOf (bG P w) a vs
 |.dT kvs=>kvs.length≤sizeLine∧(a == sysModules)=false∧∃xs:List (List Key×Addr×Value),
   Paired (fun (p:List Key×V) (q:List Key×Addr×Value)=>p.1=q.1∧H q.2.1=some (.tup (p.1.map kV))∧RelV p.2 q.2.2) kvs xs ∧
   ∃o es ep,h.get? a=some o∧o.ExactDict∧o.data=.dict es ep∧es.toList=xs.map (entryOfKey (tupleKind (bG P w)))∧(xs.map (·.1)).Nodup
 |.set S n=>h.SetOf (intKind P w) a S n
 |.ins C dx fs=>H dx=some (.own a)∧fs.length≤1000∧dx≠a∧h.get? a=some (instObj C dx) ∧
   ∃mA,h.Ns1 dx mA∧(∀f,hJ (fs.lookup f) (mA f))∧PySem.Within mA (fs.map (·.1))
 |.own _=>∃o,h.get? a=some o
 |.xd fs=>∃mA,h.Ns1 a mA∧∀f,hJ (fs.lookup f) (mA f)
 |.rng lo hi=>∃t u v,h.get? a=some { cls:=.type "range",data:=.fields #[.int lo t,.int hi u,.int 1 v] }
 |.frz o u=>h.get? a=some o∧bM H h a u
 |.tbl ps=>h.get? a=some { cls:=.none,data:=.fields ps }
 |.met f x=>h.get? a=some (methodObj (.ref f) (.ref x))
 |.ext φ=>φ h∧(∃o,h.get? a=some o)∧∀h1 h2:Heap,φ h1→(∀o,h1.get? a=some o→h2.get? a=some o)→φ h2
def HOk(H:Hp)(h:Heap):Prop:=∀a o,H a=some o→bM P w H h a o
end
section
variable {P:p8}{w:World}{H H':Hp}{h h':Heap}{a:Addr}{o:HO}
theorem bM.lt(x:bM P w H h a o):a<h.objs.size:=by
 cases o with
 |lst xs=>obtain⟨_,_,_,_,e⟩:=x;exact mr e
 |tup xs=>obtain⟨_,_,_,p⟩:=x;exact p.lt
 |dK kvs=>obtain⟨_,_,_,_,o,_,_,e,_⟩:=x;exact mr e
 |dT kvs=>obtain⟨_,_,_,_,o,_,_,e,_⟩:=x;exact mr e
 |set S n=>obtain⟨o,_,_,_,e,_⟩:=x;exact mr e
 |ins C dx fs=>obtain⟨_,_,_,e,_⟩:=x;exact mr e
 |own y=>obtain⟨_,e⟩:=x;exact mr e
 |xd fs=>obtain⟨_,⟨_,_,_,e,_⟩,_⟩:=x;exact mr e
 |rng lo hi=>obtain⟨_,_,_,e⟩:=x;exact mr e
 |frz ob u=>obtain⟨e,_⟩:=x;exact mr e
 |tbl ps=>exact mr (show h.get? a=some _ from x)
 |met f y=>exact mr (show h.get? a=some _ from x)
 |ext φ=>obtain⟨_,⟨_,e⟩,_⟩:=x;exact mr e
theorem Paired.mapP{α β:Type}{F G:α→β→Prop}:∀{l₁:List α} {l₂:List β},Paired F l₁ l₂→(∀a b,F a b→G a b)→Paired G l₁ l₂
 |_,_,.nil,_=>.nil
 |_,_,.cons r t,f=>.cons (f _ _ r) (Paired.mapP t f)
theorem bM.stay(x:bM P w H h a o)(k:∀b u,(b=a∨H b=some (.own a))→h.get? b=some u→h'.get? b=some u)
  (ho:∀b,H b=some (.own a)→H' b=some (.own a)) (ht:∀b xs,H b=some (.tup xs)→H' b=some (.tup xs)):bM P w H' h' a o:=by
 induction o with
 |lst xs=>obtain⟨z,its,n,r,e⟩:=x;exact⟨z,its,n,r,k _ _ (.inl rfl) e⟩
 |tup xs=>obtain⟨z,its,r,ob,e,c⟩:=x;exact⟨z,its,r,ob,k _ _ (.inl rfl) e,c⟩
 |dK kvs=>obtain⟨z,y,vs,r,ob,es,ep,e,c⟩:=x;exact⟨z,y,vs,r,ob,es,ep,k _ _ (.inl rfl) e,c⟩
 |dT kvs =>
  obtain⟨z,y,xs,r,ob,es,ep,e,c⟩:=x;exact⟨z,y,xs,Paired.mapP r fun p q z=>⟨z.1,ht _ _ z.2.1,z.2.2⟩,ob,es,ep,k _ _ (.inl rfl) e,c⟩
 |set S n=>obtain⟨ob,es,ep,t,e,c⟩:=x;exact⟨ob,es,ep,t,k _ _ (.inl rfl) e,c⟩
 |ins C dx fs =>
  obtain⟨d,z,ne,e,mA,⟨od,es,ep,e2,c⟩,r⟩:=x;exact⟨ho _ d,z,ne,k _ _ (.inl rfl) e,mA,⟨od,es,ep,k _ _ (.inr d) e2,c⟩,r⟩
 |own y=>obtain⟨ob,e⟩:=x;exact⟨ob,k _ _ (.inl rfl) e⟩
 |xd fs=>obtain⟨mA,⟨od,es,ep,e,c⟩,r⟩:=x;exact⟨mA,⟨od,es,ep,k _ _ (.inl rfl) e,c⟩,r⟩
 |rng lo hi=>obtain⟨t,u,v,e⟩:=x;exact⟨t,u,v,k _ _ (.inl rfl) e⟩
 |frz ob u ih=>obtain⟨e,q⟩:=x;exact⟨k _ _ (.inl rfl) e,ih q⟩
 |tbl ps =>
  have e:h.get? a=some { cls:=.none,data:=.fields ps }:=x
  show h'.get? a=some { cls:=.none,data:=.fields ps }
  exact k a _ (.inl rfl) e
 |met f y =>
  have e:h.get? a=some (methodObj (.ref f) (.ref y)):=x
  show h'.get? a=some (methodObj (.ref f) (.ref y))
  exact k a _ (.inl rfl) e
 |ext φ=>obtain⟨p,⟨o,e⟩,st⟩:=x;exact⟨st _ _ p fun o q=>k _ _ (.inl rfl) q,⟨o,k _ _ (.inl rfl) e⟩,st⟩
theorem HOk.lt(x:HOk P w H h)(e:H a=some o):a<h.objs.size:=(x a o e).lt
theorem HOk.fresh(x:HOk P w H h)(e:h.objs.size≤a):H a=none:=by
 cases q:H a with
 |none=>rfl
 |some u=>exact absurd (md (x.lt q) e) (o6 _)
theorem HOk.kept(x:HOk P w H h)(k:∀b u,h.get? b=some u→h'.get? b=some u):HOk P w H h':=fun a o e =>
 (x a o e).stay (fun b u _ q=>k b u q) (fun _ q=>q) fun _ _ q=>q
theorem HOk.laid(x:HOk P w H h)(k:∀b u,h.get? b=some u→h'.get? b=some u)(hp:h.objs.size≤a)(new:bM P w (upd H a o) h' a o):HOk P w (upd H a o) h':=fun b u e=>by
 have hn:=x.fresh hp
 by_cases hb:b=a
 ·subst hb;rw[aN]at e;cases e;exact new
 ·rw[aK hb]at e;exact(x b u e).stay (fun c v _ q=>k c v q) (fun c q=>by rw[aK (aV q hn)];exact q) fun c xs q=>by rw[aK (aV q hn)];exact q
end
def Rd(H:Hp)(a:Addr)(u:HO):Prop:=H a=some u∨∃o,H a=some (.frz o u)
theorem Rd.ok{P:p8}{w:World}{H:Hp}{h:Heap}{a:Addr}{u:HO}(r:Rd H a u)(x:HOk P w H h):bM P w H h a u:=by
 rcases r with r|⟨o,r⟩
 ·exact x a u r
 ·obtain⟨_,q⟩:=x a _ r;exact q
noncomputable def k9:Option HO→Prop
 |some (.lst _)=>True
 |some (.dK _)=>True
 |some (.dT _)=>True
 |some (.set _ _)=>True
 |some (.ins _ _ _)=>True
 |some (.ext _)=>True
 |_=>False
section
variable {P:p8}{w:World}{H:Hp}{h h':Heap}{x e:Addr}{o':HO}
theorem HOk.write(ok:HOk P w H h)(mu:k9 (H x))(he:e=x∨H e=some (.own x))(k:∀b u,b≠e→h.get? b=some u→h'.get? b=some u)(jh:∃u,h'.get? e=some u)
  (new:bM P w (upd H x o') h' x o'):HOk P w (upd H x o') h':=fun b u q=>by
 have nown:∀c y,H c=some (.own y)→c≠x:=fun c y r z=>by subst z;rw[r]at mu;exact mu
 have ntup:∀c xs,H c=some (.tup xs)→c≠x:=fun c xs r z=>by subst z;rw[r]at mu;exact mu
 by_cases hb:b=x
 ·subst hb;rw[aN]at q;cases q;exact new
 ·rw[aK hb]at q
  by_cases i3:b=e
  ·have q':H b=some (.own x):=by
    rcases he with z|z
    ·exact absurd (i3.trans z) hb
    ·rw[i3];exact z
   rw[q]at q';cases q';obtain⟨v,hv⟩:=jh;exact⟨v,by rw[i3];exact hv⟩
  ·refine(ok b u q).stay (fun c v hc r=>k c v ?_ r) (fun c r=>by rw[aK (nown c b r)];exact r) fun c xs r=>by rw[aK (ntup c xs r)];exact r
   rcases hc with rfl|hc
   ·exact i3
   ·rintro rfl
    rcases he with z|z
    ·exact nown c b hc z
    ·rw[hc]at z;cases z;exact hb rfl
end
structure Un (fs ex:List Addr) (H H':Hp) (h h':Heap):Prop where
 keep:∀b o,h.get? b=some o→H b=none→b∉fs→b∉ex→h'.get? b=some o
 slot:∀b o,h.get? b=some o→H b=none→b∈fs→b∉ex→∃sl,h'.get? b=some { o with slots:=sl }
 free:∀b o,h.get? b=some o→H b=none→b∉ex→H' b=none
 there:∀b o,h.get? b=some o→b∉ex→∃o',h'.get? b=some o'
 tups:∀b xs,H b=some (.tup xs)→H' b=some (.tup xs)
 frzs:∀b o u,H b=some (.frz o u)→H' b=some (.frz o u)
 tbls:∀b ps,H b=some (.tbl ps)→∃more,H' b=some (.tbl (ps++more))
section
variable {fs fs' ex ex':List Addr}{H H1 H2:Hp}{h h1 h2 h':Heap}{a x e:Addr}{o:HO}
theorem Un.any(u:Un fs ex H H1 h h1){b:Addr}{ob:Obj}(q:h.get? b=some ob)(n:H b=none)(hx:b∉ex):∃sl,h1.get? b=some { ob with slots:=sl }:=by
 by_cases hb:b∈fs
 ·exact u.slot b ob q n hb hx
 ·exact⟨ob.slots,u.keep b ob q n hb hx⟩
theorem Un.kept(k:∀b u,h.get? b=some u→h'.get? b=some u):Un fs ex H H h h':=
 ⟨fun b ob q _ _ _=>k b ob q,fun b ob q _ _ _=>⟨ob.slots,k b ob q⟩,fun _ _ _ n _=>n,fun b ob q _=>⟨ob,k b ob q⟩,fun _ _ q=>q,fun _ _ _ q=>q,fun _ ps q=>⟨#[],by rw[q];simp⟩⟩
theorem Un.refl:Un fs ex H H h h:=Un.kept fun _ _ q=>q
theorem Un.laid(k:∀b u,h.get? b=some u→h'.get? b=some u)(hp:h.objs.size≤a)(hn:H a=none):Un fs ex H (upd H a o) h h' where
 keep:=fun b u q _ _ _=>k b u q
 slot:=fun b u q _ _ _=>⟨u.slots,k b u q⟩
 free:=fun b u q n _=>by rw[aK (o3 (md (mr q) hp))];exact n
 there:=fun b u q _=>⟨u,k b u q⟩
 tups:=fun b xs q=>by rw[aK (aV q hn)];exact q
 frzs:=fun b u xs q=>by rw[aK (aV q hn)];exact q
 tbls:=fun b ps q=>⟨#[],by rw[aK (aV q hn),q];simp⟩
theorem Un.write(mu:k9 (H x))(he:e=x∨H e=some (.own x))(k:∀b u,b≠e→h.get? b=some u→h'.get? b=some u)(jh:∃u,h'.get? e=some u):Un fs ex H (upd H x o) h h':=by
 have hx:∀b,H b=none→b≠x:=fun b n z=>by subst z;rw[n]at mu;exact mu
 have hb:∀b,H b=none→b≠e:=fun b n z=>by
  subst z
  rcases he with r|r
  ·exact hx b n r
  ·rw[n]at r;cases r
 have hm:∀b u,H b=some u→¬k9 (some u)→b≠x:=fun b u q nm z=>by subst z;rw[q]at mu;exact nm mu
 refine⟨fun b u q n _ _=>k b u (hb b n) q,fun b u q n _ _=>⟨u.slots,k b u (hb b n) q⟩,fun b u q n _=>by rw[aK (hx b n)];exact n,fun b u q _=>?_,
  fun b xs q=>by rw[aK (hm b _ q fun z=>z)];exact q,fun b u xs q=>by rw[aK (hm b _ q fun z=>z)];exact q,fun b ps q=>⟨#[],by rw[aK (hm b _ q fun z=>z),q];simp⟩⟩
 by_cases i3:b=e
 ·subst i3;exact jh
 ·exact⟨u,k b u i3 q⟩
theorem Un.mono(u:Un fs ex H H1 h h1)(hs:∀b∈fs,b∈fs')(hx:∀b∈ex,b∈ex'):Un fs' ex' H H1 h h1:=
 ⟨fun b ob q n hb he=>u.keep b ob q n (fun z=>hb (hs b z)) fun z=>he (hx b z),fun _ _ q n _ he=>u.any q n fun z=>he (hx _ z),fun b ob q n he=>u.free b ob q n fun z=>he (hx b z),fun b ob q he=>u.there b ob q fun z=>he (hx b z),u.tups,u.frzs,u.tbls⟩
end
noncomputable def trk(h:Heap)(H:Hp):List Addr:=(List.range h.objs.size).filter fun a=>(H a).isSome
noncomputable def pZ(h:Heap)(H:Hp):Heap:=hideAll h (trk h H)
theorem AC(h:Heap)(H:Hp):(pZ h H).objs.size=h.objs.size:=PySem.W.hideAll_size _ _
theorem EG{h:Heap}{H:Hp}{b:Addr}{o:Obj}(e:h.get? b=some o)(n:H b=none):(pZ h H).get? b=some o:=
 PySem.W.hideAll_get _ e fun hm=>by
  have q:(H b).isSome=true:=(List.mem_filter.mp hm).2
  rw[n]at q;simp at q
theorem JY{h:Heap}{H:Hp}{b:Addr}{o:Obj}(e:(pZ h H).get? b=some o):h.get? b=some o∧H b=none:=by
 have e':h.get? b=some o:=PySem.W.of_hideAll (trk h H) e
 refine⟨e',?_⟩;cases q:H b with
 |none=>rfl
 |some x =>
  have hm:b∈trk h H:=List.mem_filter.mpr ⟨oy.mpr (mr e'),by simp[q]⟩
  have z:(pZ h H).get? b=none:=PySem.W.hideAll_none (trk h H) hm
  rw[z]at e;cases e
noncomputable def MP(g h:Heap)(L:Addr):List (Addr×Obj):=(List.range h.objs.size).filterMap fun a=>if a=L∨(g.get? a).isSome=true then none else(h.get? a).map fun o=>(a,o)
noncomputable def rest(g h:Heap)(L d:Addr):List (Addr×Obj):=(MP g h L).filter fun p=>decide (p.1≠d)
structure Mod (K:p6) (mg:pj) (base:Heap):Prop where
 kin:K.In base
 glob:base.Ns mainGlobals mg
 blt:∃mb,base.Ns builtinsNs mb∧∀x:Str,x≠"__name__"→mb x=bootBuiltins x
 nolimit:base.NoLimit
structure Cx where
 prog:p8
 w:World
 K:p6
 mg:Str→Option Value
 base:Heap
 A:Around
 N:List Str
 s₀:Shared
 H₀:Hp
 env:Env
 outer:List Env
 stack:List Env
 ex:List Addr
 fn:Str→Bool
 calm:Bool
 pn:List (Addr×Obj)
 xe:Value→Shared→Prop
noncomputable def frs(l:List Env):List Addr:=l.filterMap (·.frame)
abbrev Cx.fs(X:Cx):List Addr:=frs X.outer
def Vis(sc:Scope)(x:Str):Prop:=sc.names.lookup x=some .local∨sc.names.lookup x=some .cell∨sc.names.lookup x=some .free
def Loc(sc:Scope)(x:Str):Prop:=sc.names.lookup x=some .local∨sc.names.lookup x=some .cell
def Look(env:Env)(h:Heap)(m:pj)(x:Str)(u:Value):Prop:=
 (env.kindOf x=some .local∧m x=some u)∨((env.kindOf x=some .cell∨env.kindOf x=some .free)∧∃c,env.cells.lookup x=some c∧h.IsCell c (some u))
structure Cx.Ok (X:Cx):Prop where
 mod:Mod X.K X.mg X.base
 kind:X.env.scope.kind=.function
 glob:X.env.globals=mainGlobals
 blt:X.env.builtins=builtinsNs
 above:X.s₀.heap.objs.size≤X.env.locals
 inj:∀x y c,X.env.cells.lookup x=some c→X.env.cells.lookup y=some c→x=y
 has:∀x,(X.env.kindOf x=some .cell∨X.env.kindOf x=some .free)→∃c,X.env.cells.lookup x=some c
 cab:∀x c,X.fn x=true→X.env.cells.lookup x=some c→X.s₀.heap.objs.size≤c
 hd:X.calm=true→X.A.handled=none
 frames:X.A.frames=some X.stack
 stk:X.stack=X.outer∨(X.stack=X.env::X.outer∧X.env.frame=some X.env.locals)
 exf:∀b∈X.ex,b≠X.env.locals∧∀x c,X.env.cells.lookup x=some c→c≠b
 bs:∀b o,X.base.get? b=some o→X.s₀.heap.get? b=some o∧X.H₀ b=none
 bsz:X.base.objs.size≤X.s₀.heap.objs.size
 noex:∀b o,X.base.get? b=some o→b∉X.ex
 exfs:∀b∈X.ex,b∉X.fs
 funs:X.s₀.heap.FunFrames X.base X.outer
 frf:∀b∈X.fs,X.H₀ b=none
structure Inv (X:Cx) (pins:ph) (σ:List (Option V)) (H:Hp) (s:Shared):Prop where
 ok:X.Ok
 os:s.os=X.s₀.os
 bare:AllBare s.gens
 base:Un X.fs X.ex X.H₀ H X.s₀.heap s.heap
 loc:∃m,s.heap.Ns X.env.locals m∧∀(i:Nat) (x:Str) (v:V),X.N[i]?=some x→σ[i]?=some (some v)→Vis X.env.scope x→∃u,RelV v u∧Look X.env s.heap m x u
 cell:∀x c,X.env.cells.lookup x=some c→∃v,s.heap.IsCell c v
 free:H X.env.locals=none
 freeC:∀x c,X.env.cells.lookup x=some c→H c=none
 pin:∀p∈X.pn++pins,s.heap.get? p.1=some p.2∧H p.1=none∧p.1≠X.env.locals∧p.1∉X.fs∧∀v,p.2.data≠.cell v
 hok:HOk X.prog X.w H s.heap
 len:σ.length=X.N.length
section
variable {X:Cx}{pins:ph}{σ:List (Option V)}{H H':Hp}{s:Shared}{h':Heap}
theorem Cx.Ok.nofr(ok:X.Ok){b:Addr}{o:Obj}(e:X.base.get? b=some o):b∉X.fs:=fun hb=>by
 have:=(ok.funs.mem hb).1
 rw[e]at this;cases this
theorem Inv.bs(I:Inv X pins σ H s):∀b o,X.base.get? b=some o→s.heap.get? b=some o∧H b=none:=fun b o e =>
 ⟨I.base.keep b o (I.ok.bs b o e).1 (I.ok.bs b o e).2 (I.ok.nofr e) (I.ok.noex b o e),I.base.free b o (I.ok.bs b o e).1 (I.ok.bs b o e).2 (I.ok.noex b o e)⟩
theorem Inv.bk(I:Inv X pins σ H s):∀b o,X.base.get? b=some o→s.heap.get? b=some o:=fun b o e=>(I.bs b o e).1
theorem Inv.mod(I:Inv X pins σ H s):Mod X.K X.mg X.base:=I.ok.mod
theorem Inv.kIn(I:Inv X pins σ H s):X.K.In s.heap:=I.ok.mod.kin.keeps I.bk
theorem Inv.lt(I:Inv X pins σ H s):X.env.locals<s.heap.objs.size:=let ⟨_,hn,_⟩:=I.loc;hn.lt
theorem Inv.sz(I:Inv X pins σ H s):X.s₀.heap.objs.size≤s.heap.objs.size:=mw I.ok.above (Nat.le_of_lt I.lt)
theorem Inv.nofs(I:Inv X pins σ H s){a:Addr}(h:s.heap.objs.size≤a):a∉X.fs:=fun hb=>by
 obtain⟨_,o,ho,_⟩:=I.ok.funs.mem hb;exact absurd (md (mr ho) (mw I.sz h)) (o6 _)
theorem Inv.cne(I:Inv X pins σ H s):∀x c,X.env.cells.lookup x=some c→c≠X.env.locals:=fun x c e z=>by
 obtain⟨v,o,ho,hd⟩:=I.cell x c e;obtain⟨m,⟨o',es,ep,d6,hd',_⟩,_⟩:=I.loc;rw[z,d6]at ho;cases ho;rw[hd']at hd;cases hd
theorem Inv.funs(I:Inv X pins σ H s):s.heap.FunFrames X.base X.outer:=by
 have all:∀(l:List Env),(∀b∈frs l,b∈X.fs)→X.s₀.heap.FunFrames X.base l→s.heap.FunFrames X.base l:=by
  intro l
  induction l with
  |nil=>intro _ _;trivial
  |cons env r ih =>
   intro hs hl;obtain⟨hk,⟨L,o,hf,hn,ho,hd⟩,hr⟩:=hl;have hL:L∈X.fs:=hs L (by unfold frs;rw[List.filterMap_cons,hf];exact oi)
   obtain⟨sl,e⟩:=I.base.slot L o ho (I.ok.frf L hL) hL fun z=>I.ok.exfs L z hL
   exact⟨hk,⟨L,_,hf,hn,e,hd⟩,ih (fun b hb=>hs b (by unfold frs;rw[List.filterMap_cons,hf];exact lu _ hb)) hr⟩
 exact all X.outer (fun _ hb=>hb) I.ok.funs
theorem Inv.stack(I:Inv X pins σ H s):s.heap.FunFrames X.base X.stack:=by
 rcases I.ok.stk with e|⟨e,hf⟩
 ·rw[e];exact I.funs
 ·rw[e];obtain⟨m,hn,_⟩:=I.loc;refine .cons (by rw[I.ok.kind];decide) hf hn ?_ I.funs
  exact Heap.get?_none_of_le (mw I.ok.bsz I.ok.above)
theorem Inv.stkSub(I:Inv X pins σ H s):∀b∈frs X.stack,b∈X.env.locals::X.fs:=fun b hb=>by
 rcases I.ok.stk with e|⟨e,hf⟩
 ·rw[e]at hb;exact lu _ hb
 ·rw[e]at hb;unfold frs at hb;rw[List.filterMap_cons,hf]at hb;exact hb
theorem Inv.stkFree(I:Inv X pins σ H s):∀b∈frs X.stack,H b=none:=fun b hb=>by
 rcases my.mp (I.stkSub b hb) with e|hb
 ·rw[e];exact I.free
 ·obtain⟨_,o,ho,_⟩:=I.ok.funs.mem hb;exact I.base.free b o ho (I.ok.frf b hb) fun z=>I.ok.exfs b z hb
theorem Inv.step{g':Array GenState}{t':Nat}{d':Drawn}{ch:List Addr}(I:Inv X pins σ H s)
  (fe:∀b∈ch,(b∈X.ex∨X.s₀.heap.objs.size≤b)∧b≠X.env.locals∧(∀x c,X.env.cells.lookup x=some c→c≠b)∧∀p∈X.pn++pins,p.1≠b)
  (keep:∀b o,b≠X.env.locals→b∉X.fs→b∉ch→s.heap.get? b=some o→H b=none→h'.get? b=some o)
  (slot:∀b o,b≠X.env.locals→b∈X.fs→b∉ch→s.heap.get? b=some o→H b=none→∃sl,h'.get? b=some { o with slots:=sl }) (free:∀b o,b∉ch→s.heap.get? b=some o→H b=none→H' b=none)
  (there:∀b o,b∉ch→s.heap.get? b=some o→∃o',h'.get? b=some o')
  (tups:∀b xs,H b=some (.tup xs)→H' b=some (.tup xs)) (frzs:∀b o u,H b=some (.frz o u)→H' b=some (.frz o u)) (tbls:∀b ps,H b=some (.tbl ps)→∃more,H' b=some (.tbl (ps++more)))
  (ns:∀m,s.heap.Ns X.env.locals m→h'.Ns X.env.locals m) (hok:HOk X.prog X.w H' h') (hg:AllBare g') :
  Inv X pins σ H' { s with heap:=h',gens:=g',drawn:=d',toks:=t' }:=by
 have neL:∀b o,X.s₀.heap.get? b=some o→b≠X.env.locals:=fun b o e=>o3 (md (mr e) I.ok.above)
 have neC:∀b o,X.s₀.heap.get? b=some o→b∉X.ex→b∉ch:=fun b o e hx hb=>by
  rcases (fe b hb).1 with z|z
  ·exact hx z
  ·exact absurd (md (mr e) z) (o6 _)
 have cellK:∀x c,X.env.cells.lookup x=some c→∀v,s.heap.IsCell c v→h'.IsCell c v:=fun x c e v ⟨o,ho,hd⟩=>by
  have j0:c∉ch:=fun z=>(fe c z).2.2.1 x c e rfl
  by_cases hc:c∈X.fs
  ·obtain⟨sl,q⟩:=slot c o (I.cne x c e) hc j0 ho (I.freeC x c e);exact⟨_,q,hd⟩
  ·exact⟨o,keep c o (I.cne x c e) hc j0 ho (I.freeC x c e),hd⟩
 refine⟨I.ok,I.os,hg,⟨fun b o e n hb hx=>?_,fun b o e n hb hx=>?_,fun b o e n hx=>?_,fun b o e hx=>?_,fun b xs e=>tups b xs (I.base.tups b xs e),fun b o xs e=>frzs b o xs (I.base.frzs b o xs e),fun b ps e=>?_⟩,?_,fun x c e=>?_,?_,fun x c e=>?_,fun p hp=>?_,hok,I.len⟩
 ·exact keep b o (neL b o e) hb (neC b o e hx) (I.base.keep b o e n hb hx) (I.base.free b o e n hx)
 ·obtain⟨sl,e1⟩:=I.base.slot b o e n hb hx;obtain⟨sl',e2⟩:=slot b _ (neL b o e) hb (neC b o e hx) e1 (I.base.free b o e n hx);exact⟨sl',e2⟩
 ·obtain⟨o',e1⟩:=I.base.there b o e hx;exact free b o' (neC b o e hx) e1 (I.base.free b o e n hx)
 ·obtain⟨o',e1⟩:=I.base.there b o e hx;exact there b o' (neC b o e hx) e1
 ·obtain⟨m1,e1⟩:=I.base.tbls b ps e;obtain⟨m2,e2⟩:=tbls b _ e1;exact⟨m1++m2,by rw[e2,Array.append_assoc]⟩
 ·obtain⟨m,hn,hl⟩:=I.loc;refine⟨m,ns m hn,fun i x v e1 e2 e3=>?_⟩
  obtain⟨u,r,l⟩:=hl i x v e1 e2 e3;refine⟨u,r,?_⟩
  rcases l with l|⟨k,c,e,z⟩
  ·exact .inl l
  ·exact .inr ⟨k,c,e,cellK x c e _ z⟩
 ·obtain⟨v,z⟩:=I.cell x c e;exact⟨v,cellK x c e v z⟩
 ·obtain⟨m,⟨o,_,_,ho,_⟩,_⟩:=I.loc;exact free _ o (fun z=>(fe _ z).2.1 rfl) ho I.free
 ·obtain⟨v,o,ho,hd⟩:=I.cell x c e;exact free c o (fun z=>(fe c z).2.2.1 x c e rfl) ho (I.freeC x c e)
 ·obtain⟨e,n,ne,nf,d⟩:=I.pin p hp;have j0:p.1∉ch:=fun z=>(fe p.1 z).2.2.2 p hp rfl
  exact⟨keep p.1 p.2 ne nf j0 e n,free p.1 p.2 j0 e n,ne,nf,d⟩
theorem Inv.un{t':Nat}(I:Inv X pins σ H s)(u:Un X.fs [] H H' s.heap h')(hok:HOk X.prog X.w H' h'):Inv X pins σ H' { s with heap:=h',toks:=t' }:=by
 obtain⟨m,⟨o,es,ep,ho,r⟩,_⟩:=id I.loc;obtain⟨sl,hL⟩:=u.any ho I.free (by simp)
 exact I.step (g':=s.gens) (d':=s.drawn) (ch:=[]) (fun _ z=>nomatch z) (fun b o _ hb _ e n=>u.keep b o e n hb (by simp)) (fun b o _ hb _ e n=>u.slot b o e n hb (by simp)) (fun b o _ e n=>u.free b o e n (by simp)) (fun b o _ e=>u.there b o e (by simp)) u.tups u.frzs u.tbls (fun m' hm=>by
  obtain⟨o',dO,ep',d6,r'⟩:=hm;rw[ho]at d6;cases d6;exact⟨_,dO,ep',hL,r'⟩) hok I.bare
theorem Inv.call{g':Array GenState}{t':Nat}{d':Drawn}{ch:List Addr}(I:Inv X pins σ H s)(u:Un (frs X.stack) ch H H' s.heap h')(hok:HOk X.prog X.w H' h')(hg:AllBare g')
  (fe:∀b∈ch,(b∈X.ex∨X.s₀.heap.objs.size≤b)∧b≠X.env.locals∧(∀x c,X.env.cells.lookup x=some c→c≠b)∧∀p∈X.pn++pins,p.1≠b) :
  Inv X pins σ H' { s with heap:=h',gens:=g',drawn:=d',toks:=t' }:=by
 obtain⟨m,⟨o,es,ep,ho,r⟩,_⟩:=id I.loc;obtain⟨sl,hL⟩:=u.any ho I.free fun z=>(fe _ z).2.1 rfl
 exact I.step (ch:=ch) fe (fun b o hL hb hc e n=>u.keep b o e n (fun z=>(my.mp (I.stkSub b z)).elim hL hb) hc) (fun b o _ _ hc e n=>u.any e n hc) (fun b o hc e n=>u.free b o e n hc) (fun b o hc e=>u.there b o e hc) u.tups u.frzs u.tbls (fun m' hm=>by
  obtain⟨o',dO,ep',d6,r'⟩:=hm;rw[ho]at d6;cases d6;exact⟨_,dO,ep',hL,r'⟩) hok hg
theorem Inv.turned{t':Nat}{it:Addr}(I:Inv X pins σ H s)(k:∀b o,b≠it→s.heap.get? b=some o→h'.get? b=some o)(hn:H it=none)(hL:it≠X.env.locals)
  (h1:it∈X.ex∨X.s₀.heap.objs.size≤it) (h2:∀x c,X.env.cells.lookup x=some c→c≠it) (h3:∀p∈X.pn++pins,p.1≠it):Inv X pins σ H { s with heap:=h',toks:=t' }:=by
 have nit:∀b u,H b=some u→b≠it:=fun b u e z=>by rw[z,hn]at e;cases e
 refine I.step (g':=s.gens) (d':=s.drawn) (ch:=[it]) (fun b hb=>?_) (fun b o _ _ hc e _=>k b o (fun z=>hc (by simp[z])) e) (fun b o _ _ hc e _=>⟨o.slots,k b o (fun z=>hc (by simp[z])) e⟩) (fun _ _ _ _ n=>n)
  (fun b o hc e=>⟨o,k b o (fun z=>hc (by simp[z])) e⟩) (fun _ _ e=>e) (fun _ _ _ e=>e) (fun b ps e=>⟨#[],by rw[e];simp⟩) (fun m hm=>?_) (fun b u e=>?_) I.bare
 ·have e:b=it:=by simpa using hb
  subst e;exact⟨h1,hL,h2,h3⟩
 ·obtain⟨o,es,ep,ho,r⟩:=hm;exact⟨o,es,ep,k _ o (Ne.symm hL) ho,r⟩
 ·refine(I.hok b u e).stay (fun c v hc q=>k c v ?_ q) (fun _ q=>q) fun _ _ q=>q
  rcases hc with z|z
  ·rw[z];exact nit b u e
  ·exact nit c _ z
theorem Inv.tok(I:Inv X pins σ H s)(t:Nat):Inv X pins σ H { s with toks:=t }:=I.un (h':=s.heap) (t':=t) Un.refl I.hok
theorem Inv.kept{t':Nat}(I:Inv X pins σ H s)(k:∀b u,s.heap.get? b=some u→h'.get? b=some u):Inv X pins σ H { s with heap:=h',toks:=t' }:=I.un (Un.kept k) (I.hok.kept k)
theorem Inv.laid{a:Addr}{o:HO}{t':Nat}(I:Inv X pins σ H s)(k:∀b u,s.heap.get? b=some u→h'.get? b=some u)(hp:s.heap.objs.size≤a)(new:bM X.prog X.w (upd H a o) h' a o) :
  Inv X pins σ (upd H a o) { s with heap:=h',toks:=t' }:=I.un (Un.laid k hp (I.hok.fresh hp)) (I.hok.laid k hp new)
theorem Inv.write{x e:Addr}{o:HO}{t':Nat}(I:Inv X pins σ H s)(mu:k9 (H x))(he:e=x∨H e=some (.own x))(k:∀b u,b≠e→s.heap.get? b=some u→h'.get? b=some u)(jh:∃u,h'.get? e=some u)
  (new:bM X.prog X.w (upd H x o) h' x o):Inv X pins σ (upd H x o) { s with heap:=h',toks:=t' }:=I.un (Un.write mu he k jh) (I.hok.write mu he k jh new)
theorem Inv.pins_of{pins':ph}(I:Inv X pins σ H s)(h:∀p∈pins',s.heap.get? p.1=some p.2∧H p.1=none∧p.1≠X.env.locals∧p.1∉X.fs∧∀v,p.2.data≠.cell v):Inv X pins' σ H s:=
 ⟨I.ok,I.os,I.bare,I.base,I.loc,I.cell,I.free,I.freeC,fun p hp=>(mem_append.mp hp).elim (fun z=>I.pin p (List.mem_append_left _ z)) (h p),I.hok,I.len⟩
theorem sJ{N:List Str}(hN:N.Nodup){i j:Nat}{x:Str}(a:N[i]?=some x)(b:N[j]?=some x):i=j:=by
 obtain⟨h1,e1⟩:=l0.mp a;obtain⟨h2,e2⟩:=l0.mp b;exact(List.getElem_inj hN).mp (e1.trans e2.symm)
theorem nO{M:Model}{A:Around}{E:p9}{i:Nat}{x:Str}{v:V}{u:Value}{Q:Unit→Shared→Prop}(I:Inv X pins σ H s)(hN:X.N.Nodup)(hi:X.N[i]?=some x)(hx:Loc X.env.scope x)(r:RelV v u)
  (h:∀s',Inv X pins (σ.set i (some v)) H s'→(∃a,Heap.SameBut a s.heap s'.heap∧(a=X.env.locals∨X.env.cells.lookup x=some a))→Q () s') (hf:X.fn x=true∨X.env.scope.names.lookup x=some .local:=by first|exact .inl rfl|exact .inr rfl|assumption):wpAny M A (storeName X.env x u) Q E s:=by
 obtain⟨m,hn,hl⟩:=id I.loc;have hcls:(X.env.scope.kind == .class || (X.env.scope.kind == .module&&X.env.locals != X.env.globals))=false:=by rw[I.ok.kind];rfl
 have hiσ:i<σ.length:=by rw[I.len];exact(l0.mp hi).1
 have cne:=I.cne
 have tracked:∀{a:Addr} {h':Heap},(∃o,s.heap.get? a=some o∧H a=none)→Heap.SameBut a s.heap h'→HOk X.prog X.w H h':=fun {a h'} ha hs b ob e=>by
  obtain⟨_,_,hfree⟩:=ha;refine(I.hok b ob e).stay (fun c w' hc q=>(hs.2 c ?_).trans q) (fun _ q=>q) fun _ _ q=>q
  rintro rfl
  rcases hc with rfl|hc
  ·rw[hfree]at e;cases e
  ·rw[hfree]at hc;cases hc
 rcases hx with hk|hk
 ·refine wpAny_storeName_local hk hn (fun h' hn' hs=>?_) hcls
  obtain⟨oL,_,_,hoL,_⟩:=id hn;refine h _ ⟨I.ok,I.os,I.bare,⟨fun b o e n hb hx=>?_,fun b o e n hb hx=>?_,I.base.free,fun b o e hx=>?_,I.base.tups,I.base.frzs,I.base.tbls⟩,⟨_,hn',fun j y v' e1 e2 e3=>?_⟩,fun y c e=>?_,I.free,I.freeC,fun p hp=>?_,tracked ⟨oL,hoL,I.free⟩ hs,by simpa using I.len⟩ ⟨_,hs,.inl rfl⟩
  ·exact(hs.2 b (o3 (md (mr e) I.ok.above))).trans (I.base.keep b o e n hb hx)
  ·obtain⟨sl,e1⟩:=I.base.slot b o e n hb hx;exact⟨sl,(hs.2 b (o3 (md (mr e) I.ok.above))).trans e1⟩
  ·obtain⟨o',e1⟩:=I.base.there b o e hx;exact⟨o',(hs.2 b (o3 (md (mr e) I.ok.above))).trans e1⟩
  ·by_cases hj:j=i
   ·subst hj;rw[hi]at e1;cases e1;rw[mn hiσ]at e2;cases e2;exact⟨u,r,.inl ⟨hk,by simp⟩⟩
   ·rw[mq (Ne.symm hj)]at e2;obtain⟨u',r',q⟩:=hl j y v' e1 e2 e3;refine⟨u',r',?_⟩
    rcases q with ⟨k,e⟩|⟨k,c,e,z⟩
    ·refine .inl ⟨k,?_⟩;have:y≠x:=fun e=>hj (sJ hN e1 (e ▸ hi))
     simp[this,e]
    ·exact .inr ⟨k,c,e,z.sameBut hs (cne y c e)⟩
  ·obtain⟨w',z⟩:=I.cell y c e;exact⟨w',z.sameBut hs (cne y c e)⟩
  ·obtain⟨e,n,ne,nf,d⟩:=I.pin p hp;exact⟨(hs.2 p.1 ne).trans e,n,ne,nf,d⟩
 ·have dg:X.fn x=true:=by
   rcases hf with z|z
   ·exact z
   ·rw[z]at hk;cases hk
  obtain⟨c,hc⟩:=I.ok.has x (.inl hk);obtain⟨w',z⟩:=I.cell x c hc;refine wpAny_storeName_cell I.ok.kind hk hc z (fun h' hc' hs=>?_)
  obtain⟨oc,hoc,hocd⟩:=id z;refine h { s with heap:=h' } ⟨I.ok,I.os,I.bare,⟨fun b o e n hb hx=>?_,fun b o e n hb hx=>?_,I.base.free,fun b o e hx=>?_,I.base.tups,I.base.frzs,I.base.tbls⟩,⟨m,hn.sameBut hs (Ne.symm (cne x c hc)),fun j y v' e1 e2 e3=>?_⟩,fun y c' e=>?_,I.free,I.freeC,fun p hp=>?_,tracked ⟨oc,hoc,I.freeC x c hc⟩ hs,by simpa using I.len⟩ ⟨c,hs,.inr hc⟩
  ·exact(hs.2 b (o3 (md (mr e) (I.ok.cab x c dg hc)))).trans (I.base.keep b o e n hb hx)
  ·obtain⟨sl,e1⟩:=I.base.slot b o e n hb hx;exact⟨sl,(hs.2 b (o3 (md (mr e) (I.ok.cab x c dg hc)))).trans e1⟩
  ·obtain⟨o',e1⟩:=I.base.there b o e hx;exact⟨o',(hs.2 b (o3 (md (mr e) (I.ok.cab x c dg hc)))).trans e1⟩
  ·by_cases hj:j=i
   ·subst hj;rw[hi]at e1;cases e1;rw[mn hiσ]at e2;cases e2;exact⟨u,r,.inr ⟨.inl hk,c,hc,hc'⟩⟩
   ·rw[mq (Ne.symm hj)]at e2;obtain⟨u',r',q⟩:=hl j y v' e1 e2 e3;refine⟨u',r',?_⟩
    rcases q with q|⟨k,c',e,z'⟩
    ·exact .inl q
    ·refine .inr ⟨k,c',e,z'.sameBut hs ?_⟩;rintro rfl;exact hj (sJ hN e1 (I.ok.inj _ _ _ e hc ▸ hi))
  ·by_cases hcc:c'=c
   ·subst hcc;exact⟨_,hc'⟩
   ·obtain⟨w2,z2⟩:=I.cell y c' e;exact⟨w2,z2.sameBut hs hcc⟩
  ·obtain⟨e,n,ne,nf,d⟩:=I.pin p hp;refine⟨(hs.2 p.1 ?_).trans e,n,ne,nf,d⟩;intro q;rw[q,hoc]at e;have q':oc=p.2:=lz e
   exact d w' (by rw[←q'];exact hocd)
theorem rQ{M:Model}{A:Around}{E:p9}{i:Nat}{x:Str}{v:V}{u:Value}{Q:Unit→Shared→Prop}(I:Inv X pins σ H s)(hN:X.N.Nodup)(hi:X.N[i]?=some x)(hx:Loc X.env.scope x)(r:RelV v u)
  (h:∀s',Inv X pins (σ.set i (some v)) H s'→Q () s') (hf:X.fn x=true∨X.env.scope.names.lookup x=some .local:=by first|exact .inl rfl|exact .inr rfl|assumption):wpAny M A (storeName X.env x u) Q E s:=
 nO I hN hi hx r (fun s' I' _=>h s' I') hf
theorem Inv.call'{s':Shared}{ch:List Addr}(I:Inv X pins σ H s)(ho:s'.os=s.os)(u:Un (frs X.stack) ch H H' s.heap s'.heap)(hok:HOk X.prog X.w H' s'.heap)(hg:AllBare s'.gens)
  (fe:∀b∈ch,(b∈X.ex∨X.s₀.heap.objs.size≤b)∧b≠X.env.locals∧(∀x c,X.env.cells.lookup x=some c→c≠b)∧∀p∈X.pn++pins,p.1≠b):Inv X pins σ H' s':=by
 obtain⟨h',g',d',t',o'⟩:=s';have e:o'=s.os:=ho
 subst e;exact I.call (g':=g') (t':=t') (d':=d') u hok hg fe
end
abbrev XK:=Value→Option Addr→Hp→Prop
abbrev St:=List (Option V)
abbrev VK:=V→Hp→Prop
abbrev TE:=St→Hp→VK→Prop
abbrev TT:=St→Hp→(Bool→Hp→Prop)→Prop
abbrev TA:=St→Hp→(List V→Hp→Prop)→Prop
structure Ends where
 nx:St→Hp→Prop
 rt:VK
 bk:St→Hp→Prop:=fun _ _=>False
 ct:St→Hp→Prop:=fun _ _=>False
abbrev TS:=Ends→St→Hp→Prop
def EP(X:Cx)(pins:ph)(σ:St)(Q:VK)(u:Value)(s':Shared):Prop:=∃v H',Inv X pins σ H' s'∧RelV v u∧Q v H'
def TP(X:Cx)(pins:ph)(σ:St)(Q:Bool→Hp→Prop)(b:Bool)(s':Shared):Prop:=∃H',Inv X pins σ H' s'∧Q b H'
def AP(X:Cx)(pins:ph)(σ:St)(Q:List V→Hp→Prop)(us:List Value)(s':Shared):Prop:=∃vs H',Inv X pins σ H' s'∧aM vs us∧Q vs H'
def SP(X:Cx)(pins:ph)(D:Ends)(f:Flow)(s':Shared):Prop:=
 match f with
 |.next=>∃σ' H',Inv X pins σ' H' s'∧D.nx σ' H'
 |.brk=>∃σ' H',Inv X pins σ' H' s'∧D.bk σ' H'
 |.cont=>∃σ' H',Inv X pins σ' H' s'∧D.ct σ' H'
 |.ret u=>∃v σ' H',Inv X pins σ' H' s'∧RelV v u∧D.rt v H'
def PE(X:Cx)(e:Expr)(t:TE):Prop:=
 ∀(pins:ph) (s:Shared) (σ:St) (H:Hp) (Q:VK),Inv X pins σ H s→t σ H Q→wpAny (model X.prog X.w) X.A (eval e X.env) (EP X pins σ Q) X.xe s
def PT(X:Cx)(e:Expr)(t:TT):Prop:=
 ∀(pins:ph) (s:Shared) (σ:St) (H:Hp) (Q:Bool→Hp→Prop),Inv X pins σ H s→t σ H Q→wpAny (model X.prog X.w) X.A (isTrue e X.env (eval e X.env)) (TP X pins σ Q) X.xe s
def PW(X:Cx)(e:Expr)(t:TT):Prop:=
 ∀(whole:Sem Value) (pins:ph) (s:Shared) (σ:St) (H:Hp) (Q:Bool→Hp→Prop),Inv X pins σ H s→t σ H Q→wpAny (model X.prog X.w) X.A (isTrue e X.env whole) (TP X pins σ Q) X.xe s
theorem PW.pt{X:Cx}{e:Expr}{t:TT}(h:PW X e t):PT X e t:=h _
def PA(X:Cx)(es:List Expr)(t:TA):Prop:=
 ∀(pos:Pos) (pins:ph) (s:Shared) (σ:St) (H:Hp) (Q:List V→Hp→Prop),Inv X pins σ H s→t σ H Q→wpAny (model X.prog X.w) X.A (spliced (backTo pos (starEach es X.env))) (AP X pins σ Q) X.xe s
def PS(X:Cx)(st:Stmt)(t:TS):Prop:=
 ∀(pins:ph) (s:Shared) (σ:St) (H:Hp) (D:Ends),Inv X pins σ H s→t D σ H→wpAny (model X.prog X.w) X.A (exec st X.env) (SP X pins D) X.xe s
def PSs(X:Cx)(st:List Stmt)(t:TS):Prop:=
 ∀(pins:ph) (s:Shared) (σ:St) (H:Hp) (D:Ends),Inv X pins σ H s→t D σ H→wpAny (model X.prog X.w) X.A (execs st X.env) (SP X pins D) X.xe s
theorem af{α:Type}{t:Sem α}{Q Q':α→Shared→Prop}{M:Model}{A:Around}{E:p9}{s:Shared}(h:wpAny M A t Q E s)(hQ:∀a s,Q a s→Q' a s):wpAny M A t Q' E s:=o9 h hQ fun _ _ x=>x
section
variable {X:Cx}
theorem bin{a b:Expr}{ta tb:TE}(ha:PE X a ta)(hb:PE X b tb){pins:ph}{s:Shared}{σ:St}{H:Hp}{R:V→V→Hp→Prop}(I:Inv X pins σ H s)(h:ta σ H fun x H1=>tb σ H1 fun y H2=>R x y H2)
  {α:Type} {Q:α→Shared→Prop} {f:Value→Value→Sem α}
  (hf:∀v u s2 x y H2,Inv X pins σ H2 s2→RelV x v→RelV y u→R x y H2→wpAny (model X.prog X.w) X.A (f v u) Q X.xe s2) :
  wpAny (model X.prog X.w) X.A (eval a X.env) (fun v s₁=>wpAny (model X.prog X.w) X.A (eval b X.env) (fun u s₂=>wpAny (model X.prog X.w) X.A (f v u) Q X.xe s₂) X.xe s₁) X.xe s:=by
 refine af (ha pins s σ H _ I h) fun v s1 ⟨x,H1,I1,r1,q1⟩=>?_
 refine af (hb pins s1 σ H1 _ I1 q1) fun u s2 ⟨y,H2,I2,r2,q2⟩=>?_
 exact hf v u s2 x y H2 I2 r1 r2 q2
def zA(i:Nat):TE:=fun σ H Q=>∃v,σ[i]?=some (some v)∧Q v H
def tC(v:V):TE:=fun _ H Q=>Q v H
theorem pK{i:Nat}{x:Str}{pos:Pos}(hN:X.N[i]?=some x)(hv:Vis X.env.scope x)(hd:(x == ("__debug__":Str))=false:=by decide)(c7:(x == ("__classdict__":Str))=false:=by decide):PE X (.Name x pos) (zA i):=by
 intro pins s σ H Q I h;obtain⟨v,e,h⟩:=h;obtain⟨m,hn,hl⟩:=I.loc;obtain⟨u,r,l⟩:=hl i x v hN e hv;have fin:EP X pins σ Q u s:=⟨v,H,I,r,h⟩
 rcases l with ⟨hk,hm⟩|⟨hk,c,hc,hcell⟩
 ·exact wpAny_Name (wpAny_loadName_local I.ok.kind hk hn hm fin) hd
 ·rcases hk with hk|hk
  ·exact wpAny_Name (wpAny_loadName_cell I.ok.kind hk hc hcell fin) hd
  ·exact wpAny_Name (wpAny_loadName_free I.ok.kind hk hc hcell fin c7) hd
theorem CJ{i j pos}:PE X (.Constant (.int i) j pos) (tC (.int i)):=fun _ _ _ H _ I h=>wpAny_Constant_int ⟨.int i,H,I.tok _,⟨_,rfl⟩,h⟩
theorem NK{b j pos}:PE X (.Constant (.bool b) j pos) (tC (.bl b)):=fun _ _ _ H _ I h=>Constant_bool ⟨.bl b,H,I,rfl,h⟩
theorem QV{j pos}:PE X (.Constant .none j pos) (tC .non):=fun _ _ _ H _ I h=>Constant_none ⟨.non,H,I,rfl,h⟩
theorem QT{x j pos}:PE X (.Constant (.str x) j pos) (tC (.str x)):=fun _ _ _ H _ I h=>Calls.Constant_str ⟨.str x,H,I.tok _,⟨_,rfl⟩,h⟩
def Gl(X:Cx)(x:Str):Prop:=X.env.kindOf x=some .globalImplicit
theorem fE{E:p9}{pins:ph}{s:Shared}{σ:St}{H:Hp}{x:Str}{u:Value}{pos:Pos}{Q:p9}(I:Inv X pins σ H s)(hg:Gl X x)(hm:X.mg x=some u)(h:Q u s)
  (hd:(x == ("__debug__":Str))=false:=by decide):wpAny (model X.prog X.w) X.A (eval (.Name x pos) X.env) Q E s:=
 Calls.Name_function_global I.ok.kind hg (Calls.loadGlobal_global (by rw[I.ok.glob];exact I.mod.glob.keeps I.bk) hm h) hd
theorem gI{E:p9}{pins:ph}{s:Shared}{σ:St}{H:Hp}{x:Str}{u:Value}{pos:Pos}{Q:p9}(I:Inv X pins σ H s)(hg:Gl X x)(hm:X.mg x=none)(hv:bootBuiltins x=some u)(h:Q u s)
  (hn:x≠"__name__":=by decide) (hd:(x == ("__debug__":Str))=false:=by decide):wpAny (model X.prog X.w) X.A (eval (.Name x pos) X.env) Q E s:=by
 obtain⟨mb,h1,h2⟩:=I.mod.blt;exact Calls.Name_function_global I.ok.kind hg (Calls.loadGlobal_builtin (by rw[I.ok.glob];exact I.mod.glob.keeps I.bk) hm (by rw[I.ok.blt];exact h1.keeps I.bk) ((h2 x hn).trans hv) h) hd
theorem JD{x:Str}{v:V}{u:Value}{pos:Pos}(hg:Gl X x)(hm:X.mg x=some u)(r:RelV v u)(hd:(x == ("__debug__":Str))=false:=by decide):PE X (.Name x pos) (tC v):=
 fun _ _ _ H _ I h=>fE I hg hm ⟨v,H,I,r,h⟩ hd
theorem wA{x:Str}{v:V}{u:Value}{pos:Pos}(hg:Gl X x)(hm:X.mg x=none)(hv:bootBuiltins x=some u)(r:RelV v u)(hn:x≠"__name__":=by decide)(hd:(x == ("__debug__":Str))=false:=by decide):PE X (.Name x pos) (tC v):=
 fun _ _ _ H _ I h=>gI I hg hm hv ⟨v,H,I,r,h⟩ hn hd
variable {a b:Expr}{ta tb:TE}{pos:Pos}
def PC(X:Cx)(op:CmpOp)(a b:Expr)(t:TE):Prop:=
 ∀(pins:ph) (s:Shared) (σ:St) (H:Hp) (Q:VK),Inv X pins σ H s→t σ H Q →
  wpAny (model X.prog X.w) X.A (eval a X.env) (fun v s₁=>wpAny (model X.prog X.w) X.A (eval b X.env) (fun u s₂=>wpAny (model X.prog X.w) X.A (compareOp op v u) (EP X pins σ Q) X.xe s₂) X.xe s₁) X.xe s
theorem sL(b:Expr){op:CmpOp}(h:op≠.In)(h2:op≠.NotIn):behindInMarks op b=false:=by
 have e1:(op == CmpOp.In)=false:=by cases op<;>first|rfl|exact absurd rfl h
 have e2:(op == CmpOp.NotIn)=false:=by cases op<;>first|rfl|exact absurd rfl h2
 cases b<;>simp[behindInMarks,e1,e2]
noncomputable def tB(t:TE):TT:=fun σ H Q=>t σ H fun x H1=>∃c,x=.bl c∧Q c H1
theorem QY{op:CmpOp}{t:TE}(h:PC X op a b t)(h1:behindInMarks op b=false:=by first|exact sL _ (by decide) (by decide)|rfl):PE X (.Compare a [op] [b] pos) t:=fun pins s σ H Q I hw=>wpAny_Compare1 (h pins s σ H Q I hw) h1
theorem QO{op:CmpOp}{t:TE}(h:PC X op a b t)(h1:behindInMarks op b=false:=by first|exact sL _ (by decide) (by decide)|rfl):PT X (.Compare a [op] [b] pos) (tB t):=by
 intro pins s σ H Q I hw;refine wpAny_isTrue_Compare1 (af (h pins s σ H _ I hw) fun v s1 h1=>af h1 fun u s2 h2=>af h2 fun c s3 ⟨x,H1,I1,r1,q1⟩=>?_) h1
 obtain⟨d,rfl,q⟩:=q1;cases r1;exact wpAny_truthy_bool ⟨H1,I1,q⟩
theorem CA{e:Expr}{t:TE}(h:PE X e t)(he:∀whole,isTrue e X.env whole=(do let v ←whole;standAt e.pos;holding [v] (truthy v)):=by intro _;rfl):PT X e (tB t):=by
 intro pins s σ H Q I hw;refine isTrue_plain (af (h pins s σ H _ I hw) fun v s1 ⟨x,H1,I1,r1,q1⟩=>?_) (he _)
 obtain⟨d,rfl,q⟩:=q1;cases r1;exact wpAny_truthy_bool ⟨H1,I1,q⟩
variable {tA tB':TT}{rest:List Expr}
noncomputable def aCX(t u:TT):TT:=fun σ H Q=>t σ H fun c H1=>if c=true then u σ H1 Q else Q false H1
noncomputable def tOr(t u:TT):TT:=fun σ H Q=>t σ H fun c H1=>if c=true then Q true H1 else u σ H1 Q
noncomputable def WH(t:TT):TT:=fun σ H Q=>t σ H fun c H1=>Q (!c) H1
theorem IP(ha:PT X a tA):PW X (.BoolOp .And [a] pos) tA:=by
 intro wh pins s σ H Q I h;refine isTrue_and (af (ha pins s σ H Q I h) fun c s1 e=>?_)
 cases c with
 |true=>exact isTrue_and_nil e
 |false=>exact e
theorem pH(ha:PT X a tA):PW X (.BoolOp .Or [a] pos) tA:=by
 intro wh pins s σ H Q I h;refine isTrue_or (af (ha pins s σ H Q I h) fun c s1 e=>?_)
 cases c with
 |false=>exact isTrue_or_nil e
 |true=>exact e
theorem BY(ha:PT X a tA)(hb:PW X (.BoolOp .And (b::rest) pos) tB'):PW X (.BoolOp .And (a::b::rest) pos) (aCX tA tB'):=by
 intro wh pins s σ H Q I h;refine isTrue_and (af (ha pins s σ H _ I h) fun c s1 ⟨H1,I1,q1⟩=>?_)
 cases c with
 |true=>exact hb wh pins s1 σ H1 Q I1 q1
 |false=>exact⟨H1,I1,q1⟩
theorem rX(ha:PT X a tA)(hb:PW X (.BoolOp .Or (b::rest) pos) tB'):PW X (.BoolOp .Or (a::b::rest) pos) (tOr tA tB'):=by
 intro wh pins s σ H Q I h;refine isTrue_or (af (ha pins s σ H _ I h) fun c s1 ⟨H1,I1,q1⟩=>?_)
 cases c with
 |true=>exact⟨H1,I1,q1⟩
 |false=>exact hb wh pins s1 σ H1 Q I1 q1
theorem uG(ha:PT X a tA):PT X (.UnaryOp .Not a pos) (WH tA):=by
 intro pins s σ H Q I h;exact isTrue_not (ha pins s σ H (fun c H1=>Q (!c) H1) I h)
def WK(ta tb:TE):TE:=fun σ H Q=>ta σ H fun x H1=>∃c,x=.bl c∧if c=true then tb σ H1 Q else Q (.bl false) H1
def aCS(ta tb:TE):TE:=fun σ H Q=>ta σ H fun x H1=>∃c,x=.bl c∧if c=true then Q (.bl true) H1 else tb σ H1 Q
theorem QU{op}{t:TE}(h:PE X a t):PE X (.BoolOp op [a] pos) t:=fun pins s σ H Q I hw=>BoolOp_one (h pins s σ H Q I hw)
theorem CL(ha:PE X a ta)(hb:PE X (.BoolOp .And (b::rest) pos) tb):PE X (.BoolOp .And (a::b::rest) pos) (WK ta tb):=by
 intro pins s σ H Q I h;refine BoolOp_and (af (ha pins s σ H _ I h) fun v s1 ⟨x,H1,I1,r1,q1⟩=>?_)
 obtain⟨c,rfl,q1⟩:=q1;cases r1;refine wpAny_truthy_bool ?_;cases c with
 |true=>exact hb pins s1 σ H1 Q I1 q1
 |false=>exact⟨.bl false,H1,I1,rfl,q1⟩
theorem NG(ha:PE X a ta)(hb:PE X (.BoolOp .Or (b::rest) pos) tb):PE X (.BoolOp .Or (a::b::rest) pos) (aCS ta tb):=by
 intro pins s σ H Q I h;refine BoolOp_or (af (ha pins s σ H _ I h) fun v s1 ⟨x,H1,I1,r1,q1⟩=>?_)
 obtain⟨c,rfl,q1⟩:=q1;cases r1;refine wpAny_truthy_bool ?_;cases c with
 |false=>exact hb pins s1 σ H1 Q I1 q1
 |true=>exact⟨.bl true,H1,I1,rfl,q1⟩
def tIf(t:TT)(ta tb:TE):TE:=fun σ H Q=>t σ H fun c H1=>if c=true then ta σ H1 Q else tb σ H1 Q
theorem sF{c:Expr}(hc:PT X c tA)(ha:PE X a ta)(hb:PE X b tb):PE X (.IfExp c a b pos) (tIf tA ta tb):=by
 intro pins s σ H Q I h;refine wpAny_IfExp (af (hc pins s σ H _ I h) fun d s1 ⟨H1,I1,q1⟩=>?_)
 cases d with
 |true=>exact ha pins s1 σ H1 Q I1 q1
 |false=>exact hb pins s1 σ H1 Q I1 q1
end
def SqL(K:p6)(H:Hp)(a:Addr)(xs:List V):Prop:=
 Rd H a (.lst xs) ∨
  ∃(o:Obj) (its:Array Value) (n:Nat),K.lookup a=some o∧o.cls=.type "list"∧o.dict=none∧o.data=.seq its n∧its.size≤sizeLine∧aM xs its.toList
def SqT(K:p6)(H:Hp)(a:Addr)(xs:List V):Prop:=
 Rd H a (.tup xs) ∨
  ∃(o:Obj) (its:Array Value) (n:Nat),K.lookup a=some o∧o.cls=.type "tuple"∧o.data=.seq its n∧its.size≤sizeLine∧aM xs its.toList
noncomputable def aEo:Value→Option V
 |.none=>some .non
 |.bool b=>some (.bl b)
 |.int i _=>some (.int i)
 |.str x _=>some (.str x)
 |.bytes b _=>some (.byt b)
 |.float b _=>some (.flt b)
 |.ref a=>some (.ref a)
 |.type n=>some (.ty n)
 |_=>none
theorem RelV.abs{x:V}{u:Value}(r:RelV x u):aEo u=some x:=by
 cases x with
 |non=>cases r;rfl
 |bl _=>cases r;rfl
 |int _=>obtain⟨t,rfl⟩:=r;rfl
 |str _=>obtain⟨t,rfl⟩:=r;rfl
 |byt _=>obtain⟨t,rfl⟩:=r;rfl
 |flt _=>obtain⟨t,rfl⟩:=r;rfl
 |ref _=>cases r;rfl
 |ty _=>cases r;rfl
theorem RelV.inj{x y:V}{u:Value}(r:RelV x u)(q:RelV y u):x=y:=lz (r.abs.symm.trans q.abs)
theorem aM.inj:∀{xs ys:List V} {us:List Value},aM xs us→aM ys us→xs=ys
 |_,_,_,.nil,.nil=>rfl
 |_,_,_,.cons r t,.cons r' t'=>by rw[r.inj r',aM.inj t t']
section
variable {X:Cx}{pins:ph}{σ:St}{H:Hp}{s:Shared}{a:Addr}{xs ys:List V}
theorem SqL.of{K:p6}(h:H a=some (.lst xs)):SqL K H a xs:=.inl (.inl h)
theorem SqT.of{K:p6}(h:H a=some (.tup xs)):SqT K H a xs:=.inl (.inl h)
theorem Inv.list(I:Inv X pins σ H s)(h:SqL X.K H a xs):∃its:List Value,aM xs its∧PlainL s.heap a its.toArray∧xs.length≤sizeLine:=by
 rcases h with h|⟨o,its,n,hk,hc,hd,hs,hz,r⟩
 ·obtain⟨z,its,n,r,e⟩:=h.ok I.hok;exact⟨its,r,⟨_,n,e,rfl,rfl,rfl⟩,z⟩
 ·refine⟨its.toList,r,⟨o,n,I.kIn a o hk,hc,hd,by simpa using hs⟩,?_⟩
  have e:=r.length
  simp only[length_toList]at e;omega
theorem Inv.tuple(I:Inv X pins σ H s)(h:SqT X.K H a xs):∃its:List Value,aM xs its∧IsTup s.heap a its.toArray∧xs.length≤sizeLine:=by
 rcases h with h|⟨o,its,n,hk,hc,hs,hz,r⟩
 ·obtain⟨z,its,r,p⟩:=h.ok I.hok;exact⟨its,r,p,z⟩
 ·refine⟨its.toList,r,⟨o,I.kIn a o hk,hc,n,by simpa using hs⟩,?_⟩
  have e:=r.length
  simp only[length_toList]at e;omega
theorem Inv.list_inj(I:Inv X pins σ H s)(h:SqL X.K H a xs)(h':SqL X.K H a ys):xs=ys:=by
 obtain⟨its,r,⟨o,n,e,_,_,d⟩,_⟩:=I.list h;obtain⟨its',r',⟨o',n',e',_,_,d'⟩,_⟩:=I.list h';rw[e]at e';cases e';rw[d]at d';injection d' with d1 _
 have:its=its':=by simpa using congrArg Array.toList d1
 subst this;exact r.inj r'
theorem Inv.tuple_inj(I:Inv X pins σ H s)(h:SqT X.K H a xs)(h':SqT X.K H a ys):xs=ys:=by
 obtain⟨its,r,⟨o,e,_,n,d⟩,_⟩:=I.tuple h;obtain⟨its',r',⟨o',e',_,n',d'⟩,_⟩:=I.tuple h';rw[e]at e';cases e';rw[d]at d';injection d' with d1 _
 have:its=its':=by simpa using congrArg Array.toList d1
 subst this;exact r.inj r'
end
abbrev Cx.wish(X:Cx)(E:p9):Cx:={ X with xe:=E }
abbrev Cx.nox(X:Cx):Cx:=X.wish fun _ _=>False
theorem Cx.Ok.wish{X:Cx}(ok:X.Ok)(E:p9):(X.wish E).Ok:=
 ⟨ok.mod,ok.kind,ok.glob,ok.blt,ok.above,ok.inj,ok.has,ok.cab,ok.hd,ok.frames,ok.stk,ok.exf,ok.bs,ok.bsz,ok.noex,ok.exfs,ok.funs,ok.frf⟩
theorem Cx.Ok.unwish{X:Cx}{E:p9}(ok:(X.wish E).Ok):X.Ok:=
 ⟨ok.mod,ok.kind,ok.glob,ok.blt,ok.above,ok.inj,ok.has,ok.cab,ok.hd,ok.frames,ok.stk,ok.exf,ok.bs,ok.bsz,ok.noex,ok.exfs,ok.funs,ok.frf⟩
section
variable {X:Cx}{pins:ph}{σ:St}{H:Hp}{s:Shared}{E:p9}
theorem Inv.wish(I:Inv X pins σ H s)(E:p9):Inv (X.wish E) pins σ H s:=⟨I.ok.wish E,I.os,I.bare,I.base,I.loc,I.cell,I.free,I.freeC,I.pin,I.hok,I.len⟩
theorem Inv.unwish(I:Inv (X.wish E) pins σ H s):Inv X pins σ H s:=⟨I.ok.unwish,I.os,I.bare,I.base,I.loc,I.cell,I.free,I.freeC,I.pin,I.hok,I.len⟩
theorem SP.unwish{D:Ends}{f:Flow}{s':Shared}(h:SP (X.wish E) pins D f s'):SP X pins D f s':=by
 cases f with
 |next=>obtain⟨σ',H',I,q⟩:=h;exact⟨σ',H',I.unwish,q⟩
 |brk=>obtain⟨σ',H',I,q⟩:=h;exact⟨σ',H',I.unwish,q⟩
 |cont=>obtain⟨σ',H',I,q⟩:=h;exact⟨σ',H',I.unwish,q⟩
 |ret u=>obtain⟨v,σ',H',I,r,q⟩:=h;exact⟨v,σ',H',I.unwish,r,q⟩
theorem PE.nox{e:Expr}{t:TE}(h:PE X.nox e t):PE X e t:=fun pins s σ H Q I hw =>
 o9 (h pins s σ H Q (I.wish _) hw) (fun _ _ ⟨v,H',I',r,q⟩=>⟨v,H',I'.unwish,r,q⟩) fun _ _ z=>False.elim z
theorem PT.nox{e:Expr}{t:TT}(h:PT X.nox e t):PT X e t:=fun pins s σ H Q I hw =>
 o9 (h pins s σ H Q (I.wish _) hw) (fun _ _ ⟨H',I',q⟩=>⟨H',I'.unwish,q⟩) fun _ _ z=>False.elim z
theorem PSs.nox{st:List Stmt}{t:TS}(h:PSs X.nox st t):PSs X st t:=fun pins s σ H D I hw =>
 o9 (h pins s σ H D (I.wish _) hw) (fun _ _ q=>q.unwish) fun _ _ z=>False.elim z
end
section
variable {X:Cx}{st:Stmt}{rest:List Stmt}{t u:TS}{e:Expr}{te:TE}{pos:Pos}
def NA:TS:=fun D σ H=>D.nx σ H
def aCQ(t u:TS):TS:=fun D σ H=>t { D with nx:=u D } σ H
theorem kR:PSs X [] NA:=fun _ _ σ H _ I h=>wpAny_execs_nil ⟨σ,H,I,h⟩
theorem sA(h1:PS X st t)(h2:PSs X rest u):PSs X (st::rest) (aCQ t u):=by
 intro pins s σ H D I h;refine wpAny_execs_cons (af (h1 pins s σ H { D with nx:=u D } I h) fun f s1 q=>?_)
 cases f with
 |next =>
  obtain⟨σ',H',I',q⟩:=q;exact h2 pins s1 σ' H' D I' q
 |ret v=>exact q
 |brk=>exact q
 |cont=>exact q
theorem pI(h1:PS X st t):PSs X [st] t:=by
 intro pins s σ H D I h;refine wpAny_execs_cons (af (h1 pins s σ H D I h) fun f s1 q=>?_)
 cases f with
 |next=>exact wpAny_execs_nil q
 |ret v=>exact q
 |brk=>exact q
 |cont=>exact q
theorem IR:PS X (.Pass pos) NA:=fun _ _ σ H _ I h=>wpAny_Pass ⟨σ,H,I,h⟩
theorem Inv.quiet{pins:ph}{σ:St}{H:Hp}{s:Shared}(I:Inv X pins σ H s):interactive X.env=false:=by simp[interactive,I.ok.kind]
def WI(te:TE):TS:=fun D σ H=>te σ H fun _ H1=>D.nx σ H1
theorem pJ(he:PE X e te)(hs:swapsWith e none pos.line X.env=pure false:=by rfl):PS X (.Expr e pos) (WI te):=by
 intro pins s σ H D I h;exact wpAny_Expr_any (af (he pins s σ H _ I h) fun v s1 ⟨x,H1,I1,r1,q1⟩=>⟨σ,H1,I1,q1⟩) I.quiet hs
def aCR(te:TE):TS:=fun D σ H=>te σ H D.rt
theorem lM(he:PE X e te):PS X (.Return (some e) pos) (aCR te):=by
 intro pins s σ H D I h;exact wpAny_Return_some (af (he pins s σ H _ I h) fun v s1 ⟨x,H1,I1,r1,q1⟩=>⟨x,σ,H1,I1,r1,q1⟩)
def WE:TS:=fun D _ H=>D.rt .non H
theorem IQ:PS X (.Return none pos) WE:=fun _ _ σ H _ I h=>wpAny_Return_none ⟨.non,σ,H,I,rfl,h⟩
def aCU(c:TT)(t u:TS):TS:=fun D σ H=>c σ H fun b H1=>if b=true then t D σ H1 else u D σ H1
theorem sD{c:Expr}{a b:List Stmt}{tc:TT}(hc:PT X c tc)(ha:PSs X a t)(hb:PSs X b u):PS X (.If c a b pos) (aCU tc t u):=by
 intro pins s σ H D I h;refine wpAny_If (af (hc pins s σ H _ I h) fun d s1 ⟨H1,I1,q1⟩=>?_)
 cases d with
 |true=>exact ha pins s1 σ H1 D I1 q1
 |false=>exact hb pins s1 σ H1 D I1 q1
end
abbrev TG:=V→St→Hp→(St→Hp→Prop)→Prop
abbrev gm:=List V→St→Hp→(St→Hp→Prop)→Prop
def PG(X:Cx)(target:Expr)(t:TG):Prop:=
 ∀(pins:ph) (s:Shared) (σ:St) (H:Hp) (v:V) (u:Value) (Q:St→Hp→Prop),Inv X pins σ H s→RelV v u→t v σ H Q →
  wpAny (model X.prog X.w) X.A (assign target X.env u) (fun _ s'=>∃σ' H',Inv X pins σ' H' s'∧Q σ' H') X.xe s
def k7(X:Cx)(ts:List Expr)(t:gm):Prop:=
 ∀(pins:ph) (s:Shared) (σ:St) (H:Hp) (vs:List V) (us:List Value) (Q:St→Hp→Prop),Inv X pins σ H s→aM vs us→t vs σ H Q →
  wpAny (model X.prog X.w) X.A (assignInOrder ((assignEach ts X.env).map (·.2)) us) (fun _ s'=>∃σ' H',Inv X pins σ' H' s'∧Q σ' H') X.xe s
abbrev UC:=V→V→V→Hp→(Hp→Prop)→Prop
def aBS(X:Cx)(t:UC):Prop:=
 ∀(pins:ph) (s:Shared) (σ:St) (H:Hp) (o i v:V) (ov iv u:Value) (Q:Hp→Prop),Inv X pins σ H s→RelV o ov→RelV i iv→RelV v u→t o i v H Q →
  wpAny (model X.prog X.w) X.A (setItem ov iv u) (fun _ s'=>∃H',Inv X pins σ H' s'∧Q H') X.xe s
section
variable {X:Cx}{pos:Pos}
def oB(i:Nat):TG:=fun v σ H Q=>Q (σ.set i (some v)) H
theorem vY{i:Nat}{x:Str}(hN:X.N.Nodup)(hi:X.N[i]?=some x)(hx:Loc X.env.scope x)(hf:X.fn x=true∨X.env.scope.names.lookup x=some .local:=by first|exact .inl rfl|exact .inr rfl|assumption):PG X (.Name x pos) (oB i):=by
 intro pins s σ H v u Q I r h;exact wpAny_assign_Name (rQ I hN hi hx r (fun s' I'=>⟨_,H,I',h⟩) hf)
noncomputable def aDZ:gm:=fun vs σ H Q=>vs=[]∧Q σ H
noncomputable def aBf(t:TG)(u:gm):gm:=fun vs σ H Q=>∃v r,vs=v::r∧t v σ H fun σ' H'=>u r σ' H' Q
theorem JB:k7 X [] aDZ:=by
 intro pins s σ H vs us Q I r h;obtain⟨e,h⟩:=h;subst e;cases r;exact assignInOrder_nil ⟨σ,H,I,h⟩
theorem CH{e:Expr}{es:List Expr}{t:TG}{u:gm}(h1:PG X e t)(h2:k7 X es u)
  (hs:(assignEach (e::es) X.env).map (·.2)=assign e X.env::(assignEach es X.env).map (·.2):=by rfl):k7 X (e::es) (aBf t u):=by
 intro pins s σ H vs us Q I r h;obtain⟨v,vr,e1,h⟩:=h;subst e1;cases r with
 |cons r rr =>
  rw[hs];refine assignInOrder_cons (af (h1 pins s σ H _ _ _ I r h) fun _ s1 ⟨σ1,H1,I1,q1⟩=>?_)
  exact h2 pins s1 σ1 H1 _ _ Q I1 rr q1
def aDX(K:p6)(n:Nat)(t:gm):TG:=fun v σ H Q=>∃a xs,v=.ref a∧SqT K H a xs∧xs.length=n∧t xs σ H Q
theorem QQ{es:List Expr}{k:Nat}{t:gm}{n:Nat}(hc:X.calm=true)(h:k7 X es t)
  (hn:(assignEach es X.env).length=n:=by rfl) (gf:(assignEach es X.env).findIdx? (·.1)=none:=by rfl):PG X (.Tuple es k pos) (aDX X.K n t):=by
 intro pins s σ H v u Q I r hw;obtain⟨a,xs,e1,hq,hl,hw⟩:=hw;subst e1;cases r;obtain⟨its,rv,ht,hz⟩:=I.tuple hq;refine assign_Tuple_tuple (I.ok.hd hc) ht (by simp[hn,←hl,rv.length]) gf fun h' hx=>?_
 have I1:Inv X pins σ H { s with heap:=h' }:=I.kept (t':=s.toks) fun b o e=>hx b o (o3 (mr e)) e
 exact h pins _ σ H xs _ Q I1 (by simpa using rv) hw
def aDY(to ti:TE)(t:UC):TG:=fun v σ H Q=>to σ H fun o H1=>ti σ H1 fun i H2=>t o i v H2 fun H3=>Q σ H3
theorem QR{o i:Expr}{to ti:TE}{t:UC}(ho:PE X o to)(hi:PE X i ti)(hs:aBS X t)
  (ha:∀v,assign (.Subscript o i pos) X.env v=(do
   let ov ←holding [v] (eval o X.env)
   let iv ←holding [v,ov] (eval i X.env)
   standAt pos
   holding [v,ov,iv] (setItem ov iv v)
   release [v,ov,iv] []):=by intro _;rfl):PG X (.Subscript o i pos) (aDY to ti t):=by
 intro pins s σ H v u Q I r h;rw[ha];refine o7 (wpAny_holding (af (ho pins s σ H _ I h) fun ov s1 ⟨x,H1,I1,r1,q1⟩=>?_))
 refine o7 (wpAny_holding (af (hi pins s1 σ H1 _ I1 q1) fun iv s2 ⟨y,H2,I2,r2,q2⟩=>?_))
 refine o7 (wpAny_standAt (o7 (wpAny_holding (af (hs pins s2 σ H2 x y v ov iv u _ I2 r1 r2 r q2) fun _ s3 ⟨H3,I3,q3⟩=>?_))))
 exact wpAny_release ⟨σ,H3,I3,q3⟩
def HA(te:TE)(g:TG):TS:=fun D σ H=>te σ H fun x H1=>g x σ H1 D.nx
theorem CF{tg e:Expr}{te:TE}{g:TG}(he:PE X e te)(hg:PG X tg g)(hs:swapsWithSole [tg] e pos.line X.env=pure false:=by rfl)(hw:swappedStores [tg] e X.env=pure none:=by rfl)
  (h1:(assignEach [tg] X.env).map (·.2)=[assign tg X.env]:=by rfl):PS X (.Assign [tg] e pos) (HA te g):=by
 intro pins s σ H D I h;refine wpAny_Assign_stores (af (he pins s σ H _ I h) fun v s1 ⟨x,H1,I1,r1,q1⟩=>?_) hs hw
 rw[h1];exact af (hg pins s1 σ H1 x v _ I1 r1 q1) fun _ s2 q=>q
theorem lL{i:Nat}{x:Str}{e:Expr}{te:TE}{pos':Pos}(hN:X.N.Nodup)(hi:X.N[i]?=some x)(hx:Loc X.env.scope x)(he:PE X e te)(hs:swapsWith e (some (.Name x pos')) pos.line X.env=pure false:=by rfl)(hf:X.fn x=true∨X.env.scope.names.lookup x=some .local:=by first|exact .inl rfl|exact .inr rfl|assumption) :
  PS X (.Assign [.Name x pos'] e pos) (HA te (oB i)):=by
 intro pins s σ H D I h;refine wpAny_Assign_Name (af (he pins s σ H _ I h) fun v s1 ⟨y,H1,I1,r1,q1⟩=>?_) hs
 exact rQ I1 hN hi hx r1 (fun s2 I2=>⟨_,H1,I2,q1⟩) hf
end
section
variable {X:Cx}{pos:Pos}
end
structure It where
 go:Nat→Hp→Prop
 yld:Nat→Hp→V→Hp→Prop
 stop:Nat→Hp→Prop
def mX(X:Cx)(pins:ph)(H:Hp)(b:Addr):Prop:=
 H b=none∧b≠X.env.locals∧b∉X.fs∧(b∈X.ex∨X.s₀.heap.objs.size≤b)∧(∀x c,X.env.cells.lookup x=some c→c≠b)∧∀p∈X.pn++pins,p.1≠b
theorem Inv.fpOk{X:Cx}{pins:ph}{σ:St}{H H':Hp}{s:Shared}{b:Addr}(I:Inv X pins σ H s)(hb:s.heap.objs.size≤b)(hn:H' b=none):mX X pins H' b:=by
 refine⟨hn,Nat.ne_of_gt (md I.lt hb),I.nofs hb,.inr (mw I.sz hb),fun x c e z=>?_,fun p hp z=>?_⟩
 ·obtain⟨v,q⟩:=I.cell x c e;exact absurd (md q.lt (by rw[z];exact hb)) (o6 _)
 ·exact absurd (md (mr (I.pin p hp).1) (by rw[z];exact hb)) (o6 _)
structure Turn (P:p8) (w:World) (K:p6) (tg:Expr) (J:It) (fp:List Addr) (it:Addr) (tn:Nat→Heap→Prop):Prop where
 mem:it∈fp
 obj:∀i h,tn i h→∀b∈fp,∃o,h.get? b=some o∧∀v,o.data≠.cell v
 keep:∀i h h',tn i h→(∀b∈fp,∀o,h.get? b=some o→h'.get? b=some o)→tn i h'
 item:∀(X:Cx),X.prog=P→X.w=w→X.K=K→X.calm=true→∀(i:Nat) (pins:ph) (s:Shared) (σ:St) (H:Hp) (E:p9),Inv X pins σ H s→(∀b∈fp,mX X pins H b)→tn i s.heap→J.go i H →
  wpAny (model P w) X.A (pyNext (.ref it)) (fun r s1=>∃u,r=some u ∧
   wpAny (model P w) X.A (letOwnedTupleGo tg (.ref it) u) (fun _ s2=>∃x H',Inv X pins σ H' s2∧RelV x u∧J.yld i H x H'∧tn (i+1) s2.heap∧∀b∈fp,H' b=none) E s1) E s
 done:∀(X:Cx),X.prog=P→X.w=w→X.K=K→X.calm=true→∀(i:Nat) (pins:ph) (s:Shared) (σ:St) (H:Hp) (E:p9),Inv X pins σ H s→(∀b∈fp,mX X pins H b)→tn i s.heap→J.stop i H →
  wpAny (model P w) X.A (pyNext (.ref it)) (fun r s1=>r=none∧Inv X pins σ H s1) E s
 self:∀(A:Around) (i:Nat) (s:Shared) (Q:p9) (E:p9),tn i s.heap→Q (.ref it) s→wpAny (model P w) A (pyIter (.ref it)) Q E s
abbrev TI:=St→Hp→(It→Hp→Prop)→Prop
def PIE(X:Cx)(pins:ph)(σ:St)(tg:Expr)(R:It→Hp→Prop)(itv:Value)(s2:Shared):Prop:=
 ∃(it:Addr) (fp:List Addr) (tn:Nat→Heap→Prop) (J:It) (H':Hp),itv=.ref it∧Inv X pins σ H' s2∧Turn X.prog X.w X.K tg J fp it tn∧tn 0 s2.heap∧(∀b∈fp,mX X pins H' b)∧R J H'
def PI(X:Cx)(tg iter:Expr)(wi:TI):Prop:=
 ∀(pins:ph) (s:Shared) (σ:St) (H:Hp) (R:It→Hp→Prop),Inv X pins σ H s→wi σ H R →
  wpAny (model X.prog X.w) X.A (eval iter X.env) (fun v s1=>wpAny (model X.prog X.w) X.A (pyIter v) (PIE X pins σ tg R) X.xe s1) X.xe s
theorem wQ{M:Model}{A:Around}{E:p9}{s:Shared}{tg:Expr}{it:Addr}{u:Value}{o:Obj}{n:String}{vs:Array Value}{Q:Unit→Shared→Prop}(ho:s.heap.get? it=some o)(hc:o.cls=.type n)(hd:o.data=.fields vs)
  (hn:["enumerate","zip","dict_itemiterator","dict_reverseitemiterator","odict_iterator","itertools.zip_longest","itertools.pairwise"].contains n=false) (hQ:Q () s):wpAny M A (letOwnedTupleGo tg (.ref it) u) Q E s:=by
 unfold letOwnedTupleGo;cases tg<;>first
  |exact o8 hQ
  | (cases u<;>first
    |exact o8 hQ
    | (refine o7 (wpAny_load ho ?_)
       rw[hc,hd];show wpAny M A (if (["enumerate","zip","dict_itemiterator","dict_reverseitemiterator","odict_iterator","itertools.zip_longest","itertools.pairwise"].contains n&&vs[0]? == some (rawInt _))=true then _ else _) Q E s
       rw[if_neg (by intro h;rw[hn,Bool.false_and]at h;cases h)]
       exact o8 hQ))
noncomputable def Itl(K:p6)(a:Addr):It:=
 ⟨fun i H=>∃xs x,SqL K H a xs∧xs[i]?=some x,fun i H x H'=>H'=H∧∀xs,SqL K H a xs→xs[i]?=some x,fun i H=>∃xs,SqL K H a xs∧xs.length≤i⟩
noncomputable def Itt(K:p6)(a:Addr):It:=
 ⟨fun i H=>∃xs x,SqT K H a xs∧xs[i]?=some x,fun i H x H'=>H'=H∧∀xs,SqT K H a xs→xs[i]?=some x,fun i H=>∃xs,SqT K H a xs∧xs.length≤i⟩
noncomputable def jr(lo:Int)(n:Nat):It:=⟨fun i _=>i<n,fun i H x H'=>H'=H∧x=.int (lo+i),fun i _=>n≤i⟩
theorem nL{P:p8}{w:World}{K:p6}{tg:Expr}(a it:Addr):Turn P w K tg (Itl K a) [it] it (fun i h=>h.IsListIter it a i) where
 mem:=by simp
 obj:=fun i h st b hb=>by
  have e:b=it:=by simpa using hb
  subst e;obtain⟨o,e,c,d⟩:=st;exact⟨o,e,fun v z=>by rw[d]at z;cases z⟩
 keep:=fun i h h' st k=>st.at fun o e=>k it (by simp) o e
 item:=by
  intro X hP hw hK hc i pins s σ H E I hf st hg;subst hP hw hK;obtain⟨xs,x,hq,hx⟩:=hg;obtain⟨its,rv,p,hz⟩:=I.list hq;obtain⟨u,hu,ru⟩:=rv.get hx;obtain⟨f0,f1,f2,f3,f4,f5⟩:=hf it (by simp)
  refine wpAny_pyNext_list_item st p.isList (x:=u) (by simpa using hu) fun h' dn sb=>?_
  have I1:Inv X pins σ H { s with heap:=h' }:=I.turned (t':=s.toks) (fun b o hb e=>(sb.2 b hb).trans e) f0 f1 f3 f4 f5
  obtain⟨o,e,c,d⟩:=id dn;exact⟨u,rfl,wQ (s:={ s with heap:=h' }) e c d (by decide) ⟨x,H,I1,ru,⟨rfl,fun ys hy=>by rw[I.list_inj hy hq];exact hx⟩,dn,fun b hb=>(hf b hb).1⟩⟩
 done:=by
  intro X hP hw hK hc i pins s σ H E I hf st hg;subst hP hw hK;obtain⟨xs,hq,hx⟩:=hg;obtain⟨its,rv,p,hz⟩:=I.list hq;obtain⟨f0,f1,f2,f3,f4,f5⟩:=hf it (by simp)
  have hl:=rv.length
  exact wpAny_pyNext_list_end (I.ok.hd hc) st p.isList (by simp;omega) fun h' eb=>⟨rfl,I.turned (t':=s.toks) (fun b o hb e=>eb b o hb e) f0 f1 f3 f4 f5⟩
 self:=fun _ _ _ _ _ st h=>wpAny_pyIter_listiter st h
theorem tX{P:p8}{w:World}{K:p6}{tg:Expr}(a it:Addr):Turn P w K tg (Itt K a) [it] it (fun i h=>h.IsTupleIter it a i) where
 mem:=by simp
 obj:=fun i h st b hb=>by
  have e:b=it:=by simpa using hb
  subst e;obtain⟨o,e,c,d⟩:=st;exact⟨o,e,fun v z=>by rw[d]at z;cases z⟩
 keep:=fun i h h' st k=>st.at fun o e=>k it (by simp) o e
 item:=by
  intro X hP hw hK hc i pins s σ H E I hf st hg;subst hP hw hK;obtain⟨xs,x,hq,hx⟩:=hg;obtain⟨its,rv,p,hz⟩:=I.tuple hq;obtain⟨u,hu,ru⟩:=rv.get hx;obtain⟨f0,f1,f2,f3,f4,f5⟩:=hf it (by simp)
  refine wpAny_pyNext_tuple_item st (show s.heap.IsTuple a its.toArray from p) (x:=u) (by simpa using hu) fun h' dn sb=>?_
  have I1:Inv X pins σ H { s with heap:=h' }:=I.turned (t':=s.toks) (fun b o hb e=>(sb.2 b hb).trans e) f0 f1 f3 f4 f5
  obtain⟨o,e,c,d⟩:=id dn;exact⟨u,rfl,wQ (s:={ s with heap:=h' }) e c d (by decide) ⟨x,H,I1,ru,⟨rfl,fun ys hy=>by rw[I.tuple_inj hy hq];exact hx⟩,dn,fun b hb=>(hf b hb).1⟩⟩
 done:=by
  intro X hP hw hK hc i pins s σ H E I hf st hg;subst hP hw hK;obtain⟨xs,hq,hx⟩:=hg;obtain⟨its,rv,p,hz⟩:=I.tuple hq;obtain⟨f0,f1,f2,f3,f4,f5⟩:=hf it (by simp)
  have hl:=rv.length
  exact wpAny_pyNext_tuple_end (I.ok.hd hc) st (show s.heap.IsTuple a its.toArray from p) (by simp;omega) fun h' eb=>⟨rfl,I.turned (t':=s.toks) (fun b o hb e=>eb b o hb e) f0 f1 f3 f4 f5⟩
 self:=fun _ _ _ _ _ st h=>wpAny_pyIter_tupleiter st h
theorem tY{P:p8}{w:World}{K:p6}{tg:Expr}(it:Addr)(lo:Int)(n:Nat):Turn P w K tg (jr lo n) [it] it (fun i h=>IsRangeIter h it (lo+(i:Nat)*1) ((n:Int)-(i:Nat)) 1) where
 mem:=by simp
 obj:=fun i h st b hb=>by
  have e:b=it:=by simpa using hb
  subst e;exact⟨_,st,fun v z=>by
   have z':Data.fields _=Data.cell v:=z
   cases z'⟩
 keep:=fun i h h' st k=>k it (by simp) _ st
 item:=by
  intro X hP hw hK hc i pins s σ H E I hf st hg;subst hP hw hK;obtain⟨f0,f1,f2,f3,f4,f5⟩:=hf it (by simp)
  have W:=Walks.range (prog:=X.prog) (w:=X.w) (I.ok.hd hc) it lo 1 n
  refine W.item i s _ _ hg st fun v h' tk hv dn kk=>?_
  obtain⟨t,rfl⟩:=hv;have I1:Inv X pins σ H { s with heap:=h',toks:=tk }:=I.turned (fun b o hb e=>kk b o (by simpa using hb) e) f0 f1 f3 f4 f5
  refine⟨_,rfl,wQ (s:={ s with heap:=h',toks:=tk }) (n:="range_iterator") dn rfl rfl (by decide) ⟨.int (lo+i),H,I1,⟨t,?_⟩,⟨rfl,rfl⟩,dn,fun b hb=>(hf b hb).1⟩⟩
  rw[Int.mul_one]
 done:=by
  intro X hP hw hK hc i pins s σ H E I hf st hg;subst hP hw hK;obtain⟨f0,f1,f2,f3,f4,f5⟩:=hf it (by simp)
  exact wpAny_pyNext_range_end (I.ok.hd hc) st (by have:n≤i:=hg;omega) fun h' eb=>⟨rfl,I.turned (t':=s.toks) (fun b o hb e=>eb b o hb e) f0 f1 f3 f4 f5⟩
 self:=fun _ _ _ _ _ st h=>wpAny_pyIter_rangeiter st h
section
variable {X:Cx}{tg:Expr}
def aBd(K:p6)(tl:TE):TI:=fun σ H R=>tl σ H fun x H1=>∃a,x=.ref a∧(∃xs,SqL K H1 a xs)∧R (Itl K a) H1
theorem JA{l:Expr}{tl:TE}(hl:PE X l tl):PI X tg l (aBd X.K tl):=by
 intro pins s σ H R I h;refine af (hl pins s σ H _ I h) fun v s1 ⟨x,H1,I1,r1,q1⟩=>?_
 obtain⟨a,e,⟨xs,hq⟩,q⟩:=q1;subst e;cases r1;obtain⟨its,rv,p,hz⟩:=I1.list hq;refine wpAny_pyIter_list p.isList ?_;refine⟨s1.heap.objs.size,[s1.heap.objs.size],_,_,H1,rfl,I1.kept (t':=s1.toks) fun b o e=>lq _ e,nL a _,⟨_,oa _ rfl,rfl,rfl⟩,fun b hb=>?_,q⟩
 have e:b=s1.heap.objs.size:=by simpa using hb
 subst e;exact I1.fpOk (lj _) (I1.hok.fresh (lj _))
theorem rW{pins:ph}{σ:St}{H:Hp}{s:Shared}{R:It→Hp→Prop}{E:p9}{lo hi:Int}{t u v:Tok}{tk:Nat}(I:Inv X pins σ H s)(h1:-(2 ^ 62)≤lo)(h2:lo<2 ^ 62)(h3:-(2 ^ 62)≤hi)(h4:hi<2 ^ 62)
  (q:R (jr lo (hi-lo).toNat) H):wpAny (model X.prog X.w) X.A (pyIter (.ref s.heap.objs.size)) (PIE X pins σ tg R) E { s with heap:=s.heap.push { cls:=.type "range",data:=.fields #[.int lo t,.int hi u,.int 1 v] },toks:=tk }:=by
 refine wpAny_pyIter_range (IsRange.new ..) (small_one h1 h2 h3 h4) ?_;have I1:Inv X pins σ H { s with heap:=s.heap.push { cls:=.type "range",data:=.fields #[.int lo t,.int hi u,.int 1 v] },toks:=tk }:=I.kept fun b o e=>lq _ e
 refine⟨(s.heap.push { cls:=.type "range",data:=.fields #[.int lo t,.int hi u,.int 1 v] }).objs.size,[(s.heap.push { cls:=.type "range",data:=.fields #[.int lo t,.int hi u,.int 1 v] }).objs.size],_,_,H,rfl,
  I1.kept (t':=tk) fun b o e=>lq _ e,tY _ lo (hi-lo).toNat,?_,fun b hb=>?_,q⟩
 ·have e1:lo+((0:Nat):Int)*1=lo:=by simp
  have e2:(((hi-lo).toNat:Nat):Int)-((0:Nat):Int)=Builtin.Range.rangeSize lo hi 1:=by rw[rangeSize_one];split<;>omega
  show IsRangeIter _ _ (lo+((0:Nat):Int)*1) ((((hi-lo).toNat:Nat):Int)-((0:Nat):Int)) 1
  rw[e1,e2];exact oa _ rfl
 ·have e:b=(s.heap.push { cls:=.type "range",data:=.fields #[.int lo t,.int hi u,.int 1 v] }).objs.size:=by simpa using hb
  subst e;exact I1.fpOk (lj _) (I1.hok.fresh (lj _))
def aBc(ta:TA):TI:=fun σ H R=>ta σ H fun vs H1=>∃j:Int,vs=[.int j]∧-(2 ^ 62)≤j∧j<2 ^ 62∧R (jr 0 j.toNat) H1
def aBb(ta:TA):TI:=fun σ H R=>ta σ H fun vs H1=>∃i j:Int,vs=[.int i,.int j]∧(-(2 ^ 62)≤i∧i<2 ^ 62∧-(2 ^ 62)≤j∧j<2 ^ 62)∧R (jr i (j-i).toNat) H1
theorem zL{a:Expr}{ta:TA}{p pos:Pos}(hg:Gl X "range")(hm:X.mg "range" = none)(ha:PA X [a] ta)(hs:starEach [a] X.env=[(false,eval a X.env)]:=by rfl):PI X tg (.Call (.Name "range" p) [a] [] pos) (aBc ta):=by
 intro pins s σ H R I h;refine Call_ (gI I hg hm boot_range (mz (af (ha pos pins s σ H _ I h) fun us s1 ⟨vs,H1,I1,r1,q1⟩=>?_) hs rfl))
 obtain⟨j,e,q1,q2,q⟩:=q1;subst e;cases r1 with
 |cons r rr =>
  cases rr;obtain⟨t,rfl⟩:=r;exact call_range_1 (rW I1 (by omega) (by omega) q1 q2 (by simpa using q))
theorem zK{a b:Expr}{ta:TA}{p pos:Pos}(hg:Gl X "range")(hm:X.mg "range" = none)(ha:PA X [a,b] ta)(hs:starEach [a,b] X.env=[(false,eval a X.env),(false,eval b X.env)]:=by rfl)(fb:starEach [b] X.env=[(false,eval b X.env)]:=by rfl) :
  PI X tg (.Call (.Name "range" p) [a,b] [] pos) (aBb ta):=by
 intro pins s σ H R I h;refine Call_ (gI I hg hm boot_range (mz (af (ha pos pins s σ H _ I h) fun us s1 ⟨vs,H1,I1,r1,q1⟩=>?_) (by rw[hs,fb]) (by rw[fb];rfl)))
 obtain⟨i,j,e,⟨q1,q2,q3,q4⟩,q⟩:=q1;subst e;cases r1 with
 |cons r rr =>
  cases rr with
  |cons r' rr =>
   cases rr;obtain⟨t,rfl⟩:=r;obtain⟨t',rfl⟩:=r';exact call_range_2 (rW I1 q1 q2 q3 q4 q)
def aCV(wi:TI)(g:TG)(tb:TS):TS:=fun D σ H=>wi σ H fun J H1=>∃W:Nat→Nat→St→Hp→Prop,(∃m,W 0 m σ H1)∧∀i m σ H,W i m σ H →
 (J.stop i H∧D.nx σ H)∨(J.go i H∧∃N:St→Hp→Prop,(∀σ' H',N σ' H'→∃m',m'<m∧W (i+1) m' σ' H')∧∀x H',J.yld i H x H'→g x σ H' fun σ2 H2=>tb { D with nx:=N,ct:=N,bk:=D.nx } σ2 H2)
noncomputable def jO(fp:List Addr)(h:Heap):List (Addr×Obj):=fp.filterMap fun b=>(h.get? b).map fun o=>(b,o)
theorem fU{fp:List Addr}{h:Heap}{b:Addr}{o:Obj}(hb:b∈fp)(e:h.get? b=some o):(b,o)∈jO fp h:=mem_filterMap.mpr ⟨b,hb,by rw[e];rfl⟩
theorem zQ{fp:List Addr}{h:Heap}{p:Addr×Obj}(hp:p∈jO fp h):p.1∈fp∧h.get? p.1=some p.2:=by
 obtain⟨b,hb,e⟩:=mem_filterMap.mp hp;cases q:h.get? b with
 |none=>rw[q]at e;cases e
 |some o =>
  rw[q]at e;have e':(b,o)=p:=lz e
  subst e';exact⟨hb,q⟩
theorem Inv.pinned{pins:ph}{σ:St}{H:Hp}{s:Shared}{fp:List Addr}(I:Inv X pins σ H s)(hf:∀b∈fp,mX X pins H b)(ho:∀b∈fp,∃o,s.heap.get? b=some o∧∀v,o.data≠.cell v):Inv X (pins++jO fp s.heap) σ H s:=
 I.pins_of fun p hp=>(mem_append.mp hp).elim (fun z=>I.pin p (o5 _ z)) fun z=>by
  obtain⟨hb,e⟩:=zQ z;obtain⟨f0,f1,f2,_⟩:=hf p.1 hb;obtain⟨o,e',d⟩:=ho p.1 hb;rw[e]at e';cases e';exact⟨e,f0,f1,f2,d⟩
theorem Inv.unpinned{pins pl:ph}{σ:St}{H:Hp}{s:Shared}(I:Inv X (pins++pl) σ H s):Inv X pins σ H s:=I.pins_of fun p hp=>I.pin p (o5 _ (List.mem_append_left _ hp))
theorem CD{iter:Expr}{body:List Stmt}{wi:TI}{g:TG}{tb:TS}{pos:Pos}(hp:PassesOwn (model X.prog X.w) X.A X.env X.xe)(hc:X.calm=true)(hi:PI X tg iter wi)(hg:PG X tg g)(hb:PSs X body tb)
  (hs:∀x,foldedSetIterable iter X.env x=pure x:=by intro _;rfl):PS X (.For tg iter body [] pos) (aCV wi g tb):=by
 intro pins s σ H D I h;refine wpAny_For (af (hi pins s σ H _ I h) fun v s1 h1=>af h1 fun itv s2 h2=>?_) hs
 obtain⟨it,fp,tn,J,H2,e,I2,T,gu,f2,W,⟨m0,w0⟩,turn⟩:=h2;subst e;have cz:∀{H':Hp},(∀b∈fp,H' b=none)→∀b∈fp,mX X pins H' b:=fun hn b hb=>⟨hn b hb,(f2 b hb).2⟩
 refine codeAny_forLoop_any (fun n s'=>∃i σ' H',Inv X pins σ' H' s'∧tn i s'.heap∧(∀b∈fp,H' b=none)∧W i n σ' H') ?_ m0 ⟨0,σ,H2,I2,gu,fun b hb=>(f2 b hb).1,w0⟩
 rintro n s3 ⟨i,σ3,H3,I3,st3,fr3,w3⟩
 rcases turn i n σ3 H3 w3 with ⟨stop,qn⟩|⟨go,N,hN,step⟩
 ·refine wpAny_passesOwn hp (af (T.done X rfl rfl rfl hc i pins s3 σ3 H3 X.xe I3 (cz fr3) st3 stop) fun r s4 ⟨hr,I4⟩=>?_)
  subst hr;exact wpAny_execs_nil ⟨σ3,H3,I4,qn⟩
 ·refine wpAny_passesOwn hp (af (T.item X rfl rfl rfl hc i pins s3 σ3 H3 X.xe I3 (cz fr3) st3 go) fun r s4 ⟨u,hr,h4⟩=>?_)
  subst hr;refine wpAny_passesOwn hp (af h4 fun _ s5 ⟨x,H5,I5,r5,y5,st5,fr5⟩=>?_)
  have I5':=I5.pinned (cz fr5) (T.obj _ _ st5)
  refine wpAny_passesOwn hp (af (hg _ s5 σ3 H5 x u _ I5' r5 (step x H5 y5)) fun _ s6 ⟨σ6,H6,I6,q6⟩=>?_)
  refine wpAny_passesOwn hp (af (hb _ s6 σ6 H6 _ I6 q6) fun f s7 q7=>?_)
  have again:∀{σ7:St} {H7:Hp},Inv X (pins++jO fp s5.heap) σ7 H7 s7→N σ7 H7→∃m,m<n∧∃i σ' H',Inv X pins σ' H' s7∧tn i s7.heap∧(∀b∈fp,H' b=none)∧W i m σ' H':=fun {σ7 H7} I7 n7=>by
   obtain⟨m',hm,w7⟩:=hN σ7 H7 n7;refine⟨m',hm,i+1,σ7,H7,I7.unpinned,T.keep _ _ _ st5 fun b hb o e=>(I7.pin (b,o) (o5 _ (o5 _ (fU hb e)))).1,fun b hb=>?_,w7⟩
   obtain⟨o,e,d⟩:=T.obj _ _ st5 b hb;exact(I7.pin (b,o) (o5 _ (o5 _ (fU hb e)))).2.1
  cases f with
  |next=>obtain⟨σ7,H7,I7,n7⟩:=q7;exact again I7 n7
  |cont=>obtain⟨σ7,H7,I7,n7⟩:=q7;exact again I7 n7
  |brk=>obtain⟨σ7,H7,I7,q7⟩:=q7;exact⟨σ7,H7,I7.unpinned,q7⟩
  |ret v=>obtain⟨x7,σ7,H7,I7,r7,q7⟩:=q7;exact⟨x7,σ7,H7,I7.unpinned,r7,q7⟩
end
abbrev R2:=V→V→Hp→VK→Prop
def aq(X:Cx)(f:Value→Value→Sem Value)(r:R2):Prop:=
 ∀(pins:ph) (s:Shared) (σ:St) (H:Hp) (x y:V) (v u:Value) (Q:VK),Inv X pins σ H s→RelV x v→RelV y u→r x y H Q →
  wpAny (model X.prog X.w) X.A (f v u) (EP X pins σ Q) X.xe s
def UnR(X:Cx)(f:Value→Sem Value)(r:V→Hp→VK→Prop):Prop:=
 ∀(pins:ph) (s:Shared) (σ:St) (H:Hp) (x:V) (v:Value) (Q:VK),Inv X pins σ H s→RelV x v→r x H Q →
  wpAny (model X.prog X.w) X.A (f v) (EP X pins σ Q) X.xe s
def eD(X:Cx)(f:Value)(r:List V→Hp→VK→Prop):Prop:=
 ∀(pins:ph) (s:Shared) (σ:St) (H:Hp) (xs:List V) (us:List Value) (Q:VK),Inv X pins σ H s→aM xs us→r xs H Q →
  wpAny (model X.prog X.w) X.A (call f us) (EP X pins σ Q) X.xe s
def aEp(X:Cx)(r:V→Hp→(Bool→Hp→Prop)→Prop):Prop:=
 ∀(pins:ph) (s:Shared) (σ:St) (H:Hp) (x:V) (v:Value) (Q:Bool→Hp→Prop),Inv X pins σ H s→RelV x v→r x H Q →
  wpAny (model X.prog X.w) X.A (truthy v) (TP X pins σ Q) X.xe s
def fz(r:R2)(ta tb:TE):TE:=fun σ H Q=>ta σ H fun x H1=>tb σ H1 fun y H2=>r x y H2 Q
def tUn(r:V→Hp→VK→Prop)(ta:TE):TE:=fun σ H Q=>ta σ H fun x H1=>r x H1 Q
noncomputable def rI(C:Int→Int→Prop)(g:Int→Int→V):R2:=fun x y H Q=>∃i j,x=.int i∧y=.int j∧C i j∧Q (g i j) H
noncomputable def gb(g:Int→Int→V):R2:=fun x y H Q=>∃i j,x=.int i∧y=.int j∧Q (g i j) H
noncomputable def rU(g:Int→V):V→Hp→VK→Prop:=fun x H Q=>∃i,x=.int i∧Q (g i) H
section
variable {X:Cx}{a b c:Expr}{ta tb tc:TE}{pos:Pos}
theorem TZ(ha:PE X a ta)(hb:PE X b tb){pins:ph}{s:Shared}{σ:St}{H:Hp}{R:V→V→Hp→Prop}(I:Inv X pins σ H s)
  (h:ta σ H fun x H1=>tb σ H1 fun y H2=>R x y H2) {Q:p9} {f:Value→Value→Sem Value}
  (hf:∀v u s2 x y H2,Inv X pins σ H2 s2→RelV x v→RelV y u→R x y H2→wpAny (model X.prog X.w) X.A (f v u) Q X.xe s2) :
  wpAny (model X.prog X.w) X.A (eval a X.env) (fun v s₁=>wpAny (model X.prog X.w) X.A (eval b X.env) (fun u s₂=>wpAny (model X.prog X.w) X.A (f v u) Q X.xe s₂) X.xe s₁) X.xe s:=by
 refine af (ha pins s σ H _ I h) fun v s1 ⟨x,H1,I1,r1,q1⟩=>?_
 refine af (hb pins s1 σ H1 _ I1 q1) fun u s2 ⟨y,H2,I2,r2,q2⟩=>?_
 exact hf v u s2 x y H2 I2 r1 r2 q2
theorem NH{op:Operator}{r:R2}(ho:aq X (binaryOp op) r)(ha:PE X a ta)(hb:PE X b tb):PE X (.BinOp a op b pos) (fz r ta tb):=by
 intro pins s σ H Q I h;exact wpAny_BinOp (TZ ha hb I h fun v u s2 x y H2 I2 rx ry q=>ho pins s2 σ H2 x y v u Q I2 rx ry q)
theorem ZI{op:UnaryOp}{r:V→Hp→VK→Prop}(ho:UnR X (unaryOp op) r)(ha:PE X a ta):PE X (.UnaryOp op a pos) (tUn r ta):=by
 intro pins s σ H Q I h;exact UnaryOp_ (af (ha pins s σ H _ I h) fun v s1 ⟨x,H1,I1,r1,q1⟩=>ho pins s1 σ H1 x v Q I1 r1 q1)
theorem opI{f:Value→Value→Sem Value}{C:Int→Int→Prop}{g:Int→Int→Int}
  (rule:∀(i j:Int) (t u:Tok) (s:Shared) (Q:p9) (E:p9),C i j→Q (.int (g i j) s.toks) { s with toks:=s.toks+1 }→wpAny (model X.prog X.w) X.A (f (.int i t) (.int j u)) Q E s) :
  aq X f (rI C fun i j=>.int (g i j)):=by
 intro pins s σ H x y v u Q I rx ry h;obtain⟨i,j,rfl,rfl,hc,q⟩:=h;obtain⟨t,rfl⟩:=rx;obtain⟨t',rfl⟩:=ry;exact rule i j t t' s _ _ hc ⟨.int (g i j),H,I.tok _,⟨_,rfl⟩,q⟩
theorem ZQ{f:Value→Value→Sem Value}{g:Int→Int→Int}
  (rule:∀(i j:Int) (t u:Tok) (s:Shared) (Q:p9) (E:p9),Q (.int (g i j) s.toks) { s with toks:=s.toks+1 }→wpAny (model X.prog X.w) X.A (f (.int i t) (.int j u)) Q E s) :
  aq X f (gb fun i j=>.int (g i j)):=by
 intro pins s σ H x y v u Q I rx ry h;obtain⟨i,j,rfl,rfl,q⟩:=h;obtain⟨t,rfl⟩:=rx;obtain⟨t',rfl⟩:=ry;exact rule i j t t' s _ _ ⟨.int (g i j),H,I.tok _,⟨_,rfl⟩,q⟩
theorem JV{f:Value→Value→Sem Value}{g:Int→Int→Bool}
  (rule:∀(i j:Int) (t u:Tok) (s:Shared) (Q:p9) (E:p9),Q (.bool (g i j)) s→wpAny (model X.prog X.w) X.A (f (.int i t) (.int j u)) Q E s) :
  aq X f (gb fun i j=>.bl (g i j)):=by
 intro pins s σ H x y v u Q I rx ry h;obtain⟨i,j,rfl,rfl,q⟩:=h;obtain⟨t,rfl⟩:=rx;obtain⟨t',rfl⟩:=ry;exact rule i j t t' s _ _ ⟨.bl (g i j),H,I,rfl,q⟩
def aEB(i j:Int):Prop:=0<j∧j<1073741824
def aEA(i j:Int):Prop:=0≤j∧j≤1000000∧i.natAbs<2 ^ 64
def UU(i j:Int):Prop:=(-(2 ^ 64)<i∧i<2 ^ 64)∨(-(2 ^ 64)<j∧j<2 ^ 64)
theorem UU.ok{i j:Int}(h:UU i j):IntMulOk i j:=by
 rcases h with ⟨h1,h2⟩|⟨h1,h2⟩
 ·exact .of_left (intBits_le_64 h1 h2)
 ·exact .of_right (intBits_le_64 h1 h2)
theorem RF:aq X (binaryOp .Add) (gb fun i j=>.int (i+j)):=ZQ fun _ _ _ _ _ _ _ q=>add_int q
theorem QZ:aq X (binaryOp .Sub) (gb fun i j=>.int (i-j)):=ZQ fun _ _ _ _ _ _ _ q=>sub_int q
theorem RB:aq X (binaryOp .Mult) (rI UU fun i j=>.int (i*j)):=opI fun _ _ _ _ _ _ _ hc q=>mul_int q hc.ok
theorem JM:aq X (binaryOp .FloorDiv) (rI aEB fun i j=>.int (i / j)):=opI fun i j _ _ _ _ _ hc q=>by
 have h1:(0:Int)<j:=hc.1
 have h2:j<1073741824:=hc.2
 exact floordiv_int (by omega) (by rw[Int.fdiv_eq_ediv_of_nonneg i (by omega)];exact q) (.inl (PyProof.noPylong_small (by omega)))
theorem RC:aq X (binaryOp .Mod) (rI (fun _ j=>0<j) fun i j=>.int (i % j)):=opI fun i j _ _ _ _ _ hc q=>by
 have h1:(0:Int)<j:=hc
 exact mod_int' (by omega) (by rw[Int.fmod_eq_emod_of_nonneg i (by omega)];exact q)
theorem RA:aq X (binaryOp .Pow) (rI aEA fun i j=>.int (i ^ j.toNat)):=opI fun _ _ _ _ _ _ _ hc q=>pow_int_small hc.1 hc.2.1 hc.2.2 q
theorem unI{f:Value→Sem Value}{g:Int→Int}
  (rule:∀(i:Int) (t:Tok) (s:Shared) (Q:p9) (E:p9),Q (.int (g i) s.toks) { s with toks:=s.toks+1 }→wpAny (model X.prog X.w) X.A (f (.int i t)) Q E s) :
  UnR X f (rU fun i=>.int (g i)):=by
 intro pins s σ H x v Q I rx h;obtain⟨i,rfl,q⟩:=h;obtain⟨t,rfl⟩:=rx;exact rule i t s _ _ ⟨.int (g i),H,I.tok _,⟨_,rfl⟩,q⟩
theorem PB:UnR X (unaryOp .USub) (rU fun i=>.int (-i)):=unI fun _ _ _ _ _ q=>neg_int q
end
noncomputable def uC:V→V→Bool
 |.non,.non=>true | .non,.int _=>true | .int _,.non=>true | .non,.bl _=>true | .bl _,.non=>true | .non,.str _=>true | .str _,.non=>true
 |.int _,.int _=>true | .bl _,.bl _=>true | .str _,.str _=>true | .byt _,.byt _=>true
 |.int _,.str _=>true | .str _,.int _=>true | .bl _,.str _=>true | .str _,.bl _=>true
 |_,_=>false
noncomputable def rNe:R2:=fun x y H Q=>uC x y=true∧Q (.bl (!decide (x=y))) H
theorem MC{i j:Int}:decide (V.int i=V.int j)=(i == j):=by
 rw[Bool.eq_iff_iff];simp
theorem TQ{i j:Bool}:decide (V.bl i=V.bl j)=(i == j):=by
 rw[Bool.eq_iff_iff];simp
theorem MB{i j:Str}:decide (V.str i=V.str j)=(i == j):=by
 rw[Bool.eq_iff_iff];simp
theorem MD{i j:Array UInt8}:decide (V.byt i=V.byt j)=(i.toList == j.toList):=by
 rw[Bool.eq_iff_iff];cases i;cases j;simp
section
variable {X:Cx}{a b c:Expr}{ta tb tc:TE}{pos:Pos}
theorem cC{pins:ph}{σ:St}{H:Hp}{s:Shared}{Q:VK}{k k':Bool}(I:Inv X pins σ H s)(q:Q (.bl k) H)(e:k=k'):EP X pins σ Q (.bool k') s:=by
 subst e;exact⟨.bl k,H,I,rfl,q⟩
theorem ZL:aq X (compareOp .NotEq) rNe:=by
 intro pins s σ H x y v u Q I rx ry h;obtain⟨hs,q⟩:=h;cases x with
 |non =>
  cases rx;cases y with
  |non=>cases ry;exact PySem.EqNone.ne_none_none (cC I q (by simp))
  |bl j=>cases ry;exact PySem.EqNone.ne_none_bool (cC I q (by simp))
  |int j=>obtain⟨t',rfl⟩:=ry;exact PySem.EqNone.ne_none_int (cC I q (by simp))
  |str j=>obtain⟨t',rfl⟩:=ry;exact PySem.EqNone.ne_none_str (cC I q (by simp))
  |_=>exact absurd (show false=true from hs) mh
 |bl i =>
  cases rx;cases y with
  |non=>cases ry;exact PySem.EqNone.ne_bool_none (cC I q (by simp))
  |bl j=>cases ry;exact ne_bool (cC I q (congrArg not TQ))
  |str j=>obtain⟨t',rfl⟩:=ry;exact PySem.EqMixed.ne_bool_str (cC I q (by simp))
  |_=>exact absurd (show false=true from hs) mh
 |int i =>
  obtain⟨t,rfl⟩:=rx;cases y with
  |non=>cases ry;exact PySem.EqNone.ne_int_none (cC I q (by simp))
  |int j=>obtain⟨t',rfl⟩:=ry;exact ne_int (cC I q (congrArg not MC))
  |str j=>obtain⟨t',rfl⟩:=ry;exact PySem.EqMixed.ne_int_str (cC I q (by simp))
  |_=>exact absurd (show false=true from hs) mh
 |str i =>
  obtain⟨t,rfl⟩:=rx;cases y with
  |non=>cases ry;exact PySem.EqNone.ne_str_none (cC I q (by simp))
  |bl j=>cases ry;exact PySem.EqMixed.ne_str_bool (cC I q (by simp))
  |int j=>obtain⟨t',rfl⟩:=ry;exact PySem.EqMixed.ne_str_int (cC I q (by simp))
  |str j=>obtain⟨t',rfl⟩:=ry;exact ne_str (cC I q (congrArg not MB))
  |_=>exact absurd (show false=true from hs) mh
 |byt i =>
  obtain⟨t,rfl⟩:=rx;cases y with
  |byt j=>obtain⟨t',rfl⟩:=ry;exact PySem.W.ne_bytes (cC I q (congrArg not MD))
  |_=>exact absurd (show false=true from hs) mh
 |_=>cases y<;>exact absurd (show false=true from hs) mh
theorem ZM:aq X (compareOp .Lt) (gb fun i j=>.bl (decide (i<j))):=JV fun _ _ _ _ _ _ _ q=>lt_int q
theorem ZN:aq X (compareOp .LtE) (gb fun i j=>.bl (decide (i≤j))):=JV fun _ _ _ _ _ _ _ q=>le_int q
theorem ZO:aq X (compareOp .Gt) (gb fun i j=>.bl (decide (j<i))):=JV fun _ _ _ _ _ _ _ q=>gt_int q
theorem ZP:aq X (compareOp .GtE) (gb fun i j=>.bl (decide (j≤i))):=JV fun _ _ _ _ _ _ _ q=>ge_int q
theorem RD:aq X (compareOp .Is) (fun x y H Q=>y=.non∧Q (.bl (decide (x=.non))) H):=by
 intro pins s σ H x y v u Q I rx ry h;obtain⟨rfl,q⟩:=h;cases ry;refine is_none_gen (cC I q ?_);cases x<;>first
  | (cases rx;rfl)
  | (obtain⟨t,rfl⟩:=rx;rfl)
theorem JL:aq X (compareOp .IsNot) (fun x y H Q=>y=.non∧Q (.bl (!decide (x=.non))) H):=by
 intro pins s σ H x y v u Q I rx ry h;obtain⟨rfl,q⟩:=h;cases ry;refine isnot_none_gen (cC I q ?_);cases x<;>first
  | (cases rx;rfl)
  | (obtain⟨t,rfl⟩:=rx;rfl)
theorem RS(b:Expr){op:CmpOp}(h:op≠.In:=by decide)(h2:op≠.NotIn:=by decide):behindInMarks op b=false:=by
 have e1:(op == CmpOp.In)=false:=by cases op<;>first|rfl|exact absurd rfl h
 have e2:(op == CmpOp.NotIn)=false:=by cases op<;>first|rfl|exact absurd rfl h2
 cases b<;>simp[behindInMarks,e1,e2]
theorem JG{op:CmpOp}{r:R2}(ho:aq X (compareOp op) r)(ha:PE X a ta)(hb:PE X b tb)(hm:behindInMarks op b=false):PE X (.Compare a [op] [b] pos) (fz r ta tb):=by
 intro pins s σ H Q I h;exact wpAny_Compare1 (TZ ha hb I h fun v u s2 x y H2 I2 rx ry q=>ho pins s2 σ H2 x y v u Q I2 rx ry q) hm
noncomputable def BJ(t:TE):TT:=fun σ H Q=>t σ H fun x H'=>∃k,x=.bl k∧Q k H'
theorem vW{op:CmpOp}{r:R2}(ho:aq X (compareOp op) r)(ha:PE X a ta)(hb:PE X b tb)(hm:behindInMarks op b=false):PT X (.Compare a [op] [b] pos) (BJ (fz r ta tb)):=by
 intro pins s σ H Q I h;refine wpAny_isTrue_Compare1 (af (ha pins s σ H _ I h) fun v s1 ⟨x,H1,I1,r1,q1⟩=>af (hb pins s1 σ H1 _ I1 q1) fun u s2 ⟨y,H2,I2,r2,q2⟩ =>
  af (ho pins s2 σ H2 x y v u _ I2 r1 r2 q2) fun c s3 ⟨z,H3,I3,r3,k,e,q3⟩=>?_) hm
 subst e;cases r3;exact wpAny_truthy_bool ⟨H3,I3,q3⟩
def tZ(r r':R2)(ta tb tc:TE):TE:=fun σ H Q=>ta σ H fun x H1=>tb σ H1 fun y H2=>r x y H2 fun z H3=>∃k,z=.bl k ∧
 (if k=true then tc σ H3 fun w' H4=>r' y w' H4 Q else Q (.bl false) H3)
theorem sG{op cb:CmpOp}{r r':R2}(ho:aq X (compareOp op) r)(d6:aq X (compareOp cb) r')(ha:PE X a ta)(hb:PE X b tb)(hc:PE X c tc)
  (hm:lastMarks [op,cb] [b,c]=false:=by with_unfolding_all rfl):PE X (.Compare a [op,cb] [b,c] pos) (tZ r r' ta tb tc):=by
 intro pins s σ H Q I h;refine Compare_chain (af (ha pins s σ H _ I h) fun v s1 ⟨x,H1,I1,r1,q1⟩=>chain_link (af (hb pins s1 σ H1 _ I1 q1) fun u s2 ⟨y,H2,I2,r2,q2⟩ =>
  af (ho pins s2 σ H2 x y v u _ I2 r1 r2 q2) fun d s3 ⟨z,H3,I3,r3,k,e,q3⟩=>?_)) hm
 subst e;cases r3;refine wpAny_truthy_bool ?_;cases k with
 |false=>exact ite_ff ⟨.bl false,H3,I3,rfl,q3⟩
 |true=>exact ite_tt (chain_last (af (hc pins s3 σ H3 _ I3 q3) fun w' s4 ⟨z',H4,I4,r4,q4⟩=>d6 pins s4 σ H4 y z' u w' Q I4 r2 r4 q4))
theorem rZ{op cb:CmpOp}{r r':R2}(ho:aq X (compareOp op) r)(d6:aq X (compareOp cb) r')(ha:PE X a ta)(hb:PE X b tb)(hc:PE X c tc)
  (hm:lastMarks [op,cb] [b,c]=false:=by with_unfolding_all rfl):PT X (.Compare a [op,cb] [b,c] pos) (BJ (tZ r r' ta tb tc)):=by
 intro pins s σ H Q I h;refine isTrue_chain (af (ha pins s σ H _ I h) fun v s1 ⟨x,H1,I1,r1,q1⟩=>test_link (af (hb pins s1 σ H1 _ I1 q1) fun u s2 ⟨y,H2,I2,r2,q2⟩ =>
  af (ho pins s2 σ H2 x y v u _ I2 r1 r2 q2) fun d s3 ⟨z,H3,I3,r3,k,e,q3⟩=>?_)) hm
 subst e;cases r3;refine wpAny_truthy_bool ?_;cases k with
 |false =>
  obtain⟨k',e',q'⟩:=q3;cases e';exact ite_ff ⟨H3,I3,q'⟩
 |true =>
  refine ite_tt (test_last (af (hc pins s3 σ H3 _ I3 q3) fun w' s4 ⟨z',H4,I4,r4,q4⟩=>af (d6 pins s4 σ H4 y z' u w' _ I4 r2 r4 q4) fun d' s5 ⟨z2,H5,I5,r5,k2,e2,q5⟩=>?_))
  subst e2;cases r5;exact wpAny_truthy_bool ⟨H5,I5,q5⟩
def UB(K:p6)(x:V)(H:Hp)(k:Bool):Prop:=
 match x with
 |.non=>k=false
 |.bl b=>k=b
 |.int i=>k=(i != 0)
 |.str y=>y.length≤sizeLine∧k=((y.length:Int) != 0)
 |.byt y=>y.size≤sizeLine∧k=((y.size:Int) != 0)
 |.ref p=>(∃xs,SqL K H p xs∧k=!xs.isEmpty)∨(∃xs,SqT K H p xs∧k=!xs.isEmpty)∨∃kvs,H p=some (.dK kvs)∧k=!kvs.isEmpty
 |_=>False
theorem uV{κ:Type}{kvs:List (κ×V)}{vs:List (κ×Value)}(r:KV kvs vs):(!vs.isEmpty)=!kvs.isEmpty:=by
 cases r<;>rfl
theorem lW{xs:List V}{its:List Value}(r:aM xs its):(!its.toArray.isEmpty)=!xs.isEmpty:=by
 cases r<;>simp
theorem iG:(sizeLine:Nat)<2 ^ 63:=by rw[sizeLine_eq];decide
theorem BH:aEp X (fun x H Q=>∃k,UB X.K x H k∧Q k H):=by
 intro pins s σ H x v Q I rx h;obtain⟨k,e,q⟩:=h;have hl:=iG
 have hs:sizeLine=16777216:=sizeLine_eq
 cases x with
 |non =>
  cases rx;have e':k=false:=e
  subst e';exact truthy_none ⟨H,I,q⟩
 |bl b =>
  cases rx;have e':k=b:=e
  subst e';exact wpAny_truthy_bool ⟨H,I,q⟩
 |int i =>
  obtain⟨t,rfl⟩:=rx;have e':k=(i != 0):=e
  subst e';exact PySem.P.truthy_int ⟨H,I,q⟩
 |str y =>
  obtain⟨t,rfl⟩:=rx;obtain⟨hy,e'⟩:y.length≤sizeLine∧k=((y.length:Int) != 0):=e;subst e';exact PySem.P.truthy_str (by omega) ⟨H,I.tok _,q⟩
 |byt y =>
  obtain⟨t,rfl⟩:=rx;obtain⟨hy,e'⟩:y.size≤sizeLine∧k=((y.size:Int) != 0):=e;subst e';exact PySem.W.truthy_bytes (by omega) ⟨H,I.tok _,q⟩
 |ref p =>
  cases rx;have e':(∃xs,SqL X.K H p xs∧k=!xs.isEmpty)∨(∃xs,SqT X.K H p xs∧k=!xs.isEmpty)∨∃kvs,H p=some (.dK kvs)∧k=!kvs.isEmpty:=e
  rcases e' with ⟨xs,hx,e'⟩|⟨xs,hx,e'⟩|⟨kvs,hx,e'⟩
  ·subst e';obtain⟨its,r,pl,hz⟩:=I.list hx;have hlen:=r.length
   exact wpAny_truthy_list pl.isList (by simp only[lx];omega) ⟨H,I.tok _,by rw[lW r];exact q⟩
  ·subst e';obtain⟨its,r,pl,hz⟩:=I.tuple hx;have hlen:=r.length
   exact truthy_tuple pl (by simp only[lx];omega) ⟨H,I.tok _,by rw[lW r];exact q⟩
  ·subst e';obtain⟨hz,hS,vs,r,m⟩:kvs.length≤sizeLine∧(p == sysModules)=false∧∃vs,KV kvs vs∧s.heap.DictOf (bG X.prog X.w) p vs:=I.hok p _ hx;have hlen:kvs.length=vs.length:=Paired.length r
   exact wpAny_truthy_dict hS m (by omega) ⟨H,I.tok _,by rw[uV r];exact q⟩
 |_=>exact(show False from e).elim
theorem CB(ha:PE X a ta)(he:∀whole,isTrue a X.env whole=(do let v ←whole;standAt a.pos;holding [v] (truthy v))) :
  PT X a (fun σ H Q=>ta σ H fun x H'=>∃k,UB X.K x H' k∧Q k H'):=by
 intro pins s σ H Q I h;exact isTrue_plain (af (ha pins s σ H _ I h) fun v s1 ⟨x,H1,I1,r1,q1⟩=>BH pins s1 σ H1 x v Q I1 r1 q1) (he _)
theorem uJ:aq X (binaryOp .Add) (fun x y H Q=>∃i j,x=.str i∧y=.str j∧i.length+j.length≤sizeLine∧Q (.str (i++j)) H):=by
 intro pins s σ H x y v u Q I rx ry h;obtain⟨i,j,rfl,rfl,hz,q⟩:=h;obtain⟨t,rfl⟩:=rx;obtain⟨t',rfl⟩:=ry;exact add_str (fun t' tk=>⟨.str (i++j),H,I.tok _,⟨_,rfl⟩,q⟩) hz
theorem vals1{x:V}{us:List Value}(r:aM [x] us):∃u,us=[u]∧RelV x u:=by
 cases r with
 |cons r1 r2=>cases r2;exact⟨_,rfl,r1⟩
theorem vals2{x y:V}{us:List Value}(r:aM [x,y] us):∃u w',us=[u,w']∧RelV x u∧RelV y w':=by
 cases r with
 |cons r1 r2 =>
  cases r2 with
  |cons r3 r4=>cases r4;exact⟨_,_,rfl,r1,r3⟩
theorem AY(hc:X.calm=true):eD X (.builtin "max") (fun xs H Q=>∃i j,xs=[.int i,.int j]∧Q (.int (if j > i then j else i)) H):=by
 intro pins s σ H xs us Q I r h;obtain⟨i,j,rfl,q⟩:=h;obtain⟨u,w',rfl,⟨t,rfl⟩,⟨t',rfl⟩⟩:=vals2 r;refine max_two_ints (I.ok.hd hc) fun h' tk k=>⟨_,H,I.kept k,?_,q⟩
 by_cases hj:j > i
 ·rw[if_pos hj,if_pos hj];exact⟨_,rfl⟩
 ·rw[if_neg hj,if_neg hj];exact⟨_,rfl⟩
theorem AX(hc:X.calm=true):eD X (.builtin "min") (fun xs H Q=>∃i j,xs=[.int i,.int j]∧Q (.int (if j<i then j else i)) H):=by
 intro pins s σ H xs us Q I r h;obtain⟨i,j,rfl,q⟩:=h;obtain⟨u,w',rfl,⟨t,rfl⟩,⟨t',rfl⟩⟩:=vals2 r;refine min_two_ints (I.ok.hd hc) fun h' tk k=>⟨_,H,I.kept k,?_,q⟩
 by_cases hj:j<i
 ·rw[if_pos hj,if_pos hj];exact⟨_,rfl⟩
 ·rw[if_neg hj,if_neg hj];exact⟨_,rfl⟩
theorem oM:eD X (.type "int") (fun xs H Q=>(∃i,xs=[.int i]∧Q (.int i) H)∨∃k,xs=[.bl k]∧Q (.int (if k then 1 else 0)) H):=by
 intro pins s σ H xs us Q I r h
 rcases h with ⟨i,rfl,q⟩|⟨k,rfl,q⟩
 ·obtain⟨u,rfl,t,rfl⟩:=vals1 r;exact call_int_int ⟨.int i,H,I,⟨_,rfl⟩,q⟩
 ·obtain⟨u,rfl,r1⟩:=vals1 r;cases r1;exact call_int_bool ⟨.int (if k then 1 else 0),H,I.tok _,⟨_,rfl⟩,q⟩
end
structure ObjM (h:Heap) (x dx C:Addr) (mA:pj):Prop where
 obj:h.get? x=some (instObj C dx)
 ns:h.Ns1 dx mA
 ne:dx≠x
theorem zU{h:Heap}{dx:Addr}{mA:pj}(n:h.Ns1 dx mA):∃od,h.get? dx=some od∧∀name,lookIn name od=some (mA name):=by
 obtain⟨o,es,ep,ho,hd,hk,_,hm⟩:=n;refine⟨o,ho,fun name=>?_⟩
 have e:=hm name
 unfold nsFind findBy at e;rw[←Array.find?_toList]at e;unfold lookIn;rw[hd];dsimp only;split
 ·rename_i y q;rw[q]at e;exact congrArg some e
 ·rename_i q;rw[q]at e;have a:es.toList.any (·.refKey)=false:=by
   rw[List.any_eq_false];intro y hy;obtain⟨z,t,hkey⟩:=hk y (Array.mem_toList_iff.mp hy);simp[DictEntry.refKey,hkey]
  have a':¬es.toList.any (·.refKey)=true:=by rw[a];exact mh
  rw[if_neg a'];exact congrArg some e
theorem ObjM.look{h:Heap}{x dx C:Addr}{mA:pj}(I:ObjM h x dx C mA):∃od,PySem.W.InstAt h x (instObj C dx) C (some od)∧∀name,lookIn name od=some (mA name):=
 let ⟨od,ho,hl⟩:=zU I.ns
 ⟨od,⟨I.obj,rfl,rfl,ho⟩,hl⟩
section
variable {prog:p8}{w:World}{A:Around}{E:p9}{s:Shared}{K:p6}{x dx C f:Addr}{mA:pj}{name:Str}{v:Value}
theorem get_map{expr:Bool}{Q:p9}(X:K.In s.heap)(I:ObjM s.heap x dx C mA)(hg:plainGet K C name=true)(hh:hasDictIn K C=true)
  (ha:findIn K (.ref C) name=some none) (hv:mA name=some v) (hv':handedIn v=true) (h:Q v { s with toks:=s.toks+1 }) :
  wpAny (model prog w) A (getAttr (.ref x) name expr) Q E s:=by
 obtain⟨od,J,hl⟩:=I.look;exact PySem.W.get_value X J (plainGet_of hg).1 (PySem.W.findObj_own hh ha rfl (by rw[hl,hv])) hv' h
theorem EH{pl:Sem Bool}{Q:Value×List Value→Shared→Prop}(X:K.In s.heap)(I:ObjM s.heap x dx C mA)(hg:plainGet K C name=true)
  (hf:findIn K (.ref C) name=some (some (.ref f))) (ht:isFn K (.ref f)=true) (hv:mA name=none) (h:Q (.ref f,[.ref x]) s) :
  wpAny (model prog w) A (getMethod (.ref x) name pl) Q E s:=by
 obtain⟨od,J,hl⟩:=I.look;exact PySem.W.method_fn X J (plainGet_of hg).1 (plainGet_of hg).2 hf (nu.mp ht) (by show (lookIn name od).map (·.isSome)=some false;rw[hl,hv];rfl) h
theorem HN{ns:List Str}{Q:Unit→Shared→Prop}(X:K.In s.heap)(I:ObjM s.heap x dx C mA)
  (hs:findIn K (.ref C) "__setattr__" = some (some (.builtin "object.__setattr__"))) (hp:plainOver K C=true) (ht:takerIn K C name=some none) (hh:hasDictIn K C=true)
  (hw:PySem.Within mA ns) (hsz:ns.length≤sizeLine)
  (h:∀h',ObjM h' x dx C (fun y=>if y=name then some v else mA y)→Heap.SameBut dx s.heap h'→Q () { s with heap:=h',toks:=s.toks+2 }) :
  wpAny (model prog w) A (setAttr (.ref x) name v) Q E s:=by
 obtain⟨od,J,hl⟩:=I.look;refine PySem.W.set_plain X J hs (PySem.W.osa_open (s:={ s with toks:=s.toks+1 }) (r:=none) X J hp ht fun b=>?_)
 obtain⟨cd,hc,hd'⟩:=PySem.W.any_some hh;have hx:s.heap.get? x=some ⟨.ref C,some dx,.plain,#[]⟩:=I.obj
 refine o7 (o8 (o7 (o7 (wpAny_loadPart hx (o7 (PySem.W.Looks.here (s:={ s with toks:=s.toks+1 }) (PySem.W.looks_clsIn X hc) ?_))))))
 rw[hd'];refine o8 (a:=some dx) (o7 (o8 (o7 ?_)));refine wpAny_nsSet1 (s:={ s with toks:=s.toks+1 }) I.ns fun h' hn2 fb=>?_
 obtain⟨oD,esD,epD,hoD,hdD,hcD⟩:=hn2.count (PySem.Within.cons name v hw);refine o7 (wpAny_lookBehind hoD (by rw[hdD];exact pastItsLine_dict (mw hcD (by rw[om];omega))) ?_)
 exact o8 (h _ ⟨(fb.2 _ (Ne.symm I.ne)).trans I.obj,hn2,I.ne⟩ fb)
theorem DL{R:Result→Shared→Prop}{vs:List Value}{kw:List (Str×Value)}(X:K.In s.heap)(hm:makesIn K C=true)
  (hi:findIn K (.ref C) "__init__" = some (some (.ref f))) (hf:PySem.W.typeIn K (.ref f)=some (.type "function"))
  (h:codeAny (model prog w) (A.under (.builtin "type.__call__" ⟨.ref C::vs,kw⟩)) (.call (.ref f) ⟨.ref (s.heap.objs.size+1)::vs,kw⟩) (PySem.W.InitBack (s.heap.objs.size+1) R)
   {s with heap:=(s.heap.push emptyDict).push (instObj C s.heap.objs.size) }) :
  codeAny (model prog w) A (.call (.ref C) ⟨vs,kw⟩) R s:=by
 obtain⟨hh,g,d,t,os⟩:=s;exact PySem.W.make_core (PySem.W.makes_of X hm) (PySem.W.looks_findIn X hi) (fun self=>PySem.W.bind_fn X self hf) (.inl rfl) h
end
noncomputable def gA(f:Str)(v:V):List (Str×V)→List (Str×V)
 |[]=>[(f,v)]
 | (g,x)::r=>if g=f then(g,v)::r else(g,x)::gA f v r
theorem kE(f g:Str)(v:V):∀fs:List (Str×V),(gA f v fs).lookup g=if g=f then some v else fs.lookup g
 |[]=>by
  show List.lookup g [(f,v)]=_
  by_cases h:g=f
  ·have hb:(g == f)=true:=nu.mpr h
   simp only[List.lookup,hb,if_pos h]
  ·have hb:(g == f)=false:=nz.mpr h
   simp only[List.lookup,hb,if_neg h]
 | (k,x)::r=>by
  have ih:=kE f g v r
  rw[show gA f v ((k,x)::r)=(if k=f then(k,v)::r else(k,x)::gA f v r) from rfl]
  by_cases hk:k=f
  ·rw[if_pos hk]
   by_cases h:g=k
   ·have hb:(g == k)=true:=nu.mpr h
    simp only[List.lookup,hb,if_pos (h.trans hk)]
   ·have hb:(g == k)=false:=nz.mpr h
    simp only[List.lookup,hb,if_neg (fun e:g=f=>h (e.trans hk.symm))]
  ·rw[if_neg hk]
   by_cases h:g=k
   ·have hb:(g == k)=true:=nu.mpr h
    simp only[List.lookup,hb,if_neg (fun e:g=f=>hk (h.symm.trans e))]
   ·have hb:(g == k)=false:=nz.mpr h
    simp only[List.lookup,hb];exact ih
theorem jX(f:Str)(v:V):∀fs:List (Str×V),f∈(gA f v fs).map (·.1)∧∀g,g∈fs.map (·.1)→g∈(gA f v fs).map (·.1)
 |[]=>⟨by simp[gA],fun g h=>by simp at h⟩
 | (k,x)::r=>by
  obtain⟨i1,i2⟩:=jX f v r;rw[show gA f v ((k,x)::r)=(if k=f then(k,v)::r else(k,x)::gA f v r) from rfl]
  by_cases hk:k=f
  ·rw[if_pos hk];subst hk;exact⟨by simp,fun g h=>by simpa using h⟩
  ·rw[if_neg hk];refine⟨?_,fun g h=>?_⟩
   ·rw[nj];exact lu _ i1
   ·rw[nj]at h ⊢
    rcases my.mp h with e|e
    ·exact my.mpr (.inl e)
    ·exact lu _ (i2 g e)
theorem kG(f:Str)(v:V):∀fs:List (Str×V),(gA f v fs).length≤fs.length+1
 |[]=>by simp[gA]
 | (k,x)::r=>by
  have ih:=kG f v r
  rw[show gA f v ((k,x)::r)=(if k=f then(k,v)::r else(k,x)::gA f v r) from rfl]
  by_cases hk:k=f
  ·rw[if_pos hk,om,om];omega
  ·rw[if_neg hk,om,om];omega
theorem hJ.some_of{v:V}{o:Option Value}(r:hJ (some v) o):∃u,o=some u∧RelV v u:=by
 cases o with
 |none=>exact(show False from r).elim
 |some u=>exact⟨u,rfl,r⟩
theorem hJ.none_of{o:Option Value}(r:hJ none o):o=none:=by
 cases o with
 |none=>rfl
 |some u=>exact(show False from r).elim
theorem AE{v:V}{u:Value}(r:RelV v u):handedIn u=true:=by
 cases v with
 |non=>cases (show u=Value.none from r);rfl
 |bl b=>cases (show u=Value.bool b from r);rfl
 |int i=>obtain⟨t,e⟩:=(show ∃t,u=Value.int i t from r);cases e;rfl
 |str x=>obtain⟨t,e⟩:=(show ∃t,u=Value.str x t from r);cases e;rfl
 |byt b=>obtain⟨t,e⟩:=(show ∃t,u=Value.bytes b t from r);cases e;rfl
 |flt b=>obtain⟨t,e⟩:=(show ∃t,u=Value.float b t from r);cases e;rfl
 |ref a=>cases (show u=Value.ref a from r);rfl
 |ty n=>cases (show u=Value.type n from r);rfl
section
variable {P:p8}{w:World}{H H':Hp}{h h':Heap}{a C dx:Addr}{fs fs':List (Str×V)}
theorem kT(hok:HOk P w H h)(e:H a=some (.ins C dx fs)):∃mA,ObjM h a dx C mA∧(∀f,hJ (fs.lookup f) (mA f))∧PySem.Within mA (fs.map (·.1))∧fs.length≤1000∧H dx=some (.own a):=by
 obtain⟨d,z,ne,ob,mA,n,r,q⟩:=(show bM P w H h a (.ins C dx fs) from hok a _ e)
 exact⟨mA,⟨ob,n,ne⟩,r,q,z,d⟩
end
structure Cls (K:p6) (C:Addr):Prop where
 pg:plainGet K C Str.empty=true
 hd:hasDictIn K C=true
 po:plainOver K C=true
 sa:findIn K (.ref C) "__setattr__" = some (some (.builtin "object.__setattr__"))
theorem Cls.get{K:p6}{C:Addr}(c:Cls K C)(f:Str):plainGet K C f=true:=c.pg
def dN(K:p6)(C:Addr)(f:Str):Prop:=findIn K (.ref C) f=some none
theorem dN.taker{K:p6}{C:Addr}{f:Str}(n:dN K C f):takerIn K C f=some none:=by
 unfold takerIn;rw[show findIn K (.ref C) f=some none from n]
 rfl
structure Con (K:p6) (C:Addr) (f:Str) (v:V) (u:Value):Prop where
 at_:findIn K (.ref C) f=some (some u)
 rel:RelV v u
 get:specialIn K u "__get__" = some none
 cp:PySem.W.copiedNames.contains f=false
structure ef (K:p6) (C:Addr) (m:Str) (f:Addr):Prop where
 at_:findIn K (.ref C) m=some (some (.ref f))
 fn:isFn K (.ref f)=true
 kp:keepIn K (.ref f)=true
section
variable {X:Cx}{pins:ph}{σ:St}{H:Hp}{s:Shared}{a C dx:Addr}{fs:List (Str×V)}{f:Str}{v:V}{A:Around}{E:p9}
theorem uZ{b:Bool}{Q:p9}(I:Inv X pins σ H s)(e:H a=some (.ins C dx fs))(c:Cls X.K C)(n:dN X.K C f)(l:fs.lookup f=some v)
  (h:∀u s',Inv X pins σ H s'→RelV v u→Q u s'):wpAny (model X.prog X.w) A (getAttr (.ref a) f b) Q E s:=by
 obtain⟨mA,O,r,_,_,_⟩:=kT I.hok e;obtain⟨u,hu,ru⟩:=hJ.some_of (v:=v) (o:=mA f) (by rw[←l];exact r f)
 exact get_map I.kIn O (c.get f) c.hd n hu (AE ru) (h u _ (I.tok _) ru)
theorem mB{m:Str}{g:Addr}{pl:Sem Bool}{Q:Value×List Value→Shared→Prop}(I:Inv X pins σ H s)(e:H a=some (.ins C dx fs))(c:Cls X.K C)(k:ef X.K C m g)(l:fs.lookup m=none)
  (h:Q (.ref g,[.ref a]) s):wpAny (model X.prog X.w) A (getMethod (.ref a) m pl) Q E s:=by
 obtain⟨mA,O,r,_,_,_⟩:=kT I.hok e;have hn:mA m=none:=hJ.none_of (by rw[←l];exact r m)
 exact EH I.kIn O (c.get m) k.at_ k.fn hn h
theorem uB{y:V}{u:Value}{Q:Unit→Shared→Prop}(I:Inv X pins σ H s)(e:H a=some (.ins C dx fs))(c:Cls X.K C)(n:dN X.K C f)(hl:fs.length<1000)(ry:RelV y u)
  (h:∀s',Inv X pins σ (upd H a (.ins C dx (gA f y fs))) s'→Q () s'):wpAny (model X.prog X.w) A (setAttr (.ref a) f u) Q E s:=by
 obtain⟨mA,O,r,wi,_,ho⟩:=kT I.hok e;have hz:(fs.map (·.1)).length≤sizeLine:=by rw[la,sizeLine_eq];omega
 refine HN I.kIn O c.sa c.po n.taker c.hd wi hz fun h' O' sb=>h _ ?_
 have hd:∃o,h'.get? dx=some o:=let ⟨o,_,_,e',_⟩:=O'.ns;⟨o,e'⟩
 refine I.write (x:=a) (e:=dx) (by rw[e];exact True.intro) (.inr ho) (fun b q hb z=>(sb.2 b hb).trans z) hd ?_
 refine⟨by rw[aK O.ne];exact ho,?_,O.ne,O'.obj,_,O'.ns,fun g=>?_,fun g hg=>?_⟩
 ·have:=kG f y fs;omega
 ·show hJ ((gA f y fs).lookup g) (if g=f then some u else mA g)
  rw[kE]
  by_cases q:g=f
  ·rw[if_pos q,if_pos q];exact ry
  ·rw[if_neg q,if_neg q];exact r g
 ·by_cases q:g=f
  ·rw[q];exact(jX f y fs).1
  ·refine(jX f y fs).2 g (wi g fun z=>hg ?_)
   show (if g=f then some u else mA g)=none
   rw[if_neg q];exact z
theorem Inv.made(I:Inv X pins σ H s):Inv X pins σ (upd (upd H s.heap.objs.size (.own (s.heap.objs.size+1))) (s.heap.objs.size+1) (.ins C s.heap.objs.size []))
  {s with heap:=(s.heap.push emptyDict).push (instObj C s.heap.objs.size) }:=by
 have e1:(s.heap.push emptyDict).get? s.heap.objs.size=some emptyDict:=oa s.heap rfl
 have e2:((s.heap.push emptyDict).push (instObj C s.heap.objs.size)).get? (s.heap.objs.size+1)=some (instObj C s.heap.objs.size):=by
  have:=oa (s.heap.push emptyDict) (o:=instObj C s.heap.objs.size) rfl
  rwa [size_push]at this
 have e3:(s.heap.push emptyDict).Ns s.heap.objs.size (fun _=>none):=⟨emptyDict,#[],_,e1,rfl,(fun e he=>absurd he (by simp)),fun _=>rfl⟩
 have I1:=I.laid (a:=s.heap.objs.size) (o:=.own (s.heap.objs.size+1)) (h':=s.heap.push emptyDict) (t':=s.toks) (fun b u q=>lq _ q) (lj _) ⟨_,e1⟩
 refine I1.laid (a:=s.heap.objs.size+1) (o:=.ins C s.heap.objs.size []) (t':=s.toks) (fun b u q=>lq _ q) (Nat.le_of_eq (size_push _ _)) ?_
 have ne:s.heap.objs.size≠s.heap.objs.size+1:=o3 (Nat.lt_succ_self _)
 refine⟨by rw[aK ne,aN],oz _,ne,e2,fun _=>none,(Heap.Ns1.of_empty e3).at fun o q=>lq _ q,fun _=>True.intro,fun y hy=>absurd rfl hy⟩
theorem MK{prog:p8}{w:World}{env:Env}{e:Expr}{f:Str}{pos:Pos}{s:Shared}{Q:p9}(hb:attributeBase e f env (eval e env)=eval e env)
  (h:wpAny (model prog w) A (eval e env) (fun o s₁=>wpAny (model prog w) A (getAttr o f true) Q E s₁) E s):wpAny (model prog w) A (eval (.Attribute e f pos) env) Q E s:=
 Attribute_any_ h (by rw[arm_eval_Attribute,hb])
end
def aCW(K:p6)(ta:TE)(f:Str):TE:=fun σ H Q=>ta σ H fun x H1=>∃a C dx fs v,x=.ref a∧H1 a=some (.ins C dx fs)∧Cls K C∧dN K C f∧fs.lookup f=some v∧Q v H1
def aDi(K:p6)(ta tv:TE)(f:Str):TS:=fun D σ H=>tv σ H fun y H1=>ta σ H1 fun x H2=>∃a C dx fs,x=.ref a∧H2 a=some (.ins C dx fs)∧Cls K C∧dN K C f∧fs.length<1000 ∧
 D.nx σ (upd H2 a (.ins C dx (gA f y fs)))
section
variable {X:Cx}{o e value:Expr}{f:Str}{pos pos' tpos:Pos}{ta tv:TE}
theorem QX(he:PE X e ta)(hb:attributeBase e f X.env (eval e X.env)=eval e X.env):PE X (.Attribute e f pos) (aCW X.K ta f):=by
 intro pins s σ H Q I h;refine MK hb (af (he pins s σ H _ I h) fun u s1 ⟨x,H1,I1,rx,a,C,dx,fs,v,ex,ea,c,n,l,q⟩=>?_)
 subst ex;obtain rfl:u=Value.ref a:=rx;exact uZ I1 ea c n l fun u' s2 I2 ru=>⟨v,H1,I2,ru,q⟩
theorem QP(ha:PE X o ta)(hv:PE X value tv)(hs:swapsWith value (some (.Attribute o f pos')) pos.line X.env=pure false):PS X (.Assign [.Attribute o f pos'] value pos) (aDi X.K ta tv f):=by
 intro pins s σ H D I h;refine plainObj_wpAny_Assign_Attribute (af (hv pins s σ H _ I h) fun u s1 ⟨y,H1,I1,ry,q⟩=>af (ha pins s1 σ H1 _ I1 q) fun ov s2 ⟨x,H2,I2,rx,a,C,dx,fs,ex,ea,c,n,l,q2⟩=>?_) hs
 subst ex;obtain rfl:ov=Value.ref a:=rx;exact uB I2 ea c n l ry fun s3 I3=>⟨σ,_,I3,q2⟩
end
section
variable {X:Cx}{pins:ph}{σ:St}{H:Hp}{s:Shared}{A:Around}{E:p9}{Q:p9}{c:Value}{b:Bool}
inductive bo (K:p6) (H:Hp):V→Value→Prop where
 |non:bo K H .non (.type "NoneType")
 |bl (x:Bool):bo K H (.bl x) (.type "bool")
 |int (i:Int):bo K H (.int i) (.type "int")
 |str (x:Str):bo K H (.str x) (.type "str")
 |flt (x:UInt64):bo K H (.flt x) (.type "float")
 |lst {a:Addr} {xs:List V} (e:H a=some (.lst xs)):bo K H (.ref a) (.type "list")
 |frz {a:Addr} {o:Obj} {xs:List V} (e:H a=some (.frz o (.lst xs))):bo K H (.ref a) (.type "list")
 |tup {a:Addr} {xs:List V} (e:H a=some (.tup xs)):bo K H (.ref a) (.type "tuple")
 |dK {a:Addr} {kvs:List (Key×V)} (e:H a=some (.dK kvs)):bo K H (.ref a) (.type "dict")
 |dT {a:Addr} {kvs:List (List Key×V)} (e:H a=some (.dT kvs)):bo K H (.ref a) (.type "dict")
 |ins {a C dx:Addr} {fs:List (Str×V)} (e:H a=some (.ins C dx fs)) (cl:Cls K C) (ha:findIn K (.ref C) "__class__" = some (some (.builtin "object.__class__")))
   (hn:specialIn K (.builtin "object.__class__") "__get__" = some (some (.builtin "getset_descriptor.__get__"))) (jc:takesIn K (.builtin "object.__class__")=some true)
   (hm:mroIn K C (.type "object")=some true):bo K H (.ref a) (.ref C)
theorem fN{x:V}{u t:Value}(I:Inv X pins σ H s)(rx:RelV x u)(ty:bo X.K H x t)(e:kitOne X.K t c=some b)(h:∀tk,Q (.bool b) { s with toks:=tk }) :
  wpAny (model X.prog X.w) A (call (.builtin "isinstance") [u,c]) Q E s:=by
 cases ty with
 |non=>cases (show u=Value.none from rx);exact kia_one PySem.W.kitx_none I.kIn True.intro e (fun z=>nomatch z) h
 |bl y=>cases (show u=Value.bool y from rx);exact kia_one PySem.W.kitx_bool I.kIn True.intro e (fun z=>nomatch z) h
 |int i=>obtain⟨t,q⟩:=(show ∃t,u=Value.int i t from rx);cases q;exact kia_one PySem.W.kitx_int I.kIn True.intro e (fun z=>nomatch z) h
 |str y=>obtain⟨t,q⟩:=(show ∃t,u=Value.str y t from rx);cases q;exact kia_one PySem.W.kitx_str I.kIn True.intro e (fun z=>nomatch z) h
 |flt y=>obtain⟨t,q⟩:=(show ∃t,u=Value.float y t from rx);cases q;exact kia_one PySem.W.kitx_float I.kIn True.intro e (fun z=>nomatch z) h
 | @lst a xs ea =>
  cases (show u=Value.ref a from rx)
  obtain⟨_,_,n,_,h1⟩:=(show bM X.prog X.w H s.heap a (.lst xs) from I.hok a _ ea)
  exact kia_one kitx_list I.kIn ⟨_,h1,rfl⟩ e (fun z=>nomatch z) h
 | @frz a ob xs ea =>
  cases (show u=Value.ref a from rx)
  obtain⟨_,_,_,n,_,h1⟩:=(show bM X.prog X.w H s.heap a (.frz ob (.lst xs)) from I.hok a _ ea)
  exact kia_one kitx_list I.kIn ⟨_,h1,rfl⟩ e (fun z=>nomatch z) h
 | @tup a xs ea =>
  cases (show u=Value.ref a from rx)
  obtain⟨_,_,_,p⟩:=(show bM X.prog X.w H s.heap a (.tup xs) from I.hok a _ ea)
  obtain⟨o,h1,h2,_⟩:=p;exact kia_one PySem.W.kitx_tuple I.kIn ⟨o,h1,h2⟩ e (fun z=>nomatch z) h
 | @dK a kvs ea =>
  cases (show u=Value.ref a from rx)
  obtain⟨_,_,vs,_,p⟩:=(show bM X.prog X.w H s.heap a (.dK kvs) from I.hok a _ ea)
  obtain⟨o,es,ep,h1,h2,_⟩:=p;exact kia_one kitx_dict I.kIn ⟨o,h1,h2.1⟩ e (fun z=>nomatch z) h
 | @dT a kvs ea =>
  cases (show u=Value.ref a from rx)
  obtain⟨_,_,xs,_,o,es,ep,h1,h2,_⟩:=(show bM X.prog X.w H s.heap a (.dT kvs) from I.hok a _ ea)
  exact kia_one kitx_dict I.kIn ⟨o,h1,h2.1⟩ e (fun z=>nomatch z) h
 | @ins a C dx fs ea cl ha hn jc hm =>
  cases (show u=Value.ref a from rx)
  obtain⟨mA,O,_⟩:=kT I.hok ea;obtain⟨od,J,_⟩:=O.look;exact kia_one (PySem.W.kitx_own (cl.get _) cl.hd ha hn jc hm) I.kIn J e (fun z=>nomatch z) h
end
structure Room (k:Nat) (A:Around):Prop where
 hd:A.handled=none
 dp:A.depth+3*k+5<recursionLimit
 un:A.units+16*k+200<cLine
theorem Room.mono{j k:Nat}{A:Around}(r:Room k A)(h:j≤k):Room j A:=⟨r.hd,by have:=r.dp;omega,by have:=r.un;omega⟩
theorem Room.deeper{k:Nat}{A:Around}(r:Room (k+1) A)(env:Env):Room k (A.deeper env):=
 ⟨r.hd,by have:=r.dp;show A.depth+1+3*k+5<_;omega,by have:=r.un;show A.units+3+16*k+200<_;omega⟩
theorem uR{A:Around}{C:Addr}{us:List Value}{kw:List (Str×Value)}:(A.under (.builtin "type.__call__" ⟨.ref C::us,kw⟩)).depth=A.depth+1:=by
 first|rfl|simp[Around.under,Code.weight,Code.isCreation,Code.isGuard,Code.isCaller,Code.frames,Code.isFrame,guardIds]
theorem uQ{A:Around}{C:Addr}{us:List Value}{kw:List (Str×Value)}:(A.under (.builtin "type.__call__" ⟨.ref C::us,kw⟩)).units=A.units+1:=by
 first|rfl|simp[Around.under,Code.cUnits,Code.frames,Code.isFrame]
theorem Room.make{k:Nat}{A:Around}(r:Room (k+1) A)(C:Addr)(us:List Value)(kw:List (Str×Value)):Room k (A.under (.builtin "type.__call__" ⟨.ref C::us,kw⟩)):=
 ⟨r.hd,by have:=r.dp;rw[uR];omega,by have:=r.un;rw[uQ];omega⟩
theorem Room.depth{k:Nat}{A:Around}(r:Room k A):A.depth<recursionLimit:=by have:=r.dp;omega
theorem Room.units{k:Nat}{A:Around}(r:Room k A):A.units+64<cLine:=by have:=r.un;omega
def PH:TA:=fun _ H Q=>Q [] H
def NB(ta:TE)(tr:TA):TA:=fun σ H Q=>ta σ H fun x H1=>tr σ H1 fun xs H2=>Q (x::xs) H2
section
variable {X:Cx}{e:Expr}{es:List Expr}{te:TE}{t:TA}{pos:Pos}
theorem gE:PA X [] PH:=fun _ _ _ _ H Q I h=>Calls.spliced_nil ⟨[],H,I,.nil,h⟩
theorem bU(ha:PE X e te)(hr:PA X es t)(hs:starEach (e::es) X.env=(false,eval e X.env)::starEach es X.env:=by rfl):PA X (e::es) (NB te t):=by
 intro pos pins s σ H Q I h;rw[hs];show wpAny _ _ (spliced ((false,eval e X.env)::backTo pos (starEach es X.env))) _ _ s
 refine Calls.spliced_cons (af (ha pins s σ H _ I h) fun u s1 ⟨x,H1,I1,r1,q1⟩=>?_)
 exact af (hr pos pins s1 σ H1 _ I1 q1) fun us s2 ⟨xs,H2,I2,r2,q2⟩=>⟨x::xs,H2,I2,.cons r1 r2,q2⟩
def aCP(t:TA):TE:=fun σ H Q=>t σ H fun xs H1=>xs.length≤sizeLine∧∀p,H1 p=none→Q (.ref p) (upd H1 p (.tup xs))
def aCT(t:TA):TE:=fun σ H Q=>t σ H fun xs H1=>xs.length≤sizeLine∧∀p,H1 p=none→Q (.ref p) (upd H1 p (.lst xs))
theorem QS{x1}(h:PA X es t):PE X (.Tuple es x1 pos) (aCP t):=by
 intro pins s σ H Q I hq;refine wpAny_Tuple_spliced (af (h pos pins s σ H _ I hq) fun us s1 ⟨xs,H1,I1,r,z,q⟩=>⟨by rw[←r.length];exact z,?_⟩)
 have hf:H1 s1.heap.objs.size=none:=I1.hok.fresh (lj _)
 refine⟨.ref s1.heap.objs.size,upd H1 s1.heap.objs.size (.tup xs),I1.laid (t':=s1.toks) (fun b u e=>lq _ e) (lj _) ?_,rfl,q _ hf⟩
 exact⟨z,us,r,⟨_,oa _ rfl,rfl,_,rfl⟩⟩
theorem CI(h:PA X es t):PE X (.List es pos) (aCT t):=by
 intro pins s σ H Q I hq;refine wpAny_List_spliced (af (h pos pins s σ H _ I hq) fun us s1 ⟨xs,H1,I1,r,z,q⟩=>⟨by rw[←r.length];exact z,?_⟩)
 have hf:H1 s1.heap.objs.size=none:=I1.hok.fresh (lj _)
 refine⟨.ref s1.heap.objs.size,upd H1 s1.heap.objs.size (.lst xs),I1.laid (t':=s1.toks) (fun b u e=>lq _ e) (lj _) ?_,rfl,q _ hf⟩
 exact⟨z,us,0,r,oa _ rfl⟩
end
abbrev Sp:=List V→Hp→VK→XK→Prop
abbrev ak:=List Env→Hp→Shared→XK→Value→Shared→Prop
structure Env0 (P:p8) (w:World) (K:p6) (mg:pj) (base:Heap) (A:Around) (outer:List Env) (s:Shared) (H:Hp):Prop where
 frames:A.frames=some outer
 mod:Mod K mg base
 bs:∀b o,base.get? b=some o→s.heap.get? b=some o∧H b=none
 bsz:base.objs.size≤s.heap.objs.size
 funs:s.heap.FunFrames base outer
 frf:∀b∈frs outer,H b=none
 hok:HOk P w H s.heap
 bare:AllBare s.gens
def CE(outer:List Env)(P:p8)(w:World)(H:Hp)(s:Shared)(Q:VK)(u:Value)(s':Shared):Prop:=
 ∃v H',s'.os=s.os∧AllBare s'.gens∧Un (frs outer) [] H H' s.heap s'.heap∧HOk P w H' s'.heap∧RelV v u∧Q v H'
def CR(CX:ak)(outer:List Env)(P:p8)(w:World)(H:Hp)(s:Shared)(Q:VK)(E:XK)(r:Result)(s':Shared):Prop:=
 match r with
 |.ok (.ret u)=>CE outer P w H s Q u s'
 |.ok _=>False
 |.error e=>CX outer H s E e s'
structure FnOk (P:p8) (w:World) (K:p6) (mg:pj) (base:Heap) (CX:ak) (k:Nat) (f:Addr) (fd:p7) (ps:List Str) (sp:Sp):Prop where
 len:∀vs H Q E,sp vs H Q E→vs.length=ps.length
 run:∀(A:Around) (outer:List Env) (s:Shared) (H:Hp) (args:Args) (us:List Value) (vs:List V) (Q:VK) (E:XK),Room k A→Env0 P w K mg base A outer s H→BindsTo s fd args (ps.zip us)→aM vs us→sp vs H Q E →
  codeAny (model P w) A (.call (.ref f) args) (CR CX outer P w H s Q E) s
theorem FnOk.mono{P:p8}{w:World}{K:p6}{mg:pj}{base:Heap}{CX:ak}{j k:Nat}{f:Addr}{fd:p7}{ps:List Str}{sp:Sp}(F:FnOk P w K mg base CX j f fd ps sp)(h:j≤k) :
  FnOk P w K mg base CX k f fd ps sp:=⟨F.len,fun A outer s H args us vs Q E hr=>F.run A outer s H args us vs Q E (hr.mono h)⟩
theorem FnOk.imp{P:p8}{w:World}{K:p6}{mg:pj}{base:Heap}{CX:ak}{k:Nat}{f:Addr}{fd:p7}{ps:List Str}{sp sp':Sp}(F:FnOk P w K mg base CX k f fd ps sp)
  (h:∀vs H Q E,sp' vs H Q E→sp vs H Q E):FnOk P w K mg base CX k f fd ps sp':=
 ⟨fun vs H Q E q=>F.len vs H Q E (h _ _ _ _ q),fun A outer s H args us vs Q E hr he hb hv hs=>F.run A outer s H args us vs Q E hr he hb hv (h _ _ _ _ hs)⟩
theorem Env0.make{P:p8}{w:World}{K:p6}{mg:pj}{base:Heap}{A:Around}{outer:List Env}{s:Shared}{H:Hp}(e:Env0 P w K mg base A outer s H)(C:Addr)(us:List Value)(kw:List (Str×Value)) :
  Env0 P w K mg base (A.under (.builtin "type.__call__" ⟨.ref C::us,kw⟩)) outer s H:=⟨by first|exact e.frames|(simpa [Around.under,Code.envs,Code.isFrame,pushEnvs] using e.frames),e.mod,e.bs,e.bsz,e.funs,e.frf,e.hok,e.bare⟩
section
variable {X:Cx}{pins:ph}{σ:St}{H:Hp}{s s':Shared}
theorem Inv.env0(I:Inv X pins σ H s):Env0 X.prog X.w X.K X.mg X.base X.A X.stack s H:=
 ⟨I.ok.frames,I.ok.mod,I.bs,mw I.ok.bsz I.sz,I.stack,I.stkFree,I.hok,I.bare⟩
theorem Inv.after{Q:VK}{u:Value}(I:Inv X pins σ H s)(h:CE X.stack X.prog X.w H s Q u s'):EP X pins σ Q u s':=by
 obtain⟨v,H',os,bare,un,hok,r,q⟩:=h;obtain⟨hh,g,d,t,os'⟩:=s';obtain rfl:os'=s.os:=os;exact⟨v,H',I.call (h':=hh) (g':=g) (d':=d) (t':=t) (ch:=[]) un hok bare (fun b z=>absurd z (by simp)),r,q⟩
end
def vS(sp:Sp)(dvs:List V)(E:XK)(t:TA):TE:=fun σ H Q=>t σ H fun vs H1=>sp (vs++dvs) H1 Q E
def Binds(K:p6)(fd:p7)(ps:List Str)(ds:List Value):Prop:=
 ∀(s:Shared) (us:List Value),K.In s.heap→(us++ds).length=ps.length→BindsTo s fd ⟨us,[]⟩ (ps.zip (us++ds))
theorem Binds.all{K:p6}{fd:p7}{ps:List Str}(h:∀us:List Value,us.length=ps.length→bindArgs fd ⟨us,[]⟩=pure (ps.zip us)):Binds K fd ps []:=fun s us _ hl=>by
 rw[nh]at hl ⊢;exact .of_eq (h us hl)
def fK(CX:ak)(X:Cx)(E:XK):Prop:=∀(pins:ph) (σ:St) (H:Hp) (s:Shared) (e:Value) (s':Shared),Inv X pins σ H s→CX X.stack H s E e s'→X.xe e s'
section
variable {X:Cx}{CX:ak}{k:Nat}{f C:Addr}{fd:p7}{ps:List Str}{sp:Sp}{dvs:List V}{ds:List Value}{E:XK}{x m:Str}{p pos apos:Pos}{e o:Expr}{es:List Expr}{ta:TE}{t:TA}
theorem pF{pins:ph}{σ:St}{H:Hp}{s:Shared}{Q:VK}{us:List Value}{vs:List V}(F:FnOk X.prog X.w X.K X.mg X.base CX k f fd ps sp)(hr:Room k X.A)(hb:Binds X.K fd ps ds)(hd:aM dvs ds)(hx:fK CX X E)
  (I:Inv X pins σ H s) (r:aM vs us) (h:sp (vs++dvs) H Q E):wpAny (model X.prog X.w) X.A (call (.ref f) us) (EP X pins σ Q) X.xe s:=by
 have r2:aM (vs++dvs) (us++ds):=r.append hd
 have hl:(us++ds).length=ps.length:=by rw[←r2.length];exact F.len _ _ _ _ h
 refine wpAny_call (codeAny_mono (F.run X.A X.stack s H ⟨us,[]⟩ (us++ds) (vs++dvs) Q E hr I.env0 (hb s us I.kIn hl) r2 h) fun r s' hq=>?_)
 cases r with
 |error e=>exact hx pins σ H s e s' I hq
 |ok fl =>
  cases fl with
  |ret u=>exact I.after hq
  |next=>exact False.elim hq
  |brk=>exact False.elim hq
  |cont=>exact False.elim hq
theorem pM(F:FnOk X.prog X.w X.K X.mg X.base CX k f fd ps sp)(hr:Room k X.A)(hg:Gl X x)(hm:X.mg x=some (.ref f))(hk:keepIn X.K (.ref f)=true)(hb:Binds X.K fd ps ds)(hd:aM dvs ds)(hx:fK CX X E)
  (ha:PA X (e::es) t) (ft:(x == ("__debug__":Str))=false:=by decide) (he:starEach (e::es) X.env=(false,eval e X.env)::starEach es X.env:=by rfl) (il:(backTo pos (starEach es X.env)).any (·.1)=false:=by rfl) :
  PE X (.Call (.Name x p) (e::es) [] pos) (vS sp dvs E t):=by
 intro pins s σ H Q I h;refine wpAny_Call_Name_kw (fE I hg hm ?_ ft);refine callWith_K (h₀:=X.base) I.ok.mod.kin hk (af (ha pos pins s σ H _ I h) fun us s1 ⟨vs,H1,I1,r,q⟩=>⟨I1.kIn,?_⟩) he il
 exact pF F hr hb hd hx I1 r q
theorem sH(F:FnOk X.prog X.w X.K X.mg X.base CX k f fd ps sp)(hr:Room k X.A)(hg:Gl X x)(hm:X.mg x=some (.ref f))(hk:keepIn X.K (.ref f)=true)(hb:Binds X.K fd ps ds)(hd:aM dvs ds)(hx:fK CX X E)
  (ft:(x == ("__debug__":Str))=false:=by decide):PE X (.Call (.Name x p) [] [] pos) (vS sp dvs E PH):=by
 intro pins s σ H Q I h;refine wpAny_Call_Name_kw (fE I hg hm ?_ ft);exact callWith_K0 I.kIn hk (pF (us:=[]) F hr hb hd hx I .nil h)
structure Mk (K:p6) (C f:Addr):Prop where
 makes:makesIn K C=true
 init:findIn K (.ref C) "__init__" = some (some (.ref f))
 fn:isFn K (.ref f)=true
 kp:keepIn K (.ref C)=true
end
section
variable {X:Cx}{CX:ak}{k:Nat}{f C:Addr}{fd:p7}{ps ks:List Str}{sp:Sp}{E:XK}{x m:Str}{p pos apos kpos:Pos}{e o:Expr}{es:List Expr}{kws:List Keyword}{te ta:TE}{t tk:TA}{nm:Option Str}
structure KBinds (K:p6) (fd:p7) (ps ks:List Str) (g:List Value→List Value→List Value) (gV:List V→List V→List V):Prop where
 to:∀(s:Shared) (us ws:List Value),K.In s.heap→(g us ws).length=ps.length→BindsTo s fd ⟨us,ks.zip ws⟩ (ps.zip (g us ws))
 rel:∀{vs:List V} {us:List Value} {zs:List V} {ws:List Value},aM vs us→aM zs ws→aM (gV vs zs) (g us ws)
variable {g:List Value→List Value→List Value}{gV:List V→List V→List V}
end
structure aa (N P:List Str) (sc:Scope):Prop where
 kind:sc.kind=.function
 co:sc.isCoroutine=false
 gen:sc.isGenerator=false
 nd:N.Nodup
 pre:N.take P.length=P
 par:∀x∈P,sc.names.lookup x=some .local∨sc.names.lookup x=some .cell
 nofree:∀y∈sc.names,y.2≠.free
theorem oQ{kindOf:Str→Option NameKind}{x:Str}:∀{binds:List (Str×Value)} {m:pj},(∀v,(x,v)∉binds)→bindL kindOf binds m x=m x
 |[],_,_=>rfl
 | (n,v)::r,m,h=>by
  unfold bindL;rw[oQ fun w hw=>h w (lu _ hw)]
  split
  ·have:x≠n:=by rintro rfl;exact h v oi
   simp[this]
  ·rfl
theorem oS{kindOf:Str→Option NameKind}{x:Str}:∀{binds:List (Str×Value)} {m:pj},(∀v,(x,v)∉binds)→bindC kindOf binds m x=m x
 |[],_,_=>rfl
 | (n,v)::r,m,h=>by
  unfold bindC;rw[oS fun w hw=>h w (lu _ hw)]
  split
  ·rfl
  ·have:x≠n:=by rintro rfl;exact h v oi
   simp[this]
theorem oR{kindOf:Str→Option NameKind}{x:Str}{v:Value}:∀{P:List Str} {vs:List Value} {i:Nat} {m:pj},P.Nodup→P[i]?=some x→vs[i]?=some v→kindOf x=some .local →
  bindL kindOf (P.zip vs) m x=some v
 |[],_,_,_,_,h,_,_=>by simp at h
 |_::_,[],_,_,_,_,h,_=>by simp at h
 |p::P,w::vs,0,m,nd,h1,h2,hk=>by
  simp at h1 h2;subst h1;subst h2;show bindL kindOf ((p,w)::P.zip vs) m p=_
  unfold bindL;rw[oQ fun v hv=>(nodup_cons.mp nd).1 (List.of_mem_zip hv).1,if_pos hk]
  simp
 |p::P,w::vs,i+1,m,nd,h1,h2,hk=>by
  show bindL kindOf ((p,w)::P.zip vs) m x=_
  unfold bindL;exact oR (i:=i) (nodup_cons.mp nd).2 (by simpa using h1) (by simpa using h2) hk
theorem oT{kindOf:Str→Option NameKind}{x:Str}{v:Value}:∀{P:List Str} {vs:List Value} {i:Nat} {m:pj},P.Nodup→P[i]?=some x→vs[i]?=some v→kindOf x≠some .local →
  bindC kindOf (P.zip vs) m x=some v
 |[],_,_,_,_,h,_,_=>by simp at h
 |_::_,[],_,_,_,_,h,_=>by simp at h
 |p::P,w::vs,0,m,nd,h1,h2,hk=>by
  simp at h1 h2;subst h1;subst h2;show bindC kindOf ((p,w)::P.zip vs) m p=_
  unfold bindC;rw[oS fun v hv=>(nodup_cons.mp nd).1 (List.of_mem_zip hv).1,if_neg hk]
  simp
 |p::P,w::vs,i+1,m,nd,h1,h2,hk=>by
  show bindC kindOf ((p,w)::P.zip vs) m x=_
  unfold bindC;exact oT (i:=i) (nodup_cons.mp nd).2 (by simpa using h1) (by simpa using h2) hk
noncomputable def start(N:List Str)(vs:List V):St:=vs.map some++List.replicate (N.length-vs.length) none
noncomputable def iJ(CX:ak)(P:p8)(w:World)(K:p6)(mg:pj)(base:Heap)(N:List Str)(qual:Str)(scope:Scope)(f:Addr)(cd:Value)(A:Around)(outer:List Env)(s:Shared)(H:Hp)(E:XK):Cx where
 prog:=P
 w:=w
 K:=K
 mg:=mg
 base:=base
 A:=A.deeper (envOfC qual scope s.heap.objs.size f cd)
 N:=N
 s₀:=s
 H₀:=H
 env:=envOfC qual scope s.heap.objs.size f cd
 outer:=outer
 stack:=envOfC qual scope s.heap.objs.size f cd::outer
 ex:=[]
 calm:=true
 fn:=fun _=>true
 pn:=[]
 xe:=fun e s'=>wpAny (model P w) (A.deeper (envOfC qual scope s.heap.objs.size f cd)) (leaving (envOfC qual scope s.heap.objs.size f cd) e) (fun _ jw=>CX outer H s E e jw) (fun e' jw=>CX outer H s E e' jw) s'
theorem tR{sc:Scope}{n:Nat}{x:Str}(h:sc.names.lookup x=some .cell):∃c,(cellsFrom n sc.names []).lookup x=some c:=by
 have q:=PySem.W.cellsFrom_some sc.names n [] (.inl h)
 exact Option.isSome_iff_exists.mp q
theorem AB{CX:ak}{P:p8}{w:World}{K:p6}{mg:pj}{base:Heap}{N ps:List Str}{qual:Str}{scope:Scope}{f:Addr}{cd:Value}{A:Around}{outer:List Env}{s s1:Shared}{H:Hp}{E:XK}{us:List Value}{vs:List V}
  (S:aa N ps scope) (hd:A.handled=none) (e0:Env0 P w K mg base A outer s H) (hl:vs.length=ps.length) (r:aM vs us)
  (x:InCallC s s.heap.objs.size (bindL (envOfC qual scope s.heap.objs.size f cd).kindOf (ps.zip us) fun _=>none) (cellsFrom (s.heap.objs.size+1) scope.names []) (bindC (envOfC qual scope s.heap.objs.size f cd).kindOf (ps.zip us) fun _=>none) s1) :
  Inv (iJ CX P w K mg base N qual scope f cd A outer s H E) [] (start N vs) H s1:=by
 have il:ps.length≤N.length:=by have:=congrArg List.length S.pre;rw[o4]at this;omega
 obtain⟨h1,tk,rfl,hk⟩:=x.done;have jz:∀b:Addr,b∉(iJ CX P w K mg base N qual scope f cd A outer s H E).ex:=fun b z=>absurd (show b∈([]:List Addr) from z) (by simp)
 refine⟨⟨e0.mod,S.kind,rfl,rfl,lj _,fun y z c h1 h2=>?_,fun y hy=>?_,fun y c _ h=>?_,fun _=>hd,Around.frames_deeper e0.frames,.inr ⟨rfl,rfl⟩,fun b z=>absurd z (jz b),e0.bs,e0.bsz,fun b _ _=>jz b,fun b z=>absurd z (jz b),e0.funs,e0.frf⟩,
  rfl,e0.bare,Un.kept hk,⟨_,x.toInCall.ns,fun i y v h1 h2 h3=>?_⟩,fun y c h=>⟨_,x.cell y c h⟩,e0.hok.fresh (lj _),fun y c h=>?_,fun p hp=>absurd (show p∈([]:ph) from hp) (by simp),e0.hok.kept hk,?_⟩
 ·exact name_of_addr x.apart (ny h1) (ny h2)
 ·have hy:scope.names.lookup y=some .cell∨scope.names.lookup y=some .free:=hy
  rcases hy with hy|hy
  ·exact tR hy
  ·exact absurd rfl (S.nofree _ (ny hy))
 ·exact Nat.le_of_lt (x.above y c (ny h))
 ·have hi:i<vs.length:=by
   unfold start at h2
   by_cases hi:i<vs.length
   ·exact hi
   ·rw[ox (by simpa using hi)]at h2
    rw[getElem?_replicate]at h2;split at h2<;>cases h2
  have ha:vs[i]?=some v:=by
   unfold start at h2;rw[ow (by simpa using hi),l9]at h2
   cases e:vs[i]? with
   |none=>rw[e]at h2;cases h2
   |some a=>rw[e]at h2;cases h2;rfl
  obtain⟨u,hu,rv⟩:=r.get ha;have hp:ps[i]?=some y:=by
   rw[←S.pre,List.getElem?_take_of_lt (by omega)];exact h1
  have ndP:ps.Nodup:=by rw[←S.pre];exact S.nd.sublist (List.take_sublist _ _)
  refine⟨u,rv,?_⟩
  rcases S.par y (l6 hp) with k|k
  ·exact .inl ⟨k,oR ndP hp hu k⟩
  ·obtain⟨c,e⟩:=tR (n:=s.heap.objs.size+1) k;refine .inr ⟨.inl k,c,e,?_⟩;have q:=x.cell y c e
   rw[oT ndP hp hu (by show scope.names.lookup y≠_;rw[k];decide)]at q
   exact q
 ·exact e0.hok.fresh (Nat.le_of_lt (x.above y c (ny h)))
 ·unfold start;show _=N.length
  rw[nc,la,List.length_replicate];omega
theorem wU{CX:ak}{P:p8}{w:World}{K:p6}{mg:pj}{base:Heap}{k:Nat}{f:Addr}{name qual:Str}{params:Arguments}{body:List Stmt}{scope:Scope}{dV kV doc pm av ct oc:Value}{an od:Option Addr}
  {gc:Array (Option Value)} {N ps:List Str} {sp:Sp} (lk:K.lookup f=some ⟨oc,od,.func (PySem.W.fnOf name qual params body scope dV kV doc pm an av ct),gc⟩) (c7:codeIn K av qual=true) (S:aa N ps scope)
  (len:∀vs H Q E,sp vs H Q E→vs.length=ps.length)
  (hbody:∀(A:Around) (outer:List Env) (s:Shared) (H:Hp) (vs:List V) (Q:VK) (E:XK),Room k (A.deeper (envOfC qual scope s.heap.objs.size f av))→sp vs H Q E →
   ∃t,PSs (iJ CX P w K mg base N qual scope f av A outer s H E) body t∧t { nx:=fun _ H'=>Q .non H',rt:=Q } (start N vs) H) :
  FnOk P w K mg base CX (k+1) f (PySem.W.fnOf name qual params body scope dV kV doc pm an av ct) ps sp:=by
 refine⟨len,fun A outer s H args us vs Q E hr e0 hb r aT=>?_⟩
 have hl:=len _ _ _ _ aT
 have KX:K.In s.heap:=e0.mod.kin.keeps fun b o e=>(e0.bs b o e).1
 have lim:s.heap.NoLimit:=e0.mod.nolimit.keeps fun b o e=>(e0.bs b o e).1
 have hkind:∀y∈ps.zip us,scope.names.lookup y.1=some .local∨(scope.names.lookup y.1=some .cell∧((cellsFrom (s.heap.objs.size+1) scope.names []).lookup y.1).isSome=true):=fun⟨n,v⟩ hy=>by
  rcases S.par n (List.of_mem_zip hy).1 with q|q
  ·exact .inl q
  ·exact .inr ⟨q,PySem.W.cellsFrom_some _ _ _ (.inl q)⟩
 refine codeAny_call_function hr.depth (KX _ _ lk) rfl S.co S.gen rfl (PySem.W.codeRec_of KX c7) (hb _ _ _ _ ?_);refine wpAny_newFunctionEnv_cells S.kind hkind fun env he s1 x=>?_
 subst he;refine⟨lim.keeps x.toInCall.keep,codeAny_func ?_⟩;obtain⟨t,ht,hq⟩:=hbody A outer s H vs Q E (hr.deeper _) aT;have I:Inv (iJ CX P w K mg base N qual scope f av A outer s H E) [] (start N vs) H s1:=AB S hr.hd e0 hl r x
 refine o9 (ht [] s1 (start N vs) H _ I hq) (fun fl s' hs=>?_) fun e s' hs=>hs
 have fin:∀{σ':St} {H':Hp} {v:V} {u:Value},Inv (iJ CX P w K mg base N qual scope f av A outer s H E) [] σ' H' s'→RelV v u→Q v H'→CE outer P w H s Q u s':=
  fun {σ' H' v u} J rv q=>⟨v,H',J.os,J.bare,J.base,J.hok,rv,q⟩
 cases fl with
 |ret u =>
  obtain⟨v,σ',H',J,rv,q⟩:=hs;exact fin J rv q
 |next =>
  obtain⟨σ',H',J,q⟩:=hs;exact fin (v:=V.non) (u:=Value.none) J rfl q
 |brk =>
  obtain⟨_,_,_,q⟩:=hs;exact False.elim q
 |cont =>
  obtain⟨_,_,_,q⟩:=hs;exact False.elim q
section
variable {X:Cx}{x:Str}{p pos:Pos}{e:Expr}{es:List Expr}{t:TA}{id T:String}{r:List V→Hp→VK→Prop}
def tCB(r:List V→Hp→VK→Prop)(t:TA):TE:=fun σ H Q=>t σ H fun vs H1=>r vs H1 Q
theorem eU(hc:eD X (.builtin id) r)(hg:Gl X x)(hm:X.mg x=none)(hv:bootBuiltins x=some (.builtin id))(ha:PA X (e::es) t)(hn:x≠"__name__":=by decide)(ft:(x == ("__debug__":Str))=false:=by decide)
  (he:starEach (e::es) X.env=(false,eval e X.env)::starEach es X.env:=by rfl) (il:(backTo pos (starEach es X.env)).any (·.1)=false:=by rfl):PE X (.Call (.Name x p) (e::es) [] pos) (tCB r t):=by
 intro pins s σ H Q I h;refine wpAny_Call_Name_kw (gI I hg hm hv ?_ hn ft);exact PyProof.Rows.callWith_builtin1 (af (ha pos pins s σ H _ I h) fun us s1 ⟨vs,H1,I1,r1,q1⟩=>hc pins s1 σ H1 vs us Q I1 r1 q1) he il
theorem jP(hc:eD X (.type T) r)(hg:Gl X x)(hm:X.mg x=none)(hv:bootBuiltins x=some (.type T))(ha:PA X (e::es) t)(hn:x≠"__name__":=by decide)(ft:(x == ("__debug__":Str))=false:=by decide)
  (he:starEach (e::es) X.env=(false,eval e X.env)::starEach es X.env:=by rfl) (il:(backTo pos (starEach es X.env)).any (·.1)=false:=by rfl):PE X (.Call (.Name x p) (e::es) [] pos) (tCB r t):=by
 intro pins s σ H Q I h;refine wpAny_Call_Name_kw (gI I hg hm hv ?_ hn ft);exact mz (af (ha pos pins s σ H _ I h) fun us s1 ⟨vs,H1,I1,r1,q1⟩=>hc pins s1 σ H1 vs us Q I1 r1 q1) he il
end
end L2
namespace HT
open PySem PyProof.Rows
section
open PySem.SeqAt
open PySem.AutoSeq1 (wpAny_loadPart')
open PySem.MeetsSeq PySem.MeetsSeq2 PySem.MeetsSeq3
end
section
variable {prog:p8}{w:World}{A:Around}{E:p9}{s:Shared}
theorem MH{t b:Addr}{vs ws:List Value}{Q:p9}(ht:IsTup s.heap t vs.toArray)(hb:IsTup s.heap b ws.toArray)(hv:vs≠[])
  (h1:ws=[]→Q (.ref t) s) (h2:ws≠[]→Q (.ref s.heap.objs.size) { s with heap:=s.heap.push { cls:=.type "tuple",data:=.seq (vs++ws).toArray } })
  (hsz:vs.length+ws.length≤sizeLine):wpAny (model prog w) A (binaryOp .Add (.ref t) (.ref b)) Q E s:=by
 obtain⟨⟨cls,dd,data,sl⟩,ho,hc,n,hd⟩:=id ht;obtain⟨⟨cls2,dd2,data2,iN⟩,d5,d9,n2,hd2⟩:=id hb;simp only at hc hd d9 hd2;subst hc hd d9 hd2;have e:vs.toArray++ws.toArray=(vs++ws).toArray:=by simp
 by_cases hw:ws=[]
 ·exact concat_meets ⟨_,ho,rfl⟩ ⟨_,d5,rfl⟩ noFill_tuple_add seq_tuple_add slot_tuple_add entry_tuple_add (args_tuple_add_2 _ _)
   (tuple_addW1 t b vs.toArray ws.toArray n n2 dd dd2 sl iN (by simpa using hv) (by simp[hw])) ⟨ho,d5,h1 hw⟩
 ·refine concat_meets ⟨_,ho,rfl⟩ ⟨_,d5,rfl⟩ noFill_tuple_add seq_tuple_add slot_tuple_add entry_tuple_add (args_tuple_add_2 _ _)
   (tuple_addW2 t b vs.toArray ws.toArray n n2 dd dd2 sl iN (by simpa using hv) (by simpa using hw) (by rw[lx,lx];exact hsz)) ⟨ho,d5,?_⟩
  rw[e];exact h2 hw
noncomputable def sIx(n d:Nat):Option Int→Nat
 |none=>d
 |some v=>if v<0 then(v+(n:Int)).toNat else min v.toNat n
theorem QB(n d:Nat)(hd:d≤n)(o:Option Int):sIx n d o≤n:=by
 cases o with
 |none=>exact hd
 |some v =>
  show (if v<0 then(v+(n:Int)).toNat else min v.toNat n)≤n
  by_cases hv:v<0
  ·rw[if_pos hv];omega
  ·rw[if_neg hv];exact Nat.min_le_right _ _
theorem yH(v:Int)(n d:Nat):(if v<0 then max (v+(n:Int)) 0 else min v (n:Int))=((sIx n d (some v):Nat):Int):=by
 show (if v<0 then max (v+(n:Int)) 0 else min v (n:Int))=(((if v<0 then(v+(n:Int)).toNat else min v.toNat n):Nat):Int)
 by_cases hv:v<0
 ·simp only[if_pos hv];omega
 ·simp only[if_neg hv];omega
theorem vL(lo hi:Option Int)(n:Nat):Builtin.Slice.sliceAdjust lo hi 1 (n:Int)=(((sIx n 0 lo:Nat):Int),((sIx n n hi:Nat):Int)):=by
 have h1:¬((1:Int)<0):=by omega
 unfold Builtin.Slice.sliceAdjust;simp only[h1,if_false];refine Prod.ext ?_ ?_
 ·cases lo with
  |none=>rfl
  |some v=>exact yH v n 0
 ·cases hi with
  |none=>rfl
  |some v=>exact yH v n n
theorem uH(i j:Nat):Builtin.Slice.slicePlaces (i:Int) (j:Int) 1=j-i:=by
 unfold Builtin.Slice.slicePlaces;have h1:(1:Int) > 0:=by omega
 simp only[h1,if_true,Int.ediv_one];split<;>omega
theorem lJ{v:Value}{o:Option Int}{Q:Option Int→Shared→Prop}(p:IsPart v o)(h:Q o s):wpAny (model prog w) A (Builtin.Slice.slicePartIndex v) Q E s:=by
 cases p with
 |none=>exact slicePart_none h
 |int i t=>exact slicePart_int h
theorem jK{sl:Addr}{vl vu:Value}{lo hi:Option Int}{n:Nat}{Q:Int×Int×Nat→Shared→Prop}(hs:s.heap.IsSliceOf sl vl vu .none)(pl:IsPart vl lo)(pu:IsPart vu hi)
  (h:Q (((sIx n 0 lo:Nat):Int),1,sIx n n hi-sIx n 0 lo) s):wpAny (model prog w) A (Builtin.Slice.sliceApplied (.ref sl) (pure (n:Int))) Q E s:=by
 obtain⟨os,iu,hcs,ay⟩:=id hs;unfold Builtin.Slice.sliceApplied Builtin.Slice.sliceFields;refine o7 (o7 (wpAny_field iu ay (x:=vl) rfl (o7 (wpAny_field iu ay (x:=vu) rfl (o7 (wpAny_field iu ay (x:=.none) rfl (o8 ?_)))))));refine o7 (slicePart_none ?_);show wpAny _ _ (if ((1:Int) == 0)=true then _ else _) _ _ s
 rw[if_neg (by decide)]
 refine o7 (lJ pl (o7 (lJ pu (o7 (o8 ?_)))));show wpAny _ _ (match Builtin.Slice.sliceAdjust lo hi 1 (n:Int) with|(lo,hi)=>pure (lo,(1:Int),Builtin.Slice.slicePlaces lo hi 1)) _ _ s
 rw[vL lo hi n];show wpAny _ _ (pure (((sIx n 0 lo:Nat):Int),(1:Int),Builtin.Slice.slicePlaces ((sIx n 0 lo:Nat):Int) ((sIx n n hi:Nat):Int) 1)) _ _ s
 rw[uH];exact o8 h
theorem CG(xs:Array Value)(i k:Nat):((List.range k).filterMap fun (m:Nat)=>xs[((i:Int)+(m:Int)*1).toNat]?).toArray=((xs.toList.drop i).take k).toArray:=by
 have e:(fun (m:Nat)=>xs[((i:Int)+(m:Int)*1).toNat]?)=fun m=>xs[i+m]?:=by
  funext m
  have:((i:Int)+(m:Int)*1).toNat=i+m:=by omega
  rw[this]
 rw[e];have:=pick_run xs i k
 rw[List.filterMap_map]at this;have e2:((fun x=>xs[x]?) ∘ fun x=>i+x)=fun m=>xs[i+m]?:=rfl
 rw[e2]at this;rw[this]
theorem iX{t sl:Addr}{items:Array Value}{vl vu:Value}{lo hi:Option Int}{Q:p9}(ht:IsTup s.heap t items)(hs:s.heap.IsSliceOf sl vl vu .none)(pl:IsPart vl lo)(pu:IsPart vu hi)
  (hw:¬(sIx items.size 0 lo=0∧sIx items.size items.size hi=items.size))
  (h:Q (.ref s.heap.objs.size) { s with heap:=s.heap.push { cls:=.type "tuple",data:=.seq ((items.toList.drop (sIx items.size 0 lo)).take (sIx items.size items.size hi-sIx items.size 0 lo)).toArray } })
  (hsz:items.size≤sizeLine):wpAny (model prog w) A (getItem (.ref t) (.ref sl)) Q E s:=by
 have htake:sizeOk (.seq ((items.toList.drop (sIx items.size 0 lo)).take (sIx items.size items.size hi-sIx items.size 0 lo)).toArray):=by
  show ((items.toList.drop (sIx items.size 0 lo)).take (sIx items.size items.size hi-sIx items.size 0 lo)).toArray.size≤sizeLine
  rw[lx,o4,p4,length_toList];omega
 have hj:sIx items.size items.size hi≤items.size:=QB _ _ (lj _) hi
 obtain⟨os,iu,hcs,ay⟩:=id hs;have hTs:s.TypeIs (.ref sl) "slice":=⟨os,iu,hcs⟩
 unfold getItem
 try with_reducible refine wpAny_holding ?_
 first|refine o7 (o8 ?_)|skip
 refine o7 (wpAny_sequenceKey ht.typeIs (by decide) ?_)
 refine o7 (wpAny_callSpecial?_slot (name:=Str.ofString "__getitem__") ht.typeIs PyProof.Rows.slot_tuple_getitem
  (wpAny_call_entry PyProof.Rows.slot_tuple_getitem ht.typeIs entry_tuple_getitem ?_ (args_tuple_getitem _ _)))
 show wpAny _ _ (Builtin.Tuple.tupleItemsOf (.ref t) >>= _) _ _ s
 refine o7 (tupleItemsOf_ ht ?_);refine o7 (wpAny_typeOf hTs ?_);rw[if_pos (by decide)]
 refine o7 (jK hs pl pu ?_);have hno:¬((((sIx items.size 0 lo:Nat):Int) == 0&&(1:Int) == 1&&(sIx items.size items.size hi-sIx items.size 0 lo) == items.size)=true):=by
  intro q;rw[ly,ly]at q;have q1:((sIx items.size 0 lo:Nat):Int)=0:=eq_of_beq q.1.1
  have q2:sIx items.size items.size hi-sIx items.size 0 lo=items.size:=eq_of_beq q.2
  exact hw ⟨by omega,by omega⟩
 show wpAny _ _ (if (((sIx items.size 0 lo:Nat):Int) == 0&&(1:Int) == 1&&(sIx items.size items.size hi-sIx items.size 0 lo) == items.size)=true then _ else _) _ _ s
 rw[if_neg hno,CG]
 first
  |exact o7 (m:=Builtin.Tuple.tupleExact _) (wpAny_newObj_type (o8 ⟨_,rfl,o8 h⟩) htake)
  |exact o7 (m:=Builtin.Tuple.tupleExact _) (wpAny_newObj_type (o7 (o8 (o8 ⟨_,rfl,o8 h⟩))) htake)
  |exact o7 (o7 (m:=Builtin.Tuple.tupleExact _) (wpAny_newObj_type (o8 (o8 ⟨_,rfl,o8 h⟩)) htake))
  |exact o7 (o7 (m:=Builtin.Tuple.tupleExact _) (wpAny_newObj_type (o8 ⟨_,rfl,o8 h⟩) htake))
end
end HT
namespace L2
open PySem PySem.Spec PyProof.Rows
abbrev TO:=St→Hp→(Option Int→Hp→Prop)→Prop
def PO(X:Cx)(e:Option Expr)(t:TO):Prop:=
 ∀(pins:ph) (s:Shared) (σ:St) (H:Hp) (Q:Option Int→Hp→Prop),Inv X pins σ H s→t σ H Q →
  wpAny (model X.prog X.w) X.A (evalPart e X.env) (fun u s'=>∃o H',Inv X pins σ H' s'∧IsPart u o∧Q o H') X.xe s
noncomputable def GZ:TO:=fun _ H Q=>Q none H
noncomputable def WG(t:TE):TO:=fun σ H Q=>t σ H fun x H1=>∃i,x=.int i∧Q (some i) H1
section
variable {X:Cx}{e:Expr}{te:TE}{lo hi:Option Expr}{tl th:TO}{pos p2:Pos}
theorem IV:PO X none GZ:=by
 intro pins s σ H Q I h;rw[evalPart_none];exact o8 ⟨none,H,I,.none,h⟩
theorem IU(h:PE X e te):PO X (some e) (WG te):=by
 intro pins s σ H Q I hw;rw[evalPart_some];refine af (h pins s σ H _ I hw) fun u s1 ⟨x,H1,I1,r1,q1⟩=>?_
 obtain⟨i,rfl,q⟩:=q1;obtain⟨t,rfl⟩:=r1;exact⟨some i,H1,I1,.int i t,q⟩
def SlR(X:Cx)(r:V→Option Int→Option Int→Hp→VK→Prop):Prop:=
 ∀(pins:ph) (s:Shared) (σ:St) (H:Hp) (x:V) (v vl vu:Value) (lo hi:Option Int) (sl:Addr) (Q:VK),Inv X pins σ H s→RelV x v→s.heap.IsSliceOf sl vl vu .none→IsPart vl lo→IsPart vu hi→r x lo hi H Q →
  ∃T id,typeLookup (.type T) "__getitem__" = pure (some (.builtin id))∧s.TypeIs v T∧wpAny (model X.prog X.w) X.A (getItem v (.ref sl)) (EP X pins σ Q) X.xe s
def tSl(r:V→Option Int→Option Int→Hp→VK→Prop)(te:TE)(tl th:TO):TE:=fun σ H Q=>te σ H fun x H1=>tl σ H1 fun l H2=>th σ H2 fun u H3=>r x l u H3 Q
theorem lN{r:V→Option Int→Option Int→Hp→VK→Prop}(hr:SlR X r)(he:PE X e te)(hl:PO X lo tl)(hu:PO X hi th):PE X (.Subscript e (.Slice lo hi none p2) pos) (tSl r te tl th):=by
 intro pins s σ H Q I h;refine Subscript_ (af (he pins s σ H _ I h) fun v s1 ⟨x,H1,I1,r1,q1⟩=>?_)
 refine wpAny_Slice (af (hl pins s1 σ H1 _ I1 q1) fun vl s2 ⟨l,H2,I2,pl,q2⟩=>af (hu pins s2 σ H2 _ I2 q2) fun vu s3 ⟨u,H3,I3,pu,q3⟩=>?_)
 rw[evalPart_none];refine o8 ?_;have I4:Inv X pins σ H3 { s3 with heap:=s3.heap.push { cls:=.type "slice",data:=.fields #[vl,vu,.none] } }:=I3.kept (t':=s3.toks) fun b ob q=>lq _ q
 obtain⟨T,id,hT,ht,hg⟩:=hr pins { s3 with heap:=s3.heap.push { cls:=.type "slice",data:=.fields #[vl,vu,.none] } } σ H3 x v vl vu l u s3.heap.objs.size Q I4 r1 (Heap.IsSliceOf.new ..) pl pu q3
 show wpAny (model X.prog X.w) X.A (subscriptTail e (.Slice lo hi none p2) v (.ref s3.heap.objs.size)) (EP X pins σ Q) X.xe { s3 with heap:=s3.heap.push { cls:=.type "slice",data:=.fields #[vl,vu,.none] } }
 exact tail_any (ops:=[.ref s3.heap.objs.size,v]) ht hT hg (by with_unfolding_all rfl)
noncomputable def tM(xs:List V)(lo hi:Option Int):List V:=(xs.drop (HT.sIx xs.length 0 lo)).take (HT.sIx xs.length xs.length hi-HT.sIx xs.length 0 lo)
theorem kI(xs:List V)(lo hi:Option Int):(tM xs lo hi).length≤xs.length:=by
 unfold tM;rw[o4,p4];omega
noncomputable def aDv(K:p6):V→Option Int→Option Int→Hp→VK→Prop:=fun x lo hi H Q=>∃a xs,x=.ref a∧SqT K H a xs ∧
 ¬(HT.sIx xs.length 0 lo=0∧HT.sIx xs.length xs.length hi=xs.length)∧∀p,H p=none→Q (.ref p) (upd H p (.tup (tM xs lo hi)))
theorem QA:SlR X (aDv X.K):=by
 intro pins s σ H x v vl vu lo hi sl Q I rx hs pl pu h;obtain⟨a,xs,rfl,hx,hw,q⟩:=h;cases rx;obtain⟨its,r,ht,hz⟩:=I.tuple hx;have hlen:its.toArray.size=xs.length:=by rw[lx];exact r.length.symm
 refine⟨"tuple",_,PyProof.Rows.slot_tuple_getitem.lookup,ht.typeIs,?_⟩;refine HT.iX ht hs pl pu (by rw[hlen];exact hw) ?_ (by rw[hlen];exact hz)
 rw[hlen];refine⟨.ref s.heap.objs.size,_,I.laid (t':=s.toks) (o:=.tup (tM xs lo hi)) (fun b ob q=>lq _ q) (lj _) ?_,rfl,q _ (I.hok.fresh (lj _))⟩
 exact⟨mw (kI xs lo hi) hz,_,(r.drop (HT.sIx xs.length 0 lo)).take (HT.sIx xs.length xs.length hi-HT.sIx xs.length 0 lo),IsTup.new _ _⟩
noncomputable def ZC(K:p6):R2:=fun x y H Q=>∃a b xs ys,x=.ref a∧y=.ref b∧SqT K H a xs∧SqT K H b ys∧xs≠[]∧xs.length+ys.length≤sizeLine ∧
 (ys=[]→Q (.ref a) H)∧(ys≠[]→∀p,H p=none→Q (.ref p) (upd H p (.tup (xs++ys))))
theorem aM.nil_iff{xs:List V}{us:List Value}(r:aM xs us):us=[]↔xs=[]:=by
 cases r with
 |nil=>simp
 |cons _ _=>simp
theorem JN:aq X (binaryOp .Add) (ZC X.K):=by
 intro pins s σ H x y v u Q I rx ry h;obtain⟨a,b,xs,ys,rfl,rfl,ha,hb,hx,hz,q1,q2⟩:=h;cases rx;cases ry;obtain⟨its,r1,p1,_⟩:=I.tuple ha;obtain⟨b6,r2,p2,_⟩:=I.tuple hb;refine HT.MH p1 p2 (fun z=>hx (r1.nil_iff.mp z)) (fun z=>⟨.ref a,H,I,rfl,q1 (r2.nil_iff.mp z)⟩) (fun z=>?_) (by rw[←r1.length,←r2.length];exact hz)
 refine⟨.ref s.heap.objs.size,_,I.laid (t':=s.toks) (o:=.tup (xs++ys)) (fun b ob q=>lq _ q) (lj _) ?_,rfl,q2 (fun w=>z (r2.nil_iff.mpr w)) _ (I.hok.fresh (lj _))⟩
 exact⟨by rw[nc];exact hz,_,r1.append r2,IsTup.new _ _⟩
end
noncomputable def ixN(n:Nat)(i:Int):Option Nat:=if 0≤i then(if i<n then some i.toNat else none) else if -(n:Int)≤i then some (i+n).toNat else none
noncomputable def atI{α:Type}(xs:List α)(i:Int):Option α:=(ixN xs.length i).bind fun j=>xs[j]?
theorem wJ{n:Nat}{i:Int}{j:Nat}(h:ixN n i=some j):seqIndex? i n=some j∧j<n∧-(n:Int)≤i∧i<n:=by
 unfold ixN at h
 by_cases h0:0≤i
 ·rw[if_pos h0]at h
  by_cases h1:i<n
  ·rw[if_pos h1]at h;have e:i.toNat=j:=lz h
   exact⟨by rw[seqIndex_of h0 h1,e],by omega,by omega,h1⟩
  ·rw[if_neg h1]at h;cases h
 ·rw[if_neg h0]at h
  by_cases h1:-(n:Int)≤i
  ·rw[if_pos h1]at h;have e:(i+n).toNat=j:=lz h
   exact⟨by rw[seqIndex_neg (by omega) h1,e],by omega,h1,by omega⟩
  ·rw[if_neg h1]at h;cases h
theorem rG{α:Type}{xs:List α}{i:Int}{v:α}(h:atI xs i=some v):∃j,seqIndex? i xs.length=some j∧xs[j]?=some v∧j<xs.length∧-(xs.length:Int)≤i∧i<xs.length:=by
 unfold atI at h;cases e:ixN xs.length i with
 |none=>rw[e]at h;cases h
 |some j =>
  rw[e]at h;obtain⟨h1,h2,h3,h4⟩:=wJ e;exact⟨j,h1,h,h2,h3,h4⟩
def jG(b:Expr):Prop:=∀o i,subscripted b false o i=operate [o,i] (getItem o i)
def IxR(X:Cx)(r:R2):Prop:=
 ∀(value slice:Expr) (pins:ph) (s:Shared) (σ:St) (H:Hp) (x y:V) (v u:Value) (Q:VK),Inv X pins σ H s→RelV x v→RelV y u→r x y H Q →
  subscripted slice false v u=operate [v,u] (getItem v u)→wpAny (model X.prog X.w) X.A (subscriptTail value slice v u) (EP X pins σ Q) X.xe s
def MtR(X:Cx)(id:String)(r:V→List V→Hp→VK→Prop):Prop:=
 ∀(pins:ph) (s:Shared) (σ:St) (H:Hp) (x:V) (xs:List V) (v:Value) (us:List Value) (Q:VK),Inv X pins σ H s→RelV x v→aM xs us→r x xs H Q →
  wpAny (model X.prog X.w) X.A (call (.builtin id) (v::us)) (EP X pins σ Q) X.xe s
section
variable {X:Cx}{a b:Expr}{ta tb:TE}{pos:Pos}
theorem IxR.or{r r':R2}(h:IxR X r)(h':IxR X r'):IxR X (fun x y H Q=>r x y H Q∨r' x y H Q):=by
 intro value slice pins s σ H x y v u Q I rx ry q hs
 rcases q with q|q
 ·exact h value slice pins s σ H x y v u Q I rx ry q hs
 ·exact h' value slice pins s σ H x y v u Q I rx ry q hs
theorem NI{r:R2}(hr:IxR X r)(ha:PE X a ta)(hb:PE X b tb)(hs:jG b):PE X (.Subscript a b pos) (fz r ta tb):=by
 intro pins s σ H Q I h;exact Subscript_ (TZ ha hb I h fun v u s2 x y H2 I2 rx ry q=>hr a b pins s2 σ H2 x y v u Q I2 rx ry q (hs _ _))
noncomputable def YY(K:p6):R2:=fun x y H Q=>∃p xs i v,x=.ref p∧y=.int i∧SqL K H p xs∧atI xs i=some v∧Q v H
noncomputable def YW(K:p6):R2:=fun x y H Q=>∃p xs i v,x=.ref p∧y=.int i∧SqT K H p xs∧atI xs i=some v∧Q v H
noncomputable def YX:R2:=fun x y H Q=>∃z i c,x=.str z∧y=.int i∧z.length≤sizeLine∧atI z.cps.toList i=some c∧Q (.str ⟨#[c]⟩) H
theorem KR:IxR X (YY X.K):=by
 intro value slice pins s σ H x y v u Q I rx ry h hs;obtain⟨p,xs,i,z,rfl,rfl,hq,he,q⟩:=h;cases rx;obtain⟨t,rfl⟩:=ry;obtain⟨its,r,pl,hz⟩:=I.list hq;obtain⟨j,h1,h2,h3,h4,h5⟩:=rG he;obtain⟨w,ew,dz⟩:=r.get h2;have hl:=r.length
 have hn:=iG
 have fin:EP X pins σ Q w s:=⟨z,H,I,dz,q⟩
 by_cases h0:0≤i
 ·have hj:i.toNat=j:=by
   rw[seqIndex_of h0 h5]at h1;exact lz h1
  exact item_listR pl.isList h0 (by omega) (by rw[hj];simpa using ew) fin hs
 ·have hj:(i+(its.toArray.size:Int)).toNat=j:=by
   rw[seqIndex_neg (by omega) h4]at h1
   rw[lx,←hl];exact lz h1
  exact subscriptTail_builtinR (x:=w) pl.isList.typeIs slot_list_getitem.lookup
   (wpAny_getItem_list_neg (Q:=fun r s'=>r=w∧EP X pins σ Q r s') pl.isList (by omega) (by rw[lx]<;>omega) (by omega) (by rw[hj];simpa using ew) ⟨rfl,fin⟩) hs
theorem SL:IxR X (YW X.K):=by
 intro value slice pins s σ H x y v u Q I rx ry h hs;obtain⟨p,xs,i,z,rfl,rfl,hq,he,q⟩:=h;cases rx;obtain⟨t,rfl⟩:=ry;obtain⟨its,r,pl,hz⟩:=I.tuple hq;obtain⟨j,h1,h2,h3,h4,h5⟩:=rG he;obtain⟨w,ew,dz⟩:=r.get h2;have hl:=r.length
 have hn:=iG
 have fin:EP X pins σ Q w s:=⟨z,H,I,dz,q⟩
 exact subscriptTail_builtinR (x:=w) pl.typeIs slot_tuple_getitem.lookup
  (getItem_tuple (j:=j) (Q:=fun r s'=>r=w∧EP X pins σ Q r s') pl (by omega) (by omega) (by rw[lx,←hl];exact h1) (by simpa using ew) ⟨rfl,fin⟩) hs
theorem SM:IxR X YX:=by
 intro value slice pins s σ H x y v u Q I rx ry h hs;obtain⟨z,i,c,rfl,rfl,hz,he,q⟩:=h;obtain⟨t,rfl⟩:=rx;obtain⟨t',rfl⟩:=ry;obtain⟨j,h1,h2,h3,h4,h5⟩:=rG he;have hl:z.cps.toList.length=z.length:=by simp[Str.length]
 rw[hl]at h1 h4 h5;have hn:=iG
 exact tail_any (typeIs_str s z t) slot_str_getitem.lookup (getItem_str (c:=c) (by
  have e1:decide (i < -(2 ^ 63:Int))=false:=lp (by omega)
  have e2:decide (i ≥ 2 ^ 63)=false:=lp (by omega)
  rw[e1,e2,Bool.or_false]) (by rw[h1];simpa using h2) ⟨.str ⟨#[c]⟩,H,I.tok _,⟨_,rfl⟩,q⟩) hs
noncomputable def rIx(K:p6):R2:=fun x y H Q=>YY K x y H Q∨YW K x y H Q∨YX x y H Q
theorem DW:IxR X (rIx X.K):=KR.or (SL.or SM)
theorem uP(its:List Value)(n j:Nat)(u:Value):Obj.mapSeq (·.setIfInBounds j u) { cls:=.type "list",data:=.seq its.toArray n }={ cls:=.type "list",data:=.seq (its.set j u).toArray n }:=by
 simp[Obj.mapSeq]
theorem Inv.lst{pins:ph}{σ:St}{H:Hp}{s:Shared}{p:Addr}{xs:List V}(I:Inv X pins σ H s)(h:H p=some (.lst xs)) :
  ∃(its:List Value) (n:Nat),aM xs its∧s.heap.get? p=some { cls:=.type "list",data:=.seq its.toArray n }∧xs.length≤sizeLine:=by
 obtain⟨z,its,n,r,e⟩:=I.hok p _ h;exact⟨its,n,r,e,z⟩
theorem Inv.lstUpd{pins:ph}{σ:St}{H:Hp}{s:Shared}{p:Addr}{xs ys:List V}{its its':List Value}{n n':Nat}{f:Obj→Obj}(I:Inv X pins σ H s)(h:H p=some (.lst xs))
  (ho:s.heap.get? p=some { cls:=.type "list",data:=.seq its.toArray n }) (hf:f { cls:=.type "list",data:=.seq its.toArray n }={ cls:=.type "list",data:=.seq its'.toArray n' }) (r:aM ys its') (hz:ys.length≤sizeLine) (t:Nat) :
  Inv X pins σ (upd H p (.lst ys)) { s with heap:=s.heap.update p f,toks:=t }:=by
 have e:(s.heap.update p f).get? p=some { cls:=.type "list",data:=.seq its'.toArray n' }:=by
  rw[Heap.get?_update_self f ho (by rw[hf]<;>rfl),hf]
 refine I.write (x:=p) (e:=p) (by rw[h];trivial) (.inl rfl) (fun b u hb q=>(Heap.get?_update_other _ _ (Ne.symm hb)).trans q) ⟨_,e⟩ ?_
 exact⟨hz,its',n',r,e⟩
noncomputable def YV:V→V→V→Hp→(Hp→Prop)→Prop:=fun o i v H Q=>∃p xs k j,o=.ref p∧i=.int k∧H p=some (.lst xs)∧ixN xs.length k=some j∧Q (upd H p (.lst (xs.set j v)))
theorem set_list:aBS X YV:=by
 intro pins s σ H o i v ov iv u Q I ro ri rv h;obtain⟨p,xs,k,j,rfl,rfl,hp,hj,q⟩:=h;cases ro;obtain⟨t,rfl⟩:=ri;obtain⟨its,n,r,ho,hz⟩:=I.lst hp;obtain⟨h1,h2,h3,h4⟩:=wJ hj;have hl:=r.length
 have hn:=iG
 have I':Inv X pins σ (upd H p (.lst (xs.set j v))) { s with heap:=s.heap.update p (Obj.mapSeq (·.setIfInBounds j u)) }:=
  I.lstUpd hp ho (uP its n j u) (r.set rv j) (by rw[List.length_set];exact hz) s.toks
 by_cases h0:0≤k
 ·have hk:k.toNat=j:=by
   rw[seqIndex_of h0 h4]at h1;exact lz h1
  exact PySem.W.ki_setAt ho h0 (by omega) (by rw[lx,←hl];exact h4) (by rw[hk];exact⟨_,I',q⟩)
 ·have hk:(k+(its.toArray.size:Int)).toNat=j:=by
   rw[seqIndex_neg (by omega) h3]at h1
   rw[lx,←hl];exact lz h1
  exact PySem.W.ki_setBack ho (by omega) (by rw[lx,←hl];exact h3) (by omega) (by rw[hk];exact⟨_,I',q⟩)
theorem pE(lo hi:Option Int)(n:Nat):(sliceBounds lo hi none n).1=((HT.sIx n 0 lo:Nat):Int)∧(sliceBounds lo hi none n).2.1=((HT.sIx n n hi:Nat):Int)∧(sliceBounds lo hi none n).2.2=1:=by
 refine⟨?_,?_,rfl⟩
 ·cases lo with
  |none=>simp[sliceBounds,HT.sIx]
  |some i =>
   simp only[sliceBounds,HT.sIx,Option.getD_none,show (1:Int) > 0 by decide,if_true]
   by_cases h:i<0
   ·simp only[h,if_true]<;>omega
   ·simp only[h,if_false]<;>omega
 ·cases hi with
  |none=>simp[sliceBounds,HT.sIx]
  |some i =>
   simp only[sliceBounds,HT.sIx,Option.getD_none,show (1:Int) > 0 by decide,if_true]
   by_cases h:i<0
   ·simp only[h,if_true]<;>omega
   ·simp only[h,if_false]<;>omega
theorem mZ(its:List Value)(lo hi:Option Int):slicePick its.toArray lo hi none=((its.drop (HT.sIx its.length 0 lo)).take (HT.sIx its.length its.length hi-HT.sIx its.length 0 lo)).toArray:=by
 obtain⟨h1,h2,h3⟩:=pE lo hi its.toArray.size;unfold slicePick;rw[h1,h2,h3];simp only[sliceRange_one,pick_run,lx]<;>rfl
noncomputable def aDw(K:p6):V→Option Int→Option Int→Hp→VK→Prop:=fun x lo hi H Q=>∃a xs,x=.ref a∧SqL K H a xs∧∀p,H p=none→Q (.ref p) (upd H p (.lst (tM xs lo hi)))
theorem vT:SlR X (aDw X.K):=by
 intro pins s σ H x v vl vu lo hi sl Q I rx hs pl pu h;obtain⟨a,xs,rfl,hx,q⟩:=h;cases rx;obtain⟨its,r,ht,hz⟩:=I.list hx;have hlen:=r.length
 refine⟨"list",_,slot_list_getitem.lookup,ht.isList.typeIs,?_⟩;refine wpAny_getItem_list_slice ht.isList hs pl pu .none (by simp) ?_ (by rw[lx]<;>omega)
 rw[mZ,←hlen];refine⟨.ref s.heap.objs.size,_,I.laid (t':=s.toks) (o:=.lst (tM xs lo hi)) (fun b ob q=>lq _ q) (lj _) ?_,rfl,q _ (I.hok.fresh (lj _))⟩
 exact⟨mw (kI xs lo hi) hz,_,0,(r.drop (HT.sIx xs.length 0 lo)).take (HT.sIx xs.length xs.length hi-HT.sIx xs.length 0 lo),oa _ rfl⟩
theorem eP:eD X (.builtin "len") (fun xs H Q=>∃p ys,xs=[.ref p]∧(SqL X.K H p ys∨SqT X.K H p ys)∧Q (.int ys.length) H):=by
 intro pins s σ H xs us Q I r h;obtain⟨p,ys,rfl,hq,q⟩:=h;obtain⟨u,rfl,rx⟩:=vals1 r;cases rx;have hn:=iG
 rcases hq with hq|hq
 ·obtain⟨its,r',pl,hz⟩:=I.list hq;have hlen:=r'.length
  exact Calls.call_len_list pl.isList (by simp only[lx]<;>omega) ⟨.int ys.length,H,I.tok _,⟨s.toks+1,by rw[lx,hlen]⟩,q⟩
 ·obtain⟨its,r',pl,hz⟩:=I.tuple hq;have hlen:=r'.length
  exact len_tuple pl (by simp only[lx]<;>omega) ⟨.int ys.length,H,I.tok _,⟨s.toks+1,by rw[lx,hlen]⟩,q⟩
theorem rE:eD X (.builtin "len") (fun xs H Q=>∃z,xs=[.str z]∧z.length≤sizeLine∧Q (.int z.length) H):=by
 intro pins s σ H xs us Q I r h;obtain⟨z,rfl,hz,q⟩:=h;obtain⟨u,rfl,t,rfl⟩:=vals1 r;have hn:=iG
 exact len_str (by omega) ⟨.int z.length,H,I.tok _,⟨_,rfl⟩,q⟩
theorem fZ:eD X (.type "list") (fun xs H Q=>∃p ys,xs=[.ref p]∧(SqL X.K H p ys∨SqT X.K H p ys)∧∀l,H l=none→Q (.ref l) (upd H l (.lst ys))):=by
 intro pins s σ H xs us Q I r h;obtain⟨p,ys,rfl,hq,q⟩:=h;obtain⟨u,rfl,rx⟩:=vals1 r;cases rx;have fin:∀(its:List Value),aM ys its→ys.length≤sizeLine→∀(h':Heap) (c':Nat),(∀b o',s.heap.get? b=some o'→h'.get? b=some o') →
   h'.get? s.heap.objs.size=some { cls:=.type "list",dict:=none,data:=.seq its.toArray c',slots:=#[] }→EP X pins σ Q (.ref s.heap.objs.size) { s with heap:=h' }:=fun its r' hz h' c' kp e =>
  ⟨.ref s.heap.objs.size,_,I.laid (t':=s.toks) kp (lj _) (show bM X.prog X.w _ h' _ (.lst ys) from⟨hz,its,c',r',e⟩),rfl,q _ (I.hok.fresh (lj _))⟩
 rcases hq with hq|hq
 ·obtain⟨its,r',pl,hz⟩:=I.list hq;have hlen:=r'.length
  obtain⟨o,ho,hc,n,hd⟩:=pl.isList;exact call_list_seq p (.inl rfl) ho hc hd (fun h' c' kp e=>fin its r' hz h' c' kp e) (by simp only[lx]<;>omega)
 ·obtain⟨its,r',pl,hz⟩:=I.tuple hq;have hlen:=r'.length
  obtain⟨o,ho,hc,n,hd⟩:=pl;exact call_list_seq p (.inr rfl) ho hc hd (fun h' c' kp e=>fin its r' hz h' c' kp e) (by simp only[lx]<;>omega)
theorem iB:eD X (.type "tuple") (fun xs H Q=>∃p ys,xs=[.ref p]∧((SqL X.K H p ys∧∀l,H l=none→Q (.ref l) (upd H l (.tup ys)))∨(SqT X.K H p ys∧Q (.ref p) H))):=by
 intro pins s σ H xs us Q I r h;obtain⟨p,ys,rfl,h⟩:=h;obtain⟨u,rfl,rx⟩:=vals1 r;cases rx
 rcases h with ⟨hq,q⟩|⟨hq,q⟩
 ·obtain⟨its,r',pl,hz⟩:=I.list hq;have hlen:=r'.length
  refine call_tuple_list pl.isList (fun h' kp=>?_) (by simp only[lx]<;>omega)
  have I1:Inv X pins σ H { s with heap:=h' }:=I.kept (t':=s.toks) kp
  have I2:Inv X pins σ (upd H h'.objs.size (.tup ys)) { s with heap:=h'.push { cls:=.type "tuple",data:=.seq its.toArray } }:=
   I1.laid (t':=s.toks) (fun b o e=>lq _ e) (lj _) (show bM X.prog X.w _ _ _ (.tup ys) from⟨hz,its,r',IsTup.new _ _⟩)
  exact⟨.ref h'.objs.size,_,I2,rfl,q _ (I1.hok.fresh (lj _))⟩
 ·obtain⟨its,r',pl,hz⟩:=I.tuple hq;exact call_tuple_same pl ⟨.ref p,H,I,rfl,q⟩
def tyV(K:p6)(T:String)(x:V)(H:Hp):Prop:=match x with
 |.str _=>T = "str"
 |.int _=>T = "int"
 |.ref p=>(T = "list"∧∃xs,SqL K H p xs)∨(T = "tuple"∧∃o,K.lookup p=some o∧o.cls=.type "tuple"∧o.dict=none) ∨
   (T = "dict"∧((∃kvs,H p=some (.dK kvs))∨∃kvs,H p=some (.dT kvs)))∨(T = "set"∧∃S n,H p=some (.set S n))
 |_=>False
theorem PF{pins:ph}{σ:St}{H:Hp}{s:Shared}{T:String}{x:V}{v:Value}(I:Inv X pins σ H s)(r:RelV x v)(ty:tyV X.K T x H) :
  s.TypeIs v T∧∀a,v=.ref a→∃ob,s.heap.get? a=some ob∧ob.dict=none:=by
 cases x with
 |str z =>
  obtain⟨t,rfl⟩:=r;cases (show T = "str" from ty)
  exact⟨typeIs_str s z t,fun _ e=>nomatch e⟩
 |int i =>
  obtain⟨t,rfl⟩:=r;cases (show T = "int" from ty)
  exact⟨typeIs_int s i t,fun _ e=>nomatch e⟩
 |ref p =>
  cases r
  rcases ty with ⟨rfl,xs,hq⟩|⟨rfl,o,hk,hc,hd⟩|⟨rfl,hk⟩|⟨rfl,S,n,hk⟩
  ·obtain⟨its,_,pl,_⟩:=I.list hq;refine⟨pl.isList.typeIs,fun a e=>?_⟩
   cases e;obtain⟨o,n,e,c,hd,_⟩:=pl;exact⟨o,e,hd⟩
  ·refine⟨⟨o,I.kIn p o hk,hc⟩,fun a e=>?_⟩
   cases e;exact⟨o,I.kIn _ o hk,hd⟩
  ·have z:∃o,s.heap.get? p=some o∧o.ExactDict:=by
    rcases hk with ⟨kvs,hk⟩|⟨kvs,hk⟩
    ·obtain⟨_,_,_,_,o,_,_,e,ex,_⟩:=I.hok p _ hk;exact⟨o,e,ex⟩
    ·obtain⟨_,_,_,_,o,_,_,e,ex,_⟩:=I.hok p _ hk;exact⟨o,e,ex⟩
   obtain⟨o,e,ex⟩:=z;refine⟨⟨o,e,ex.1⟩,fun a e2=>?_⟩
   cases e2;exact⟨o,e,ex.2.1⟩
  ·obtain⟨o,_,_,_,e,ex,_⟩:=I.hok p _ hk;refine⟨⟨o,e,ex.1⟩,fun a e2=>?_⟩
   cases e2;exact⟨o,e,ex.2.1⟩
 |_=>exact False.elim ty
def tBM(K:p6)(T:String)(r:V→List V→Hp→VK→Prop)(to:TE)(t:TA):TE:=fun σ H Q=>to σ H fun x H1=>tyV K T x H1∧t σ H1 fun xs H2=>r x xs H2 Q
variable {o e:Expr}{es:List Expr}{to:TE}{t:TA}{name:Str}{apos ax:Pos}{T id:String}{r:V→List V→Hp→VK→Prop}
theorem NJ(pa:PlainAttrs T)(slot:Slot T name id)(hty:typeOf (.builtin id)=pure (.type "method_descriptor"))(hm:MtR X id r)(ho:PE X o to)(ha:PA X (e::es) t)
  (hbase:attributeBase o name X.env (eval o X.env)=eval o X.env:=by rfl)
  (hfew:((backTo ax (starEach (e::es) X.env)).all (fun x=>!x.1)&&(backToKw ax (keywordEach [] X.env)).all (fun x=>x.1.isSome)
   && decide ((e::es).length+([]:List Keyword).length+(if ([]:List Keyword).isEmpty then 0 else 1)<30))=true:=by rfl)
  (hline:(apos.endLine == ax.line)=true:=by rfl) (hs:starEach (e::es) X.env=(false,eval e X.env)::starEach es X.env:=by rfl) (hplain:(backTo ax (starEach es X.env)).any (·.1)=false:=by rfl) :
  PE X (.Call (.Attribute o name apos) (e::es) [] ax) (tBM X.K T r to t):=by
 intro pins s σ H Q I h;refine wpAny_Call_method_late hbase hfew hline rfl (af (ho pins s σ H _ I h) fun v s1 ⟨x,H1,I1,r1,ty,q1⟩=>?_)
 obtain⟨h1,h2⟩:=PF I1 r1 ty;refine⟨T,id,pa,slot,hty,h1,h2,?_⟩;have hA:=ha ax pins s1 σ H1 _ I1 q1
 rw[hs]at hA ⊢;refine Calls.callWith_builtin (by show (false || (backTo ax (starEach es X.env)).any (·.1))=false;rw[hplain]<;>rfl) (Calls.evalArgs_plain ?_)
 exact af hA fun us s2 ⟨vs,H2,I2,r2,q2⟩=>hm pins s2 σ H2 x vs v us Q I2 r1 r2 q2
end
def MtM(X:Cx)(id:String)(r:V→List V→Hp→VK→Prop):Prop:=
 ∀(pins:ph) (s:Shared) (σ:St) (H:Hp) (x:V) (xs:List V) (v:Value) (us:List Value) (Q:VK),Inv X pins σ H s→RelV x v→aM xs us→r x xs H Q →
  wpAny (model X.prog X.w) X.A (call (.builtin id) (v::us)) (EP X pins σ Q) X.xe s
theorem aM.one:∀{x:V} {us:List Value},aM [x] us→∃u,us=[u]∧RelV x u
 |_,_,.cons r .nil=>⟨_,rfl,r⟩
theorem aM.reverse{xs:List V}{us:List Value}(h:aM xs us):aM xs.reverse us.reverse:=by
 induction h with
 |nil=>exact .nil
 |cons r t ih=>rw[reverse_cons,reverse_cons];exact aM.append ih (.cons r .nil)
section
variable {X:Cx}{pins:ph}{σ:St}{H:Hp}{s:Shared}{l b:Addr}{xs ys zs:List V}
theorem Inv.lset{its its':List Value}{n:Nat}{f:Array Value→Array Value}{t':Nat}(I:Inv X pins σ H s)(hH:H l=some (.lst xs))
  (e:s.heap.get? l=some { cls:=.type "list",data:=.seq its.toArray n }) (hf:f its.toArray=its'.toArray) (hv:aM ys its') (hz:ys.length≤sizeLine) :
  Inv X pins σ (upd H l (.lst ys)) { s with heap:=s.heap.update l (Obj.mapSeq f),toks:=t' }:=by
 have q:=PySem.IsL.update e f
 rw[hf]at q;refine I.write (x:=l) (e:=l) (by rw[hH];exact trivial) (.inl rfl) (fun b' u hb hu=>(Heap.get?_update_other s.heap (Obj.mapSeq f) (Ne.symm hb)).trans hu) ⟨_,q⟩ ?_
 exact⟨hz,its',_,hv,q⟩
theorem Inv.lnew{its:List Value}{t':Nat}(I:Inv X pins σ H s)(hv:aM ys its)(hz:ys.length≤sizeLine) :
  Inv X pins σ (upd H s.heap.objs.size (.lst ys)) { s with heap:=s.heap.push { cls:=.type "list",data:=.seq its.toArray },toks:=t' }:=
 I.laid (fun _ _ q=>lq _ q) (lj _) ⟨hz,its,0,hv,oa _ rfl⟩
theorem Inv.fresh(I:Inv X pins σ H s):H s.heap.objs.size=none:=I.hok.fresh (lj _)
theorem Inv.lstM(I:Inv X pins σ H s)(hH:H l=some (.lst xs)):xs.length≤sizeLine∧∃(its:List Value) (n:Nat),aM xs its∧xs.length=its.length∧s.heap.get? l=some { cls:=.type "list",data:=.seq its.toArray n }:=by
 obtain⟨z,its,n,r,e⟩:=I.hok l _ hH;exact⟨z,its,n,r,r.length,e⟩
theorem DF{n:Nat}(h:n≤sizeLine):Builtin.List.listTooLong n=false:=by
 unfold Builtin.List.listTooLong;exact lp (by omega)
end
section
variable {X:Cx}
noncomputable def HS:V→List V→Hp→VK→Prop:=fun x vs H Q=>∃l xs y,x=.ref l∧vs=[y]∧H l=some (.lst xs)∧xs.length<sizeLine∧Q .non (upd H l (.lst (xs++[y])))
theorem nT:MtM X "list.append" HS:=by
 intro pins s σ H x vs v us Q I rx rv h;obtain⟨l,xs,y,rfl,rfl,hH,hz,q⟩:=h;cases rx;obtain⟨u,rfl,ru⟩:=rv.one;obtain⟨z,its,n,r,hl,e⟩:=I.lstM hH;refine call_meets F.slot_list_append ⟨_,e,rfl⟩ F.entry_list_append (F.args_list_append_2 _ _) (PySem.list_append l its.toArray n u (by rw[lx];omega)) ⟨e,?_⟩
 refine⟨.non,_,I.lset (its':=its++[u]) hH e (by simp) (r.append (.cons ru .nil)) ?_,rfl,q⟩
 rw[nc,List.length_singleton];omega
noncomputable def HQ:V→List V→Hp→VK→Prop:=fun x vs H Q=>∃l b xs zs,x=.ref l∧vs=[.ref b]∧H l=some (.lst xs)∧H b=some (.lst zs)∧xs.length+zs.length≤sizeLine∧Q .non (upd H l (.lst (xs++zs)))
theorem UV:MtM X "list.extend" HQ:=by
 intro pins s σ H x vs v us Q I rx rv h;obtain⟨l,b,xs,zs,rfl,rfl,hH,hB,hz,q⟩:=h;cases rx;obtain⟨u,rfl,ru⟩:=rv.one;cases ru;obtain⟨z,its,n,r,hl,e⟩:=I.lstM hH;obtain⟨z2,b6,n2,r2,jf,e2⟩:=I.lstM hB;have hsz:its.toArray.size+b6.toArray.size≤sizeLine:=by rw[lx,lx];omega
 have hlong:¬(!its.toArray.isEmpty&&Builtin.List.listTooLong (its.toArray.size+b6.toArray.size))=true:=by
  rw[DF hsz,Bool.and_false];exact mh
 refine call_meets F.slot_list_extend ⟨_,e,rfl⟩ F.entry_list_extend (F.args_list_extend_2 _ _)
  (AutoSeq1.list_extend_list_list_0 l its.toArray n b b6.toArray n2 hlong (by rw[lx];omega) (by omega)) ⟨e,e2,?_⟩
 refine⟨.non,_,I.lset (its':=its++b6) hH e (by simp) (r.append r2) ?_,rfl,q⟩
 rw[nc];omega
noncomputable def ZD:R2:=fun x y H Q=>∃l b xs zs,x=.ref l∧y=.ref b∧H l=some (.lst xs)∧H b=some (.lst zs)∧xs.length+zs.length≤sizeLine∧∀p,H p=none→Q (.ref p) (upd H p (.lst (xs++zs)))
theorem CQ:aq X (binaryOp .Add) ZD:=by
 intro pins s σ H x y v u Q I rx ry h;obtain⟨l,b,xs,zs,rfl,rfl,hH,hB,hz,q⟩:=h;cases rx;cases ry;obtain⟨z,its,n,r,hl,e⟩:=I.lstM hH;obtain⟨z2,b6,n2,r2,jf,e2⟩:=I.lstM hB;refine PySem.P.add_list e e2 ?_ (by rw[lx,lx];omega)
 have ea:its.toArray++b6.toArray=(its++b6).toArray:=by simp
 rw[ea];exact⟨.ref _,_,I.lnew (t':=s.toks) (r.append r2) (by rw[nc];omega),rfl,q _ I.fresh⟩
end
section
variable {prog:p8}{w:World}{A:Around}{E:p9}{s:Shared}
end
section
variable {X:Cx}
end
end L2
namespace Att
open PySem PySem.W PySem.Calls PyProof.Rows
theorem kL{P:Params}{h:Heap}:∀(ns:List Int) (vs:List Value),WellAll P h vs (ns.map WData.int)→IntsAre vs ns:=by
 intro ns
 induction ns with
 |nil =>
  intro vs w;rw[List.map_nil]at w;cases w;exact .nil
 |cons n ns ih =>
  intro vs w;rw[nj]at w;cases w with
  |cons a b =>
   cases a;exact .cons _ _ (ih _ b)
theorem zE{l:OpenLaw}{n:Nat}(hn:l.most=some n){P:Params}{h:Heap}{args:List WData}{vals:List Value}
  (hpre:l.row.toRowW.claim.pre args=true) (hwl:WellAll P h vals args) :
  ∃a vs ns,vals=[Value.ref a]∧args=[WData.list (ns.map WData.int)]∧h.get? a=some { cls:=.type "list",data:=.seq vs.toArray }∧IntsAre vs ns∧ns.length≤n:=by
 have hsh:WShape.hasAll [] args [.list .int]=true:=(pre_splitW hpre).1
 have hc:l.pre.holds [] { args:=args }=true:=(pre_splitW hpre).2
 obtain⟨d,r,rfl,h1,h2⟩:=hasAllW_cons hsh;obtain rfl:=hasAllW_nil h2;obtain⟨xs,rfl,h3⟩:=hasW_list h1;obtain⟨ns,rfl⟩:=items_int h3;have hlen:ns.length≤n:=by
  unfold OpenLaw.pre at hc;have h4:(WTm.not (.lt (.lit (.int (n:Int))) (.len (.arg 0)))).holds [] { args:=[.list (ns.map .int)] }=true:=by
   have h4:=(holds_andW hc).1
   rw[hn]at h4;exact h4
  have h5:=condW_of h4 (w_not (w_lt w_lit (w_len_list (w_arg rfl))))
  rw[la]at h5;refine Nat.le_of_not_lt fun q=>?_
  have q':(n:Int)<((ns.length:Nat):Int):=by omega
  first
   | (rw[nq q']at h5;exact absurd h5 (by decide))
   | (simp at h5;omega)
 cases hwl with
 |cons w1 w2 =>
  cases w2;cases w1 with
  |list ho hall=>exact⟨_,_,ns,rfl,rfl,ho,kL ns _ hall,hlen⟩
theorem zJ(l:OpenLaw)(args:List WData):l.row.toRowW.claim.post args (.bool true) args=true:=
 postW_of (r:=l.row.toRowW) (X:=(true == true))
  (show WShape.has [] (.bool true) .bool=true by first|rfl|decide|simp[WShape.has,WShape.arms,WShape.armsAll])
  (show (WTm.eq .res (.lit (.bool true))).value [] { args:=args,res:=some (.bool true),after:=args }=some (.bool (true == true)) from w_eq_bool (w_res rfl) w_lit) rfl
theorem tU{l:OpenLaw}{n:Nat}{q:p8}{loose:List Str}{XP:(pj)→Heap→Prop}{YP:World→Heap→Prop}{d:DefRec}
  (hn:l.most=some n) (kj:d.params.defaults=[])
  (call:∀(w:World) (s₀ s₁:Shared) (mg mb:pj) (fa:Addr) (o:Obj) (pm cd doc:Value) (a:Addr) (vs:List Value) (ns:List Int),
   Ground q loose [] XP w s₀ mg mb s₁.heap→YP w s₁.heap →
   s₁.heap.get? fa=some o→o.data=.func (docDef d.name d.params d.body d.scope pm cd doc)→s₁.heap.CodeRec cd d.name→mg d.name=some (.ref fa) →
   s₁.heap.get? a=some { cls:=.type "list",data:=.seq vs.toArray }→IntsAre vs ns→ns.length≤n→s₁.gens=#[] →
   codeAny (model l.prog w) callerA (.call (.ref fa) ⟨[.ref a],[]⟩) (fun r s'=>r=.ok (.ret (.bool true))∧OldK s₁.heap s'.heap∧s'.os=s₁.os∧AllBare s'.gens) s₁) :
  WalkO q loose XP YP l.row.toRowW d [] (fun f vs=>PySem.call f vs):=by
 intro w s₀ s₁ mg mb G Y fa o pm cd doc dV kV ho hd c7 hD ka hg args vals as hpre hlay hrd hwl hlo;obtain rfl:dV=.none:=Dflts.none hD kj;obtain rfl:kV=.none:=Dflts.noKw hD;obtain⟨a,vs,ns,rfl,rfl,hobj,hints,hlen⟩:=zE hn hpre hwl;refine enter_call (codeAny_mono (call w s₀ s₁ mg mb fa o pm cd doc a vs ns G Y ho (fd_plain hd) c7 ka hobj hints hlen hg) fun r s' hq=>?_)
 obtain⟨rfl,h2,h3,h4⟩:=hq;exact⟨.inl ⟨.bool true,.bool true,[],rfl,fun _=>rfl,.bool true,zJ l _,fun _=>⟨List.Pairwise.nil,fun _ hm=>(nomatch hm)⟩⟩,h2,h3,h4⟩
section
variable {prog:p8}{w:World}{A:Around}{E:p9}{s:Shared}{K:Frag}
end
end Att
namespace L2
open PySem PySem.Spec PyProof.Rows
theorem nJ:∀{vs:List Value} {ns:List Int},IntsAre vs ns→aM (ns.map V.int) vs
 |_,_,.nil=>.nil
 |_,_,.cons n t h=>.cons ⟨t,rfl⟩ (nJ h)
def UN(H:Hp):Prop:=∀b,H b=none∨∃o xs,H b=some (.frz o (.lst xs))
theorem DP{P:p8}{w:World}{K:p6}{mg mb:pj}{CX:ak}{k:Nat}{fa a:Addr}{fd:p7}{x:Str}{sp:Sp}{s₁:Shared}{vs:List Value}{ns:List Int}
  (KX:K.In s₁.heap) (dt:s₁.heap.Ns mainGlobals mg) (hb:s₁.heap.Ns builtinsNs mb) (hbb:∀x:Str,x≠"__name__"→mb x=bootBuiltins x) (hlim:s₁.heap.NoLimit) (hg:s₁.gens=#[])
  (ha:s₁.heap.get? a=some { cls:=.type "list",data:=.seq vs.toArray }) (hi:IntsAre vs ns) (hl:ns.length≤sizeLine) (hr:Room k callerA)
  (F:∀base:Heap,K.In base→base.Ns mainGlobals mg→FnOk P w K mg base CX k fa fd [x] sp) (hbind:∀(s:Shared) (u:Value),BindsTo s fd ⟨[u],[]⟩ [(x,u)])
  (aT:∀H:Hp,UN H→SqL K H a (ns.map V.int)→sp [.ref a] H (fun v _=>v=.bl true) fun _ _ _=>False)
  (hCX:∀H e s',CX [] H s₁ (fun _ _ _=>False) e s'→False) :
  codeAny (model P w) callerA (.call (.ref fa) ⟨[.ref a],[]⟩) (fun r s'=>r=.ok (.ret (.bool true))∧OldK s₁.heap s'.heap∧s'.os=s₁.os∧AllBare s'.gens) s₁:=by
 have rv:=nJ hi
 have lenV:=hi.length
 have core:∀H:Hp,UN H→SqL K H a (ns.map V.int)→HOk P w H s₁.heap→(∀b,H b≠none→b=a)→(H a≠none→K.lookup a=none) →
   codeAny (model P w) callerA (.call (.ref fa) ⟨[.ref a],[]⟩) (fun r s'=>r=.ok (.ret (.bool true))∧OldK s₁.heap s'.heap∧s'.os=s₁.os∧AllBare s'.gens) s₁:=by
  intro H hO hS hok hA hK;have jE:∀{b:Addr} {o:Obj},s₁.heap.get? b=some o→H b=none→(pZ s₁.heap H).get? b=some o:=fun e n=>EG e n
  have jz:∀{b:Addr} {o:Obj} {es:Array DictEntry} {ep:Nat},s₁.heap.get? b=some o→o.data=.dict es ep→H b=none:=fun {b o es ep} e d=>by
   cases q:H b with
   |none=>rfl
   |some u =>
    have e':b=a:=hA b (by rw[q];simp)
    subst e';rw[ha]at e;cases e;have d':Data.seq vs.toArray _=Data.dict es ep:=d
    cases d'
  have nsK:∀{b:Addr} {m:pj},s₁.heap.Ns b m→(pZ s₁.heap H).Ns b m:=fun {b m} ⟨o,es,ep,e,d,r⟩=>⟨o,es,ep,jE e (jz e d),d,r⟩
  have hKb:K.In (pZ s₁.heap H):=fun b o e=>jE (KX b o e) (by
   cases q:H b with
   |none=>rfl
   |some u =>
    have e':b=a:=hA b (by rw[q];simp)
    subst e';rw[hK (by rw[q];simp)]at e;cases e)
  have hM:Mod K mg (pZ s₁.heap H):=⟨hKb,nsK dt,⟨mb,nsK hb,hbb⟩,let ⟨mc,h1,h2⟩:=hlim;⟨mc,nsK h1,h2⟩⟩
  have e0:Env0 P w K mg (pZ s₁.heap H) callerA [] s₁ H:=⟨rfl,hM,fun b o e=>JY e,Nat.le_of_eq (AC _ _),trivial,fun b hb=>absurd (show b∈([]:List Addr) from hb) (by simp),hok,.of_eq hg⟩
  refine codeAny_mono ((F _ hKb (nsK dt)).run callerA [] s₁ H ⟨[.ref a],[]⟩ [.ref a] [.ref a] _ _ hr e0 (hbind s₁ (.ref a)) (.cons rfl .nil) (aT H hO hS)) fun r s' h=>?_
  cases r with
  |error e=>exact(hCX H e s' h).elim
  |ok fl =>
   cases fl with
   |next=>exact False.elim h
   |brk=>exact False.elim h
   |cont=>exact False.elim h
   |ret u =>
    obtain⟨v,H',os,bare,un,hok',r',q⟩:=h;have q':v=.bl true:=q
    subst q';obtain rfl:u=Value.bool true:=r';refine⟨rfl,OldK.of_keep fun b o e=>?_,os,bare⟩
    cases q:H b with
    |none=>exact un.keep b o e q (by intro z;exact absurd (show b∈([]:List Addr) from z) (by simp)) (by simp)
    |some u =>
     rcases hO b with z|⟨ob,xs,z⟩
     ·rw[q]at z;cases z
     ·have z2:=un.frzs b ob _ z
      obtain⟨e1,_⟩:=hok b _ z;obtain⟨e2,_⟩:=hok' b _ z2;rw[e]at e1;cases e1;exact e2
 cases hk:K.lookup a with
 |some o =>
  have e:=KX a o hk
  rw[ha]at e;cases e;refine core (fun _=>none) (fun _=>.inl rfl) (.inr ⟨_,vs.toArray,_,hk,rfl,rfl,rfl,by rw[lx,lenV];exact hl,by simpa using rv⟩) (fun b u z=>by have z':(none:Option HO)=some u:=z;cases z') (fun b z=>absurd rfl z) fun z=>absurd rfl z
 |none =>
  refine core (fun b=>if b=a then some (.frz { cls:=.type "list",data:=.seq vs.toArray } (.lst (ns.map V.int))) else none) (fun b=>?_) (.inl (.inr ⟨{ cls:=.type "list",data:=.seq vs.toArray },if_pos rfl⟩)) (fun b u z=>?_) (fun b z=>?_) fun _=>hk
  ·by_cases hb:b=a
   ·exact .inr ⟨_,_,if_pos hb⟩
   ·exact .inl (if_neg hb)
  ·by_cases hb:b=a
   ·have z':=(if_pos hb).symm.trans z
    cases z';subst hb;exact⟨ha,by rw[la];exact hl,vs,_,rv,ha⟩
   ·have z':=(if_neg hb).symm.trans z
    cases z'
  ·by_cases hb:b=a
   ·exact hb
   ·exact absurd (if_neg hb) z
theorem GV{l:PySem.W.OpenLaw}{n k:Nat}{q:p8}{loose:List Str}{XP:(pj)→Heap→Prop}{YP:World→Heap→Prop}{d:DefRec}{K:Params→p6}{CX:World→ak}{sp:World→Sp}{x:Str}
  (hn:l.most=some n) (hn2:n≤sizeLine) (kj:d.params.defaults=[]) (hr:Room k callerA)
  (hY:∀(w:World) (h:Heap),YP w h→(K w.params).In h)
  (F:∀(w:World) (mg:pj) (fa:Addr) (h:Heap),(K w.params).In h→h.Ns mainGlobals mg→mg d.name=some (.ref fa) →
   ∃fd:p7,(∀(s:Shared) (u:Value),BindsTo s fd ⟨[u],[]⟩ [(x,u)]) ∧
    ∀base:Heap,(K w.params).In base→base.Ns mainGlobals mg→FnOk l.prog w (K w.params) mg base (CX w) k fa fd [x] (sp w))
  (aT:∀(w:World) (H:Hp) (a:Addr) (ns:List Int),ns.length≤n→UN H→SqL (K w.params) H a (ns.map V.int)→sp w [.ref a] H (fun v _=>v=.bl true) fun _ _ _=>False)
  (hCX:∀(w:World) (H:Hp) (s:Shared) (e:Value) (s':Shared),CX w [] H s (fun _ _ _=>False) e s'→False) :
  PySem.W.WalkO q loose XP YP l.row.toRowW d [] (fun f vs=>PySem.call f vs):=by
 refine Att.tU hn kj fun w s₀ s₁ mg mb fa o pm cd doc a vs ns G Y ho hd c7 ka hobj hints hlen hg=>?_
 have KX:=hY w _ Y
 obtain⟨fd,hb,hF⟩:=F w mg fa _ KX G.T.g ka;exact DP KX G.T.g G.T.b G.T.builtins G.T.nolimit hg hobj hints (mw hlen hn2) hr hF hb (fun H hO hS=>aT w H a ns hlen hO hS) fun H e s'=>hCX w H s₁ e s'
noncomputable def inClass(s:Stmt)(j:Nat):Stmt:=match s with
 |.ClassDef _ _ _ body _ _ _ _ _ _ _=>body.getD j (.Pass ⟨0,0,0,0⟩)
 |_=>.Pass ⟨0,0,0,0⟩
noncomputable def eO(s:Stmt):Arguments:=match s with
 |.FunctionDef _ a _ _ _ _ _ _ _ _=>a
 |_=>{ posonlyargs:=[],args:=[],vararg:=none,kwonlyargs:=[],kw_defaults:=[],kwarg:=none,defaults:=[] }
noncomputable def bE(s:Stmt):List Stmt:=match s with
 |.FunctionDef _ _ b _ _ _ _ _ _ _=>b
 |_=>[]
noncomputable def aC(s:Stmt):Scope:=match s with
 |.FunctionDef _ _ _ _ _ _ sc _ _ _=>sc
 |_=>{ kind:=.function,names:=[],isGenerator:=false,isCoroutine:=false }
abbrev i7:ak:=fun _ _ _ _ _ _=>False
abbrev E0:XK:=fun _ _ _=>False
structure Fun (K:p6) (x qual:Str) (st:Stmt) (f:Addr) (fd:p7):Prop where
 ex:∃(oc:Value) (od:Option Addr) (kV doc pm:Value) (an:Option Addr) (av ct:Value) (gc:Array (Option Value)),
  fd=PySem.W.fnOf x qual (eO st) (bE st) (aC st) .none kV doc pm an av ct∧K.lookup f=some ⟨oc,od,.func fd,gc⟩∧codeIn K av qual=true
 kp:keepIn K (.ref f)=true
section
variable {P:p8}{w:World}{K:p6}{mg:pj}{base:Heap}
theorem Fun.ok{x qual:Str}{st:Stmt}{f:Addr}{fd:p7}{N ps:List Str}{k:Nat}{sp:Sp}(F:Fun K x qual st f fd)(S:aa N ps (aC st))(len:∀vs H Q E,sp vs H Q E→vs.length=ps.length)
  (hbody:∀(av:Value) (A:Around) (outer:List Env) (s:Shared) (H:Hp) (vs:List V) (Q:VK) (E:XK),Room k (A.deeper (envOfC qual (aC st) s.heap.objs.size f av))→sp vs H Q E →
   ∃t,PSs (iJ i7 P w K mg base N qual (aC st) f av A outer s H E).nox (bE st) t∧t { nx:=fun _ H'=>Q .non H',rt:=Q } (start N vs) H):FnOk P w K mg base i7 (k+1) f fd ps sp:=by
 obtain⟨oc,od,kV,doc,pm,an,av,ct,gc,rfl,lk,c7⟩:=F.ex;refine wU lk c7 S len fun A outer s H vs Q E hr aT=>?_
 obtain⟨t,h,q⟩:=hbody av A outer s H vs Q E hr aT;exact⟨t,h.nox,q⟩
theorem Fun.binds{x qual:Str}{st:Stmt}{f:Addr}{fd:p7}{ps:List Str}(F:Fun K x qual st f fd)
  (h:∀(kV doc pm:Value) (an:Option Addr) (av ct:Value) (us:List Value),us.length=ps.length→bindArgs (PySem.W.fnOf x qual (eO st) (bE st) (aC st) .none kV doc pm an av ct) ⟨us,[]⟩=pure (ps.zip us)):Binds K fd ps []:=by
 obtain⟨oc,od,kV,doc,pm,an,av,ct,gc,rfl,lk,c7⟩:=F.ex;exact .all (h kV doc pm an av ct)
end
theorem NT{A:Around}{k:Nat}(hr:Room k A):A.units+1<cLine:=Nat.lt_of_le_of_lt (Nat.add_le_add_left (by decide:1≤64) _) hr.units
section
variable {X:Cx}
end
theorem lV{A B:Prop}(h:B):if false=true then A else B:=by
 rw[if_neg mh];exact h
theorem nB{A B:Prop}(h:A):if true=true then A else B:=by
 rw[if_pos rfl];exact h
def aF(H H':Hp):Prop:=∀b o,H b=some o→H' b=some o
theorem aF.refl(H:Hp):aF H H:=fun _ _ h=>h
theorem aF.trans{H H1 H2:Hp}(a:aF H H1)(b:aF H1 H2):aF H H2:=fun c o h=>b c o (a c o h)
theorem aF.free{H H':Hp}(e:aF H H'){l:Addr}(h:H' l=Option.none):H l=Option.none:=by
 cases q:H l with
 |none=>rfl
 |some o =>
  rw[e l o q]at h;cases h
section
variable {κ:Type}[DecidableEq κ]
noncomputable def jH(kvs:List (κ×V))(k:κ):Option V:=(kvs.find? fun kv=>decide (kv.1=k)).map (·.2)
noncomputable def putK(kvs:List (κ×V))(k:κ)(v:V):List (κ×V):=
 if (kvs.any fun kv=>decide (kv.1=k))=true then kvs.map (fun kv=>if kv.1=k then(kv.1,v) else kv) else kvs++[(k,v)]
theorem iM{p:κ×V}{r:List (κ×V)}{k:κ}(e:p.1=k):jH (p::r) k=some p.2:=by simp[jH,find?_cons,e]
theorem iO{p:κ×V}{r:List (κ×V)}{k:κ}(e:¬p.1=k):jH (p::r) k=jH r k:=by simp[jH,find?_cons,e]
theorem rK(k:κ):∀kvs:List (κ×V),(kvs.any fun kv=>decide (kv.1=k))=(jH kvs k).isSome
 |[]=>rfl
 |p::r=>by
  rw[any_cons]
  by_cases e:p.1=k
  ·simp only[iM e,nq e,Bool.true_or,Option.isSome_some]
  ·rw[iO e,lp e,Bool.false_or];exact rK k r
theorem kF(kvs:List (κ×V))(k:κ)(v:V):(putK kvs k v).length≤kvs.length+1:=by
 unfold putK;split
 ·rw[la];omega
 ·rw[nc,om,List.length_nil];omega
theorem hJ.isSome_eq{o:Option V}{u:Option Value}(r:hJ o u):o.isSome=u.isSome:=by
 cases o with
 |none=>cases u with
  |none=>rfl
  |some _=>exact(show False from r).elim
 |some _=>cases u with
  |none=>exact(show False from r).elim
  |some _=>rfl
theorem KV.val{kvs:List (κ×V)}{vs:List (κ×Value)}(r:KV kvs vs)(k:κ):hJ (jH kvs k) (valueAt vs k):=by
 unfold KV at r
 induction r with
 |nil=>exact True.intro
 | @cons p q ps qs h t ih =>
  obtain⟨h1,h2⟩:=h
  by_cases e:p.1=k
  ·have e':q.1=k:=h1.symm.trans e
   have b:valueAt (q::qs) k=some q.2:=by simp[valueAt,find?_cons,e']
   rw[iM e,b];exact h2
  ·have e':¬q.1=k:=fun z=>e (h1.trans z)
   have b:valueAt (q::qs) k=valueAt qs k:=by simp[valueAt,find?_cons,e']
   rw[iO e,b];exact ih
theorem KV.any{kvs:List (κ×V)}{vs:List (κ×Value)}(r:KV kvs vs)(k:κ):(kvs.any fun kv=>decide (kv.1=k))=vs.any fun kv=>decide (kv.1=k):=by
 unfold KV at r
 induction r with
 |nil=>rfl
 |cons h t ih=>rw[any_cons,any_cons,ih,h.1]
theorem KV.repl{kvs:List (κ×V)}{vs:List (κ×Value)}(r:KV kvs vs)(k:κ){y:V}{u:Value}(ry:RelV y u) :
  KV (kvs.map fun kv=>if kv.1=k then(kv.1,y) else kv) (vs.map fun kv=>if kv.1=k then(kv.1,u) else kv):=by
 unfold KV at r ⊢
 induction r with
 |nil=>exact .nil
 | @cons p q ps qs h t ih =>
  rw[nj,nj];refine .cons ?_ ih;obtain⟨h1,h2⟩:=h
  by_cases e:p.1=k
  ·rw[if_pos e,if_pos (h1.symm.trans e)];exact⟨h1,ry⟩
  ·rw[if_neg e,if_neg (fun z=>e (h1.trans z))];exact⟨h1,h2⟩
theorem KV.put{kvs:List (κ×V)}{vs:List (κ×Value)}(r:KV kvs vs)(k:κ){y:V}{u:Value}(ry:RelV y u):KV (putK kvs k y) (stored vs k u):=by
 unfold putK stored;rw[r.any k]
 by_cases e:(vs.any fun kv=>decide (kv.1=k))=true
 ·rw[if_pos e,if_pos e];exact r.repl k ry
 ·rw[if_neg e,if_neg e];exact Paired.snoc r ⟨rfl,ry⟩
theorem KV.length{kvs:List (κ×V)}{vs:List (κ×Value)}(r:KV kvs vs):kvs.length=vs.length:=Paired.length r
end
theorem DS{P:p8}{w:World}{k:Key}{u:Value}(r:RelV (kV k) u):(bG P w).is k u=true:=by
 cases k with
 |inl i=>obtain⟨t,e⟩:=(show ∃t,u=Value.int i t from r);subst e;exact sM P w i t
 |inr x=>obtain⟨t,e⟩:=(show ∃t,u=Value.str x t from r);subst e;exact gG P w x t
theorem nZ{P:p8}{w:World}:∀{ks:List Key} {us:List Value},aM (ks.map kV) us→ItemsAre (bG P w) ks us
 |[],_,r=>by rw[List.map_nil]at r;cases r;exact .nil
 |k::ks,_,r=>by
  rw[nj]at r;cases r with
  |cons h t=>exact .cons (DS h) (nZ t)
abbrev KT(H:Hp):List (List Key×V)→List (List Key×Addr×Value)→Prop:=Paired fun p q=>p.1=q.1∧H q.2.1=some (.tup (p.1.map kV))∧RelV p.2 q.2.2
theorem KT.val{H:Hp}{kvs:List (List Key×V)}{xs:List (List Key×Addr×Value)}(r:KT H kvs xs)(k:List Key):hJ (jH kvs k) ((atKey xs k).map (·.2)):=by
 induction r with
 |nil=>exact True.intro
 | @cons p q ps qs h t ih =>
  obtain⟨h1,_,h2⟩:=h
  by_cases e:p.1=k
  ·have e':q.1=k:=h1.symm.trans e
   have b:atKey (q::qs) k=some q.2:=by simp[atKey,find?_cons,e']
   rw[iM e,b];exact h2
  ·have e':¬q.1=k:=fun z=>e (h1.trans z)
   have b:atKey (q::qs) k=atKey qs k:=by simp[atKey,find?_cons,e']
   rw[iO e,b];exact ih
theorem KT.repl{H:Hp}{kvs:List (List Key×V)}{xs:List (List Key×Addr×Value)}(r:KT H kvs xs)(k:List Key){y:V}{u:Value}(ry:RelV y u) :
  KT H (kvs.map fun kv=>if kv.1=k then(kv.1,y) else kv) (xs.map (putAt k u)):=by
 induction r with
 |nil=>exact .nil
 | @cons p q ps qs h t ih =>
  rw[nj,nj];refine .cons ?_ ih;obtain⟨h1,h2,h3⟩:=h;unfold putAt
  by_cases e:p.1=k
  ·rw[if_pos e,if_pos (h1.symm.trans e)];exact⟨h1,h2,ry⟩
  ·rw[if_neg e,if_neg (fun z=>e (h1.trans z))];exact⟨h1,h2,h3⟩
theorem KT.put{H:Hp}{kvs:List (List Key×V)}{xs:List (List Key×Addr×Value)}(r:KT H kvs xs)(k:List Key){b:Addr}{y:V}{u:Value}(hb:H b=some (.tup (k.map kV)))(ry:RelV y u) :
  KT H (putK kvs k y) (storedH xs k b u):=by
 have e:(kvs.any fun kv=>decide (kv.1=k))=(atKey xs k).isSome:=by
  rw[rK,(r.val k).isSome_eq,Option.isSome_map]
 unfold putK storedH;rw[e]
 by_cases q:(atKey xs k).isSome=true
 ·rw[if_pos q,if_pos q];exact r.repl k ry
 ·rw[if_neg q,if_neg q];exact Paired.snoc r ⟨rfl,hb,ry⟩
theorem KT.keeps{H H':Hp}{kvs:List (List Key×V)}{xs:List (List Key×Addr×Value)}(r:KT H kvs xs)(ht:∀b ys,H b=some (.tup ys)→H' b=some (.tup ys)):KT H' kvs xs:=
 Paired.mapP r fun _ _ z=>⟨z.1,ht _ _ z.2.1,z.2.2⟩
section
variable {P:p8}{w:World}{H:Hp}{h:Heap}{a:Addr}
theorem ND{u:HO}(ok:HOk P w H h)(e:Rd H a u):bM P w H h a u:=e.ok ok
theorem FB{kvs:List (Key×V)}(ok:HOk P w H h)(e:Rd H a (.dK kvs)):kvs.length≤sizeLine∧(a == sysModules)=false∧∃vs,KV kvs vs∧h.DictOf (bG P w) a vs:=
 show bM P w H h a (.dK kvs) from ND ok e
theorem aBl{kvs:List (Key×V)}(ok:HOk P w H h)(e:H a=some (.dK kvs)):kvs.length≤sizeLine∧(a == sysModules)=false∧∃vs,KV kvs vs∧h.DictOf (bG P w) a vs:=FB ok (.inl e)
theorem uS{ks:List Key}(ok:HOk P w H h)(e:H a=some (.tup (ks.map kV))):(tupleKind (bG P w)).is h ks a:=by
 obtain⟨_,its,r,o,h1,h2,n,h3⟩:=(show bM P w H h a (.tup (ks.map kV)) from ok a _ e)
 exact⟨o,its.toArray,n,h1,h2,h3,by simpa using nZ r⟩
theorem EZ{kvs:List (List Key×V)}(ok:HOk P w H h)(e:Rd H a (.dT kvs)):kvs.length≤sizeLine∧(a == sysModules)=false ∧
  ∃xs,KT H kvs xs∧h.DictOfH (tupleKind (bG P w)) a xs:=by
 obtain⟨z,y,xs,r,o,es,ep,h1,h2,h3,h4,h5⟩:=(show bM P w H h a (.dT kvs) from ND ok e)
 refine⟨z,y,xs,r,o,es,ep,h1,h2,h3,h4,fun x hx=>?_,h5⟩
 have all:∀{l:List (List Key×V)} {m:List (List Key×Addr×Value)},KT H l m→∀x∈m,(tupleKind (bG P w)).is h x.1 x.2.1:=by
  intro l m q
  induction q with
  |nil=>intro x hx;exact nomatch hx
  | @cons p q ps qs hq t ih =>
   intro x hx
   rcases my.mp hx with e|hx
   ·subst e;exact uS ok (by rw[←hq.1];exact hq.2.1)
   ·exact ih x hx
 exact all r x hx
theorem aBk{kvs:List (List Key×V)}(ok:HOk P w H h)(e:H a=some (.dT kvs)):kvs.length≤sizeLine∧(a == sysModules)=false ∧
  ∃xs,KT H kvs xs∧h.DictOfH (tupleKind (bG P w)) a xs:=EZ ok (.inl e)
end
def BC(H:Hp)(a:Addr)(y:V)(r:Option V):Prop:=
 (∃kvs k,Rd H a (.dK kvs)∧y=kV k∧r=jH kvs k)∨∃kvs k b,Rd H a (.dT kvs)∧y=.ref b∧H b=some (.tup (k.map kV))∧r=jH kvs k
def GT(H:Hp)(a:Addr)(y v:V)(H':Hp):Prop:=
 (∃kvs k,H a=some (.dK kvs)∧y=kV k∧kvs.length<sizeLine∧H'=upd H a (.dK (putK kvs k v))) ∨
 ∃kvs k b,H a=some (.dT kvs)∧y=.ref b∧H b=some (.tup (k.map kV))∧kvs.length<sizeLine∧H'=upd H a (.dT (putK kvs k v))
theorem BC.k{H:Hp}{a:Addr}{kvs:List (Key×V)}{k:Key}(e:H a=some (.dK kvs)):BC H a (kV k) (jH kvs k):=.inl ⟨kvs,k,.inl e,rfl,rfl⟩
theorem GT.k{H:Hp}{a:Addr}{kvs:List (Key×V)}{k:Key}{v:V}(e:H a=some (.dK kvs))(hl:kvs.length<sizeLine):GT H a (kV k) v (upd H a (.dK (putK kvs k v))):=.inl ⟨kvs,k,e,rfl,hl,rfl⟩
section
variable {X:Cx}{pins:ph}{σ:St}{H:Hp}{s:Shared}{a:Addr}{y v:V}{u r:Value}{o:Option V}{A:Around}{E:p9}
theorem Inv.big(I:Inv X pins σ H s):sysModules<s.heap.objs.size:=by
 have h:mainGlobals<s.heap.objs.size:=(I.mod.glob.keeps I.bk).lt
 exact Nat.lt_trans (by decide) h
theorem AU{Q:p9}(hu:A.units+1<cLine)(I:Inv X pins σ H s)(g:BC H a y (some v))(ry:RelV y u)(h:∀w' s',Inv X pins σ H s'→RelV v w'→Q w' s') :
  wpAny (model X.prog X.w) A (getItem (.ref a) u) Q E s:=by
 rcases g with ⟨kvs,k,e,ey,l⟩|⟨kvs,k,b,e,ey,eb,l⟩
 ·subst ey;obtain⟨z,hd,vs,rel,dd⟩:=FB I.hok e;obtain⟨w',hw,dz⟩:=hJ.some_of (v:=v) (o:=valueAt vs k) (by rw[l];exact rel.val k)
  exact wpAny_getItem_of (DS ry) dd.mapOf hw (h w' _ (I.tok _) dz)
 ·subst ey;cases (show u=Value.ref b from ry)
  obtain⟨z,hd,xs,rel,dd⟩:=EZ I.hok e;obtain⟨w',hw,dz⟩:=hJ.some_of (v:=v) (o:=(atKey xs k).map (·.2)) (by rw[l];exact rel.val k)
  obtain⟨p,hp,hp2⟩:=ma.mp hw;refine wpAny_getItem_heap (tupleKind_room_in1 hu) (uS I.hok eb) dd hp ?_;rw[hp2];exact h w' _ (I.tok _) dz
theorem yF{h':Heap}{t':Nat}{ob:HO}(I:Inv X pins σ H s)(mu:k9 (H a))(hs:Heap.SameBut a s.heap h')(he:∃q,h'.get? a=some q)(new:bM X.prog X.w (upd H a ob) h' a ob) :
  Inv X pins σ (upd H a ob) { s with heap:=h',toks:=t' }:=
 I.write (x:=a) (e:=a) mu (.inl rfl) (fun b q hb z=>(hs.2 b hb).trans z) he new
theorem TN{P:p8}{w:World}{H':Hp}{h':Heap}{kvs:List (Key×V)}{vs:List (Key×Value)}(z:kvs.length≤sizeLine)(hd:(a == sysModules)=false)(rel:KV kvs vs)(dd:h'.DictOf (bG P w) a vs) :
  bM P w H' h' a (.dK kvs):=⟨z,hd,vs,rel,dd⟩
theorem AS{H':Hp}{Q:Unit→Shared→Prop}(hu:A.units+1<cLine)(I:Inv X pins σ H s)(g:GT H a y v H')(ry:RelV y u)(rv:RelV v r)(h:∀s',Inv X pins σ H' s'→Q () s') :
  wpAny (model X.prog X.w) A (setItem (.ref a) u r) Q E s:=by
 rcases g with ⟨kvs,k,e,ey,l,eH⟩|⟨kvs,k,b,e,ey,eb,l,eH⟩
 ·subst ey eH;obtain⟨z,hd,vs,rel,dd⟩:=aBl I.hok e;have hz:vs.length≤sizeLine:=by rw[←rel.length];exact z
  have hl:(putK kvs k v).length≤sizeLine:=by have:=kF kvs k v;omega
  refine wpAny_setItem_pairs (hsz:=hz) (DS ry) dd fun h' kz hs=>h _ ?_
  have he:∃q,h'.get? a=some q:=let ⟨q,_,_,hq,_⟩:=kz;⟨q,hq⟩
  exact yF I (by rw[e];exact True.intro) hs he (TN hl hd (rel.put k rv) kz)
 ·subst ey eH;cases (show u=Value.ref b from ry)
  obtain⟨z,hd,xs,rel,dd⟩:=aBk I.hok e;have hz:xs.length≤sizeLine:=by rw[←Paired.length rel];exact z
  have hl:(putK kvs k v).length≤sizeLine:=by have:=kF kvs k v;omega
  refine wpAny_setItem_heap (hsz:=hz) (tupleKind_room_in1 hu) (uS I.hok eb) dd fun h' kz hs=>h _ ?_
  obtain⟨q,es,ep,hq,h2,h3,h4,_,h5⟩:=kz;refine yF I (by rw[e];exact True.intro) hs ⟨q,hq⟩ ⟨hl,hd,_,(rel.put k eb rv).keeps fun c ys ec=>?_,q,es,ep,hq,h2,h3,h4,h5⟩
  rw[aK (aAt ec e (fun z=>nomatch z))]
  exact ec
end
section
variable {X:Cx}{pins:ph}{σ:St}{H:Hp}{s:Shared}{a:Addr}{kvs:List (Key×V)}{k:Key}{u:Value}{A:Around}{E:p9}
end
def aBT(i:Expr):Prop:=∀ov iv,subscripted i false ov iv=operate [ov,iv] (getItem ov iv)
theorem HB{prog:p8}{w:World}{A:Around}{E:p9}{s:Shared}{env:Env}{value slice:Expr}{pos:Pos}{T id:String}{Q:p9}
  (hl:typeLookup (.type T) "__getitem__" = pure (some (.builtin id))) (hs:aBT slice)
  (h:wpAny (model prog w) A (eval value env) (fun o s₁=>wpAny (model prog w) A (eval slice env) (fun i s₂=>s₂.TypeIs o T∧wpAny (model prog w) A (getItem o i) Q E s₂) E s₁) E s) :
  wpAny (model prog w) A (eval (.Subscript value slice pos) env) Q E s:=by
 refine Subscript_ (o9 h (fun o s₁ h₁=>o9 h₁ (fun i s₂ h₂=>?_) fun _ _ x=>x) fun _ _ x=>x)
 obtain⟨hT,h₂⟩:=h₂;unfold subscriptTail;refine o7 ?_;rw[getitemInPython_of_ne hT.not_modules];refine o7 (wpAny_specialOf hT hl ?_);have fin:wpAny (model prog w) A (subscripted slice false o i) (fun r s₃=>wpAny (model prog w) A (letTemporaryGo value o r >>= fun _=>pure r) Q E s₃) E s₂:=by
  rw[hs o i];exact wpAny_operating (o9 h₂ (fun r s₃ h₃=>o7 (wpAny_letTemporaryGo (o8 h₃))) fun _ _ x=>x)
 first
  |exact o8 (o7 fin)
  |exact o7 (o8 (o7 fin))
  |exact o7 fin
theorem tK{X:Cx}{pins:ph}{σ:St}{H:Hp}{s:Shared}{a:Addr}{y:V}{o:Option V}(I:Inv X pins σ H s)(g:BC H a y o):s.TypeIs (.ref a) "dict":=by
 rcases g with ⟨kvs,k,e,_,_⟩|⟨kvs,k,b,e,_,_,_⟩
 ·obtain⟨_,_,vs,_,dd⟩:=FB I.hok e;exact dd.typeIs
 ·obtain⟨_,_,xs,_,dd⟩:=EZ I.hok e;exact dd.typeIs
def WJ(td ty:TE):TE:=fun σ H Q=>td σ H fun x H1=>ty σ H1 fun y H2=>∃a v,x=.ref a∧BC H2 a y (some v)∧Q v H2
def XR(td ty tv:TE):TS:=fun D σ H=>tv σ H fun v H1=>td σ H1 fun x H2=>ty σ H2 fun y H3=>∃a H4,x=.ref a∧GT H3 a y v H4∧D.nx σ H4
section
variable {X:Cx}{o i e value:Expr}{pos pos' tpos:Pos}{td ty tv:TE}
theorem JE(hu:X.A.units+1<cLine)(ho:PE X o td)(hi:PE X i ty)(hs:aBT i):PE X (.Subscript o i pos) (WJ td ty):=by
 intro pins s σ H Q I h;refine HB PySem.F.slot_dict_getitem.lookup hs (af (ho pins s σ H _ I h) fun u s1 ⟨x,H1,I1,rx,q1⟩=>af (hi pins s1 σ H1 _ I1 q1) fun iv s2 ⟨y,H2,I2,ry,a,v,ex,g,q2⟩=>?_)
 subst ex;obtain rfl:u=Value.ref a:=rx;exact⟨tK I2 g,AU hu I2 g ry fun w' s3 I3 dz=>⟨v,H2,I3,dz,q2⟩⟩
theorem IT(hu:X.A.units+1<cLine)(ho:PE X o td)(hi:PE X i ty)(hv:PE X value tv)(hs:swapsWith value (some (.Subscript o i pos')) pos.line X.env=pure false) :
  PS X (.Assign [.Subscript o i pos'] value pos) (XR td ty tv):=by
 intro pins s σ H D I h;refine wpAny_Assign_Subscript (af (hv pins s σ H _ I h) fun r s1 ⟨v,H1,I1,rv,q1⟩=>af (ho pins s1 σ H1 _ I1 q1) fun u s2 ⟨x,H2,I2,rx,q2⟩=>af (hi pins s2 σ H2 _ I2 q2) fun iv s3 ⟨y,H3,I3,ry,a,H4,ex,g,q3⟩=>?_) hs
 subst ex;obtain rfl:u=Value.ref a:=rx;exact AS hu I3 g ry rv fun s4 I4=>⟨σ,H4,I4,q3⟩
end
theorem FC{P:p8}{w:World}{H:Hp}(h:Heap)(hb:sysModules<h.objs.size):bM P w H (h.push { cls:=.type "dict",data:=.dict #[] }) h.objs.size (.dK []):=
 ⟨oz _,nz.mpr (Ne.symm (o3 hb)),[],.nil,Heap.DictOf.new h⟩
def PK:TE:=fun _ H Q=>∀p,H p=none→Q (.ref p) (upd H p (.dK []))
section
variable {X:Cx}{pos:Pos}
theorem CK:PE X (.Dict [] [] pos) PK:=fun pins s σ H Q I h =>
 wpAny_Dict_empty ⟨.ref s.heap.objs.size,_,I.laid (a:=s.heap.objs.size) (o:=.dK []) (t':=s.toks) (fun _ _ q=>lq _ q) (lj _) (FC s.heap I.big),rfl,h _ (I.hok.fresh (lj _))⟩
end
structure M1 (X:Cx) (o:Expr) (m:Str) (apos:Pos) (e:Expr) (ax:Pos):Prop where
 base:attributeBase o m X.env (eval o X.env)=eval o X.env
 few:((backTo ax (starEach [e] X.env)).all (fun x=>!x.1)&&(backToKw ax (keywordEach [] X.env)).all (fun x=>x.1.isSome)
  && decide (([e]:List Expr).length+([]:List Keyword).length+(if ([]:List Keyword).isEmpty then 0 else 1)<30))=true
 line:(apos.endLine == ax.line)=true
 trees:backTo ax (starEach [e] X.env)=[(false,eval e X.env)]
structure M2 (X:Cx) (o:Expr) (m:Str) (apos:Pos) (e f:Expr) (ax:Pos):Prop where
 base:attributeBase o m X.env (eval o X.env)=eval o X.env
 few:((backTo ax (starEach [e,f] X.env)).all (fun x=>!x.1)&&(backToKw ax (keywordEach [] X.env)).all (fun x=>x.1.isSome)
  && decide (([e,f]:List Expr).length+([]:List Keyword).length+(if ([]:List Keyword).isEmpty then 0 else 1)<30))=true
 line:(apos.endLine == ax.line)=true
 trees:backTo ax (starEach [e,f] X.env)=[(false,eval e X.env),(false,eval f X.env)]
section
variable {X:Cx}{pins:ph}{σ:St}{H:Hp}{s:Shared}{a:Addr}{y d:V}{u r:Value}{o:Option V}{A:Around}{E:p9}
end
section
variable {X:Cx}{o e f:Expr}{apos ax:Pos}{td ty tx:TE}
end
section
variable {X:Cx}{pins:ph}{σ:St}{H:Hp}{s:Shared}{a:Addr}{kvs:List (Key×V)}{A:Around}{E:p9}
end
section
variable {X:Cx}{pins:ph}{σ:St}{H:Hp}{s:Shared}{a:Addr}{y:V}{u:Value}{A:Around}{E:p9}
end
end L2
namespace Att
open PySem PySem.W PySem.Calls PyProof.Rows
end Att
namespace L2
open PySem PySem.Spec PyProof.Rows
section
variable {X:Cx}
end
section
variable {κ:Type}[DecidableEq κ]
end
end L2
namespace Toy
open PySem L2
open PySem.W (fnOf)
noncomputable def top(i:Nat):Stmt:=PySem.Challenge.pw_leaffold_k06_whole_joined.main.body.getD i (.Pass ⟨0,0,0,0⟩)
noncomputable def dF(n q:Str)(s:Stmt)(m:Str)(t c:Nat):p7:=fnOf n q (L2.eO s) (L2.bE s) (L2.aC s) .none .none .none (.str m t) none (.ref c) .none
noncomputable def oF(f:p7):Obj:=⟨.type "function",none,.func f,#[]⟩
noncomputable def oC(x:Array Value):Obj:=⟨.type "code",none,.fields x,#[]⟩
noncomputable def en(P:Params)(x:Str)(t:Nat)(v:Value):DictEntry:=⟨PyData.keyHash P x,.str x t,v⟩
noncomputable def j(i:Int):Value:=.int i 0
noncomputable def l(a:Nat):Value:=.ref a
noncomputable def cF(t:Nat):Value:=.str "/claim/cut.py" t
noncomputable def vD:p7:=dF "__init__" "Pile.__init__" (L2.inClass (top 12) 0) "leaffold.piles" 278 98
noncomputable def qD:p7:=dF "heap" "Pile.heap" (L2.inClass (top 12) 1) "leaffold.piles" 278 105
noncomputable def qC:p7:=dF "laid" "laid" (top 13) "leaffold.piles" 278 124
noncomputable def qH:p7:=dF "laid_row" "laid_row" (top 14) "leaffold.piles" 278 129
noncomputable def qF:p7:=dF "folded" "folded" (top 15) "leaffold.piles" 278 136
noncomputable def xE:p7:=dF "refuse_severed" "refuse_severed" (top 16) "leaffold.piles" 278 143
noncomputable def qR:p7:=dF "has_crease" "has_crease" (top 17) "leaffold.piles" 278 150
noncomputable def xA:p7:=dF "folded_table" "folded_table" (top 18) "leaffold.piles" 278 155
noncomputable def qT:p7:=dF "transposed" "transposed" (top 19) "leaffold.piles" 278 160
noncomputable def qK:p7:=dF "column_of" "column_of" (top 20) "leaffold.piles" 278 165
noncomputable def wZ:p7:=dF "folded_strip" "folded_strip" (top 21) "leaffold.piles" 278 172
noncomputable def wW:p7:=dF "turned_part" "turned_part" (top 22) "leaffold.piles" 278 177
noncomputable def wV:p7:=dF "turned_heap" "turned_heap" (top 23) "leaffold.piles" 278 182
noncomputable def xB:p7:=dF "laid_together" "laid_together" (top 24) "leaffold.piles" 278 187
noncomputable def qG:p7:=dF "heap_at" "heap_at" (top 25) "leaffold.piles" 278 194
noncomputable def qE:p7:=dF "joints" "joints" (top 27) "leaffold.joints" 443 199
noncomputable def qS:p7:=dF "all_joints" "all_joints" (top 28) "leaffold.joints" 443 206
noncomputable def qU:p7:=dF "neighbours" "neighbours" (top 29) "leaffold.joints" 443 213
noncomputable def qP:p7:=dF "edge_lines" "edge_lines" (top 30) "leaffold.joints" 443 220
noncomputable def wY:p7:=dF "_law_cell_at" "_law_cell_at" (top 32) "law_leaffold_k06_whole_joined" 487 227
noncomputable def qO:p7:=dF "_law_whole" "_law_whole" (top 33) "law_leaffold_k06_whole_joined" 487 234
noncomputable def xC:p7:=dF "_law_sheet_by" "_law_sheet_by" (top 34) "law_leaffold_k06_whole_joined" 487 241
noncomputable def wX:p7:=dF "_law_fold_by" "_law_fold_by" (top 35) "law_leaffold_k06_whole_joined" 487 248
noncomputable def qM:p7:=dF "_law_fill" "_law_fill" (top 36) "law_leaffold_k06_whole_joined" 487 255
noncomputable def qQ:p7:=dF "_law_seats" "_law_seats" (top 37) "law_leaffold_k06_whole_joined" 487 260
noncomputable def qJ:p7:=dF "_law_near" "_law_near" (top 38) "law_leaffold_k06_whole_joined" 487 267
noncomputable def qI:p7:=dF "_law_line" "_law_line" (top 39) "law_leaffold_k06_whole_joined" 487 274
noncomputable def xD:p7:=dF "_law_back_line" "_law_back_line" (top 40) "law_leaffold_k06_whole_joined" 487 281
noncomputable def qN:p7:=dF "_law_meet" "_law_meet" (top 41) "law_leaffold_k06_whole_joined" 487 288
noncomputable def qL:p7:=dF "_law_told" "_law_told" (top 42) "law_leaffold_k06_whole_joined" 487 295
noncomputable def mH:p7:=dF "law" "law" (top 43) "law_leaffold_k06_whole_joined" 487 302
noncomputable def KK(P:Params):p6:=[(3,⟨(.type "dict"),none,(.dict #[en P "__name__" 165 (.str "law_leaffold_k06_whole_joined" 487),en P "__doc__" 166 .none,en P "__package__" 167 .none,en P "__loader__" 168 (.builtin "__main__.__loader__#opaque"),en P "__spec__" 169 .none,en P "__annotations__" 170 (.ref 6),en P "__builtins__" 171 (.ref 4),en P "__file__" 173 (cF 172),en P "__cached__" 174 .none,en P "_wall" 193 (.ref 21),en P "LeafError" 213 (.ref 31),en P "NoSheet" 229 (.ref 44),en P "NoFold" 245 (.ref 56),en P "NoPlace" 261 (.ref 68),en P "Severed" 277 (.ref 80),en P "MOST_CELLS" 281 (.int 64 280),en P "UPRIGHT_SIDES" 284 (.ref 83),en P "LEVEL_SIDES" 287 (.ref 84),en P "NEAR_SIDES" 290 (.ref 85),en P "Pile" 345 (.ref 116),en P "laid" 351 (.ref 125),en P "laid_row" 357 (.ref 130),en P "folded" 369 (.ref 137),en P "refuse_severed" 376 (.ref 144),en P "has_crease" 385 (.ref 151),en P "folded_table" 391 (.ref 156),en P "transposed" 397 (.ref 161),en P "column_of" 403 (.ref 166),en P "folded_strip" 416 (.ref 173),en P "turned_part" 422 (.ref 178),en P "turned_heap" 428 (.ref 183),en P "laid_together" 434 (.ref 188),en P "heap_at" 442 (.ref 195),en P "joints" 450 (.ref 200),en P "all_joints" 462 (.ref 207),en P "neighbours" 473 (.ref 214),en P "edge_lines" 486 (.ref 221),en P "_law_cell_at" 496 (.ref 228),en P "_law_whole" 503 (.ref 235),en P "_law_sheet_by" 512 (.ref 242),en P "_law_fold_by" 524 (.ref 249),en P "_law_fill" 536 (.ref 256),en P "_law_seats" 542 (.ref 261),en P "_law_near" 552 (.ref 268),en P "_law_line" 560 (.ref 275),en P "_law_back_line" 568 (.ref 282),en P "_law_meet" 577 (.ref 289),en P "_law_told" 588 (.ref 296),en P "law" 607 (.ref 303)] 49),#[]⟩),
 (83,⟨(.type "tuple"),none,(.seq #[(.str "west" 282),(.str "east" 283)] 0),#[]⟩),
 (84,⟨(.type "tuple"),none,(.seq #[(.str "north" 285),(.str "south" 286)] 0),#[]⟩),
 (85,⟨(.type "tuple"),none,(.seq #[(.str "west" 288),(.str "north" 289)] 0),#[]⟩),
 (98,oC #[.str "__init__" 303,.str "Pile.__init__" 304,cF 305,j 22,j 6,j 0,j 0,j 3,l 93,(.bool true),j 181,l 94,.none,l 95,l 96,l 97,j 312,j 22,cF 313]),
 (99,oF vD),
 (105,oC #[.str "heap" 315,.str "Pile.heap" 316,cF 317,j 31,j 3,j 0,j 0,j 3,l 100,(.bool true),j 181,l 101,.none,l 102,l 103,l 104,j 321,j 31,cF 322]),
 (106,oF qD),
 (115,⟨(.type "dict"),none,(.dict #[en P "__module__" 298 (.str "leaffold.piles" 278),en P "__firstlineno__" 302 (.int 20 301),en P "__init__" 314 (.ref 99),en P "heap" 323 (.ref 106),en P "done" 330 (.ref 113),en P "__static_attributes__" 338 (.ref 114),en P "__dict__" 340 (.ref 117),en P "__weakref__" 342 (.ref 118),en P "__doc__" 343 .none] 4),#[]⟩),
 (116,⟨(.type "type"),none,(.cls ⟨"Pile",[(.type "object")],[(.ref 116),(.type "object")],115,"Pile",true,[],[],false,none,false⟩),#[none,none,(some (.str "Pile" 291)),(some (.str "Pile" 299)),(some (.builtin "object.__new__")),(some (.bool true))]⟩),
 (124,oC #[.str "laid" 346,.str "laid" 347,cF 348,j 38,j 2,j 0,j 0,j 3,l 121,(.bool true),j 181,l 122,.none,.none,.none,l 123,j 349,j 38,cF 350]),
 (125,oF qC),
 (129,oC #[.str "laid_row" 352,.str "laid_row" 353,cF 354,j 43,j 2,j 0,j 0,j 3,l 126,(.bool true),j 181,l 127,.none,.none,.none,l 128,j 355,j 43,cF 356]),
 (130,oF qH),
 (136,oC #[.str "folded" 358,.str "folded" 359,cF 360,j 45,j 4,j 0,j 0,j 3,l 131,(.bool true),j 181,l 132,.none,l 133,l 134,l 135,j 367,j 45,cF 368]),
 (137,oF qF),
 (143,oC #[.str "refuse_severed" 370,.str "refuse_severed" 371,cF 372,j 52,j 1,j 0,j 0,j 3,l 138,(.bool true),j 181,l 139,.none,l 140,l 141,l 142,j 374,j 52,cF 375]),
 (144,oF xE),
 (150,oC #[.str "has_crease" 377,.str "has_crease" 378,cF 379,j 55,j 3,j 0,j 0,j 3,l 145,(.bool true),j 181,l 146,.none,l 147,l 148,l 149,j 383,j 55,cF 384]),
 (151,oF qR),
 (155,oC #[.str "folded_table" 386,.str "folded_table" 387,cF 388,j 61,j 4,j 0,j 0,j 3,l 152,(.bool true),j 181,l 153,.none,.none,.none,l 154,j 389,j 61,cF 390]),
 (156,oF xA),
 (160,oC #[.str "transposed" 392,.str "transposed" 393,cF 394,j 66,j 1,j 0,j 0,j 3,l 157,(.bool true),j 181,l 158,.none,.none,.none,l 159,j 395,j 66,cF 396]),
 (161,oF qT),
 (165,oC #[.str "column_of" 398,.str "column_of" 399,cF 400,j 68,j 2,j 0,j 0,j 3,l 162,(.bool true),j 181,l 163,.none,.none,.none,l 164,j 401,j 68,cF 402]),
 (166,oF qK),
 (172,oC #[.str "folded_strip" 404,.str "folded_strip" 405,cF 406,j 70,j 4,j 0,j 0,j 3,l 167,(.bool true),j 181,l 168,.none,l 169,l 170,l 171,j 414,j 70,cF 415]),
 (173,oF wZ),
 (177,oC #[.str "turned_part" 417,.str "turned_part" 418,cF 419,j 77,j 2,j 0,j 0,j 3,l 174,(.bool true),j 181,l 175,.none,.none,.none,l 176,j 420,j 77,cF 421]),
 (178,oF wW),
 (182,oC #[.str "turned_heap" 423,.str "turned_heap" 424,cF 425,j 79,j 2,j 0,j 0,j 3,l 179,(.bool true),j 181,l 180,.none,.none,.none,l 181,j 426,j 79,cF 427]),
 (183,oF wV),
 (187,oC #[.str "laid_together" 429,.str "laid_together" 430,cF 431,j 83,j 3,j 0,j 0,j 3,l 184,(.bool true),j 181,l 185,.none,.none,.none,l 186,j 432,j 83,cF 433]),
 (188,oF xB),
 (194,oC #[.str "heap_at" 435,.str "heap_at" 436,cF 437,j 88,j 2,j 0,j 0,j 3,l 189,(.bool true),j 181,l 190,.none,l 191,l 192,l 193,j 440,j 88,cF 441]),
 (195,oF qG),
 (199,oC #[.str "joints" 445,.str "joints" 446,cF 447,j 91,j 1,j 0,j 0,j 3,l 196,(.bool true),j 181,l 197,.none,.none,.none,l 198,j 448,j 91,cF 449]),
 (200,oF qE),
 (206,oC #[.str "all_joints" 451,.str "all_joints" 452,cF 453,j 93,j 1,j 0,j 0,j 3,l 201,(.bool true),j 181,l 202,.none,l 203,l 204,l 205,j 460,j 93,cF 461]),
 (207,oF qS),
 (213,oC #[.str "neighbours" 463,.str "neighbours" 464,cF 465,j 99,j 2,j 0,j 0,j 3,l 208,(.bool true),j 181,l 209,.none,l 210,l 211,l 212,j 471,j 99,cF 472]),
 (214,oF qU),
 (220,oC #[.str "edge_lines" 474,.str "edge_lines" 475,cF 476,j 108,j 1,j 0,j 0,j 3,l 215,(.bool true),j 181,l 216,.none,l 217,l 218,l 219,j 484,j 108,cF 485]),
 (221,oF qP),
 (227,oC #[.str "_law_cell_at" 489,.str "_law_cell_at" 490,cF 491,j 116,j 2,j 0,j 0,j 3,l 222,(.bool true),j 181,l 223,.none,l 224,l 225,l 226,j 494,j 116,cF 495]),
 (228,oF wY),
 (234,oC #[.str "_law_whole" 497,.str "_law_whole" 498,cF 499,j 120,j 1,j 0,j 0,j 3,l 229,(.bool true),j 181,l 230,.none,l 231,l 232,l 233,j 501,j 120,cF 502]),
 (235,oF qO),
 (241,oC #[.str "_law_sheet_by" 504,.str "_law_sheet_by" 505,cF 506,j 122,j 1,j 0,j 0,j 3,l 236,(.bool true),j 181,l 237,.none,l 238,l 239,l 240,j 510,j 122,cF 511]),
 (242,oF xC),
 (248,oC #[.str "_law_fold_by" 513,.str "_law_fold_by" 514,cF 515,j 130,j 3,j 0,j 0,j 3,l 243,(.bool true),j 181,l 244,.none,l 245,l 246,l 247,j 522,j 130,cF 523]),
 (249,oF wX),
 (255,oC #[.str "_law_fill" 525,.str "_law_fill" 526,cF 527,j 135,j 4,j 0,j 0,j 3,l 250,(.bool true),j 181,l 251,.none,l 252,l 253,l 254,j 534,j 135,cF 535]),
 (256,oF qM),
 (260,oC #[.str "_law_seats" 537,.str "_law_seats" 538,cF 539,j 147,j 1,j 0,j 0,j 3,l 257,(.bool true),j 181,l 258,.none,.none,.none,l 259,j 540,j 147,cF 541]),
 (261,oF qQ),
 (267,oC #[.str "_law_near" 543,.str "_law_near" 544,cF 545,j 160,j 2,j 0,j 0,j 3,l 262,(.bool true),j 181,l 263,.none,l 264,l 265,l 266,j 550,j 160,cF 551]),
 (268,oF qJ),
 (274,oC #[.str "_law_line" 553,.str "_law_line" 554,cF 555,j 168,j 2,j 0,j 0,j 3,l 269,(.bool true),j 181,l 270,.none,l 271,l 272,l 273,j 558,j 168,cF 559]),
 (275,oF qI),
 (281,oC #[.str "_law_back_line" 561,.str "_law_back_line" 562,cF 563,j 172,j 2,j 0,j 0,j 3,l 276,(.bool true),j 181,l 277,.none,l 278,l 279,l 280,j 566,j 172,cF 567]),
 (282,oF xD),
 (288,oC #[.str "_law_meet" 569,.str "_law_meet" 570,cF 571,j 176,j 3,j 0,j 0,j 3,l 283,(.bool true),j 181,l 284,.none,l 285,l 286,l 287,j 575,j 176,cF 576]),
 (289,oF qN),
 (295,oC #[.str "_law_told" 578,.str "_law_told" 579,cF 580,j 182,j 5,j 0,j 0,j 3,l 290,(.bool true),j 181,l 291,.none,l 292,l 293,l 294,j 586,j 182,cF 587]),
 (296,oF qL),
 (302,oC #[.str "law" 589,.str "law" 590,cF 591,j 188,j 1,j 0,j 0,j 3,l 297,(.bool true),j 181,l 298,.none,l 299,l 300,l 301,j 605,j 188,cF 606]),
 (303,oF mH)]
noncomputable def aas:List Addr:=[3,83,84,85,98,99,105,106,115,116,124,125,129,130,136,137,143,144,150,151,155,156,160,161,165,166,172,173,177,178,182,183,187,188,194,195,199,200,206,207,213,214,220,221,227,228,234,235,241,242,248,249,255,256,260,261,267,268,274,275,281,282,288,289,295,296,302,303]
theorem aAU:∀P,aas=(KK P).map (·.1):=fun _=>by kernel_rfl
abbrev lw:PySem.W.OpenLaw:=PySem.Challenge.rw_leaffold_k06_whole_joined
abbrev HH:PySem.W.Hook:=PySem.W.kHook KK aas aAU
open PySem.W PyProof.Rows
noncomputable def vw:p8:=view lw.prog [0,2,3,4,5,6,8,9,10,11,12,13,14,15,16,17,18,19,20,21,22,23,24,25,27,28,29,30,32,33,34,35,36,37,38,39,40,41,42,43]
abbrev Xt(s:Shared):Bool:=xlAt vw [] s&&recOk (RowW.records (OpenRow.toRowW (OpenLaw.row lw))) s
set_option maxHeartbeats 0 in
theorem pO{p q:p8}{loose:List Str}{Xt:Shared→Bool}{α:Type}{Yf:Shared→α}{Ya:World→α}{N:Nat}{g0:Bool}(open_:∀w:World,(fencedOpening treeTable p w N).map (fun s=>(s.heap,s.gens,s.drawn,s.toks))=some (boot_heap w.params,Array.mk [],boot_drawn,boot_toks))
  (h:∀(w:World) (os:OsState),(topFrom treeTable p w N ⟨boot_heap w.params,Array.mk [],boot_drawn,boot_toks,os⟩).map (fun s=>(openSeen q loose (importedModules p.main.body) Xt g0 s,Yf s))=some (openGood q loose,Ya w)):LeftO p q loose Xt Yf Ya N g0:=fun w=>by
 obtain⟨⟨hp,gs,d,k,os⟩,e,e'⟩:=ma.mp (open_ w);obtain⟨rfl,rfl,rfl,rfl⟩:hp=boot_heap w.params∧gs=Array.mk []∧d=boot_drawn∧k=boot_toks:=by simpa using e'
 unfold openEnds;rw[e];exact h w os
set_option maxHeartbeats 0 in
theorem left:LeftO lw.prog vw [] Xt (Hook.obs HH) (Hook.val HH) 4766:=by
 refine pO (boot_open rfl rfl fun s=>rfl) fun w os=>?_
 unfold topFrom
 rewrite[Fast.te14082659384304107361,Fast.te4187177175401517315]
 kernel_rfl
end Toy
namespace Z
open PySem
inductive D where
 |non
 |bl (b:Bool)
 |int (i:Int)
 |str (x:Str)
 |lst (xs:List D)
 |tup (xs:List D)
 |obj (c:Str) (fs:List (Str×D))
 |exc (c:Str)
 |dct (kvs:List (Int×D))
 |frz (xs:List D)
noncomputable def cV(kvs:List (Int×D))(k:Int):Option D:=(kvs.find? fun kv=>decide (kv.1=k)).map (·.2)
noncomputable def jN(kvs:List (Int×D))(k:Int)(d:D):List (Int×D):=if kvs.any (fun kv=>decide (kv.1=k)) then kvs.map (fun kv=>if kv.1=k then(kv.1,d) else kv) else kvs++[(k,d)]
inductive Lit where
 |non|bl (b:Bool)|int (i:Int)|str (x:Str)
noncomputable def Lit.d:Lit→D
 |.non=>.non
 |.bl b=>.bl b
 |.int i=>.int i
 |.str x=>.str x
inductive Rs where
 |ok (d:D)
 |er (c:Str)
mutual
noncomputable def cx:D→D→Bool
 |.non,.non=>true
 |.bl a,.bl b=>a == b
 |.bl a,.int b=>(if a then 1 else 0) == b
 |.int a,.bl b=>a == (if b then 1 else 0)
 |.int a,.int b=>a == b
 |.str a,.str b=>a == b
 |.lst a,.lst b=>qY a b
 |.tup a,.tup b=>qY a b
 |_,_=>false
noncomputable def qY:List D→List D→Bool
 |[],[]=>true
 |x::xs,y::ys=>cx x y&&qY xs ys
 |_,_=>false
end
noncomputable def okS(x:Str):Bool:=x.cps.all (· < 0x110000)
noncomputable def flat:Nat→D→Bool
 |_,.non=>true
 |_,.bl _=>true
 |_,.int _=>true
 |_,.str x=>okS x
 |n+1,.lst xs=>xs.all (flat n)
 |n+1,.tup xs=>xs.all (flat n)
 |_,_=>false
noncomputable def plain(d:D):Bool:=flat 8 d
noncomputable def b8:D→Option Bool
 |.non=>some false
 |.bl b=>some b
 |.int i=>some (i != 0)
 |.lst xs=>some (!xs.isEmpty)
 |.tup xs=>some (!xs.isEmpty)
 |.frz xs=>some (!xs.isEmpty)
 |_=>none
inductive O2 where
 |add|sub|mul|fdiv|mod|pow|eq|ne|lt|le|gt|ge|isin|notin|is|isnot
noncomputable def big:Nat:=1000000
noncomputable def ixN(n:Nat)(i:Int):Option Nat:=if 0≤i then(if i<n then some i.toNat else none) else if -(n:Int)≤i then some (i+n).toNat else none
noncomputable def atI{α:Type}(xs:List α)(i:Int):Option α:=(ixN xs.length i).bind fun j=>xs[j]?
noncomputable def sIx(n d:Nat):Option Int→Nat
 |none=>d
 |some v=>if v<0 then(v+(n:Int)).toNat else min v.toNat n
noncomputable def cut{α:Type}(xs:List α)(lo hi:Option Int):List α:=(xs.drop (sIx xs.length 0 lo)).take (sIx xs.length xs.length hi-sIx xs.length 0 lo)
noncomputable def isD:D→D→Option Bool
 |.non,.non=>some true
 |.bl _,.non=>some false
 |.int _,.non=>some false
 |.str _,.non=>some false
 |.lst _,.non=>some false
 |.tup _,.non=>some false
 |.obj _ _,.non=>some false
 |.bl a,.bl b=>some (a == b)
 |_,_=>none
noncomputable def JZ:D→D→Option D
 |.int i,.int j=>some (.int (i+j))
 |.str x,.str y=>if x.length+y.length≤big then some (.str (x++y)) else none
 |.lst xs,.lst ys=>if xs.length+ys.length≤big then some (.lst (xs++ys)) else none
 |.tup xs,.tup ys=>if xs.length+ys.length≤big then some (.tup (xs++ys)) else none
 |_,_=>none
noncomputable def aAq:D→D→Option D
 |.int i,.int j=>some (.int (i-j))
 |_,_=>none
noncomputable def aAs:D→D→Option D
 |.int i,.int j=>if (-(2 ^ 64)<i∧i<2 ^ 64)∨(-(2 ^ 64)<j∧j<2 ^ 64) then some (.int (i*j)) else none
 |_,_=>none
noncomputable def oDiv:D→D→Option D
 |.int i,.int j=>if 0<j∧j<1073741824 then some (.int (i / j)) else none
 |_,_=>none
noncomputable def oMod:D→D→Option D
 |.int i,.int j=>if 0<j then some (.int (i % j)) else none
 |_,_=>none
noncomputable def aAr:D→D→Option D
 |.int i,.int j=>if 0≤j∧j≤1000∧i.natAbs<2 ^ 64 then some (.int (i ^ j.toNat)) else none
 |_,_=>none
noncomputable def oEq(a b:D):Option D:=if plain a&&plain b then some (.bl (cx a b)) else none
noncomputable def oNe(a b:D):Option D:=if plain a&&plain b then some (.bl (!cx a b)) else none
noncomputable def oLt:D→D→Option D
 |.int i,.int j=>some (.bl (decide (i<j)))
 |_,_=>none
noncomputable def oLe:D→D→Option D
 |.int i,.int j=>some (.bl (decide (i≤j)))
 |_,_=>none
noncomputable def oGt:D→D→Option D
 |.int i,.int j=>some (.bl (decide (j<i)))
 |_,_=>none
noncomputable def oGe:D→D→Option D
 |.int i,.int j=>some (.bl (decide (j≤i)))
 |_,_=>none
noncomputable def oIn(a:D):D→Option D
 |.lst ys=>if plain a&&ys.all plain then some (.bl (ys.any fun y=>cx y a)) else none
 |.tup ys=>if plain a&&ys.all plain then some (.bl (ys.any fun y=>cx y a)) else none
 |_=>none
noncomputable def DC(a:D):D→Option D
 |.lst ys=>if plain a&&ys.all plain then some (.bl (!ys.any fun y=>cx y a)) else none
 |.tup ys=>if plain a&&ys.all plain then some (.bl (!ys.any fun y=>cx y a)) else none
 |_=>none
noncomputable def oIs(a b:D):Option D:=(isD a b).map .bl
noncomputable def DE(a b:D):Option D:=(isD a b).map fun k=>.bl (!k)
noncomputable def ah(o:O2)(a b:D):Option D:=match o with
 |.add=>JZ a b
 |.sub=>aAq a b
 |.mul=>aAs a b
 |.fdiv=>oDiv a b
 |.mod=>oMod a b
 |.pow=>aAr a b
 |.eq=>oEq a b
 |.ne=>oNe a b
 |.lt=>oLt a b
 |.le=>oLe a b
 |.gt=>oGt a b
 |.ge=>oGe a b
 |.isin=>oIn a b
 |.notin=>DC a b
 |.is=>oIs a b
 |.isnot=>DE a b
inductive BF where
 |len|int|list|tuple|max|min|str|sorted|any
noncomputable def lY:List D→Option (List Int)
 |[]=>some []
 |.int i::r=>(lY r).map (i :: ·)
 |_::_=>none
noncomputable def jV:Int→List Int→Int
 |m,[]=>m
 |m,x::r=>jV (if x > m then x else m) r
noncomputable def lR:Int→List Int→Int
 |m,[]=>m
 |m,x::r=>lR (if x<m then x else m) r
noncomputable def LR:List D→Option D
 |[.lst xs]=>some (.int xs.length)
 |[.tup xs]=>some (.int xs.length)
 |[.frz xs]=>some (.int xs.length)
 |[.str x]=>if x.length≤big then some (.int x.length) else none
 |_=>none
noncomputable def LS:List D→Option D
 |[.int i]=>some (.int i)
 |[.bl b]=>some (.int (if b then 1 else 0))
 |_=>none
noncomputable def sZ:List D→Option D
 |[.lst xs]=>some (.lst xs)
 |[.tup xs]=>some (.lst xs)
 |[.frz xs]=>some (.lst xs)
 |_=>none
noncomputable def qV:List D→Option D
 |[.lst xs]=>some (.tup xs)
 |[.tup xs]=>some (.tup xs)
 |_=>none
noncomputable def EO:List D→Option D
 |[.int i,.int j]=>some (.int (if j > i then j else i))
 |[.lst xs]=>match lY xs with|some (i::r)=>some (.int (jV i r))|_=>none
 |_=>none
noncomputable def LQ:List D→Option D
 |[.int i,.int j]=>some (.int (if j<i then j else i))
 |[.lst xs]=>match lY xs with|some (i::r)=>some (.int (lR i r))|_=>none
 |_=>none
noncomputable def CN:List D→Option (List (Int×Int))
 |[]=>some []
 |.tup [.int a,.int b]::r=>(CN r).map ((a,b) :: ·)
 |_::_=>none
noncomputable def aBm(p:Int×Int):D:=.tup [.int p.1,.int p.2]
noncomputable def fk(x y:Int×Int):Bool:=decide (x.1<y.1) || (x.1 == y.1&&decide (x.2<y.2))
noncomputable def uW(x:Int×Int):List (Int×Int)→List (Int×Int)
 |[]=>[x]
 |y::r=>if fk x y then x::y::r else y::uW x r
noncomputable def lI:List (Int×Int)→List (Int×Int)
 |[]=>[]
 |x::r=>uW x (lI r)
noncomputable def yJ(ps:List (Int×Int)):Bool:=decide (ps.length≤64)&&decide ps.Nodup
noncomputable def WO(ds:List D):Option (List D):=match CN ds with
 |some ps=>if yJ ps then some ((lI ps).map aBm) else none
 |none=>match lY ds with
  |some is=>if yJ (is.map fun i=>(i,0)) then some ((lI (is.map fun i=>(i,0))).map fun p=>.int p.1) else none
  |none=>none
noncomputable def qW:List D→Option D
 |[.lst xs]=>(WO xs).map .lst
 |_=>none
noncomputable def bf(b:BF)(ds:List D):Option D:=match b with
 |.sorted=>qW ds
 |.len=>LR ds
 |.int=>LS ds
 |.list=>sZ ds
 |.tuple=>qV ds
 |.max=>EO ds
 |.min=>LQ ds
 |_=>none
inductive Src where
 |seq|rng|rev|enum|rvr
noncomputable def dA(lo hi:Int):List D:=(List.range (hi-lo).toNat).map fun (k:Nat)=>D.int (lo+k)
noncomputable def NX:Nat→List D→List D
 |_,[]=>[]
 |k,x::r=>.tup [.int k,x]::NX (k+1) r
noncomputable def eZ(i:Int):Bool:=decide (-(2 ^ 62)≤i)&&decide (i<2 ^ 62)
noncomputable def NS:D→Option (List D)
 |.lst xs=>some xs
 |.tup xs=>some xs
 |.frz xs=>some xs
 |_=>none
noncomputable def DY:List D→Option (List D)
 |[.int j]=>if eZ j&&decide (j.toNat≤big) then some (dA 0 j) else none
 |[.int i,.int j]=>if eZ i&&eZ j&&decide ((j-i).toNat≤big) then some (dA i j) else none
 |_=>none
noncomputable def aAW:List D→Option (List D)
 |[.int j]=>if decide (0≤j)&&decide (j.toNat≤big) then some (dA 0 j).reverse else none
 |_=>none
noncomputable def sS:D→Option (List D)
 |.lst xs=>some xs.reverse
 |_=>none
noncomputable def SO:D→Option (List D)
 |.lst xs=>some (NX 0 xs)
 |_=>none
noncomputable def items(k:Src)(d:D):Option (List D):=match k with
 |.seq=>NS d
 |.rng=>match d with
  |.tup as=>DY as
  |_=>none
 |.rev=>sS d
 |.enum=>SO d
 |.rvr=>match d with
  |.tup as=>aAW as
  |_=>none
set_option genSizeOf false
set_option genInjectivity false
inductive IE where
 |var (i:Nat)
 |lit (l:Lit)
 |glo (x:Str)
 |bin (o:O2) (a b:IE)
 |neg (a:IE)
 |and (a b:IE)
 |or (a b:IE)
 |not (a:IE)
 |tr (a:IE)
 |ite (c a b:IE)
 |chain (o o':O2) (a b c:IE)
 |nil
 |cons (e es:IE)
 |tup (es:IE)
 |lst (es:IE)
 |ix (a i:IE)
 |ixm (x:Nat) (i:IE)
 |lenm (x:Nat)
 |sortm (x:Nat)
 |sl (a:IE) (bl:Bool) (lo:IE) (bh:Bool) (hi:IE)
 |slm (x:Nat) (bl:Bool) (lo:IE) (bh:Bool) (hi:IE)
 |fld (a:IE) (f:Str)
 |call (f:Str) (es:IE)
 |meth (o:IE) (m:Str) (es:IE)
 |mk (c:Str) (es:IE)
 |bcall (b:BF) (es:IE)
 |isi (a:IE) (t:Str)
 |walk (k:Src) (a:IE)
 |comp (n:Nat) (fr:List (Nat×Nat)) (tg:List Nat) (tp:Bool) (k:Src) (src test elt:IE)
 |inC (neg:Bool) (x:Str) (a:IE)
set_option genInjectivity true
inductive Sl where
 |un
 |im (d:D)
 |mu (d:D)
structure GS where
 fn:Str→List D→Option Rs
 ff:Str→Bool
 me:Str→Str→List D→Option Rs
 mf:Str→Str→Bool
 mo:Str→List D→Option Rs
 cst:Str→Option D
 sub:Str→Str→Bool
 fl:Str→List Str
 xn:Str→Bool
 wd:Str→Str→Option Str
 dk:Str→Option (List (Str×D))
 fm:Str→D→List D→Option (D×D)
noncomputable def gL(G:GS)(t:Str):D→Option Bool
 |.non=>if t = "int"∨t = "bool"∨t = "str"∨t = "list"∨t = "tuple" then some false else none
 |.bl _=>if t = "int"∨t = "bool" then some true else if t = "str"∨t = "list"∨t = "tuple" then some false else none
 |.int _=>if t = "int" then some true else if t = "bool"∨t = "str"∨t = "list"∨t = "tuple" then some false else none
 |.str _=>if t = "str" then some true else if t = "int"∨t = "bool"∨t = "list"∨t = "tuple" then some false else none
 |.lst _=>if t = "list" then some true else if t = "int"∨t = "bool"∨t = "str"∨t = "tuple" then some false else none
 |.tup _=>if t = "tuple" then some true else if t = "int"∨t = "bool"∨t = "str"∨t = "list" then some false else none
 |_=>none
noncomputable def slot(ρ:List Sl)(i:Nat):Option D:=match ρ[i]? with
 |some (.im d)=>some d
 |_=>none
noncomputable def fA(ρ:List Sl)(i:Nat):Option (List D):=match ρ[i]? with
 |some (.im (.lst ds))=>some ds
 |some (.mu (.lst ds))=>some ds
 |_=>none
noncomputable def iE:Option Rs→Option D
 |some (.ok d)=>some d
 |_=>none
noncomputable def bA:Option D→Option (List D)
 |some (.tup ds)=>some ds
 |_=>none
noncomputable def boolOf:Option D→Option Bool
 |some (.bl b)=>some b
 |_=>none
noncomputable def intOf:Option D→Option Int
 |some (.int b)=>some b
 |_=>none
noncomputable def frame(n:Nat)(fr:List (Nat×Nat))(ρ:List Sl):List Sl:=(List.range n).map fun i=>match fr.lookup i with
 |some j=>ρ.getD j .un
 |none=>.un
noncomputable def aQ:List Nat→List D→List Sl→Option (List Sl)
 |[],[],ρ=>some ρ
 |i::is,d::ds,ρ=>aQ is ds (ρ.set i (.im d))
 |_,_,_=>none
noncomputable def bB(tg:List Nat)(tp:Bool)(d:D)(ρ:List Sl):Option (List Sl):=
 if tp then(match d with | .tup ds=>aQ tg ds ρ|_=>none) else aQ tg [d] ρ
noncomputable def bR(f:D→Option (Option D)):List D→Option (List D)
 |[]=>some []
 |d::r=>do
  let o ←f d
  let t ←bR f r
  match o with
  |some y=>some (y::t)
  |none=>some t
noncomputable def part(b:Bool)(o:Option D):Option (Option Int):=if b then(intOf o).map some else some none
noncomputable def ev(G:GS):IE→List Sl→Option D
 |.var i,ρ=>slot ρ i
 |.lit l,_=>some l.d
 |.glo x,_=>G.cst x
 |.bin o a b,ρ=>do ah o (←ev G a ρ) (←ev G b ρ)
 |.neg a,ρ=>do match ←ev G a ρ with | .int i=>some (.int (-i))|_=>none
 |.and a b,ρ=>do match ←ev G a ρ with | .bl true=>(match ←ev G b ρ with | .bl k=>some (.bl k)|_=>none) | .bl false=>some (.bl false)|_=>none
 |.or a b,ρ=>do match ←ev G a ρ with | .bl false=>(match ←ev G b ρ with | .bl k=>some (.bl k)|_=>none) | .bl true=>some (.bl true)|_=>none
 |.not a,ρ=>do match ←ev G a ρ with | .bl k=>some (.bl (!k))|_=>none
 |.tr a,ρ=>do (b8 (←ev G a ρ)).map .bl
 |.ite c a b,ρ=>do match ←ev G c ρ with | .bl true=>ev G a ρ | .bl false=>ev G b ρ|_=>none
 |.chain o o' a b c,ρ=>do
  let y ←ev G b ρ
  match ←ah o (←ev G a ρ) y with
  |.bl true=>ah o' y (←ev G c ρ)
  |.bl false=>some (.bl false)
  |_=>none
 |.nil,_=>some (.tup [])
 |.cons e es,ρ=>do
  let d ←ev G e ρ
  match ←ev G es ρ with
  |.tup ds=>some (.tup (d::ds))
  |_=>none
 |.tup es,ρ=>(bA (ev G es ρ)).map .tup
 |.lst es,ρ=>(bA (ev G es ρ)).map .lst
 |.ix a i,ρ=>do
  match ←ev G a ρ,←ev G i ρ with
  |.lst xs,.int k=>atI xs k
  |.tup xs,.int k=>atI xs k
  |.frz xs,.int k=>atI xs k
  |.dct kvs,.int k=>cV kvs k
  |_,_=>none
 |.ixm x i,ρ=>do atI (←fA ρ x) (←intOf (ev G i ρ))
 |.lenm x,ρ=>do some (.int (←fA ρ x).length)
 |.sortm x,ρ=>do qW [.lst (←fA ρ x)]
 |.sl a bl lo bh hi,ρ=>do
  let d ←ev G a ρ
  let l ←part bl (ev G lo ρ)
  let h ←part bh (ev G hi ρ)
  match d with
  |.lst xs=>some (.lst (cut xs l h))
  |.frz xs=>some (.lst (cut xs l h))
  |.tup xs=>if sIx xs.length 0 l=0∧sIx xs.length xs.length h=xs.length then none else some (.tup (cut xs l h))
  |_=>none
 |.slm x bl lo bh hi,ρ=>do
  let xs ←fA ρ x
  let l ←part bl (ev G lo ρ)
  let h ←part bh (ev G hi ρ)
  some (.lst (cut xs l h))
 |.fld a f,ρ=>do match ←ev G a ρ with | .obj c fs=>if (G.fl c).contains f then fs.lookup f else none|_=>none
 |.call f es,ρ=>do iE (G.fn f (←bA (ev G es ρ)))
 |.meth o m es,ρ=>do match ←ev G o ρ with | .obj c fs=>(if (fs.lookup m).isNone then(bA (ev G es ρ)).bind fun as=>iE (G.me c m (.obj c fs::as)) else none)|_=>none
 |.mk c es,ρ=>do iE (G.mo c (←bA (ev G es ρ)))
 |.bcall b es,ρ=>do bf b (←bA (ev G es ρ))
 |.isi a t,ρ=>do (gL G t (←ev G a ρ)).map .bl
 |.walk k a,ρ=>do (items k (←ev G a ρ)).map .lst
 |.comp n fr tg tp k src test elt,ρ=>do
  let ds ←items k (←ev G src ρ)
  (bR (fun d=>do
   let ρ1 ←bB tg tp d (frame n fr ρ)
   match ←ev G test ρ1 with
   |.bl true=>(ev G elt ρ1).map some
   |.bl false=>some none
   |_=>none) ds).map .lst
 |.inC neg x a,ρ=>do match ←ev G a ρ with | .str s=>(G.dk x).map fun kvs=>.bl (neg != (kvs.lookup s).isSome)|_=>none
noncomputable def ku(G:GS):IE→List Sl→Option Rs
 |.call f es,ρ=>(bA (ev G es ρ)).bind (G.fn f)
 |.meth o m es,ρ=>match ev G o ρ with
  |some (.obj c fs)=>if (fs.lookup m).isNone then(bA (ev G es ρ)).bind fun as=>G.me c m (.obj c fs::as) else none
  |_=>none
 |_,_=>none
inductive HR where
 |lit (l:Lit)
 |word (f:Str)
 |weq (f:Str) (x:Str)
noncomputable def hrD(G:GS)(c:Str):HR→Option D
 |.lit l=>some l.d
 |.word f=>(G.wd f c).map .str
 |.weq f x=>(G.wd f c).map fun y=>.bl (y == x)
set_option genInjectivity false
inductive IS where
 |nop
 |seq (a b:IS)
 |ret (fr:Bool) (e:IE)
 |retm (x:Nat)
 |retn
 |set (x:Nat) (e:IE)
 |setm (x:Nat) (e:IE)
 |setd (x:Nat)
 |sett (tg:List Nat) (e:IE)
 |par (x y:Nat) (a b:IE)
 |iff (c:IE) (a b:IS)
 |loop (tg:List Nat) (tp:Bool) (k:Src) (src:IE) (body:IS)
 |whl (c:IE) (body:IS)
 |app (x:Nat) (e:IE)
 |put (x:Nat) (k e:IE)
 |drop (e:IE)
 |frz (xs:List Nat) (st:IS)
 |rse (c:Str)
 |tryx (ce:IE) (hc:Str) (hb:Option Nat) (r:HR)
 |retq (e:IE)
 |fil (t:IE) (f:Str) (x:Nat) (es:IE) (a:IS)
 |chkm (x i:Nat) (t e:IE)
set_option genInjectivity true
inductive Out where
 |nx (ρ:List Sl)
 |rt (d:D)
 |bk (ρ:List Sl)
 |ct (ρ:List Sl)
 |er (c:Str)
 |rm (d:D) (ρ:List Sl)
noncomputable def eG(bind:D→List Sl→Option (List Sl))(body:List Sl→Option Out):List D→List Sl→Option Out
 |[],ρ=>some (.nx ρ)
 |d::r,ρ=>do
  let ρ1 ←bind d ρ
  match ←body ρ1 with
  |.nx ρ2=>eG bind body r ρ2
  |.ct ρ2=>eG bind body r ρ2
  |.bk ρ2=>some (.nx ρ2)
  |o=>some o
noncomputable def oY(test:List Sl→Option D)(body:List Sl→Option Out):Nat→List Sl→Option Out
 | 0,_=>none
 |n+1,ρ=>do
  match ←test ρ with
  |.bl true=>(match ←body ρ with
   |.nx ρ2=>oY test body n ρ2
   |.ct ρ2=>oY test body n ρ2
   |.bk ρ2=>some (.nx ρ2)
   |o=>some o)
  |.bl false=>some (.nx ρ)
  |_=>none
noncomputable def KZ(i:Nat)(ρ:List Sl):List Sl:=match ρ[i]? with
 |some (.mu d)=>ρ.set i (.im d)
 |_=>ρ
noncomputable def freeze:List Nat→List Sl→List Sl
 |[],ρ=>ρ
 |i::r,ρ=>freeze r (KZ i ρ)
noncomputable def eF:Sl→Sl
 |.mu d=>.im d
 |s=>s
noncomputable def view(ρ:List Sl):List Sl:=ρ.map eF
noncomputable def uC:D→Bool
 |.non=>true
 |.bl _=>true
 |.int _=>true
 |.str _=>true
 |_=>false
noncomputable def bu(G:GS)(e:IE)(ρ:List Sl):Option D:=match ev G e ρ with
 |some d=>some d
 |none=>match ev G e (view ρ) with
  |some d=>if uC d then some d else none
  |none=>none
noncomputable def mP(t r:List Sl→Option D)(i:Nat):List D→List Sl→Option Out
 |[],ρ=>some (.nx ρ)
 |d::ds,ρ=>(t (ρ.set i (.im d))).bind fun v=>match v with
  |.bl true=>(r (ρ.set i (.im d))).map .rt
  |.bl false=>mP t r i ds (ρ.set i (.im d))
  |_=>none
noncomputable def aDx(o:D)(i:Int)(d:D):Option D:=match o with
 |.lst ds=>(ixN ds.length i).map fun j=>.lst (ds.set j d)
 |.dct kvs=>if kvs.length<big then some (.dct (jN kvs i d)) else none
 |_=>none
noncomputable def ex(G:GS):IS→List Sl→Option Out
 |.nop,ρ=>some (.nx ρ)
 |.seq a b,ρ=>do
  match ←ex G a ρ with
  |.nx ρ'=>ex G b ρ'
  |o=>some o
 |.ret _ e,ρ=>(bu G e ρ).map .rt
 |.retm x,ρ=>match ρ[x]? with|some (.mu d)=>some (.rt d)|_=>none
 |.retn,_=>some (.rt .non)
 |.set x e,ρ=>(bu G e ρ).map fun d=>.nx (ρ.set x (.im d))
 |.setm x e,ρ=>do match ←ev G e ρ with | .lst ds=>some (.nx (ρ.set x (.mu (.lst ds))))|_=>none
 |.setd x,ρ=>some (.nx (ρ.set x (.mu (.dct []))))
 |.sett tg e,ρ=>do (bB tg true (←ev G e ρ) ρ).map .nx
 |.par x y a b,ρ=>do
  let u ←ev G a ρ
  let v ←ev G b ρ
  some (.nx ((ρ.set x (.im u)).set y (.im v)))
 |.iff c a b,ρ=>do match ←ev G c (view ρ) with | .bl true=>ex G a ρ | .bl false=>ex G b ρ|_=>none
 |.loop tg tp k src body,ρ=>do eG (bB tg tp) (ex G body) (←items k (←ev G src ρ)) ρ
 |.whl c body,ρ=>oY (fun ρ=>ev G c (view ρ)) (ex G body) 5000 ρ
 |.app x e,ρ=>do
  let d ←bu G e ρ
  match ρ[x]? with
  |some (.mu (.lst ds))=>if ds.length<big then some (.nx (ρ.set x (.mu (.lst (ds++[d]))))) else none
  |_=>none
 |.put x k e,ρ=>do
  let d ←bu G e ρ
  let i ←intOf (bu G k ρ)
  match ρ[x]? with
  |some (.mu o)=>(aDx o i d).map fun o=>.nx (ρ.set x (.mu o))
  |_=>none
 |.drop e,ρ=>match ev G e (view ρ) with
  |some _=>some (.nx ρ)
  |none=>match ku G e (view ρ) with
   |some (.er k)=>if G.xn k then some (.er k) else none
   |_=>none
 |.frz xs st,ρ=>ex G st (freeze xs ρ)
 |.rse c,_=>if G.xn c then some (.er c) else none
 |.tryx ce hc _ r,ρ=>match ku G ce (view ρ) with
  |some (.ok _)=>some (.nx ρ)
  |some (.er k)=>if G.xn k&&G.xn hc&&G.sub k hc then(hrD G k r).map .rt else none
  |none=>none
 |.chkm x i t e,ρ=>match ρ[x]? with
  |some (.mu (.lst ds))=>mP (fun ρ=>ev G t (view ρ)) (fun ρ=>bu G e ρ) i ds ρ
  |_=>none
 |.retq e,ρ=>(bu G e ρ).bind fun d=>if uC d then some (.rm d ρ) else none
 |.fil t f x es a,ρ=>(ev G t (view ρ)).bind fun v=>match v with
  |.bl true=>ex G a ρ
  |.bl false=>(bA (ev G es ρ)).bind fun as=>(match ρ[x]? with
   |some (.mu o)=>(G.fm f o as).bind fun q=>(match q.1 with
    |.bl true=>some (.nx (ρ.set x (.mu q.2)))
    |.bl false=>ex G a (ρ.set x (.mu q.2))
    |_=>none)
   |_=>none)
  |_=>none
noncomputable def fY:IS→Bool
 |.seq a b=>fY a&&fY b
 |.ret fr _=>fr
 |.iff _ a b=>fY a&&fY b
 |.loop _ _ _ _ b=>fY b
 |.whl _ b=>fY b
 |.frz _ b=>fY b
 |.tryx _ _ _ _=>true
 |.retq _=>false
 |.chkm _ _ _ _=>false
 |.fil _ _ _ _ a=>fY a
 |_=>true
noncomputable def aP(G:GS)(n:Nat)(b:IS)(args:List D):Option Rs:=
 match ex G b (args.map .im++List.replicate (n-args.length) .un) with
 |some (.rt d)=>some (.ok d)
 |some (.nx _)=>some (.ok .non)
 |some (.er c)=>some (.er c)
 |_=>none
noncomputable def runM(G:GS)(n:Nat)(b:IS)(o:D)(args:List D):Option (D×D):=
 match ex G b (.mu o::args.map .im++List.replicate (n-(args.length+1)) .un) with
 |some (.rm d ρ)=>(match (ρ[0]?:Option Sl) with
  |some (.mu o')=>some (d,o')
  |_=>none)
 |_=>none
noncomputable def bV:IS→Bool
 |.seq a b=>bV a&&bV b
 |.set x _=>x != 0
 |.setm x _=>x != 0
 |.setd x=>x != 0
 |.sett tg _=>!tg.contains 0
 |.par x y _ _=>x != 0&&y != 0
 |.iff _ a b=>bV a&&bV b
 |.loop tg _ _ _ b=>!tg.contains 0&&bV b
 |.whl _ b=>bV b
 |.frz _ _=>false
 |.fil _ _ _ _ a=>bV a
 |.chkm _ _ _ _=>false
 |.ret _ _=>false
 |.retm _=>false
 |.retn=>false
 |.rse _=>false
 |.drop _=>false
 |.tryx _ _ _ _=>false
 |_=>true
section
variable {G:GS}{ρ:List Sl}{a b e es src test elt:IE}{i j:Int}
theorem EU{k:Nat}:ev G (.var k) ρ=slot ρ k:=id rfl
theorem TK{l:Lit}:ev G (.lit l) ρ=some l.d:=id rfl
theorem TM{x:Str}:ev G (.glo x) ρ=G.cst x:=id rfl
theorem dJ{o:O2}:ev G (.bin o a b) ρ=(ev G a ρ).bind fun x=>(ev G b ρ).bind fun y=>ah o x y:=id rfl
theorem TH:ev G (.neg a) ρ=(ev G a ρ).bind fun x=>match x with | .int i=>some (.int (-i))|_=>none:=id rfl
theorem EY:ev G (.and a b) ρ=(ev G a ρ).bind fun x=>match x with | .bl true=>((ev G b ρ).bind fun y=>match y with | .bl k=>some (.bl k)|_=>none) | .bl false=>some (.bl false)|_=>none:=id rfl
theorem NV:ev G (.or a b) ρ=(ev G a ρ).bind fun x=>match x with | .bl false=>((ev G b ρ).bind fun y=>match y with | .bl k=>some (.bl k)|_=>none) | .bl true=>some (.bl true)|_=>none:=id rfl
theorem vE:ev G (.not a) ρ=(ev G a ρ).bind fun x=>match x with | .bl k=>some (.bl (!k))|_=>none:=id rfl
theorem xW:ev G (.tr a) ρ=(ev G a ρ).bind fun x=>(b8 x).map .bl:=id rfl
theorem vF{c:IE}:ev G (.ite c a b) ρ=(ev G c ρ).bind fun x=>match x with | .bl true=>ev G a ρ | .bl false=>ev G b ρ|_=>none:=id rfl
theorem tH{o o':O2}{c:IE}:ev G (.chain o o' a b c) ρ=(ev G b ρ).bind fun y=>(ev G a ρ).bind fun x=>(ah o x y).bind fun w=>match w with | .bl true=>(ev G c ρ).bind fun z=>ah o' y z | .bl false=>some (.bl false)|_=>none:=id rfl
theorem TF:ev G .nil ρ=some (.tup []):=id rfl
theorem bO:ev G (.cons e es) ρ=(ev G e ρ).bind fun d=>(ev G es ρ).bind fun t=>match t with | .tup ds=>some (.tup (d::ds))|_=>none:=id rfl
theorem kA:ev G (.tup es) ρ=(bA (ev G es ρ)).map .tup:=id rfl
theorem TJ:ev G (.lst es) ρ=(bA (ev G es ρ)).map .lst:=id rfl
theorem aBi:ev G (.ix a b) ρ=(ev G a ρ).bind fun x=>(ev G b ρ).bind fun y=>(match x,y with
  |.lst xs,.int k=>atI xs k
  |.tup xs,.int k=>atI xs k
  |.frz xs,.int k=>atI xs k
  |.dct kvs,.int k=>cV kvs k
  |_,_=>none):=id rfl
theorem gN{f:Str}:ev G (.fld a f) ρ=(ev G a ρ).bind fun x=>match x with | .obj c fs=>if (G.fl c).contains f then fs.lookup f else none|_=>none:=id rfl
theorem gZ{f:Str}:ev G (.call f es) ρ=(bA (ev G es ρ)).bind fun as=>iE (G.fn f as):=id rfl
theorem xX{m:Str}:ev G (.meth a m es) ρ=(ev G a ρ).bind fun x=>match x with | .obj c fs=>(if (fs.lookup m).isNone then(bA (ev G es ρ)).bind fun as=>iE (G.me c m (.obj c fs::as)) else none)|_=>none:=id rfl
theorem NW{c:Str}:ev G (.mk c es) ρ=(bA (ev G es ρ)).bind fun as=>iE (G.mo c as):=id rfl
theorem EW{f:BF}:ev G (.bcall f es) ρ=(bA (ev G es ρ)).bind fun as=>bf f as:=id rfl
theorem TL{t:Str}:ev G (.isi a t) ρ=(ev G a ρ).bind fun x=>(gL G t x).map .bl:=id rfl
theorem LZ{k:Src}:ev G (.walk k a) ρ=(ev G a ρ).bind fun x=>(items k x).map .lst:=id rfl
theorem EV{x:Nat}:ev G (.ixm x b) ρ=(fA ρ x).bind fun xs=>(intOf (ev G b ρ)).bind fun k=>atI xs k:=id rfl
theorem xZ{x:Nat}:ev G (.lenm x) ρ=(fA ρ x).bind fun xs=>some (.int xs.length):=id rfl
theorem aBh{bl bh:Bool}{lo hi:IE}:ev G (.sl a bl lo bh hi) ρ=(ev G a ρ).bind fun d=>(part bl (ev G lo ρ)).bind fun l=>(part bh (ev G hi ρ)).bind fun h=>(match d with
  |.lst xs=>some (.lst (cut xs l h))
  |.frz xs=>some (.lst (cut xs l h))
  |.tup xs=>if sIx xs.length 0 l=0∧sIx xs.length xs.length h=xs.length then none else some (.tup (cut xs l h))
  |_=>none):=id rfl
theorem yA{n:Nat}{fr:List (Nat×Nat)}{tg:List Nat}{tp:Bool}{k:Src}:ev G (.comp n fr tg tp k src test elt) ρ=(ev G src ρ).bind fun s=>(items k s).bind fun ds =>
  (bR (fun d=>(bB tg tp d (frame n fr ρ)).bind fun ρ1=>(ev G test ρ1).bind fun w=>match w with
   |.bl true=>(ev G elt ρ1).map some
   |.bl false=>some none
   |_=>none) ds).map .lst:=id rfl
theorem BA{ds:List D}:bA (some (.tup ds))=some ds:=id rfl
theorem JX{d:D}:iE (some (.ok d))=some d:=id rfl
theorem ZV:ah .add (.int i) (.int j)=some (.int (i+j)):=id rfl
theorem ZS:ah .sub (.int i) (.int j)=some (.int (i-j)):=id rfl
theorem DB(h0:-1000000≤i)(h1:i≤1000000):ah .mul (.int i) (.int j)=some (.int (i*j)):=if_pos (.inl ⟨by omega,by omega⟩)
theorem sI(h0:0<j)(h1:j<1000000):ah .fdiv (.int i) (.int j)=some (.int (i / j)):=if_pos ⟨h0,by omega⟩
theorem wD(h0:0<j):ah .mod (.int i) (.int j)=some (.int (i % j)):=if_pos h0
theorem aDy:ah .lt (.int i) (.int j)=some (.bl (decide (i<j))):=id rfl
theorem aDz:ah .le (.int i) (.int j)=some (.bl (decide (i≤j))):=id rfl
theorem aDA:ah .gt (.int i) (.int j)=some (.bl (decide (j<i))):=id rfl
theorem aDB:ah .ge (.int i) (.int j)=some (.bl (decide (j≤i))):=id rfl
theorem aDC:ah .eq (.int i) (.int j)=some (.bl (i == j)):=id rfl
theorem ZT:ah .ne (.int i) (.int j)=some (.bl (!(i == j))):=id rfl
theorem ZU{x y:Bool}:ah .is (.bl x) (.bl y)=some (.bl (x == y)):=id rfl
theorem RP{x y:Bool}:ah .isnot (.bl x) (.bl y)=some (.bl (!(x == y))):=id rfl
theorem BN(h0:-1000000≤j)(h1:j≤1000000):eZ j=true:=by
 unfold eZ;rw[ly,mj,mj];omega
theorem uT{n:Nat}(h:n≤1000000):items .rng (.tup [.int (n:Int)])=some (dA 0 (n:Int)):=by
 have h1:(eZ (n:Int)&&decide ((n:Int).toNat≤big))=true:=by
  rw[BN (by omega) (by omega),Bool.true_and,mj]
  unfold big;omega
 simp only[items,DY];rw[if_pos h1]
theorem slot0{d:D}{r:List Sl}:slot (.im d::r) 0=some d:=id rfl
theorem WQ{x:Sl}{r:List Sl}{k:Nat}:slot (x::r) (k+1)=slot r k:=id rfl
end
section
variable {G:GS}{ρ:List Sl}{a b:IS}{e c:IE}
theorem aY:ex G .nop ρ=some (.nx ρ):=id rfl
theorem ER:ex G (.seq a b) ρ=(ex G a ρ).bind fun o=>match o with | .nx ρ'=>ex G b ρ'|o=>some o:=id rfl
theorem ES:ex G (.iff c a b) ρ=(ev G c (view ρ)).bind fun x=>match x with | .bl true=>ex G a ρ | .bl false=>ex G b ρ|_=>none:=id rfl
theorem iI{d:D}(h:ev G e ρ=some d):bu G e ρ=some d:=by unfold bu;rw[h]
theorem aS{d:D}{f:Bool}(h:ev G e ρ=some d):ex G (.ret f e) ρ=some (.rt d):=by show (bu G e ρ).map Out.rt=_;rw[iI h];rfl
theorem aW{d:D}{x:Nat}(h:ev G e ρ=some d):ex G (.set x e) ρ=some (.nx (ρ.set x (.im d))):=by show (bu G e ρ).map _=_;rw[iI h];rfl
theorem kX{ds:List D}{x:Nat}(h:ev G e ρ=some (.lst ds)):ex G (.setm x e) ρ=some (.nx (ρ.set x (.mu (.lst ds)))):=by show (ev G e ρ).bind _=_;rw[h];rfl
theorem dH{tg:List Nat}{tp:Bool}{k:Src}{d:D}{ds:List D}(h1:ev G e ρ=some d)(h2:items k d=some ds):ex G (.loop tg tp k e a) ρ=eG (bB tg tp) (ex G a) ds ρ:=by show (ev G e ρ).bind _=_;rw[h1];show ((items k d).bind _)=_;rw[h2];rfl
end
theorem mM{f:D→Option (Option D)}{h:D→D}:∀{ds:List D},(∀d∈ds,f d=some (some (h d)))→bR f ds=some (ds.map h)
 |[],_=>rfl
 |d::r,e=>by
  unfold bR;rw[e d (oi),mM fun x hx=>e x (lu _ hx)]
  rfl
theorem lS{lo hi:Int}{d:D}(h:d∈dA lo hi):∃i:Int,d=.int i∧lo≤i∧i<hi:=by
 unfold dA at h;simp only[nv,oy]at h;obtain⟨k,hk,rfl⟩:=h;exact⟨_,rfl,by omega,by omega⟩
theorem iD{n:Nat}:dA 0 (n:Int)=(List.range n).map fun (k:Nat)=>D.int k:=by
 unfold dA;simp
theorem dU{bind:D→List Sl→Option (List Sl)}{body:List Sl→Option Out}(P:Nat→List Sl→Prop):∀{ds:List D} {k:Nat} {ρ:List Sl},P k ρ →
  (∀(i:Nat) (d:D) (ρ:List Sl),ds[i]?=some d→P (k+i) ρ→∃ρ1,bind d ρ=some ρ1∧∃ρ2,body ρ1=some (.nx ρ2)∧P (k+i+1) ρ2)→∃ρ',eG bind body ds ρ=some (.nx ρ')∧P (k+ds.length) ρ'
 |[],k,ρ,h,_=>⟨ρ,rfl,h⟩
 |d::r,k,ρ,h,st=>by
  obtain⟨ρ1,h1,ρ2,h2,h3⟩:=st 0 d ρ rfl h;obtain⟨ρ',h4,h5⟩:=dU P (ds:=r) (k:=k+1) h3 fun i d' ρ' e p=>by
   have:=st (i+1) d' ρ' (by simpa using e) (by rw[Nat.add_comm i 1,←Nat.add_assoc];exact p)
   rw[show k+1+i+1=k+(i+1)+1 by omega]
   exact this
  refine⟨ρ',?_,by rw[om,show k+(r.length+1)=k+1+r.length by omega];exact h5⟩
  unfold eG;rw[h1];show ((body ρ1).bind _)=_
  rw[h2];exact h4
theorem aJ{G:GS}{n:Nat}{b:IS}{args:List D}{ρ:List Sl}{d:D}(h0:args.map .im++List.replicate (n-args.length) .un=ρ)(h:ex G b ρ=some (.rt d)):aP G n b args=some (.ok d):=by unfold aP;rw[h0,h]
theorem HP{G:GS}{n:Nat}{b:IS}{args:List D}{ρ ρ':List Sl}(h0:args.map .im++List.replicate (n-args.length) .un=ρ)(h:ex G b ρ=some (.nx ρ')):aP G n b args=some (.ok .non):=by unfold aP;rw[h0,h]
theorem tG{G:GS}{ρ:List Sl}{n:Nat}{fr:List (Nat×Nat)}{tg:List Nat}{tp:Bool}{k:Src}{src test elt:IE}{s:D}{ds:List D}(h:D→D)(h1:ev G src ρ=some s)(h2:items k s=some ds)
  (h3:∀d∈ds,∃ρ1,bB tg tp d (frame n fr ρ)=some ρ1∧ev G test ρ1=some (.bl true)∧ev G elt ρ1=some (h d)):ev G (.comp n fr tg tp k src test elt) ρ=some (.lst (ds.map h)):=by
 rw[yA,h1,og,h2,og,mM (h:=h)]
 ·rfl
 ·intro d hd;obtain⟨ρ1,e1,e2,e3⟩:=h3 d hd;rw[e1,og,e2,og];show Option.map some (ev G elt ρ1)=_
  rw[e3];rfl
theorem bF:view []=[]:=id rfl
theorem dX{d:D}{r:List Sl}:view (.im d::r)=.im d::view r:=id rfl
theorem vN{r:List Sl}:view (.un::r)=.un::view r:=id rfl
theorem GW{d:D}{r:List Sl}:view (.mu d::r)=.im d::view r:=id rfl
theorem tF{G:GS}{ρ:List Sl}{tg:List Nat}{e:IE}:ex G (.sett tg e) ρ=(ev G e ρ).bind fun d=>(bB tg true d ρ).map .nx:=id rfl
theorem aH{G:GS}{ρ ρ':List Sl}{a b:IS}{o:Out}(h1:ex G a ρ=some (.nx ρ'))(h2:ex G b ρ'=some o):ex G (.seq a b) ρ=some o:=by rw[ER,h1];exact h2
theorem hV{G:GS}{ρ:List Sl}{a b:IS}{o:Out}(h1:ex G a ρ=some o)(h2:∀ρ',o≠.nx ρ'):ex G (.seq a b) ρ=some o:=by
 rw[ER,h1];cases o<;>first|rfl|exact absurd rfl (h2 _)
theorem kO{G:GS}{ρ:List Sl}{a b:IS}{c:IE}{o:Option Out}(h1:ev G c (view ρ)=some (.bl true))(h2:ex G a ρ=o):ex G (.iff c a b) ρ=o:=by rw[ES,h1];exact h2
theorem dI{G:GS}{ρ:List Sl}{a b:IS}{c:IE}{o:Option Out}(h1:ev G c (view ρ)=some (.bl false))(h2:ex G b ρ=o):ex G (.iff c a b) ρ=o:=by rw[ES,h1];exact h2
theorem bQ{G:GS}{ρ:List Sl}{a b:IE}{x y:Bool}(ha:ev G a ρ=some (.bl x))(hb:x=false→ev G b ρ=some (.bl y)):ev G (.or a b) ρ=some (.bl (x || y)):=by
 rw[NV,ha];cases x with
 |true=>rfl
 |false=>show ((ev G b ρ).bind _)=_;rw[hb rfl];rfl
theorem qX{G:GS}{ρ:List Sl}{a b:IE}{x y:Bool}(ha:ev G a ρ=some (.bl x))(hb:x=true→ev G b ρ=some (.bl y)):ev G (.and a b) ρ=some (.bl (x&&y)):=by
 rw[EY,ha];cases x with
 |false=>rfl
 |true=>show ((ev G b ρ).bind _)=_;rw[hb rfl];rfl
theorem aBg{xs:List D}:bf .len [.lst xs]=some (.int xs.length):=id rfl
theorem SY{xs:List D}:bf .len [.frz xs]=some (.int xs.length):=id rfl
theorem SX{xs:List D}:bf .len [.tup xs]=some (.int xs.length):=id rfl
theorem SW{xs:List D}:bf .list [.lst xs]=some (.lst xs):=id rfl
theorem LG{xs:List D}:bf .list [.tup xs]=some (.lst xs):=id rfl
theorem dM{α:Type}{xs:List α}{k:Nat}{x:α}(h:xs[k]?=some x):atI xs (k:Int)=some x:=by
 have hl:=(l0.mp h).1
 unfold atI ixN;rw[if_pos (by omega),if_pos (by omega)]
 simpa using h
theorem aA{α β:Type}{a:α}{f:α→Option β}:(some a).bind f=f a:=id rfl
theorem aB{α β:Type}{a:α}{f:α→β}:(some a).map f=some (f a):=id rfl
theorem aAT{i:Int}:(Lit.int i).d=.int i:=id rfl
theorem aDT{b:Bool}:(Lit.bl b).d=.bl b:=id rfl
theorem aAR{x:Str}:(Lit.str x).d=.str x:=id rfl
theorem aAS:(Lit.non).d=.non:=id rfl
theorem zz:(∀G ρ k,ev G (.var k) ρ=slot ρ k)∧(∀G ρ l,ev G (.lit l) ρ=some l.d)∧(∀G ρ x,ev G (.glo x) ρ=G.cst x)∧(∀G ρ o a b,ev G (.bin o a b) ρ=(ev G a ρ).bind fun x=>(ev G b ρ).bind fun y=>ah o x y) ∧
  (∀G ρ a,ev G (.neg a) ρ=(ev G a ρ).bind fun x=>match x with | .int i=>some (.int (-i))|_=>none) ∧
  (∀G ρ a b,ev G (.and a b) ρ=(ev G a ρ).bind fun x=>match x with | .bl true=>((ev G b ρ).bind fun y=>match y with | .bl k=>some (.bl k)|_=>none) | .bl false=>some (.bl false)|_=>none) ∧
  (∀G ρ a b,ev G (.or a b) ρ=(ev G a ρ).bind fun x=>match x with | .bl false=>((ev G b ρ).bind fun y=>match y with | .bl k=>some (.bl k)|_=>none) | .bl true=>some (.bl true)|_=>none) ∧
  (∀G ρ a,ev G (.not a) ρ=(ev G a ρ).bind fun x=>match x with | .bl k=>some (.bl (!k))|_=>none)∧(∀G ρ a,ev G (.tr a) ρ=(ev G a ρ).bind fun x=>(b8 x).map .bl) ∧
  (∀G ρ c a b,ev G (.ite c a b) ρ=(ev G c ρ).bind fun x=>match x with | .bl true=>ev G a ρ | .bl false=>ev G b ρ|_=>none) ∧
  (∀G ρ o o' a b c,ev G (.chain o o' a b c) ρ=(ev G b ρ).bind fun y=>(ev G a ρ).bind fun x=>(ah o x y).bind fun w=>match w with | .bl true=>(ev G c ρ).bind fun z=>ah o' y z | .bl false=>some (.bl false)|_=>none) ∧
  (∀G ρ,ev G .nil ρ=some (.tup []))∧(∀G ρ e es,ev G (.cons e es) ρ=(ev G e ρ).bind fun d=>(ev G es ρ).bind fun t=>match t with | .tup ds=>some (.tup (d::ds))|_=>none) ∧
  (∀G ρ es,ev G (.tup es) ρ=(bA (ev G es ρ)).map .tup)∧(∀G ρ es,ev G (.lst es) ρ=(bA (ev G es ρ)).map .lst) ∧
  (∀G ρ a b,ev G (.ix a b) ρ=(ev G a ρ).bind fun x=>(ev G b ρ).bind fun y=>(match x,y with | .lst xs,.int k=>atI xs k | .tup xs,.int k=>atI xs k | .frz xs,.int k=>atI xs k | .dct kvs,.int k=>cV kvs k|_,_=>none)) ∧
  (∀G ρ a f,ev G (.fld a f) ρ=(ev G a ρ).bind fun x=>match x with | .obj c fs=>if (G.fl c).contains f then fs.lookup f else none|_=>none) ∧
  (∀G ρ f es,ev G (.call f es) ρ=(bA (ev G es ρ)).bind fun as=>iE (G.fn f as)) ∧
  (∀G ρ a m es,ev G (.meth a m es) ρ=(ev G a ρ).bind fun x=>match x with | .obj c fs=>(if (fs.lookup m).isNone then(bA (ev G es ρ)).bind fun as=>iE (G.me c m (.obj c fs::as)) else none)|_=>none) ∧
  (∀G ρ c es,ev G (.mk c es) ρ=(bA (ev G es ρ)).bind fun as=>iE (G.mo c as))∧(∀G ρ f es,ev G (.bcall f es) ρ=(bA (ev G es ρ)).bind fun as=>bf f as) ∧
  (∀G ρ a t,ev G (.isi a t) ρ=(ev G a ρ).bind fun x=>(gL G t x).map .bl)∧(∀G ρ k a,ev G (.walk k a) ρ=(ev G a ρ).bind fun x=>(items k x).map .lst) ∧
  (∀G ρ x b,ev G (.ixm x b) ρ=(fA ρ x).bind fun xs=>(intOf (ev G b ρ)).bind fun k=>atI xs k)∧(∀G ρ x,ev G (.lenm x) ρ=(fA ρ x).bind fun xs=>some (.int xs.length)) ∧
  (∀G ρ a bl lo bh hi,ev G (.sl a bl lo bh hi) ρ=(ev G a ρ).bind fun d=>(part bl (ev G lo ρ)).bind fun l=>(part bh (ev G hi ρ)).bind fun h=>(match d with
   |.lst xs=>some (.lst (cut xs l h))
   |.frz xs=>some (.lst (cut xs l h))
   |.tup xs=>if sIx xs.length 0 l=0∧sIx xs.length xs.length h=xs.length then none else some (.tup (cut xs l h))
   |_=>none)):=
 ⟨fun _ _ _=>EU,fun _ _ _=>TK,fun _ _ _=>TM,fun _ _ _ _ _=>dJ,fun _ _ _=>TH,fun _ _ _ _=>EY,fun _ _ _ _=>NV,fun _ _ _=>vE,fun _ _ _=>xW,fun _ _ _ _ _=>vF,fun _ _ _ _ _ _ _=>tH,fun _ _=>TF,fun _ _ _ _=>bO,fun _ _ _=>kA,fun _ _ _=>TJ,fun _ _ _ _=>aBi,fun _ _ _ _=>gN,fun _ _ _ _=>gZ,fun _ _ _ _ _=>xX,fun _ _ _ _=>NW,fun _ _ _ _=>EW,fun _ _ _ _=>TL,fun _ _ _ _=>LZ,fun _ _ _ _=>EV,fun _ _ _=>xZ,fun _ _ _ _ _ _ _=>aBh⟩
theorem yy:(∀ds,bA (some (.tup ds))=some ds)∧(∀d,iE (some (.ok d))=some d)∧(∀i j,ah .add (.int i) (.int j)=some (.int (i+j)))∧(∀i j,ah .sub (.int i) (.int j)=some (.int (i-j)))∧(∀i j,ah .lt (.int i) (.int j)=some (.bl (decide (i<j))))∧(∀i j,ah .le (.int i) (.int j)=some (.bl (decide (i≤j)))) ∧
  (∀i j,ah .gt (.int i) (.int j)=some (.bl (decide (j<i))))∧(∀i j,ah .ge (.int i) (.int j)=some (.bl (decide (j≤i))))∧(∀i j,ah .eq (.int i) (.int j)=some (.bl (i == j)))∧(∀i j,ah .ne (.int i) (.int j)=some (.bl (!(i == j))))∧(∀x y,ah .is (.bl x) (.bl y)=some (.bl (x == y)))∧(∀x y,ah .isnot (.bl x) (.bl y)=some (.bl (!(x == y)))) ∧
  (∀d r,slot (.im d::r) 0=some d)∧(∀x r k,slot (x::r) (k+1)=slot r k)∧(view []=[])∧(∀d r,view (.im d::r)=.im d::view r)∧(∀r,view (.un::r)=.un::view r)∧(∀d r,view (.mu d::r)=.im d::view r) ∧
  (∀xs,bf .len [.lst xs]=some (.int xs.length))∧(∀xs,bf .len [.frz xs]=some (.int xs.length))∧(∀xs,bf .len [.tup xs]=some (.int xs.length))∧(∀xs,bf .list [.lst xs]=some (.lst xs))∧(∀xs,bf .list [.tup xs]=some (.lst xs)) ∧
  (∀i,(Lit.int i).d=.int i)∧(∀b,(Lit.bl b).d=.bl b)∧(∀x,(Lit.str x).d=.str x)∧((Lit.non).d=.non):=
 ⟨fun _=>BA,fun _=>JX,fun _ _=>ZV,fun _ _=>ZS,fun _ _=>aDy,fun _ _=>aDz,fun _ _=>aDA,fun _ _=>aDB,fun _ _=>aDC,fun _ _=>ZT,fun _ _=>ZU,fun _ _=>RP,fun _ _=>slot0,fun _ _ _=>WQ,bF,fun _ _=>dX,fun _=>vN,fun _ _=>GW,fun _=>aBg,fun _=>SY,fun _=>SX,fun _=>SW,fun _=>LG,fun _=>aAT,fun _=>aDT,fun _=>aAR,aAS⟩
namespace Pg
noncomputable def fX:IS:=(.ret true (.comp 4 [(2,0),(3,1)] [1] false .rng (.tup (.cons (.var 0) .nil)) (.lit (.bl true)) (.lst (.cons (.tup (.cons (.bin .add (.bin .mul (.var 3) (.var 2)) (.var 1)) (.cons (.lit (.bl false)) (.cons (.lit (.bl false)) .nil)))) .nil))))
noncomputable def NY(i:Int)(e n:Bool):D:=.tup [.int i,.bl e,.bl n]
noncomputable def kK(c y:Nat):List D:=(List.range c).map fun x=>.lst [NY (y*c+x:Nat) false false]
theorem sP{G:GS}{c y:Nat}(hc:c≤64)(hy:y≤64):aP G 2 fX [.int c,.int y]=some (.ok (.lst (kK c y))):=by
 have e:=tG (G:=G) (ρ:=[.im (.int c),.im (.int y)]) (n:=4) (fr:=[(2,0),(3,1)]) (tg:=[1]) (tp:=false) (k:=.rng) (src:=.tup (.cons (.var 0) .nil)) (test:=.lit (.bl true)) (elt:=.lst (.cons (.tup (.cons (.bin .add (.bin .mul (.var 3) (.var 2)) (.var 1)) (.cons (.lit (.bl false)) (.cons (.lit (.bl false)) .nil)))) .nil))
  (fun d=>match d with | .int x=>.lst [NY (y*c+x) false false]|_=>.non) (s:=.tup [.int c]) (by simp only[zz,yy,aA,aB]) (uT (by omega)) (fun d hd=>by
   obtain⟨x,rfl,h1,h2⟩:=lS hd;refine⟨[.un,.im (.int x),.im (.int c),.im (.int y)],rfl,by simp only[zz,yy,aA,aB],?_⟩
   simp only[zz,yy,aA,aB,DB (show (-1000000:Int)≤y by omega) (show (y:Int)≤1000000 by omega)]
   rfl)
 refine aJ (ρ:=[.im (.int c),.im (.int y)]) rfl (aS (e.trans ?_));rw[iD];simp[kK]
noncomputable def bL(c r w h:Int)(T F S:List D):D:=.obj "Pile" [("columns",.int c),("rows",.int r),("wide",.int w),("high",.int h),("table",.lst T),("folds",.tup F),("severed",.tup S)]
noncomputable def eS(c r:Nat):List D:=(List.range r).map fun y=>.lst (kK c y)
noncomputable def pW:IS:=(.seq (.iff (.or (.bin .lt (.var 0) (.lit (.int 1))) (.or (.bin .lt (.var 1) (.lit (.int 1))) (.bin .gt (.bin .mul (.var 0) (.var 1)) (.glo "MOST_CELLS")))) (.rse "NoSheet") .nop) (.seq (.set 2 (.comp 3 [(2,0)] [1] false .rng (.tup (.cons (.var 1) .nil)) (.lit (.bl true)) (.call "laid_row" (.cons (.var 2) (.cons (.var 1) .nil))))) (.ret false (.mk "Pile" (.cons (.var 0) (.cons (.var 1) (.cons (.var 2) (.cons (.tup .nil) (.cons (.tup .nil) .nil)))))))))
section
variable {G:GS}
theorem zW(hm:G.cst "MOST_CELLS" = some (.int 64)){c r:Int}{ρ:List Sl}(hmul:ah .mul (.int c) (.int r)=some (.int (c*r)))(h0:slot ρ 0=some (.int c))(h1:slot ρ 1=some (.int r)) :
  ev G (.or (.bin .lt (.var 0) (.lit (.int 1))) (.or (.bin .lt (.var 1) (.lit (.int 1))) (.bin .gt (.bin .mul (.var 0) (.var 1)) (.glo "MOST_CELLS")))) ρ=some (.bl (decide (c<1) || (decide (r<1) || decide (64<c*r)))):=by
 refine bQ (by simp only[zz,yy,aA,aB,h0]) fun _=>bQ (by simp only[zz,yy,aA,aB,h1]) fun _=>?_
 simp only[zz,yy,aA,aB,h0,h1,hmul,hm]
theorem KP(hm:G.cst "MOST_CELLS" = some (.int 64))(hrow:∀c y:Nat,c≤64→y≤64→G.fn "laid_row" [.int c,.int y]=some (.ok (.lst (kK c y))))
  (hmo:∀(c r:Int) (T row:List D),T[0]?=some (.lst row)→G.mo "Pile" [.int c,.int r,.lst T,.tup [],.tup []]=some (.ok (bL c r row.length T.length T [] []))) {c r:Nat} (hc:1≤c) (hr:1≤r) (bj:c*r≤64) :
  aP G 3 pW [.int c,.int r]=some (.ok (bL c r c r (eS c r) [] [])):=by
 have d9:c≤64:=mw (Nat.le_mul_of_pos_right c hr) bj
 have hr2:r≤64:=mw (Nat.le_mul_of_pos_left r hc) bj
 have e:=tG (G:=G) (ρ:=[.im (.int c),.im (.int r),.un]) (n:=3) (fr:=[(2,0)]) (tg:=[1]) (tp:=false) (k:=.rng) (src:=.tup (.cons (.var 1) .nil)) (test:=.lit (.bl true)) (elt:=.call "laid_row" (.cons (.var 2) (.cons (.var 1) .nil)))
  (fun d=>match d with | .int y=>.lst (kK c y.toNat)|_=>.non) (s:=.tup [.int r]) (by simp only[zz,yy,aA,aB]) (uT (by omega)) (fun d hd=>by
   obtain⟨y,rfl,h1,h2⟩:=lS hd;obtain⟨k,rfl⟩:∃k:Nat,y=k:=⟨y.toNat,by omega⟩
   refine⟨[.un,.im (.int k),.im (.int c)],rfl,by simp only[zz,yy,aA,aB],?_⟩
   simp only[zz,yy,aA,aB,hrow c k d9 (by omega)]
   rfl)
 have e2:(dA 0 (r:Int)).map (fun d=>match d with | .int y=>D.lst (kK c y.toNat)|_=>.non)=eS c r:=by
  rw[iD];simp[eS]
 rw[e2]at e;have hmul:ah .mul (.int (c:Int)) (.int (r:Int))=some (.int (c*r)):=DB (by omega) (by omega)
 have ht:(eS c r)[0]?=some (.lst (kK c 0)):=by unfold eS;rw[l9,oj hr];rfl
 have e3:=hmo c r (eS c r) (kK c 0) ht
 have l1:(kK c 0).length=c:=by simp[kK]
 have l2:(eS c r).length=r:=by simp[eS]
 rw[l1,l2]at e3;refine aJ (ρ:=[.im (.int c),.im (.int r),.un]) rfl (aH (dI ?_ aY) (aH (aW e) (aS ?_)))
 ·rw[dX,dX,vN,bF,zW hm hmul (by simp only[zz,yy,aA,aB]) (by simp only[zz,yy,aA,aB])]
  have h3:((c:Int)*r)≤64:=by exact_mod_cast bj
  rw[lp (show ¬(c:Int)<1 by omega),lp (show ¬(r:Int)<1 by omega),lp (show ¬64<(c:Int)*r by omega)]
  rfl
 ·show ev G _ [.im (.int c),.im (.int r),.im (.lst (eS c r))]=_
  simp only[zz,yy,aA,aB,e3]
end
noncomputable def b9:List Str:=["columns","rows","wide","high","table","folds","severed"]
section
variable {G:GS}{c r w h:Int}{T F S:List D}{ρ:List Sl}{a:IE}
theorem gT(hf:G.fl "Pile" = b9)(e:ev G a ρ=some (bL c r w h T F S)):ev G (.fld a "columns") ρ=some (.int c):=by rw[gN,e];show (if (G.fl "Pile").contains _ then _ else _)=_;rw[hf];rfl
theorem pN(hf:G.fl "Pile" = b9)(e:ev G a ρ=some (bL c r w h T F S)):ev G (.fld a "rows") ρ=some (.int r):=by rw[gN,e];show (if (G.fl "Pile").contains _ then _ else _)=_;rw[hf];rfl
theorem jQ(hf:G.fl "Pile" = b9)(e:ev G a ρ=some (bL c r w h T F S)):ev G (.fld a "wide") ρ=some (.int w):=by rw[gN,e];show (if (G.fl "Pile").contains _ then _ else _)=_;rw[hf];rfl
theorem jS(hf:G.fl "Pile" = b9)(e:ev G a ρ=some (bL c r w h T F S)):ev G (.fld a "high") ρ=some (.int h):=by rw[gN,e];show (if (G.fl "Pile").contains _ then _ else _)=_;rw[hf];rfl
theorem wC(hf:G.fl "Pile" = b9)(e:ev G a ρ=some (bL c r w h T F S)):ev G (.fld a "table") ρ=some (.lst T):=by rw[gN,e];show (if (G.fl "Pile").contains _ then _ else _)=_;rw[hf];rfl
theorem JH(hf:G.fl "Pile" = b9)(e:ev G a ρ=some (bL c r w h T F S)):ev G (.fld a "folds") ρ=some (.tup F):=by rw[gN,e];show (if (G.fl "Pile").contains _ then _ else _)=_;rw[hf];rfl
theorem jR(hf:G.fl "Pile" = b9)(e:ev G a ρ=some (bL c r w h T F S)):ev G (.fld a "severed") ρ=some (.tup S):=by rw[gN,e];show (if (G.fl "Pile").contains _ then _ else _)=_;rw[hf];rfl
theorem CO{m:Str}{es:IE}{ds:List D}{o:Option Rs}(hm:([("columns",D.int c),("rows",.int r),("wide",.int w),("high",.int h),("table",.lst T),("folds",.tup F),("severed",.tup S)]:List (Str×D)).lookup m=none)(e:ev G a ρ=some (bL c r w h T F S))(ea:ev G es ρ=some (.tup ds))(eo:G.me "Pile" m (bL c r w h T F S::ds)=o):ev G (.meth a m es) ρ=iE o:=by
 rw[xX,e];show (if (List.lookup m _).isNone=true then _ else _)=_
 rw[hm,ea];show iE (G.me "Pile" m (bL c r w h T F S::ds))=_
 rw[eo]
noncomputable def pX:IS:=(.seq (.iff (.or (.bin .lt (.var 1) (.lit (.int 0))) (.or (.bin .ge (.var 1) (.fld (.var 0) "wide")) (.or (.bin .lt (.var 2) (.lit (.int 0))) (.bin .ge (.var 2) (.fld (.var 0) "high"))))) (.rse "NoPlace") .nop) (.ret true (.bcall .list (.cons (.ix (.ix (.fld (.var 0) "table") (.var 2)) (.var 1)) .nil))))
theorem AD(hf:G.fl "Pile" = b9){x y:Int}:ev G (.or (.bin .lt (.var 1) (.lit (.int 0))) (.or (.bin .ge (.var 1) (.fld (.var 0) "wide")) (.or (.bin .lt (.var 2) (.lit (.int 0))) (.bin .ge (.var 2) (.fld (.var 0) "high"))))) [.im (bL c r w h T F S),.im (.int x),.im (.int y)] =
  some (.bl (decide (x<0) || (decide (w≤x) || (decide (y<0) || decide (h≤y))))):=by
 have e0:ev G (.var 0) [.im (bL c r w h T F S),.im (.int x),.im (.int y)]=some (bL c r w h T F S):=by simp only[zz,yy,aA,aB]
 refine bQ (by simp only[zz,yy,aA,aB]) fun _=>bQ ?_ fun _=>bQ (by simp only[zz,yy,aA,aB]) fun _=>?_
 ·rw[dJ,jQ hf e0];simp only[zz,yy,aA,aB]
 ·rw[dJ,jS hf e0];simp only[zz,yy,aA,aB]
theorem KY(hf:G.fl "Pile" = b9){x y:Nat}{row hp:List D}(hw:(x:Int)<w)(hh:(y:Int)<h)(h1:T[y]?=some (.lst row))(h2:row[x]?=some (.lst hp)):aP G 3 pX [bL c r w h T F S,.int x,.int y]=some (.ok (.lst hp)):=by
 have e0:ev G (.var 0) [.im (bL c r w h T F S),.im (.int x),.im (.int y)]=some (bL c r w h T F S):=by simp only[zz,yy,aA,aB]
 refine aJ (ρ:=[.im (bL c r w h T F S),.im (.int x),.im (.int y)]) rfl (aH (dI ?_ aY) (aS ?_))
 ·rw[dX,dX,dX,bF,AD hf];rw[lp (show ¬(x:Int)<0 by omega),lp (show ¬w≤(x:Int) by omega),lp (show ¬(y:Int)<0 by omega),lp (show ¬h≤(y:Int) by omega)]
  rfl
 ·simp only[zz,yy,aA,aB,wC hf e0,dM h1,dM h2]
noncomputable def gY:IS:=(.seq (.iff (.bin .lt (.var 1) (.bcall .len (.cons (.var 0) .nil))) (.ret false (.ix (.var 0) (.var 1))) .nop) (.ret false (.lit (.int 0))))
noncomputable def fi(ns:List Int)(k:Nat):Int:=ns.getD k 0
theorem vH{ns:List Int}{k:Nat}:aP G 2 gY [.frz (ns.map .int),.int k]=some (.ok (.int (fi ns k))):=by
 have e:ev G (.bin .lt (.var 1) (.bcall .len (.cons (.var 0) .nil))) [.im (.frz (ns.map .int)),.im (.int k)]=some (.bl (decide ((k:Int)<ns.length))):=by
  simp only[zz,yy,aA,aB,la]
 by_cases hk:k<ns.length
 ·refine aJ (ρ:=[.im (.frz (ns.map .int)),.im (.int k)]) rfl (hV (kO ?_ (aS (d:=.int (fi ns k)) ?_)) (fun _ z=>by cases z))
  ·rw[dX,dX,bF,e,nq (by omega)]
  ·have:(ns.map D.int)[k]?=some (.int (fi ns k)):=by
    unfold fi;rw[l9,l4,l8 hk];rfl
   simp only[zz,yy,aA,aB,dM this]
 ·refine aJ (ρ:=[.im (.frz (ns.map .int)),.im (.int k)]) rfl (aH (dI ?_ aY) (aS ?_))
  ·rw[dX,dX,bF,e,lp (by omega)]
  ·have:fi ns k=0:=by
    unfold fi;rw[l4,List.getElem?_eq_none (by omega)];rfl
   simp only[zz,yy,aA,aB,this]
noncomputable def kU:IS:=(.ret false (.and (.isi (.var 0) "int") (.not (.tr (.isi (.var 0) "bool")))))
theorem sT{i:Int}:gL G "int" (.int i)=some true:=by simp only[gL];rw[if_pos trivial]
theorem pQ{i:Int}:gL G "bool" (.int i)=some false:=by simp only[gL];rw[if_neg (by decide +kernel),if_pos (.inl trivial)]
theorem gK{b:Bool}:gL G "bool" (.bl b)=some true:=by simp only[gL];rw[if_pos (.inr trivial)]
theorem wM{xs:List D}:gL G "list" (.lst xs)=some true:=by simp only[gL];rw[if_pos trivial]
theorem wL{xs:List D}:gL G "tuple" (.tup xs)=some true:=by simp only[gL];rw[if_pos trivial]
theorem BE{i:Int}:aP G 1 kU [.int i]=some (.ok (.bl true)):=by
 refine aJ (ρ:=[.im (.int i)]) rfl (aS ?_);simp only[zz,yy,aA,aB,sT,pQ,b8];rfl
end
end Pg
theorem tP{α:Type}{f:D→Option (Option D)}{enc:α→D}{g:α→D}:∀{L:List α},(∀a∈L,f (enc a)=some (some (g a)))→bR f (L.map enc)=some (L.map g)
 |[],_=>rfl
 |a::r,e=>by
  rw[nj];unfold bR;rw[e a (oi),tP fun x hx=>e x (lu _ hx)]
  rfl
theorem cG{α:Type}{G:GS}{ρ:List Sl}{n:Nat}{fr:List (Nat×Nat)}{tg:List Nat}{tp:Bool}{k:Src}{src test elt:IE}{s:D}{L:List α}(enc g:α→D)(h1:ev G src ρ=some s)(h2:items k s=some (L.map enc))
  (h3:∀a∈L,∃ρ1,bB tg tp (enc a) (frame n fr ρ)=some ρ1∧ev G test ρ1=some (.bl true)∧ev G elt ρ1=some (g a)):ev G (.comp n fr tg tp k src test elt) ρ=some (.lst (L.map g)):=by
 rw[yA,h1,og,h2,og,tP (g:=g)]
 ·rfl
 ·intro a ha;obtain⟨ρ1,e1,e2,e3⟩:=h3 a ha;rw[e1,og,e2,og];show Option.map some (ev G elt ρ1)=_
  rw[e3];rfl
theorem dZ{n:Nat}(h:n≤1000000):items .rng (.tup [.int (n:Int)])=some ((List.range n).map fun (k:Nat)=>D.int k):=by rw[uT h,iD]
theorem fV{xs:List D}:items .seq (.lst xs)=some xs:=id rfl
theorem uU{xs:List D}:items .rev (.lst xs)=some xs.reverse:=id rfl
namespace Pg
abbrev Cell:=Int×Bool×Bool
abbrev dQ:=List Cell
abbrev aR:=List dQ
abbrev Table:=List aR
noncomputable def cj(c:Cell):D:=.tup [.int c.1,.bl c.2.1,.bl c.2.2]
noncomputable def hE(h:dQ):D:=.lst (h.map cj)
noncomputable def sE(s:aR):D:=.lst (s.map hE)
noncomputable def tE(T:Table):D:=.lst (T.map sE)
inductive Side|west|east|north|south deriving DecidableEq
noncomputable def Side.str:Side→Str
 |.west=>"west" | .east=>"east" | .north=>"north" | .south=>"south"
noncomputable def Side.up:Side→Bool
 |.west=>true | .east=>true | .north=>false | .south=>false
noncomputable def Side.near:Side→Bool
 |.west=>true | .east=>false | .north=>true | .south=>false
noncomputable def eY(up:Bool)(c:Cell):Cell:=if up then(c.1,!c.2.1,c.2.2) else(c.1,c.2.1,!c.2.2)
noncomputable def dP(up:Bool)(h:dQ):dQ:=h.reverse.map (eY up)
noncomputable def cX(up:Bool)(p:aR):aR:=p.map (dP up)
noncomputable def tog(u l:aR):aR:=(List.range (max u.length l.length)).map fun k=>u.getD k []++l.getD k []
noncomputable def bH(mv st:aR)(over:Bool):aR:=tog (if over then mv else st) (if over then st else mv)
noncomputable def bW(sd:Side)(over:Bool)(c:Nat)(s:aR):aR:=
 if sd.near then bH (cX sd.up (s.take c).reverse) (s.drop c) over else(bH (cX sd.up (s.drop c)) (s.take c).reverse over).reverse
noncomputable def width(T:Table):Nat:=(T.getD 0 []).length
noncomputable def transp(T:Table):Table:=(List.range (width T)).map fun x=>T.map fun s=>s.getD x []
noncomputable def foldT(sd:Side)(over:Bool)(c:Nat)(T:Table):Table:=if sd.up then T.map (bW sd over c) else transp ((transp T).map (bW sd over c))
section
variable {G:GS}
noncomputable def cUP:D:=.tup [.str "west",.str "east"]
noncomputable def cLV:D:=.tup [.str "north",.str "south"]
noncomputable def cNR:D:=.tup [.str "west",.str "north"]
theorem uK{a:D}{ys:List D}{b:Bool}(hp:(plain a&&ys.all plain)=true)(hb:(ys.any fun y=>cx y a)=b):ah .isin a (.tup ys)=some (.bl b):=by
 simp only[ah,oIn];rw[if_pos hp,hb]
theorem ED{sd:Side}:ah .isin (.str sd.str) cUP=some (.bl sd.up):=by cases sd<;>exact uK (by decide +kernel) (by decide +kernel)
theorem aAY{sd:Side}:ah .isin (.str sd.str) cLV=some (.bl (!sd.up)):=by cases sd<;>exact uK (by decide +kernel) (by decide +kernel)
theorem aAX{sd:Side}:ah .isin (.str sd.str) cNR=some (.bl sd.near):=by cases sd<;>exact uK (by decide +kernel) (by decide +kernel)
noncomputable def gX:IS:=(.ret false (.ite (.bin .lt (.var 1) (.bcall .len (.cons (.var 0) .nil))) (.ix (.var 0) (.var 1)) (.lst .nil)))
theorem uX{p:aR}{k:Nat}:aP G 2 gX [sE p,.int k]=some (.ok (hE (p.getD k []))):=by
 refine aJ (ρ:=[.im (sE p),.im (.int k)]) rfl (aS ?_);have e:ev G (.bin .lt (.var 1) (.bcall .len (.cons (.var 0) .nil))) [.im (sE p),.im (.int k)]=some (.bl (decide ((k:Int)<p.length))):=by
  unfold sE;simp only[zz,yy,aA,aB,la]
 by_cases hk:k<p.length
 ·have h1:(p.map hE)[k]?=some (hE (p.getD k [])):=by rw[l9,l4,l8 hk];rfl
  rw[vF,e,nq (by omega)]
  unfold sE;simp only[zz,yy,aA,aB,dM h1]
 ·have h1:p.getD k []=[]:=by rw[l4,List.getElem?_eq_none (by omega)];rfl
  rw[vF,e,lp (by omega),h1]
  simp only[zz,yy,aA,aB];rfl
noncomputable def eB:IS:=(.seq (.iff (.bin .isin (.var 1) (.glo "UPRIGHT_SIDES")) (.ret true (.comp 4 [] [1,2,3] true .rev (.var 0) (.lit (.bl true)) (.tup (.cons (.var 1) (.cons (.not (.tr (.var 2))) (.cons (.var 3) .nil)))))) .nop) (.ret true (.comp 4 [] [1,2,3] true .rev (.var 0) (.lit (.bl true)) (.tup (.cons (.var 1) (.cons (.var 2) (.cons (.not (.tr (.var 3))) .nil)))))))
theorem lD(hc:G.cst "UPRIGHT_SIDES" = some cUP){h:dQ}{sd:Side}:aP G 2 eB [hE h,.str sd.str]=some (.ok (hE (dP sd.up h))):=by
 have et:ev G (.bin .isin (.var 1) (.glo "UPRIGHT_SIDES")) (view [.im (hE h),.im (.str sd.str)])=some (.bl sd.up):=by simp only[zz,yy,aA,aB,hc,ED]
 have er:items .rev (hE h)=some (h.reverse.map cj):=by unfold hE;rw[uU,List.map_reverse]
 cases hs:sd.up with
 |true =>
  refine aJ (ρ:=[.im (hE h),.im (.str sd.str)]) rfl (hV (kO (et.trans (by rw[hs])) (aS (d:=hE (dP true h)) ?_)) (fun _ z=>by cases z))
  have e:=cG (G:=G) (ρ:=[.im (hE h),.im (.str sd.str)]) (n:=4) (fr:=[]) (tg:=[1,2,3]) (tp:=true) (k:=.rev) (src:=.var 0) (test:=.lit (.bl true)) (elt:=.tup (.cons (.var 1) (.cons (.not (.tr (.var 2))) (.cons (.var 3) .nil)))) (L:=h.reverse) cj (fun c=>cj (eY true c)) (by simp only[zz,yy,aA,aB]) er (fun c _=>⟨[.un,.im (.int c.1),.im (.bl c.2.1),.im (.bl c.2.2)],rfl,by simp only[zz,yy,aA,aB],by simp only[zz,yy,aA,aB,b8];rfl⟩)
  rw[e];unfold hE dP;rw[ot];rfl
 |false =>
  refine aJ (ρ:=[.im (hE h),.im (.str sd.str)]) rfl (aH (dI (et.trans (by rw[hs])) aY) (aS ?_))
  have e:=cG (G:=G) (ρ:=[.im (hE h),.im (.str sd.str)]) (n:=4) (fr:=[]) (tg:=[1,2,3]) (tp:=true) (k:=.rev) (src:=.var 0) (test:=.lit (.bl true)) (elt:=.tup (.cons (.var 1) (.cons (.var 2) (.cons (.not (.tr (.var 3))) .nil)))) (L:=h.reverse) cj (fun c=>cj (eY false c)) (by simp only[zz,yy,aA,aB]) er (fun c _=>⟨[.un,.im (.int c.1),.im (.bl c.2.1),.im (.bl c.2.2)],rfl,by simp only[zz,yy,aA,aB],by simp only[zz,yy,aA,aB,b8];rfl⟩)
  rw[e];unfold hE dP;rw[ot];rfl
noncomputable def eA:IS:=(.ret true (.comp 3 [(2,1)] [1] false .seq (.var 0) (.lit (.bl true)) (.call "turned_heap" (.cons (.var 1) (.cons (.var 2) .nil)))))
theorem lC(ht:∀(h:dQ) (sd:Side),G.fn "turned_heap" [hE h,.str sd.str]=some (.ok (hE (dP sd.up h)))){p:aR}{sd:Side}:aP G 2 eA [sE p,.str sd.str]=some (.ok (sE (cX sd.up p))):=by
 refine aJ (ρ:=[.im (sE p),.im (.str sd.str)]) rfl (aS ?_);refine(cG (L:=p) hE (fun h=>hE (dP sd.up h)) (s:=sE p) (by simp only[zz,yy,aA,aB]) (by unfold sE;exact fV) (fun h _=>⟨[.un,.im (hE h),.im (.str sd.str)],rfl,by simp only[zz,yy,aA,aB],by simp only[zz,yy,aA,aB,ht]⟩)).trans ?_
 unfold sE cX;rw[ot];rfl
theorem aDS{a b:Nat}:bf .max [.int (a:Int),.int (b:Int)]=some (.int ((max a b:Nat):Int)):=by
 simp only[bf,EO]
 by_cases h:(b:Int) > a
 ·rw[if_pos h];rw[Nat.max_eq_right (by omega)]
 ·rw[if_neg h];rw[Nat.max_eq_left (by omega)]
theorem aEn{a b:dQ}(h:a.length+b.length≤1000000):ah .add (hE a) (hE b)=some (hE (a++b)):=by
 unfold hE;simp only[ah,JZ];rw[if_pos (by simp only[la];exact h),oo]
noncomputable def cJ:IS:=(.seq (.set 3 (.ite (.tr (.var 2)) (.var 0) (.var 1))) (.seq (.set 4 (.ite (.tr (.var 2)) (.var 1) (.var 0))) (.seq (.set 5 (.bcall .max (.cons (.bcall .len (.cons (.var 3) .nil)) (.cons (.bcall .len (.cons (.var 4) .nil)) .nil)))) (.ret true (.comp 4 [(2,4),(3,3)] [1] false .rng (.tup (.cons (.var 5) .nil)) (.lit (.bl true)) (.bin .add (.call "heap_at" (.cons (.var 3) (.cons (.var 1) .nil))) (.call "heap_at" (.cons (.var 2) (.cons (.var 1) .nil)))))))))
def Few(b:Nat)(p:aR):Prop:=∀h∈p,h.length≤b
theorem Few.at_{b:Nat}{p:aR}(h:Few b p)(k:Nat):(p.getD k []).length≤b:=by
 rw[l4];cases e:p[k]? with
 |none=>exact oz _
 |some x=>exact h x (l6 e)
theorem jW(hh:∀(p:aR) (k:Nat),G.fn "heap_at" [sE p,.int k]=some (.ok (hE (p.getD k [])))){mv st:aR}{over:Bool}(l1:mv.length≤1000)(l2:st.length≤1000)(f1:Few 400000 mv)(f2:Few 400000 st):aP G 6 cJ [sE mv,sE st,.bl over]=some (.ok (sE (bH mv st over))):=by
 have key:∀u l:aR,u.length≤1000→l.length≤1000→Few 400000 u→Few 400000 l→∀s0 s1 s2,ex G (.seq (.set 5 (.bcall .max (.cons (.bcall .len (.cons (.var 3) .nil)) (.cons (.bcall .len (.cons (.var 4) .nil)) .nil)))) (.ret true (.comp 4 [(2,4),(3,3)] [1] false .rng (.tup (.cons (.var 5) .nil)) (.lit (.bl true)) (.bin .add (.call "heap_at" (.cons (.var 3) (.cons (.var 1) .nil))) (.call "heap_at" (.cons (.var 2) (.cons (.var 1) .nil)))))))
   [s0,s1,s2,.im (sE u),.im (sE l),.un]=some (.rt (sE (tog u l))):=fun u l a1 a2 b1 b2 s0 s1 s2=>by
  refine aH (aW (d:=.int ((max u.length l.length:Nat):Int)) (by unfold sE;simp only[zz,yy,aA,aB,la,aDS])) (aS ?_)
  show ev G _ [s0,s1,s2,.im (sE u),.im (sE l),.im (.int ((max u.length l.length:Nat):Int))]=_
  refine(cG (L:=List.range (max u.length l.length)) (fun k=>.int (k:Nat)) (fun k=>hE (u.getD k []++l.getD k [])) (s:=.tup [.int ((max u.length l.length:Nat):Int)]) (by simp only[zz,yy,aA,aB]) (dZ (by omega)) (fun k _=>⟨[.un,.im (.int k),.im (sE l),.im (sE u)],rfl,by simp only[zz,yy,aA,aB],?_⟩)).trans ?_
  ·have:=b1.at_ k
   have:=b2.at_ k
   simp only[zz,yy,aA,aB,hh,aEn (show (u.getD k []).length+(l.getD k []).length≤1000000 by omega)]
  ·unfold tog sE;rw[ot];rfl
 cases over with
 |true=>exact aJ (ρ:=[.im (sE mv),.im (sE st),.im (.bl true),.un,.un,.un]) rfl (aH (aW (d:=sE mv) (by simp only[zz,yy,aA,aB,b8])) (aH (aW (d:=sE st) (by simp only[List.set];simp only[zz,yy,aA,aB,b8])) (key mv st l1 l2 f1 f2 _ _ _)))
 |false=>exact aJ (ρ:=[.im (sE mv),.im (sE st),.im (.bl false),.un,.un,.un]) rfl (aH (aW (d:=sE st) (by simp only[zz,yy,aA,aB,b8])) (aH (aW (d:=sE mv) (by simp only[List.set];simp only[zz,yy,aA,aB,b8])) (key st mv l2 l1 f2 f1 _ _ _)))
end
theorem FD{α:Type}{xs:List α}{c:Nat}:cut xs none (some (c:Int))=xs.take c:=by
 simp only[cut,sIx];rw[if_neg (by omega)]
 simp only[List.drop_zero,Nat.sub_zero,Int.toNat_natCast]
 by_cases h:c≤xs.length
 ·rw[min_eq_left h]
 ·rw[Nat.min_eq_right (by omega),List.take_of_length_le (by omega),List.take_of_length_le (by omega)]
theorem tL{α:Type}{xs:List α}{c:Nat}:cut xs (some (c:Int)) none=xs.drop c:=by
 simp only[cut,sIx];rw[if_neg (by omega)]
 simp only[Int.toNat_natCast]
 by_cases h:c≤xs.length
 ·rw[min_eq_left h,List.take_of_length_le (by rw[p4];exact lj _)]
 ·rw[Nat.min_eq_right (by omega),List.drop_of_length_le (by omega),List.drop_of_length_le (by omega),List.take_nil]
theorem Few.sub{b:Nat}{p q:aR}(h:Few b p)(s:∀x∈q,x∈p):Few b q:=fun x hx=>h x (s x hx)
theorem Few.turn{b:Nat}{p:aR}{u:Bool}(h:Few b p):Few b (cX u p):=by
 intro x hx;unfold cX at hx;obtain⟨y,hy,rfl⟩:=nv.mp hx;unfold dP;rw[la,oN];exact h y hy
theorem pA{u l:aR}:(tog u l).length=max u.length l.length:=by unfold tog;simp
theorem fR{u l:aR}{over:Bool}:(bH u l over).length=max u.length l.length:=by
 unfold bH;cases over with
 |true=>exact pA
 |false=>rw[Nat.max_comm];exact pA
theorem fL{u:Bool}{p:aR}:(cX u p).length=p.length:=by unfold cX;simp
theorem AI{sd:Side}{over:Bool}{c:Nat}{s:aR}(h:c≤s.length):(bW sd over c s).length=max c (s.length-c):=by
 unfold bW;split
 ·rw[fR,fL,oN,o4,p4,min_eq_left h]
 ·rw[oN,fR,fL,oN,o4,p4,min_eq_left h,Nat.max_comm]
section
variable {G:GS}
noncomputable def dE:IS:=(.seq (.set 4 (.walk .rev (.sl (.var 0) false (.lit .non) true (.var 3)))) (.seq (.set 5 (.sl (.var 0) true (.var 3) false (.lit .non))) (.seq (.iff (.bin .isin (.var 1) (.glo "NEAR_SIDES")) (.ret false (.call "laid_together" (.cons (.call "turned_part" (.cons (.var 4) (.cons (.var 1) .nil))) (.cons (.var 5) (.cons (.var 2) .nil))))) .nop) (.seq (.set 6 (.call "laid_together" (.cons (.call "turned_part" (.cons (.var 5) (.cons (.var 1) .nil))) (.cons (.var 4) (.cons (.var 2) .nil))))) (.ret true (.walk .rev (.var 6)))))))
theorem kN(hc:G.cst "NEAR_SIDES" = some cNR)(ht:∀(p:aR) (sd:Side),G.fn "turned_part" [sE p,.str sd.str]=some (.ok (sE (cX sd.up p))))
  (hl:∀(mv st:aR) (over:Bool),mv.length≤1000→st.length≤1000→Few 400000 mv→Few 400000 st→G.fn "laid_together" [sE mv,sE st,.bl over]=some (.ok (sE (bH mv st over)))) {s:aR} {sd:Side} {over:Bool} {c:Nat} (ls:s.length≤1000) (hf:Few 400000 s) :
  aP G 7 dE [sE s,.str sd.str,.bl over,.int c]=some (.ok (sE (bW sd over c s))):=by
 have a1:Few 400000 (s.take c).reverse:=hf.sub fun x hx=>List.mem_of_mem_take (mem_reverse.mp hx)
 have a2:Few 400000 (s.drop c):=hf.sub fun x hx=>List.mem_of_mem_drop hx
 have l1:(s.take c).reverse.length≤1000:=by rw[oN,o4];omega
 have l2:(s.drop c).length≤1000:=by rw[p4];omega
 have e1:ev G (.walk .rev (.sl (.var 0) false (.lit .non) true (.var 3))) [.im (sE s),.im (.str sd.str),.im (.bl over),.im (.int c),.un,.un,.un]=some (sE (s.take c).reverse):=by
  unfold sE;simp only[zz,yy,aA,aB,part,intOf];simp only[lr,if_false,if_true];simp only[zz,yy,aA,aB,FD,uU];rw[←List.map_take,←List.map_reverse]
 have e2:ev G (.sl (.var 0) true (.var 3) false (.lit .non)) [.im (sE s),.im (.str sd.str),.im (.bl over),.im (.int c),.im (sE (s.take c).reverse),.un,.un]=some (sE (s.drop c)):=by
  unfold sE;simp only[zz,yy,aA,aB,part,intOf];simp only[lr,if_false,if_true];simp only[zz,yy,aA,aB,tL];rw[←List.map_drop]
 have et:ev G (.bin .isin (.var 1) (.glo "NEAR_SIDES")) (view [.im (sE s),.im (.str sd.str),.im (.bl over),.im (.int c),.im (sE (s.take c).reverse),.im (sE (s.drop c)),.un])=some (.bl sd.near):=by simp only[zz,yy,aA,aB,hc,aAX]
 refine aJ (ρ:=[.im (sE s),.im (.str sd.str),.im (.bl over),.im (.int c),.un,.un,.un]) rfl (aH (aW e1) (aH (aW e2) ?_));show ex G _ [.im (sE s),.im (.str sd.str),.im (.bl over),.im (.int c),.im (sE (s.take c).reverse),.im (sE (s.drop c)),.un]=_
 cases hn:sd.near with
 |true =>
  refine hV (kO (et.trans (by rw[hn])) (aS ?_)) (fun _ z=>by cases z)
  unfold bW;rw[if_pos hn];simp only[zz,yy,aA,aB,ht,hl (cX sd.up (s.take c).reverse) (s.drop c) over (by rw[fL];exact l1) l2 a1.turn a2]
 |false =>
  refine aH (dI (et.trans (by rw[hn])) aY) (aH (aW (d:=sE (bH (cX sd.up (s.drop c)) (s.take c).reverse over)) ?_) (aS ?_))
  ·simp only[zz,yy,aA,aB,ht,hl (cX sd.up (s.drop c)) (s.take c).reverse over (by rw[fL];exact l2) l1 a2.turn a1]
  ·show ev G _ [.im (sE s),.im (.str sd.str),.im (.bl over),.im (.int c),.im (sE (s.take c).reverse),.im (sE (s.drop c)),.im (sE (bH (cX sd.up (s.drop c)) (s.take c).reverse over))]=_
   unfold bW;rw[if_neg (by rw[hn];decide)]
   unfold sE;simp only[zz,yy,aA,aB,uU];rw[←List.map_reverse]
noncomputable def fF:IS:=(.ret true (.comp 3 [(2,1)] [1] false .seq (.var 0) (.lit (.bl true)) (.ix (.var 1) (.var 2))))
theorem rC{T:Table}{x:Nat}(h:∀s∈T,x<s.length):aP G 2 fF [tE T,.int x]=some (.ok (sE (T.map fun s=>s.getD x []))):=by
 refine aJ (ρ:=[.im (tE T),.im (.int x)]) rfl (aS ?_);refine(cG (L:=T) sE (fun s=>hE (s.getD x [])) (s:=tE T) (by simp only[zz,yy,aA,aB]) (by unfold tE;exact fV) (fun s hs=>⟨[.un,.im (sE s),.im (.int x)],rfl,by simp only[zz,yy,aA,aB],?_⟩)).trans ?_
 ·have h1:(s.map hE)[x]?=some (hE (s.getD x [])):=by rw[l9,l4,l8 (h s hs)];rfl
  unfold sE;simp only[zz,yy,aA,aB,dM h1]
 ·unfold sE;rw[ot];rfl
structure Rect (T:Table) (w h:Nat):Prop where
 len:T.length=h
 row:∀s∈T,s.length=w
 h1:1≤h
 w1:1≤w
theorem Rect.width{T:Table}{w h:Nat}(r:Rect T w h):Pg.width T=w:=by
 obtain⟨len,row,h1,w1⟩:=r;unfold Pg.width;rw[l4,l8 (by omega)]
 exact row _ (p5 _)
theorem Rect.transp{T:Table}{w h:Nat}(r:Rect T w h):Rect (transp T) h w:=by
 refine⟨?_,fun s hs=>?_,r.w1,r.h1⟩
 ·unfold Pg.transp;rw[la,ml,r.width]
 ·unfold Pg.transp at hs;obtain⟨x,_,rfl⟩:=nv.mp hs;rw[la,r.len]
noncomputable def eJ:IS:=(.ret true (.comp 3 [(2,0)] [1] false .rng (.tup (.cons (.bcall .len (.cons (.ix (.var 0) (.lit (.int 0))) .nil)) .nil)) (.lit (.bl true)) (.call "column_of" (.cons (.var 2) (.cons (.var 1) .nil)))))
theorem mY(hc:∀(T:Table) (x:Nat),(∀s∈T,x<s.length)→G.fn "column_of" [tE T,.int x]=some (.ok (sE (T.map fun s=>s.getD x [])))){T:Table}{w h:Nat}(r:Rect T w h)(hw:w≤1000):aP G 1 eJ [tE T]=some (.ok (tE (transp T))):=by
 refine aJ (ρ:=[.im (tE T)]) rfl (aS ?_);have h0:(T.map sE)[0]?=some (sE (T.getD 0 [])):=by
  have:=r.len;have:=r.h1
  rw[l9,l4,l8 (by omega)];rfl
 have e0:atI (T.map sE) 0=some (sE (T.getD 0 [])):=dM (k:=0) h0
 refine(cG (L:=List.range (width T)) (fun k=>.int (k:Nat)) (fun x=>sE (T.map fun s=>s.getD x [])) (s:=.tup [.int (width T:Nat)]) ?_ (dZ (by rw[r.width];omega)) (fun x hx=>⟨[.un,.im (.int x),.im (tE T)],rfl,by simp only[zz,yy,aA,aB],?_⟩)).trans ?_
 ·unfold tE;simp only[zz,yy,aA,aB,e0];unfold sE;simp only[zz,yy,aA,aB,la];rfl
 ·have d0:x<w:=by rw[←r.width];exact oy.mp hx
  simp only[zz,yy,aA,aB,hc T x (fun s hs=>by rw[r.row s hs];exact d0)]
 ·unfold tE transp;rw[ot];rfl
def nI(b:Nat)(T:Table):Prop:=∀s∈T,Few b s
theorem nI.transp{b:Nat}{T:Table}(h:nI b T):nI b (transp T):=by
 intro s hs;unfold Pg.transp at hs;obtain⟨x,_,rfl⟩:=nv.mp hs;intro y hy;obtain⟨s,hs,rfl⟩:=nv.mp hy;exact(h s hs).at_ x
theorem Rect.fold{T:Table}{w h:Nat}{sd:Side}{over:Bool}{c:Nat}(r:Rect T w h)(h1:1≤c)(h2:c<w):Rect (T.map (bW sd over c)) (max c (w-c)) h:=by
 refine⟨by rw[la,r.len],fun s hs=>?_,r.h1,by omega⟩
 obtain⟨s',bz,rfl⟩:=nv.mp hs;rw[AI (by rw[r.row s' bz];omega),r.row s' bz]
theorem Rect.foldT{T:Table}{w h:Nat}{sd:Side}{over:Bool}{c:Nat}(r:Rect T w h)(h1:1≤c)(h2:c<if sd.up then w else h):Rect (foldT sd over c T) (if sd.up then max c (w-c) else w) (if sd.up then h else max c (h-c)):=by
 unfold Pg.foldT;cases hs:sd.up with
 |true=>rw[hs]at h2;exact r.fold h1 h2
 |false=>rw[hs]at h2;exact(r.transp.fold h1 h2).transp
noncomputable def dD:IS:=(.seq (.iff (.bin .isin (.var 1) (.glo "UPRIGHT_SIDES")) (.ret true (.comp 5 [(2,3),(3,2),(4,1)] [1] false .seq (.var 0) (.lit (.bl true)) (.call "folded_strip" (.cons (.var 1) (.cons (.var 4) (.cons (.var 3) (.cons (.var 2) .nil))))))) .nop) (.seq (.set 4 (.comp 5 [(2,3),(3,2),(4,1)] [1] false .seq (.call "transposed" (.cons (.var 0) .nil)) (.lit (.bl true)) (.call "folded_strip" (.cons (.var 1) (.cons (.var 4) (.cons (.var 3) (.cons (.var 2) .nil))))))) (.ret false (.call "transposed" (.cons (.var 4) .nil)))))
theorem kM(hc:G.cst "UPRIGHT_SIDES" = some cUP)(ht:∀(T:Table) (w h:Nat),Rect T w h→w≤1000→G.fn "transposed" [tE T]=some (.ok (tE (transp T))))
  (hs:∀(s:aR) (sd:Side) (over:Bool) (c:Nat),s.length≤1000→Few 400000 s→G.fn "folded_strip" [sE s,.str sd.str,.bl over,.int c]=some (.ok (sE (bW sd over c s)))) {T:Table} {w h:Nat} {sd:Side} {over:Bool} {c:Nat} (r:Rect T w h) (hw:w≤1000) (hh:h≤1000) (hf:nI 400000 T) (h1:1≤c) (h2:c<if sd.up then w else h) :
  aP G 5 dD [tE T,.str sd.str,.bl over,.int c]=some (.ok (tE (foldT sd over c T))):=by
 have et:ev G (.bin .isin (.var 1) (.glo "UPRIGHT_SIDES")) (view [.im (tE T),.im (.str sd.str),.im (.bl over),.im (.int c),.un])=some (.bl sd.up):=by simp only[zz,yy,aA,aB,hc,ED]
 cases hu:sd.up with
 |true =>
  refine aJ (ρ:=[.im (tE T),.im (.str sd.str),.im (.bl over),.im (.int c),.un]) rfl (hV (kO (et.trans (by rw[hu])) (aS ?_)) (fun _ z=>by cases z))
  refine(cG (L:=T) sE (fun s=>sE (bW sd over c s)) (s:=tE T) (by simp only[zz,yy,aA,aB]) (by unfold tE;exact fV) (fun s bz=>⟨[.un,.im (sE s),.im (.int c),.im (.bl over),.im (.str sd.str)],rfl,by simp only[zz,yy,aA,aB],?_⟩)).trans ?_
  ·simp only[zz,yy,aA,aB,hs s sd over c (by rw[r.row s bz];exact hw) (hf s bz)]
  ·unfold tE foldT;rw[if_pos hu,ot];rfl
 |false =>
  rw[hu]at h2;have h2:c<h:=h2
  refine aJ (ρ:=[.im (tE T),.im (.str sd.str),.im (.bl over),.im (.int c),.un]) rfl (aH (dI (et.trans (by rw[hu])) aY) (aH (aW (d:=tE ((transp T).map (bW sd over c))) ?_) (aS ?_)))
  ·refine(cG (L:=transp T) sE (fun s=>sE (bW sd over c s)) (s:=tE (transp T)) (by simp only[zz,yy,aA,aB,ht T w h r hw]) (by unfold tE;exact fV) (fun s bz=>⟨[.un,.im (sE s),.im (.int c),.im (.bl over),.im (.str sd.str)],rfl,by simp only[zz,yy,aA,aB],?_⟩)).trans ?_
   ·simp only[zz,yy,aA,aB,hs s sd over c (by rw[r.transp.row s bz];exact hh) (hf.transp s bz)]
   ·unfold tE;rw[ot];rfl
  ·show ev G _ [.im (tE T),.im (.str sd.str),.im (.bl over),.im (.int c),.im (tE ((transp T).map (bW sd over c)))]=_
   unfold foldT;rw[if_neg (by rw[hu];decide)]
   simp only[zz,yy,aA,aB,ht ((transp T).map (bW sd over c)) (max c (h-c)) w (r.transp.fold h1 h2) (by omega)]
end
noncomputable def aL(c r w h:Nat)(T:Table)(F S:List D):D:=bL c r w h (T.map sE) F S
noncomputable def fG(c r:Nat):Table:=(List.range r).map fun y=>(List.range c).map fun x=>[(((y*c+x:Nat):Int),false,false)]
theorem rO{c r:Nat}:eS c r=(fG c r).map sE:=by
 unfold eS fG kK;rw[ot]
 congr 1
 funext y
 show _=D.lst (((List.range c).map _).map hE)
 rw[ot];rfl
theorem AK{c r:Nat}(hc:1≤c)(hr:1≤r):Rect (fG c r) c r:=by
 refine⟨by unfold fG;simp,fun s hs=>?_,hr,hc⟩
 unfold fG at hs;obtain⟨y,_,rfl⟩:=nv.mp hs;simp
section
variable {G:GS}{c r w h:Nat}{T:Table}{F S:List D}
noncomputable def cD:IS:=(.iff (.tr (.fld (.var 0) "severed")) (.rse "Severed") .nop)
theorem iR(hf:G.fl "Pile" = b9):aP G 1 cD [aL c r w h T F []]=some (.ok .non):=by
 have e0:ev G (.var 0) (view [.im (aL c r w h T F [])])=some (bL c r w h (T.map sE) F []):=by simp only[zz,yy,aA,aB];rfl
 refine HP (ρ:=[.im (aL c r w h T F [])]) (ρ':=[.im (aL c r w h T F [])]) rfl (dI ?_ aY);rw[xW,jR hf e0];rfl
noncomputable def eL:IS:=(.seq (.iff (.bin .isin (.var 1) (.glo "UPRIGHT_SIDES")) (.ret false (.chain .le .lt (.lit (.int 1)) (.var 2) (.fld (.var 0) "wide"))) .nop) (.seq (.iff (.bin .isin (.var 1) (.glo "LEVEL_SIDES")) (.ret false (.chain .le .lt (.lit (.int 1)) (.var 2) (.fld (.var 0) "high"))) .nop) (.ret false (.lit (.bl false)))))
theorem tQ{ρ:List Sl}{a:IE}{i j:Int}(h1:slot ρ 2=some (.int i))(h2:ev G a ρ=some (.int j)):ev G (.chain .le .lt (.lit (.int 1)) (.var 2) a) ρ=some (.bl (decide (1≤i)&&decide (i<j))):=by
 rw[tH,EU,h1];simp only[zz,yy,aA,aB];cases hb:decide (1≤i) with
 |true=>rw[h2];simp only[zz,yy,aA,aB];rfl
 |false=>rfl
theorem nC(hf:G.fl "Pile" = b9)(h1:G.cst "UPRIGHT_SIDES" = some cUP)(h2:G.cst "LEVEL_SIDES" = some cLV){sd:Side}{i:Int}:aP G 3 eL [aL c r w h T F S,.str sd.str,.int i]=some (.ok (.bl (decide (1≤i)&&decide (i<((if sd.up then w else h:Nat):Int))))):=by
 have e0:ev G (.var 0) [.im (aL c r w h T F S),.im (.str sd.str),.im (.int i)]=some (bL c r w h (T.map sE) F S):=by simp only[zz,yy,aA,aB];rfl
 have et:ev G (.bin .isin (.var 1) (.glo "UPRIGHT_SIDES")) (view [.im (aL c r w h T F S),.im (.str sd.str),.im (.int i)])=some (.bl sd.up):=by simp only[zz,yy,aA,aB,h1,ED]
 have el:ev G (.bin .isin (.var 1) (.glo "LEVEL_SIDES")) (view [.im (aL c r w h T F S),.im (.str sd.str),.im (.int i)])=some (.bl (!sd.up)):=by simp only[zz,yy,aA,aB,h2,aAY]
 cases hu:sd.up with
 |true=>exact aJ (ρ:=[.im (aL c r w h T F S),.im (.str sd.str),.im (.int i)]) rfl (hV (kO (et.trans (by rw[hu])) (aS (tQ (by simp only[zz,yy,aA,aB]) (jQ hf e0)))) (fun _ z=>by cases z))
 |false=>exact aJ (ρ:=[.im (aL c r w h T F S),.im (.str sd.str),.im (.int i)]) rfl (aH (dI (et.trans (by rw[hu])) aY) (hV (kO (el.trans (by rw[hu];rfl)) (aS (tQ (by simp only[zz,yy,aA,aB]) (jS hf e0)))) (fun _ z=>by cases z)))
noncomputable def eI(sd:Side)(over:Bool)(k:Nat):D:=.tup [.str sd.str,.bl over,.int k]
noncomputable def iW:IS:=(.seq (.drop (.call "refuse_severed" (.cons (.var 0) .nil))) (.seq (.iff (.not (.tr (.call "has_crease" (.cons (.var 0) (.cons (.var 1) (.cons (.var 3) .nil)))))) (.rse "NoFold") .nop) (.seq (.set 4 (.call "folded_table" (.cons (.fld (.var 0) "table") (.cons (.var 1) (.cons (.var 2) (.cons (.var 3) .nil)))))) (.seq (.set 5 (.bin .add (.fld (.var 0) "folds") (.tup (.cons (.tup (.cons (.var 1) (.cons (.var 2) (.cons (.var 3) .nil)))) .nil)))) (.ret false (.mk "Pile" (.cons (.fld (.var 0) "columns") (.cons (.fld (.var 0) "rows") (.cons (.var 4) (.cons (.var 5) (.cons (.fld (.var 0) "severed") .nil)))))))))))
theorem aEm{a b:List D}(h:a.length+b.length≤1000000):ah .add (.tup a) (.tup b)=some (.tup (a++b)):=by
 simp only[ah,JZ];rw[if_pos (by unfold big;exact h)]
theorem LY{ρ:List Sl}{e:IE}{d:D}(h:ev G e (view ρ)=some d):ex G (.drop e) ρ=some (.nx ρ):=by
 show (match ev G e (view ρ) with|some _=>some (Out.nx ρ)|none=>_)=_
 rw[h]
theorem AG(hf:G.fl "Pile" = b9)(hsv:∀(c r w h:Nat) (T:Table) (F:List D),G.fn "refuse_severed" [aL c r w h T F []]=some (.ok .non))
  (bj:∀(c r w h:Nat) (T:Table) (F S:List D) (sd:Side) (i:Int),G.fn "has_crease" [aL c r w h T F S,.str sd.str,.int i]=some (.ok (.bl (decide (1≤i)&&decide (i<((if sd.up then w else h:Nat):Int))))))
  (hft:∀(T:Table) (w h:Nat) (sd:Side) (over:Bool) (k:Nat),Rect T w h→w≤1000→h≤1000→nI 400000 T→1≤k→(k<if sd.up then w else h)→G.fn "folded_table" [tE T,.str sd.str,.bl over,.int k]=some (.ok (tE (foldT sd over k T))))
  (hmo:∀(c r:Int) (T row:List D) (F S:List D),T[0]?=some (.lst row)→G.mo "Pile" [.int c,.int r,.lst T,.tup F,.tup S]=some (.ok (bL c r row.length T.length T F S)))
  {sd:Side} {over:Bool} {k:Nat} (R:Rect T w h) (hw:w≤1000) (hh:h≤1000) (hfew:nI 400000 T) (h1:1≤k) (h2:k<if sd.up then w else h) (hF:F.length≤1000) :
  aP G 6 iW [aL c r w h T F [],.str sd.str,.bl over,.int k]=some (.ok (aL c r (if sd.up then max k (w-k) else w) (if sd.up then h else max k (h-k)) (foldT sd over k T) (F++[eI sd over k]) [])):=by
 have R':=R.foldT (over:=over) h1 h2
 have e0:∀s4 s5,ev G (.var 0) [.im (aL c r w h T F []),.im (.str sd.str),.im (.bl over),.im (.int k),s4,s5]=some (bL c r w h (T.map sE) F []):=fun _ _=>by simp only[zz,yy,aA,aB];rfl
 have ht:=hft T w h sd over k R hw hh hfew h1 h2
 unfold tE at ht;have em:=hmo c r ((foldT sd over k T).map sE) (((foldT sd over k T).getD 0 []).map hE) (F++[eI sd over k]) [] (by
  have:=R'.len;have:=R'.h1
  rw[l9,l4,l8 (by omega)];rfl)
 rw[la,la,R'.len,show ((foldT sd over k T).getD 0 []).length=_ from R'.width]at em
 refine aJ (ρ:=[.im (aL c r w h T F []),.im (.str sd.str),.im (.bl over),.im (.int k),.un,.un]) rfl ?_;refine aH (LY (d:=.non) (by simp only[zz,yy,aA,aB,hsv])) (aH (dI ?_ aY) (aH (aW (d:=.lst ((foldT sd over k T).map sE)) ?_) (aH (aW (d:=.tup (F++[eI sd over k])) ?_) (aS ?_))))
 ·have hb:(decide ((1:Int)≤(k:Int))&&decide ((k:Int)<((if sd.up then w else h:Nat):Int)))=true:=by
   rw[ly,mj,mj];exact⟨by omega,by exact_mod_cast h2⟩
  simp only[zz,yy,aA,aB,bj,hb,b8,ng]
 ·rw[gZ,bO,wC hf (e0 _ _)];simp only[zz,yy,aA,aB,ht]
 ·show ev G _ [.im (aL c r w h T F []),.im (.str sd.str),.im (.bl over),.im (.int k),.im (.lst ((foldT sd over k T).map sE)),.un]=_
  rw[dJ,JH hf (e0 _ _)];simp only[zz,yy,aA,aB,aEm (show F.length + [D.tup [.str sd.str,.bl over,.int k]].length≤1000000 by simp only[om,List.length_nil];omega)]
  rfl
 ·show ev G _ [.im (aL c r w h T F []),.im (.str sd.str),.im (.bl over),.im (.int k),.im (.lst ((foldT sd over k T).map sE)),.im (.tup (F++[eI sd over k]))]=_
  rw[NW,bO,gT hf (e0 _ _),bO,pN hf (e0 _ _)];simp only[zz,yy,aA,aB,jR hf (e0 _ _),em];rfl
noncomputable def fP:IS:=(.seq (.set 3 (.or (.bin .eq (.var 1) (.lit (.int 1))) (.and (.bin .gt (.var 2) (.lit (.int 1))) (.bin .eq (.bin .mod (.var 0) (.lit (.int 2))) (.lit (.int 1)))))) (.seq (.set 4 (.ite (.tr (.var 3)) (.var 2) (.var 1))) (.seq (.set 5 (.ite (.tr (.var 3)) (.lst (.cons (.lit (.str "north")) (.cons (.lit (.str "south")) .nil))) (.lst (.cons (.lit (.str "west")) (.cons (.lit (.str "east")) .nil))))) (.ret false (.tup (.cons (.ix (.var 5) (.bin .mod (.bin .fdiv (.var 0) (.lit (.int 2))) (.lit (.int 2)))) (.cons (.bin .eq (.bin .mod (.bin .fdiv (.var 0) (.lit (.int 4))) (.lit (.int 2))) (.lit (.int 1))) (.cons (.bin .add (.lit (.int 1)) (.bin .mod (.bin .fdiv (.var 0) (.lit (.int 8))) (.bin .sub (.var 4) (.lit (.int 1))))) .nil))))))))
theorem mod2(i:Int):i % 2=0∨i % 2=1:=by omega
theorem vB{cell:Int}(hw:1≤w)(hh:1≤h)(hwh:1<w*h):∃(sd:Side) (over:Bool) (k:Nat),1≤k∧(k<if sd.up then w else h)∧aP G 6 fP [.int cell,.int w,.int h]=some (.ok (eI sd over k)):=by
 have m2:∀i:Int,ah .mod (.int i) (.int 2)=some (.int (i % 2)):=fun i=>wD (by decide)
 have d2:∀i:Int,ah .fdiv (.int i) (.int 2)=some (.int (i / 2)):=fun i=>sI (by decide) (by decide)
 have d4:∀i:Int,ah .fdiv (.int i) (.int 4)=some (.int (i / 4)):=fun i=>sI (by decide) (by decide)
 have d8:∀i:Int,ah .fdiv (.int i) (.int 8)=some (.int (i / 8)):=fun i=>sI (by decide) (by decide)
 have e3:ev G (.or (.bin .eq (.var 1) (.lit (.int 1))) (.and (.bin .gt (.var 2) (.lit (.int 1))) (.bin .eq (.bin .mod (.var 0) (.lit (.int 2))) (.lit (.int 1))))) [.im (.int cell),.im (.int w),.im (.int h),.un,.un,.un]=some (.bl (((w:Int) == 1) || (decide (1<(h:Int))&&(cell % 2 == 1)))):=
  bQ (by simp only[zz,yy,aA,aB]) fun _=>qX (by simp only[zz,yy,aA,aB]) fun _=>by simp only[zz,yy,aA,aB,m2]
 have s01:∀{a b:D},atI [a,b] 0=some a:=fun {a b}=>dM (k:=0) rfl
 have f7:∀{a b:D},atI [a,b] 1=some b:=fun {a b}=>dM (k:=1) rfl
 have fin:∀(lv:Bool) (ext:Nat) (a b:Side),(((w:Int) == 1) || (decide (1<(h:Int))&&(cell % 2 == 1)))=lv→ext=(if lv then h else w)→2≤ext→(a=if lv then .north else .west)→(b=if lv then .south else .east) →
   ∃(sd:Side) (over:Bool) (k:Nat),1≤k∧(k<if sd.up then w else h)∧aP G 6 fP [.int cell,.int w,.int h]=some (.ok (eI sd over k)):=by
  intro lv ext a b h1 h2 h3 ha hb;have mx:ah .mod (.int (cell / 8)) (.int ((ext:Int)-1))=some (.int (cell / 8 % ((ext:Int)-1))):=wD (by omega)
  have r0:=Int.emod_nonneg (cell / 8) (show ((ext:Int)-1)≠0 by omega)
  have r1:=Int.emod_lt_of_pos (cell / 8) (show (0:Int)<(ext:Int)-1 by omega)
  have hk:(((1+cell / 8 % ((ext:Int)-1)).toNat:Nat):Int)=1+cell / 8 % ((ext:Int)-1):=by omega
  have up_a:(if a.up then w else h)=ext:=by subst ha h2;cases lv<;>rfl
  have up_b:(if b.up then w else h)=ext:=by subst hb h2;cases lv<;>rfl
  have e4:ev G (.ite (.tr (.var 3)) (.var 2) (.var 1)) [.im (.int cell),.im (.int w),.im (.int h),.im (.bl lv),.un,.un]=some (.int ext):=by subst h2;cases lv<;>simp only[zz,yy,aA,aB,b8]<;>rfl
  have e5:ev G (.ite (.tr (.var 3)) (.lst (.cons (.lit (.str "north")) (.cons (.lit (.str "south")) .nil))) (.lst (.cons (.lit (.str "west")) (.cons (.lit (.str "east")) .nil)))) [.im (.int cell),.im (.int w),.im (.int h),.im (.bl lv),.im (.int ext),.un]=some (.lst [.str a.str,.str b.str]):=by subst ha hb;cases lv<;>simp only[zz,yy,aA,aB,b8]<;>rfl
  rcases mod2 (cell / 2) with q|q
  ·refine⟨a,(cell / 4 % 2 == 1),(1+cell / 8 % ((ext:Int)-1)).toNat,by omega,by rw[up_a];omega,?_⟩
   refine aJ (ρ:=[.im (.int cell),.im (.int w),.im (.int h),.un,.un,.un]) rfl (aH (aW (e3.trans (by rw[h1]))) (aH (aW e4) (aH (aW e5) (aS ?_))))
   show ev G _ [.im (.int cell),.im (.int w),.im (.int h),.im (.bl lv),.im (.int ext),.im (.lst [.str a.str,.str b.str])]=_
   simp only[zz,yy,aA,aB,d2,m2,q,s01,d4,d8,mx];unfold eI;rw[hk]
  ·refine⟨b,(cell / 4 % 2 == 1),(1+cell / 8 % ((ext:Int)-1)).toNat,by omega,by rw[up_b];omega,?_⟩
   refine aJ (ρ:=[.im (.int cell),.im (.int w),.im (.int h),.un,.un,.un]) rfl (aH (aW (e3.trans (by rw[h1]))) (aH (aW e4) (aH (aW e5) (aS ?_))))
   show ev G _ [.im (.int cell),.im (.int w),.im (.int h),.im (.bl lv),.im (.int ext),.im (.lst [.str a.str,.str b.str])]=_
   simp only[zz,yy,aA,aB,d2,m2,q,f7,d4,d8,mx];unfold eI;rw[hk]
 cases hb:(((w:Int) == 1) || (decide (1<(h:Int))&&(cell % 2 == 1))) with
 |true =>
  refine fin true h .north .south hb rfl ?_ rfl rfl;rw[or_eq_true,ly,nu,mj]at hb
  rcases hb with hb|hb
  ·have:w=1:=by omega
   subst this;omega
  ·omega
 |false =>
  refine fin false w .west .east hb rfl ?_ rfl rfl;rw[Bool.or_eq_false_iff]at hb;have:(w:Int)≠1:=by simpa using hb.1
  omega
end
end Pg
theorem cK{s:Sl}{r:List Sl}:view (s::r)=eF s::view r:=id rfl
theorem ME{α β:Type}{f:α→β}{xs:List α}{a b:Option Int}:cut (xs.map f) a b=(cut xs a b).map f:=by
 unfold cut;rw[la,List.map_take,List.map_drop]
namespace Pg
def Full(s:aR):Prop:=∀h∈s,h≠[]
def iC(T:Table):Prop:=∀s∈T,Full s
theorem getD_mem{s:aR}{k:Nat}(h:k<s.length):s.getD k []∈s:=by
 rw[l4,l8 h];exact p5 h
theorem Full.turn{s:aR}{u:Bool}(h:Full s):Full (cX u s):=by
 intro x hx;unfold cX at hx;obtain⟨y,hy,rfl⟩:=nv.mp hx;unfold dP;intro z;exact h y hy (by simpa using z)
theorem Full.tog{u l:aR}(h1:Full u)(h2:Full l):Full (tog u l):=by
 intro x hx;unfold Pg.tog at hx;obtain⟨k,hk,rfl⟩:=nv.mp hx;have hk:=oy.mp hk
 intro z;have z:=List.append_eq_nil_iff.mp z
 by_cases e:k<u.length
 ·exact h1 _ (getD_mem e) z.1
 ·exact h2 _ (getD_mem (by omega)) z.2
theorem Full.sub{s t:aR}(h:Full s)(q:∀x∈t,x∈s):Full t:=fun x hx=>h x (q x hx)
theorem vC{sd:Side}{over:Bool}{c:Nat}{s:aR}(h:Full s):Full (bW sd over c s):=by
 have a1:Full (s.take c).reverse:=h.sub fun x hx=>List.mem_of_mem_take (mem_reverse.mp hx)
 have a2:Full (s.drop c):=h.sub fun x hx=>List.mem_of_mem_drop hx
 have t:∀{u l:aR},Full u→Full l→Full (bH u l over):=fun {u l} p q=>by
  unfold bH;cases over with
  |true=>exact p.tog q
  |false=>exact q.tog p
 unfold bW;split
 ·exact t a1.turn a2
 ·exact(t a2.turn a1).sub fun x hx=>mem_reverse.mp hx
theorem iC.transp{T:Table}{w h:Nat}(r:Rect T w h)(f:iC T):iC (transp T):=by
 intro s hs;unfold Pg.transp at hs;obtain⟨x,hx,rfl⟩:=nv.mp hs;have hx:=oy.mp hx
 intro y hy;obtain⟨t,ht,rfl⟩:=nv.mp hy;exact f t ht _ (getD_mem (by rw[r.row t ht,←r.width];exact hx))
theorem iC.foldT{T:Table}{w h:Nat}{sd:Side}{over:Bool}{c:Nat}(r:Rect T w h)(f:iC T)(h1:1≤c)(h2:c<if sd.up then w else h):iC (foldT sd over c T):=by
 have g:∀{U:Table},iC U→iC (U.map (bW sd over c)):=fun {U} q s hs=>by
  obtain⟨s',bz,rfl⟩:=nv.mp hs;exact vC (q s' bz)
 unfold Pg.foldT;cases hu:sd.up with
 |true=>exact g f
 |false =>
  rw[hu]at h2;exact(g (f.transp r)).transp (r.transp.fold h1 h2)
theorem AL{c r:Nat}:iC (fG c r):=by
 intro s hs;unfold fG at hs;obtain⟨y,_,rfl⟩:=nv.mp hs;intro h hh;obtain⟨x,_,rfl⟩:=nv.mp hh;exact List.cons_ne_nil _ _
structure Spot where
 x:Nat
 y:Nat
 z:Int
 e:Bool
 n:Bool
noncomputable def aj(T:Table)(x y:Nat):dQ:=(T.getD y []).getD x []
noncomputable def az(sp:List Spot)(k:Int):Int:=match sp[k.toNat]? with
 |some s=>s.z
 |none=>0
structure Lk (T:Table) (sp:List Spot):Prop where
 mem:∀(x y:Nat) (c:Cell),c∈aj T x y↔∃(i:Nat) (s:Spot),sp[i]?=some s∧s.x=x∧s.y=y∧c=((i:Int),s.e,s.n)
 ord:∀x y:Nat,(aj T x y).Pairwise (fun a b=>az sp b.1<az sp a.1)
noncomputable def Spot.al(up:Bool)(s:Spot):Nat:=if up then s.x else s.y
noncomputable def Spot.ac(up:Bool)(s:Spot):Nat:=if up then s.y else s.x
noncomputable def gM(c p:Nat):Nat:=if c≤p then p-c else c-1-p
noncomputable def bX(nr:Bool)(c gr p:Nat):Nat:=if nr then gM c p else gr-1-gM c p
noncomputable def moves(nr:Bool)(c p:Nat):Bool:=decide (c≤p) != nr
noncomputable def bK(sd:Side)(over:Bool)(c gr:Nat)(top low:Int)(s:Spot):Spot:=
 {x:=if sd.up then bX sd.near c gr (s.al sd.up) else s.x
  y:=if sd.up then s.y else bX sd.near c gr (s.al sd.up)
  z:=if moves sd.near c (s.al sd.up) then(if over then 2*top+1-s.z else 2*low-1-s.z) else s.z
  e:=if moves sd.near c (s.al sd.up)&&sd.up then !s.e else s.e
  n:=if moves sd.near c (s.al sd.up)&&!sd.up then !s.n else s.n }
theorem iP{sd:Side}{over:Bool}{c gr:Nat}{top low:Int}{s:Spot}:(bK sd over c gr top low s).al sd.up=bX sd.near c gr (s.al sd.up):=by
 unfold bK Spot.al;cases sd.up<;>rfl
theorem lH{sd:Side}{over:Bool}{c gr:Nat}{top low:Int}{s:Spot}:(bK sd over c gr top low s).ac sd.up=s.ac sd.up:=by
 unfold bK Spot.ac;cases sd.up<;>rfl
noncomputable def hA(up:Bool)(T:Table)(p q:Nat):dQ:=if up then aj T p q else aj T q p
theorem getD_map{α β:Type}{f:α→β}{l:List α}{k:Nat}{d:β}{d':α}(h:f d'=d):(l.map f).getD k d=f (l.getD k d'):=by
 rw[l4,l4,l9];cases l[k]?<;>simp[h]
theorem getD_none{α:Type}{l:List α}{k:Nat}{d:α}(h:l.length≤k):l.getD k d=d:=by
 rw[l4,List.getElem?_eq_none h];rfl
theorem nM{u:Bool}:dP u []=[]:=rfl
theorem rT{s:aR}{c k:Nat}(hc:c≤s.length):(s.take c).reverse.getD k []=if k<c then s.getD (c-1-k) [] else []:=by
 by_cases h:k<c
 ·rw[if_pos h,l4,List.getElem?_reverse (by rw[o4];omega),o4,min_eq_left hc,List.getElem?_take,if_pos (by omega),l4]
 ·rw[if_neg h];exact getD_none (by rw[oN,o4];omega)
theorem yC{s:aR}{c k:Nat}:(s.drop c).getD k []=s.getD (c+k) []:=by
 rw[l4,List.getElem?_drop,l4]
theorem BI{u l:aR}{k:Nat}:(tog u l).getD k []=u.getD k []++l.getD k []:=by
 by_cases h:k<max u.length l.length
 ·unfold tog;rw[l4,l9,oj h];rfl
 ·rw[getD_none (by rw[pA];omega),getD_none (by omega),getD_none (by omega)];rfl
noncomputable def nY(over:Bool)(m s:dQ):dQ:=if over then m++s else s++m
theorem kC{m s:aR}{over:Bool}{k:Nat}:(bH m s over).getD k []=nY over (m.getD k []) (s.getD k []):=by
 unfold bH nY;cases over
 ·exact BI
 ·exact BI
theorem rN{u:Bool}{p:aR}{k:Nat}:(cX u p).getD k []=dP u (p.getD k []):=by unfold cX;exact getD_map nM
noncomputable def bY(c g:Nat)(s:Nat→dQ):dQ:=if g<c then s (c-1-g) else []
noncomputable def uN(sd:Side)(over:Bool)(c g:Nat)(s:Nat→dQ):dQ:=nY over (dP sd.up (if sd.near then bY c g s else s (c+g))) (if sd.near then s (c+g) else bY c g s)
theorem EK{sd:Side}{over:Bool}{c:Nat}{s:aR}(hc:c≤s.length){k:Nat}(hk:k<max c (s.length-c)) :
  (bW sd over c s).getD k []=uN sd over c (if sd.near then k else max c (s.length-c)-1-k) fun j=>s.getD j []:=by
 unfold bW uN bY;cases hn:sd.near with
 |true =>
  simp only[if_true];rw[kC,rN,rT hc,yC]
 |false =>
  simp only[lr,if_false];have hl:(bH (cX sd.up (s.drop c)) (s.take c).reverse over).length=max c (s.length-c):=by
   rw[fR,fL,oN,o4,p4,min_eq_left hc,Nat.max_comm]
  rw[l4,List.getElem?_reverse (by rw[hl];exact hk),hl,←l4,kC,rN,rT hc,yC]
theorem nN{T:Table}{w h:Nat}(r:Rect T w h){x y:Nat}:aj (transp T) x y=aj T y x:=by
 unfold aj
 by_cases hy:y<w
 ·have e1:(transp T).getD y []=T.map fun s=>s.getD y []:=by
   unfold transp;rw[r.width,l4,l9,oj hy];rfl
  rw[e1];exact getD_map (f:=fun s:aR=>s.getD y []) (by simp)
 ·rw[show (transp T).getD y []=[] from getD_none (by unfold transp;rw[la,ml,r.width];omega)]
  rw[show ([]:aR).getD x []=[] by simp]
  by_cases hx:x<T.length
  ·have hm:T.getD x []∈T:=by rw[l4,l8 hx];exact p5 hx
   rw[getD_none (by rw[r.row _ hm];omega)]
  ·rw[getD_none (l:=T) (by omega)];simp
noncomputable def ext(sd:Side)(w h:Nat):Nat:=if sd.up then w else h
theorem uY{T:Table}{w h:Nat}(r:Rect T w h){sd:Side}{p q:Nat}(hp:ext sd w h≤p):hA sd.up T p q=[]:=by
 unfold hA;unfold ext at hp;unfold aj;cases hu:sd.up with
 |true =>
  rw[hu]at hp;simp only[if_true]at hp ⊢
  by_cases hq:q<T.length
  ·have hm:T.getD q []∈T:=by rw[l4,l8 hq];exact p5 hq
   exact getD_none (by rw[r.row _ hm];exact hp)
  ·rw[getD_none (l:=T) (by omega)];simp
 |false =>
  rw[hu]at hp;simp only[lr,if_false]at hp ⊢;rw[getD_none (l:=T) (by rw[r.len];exact hp)];simp
theorem wR{T:Table}{w h:Nat}(r:Rect T w h){sd:Side}{over:Bool}{c:Nat}(h1:1≤c)(h2:c<ext sd w h){p q:Nat}(hp:p<max c (ext sd w h-c)) :
  hA sd.up (foldT sd over c T) p q=uN sd over c (if sd.near then p else max c (ext sd w h-c)-1-p) fun j=>hA sd.up T j q:=by
 have key:∀{U:Table} {w h:Nat},Rect U w h→c<w→∀{p q:Nat},p<max c (w-c)→aj (U.map (bW sd over c)) p q=uN sd over c (if sd.near then p else max c (w-c)-1-p) fun j=>aj U j q:=by
  intro U w h r h2 p q hp;unfold aj
  by_cases hq:q<U.length
  ·have hm:U.getD q []∈U:=by rw[l4,l8 hq];exact p5 hq
   have hw:=r.row _ hm
   have e1:(U.map (bW sd over c)).getD q []=bW sd over c (U.getD q []):=by
    rw[l4,l9,l4,l8 hq];rfl
   rw[e1,EK (by omega) (by rw[hw];exact hp),hw]
  ·rw[getD_none (l:=U.map (bW sd over c)) (by rw[la];omega),getD_none (l:=U) (by omega)]
   unfold uN bY nY;simp[nM]
 unfold hA foldT;unfold ext at h2 hp ⊢;cases hu:sd.up with
 |true =>
  rw[hu]at h2 hp;simp only[if_true]at h2 hp ⊢;exact key r h2 hp
 |false =>
  rw[hu]at h2 hp;simp only[lr,if_false]at h2 hp ⊢;rw[nN (r.transp.fold h1 h2),key r.transp h2 hp]
  congr 1
  funext j
  exact nN r
theorem mC{c p ex:Nat}(h1:1≤c)(hp:p<ex):gM c p<max c (ex-c):=by
 unfold gM;split<;>omega
theorem place_lt{nr:Bool}{c p ex:Nat}(h1:1≤c)(hp:p<ex):bX nr c (max c (ex-c)) p<max c (ex-c):=by
 have:=mC h1 hp
 unfold bX;split<;>omega
theorem oZ{u:Bool}{c:Cell}:(eY u c).1=c.1:=by unfold eY;cases u<;>rfl
theorem sO{u:Bool}{h:dQ}{c:Cell}:c∈dP u h↔eY u c∈h:=by
 have inv:∀d:Cell,eY u (eY u d)=d:=fun d=>by unfold eY;cases u<;>simp
 unfold dP;rw[nv];constructor
 ·rintro⟨d,hd,rfl⟩;rw[inv];exact mem_reverse.mp hd
 ·intro hc;exact⟨_,mem_reverse.mpr hc,inv c⟩
theorem vM{sp:List Spot}{f:Spot→Spot}{i:Nat}{s:Spot}(h:sp[i]?=some s):az (sp.map f) (i:Int)=(f s).z:=by
 unfold az;rw[Int.toNat_natCast,l9,h];rfl
theorem oW{sp:List Spot}{i:Nat}{s:Spot}(h:sp[i]?=some s):az sp (i:Int)=s.z:=by
 unfold az;rw[Int.toNat_natCast,h]
section
variable {T:Table}{w h:Nat}{sp:List Spot}
theorem Lk.memA(L:Lk T sp)(up:Bool){p q:Nat}{c:Cell}:c∈hA up T p q↔∃(i:Nat) (s:Spot),sp[i]?=some s∧s.al up=p∧s.ac up=q∧c=((i:Int),s.e,s.n):=by
 unfold hA Spot.al Spot.ac;cases up with
 |true=>exact L.mem p q c
 |false =>
  refine(L.mem q p c).trans ⟨fun⟨i,s,a,b,d,e⟩=>⟨i,s,a,d,b,e⟩,fun⟨i,s,a,b,d,e⟩=>⟨i,s,a,d,b,e⟩⟩
theorem Lk.of{up:Bool}(h1:∀(p q:Nat) (c:Cell),c∈hA up T p q↔∃(i:Nat) (s:Spot),sp[i]?=some s∧s.al up=p∧s.ac up=q∧c=((i:Int),s.e,s.n))(h2:∀p q:Nat,(hA up T p q).Pairwise (fun a b=>az sp b.1<az sp a.1)):Lk T sp:=by
 cases up with
 |true=>exact⟨h1,h2⟩
 |false=>exact⟨fun x y c=>(h1 y x c).trans ⟨fun⟨i,s,a,b,d,e⟩=>⟨i,s,a,d,b,e⟩,fun⟨i,s,a,b,d,e⟩=>⟨i,s,a,d,b,e⟩⟩,fun x y=>h2 y x⟩
theorem Lk.al_lt(L:Lk T sp)(r:Rect T w h)(sd:Side){i:Nat}{s:Spot}(e:sp[i]?=some s):s.al sd.up<ext sd w h:=by
 refine Nat.lt_of_not_le fun z=>?_
 have:=(L.memA sd.up (p:=s.al sd.up) (q:=s.ac sd.up) (c:=((i:Int),s.e,s.n))).mpr ⟨i,s,e,rfl,rfl,rfl⟩
 rw[uY r z]at this;cases this
theorem Lk.fold(L:Lk T sp)(r:Rect T w h){sd:Side}{over:Bool}{c:Nat}{top low:Int}(h1:1≤c)(h2:c<ext sd w h)(ht:∀s∈sp,s.z≤top)(hl:∀s∈sp,low≤s.z) :
  Lk (foldT sd over c T) (sp.map (bK sd over c (max c (ext sd w h-c)) top low)):=by
 have get:∀{i:Nat} {s':Spot},(sp.map (bK sd over c (max c (ext sd w h-c)) top low))[i]?=some s'→∃s,sp[i]?=some s∧s'=bK sd over c (max c (ext sd w h-c)) top low s:=fun {i s'} e=>by
  rw[l9]at e;obtain⟨s,a,b⟩:=ma.mp e;exact⟨s,a,b.symm⟩
 have mvP:∀{p' p:Nat},p'<ext sd w h→bX sd.near c (max c (ext sd w h-c)) p'=p→moves sd.near c p'=true→p<max c (ext sd w h-c) →
   p'=(if sd.near then c-1-p else c+(max c (ext sd w h-c)-1-p))∧(sd.near=true→p<c):=by
  intro p' p q0 q1 q2 q3;have:=mC h1 q0
  unfold moves at q2;unfold bX at q1;cases hn:sd.near with
  |true =>
   rw[hn]at q1 q2;simp only[if_true]at q1 ⊢;simp only[bne_iff_ne,ne_eq,mj]at q2;unfold gM at q1;rw[if_neg q2]at q1;exact⟨by omega,fun _=>by omega⟩
  |false =>
   rw[hn]at q1 q2;simp only[lr,if_false]at q1 ⊢;simp only[bne_iff_ne,ne_eq,decide_eq_false_iff_not,Classical.not_not]at q2;unfold gM at q1 this;rw[if_pos q2]at q1 this;exact⟨by omega,fun z=>absurd z (by decide)⟩
 have stP:∀{p' p:Nat},p'<ext sd w h→bX sd.near c (max c (ext sd w h-c)) p'=p→moves sd.near c p'=false→p<max c (ext sd w h-c) →
   p'=(if sd.near then c+p else c-1-(max c (ext sd w h-c)-1-p))∧(sd.near=false→max c (ext sd w h-c)-1-p<c):=by
  intro p' p q0 q1 q2 q3;have:=mC h1 q0
  unfold moves at q2;unfold bX at q1;cases hn:sd.near with
  |true =>
   rw[hn]at q1 q2;simp only[if_true]at q1 ⊢;simp only[bne_eq_false_iff_eq,mj]at q2;unfold gM at q1;rw[if_pos q2]at q1;exact⟨by omega,fun z=>absurd z (by decide)⟩
  |false =>
   rw[hn]at q1 q2;simp only[lr,if_false]at q1 ⊢;simp only[bne_eq_false_iff_eq,decide_eq_false_iff_not]at q2;unfold gM at q1 this;rw[if_neg q2]at q1 this;exact⟨by omega,fun _=>by omega⟩
 have bk:∀{p' p:Nat},p<max c (ext sd w h-c)→p'<ext sd w h→(p'=(if sd.near then c-1-p else c+(max c (ext sd w h-c)-1-p))∧(sd.near=true→p<c)→moves sd.near c p'=true∧bX sd.near c (max c (ext sd w h-c)) p'=p) ∧
   (p'=(if sd.near then c+p else c-1-(max c (ext sd w h-c)-1-p))∧(sd.near=false→max c (ext sd w h-c)-1-p<c)→moves sd.near c p'=false∧bX sd.near c (max c (ext sd w h-c)) p'=p):=by
  intro p' p q3 q0;unfold moves bX gM;cases hn:sd.near with
  |true =>
   simp only[if_true];refine⟨fun⟨a,b⟩=>?_,fun⟨a,b⟩=>?_⟩
   ·have:=b trivial
    have z:¬c≤p':=by omega
    rw[lp z,if_neg z];exact⟨rfl,by omega⟩
   ·have z:c≤p':=by omega
    rw[nq z,if_pos z];exact⟨rfl,by omega⟩
  |false =>
   simp only[lr,if_false];refine⟨fun⟨a,b⟩=>?_,fun⟨a,b⟩=>?_⟩
   ·have z:c≤p':=by omega
    rw[nq z,if_pos z];exact⟨rfl,by omega⟩
   ·have:=b trivial
    have z:¬c≤p':=by omega
    rw[lp z,if_neg z];exact⟨rfl,by omega⟩
 have mvI:∀{p q:Nat} {d:Cell},p<max c (ext sd w h-c)→(d∈(if sd.near then bY c (if sd.near then p else max c (ext sd w h-c)-1-p) (fun j=>hA sd.up T j q) else hA sd.up T (c+(if sd.near then p else max c (ext sd w h-c)-1-p)) q) ↔
   ∃(i:Nat) (s:Spot),sp[i]?=some s∧moves sd.near c (s.al sd.up)=true∧bX sd.near c (max c (ext sd w h-c)) (s.al sd.up)=p∧s.ac sd.up=q∧d=((i:Int),s.e,s.n)):=by
  intro p q d hp;constructor
  ·intro hd;have:∃p',d∈hA sd.up T p' q∧p'=(if sd.near then c-1-p else c+(max c (ext sd w h-c)-1-p))∧(sd.near=true→p<c):=by
    cases hn:sd.near with
    |true =>
     rw[hn]at hd;simp only[if_true,bY]at hd
     by_cases hq:p<c
     ·rw[if_pos hq]at hd;exact⟨_,hd,rfl,fun _=>hq⟩
     ·rw[if_neg hq]at hd;cases hd
    |false =>
     rw[hn]at hd;simp only[lr,if_false]at hd;exact⟨_,hd,rfl,fun z=>absurd z (by decide)⟩
   obtain⟨p',hd,e1,e2⟩:=this;obtain⟨i,s,a1,a2,a3,a4⟩:=(L.memA sd.up).mp hd;have b:=(bk (p':=p') hp (by rw[←a2];exact L.al_lt r sd a1)).1 ⟨e1,e2⟩
   rw[←a2]at b;exact⟨i,s,a1,b.1,b.2,a3,a4⟩
  ·rintro⟨i,s,a1,a2,a3,a4,a5⟩;have b:=mvP (L.al_lt r sd a1) a3 a2 hp
   have hd:=(L.memA sd.up (p:=s.al sd.up) (q:=q) (c:=d)).mpr ⟨i,s,a1,rfl,a4,a5⟩
   rw[b.1]at hd;cases hn:sd.near with
   |true =>
    rw[hn]at hd b;simp only[if_true,bY]at hd ⊢;rw[if_pos (b.2 rfl)];exact hd
   |false =>
    rw[hn]at hd;simp only[lr,if_false]at hd ⊢;exact hd
 have stI:∀{p q:Nat} {d:Cell},p<max c (ext sd w h-c)→(d∈(if sd.near then hA sd.up T (c+(if sd.near then p else max c (ext sd w h-c)-1-p)) q else bY c (if sd.near then p else max c (ext sd w h-c)-1-p) (fun j=>hA sd.up T j q)) ↔
   ∃(i:Nat) (s:Spot),sp[i]?=some s∧moves sd.near c (s.al sd.up)=false∧bX sd.near c (max c (ext sd w h-c)) (s.al sd.up)=p∧s.ac sd.up=q∧d=((i:Int),s.e,s.n)):=by
  intro p q d hp;constructor
  ·intro hd;have:∃p',d∈hA sd.up T p' q∧p'=(if sd.near then c+p else c-1-(max c (ext sd w h-c)-1-p))∧(sd.near=false→max c (ext sd w h-c)-1-p<c):=by
    cases hn:sd.near with
    |true =>
     rw[hn]at hd;simp only[if_true]at hd;exact⟨_,hd,rfl,fun z=>absurd z (by decide)⟩
    |false =>
     rw[hn]at hd;simp only[lr,if_false,bY]at hd
     by_cases hq:max c (ext sd w h-c)-1-p<c
     ·rw[if_pos hq]at hd;exact⟨_,hd,rfl,fun _=>hq⟩
     ·rw[if_neg hq]at hd;cases hd
   obtain⟨p',hd,e1,e2⟩:=this;obtain⟨i,s,a1,a2,a3,a4⟩:=(L.memA sd.up).mp hd;have b:=(bk (p':=p') hp (by rw[←a2];exact L.al_lt r sd a1)).2 ⟨e1,e2⟩
   rw[←a2]at b;exact⟨i,s,a1,b.1,b.2,a3,a4⟩
  ·rintro⟨i,s,a1,a2,a3,a4,a5⟩;have b:=stP (L.al_lt r sd a1) a3 a2 hp
   have hd:=(L.memA sd.up (p:=s.al sd.up) (q:=q) (c:=d)).mpr ⟨i,s,a1,rfl,a4,a5⟩
   rw[b.1]at hd;cases hn:sd.near with
   |true =>
    rw[hn]at hd;simp only[if_true]at hd ⊢;exact hd
   |false =>
    rw[hn]at hd b;simp only[lr,if_false,bY]at hd ⊢;rw[if_pos (b.2 rfl)];exact hd
 refine Lk.of (up:=sd.up) (fun p q d=>?_) fun p q=>?_
 ·by_cases hp:p<max c (ext sd w h-c)
  ·rw[wR r h1 h2 hp];unfold uN nY;have sw:∀a b:dQ,d∈(if over then a++b else b++a)↔d∈a∨d∈b:=fun a b=>by cases over<;>simp[or_comm]
   rw[sw,sO,mvI hp,stI hp];constructor
   ·rintro (⟨i,s,a1,a2,a3,a4,a5⟩|⟨i,s,a1,a2,a3,a4,a5⟩)
    ·refine⟨i,bK sd over c (max c (ext sd w h-c)) top low s,by rw[l9,a1];rfl,by rw[iP];exact a3,by rw[lH];exact a4,?_⟩
     have inv:d=eY sd.up (eY sd.up d):=by unfold eY;cases sd.up<;>simp
     rw[inv,a5];unfold eY bK;dsimp only;rw[a2];cases sd.up<;>rfl
    ·refine⟨i,bK sd over c (max c (ext sd w h-c)) top low s,by rw[l9,a1];rfl,by rw[iP];exact a3,by rw[lH];exact a4,?_⟩
     rw[a5];unfold bK;dsimp only;rw[a2];rfl
   ·rintro⟨i,s',a1,a2,a3,a4⟩;obtain⟨s,e1,rfl⟩:=get a1;rw[iP]at a2;rw[lH]at a3;cases hm:moves sd.near c (s.al sd.up) with
    |true =>
     refine .inl ⟨i,s,e1,hm,a2,a3,?_⟩;rw[a4];unfold eY bK;dsimp only;rw[hm];cases sd.up<;>simp
    |false =>
     refine .inr ⟨i,s,e1,hm,a2,a3,?_⟩;rw[a4];unfold bK;dsimp only;rw[hm];rfl
  ·constructor
   ·intro hd;have r':=r.foldT (over:=over) h1 h2
    rw[uY r' (by unfold ext;unfold ext at hp;cases hu:sd.up<;>rw[hu]at hp<;>simp only[if_true,lr,if_false]at hp ⊢<;>omega)]at hd
    cases hd
   ·rintro⟨i,s',a1,a2,a3,a4⟩;obtain⟨s,e1,rfl⟩:=get a1;rw[iP]at a2;exact absurd (a2 ▸ place_lt h1 (L.al_lt r sd e1)) hp
 ·by_cases hp:p<max c (ext sd w h-c)
  ·rw[wR r h1 h2 hp];unfold uN;have ordA:∀j,(hA sd.up T j q).Pairwise (fun a b=>az sp b.1<az sp a.1):=fun j=>by
    unfold hA;cases sd.up
    ·exact L.ord q j
    ·exact L.ord j q
   have ordL:∀g,(bY c g fun j=>hA sd.up T j q).Pairwise (fun a b=>az sp b.1<az sp a.1):=fun g=>by
    unfold bY;split
    ·exact ordA _
    ·exact List.Pairwise.nil
   have mvZ:∀{d:Cell},d∈(if sd.near then bY c (if sd.near then p else max c (ext sd w h-c)-1-p) (fun j=>hA sd.up T j q) else hA sd.up T (c+(if sd.near then p else max c (ext sd w h-c)-1-p)) q) →
     az (sp.map (bK sd over c (max c (ext sd w h-c)) top low)) d.1=(if over then 2*top+1-az sp d.1 else 2*low-1-az sp d.1)∧az sp d.1≤top∧low≤az sp d.1:=fun {d} hd=>by
    obtain⟨i,s,a1,a2,a3,a4,a5⟩:=(mvI hp).mp hd;rw[a5];dsimp only;rw[vM a1,oW a1];refine⟨?_,ht s (l6 a1),hl s (l6 a1)⟩;unfold bK;dsimp only;rw[a2];rfl
   have stZ:∀{d:Cell},d∈(if sd.near then hA sd.up T (c+(if sd.near then p else max c (ext sd w h-c)-1-p)) q else bY c (if sd.near then p else max c (ext sd w h-c)-1-p) (fun j=>hA sd.up T j q)) →
     az (sp.map (bK sd over c (max c (ext sd w h-c)) top low)) d.1=az sp d.1∧az sp d.1≤top∧low≤az sp d.1:=fun {d} hd=>by
    obtain⟨i,s,a1,a2,a3,a4,a5⟩:=(stI hp).mp hd;rw[a5];dsimp only;rw[vM a1,oW a1];refine⟨?_,ht s (l6 a1),hl s (l6 a1)⟩;unfold bK;dsimp only;rw[a2];rfl
   have mvO:(if sd.near then bY c (if sd.near then p else max c (ext sd w h-c)-1-p) (fun j=>hA sd.up T j q) else hA sd.up T (c+(if sd.near then p else max c (ext sd w h-c)-1-p)) q).Pairwise (fun a b=>az sp b.1<az sp a.1):=by
    split
    ·exact ordL _
    ·exact ordA _
   have stO:(if sd.near then hA sd.up T (c+(if sd.near then p else max c (ext sd w h-c)-1-p)) q else bY c (if sd.near then p else max c (ext sd w h-c)-1-p) (fun j=>hA sd.up T j q)).Pairwise (fun a b=>az sp b.1<az sp a.1):=by
    split
    ·exact ordA _
    ·exact ordL _
   generalize (if sd.near then bY c (if sd.near then p else max c (ext sd w h-c)-1-p) (fun j=>hA sd.up T j q) else hA sd.up T (c+(if sd.near then p else max c (ext sd w h-c)-1-p)) q)=mv at *
   generalize (if sd.near then hA sd.up T (c+(if sd.near then p else max c (ext sd w h-c)-1-p)) q else bY c (if sd.near then p else max c (ext sd w h-c)-1-p) (fun j=>hA sd.up T j q))=st at *
   have mvO':(dP sd.up mv).Pairwise (fun a b=>az (sp.map (bK sd over c (max c (ext sd w h-c)) top low)) b.1<az (sp.map (bK sd over c (max c (ext sd w h-c)) top low)) a.1):=by
    unfold dP;rw[List.pairwise_map,List.pairwise_reverse];refine mvO.imp_of_mem fun {a b} ha hb k=>?_
    rw[oZ,oZ,(mvZ ha).1,(mvZ hb).1];split<;>omega
   have stO':st.Pairwise (fun a b=>az (sp.map (bK sd over c (max c (ext sd w h-c)) top low)) b.1<az (sp.map (bK sd over c (max c (ext sd w h-c)) top low)) a.1):=
    stO.imp_of_mem fun {a b} ha hb k=>by rw[(stZ ha).1,(stZ hb).1];exact k
   have mvM:∀{d:Cell},d∈dP sd.up mv→az (sp.map (bK sd over c (max c (ext sd w h-c)) top low)) d.1=(if over then 2*top+1-az sp d.1 else 2*low-1-az sp d.1)∧az sp d.1≤top∧low≤az sp d.1:=fun {d} hd=>by
    have:=mvZ (sO.mp hd)
    rw[oZ]at this;exact this
   unfold nY;cases over with
   |true =>
    refine List.pairwise_append.mpr ⟨mvO',stO',fun a ha b hb=>?_⟩
    have k1:=mvM ha
    have k2:=stZ hb
    rw[k1.1,k2.1];simp only[if_true];omega
   |false =>
    refine List.pairwise_append.mpr ⟨stO',mvO',fun a ha b hb=>?_⟩
    have k1:=mvM hb
    have k2:=stZ ha
    rw[k1.1,k2.1];simp only[lr,if_false];omega
  ·have r':=r.foldT (over:=over) h1 h2
   rw[uY r' (by unfold ext;unfold ext at hp;cases hu:sd.up<;>rw[hu]at hp<;>simp only[if_true,lr,if_false]at hp ⊢<;>omega)]
   exact List.Pairwise.nil
end
end Pg
theorem fT{x y:Int×Int}:fk x y=true↔x.1<y.1∨(x.1=y.1∧x.2<y.2):=by
 unfold fk;simp only[or_eq_true,ly,mj,nu]
theorem JI{x y:Int×Int}:fk x y=false↔¬(x.1<y.1∨(x.1=y.1∧x.2<y.2)):=by rw[←fT,Bool.not_eq_true]
theorem jZ(x:Int×Int):∀l:List (Int×Int),(uW x l).Perm (x::l)
 |[]=>List.Perm.refl _
 |y::r=>by
  unfold uW;split
  ·exact List.Perm.refl _
  ·exact((jZ x r).cons y).trans (List.Perm.swap x y r)
theorem fS:∀l:List (Int×Int),(lI l).Perm l
 |[]=>List.Perm.refl _
 |x::r=>(jZ x _).trans ((fS r).cons x)
theorem kH{x:Int×Int}:∀{l:List (Int×Int)},l.Pairwise (fun a b=>fk a b=true)→x∉l→(uW x l).Pairwise (fun a b=>fk a b=true)
 |[],_,_=>by unfold uW;simp
 |y::r,h,n=>by
  obtain⟨h1,h2⟩:=List.pairwise_cons.mp h;unfold uW;split
  ·rename_i e;refine List.pairwise_cons.mpr ⟨fun z hz=>?_,h⟩
   rcases my.mp hz with rfl|hz
   ·exact e
   ·have:=h1 z hz
    rw[fT]at this e ⊢;omega
  ·rename_i e;rw[Bool.not_eq_true]at e;refine List.pairwise_cons.mpr ⟨fun z hz=>?_,kH h2 fun z=>n (lu _ z)⟩
   rcases my.mp ((jZ x r).mem_iff.mp hz) with rfl|hz
   ·have cN:z≠y:=fun q=>n (by rw[q];simp)
    rw[JI]at e;rw[fT];have:¬(z.1=y.1∧z.2=y.2):=fun q=>cN (Prod.ext q.1 q.2)
    omega
   ·exact h1 z hz
theorem iQ:∀{l:List (Int×Int)},l.Nodup→(lI l).Pairwise (fun a b=>fk a b=true)
 |[],_=>List.Pairwise.nil
 |x::r,h=>by
  obtain⟨h1,h2⟩:=nodup_cons.mp h;exact kH (iQ h2) fun z=>h1 ((fS r).mem_iff.mp z)
theorem BM{l m:List (Int×Int)}(p:m.Perm l)(h:m.Pairwise (fun a b=>fk a b=true)):m=lI l:=by
 have nd:m.Nodup:=h.imp fun {a b} e q=>by subst q;rw[fT]at e;omega
 exact List.Perm.eq_of_pairwise (fun a b _ _ e1 e2=>by rw[fT]at e1 e2;omega) h (iQ (p.nodup_iff.mp nd)) (p.trans (fS l).symm)
theorem nV:∀(r:List Int) (m:Int),(jV m r=m∨jV m r∈r)∧m≤jV m r∧∀a∈r,a≤jV m r
 |[],m=>⟨.inl rfl,Int.le_refl _,fun a h=>by simp at h⟩
 |x::r,m=>by
  obtain⟨h1,h2,h3⟩:=nV r (if x > m then x else m)
  show (jV (if x > m then x else m) r=m∨_)∧m≤jV (if x > m then x else m) r∧_
  have e:jV m (x::r)=jV (if x > m then x else m) r:=rfl
  rw[e];refine⟨?_,?_,fun a ha=>?_⟩
  ·rcases h1 with h|h
   ·split at h
    ·rename_i hx;rw[if_pos hx,h];exact .inr (by simp)
    ·rename_i hx;rw[if_neg hx,h];exact .inl rfl
   ·exact .inr (lu _ h)
  ·split at h2
   ·rename_i hx;rw[if_pos hx];omega
   ·rename_i hx;rw[if_neg hx];exact h2
  ·rcases my.mp ha with rfl|ha
   ·split at h2
    ·rename_i hx;rw[if_pos hx];exact h2
    ·rename_i hx;rw[if_neg hx];omega
   ·exact h3 a ha
theorem nU:∀(r:List Int) (m:Int),(lR m r=m∨lR m r∈r)∧lR m r≤m∧∀a∈r,lR m r≤a
 |[],m=>⟨.inl rfl,Int.le_refl _,fun a h=>by simp at h⟩
 |x::r,m=>by
  obtain⟨h1,h2,h3⟩:=nU r (if x<m then x else m)
  have e:lR m (x::r)=lR (if x<m then x else m) r:=rfl
  rw[e];refine⟨?_,?_,fun a ha=>?_⟩
  ·rcases h1 with h|h
   ·split at h
    ·rename_i hx;rw[if_pos hx,h];exact .inr (by simp)
    ·rename_i hx;rw[if_neg hx,h];exact .inl rfl
   ·exact .inr (lu _ h)
  ·split at h2
   ·rename_i hx;rw[if_pos hx];omega
   ·rename_i hx;rw[if_neg hx];exact h2
  ·rcases my.mp ha with rfl|ha
   ·split at h2
    ·rename_i hx;rw[if_pos hx];exact h2
    ·rename_i hx;rw[if_neg hx];omega
   ·exact h3 a ha
namespace Pg
noncomputable def eW(c r:Nat):List Spot:=(List.range (c*r)).map fun k=>⟨k % c,k / c,0,false,false⟩
section
variable {G:GS}
theorem iY{c r x y:Nat}:aj (fG c r) x y=if x<c∧y<r then [(((y*c+x:Nat):Int),false,false)] else []:=by
 unfold aj fG
 by_cases hy:y<r
 ·have e1:((List.range r).map fun y=>(List.range c).map fun x=>[(((y*c+x:Nat):Int),false,false)]).getD y []=(List.range c).map fun x=>[(((y*c+x:Nat):Int),false,false)]:=by
   rw[l4,l9,oj hy];rfl
  rw[e1]
  by_cases hx:x<c
  ·rw[if_pos ⟨hx,hy⟩,l4,l9,oj hx];rfl
  ·rw[if_neg (fun z=>hx z.1)]
   exact getD_none (by rw[la,ml];omega)
 ·rw[if_neg (fun z=>hy z.2),getD_none (l:=List.map _ _) (by rw[la,ml];omega)]
  simp
theorem LC{c r:Nat}(hc:1≤c):Lk (fG c r) (eW c r):=by
 have get:∀{i:Nat} {s:Spot},(eW c r)[i]?=some s↔i<c*r∧s=⟨i % c,i / c,0,false,false⟩:=fun {i s}=>by
  unfold eW;rw[l9]
  by_cases hi:i<c*r
  ·rw[oj hi];simp only[oe,l5,hi,true_and];exact eq_comm
  ·rw[List.getElem?_eq_none (by rw[ml];omega)]
   simp[hi]
 refine⟨fun x y d=>?_,fun x y=>?_⟩
 ·rw[iY];constructor
  ·intro h;split at h
   ·rename_i ig;have e:d=(((y*c+x:Nat):Int),false,false):=by simpa using h
    have h1:(y*c+x) % c=x:=by rw[Nat.add_comm,Nat.add_mul_mod_self_right];exact Nat.mod_eq_of_lt ig.1
    have h2:(y*c+x) / c=y:=by rw[Nat.add_comm,Nat.add_mul_div_right _ _ (by omega),Nat.div_eq_of_lt ig.1];omega
    refine⟨y*c+x,_,get.mpr ⟨?_,rfl⟩,h1,h2,e⟩;have:(y+1)*c≤r*c:=Nat.mul_le_mul_right c (by omega)
    rw[Nat.add_mul,Nat.one_mul]at this;rw[mul_comm c r];omega
   ·cases h
  ·rintro⟨i,s,a1,rfl,rfl,a4⟩;obtain⟨hi,rfl⟩:=get.mp a1;have h1:i % c<c:=Nat.mod_lt _ (by omega)
   have h2:i / c<r:=by rw[Nat.div_lt_iff_lt_mul (by omega),mul_comm];exact hi
   rw[if_pos ⟨h1,h2⟩,a4];have:=Nat.div_add_mod i c
   rw[mul_comm]at this;simp[this]
 ·rw[iY];split
  ·simp
  ·exact List.Pairwise.nil
theorem mE{c r:Nat}:(eW c r).length=c*r:=by unfold eW;simp
theorem TB{ρ:List Sl}{x:Nat}{k e:IE}{d:D}{i:Int}{ds:List D}{j:Nat}(h1:ev G e ρ=some d)(h2:ev G k ρ=some (.int i))(h3:ρ[x]?=some (.mu (.lst ds)))(h4:ixN ds.length i=some j):ex G (.put x k e) ρ=some (.nx (ρ.set x (.mu (.lst (ds.set j d))))):=by
 show (bu G e ρ).bind (fun d=>(intOf (bu G k ρ)).bind fun i=>_)=_
 rw[iI h1,iI h2];show (match ρ[x]? with|some (.mu o)=>_|_=>_)=_
 rw[h3];show Option.map _ (Option.map _ (ixN ds.length i))=_
 rw[h4];rfl
end
section
variable {G:GS}
theorem kQ{α:Type}{a b c:α}:atI [a,b,c] 0=some a∧atI [a,b,c] 1=some b∧atI [a,b,c] 2=some c:=⟨rfl,rfl,rfl⟩
noncomputable def isAt(x y:Nat)(s:Spot):Bool:=(s.x == x)&&(s.y == y)
noncomputable def pP(sp:List Spot)(x y i:Nat):Option (Int×Int):=match sp[i]? with
 |some s=>if isAt x y s then some (0-s.z,(i:Int)) else none
 |none=>none
noncomputable def lay(sp:List Spot)(x y k:Nat):List (Int×Int):=(List.range k).filterMap (pP sp x y)
theorem DN{sp:List Spot}{x y k:Nat}:lay sp x y (k+1)=lay sp x y k++(pP sp x y k).toList:=by
 unfold lay;rw[List.range_succ,List.filterMap_append]
 congr 1
noncomputable def zZ(sp:List Spot)(c:Cell):Int×Int:=(0-az sp c.1,c.1)
theorem KN{sp:List Spot}{x y:Nat}{p:Int×Int}:p∈lay sp x y sp.length↔∃(i:Nat) (s:Spot),sp[i]?=some s∧s.x=x∧s.y=y∧p=(0-s.z,(i:Int)):=by
 unfold lay;rw[mem_filterMap];constructor
 ·rintro⟨i,hi,e⟩;unfold pP at e;split at e
  ·rename_i s hs;split at e
   ·rename_i ig;cases e;unfold isAt at ig;rw[ly,nu,nu]at ig;exact⟨i,s,hs,ig.1,ig.2,rfl⟩
   ·cases e
  ·cases e
 ·rintro⟨i,s,hs,rfl,rfl,rfl⟩;refine⟨i,oy.mpr (l0.mp hs).1,?_⟩;unfold pP isAt;rw[hs];simp
theorem zV{sp:List Spot}{x y k:Nat}:(lay sp x y k).Nodup:=by
 have h2:∀{i:Nat} {p:Int×Int},pP sp x y i=some p→p.2=i:=fun {i p} e=>by
  unfold pP at e;split at e
  ·split at e
   ·cases e;rfl
   ·cases e
  ·cases e
 induction k with
 |zero=>exact List.nodup_nil
 |succ k ih =>
  rw[DN];refine List.nodup_append.mpr ⟨ih,?_,fun a ha b hb=>?_⟩
  ·cases pP sp x y k<;>simp
  ·have hb':pP sp x y k=some b:=by simpa using hb
   unfold lay at ha;obtain⟨i,hi,e⟩:=mem_filterMap.mp ha;intro z;have q1:=h2 e
   have q2:=h2 hb'
   rw[z]at q1;have:=oy.mp hi
   omega
theorem DO{T:Table}{sp:List Spot}(L:Lk T sp){x y:Nat}:lI (lay sp x y sp.length)=(aj T x y).map (zZ sp):=by
 have pw:((aj T x y).map (zZ sp)).Pairwise (fun a b=>fk a b=true):=by
  rw[List.pairwise_map];refine(L.ord x y).imp fun {a b} h=>?_
  rw[fT];unfold zZ;exact .inl (by dsimp only;omega)
 have nd:((aj T x y).map (zZ sp)).Nodup:=pw.imp fun {a b} e q=>by subst q;rw[fT]at e;omega
 refine(BM ?_ pw).symm;refine(List.perm_ext_iff_of_nodup nd zV).mpr fun p=>?_
 rw[KN,nv];constructor
 ·rintro⟨c,hc,rfl⟩;obtain⟨i,s,a1,a2,a3,a4⟩:=(L.mem x y c).mp hc;refine⟨i,s,a1,a2,a3,?_⟩;subst a4;unfold zZ;dsimp only;rw[oW a1]
 ·rintro⟨i,s,a1,a2,a3,rfl⟩;refine⟨((i:Int),s.e,s.n),(L.mem x y _).mpr ⟨i,s,a1,a2,a3,rfl⟩,?_⟩;unfold zZ;dsimp only;rw[oW a1]
theorem KO{T:Table}{sp:List Spot}(L:Lk T sp){x y:Nat}:(lay sp x y sp.length).length=(aj T x y).length:=by
 rw[←(fS _).length_eq,DO L,la]
theorem ET{ρ:List Sl}{x:Nat}{e:IE}{d:D}{ds:List D}(h1:ev G e ρ=some d)(h2:ρ[x]?=some (.mu (.lst ds)))(h3:ds.length<1000000):ex G (.app x e) ρ=some (.nx (ρ.set x (.mu (.lst (ds++[d]))))):=by
 show (bu G e ρ).bind _=_
 rw[iI h1];show (match ρ[x]? with|some (.mu (.lst ds))=>_|_=>_)=_
 rw[h2];exact if_pos h3
theorem aZ{b:Bool}:b8 (.bl b)=some b:=rfl
structure Fold where
 sd:Side
 over:Bool
 k:Nat
noncomputable def Fold.d(f:Fold):D:=eI f.sd f.over f.k
end
structure Sits (T:Table) (w h:Nat) (sp:List Spot):Prop where
 lk:Lk T sp
 rect:Rect T w h
 full:iC T
 w64:w≤64
 h64:h≤64
 len:sp.length≤64
section
variable {G:GS}{T:Table}{w h:Nat}{sp:List Spot}
theorem Sits.xlt(S:Sits T w h sp){s:Spot}(hs:s∈sp):s.x<w:=by
 obtain⟨i,hi,rfl⟩:=List.getElem_of_mem hs;exact S.lk.al_lt S.rect .west (l8 hi)
theorem Sits.ylt(S:Sits T w h sp){s:Spot}(hs:s∈sp):s.y<h:=by
 obtain⟨i,hi,rfl⟩:=List.getElem_of_mem hs;exact S.lk.al_lt S.rect .north (l8 hi)
theorem Lk.short(L:Lk T sp){x y:Nat}:(aj T x y).length≤sp.length:=by
 rw[←KO L];unfold lay;have:=List.length_filterMap_le (pP sp x y) (List.range sp.length)
 rwa [ml]at this
theorem Sits.few(S:Sits T w h sp):nI 64 T:=by
 intro s hs hp hm;obtain⟨y,hy,rfl⟩:=List.getElem_of_mem hs;obtain⟨x,hx,rfl⟩:=List.getElem_of_mem hm;have e:aj T x y=T[y][x]:=by
  unfold aj;rw[l4 (l:=T),l8 hy];simp[hx]
 rw[←e];exact mw S.lk.short S.len
theorem Sits.fold(S:Sits T w h sp){sd:Side}{over:Bool}{c:Nat}{top low:Int}(h1:1≤c)(h2:c<ext sd w h)(ht:∀s∈sp,s.z≤top)(hl:∀s∈sp,low≤s.z) :
  Sits (foldT sd over c T) (if sd.up then max c (w-c) else w) (if sd.up then h else max c (h-c)) (sp.map (bK sd over c (max c (ext sd w h-c)) top low)):=by
 have a:=S.w64
 have b:=S.h64
 have h2':c<if sd.up then w else h:=h2
 refine⟨S.lk.fold S.rect h1 h2 ht hl,S.rect.foldT h1 h2,S.full.foldT S.rect h1 h2,?_,?_,by rw[la];exact S.len⟩
 ·split
  ·rename_i hu;rw[if_pos hu]at h2';omega
  ·exact a
 ·split
  ·exact b
  ·rename_i hu;rw[if_neg hu]at h2';omega
theorem AJ{c r:Nat}(hc:1≤c)(hr:1≤r)(bj:c*r≤64):Sits (fG c r) c r (eW c r):=
 ⟨LC hc,AK hc hr,AL,mw (Nat.le_mul_of_pos_right c hr) bj,mw (Nat.le_mul_of_pos_left r hc) bj,by rw[mE];exact bj⟩
end
end Pg
theorem cR{i k:Int}{d:D}{r:List (Int×D)}:cV ((i,d)::r) k=if i=k then some d else cV r k:=by
 unfold cV
 by_cases e:i=k
 ·rw[List.find?_cons_of_pos (by simpa using e),if_pos e];rfl
 ·rw[List.find?_cons_of_neg (by simpa using e),if_neg e]
theorem rM{k:Int}:∀{kvs:List (Int×D)},(kvs.any fun kv=>decide (kv.1=k))=(cV kvs k).isSome
 |[]=>rfl
 | (i,d)::r=>by
  rw[any_cons,cR,rM (kvs:=r)]
  by_cases e:i=k
  ·rw[if_pos e,nq e];rfl
  ·rw[if_neg e,lp e];rfl
theorem lA{k j:Int}{d:D}:∀{kvs:List (Int×D)},cV (kvs.map fun kv=>if kv.1=k then(kv.1,d) else kv) j=if j=k then(cV kvs j).map fun _=>d else cV kvs j
 |[]=>by
  show none=_
  split<;>rfl
 | (i,e)::r=>by
  rw[nj]
  by_cases h:i=k
  ·rw[if_pos h,cR,cR,lA (kvs:=r)]
   by_cases g:i=j
   ·rw[if_pos g,if_pos g,if_pos (g.symm.trans h)];rfl
   ·rw[if_neg g,if_neg g]
  ·rw[if_neg h,cR,cR,lA (kvs:=r)]
   by_cases g:i=j
   ·rw[if_pos g,if_pos g,if_neg (fun z=>h (g.trans z))]
   ·rw[if_neg g,if_neg g]
theorem nK{k j:Int}{d:D}:∀{kvs:List (Int×D)},cV (kvs++[(k,d)]) j=(cV kvs j).or (if k=j then some d else none)
 |[]=>by
  rw[List.nil_append,cR];split<;>rfl
 | (i,e)::r=>by
  rw[List.cons_append,cR,cR,nK (kvs:=r)];split<;>rfl
theorem rL{kvs:List (Int×D)}{k j:Int}{d:D}:cV (jN kvs k d) j=if j=k then some d else cV kvs j:=by
 unfold jN;rw[rM]
 by_cases h:(cV kvs k).isSome=true
 ·rw[if_pos h,lA]
  by_cases e:j=k
  ·subst e;rw[if_pos rfl,if_pos rfl];obtain⟨x,hx⟩:=Option.isSome_iff_exists.mp h;rw[hx];rfl
  ·rw[if_neg e,if_neg e]
 ·rw[if_neg h,nK]
  by_cases e:j=k
  ·subst e;rw[if_pos rfl,if_pos rfl,Option.not_isSome_iff_eq_none.mp h];rfl
  ·rw[if_neg e,if_neg (Ne.symm e)];cases cV kvs j<;>rfl
theorem BZ{kvs:List (Int×D)}{k:Int}{d:D}:(jN kvs k d).length≤kvs.length+1:=by
 unfold jN;split
 ·rw[la];omega
 ·rw[nc];exact lj _
theorem LX{G:GS}{ρ:List Sl}{x:Nat}{k e:IE}{d:D}{i:Int}{kvs:List (Int×D)}(h1:ev G e ρ=some d)(h2:ev G k ρ=some (.int i))(h3:ρ[x]?=some (.mu (.dct kvs)))(h4:kvs.length<1000000):ex G (.put x k e) ρ=some (.nx (ρ.set x (.mu (.dct (jN kvs i d))))):=by
 show (bu G e ρ).bind (fun d=>(intOf (bu G k ρ)).bind fun i=>_)=_
 rw[iI h1,iI h2];show (match ρ[x]? with|some (.mu o)=>_|_=>_)=_
 rw[h3];show Option.map _ (if kvs.length<big then some (D.dct (jN kvs i d)) else none)=_
 rw[if_pos (by unfold big;exact h4)];rfl
theorem LW{G:GS}{ρ:List Sl}{x:Nat}:ex G (.setd x) ρ=some (.nx (ρ.set x (.mu (.dct [])))):=id rfl
theorem iZ{G:GS}{ρ:List Sl}{x:Nat}{d:D}(h:ρ[x]?=some (.mu d)):ex G (.retm x) ρ=some (.rt d):=by
 show (match ρ[x]? with|some (.mu d)=>some (Out.rt d)|_=>none)=_
 rw[h]
namespace Pg
section
variable {G:GS}{T:Table}{w h:Nat}{sp:List Spot}
noncomputable def gP(s:Spot):Int:=if s.e then s.x else s.x+1
noncomputable def gF(s:Spot):Int:=if s.n then s.y else s.y+1
noncomputable def gH(s:Spot):D:=.tup [.int (gP s),.int (gF s)]
noncomputable def vK:IS:=(.put 1 (.var 4) (.tup (.cons (.ite (.tr (.var 5)) (.var 3) (.bin .add (.var 3) (.lit (.int 1)))) (.cons (.ite (.tr (.var 6)) (.var 2) (.bin .add (.var 2) (.lit (.int 1)))) .nil))))
noncomputable def yL:IS:=(.loop [4,5,6] true .seq (.meth (.var 0) "heap" (.cons (.var 3) (.cons (.var 2) .nil))) vK)
noncomputable def rF:IS:=(.loop [3] false .rng (.tup (.cons (.fld (.var 0) "wide") .nil)) yL)
noncomputable def eM:IS:=(.seq (.setd 1) (.seq (.loop [2] false .rng (.tup (.cons (.fld (.var 0) "high") .nil)) rF) (.retm 1)))
structure Lines (sp:List Spot) (kvs:List (Int×D)) (n:Nat) (P:Nat→Spot→Prop):Prop where
 ok:∀(k:Int) (d:D),cV kvs k=some d→∃(i:Nat) (s:Spot),k=i∧sp[i]?=some s∧d=gH s
 has:∀(i:Nat) (s:Spot),sp[i]?=some s→P i s→(cV kvs i).isSome=true
 len:kvs.length≤n
theorem Lines.put{kvs:List (Int×D)}{n:Nat}{P Q:Nat→Spot→Prop}(L:Lines sp kvs n P){i:Nat}{s:Spot}(hs:sp[i]?=some s)(h:∀j t,sp[j]?=some t→Q j t→P j t∨j=i):Lines sp (jN kvs i (gH s)) (n+1) Q:=by
 refine⟨fun k d e=>?_,fun j t ht hq=>?_,mw BZ (Nat.succ_le_succ L.len)⟩
 ·rw[rL]at e
  by_cases z:k=i
  ·rw[if_pos z]at e;cases e;exact⟨i,s,z,hs,rfl⟩
  ·rw[if_neg z]at e;exact L.ok k d e
 ·rw[rL]
  by_cases z:(j:Int)=i
  ·rw[if_pos z];rfl
  ·rw[if_neg z]
   rcases h j t ht hq with g|g
   ·exact L.has j t ht g
   ·exact absurd (by rw[g]) z
theorem Lines.mono{kvs:List (Int×D)}{n m:Nat}{P Q:Nat→Spot→Prop}(L:Lines sp kvs n P)(hm:n≤m)(h:∀j t,sp[j]?=some t→Q j t→P j t):Lines sp kvs m Q:=
 ⟨L.ok,fun i s hs hq=>L.has i s hs (h i s hs hq),mw L.len hm⟩
theorem Lines.at_{kvs:List (Int×D)}{n:Nat}{P:Nat→Spot→Prop}(L:Lines sp kvs n P){i:Nat}{s:Spot}(hs:sp[i]?=some s)(hp:P i s):cV kvs i=some (gH s):=by
 obtain⟨d,hd⟩:=Option.isSome_iff_exists.mp (L.has i s hs hp);obtain⟨j,t,e,ht,rfl⟩:=L.ok _ _ hd;have:j=i:=by exact_mod_cast e.symm
 subst this;rw[hs]at ht;cases ht;exact hd
noncomputable def cv(P:D)(kvs:List (Int×D))(a b c d e:Sl):List Sl:=[.im P,.mu (.dct kvs),a,b,c,d,e]
theorem nD(hf:G.fl "Pile" = b9)
  (hhp:∀(c r w h:Nat) (T:Table) (F S:List D) (x y:Nat),Rect T w h→x<w→y<h→G.me "Pile" "heap" [aL c r w h T F S,.int x,.int y]=some (.ok (hE (aj T x y))))
  {c r:Nat} {F C:List D} (S:Sits T w h sp):∃kvs,aP G 7 eM [aL c r w h T F C]=some (.ok (.dct kvs))∧∀(i:Nat) (s:Spot),sp[i]?=some s→cV kvs i=some (gH s):=by
 have w64:=S.w64
 have h64:=S.h64
 have e0:∀r',ev G (.var 0) (.im (aL c r w h T F C)::r')=some (bL c r w h (T.map sE) F C):=fun _=>by simp only[zz,yy];rfl
 have cells:∀(x y n:Nat) (kvs:List (Int×D)) (P:Nat→Spot→Prop) (s4 s5 s6:Sl),x<w→y<h→n+64<1000000→Lines sp kvs n P →
   ∃ρ',eG (bB [4,5,6] true) (ex G vK) ((aj T x y).map cj) (cv (aL c r w h T F C) kvs (.im (.int y)) (.im (.int x)) s4 s5 s6)=some (.nx ρ')∧∃ai t4 t5 t6,ρ'=cv (aL c r w h T F C) ai (.im (.int y)) (.im (.int x)) t4 t5 t6∧Lines sp ai (n+64) (fun i s=>P i s∨(s.x=x∧s.y=y)):=by
  intro x y n kvs P s4 s5 s6 hx hy hn L;have hl:(aj T x y).length≤64:=mw S.lk.short S.len
  obtain⟨ρ',a,ai,t4,t5,t6,b,L'⟩:=dU (bind:=bB [4,5,6] true) (body:=ex G vK) (fun k ρ=>∃ai t4 t5 t6,ρ=cv (aL c r w h T F C) ai (.im (.int y)) (.im (.int x)) t4 t5 t6∧Lines sp ai (n+k) (fun i s=>P i s∨((i:Int),s.e,s.n)∈(aj T x y).take k))
   (ds:=(aj T x y).map cj) (k:=0) (ρ:=cv (aL c r w h T F C) kvs (.im (.int y)) (.im (.int x)) s4 s5 s6) ⟨kvs,s4,s5,s6,rfl,L.mono (by omega) fun j t _ q=>q.elim id fun z=>by simp at z⟩ (by
    rintro k d ρ hd ⟨ai,t4,t5,t6,rfl,L'⟩;rw[l9]at hd;obtain⟨cl,ao,rfl⟩:=ma.mp hd;have hk:k<(aj T x y).length:=(l0.mp ao).1
    obtain⟨i,s,hs,sx,sy,rfl⟩:=(S.lk.mem x y cl).mp (l6 ao);refine⟨cv (aL c r w h T F C) ai (.im (.int y)) (.im (.int x)) (.im (.int i)) (.im (.bl s.e)) (.im (.bl s.n)),rfl,_,LX (kvs:=ai) (i:=i) (d:=gH s) ?_ ?_ rfl (by have:=L'.len;omega),jN ai i (gH s),_,_,_,rfl,?_⟩
    ·unfold cv gH gP gF;rw[sx,sy];cases s.e<;>cases s.n<;>(simp only[zz,yy,aA,aB,aZ];rfl)
    ·unfold cv;simp only[zz,yy]
    ·refine(L'.put hs fun j t ht q=>?_).mono (by omega) fun _ _ _ q=>q
     rcases q with q|q
     ·exact .inl (.inl q)
     ·rw[mG,oq,ao]at q
      rcases mem_append.mp q with q|q
      ·exact .inl (.inr (by rw[mG];exact q))
      ·refine .inr ?_;have q:((j:Int),t.e,t.n)=((i:Int),s.e,s.n):=by simpa using q
       have q:(j:Int)=i:=congrArg (·.1) q
       exact_mod_cast q)
  refine⟨ρ',a,ai,t4,t5,t6,b,L'.mono (by rw[la];omega) fun j t ht q=>q.imp id fun⟨q1,q2⟩=>?_⟩
  rw[la,mG,List.take_length];exact(S.lk.mem x y _).mpr ⟨j,t,ht,q1,q2,rfl⟩
 have row:∀(y n:Nat) (kvs:List (Int×D)) (P:Nat→Spot→Prop) (s3 s4 s5 s6:Sl),y<h→n+64*64+64<1000000→Lines sp kvs n P →
   ∃ρ',ex G rF (cv (aL c r w h T F C) kvs (.im (.int y)) s3 s4 s5 s6)=some (.nx ρ')∧∃ai t3 t4 t5 t6,ρ'=cv (aL c r w h T F C) ai (.im (.int y)) t3 t4 t5 t6∧Lines sp ai (n+64*64) (fun i s=>P i s∨s.y=y):=by
  intro y n kvs P s3 s4 s5 s6 hy hn L;obtain⟨ρ',a,ai,t3,t4,t5,t6,b,L'⟩:=dU (bind:=bB [3] false) (body:=ex G yL) (fun k ρ=>∃ai t3 t4 t5 t6,ρ=cv (aL c r w h T F C) ai (.im (.int y)) t3 t4 t5 t6∧Lines sp ai (n+k*64) (fun i s=>P i s∨(s.y=y∧s.x<k)))
   (ds:=(List.range w).map fun (k:Nat)=>D.int k) (k:=0) (ρ:=cv (aL c r w h T F C) kvs (.im (.int y)) s3 s4 s5 s6) ⟨kvs,s3,s4,s5,s6,rfl,L.mono (by omega) fun j t _ q=>q.elim id fun z=>by omega⟩ (by
    rintro x d ρ hd ⟨ai,t3,t4,t5,t6,rfl,L'⟩;rw[l9]at hd;obtain⟨x',d0,rfl⟩:=ma.mp hd;have hx:x<w:=by have:=(l0.mp d0).1;rwa [ml]at this
    obtain rfl:x=x':=by rw[oj hx]at d0;exact lz d0
    rw[mG]at L';have bx:n+x*64+64<1000000:=by have:x*64≤64*64:=Nat.mul_le_mul_right 64 (by omega);omega
    obtain⟨ρ2,l2,kvs2,u4,u5,u6,rfl,L2⟩:=cells x y _ ai _ t4 t5 t6 hx hy bx L';refine⟨cv (aL c r w h T F C) ai (.im (.int y)) (.im (.int x)) t4 t5 t6,rfl,_,(dH (d:=hE (aj T x y)) ?_ fV).trans l2,kvs2,_,u4,u5,u6,rfl,L2.mono (by omega) fun j t ht q=>?_⟩
    ·exact CO (c:=c) (r:=r) (w:=w) (h:=h) (T:=T.map sE) (F:=F) (S:=C) (ds:=[.int x,.int y]) rfl (e0 _) (by simp only[zz,yy,aA,aB]) (hhp c r w h T F C x y S.rect hx hy)
    ·rcases q with q|⟨q1,q2⟩
     ·exact .inl (.inl q)
     ·by_cases z:t.x=x
      ·exact .inr ⟨z,q1⟩
      ·exact .inl (.inr ⟨q1,by omega⟩))
  refine⟨ρ',(dH (d:=.tup [.int ((w:Nat):Int)]) ?_ (dZ (by omega))).trans a,ai,t3,t4,t5,t6,b,L'.mono ?_ fun j t ht q=>q.imp id fun q=>⟨q,?_⟩⟩
  ·unfold cv;rw[kA,bO,jQ hf (e0 _)];simp only[zz,yy,aA,aB]
  ·rw[la,ml];have:(0+w)*64≤64*64:=Nat.mul_le_mul_right 64 (by omega)
   omega
  ·rw[la,ml,mG];exact S.xlt (l6 ht)
 obtain⟨ρ',a,ai,t2,t3,t4,t5,t6,rfl,L'⟩:=dU (bind:=bB [2] false) (body:=ex G rF) (fun k ρ=>∃ai t2 t3 t4 t5 t6,ρ=cv (aL c r w h T F C) ai t2 t3 t4 t5 t6∧Lines sp ai (k*(64*64)) (fun i s=>s.y<k))
  (ds:=(List.range h).map fun (k:Nat)=>D.int k) (k:=0) (ρ:=cv (aL c r w h T F C) [] .un .un .un .un .un) ⟨[],.un,.un,.un,.un,.un,rfl,⟨fun _ _ z=>(nomatch (show none=some _ from z)),fun _ _ _ z=>absurd z (Nat.not_lt_zero _),oz _⟩⟩ (by
   rintro y d ρ hd ⟨ai,t2,t3,t4,t5,t6,rfl,L'⟩;rw[l9]at hd;obtain⟨y',cH,rfl⟩:=ma.mp hd;have hy:y<h:=by have:=(l0.mp cH).1;rwa [ml]at this
   obtain rfl:y=y':=by rw[oj hy]at cH;exact lz cH
   rw[mG]at L';have by_:y*(64*64)+64*64+64<1000000:=by have:y*(64*64)≤64*(64*64):=Nat.mul_le_mul_right _ (by omega);omega
   obtain⟨ρ2,l2,kvs2,u3,u4,u5,u6,rfl,L2⟩:=row y _ ai _ t3 t4 t5 t6 hy by_ L';exact⟨cv (aL c r w h T F C) ai (.im (.int y)) t3 t4 t5 t6,rfl,_,l2,kvs2,_,u3,u4,u5,u6,rfl,L2.mono (by omega) fun j t ht q=>by omega⟩)
 refine⟨ai,aJ (ρ:=[.im (aL c r w h T F C),.un,.un,.un,.un,.un,.un]) rfl (aH LW (aH ((dH (d:=.tup [.int ((h:Nat):Int)]) ?_ (dZ (by omega))).trans a) (iZ rfl))),fun i s hs=>L'.at_ hs ?_⟩
 ·simp only[List.set];rw[kA,bO,jS hf (e0 _)];simp only[zz,yy,aA,aB]
 ·rw[la,ml,mG];exact S.ylt (l6 hs)
end
end Pg
theorem BP{α:Type}{l:List α}{x:Nat}{a:α}(h:l[x]?=some a):l.set x a=l:=by
 apply List.ext_getElem?;intro i
 by_cases e:x=i
 ·subst e;rw[mn (l0.mp h).1,h]
 ·rw[mq e]
theorem jA{G:GS}{ρ:List Sl}{x:Nat}{t e:IE}{b:Bool}{d:D}{ds:List D}(ht:ev G t (view ρ)=some (.bl b))(he:ev G e ρ=some d)(hx:ρ[x]?=some (.mu (.lst ds)))(hl:ds.length<1000000):ex G (.iff t (.app x e) .nop) ρ=some (.nx (ρ.set x (.mu (.lst (ds++if b then [d] else []))))):=by
 cases b with
 |true=>exact kO ht (Pg.ET he hx hl)
 |false =>
  rw[dI ht aY,if_neg (by decide),nh,BP hx]
theorem fQ{bind:D→List Sl→Option (List Sl)}{body:List Sl→Option Out}(P:Nat→List Sl→Prop){n:Nat}{ρ:List Sl}(h0:P 0 ρ)(st:∀k,k<n→∀ρ,P k ρ→∃ρ1,bind (.int (k:Nat)) ρ=some ρ1∧∃ρ2,body ρ1=some (.nx ρ2)∧P (k+1) ρ2) :
  ∃ρ',eG bind body ((List.range n).map fun (k:Nat)=>D.int k) ρ=some (.nx ρ')∧P n ρ':=by
 obtain⟨ρ',a,b⟩:=dU (bind:=bind) (body:=body) P (ds:=(List.range n).map fun (k:Nat)=>D.int k) (k:=0) h0 fun k d ρ hd hp=>by
  rw[l9]at hd;obtain⟨k',kb,rfl⟩:=ma.mp hd;have hk:k<n:=by have:=(l0.mp kb).1;rwa [ml]at this
  obtain rfl:k=k':=by rw[oj hk]at kb;exact lz kb
  rw[mG]at hp ⊢;exact st k hk ρ hp
 exact⟨ρ',a,by rw[la,ml,mG]at b;exact b⟩
theorem oG{α:Type}{enc:α→D}{bind:D→List Sl→Option (List Sl)}{body:List Sl→Option Out}(P:Nat→List Sl→Prop){L:List α}{ρ:List Sl}(h0:P 0 ρ)(st:∀k a,L[k]?=some a→∀ρ,P k ρ→∃ρ1,bind (enc a) ρ=some ρ1∧∃ρ2,body ρ1=some (.nx ρ2)∧P (k+1) ρ2) :
  ∃ρ',eG bind body (L.map enc) ρ=some (.nx ρ')∧P L.length ρ':=by
 obtain⟨ρ',a,b⟩:=dU (bind:=bind) (body:=body) P (ds:=L.map enc) (k:=0) h0 fun k d ρ hd hp=>by
  rw[l9]at hd;obtain⟨x,hx,rfl⟩:=ma.mp hd;rw[mG]at hp ⊢;exact st k x hx ρ hp
 exact⟨ρ',a,by rw[la,mG]at b;exact b⟩
namespace Pg
section
variable {G:GS}{T:Table}{w h:Nat}{sp:List Spot}
noncomputable def gd(c n k:Nat):List (Nat×Nat×Bool):=(if decide (k % c<c-1) then [(k,k+1,false)] else [])++(if decide (k+c<n) then [(k,k+c,true)] else [])
noncomputable def a8(c n k:Nat):List (Nat×Nat×Bool):=(List.range k).flatMap (gd c n)
theorem lP{c n k:Nat}:a8 c n (k+1)=a8 c n k++gd c n k:=by
 unfold a8;rw[List.range_succ,List.flatMap_append,List.flatMap_cons,List.flatMap_nil,nh]
theorem KB{c n k:Nat}:(gd c n k).length≤2:=by
 unfold gd;rw[nc];split<;>split<;>simp
theorem iT{c n:Nat}:∀k,(a8 c n k).length≤2*k
 | 0=>oz _
 |k+1=>by
  rw[lP,nc];have:=iT (c:=c) (n:=n) k
  have:=KB (c:=c) (n:=n) (k:=k)
  omega
theorem RT{c n k:Nat}{j:Nat×Nat×Bool}(h:j∈a8 c n k):j.1<k:=by
 unfold a8 at h;obtain⟨i,hi,hj⟩:=List.mem_flatMap.mp h;have hi:=oy.mp hi
 unfold gd at hj
 rcases mem_append.mp hj with q|q<;>(split at q<;>first|(simp only[List.mem_singleton]at q;rw[q];exact hi)|(simp at q))
theorem MM{α:Type}{a b:α}:atI [a,b] 0=some a∧atI [a,b] 1=some b:=⟨rfl,rfl⟩
noncomputable def br(j:Nat×Nat×Bool):D:=.tup [.int j.1,.int j.2.1,.bl j.2.2]
noncomputable def KL(sp:List Spot)(k:Nat)(l:Bool):Int:=match sp[k]? with
 |some s=>if l then gF s else gP s
 |none=>0
noncomputable def jD(sp:List Spot)(j:Nat×Nat×Bool):D:=.tup [.int j.1,.int j.2.1,.bl j.2.2,.int (KL sp j.1 j.2.2)]
noncomputable def cm(sp:List Spot)(c r:Nat):D:=.lst ((a8 c (c*r) (c*r)).map (jD sp))
theorem wF{c n k:Nat}{α:Type}{f:Nat×Nat×Bool→α}:(gd c n k).map f=(if decide (k % c<c-1) then [f (k,k+1,false)] else [])++(if decide (k+c<n) then [f (k,k+c,true)] else []):=by
 unfold gd;rw[oo];cases decide (k % c<c-1)<;>cases decide (k+c<n)<;>rfl
noncomputable def eK:IS:=(.seq (.set 2 (.bin .mul (.var 0) (.var 1))) (.seq (.setm 3 (.lst .nil)) (.seq (.loop [4] false .rng (.tup (.cons (.var 2) .nil)) (.seq (.iff (.bin .lt (.bin .mod (.var 4) (.var 0)) (.bin .sub (.var 0) (.lit (.int 1)))) (.app 3 (.tup (.cons (.var 4) (.cons (.bin .add (.var 4) (.lit (.int 1))) (.cons (.lit (.bl false)) .nil))))) .nop) (.iff (.bin .lt (.bin .add (.var 4) (.var 0)) (.var 2)) (.app 3 (.tup (.cons (.var 4) (.cons (.bin .add (.var 4) (.var 0)) (.cons (.lit (.bl true)) .nil))))) .nop))) (.retm 3))))
theorem wG{a b:Nat}(h:0<b):ah .mod (.int (a:Int)) (.int (b:Int))=some (.int ((a % b:Nat):Int)):=(wD (by omega)).trans (by rw[Int.natCast_emod])
theorem MA{a b:Nat}(h:0<b)(h1:b<1000000):ah .fdiv (.int (a:Int)) (.int (b:Int))=some (.int ((a / b:Nat):Int)):=(sI (by omega) (by omega)).trans (by rw[Int.natCast_ediv])
theorem kS{a b:Nat}(h:a≤1000000):ah .mul (.int (a:Int)) (.int (b:Int))=some (.int ((a*b:Nat):Int)):=(DB (by omega) (by omega)).trans (by rw[Int.natCast_mul])
theorem yE{a b:Nat}(hb:1≤b):decide ((a:Int)<(b:Int)-1)=decide (a<b-1):=decide_eq_decide.mpr (by omega)
theorem nA{c r:Nat}(hc:1≤c)(bj:c*r≤64)(d7:c≤64):aP G 5 eK [.int c,.int r]=some (.ok (.lst ((a8 c (c*r) (c*r)).map br))):=by
 refine aJ (ρ:=[.im (.int c),.im (.int r),.un,.un,.un]) rfl ?_;refine aH (aW (d:=.int ((c*r:Nat):Int)) (by simp only[zz,yy,aA,aB,kS (show c≤1000000 by omega)])) (aH (kX (ds:=[]) (by simp only[zz,yy,aB])) ?_)
 simp only[List.set];obtain⟨ρ',l,s4,rfl⟩:=fQ (bind:=bB [4] false) (body:=ex G (.seq (.iff (.bin .lt (.bin .mod (.var 4) (.var 0)) (.bin .sub (.var 0) (.lit (.int 1)))) (.app 3 (.tup (.cons (.var 4) (.cons (.bin .add (.var 4) (.lit (.int 1))) (.cons (.lit (.bl false)) .nil))))) .nop) (.iff (.bin .lt (.bin .add (.var 4) (.var 0)) (.var 2)) (.app 3 (.tup (.cons (.var 4) (.cons (.bin .add (.var 4) (.var 0)) (.cons (.lit (.bl true)) .nil))))) .nop)))
  (fun k ρ=>∃s4,ρ=[.im (.int c),.im (.int r),.im (.int ((c*r:Nat):Int)),.mu (.lst ((a8 c (c*r) k).map br)),s4]) (n:=c*r) (ρ:=[.im (.int c),.im (.int r),.im (.int ((c*r:Nat):Int)),.mu (.lst []),.un]) ⟨_,rfl⟩ (by
   rintro k hk ρ ⟨s4,rfl⟩;have hl:=iT (c:=c) (n:=c*r) k
   refine⟨_,rfl,_,aH (jA (b:=decide (k % c<c-1)) (d:=br (k,k+1,false)) ?_ ?_ rfl (by rw[la];omega)) (jA (b:=decide (k+c<c*r)) (d:=br (k,k+c,true)) ?_ ?_ rfl ?_),.im (.int k),?_⟩
   ·simp only[List.set];simp only[zz,yy,aA,aB,wG hc,yE hc]
   ·simp only[List.set];simp only[zz,yy,aA,aB];rfl
   ·simp only[List.set];simp only[zz,yy,aA,aB];exact congrArg (fun b=>some (D.bl b)) (decide_eq_decide.mpr (by omega))
   ·simp only[List.set];simp only[zz,yy,aA,aB];rfl
   ·rw[nc,la];split<;>simp<;>omega
   ·simp only[List.set,lP,oo,List.append_assoc,wF])
 exact aH ((dH (d:=.tup [.int ((c*r:Nat):Int)]) (by simp only[zz,yy,aA,aB]) (dZ (by omega))).trans l) (iZ rfl)
noncomputable def aBv:IS:=(.app 2 (.tup (.cons (.var 3) (.cons (.var 4) (.cons (.var 5) (.cons (.ite (.tr (.var 5)) (.ix (.ix (.var 1) (.var 3)) (.lit (.int 1))) (.ix (.ix (.var 1) (.var 3)) (.lit (.int 0)))) .nil))))))
noncomputable def eN:IS:=(.seq (.set 1 (.call "edge_lines" (.cons (.var 0) .nil))) (.seq (.setm 2 (.lst .nil)) (.seq (.loop [3,4,5] true .seq (.call "neighbours" (.cons (.fld (.var 0) "columns") (.cons (.fld (.var 0) "rows") .nil))) aBv) (.retm 2))))
theorem wH{k:Nat}{s:Spot}{l:Bool}(h:sp[k]?=some s):KL sp k l=if l then gF s else gP s:=by unfold KL;rw[h]
theorem nH(hf:G.fl "Pile" = b9){c r:Nat}{F C:List D}{kvs:List (Int×D)}(hel:G.fn "edge_lines" [aL c r w h T F C]=some (.ok (.dct kvs)))(hk:∀(i:Nat) (s:Spot),sp[i]?=some s→cV kvs i=some (gH s))
  (hnb:G.fn "neighbours" [.int c,.int r]=some (.ok (.lst ((a8 c (c*r) (c*r)).map br)))) (bj:c*r≤64) (aT:sp.length=c*r):aP G 6 eN [aL c r w h T F C]=some (.ok (cm sp c r)):=by
 have e0:∀r',ev G (.var 0) (.im (aL c r w h T F C)::r')=some (bL c r w h (T.map sE) F C):=fun _=>by simp only[zz,yy];rfl
 refine aJ (ρ:=[.im (aL c r w h T F C),.un,.un,.un,.un,.un]) rfl ?_;refine aH (aW (d:=.dct kvs) (by simp only[zz,yy,aA,aB,hel])) (aH (kX (ds:=[]) (by simp only[zz,yy,aB])) ?_)
 simp only[List.set];have hl:=iT (c:=c) (n:=c*r) (c*r)
 obtain⟨ρ',l,s3,s4,s5,rfl⟩:=oG (enc:=br) (bind:=bB [3,4,5] true) (body:=ex G aBv) (fun k ρ=>∃s3 s4 s5,ρ=[.im (aL c r w h T F C),.im (.dct kvs),.mu (.lst (((a8 c (c*r) (c*r)).take k).map (jD sp))),s3,s4,s5])
  (L:=a8 c (c*r) (c*r)) (ρ:=[.im (aL c r w h T F C),.im (.dct kvs),.mu (.lst []),.un,.un,.un]) ⟨_,_,_,rfl⟩ (by
   rintro k j hj ρ ⟨s3,s4,s5,rfl⟩;have ha:j.1<sp.length:=by rw[aT];exact RT (l6 hj)
   have hs:=l8 ha
   refine⟨[.im (aL c r w h T F C),.im (.dct kvs),.mu (.lst (((a8 c (c*r) (c*r)).take k).map (jD sp))),.im (.int j.1),.im (.int j.2.1),.im (.bl j.2.2)],rfl,_,ET (d:=jD sp j) ?_ rfl (by rw[la,o4];omega),.im (.int j.1),.im (.int j.2.1),.im (.bl j.2.2),?_⟩
   ·have hv:=hk j.1 _ hs
    unfold jD;rw[wH hs];cases hb:j.2.2
    ·simp only[zz,yy,aA,aB,aZ,hv,gH,MM.1,MM.2];rfl
    ·simp only[zz,yy,aA,aB,aZ,hv,gH,MM.1,MM.2];rfl
   ·rw[oq,hj,oo];rfl)
 rw[List.take_length]at l;refine aH ((dH (d:=.lst ((a8 c (c*r) (c*r)).map br)) ?_ fV).trans l) (iZ rfl);rw[gZ,bO,gT hf (e0 _),bO,pN hf (e0 _)];simp only[zz,yy,aA,aB,hnb]
noncomputable def iV:IS:=(.ret true (.comp 3 [(2,0)] [1] false .seq (.call "all_joints" (.cons (.var 0) .nil)) (.bin .notin (.sl (.var 1) false (.lit .non) true (.lit (.int 2))) (.fld (.var 2) "severed")) (.var 1)))
theorem AA(hf:G.fl "Pile" = b9){c r:Nat}{F:List D}(haj:G.fn "all_joints" [aL c r w h T F []]=some (.ok (cm sp c r))):aP G 1 iV [aL c r w h T F []]=some (.ok (cm sp c r)):=by
 refine aJ (ρ:=[.im (aL c r w h T F [])]) rfl (aS ?_);refine cG (jD sp) (jD sp) (s:=cm sp c r) (by simp only[zz,yy,aA,aB,haj]) fV fun j _=>⟨_,rfl,?_,?_⟩
 ·show ev G _ [.un,.im (jD sp j),.im (aL c r w h T F [])]=_
  rw[dJ,jR (c:=c) (r:=r) (w:=w) (h:=h) (T:=T.map sE) (F:=F) (S:=[]) hf (by simp only[zz,yy];rfl)]
  unfold jD;simp only[zz,yy,aA,aB,part,intOf];rfl
 ·show ev G _ [.un,.im (jD sp j),.im (aL c r w h T F [])]=_
  simp only[zz,yy]
end
section
variable {G:GS}
noncomputable def BL(p:Table×Nat×Nat)(f:Fold):Table×Nat×Nat:=(foldT f.sd f.over f.k p.1,if f.sd.up then max f.k (p.2.1-f.k) else p.2.1,if f.sd.up then p.2.2 else max f.k (p.2.2-f.k))
noncomputable def runs(c r:Nat)(fs:List Fold):Table×Nat×Nat:=fs.foldl BL (fG c r,c,r)
theorem jL{c r:Nat}{fs:List Fold}{f:Fold}:runs c r (fs++[f])=BL (runs c r fs) f:=by unfold runs;rw[List.foldl_append];rfl
noncomputable def bD(c r:Nat)(fs:List Fold):D:=aL c r (runs c r fs).2.1 (runs c r fs).2.2 (runs c r fs).1 (fs.map Fold.d) []
structure Stg (c r:Nat) (fs:List Fold) (sp:List Spot):Prop where
 sits:Sits (runs c r fs).1 (runs c r fs).2.1 (runs c r fs).2.2 sp
 len:sp.length=c*r
def Fits(c r:Nat)(fs:List Fold)(f:Fold):Prop:=1≤f.k∧f.k<ext f.sd (runs c r fs).2.1 (runs c r fs).2.2
theorem Stg.fold{c r:Nat}{fs:List Fold}{sp:List Spot}(S:Stg c r fs sp){f:Fold}{top low:Int}(ok:Fits c r fs f)(ht:∀s∈sp,s.z≤top)(hl:∀s∈sp,low≤s.z) :
  Stg c r (fs++[f]) (sp.map (bK f.sd f.over f.k (max f.k (ext f.sd (runs c r fs).2.1 (runs c r fs).2.2-f.k)) top low)):=by
 refine⟨?_,by rw[la];exact S.len⟩
 rw[jL];exact S.sits.fold ok.1 ok.2 ht hl
structure Stgs (c r:Nat) (fs:List Fold) (sps:List (List Spot)):Prop where
 len:sps.length=fs.length+1
 at_:∀i sp,sps[i]?=some sp→Stg c r (fs.take i) sp
 ok:∀i f,fs[i]?=some f→Fits c r (fs.take i) f
theorem AH(ke:∀(c r w h:Nat) (T:Table) (F:List D) (sd:Side) (over:Bool) (k:Nat),Rect T w h→w≤1000→h≤1000→nI 400000 T→1≤k→(k<if sd.up then w else h)→F.length≤1000 →
   G.fn "folded" [aL c r w h T F [],.str sd.str,.bl over,.int k]=some (.ok (aL c r (if sd.up then max k (w-k) else w) (if sd.up then h else max k (h-k)) (foldT sd over k T) (F++[eI sd over k]) [])))
  {c r:Nat} {fs:List Fold} {sp:List Spot} (S:Stg c r fs sp) {f:Fold} (ok:Fits c r fs f) (hl:fs.length≤1000):G.fn "folded" [bD c r fs,.str f.sd.str,.bl f.over,.int f.k]=some (.ok (bD c r (fs++[f]))):=by
 have a:=S.sits.w64
 have b:=S.sits.h64
 unfold bD;rw[ke c r _ _ _ _ f.sd f.over f.k S.sits.rect (by omega) (by omega) (fun s hs x hx=>mw (S.sits.few s hs x hx) (by decide)) ok.1 ok.2 (by rw[la];exact hl),jL,oo]
 rfl
end
end Pg
namespace K18
open Pg
section
variable {G:GS}
noncomputable def dR:IS:=(.seq (.set 1 (.bin .mod (.var 0) (.lit (.int 6)))) (.seq (.set 2 (.bin .fdiv (.var 0) (.lit (.int 6)))) (.seq (.iff (.bin .lt (.var 1) (.lit (.int 4))) (.ret false (.tup (.cons (.bin .add (.lit (.int 1)) (.bin .mod (.var 2) (.lit (.int 5)))) (.cons (.bin .add (.lit (.int 1)) (.bin .mod (.bin .fdiv (.var 2) (.lit (.int 5))) (.lit (.int 4)))) .nil)))) .nop) (.seq (.iff (.bin .eq (.var 1) (.lit (.int 4))) (.ret false (.tup (.cons (.bin .add (.lit (.int 1)) (.bin .mod (.var 2) (.lit (.int 24)))) (.cons (.lit (.int 1)) .nil)))) .nop) (.ret false (.tup (.cons (.bin .add (.lit (.int 1)) (.bin .mod (.var 2) (.lit (.int 2)))) (.cons (.bin .add (.lit (.int 1)) (.bin .mod (.bin .fdiv (.var 2) (.lit (.int 2))) (.lit (.int 12)))) .nil))))))))
theorem rS{cell:Int}:∃c r:Nat,1≤c∧1≤r∧c*r≤24∧aP G 3 dR [.int cell]=some (.ok (.tup [.int c,.int r])):=by
 have m:∀(i:Int) (n:Int),0<n→ah .mod (.int i) (.int n)=some (.int (i % n)):=fun i n h=>wD h
 have d:∀(i:Int) (n:Int),0<n→n<1000000→ah .fdiv (.int i) (.int n)=some (.int (i / n)):=fun i n h h'=>sI h h'
 have b:∀(i:Int) (n:Nat),0<n→∃k:Nat,k<n∧i % (n:Int)=k:=fun i n h=>by
  have h0:=Int.emod_nonneg i (show (n:Int)≠0 by omega)
  have h1:=Int.emod_lt_of_pos i (show (0:Int)<n by omega)
  exact⟨(i % (n:Int)).toNat,by omega,by omega⟩
 have e1:ev G (.bin .mod (.var 0) (.lit (.int 6))) [.im (.int cell),.un,.un]=some (.int (cell % 6)):=by simp only[zz,yy,aA,aB,m _ 6 (by decide)]
 have e2:ev G (.bin .fdiv (.var 0) (.lit (.int 6))) [.im (.int cell),.im (.int (cell % 6)),.un]=some (.int (cell / 6)):=by simp only[zz,yy,aA,aB,d _ 6 (by decide) (by decide)]
 have t1:ev G (.bin .lt (.var 1) (.lit (.int 4))) (view [.im (.int cell),.im (.int (cell % 6)),.im (.int (cell / 6))])=some (.bl (decide (cell % 6<4))):=by simp only[zz,yy,aA,aB]
 have t2:ev G (.bin .eq (.var 1) (.lit (.int 4))) (view [.im (.int cell),.im (.int (cell % 6)),.im (.int (cell / 6))])=some (.bl (cell % 6 == 4)):=by simp only[zz,yy,aA,aB]
 have start:∀{o:D},(∃x,ex G x [.im (.int cell),.im (.int (cell % 6)),.im (.int (cell / 6))]=some (.rt o)∧dR=(.seq (.set 1 (.bin .mod (.var 0) (.lit (.int 6)))) (.seq (.set 2 (.bin .fdiv (.var 0) (.lit (.int 6)))) x)))→aP G 3 dR [.int cell]=some (.ok o):=by
  rintro o ⟨x,hx,e⟩;rw[e];exact aJ (ρ:=[.im (.int cell),.un,.un]) rfl (aH (aW e1) (aH (aW e2) hx))
 cases h1:decide (cell % 6<4) with
 |true =>
  obtain⟨a,ha,ea⟩:=b (cell / 6) 5 (by decide)
  obtain⟨c,hc,ec⟩:=b (cell / 6 / 5) 4 (by decide)
  refine⟨1+a,1+c,by omega,by omega,?_,start ⟨_,hV (kO (t1.trans (by rw[h1])) (aS ?_)) (fun _ z=>by cases z),rfl⟩⟩
  ·have:(1+a)*(1+c)≤5*4:=Nat.mul_le_mul (by omega) (by omega)
   omega
  ·simp only[zz,yy,aA,aB,m _ 5 (by decide),d _ 5 (by decide) (by decide),m _ 4 (by decide)]
   have kx:cell / 6 % 5=a:=ea
   have ec':cell / 6 / 5 % 4=c:=ec
   rw[kx,ec']
   push_cast
   rfl
 |false =>
  cases h2:(cell % 6 == 4) with
  |true =>
   obtain⟨a,ha,ea⟩:=b (cell / 6) 24 (by decide)
   refine⟨1+a,1,by omega,by omega,by omega,start ⟨_,aH (dI (t1.trans (by rw[h1])) aY) (hV (kO (t2.trans (by rw[h2])) (aS ?_)) (fun _ z=>by cases z)),rfl⟩⟩
   simp only[zz,yy,aA,aB,m _ 24 (by decide)]
   have kx:cell / 6 % 24=a:=ea
   rw[kx]
   push_cast
   rfl
  |false =>
   obtain⟨a,ha,ea⟩:=b (cell / 6) 2 (by decide)
   obtain⟨c,hc,ec⟩:=b (cell / 6 / 2) 12 (by decide)
   refine⟨1+a,1+c,by omega,by omega,?_,start ⟨_,aH (dI (t1.trans (by rw[h1])) aY) (aH (dI (t2.trans (by rw[h2])) aY) (aS ?_)),rfl⟩⟩
   ·have:(1+a)*(1+c)≤2*12:=Nat.mul_le_mul (by omega) (by omega)
    omega
   ·simp only[zz,yy,aA,aB,m _ 2 (by decide),d _ 2 (by decide) (by decide),m _ 12 (by decide)]
    have kx:cell / 6 % 2=a:=ea
    have ec':cell / 6 / 2 % 12=c:=ec
    rw[kx,ec']
    push_cast
    rfl
end
end K18
namespace Pg
section
variable {G:GS}
end
end Pg
namespace K02
open Pg
section
variable {G:GS}
end
end K02
namespace K06
open Pg
section
variable {G:GS}
theorem kP{α:Type}{a b c d e:α}:atI [a,b,c,d,e] 0=some a∧atI [a,b,c,d,e] 1=some b∧atI [a,b,c,d,e] 3=some d∧atI [a,b,c,d,e] 4=some e:=⟨rfl,rfl,rfl,rfl⟩
theorem ML{α:Type}{a b c d:α}:atI [a,b,c,d] 0=some a∧atI [a,b,c,d] 1=some b∧atI [a,b,c,d] 2=some c∧atI [a,b,c,d] 3=some d:=⟨rfl,rfl,rfl,rfl⟩
theorem rJ:∀sp:List Spot,∃top low:Int,(∀s∈sp,s.z≤top)∧(∀s∈sp,low≤s.z)
 |[]=>⟨0,0,fun _ h=>(nomatch h),fun _ h=>(nomatch h)⟩
 |s::sp=>by
  obtain⟨t,l,h1,h2⟩:=rJ sp;refine⟨max t s.z,min l s.z,fun u hu=>?_,fun u hu=>?_⟩
  ·rcases my.mp hu with e|hu
   ·rw[e];omega
   ·have:=h1 u hu;omega
  ·rcases my.mp hu with e|hu
   ·rw[e];omega
   ·have:=h2 u hu;omega
noncomputable def lin(e:Bool)(p:Nat):Int:=if e then p else p+1
structure Meets (s t:Spot) (l:Bool):Prop where
 up:l=false→s.y=t.y∧s.n=t.n∧lin s.e s.x=lin (!t.e) t.x
 lv:l=true→s.x=t.x∧s.e=t.e∧lin s.n s.y=lin (!t.n) t.y
noncomputable def SV(nr:Bool)(c gr:Nat)(L:Int):Int:=if nr then(if (c:Int)≤L then L-c else c-L) else gr-(if (c:Int)≤L then L-c else c-L)
theorem lT{nr e:Bool}{c gr p:Nat}(h:gM c p+1≤gr):lin (if moves nr c p then !e else e) (bX nr c gr p)=SV nr c gr (lin e p):=by
 unfold lin SV bX moves;unfold gM at h ⊢
 by_cases q:c≤p
 ·rw[if_pos q]at h ⊢;rw[nq q];cases nr<;>cases e<;>simp<;>split<;>omega
 ·rw[if_neg q]at h ⊢;rw[lp q];cases nr<;>cases e<;>simp<;>split<;>omega
theorem nW{nr e:Bool}{c gr p:Nat}(h:gM c p+1≤gr):lin (!(if moves nr c p then !e else e)) (bX nr c gr p)=SV nr c gr (lin (!e) p):=by
 rw[←lT (e:=!e) h];cases moves nr c p<;>rfl
theorem Meets.fold{s t:Spot}{l:Bool}(m:Meets s t l){sd:Side}{over:Bool}{c gr:Nat}{top low:Int}(hs:gM c (s.al sd.up)+1≤gr)(ht:gM c (t.al sd.up)+1≤gr):Meets (bK sd over c gr top low s) (bK sd over c gr top low t) l:=by
 unfold bK;unfold Spot.al at hs ht ⊢;cases hu:sd.up with
 |true =>
  rw[hu]at hs ht;simp only[if_true,Bool.and_true,ng,Bool.and_false,lr,if_false]at hs ht ⊢;refine⟨fun z=>?_,fun z=>?_⟩
  ·obtain⟨a,b,d⟩:=m.up z;exact⟨a,b,by dsimp only;rw[lT hs,nW ht,d]⟩
  ·obtain⟨a,b,d⟩:=m.lv z;exact⟨by dsimp only;rw[a],by dsimp only;rw[a,b],d⟩
 |false =>
  rw[hu]at hs ht;simp only[if_true,Bool.and_true,Bool.not_false,Bool.and_false,lr,if_false]at hs ht ⊢;refine⟨fun z=>?_,fun z=>?_⟩
  ·obtain⟨a,b,d⟩:=m.up z;exact⟨by dsimp only;rw[a],by dsimp only;rw[a,b],d⟩
  ·obtain⟨a,b,d⟩:=m.lv z;exact⟨a,b,by dsimp only;rw[lT hs,nW ht,d]⟩
def Mt(c n:Nat)(sp:List Spot):Prop:=∀j∈a8 c n n,∀s t,sp[j.1]?=some s→sp[j.2.1]?=some t→Meets s t j.2.2
theorem mC{c p ex:Nat}(h1:1≤c)(h2:c<ex)(hp:p<ex):gM c p+1≤max c (ex-c):=by
 unfold gM;split<;>omega
theorem Mt.fold{c n:Nat}{sp:List Spot}(m:Mt c n sp){sd:Side}{over:Bool}{k gr:Nat}{top low:Int}(h:∀s∈sp,gM k (s.al sd.up)+1≤gr):Mt c n (sp.map (bK sd over k gr top low)):=fun j hj s t hs ht=>by
 rw[l9]at hs ht;obtain⟨s',bz,rfl⟩:=ma.mp hs;obtain⟨t',ht',rfl⟩:=ma.mp ht;exact(m j hj s' t' bz ht').fold (h s' (l6 bz)) (h t' (l6 ht'))
theorem DH{c n k:Nat}{j:Nat×Nat×Bool}(h:j∈a8 c n k):j.1<k∧((j.2.1=j.1+1∧j.2.2=false∧j.1 % c<c-1)∨(j.2.1=j.1+c∧j.2.2=true∧j.1+c<n)):=by
 unfold a8 at h;obtain⟨i,hi,hj⟩:=List.mem_flatMap.mp h;have hi:=oy.mp hi
 unfold gd at hj
 rcases mem_append.mp hj with q|q
 ·by_cases z:i % c<c-1
  ·rw[nq z]at q;simp only[if_true,List.mem_singleton]at q;subst q;exact⟨hi,.inl ⟨rfl,rfl,z⟩⟩
  ·rw[lp z]at q;simp at q
 ·by_cases z:i+c<n
  ·rw[nq z]at q;simp only[if_true,List.mem_singleton]at q;subst q;exact⟨hi,.inr ⟨rfl,rfl,z⟩⟩
  ·rw[lp z]at q;simp at q
theorem iY{c r k:Nat}{s:Spot}(h:(eW c r)[k]?=some s):s=⟨k % c,k / c,0,false,false⟩:=by
 unfold eW at h;rw[l9]at h;obtain⟨i,hi,rfl⟩:=ma.mp h;have hk:=(l0.mp hi).1
 rw[ml]at hk;rw[oj hk]at hi;cases hi;rfl
theorem mod_succ{a c:Nat}(h:a % c<c-1):(a+1) % c=a % c+1∧(a+1) / c=a / c:=by
 have e:=Nat.div_add_mod a c
 have hc:0<c:=by omega
 generalize a / c=q at *;generalize a % c=m at *;rw[show a+1=c*q+(m+1) by omega]
 exact⟨by rw[Nat.mul_add_mod,Nat.mod_eq_of_lt (by omega)],by rw[Nat.mul_add_div hc,Nat.div_eq_of_lt (by omega),Nat.add_zero]⟩
theorem LB{c r:Nat}(hc:1≤c):Mt c (c*r) (eW c r):=fun j hj s t hs ht=>by
 rw[iY hs,iY ht]
 rcases (DH hj).2 with ⟨e1,e2,e3⟩|⟨e1,e2,e3⟩
 ·obtain⟨a,b⟩:=mod_succ e3;rw[e1,e2];refine⟨fun _=>⟨b.symm,rfl,?_⟩,fun z=>(nomatch z)⟩
  dsimp only;rw[a];rfl
 ·rw[e1,e2];refine⟨fun z=>(nomatch z),fun _=>⟨(Nat.add_mod_right _ _).symm,rfl,?_⟩⟩
  dsimp only;rw[Nat.add_div_right _ hc];rfl
def jF(s:Spot)(d:D):Prop:=∃l:Int,d=.tup [.int s.x,.int s.y,.int l,.bl s.e,.bl s.n]
structure Seats (sp:List Spot) (out:List D) (P:Nat→Spot→Prop):Prop where
 len:out.length=sp.length
 has:∀i s,sp[i]?=some s→P i s→∃d,out[i]?=some d∧jF s d
 non:∀i s,sp[i]?=some s→¬P i s→out[i]?=some .non
theorem Seats.iff{sp:List Spot}{out:List D}{P Q:Nat→Spot→Prop}(S:Seats sp out P)(h:∀i s,sp[i]?=some s→(Q i s↔P i s)):Seats sp out Q:=
 ⟨S.len,fun i s hs q=>S.has i s hs ((h i s hs).mp q),fun i s hs q=>S.non i s hs fun z=>q ((h i s hs).mpr z)⟩
noncomputable def FL:IS:=(.seq (.iff (.or (.not (.tr (.isi (.var 5) "tuple"))) (.or (.bin .ne (.bcall .len (.cons (.var 5) .nil)) (.lit (.int 3))) (.not (.tr (.call "_law_whole" (.cons (.ix (.var 5) (.lit (.int 0))) .nil)))))) (.retq (.lit (.bl false))) .nop) (.seq (.iff (.or (.not (.tr (.isi (.ix (.var 5) (.lit (.int 1))) "bool"))) (.not (.tr (.isi (.ix (.var 5) (.lit (.int 2))) "bool")))) (.retq (.lit (.bl false))) .nop) (.seq (.iff (.or (.bin .lt (.ix (.var 5) (.lit (.int 0))) (.lit (.int 0))) (.or (.bin .ge (.ix (.var 5) (.lit (.int 0))) (.lenm 0)) (.bin .isnot (.ixm 0 (.ix (.var 5) (.lit (.int 0)))) (.lit .non)))) (.retq (.lit (.bl false))) .nop) (.seq (.put 0 (.ix (.var 5) (.lit (.int 0))) (.tup (.cons (.var 2) (.cons (.var 3) (.cons (.var 4) (.cons (.ix (.var 5) (.lit (.int 1))) (.cons (.ix (.var 5) (.lit (.int 2))) .nil))))))) (.set 4 (.bin .add (.var 4) (.lit (.int 1))))))))
noncomputable def lZ:IS:=(.seq (.set 4 (.lit (.int 0))) (.seq (.loop [5] false .seq (.var 1) FL) (.retq (.lit (.bl true)))))
noncomputable def cw(out:List D)(hp:D)(x y:Nat)(s4 s5:Sl):List Sl:=[.mu (.lst out),.im hp,.im (.int x),.im (.int y),s4,s5]
theorem LD(hw:∀i:Int,G.fn "_law_whole" [.int i]=some (.ok (.bl true))){T:Table}{sp:List Spot}(L:Lk T sp)(h64:sp.length≤64){x y:Nat}{out:List D}{P:Nat→Spot→Prop}(S:Seats sp out P)(hP:∀i s,sp[i]?=some s→s.x=x→s.y=y→¬P i s) :
  ∃ae,runM G 6 lZ (.lst out) [hE (aj T x y),.int x,.int y]=some (.bl true,.lst ae)∧Seats sp ae (fun i s=>P i s∨(s.x=x∧s.y=y)):=by
 obtain⟨ρ',a,ae,s5,b,S'⟩:=dU (bind:=bB [5] false) (body:=ex G FL) (fun k ρ=>∃ae s5,ρ=cw ae (hE (aj T x y)) x y (.im (.int (k:Nat))) s5∧Seats sp ae (fun i s=>P i s∨((i:Int),s.e,s.n)∈(aj T x y).take k))
  (ds:=(aj T x y).map cj) (k:=0) (ρ:=cw out (hE (aj T x y)) x y (.im (.int (0:Nat))) .un) ⟨out,.un,rfl,S.iff fun i s _=>⟨fun q=>q.elim id fun z=>by simp at z,.inl⟩⟩ (by
   rintro k d ρ hd ⟨ae,s5,rfl,S'⟩;rw[l9]at hd;obtain⟨cl,ao,rfl⟩:=ma.mp hd;rw[mG]at S' ⊢;have hk:k<(aj T x y).length:=(l0.mp ao).1
   have hmem:=l6 ao
   obtain⟨i,s,hs,sx,sy,rfl⟩:=(L.mem x y cl).mp hmem;have hi:=(l0.mp hs).1
   have nt:((i:Int),s.e,s.n)∉(aj T x y).take k:=fun z=>by
    have pw:=L.ord x y
    have e:aj T x y=(aj T x y).take k++((i:Int),s.e,s.n)::(aj T x y).drop (k+1):=by
     obtain⟨hi',ea⟩:=l0.mp ao;rw[←ea,←List.drop_eq_getElem_cons hi',List.take_append_drop]
    rw[e]at pw;exact absurd ((List.pairwise_append.mp pw).2.2 _ z _ oi) (Int.lt_irrefl _)
   have nP:¬(P i s∨((i:Int),s.e,s.n)∈(aj T x y).take k):=fun z=>z.elim (hP i s hs sx sy) nt
   have hnon:=S'.non i s hs nP
   have hlen:=S'.len
   have hat:atI ae (i:Int)=some .non:=dM hnon
   have hix:ixN ae.length (i:Int)=some i:=by
    unfold ixN;rw[if_pos (by omega),if_pos (by omega)];simp
   refine⟨cw ae (hE (aj T x y)) x y (.im (.int (k:Nat))) (.im (cj ((i:Int),s.e,s.n))),rfl,_,aH (dI ?_ aY) (aH (dI ?_ aY) (aH (dI ?_ aY) (aH (TB (d:=.tup [.int x,.int y,.int (k:Nat),.bl s.e,.bl s.n]) (i:=i) (ds:=ae) (j:=i) ?_ ?_ rfl hix) (aW (d:=.int ((k+1:Nat):Int)) ?_)))),ae.set i (.tup [.int x,.int y,.int (k:Nat),.bl s.e,.bl s.n]),.im (cj ((i:Int),s.e,s.n)),rfl,?_⟩
   ·unfold cw cj;simp only[cK,eF,bF];refine bQ (x:=false) (y:=false) (by simp only[zz,yy,aA,aB,wL,aZ,ng]) fun _=>bQ (x:=false) (y:=false) ?_ fun _=>?_
    ·simp only[zz,yy,aA,aB];rfl
    ·simp only[zz,yy,aA,aB,kQ.1,hw,aZ,ng]
   ·unfold cw cj;simp only[cK,eF,bF];exact bQ (x:=false) (y:=false) (by simp only[zz,yy,aA,aB,kQ.2.1,gK,aZ,ng]) fun _=>by simp only[zz,yy,aA,aB,kQ.2.2,gK,aZ,ng]
   ·unfold cw cj;simp only[cK,eF,bF];refine bQ (x:=false) (y:=false) ?_ fun _=>bQ (x:=false) (y:=false) ?_ fun _=>?_
    ·simp only[zz,yy,aA,aB,kQ.1];rw[lp (by omega)]
    ·rw[dJ,xZ];show (ev G (.ix (.var 5) (.lit (.int 0))) _).bind (fun u=>ah .ge u (.int (ae.length:Nat)))=_
     simp only[zz,yy,aA,aB,kQ.1];rw[lp (by omega)]
    ·have sl:∀r,fA (.im (.lst ae)::r) 0=some ae:=fun _=>rfl
     rw[dJ,EV,sl];simp only[zz,yy,aA,aB,kQ.1];show (atI ae (i:Int)).bind _=_
     rw[hat];rfl
   ·unfold cw cj;simp only[zz,yy,aA,aB,kQ.2.1,kQ.2.2]
   ·unfold cw cj;simp only[zz,yy,aA,aB,kQ.1]
   ·unfold cw;simp only[List.set];simp only[zz,yy,aA,aB];rfl
   ·refine⟨by rw[List.length_set];exact hlen,fun j t ht q=>?_,fun j t ht q=>?_⟩
    ·by_cases e:j=i
     ·subst e;rw[hs]at ht;cases ht;exact⟨_,mn (by omega),(k:Int),by rw[sx,sy]⟩
     ·rw[mq (Ne.symm e)];refine S'.has j t ht (q.imp id fun q=>?_)
      rw[oq,ao]at q
      rcases mem_append.mp q with q|q
      ·exact q
      ·exfalso
       have q:((j:Int),t.e,t.n)=((i:Int),s.e,s.n):=by simpa using q
       have q:(j:Int)=i:=congrArg (·.1) q
       exact e (by exact_mod_cast q)
    ·have e:j≠i:=fun e=>by
      subst e;rw[hs]at ht;cases ht;exact q (.inr (by rw[oq,ao];simp))
     rw[mq (Ne.symm e)];exact S'.non j t ht fun z=>q (z.imp id fun z=>by rw[oq];exact List.mem_append_left _ z))
 refine⟨ae,?_,S'.iff fun i s hs=>or_congr Iff.rfl ?_⟩
 ·have e:ex G lZ (cw out (hE (aj T x y)) x y .un .un)=some (.rm (.bl true) (cw ae (hE (aj T x y)) x y (.im (.int ((0+((aj T x y).map cj).length:Nat):Int))) s5)):=by
   refine aH (aW (d:=.int (0:Nat)) (by unfold cw;simp only[zz,yy];rfl)) (aH ((dH (d:=hE (aj T x y)) (by unfold cw;simp only[List.set];simp only[zz,yy]) fV).trans (a.trans (by rw[b]))) ?_)
   rfl
  unfold runM;rw[show (Sl.mu (.lst out)::([hE (aj T x y),.int x,.int y]:List D).map Sl.im++List.replicate (6-(([hE (aj T x y),.int x,.int y]:List D).length+1)) Sl.un)=cw out (hE (aj T x y)) x y .un .un from rfl,e]
  rfl
 ·rw[la,mG,List.take_length];constructor
  ·rintro⟨q1,q2⟩;exact(L.mem x y _).mpr ⟨i,s,hs,q1,q2,rfl⟩
  ·intro q;obtain⟨j,t,ht,tx,ty,e⟩:=(L.mem x y _).mp q;have e1:(i:Int)=j:=congrArg (·.1) e
   have e1:i=j:=by exact_mod_cast e1
   subst e1;rw[hs]at ht;cases ht;exact⟨tx,ty⟩
theorem TC{ρ:List Sl}{t es:IE}{f:Str}{x:Nat}{a:IS}{o o':D}{as:List D}(ht:ev G t (view ρ)=some (.bl false))(he:bA (ev G es ρ)=some as)(hx:ρ[x]?=some (.mu o))(hf:G.fm f o as=some (.bl true,o')):ex G (.fil t f x es a) ρ=some (.nx (ρ.set x (.mu o'))):=by
 simp only[ex,ht,he,og];rw[hx];simp only[hf,og]
theorem yI{t r:List Sl→Option D}{i:Nat}(P:List Sl→Prop):∀(ds:List D) (ρ:List Sl),P ρ→(∀d∈ds,∀ρ,P ρ→t (ρ.set i (.im d))=some (.bl false)∧P (ρ.set i (.im d)))→∃ρ',mP t r i ds ρ=some (.nx ρ')∧P ρ'
 |[],ρ,h,_=>⟨ρ,rfl,h⟩
 |d::ds,ρ,h,st=>by
  obtain⟨h1,h2⟩:=st d oi ρ h;obtain⟨ρ',a,b⟩:=yI (t:=t) (r:=r) P ds _ h2 fun e he=>st e (lu _ he)
  refine⟨ρ',?_,b⟩;show (t (ρ.set i (.im d))).bind _=_
  rw[h1];exact a
noncomputable def b_x:IS:=(.seq (.set 4 (.meth (.var 0) "heap" (.cons (.var 3) (.cons (.var 2) .nil)))) (.fil (.not (.tr (.isi (.var 4) "list"))) "_law_fill" 1 (.cons (.var 4) (.cons (.var 3) (.cons (.var 2) .nil))) (.ret false (.lit .non))))
noncomputable def b_y:IS:=(.loop [3] false .rng (.tup (.cons (.fld (.var 0) "wide") .nil)) b_x)
noncomputable def kW:IS:=(.seq (.iff (.or (.not (.tr (.call "_law_whole" (.cons (.fld (.var 0) "wide") .nil)))) (.not (.tr (.call "_law_whole" (.cons (.fld (.var 0) "high") .nil))))) (.ret false (.lit .non)) .nop) (.seq (.setm 1 (.comp 2 [] [1] false .rng (.tup (.cons (.bin .mul (.fld (.var 0) "columns") (.fld (.var 0) "rows")) .nil)) (.lit (.bl true)) (.lit .non))) (.seq (.loop [2] false .rng (.tup (.cons (.fld (.var 0) "high") .nil)) b_y) (.seq (.chkm 1 5 (.bin .is (.var 5) (.lit .non)) (.lit .non)) (.retm 1)))))
noncomputable def cW(p:D)(out:List D)(s2 s3 s4 s5:Sl):List Sl:=[.im p,.mu (.lst out),s2,s3,s4,s5]
theorem BQ(hf:G.fl "Pile" = b9)(hw:∀i:Int,G.fn "_law_whole" [.int i]=some (.ok (.bl true)))
  (hhp:∀(c r w h:Nat) (T:Table) (F S:List D) (x y:Nat),Rect T w h→x<w→y<h→G.me "Pile" "heap" [aL c r w h T F S,.int x,.int y]=some (.ok (hE (aj T x y))))
  (hfm:∀(T:Table) (sp:List Spot) (x y:Nat) (out:List D) (P:Nat→Spot→Prop),Lk T sp→sp.length≤64→Seats sp out P→(∀i s,sp[i]?=some s→s.x=x→s.y=y→¬P i s)→∃ae,G.fm "_law_fill" (.lst out) [hE (aj T x y),.int x,.int y]=some (.bl true,.lst ae)∧Seats sp ae (fun i s=>P i s∨(s.x=x∧s.y=y)))
  {c r w h:Nat} {T:Table} {F C:List D} {sp:List Spot} (S:Sits T w h sp) (hs:sp.length=c*r) (hc:c≤64):∃ds,aP G 6 kW [aL c r w h T F C]=some (.ok (.lst ds))∧Seats sp ds (fun _ _=>True):=by
 have w64:=S.w64
 have h64:=S.h64
 have n64:=S.len
 have e0:∀r',ev G (.var 0) (.im (aL c r w h T F C)::r')=some (bL c r w h (T.map sE) F C):=fun _=>by simp only[zz,yy];rfl
 have row:∀(y:Nat) (out:List D) (s3 s4:Sl),y<h→Seats sp out (fun _ s=>s.y<y)→∃ρ',ex G b_y (cW (aL c r w h T F C) out (.im (.int y)) s3 s4 .un)=some (.nx ρ')∧∃ae t3 t4,ρ'=cW (aL c r w h T F C) ae (.im (.int y)) t3 t4 .un∧Seats sp ae (fun _ s=>s.y<y+1):=by
  intro y out s3 s4 hy S0;obtain⟨ρ',a,ae,t3,t4,b,S'⟩:=fQ (bind:=bB [3] false) (body:=ex G b_x) (fun k ρ=>∃ae t3 t4,ρ=cW (aL c r w h T F C) ae (.im (.int y)) t3 t4 .un∧Seats sp ae (fun _ s=>s.y<y∨(s.y=y∧s.x<k)))
   (n:=w) (ρ:=cW (aL c r w h T F C) out (.im (.int y)) s3 s4 .un) ⟨out,s3,s4,rfl,S0.iff fun i s _=>⟨fun q=>q.elim id fun z=>absurd z.2 (Nat.not_lt_zero _),.inl⟩⟩ (by
    rintro x hx ρ ⟨ae,t3,t4,rfl,S'⟩;obtain⟨out2,e2,S2⟩:=hfm T sp x y ae _ S.lk n64 S' (fun i s _ sx sy q=>by omega)
    refine⟨cW (aL c r w h T F C) ae (.im (.int y)) (.im (.int (x:Nat))) t4 .un,rfl,_,aH (aW (d:=hE (aj T x y)) ?_) (TC (o:=.lst ae) (as:=[hE (aj T x y),.int x,.int y]) ?_ ?_ rfl e2),out2,.im (.int (x:Nat)),.im (hE (aj T x y)),rfl,S2.iff fun i s _=>by omega⟩
    ·exact CO (c:=c) (r:=r) (w:=w) (h:=h) (T:=T.map sE) (F:=F) (S:=C) (ds:=[.int x,.int y]) rfl (e0 _) (by simp only[zz,yy,aA,aB]) (hhp c r w h T F C x y S.rect hx hy)
    ·unfold cW hE;simp only[List.set,cK,eF,bF];simp only[zz,yy,aA,aB,wM,aZ,ng]
    ·unfold cW;simp only[List.set];simp only[zz,yy,aA,aB])
  refine⟨ρ',(dH (d:=.tup [.int ((w:Nat):Int)]) ?_ (dZ (by omega))).trans a,ae,t3,t4,b,S'.iff fun i s hs=>?_⟩
  ·unfold cW;rw[kA,bO,jQ hf (e0 _)];simp only[zz,yy,aA,aB]
  ·have:=S.xlt (l6 hs)
   omega
 obtain⟨ρ',a,ae,t2,t3,t4,rfl,S'⟩:=fQ (bind:=bB [2] false) (body:=ex G b_y) (fun k ρ=>∃ae t2 t3 t4,ρ=cW (aL c r w h T F C) ae t2 t3 t4 .un∧Seats sp ae (fun _ s=>s.y<k))
  (n:=h) (ρ:=cW (aL c r w h T F C) ((List.range (c*r)).map fun _=>D.non) .un .un .un .un) ⟨_,.un,.un,.un,rfl,⟨by rw[la,ml,hs],fun _ _ _ z=>absurd z (Nat.not_lt_zero _),fun i s hi _=>by
   have:=(l0.mp hi).1
   rw[l9,oj (by omega)];rfl⟩⟩ (by
   rintro y hy ρ ⟨ae,t2,t3,t4,rfl,S'⟩;obtain⟨ρ2,l2,out2,u3,u4,rfl,S2⟩:=row y ae t3 t4 hy S';exact⟨cW (aL c r w h T F C) ae (.im (.int (y:Nat))) t3 t4 .un,rfl,_,l2,out2,.im (.int (y:Nat)),u3,u4,rfl,S2⟩)
 have S2:Seats sp ae (fun _ _=>True):=S'.iff fun i s hs=>⟨fun _=>S.ylt (l6 hs),fun _=>trivial⟩
 obtain⟨ρ2,ck,s5,rfl⟩:=yI (t:=fun ρ=>ev G (.bin .is (.var 5) (.lit .non)) (view ρ)) (r:=fun ρ=>bu G (.lit .non) ρ) (i:=5) (fun ρ=>∃s5,ρ=cW (aL c r w h T F C) ae t2 t3 t4 s5) ae (cW (aL c r w h T F C) ae t2 t3 t4 .un) ⟨_,rfl⟩ (by
  rintro d hd ρ ⟨s5,rfl⟩;obtain⟨i,hi⟩:=List.mem_iff_getElem?.mp hd;have hl:=(l0.mp hi).1
  rw[S2.len]at hl;obtain⟨d',e1,l,rfl⟩:=S2.has i _ (l8 hl) trivial;rw[hi]at e1;cases e1;refine⟨?_,_,rfl⟩;show ev G _ (view [_,_,t2,t3,t4,.im _])=_
  simp only[cK,bF];rw[dJ];rfl)
 refine⟨ae,aJ (ρ:=[.im (aL c r w h T F C),.un,.un,.un,.un,.un]) rfl (aH (dI ?_ aY) (aH (kX (ds:=(List.range (c*r)).map fun _=>D.non) ?_) (aH ((dH (d:=.tup [.int ((h:Nat):Int)]) ?_ (dZ (by omega))).trans a) (aH (ρ':=cW (aL c r w h T F C) ae t2 t3 t4 s5) ?_ (iZ rfl))))),S2⟩
 ·simp only[cK,eF,bF];refine bQ (x:=false) (y:=false) ?_ fun _=>?_
  ·rw[vE,xW,gZ,bO,jQ hf (e0 _)];simp only[zz,yy,aA,aB,hw,aZ,ng]
  ·rw[vE,xW,gZ,bO,jS hf (e0 _)];simp only[zz,yy,aA,aB,hw,aZ,ng]
 ·refine cG (L:=List.range (c*r)) (fun (k:Nat)=>D.int k) (fun _=>D.non) (s:=.tup [.int ((c*r:Nat):Int)]) ?_ (dZ (by omega)) fun k _=>⟨[.un,.im (.int (k:Nat))],rfl,by simp only[zz,yy],by simp only[zz,yy]⟩
  rw[kA,bO,dJ,gT hf (e0 _),pN hf (e0 _)];simp only[zz,yy,aA,aB,kS (show c≤1000000 by omega)]
 ·simp only[List.set];rw[kA,bO,jS hf (e0 _)];simp only[zz,yy,aA,aB]
 ·exact ck
noncomputable def FJ:IS:=(.seq (.iff (.bin .lt (.bin .mod (.var 3) (.var 0)) (.bin .sub (.var 0) (.lit (.int 1)))) (.app 2 (.tup (.cons (.var 3) (.cons (.bin .add (.var 3) (.lit (.int 1))) (.cons (.lit (.bl false)) .nil))))) .nop) (.iff (.bin .lt (.bin .fdiv (.var 3) (.var 0)) (.bin .sub (.var 1) (.lit (.int 1)))) (.app 2 (.tup (.cons (.var 3) (.cons (.bin .add (.var 3) (.var 0)) (.cons (.lit (.bl true)) .nil))))) .nop))
noncomputable def pT:IS:=(.seq (.setm 2 (.lst .nil)) (.seq (.loop [3] false .rng (.tup (.cons (.bin .mul (.var 0) (.var 1)) .nil)) FJ) (.retm 2)))
theorem DG{c r k:Nat}(hc:1≤c)(hr:1≤r):decide (((k / c:Nat):Int)<(r:Int)-1)=decide (k+c<c*r):=by
 refine decide_eq_decide.mpr ?_;have:=Nat.div_lt_iff_lt_mul (x:=k+c) (k:=c) (y:=r) hc
 rw[Nat.add_div_right _ hc,mul_comm r c]at this;omega
theorem KA{c r:Nat}(hc:1≤c)(hr:1≤r)(bj:c*r≤64)(d7:c≤64):aP G 4 pT [.int c,.int r]=some (.ok (.lst ((a8 c (c*r) (c*r)).map br))):=by
 obtain⟨ρ',l,s3,rfl⟩:=fQ (bind:=bB [3] false) (body:=ex G FJ) (fun k ρ=>∃s3,ρ=[.im (.int c),.im (.int r),.mu (.lst ((a8 c (c*r) k).map br)),s3]) (n:=c*r) (ρ:=[.im (.int c),.im (.int r),.mu (.lst []),.un]) ⟨_,rfl⟩ (by
   rintro k hk ρ ⟨s3,rfl⟩;have hl:=iT (c:=c) (n:=c*r) k
   refine⟨[.im (.int c),.im (.int r),.mu (.lst ((a8 c (c*r) k).map br)),.im (.int (k:Nat))],rfl,_,aH (jA (b:=decide (k % c<c-1)) (d:=br (k,k+1,false)) ?_ ?_ rfl (by rw[la];omega)) (jA (b:=decide (k+c<c*r)) (d:=br (k,k+c,true)) ?_ ?_ rfl ?_),.im (.int k),?_⟩
   ·simp only[zz,yy,aA,aB,wG hc,yE hc]
   ·simp only[zz,yy,aA,aB];rfl
   ·simp only[List.set];simp only[zz,yy,aA,aB,MA hc (show c<1000000 by omega),DG hc hr]
   ·simp only[List.set];simp only[zz,yy,aA,aB];rfl
   ·rw[nc,la];split<;>simp<;>omega
   ·simp only[List.set,lP,oo,List.append_assoc,wF])
 refine aJ (ρ:=[.im (.int c),.im (.int r),.un,.un]) rfl (aH (kX (ds:=[]) (by simp only[zz,yy,aB])) (aH ((dH (d:=.tup [.int ((c*r:Nat):Int)]) ?_ (dZ (by omega))).trans l) (iZ rfl)))
 simp only[List.set];simp only[zz,yy,aA,aB,kS (show c≤1000000 by omega)]
noncomputable def pV:IS:=(.seq (.iff (.tr (.var 1)) (.ret false (.ite (.tr (.ix (.var 0) (.lit (.int 4)))) (.ix (.var 0) (.lit (.int 1))) (.bin .add (.ix (.var 0) (.lit (.int 1))) (.lit (.int 1))))) .nop) (.ret false (.ite (.tr (.ix (.var 0) (.lit (.int 3)))) (.ix (.var 0) (.lit (.int 0))) (.bin .add (.ix (.var 0) (.lit (.int 0))) (.lit (.int 1))))))
noncomputable def pY:IS:=(.seq (.iff (.tr (.var 1)) (.ret false (.ite (.tr (.ix (.var 0) (.lit (.int 4)))) (.bin .add (.ix (.var 0) (.lit (.int 1))) (.lit (.int 1))) (.ix (.var 0) (.lit (.int 1))))) .nop) (.ret false (.ite (.tr (.ix (.var 0) (.lit (.int 3)))) (.bin .add (.ix (.var 0) (.lit (.int 0))) (.lit (.int 1))) (.ix (.var 0) (.lit (.int 0))))))
theorem KM{s:Spot}{d:D}(h:jF s d){l:Bool}:aP G 2 pV [d,.bl l]=some (.ok (.int (if l then gF s else gP s))):=by
 obtain⟨z,rfl⟩:=h;refine aJ (ρ:=[.im (.tup [.int s.x,.int s.y,.int z,.bl s.e,.bl s.n]),.im (.bl l)]) rfl ?_;unfold gF gP;cases l with
 |true =>
  refine hV (kO ?_ (aS ?_)) (fun _ z=>by cases z)
  ·simp only[zz,yy,aA,aB,aZ]
  ·cases s.n<;>(simp only[zz,yy,aA,aB,aZ,kP.2.1,kP.2.2.2];rfl)
 |false =>
  refine aH (dI ?_ aY) (aS ?_)
  ·simp only[zz,yy,aA,aB,aZ]
  ·cases s.e<;>(simp only[zz,yy,aA,aB,aZ,kP.1,kP.2.2.1];rfl)
theorem MI{s:Spot}{d:D}(h:jF s d){l:Bool}:aP G 2 pY [d,.bl l]=some (.ok (.int (if l then lin (!s.n) s.y else lin (!s.e) s.x))):=by
 obtain⟨z,rfl⟩:=h;refine aJ (ρ:=[.im (.tup [.int s.x,.int s.y,.int z,.bl s.e,.bl s.n]),.im (.bl l)]) rfl ?_;unfold lin;cases l with
 |true =>
  refine hV (kO ?_ (aS ?_)) (fun _ z=>by cases z)
  ·simp only[zz,yy,aA,aB,aZ]
  ·cases s.n<;>(simp only[zz,yy,aA,aB,aZ,kP.2.1,kP.2.2.2];rfl)
 |false =>
  refine aH (dI ?_ aY) (aS ?_)
  ·simp only[zz,yy,aA,aB,aZ]
  ·cases s.e<;>(simp only[zz,yy,aA,aB,aZ,kP.1,kP.2.2.1];rfl)
noncomputable def pU:IS:=(.seq (.iff (.and (.tr (.var 2)) (.or (.bin .ne (.ix (.var 0) (.lit (.int 0))) (.ix (.var 1) (.lit (.int 0)))) (.bin .ne (.ix (.var 0) (.lit (.int 3))) (.ix (.var 1) (.lit (.int 3)))))) (.ret false (.lit (.bl false))) .nop) (.seq (.iff (.and (.not (.tr (.var 2))) (.or (.bin .ne (.ix (.var 0) (.lit (.int 1))) (.ix (.var 1) (.lit (.int 1)))) (.bin .ne (.ix (.var 0) (.lit (.int 4))) (.ix (.var 1) (.lit (.int 4)))))) (.ret false (.lit (.bl false))) .nop) (.ret false (.bin .eq (.call "_law_line" (.cons (.var 0) (.cons (.var 2) .nil))) (.call "_law_back_line" (.cons (.var 1) (.cons (.var 2) .nil)))))))
theorem aAu{a:Bool}:ah .ne (.bl a) (.bl a)=some (.bl false):=by cases a<;>rfl
theorem aDN{i:Int}:ah .ne (.int i) (.int i)=some (.bl false):=by rw[ZT,beq_self_eq_true];rfl
theorem KJ(hli:∀(s:Spot) (d:D) (l:Bool),jF s d→G.fn "_law_line" [d,.bl l]=some (.ok (.int (if l then gF s else gP s))))(hbk:∀(s:Spot) (d:D) (l:Bool),jF s d→G.fn "_law_back_line" [d,.bl l]=some (.ok (.int (if l then lin (!s.n) s.y else lin (!s.e) s.x))))
  {s t:Spot} {d e:D} {l:Bool} (hs:jF s d) (ht:jF t e) (m:Meets s t l):aP G 3 pU [d,e,.bl l]=some (.ok (.bl true)):=by
 have el:=hli s d l hs
 have eb:=hbk t e l ht
 refine aJ (ρ:=[.im d,.im e,.im (.bl l)]) rfl (aH (dI ?_ aY) (aH (dI ?_ aY) (aS ?_)))
 ·simp only[cK,eF,bF];refine(qX (x:=l) (y:=false) (by simp only[zz,yy,aA,aB,aZ]) fun hl=>?_).trans (by rw[Bool.and_false])
  obtain⟨a,b,_⟩:=m.lv hl;obtain⟨z,rfl⟩:=hs;obtain⟨z',rfl⟩:=ht;refine bQ (x:=false) (y:=false) ?_ fun _=>?_
  ·simp only[zz,yy,aA,aB,kP.1,a,beq_self_eq_true,ng]
  ·simp only[zz,yy,aA,aB,kP.2.2.1,b,aAu]
 ·simp only[cK,eF,bF];refine(qX (x:=!l) (y:=false) (by simp only[zz,yy,aA,aB,aZ]) fun hl=>?_).trans (by rw[Bool.and_false])
  obtain⟨a,b,_⟩:=m.up (by simpa using hl)
  obtain⟨z,rfl⟩:=hs;obtain⟨z',rfl⟩:=ht;refine bQ (x:=false) (y:=false) ?_ fun _=>?_
  ·simp only[zz,yy,aA,aB,kP.2.1,a,beq_self_eq_true,ng]
  ·simp only[zz,yy,aA,aB,kP.2.2.2,b,aAu]
 ·have e1:(if l then gF s else gP s)=if l then lin (!t.n) t.y else lin (!t.e) t.x:=by
   cases hl:l with
   |true=>exact(m.lv hl).2.2
   |false=>exact(m.up hl).2.2
  simp only[zz,yy,aA,aB,el,eb];rw[e1,beq_self_eq_true]
noncomputable def pS:IS:=(.seq (.iff (.or (.not (.tr (.isi (.var 0) "tuple"))) (.or (.bin .ne (.bcall .len (.cons (.var 0) .nil)) (.lit (.int 4))) (.or (.not (.tr (.call "_law_whole" (.cons (.ix (.var 0) (.lit (.int 0))) .nil)))) (.not (.tr (.call "_law_whole" (.cons (.ix (.var 0) (.lit (.int 1))) .nil))))))) (.ret false (.lit (.bl false))) .nop) (.seq (.iff (.or (.not (.tr (.isi (.ix (.var 0) (.lit (.int 2))) "bool"))) (.not (.tr (.call "_law_whole" (.cons (.ix (.var 0) (.lit (.int 3))) .nil))))) (.ret false (.lit (.bl false))) .nop) (.ret false (.bin .eq (.var 0) (.tup (.cons (.var 1) (.cons (.var 2) (.cons (.var 3) (.cons (.var 4) .nil)))))))))
theorem GX(hw:∀i:Int,G.fn "_law_whole" [.int i]=some (.ok (.bl true))){a b ln:Int}{l:Bool}:aP G 5 pS [.tup [.int a,.int b,.bl l,.int ln],.int a,.int b,.bl l,.int ln]=some (.ok (.bl true)):=by
 refine aJ (ρ:=[.im (.tup [.int a,.int b,.bl l,.int ln]),.im (.int a),.im (.int b),.im (.bl l),.im (.int ln)]) rfl (aH (dI ?_ aY) (aH (dI ?_ aY) (aS ?_)))
 ·simp only[cK,eF,bF];refine bQ (x:=false) (y:=false) (by simp only[zz,yy,aA,aB,wL,aZ,ng]) fun _=>bQ (x:=false) (y:=false) ?_ fun _=>bQ (x:=false) (y:=false) (by simp only[zz,yy,aA,aB,ML.1,hw,aZ,ng]) fun _=>?_
  ·simp only[zz,yy,aA,aB];rfl
  ·simp only[zz,yy,aA,aB,ML.2.1,hw,aZ,ng]
 ·simp only[cK,eF,bF];refine bQ (x:=false) (y:=false) (by simp only[zz,yy,aA,aB,ML.2.2.1,gK,aZ,ng]) fun _=>?_
  simp only[zz,yy,aA,aB,ML.2.2.2,hw,aZ,ng]
 ·simp only[zz,yy,aA,aB];show some (D.bl (cx (.tup [.int a,.int b,.bl l,.int ln]) (.tup [.int a,.int b,.bl l,.int ln])))=_
  simp[cx,qY]
noncomputable def FK:IS:=(.iff (.bin .gt (.bin .mul (.fld (.var 3) "wide") (.fld (.var 3) "high")) (.lit (.int 1))) (.seq (.set 5 (.call "_law_fold_by" (.cons (.var 4) (.cons (.fld (.var 3) "wide") (.cons (.fld (.var 3) "high") .nil))))) (.set 3 (.call "folded" (.cons (.var 3) (.cons (.ix (.var 5) (.lit (.int 0))) (.cons (.ix (.var 5) (.lit (.int 1))) (.cons (.ix (.var 5) (.lit (.int 2))) .nil))))))) .nop)
noncomputable def b_k:IS:=(.seq (.sett [10,11,12] (.ix (.var 7) (.var 9))) (.seq (.iff (.not (.tr (.call "_law_meet" (.cons (.ix (.var 6) (.var 10)) (.cons (.ix (.var 6) (.var 11)) (.cons (.var 12) .nil)))))) (.ret false (.lit (.bl false))) .nop) (.iff (.not (.tr (.call "_law_told" (.cons (.ix (.var 8) (.var 9)) (.cons (.var 10) (.cons (.var 11) (.cons (.var 12) (.cons (.call "_law_line" (.cons (.ix (.var 6) (.var 10)) (.cons (.var 12) .nil))) .nil)))))))) (.ret false (.lit (.bl false))) .nop)))
noncomputable def wO:IS:=(.seq (.sett [1,2] (.call "_law_sheet_by" (.cons (.call "_law_cell_at" (.cons (.var 0) (.cons (.lit (.int 0)) .nil))) .nil))) (.seq (.set 3 (.call "laid" (.cons (.var 1) (.cons (.var 2) .nil)))) (.seq (.loop [4] false .seq (.sl (.var 0) true (.lit (.int 1)) false (.lit .non)) FK) (.seq (.iff (.or (.bin .ne (.fld (.var 3) "columns") (.var 1)) (.bin .ne (.fld (.var 3) "rows") (.var 2))) (.ret false (.lit (.bl false))) .nop) (.seq (.set 6 (.call "_law_seats" (.cons (.var 3) .nil))) (.seq (.iff (.bin .is (.var 6) (.lit .non)) (.ret false (.lit (.bl false))) .nop) (.seq (.set 7 (.call "_law_near" (.cons (.var 1) (.cons (.var 2) .nil)))) (.seq (.set 8 (.call "joints" (.cons (.var 3) .nil))) (.seq (.iff (.or (.not (.tr (.isi (.var 8) "list"))) (.bin .ne (.bcall .len (.cons (.var 8) .nil)) (.bcall .len (.cons (.var 7) .nil)))) (.ret false (.lit (.bl false))) .nop) (.seq (.loop [9] false .rng (.tup (.cons (.bcall .len (.cons (.var 7) .nil)) .nil)) b_k) (.ret false (.lit (.bl true)))))))))))))
noncomputable def fr(ns:List Int)(c r:Nat)(p:D)(s4 s5 s6 s7 s8 s9 f9 f7 bw:Sl):List Sl:=[.im (.frz (ns.map .int)),.im (.int c),.im (.int r),.im p,s4,s5,s6,s7,s8,s9,f9,f7,bw]
theorem SF(hf:G.fl "Pile" = b9){ns:List Int}(hca:∀k:Nat,G.fn "_law_cell_at" [.frz (ns.map .int),.int k]=some (.ok (.int (fi ns k))))
  (hsb:∀cell:Int,∃c r:Nat,1≤c∧1≤r∧c*r≤24∧G.fn "_law_sheet_by" [.int cell]=some (.ok (.tup [.int c,.int r])))
  (hl:∀c r:Nat,1≤c→1≤r→c*r≤64→G.fn "laid" [.int c,.int r]=some (.ok (aL c r c r (fG c r) [] [])))
  (hfb:∀(w h:Nat) (cell:Int),1≤w→1≤h→1<w*h→∃(sd:Side) (over:Bool) (k:Nat),1≤k∧(k<if sd.up then w else h)∧G.fn "_law_fold_by" [.int cell,.int w,.int h]=some (.ok (eI sd over k)))
  (hfp:∀(c r:Nat) (fs:List Fold) (sp:List Spot) (f:Fold),Stg c r fs sp→Fits c r fs f→fs.length≤1000→G.fn "folded" [bD c r fs,.str f.sd.str,.bl f.over,.int f.k]=some (.ok (bD c r (fs++[f]))))
  (gf:∀(c r:Nat) (fs:List Fold) (sp:List Spot),Stg c r fs sp→c≤64→∃ds,G.fn "_law_seats" [bD c r fs]=some (.ok (.lst ds))∧Seats sp ds (fun _ _=>True))
  (hnr:∀c r:Nat,1≤c→1≤r→c*r≤64→c≤64→G.fn "_law_near" [.int c,.int r]=some (.ok (.lst ((a8 c (c*r) (c*r)).map br))))
  (hjo:∀(c r:Nat) (fs:List Fold) (sp:List Spot),1≤c→c*r≤24→c≤64→Stg c r fs sp→G.fn "joints" [bD c r fs]=some (.ok (cm sp c r)))
  (hli:∀(s:Spot) (d:D) (l:Bool),jF s d→G.fn "_law_line" [d,.bl l]=some (.ok (.int (if l then gF s else gP s))))
  (fo:∀(s t:Spot) (d e:D) (l:Bool),jF s d→jF t e→Meets s t l→G.fn "_law_meet" [d,e,.bl l]=some (.ok (.bl true)))
  (hto:∀(a b ln:Int) (l:Bool),G.fn "_law_told" [.tup [.int a,.int b,.bl l,.int ln],.int a,.int b,.bl l,.int ln]=some (.ok (.bl true))) :
  aP G 13 wO [.frz (ns.map .int)]=some (.ok (.bl true)):=by
 have c0:G.fn "_law_cell_at" [.frz (ns.map .int),.int 0]=some (.ok (.int (fi ns 0))):=hca 0
 obtain⟨c,r,hc,hr,bj,esb⟩:=hsb (fi ns 0);have c64:c≤64:=mw (Nat.le_mul_of_pos_right c hr) (by omega)
 have r64:r≤64:=mw (Nat.le_mul_of_pos_left r hc) (by omega)
 have ela:=hl c r hc hr (by omega)
 have S0:Stg c r [] (eW c r):=⟨AJ hc hr (by omega),mE⟩
 obtain⟨ρ',l,fs,sp,s4,s5,S,M,hlen,rfl⟩:=oG (enc:=D.int) (bind:=bB [4] false) (body:=ex G FK) (fun _ ρ=>∃fs sp s4 s5,Stg c r fs sp∧Mt c (c*r) sp∧fs.length+(runs c r fs).2.1+(runs c r fs).2.2≤c+r∧ρ=fr ns c r (bD c r fs) s4 s5 .un .un .un .un .un .un .un) (L:=ns.drop 1) (ρ:=fr ns c r (bD c r []) .un .un .un .un .un .un .un .un .un)
  ⟨[],eW c r,_,_,S0,LB hc,by show 0+c+r≤c+r;omega,rfl⟩ (by
   rintro k cell hk ρ ⟨fs,sp,s4,s5,S,M,hlen,rfl⟩;refine⟨fr ns c r (bD c r fs) (.im (.int cell)) s5 .un .un .un .un .un .un .un,rfl,?_⟩;have w1:=S.sits.rect.w1
   have h1:=S.sits.rect.h1
   have w64:=S.sits.w64
   have h64:=S.sits.h64
   have ew:∀{ρ:List Sl} {a:IE},ev G a ρ=some (bD c r fs)→ev G (.fld a "wide") ρ=some (.int (runs c r fs).2.1):=fun e=>jQ hf e
   have eh:∀{ρ:List Sl} {a:IE},ev G a ρ=some (bD c r fs)→ev G (.fld a "high") ρ=some (.int (runs c r fs).2.2):=fun e=>jS hf e
   have et:ev G (.bin .gt (.bin .mul (.fld (.var 3) "wide") (.fld (.var 3) "high")) (.lit (.int 1))) (view (fr ns c r (bD c r fs) (.im (.int cell)) s5 .un .un .un .un .un .un .un))=some (.bl (decide (1<(runs c r fs).2.1*(runs c r fs).2.2))):=by
    rw[dJ,dJ,ew rfl,eh rfl];simp only[zz,yy,aA,aB,kS (show (runs c r fs).2.1≤1000000 by omega)]
    exact congrArg (fun b=>some (D.bl b)) (decide_eq_decide.mpr (by omega))
   by_cases hb:1<(runs c r fs).2.1*(runs c r fs).2.2
   ·obtain⟨sd,over,kk,k1,k2,efb⟩:=hfb _ _ cell w1 h1 hb;have ok:Fits c r fs ⟨sd,over,kk⟩:=⟨k1,k2⟩
    have efp:=hfp c r fs sp ⟨sd,over,kk⟩ S ok (by omega)
    obtain⟨top,low,ht,hlo⟩:=K06.rJ sp;have S':=S.fold ok ht hlo
    refine⟨fr ns c r (bD c r (fs++[⟨sd,over,kk⟩])) (.im (.int cell)) (.im (eI sd over kk)) .un .un .un .un .un .un .un,kO (et.trans (by rw[nq hb])) (aH (aW (d:=eI sd over kk) ?_) ((aW (d:=bD c r (fs++[⟨sd,over,kk⟩])) ?_).trans rfl)),fs++[⟨sd,over,kk⟩],_,_,_,S',M.fold fun s hs=>?_,?_,rfl⟩
    ·rw[gZ,bO,bO,ew rfl,bO,eh rfl];unfold fr;simp only[zz,yy,aA,aB,efb]
    ·unfold fr;simp only[List.set];simp only[zz,yy,aA,aB,eI,kQ.1,kQ.2.1,kQ.2.2,efp]
    ·refine mC k1 k2 ?_;unfold Spot.al;have a:=S.sits.xlt hs
     have b:=S.sits.ylt hs
     dsimp only;unfold ext;cases sd.up<;>assumption
    ·rw[jL,nc];have iy:kk<if sd.up then(runs c r fs).2.1 else(runs c r fs).2.2:=k2
     unfold BL;simp only[om,List.length_nil];cases hu:sd.up with
     |true=>rw[hu]at iy;simp only[if_true]at iy ⊢;omega
     |false=>rw[hu]at iy;simp only[lr,if_false]at iy ⊢;omega
   ·exact⟨_,dI (et.trans (by rw[lp hb])) aY,fs,sp,_,_,S,M,hlen,rfl⟩)
 obtain⟨ds,eds,St⟩:=gf c r fs sp S c64;have enr:=hnr c r hc hr (by omega) c64
 have ejo:=hjo c r fs sp hc bj c64 S
 have hnl:=iT (c:=c) (n:=c*r) (c*r)
 obtain⟨ρ2,l2,s9,f9,f7,bw,rfl⟩:=fQ (bind:=bB [9] false) (body:=ex G b_k) (fun _ ρ=>∃s9 f9 f7 bw,ρ=fr ns c r (bD c r fs) s4 s5 (.im (.lst ds)) (.im (.lst ((a8 c (c*r) (c*r)).map br))) (.im (cm sp c r)) s9 f9 f7 bw) (n:=(a8 c (c*r) (c*r)).length) (ρ:=fr ns c r (bD c r fs) s4 s5 (.im (.lst ds)) (.im (.lst ((a8 c (c*r) (c*r)).map br))) (.im (cm sp c r)) .un .un .un .un) ⟨_,_,_,_,rfl⟩ (by
  rintro k hk ρ ⟨s9,f9,f7,bw,rfl⟩;obtain⟨j,hj⟩:∃j,(a8 c (c*r) (c*r))[k]?=some j:=⟨_,l8 hk⟩;have hm:=l6 hj
  obtain⟨j1,j2⟩:=DH hm;have j3:j.2.1<c*r:=by
   rcases j2 with ⟨e1,_,e3⟩|⟨e1,_,e3⟩
   ·obtain⟨a,b⟩:=mod_succ e3;rw[e1];have:=Nat.div_lt_iff_lt_mul (x:=j.1) (k:=c) (y:=r) hc
    have h3:=Nat.div_lt_iff_lt_mul (x:=j.1+1) (k:=c) (y:=r) hc
    rw[mul_comm r c]at this h3;exact h3.mp (by rw[b];exact this.mpr j1)
   ·omega
  obtain⟨t1,ik⟩:∃t,sp[j.1]?=some t:=⟨_,l8 (by rw[S.len];exact j1)⟩
  obtain⟨t2,fb⟩:∃t,sp[j.2.1]?=some t:=⟨_,l8 (by rw[S.len];exact j3)⟩
  obtain⟨d1,e1,q1⟩:=St.has _ _ ik trivial;obtain⟨d2,e2,q2⟩:=St.has _ _ fb trivial;have em:=fo _ _ d1 d2 j.2.2 q1 q2 (M j hm _ _ ik fb)
  have eli:=hli _ d1 j.2.2 q1
  have a1:atI ds (j.1:Int)=some d1:=dM e1
  have a2:atI ds (j.2.1:Int)=some d2:=dM e2
  have a3:atI ((a8 c (c*r) (c*r)).map br) (k:Int)=some (br j):=dM (by rw[l9,hj];rfl)
  have a4:atI ((a8 c (c*r) (c*r)).map (jD sp)) (k:Int)=some (jD sp j):=dM (by rw[l9,hj];rfl)
  have el:KL sp j.1 j.2.2=if j.2.2 then gF t1 else gP t1:=wH ik
  refine⟨fr ns c r (bD c r fs) s4 s5 (.im (.lst ds)) (.im (.lst ((a8 c (c*r) (c*r)).map br))) (.im (cm sp c r)) (.im (.int (k:Nat))) f9 f7 bw,rfl,fr ns c r (bD c r fs) s4 s5 (.im (.lst ds)) (.im (.lst ((a8 c (c*r) (c*r)).map br))) (.im (cm sp c r)) (.im (.int (k:Nat))) (.im (.int j.1)) (.im (.int j.2.1)) (.im (.bl j.2.2)),aH (ρ':=fr ns c r (bD c r fs) s4 s5 (.im (.lst ds)) (.im (.lst ((a8 c (c*r) (c*r)).map br))) (.im (cm sp c r)) (.im (.int (k:Nat))) (.im (.int j.1)) (.im (.int j.2.1)) (.im (.bl j.2.2))) (tF.trans ?_) (aH (dI ?_ aY) (dI ?_ aY)),_,_,_,_,rfl⟩
  ·unfold fr;simp only[zz,yy,aA,aB,a3];rfl
  ·unfold fr cm;simp only[cK,eF];simp only[zz,yy,aA,aB,a1,a2,em,aZ,ng]
  ·unfold fr cm;simp only[cK,eF];simp only[zz,yy,aA,aB,a1,a4,eli];unfold jD;rw[el];simp only[zz,yy,aA,aB,hto,aZ,ng])
 have e3:∀{ρ:List Sl} {a:IE},ev G a ρ=some (bD c r fs)→ev G (.fld a "columns") ρ=some (.int c):=fun e=>gT hf e
 have e4:∀{ρ:List Sl} {a:IE},ev G a ρ=some (bD c r fs)→ev G (.fld a "rows") ρ=some (.int r):=fun e=>pN hf e
 refine aJ (ρ:=[.im (.frz (ns.map .int)),.un,.un,.un,.un,.un,.un,.un,.un,.un,.un,.un,.un]) rfl ?_;refine aH (ρ':=[.im (.frz (ns.map .int)),.im (.int c),.im (.int r),.un,.un,.un,.un,.un,.un,.un,.un,.un,.un]) (tF.trans ?_) (aH (aW (d:=bD c r []) ?_) (aH ((dH (d:=.lst ((ns.drop 1).map .int)) ?_ fV).trans l) (aH (dI ?_ aY) (aH (aW (d:=.lst ds) ?_) (aH (dI ?_ aY) (aH (aW (d:=.lst ((a8 c (c*r) (c*r)).map br)) ?_) (aH (aW (d:=cm sp c r) ?_) (aH (dI ?_ aY) (aH ((dH (d:=.tup [.int (((a8 c (c*r) (c*r)).length:Nat):Int)]) ?_ (dZ (by omega))).trans l2) (aS ?_))))))))))
 ·simp only[zz,yy,aA,aB,c0,esb];rfl
 ·simp only[zz,yy,aA,aB,ela];rfl
 ·simp only[List.set];simp only[zz,yy,aA,aB,part,intOf,if_true,lr,if_false];show some (D.lst (cut (ns.map .int) (some ((1:Nat):Int)) none))=_
  rw[ME,tL]
 ·unfold fr;simp only[cK,eF];refine bQ (x:=false) (y:=false) ?_ fun _=>?_
  ·rw[dJ,e3 rfl];simp only[zz,yy,aA,aB,beq_self_eq_true,ng]
  ·rw[dJ,e4 rfl];simp only[zz,yy,aA,aB,beq_self_eq_true,ng]
 ·unfold fr;simp only[zz,yy,aA,aB,eds]
 ·unfold fr;simp only[List.set,cK,eF];rw[dJ];rfl
 ·unfold fr;simp only[List.set];simp only[zz,yy,aA,aB,enr]
 ·unfold fr;simp only[List.set];simp only[zz,yy,aA,aB,ejo]
 ·unfold fr cm;simp only[List.set,cK,eF];refine bQ (x:=false) (y:=false) (by simp only[zz,yy,aA,aB,wM,aZ,ng]) fun _=>?_
  simp only[zz,yy,aA,aB,la];exact aDN
 ·unfold fr;simp only[List.set];simp only[zz,yy,aA,aB,la]
 ·unfold fr;simp only[zz,yy]
end
end K06
structure CC where
 N:List Str
 sc:Scope
 fns:List Str
 cls:List Str
 csts:List Str
 mus:List Str
 fresh:List Str
noncomputable def bC(c:CC)(x:Str):Option Nat:=match c.sc.names.lookup x with
 |some .local=>c.N.idxOf? x
 |some .cell=>c.N.idxOf? x
 |some .free=>c.N.idxOf? x
 |_=>none
noncomputable def aO(c:CC)(x:Str):Bool:=c.sc.names.lookup x == some .globalImplicit
noncomputable def SC(c:CC)(x:Str):Option Nat:=if c.mus.contains x then bC c x else none
noncomputable def one?{α:Type}:List α→Option α
 |[a]=>some a
 |_=>none
noncomputable def nameP:Expr→Option (Str×Pos)
 |.Name x p=>some (x,p)
 |_=>none
noncomputable def FM:Expr→Option (Expr×Str×Pos)
 |.Attribute o m p=>some (o,m,p)
 |_=>none
noncomputable def mR:Expr→Option (Expr×List Expr×List Keyword×Pos)
 |.Call f as kw p=>some (f,as,kw,p)
 |_=>none
noncomputable def jv:Expr→Option (Option Expr×Option Expr×Option Expr×Pos)
 |.Slice a b st p=>some (a,b,st,p)
 |_=>none
noncomputable def tupP:Expr→Option (List Expr×Nat×Pos)
 |.Tuple es k p=>some (es,k,p)
 |_=>none
noncomputable def aBn:Expr→Option (Const×Nat×Pos)
 |.Constant v k p=>some (v,k,p)
 |_=>none
noncomputable def cO(c:CC)(e:Expr):Option Nat:=(nameP e).bind fun x=>SC c x.1
noncomputable def JO:Operator→Option O2
 |.Add=>some .add
 |.Sub=>some .sub
 |.Mult=>some .mul
 |.FloorDiv=>some .fdiv
 |.Mod=>some .mod
 |.Pow=>some .pow
 |_=>none
noncomputable def iA:CmpOp→O2
 |.Eq=>.eq
 |.NotEq=>.ne
 |.Lt=>.lt
 |.LtE=>.le
 |.Gt=>.gt
 |.GtE=>.ge
 |.Is=>.is
 |.IsNot=>.isnot
 |.In=>.isin
 |.NotIn=>.notin
noncomputable def nG(x:Str):Option BF:=
 if x = "len" then some .len else if x = "int" then some .int else if x = "list" then some .list else if x = "tuple" then some .tuple else if x = "max" then some .max
 else if x = "min" then some .min else if x = "str" then some .str else if x = "any" then some .any else none
noncomputable def srcOf(x:Str):Option Src:=
 if x = "range" then some .rng else if x = "reversed" then some .rev else none
noncomputable def EJ(_:Bool)(_:Src):Bool:=true
noncomputable def gS:List Str:=["int","bool","str","list","tuple"]
noncomputable def eC(c:CC):Expr→Option Nat
 |.Name x _=>match c.sc.names.lookup x with
  |some .local=>c.N.idxOf? x
  |some .cell=>c.N.idxOf? x
  |_=>none
 |_=>none
noncomputable def eE(c:CC):List Expr→Option (List Nat)
 |[]=>some []
 |e::r=>do some ((←eC c e)::(←eE c r))
noncomputable def bN(c:CC):Expr→Option (List Nat×Bool)
 |.Name x p=>(eC c (.Name x p)).map fun i=>([i],false)
 |.Tuple es _ _=>(eE c es).map fun is=>(is,true)
 |_=>none
noncomputable def pR:NameKind→Bool
 |.globalImplicit=>true
 |.globalExplicit=>true
 |_=>false
noncomputable def ownNames(sc:Scope):List Str:=(sc.names.filter fun x=>!pR x.2).map (·.1)
noncomputable def gU:Expr→Bool
 |.Call _ _ _ _=>false
 |_=>true
noncomputable def iL(c:CC)(sc:Scope):Bool:=
 sc.kind == .function&&sc.names.all (fun x=>x.2 != .cell)&&sc.names.all (fun x=>x.2 != .local || sc.names.lookup x.1 == some .local)&&sc.names.all (fun x=>x.2 != .free || sc.names.lookup x.1 == some .free)&&decide (ownNames sc).Nodup &&
 (ownNames sc).all (fun x=>!(x == ("__debug__":Str))&&!(x == ("__classdict__":Str)))&&!(sc.names.lookup ("__debug__":Str) == some NameKind.globalImplicit) &&
 sc.names.all (fun x=>x.2 != .free || (c.sc.names.lookup x.1 == some .cell || c.sc.names.lookup x.1 == some .free))
noncomputable def freeOf(c:CC)(sc:Scope):List (Str×NameKind)→Option (List (Nat×Nat))
 |[]=>some []
 |x::r=>do some ((←(ownNames sc).idxOf? x.1,←bC c x.1)::(←freeOf c sc r))
noncomputable def own(c:CC)(x:Str):Bool:=c.fns.contains x || c.cls.contains x
noncomputable def uF(c:CC)(x:Str):Option IE:=match bC c x with
 |some i=>some (.var i)
 |none=>if aO c x&&c.csts.contains x then some (.glo x) else none
noncomputable def vU:Const→Option IE
 |.int i=>some (.lit (.int i))
 |.bool b=>some (.lit (.bl b))
 |.str x=>some (.lit (.str x))
 |.none=>some (.lit .non)
 |_=>none
noncomputable def XU(a:Option IE):UnaryOp→Option IE
 |.USub=>a.map .neg
 |.Not=>a.map fun x=>.not (.tr x)
 |_=>none
noncomputable def boK:BoolOp→Bool
 |.And=>true
 |.Or=>false
noncomputable def AR:List Str:=["SPINE_LINES","WAYS"]
noncomputable def aAZ:CmpOp→Option Bool
 |.In=>some false
 |.NotIn=>some true
 |_=>none
noncomputable def aBa(c:CC)(o:CmpOp)(b:Expr):Option (Bool×Str):=(aAZ o).bind fun k=>(nameP b).bind fun q=>if aO c q.1&&AR.contains q.1 then some (k,q.1) else none
noncomputable def BW(c:CC)(f:Expr→Option IE)(a:Option IE):List CmpOp→List Expr→Option IE
 |[o],[b]=>a.bind fun x=>match aBa c o b with
  |some q=>some (.inC q.1 q.2 x)
  |none=>(f b).map fun y=>.bin (iA o) x y
 |[o,o'],[b,d]=>a.bind fun x=>(f b).bind fun y=>(f d).map fun z=>.chain (iA o) (iA o') x y z
 |_,_=>none
noncomputable def pG(f:Expr→Option IE):Option Expr→Option IE
 |none=>some (.lit .non)
 |some e=>f e
noncomputable def XW(m:Option Nat)(a:Option IE)(bl:Bool)(l:IE)(bh:Bool)(h:IE):Option IE:=match m with
 |some i=>some (.slm i bl l bh h)
 |none=>a.map fun x=>.sl x bl l bh h
noncomputable def XZ(m:Option Nat)(a:Option IE)(k:IE):Option IE:=match m with
 |some i=>some (.ixm i k)
 |none=>a.map fun x=>.ix x k
noncomputable def BS(f:Expr→Option IE)(m:Option Nat)(a:Option IE)(i:Expr):Option IE:=match jv i with
 |some q=>if q.2.2.1.isSome then none else(pG f q.1).bind fun l=>(pG f q.2.1).bind fun h=>XW m a q.1.isSome l q.2.1.isSome h
 |none=>(f i).bind (XZ m a)
noncomputable def BU(f:Expr→Option IE)(c:CC):List Expr→Option IE
 |[a,y]=>(nameP y).bind fun y=>if aO c y.1&&gS.contains y.1&&!own c y.1 then(f a).map fun x=>.isi x y.1 else none
 |_=>none
noncomputable def NP(c:CC)(args:List Expr):Option Nat:=(one? args).bind (cO c)
noncomputable def mT(c:CC)(e:Expr):Option (Str×List Expr):=(mR e).bind fun q=>(nameP q.1).bind fun x=>if q.2.2.1.isEmpty&&aO c x.1&&!own c x.1 then some (x.1,q.2.1) else none
noncomputable def uD(c:CC)(args:List Expr):Option Expr:=(one? args).bind fun e=>(mT c e).bind fun q=>if q.1 == "reversed" then one? q.2 else none
noncomputable def aDj(b:BF)(as:Option IE)(i:Nat):Option IE:=match b with
 |.len=>some (.lenm i)
 |_=>as.map fun x=>.bcall b x
noncomputable def QD(b:BF)(as:Option IE)(w:Option (Option IE)):Option IE:=match b,w with
 |.list,some o=>o.map fun x=>.walk .rev x
 |_,_=>as.map fun x=>.bcall b x
noncomputable def zI(f:Expr→Option IE)(c:CC)(b:BF)(args:List Expr)(as:Option IE):Option IE:=match NP c args with
 |some i=>aDj b as i
 |none=>QD b as ((uD c args).map f)
noncomputable def vV(f:Expr→Option IE)(c:CC)(x:Str)(args:List Expr)(as:Option IE):Option IE:=
 if aO c x then
  (if c.fns.contains x then as.map fun y=>.call x y
   else if c.cls.contains x then as.map fun y=>.mk x y
   else if x == "isinstance" then BU f c args
   else(nG x).bind fun b=>zI f c b args as)
 else none
noncomputable def QE(f:Expr→Option IE)(c:CC)(g:Expr)(args:List Expr)(as:Option IE)(p:Pos):Option IE:=match g with
 |.Name x _=>vV f c x args as
 |.Attribute o m ap=>if gU o&&decide (args.length<30)&&(ap.endLine == p.line) then(f o).bind fun x=>as.map fun y=>.meth x m y else none
 |_=>none
noncomputable def QC(f:Expr→Option IE):List Expr→Option IE
 |[]=>some (.lit (.bl true))
 |[e]=>f e
 |_=>none
noncomputable def BV(c:CC)(sc:Scope)(g:Comprehension)(it:Option (Src×IE))(ct:Expr→Option IE)(el:Option IE):Option IE:=
 (bN { c with N:=ownNames sc,sc:=sc } g.target).bind fun tg=>it.bind fun k=>(QC ct g.ifs).bind fun te=>el.bind fun el=>(freeOf c sc (sc.names.filter fun x=>x.2 == .free)).bind fun fr =>
  if iL c sc&&tg.1.all (fun i=>(fr.lookup i).isNone) then some (.comp (ownNames sc).length fr tg.1 tg.2 k.1 k.2 te el) else none
noncomputable def few(es:List Expr):Bool:=decide (es.length≤100)
mutual
noncomputable def cE:Nat→CC→Expr→Option IE
 | 0,_,_=>none
 |n+1,c,e=>match e with
  |.Name x _=>uF c x
  |.Constant v _ _=>vU v
  |.BinOp a o b _=>(JO o).bind fun o=>(cE n c a).bind fun x=>(cE n c b).map fun y=>.bin o x y
  |.UnaryOp o a _=>XU (cE n c a) o
  |.BoolOp o vs _=>cB n c false (boK o) vs
  |.IfExp d a b _=>(cT n c d).bind fun x=>(cE n c a).bind fun y=>(cE n c b).map fun z=>.ite x y z
  |.Compare a os bs _=>BW c (cE n c) (cE n c a) os bs
  |.Tuple es _ _=>if few es then(cA n c es).map .tup else none
  |.List es _=>if few es then(cA n c es).map .lst else none
  |.Subscript a i _=>BS (cE n c) (cO c a) (cE n c a) i
  |.Attribute a f _=>if gU a then(cE n c a).map fun x=>.fld x f else none
  |.ListComp elt gs sc _=>(one? gs).bind fun g=>if g.is_async=0 then BV c sc g (cI n c g.iter) (cT n { c with N:=ownNames sc,sc:=sc }) (cE n { c with N:=ownNames sc,sc:=sc } elt) else none
  |.Call f args kw p=>if kw.isEmpty then QE (cE n c) c f args (cA n c args) p else none
  |_=>none
noncomputable def cT:Nat→CC→Expr→Option IE
 | 0,_,_=>none
 |n+1,c,e=>match e with
  |.BoolOp o vs _=>cB n c true (boK o) vs
  |.UnaryOp .Not a _=>(cT n c a).map .not
  |.Compare a os bs _=>BW c (cE n c) (cE n c a) os bs
  |.IfExp _ _ _ _=>none
  |e=>(cE n c e).map .tr
noncomputable def cB:Nat→CC→Bool→Bool→List Expr→Option IE
 | 0,_,_,_,_=>none
 |n+1,c,t,k,[]=>none
 |n+1,c,t,k,[a]=>if t then cT n c a else cE n c a
 |n+1,c,t,k,a::b::r=>(if t then cT n c a else cE n c a).bind fun x=>(cB n c t k (b::r)).map fun y=>if k then .and x y else .or x y
noncomputable def cA:Nat→CC→List Expr→Option IE
 | 0,_,_=>none
 |n+1,c,[]=>some .nil
 |n+1,c,e::es=>(cE n c e).bind fun x=>(cA n c es).map fun y=>.cons x y
noncomputable def cI:Nat→CC→Expr→Option (Src×IE)
 | 0,_,_=>none
 |n+1,c,e=>match (mT c e).bind fun q=>(srcOf q.1).map fun k=>(k,q.2) with
  |some q=>(match q.1 with
   |.rng=>(cA n c q.2).map fun y=>(.rng,.tup y)
   |k=>(one? q.2).bind fun a=>(cE n c a).map fun y=>(k,y))
  |none=>(cE n c e).map fun y=>(.seq,y)
end
noncomputable def aDV(i:Expr):Bool:=(jv i).isSome
noncomputable def SS(c:CC):Expr→Bool
 |.Name x _=>(c.fns.contains x&&c.fresh.contains x) || (aO c x&&(x == "list" || x == "sorted")&&!own c x)
 |.Attribute _ m _=>c.fresh.contains m
 |_=>false
noncomputable def eV(c:CC):Expr→Bool
 |.List _ _=>true
 |.ListComp _ _ _ _=>true
 |.Subscript _ i _=>aDV i
 |.Call f _ _ _=>SS c f
 |_=>false
noncomputable def WM(e:Expr):Option Str:=(aBn e).bind fun v=>match v.1 with
 |.str x=>some x
 |_=>none
noncomputable def FN(c:CC):Bool:=match c.N with
 |x::_=>c.mus.contains x
 |[]=>false
noncomputable def XY(f:Expr→Option IE)(c:CC):Option Expr→Option IS
 |none=>some .retn
 |some e=>if FN c then(f e).map .retq else match cO c e with
  |some i=>some (.retm i)
  |none=>(f e).map fun x=>.ret (eV c e) x
noncomputable def wN:Expr→Bool
 |.Dict [] [] _=>true
 |_=>false
noncomputable def BX(f:Expr→Option IE)(c:CC)(x:Str)(e:Expr)(i:Nat):Option IS:=
 if c.mus.contains x then(if wN e then some (.setd i) else if eV c e then(f e).map fun y=>.setm i y else none) else(f e).map fun y=>.set i y
noncomputable def uE(f:Expr→Option IE)(c:CC)(ts:List Expr)(e:Expr):Option IS:=match tupP e with
 |some _=>none
 |none=>(eE c ts).bind fun is=>(f e).map fun y=>.sett is y
noncomputable def NF(f:Expr→Option IE)(c:CC)(e:Expr):Expr→Option IS
 |.Name x p=>(eC c (.Name x p)).bind (BX f c x e)
 |.Tuple ts _ _=>uE f c ts e
 |.Subscript a i _=>(cO c a).bind fun j=>(f i).bind fun k=>(f e).map fun y=>.put j k y
 |_=>none
noncomputable def MN(c:CC)(e:Expr):Option (Nat×Expr):=(mR e).bind fun q=>(FM q.1).bind fun g=>(cO c g.1).bind fun j=>(one? q.2.1).bind fun a=>if q.2.2.1.isEmpty&&g.2.1 == "append" && g.2.2.endLine == q.2.2.2.line then some (j,a) else none
noncomputable def aDk(f:Expr→Option IE)(c:CC)(e:Expr):Option IS:=match MN c e with
 |some q=>(f q.2).map fun x=>.app q.1 x
 |none=>(mR e).bind fun _=>(f e).map .drop
noncomputable def XX(c:CC)(e:Option Expr)(h:Option Expr):Option IS:=e.bind fun e=>(mR e).bind fun q=>(nameP q.1).bind fun x=>(one? q.2.1).bind fun a=>(WM a).bind fun _ =>
 if h.isNone&&q.2.2.1.isEmpty&&aO c x.1&&c.cls.contains x.1 then some (.rse x.1) else none
noncomputable def XT:Stmt→Option (Option Expr×Pos)
 |.Return e p=>some (e,p)
 |_=>none
noncomputable def ifP:Stmt→Option (Expr×List Stmt×List Stmt)
 |.If t a b _=>some (t,a,b)
 |_=>none
noncomputable def MG(c:CC)(tg iter:Expr)(body:List Stmt):Option (Nat×Nat×Expr×Expr):=(cO c iter).bind fun x=>(eC c tg).bind fun i=>(one? body).bind fun s=>(ifP s).bind fun q=>(one? q.2.1).bind fun r=>(XT r).bind fun r=>r.1.bind fun e=>if q.2.2.isEmpty&&i != x then some (x,i,q.1,e) else none
noncomputable def NZ:Expr→Option (BoolOp×List Expr)
 |.BoolOp o vs _=>some (o,vs)
 |_=>none
noncomputable def RQ:Expr→Option Expr
 |.UnaryOp .Not a _=>some a
 |_=>none
noncomputable def AM:List Str:=["_law_fill"]
noncomputable def qB(c:CC)(e:Expr):Option (Str×Nat×List Expr):=(mR e).bind fun q=>(nameP q.1).bind fun f=>if q.2.2.1.isEmpty&&aO c f.1&&AM.contains f.1 then(match q.2.1 with
 |a::as=>(cO c a).map fun j=>(f.1,j,as)
 |[]=>none) else none
noncomputable def LF(c:CC)(t:Expr):Option (Expr×Str×Nat×List Expr):=(NZ t).bind fun q=>if boK q.1 then none else match q.2 with
 |[a,b]=>(RQ b).bind fun e=>(qB c e).map fun r=>(a,r)
 |_=>none
mutual
noncomputable def cS:Nat→CC→Stmt→Option IS
 | 0,_,_=>none
 |n+1,c,st=>match st with
  |.Pass _=>some .nop
  |.Return v _=>XY (cE n c) c v
  |.Assign ts e _=>(one? ts).bind (NF (cE n c) c e)
  |.If t a b _=>match LF c t with
   |some q=>if b.isEmpty then(cT n c q.1).bind fun t=>(cA n c q.2.2.2).bind fun es=>(cy n c a).map fun a=>.fil t q.2.1 q.2.2.1 es a else none
   |none=>(cT n c t).bind fun t=>(cy n c a).bind fun a=>(cy n c b).map fun b=>.iff t a b
  |.For tg iter body els _=>if els.isEmpty then(match MG c tg iter body with
   |some q=>(cT n c q.2.2.1).bind fun t=>(cE n c q.2.2.2).map fun e=>.chkm q.1 q.2.1 t e
   |none=>(bN c tg).bind fun g=>(cI n c iter).bind fun k=>if EJ g.2 k.1 then(cy n c body).map fun b=>.loop g.1 g.2 k.1 k.2 b else none) else none
  |.Expr e _=>aDk (cE n c) c e
  |.Raise e h _=>XX c e h
  |_=>none
noncomputable def cy:Nat→CC→List Stmt→Option IS
 | 0,_,_=>none
 |n+1,c,[]=>some .nop
 |n+1,c,[s]=>cS n c s
 |n+1,c,s::s2::r=>(cS n c s).bind fun a=>(cy n c (s2::r)).map fun b=>.seq a b
end
theorem bZ{α:Type}{l:List α}{a:α}(h:one? l=some a):l=[a]:=by
 match l,h with
 |[_],h=>exact congrArg (fun x=>[x]) (lz h)
theorem cM{e:Expr}{x:Str×Pos}(h:nameP e=some x):e=.Name x.1 x.2:=by
 cases e<;>first|exact nomatch (show none=some x from h)|(cases (show some _=some x from h);rfl)
theorem mU{e:Expr}{x:Expr×Str×Pos}(h:FM e=some x):e=.Attribute x.1 x.2.1 x.2.2:=by
 cases e<;>first|exact nomatch (show none=some x from h)|(cases (show some _=some x from h);rfl)
theorem eX{e:Expr}{x:Expr×List Expr×List Keyword×Pos}(h:mR e=some x):e=.Call x.1 x.2.1 x.2.2.1 x.2.2.2:=by
 cases e<;>first|exact nomatch (show none=some x from h)|(cases (show some _=some x from h);rfl)
theorem BO{e:Expr}{x:Option Expr×Option Expr×Option Expr×Pos}(h:jv e=some x):e=.Slice x.1 x.2.1 x.2.2.1 x.2.2.2:=by
 cases e<;>first|exact nomatch (show none=some x from h)|(cases (show some _=some x from h);rfl)
theorem AV{e:Expr}{x:Const×Nat×Pos}(h:aBn e=some x):e=.Constant x.1 x.2.1 x.2.2:=by
 cases e<;>first|exact nomatch (show none=some x from h)|(cases (show some _=some x from h);rfl)
theorem aE{α β:Type}{o:Option α}{f:α→Option β}{b:β}(h:o.bind f=some b):∃a,o=some a∧f a=some b:=l7.mp h
theorem aI{α β:Type}{o:Option α}{f:α→β}{b:β}(h:o.map f=some b):∃a,o=some a∧b=f a:=by
 obtain⟨a,h1,h2⟩:=ma.mp h;exact⟨a,h1,h2.symm⟩
theorem aX{α:Type}{k:Bool}{o:Option α}{a:α}(h:(if k then o else none)=some a):k=true∧o=some a:=by
 cases k with
 |true=>exact⟨rfl,h⟩
 |false=>exact nomatch (show none=some a from h)
theorem bS{a b:Bool}(h:(a&&b)=true):a=true∧b=true:=(ly a b) ▸ h
theorem NL{a:Bool}(h:(!a)=true):a=false:=by cases a<;>first|rfl|exact h.symm
theorem jB{α:Type}{l:List α}(h:l.isEmpty=true):l=[]:=List.isEmpty_iff.mp h
theorem CP{c:CC}{x:Str}(h:own c x=false):c.fns.contains x=false∧c.cls.contains x=false:=by
 unfold own at h;rw[Bool.or_eq_false_iff]at h;exact h
theorem kJ{c:CC}{e:Expr}{q:Str×List Expr}(h:mT c e=some q):∃p1 p2,e=.Call (.Name q.1 p1) q.2 [] p2∧aO c q.1=true∧own c q.1=false:=by
 obtain⟨r,h1,h⟩:=aE h;obtain⟨x,h2,h⟩:=aE h;obtain⟨h3,h⟩:=aX h;obtain⟨h3,h5⟩:=bS h3;obtain⟨h3,h4⟩:=bS h3;cases h;exact⟨x.2,r.2.2.2,by rw[eX h1,cM h2,jB h3],h4,NL h5⟩
theorem zC{e:Expr}{x:Str}(h:WM e=some x):∃j p,e=.Constant (.str x) j p:=by
 obtain⟨v,h1,h⟩:=aE h;obtain⟨v,j,p⟩:=v;have e1:=AV h1
 cases v<;>first|exact nomatch (show none=some x from h)|(cases (show some _=some x from h);exact⟨j,p,e1⟩)
end Z
namespace Z
open PySem PySem.Spec PyProof.Rows L2
def ExcAt(xc:Str→Option Addr)(H:Hp)(a:Addr)(c:Str):Prop:=
 ∃φ C,H a=some (.ext φ)∧xc c=some C∧∀h:Heap,φ h→∃o,h.get? a=some o∧o.cls=.ref C
structure Tx where
 cl:Str→Option Addr
 xc:Str→Option Addr
section
variable (K:p6)(T:Tx)(H:Hp)(S:Addr→Prop)
mutual
noncomputable def Rep:D→V→Prop
 |.non,v=>v=.non
 |.bl b,v=>v=.bl b
 |.int i,v=>v=.int i
 |.str x,v=>v=.str x
 |.lst ds,v=>∃a xs,v=.ref a∧¬S a∧H a=some (.lst xs)∧aD ds xs
 |.tup ds,v=>∃a xs,v=.ref a∧¬S a∧SqT K H a xs∧aD ds xs
 |.obj c fs,v=>∃a C dx gs,v=.ref a∧¬S a∧T.cl c=some C∧H a=some (.ins C dx gs)∧bT fs gs
 |.exc c,v=>∃a,v=.ref a∧¬S a∧ExcAt T.xc H a c
 |.dct kvs,v=>∃a gs,v=.ref a∧¬S a∧H a=some (.dK gs)∧aU kvs gs
 |.frz ds,v=>∃a xs,v=.ref a∧¬S a∧SqL K H a xs∧aD ds xs
noncomputable def aD:List D→List V→Prop
 |[],xs=>xs=[]
 |d::ds,xs=>∃x r,xs=x::r∧Rep d x∧aD ds r
noncomputable def bT:List (Str×D)→List (Str×V)→Prop
 |[],gs=>gs=[]
 | (f,d)::fs,gs=>∃x r,gs=(f,x)::r∧Rep d x∧bT fs r
noncomputable def aU:List (Int×D)→List (Key×V)→Prop
 |[],gs=>gs=[]
 | (i,d)::fs,gs=>∃x r,gs=(Sum.inl i,x)::r∧Rep d x∧aU fs r
end
end
section
variable {K:p6}{T:Tx}{H H':Hp}{S S':Addr→Prop}
theorem SqT.keeps{a:Addr}{xs:List V}(h:SqT K H a xs)(k:∀o,H a=some o→H' a=some o):SqT K H' a xs:=by
 rcases h with (h|⟨o,h⟩)|h
 ·exact .inl (.inl (k _ h))
 ·exact .inl (.inr ⟨o,k _ h⟩)
 ·exact .inr h
theorem SqL.keeps{a:Addr}{xs:List V}(h:SqL K H a xs)(k:∀o,H a=some o→H' a=some o):SqL K H' a xs:=by
 rcases h with (h|⟨o,h⟩)|h
 ·exact .inl (.inl (k _ h))
 ·exact .inl (.inr ⟨o,k _ h⟩)
 ·exact .inr h
def aG(K:p6)(H H':Hp)(S S':Addr→Prop):Prop:=∀a,¬S a→((∃o,H a=some o)∨∃o,K.lookup a=some o)→¬S' a∧∀o,H a=some o→H' a=some o
theorem SqT.has{a:Addr}{xs:List V}(h:SqT K H a xs):(∃o,H a=some o)∨∃o,K.lookup a=some o:=by
 rcases h with (h|⟨o,h⟩)|⟨o,_,_,h,_⟩
 ·exact .inl ⟨_,h⟩
 ·exact .inl ⟨_,h⟩
 ·exact .inr ⟨_,h⟩
theorem SqL.has{a:Addr}{xs:List V}(h:SqL K H a xs):(∃o,H a=some o)∨∃o,K.lookup a=some o:=by
 rcases h with (h|⟨o,h⟩)|⟨o,_,_,h,_⟩
 ·exact .inl ⟨_,h⟩
 ·exact .inl ⟨_,h⟩
 ·exact .inr ⟨_,h⟩
mutual
theorem Rep.gen(hk:aG K H H' S S'):∀(d:D) (v:V),Rep K T H S d v→Rep K T H' S' d v
 |.non,v,h=>by unfold Rep at h ⊢;exact h
 |.bl b,v,h=>by unfold Rep at h ⊢;exact h
 |.int i,v,h=>by unfold Rep at h ⊢;exact h
 |.str x,v,h=>by unfold Rep at h ⊢;exact h
 |.lst ds,v,h=>by
  unfold Rep at h ⊢;obtain⟨a,xs,e,n,q,r⟩:=h;obtain⟨n',k⟩:=hk a n (.inl ⟨_,q⟩);exact⟨a,xs,e,n',k _ q,aD.gen hk ds xs r⟩
 |.tup ds,v,h=>by
  unfold Rep at h ⊢;obtain⟨a,xs,e,n,q,r⟩:=h;obtain⟨n',k⟩:=hk a n (SqT.has q);exact⟨a,xs,e,n',SqT.keeps q k,aD.gen hk ds xs r⟩
 |.obj c fs,v,h=>by
  unfold Rep at h ⊢;obtain⟨a,C,dx,gs,e,n,ec,q,r⟩:=h;obtain⟨n',k⟩:=hk a n (.inl ⟨_,q⟩);exact⟨a,C,dx,gs,e,n',ec,k _ q,bT.gen hk fs gs r⟩
 |.exc c,v,h=>by
  unfold Rep at h ⊢;obtain⟨a,e,n,φ,C,q,r⟩:=h;obtain⟨n',k⟩:=hk a n (.inl ⟨_,q⟩);exact⟨a,e,n',φ,C,k _ q,r⟩
 |.dct kvs,v,h=>by
  unfold Rep at h ⊢;obtain⟨a,gs,e,n,q,r⟩:=h;obtain⟨n',k⟩:=hk a n (.inl ⟨_,q⟩);exact⟨a,gs,e,n',k _ q,aU.gen hk kvs gs r⟩
 |.frz ds,v,h=>by
  unfold Rep at h ⊢;obtain⟨a,xs,e,n,q,r⟩:=h;obtain⟨n',k⟩:=hk a n (SqL.has q);exact⟨a,xs,e,n',SqL.keeps q k,aD.gen hk ds xs r⟩
theorem aD.gen(hk:aG K H H' S S'):∀(ds:List D) (xs:List V),aD K T H S ds xs→aD K T H' S' ds xs
 |[],xs,h=>by unfold aD at h ⊢;exact h
 |d::ds,xs,h=>by
  unfold aD at h ⊢;obtain⟨x,r,e,p,q⟩:=h;exact⟨x,r,e,Rep.gen hk d x p,aD.gen hk ds r q⟩
theorem bT.gen(hk:aG K H H' S S'):∀(ds:List (Str×D)) (xs:List (Str×V)),bT K T H S ds xs→bT K T H' S' ds xs
 |[],xs,h=>by unfold bT at h ⊢;exact h
 | (f,d)::ds,xs,h=>by
  unfold bT at h ⊢;obtain⟨x,r,e,p,q⟩:=h;exact⟨x,r,e,Rep.gen hk d x p,bT.gen hk ds r q⟩
theorem aU.gen(hk:aG K H H' S S'):∀(ds:List (Int×D)) (xs:List (Key×V)),aU K T H S ds xs→aU K T H' S' ds xs
 |[],xs,h=>by unfold aU at h ⊢;exact h
 | (f,d)::ds,xs,h=>by
  unfold aU at h ⊢;obtain⟨x,r,e,p,q⟩:=h;exact⟨x,r,e,Rep.gen hk d x p,aU.gen hk ds r q⟩
end
theorem aG.mk(hS:∀a,S' a→S a)(hk:∀b o,¬S b→H b=some o→H' b=some o):aG K H H' S S':=fun a n _=>⟨fun z=>n (hS a z),fun o=>hk a o n⟩
theorem aG.add{D:Addr}{o:HO}(hD:H D=none)(hK:K.lookup D=none):aG K H (upd H D o) S (fun a=>S a∨a=D):=fun a n h=>by
 have ne:a≠D:=by
  rintro rfl
  rcases h with ⟨u,e⟩|⟨u,e⟩
  ·rw[hD]at e;cases e
  ·rw[hK]at e;cases e
 exact⟨fun z=>z.elim n ne,fun u e=>by rw[aK ne];exact e⟩
theorem Rep.mono(hS:∀a,S' a→S a)(hk:∀b o,¬S b→H b=some o→H' b=some o)(d:D)(v:V)(h:Rep K T H S d v):Rep K T H' S' d v:=Rep.gen (aG.mk hS hk) d v h
theorem aD.mono(hS:∀a,S' a→S a)(hk:∀b o,¬S b→H b=some o→H' b=some o)(d:List D)(v:List V)(h:aD K T H S d v):aD K T H' S' d v:=aD.gen (aG.mk hS hk) d v h
theorem Rep.same(k:aF H H'){d:D}{v:V}(h:Rep K T H S d v):Rep K T H' S d v:=Rep.mono (fun _ z=>z) (fun b o _=>k b o) d v h
theorem aD.same(k:aF H H'){d:List D}{v:List V}(h:aD K T H S d v):aD K T H' S d v:=aD.mono (fun _ z=>z) (fun b o _=>k b o) d v h
theorem aD.len:∀{ds:List D} {xs:List V},aD K T H S ds xs→ds.length=xs.length
 |[],xs,h=>by unfold aD at h;subst h;rfl
 |d::ds,xs,h=>by
  unfold aD at h;obtain⟨x,r,rfl,_,q⟩:=h;simp[aD.len q]
theorem aD.get:∀{ds:List D} {xs:List V} {i:Nat} {d:D},aD K T H S ds xs→ds[i]?=some d→∃x,xs[i]?=some x∧Rep K T H S d x
 |[],_,_,_,_,e=>by simp at e
 |d::ds,xs,0,d',h,e=>by
  unfold aD at h;obtain⟨x,r,rfl,p,q⟩:=h;simp at e;subst e;exact⟨x,rfl,p⟩
 |d::ds,xs,i+1,d',h,e=>by
  unfold aD at h;obtain⟨x,r,rfl,p,q⟩:=h;obtain⟨y,h1,h2⟩:=aD.get (i:=i) (d:=d') q (by simpa using e)
  exact⟨y,by simpa using h1,h2⟩
theorem aD.app:∀{ds es:List D} {xs ys:List V},aD K T H S ds xs→aD K T H S es ys→aD K T H S (ds++es) (xs++ys)
 |[],es,xs,ys,h,g=>by unfold aD at h;subst h;exact g
 |d::ds,es,xs,ys,h,g=>by
  unfold aD at h;obtain⟨x,r,rfl,p,q⟩:=h;show aD K T H S (d::(ds++es)) _
  unfold aD;exact⟨x,r++ys,rfl,p,aD.app q g⟩
theorem aD.nil:aD K T H S [] []:=by unfold aD;rfl
theorem aD.cons{d:D}{x:V}{ds:List D}{xs:List V}(h:Rep K T H S d x)(g:aD K T H S ds xs):aD K T H S (d::ds) (x::xs):=by unfold aD;exact⟨x,xs,rfl,h,g⟩
theorem aD.drop:∀{ds:List D} {xs:List V} (n:Nat),aD K T H S ds xs→aD K T H S (ds.drop n) (xs.drop n)
 |ds,xs,0,h=>h
 |[],xs,n+1,h=>by unfold aD at h;subst h;exact aD.nil
 |d::ds,xs,n+1,h=>by
  unfold aD at h;obtain⟨x,r,rfl,p,q⟩:=h;exact aD.drop n q
theorem aD.take:∀{ds:List D} {xs:List V} (n:Nat),aD K T H S ds xs→aD K T H S (ds.take n) (xs.take n)
 |ds,xs,0,h=>by simp;exact aD.nil
 |[],xs,n+1,h=>by unfold aD at h;subst h;exact aD.nil
 |d::ds,xs,n+1,h=>by
  unfold aD at h;obtain⟨x,r,rfl,p,q⟩:=h;exact aD.cons p (aD.take n q)
theorem aD.set:∀{ds:List D} {xs:List V} (n:Nat) {d:D} {v:V},aD K T H S ds xs→Rep K T H S d v→aD K T H S (ds.set n d) (xs.set n v)
 |[],xs,n,d,v,h,g=>by unfold aD at h;subst h;exact aD.nil
 |_::ds,xs,0,d,v,h,g=>by
  unfold aD at h;obtain⟨x,r,rfl,p,q⟩:=h;exact aD.cons g q
 |_::ds,xs,n+1,d,v,h,g=>by
  unfold aD at h;obtain⟨x,r,rfl,p,q⟩:=h;exact aD.cons p (aD.set n q g)
theorem aD.rev:∀{ds:List D} {xs:List V},aD K T H S ds xs→aD K T H S ds.reverse xs.reverse
 |[],xs,h=>by unfold aD at h;subst h;exact aD.nil
 |d::ds,xs,h=>by
  unfold aD at h;obtain⟨x,r,rfl,p,q⟩:=h;rw[reverse_cons,reverse_cons];exact aD.app (aD.rev q) (aD.cons p aD.nil)
theorem bT.look{f:Str}:∀{ds:List (Str×D)} {xs:List (Str×V)},bT K T H S ds xs→(∀d,ds.lookup f=some d→∃x,xs.lookup f=some x∧Rep K T H S d x)∧(ds.lookup f=none→xs.lookup f=none)
 |[],xs,h=>by unfold bT at h;subst h;exact⟨fun d e=>by simp at e,fun _=>rfl⟩
 | (g,d)::ds,xs,h=>by
  unfold bT at h;obtain⟨x,r,rfl,p,q⟩:=h;obtain⟨i1,i2⟩:=bT.look (f:=f) q;rw[lookup_cons,lookup_cons];cases e:f == g with
  |true=>exact⟨fun d' z=>⟨x,rfl,by cases z;exact p⟩,fun z=>by cases z⟩
  |false=>exact⟨i1,i2⟩
end
noncomputable def er(H:Hp)(p:Addr):Hp:=fun a=>if a=p then none else H a
theorem yB{H:Hp}{p a:Addr}{o:HO}:er H p a=some o↔a≠p∧H a=some o:=by
 unfold er;split<;>simp_all
theorem gO{H:Hp}{p:Addr}{o:HO}(h:H p=none):er (upd H p o) p=H:=by
 funext a
 unfold er
 by_cases e:a=p
 ·rw[if_pos e,e,h]
 ·rw[if_neg e,aK e]
theorem aD.er{K:p6}{T:Tx}{H:Hp}{S:Addr→Prop}{p:Addr}{ds:List D}{xs:List V}(h:aD K T (er H p) S ds xs):aD K T H S ds xs:=aD.mono (fun _ z=>z) (fun b o _ e=>(yB.mp e).2) ds xs h
theorem aD.disown{K:p6}{T:Tx}{H:Hp}{S S':Addr→Prop}{p:Addr}{ds:List D}{xs:List V}(hp:S p)(hs:∀a,S' a→S a)(h:aD K T H S ds xs):aD K T (Z.er H p) S' ds xs:=
 aD.gen (fun a n _=>⟨fun z=>n (hs a z),fun o e=>yB.mpr ⟨fun z=>n (by rw[z];exact hp),e⟩⟩) ds xs h
theorem aG.own{K:p6}{H:Hp}{S:Addr→Prop}{p:Addr}(hk:K.lookup p=none):aG K (Z.er H p) H S (fun a=>S a∨a=p):=fun a n q=>by
 have ne:a≠p:=by
  rintro rfl
  rcases q with ⟨o,e⟩|⟨o,e⟩
  ·exact(yB.mp e).1 rfl
  ·rw[hk]at e;cases e
 exact⟨fun z=>z.elim n ne,fun o e=>(yB.mp e).2⟩
def gB(K:p6)(T:Tx)(H:Hp)(S:Addr→Prop)(d:D)(o:HO):Prop:=(∃ds xs,d=.lst ds∧o=.lst xs∧aD K T H S ds xs)∨∃kvs gs,d=.dct kvs∧o=.dK gs∧aU K T H S kvs gs
theorem gB.gen{K:p6}{T:Tx}{H H':Hp}{S S':Addr→Prop}{d:D}{o:HO}(mv:aG K H H' S S')(h:gB K T H S d o):gB K T H' S' d o:=by
 rcases h with ⟨ds,xs,e1,e2,r⟩|⟨ds,xs,e1,e2,r⟩
 ·exact .inl ⟨ds,xs,e1,e2,aD.gen mv _ _ r⟩
 ·exact .inr ⟨ds,xs,e1,e2,aU.gen mv _ _ r⟩
theorem gB.lst{K:p6}{T:Tx}{H:Hp}{S:Addr→Prop}{ds:List D}{o:HO}(h:gB K T H S (.lst ds) o):∃xs,o=.lst xs∧aD K T H S ds xs:=by
 rcases h with ⟨ds',xs,e1,e2,r⟩|⟨ds',xs,e1,e2,r⟩
 ·cases e1;exact⟨xs,e2,r⟩
 ·cases e1
theorem gB.dct{K:p6}{T:Tx}{H:Hp}{S:Addr→Prop}{ds:List (Int×D)}{o:HO}(h:gB K T H S (.dct ds) o):∃xs,o=.dK xs∧aU K T H S ds xs:=by
 rcases h with ⟨ds',xs,e1,e2,r⟩|⟨ds',xs,e1,e2,r⟩
 ·cases e1
 ·cases e1;exact⟨xs,e2,r⟩
theorem gB.rep{K:p6}{T:Tx}{H:Hp}{S S':Addr→Prop}{d:D}{o:HO}{p:Addr}(h:gB K T H S d o)(hp:H p=some o)(hn:¬S' p)(hs:∀a,S' a→S a):Rep K T H S' d (.ref p):=by
 rcases h with ⟨ds,xs,rfl,rfl,r⟩|⟨ds,xs,rfl,rfl,r⟩
 ·unfold Rep;exact⟨p,xs,rfl,hn,hp,aD.gen (aG.mk hs fun _ _ _ e=>e) _ _ r⟩
 ·unfold Rep;exact⟨p,xs,rfl,hn,hp,aU.gen (aG.mk hs fun _ _ _ e=>e) _ _ r⟩
section
variable (K:p6)(T:Tx)(H:Hp)(S:Addr→Prop)
def MQ(s:Sl)(o:Option (Option V)):Prop:=match s with
 |.un=>True
 |.im d=>∃v,o=some (some v)∧Rep K T H S d v
 |.mu d=>∃p ob,o=some (some (.ref p))∧S p∧H p=some ob∧gB K T H S d ob
structure RE (ρ:List Sl) (σ:L2.St):Prop where
 dom:∀a,S a→∃o,H a=some o
 len:ρ.length=σ.length
 at_:∀(i:Nat) s,ρ[i]?=some s→MQ K T H S s σ[i]?
def tD(ρ:List Sl)(d:D):TE:=fun σ H Q=>RE K T H S ρ σ∧∀v H',aF H H'→Rep K T H' S d v→Q v H'
def b0(ρ:List Sl)(ds:List D):TA:=fun σ H Q=>RE K T H S ρ σ∧∀vs H',aF H H'→aD K T H' S ds vs→Q vs H'
noncomputable def dj(ρ:List Sl)(b:Bool):TT:=fun σ H Q=>RE K T H S ρ σ∧∀H',aF H H'→Q b H'
def c8(ρ:List Sl)(ds:List D):TE:=fun σ H Q=>RE K T H S ρ σ∧∀p xs H',aF H H'→H p=none→H' p=some (.lst xs)→aD K T (er H' p) S ds xs→Q (.ref p) H'
end
section
variable {K:p6}{T:Tx}{H H':Hp}{S S':Addr→Prop}{ρ:List Sl}{σ:L2.St}
theorem MQ.same(k:aF H H'){s:Sl}{o:Option (Option V)}(h:MQ K T H S s o):MQ K T H' S s o:=by
 cases s with
 |un=>trivial
 |im d=>obtain⟨v,e,r⟩:=h;exact⟨v,e,r.same k⟩
 |mu ds=>obtain⟨p,xs,e,n,q,r⟩:=h;exact⟨p,xs,e,n,k _ _ q,r.gen (aG.mk (fun _ z=>z) fun b o _=>k b o)⟩
theorem RE.same(k:aF H H')(h:RE K T H S ρ σ):RE K T H' S ρ σ:=
 ⟨fun a z=>let ⟨o,e⟩:=h.dom a z;⟨o,k a o e⟩,h.len,fun i s e=>(h.at_ i s e).same k⟩
theorem RE.nS(h:RE K T H S ρ σ){a:Addr}(e:H a=none):¬S a:=fun z=>by
 obtain⟨o,q⟩:=h.dom a z;rw[e]at q;cases q
end
theorem PE.mono{X:Cx}{e:Expr}{t t':TE}(h:PE X e t)(m:∀σ H Q,t' σ H Q→t σ H Q):PE X e t':=fun pins s σ H Q I hw=>h pins s σ H Q I (m σ H Q hw)
theorem PT.mono{X:Cx}{e:Expr}{t t':TT}(h:PT X e t)(m:∀σ H Q,t' σ H Q→t σ H Q):PT X e t':=fun pins s σ H Q I hw=>h pins s σ H Q I (m σ H Q hw)
theorem PW.mono{X:Cx}{e:Expr}{t t':TT}(h:PW X e t)(m:∀σ H Q,t' σ H Q→t σ H Q):PW X e t':=fun wh pins s σ H Q I hw=>h wh pins s σ H Q I (m σ H Q hw)
theorem PA.mono{X:Cx}{e:List Expr}{t t':TA}(h:PA X e t)(m:∀σ H Q,t' σ H Q→t σ H Q):PA X e t':=fun pos pins s σ H Q I hw=>h pos pins s σ H Q I (m σ H Q hw)
theorem aF.upd{H:Hp}{p:Addr}{o:HO}(h:H p=none):aF H (upd H p o):=fun b u e=>by rw[aK (aV e h)];exact e
mutual
noncomputable def py:D→PyData
 |.non=>.none
 |.bl b=>.bool b
 |.int i=>.int i
 |.str x=>.str x
 |.lst xs=>.list (bq xs)
 |.tup xs=>.tuple (bq xs)
 |.obj _ _=>.none
 |.exc _=>.none
 |.dct _=>.none
 |.frz _=>.none
noncomputable def bq:List D→List PyData
 |[]=>[]
 |d::r=>py d::bq r
end
theorem cP{n:Nat}(h:∀d,flat n d=true→(py d).canLay0=true):∀ds:List D,ds.all (flat n)=true→PyData.canLayAll0 (bq ds)=true
 |[],_=>by simp[bq,PyData.canLayAll0]
 |d::ds,e=>by
  rw[all_cons,ly]at e;simp only[bq,PyData.canLayAll0,ly];exact⟨h d e.1,cP h ds e.2⟩
theorem canLay:∀(n:Nat) (d:D),flat n d=true→(py d).canLay0=true
 |n,.non,_=>by simp[py,PyData.canLay0]
 |n,.bl _,_=>by simp[py,PyData.canLay0]
 |n,.int _,_=>by simp[py,PyData.canLay0]
 |n,.str x,h=>by
  have e:okS x=true:=by cases n<;>simpa [flat] using h
  simp only[py,PyData.canLay0];exact e
 | 0,.lst _,h=>by simp[flat]at h
 | 0,.tup _,h=>by simp[flat]at h
 |n+1,.lst xs,h=>by
  simp only[py,PyData.canLay0];exact cP (canLay n) xs (by simpa [flat] using h)
 |n+1,.tup xs,h=>by
  simp only[py,PyData.canLay0];exact cP (canLay n) xs (by simpa [flat] using h)
 |n,.obj _ _,h=>by cases n<;>simp[flat]at h
 |n,.exc _,h=>by cases n<;>simp[flat]at h
 |n,.dct _,h=>by cases n<;>simp[flat]at h
 |n,.frz _,h=>by cases n<;>simp[flat]at h
theorem kB{n:Nat}(h:∀d,flat n d=true→(py d).depth≤n):∀ds:List D,ds.all (flat n)=true→PyData.depthAll (bq ds)≤n
 |[],_=>by simp[bq,PyData.depthAll]
 |d::ds,e=>by
  rw[all_cons,ly]at e;simp only[bq,PyData.depthAll];exact Nat.max_le.mpr ⟨h d e.1,kB h ds e.2⟩
theorem mK:∀(n:Nat) (d:D),flat n d=true→(py d).depth≤n
 |n,.non,_=>by simp[py,PyData.depth]
 |n,.bl _,_=>by simp[py,PyData.depth]
 |n,.int _,_=>by simp[py,PyData.depth]
 |n,.str x,h=>by simp[py,PyData.depth]
 | 0,.lst _,h=>by simp[flat]at h
 | 0,.tup _,h=>by simp[flat]at h
 |n+1,.lst xs,h=>by
  simp only[py,PyData.depth];exact Nat.succ_le_succ (kB (mK n) xs (by simpa [flat] using h))
 |n+1,.tup xs,h=>by
  simp only[py,PyData.depth];exact Nat.succ_le_succ (kB (mK n) xs (by simpa [flat] using h))
 |n,.obj _ _,h=>by simp[py,PyData.depth]
 |n,.exc _,h=>by simp[py,PyData.depth]
 |n,.dct _,h=>by simp[py,PyData.depth]
 |n,.frz _,h=>by simp[py,PyData.depth]
theorem yD{n:Nat}(h:∀d e,flat n d=true→flat n e=true→cx d e=PyData.eqv (py d) (py e)):∀ds es:List D,ds.all (flat n)=true→es.all (flat n)=true→qY ds es=PyData.eqvAll (bq ds) (bq es)
 |[],[],_,_=>by simp[qY,bq,PyData.eqvAll]
 |[],_::_,_,_=>by simp[qY,bq,PyData.eqvAll]
 |_::_,[],_,_=>by simp[qY,bq,PyData.eqvAll]
 |d::ds,e::es,a,b=>by
  rw[all_cons,ly]at a b;simp only[qY,bq,PyData.eqvAll];rw[h d e a.1 b.1,yD h ds es a.2 b.2]
theorem qZ:∀(n:Nat) (d e:D),flat n d=true→flat n e=true→cx d e=PyData.eqv (py d) (py e)
 | 0,d,e,a,b=>by
  cases d<;>cases e<;>first|(simp[flat]at a;done)|(simp[flat]at b;done)|simp[cx,py,PyData.eqv]
 |n+1,d,e,a,b=>by
  cases d<;>cases e<;>first
   | (simp[flat]at a;done)
   | (simp[flat]at b;done)
   | (simp only[cx,py,PyData.eqv];exact yD (qZ n) _ _ (by simpa [flat] using a) (by simpa [flat] using b))
   |simp[cx,py,PyData.eqv]
section
variable {X:Cx}{T:Tx}{pins:ph}{σ:L2.St}{H:Hp}{s:Shared}{S:Addr→Prop}
theorem jM{n:Nat}(h:∀d v u,flat n d=true→Rep X.K T H S d v→RelV v u→∃as,Reads s.heap u (py d) as) :
  ∀(ds:List D) (xs:List V) (us:List Value),ds.all (flat n)=true→aD X.K T H S ds xs→aM xs us→∃as,ReadsAll s.heap us (bq ds) as
 |[],xs,us,_,r,v=>by
  unfold aD at r;subst r;cases v;exact⟨_,.nil⟩
 |d::ds,xs,us,e,r,v=>by
  rw[all_cons,ly]at e;unfold aD at r;obtain⟨x,q,rfl,r1,r2⟩:=r;cases v with
  |cons v1 v2 =>
   obtain⟨as,h1⟩:=h d x _ e.1 r1 v1;obtain⟨bs,h2⟩:=jM h ds q _ e.2 r2 v2;exact⟨_,.cons h1 h2⟩
theorem cZ(I:Inv X pins σ H s):∀(n:Nat) (d:D) (v:V) (u:Value),flat n d=true→Rep X.K T H S d v→RelV v u→∃as,Reads s.heap u (py d) as
 |n,.non,v,u,_,r,q=>by
  unfold Rep at r;subst r;cases q;exact⟨_,.none⟩
 |n,.bl b,v,u,_,r,q=>by
  unfold Rep at r;subst r;cases q;exact⟨_,.bool b⟩
 |n,.int i,v,u,_,r,q=>by
  unfold Rep at r;subst r;obtain⟨t,rfl⟩:=q;exact⟨_,.int i t⟩
 |n,.str x,v,u,_,r,q=>by
  unfold Rep at r;subst r;obtain⟨t,rfl⟩:=q;exact⟨_,.str x t⟩
 | 0,.lst _,_,_,h,_,_=>by simp[flat]at h
 | 0,.tup _,_,_,h,_,_=>by simp[flat]at h
 |n+1,.lst ds,v,u,h,r,q=>by
  unfold Rep at r;obtain⟨a,xs,rfl,_,e,r⟩:=r;cases q;obtain⟨its,rv,⟨o,k,ho,hc,hd,hs⟩,_⟩:=I.list (SqL.of e);obtain⟨as,ra⟩:=jM (cZ I n) ds xs its (by simpa [flat] using h) r rv
  simp only[py];exact⟨_,.list ho hc hs (by simpa using ra)⟩
 |n+1,.tup ds,v,u,h,r,q=>by
  unfold Rep at r;obtain⟨a,xs,rfl,_,e,r⟩:=r;cases q;obtain⟨its,rv,⟨o,ho,hc,k,hs⟩,_⟩:=I.tuple e;obtain⟨as,ra⟩:=jM (cZ I n) ds xs its (by simpa [flat] using h) r rv
  simp only[py];exact⟨_,.tuple ho hc hs (by simpa using ra)⟩
 |n,.obj _ _,_,_,h,_,_=>by cases n<;>simp[flat]at h
 |n,.exc _,_,_,h,_,_=>by cases n<;>simp[flat]at h
 |n,.dct _,_,_,h,_,_=>by cases n<;>simp[flat]at h
 |n,.frz _,_,_,h,_,_=>by cases n<;>simp[flat]at h
end
noncomputable def rD(K:p6)(T:Tx)(S:Addr→Prop)(o:O2):R2:=fun x y H Q =>
 ∃a b d,(∀a,S a→∃o,H a=some o)∧Rep K T H S a x∧Rep K T H S b y∧ah o a b=some d∧∀v H',aF H H'→Rep K T H' S d v→Q v H'
theorem gR:big≤sizeLine:=by rw[sizeLine_eq];decide
section
variable {X:Cx}{T:Tx}{S:Addr→Prop}
theorem rV{K:p6}{H:Hp}{p:Addr}{ds:List D}{xs:List V}(dom:∀a,S a→∃o,H a=some o)(hp:H p=none)(r:aD K T H S ds xs):Rep K T (upd H p (.lst xs)) S (.lst ds) (.ref p):=by
 unfold Rep;exact⟨p,xs,rfl,fun z=>(by obtain⟨o,e⟩:=dom p z;rw[hp]at e;cases e),aN,r.same (aF.upd hp)⟩
theorem fB{K:p6}{H:Hp}{p:Addr}{ds:List D}{xs:List V}(dom:∀a,S a→∃o,H a=some o)(hp:H p=none)(r:aD K T H S ds xs):Rep K T (upd H p (.tup xs)) S (.tup ds) (.ref p):=by
 unfold Rep;exact⟨p,xs,rfl,fun z=>(by obtain⟨o,e⟩:=dom p z;rw[hp]at e;cases e),SqT.of aN,r.same (aF.upd hp)⟩
theorem FG{prog:p8}{w:World}{A:Around}{E:p9}{s:Shared}{t b:Addr}{ws:List Value}{Q:p9}(ht:IsTup s.heap t (#[]:Array Value))(hb:IsTup s.heap b ws.toArray)
  (h1:Q (.ref b) s) (hsz:ws.length≤sizeLine):wpAny (model prog w) A (binaryOp .Add (.ref t) (.ref b)) Q E s:=by
 obtain⟨⟨cls,dd,data,sl⟩,ho,hc,n,hd⟩:=id ht;obtain⟨⟨cls2,dd2,data2,iN⟩,d5,d9,n2,hd2⟩:=id hb;simp only at hc hd d9 hd2;subst hc hd d9 hd2;exact concat_meets ⟨_,ho,rfl⟩ ⟨_,d5,rfl⟩ noFill_tuple_add seq_tuple_add slot_tuple_add entry_tuple_add (args_tuple_add_2 _ _)
   (tuple_addW0 t b #[] ws.toArray n n2 dd dd2 sl iN (by simp)) ⟨ho,d5,h1⟩
theorem JU:aq X (binaryOp .Add) (rD X.K T S .add):=by
 rintro pins s σ H x y v u Q I rx ry ⟨a,b,d,dom,ra,rb,e,q⟩;simp only[ah,JZ]at e;split at e
 ·rename_i i j;unfold Rep at ra rb;cases e;exact RF pins s σ H x y v u Q I rx ry ⟨i,j,ra,rb,q _ H (aF.refl H) (by unfold Rep;rfl)⟩
 ·rename_i i j;unfold Rep at ra rb;split at e
  ·rename_i hz;cases e;exact uJ pins s σ H x y v u Q I rx ry ⟨i,j,ra,rb,mw hz gR,q _ H (aF.refl H) (by unfold Rep;rfl)⟩
  ·cases e
 ·rename_i as bs;unfold Rep at ra rb;obtain⟨l,xs,ex,_,e1,r1⟩:=ra;obtain⟨b,ys,ey,_,e2,r2⟩:=rb;split at e
  ·rename_i hz;cases e;refine CQ pins s σ H x y v u Q I rx ry ⟨l,b,xs,ys,ex,ey,e1,e2,?_,fun p hp=>q _ _ (aF.upd hp) (rV dom hp (r1.app r2))⟩
   rw[←r1.len,←r2.len];exact mw hz gR
  ·cases e
 ·rename_i as bs;have ra':=ra
  have rb':=rb
  unfold Rep at ra rb;obtain⟨l,xs,ex,_,e1,r1⟩:=ra;obtain⟨b,ys,ey,_,e2,r2⟩:=rb;split at e
  ·rename_i hz;cases e;have hz':xs.length+ys.length≤sizeLine:=by rw[←r1.len,←r2.len];exact mw hz gR
   by_cases hx:xs=[]
   ·subst hx ex ey;cases rx;cases ry;have ea:as=[]:=ni.mp r1.len
    subst ea;obtain⟨its,v1,p1,_⟩:=I.tuple e1;obtain⟨b6,v2,p2,z2⟩:=I.tuple e2;cases v1;exact FG p1 p2 ⟨.ref b,H,I,rfl,q _ H (aF.refl H) (by simpa using rb')⟩ (by rw[←v2.length];exact z2)
   ·refine JN pins s σ H x y v u Q I rx ry ⟨l,b,xs,ys,ex,ey,e1,e2,hx,hz',fun hy=>?_,fun hy p hp=>q _ _ (aF.upd hp) (fB dom hp (r1.app r2))⟩
    subst hy;have eb:bs=[]:=ni.mp r2.len
    subst eb;rw[←ex];exact q _ H (aF.refl H) (by simpa using ra')
  ·cases e
 ·cases e
theorem JP:aq X (binaryOp .Sub) (rD X.K T S .sub):=by
 rintro pins s σ H x y v u Q I rx ry ⟨a,b,d,dom,ra,rb,e,q⟩;simp only[ah,aAq]at e;split at e
 ·rename_i i j;unfold Rep at ra rb;cases e;exact QZ pins s σ H x y v u Q I rx ry ⟨i,j,ra,rb,q _ H (aF.refl H) (by unfold Rep;rfl)⟩
 ·cases e
theorem JR:aq X (binaryOp .Mult) (rD X.K T S .mul):=by
 rintro pins s σ H x y v u Q I rx ry ⟨a,b,d,dom,ra,rb,e,q⟩;simp only[ah,aAs]at e;split at e
 ·rename_i i j;unfold Rep at ra rb;split at e
  ·rename_i hz;cases e;exact RB pins s σ H x y v u Q I rx ry ⟨i,j,ra,rb,hz,q _ H (aF.refl H) (by unfold Rep;rfl)⟩
  ·cases e
 ·cases e
theorem CS:aq X (binaryOp .FloorDiv) (rD X.K T S .fdiv):=by
 rintro pins s σ H x y v u Q I rx ry ⟨a,b,d,dom,ra,rb,e,q⟩;simp only[ah,oDiv]at e;split at e
 ·rename_i i j;unfold Rep at ra rb;split at e
  ·rename_i hz;cases e;exact JM pins s σ H x y v u Q I rx ry ⟨i,j,ra,rb,hz,q _ H (aF.refl H) (by unfold Rep;rfl)⟩
  ·cases e
 ·cases e
theorem JS:aq X (binaryOp .Mod) (rD X.K T S .mod):=by
 rintro pins s σ H x y v u Q I rx ry ⟨a,b,d,dom,ra,rb,e,q⟩;simp only[ah,oMod]at e;split at e
 ·rename_i i j;unfold Rep at ra rb;split at e
  ·rename_i hz;cases e;exact RC pins s σ H x y v u Q I rx ry ⟨i,j,ra,rb,hz,q _ H (aF.refl H) (by unfold Rep;rfl)⟩
  ·cases e
 ·cases e
theorem JQ:aq X (binaryOp .Pow) (rD X.K T S .pow):=by
 rintro pins s σ H x y v u Q I rx ry ⟨a,b,d,dom,ra,rb,e,q⟩;simp only[ah,aAr]at e;split at e
 ·rename_i i j;unfold Rep at ra rb;split at e
  ·rename_i hz;cases e;exact RA pins s σ H x y v u Q I rx ry ⟨i,j,ra,rb,⟨hz.1,by omega,hz.2.2⟩,q _ H (aF.refl H) (by unfold Rep;rfl)⟩
  ·cases e
 ·cases e
theorem JT{op:Operator}{o:O2}(h:JO op=some o):aq X (binaryOp op) (rD X.K T S o):=by
 cases op<;>simp only[JO]at h<;>first|(cases h;done)|(cases h;first|exact JU|exact JP|exact JR|exact CS|exact JS|exact JQ)
theorem bP{K:p6}{H:Hp}{b:Bool}:Rep K T H S (.bl b) (.bl b):=by unfold Rep;rfl
theorem RH:aq X (compareOp .Lt) (rD X.K T S .lt):=by
 rintro pins s σ H x y v u Q I rx ry ⟨a,b,d,dom,ra,rb,e,q⟩;simp only[ah,oLt]at e;split at e
 ·rename_i i j;unfold Rep at ra rb;cases e;exact ZM pins s σ H x y v u Q I rx ry ⟨i,j,ra,rb,q _ H (aF.refl H) bP⟩
 ·cases e
theorem RI:aq X (compareOp .LtE) (rD X.K T S .le):=by
 rintro pins s σ H x y v u Q I rx ry ⟨a,b,d,dom,ra,rb,e,q⟩;simp only[ah,oLe]at e;split at e
 ·rename_i i j;unfold Rep at ra rb;cases e;exact ZN pins s σ H x y v u Q I rx ry ⟨i,j,ra,rb,q _ H (aF.refl H) bP⟩
 ·cases e
theorem RL:aq X (compareOp .Gt) (rD X.K T S .gt):=by
 rintro pins s σ H x y v u Q I rx ry ⟨a,b,d,dom,ra,rb,e,q⟩;simp only[ah,oGt]at e;split at e
 ·rename_i i j;unfold Rep at ra rb;cases e;exact ZO pins s σ H x y v u Q I rx ry ⟨i,j,ra,rb,q _ H (aF.refl H) bP⟩
 ·cases e
theorem RM:aq X (compareOp .GtE) (rD X.K T S .ge):=by
 rintro pins s σ H x y v u Q I rx ry ⟨a,b,d,dom,ra,rb,e,q⟩;simp only[ah,oGe]at e;split at e
 ·rename_i i j;unfold Rep at ra rb;cases e;exact ZP pins s σ H x y v u Q I rx ry ⟨i,j,ra,rb,q _ H (aF.refl H) bP⟩
 ·cases e
theorem NC{A:Around}(hu:A.units+64<cLine){d e:D}(hd:plain d=true):A.units+min (py d).depth (py e).depth<cLine:=by
 have h1:=mK 8 d hd
 have h2:min (py d).depth (py e).depth≤(py d).depth:=Nat.min_le_left _ _
 omega
theorem RN(hu:X.A.units+64<cLine):aq X (compareOp .Eq) (rD X.K T S .eq):=by
 rintro pins s σ H x y v u Q I rx ry ⟨a,b,d,dom,ra,rb,e,q⟩;simp only[ah,oEq]at e;split at e
 ·rename_i hp;rw[ly]at hp;cases e;obtain⟨as,h1⟩:=cZ I 8 a x v hp.1 ra rx;obtain⟨bs,h2⟩:=cZ I 8 b y u hp.2 rb ry;refine SeqAt.compareEq_reads h1 h2 (canLay 8 a hp.1) (canLay 8 b hp.2) (NC hu hp.1) ⟨.bl _,H,I,rfl,?_⟩;rw[←qZ 8 a b hp.1 hp.2];exact q _ H (aF.refl H) bP
 ·cases e
theorem RG(hu:X.A.units+64<cLine):aq X (compareOp .NotEq) (rD X.K T S .ne):=by
 rintro pins s σ H x y v u Q I rx ry ⟨a,b,d,dom,ra,rb,e,q⟩;simp only[ah,oNe]at e;split at e
 ·rename_i hp;rw[ly]at hp;cases e;obtain⟨as,h1⟩:=cZ I 8 a x v hp.1 ra rx;obtain⟨bs,h2⟩:=cZ I 8 b y u hp.2 rb ry;refine SeqAt.compareNe_reads h1 h2 (canLay 8 a hp.1) (canLay 8 b hp.2) (NC hu hp.1) ⟨.bl _,H,I,rfl,?_⟩;rw[←qZ 8 a b hp.1 hp.2];exact q _ H (aF.refl H) bP
 ·cases e
theorem mV(a:D)(ha:plain a=true):∀ds:List D,ds.all plain=true→((bq ds).any fun y=>PyData.eqv y (py a))=ds.any fun y=>cx y a
 |[],_=>by simp[bq]
 |d::ds,h=>by
  rw[all_cons,ly]at h;simp only[bq,any_cons];rw[mV a ha ds h.2,qZ 8 d a h.1 ha]
theorem RK(hu:X.A.units+64<cLine):aq X (compareOp .In) (rD X.K T S .isin):=by
 rintro pins s σ H x y v u Q I rx ry ⟨a,b,d,dom,ra,rb,e,q⟩;have go:∀(ds:List D),plain a=true→ds.all plain=true→X.A.units+1+min (PyData.depthAll (bq ds)) (py a).depth<cLine:=fun ds h1 h2=>by
  have h3:=mK 8 a h1
  have h4:min (PyData.depthAll (bq ds)) (py a).depth≤(py a).depth:=Nat.min_le_right _ _
  omega
 simp only[ah,oIn]at e;split at e
 ·rename_i ds;split at e
  ·rename_i hp;rw[ly]at hp;cases e;obtain⟨as,h1⟩:=cZ I 8 a x v hp.1 ra rx;obtain⟨bs,h2⟩:=cZ I 9 (.lst ds) y u (by show ds.all (flat 8)=true;exact hp.2) rb ry
   simp only[py]at h2;refine SeqAt.in_list_reads h2 h1 (cP (canLay 8) ds hp.2) (canLay 8 a hp.1) (go ds hp.1 hp.2) ⟨.bl _,H,I,rfl,?_⟩;rw[mV a hp.1 ds hp.2];exact q _ H (aF.refl H) bP
  ·cases e
 ·rename_i ds;split at e
  ·rename_i hp;rw[ly]at hp;cases e;obtain⟨as,h1⟩:=cZ I 8 a x v hp.1 ra rx;obtain⟨bs,h2⟩:=cZ I 9 (.tup ds) y u (by show ds.all (flat 8)=true;exact hp.2) rb ry
   simp only[py]at h2;refine SeqAt.in_tuple_reads h2 h1 (cP (canLay 8) ds hp.2) (canLay 8 a hp.1) (go ds hp.1 hp.2) ⟨.bl _,H,I,rfl,?_⟩;rw[mV a hp.1 ds hp.2];exact q _ H (aF.refl H) bP
  ·cases e
 ·cases e
theorem zM(hu:X.A.units+64<cLine):aq X (compareOp .NotIn) (rD X.K T S .notin):=by
 rintro pins s σ H x y v u Q I rx ry ⟨a,b,d,dom,ra,rb,e,q⟩;have go:∀(ds:List D),plain a=true→ds.all plain=true→X.A.units+1+min (PyData.depthAll (bq ds)) (py a).depth<cLine:=fun ds h1 h2=>by
  have h3:=mK 8 a h1
  have h4:min (PyData.depthAll (bq ds)) (py a).depth≤(py a).depth:=Nat.min_le_right _ _
  omega
 simp only[ah,DC]at e;split at e
 ·rename_i ds;split at e
  ·rename_i hp;rw[ly]at hp;cases e;obtain⟨as,h1⟩:=cZ I 8 a x v hp.1 ra rx;obtain⟨bs,h2⟩:=cZ I 9 (.lst ds) y u (by show ds.all (flat 8)=true;exact hp.2) rb ry
   simp only[py]at h2;refine SeqAt.notIn_list_reads h2 h1 (cP (canLay 8) ds hp.2) (canLay 8 a hp.1) (go ds hp.1 hp.2) ⟨.bl _,H,I,rfl,?_⟩;rw[mV a hp.1 ds hp.2];exact q _ H (aF.refl H) bP
  ·cases e
 ·rename_i ds;split at e
  ·rename_i hp;rw[ly]at hp;cases e;obtain⟨as,h1⟩:=cZ I 8 a x v hp.1 ra rx;obtain⟨bs,h2⟩:=cZ I 9 (.tup ds) y u (by show ds.all (flat 8)=true;exact hp.2) rb ry
   simp only[py]at h2;refine SeqAt.notIn_tuple_reads h2 h1 (cP (canLay 8) ds hp.2) (canLay 8 a hp.1) (go ds hp.1 hp.2) ⟨.bl _,H,I,rfl,?_⟩;rw[mV a hp.1 ds hp.2];exact q _ H (aF.refl H) bP
  ·cases e
 ·cases e
theorem RJ:aq X (compareOp .Is) (rD X.K T S .is):=by
 rintro pins s σ H x y v u Q I rx ry ⟨a,b,d,dom,ra,rb,e,q⟩;have go:∀k,b=.non→k=decide (x=V.non)→d=.bl k→wpAny (model X.prog X.w) X.A (compareOp .Is v u) (EP X pins σ Q) X.xe s:=fun k hb hk hd=>by
  subst hb hd hk;unfold Rep at rb;exact RD pins s σ H x y v u Q I rx ry ⟨rb,q _ H (aF.refl H) bP⟩
 simp only[ah,oIs,isD]at e;split at e<;>simp only[oe,Option.map_none,l5,reduceCtorEq]at e
 all_goals subst e
 all_goals first
  | (unfold Rep at ra;refine go _ rfl ?_ rfl;first|(subst ra;rfl)|(obtain⟨_,_,rfl,_⟩:=ra;rfl)|(obtain⟨_,_,_,_,rfl,_⟩:=ra;rfl))
  | (unfold Rep at ra rb
     subst ra rb;cases rx;cases ry;exact is_bool ⟨.bl _,H,I,rfl,q _ H (aF.refl H) bP⟩)
end
structure Fly (P:p8) (w:World) (l:List Env) (H:Hp) (s:Shared) (B:Heap) (a:Addr) (cls a0:Value) (H':Hp) (s':Shared):Prop where
 os:s'.os=s.os
 bare:AllBare s'.gens
 un:Un (frs l) [] H H' s.heap s'.heap
 hok:HOk P w H' s'.heap
 fly:Heap.FlyingW B l a cls a0 s'.heap
 new:H' a=none
 old:s.heap.get? a=none
 frf:∀b∈frs l,H' b=none
 cov:∀b o,s'.heap.get? b=some o→b∉frs l→((∃u,H' b=some u)∨∃o',s.heap.get? b=some o')→B.get? b=some o
noncomputable def cQ(P:p8)(w:World):ak:=fun l H s E e s'=>∃a cls a0 B H',e=.ref a∧Fly P w l H s B a cls a0 H' s'∧E cls none H'
theorem NU{P:p8}{w:World}:∀outer H s e s',cQ P w outer H s E0 e s'→False:=fun _ _ _ _ _ ⟨_,_,_,_,_,_,_,h⟩=>h
section
variable {P:p8}{w:World}{l:List Env}{H H':Hp}{s s':Shared}{B:Heap}{a:Addr}{cls a0:Value}
theorem jU{h:Heap}{b:Addr}:∀{o:HO},bM P w H h b o→∃u,h.get? b=some u:=by
 intro o x;cases o with
 |lst xs=>obtain⟨_,_,_,_,e⟩:=x;exact⟨_,e⟩
 |tup xs=>obtain⟨_,_,_,ob,e,_⟩:=x;exact⟨_,e⟩
 |dK kvs=>obtain⟨_,_,_,_,o,_,_,e,_⟩:=x;exact⟨_,e⟩
 |dT kvs=>obtain⟨_,_,_,_,o,_,_,e,_⟩:=x;exact⟨_,e⟩
 |set S n=>obtain⟨o,_,_,_,e,_⟩:=x;exact⟨_,e⟩
 |ins C dx fs=>obtain⟨_,_,_,e,_⟩:=x;exact⟨_,e⟩
 |own y=>obtain⟨_,e⟩:=x;exact⟨_,e⟩
 |xd fs=>obtain⟨_,⟨_,_,_,e,_⟩,_⟩:=x;exact⟨_,e⟩
 |rng lo hi=>obtain⟨_,_,_,e⟩:=x;exact⟨_,e⟩
 |frz ob u=>obtain⟨e,_⟩:=x;exact⟨_,e⟩
 |tbl ps=>exact⟨_,(show h.get? b=some _ from x)⟩
 |met f y=>exact⟨_,(show h.get? b=some _ from x)⟩
 |ext φ=>obtain⟨_,⟨_,e⟩,_⟩:=x;exact⟨_,e⟩
theorem vP{fs:List Addr}{h0 h1 h2:Heap}(u:Un fs [] H H' h0 h1)(keep:∀b o,h1.get? b=some o→(∃o',h0.get? b=some o')→b∉fs→h2.get? b=some o)
  (slot:∀b o,h1.get? b=some o→b∈fs→∃sl,h2.get? b=some { o with slots:=sl }):Un fs [] H H' h0 h2 where
 keep b o e n hb hx:=keep b o (u.keep b o e n hb hx) ⟨o,e⟩ hb
 slot b o e n hb hx:=by
  obtain⟨sl,e1⟩:=u.slot b o e n hb hx;obtain⟨iN,e2⟩:=slot b _ e1 hb;exact⟨iN,e2⟩
 free:=u.free
 there b o e hx:=by
  obtain⟨o',e1⟩:=u.there b o e hx
  by_cases hb:b∈fs
  ·obtain⟨sl,e2⟩:=slot b _ e1 hb;exact⟨_,e2⟩
  ·exact⟨_,keep b o' e1 ⟨o,e⟩ hb⟩
 tups:=u.tups
 frzs:=u.frzs
 tbls:=u.tbls
theorem sV{h1 h2:Heap}(ok:HOk P w H h1)(keep:∀b o u,H b=some u→h1.get? b=some o→h2.get? b=some o):HOk P w H h2:=fun b u e =>
 (ok b u e).stay (fun c v hc q=>by
  rcases hc with rfl|hc
  ·exact keep _ v u e q
  ·exact keep _ v _ hc q) (fun _ q=>q) fun _ _ q=>q
end
section
variable {X:Cx}{pins:ph}{σ:L2.St}{H H':Hp}{s s':Shared}{B:Heap}{a:Addr}{cls a0:Value}
theorem Fly.inv(I:Inv X pins σ H s)(F:Fly X.prog X.w X.stack H s B a cls a0 H' s'):Inv X pins σ H' s':=I.call' F.os F.un F.hok F.bare fun b z=>absurd z (by simp)
theorem Fly.up{env:Env}{outer:List Env}(I:Inv X pins σ H s)(gf:X.stack=env::outer)(iq:X.outer=outer)(hex:X.ex=[])(ar:env.frame=some X.env.locals)(F:Fly X.prog X.w X.stack H s B a cls a0 H' s'){h2:Heap}(fl:Heap.FlyingW B outer a cls a0 h2)(up:s'.heap.UpToSlots h2) :
  Fly X.prog X.w outer X.H₀ X.s₀ B a cls a0 H' { s' with heap:=h2 }:=by
 have J:=F.inv I
 have i5:frs X.stack=X.env.locals::frs outer:=by
  rw[gf];unfold frs;rw[List.filterMap_cons,ar]
 have olds:∀b o,X.s₀.heap.get? b=some o→b≠X.env.locals:=fun b o e=>o3 (md (mr e) I.ok.above)
 have tr:∀b u,H' b=some u→b∉frs X.stack:=fun b u e z=>by rw[F.frf b z]at e;cases e
 have old1:∀b o,X.s₀.heap.get? b=some o→∃o',s.heap.get? b=some o':=fun b o e=>I.base.there b o e (by rw[hex];simp)
 have ns:∀b,b∉frs outer→b≠X.env.locals→b∉frs X.stack:=fun b h1 h2 z=>by
  rw[i5]at z
  rcases my.mp z with z|z
  ·exact h2 z
  ·exact h1 z
 have i9:Un (frs outer) [] X.H₀ H' X.s₀.heap s'.heap:=by
  have:=J.base
  rw[hex]at this;unfold Cx.fs at this;rw[iq]at this;exact this
 refine⟨J.os,F.bare,vP i9 (fun b o e t nb=>?_) (fun b o e hb=>?_),sV F.hok fun b o u e q=>fl.1 b o (F.cov b o q (tr b u e) (.inl ⟨u,e⟩)),fl,F.new,?_,fun b hb=>F.frf b (by rw[i5];exact lu _ hb),fun b o e nb t=>?_⟩
 ·obtain⟨o',e'⟩:=t;exact fl.1 b o (F.cov b o e (ns b nb (olds b o' e')) (.inr (old1 b o' e')))
 ·obtain⟨_,o2,e2,nf⟩:=F.fly.2.2.1.mem (show b∈frs X.stack by rw[i5];exact lu _ hb)
  rw[e]at e2;cases e2;exact up b o e nf
 ·cases e:X.s₀.heap.get? a with
  |none=>rfl
  |some o =>
   obtain⟨o',e'⟩:=old1 a o e;rw[F.old]at e';cases e'
 ·have e:h2.get? b=some o:=e
  rcases t with ⟨u,e1⟩|⟨o',e1⟩
  ·obtain⟨o1,q⟩:=jU (F.hok b u e1);have c:=F.cov b o1 q (tr b u e1) (.inl ⟨u,e1⟩)
   have:=fl.1 b o1 c
   rw[e]at this;cases this;exact c
  ·obtain⟨o1,q⟩:=i9.there b o' e1 (by simp)
   have c:=F.cov b o1 q (ns b nb (olds b o' e1)) (.inr (old1 b o' e1))
   have:=fl.1 b o1 c
   rw[e]at this;cases this;exact c
end
noncomputable def i6:List Value:=[.type "ValueError",.type "Exception",.type "BaseException",.type "object"]
noncomputable def lQ(K:p6)(C:Addr)(v:Value):Bool:=match K.lookup C with
 |some ⟨_,_,.cls cd,_⟩=>cd.mro.contains v
 |_=>false
theorem UW{K:p6}{C:Addr}(q:excIn K C i6 "ValueError.__new__" = true):∃nm qn N bs bm hdct sn sub ab col dd k0 k1 k2 k3 k5,
  K.lookup C=some (excClassObj nm qn C N bs bm hdct sn sub ab col dd k0 k1 k2 k3 k5 "ValueError.__new__")∧PySem.W.tailIn K i6 bm=true∧PySem.W.nsOkIn K N=true∧nsIn K N "__init__" = some none∧∀v,lQ K C v=(Value.ref C::bm).contains v:=by
 unfold excIn at q;split at q
 ·rename_i dd cd sl ho;split at q
  ·rename_i C' bm k0 k1 k2 k3 n k5 hm hs;simp only[ly,nu,Bool.not_eq_true']at q;obtain⟨⟨⟨⟨⟨rfl,rfl⟩,hdel⟩,ht⟩,hok⟩,hni⟩:=q;obtain⟨nm,bs,mro,ns,qn,hd,sn,sub,ab,col,del⟩:=cd;dsimp only at hm hdel hok hni;subst hm hdel;have dq:sl=#[k0,k1,k2,k3,some (.builtin "ValueError.__new__"),k5]:=by
    obtain⟨l⟩:=sl;simp only at hs;rw[hs]
   subst dq;refine⟨nm,qn,ns,bs,bm,hd,sn,sub,ab,col,dd,k0,k1,k2,k3,k5,ho,ht,hok,hni,fun v=>?_⟩
   unfold lQ;rw[ho]
  ·cases q
 ·cases q
theorem sC{X:Cx}{x m:Str}{j:Nat}{p p' q pos:Pos}{C:Addr}{W:Hp→Prop}(hc:X.calm=true)(hg:Gl X x)(ft:(x == ("__debug__":Str))=false)(hm:X.mg x=some (.ref C))(hx:excIn X.K C i6 "ValueError.__new__" = true)
  (hw:∀pins σ H s h' e vs,Inv X pins σ H s→Heap.MadeExcOf s.heap h' e (.ref C) vs→W H→X.xe (.ref e) { s with heap:=h' }) :
  PS X (.Raise (some (.Call (.Name x p) [.Constant (.str m) j p'] [] q)) none pos) (fun D σ H=>W H):=by
 intro pins s σ H D I hW;obtain⟨nm,qn,N,bs,bm,hdct,sn,sub,ab,col,dd,k0,k1,k2,k3,k5,ho,ht,hok,hni,_⟩:=UW hx;have T:OwnTail s.heap i6 bm:=PySem.W.tail_of_in I.kIn ht
 have hN:s.heap.Ns N (s.heap.nsMap N):=.of_isNs (PySem.W.isNs_of_in I.kIn hok)
 have hni':(s.heap.nsMap N) "__init__" = none:=PySem.W.nsMap_none_of_in I.kIn hok hni
 have hC:=I.kIn _ _ ho
 refine wpAny_Raise_call_subT (C:=C) (nm:=nm) (q:=qn) (N:=N) (bs:=bs) (bm:=bm) (hdct:=hdct) (sn:=sn) (sub:=sub) (ab:=ab) (col:=col) (dd:=dd) (k0:=k0) (k1:=k1) (k2:=k2) (k3:=k3) (k5:=k5)
  PySem.F.excBase_ValueError (mN:=s.heap.nsMap N) (T.hasType PySem.F.excBase_ValueError.hasBase) (I.ok.hd hc) rfl hni' (fE I hg hm ⟨rfl,?_⟩ ft)
 exact Calls.evalArgs_plain (Calls.spliced_cons (Calls.Constant_str (k:=j) (pos:=p') (Calls.spliced_nil ⟨rfl,by show 1≤sizeLine;rw[sizeLine_eq];decide,hC,hN,T,fun h' e hm=>hw pins σ H { s with toks:=s.toks+1 } h' e _ (I.tok _) hm hW⟩)))
section
variable {P:p8}{w:World}{K:p6}{mg:pj}{base:Heap}{N:List Str}{qual:Str}{sc:Scope}{f:Addr}{cd:Value}{A:Around}{outer:List Env}{s:Shared}{H:Hp}{E:XK}
theorem lU{pins:ph}{σ:L2.St}{H1:Hp}{s1:Shared}{h':Heap}{e:Addr}{cls:Value}{vs:List Value}(I:Inv (iJ (cQ P w) P w K mg base N qual sc f cd A outer s H E) pins σ H1 s1)(hm:Heap.MadeExcOf s1.heap h' e cls vs)(hE:E cls none H1) :
  (iJ (cQ P w) P w K mg base N qual sc f cd A outer s H E).xe (.ref e) { s1 with heap:=h' }:=by
 have gf:=I.stack
 have ar:∀b∈frs (envOfC qual sc s.heap.objs.size f cd::outer),H1 b=none:=I.stkFree
 have i5:frs (envOfC qual sc s.heap.objs.size f cd::outer)=s.heap.objs.size::frs outer:=rfl
 have tr:∀b u,H1 b=some u→b∉frs (envOfC qual sc s.heap.objs.size f cd::outer):=fun b u e z=>by rw[ar b z]at e;cases e
 have ns:∀b o,s.heap.get? b=some o→b∉frs outer→b∉frs (envOfC qual sc s.heap.objs.size f cd::outer):=fun b o e h1 z=>by
  rw[i5]at z
  rcases my.mp z with z|z
  ·exact absurd (mr e) (by rw[z];exact o6 _)
  ·exact h1 z
 have i9:Un (frs outer) [] H H1 s.heap s1.heap:=I.base
 refine wpAny_leaves_madeW (base:=hideAll s1.heap (frs (envOfC qual sc s.heap.objs.size f cd::outer))) (L:=s.heap.objs.size) (outer:=outer) I.ok.frames rfl (fun b o q=>PySem.W.of_hideAll _ q)
  (PySem.W.funFrames_hide gf fun env he b hb=>mem_filterMap.mpr ⟨env,he,hb⟩) hm fun h2 t x1 x2 x3 x4=>⟨e,cls,.ref t,hideAll s1.heap (frs (envOfC qual sc s.heap.objs.size f cd::outer)),H1,rfl,?_,hE⟩
 have inB:∀b o,s1.heap.get? b=some o→b∉frs (envOfC qual sc s.heap.objs.size f cd::outer)→(hideAll s1.heap (frs (envOfC qual sc s.heap.objs.size f cd::outer))).get? b=some o:=fun b o q n=>PySem.W.hideAll_get _ q n
 refine⟨I.os,I.bare,vP i9 (fun b o e t nb=>?_) (fun b o e hb=>?_),sV I.hok fun b o u e q=>x1.1 b o (inB b o q (tr b u e)),x1,?_,?_,fun b hb=>ar b (by rw[i5];exact lu _ hb),fun b o e nb t=>?_⟩
 ·obtain⟨o',e'⟩:=t;exact x1.1 b o (inB b o e (ns b o' e' nb))
 ·obtain⟨_,o2,e2,nf⟩:=gf.mem (show b∈frs (envOfC qual sc s.heap.objs.size f cd::outer) by rw[i5];exact lu _ hb)
  rw[e]at e2;cases e2;exact x4 b o (hm.keeps b o e) nf
 ·cases q:H1 e with
  |none=>rfl
  |some u =>
   obtain⟨o,q2⟩:=jU (I.hok e u q);rw[hm.new]at q2;cases q2
 ·cases q:s.heap.get? e with
  |none=>rfl
  |some u =>
   obtain⟨o,q2⟩:=i9.there e u q (by simp)
   rw[hm.new]at q2;cases q2
 ·have e:h2.get? b=some o:=e
  rcases t with ⟨u,e1⟩|⟨o',e1⟩
  ·obtain⟨o1,q⟩:=jU (I.hok b u e1);have c:=inB b o1 q (tr b u e1)
   have:=x1.1 b o1 c
   rw[e]at this;cases this;exact c
  ·obtain⟨o1,q⟩:=i9.there b o' e1 (by simp)
   have c:=inB b o1 q (ns b o' e1 nb)
   have:=x1.1 b o1 c
   rw[e]at this;cases this;exact c
theorem wB{E1:XK}(hE:∀cls H',E1 cls none H'→E cls none H'):fK (cQ P w) (iJ (cQ P w) P w K mg base N qual sc f cd A outer s H E) E1:=by
 rintro pins σ H1 s1 e s' I ⟨a,cls,a0,B,H',rfl,F,q⟩;exact wpAny_leaves_onW (L:=s.heap.objs.size) (outer:=outer) I.ok.frames rfl F.fly fun h2 x1 x2=>⟨a,cls,a0,B,H',rfl,Fly.up (env:=envOfC qual sc s.heap.objs.size f cd) I rfl rfl rfl rfl F x1 x2,hE _ _ q⟩
end
section
variable {X:Cx}{pins:ph}{σ:L2.St}{H H':Hp}{s s':Shared}{B:Heap}{a:Addr}{cls a0:Value}
def isExc(a C:Addr)(h:Heap):Prop:=∃o,h.get? a=some o∧o.cls=.ref C
end
section
variable {M:Model}{A:Around}{E:p9}{h:Heap}{g:Array GenState}{d:Drawn}{t:Nat}{os:OsState}
variable {nm q:Str}{C N:Addr}{bs bm:List Value}{hdct:Bool}{sn:List Str}{sub:List Value}{ab:Bool}{col:Option Bool}{dd:Option Addr}{k0 k1 k2 k3 k5:Option Value}{newId:String}
variable {nm' q':Str}{L N':Addr}{bs' bm':List Value}{hdct':Bool}{sn':List Str}{sub':List Value}{ab':Bool}{col':Option Bool}{kz:Option Addr}{k0' k1' k2' k3' k5':Option Value}{newId':String}
end
section
variable {X:Cx}{pins:ph}{σ:L2.St}{H H':Hp}{s s':Shared}{B:Heap}{a C L:Addr}{a0:Value}{x:Str}{np hp:Pos}{b₀:Stmt}{suite:List Stmt}{rest:List ExceptHandler}{rt:VK}
end
structure RoomM (k:Nat) (A:Around):Prop where
 dp:A.depth+3*k+5<recursionLimit
 un:A.units+16*k+200<cLine
theorem RoomM.mono{j k:Nat}{A:Around}(r:RoomM k A)(h:j≤k):RoomM j A:=⟨by have:=r.dp;omega,by have:=r.un;omega⟩
structure FnM (P:p8) (w:World) (K:p6) (mg:pj) (base:Heap) (k:Nat) (f:Addr) (fd:p7) (ps:List Str) (sp:Sp):Prop where
 len:∀vs H Q,sp vs H Q E0→vs.length=ps.length
 run:∀(A:Around) (outer:List Env) (s:Shared) (H:Hp) (args:Args) (us:List Value) (vs:List V) (Q:VK),RoomM k A→Env0 P w K mg base A outer s H→BindsTo s fd args (ps.zip us)→aM vs us→sp vs H Q E0 →
  codeAny (model P w) A (.call (.ref f) args) (CR i7 outer P w H s Q E0) s
structure XcK (K:p6) (C:Addr):Prop where
 ga:findIn K (.ref C) "__getattribute__" = some (some (.builtin "BaseException.__getattribute__"))
 gn:findIn K (.ref C) "__getattr__" = some none
 ha:findIn K (.ref C) "__class__" = some (some (.builtin "object.__class__"))
 hn:specialIn K (.builtin "object.__class__") "__get__" = some (some (.builtin "getset_descriptor.__get__"))
 tk:takesIn K (.builtin "object.__class__")=some true
 hm:mroIn K C (.type "object")=some true
 hb:mroIn K C (.type "BaseException")=some true
theorem XcK.cl{K:p6}{C:Addr}(F:XcK K C):(PySem.W.clsIn K C).isSome=true:=by
 have h:=F.hm
 unfold mroIn at h;obtain⟨cd,h1,_⟩:=l7.mp h;rw[h1];rfl
section
open PySem.W PySem.Builtin PySem.Builtin.ObjectAttr PySem.Builtin.Getset_descriptor
variable {K:p6}{x C:Addr}
theorem mI{M:Model}{h:Heap}(p:isExc x C h):Looks M h (typeOf (.ref x)) (.ref C):=by
 obtain⟨o,e,c⟩:=p;exact c ▸ (Looks.ld e).andThen .now
theorem FF{h:Heap}(k:K.In h)(z:(clsIn K C).isSome=true):(∃c d cd sl,h.get? C=some ⟨c,d,.cls cd,sl⟩)∧∀M:Model,Looks M h (isType (.ref C)) true:=by
 unfold clsIn at z;split at z
 ·rename_i c d cd sl ho;refine⟨⟨c,d,cd,sl,k _ _ ho⟩,fun M A Q E s kk q=>?_⟩
  unfold isType loadHead;exact o7 (wpAny_loadPart (kk _ _ (k _ _ ho)) (o8 q))
 ·cases z
theorem LU{prog:p8}{w:World}{A:Around}{R:Result→Shared→Prop}{s:Shared}{tp:Value}(F:XcK K C)(k:K.In s.heap)(p:isExc x C s.heap)(q:R (.ok (.ret (.ref C))) s) :
  codeAny (model prog w) A (.call (.builtin "getset_descriptor.__get__") ⟨[.builtin "object.__class__",.ref x,tp],[]⟩) R s:=by
 obtain⟨hp,gs,dr,tks,oss⟩:=s;have lt:Looks (model prog w) hp (typeOf (.ref x)) (.ref C):=mI p
 have lm:=looks_mroIn (M:=model prog w) k F.hm
 refine codeAny_call_builtin KF.slot_gs.plain KF.entry_gs (KF.slot_gs.check _ _ _ _ _ _ _ _ KF.type_class (KF.args_gs _ _ _) ?_);unfold Builtin.«getset_descriptor.__get__»;unfold descrGet;rw[dga_obj];refine o7 (o8 ?_);unfold descrGetter;unfold descrCheckInstance descrNameAndClass;unfold isInstance;simp only[KF.owner_class]
 repeat lk
 refine⟨Code.quiet_builtin _ (by decide +kernel),?_⟩
 refine codeAny_builtin KF.entry_class ?_;unfold Builtin.«object.__class__»;unfold shownTypeOf
 repeat lk
 exact q
theorem AO{prog:p8}{w:World}{A:Around}{E:p9}{s:Shared}{tk:Tok}{Q:Fin→Shared→Prop}(F:XcK K C)(k:K.In s.heap)(p:isExc x C s.heap)(q:Q (.done (.ret (.ref C))) s) :
  wpAny (model prog w) A (Builtin.«object.__getattribute__» ⟨[.ref x,.str "__class__" tk],[]⟩) Q E s:=by
 obtain⟨hp,gs,dr,tks,oss⟩:=s;have lt:Looks (model prog w) hp (typeOf (.ref x)) (.ref C):=mI p
 have lf:Looks (model prog w) hp (find (.ref x) (.ref C) "__class__") (.bind (.builtin "getset_descriptor.__get__") (.builtin "object.__class__")):=
  (looks_findIn k F.ha).andThen ((looks_specialIn k F.hn).andThen ((show Looks (model prog w) hp (dataDescriptor? (some (.builtin "object.__class__")) (some (.builtin "getset_descriptor.__get__"))) (some (.builtin "getset_descriptor.__get__",.builtin "object.__class__")) from(looks_takesIn k F.tk).andThen .now).andThen (Looks.tag .now)))
 unfold Builtin.«object.__getattribute__»;refine o7 (wpAny_of_eq (a:=(Value.ref x,[Value.str "__class__" tk])) (by rfl) ?_)
 refine o7 (o8 (o7 (lt.at (o7 (lf.at ?_)))));show wpAny _ _ (holding [Value.builtin "object.__class__"] (call (.builtin "getset_descriptor.__get__") [.builtin "object.__class__",.ref x,.ref C]) >>= ret) _ _ _
 exact o7 (wpAny_holding (o9 (wpAny_call (LU (R:=fun r s'=>match r with | .ok (.ret v)=>Q (.done (.ret v)) s' | .ok _=>False | .error e=>E e s') F k p (tp:=.ref C) q)) (fun v s' z=>o8 z) fun _ _ z=>z))
theorem AQ{M:Model}{A:Around}{E:p9}{s:Shared}{v:Value}{Q:Unit→Shared→Prop}(F:XcK K C)(k:K.In s.heap)(p:isExc x C s.heap)(q:Q () s) :
  wpAny M A (checkBuiltinCall "BaseException.__getattribute__" ⟨[.ref x,v],[]⟩) Q E s:=by
 obtain⟨hp,gs,dr,tks,oss⟩:=s;have lt:Looks M hp (typeOf (.ref x)) (.ref C):=mI p
 have lb:=looks_mroIn (M:=M) k F.hb
 have hk:builtinKind "BaseException.__getattribute__" = some .slot:=by decide +kernel
 have aT:splitId "BaseException.__getattribute__" = some ("BaseException","__getattribute__"):=by decide +kernel
 have har:=PySem.F.args_bexc_ga (.ref x) v
 simp only[checkBuiltinCall,hk,aT];refine o7 ?_;unfold isInstance;refine o7 (lt.at (lb.at ?_));simp only[ng,lr,if_false]
 repeat wp_step
 exact q
theorem LV{prog:p8}{w:World}{A:Around}{E:p9}{Q:Option Value→Shared→Prop}{s:Shared}(F:XcK K C)(k:K.In s.heap)(p:isExc x C s.heap)(q:Q (some (.ref C)) { s with toks:=s.toks+1 }) :
  wpAny (model prog w) A (getAttr? (.ref x) "__class__") Q E s:=by
 obtain⟨hp,gs,dr,tks,oss⟩:=s;have lt:Looks (model prog w) hp (typeOf (.ref x)) (.ref C):=mI p
 have lg:=looks_findIn (M:=model prog w) k F.ga
 have lh:=looks_findIn (M:=model prog w) k F.gn
 have lb:=looks_mroIn (M:=model prog w) k F.hb
 have hx2:(Value.builtin "BaseException.__getattribute__" == Value.builtin "object.__getattribute__")=false:=by decide +kernel
 have hk:builtinKind "BaseException.__getattribute__" = some .slot:=by decide +kernel
 have aT:splitId "BaseException.__getattribute__" = some ("BaseException","__getattribute__"):=by decide +kernel
 unfold getAttr? getAttrBy? getAttrBy;refine o7 (wpAny_mkText (o7 (wpAny_attempt (wpAny_holding (o7 (lt.at (o7 (lg.at ?_))))))));dsimp only;rw[hx2,Bool.and_false,if_neg (by decide)]
 unfold getAttrByItsOwn hookBefore;refine o7 ?_;rw[if_pos (show onTheHeap (Value.ref C)=true from rfl)]
 refine lh.at ?_;refine o7 (wpAny_attempt (wpAny_holding ?_));unfold callGetattribute;rw[Bool.false_and,if_neg (by decide)]
 unfold boundAndCalled;refine o7 (wpAny_of_eq (PySem.F.attrBase_ValueError.ga.bind (.ref x)) ?_);refine wpAny_call (codeAny_call_builtin PySem.F.attrBase_ValueError.ga.plain PySem.F.entry_bexc_ga ?_);refine AQ F k p ?_;refine o9 (AO (Q:=fun fin s'=>fin=.done (.ret (.ref C))∧s'=⟨hp,gs,dr,tks+1,oss⟩) (E:=fun _ _=>False) F k p ⟨rfl,rfl⟩) (fun fin s' z=>?_) fun _ _ z=>z.elim
 obtain⟨rfl,rfl⟩:=z;exact handed_on rfl (o8 q)
theorem DR(F:XcK K C):KitX K (.ref x) (.ref C) (isExc x C) where
 ty:=fun _ _ _ p=>mI p
 it:=fun M _ k _=>(FF k F.cl).2 M
 ne:=fun h tp dd its n sl k htp=>by
  obtain⟨⟨c,d,cd,sl',e⟩,_⟩:=FF k F.cl;refine Bool.eq_false_iff.mpr fun q=>?_
  have ee:C=tp:=Value.ref.inj (nu.mp q)
  rw[ee,htp]at e;cases e
 ca:=fun k p q=>LV F k p q
end
end Z
namespace Z
open PySem
end Z
namespace Z
open PySem PySem.Spec PyProof.Rows L2
def oV(K:p6)(T:Tx)(S:Addr→Prop)(H H':Hp)(d:D)(v:V):Prop:=∀ds,d=.lst ds→∃p xs,v=.ref p∧H p=none∧H' p=some (.lst xs)∧aD K T (er H' p) S ds xs
def eg(K:p6)(T:Tx)(n:Nat)(f:List D→Option Rs)(fr:Bool):Sp:=fun vs H Q E=>vs.length=n∧∃(S:Addr→Prop) (ds:List D),(∀a,S a→∃o,H a=some o)∧aD K T H S ds vs ∧
 ((∃d,f ds=some (.ok d)∧∀v H',aF H H'→Rep K T H' S d v→(fr=true→oV K T S H H' d v)→Q v H') ∨
  (∃c C,f ds=some (.er c)∧T.xc c=some C∧∀H',aF H H'→E (.ref C) none H'))
def PZ(K:p6)(T:Tx)(C:Addr)(n:Nat)(g:List D→Option Rs):Sp:=fun vs H Q _=>vs.length=n∧∃(p dx:Addr) (ws:List V) (S:Addr→Prop) (ds:List D) (d:D),vs=.ref p::ws∧H p=some (.ins C dx [])∧S p∧(∀a,S a→∃o,H a=some o) ∧
 aD K T H S ds ws∧g ds=some (.ok d)∧∀H',(∀b o,b≠p→H b=some o→H' b=some o)→(∀S':Addr→Prop,(∀a,S' a→S a∧a≠p)→Rep K T H' S' d (.ref p))→Q .non H'
noncomputable def eQ:List Str:=["len","int","list","tuple","max","min","str","sorted","any","range","reversed","enumerate","isinstance","bool","ValueError"]
def spW(C:Addr)(x:Str):Sp:=fun vs H Q _=>∃a,vs=[.ref a]∧H a=some (.ext (isExc a C))∧∀H',aF H H'→Q (.str x) H'
def aCe(X:Cx)(T:Tx)(a:Addr)(kvs:List (Str×D)):Prop:=(a == sysModules)=false∧∃o vs,X.K.lookup a=some o∧o.IsDictOf (bG X.prog X.w) vs∧(∀k,(valueAt vs (Sum.inr k)).isSome=(kvs.lookup k).isSome) ∧
 ∀k d u,kvs.lookup k=some d→valueAt vs (Sum.inr k)=some u→∃v,RelV v u∧∀(H:Hp) (S:Addr→Prop),(∀a o,X.K.lookup a=some o→H a=none)→(∀a,S a→∃o,H a=some o)→Rep X.K T H S d v
def spA(K:p6)(T:Tx)(n:Nat)(g:D→List D→Option (D×D)):Sp:=fun vs H Q _=>vs.length=n∧∃(S:Addr→Prop) (q:Addr) (o:D) (ob:HO) (rest:List V) (ds:List D) (d o':D),vs=.ref q::rest∧(∀a,S a→∃o,H a=some o)∧S q∧H q=some ob∧gB K T H S o ob∧aD K T H S ds rest∧g o ds=some (d,o') ∧
 ∀v H' ez,(∀a b,a≠q→H a=some b→H' a=some b)→H' q=some ez→gB K T H' S o' ez→Rep K T H' S d v→Q v H'
structure js (CX:ak) (X:Cx) (c:CC) (G:GS) (T:Tx) (lv:Nat):Prop where
 fn:∀x,c.fns.contains x=true→∃f fd ps,X.mg x=some (.ref f)∧keepIn X.K (.ref f)=true∧Binds X.K fd ps []∧(∀ds r,G.fn x ds=some r→ds.length=ps.length) ∧
  FnOk X.prog X.w X.K X.mg X.base CX lv f fd ps (eg X.K T ps.length (G.fn x) (G.ff x))
 me:∀cn C m ds r,T.cl cn=some C→G.me cn m ds=some r→∃f fd ps,ef X.K C m f∧Binds X.K fd ps []∧(∀ds r,G.me cn m ds=some r→ds.length=ps.length) ∧
  FnOk X.prog X.w X.K X.mg X.base CX lv f fd ps (eg X.K T ps.length (G.me cn m) (G.mf cn m))
 cls:∀cn C,T.cl cn=some C→Cls X.K C
 fld:∀cn C f,T.cl cn=some C→(G.fl cn).contains f=true→dN X.K C f
 mo:∀x,c.cls.contains x=true→∀ds d,G.mo x ds=some (.ok d)→∃C f fd ps j,j+1≤lv∧X.mg x=some (.ref C)∧Mk X.K C f∧Binds X.K fd ps []∧ds.length+1=ps.length ∧
  FnOk X.prog X.w X.K X.mg X.base CX j f fd ps (PZ X.K T C ps.length (G.mo x))
 cst:∀x d,G.cst x=some d→c.csts.contains x=true→∃u v,X.mg x=some u∧RelV v u∧∀(H:Hp) (S:Addr→Prop),(∀a o,X.K.lookup a=some o→H a=none)→(∀a,S a→∃o,H a=some o)→Rep X.K T H S d v
 bi:∀x,eQ.contains x=true→c.fns.contains x=false→c.cls.contains x=false→X.mg x=none
 xcl:∀x C,T.xc x=some C→X.mg x=some (.ref C)
 frs:∀x,c.fresh.contains x=true→G.ff x=true∧∀cn,G.mf cn x=true
 cx0:∀outer H s e s',CX outer H s E0 e s'→False
 cxf:∀outer H s E e s',CX outer H s E e s'→cQ X.prog X.w outer H s E e s'
 xns:∀k,G.xn k=true→∃C,T.xc k=some C
 xk:∀k C,T.xc k=some C→excIn X.K C i6 "ValueError.__new__" = true
 sub:∀k k' C C',T.xc k=some C→T.xc k'=some C'→G.sub k k'=true→lQ X.K C (.ref C')=true
 wd:∀f k x C,T.xc k=some C→G.wd f k=some x→∃fa fd ps j,j≤lv∧X.mg f=some (.ref fa)∧keepIn X.K (.ref fa)=true∧Binds X.K fd ps []∧FnM X.prog X.w X.K X.mg X.base j fa fd ps (spW C x)
 dk:∀x kvs,G.dk x=some kvs→∃a,X.mg x=some (.ref a)∧aCe X T a kvs
 fm:∀x o ds r,G.fm x o ds=some r→∃f fd ps,X.mg x=some (.ref f)∧keepIn X.K (.ref f)=true∧Binds X.K fd ps []∧ds.length+1=ps.length∧FnOk X.prog X.w X.K X.mg X.base CX lv f fd ps (spA X.K T ps.length (G.fm x))
def rH(k:Option NameKind)(k':Option NameKind):Prop:=match k with
 |some .local=>k'=some .local
 |some .cell=>k'=some .cell
 |some .free=>k'=some .free∨k'=some .cell
 |some .globalImplicit=>k'=some .globalImplicit
 |_=>True
structure XC (CX:ak) (X:Cx) (c:CC) (G:GS) (T:Tx) (lv:Nat):Prop where
 N:X.N=c.N
 nd:c.N.Nodup
 kd:∀x,rH (c.sc.names.lookup x) (X.env.kindOf x)
 own:∀x,c.sc.names.lookup x=some .cell→X.fn x=true
 dbg:∀x∈c.N,(x == ("__debug__":Str))=false∧(x == ("__classdict__":Str))=false
 gdb:aO c "__debug__" = false
 calm:X.calm=true
 room:Room lv X.A
 go:js CX X c G T lv
section
variable {CX:ak}{X:Cx}{c:CC}{G:GS}{T:Tx}{lv:Nat}
theorem XC.units(h:XC CX X c G T lv):X.A.units+64<cLine:=h.room.units
theorem XC.glob(h:XC CX X c G T lv){x:Str}(e:aO c x=true):Gl X x:=by
 have k:=h.kd x
 have e':c.sc.names.lookup x=some .globalImplicit:=by
  unfold aO at e;exact nu.mp e
 rw[e']at k;exact k
theorem XC.gne(h:XC CX X c G T lv){x:Str}(e:aO c x=true):(x == ("__debug__":Str))=false:=by
 cases q:x == ("__debug__":Str) with
 |false=>rfl
 |true =>
  have q':x = "__debug__":=nu.mp q
  subst q';rw[h.gdb]at e;cases e
theorem gW{α:Type}[DecidableEq α][BEq α][LawfulBEq α]:∀{l:List α} {x:α} {i:Nat},l.idxOf? x=some i→l[i]?=some x:=by
 intro l x i h;unfold List.idxOf? at h;rw[List.findIdx?_eq_some_iff_getElem]at h;obtain⟨h1,h2,_⟩:=h;rw[l8 h1];exact congrArg some (nu.mp h2)
theorem pC{x:Str}{i:Nat}(e:bC c x=some i):c.N[i]?=some x∧(c.sc.names.lookup x=some .local∨c.sc.names.lookup x=some .cell∨c.sc.names.lookup x=some .free):=by
 unfold bC at e;split at e
 ·rename_i h;exact⟨gW e,.inl h⟩
 ·rename_i h;exact⟨gW e,.inr (.inl h)⟩
 ·rename_i h;exact⟨gW e,.inr (.inr h)⟩
 ·cases e
theorem XC.vis(h:XC CX X c G T lv){x:Str}(e:c.sc.names.lookup x=some .local∨c.sc.names.lookup x=some .cell∨c.sc.names.lookup x=some .free):Vis X.env.scope x:=by
 have k:=h.kd x
 rcases e with e|e|e
 ·rw[e]at k;exact .inl k
 ·rw[e]at k;exact .inr (.inl k)
 ·rw[e]at k
  rcases k with k|k
  ·exact .inr (.inr k)
  ·exact .inr (.inl k)
theorem fM{x:Str}{p:Pos}{i:Nat}(e:eC c (.Name x p)=some i):c.N[i]?=some x∧(c.sc.names.lookup x=some .local∨c.sc.names.lookup x=some .cell):=by
 simp only[eC]at e;split at e
 ·rename_i h;exact⟨gW e,.inl h⟩
 ·rename_i h;exact⟨gW e,.inr h⟩
 ·cases e
theorem XC.loc(h:XC CX X c G T lv){x:Str}(e:c.sc.names.lookup x=some .local∨c.sc.names.lookup x=some .cell):Loc X.env.scope x∧(X.fn x=true∨X.env.scope.names.lookup x=some .local):=by
 have k:=h.kd x
 rcases e with e|e
 ·rw[e]at k;exact⟨.inl k,.inr k⟩
 ·have o:=h.own x e
  rw[e]at k;exact⟨.inr k,.inl o⟩
theorem NQ{pins:ph}{σ:L2.St}{H:Hp}{s:Shared}(I:Inv X pins σ H s):∀a o,X.K.lookup a=some o→H a=none:=fun a o e=>(I.bs a o (I.mod.kin a o e)).2
def gD(K:p6)(T:Tx)(S:Addr→Prop)(is:List Nat)(ρ ρ1:List Sl)(d:D):TG:=fun v σ H Q=>RE K T H S ρ σ∧Rep K T H S d v∧∀σ',RE K T H S ρ1 σ'→(∀j,j∉is→σ'[j]?=σ[j]?)→Q σ' H
theorem RE.set{K:p6}{H:Hp}{S:Addr→Prop}{ρ:List Sl}{σ:L2.St}{i:Nat}{d:D}{v:V}(re:RE K T H S ρ σ)(r:Rep K T H S d v):RE K T H S (ρ.set i (.im d)) (σ.set i (some v)):=by
 refine⟨re.dom,by simp[re.len],fun j s e=>?_⟩
 by_cases hj:j=i
 ·subst hj;have hl:j<ρ.length:=by
   have:=(l0.mp e).1
   simpa using this
  rw[mn hl]at e;cases e;rw[mn (by rw[←re.len];exact hl)]
  exact⟨v,rfl,r⟩
 ·rw[mq (Ne.symm hj)]at e ⊢;exact re.at_ j s e
noncomputable def gDs(K:p6)(T:Tx)(S:Addr→Prop)(is:List Nat)(ρ ρ1:List Sl)(ds:List D):gm:=fun vs σ H Q=>RE K T H S ρ σ∧aD K T H S ds vs∧∀σ',RE K T H S ρ1 σ'→(∀j,j∉is→σ'[j]?=σ[j]?)→Q σ' H
theorem dW(env:Env):∀{es:List Expr} {is:List Nat},eE c es=some is→(assignEach es env).map (·.2)=es.map (fun e=>assign e env)∧(assignEach es env).length=es.length∧(assignEach es env).findIdx? (·.1)=none:=by
 intro es
 induction es with
 |nil=>intro is _;exact⟨rfl,rfl,rfl⟩
 |cons e es ih =>
  intro is h;simp only[eE,ll,l7]at h;obtain⟨i,h1,r,h2,_⟩:=h;obtain⟨a1,a2,a3⟩:=ih h2;cases e<;>simp only[eC,reduceCtorEq]at h1
  rename_i x p;refine⟨?_,?_,?_⟩
  ·show assign (.Name x p) env::(assignEach es env).map (·.2)=_
   rw[a1];rfl
  ·show (assignEach es env).length+1=_
   rw[a2];rfl
  ·show List.findIdx? (·.1) ((false,assign (.Name x p) env)::assignEach es env)=none
   rw[List.findIdx?_cons,a3];rfl
theorem ZH(h:XC CX X c G T lv){S:Addr→Prop}:∀{es:List Expr} {is:List Nat} {ds:List D} {ρ ρ1:List Sl},eE c es=some is→aQ is ds ρ=some ρ1→k7 X es (gDs X.K T S is ρ ρ1 ds):=by
 intro es
 induction es with
 |nil =>
  intro is ds ρ ρ1 h1 h2;simp only[eE]at h1;cases h1;cases ds with
  |nil =>
   simp only[aQ]at h2;cases h2;intro pins s σ H vs us Q I r ⟨re,rl,q⟩;unfold aD at rl;exact JB pins s σ H vs us Q I r ⟨rl,q σ re fun _ _=>rfl⟩
  |cons d ds=>simp[aQ]at h2
 |cons e es ih =>
  intro is ds ρ ρ1 h1 h2;simp only[eE,ll,l7]at h1;obtain⟨i,h1,r,h3,h4⟩:=h1;cases h4;cases ds with
  |nil=>simp[aQ]at h2
  |cons d ds =>
   simp only[aQ]at h2;have hs:=(dW (c:=c) X.env (es:=e::es) (is:=i::r) (by simp[eE,h1,h3])).1
   have fb:=(dW (c:=c) X.env h3).1
   cases e<;>simp only[eC,reduceCtorEq]at h1
   rename_i x p;have kl:eC c (.Name x p)=some i:=h1
   obtain⟨hN,hk⟩:=fM kl;obtain⟨hl,hf⟩:=h.loc hk;have p1:PG X (.Name x p) (oB i):=vY (by rw[h.N];exact h.nd) (by rw[h.N];exact hN) hl hf
   have p2:=CH p1 (ih h3 h2) (by rw[hs,fb];rfl)
   intro pins s σ H vs us Q I rv ⟨re,rl,q⟩;unfold aD at rl;obtain⟨y,w,e1,ry,dz⟩:=rl;refine p2 pins s σ H vs us Q I rv ⟨y,w,e1,?_⟩;refine⟨re.set ry,dz,fun σ2 re2 ag=>q σ2 re2 fun j hj=>?_⟩
   rw[ag j fun z=>hj (lu _ z),mq (fun z=>hj (by rw[z];simp))]
theorem JC(h:XC CX X c G T lv){S:Addr→Prop}{tg:Expr}{is:List Nat}{tp:Bool}{d:D}{ρ ρ1:List Sl}(h1:bN c tg=some (is,tp))(h2:bB is tp d ρ=some ρ1):PG X tg (gD X.K T S is ρ ρ1 d):=by
 cases tg<;>simp only[bN,reduceCtorEq,ma,Prod.mk.injEq]at h1
 ·rename_i x p;obtain⟨i,h3,rfl,rfl⟩:=h1;simp only[bB,lr,if_false,aQ]at h2;cases h2;obtain⟨hN,hk⟩:=fM h3;obtain⟨hl,hf⟩:=h.loc hk;have p1:PG X (.Name x p) (oB i):=vY (by rw[h.N];exact h.nd) (by rw[h.N];exact hN) hl hf
  intro pins s σ H v u Q I rv ⟨re,rd,q⟩;exact p1 pins s σ H v u Q I rv (q _ (re.set rd) fun j hj=>mq (fun z=>hj (by rw[z];simp)))
 ·rename_i es k p;obtain⟨is',h3,rfl,rfl⟩:=h1;simp only[bB,if_true]at h2;cases d<;>simp only[reduceCtorEq]at h2
  rename_i ds;obtain⟨a1,a2,a3⟩:=dW (c:=c) X.env h3;have p1:=QQ (pos:=p) (k:=k) (n:=es.length) h.calm (ZH h (S:=S) h3 h2) a2 a3
  intro pins s σ H v u Q I rv ⟨re,rd,q⟩;unfold Rep at rd;obtain⟨a,xs,ev,_,e,rl⟩:=rd;refine p1 pins s σ H v u Q I rv ⟨a,xs,ev,e,?_,re,rl,q⟩;have l1:=rl.len
  have l2:is'.length=es.length:=by
   clear p1 a1 a2 a3 rl h2 q
   induction es generalizing is' with
   |nil=>simp only[eE]at h3;cases h3;rfl
   |cons e es ih =>
    simp only[eE,ll,l7]at h3;obtain⟨i,_,r,h4,h5⟩:=h3;cases h5;simp only[om,Nat.add_right_cancel_iff];exact ih r h4
  have l3:∀{is:List Nat} {ds:List D} {ρ ρ1:List Sl},aQ is ds ρ=some ρ1→is.length=ds.length:=by
   intro is
   induction is with
   |nil=>intro ds ρ ρ1 z;cases ds<;>simp_all [aQ]
   |cons i is ih =>
    intro ds ρ ρ1 z;cases ds with
    |nil=>simp[aQ]at z
    |cons d ds=>simp only[aQ]at z;simp[ih z]
  rw[←l1,←l3 h2,l2]
end
def gq(K:p6)(T:Tx)(S:Addr→Prop)(H0:Hp)(J:It)(ds:List D):Prop:=∀(H:Hp) (S':Addr→Prop),aG K H0 H S S'→(∀a,S' a→∃o,H a=some o) →
 (∀i d,ds[i]?=some d→J.go i H∧∀x H',J.yld i H x H'→aF H H'∧Rep K T H' S' d x)∧∀i,ds.length≤i→J.stop i H
def tI(K:p6)(T:Tx)(S:Addr→Prop)(ρ:List Sl)(ds:List D):TI:=fun σ H R=>RE K T H S ρ σ∧∀J H',aF H H'→gq K T S H' J ds→ds.length≤sizeLine→R J H'
theorem eT(sc:Scope)(env:Env)(x:Str):(relabel sc env).names.lookup x=(sc.names.lookup x).map fun k=>if (k == .free&&env.scope.kind == .function&&env.kindOf x == some .cell)=true then .cell else k:=by
 show (sc.names.map fun (p:Str×NameKind)=>if (p.2 == .free&&env.scope.kind == .function&&env.kindOf p.1 == some .cell) then(p.1,NameKind.cell) else(p.1,p.2)).lookup x=_
 induction sc.names with
 |nil=>rfl
 |cons p r ih =>
  obtain⟨n,k⟩:=p;rw[nj]
  by_cases hx:x=n
  ·subst hx
   by_cases hc:(k == .free&&env.scope.kind == .function&&env.kindOf x == some .cell)=true
   ·show List.lookup x ((if (k == .free&&env.scope.kind == .function&&env.kindOf x == some .cell)=true then(x,NameKind.cell) else(x,k))::_)=_
    rw[if_pos hc,lookup_cons,lookup_cons,beq_self_eq_true];simp only[oe];rw[if_pos hc]
   ·show List.lookup x ((if (k == .free&&env.scope.kind == .function&&env.kindOf x == some .cell)=true then(x,NameKind.cell) else(x,k))::_)=_
    rw[if_neg hc,lookup_cons,lookup_cons,beq_self_eq_true];simp only[oe];rw[if_neg hc]
  ·have hb:(x == n)=false:=by simpa using hx
   show List.lookup x ((if (k == .free&&env.scope.kind == .function&&env.kindOf n == some .cell)=true then(n,NameKind.cell) else(n,k))::_)=_
   by_cases hc:(k == .free&&env.scope.kind == .function&&env.kindOf n == some .cell)=true
   ·rw[if_pos hc,lookup_cons,lookup_cons,hb];exact ih
   ·rw[if_neg hc,lookup_cons,lookup_cons,hb];exact ih
theorem fI{env:Env}:∀(names:List (Str×NameKind)) (acc:List (Str×Addr)),(∀x∈names,x.2=.free→∃a,env.cells.lookup x.1=some a) →
  ∃cl,(forIn names acc fun (x:Str×NameKind) (cs:List (Str×Addr))=>if (x.2 == .free)=true then(do let a ←cellOf env x.1;pure (ForInStep.yield ((x.1,a)::cs))) else pure (ForInStep.yield cs):Sem (List (Str×Addr)))=pure cl ∧
   (∀x a,cl.lookup x=some a→acc.lookup x=some a∨env.cells.lookup x=some a)∧(∀x,((x,NameKind.free)∈names∨∃a,acc.lookup x=some a)→∃a,cl.lookup x=some a)
 |[],acc,_=>⟨acc,rfl,fun x a h=>.inl h,fun x h=>by
   rcases h with h|h
   ·simp at h
   ·exact h⟩
 | (n,k)::r,acc,h=>by
  by_cases hk:k=.free
  ·subst hk;obtain⟨a,ha⟩:=h (n,.free) (by simp) rfl
   obtain⟨cl,e,h1,h2⟩:=fI r ((n,a)::acc) fun x hx=>h x (lu _ hx)
   refine⟨cl,?_,fun x b q=>?_,fun x q=>h2 x ?_⟩
   ·rw[List.forIn_cons];simp only[beq_self_eq_true,if_true,cellOf,ha];exact e
   ·rcases h1 x b q with z|z
    ·rw[lookup_cons]at z;cases hx:x == n with
     |true =>
      rw[hx]at z;have:x=n:=nu.mp hx
      subst this;cases z;exact .inr ha
     |false=>rw[hx]at z;exact .inl z
    ·exact .inr z
   ·by_cases hx:x=n
    ·subst hx;exact .inr ⟨a,by simp⟩
    ·have hb:(x == n)=false:=by simpa using hx
     rcases q with q|⟨b,q⟩
     ·rcases my.mp q with q|q
      ·exact absurd (Prod.mk.inj q).1 hx
      ·exact .inl q
     ·exact .inr ⟨b,by rw[lookup_cons,hb];exact q⟩
  ·have hb:(k == NameKind.free)=false:=by simpa using hk
   obtain⟨cl,e,h1,h2⟩:=fI r acc fun x hx=>h x (lu _ hx)
   refine⟨cl,?_,h1,fun x q=>h2 x ?_⟩
   ·rw[List.forIn_cons];simp only[hb,lr,if_false];exact e
   ·rcases q with q|q
    ·rcases my.mp q with q|q
     ·exact absurd (Prod.mk.inj q).2.symm hk
     ·exact .inl q
    ·exact .inr q
theorem mO{env:Env}{sc:Scope}(h:∀x∈sc.names,x.2=.free→∃a,env.cells.lookup x.1=some a) :
  ∃cl,closureFor sc env=pure cl∧(∀x a,cl.lookup x=some a→env.cells.lookup x=some a)∧(∀x,(x,NameKind.free)∈sc.names→∃a,cl.lookup x=some a):=by
 obtain⟨cl,e,h1,h2⟩:=fI (env:=env) sc.names [] h;refine⟨cl,?_,fun x a q=>(h1 x a q).elim (fun z=>by simp at z) id,fun x q=>h2 x (.inl q)⟩
 show ((forIn sc.names [] fun (x:Str×NameKind) (cs:List (Str×Addr))=>if (x.2 == .free)=true then(do let a ←cellOf env x.1;pure (ForInStep.yield ((x.1,a)::cs))) else pure (ForInStep.yield cs):Sem (List (Str×Addr))) >>= fun cs=>pure cs)=pure cl
 rw[e];rfl
noncomputable def tN(X:Cx)(N':List Str)(sc:Scope)(cl:List (Str×Addr))(C:Addr)(s:Shared)(H:Hp)(fp:List Addr)(E:p9):Cx:=
 {X with N:=N',s₀:=s,H₀:=H,env:=compEnvC sc cl C X.env,outer:=X.stack,ex:=fp,fn:=fun _=>false,pn:=[],xe:=E }
theorem rB{prog:p8}{w:World}{A:Around}{R:Result→Shared→Prop}{s:Shared}{elt target iter:Expr}{ifs:List Expr}{scope:Scope}{pos:Pos}{it acc:Value}{env:Env}(I:Nat→Shared→Prop)
  (turn:∀n s,I n s→wpAny (model prog w) A (pyNext it) (fun r s₁=>match r with
   |none=>R (.ok .next) s₁
   |some v=>wpAny (model prog w) A (letOwnedTupleGo target it v) (fun _ s₁=>wpAny (model prog w) A (assign target env v) (fun _ s₂ =>
     wpAny (model prog w) A (forIn ifs true fun c r=>if r=true then do let ok ←isTrue c env (eval c env);pure (ForInStep.yield ok) else pure (ForInStep.yield r)) (fun ok s₃ =>
      if ok=true then wpAny (model prog w) A (eval elt env) (fun x s₄ =>
       wpAny (model prog w) A (call (.builtin "list.append") [acc,x]) (fun _ s₅=>∃m,m<n∧I m s₅) (notedBy (model prog w) A env fun e s'=>R (.error e) s') s₄) (notedBy (model prog w) A env fun e s'=>R (.error e) s') s₃
      else ∃m,m<n∧I m s₃) (notedBy (model prog w) A env fun e s'=>R (.error e) s') s₂) (notedBy (model prog w) A env fun e s'=>R (.error e) s') s₁) (notedBy (model prog w) A env fun e s'=>R (.error e) s') s₁) (notedBy (model prog w) A env fun e s'=>R (.error e) s') s)
  (n:Nat) (h:I n s):codeAny (model prog w) A (.compLoop (.ListComp elt [⟨target,iter,ifs,0⟩] scope pos) 0 it acc env) R s:=by
 refine codeAny_loop rfl I (fun n s hI=>?_) n h
 show wpAny _ A ((compTurn (.ListComp elt [⟨target,iter,ifs,0⟩] scope pos) 0 it acc env).onRaise (fun x=>do noteFrame x env;theTreesLotGoes x)) _ _ s
 refine wpAny_noted ?_;rw[compTurn_list];refine o7 (wpAny_standAt (o7 (o9 (turn n s hI) (fun r s₁ h₁=>?_) fun _ _ h'=>h')))
 cases r with
 |none=>exact o8 h₁
 |some v =>
  refine o7 (o9 h₁ (fun _ s₁' h₁'=>?_) fun _ _ h'=>h')
  refine o7 (o9 h₁' (fun _ s₂ h₂=>o7 (o9 h₂ (fun ok s₃ h₃=>?_) fun _ _ h'=>h')) fun _ _ h'=>h')
  cases ok with
  |false=>exact o8 ⟨rfl,h₃⟩
  |true =>
   exact o7 (o7 (o9 h₃ (fun x s₄ h₄=>o7 (o9 h₄ (fun _ s₅ h₅=>o8 (o8 ⟨rfl,h₅⟩)) fun _ _ h'=>h')) fun _ _ h'=>h'))
section
variable {CX:ak}{X:Cx}{c:CC}{G:GS}{T:Tx}{lv:Nat}{pins:ph}{σ:L2.St}{H:Hp}{s:Shared}
theorem jC(I:Inv X pins σ H s){N':List Str}{sc:Scope}{cl:List (Str×Addr)}{C:Addr}{fp:List Addr}{E:p9}(hk:sc.kind=.function)(hC:s.heap.objs.size≤C)
  (ao:∀x a,cl.lookup x=some a→X.env.cells.lookup x=some a) (bb:∀x,(x,NameKind.free)∈sc.names→∃a,cl.lookup x=some a) (hnc:∀x∈sc.names,x.2≠.cell)
  (hf:∀b∈fp,mX X pins H b) (dv:∀b∈fp,b<s.heap.objs.size):(tN X N' sc cl C s H fp E).Ok where
 mod:=I.ok.mod
 kind:=hk
 glob:=I.ok.glob
 blt:=I.ok.blt
 above:=hC
 inj:=fun x y c h1 h2=>I.ok.inj x y c (ao _ _ h1) (ao _ _ h2)
 has:=fun x hx=>by
  have e:∀k,(relabel sc X.env).names.lookup x=some k→(k=.cell∨k=.free)→(x,NameKind.free)∈sc.names:=fun k e hk=>by
   rw[eT]at e;cases q:sc.names.lookup x with
   |none=>rw[q]at e;cases e
   |some k0 =>
    rw[q]at e;have hm:=ny q
    by_cases iz:k0=.free
    ·subst iz;exact hm
    ·have hb:(k0 == NameKind.free)=false:=by simpa using iz
     simp only[oe,hb,Bool.false_and,lr,if_false,l5]at e;subst e
     rcases hk with z|z
     ·exact absurd z (hnc _ hm)
     ·exact absurd z iz
  rcases hx with hx|hx
  ·exact bb x (e _ hx (.inl rfl))
  ·exact bb x (e _ hx (.inr rfl))
 cab:=fun x c h=>by cases h
 hd:=I.ok.hd
 frames:=I.ok.frames
 stk:=.inl rfl
 exf:=fun b hb=>⟨o3 (md (dv b hb) hC),fun x c e=>(hf b hb).2.2.2.2.1 x c (ao _ _ e)⟩
 bs:=I.bs
 bsz:=mw I.ok.bsz I.sz
 noex:=fun b o e hb=>by
  obtain⟨_,_,_,h1,_⟩:=hf b hb
  rcases h1 with h1|h1
  ·exact I.ok.noex b o e h1
  ·exact absurd (md (mr e) I.ok.bsz) (not_lt.mpr h1)
 exfs:=fun b hb hs=>by
  obtain⟨_,h1,h2,_⟩:=hf b hb
  rcases my.mp (I.stkSub b hs) with z|z
  ·exact h1 z
  ·exact h2 z
 funs:=I.stack
 frf:=I.stkFree
end
section
variable {CX:ak}{X:Cx}{c:CC}{G:GS}{T:Tx}{lv:Nat}{pins:ph}{σ:L2.St}{H:Hp}{s:Shared}
structure aw (c:CC) (sc:Scope):Prop where
 kind:sc.kind=.function
 nocell:∀x∈sc.names,x.2≠.cell
 loc:∀x∈sc.names,x.2=.local→sc.names.lookup x.1=some .local
 fl:∀x∈sc.names,x.2=.free→sc.names.lookup x.1=some .free
 nd:(ownNames sc).Nodup
 dbg:∀x∈ownNames sc,(x == ("__debug__":Str))=false∧(x == ("__classdict__":Str))=false
 gdb:sc.names.lookup ("__debug__":Str)≠some .globalImplicit
 fre:∀x∈sc.names,x.2=.free→c.sc.names.lookup x.1=some .cell∨c.sc.names.lookup x.1=some .free
theorem oK{sc:Scope}(h:iL c sc=true):aw c sc:=by
 unfold iL at h;simp only[ly]at h;obtain⟨⟨⟨⟨⟨⟨⟨h1,h2⟩,h3⟩,h8⟩,h4⟩,h5⟩,h6⟩,h7⟩:=h;rw[all_eq_true]at h2 h3 h5 h7 h8;refine⟨nu.mp h1,fun x hx=>?_,fun x hx e=>?_,fun x hx e=>?_,of_decide_eq_true h4,fun x hx=>?_,fun e=>?_,fun x hx e=>?_⟩
 ·have:=h2 x hx
  simpa using this
 ·have:=h3 x hx
  simpa [e] using this
 ·have:=h8 x hx
  simpa [e] using this
 ·have:=h5 x hx
  simpa [ly] using this
 ·rw[e]at h6;simp at h6
 ·have:=h7 x hx
  simpa [e] using this
theorem FE(h:XC CX X c G T lv){sc:Scope}(cs:aw c sc){cl:List (Str×Addr)}{C:Addr}{s:Shared}{H:Hp}{fp:List Addr}{E:p9} :
  XC CX (tN X (ownNames sc) sc cl C s H fp E) { c with N:=ownNames sc,sc:=sc } G T lv where
 N:=rfl
 nd:=cs.nd
 kd:=fun x=>by
  show rH (sc.names.lookup x) ((relabel sc X.env).names.lookup x)
  rw[eT];cases q:sc.names.lookup x with
  |none=>trivial
  |some k =>
   cases k with
   | «local»=>rfl
   |cell=>exact absurd rfl (cs.nocell _ (ny q))
   |free =>
    simp only[oe,rH]
    by_cases hc:((NameKind.free == NameKind.free)&&X.env.scope.kind == .function&&X.env.kindOf x == some .cell)=true
    ·rw[if_pos hc];exact .inr rfl
    ·rw[if_neg hc];exact .inl rfl
   |globalExplicit=>trivial
   |globalImplicit=>rfl
 own:=fun x e=>absurd rfl (cs.nocell _ (ny e))
 dbg:=cs.dbg
 gdb:=by
  unfold aO;exact nz.mpr cs.gdb
 calm:=h.calm
 room:=h.room
 go:=⟨h.go.fn,h.go.me,h.go.cls,h.go.fld,h.go.mo,h.go.cst,h.go.bi,h.go.xcl,h.go.frs,h.go.cx0,h.go.cxf,h.go.xns,h.go.xk,h.go.sub,h.go.wd,h.go.dk,h.go.fm⟩
theorem AF{sc:Scope}:∀{l:List (Str×NameKind)} {fr:List (Nat×Nat)} {i j:Nat},freeOf c sc l=some fr→fr.lookup i=some j→∃x∈l,(ownNames sc).idxOf? x.1=some i∧bC c x.1=some j:=by
 intro l
 induction l with
 |nil =>
  intro fr i j h e;simp only[freeOf]at h;cases h;simp at e
 |cons x r ih =>
  intro fr i j h e;simp only[freeOf,ll,l7]at h;obtain⟨a,h1,b,h2,t,h3,h4⟩:=h;cases h4;rw[lookup_cons]at e;cases q:i == a with
  |true =>
   rw[q]at e;cases e;have:i=a:=by simpa using q
   subst this;exact⟨x,by simp,h1,h2⟩
  |false =>
   rw[q]at e;obtain⟨y,hy,z⟩:=ih h3 e;exact⟨y,lu _ hy,z⟩
noncomputable def dS(n:Nat)(fr:List (Nat×Nat))(σ:L2.St):L2.St:=(List.range n).map fun i=>match fr.lookup i with
 |some j=>σ.getD j none
 |none=>none
theorem EI{K:p6}{S:Addr→Prop}{ρ:List Sl}{n:Nat}{fr:List (Nat×Nat)}(re:RE K T H S ρ σ):RE K T H S (frame n fr ρ) (dS n fr σ):=by
 refine⟨re.dom,by simp[frame,dS],fun i sl e=>?_⟩
 unfold frame at e;unfold dS;rw[l9]at e ⊢;cases hr:(List.range n)[i]? with
 |none=>rw[hr]at e;cases e
 |some k =>
  rw[hr]at e;simp only[oe,l5]at e ⊢;subst e;cases q:fr.lookup k with
  |none=>trivial
  |some j =>
   simp only;cases q2:ρ[j]? with
   |none =>
    rw[l4,q2];trivial
   |some sl =>
    have h:=re.at_ j sl q2
    rw[l4,q2];simp only[Option.getD_some];cases sl with
    |un=>trivial
    |im d =>
     obtain⟨v,e1,r⟩:=h;exact⟨v,by rw[l4,e1];rfl,r⟩
    |mu ds =>
     obtain⟨p,xs,e1,r⟩:=h;exact⟨p,xs,by rw[l4,e1];rfl,r⟩
theorem RE.gen{K:p6}{H':Hp}{S S':Addr→Prop}{ρ:List Sl}(re:RE K T H S ρ σ)(mv:aG K H H' S S')(hm:∀a ob,S a→H a=some ob→(∃d,gB K T H S d ob)→S' a∧H' a=some ob)(hd:∀a,S' a→∃o,H' a=some o):RE K T H' S' ρ σ:=by
 refine⟨hd,re.len,fun i sl e=>?_⟩
 have h:=re.at_ i sl e
 cases sl with
 |un=>trivial
 |im d=>obtain⟨v,e1,r⟩:=h;exact⟨v,e1,Rep.gen mv d v r⟩
 |mu ds =>
  obtain⟨p,xs,e1,sp,hp,r⟩:=h;obtain⟨a1,a2⟩:=hm p xs sp hp ⟨ds,r⟩;exact⟨p,xs,e1,a1,a2,r.gen mv⟩
theorem EB(h:XC CX X c G T lv)(I:Inv X pins σ H s){sc:Scope}(cs:aw c sc){cl:List (Str×Addr)}{fr:List (Nat×Nat)}{C:Addr}{fp:List Addr}{E:p9}{s4:Shared}{m:pj}
  (ar:freeOf c sc (sc.names.filter fun x=>x.2 == .free)=some fr)
  (ao:∀x a,cl.lookup x=some a→X.env.cells.lookup x=some a) (bb:∀x,(x,NameKind.free)∈sc.names→∃a,cl.lookup x=some a)
  (hf:∀b∈fp,mX X pins H b) (dv:∀b∈fp,b<s.heap.objs.size) (hC:s.heap.objs.size≤C) (hn:s4.heap.Ns C m) (hk:∀b o,s.heap.get? b=some o→s4.heap.get? b=some o)
  (iu:s4.os=s.os) (gg:AllBare s4.gens):Inv (tN X (ownNames sc) sc cl C s H fp E) [] (dS (ownNames sc).length fr σ) H s4 where
 ok:=jC I cs.kind hC ao bb cs.nocell hf dv
 os:=iu
 bare:=gg
 base:=Un.kept hk
 loc:=⟨m,hn,fun i x v h1 h2 h3=>by
  unfold dS at h2;rw[l9]at h2;cases hr:(List.range (ownNames sc).length)[i]? with
  |none=>rw[hr]at h2;cases h2
  |some k =>
   have ek:k=i:=by
    obtain⟨_,e⟩:=l0.mp hr;simpa using e.symm
   subst ek;rw[hr]at h2;simp only[oe,l5]at h2;cases q:fr.lookup k with
   |none=>rw[q]at h2;cases h2
   |some j =>
    rw[q]at h2;simp only at h2;obtain⟨y,hy,hy1,hy2⟩:=AF ar q;have hyx:y.1=x:=by
     have:=gW hy1
     have kl:(ownNames sc)[k]?=some x:=h1
     rw[kl]at this;exact(lz this).symm
    obtain⟨hym,hyf⟩:=List.mem_filter.mp hy;have hyf':y.2=.free:=by simpa using hyf
    have hxm:(x,NameKind.free)∈sc.names:=by
     rw[←hyx,←hyf'];exact hym
    obtain⟨hN,_⟩:=pC hy2;rw[hyx]at hN hy2;have hσ:σ[j]?=some (some v):=by
     rw[l4]at h2;cases q2:σ[j]? with
     |none=>rw[q2]at h2;cases h2
     |some o=>rw[q2]at h2;simp only[Option.getD_some]at h2;rw[h2]
    obtain⟨m0,_,hl⟩:=I.loc;have ke:=cs.fre _ hym hyf'
    rw[hyx]at ke;obtain⟨u,ru,lk⟩:=hl j x v (by rw[h.N];exact hN) hσ (h.vis (.inr ke))
    refine⟨u,ru,.inr ?_⟩;have kd:=h.kd x
    have notloc:X.env.kindOf x≠some .local:=by
     rcases ke with z|z
     ·rw[z]at kd;intro w;rw[kd]at w;cases w
     ·rw[z]at kd;intro w
      rcases kd with kd|kd<;>(rw[kd]at w;cases w)
    rcases lk with ⟨z,_⟩|⟨_,cc,e1,e2⟩
    ·exact absurd z notloc
    ·obtain⟨a,ha⟩:=bb x hxm;have ea:=ao x a ha
     rw[e1]at ea;cases ea;refine⟨?_,cc,ha,?_⟩
     ·show (relabel sc X.env).names.lookup x=some .cell∨(relabel sc X.env).names.lookup x=some .free
      rw[eT];have hlk:sc.names.lookup x=some .free:=cs.fl _ hxm rfl
      rw[hlk];simp only[oe];split
      ·exact .inl rfl
      ·exact .inr rfl
     ·obtain⟨o,h5,h6⟩:=e2;exact⟨o,hk _ _ h5,h6⟩⟩
 cell:=fun x a e=>by
  obtain⟨v,o,h5,h6⟩:=I.cell x a (ao x a e);exact⟨v,o,hk _ _ h5,h6⟩
 free:=I.hok.fresh hC
 freeC:=fun x a e=>I.freeC x a (ao x a e)
 pin:=fun p hp=>absurd (show p∈([]:ph) from hp) (by simp)
 hok:=I.hok.kept hk
 len:=by simp[dS,tN]
end
section
variable {CX:ak}{X:Cx}{c:CC}{G:GS}{T:Tx}{lv:Nat}{pins:ph}{σ:L2.St}{H:Hp}{s:Shared}
theorem tO{f:D→Option (Option D)}{d:D}{r out:List D}(h:bR f (d::r)=some out):∃o t,f d=some o∧bR f r=some t∧out=(match o with|some y=>y::t|none=>t):=by
 simp only[bR,ll,l7]at h;obtain⟨o,h1,t,h2,h3⟩:=h;refine⟨o,t,h1,h2,?_⟩;cases o<;>simp at h3<;>exact h3.symm
def TurnOk(CX:ak)(G:GS)(T:Tx)(lv:Nat)(c':CC)(K:p6)(ifs:List Expr)(elt:Expr)(ρ1:List Sl)(o:Option D):Prop:=
 ∀(X':Cx) (S:Addr→Prop),XC CX X' c' G T lv→X'.K=K →
  ((ifs=[]∧o.isSome=true)∨∃e,ifs=[e]∧PT X' e (dj X'.K T S ρ1 o.isSome))∧∀y,o=some y→PE X' elt (tD X'.K T S ρ1 y)
theorem mL(h:XC CX X c G T lv){sc:Scope}(cs:aw c sc){tg iter elt:Expr}{ifs:List Expr}{pos:Pos}{cl:List (Str×Addr)}{fr:List (Nat×Nat)}{au:List Nat}{tp:Bool}{ρ:List Sl}{S:Addr→Prop}
  {J:It} {fp:List Addr} {it:Addr} {tn:Nat→Heap→Prop} {ds outs:List D} {f:D→Option (Option D)} {RR:Value→Addr→Result→Shared→Prop} {E:p9}
  (ar:freeOf c sc (sc.names.filter fun x=>x.2 == .free)=some fr) (j8:au.all (fun i=>(fr.lookup i).isNone)=true) (cf:bN { c with N:=ownNames sc,sc:=sc } tg=some (au,tp))
  (ao:∀x a,cl.lookup x=some a→X.env.cells.lookup x=some a) (bb:∀x,(x,NameKind.free)∈sc.names→∃a,cl.lookup x=some a)
  (I:Inv X pins σ H s) (re:RE X.K T H S ρ σ) (TU:Turn X.prog X.w X.K tg J fp it tn) (st:tn 0 s.heap) (hf:∀b∈fp,mX X pins H b) (hX:gq X.K T S H J ds) (hlen:ds.length≤sizeLine)
  (d3:bR f ds=some outs) (cg:∀d o,f d=some o→∃ρ1,bB au tp d (frame (ownNames sc).length fr ρ)=some ρ1∧TurnOk CX G T lv { c with N:=ownNames sc,sc:=sc } X.K ifs elt ρ1 o)
  (hRR:∀(D C:Addr) (s':Shared) (H':Hp) (ys:List V) (m:pj),Inv X pins σ H' s'→aF H H'→H D=none→H' D=some (.lst ys)→aD X.K T (er H' D) S outs ys→s'.heap.Ns C m →
   (H' C=none∧C≠X.env.locals∧X.s₀.heap.objs.size≤C∧(∀x a,X.env.cells.lookup x=some a→a≠C)∧∀p∈X.pn++pins,p.1≠C)→RR (.ref D) C (.ok .next) s') :
  wpAny (model X.prog X.w) X.A (newList []) (fun acc s₃=>wpAny (model X.prog X.w) X.A (newFunctionEnv sc X.env.globals cl [] X.env.qual none .none (some X.env)) (fun cenv s₄ =>
   codeAny (model X.prog X.w) X.A (.compStart (.ListComp elt [⟨tg,iter,ifs,0⟩] sc pos) 0 (.ref it) acc { cenv with scope:=relabel sc X.env }) (RR acc cenv.locals) s₄) E s₃) E s:=by
 refine wpAny_newObj_type (wpAny_newFunctionEnv cs.nocell (by intro y hy;simp at hy) (fun h₁ hns₁ hsb₁=>?_) cs.kind)
 dsimp only at hns₁ hsb₁ ⊢;have I3:=I.lnew (t':=s.toks) (its:=[]) (ys:=[]) .nil (oz _)
 have dv:∀b∈fp,b<s.heap.objs.size:=fun b hb=>by
  obtain⟨o,e,_⟩:=TU.obj _ _ st b hb;exact mr e
 generalize hD:s.heap.objs.size=D at *;generalize hs3:s.heap.push { cls:=.type "list",dict:=none,data:=.seq ([]:List Value).toArray }=h3 at *;have hC:h3.objs.size=D+1:=by rw[←hs3,size_push,hD]
 generalize jj:h3.objs.size=C at *;have gj:H D=none:=by rw[←hD];exact I.hok.fresh (lj _)
 have hKD:X.K.lookup D=none:=by
  cases q:X.K.lookup D with
  |none=>rfl
  |some o =>
   have e:=I.kIn D o q
   exact absurd (mr e) (by rw[hD];exact o6 _)
 have k3:∀b o,s.heap.get? b=some o→h3.get? b=some o:=fun b o e=>by rw[←hs3];exact lq _ e
 have k4:∀b o,h3.get? b=some o→h₁.get? b=some o:=fun b o e=>hsb₁.extBut b o (by rw[←jj];exact o3 (mr e)) (lq _ e)
 have ja:RE X.K T (upd H D (.lst [])) (fun a=>S a∨a=D) ρ σ:=re.gen (aG.add gj hKD) (fun a xs hs e _=>⟨.inl hs,by rw[aK (aV e gj)];exact e⟩) fun a hs=>by
  rcases hs with z|z
  ·obtain⟨o,e⟩:=re.dom a z;exact⟨o,by rw[aK (aV e gj)];exact e⟩
  ·subst z;exact⟨_,aN⟩
 have kf:∀b∈fp,mX X pins (upd H D (.lst [])) b:=fun b hb=>⟨by rw[aK (o3 (dv b hb))];exact(hf b hb).1,(hf b hb).2⟩
 have hfl3:∀b∈fp,b<h3.objs.size:=fun b hb=>by rw[jj,hC];exact Nat.lt_succ_of_lt (dv b hb)
 have loop:∀(E':p9) (s4:Shared),s4={ s with heap:=h₁,toks:=s.toks+([]:List (Str×Value)).length } →
   codeAny (model X.prog X.w) X.A (.compLoop (.ListComp elt [⟨tg,iter,ifs,0⟩] sc pos) 0 (.ref it) (.ref D) (compEnvC sc cl C X.env)) (RR (.ref D) C) s4:=by
  rintro E' s4 rfl
  let EN:=notedBy (model X.prog X.w) X.A (compEnvC sc cl C X.env) fun e s'=>RR (.ref D) C (.error e) s'
  let Y:=tN X (ownNames sc) sc cl C { s with heap:=h3,toks:=s.toks } (upd H D (.lst [])) fp EN
  have xY:XC CX Y { c with N:=ownNames sc,sc:=sc } G T lv:=FE h cs
  have J0:Inv Y [] (dS (ownNames sc).length fr σ) (upd H D (.lst [])) { s with heap:=h₁,toks:=s.toks+([]:List (Str×Value)).length }:=
   EB h I3 cs ar ao bb kf hfl3 (by show h3.objs.size≤C;rw[jj];exact lj _) hns₁ k4 rfl I3.bare
  have cz:∀{H':Hp},(∀b∈fp,H' b=none)→∀b∈fp,mX Y [] H' b:=fun hn b hb =>
   ⟨hn b hb,((jC (E:=EN) (N':=ownNames sc) I3 cs.kind (show h3.objs.size≤C by rw[jj];exact lj _) ao bb cs.nocell kf hfl3).exf b hb).1,
    (jC (E:=EN) (N':=ownNames sc) I3 cs.kind (show h3.objs.size≤C by rw[jj];exact lj _) ao bb cs.nocell kf hfl3).exfs b hb,.inl hb,
    ((jC (E:=EN) (N':=ownNames sc) I3 cs.kind (show h3.objs.size≤C by rw[jj];exact lj _) ao bb cs.nocell kf hfl3).exf b hb).2,fun p hp=>absurd (show p∈([]:ph) from hp) (by simp)⟩
  have hn':∀(σ':L2.St) (H':Hp),aF H H'→(∃ys,H' D=some (.lst ys))→σ'.length=(ownNames sc).length→(∀j,j∉au→σ'[j]?=(dS (ownNames sc).length fr σ)[j]?) →
    RE X.K T H' (fun a=>S a∨a=D) (frame (ownNames sc).length fr ρ) σ':=fun σ' H' sm hys hl ag=>by
   have r0:=EI (n:=(ownNames sc).length) (fr:=fr) re
   have mv:aG X.K H H' S (fun a=>S a∨a=D):=fun a n hh=>by
    have ne:a≠D:=by
     rintro rfl
     rcases hh with ⟨u,e⟩|⟨u,e⟩
     ·rw[gj]at e;cases e
     ·rw[hKD]at e;cases e
    exact⟨fun z=>z.elim n ne,fun o e=>sm a o e⟩
   refine⟨fun a hs=>?_,by simp[frame,hl],fun j sl e=>?_⟩
   ·rcases hs with z|z
    ·obtain⟨o,e⟩:=re.dom a z;exact⟨o,sm a o e⟩
    ·subst z;obtain⟨ys,e⟩:=hys;exact⟨_,e⟩
   ·have h0:=r0.at_ j sl e
    by_cases hj:j∈au
    ·have hu:sl=.un:=by
      unfold frame at e;rw[l9]at e;cases hr:(List.range (ownNames sc).length)[j]? with
      |none=>rw[hr]at e;cases e
      |some k =>
       have ek:k=j:=by
        obtain⟨_,e'⟩:=l0.mp hr;simpa using e'.symm
       subst ek;rw[hr]at e;simp only[oe,l5]at e;have:=all_eq_true.mp j8 k hj
       cases q:fr.lookup k with
       |none =>
        rw[q]at e;simpa using e.symm
       |some z=>rw[q]at this;simp at this
     subst hu;trivial
    ·rw[ag j hj];cases sl with
     |un=>trivial
     |im d=>obtain⟨v,e1,r⟩:=h0;exact⟨v,e1,Rep.gen mv d v r⟩
     |mu ds'=>obtain⟨p,xs,e1,sp,hp,r⟩:=h0;exact⟨p,xs,e1,.inl sp,sm _ _ hp,r.gen mv⟩
  refine rB (fun k s'=>∃(i:Nat) (σ':L2.St) (H':Hp) (ys:List V) (pre post:List Z.D),k=ds.length+1-i∧i≤ds.length∧Inv Y [] σ' H' s'∧tn i s'.heap∧(∀b∈fp,H' b=none) ∧
   aF H H'∧H' D=some (.lst ys)∧aD X.K T H' (fun a=>S a∨a=D) pre ys∧ys.length≤i∧outs=pre++post∧bR f (ds.drop i)=some post ∧
   σ'.length=(ownNames sc).length∧(∀j,j∉au→σ'[j]?=(dS (ownNames sc).length fr σ)[j]?)) ?_ (ds.length+1)
   ⟨0,_,_,[],[],outs,rfl,oz _,J0,TU.keep _ _ _ st fun b _ o e=>k4 b o (k3 b o e),fun b hb=>(kf b hb).1,aF.upd gj,aN,aD.nil,lj _,rfl,by simpa using d3,by simp[dS],fun _ _=>rfl⟩
  rintro k s' ⟨i,σ',H',ys,pre,post,rfl,hi,IY,sti,fri,same,hHD,rp,j6,ho,du,hlσ,hag⟩;have rei:=hn' σ' H' same ⟨ys,hHD⟩ hlσ hag
  have mv:aG X.K H H' S (fun a=>S a∨a=D):=fun a n hh=>by
   have ne:a≠D:=by
    rintro rfl
    rcases hh with ⟨u,e⟩|⟨u,e⟩
    ·rw[gj]at e;cases e
    ·rw[hKD]at e;cases e
   exact⟨fun z=>z.elim n ne,fun o e=>same a o e⟩
  obtain⟨it1,it2⟩:=hX H' _ mv rei.dom
  by_cases fc:i<ds.length
  ·obtain⟨d,hd⟩:∃d,ds[i]?=some d:=⟨ds[i],by simp[fc]⟩
   have hdr:ds.drop i=d::ds.drop (i+1):=by
    obtain⟨h1,h2⟩:=l0.mp hd;rw[←h2];exact List.drop_eq_getElem_cons h1
   rw[hdr]at du;obtain⟨o,t,hfd,ht,hpost⟩:=tO du;obtain⟨ρ1,hb,hok⟩:=cg d o hfd;obtain⟨go,yl⟩:=it1 i d hd;refine af (TU.item Y rfl rfl rfl h.calm i [] s' σ' H' EN IY (cz fri) sti go) fun r s5 ⟨u,hr,h5⟩=>?_
   subst hr;refine af h5 fun _ s6 ⟨x,H6,I6,r6,y6,st6,cw⟩=>?_
   obtain⟨ju,rd6⟩:=yl x H6 y6;have I6':=I6.pinned (cz cw) (TU.obj _ _ st6)
   have hD6:H6 D=some (.lst ys):=ju _ _ hHD
   refine af (JC xY (S:=fun a=>S a∨a=D) cf hb _ s6 σ' H6 x u (fun σ2 H2=>H2=H6∧RE X.K T H6 (fun a=>S a∨a=D) ρ1 σ2∧∀j,j∉au→σ2[j]?=σ'[j]?) I6' r6
    ⟨rei.same ju,rd6,fun σ7 jx ag7=>⟨rfl,jx,ag7⟩⟩) fun _ s7 ⟨σ7,H7,I7,e7,jx,ag7⟩=>?_
   subst e7;have next:∀(s9:Shared) (H9:Hp) (dc:List V) (pre':List Z.D),Inv Y ([]++jO fp s6.heap) σ7 H9 s9→aF H H9→H9 D=some (.lst dc)→aD X.K T H9 (fun a=>S a∨a=D) pre' dc→dc.length≤i+1→outs=pre'++t →
     ∃m,m<ds.length+1-i∧∃(i:Nat) (σ':L2.St) (H':Hp) (ys:List V) (pre post:List Z.D),m=ds.length+1-i∧i≤ds.length∧Inv Y [] σ' H' s9∧tn i s9.heap∧(∀b∈fp,H' b=none) ∧
      aF H H'∧H' D=some (.lst ys)∧aD X.K T H' (fun a=>S a∨a=D) pre ys∧ys.length≤i∧outs=pre++post∧bR f (ds.drop i)=some post ∧
      σ'.length=(ownNames sc).length∧(∀j,j∉au→σ'[j]?=(dS (ownNames sc).length fr σ)[j]?):=fun s9 H9 dc pre' I9 gw hD9 rp9 hl9 ho9=>by
    refine⟨ds.length+1-(i+1),by omega,i+1,σ7,H9,dc,pre',t,rfl,fc,I9.unpinned,?_,fun b hb=>?_,gw,hD9,rp9,hl9,ho9,ht,?_,fun j hj=>(ag7 j hj).trans (hag j hj)⟩
    ·exact TU.keep _ _ _ st6 fun b hb o e=>(I9.pin (b,o) (o5 _ (o5 _ (fU hb e)))).1
    ·obtain⟨o,e,_⟩:=TU.obj _ _ st6 b hb;exact(I9.pin (b,o) (o5 _ (o5 _ (fU hb e)))).2.1
    ·have l1:=jx.len
     have l2:=I9.len
     exact l2
   obtain⟨bt,helt⟩:=hok Y (fun a=>S a∨a=D) xY rfl
   have fin:∀(s8:Shared) (H8:Hp),Inv Y ([]++jO fp s6.heap) σ7 H8 s8→aF H7 H8 →
     (if o.isSome=true then wpAny (model X.prog X.w) X.A (eval elt (compEnvC sc cl C X.env)) (fun x s₄=>wpAny (model X.prog X.w) X.A (call (.builtin "list.append") [.ref D,x]) (fun _ s₅=>∃m,m<ds.length+1-i∧∃(i:Nat) (σ':L2.St) (H':Hp) (ys:List V) (pre post:List Z.D),m=ds.length+1-i∧i≤ds.length∧Inv Y [] σ' H' s₅∧tn i s₅.heap∧(∀b∈fp,H' b=none) ∧
      aF H H'∧H' D=some (.lst ys)∧aD X.K T H' (fun a=>S a∨a=D) pre ys∧ys.length≤i∧outs=pre++post∧bR f (ds.drop i)=some post ∧
      σ'.length=(ownNames sc).length∧(∀j,j∉au→σ'[j]?=(dS (ownNames sc).length fr σ)[j]?)) EN s₄) EN s8
     else ∃m,m<ds.length+1-i∧∃(i:Nat) (σ':L2.St) (H':Hp) (ys:List V) (pre post:List Z.D),m=ds.length+1-i∧i≤ds.length∧Inv Y [] σ' H' s8∧tn i s8.heap∧(∀b∈fp,H' b=none) ∧
      aF H H'∧H' D=some (.lst ys)∧aD X.K T H' (fun a=>S a∨a=D) pre ys∧ys.length≤i∧outs=pre++post∧bR f (ds.drop i)=some post ∧
      σ'.length=(ownNames sc).length∧(∀j,j∉au→σ'[j]?=(dS (ownNames sc).length fr σ)[j]?)):=fun s8 H8 I8 ej=>by
    have smH8:aF H H8:=same.trans (ju.trans ej)
    cases o with
    |none =>
     rw[if_neg (by simp)]
     refine next s8 H8 ys pre I8 smH8 (ej _ _ hD6) ((rp.same ju).same ej) (le_succ_of_le j6) ?_
     rw[ho,hpost]
    |some y =>
     rw[if_pos (show (some y).isSome=true from rfl)]
     refine af (helt y rfl _ s8 σ7 H8 (fun v H9=>aF H8 H9∧Rep X.K T H9 (fun a=>S a∨a=D) y v) I8 ⟨jx.same ej,fun v H9 gw rv=>⟨gw,rv⟩⟩) fun u9 s9 ⟨v,H9,I9,r9,gw,rv⟩=>?_
     have hD9:H9 D=some (.lst ys):=gw _ _ (ej _ _ hD6)
     refine af (nT (X:=Y) _ s9 σ7 H9 (.ref D) [v] (.ref D) [u9] (fun _ H10=>H10=upd H9 D (.lst (ys++[v]))) I9 rfl (.cons r9 .nil) ⟨D,ys,v,rfl,rfl,hD9,by omega,rfl⟩) fun _ f9 ⟨_,H10,I10,_,e10⟩=>?_
     subst e10;have smD:aF H (upd H9 D (.lst (ys++[v]))):=fun b ob e=>by
      rw[aK (aV e gj)];exact gw _ _ (smH8 _ _ e)
     have mvD:aG X.K H9 (upd H9 D (.lst (ys++[v]))) (fun a=>S a∨a=D) (fun a=>S a∨a=D):=fun a n _=>⟨n,fun ob e=>by rw[aK (fun z=>n (.inr z))];exact e⟩
     refine next f9 _ (ys++[v]) (pre++[y]) I10 smD aN ?_ (by rw[nc];simp;omega) ?_
     ·exact aD.gen mvD _ _ (aD.app (((rp.same ju).same ej).same gw) (aD.cons rv aD.nil))
     ·rw[ho,hpost,List.append_assoc];rfl
   rcases bt with ⟨hifs,hsome⟩|⟨e,hifs,hpt⟩
   ·subst hifs;refine wpAny_tests_nil ?_;have z:=fin s7 H7 I7 (aF.refl _)
    rw[hsome]at z;exact z
   ·subst hifs;refine wpAny_tests_one (af (hpt _ s7 σ7 H7 (fun b H8=>b=o.isSome∧aF H7 H8) I7 ⟨jx,fun H8 ej=>⟨rfl,ej⟩⟩) fun b s8 ⟨H8,I8,eb,ej⟩=>?_)
    subst eb;exact fin s8 H8 I8 ej
  ·have ei:i=ds.length:=by omega
   subst ei;refine af (TU.done Y rfl rfl rfl h.calm ds.length [] s' σ' H' EN IY (cz fri) sti (it2 _ (lj _))) fun r s5 ⟨hr,I5⟩=>?_
   subst hr;have hp0:post=[]:=by
    rw[List.drop_length]at du;simp only[bR,l5]at du;exact du.symm
   subst hp0;rw[nh]at ho;subst ho;obtain⟨m,hnC,_⟩:=I5.loc;have I9:Inv X pins σ H' s5:=I3.call' I5.os I5.base I5.hok I5.bare fun b hb=>⟨(hf b hb).2.2.2.1,(hf b hb).2.1,(hf b hb).2.2.2.2.1,(hf b hb).2.2.2.2.2⟩
   have hCs:s.heap.objs.size≤C:=by rw[hD,hC];exact oh _
   refine hRR D C s5 H' ys m I9 same gj hHD (aD.disown (p:=D) (.inr rfl) (fun a z=>.inl z) rp) hnC ⟨I5.free,?_,mw I.sz hCs,fun x a e=>?_,fun p hp=>?_⟩
   ·intro z;have:=I.lt
    rw[←z]at this;exact absurd this (not_lt.mpr hCs)
   ·intro z;obtain⟨v,ob,h5,_⟩:=I.cell x a e;rw[z]at h5;exact absurd (mr h5) (not_lt.mpr hCs)
   ·intro z;have:=(I.pin p hp).1
    rw[z]at this;exact absurd (mr this) (not_lt.mpr hCs)
 exact codeAny_compStart_list (loop E _ rfl) (TU.self X.A 0 _ _ _ (TU.keep _ _ _ st fun b _ o e=>k4 b o (k3 b o e)) (loop E _ rfl))
end
section
variable {CX:ak}{X:Cx}{c:CC}{G:GS}{T:Tx}{lv:Nat}{ρ:List Sl}{S:Addr→Prop}{tg:Expr}
theorem DX{H1:Hp}{a:Addr}{xs:List V}{ds:List D}(n:¬S a)(hq:SqL X.K H1 a xs)(r:aD X.K T H1 S ds xs):gq X.K T S H1 (Itl X.K a) ds:=fun H S' mv dom=>by
 obtain⟨n',k⟩:=mv a n (SqL.has hq);have cq:=SqL.keeps hq k
 refine⟨fun i d e=>?_,fun i hi=>⟨xs,cq,by rw[←r.len];exact hi⟩⟩
 obtain⟨x,e1,rx⟩:=r.get e;refine⟨⟨xs,x,cq,e1⟩,fun y H' ⟨eH,ey⟩=>?_⟩
 subst eH;have:=ey xs cq
 rw[e1]at this;cases this;exact⟨aF.refl _,Rep.gen mv d x rx⟩
theorem KS{H1:Hp}{a:Addr}{xs:List V}{ds:List D}(n:¬S a)(hq:SqT X.K H1 a xs)(r:aD X.K T H1 S ds xs):gq X.K T S H1 (Itt X.K a) ds:=fun H S' mv dom=>by
 obtain⟨n',k⟩:=mv a n (SqT.has hq);have cq:=SqT.keeps hq k
 refine⟨fun i d e=>?_,fun i hi=>⟨xs,cq,by rw[←r.len];exact hi⟩⟩
 obtain⟨x,e1,rx⟩:=r.get e;refine⟨⟨xs,x,cq,e1⟩,fun y H' ⟨eH,ey⟩=>?_⟩
 subst eH;have:=ey xs cq
 rw[e1]at this;cases this;exact⟨aF.refl _,Rep.gen mv d x rx⟩
theorem wK{H1:Hp}{lo hi:Int}:gq X.K T S H1 (jr lo (hi-lo).toNat) (dA lo hi):=fun H S' mv dom=>by
 refine⟨fun i d e=>?_,fun i h=>by
  show (hi-lo).toNat≤i
  unfold dA at h;rw[la,ml]at h;exact h⟩
 unfold dA at e;rw[l9]at e;cases hr:(List.range (hi-lo).toNat)[i]? with
 |none=>rw[hr]at e;cases e
 |some k =>
  obtain⟨h1,e'⟩:=l0.mp hr;have ek:k=i:=by simpa using e'.symm
  subst ek;rw[hr]at e;simp only[oe,l5]at e;subst e;refine⟨by show k<(hi-lo).toNat;simpa using h1,fun y H' ⟨eH,ey⟩=>?_⟩
  subst eH ey;exact⟨aF.refl _,by unfold Rep;rfl⟩
theorem IW{l:Expr}{d:D}{ds:List D}(hl:PE X l (tD X.K T S ρ d))(hi:items .seq d=some ds):PI X tg l (tI X.K T S ρ ds):=by
 intro pins s σ H R I ⟨re,q⟩;refine af (hl pins s σ H (fun v H'=>aF H H'∧Rep X.K T H' S d v) I ⟨re,fun v H' a b=>⟨a,b⟩⟩) fun v s1 ⟨x,H1,I1,r1,sm,rep⟩=>?_
 have golist:∀(a:Addr) (xs:List V),x=.ref a→¬S a→SqL X.K H1 a xs→aD X.K T H1 S ds xs→wpAny (model X.prog X.w) X.A (pyIter v) (PIE X pins σ tg R) X.xe s1:=fun a xs e n hq r=>by
  subst e;cases r1;obtain⟨its,rv,p,hz⟩:=I1.list hq;refine wpAny_pyIter_list p.isList ?_;refine⟨s1.heap.objs.size,[s1.heap.objs.size],_,_,H1,rfl,I1.kept (t':=s1.toks) fun b o e=>lq _ e,nL a _,⟨_,oa _ rfl,rfl,rfl⟩,fun b hb=>?_,q _ _ sm (DX n hq r) (by rw[r.len];exact hz)⟩
  have e:b=s1.heap.objs.size:=by simpa using hb
  subst e;exact I1.fpOk (lj _) (I1.hok.fresh (lj _))
 cases d<;>simp only[items,NS,reduceCtorEq,l5]at hi
 ·subst hi;unfold Rep at rep;obtain⟨a,xs,e,n,hq,r⟩:=rep;exact golist a xs e n (SqL.of hq) r
 ·subst hi;unfold Rep at rep;obtain⟨a,xs,e,n,hq,r⟩:=rep;subst e;cases r1;obtain⟨its,rv,p,hz⟩:=I1.tuple hq;refine wpAny_pyIter_tuple (show s1.heap.IsTuple a its.toArray from p) ?_
  refine⟨s1.heap.objs.size,[s1.heap.objs.size],_,_,H1,rfl,I1.kept (t':=s1.toks) fun b o e=>lq _ e,tX a _,⟨_,oa _ rfl,rfl,rfl⟩,fun b hb=>?_,q _ _ sm (KS n hq r) (by rw[r.len];exact hz)⟩
  have e:b=s1.heap.objs.size:=by simpa using hb
  subst e;exact I1.fpOk (lj _) (I1.hok.fresh (lj _))
 ·subst hi;unfold Rep at rep;obtain⟨a,xs,e,n,hq,r⟩:=rep;exact golist a xs e n hq r
theorem nR{lo hi:Int}(h:(hi-lo).toNat≤big):(dA lo hi).length≤sizeLine:=by
 unfold dA;rw[la,ml];exact mw h gR
theorem gC{i:Int}(h:eZ i=true):-(2 ^ 62)≤i∧i<2 ^ 62:=by
 unfold eZ at h;rw[ly]at h;exact⟨of_decide_eq_true h.1,of_decide_eq_true h.2⟩
theorem IX{args:List Expr}{p pos:Pos}{as ds:List D}(hg:Gl X "range")(hm:X.mg "range" = none)(ha:PA X args (b0 X.K T S ρ as))(hs:starEach args X.env=args.map fun e=>(false,eval e X.env))(hi:items .rng (.tup as)=some ds)(hlen:as.length=args.length) :
  PI X tg (.Call (.Name "range" p) args [] pos) (tI X.K T S ρ ds):=by
 simp only[items]at hi;unfold DY at hi;split at hi
 ·rename_i j;split at hi
  ·rename_i hc;rw[ly]at hc;cases hi;obtain⟨b1,b2⟩:=gC hc.1
   match args,hlen with
   |[a],_ =>
    intro pins s σ H R I ⟨re,q⟩;refine zL hg hm ha hs pins s σ H R I ⟨re,fun vs H' sm r=>?_⟩
    unfold aD at r;obtain⟨x,r',rfl,rx,rr⟩:=r;unfold aD at rr;subst rr;unfold Rep at rx;subst rx;refine⟨j,rfl,b1,b2,?_⟩;have hz:=nR (lo:=0) (hi:=j) (by simpa using of_decide_eq_true hc.2)
    have:=q (jr 0 (j-0).toNat) H' sm wK hz
    simpa using this
  ·cases hi
 ·rename_i i j;split at hi
  ·rename_i hc;rw[ly,ly]at hc;cases hi;obtain⟨b1,b2⟩:=gC hc.1.1;obtain⟨b3,b4⟩:=gC hc.1.2
   match args,hlen with
   |[a,b],_ =>
    intro pins s σ H R I ⟨re,q⟩;refine zK hg hm ha hs (by
     have h2:=congrArg List.tail hs
     have e:starEach [a,b] X.env=(false,eval a X.env)::starEach [b] X.env:=by
      cases a<;>first|rfl|(simp[starEach]at hs)
     rw[e]at h2;exact h2) pins s σ H R I ⟨re,fun vs H' sm r=>?_⟩
    unfold aD at r;obtain⟨x,r',rfl,rx,rr⟩:=r;unfold aD at rr;obtain⟨y,r'',rfl,ry,rr⟩:=rr;unfold aD at rr;subst rr;unfold Rep at rx ry;subst rx ry;exact⟨i,j,rfl,⟨b1,b2,b3,b4⟩,q _ H' sm wK (nR (of_decide_eq_true hc.2))⟩
  ·cases hi
 ·cases hi
theorem mD(h:XC CX X c G T lv){pins:ph}{σ:L2.St}{H:Hp}{s:Shared}(I:Inv X pins σ H s){sc:Scope}(cs:aw c sc):∀x∈sc.names,x.2=.free→∃a,X.env.cells.lookup x.1=some a:=fun x hx hf=>by
 refine I.ok.has x.1 ?_;have k:=h.kd x.1
 rcases cs.fre x hx hf with e|e
 ·rw[e]at k;exact .inl k
 ·rw[e]at k
  rcases k with k|k
  ·exact .inr k
  ·exact .inl k
theorem JF(h:XC CX X c G T lv){sc:Scope}(chk:iL c sc=true){iter elt:Expr}{ifs:List Expr}{pos:Pos}{fr:List (Nat×Nat)}{au:List Nat}{tp:Bool}{ds outs:List D}{f:D→Option (Option D)}
  (ar:freeOf c sc (sc.names.filter fun x=>x.2 == .free)=some fr) (j8:au.all (fun i=>(fr.lookup i).isNone)=true) (cf:bN { c with N:=ownNames sc,sc:=sc } tg=some (au,tp))
  (hi:PI X tg iter (tI X.K T S ρ ds)) (hs:∀x,foldedSetIterable iter X.env x=pure x)
  (d3:bR f ds=some outs) (cg:∀d o,f d=some o→∃ρ1,bB au tp d (frame (ownNames sc).length fr ρ)=some ρ1∧TurnOk CX G T lv { c with N:=ownNames sc,sc:=sc } X.K ifs elt ρ1 o) :
  PE X (.ListComp elt [⟨tg,iter,ifs,0⟩] sc pos) (c8 X.K T S ρ outs):=by
 intro pins s σ H Q I ⟨re,q⟩;have cs:=oK chk
 obtain⟨cl,hclos,ao,bb⟩:=mO (mD h I cs);rw[eval_ListComp];refine wpAny_comprehension_free (use:=none) rfl hs hclos cs.kind cs.loc (af (hi pins s σ H (fun J H2=>aF H H2∧gq X.K T S H2 J ds∧ds.length≤sizeLine) I ⟨re,fun J H2 a b z=>⟨a,b,z⟩⟩) fun v s1 h1=>af h1 fun itv s2 h2=>?_)
 obtain⟨it,fp,tn,J,H2,e,I2,TU,gu,f2,sm,hX,hlen⟩:=h2;subst e;refine mL (RR:=fun acc C=>compPost (model X.prog X.w) X.A X.xe none (EP X pins σ Q) acc C) h cs ar j8 cf ao bb I2 (re.same sm) TU gu f2 hX hlen d3 cg ?_
 intro D C s' H' ys m I' sm' hD hD' rp hn ⟨c1,c2,c3,c4,c5⟩;refine⟨m,hn,fun h' bz=>⟨.ref D,H',I'.turned (t':=s'.toks) (fun b o hb e=>bz.extBut b o hb e) c1 c2.symm.symm (.inr c3) c4 c5,rfl,?_⟩⟩
 exact q D ys H' (sm.trans sm') (sm.free hD) hD' rp
theorem vX(h:XC CX X c G T lv){sc:Scope}(chk:iL c sc=true){iter elt:Expr}{ifs:List Expr}{pos spos px:Pos}{fr:List (Nat×Nat)}{au:List Nat}{tp:Bool}{ds outs:List D}{f:D→Option (Option D)}{x:Str}{i:Nat}
  (ar:freeOf c sc (sc.names.filter fun x=>x.2 == .free)=some fr) (j8:au.all (fun i=>(fr.lookup i).isNone)=true) (cf:bN { c with N:=ownNames sc,sc:=sc } tg=some (au,tp))
  (hi:PI X tg iter (tI X.K T S ρ ds)) (hs:∀x,foldedSetIterable iter X.env x=pure x) (hx:eC c (.Name x px)=some i)
  (hsw:swapsWith (.ListComp elt [⟨tg,iter,ifs,0⟩] sc pos) (some (.Name x px)) spos.line X.env=pure true)
  (d3:bR f ds=some outs) (cg:∀d o,f d=some o→∃ρ1,bB au tp d (frame (ownNames sc).length fr ρ)=some ρ1∧TurnOk CX G T lv { c with N:=ownNames sc,sc:=sc } X.K ifs elt ρ1 o) :
  PS X (.Assign [.Name x px] (.ListComp elt [⟨tg,iter,ifs,0⟩] sc pos) spos) (fun D σ H=>RE X.K T H S ρ σ∧∀p xs H',aF H H'→H p=none→H' p=some (.lst xs)→aD X.K T (er H' p) S outs xs→D.nx (σ.set i (some (.ref p))) H'):=by
 intro pins s σ H DD I ⟨re,q⟩;have cs:=oK chk
 obtain⟨cl,hclos,ao,bb⟩:=mO (mD h I cs);rw[exec_Assign_Name_used _ _ _ _ hsw];refine o7 (wpAny_standAt (o7 ?_));show wpAny _ X.A (do let _ ←comprehension (.ListComp elt [⟨tg,iter,ifs,0⟩] sc pos) sc X.env _ (newList []) false (eval iter X.env) (some (assign (.Name x px) X.env))) _ _ s
 refine o7 (o9 (wpAny_comprehension_free (use:=some (assign (.Name x px) X.env)) (Q:=fun _ s'=>SP X pins DD .next s') rfl hs hclos cs.kind cs.loc
  (af (hi pins s σ H (fun J H2=>aF H H2∧gq X.K T S H2 J ds∧ds.length≤sizeLine) I ⟨re,fun J H2 a b z=>⟨a,b,z⟩⟩) fun v s1 h1=>af h1 fun itv s2 h2=>?_)) (fun _ s' hq=>o8 (o8 hq)) fun _ _ e=>e)
 obtain⟨it,fp,tn,J,H2,e,I2,TU,gu,f2,sm,hX,hlen⟩:=h2;subst e;refine mL (RR:=fun acc C=>compPost (model X.prog X.w) X.A X.xe (some (assign (.Name x px) X.env)) (fun _ s'=>SP X pins DD .next s') acc C) h cs ar j8 cf ao bb I2 (re.same sm) TU gu f2 hX hlen d3 cg ?_
 intro D C s' H' ys m I' sm' hD hD' rp hn ⟨c1,c2,c3,c4,c5⟩;obtain⟨hN,hk⟩:=fM hx;obtain⟨hl,hf⟩:=h.loc hk;show wpAny _ X.A (assign (.Name x px) X.env (.ref D)) _ _ _
 refine wpAny_assign_Name (nO I' (by rw[h.N];exact h.nd) (by rw[h.N];exact hN) hl (v:=.ref D) (u:=.ref D) rfl (fun jw I'' ⟨a,sb,ha⟩=>?_) hf)
 have hCa:C≠a:=by
  rcases ha with z|z
  ·rw[z];exact c2
  ·exact fun w=>c4 x a z w.symm
 refine⟨m,hn.sameBut sb hCa,fun h' bz=>⟨_,H',I''.turned (t':=jw.toks) (fun b o hb e=>bz.extBut b o hb e) c1 c2 (.inr c3) c4 c5,q D ys H' (sm.trans sm') (sm.free hD) hD' rp⟩⟩
end
noncomputable def Itv(K:p6)(a:Addr)(n:Nat):It:=
 ⟨fun i H=>∃xs x,SqL K H a xs∧xs.length=n∧xs[n-1-i]?=some x∧i<n,fun i H x H'=>H'=H∧∀xs,SqL K H a xs→xs[n-1-i]?=some x,fun i H=>n≤i⟩
theorem BG{P:p8}{w:World}{K:p6}{tg:Expr}(a it:Addr)(n:Nat):Turn P w K tg (Itv K a n) [it] it (fun i h=>i≤n∧h.IsRevIter it a ((n:Int)-1-(i:Int))) where
 mem:=by simp
 obj:=fun i h st b hb=>by
  have e:b=it:=by simpa using hb
  subst e;obtain⟨_,o,e,c,d⟩:=st;exact⟨o,e,fun v z=>by rw[d]at z;cases z⟩
 keep:=fun i h h' st k=>⟨st.1,st.2.at fun o e=>k it (by simp) o e⟩
 item:=by
  intro X hP hw hK hc i pins s σ H E I hf st hg;subst hP hw hK;obtain⟨xs,x,hq,hn,hx,hi⟩:=hg;obtain⟨its,rv,p,hz⟩:=I.list hq;obtain⟨u,hu,ru⟩:=rv.get hx;obtain⟨f0,f1,f2,f3,f4,f5⟩:=hf it (by simp)
  have e1:(n:Int)-1-(i:Int)=((n-1-i:Nat):Int):=by omega
  have jt:=st.2
  rw[e1]at jt;refine wpAny_pyNext_rev_item jt p.isList (x:=u) (by simpa using hu) fun h' dn sb=>?_
  have I1:Inv X pins σ H { s with heap:=h' }:=I.turned (t':=s.toks) (fun b o hb e=>(sb.2 b hb).trans e) f0 f1 f3 f4 f5
  obtain⟨o,e,c,d⟩:=id dn;have e2:((n-1-i:Nat):Int)-1=(n:Int)-1-((i+1:Nat):Int):=by omega
  rw[e2]at dn;exact⟨u,rfl,wQ (s:={ s with heap:=h' }) e c d (by decide) ⟨x,H,I1,ru,⟨rfl,fun ys hy=>by rw[I.list_inj hy hq];exact hx⟩,⟨hi,dn⟩,fun b hb=>(hf b hb).1⟩⟩
 done:=by
  intro X hP hw hK hc i pins s σ H E I hf st hg;subst hP hw hK;have jg:n≤i:=hg
  have ei:i=n:=Nat.le_antisymm st.1 jg
  subst ei;obtain⟨f0,f1,f2,f3,f4,f5⟩:=hf it (by simp)
  have e1:(i:Int)-1-(i:Int)=-1:=by omega
  have jt:=st.2
  rw[e1]at jt;exact wpAny_pyNext_rev_end (I.ok.hd hc) jt fun h' eb=>⟨rfl,I.turned (t':=s.toks) (fun b o hb e=>eb b o hb e) f0 f1 f3 f4 f5⟩
 self:=fun _ _ _ _ _ st h=>wpAny_pyIter_revIter st.2 h
section
variable {CX:ak}{X:Cx}{c:CC}{G:GS}{T:Tx}{lv:Nat}{ρ:List Sl}{S:Addr→Prop}{tg:Expr}
theorem KU{H1:Hp}{a:Addr}{xs:List V}{ds:List D}(n:¬S a)(hq:SqL X.K H1 a xs)(r:aD X.K T H1 S ds xs):gq X.K T S H1 (Itv X.K a xs.length) ds.reverse:=fun H S' mv dom=>by
 obtain⟨n',k⟩:=mv a n (SqL.has hq);have cq:=SqL.keeps hq k
 have hl:=r.len
 refine⟨fun i d e=>?_,fun i hi=>?_⟩
 ·have hi:i<ds.length:=by
   have:=(l0.mp e).1
   simpa using this
  rw[List.getElem?_reverse hi]at e;obtain⟨x,e1,rx⟩:=r.get e;rw[hl]at e1 hi;refine⟨⟨xs,x,cq,rfl,e1,hi⟩,fun y H' ⟨eH,ey⟩=>?_⟩
  subst eH;have:=ey xs cq
  rw[e1]at this;cases this;exact⟨aF.refl _,Rep.gen mv d x rx⟩
 ·show xs.length≤i
  rw[←hl];simpa using hi
theorem IZ{a:Expr}{p pos:Pos}{d:D}{ds:List D}(hg:Gl X "reversed")(hm:X.mg "reversed" = none)(ha:PA X [a] (b0 X.K T S ρ [d]))(hs:starEach [a] X.env=[(false,eval a X.env)])(hi:sS d=some ds) :
  PI X tg (.Call (.Name "reversed" p) [a] [] pos) (tI X.K T S ρ ds):=by
 intro pins s σ H R I ⟨re,q⟩;refine Call_ (gI I hg hm boot_reversed (mz (af (ha pos pins s σ H (fun vs H'=>aF H H'∧aD X.K T H' S [d] vs) I ⟨re,fun vs H' a b=>⟨a,b⟩⟩) fun us s1 ⟨vs,H1,I1,r1,sm,rl⟩=>?_) hs rfl))
 unfold aD at rl;obtain⟨x,r',rfl,rx,rr⟩:=rl;unfold aD at rr;subst rr;cases r1 with
 |cons r rr =>
  cases rr;cases d<;>simp only[sS,reduceCtorEq,l5]at hi
  rename_i ds';subst hi;unfold Rep at rx;obtain⟨l,xs,e,n,hq,rl⟩:=rx;subst e;cases r;obtain⟨its,rv,pl,hz⟩:=I1.list (SqL.of hq);have hlen:=rv.length
  refine call_reversed_list pl.isList ?_;have I2:Inv X pins σ H1 { s1 with heap:=s1.heap.push (revObj l ((its.toArray.size:Int)-1)) }:=I1.kept (t':=s1.toks) fun b o e=>lq _ e
  have hri:({ s1 with heap:=s1.heap.push (revObj l ((its.toArray.size:Int)-1)) }:Shared).heap.IsRevIter s1.heap.objs.size l ((xs.length:Int)-1):=by
   refine⟨_,oa _ rfl,rfl,?_⟩;have:(its.toArray.size:Int)=(xs.length:Int):=by rw[lx,hlen]
   show Data.fields #[.ref l,rawInt ((its.toArray.size:Int)-1)]=_
   rw[this]
  refine wpAny_pyIter_revIter hri ?_;refine⟨s1.heap.objs.size,[s1.heap.objs.size],_,_,H1,rfl,I2,BG l _ xs.length,⟨oz _,by simpa using hri⟩,fun b hb=>?_,q _ _ sm (KU n (SqL.of hq) rl) ?_⟩
  ·have e:b=s1.heap.objs.size:=by simpa using hb
   subst e;exact I1.fpOk (lj _) (I1.hok.fresh (lj _))
  ·rw[oN,rl.len];exact hz
end
theorem yK:bootBuiltins "list" = some (.type "list"):=by decide +kernel
theorem zS:typeLookup (.type "list_reverseiterator") "__len__" = pure none:=by rw[typeLookup_type,builtinLookup_eq_fast];kernel_rfl
theorem EF:typeLookup (.type "list_reverseiterator") "__length_hint__" = pure (some (.builtin "list_reverseiterator.__length_hint__")):=by rw[typeLookup_type,builtinLookup_eq_fast];kernel_rfl
section
variable {prog:p8}{w:World}{A:Around}{E:p9}{s:Shared}
theorem nE{Q:p9}{I l:Addr}{items:Array Value}(hh:A.handled=none)(cN:l≠I)(hit:s.heap.IsRevIter I l ((items.size:Int)-1))(hl:s.heap.IsList l items)(hz:items.size≤sizeLine)
  (hQ:∀h' tk dh c',(∀b o,b≠I→s.heap.get? b=some o→h'.get? b=some o)→h'.get? s.heap.objs.size=some { cls:=.type "list",dict:=none,data:=.seq dh c',slots:=#[] } →
   dh=items.reverse→Q (.ref s.heap.objs.size) { s with heap:=h',toks:=tk }) :
  wpAny (model prog w) A (call (.type "list") [.ref I]) Q E s:=by
 refine callType_codes (Q₁:=fun obj s₁=>obj=.ref s.heap.objs.size∧s₁={ s with heap:=s.heap.push { cls:=.type "list",data:=.seq #[] } }) F.called_list (F.typeCall_list_1 _) F.entry_list_init
  (code_list_new _ ⟨rfl,rfl⟩) fun obj s₁ h₁=>?_
 obtain⟨rfl,rfl⟩:=h₁;have hIlt:I<s.heap.objs.size:=by obtain⟨o,e,_⟩:=hit;exact mr e
 have hllt:l<s.heap.objs.size:=by obtain⟨o,e,_⟩:=hl;exact mr e
 have hS:(s.heap.push { cls:=.type "list",data:=.seq #[] }).get? s.heap.objs.size=some { cls:=.type "list",data:=.seq #[] }:=oa _ rfl
 have hup:∀b o,s.heap.get? b=some o→(s.heap.push { cls:=.type "list",data:=.seq #[] }).get? b=some o:=fun b o e=>lq _ e
 refine⟨⟨_,hS,rfl⟩,F.args_list_init_2 _ _,?_⟩;generalize hSe:s.heap.objs.size=S at *;generalize ik:s.heap.push { cls:=.type "list",data:=.seq #[] }=h1 at *;have hSI:S≠I:=Nat.ne_of_gt hIlt
 have hSl:S≠l:=Nat.ne_of_gt hllt
 show wpAny _ _ (do let old ←Builtin.List.listItems (.ref S);Builtin.List.listUpdate (.ref S) (fun _=>#[]);letGo old.toList.reverse;Builtin.List.listExtendWith (.ref S) (.ref I) .none) _ _ _
 refine o7 ?_;unfold Builtin.List.listItems;refine o7 (wpAny_seqItems hS rfl (o8 ?_));show wpAny _ _ (updateSeq S (fun _=>#[]) >>= fun _=>letGo (#[]:Array Value).toList.reverse >>= fun _=>Builtin.List.listExtendWith (.ref S) (.ref I) .none) _ _ _
 refine o7 (wpAny_updateSeq hS rfl ?_);have hS₂:=Heap.get?_update_self (Obj.mapSeq (fun _=>(#[]:Array Value))) hS rfl
 have oth:∀b o,b≠S→h1.get? b=some o→(h1.update S (Obj.mapSeq (fun _=>(#[]:Array Value)))).get? b=some o:=
  fun b o hb e=>(Heap.get?_update_other _ _ (Ne.symm hb)).trans e
 refine o7 (wpAny_letGo ?_);generalize h1.update S (Obj.mapSeq (fun _=>(#[]:Array Value)))=h2 at *
 have W:=(Walks.listRev (prog:=prog) (w:=w) (A:=A.in1.in1) hh I l cN items).toS
 have hit2:h2.IsRevIter I l ((items.size:Int)-1-((0:Nat):Int)):=by
  have e0:(items.size:Int)-1-((0:Nat):Int)=(items.size:Int)-1:=by omega
  rw[e0];exact hit.at fun o e=>oth I o (Ne.symm hSI) (hup _ _ e)
 have jf:h2.IsList l items:=hl.at fun o e=>oth l o (Ne.symm hSl) (hup _ _ e)
 have hT:({ s with heap:=h2 }:Shared).TypeIs (.ref I) "list_reverseiterator":=hit2.typeIs (s:={ s with heap:=h2 })
 have hSf:S∉[I,l]:=by simp[hSI,hSl]
 have hs1':Builtin.List.listSameRef (.ref S) (.ref I)=false:=by simp[Builtin.List.listSameRef,hSI]
 show wpAny _ _ (Builtin.List.listExtendWith (.ref S) (.ref I) .none) _ _ { s with heap:=h2 }
 unfold Builtin.List.listExtendWith;refine o7 (wpAny_typeOf hT ?_);rw[if_neg (by rw[hs1'];decide)]
 refine o7 (W.self 0 _ _ _ ⟨oz _,hit2,jf⟩ ?_);refine o7 (wpAny_holding ?_);unfold Builtin.List.listLengthHint;refine o7 (wpAny_specialOf hT zS ?_);show wpAny _ _ (specialOf (Value.ref I) (Str.ofString "__length_hint__") >>= _) _ _ _
 refine o7 (wpAny_specialOf hT EF ?_)
 (generalize hid:("list_reverseiterator.__length_hint__":String)=id0;(fail_if_success (clear hid id0));wp_delta;rw[show splitId id0=some ("list_reverseiterator","__length_hint__") from by subst hid;decide +kernel];subst hid)
 refine o7 (wpAny_isInstance (b:=true) hT (by rw[isSubtype_type];kernel_rfl) ?_)
 refine o8 ?_;rw[if_neg (by decide)]
 refine o8 ⟨plainId_quiet F.plain_extend_loop _,codeAny_extend_loopS W hz S hSf _ items.size 0 _ _ _ rfl (oz _) ⟨oz _,hit2,jf⟩ hS₂ (ItemsOf.nil _) fun s' dh c' hm ji hacc=>?_⟩
 refine⟨rfl,?_⟩;rw[Moved.eq_with hm];refine hQ s'.heap s'.toks dh c' (fun b o hb e=>?_) ji ?_
 ·have hbS:b≠S:=fun z=>by
   subst z;exact absurd (mr e) (by rw[hSe];exact o6 _)
  exact hm.heap b o (by simp[hbS,hb]) (oth b o hbS (hup _ _ e))
 ·obtain⟨hl1,jf⟩:=hacc;apply Array.ext
  ·rw[hl1,Array.size_reverse]
  ·intro i h3 h4;have h5:=jf i dh[i] (Array.getElem?_eq_getElem h3)
   rw[Array.getElem_reverse];obtain⟨_,e⟩:=Array.getElem?_eq_some_iff.mp h5;exact e.symm
end
section
variable {CX:ak}{X:Cx}{c:CC}{G:GS}{T:Tx}{lv:Nat}{ρ:List Sl}{S:Addr→Prop}
theorem uI{a:Expr}{p pos p2 pos2:Pos}{d:D}{ds:List D}(hc:X.calm=true)(hg:Gl X "reversed")(hm:X.mg "reversed" = none)(gh:Gl X "list")(hml:X.mg "list" = none)(ha:PA X [a] (b0 X.K T S ρ [d]))(hs:starEach [a] X.env=[(false,eval a X.env)])(hi:sS d=some ds) :
  PE X (.Call (.Name "list" p2) [.Call (.Name "reversed" p) [a] [] pos] [] pos2) (c8 X.K T S ρ ds):=by
 intro pins s σ H Q I ⟨re,q⟩;refine Call_ (gI I gh hml yK (mz (Calls.spliced_cons (Call_ (gI I hg hm boot_reversed (mz (af (ha pos pins s σ H (fun vs H'=>aF H H'∧aD X.K T H' S [d] vs) I ⟨re,fun vs H' a b=>⟨a,b⟩⟩) fun us s1 ⟨vs,H1,I1,r1,sm,rl⟩=>?_) hs rfl)))) rfl rfl))
 unfold aD at rl;obtain⟨x,r',rfl,rx,rr⟩:=rl;unfold aD at rr;subst rr;cases r1 with
 |cons r rr =>
  cases rr;cases d<;>simp only[sS,reduceCtorEq,l5]at hi
  rename_i ds';subst hi;unfold Rep at rx;obtain⟨l,xs,e,n,hq,rl⟩:=rx;subst e;cases r;obtain⟨its,rv,pl,hz⟩:=I1.list (SqL.of hq);have hlen:=rv.length
  refine call_reversed_list pl.isList ?_;refine Calls.spliced_nil ?_;have hllt:l<s1.heap.objs.size:=by obtain⟨o,e,_⟩:=pl.isList;exact mr e
  refine nE (I:=s1.heap.objs.size) (items:=its.toArray) (I1.ok.hd hc) (o3 hllt) ⟨_,oa _ rfl,rfl,rfl⟩ (pl.isList.at fun o e=>lq _ e) (by rw[lx,←hlen];exact hz) fun h' tk dh c' hk ji hacc=>?_
  have e1:(s1.heap.push (revObj l ((its.toArray.size:Int)-1))).objs.size=s1.heap.objs.size+1:=size_push ..
  have I3:Inv X pins σ (upd H1 (s1.heap.push (revObj l ((its.toArray.size:Int)-1))).objs.size (.lst xs.reverse)) { s1 with heap:=h',toks:=tk }:=by
   refine I1.laid (fun b u e=>hk b u (o3 (mr e)) (lq _ e)) (by rw[e1];exact oh _) ?_
   refine⟨by rw[oN];exact hz,its.reverse,c',aM.reverse rv,?_⟩
   rw[ji,hacc];simp
  have ar:H1 (s1.heap.push (revObj l ((its.toArray.size:Int)-1))).objs.size=none:=I1.hok.fresh (by rw[e1];exact oh _)
  exact⟨.ref _,_,I3,rfl,q _ xs.reverse _ (sm.trans (aF.upd ar)) (sm.free ar) aN (by rw[gO ar];exact rl.rev)⟩
end
section
variable {CX:ak}{X:Cx}{c:CC}{G:GS}{T:Tx}{lv:Nat}{ρ:List Sl}{S:Addr→Prop}{pos:Pos}{ea eb ec:Expr}{a b d:D}
theorem HM{i:Nat}(h:slot ρ i=some d):ρ[i]?=some (.im d):=by
 unfold slot at h;split at h
 ·rename_i e;cases h;exact e
 ·cases h
theorem aAv(h:XC CX X c G T lv){x:Str}{i:Nat}(e:bC c x=some i)(hs:slot ρ i=some d):PE X (.Name x pos) (tD X.K T S ρ d):=by
 obtain⟨hN,hk⟩:=pC e;have hm:x∈c.N:=l6 hN
 refine PE.mono (pK (by rw[h.N];exact hN) (h.vis hk) (h.dbg x hm).1 (h.dbg x hm).2) fun σ H Q ⟨re,q⟩=>?_
 obtain⟨v,e1,r⟩:=re.at_ i _ (HM hs);exact⟨v,e1,q v H (aF.refl H) r⟩
theorem hU(h:XC CX X c G T lv){x:Str}{i:Nat}(e:bC c x=some i):PE X (.Name x pos) (zA i):=by
 obtain⟨hN,hk⟩:=pC e;have hm:x∈c.N:=l6 hN
 exact pK (by rw[h.N];exact hN) (h.vis hk) (h.dbg x hm).1 (h.dbg x hm).2
theorem aAK(h:XC CX X c G T lv){x:Str}(e:aO c x=true)(hc:c.csts.contains x=true)(hd:G.cst x=some d):PE X (.Name x pos) (tD X.K T S ρ d):=by
 obtain⟨u,v,e1,r,hr⟩:=h.go.cst x d hd hc;intro pins s σ H Q I ⟨re,q⟩;exact fE I (h.glob e) e1 ⟨v,H,I,r,q v H (aF.refl H) (hr H S (NQ I) re.dom)⟩ (h.gne e)
theorem aAI{i:Int}{j:Nat}:PE X (.Constant (.int i) j pos) (tD X.K T S ρ (.int i)):=PE.mono CJ fun σ H Q ⟨re,q⟩=>q _ H (aF.refl H) (by unfold Rep;rfl)
theorem aDQ{i:Bool}{j:Nat}:PE X (.Constant (.bool i) j pos) (tD X.K T S ρ (.bl i)):=PE.mono NK fun σ H Q ⟨re,q⟩=>q _ H (aF.refl H) (by unfold Rep;rfl)
theorem aAx{i:Str}{j:Nat}:PE X (.Constant (.str i) j pos) (tD X.K T S ρ (.str i)):=PE.mono QT fun σ H Q ⟨re,q⟩=>q _ H (aF.refl H) (by unfold Rep;rfl)
theorem aAD{j:Nat}:PE X (.Constant .none j pos) (tD X.K T S ρ .non):=PE.mono QV fun σ H Q ⟨re,q⟩=>q _ H (aF.refl H) (by unfold Rep;rfl)
theorem lB{o:O2}(hd:ah o a b=some d):∀σ H Q,tD X.K T S ρ d σ H Q→fz (rD X.K T S o) (tD X.K T S ρ a) (tD X.K T S ρ b) σ H Q:=fun σ H Q ⟨re,q⟩ =>
 ⟨re,fun x H1 s1 r1=>⟨re.same s1,fun y H2 s2 r2=>⟨a,b,d,((re.same s1).same s2).dom,r1.same s2,r2,hd,fun v H' s3 r3=>q v H' (s1.trans (s2.trans s3)) r3⟩⟩⟩
theorem aAP{op:Operator}{o:O2}(ho:JO op=some o)(ha:PE X ea (tD X.K T S ρ a))(hb:PE X eb (tD X.K T S ρ b))(hd:ah o a b=some d):PE X (.BinOp ea op eb pos) (tD X.K T S ρ d):=
 PE.mono (NH (JT ho) ha hb) (lB hd)
theorem zN:aq X (compareOp .IsNot) (rD X.K T S .isnot):=by
 rintro pins s σ H x y v u Q I rx ry ⟨a,b,d,dom,ra,rb,e,q⟩;have go:∀k,b=.non→k=decide (x=V.non)→d=.bl (!k)→wpAny (model X.prog X.w) X.A (compareOp .IsNot v u) (EP X pins σ Q) X.xe s:=fun k hb hk hd=>by
  subst hb hd hk;unfold Rep at rb;exact JL pins s σ H x y v u Q I rx ry ⟨rb,q _ H (aF.refl H) bP⟩
 simp only[ah,DE,isD]at e;split at e<;>simp only[oe,Option.map_none,l5,reduceCtorEq]at e
 all_goals subst e
 all_goals first
  | (unfold Rep at ra;refine go _ rfl ?_ rfl;first|(subst ra;rfl)|(obtain⟨_,_,rfl,_⟩:=ra;rfl)|(obtain⟨_,_,_,_,rfl,_⟩:=ra;rfl))
  | (unfold Rep at ra rb
     subst ra rb;cases rx;cases ry;exact isnot_bool ⟨.bl _,H,I,rfl,q _ H (aF.refl H) bP⟩)
theorem dY(hu:X.A.units+64<cLine)(op:CmpOp):aq X (compareOp op) (rD X.K T S (iA op)):=by
 cases op
 ·exact RN hu
 ·exact RG hu
 ·exact RH
 ·exact RI
 ·exact RL
 ·exact RM
 ·exact RJ
 ·exact zN
 ·exact RK hu
 ·exact zM hu
theorem aAO(hu:X.A.units+64<cLine){op:CmpOp}(ha:PE X ea (tD X.K T S ρ a))(hb:PE X eb (tD X.K T S ρ b))(hm:behindInMarks op eb=false)(hd:ah (iA op) a b=some d):PE X (.Compare ea [op] [eb] pos) (tD X.K T S ρ d):=
 PE.mono (JG (dY hu op) ha hb hm) (lB hd)
theorem SA(hu:X.A.units+64<cLine){op:CmpOp}{k:Bool}(ha:PE X ea (tD X.K T S ρ a))(hb:PE X eb (tD X.K T S ρ b))(hm:behindInMarks op eb=false)(hd:ah (iA op) a b=some (.bl k)):PT X (.Compare ea [op] [eb] pos) (dj X.K T S ρ k):=
 PT.mono (vW (dY hu op) ha hb hm) fun σ H Q ⟨re,q⟩=>lB hd σ H _ ⟨re,fun v H' sm r=>by
  unfold Rep at r;exact⟨k,r,q H' sm⟩⟩
theorem mQ{o o':O2}{c':D}{k:Bool}(h1:ah o a b=some (.bl k))(h2:if k=true then ah o' b c'=some d else d=.bl false):∀σ H Q,tD X.K T S ρ d σ H Q→tZ (rD X.K T S o) (rD X.K T S o') (tD X.K T S ρ a) (tD X.K T S ρ b) (tD X.K T S ρ c') σ H Q:=
 fun σ H Q ⟨re,q⟩=>⟨re,fun x H1 s1 r1=>⟨re.same s1,fun y H2 s2 r2=>⟨a,b,.bl k,((re.same s1).same s2).dom,r1.same s2,r2,h1,fun z H3 s3 r3=>by
  unfold Rep at r3;refine⟨k,r3,?_⟩;cases k with
  |true =>
   rw[if_pos rfl]at h2 ⊢;exact⟨((re.same s1).same s2).same s3,fun w' H4 s4 r4=>⟨b,c',d,(((re.same s1).same s2).same s3).same s4 |>.dom,(r2.same s3).same s4,r4,h2,fun v H' s5 r5=>q v H' (s1.trans (s2.trans (s3.trans (s4.trans s5)))) r5⟩⟩
  |false =>
   rw[if_neg mh]at h2 ⊢;subst h2;exact q _ H3 (s1.trans (s2.trans s3)) bP⟩⟩⟩
theorem KG(hu:X.A.units+64<cLine){op cb:CmpOp}{c':D}{k:Bool}(ha:PE X ea (tD X.K T S ρ a))(hb:PE X eb (tD X.K T S ρ b))(hc:PE X ec (tD X.K T S ρ c'))(hm:lastMarks [op,cb] [eb,ec]=false)
  (h1:ah (iA op) a b=some (.bl k)) (h2:if k=true then ah (iA cb) b c'=some d else d=.bl false):PE X (.Compare ea [op,cb] [eb,ec] pos) (tD X.K T S ρ d):=
 PE.mono (sG (dY hu op) (dY hu cb) ha hb hc hm) (mQ h1 h2)
theorem DJ(hu:X.A.units+64<cLine){op cb:CmpOp}{c':D}{k k':Bool}(ha:PE X ea (tD X.K T S ρ a))(hb:PE X eb (tD X.K T S ρ b))(hc:PE X ec (tD X.K T S ρ c'))(hm:lastMarks [op,cb] [eb,ec]=false)
  (h1:ah (iA op) a b=some (.bl k)) (h2:if k=true then ah (iA cb) b c'=some (.bl k') else D.bl k'=.bl false):PT X (.Compare ea [op,cb] [eb,ec] pos) (dj X.K T S ρ k'):=
 PT.mono (rZ (dY hu op) (dY hu cb) ha hb hc hm) fun σ H Q ⟨re,q⟩=>mQ h1 h2 σ H _ ⟨re,fun v H' sm r=>by
  unfold Rep at r;exact⟨k',r,q H' sm⟩⟩
theorem aAE{i:Int}(ha:PE X ea (tD X.K T S ρ (.int i))):PE X (.UnaryOp .USub ea pos) (tD X.K T S ρ (.int (-i))):=
 PE.mono (ZI PB ha) fun σ H Q ⟨re,q⟩=>⟨re,fun x H1 s1 r1=>by
  unfold Rep at r1;exact⟨i,r1,q _ H1 s1 (by unfold Rep;rfl)⟩⟩
theorem _root_.Z.aD.emp{K:p6}{H:Hp}{ds:List D}{xs:List V}(r:aD K T H S ds xs):ds.isEmpty=xs.isEmpty:=by
 have:=r.len
 cases ds<;>cases xs<;>simp_all
theorem WD{H:Hp}{v:V}{k:Bool}(r:Rep X.K T H S a v)(h:b8 a=some k):UB X.K v H k:=by
 cases a<;>simp only[b8,reduceCtorEq,l5]at h
 ·unfold Rep at r;subst r;exact h.symm
 ·unfold Rep at r;subst r;exact h.symm
 ·unfold Rep at r;subst r;exact h.symm
 ·unfold Rep at r;obtain⟨p,xs,rfl,_,e,rl⟩:=r;refine .inl ⟨xs,SqL.of e,?_⟩;rw[←h];rw[rl.emp]
 ·unfold Rep at r;obtain⟨p,xs,rfl,_,e,rl⟩:=r;refine .inr (.inl ⟨xs,e,?_⟩);rw[←h];rw[rl.emp]
 ·unfold Rep at r;obtain⟨p,xs,rfl,_,e,rl⟩:=r;refine .inl ⟨xs,e,?_⟩;rw[←h];rw[rl.emp]
theorem KC{k:Bool}(ha:PE X ea (tD X.K T S ρ a))(he:∀whole,isTrue ea X.env whole=(do let v ←whole;standAt ea.pos;holding [v] (truthy v)))(h:b8 a=some k):PT X ea (dj X.K T S ρ k):=
 PT.mono (CB ha he) fun σ H Q ⟨re,q⟩=>⟨re,fun x H1 s1 r1=>⟨k,WD r1 h,q H1 s1⟩⟩
theorem RU{k:Bool}(ha:PT X ea (dj X.K T S ρ k)):PT X (.UnaryOp .Not ea pos) (dj X.K T S ρ (!k)):=PT.mono (uG ha) fun σ H Q ⟨re,q⟩=>⟨re,fun H1 s1=>q H1 s1⟩
theorem aAC{k:Bool}(ha:PE X ea (tD X.K T S ρ a))(h:b8 a=some k):PE X (.UnaryOp .Not ea pos) (tD X.K T S ρ (.bl (!k))):=by
 intro pins s σ H Q I ⟨re,q⟩;refine UnaryOp_ (af (ha pins s σ H (fun v H'=>aF H H'∧Rep X.K T H' S a v) I ⟨re,fun v H' a b=>⟨a,b⟩⟩) fun v s1 ⟨x,H1,I1,r1,sm,rx⟩=>?_)
 exact not_of (af (BH pins s1 σ H1 x v (fun b H2=>b=k∧H2=H1) I1 r1 ⟨k,WD rx h,rfl,rfl⟩) fun b s2 ⟨H2,I2,eb,eH⟩=>by
  subst eb eH;exact⟨.bl (!b),H2,I2,rfl,q _ H2 sm bP⟩)
theorem NO{k:Bool}(hc:PT X ec (dj X.K T S ρ k))(ha:k=true→PE X ea (tD X.K T S ρ d))(hb:k=false→PE X eb (tD X.K T S ρ d)):PE X (.IfExp ec ea eb pos) (tD X.K T S ρ d):=by
 cases k with
 |true =>
  refine PE.mono (sF hc (ha rfl) (tb:=fun _ _ _=>False) (fun _ _ _ _ _ _ h=>h.elim)) fun σ H Q ⟨re,q⟩=>⟨re,fun H1 s1=>?_⟩
  exact nB ⟨re.same s1,fun v H' s2 r=>q v H' (s1.trans s2) r⟩
 |false =>
  refine PE.mono (sF hc (ta:=fun _ _ _=>False) (fun _ _ _ _ _ _ h=>h.elim) (hb rfl)) fun σ H Q ⟨re,q⟩=>⟨re,fun H1 s1=>?_⟩
  exact lV ⟨re.same s1,fun v H' s2 r=>q v H' (s1.trans s2) r⟩
theorem DI:PA X [] (b0 X.K T S ρ []):=PA.mono gE fun σ H Q ⟨re,q⟩=>q [] H (aF.refl H) aD.nil
theorem uL{es:List Expr}{ds:List D}(ha:PE X ea (tD X.K T S ρ a))(hr:PA X es (b0 X.K T S ρ ds))(hs:starEach (ea::es) X.env=(false,eval ea X.env)::starEach es X.env):PA X (ea::es) (b0 X.K T S ρ (a::ds)):=
 PA.mono (bU ha hr hs) fun σ H Q ⟨re,q⟩=>⟨re,fun x H1 s1 r1=>⟨re.same s1,fun xs H2 s2 r2=>q _ H2 (s1.trans s2) (aD.cons (r1.same s2) r2)⟩⟩
theorem aAw{es:List Expr}{ds:List D}{x1:Nat}(h:PA X es (b0 X.K T S ρ ds))(hl:ds.length≤sizeLine):PE X (.Tuple es x1 pos) (tD X.K T S ρ (.tup ds)):=
 PE.mono (QS h) fun σ H Q ⟨re,q⟩=>⟨re,fun xs H1 s1 r1=>⟨by rw[←r1.len];exact hl,fun p hp=>q _ _ (s1.trans (aF.upd hp)) (fB (re.same s1).dom hp r1)⟩⟩
theorem aAF{es:List Expr}{ds:List D}(h:PA X es (b0 X.K T S ρ ds))(hl:ds.length≤sizeLine):PE X (.List es pos) (c8 X.K T S ρ ds):=
 PE.mono (CI h) fun σ H Q ⟨re,q⟩=>⟨re,fun xs H1 s1 r1=>⟨by rw[←r1.len];exact hl,fun p hp=>q _ _ _ (s1.trans (aF.upd hp)) (s1.free hp) aN (by rw[gO hp];exact r1)⟩⟩
theorem NN{e:Expr}{ds:List D}(h:PE X e (c8 X.K T S ρ ds)):PE X e (tD X.K T S ρ (.lst ds)):=
 PE.mono h fun σ H Q ⟨re,q⟩=>⟨re,fun p xs H' sm hp b7 r=>q _ H' sm (by unfold Rep;exact⟨p,xs,rfl,re.nS hp,b7,r.er⟩)⟩
theorem kZ{K:p6}{H:Hp}{ds:List D}{xs:List V}{i:Int}(r:aD K T H S ds xs)(h:atI ds i=some d):∃x,L2.atI xs i=some x∧Rep K T H S d x:=by
 unfold atI at h;unfold L2.atI;rw[l7]at h;obtain⟨j,h1,h2⟩:=h;obtain⟨x,e,rx⟩:=r.get h2;have kl:L2.ixN xs.length i=some j:=by rw[←r.len];exact h1
 exact⟨x,by rw[kl];exact e,rx⟩
theorem KQ{i:Int}{ds:List D}(hc:a=.lst ds∨a=.tup ds∨a=.frz ds)(hd:atI ds i=some d):∀σ H Q,tD X.K T S ρ d σ H Q→fz (rIx X.K) (tD X.K T S ρ a) (tD X.K T S ρ (.int i)) σ H Q:=fun σ H Q ⟨re,q⟩ =>
 ⟨re,fun x H1 s1 r1=>⟨re.same s1,fun y H2 s2 r2=>by
  have c9:=r1.same s2
  unfold Rep at r2
  rcases hc with rfl|rfl|rfl
  ·unfold Rep at c9;obtain⟨p,xs,ex,_,e,rl⟩:=c9;obtain⟨v,e1,rv⟩:=kZ rl hd;exact .inl ⟨p,xs,i,v,ex,r2,SqL.of e,e1,q v H2 (s1.trans s2) rv⟩
  ·unfold Rep at c9;obtain⟨p,xs,ex,_,e,rl⟩:=c9;obtain⟨v,e1,rv⟩:=kZ rl hd;exact .inr (.inl ⟨p,xs,i,v,ex,r2,e,e1,q v H2 (s1.trans s2) rv⟩)
  ·unfold Rep at c9;obtain⟨p,xs,ex,_,e,rl⟩:=c9;obtain⟨v,e1,rv⟩:=kZ rl hd;exact .inl ⟨p,xs,i,v,ex,r2,e,e1,q v H2 (s1.trans s2) rv⟩⟩⟩
theorem RX{i:Int}{ds:List D}(ha:PE X ea (tD X.K T S ρ a))(hb:PE X eb (tD X.K T S ρ (.int i)))(hp:jG eb)(hc:a=.lst ds∨a=.tup ds∨a=.frz ds)(hd:atI ds i=some d):PE X (.Subscript ea eb pos) (tD X.K T S ρ d):=
 PE.mono (NI DW ha hb hp) (KQ hc hd)
theorem jJ{i:Nat}{ds:List D}{σ:L2.St}{H:Hp}(re:RE X.K T H S ρ σ)(h:fA ρ i=some ds):∃p xs,σ[i]?=some (some (.ref p))∧H p=some (.lst xs)∧aD X.K T H S ds xs:=by
 unfold fA at h;split at h
 ·rename_i e;cases h;obtain⟨v,e1,r⟩:=re.at_ i _ e;unfold Rep at r;obtain⟨p,xs,rfl,_,e2,rl⟩:=r;exact⟨p,xs,e1,e2,rl⟩
 ·rename_i e;cases h;obtain⟨p,ob,e1,_,e2,rm⟩:=re.at_ i _ e;obtain⟨xs,rfl,rl⟩:=rm.lst;exact⟨p,xs,e1,e2,rl⟩
 ·cases h
theorem aAG(h:XC CX X c G T lv){x:Str}{p2:Pos}{j:Nat}{i:Int}{ds:List D}(e:bC c x=some j)(hb:PE X eb (tD X.K T S ρ (.int i)))(hp:jG eb)(hs:fA ρ j=some ds)(hd:atI ds i=some d):PE X (.Subscript (.Name x p2) eb pos) (tD X.K T S ρ d):=
 PE.mono (NI DW (hU h e) hb hp) fun σ H Q ⟨re,q⟩=>by
  obtain⟨p,xs,e1,e2,rl⟩:=jJ re hs;refine⟨.ref p,e1,re,fun y H2 s2 r2=>?_⟩
  unfold Rep at r2;obtain⟨v,e3,rv⟩:=kZ (rl.same s2) hd;exact .inl ⟨p,xs,i,v,rfl,r2,SqL.of (s2 _ _ e2),e3,q v H2 s2 rv⟩
theorem kY{K:p6}{H:Hp}{ds:List D}{xs:List V}{lo hi:Option Int}(r:aD K T H S ds xs):aD K T H S (cut ds lo hi) (tM xs lo hi):=by
 unfold cut tM;rw[r.len];exact(r.drop _).take _
noncomputable def fj(K:p6)(T:Tx)(S:Addr→Prop)(ρ:List Sl)(o:Option Int):TO:=fun σ H Q=>RE K T H S ρ σ∧∀H',aF H H'→Q o H'
theorem aAB:PO X none (fj X.K T S ρ none):=fun pins s σ H Q I ⟨re,q⟩=>IV pins s σ H Q I (q H (aF.refl H))
theorem aAA{i:Int}(ha:PE X ea (tD X.K T S ρ (.int i))):PO X (some ea) (fj X.K T S ρ (some i)):=fun pins s σ H Q I ⟨re,q⟩=>IU ha pins s σ H Q I ⟨re,fun v H' sm r=>by
 unfold Rep at r;exact⟨i,r,q H' sm⟩⟩
theorem NM{lo hi:Option Expr}{l h:Option Int}{p2:Pos}{ds:List D}(ha:PE X ea (tD X.K T S ρ a))(hl:PO X lo (fj X.K T S ρ l))(hh:PO X hi (fj X.K T S ρ h))(hc:a=.lst ds∨a=.frz ds):PE X (.Subscript ea (.Slice lo hi none p2) pos) (c8 X.K T S ρ (cut ds l h)):=
 PE.mono (lN vT ha hl hh) fun σ H Q ⟨re,q⟩=>⟨re,fun x H1 s1 r1=>⟨re.same s1,fun H2 s2=>⟨(re.same s1).same s2,fun H3 s3=>by
  have c9:=(r1.same s2).same s3
  have sm:=s1.trans (s2.trans s3)
  rcases hc with rfl|rfl
  ·unfold Rep at c9;obtain⟨p,xs,ex,_,e,rl⟩:=c9;exact⟨p,xs,ex,SqL.of e,fun p hp=>q _ _ _ (sm.trans (aF.upd hp)) (sm.free hp) aN (by rw[gO hp];exact kY rl)⟩
  ·unfold Rep at c9;obtain⟨p,xs,ex,_,e,rl⟩:=c9;exact⟨p,xs,ex,e,fun p hp=>q _ _ _ (sm.trans (aF.upd hp)) (sm.free hp) aN (by rw[gO hp];exact kY rl)⟩⟩⟩⟩
theorem aAz{lo hi:Option Expr}{l h:Option Int}{p2:Pos}{ds:List D}(ha:PE X ea (tD X.K T S ρ (.tup ds)))(hl:PO X lo (fj X.K T S ρ l))(hh:PO X hi (fj X.K T S ρ h))(hw:¬(sIx ds.length 0 l=0∧sIx ds.length ds.length h=ds.length)) :
  PE X (.Subscript ea (.Slice lo hi none p2) pos) (tD X.K T S ρ (.tup (cut ds l h))):=
 PE.mono (lN QA ha hl hh) fun σ H Q ⟨re,q⟩=>⟨re,fun x H1 s1 r1=>⟨re.same s1,fun H2 s2=>⟨(re.same s1).same s2,fun H3 s3=>by
  have c9:=(r1.same s2).same s3
  have sm:=s1.trans (s2.trans s3)
  have ja:=((re.same s1).same s2).same s3
  unfold Rep at c9;obtain⟨p,xs,ex,_,e,rl⟩:=c9;exact⟨p,xs,ex,e,by rw[←rl.len];exact hw,fun p hp=>q _ _ (sm.trans (aF.upd hp)) (fB ja.dom hp (kY rl))⟩⟩⟩⟩
theorem aAy(h:XC CX X c G T lv){x:Str}{p3:Pos}{j:Nat}{lo hi:Option Expr}{l u:Option Int}{p2:Pos}{ds:List D}(e:bC c x=some j)(hs:fA ρ j=some ds)(hl:PO X lo (fj X.K T S ρ l))(hh:PO X hi (fj X.K T S ρ u)) :
  PE X (.Subscript (.Name x p3) (.Slice lo hi none p2) pos) (c8 X.K T S ρ (cut ds l u)):=
 PE.mono (lN vT (hU h e) hl hh) fun σ H Q ⟨re,q⟩=>by
  obtain⟨p,xs,e1,e2,rl⟩:=jJ re hs;refine⟨.ref p,e1,re,fun H2 s2=>⟨re.same s2,fun H3 s3=>?_⟩⟩
  have sm:=s2.trans s3
  exact⟨p,xs,rfl,SqL.of (s3 _ _ (s2 _ _ e2)),fun p hp=>q _ _ _ (sm.trans (aF.upd hp)) (sm.free hp) aN (by rw[gO hp];exact kY ((rl.same s2).same s3))⟩
theorem aAL(h:XC CX X c G T lv){cn f:Str}{fs:List (Str×D)}(ha:PE X ea (tD X.K T S ρ (.obj cn fs)))(hb:attributeBase ea f X.env (eval ea X.env)=eval ea X.env)(hf:(G.fl cn).contains f=true)(hd:fs.lookup f=some d):PE X (.Attribute ea f pos) (tD X.K T S ρ d):=
 PE.mono (QX ha hb) fun σ H Q ⟨re,q⟩=>⟨re,fun x H1 s1 r1=>by
  unfold Rep at r1;obtain⟨p,C,dx,gs,ex,_,ec,e,rf⟩:=r1;obtain⟨v,e1,rv⟩:=(bT.look rf).1 d hd;exact⟨p,C,dx,gs,v,ex,e,h.go.cls cn C ec,h.go.fld cn C f ec hf,e1,q v H1 s1 rv⟩⟩
theorem lO(h:XC CX X c G T lv):fK CX X E0:=fun _ _ H s e s' _ z=>(h.go.cx0 _ H s e s' z).elim
theorem lG{e:Expr}{es:List Expr}(hs:starEach (e::es) X.env=(e::es).map fun e=>(false,eval e X.env)):starEach (e::es) X.env=(false,eval e X.env)::starEach es X.env∧(backTo pos (starEach es X.env)).any (·.1)=false:=by
 have h2:starEach (e::es) X.env=(false,eval e X.env)::starEach es X.env:=by
  cases e<;>first|rfl|(simp[starEach]at hs)
 have h3:starEach es X.env=es.map fun e=>(false,eval e X.env):=by
  have:=congrArg List.tail (h2.symm.trans hs)
  simpa using this
 refine⟨h2,?_⟩;rw[h3];clear h2 h3 hs
 induction es with
 |nil=>rfl
 |cons a r ih=>exact ih
theorem SB(h:XC CX X c G T lv){x:Str}{es:List Expr}{ds:List D}{p:Pos}(hg:aO c x=true)(hf:c.fns.contains x=true)(ha:PA X es (b0 X.K T S ρ ds))(hs:starEach es X.env=es.map fun e=>(false,eval e X.env))(hlen:ds.length=es.length)(hd:G.fn x ds=some (.ok d)) :
  PE X (.Call (.Name x p) es [] pos) (fun σ H Q=>RE X.K T H S ρ σ∧∀v H1 H',aF H H1→aF H1 H'→Rep X.K T H' S d v→(G.ff x=true→oV X.K T S H1 H' d v)→Q v H'):=by
 obtain⟨f,fd,ps,hm,hk,hb,hl,F⟩:=h.go.fn x hf;have key:∀σ H Q,(RE X.K T H S ρ σ∧∀v H1 H',aF H H1→aF H1 H'→Rep X.K T H' S d v→(G.ff x=true→oV X.K T S H1 H' d v)→Q v H')→vS (eg X.K T ps.length (G.fn x) (G.ff x)) [] E0 (b0 X.K T S ρ ds) σ H Q:=fun σ H Q ⟨re,q⟩ =>
  ⟨re,fun vs H1 s1 r1=>⟨by rw[nh,←r1.len];exact hl ds _ hd,S,ds,(re.same s1).dom,by rw[nh];exact r1,.inl ⟨d,hd,fun v H' s2 r2 fr=>q v H1 H' s1 s2 r2 fr⟩⟩⟩
 cases es with
 |nil =>
  refine PE.mono (sH F h.room (h.glob hg) hm hk hb .nil (lO h) (h.gne hg)) fun σ H Q hq=>?_
  obtain⟨re,q⟩:=hq;have ay:ds=[]:=ni.mp hlen
  subst ay;exact(key σ H Q ⟨re,q⟩).2 [] H (aF.refl H) aD.nil
 |cons e es =>
  obtain⟨h1,h2⟩:=lG (pos:=pos) hs;exact PE.mono (pM F h.room (h.glob hg) hm hk hb .nil (lO h) ha (h.gne hg) h1 h2) key
end
section
variable {CX:ak}{X:Cx}{c:CC}{G:GS}{T:Tx}{lv:Nat}{ρ:List Sl}{S:Addr→Prop}{pos:Pos}{ea eb ec:Expr}{a b d:D}
def mW(X:Cx)(o:Expr)(m:Str)(args:List Expr)(apos pos:Pos):Prop:=∃pl:Sem Bool,eval (.Call (.Attribute o m apos) args [] pos) X.env=(do
   let ov ←eval o X.env
   standAt apos.atName
   let (f,first) ←holding [ov] (getMethod ov m pl)
   callWith pos f first (backTo pos (starEach args X.env)) (backToKw pos (keywordEach [] X.env)))
theorem RV(h:XC CX X c G T lv){m cn:Str}{fs:List (Str×D)}{es:List Expr}{ds:List D}{apos:Pos}(ht:mW X ea m es apos pos)(ho:PE X ea (tD X.K T S ρ (.obj cn fs)))(hn:fs.lookup m=none)
  (ha:PA X es (b0 X.K T S ρ ds)) (hs:starEach es X.env=es.map fun e=>(false,eval e X.env)) (hlen:ds.length=es.length) (hd:G.me cn m (.obj cn fs::ds)=some (.ok d)) :
  PE X (.Call (.Attribute ea m apos) es [] pos) (fun σ H Q=>RE X.K T H S ρ σ∧∀v H1 H',aF H H1→aF H1 H'→Rep X.K T H' S d v→(G.mf cn m=true→oV X.K T S H1 H' d v)→Q v H'):=by
 obtain⟨pl,ht⟩:=ht;intro pins s σ H Q I ⟨re,q⟩;refine PySem.W.methodCall_KW (pl:=pl) (af (ho pins s σ H (fun v H'=>aF H H'∧Rep X.K T H' S (.obj cn fs) v) I ⟨re,fun v H' a b=>⟨a,b⟩⟩) fun u s1 ⟨x,H1,I1,rx,sm,ro⟩=>?_) ht
 have ro':=ro
 unfold Rep at ro;obtain⟨p,C,dx,gs,ex,_,ec,e,rf⟩:=ro;subst ex;obtain rfl:u=Value.ref p:=rx;obtain⟨f,fd,ps,hm,hb,hl,F⟩:=h.go.me cn C m _ _ ec hd;refine mB I1 e (h.go.cls cn C ec) hm ((bT.look rf).2 hn) ?_;have fin:∀(us:List Value) (vs:List V) (s2:Shared) (H2:Hp),Inv X pins σ H2 s2→aM vs us→aF H1 H2→aD X.K T H2 S ds vs→wpAny (model X.prog X.w) X.A (call (.ref f) (.ref p::us)) (EP X pins σ Q) X.xe s2:=fun us vs s2 H2 I2 r2 bw rl=>by
  refine pF (us:=.ref p::us) (vs:=.ref p::vs) (dvs:=[]) (ds:=[]) (E:=E0) F h.room hb .nil (lO h) I2 (.cons rfl r2) ?_;refine⟨?_,S,.obj cn fs::ds,((re.same sm).same bw).dom,?_,.inl ⟨d,hd,fun v H' s3 r3 fr=>q v H2 H' (sm.trans bw) s3 r3 fr⟩⟩
  ·have:=hl _ _ hd
   simp only[nh,om]at this ⊢;rw[←rl.len];exact this
  ·rw[nh];exact aD.cons (ro'.same bw) rl
 cases es with
 |nil =>
  have ay:ds=[]:=ni.mp hlen
  subst ay;exact callWith_K0 (first:=[.ref p]) I1.kIn hm.kp (fin [] [] s1 H1 I1 .nil (aF.refl _) aD.nil)
 |cons e es =>
  obtain⟨h1,h2⟩:=lG (pos:=pos) hs;refine callWith_K (first:=[.ref p]) (h₀:=X.base) I.ok.mod.kin hm.kp (af (ha pos pins s1 σ H1 (fun vs H'=>aF H1 H'∧aD X.K T H' S ds vs) I1 ⟨re.same sm,fun vs H' a b=>⟨a,b⟩⟩) fun us s2 ⟨vs,H2,I2,r,bw,rl⟩=>⟨I2.kIn,?_⟩) h1 h2
  exact fin us vs s2 H2 I2 r bw rl
theorem zF{CX:ak}{k:Nat}{f C:Addr}{fd:p7}{ps:List Str}{sp:Sp}{E:XK}{pins:ph}{σ:L2.St}{H:Hp}{s:Shared}{Q:VK}{us:List Value}{vs:List V}(M:Mk X.K C f)(F:FnOk X.prog X.w X.K X.mg X.base CX k f fd ps sp)(hr:Room (k+1) X.A)(hb:Binds X.K fd ps [])
  (hx:fK CX X E) (I:Inv X pins σ H s) (r:aM vs us)
  (h:∀x dx,H x=none→H dx=none→dx≠x→X.K.lookup x=none→X.K.lookup dx=none→sp (.ref x::vs) (upd (upd H dx (.own x)) x (.ins C dx [])) (fun v H2=>v=.non∧Q (.ref x) H2) E) :
  wpAny (model X.prog X.w) X.A (call (.ref C) us) (EP X pins σ Q) X.xe s:=by
 have nk:∀a,s.heap.objs.size≤a→X.K.lookup a=none:=fun a ha=>by
  cases q:X.K.lookup a with
  |none=>rfl
  |some o=>exact absurd (mr (I.kIn a o q)) (not_lt.mpr ha)
 have hq:=h (s.heap.objs.size+1) s.heap.objs.size (I.hok.fresh (oh _)) (I.hok.fresh (lj _)) (o3 (Nat.lt_succ_self _)) (nk _ (oh _)) (nk _ (lj _))
 have I2:=Inv.made (C:=C) I
 have r2:aM (V.ref (s.heap.objs.size+1)::vs) (Value.ref (s.heap.objs.size+1)::us):=.cons rfl r
 have hl:(Value.ref (s.heap.objs.size+1)::us++[]).length=ps.length:=by
  have e:=r2.length
  rw[F.len _ _ _ _ hq]at e;rw[nh];exact e.symm
 refine wpAny_call (DL (f:=f) I.kIn M.makes M.init (nu.mp M.fn) (codeAny_mono (F.run _ X.stack _ _ ⟨Value.ref (s.heap.objs.size+1)::us,[]⟩ (Value.ref (s.heap.objs.size+1)::us) _ _ E (hr.make C us [])
  (I2.env0.make C us []) (by have:=hb _ (Value.ref (s.heap.objs.size+1)::us) I2.kIn hl;rw[nh]at this;exact this) r2 hq) fun r s' cq=>?_))
 cases r with
 |error e=>exact hx pins σ _ _ e s' I2 cq
 |ok fl =>
  cases fl with
  |ret u =>
   obtain⟨v,H',I3,rv,ev,q3⟩:=I2.after cq;subst ev;exact⟨rv,⟨V.ref (s.heap.objs.size+1),H',I3,rfl,q3⟩⟩
  |next=>exact False.elim cq
  |brk=>exact False.elim cq
  |cont=>exact False.elim cq
theorem aDP(h:XC CX X c G T lv){x:Str}{es:List Expr}{ds:List D}{p:Pos}(hg:aO c x=true)(hf:c.cls.contains x=true)(ha:PA X es (b0 X.K T S ρ ds))(hs:starEach es X.env=es.map fun e=>(false,eval e X.env))(hlen:ds.length=es.length)(hd:G.mo x ds=some (.ok d)) :
  PE X (.Call (.Name x p) es [] pos) (tD X.K T S ρ d):=by
 obtain⟨C,f,fd,ps,j,hj,hm,M,hb,hl,F⟩:=h.go.mo x hf ds d hd;have fin:∀(pins:ph) (σ:L2.St) (H:Hp) (Q:VK) (us:List Value) (vs:List V) (s2:Shared) (H2:Hp),RE X.K T H S ρ σ→(∀v H',aF H H'→Rep X.K T H' S d v→Q v H')→Inv X pins σ H2 s2→aM vs us→aF H H2→aD X.K T H2 S ds vs→wpAny (model X.prog X.w) X.A (call (.ref C) us) (EP X pins σ Q) X.xe s2:=fun pins σ H Q us vs s2 H2 re q I2 r2 bw rl=>by
  refine zF (E:=E0) M F (h.room.mono hj) hb (lO h) I2 r2 fun y dx hy hdx ne ky kdx=>?_
  have dom2:=(re.same bw).dom
  have m1:aG X.K H2 (upd H2 dx (.own y)) S S:=fun a n _=>⟨n,fun o e=>by rw[aK (aV e hdx)];exact e⟩
  have hy1:(upd H2 dx (.own y)) y=none:=by rw[aK (Ne.symm ne)];exact hy
  have m2:=aG.add (S:=S) (o:=.ins C dx []) hy1 ky
  refine⟨by simp only[om];rw[←rl.len];exact hl,y,dx,vs,(fun a=>S a∨a=y),ds,d,rfl,aN,.inr rfl,fun a hs=>?_,aD.gen m2 _ _ (aD.gen m1 _ _ rl),hd,fun H' kp rp=>⟨rfl,q _ H' ?_ (rp S fun a ha=>⟨.inl ha,?_⟩)⟩⟩
  ·rcases hs with z|z
   ·obtain⟨o,e⟩:=dom2 a z;exact⟨o,by rw[aK (aV e hy),aK (aV e hdx)];exact e⟩
   ·subst z;exact⟨_,aN⟩
  ·intro b o e;have e2:=bw b o e
   refine kp b o (aV e2 hy) ?_;rw[aK (aV e2 hy),aK (aV e2 hdx)];exact e2
  ·intro z;subst z;obtain⟨o,e⟩:=dom2 a ha;rw[hy]at e;cases e
 cases es with
 |nil =>
  have ay:ds=[]:=ni.mp hlen
  subst ay;intro pins s σ H Q I ⟨re,q⟩;refine wpAny_Call_Name_kw (fE I (h.glob hg) hm ?_ (h.gne hg));exact callWith_K0 I.kIn M.kp (fin pins σ H Q [] [] s H re q I .nil (aF.refl _) aD.nil)
 |cons e es =>
  obtain⟨h1,h2⟩:=lG (pos:=pos) hs;intro pins s σ H Q I ⟨re,q⟩;refine wpAny_Call_Name_kw (fE I (h.glob hg) hm ?_ (h.gne hg));refine callWith_K (h₀:=X.base) I.ok.mod.kin M.kp (af (ha pos pins s σ H (fun vs H'=>aF H H'∧aD X.K T H' S ds vs) I ⟨re,fun vs H' a b=>⟨a,b⟩⟩) fun us s1 ⟨vs,H1,I1,r,sm,rl⟩=>⟨I1.kIn,?_⟩) h1 h2
  exact fin pins σ H Q us vs s1 H1 re q I1 r sm rl
noncomputable def jb(K:p6)(T:Tx)(S:Addr→Prop)(g:List D→Option D):List V→Hp→VK→Prop:=fun xs H Q =>
 ∃ds d,(∀a,S a→∃o,H a=some o)∧aD K T H S ds xs∧g ds=some d∧∀v H',aF H H'→Rep K T H' S d v→Q v H'
theorem rep1{K:p6}{H:Hp}{xs:List V}(r:aD K T H S [a] xs):∃x,xs=[x]∧Rep K T H S a x:=by
 unfold aD at r;obtain⟨x,r',rfl,rx,rr⟩:=r;unfold aD at rr;subst rr;exact⟨x,rfl,rx⟩
theorem rep2{K:p6}{H:Hp}{xs:List V}(r:aD K T H S [a,b] xs):∃x y,xs=[x,y]∧Rep K T H S a x∧Rep K T H S b y:=by
 unfold aD at r;obtain⟨x,r',rfl,rx,rr⟩:=r;obtain⟨y,rfl,ry⟩:=rep1 rr;exact⟨x,y,rfl,rx,ry⟩
theorem cY{K:p6}{H:Hp}{i:Int}:Rep K T H S (.int i) (.int i):=by unfold Rep;rfl
theorem aBt:eD X (.builtin "len") (jb X.K T S LR):=by
 rintro pins s σ H xs us Q I r ⟨ds,d,dom,rl,e,q⟩;unfold LR at e;split at e
 ·obtain⟨x,rfl,rx⟩:=rep1 rl;cases e;unfold Rep at rx;obtain⟨p,ys,rfl,_,hq,ry⟩:=rx;exact eP pins s σ H _ us Q I r ⟨p,ys,rfl,.inl (SqL.of hq),by rw[←ry.len];exact q _ H (aF.refl H) cY⟩
 ·obtain⟨x,rfl,rx⟩:=rep1 rl;cases e;unfold Rep at rx;obtain⟨p,ys,rfl,_,hq,ry⟩:=rx;exact eP pins s σ H _ us Q I r ⟨p,ys,rfl,.inr hq,by rw[←ry.len];exact q _ H (aF.refl H) cY⟩
 ·obtain⟨x,rfl,rx⟩:=rep1 rl;cases e;unfold Rep at rx;obtain⟨p,ys,rfl,_,hq,ry⟩:=rx;exact eP pins s σ H _ us Q I r ⟨p,ys,rfl,.inl hq,by rw[←ry.len];exact q _ H (aF.refl H) cY⟩
 ·obtain⟨x,rfl,rx⟩:=rep1 rl;unfold Rep at rx;subst rx;split at e
  ·rename_i hz;cases e;exact rE pins s σ H _ us Q I r ⟨_,rfl,mw hz gR,q _ H (aF.refl H) cY⟩
  ·cases e
 ·cases e
theorem aBu:eD X (.type "int") (jb X.K T S LS):=by
 rintro pins s σ H xs us Q I r ⟨ds,d,dom,rl,e,q⟩;unfold LS at e;split at e
 ·obtain⟨x,rfl,rx⟩:=rep1 rl;cases e;unfold Rep at rx;subst rx;exact oM pins s σ H _ us Q I r (.inl ⟨_,rfl,q _ H (aF.refl H) cY⟩)
 ·obtain⟨x,rfl,rx⟩:=rep1 rl;cases e;unfold Rep at rx;subst rx;exact oM pins s σ H _ us Q I r (.inr ⟨_,rfl,q _ H (aF.refl H) cY⟩)
 ·cases e
noncomputable def rBl(K:p6)(T:Tx)(S:Addr→Prop):List V→Hp→VK→Prop:=fun xs H Q =>
 ∃ds es,aD K T H S ds xs∧sZ ds=some (.lst es)∧∀p ys H',aF H H'→H p=none→H' p=some (.lst ys)→aD K T (er H' p) S es ys→Q (.ref p) H'
theorem UA:eD X (.type "list") (rBl X.K T S):=by
 rintro pins s σ H xs us Q I r ⟨ds,es,rl,e,q⟩;unfold sZ at e;split at e
 ·obtain⟨x,rfl,rx⟩:=rep1 rl;cases e;unfold Rep at rx;obtain⟨p,ys,rfl,_,hq,ry⟩:=rx;exact fZ pins s σ H _ us Q I r ⟨p,ys,rfl,.inl (SqL.of hq),fun l hl=>q l ys _ (aF.upd hl) hl aN (by rw[gO hl];exact ry)⟩
 ·obtain⟨x,rfl,rx⟩:=rep1 rl;cases e;unfold Rep at rx;obtain⟨p,ys,rfl,_,hq,ry⟩:=rx;exact fZ pins s σ H _ us Q I r ⟨p,ys,rfl,.inr hq,fun l hl=>q l ys _ (aF.upd hl) hl aN (by rw[gO hl];exact ry)⟩
 ·obtain⟨x,rfl,rx⟩:=rep1 rl;cases e;unfold Rep at rx;obtain⟨p,ys,rfl,_,hq,ry⟩:=rx;exact fZ pins s σ H _ us Q I r ⟨p,ys,rfl,.inl hq,fun l hl=>q l ys _ (aF.upd hl) hl aN (by rw[gO hl];exact ry)⟩
 ·cases e
theorem MJ:eD X (.type "tuple") (jb X.K T S qV):=by
 rintro pins s σ H xs us Q I r ⟨ds,d,dom,rl,e,q⟩;unfold qV at e;split at e
 ·obtain⟨x,rfl,rx⟩:=rep1 rl;cases e;unfold Rep at rx;obtain⟨p,ys,rfl,_,hq,ry⟩:=rx;exact iB pins s σ H _ us Q I r ⟨p,ys,rfl,.inl ⟨SqL.of hq,fun l hl=>q _ _ (aF.upd hl) (fB dom hl ry)⟩⟩
 ·obtain⟨x,rfl,rx⟩:=rep1 rl;cases e;have rx':=rx
  unfold Rep at rx;obtain⟨p,ys,rfl,_,hq,ry⟩:=rx;exact iB pins s σ H _ us Q I r ⟨p,ys,rfl,.inr ⟨hq,q _ H (aF.refl H) rx'⟩⟩
 ·cases e
theorem jY{K:p6}{H:Hp}:∀{ds:List D} {ns:List Int} {ys:List V} {us:List Value},lY ds=some ns→aD K T H S ds ys→aM ys us→IntsAre us ns
 |[],ns,ys,us,h,r,v=>by
  simp only[lY]at h;cases h;unfold aD at r;subst r;cases v;exact .nil
 |d::ds,ns,ys,us,h,r,v=>by
  cases d<;>simp only[lY,reduceCtorEq]at h
  rename_i i;rw[ma]at h;obtain⟨r',h1,rfl⟩:=h;unfold aD at r;obtain⟨x,w,rfl,rx,rr⟩:=r;unfold Rep at rx;subst rx;cases v with
  |cons v1 v2 =>
   obtain⟨t,rfl⟩:=v1;exact .cons i t (jY h1 rr v2)
section
variable {prog:p8}{w:World}{A:Around}{E:p9}{s:Shared}
theorem uO{l:Addr}{vs:List Value}{ns:List Int}{Q:p9}(hh:A.handled=none)(hl:s.heap.IsList l vs.toArray)(hi:IntsAre vs ns)(cN:0<ns.length)
  (h:∀h' M (t:Tok) tk,(∀b o,s.heap.get? b=some o→h'.get? b=some o)→M∈ns→(∀a,a∈ns→a≤M)→Q (.int M t) { s with heap:=h',toks:=tk }) :
  wpAny (model prog w) A (call (.builtin "max") [.ref l]) Q E s:=by
 obtain⟨xs,e⟩:=hi.allInts.items;have dt:ns=xs.toList.map (·.1):=by
  rw[←hi.numsOf,←nums_intItems,←e]
 have hsz:0<xs.size:=by
  have h3:=cN;rw[dt,la,length_toList]at h3;exact h3
 rw[e]at hl;refine max_intList hh hl hsz fun v h' tk hv hk=>?_
 obtain⟨t,rfl⟩:=intItems_at hv;obtain⟨h1,h2⟩:=argBest_gt (numAt xs) (xs.size-1);refine h _ _ t tk hk ?_ fun a ha=>?_
 ·rw[dt,numAt_eq];exact getD_mem (by rw[la,length_toList];omega)
 ·rw[dt]at ha;obtain⟨j,hj,rfl⟩:=mem_getD ha;rw[la,length_toList]at hj;rw[←numAt_eq];exact h2 j (by omega)
theorem uM{l:Addr}{vs:List Value}{ns:List Int}{Q:p9}(hh:A.handled=none)(hl:s.heap.IsList l vs.toArray)(hi:IntsAre vs ns)(cN:0<ns.length)
  (h:∀h' M (t:Tok) tk,(∀b o,s.heap.get? b=some o→h'.get? b=some o)→M∈ns→(∀a,a∈ns→M≤a)→Q (.int M t) { s with heap:=h',toks:=tk }) :
  wpAny (model prog w) A (call (.builtin "min") [.ref l]) Q E s:=by
 obtain⟨xs,e⟩:=hi.allInts.items;have dt:ns=xs.toList.map (·.1):=by
  rw[←hi.numsOf,←nums_intItems,←e]
 have hsz:0<xs.size:=by
  have h3:=cN;rw[dt,la,length_toList]at h3;exact h3
 rw[e]at hl;refine min_intList hh hl hsz fun v h' tk hv hk=>?_
 obtain⟨t,rfl⟩:=intItems_at hv;obtain⟨h1,h2⟩:=argBest_lt (numAt xs) (xs.size-1);refine h _ _ t tk hk ?_ fun a ha=>?_
 ·rw[dt,numAt_eq];exact getD_mem (by rw[la,length_toList];omega)
 ·rw[dt]at ha;obtain⟨j,hj,rfl⟩:=mem_getD ha;rw[la,length_toList]at hj;rw[←numAt_eq];exact h2 j (by omega)
end
theorem aBs(hc:X.calm=true):eD X (.builtin "max") (jb X.K T S EO):=by
 rintro pins s σ H xs us Q I r ⟨ds,d,dom,rl,e,q⟩;unfold EO at e;split at e
 ·obtain⟨x,y,rfl,rx,ry⟩:=rep2 rl;cases e;unfold Rep at rx ry;subst rx ry;exact AY hc pins s σ H _ us Q I r ⟨_,_,rfl,q _ H (aF.refl H) cY⟩
 ·obtain⟨x,rfl,rx⟩:=rep1 rl;split at e
  ·rename_i i t he;cases e;unfold Rep at rx;obtain⟨p,ys,rfl,_,hq,ry⟩:=rx;obtain⟨u,rfl,ru⟩:=vals1 r;cases ru;obtain⟨its,rv,pl,hz⟩:=I.list (SqL.of hq);have hi:=jY he ry rv
   refine uO (I.ok.hd hc) pl.isList hi (by simp) fun h' M tt tk hk hM hle=>⟨.int M,H,I.kept (t':=tk) hk,⟨_,rfl⟩,?_⟩
   obtain⟨m1,m2,m3⟩:=nV t i;have e1:jV i t∈i::t:=by
    rcases m1 with z|z
    ·rw[z];simp
    ·exact lu _ z
   have e2:M≤jV i t:=by
    rcases my.mp hM with z|z
    ·rw[z];exact m2
    ·exact m3 M z
   have e3:M=jV i t:=Int.le_antisymm e2 (hle _ e1)
   rw[e3];exact q _ H (aF.refl H) cY
  ·cases e
 ·cases e
theorem aBr(hc:X.calm=true):eD X (.builtin "min") (jb X.K T S LQ):=by
 rintro pins s σ H xs us Q I r ⟨ds,d,dom,rl,e,q⟩;unfold LQ at e;split at e
 ·obtain⟨x,y,rfl,rx,ry⟩:=rep2 rl;cases e;unfold Rep at rx ry;subst rx ry;exact AX hc pins s σ H _ us Q I r ⟨_,_,rfl,q _ H (aF.refl H) cY⟩
 ·obtain⟨x,rfl,rx⟩:=rep1 rl;split at e
  ·rename_i i t he;cases e;unfold Rep at rx;obtain⟨p,ys,rfl,_,hq,ry⟩:=rx;obtain⟨u,rfl,ru⟩:=vals1 r;cases ru;obtain⟨its,rv,pl,hz⟩:=I.list (SqL.of hq);have hi:=jY he ry rv
   refine uM (I.ok.hd hc) pl.isList hi (by simp) fun h' M tt tk hk hM hle=>⟨.int M,H,I.kept (t':=tk) hk,⟨_,rfl⟩,?_⟩
   obtain⟨m1,m2,m3⟩:=nU t i;have e1:lR i t∈i::t:=by
    rcases m1 with z|z
    ·rw[z];simp
    ·exact lu _ z
   have e2:lR i t≤M:=by
    rcases my.mp hM with z|z
    ·rw[z];exact m2
    ·exact m3 M z
   have e3:M=lR i t:=Int.le_antisymm (hle _ e1) e2
   rw[e3];exact q _ H (aF.refl H) cY
  ·cases e
 ·cases e
end
section
variable {CX:ak}{X:Cx}{c:CC}{G:GS}{T:Tx}{lv:Nat}{ρ:List Sl}{S:Addr→Prop}{pos:Pos}{ea eb ec:Expr}{a b d:D}
noncomputable def iF:D→Option String
 |.non=>some "NoneType"
 |.bl _=>some "bool"
 |.int _=>some "int"
 |.str _=>some "str"
 |.lst _=>some "list"
 |.tup _=>some "tuple"
 |_=>none
theorem DZ{pins:ph}{σ:L2.St}{H:Hp}{s:Shared}{A:Around}{E:p9}{Q:p9}{x:V}{u c:Value}{tn:String}{k:Bool}(I:Inv X pins σ H s)(rx:RelV x u)(rep:Rep X.K T H S d x)(ht:iF d=some tn)
  (e:kitOne X.K (.type tn) c=some k) (h:∀tk,Q (.bool k) { s with toks:=tk }):wpAny (model X.prog X.w) A (call (.builtin "isinstance") [u,c]) Q E s:=by
 cases d<;>simp only[iF,reduceCtorEq,l5]at ht
 all_goals subst ht
 ·unfold Rep at rep;subst rep;exact fN I rx (.non) e h
 ·unfold Rep at rep;subst rep;exact fN I rx (.bl _) e h
 ·unfold Rep at rep;subst rep;exact fN I rx (.int _) e h
 ·unfold Rep at rep;subst rep;exact fN I rx (.str _) e h
 ·unfold Rep at rep;obtain⟨p,xs,rfl,_,hq,_⟩:=rep;exact fN I rx (.lst hq) e h
 ·unfold Rep at rep;obtain⟨p,xs,rfl,_,hq,_⟩:=rep;obtain rfl:u=Value.ref p:=rx;obtain⟨its,rv,⟨o,h1,h2,_⟩,_⟩:=I.tuple hq;exact kia_one PySem.W.kitx_tuple I.kIn ⟨o,h1,h2⟩ e (fun z=>nomatch z) h
theorem fO(K:p6):∀(t n:String),(t,n)∈([("NoneType","int"),("NoneType","bool"),("NoneType","str"),("NoneType","list"),("NoneType","tuple"),("bool","str"),("bool","list"),("bool","tuple"),("int","bool"),("int","str"),("int","list"),("int","tuple"),
  ("str","int"),("str","bool"),("str","list"),("str","tuple"),("list","int"),("list","bool"),("list","str"),("list","tuple"),("tuple","int"),("tuple","bool"),("tuple","str"),("tuple","list")]:List (String×String))→kitOne K (.type t) (.type n)=some false:=by
 intro t n h;simp only[my,Prod.mk.injEq,not_mem_nil,or_false]at h
 rcases h with ⟨rfl,rfl⟩|⟨rfl,rfl⟩|⟨rfl,rfl⟩|⟨rfl,rfl⟩|⟨rfl,rfl⟩|⟨rfl,rfl⟩|⟨rfl,rfl⟩|⟨rfl,rfl⟩|⟨rfl,rfl⟩|⟨rfl,rfl⟩|⟨rfl,rfl⟩|⟨rfl,rfl⟩|⟨rfl,rfl⟩|⟨rfl,rfl⟩|⟨rfl,rfl⟩|⟨rfl,rfl⟩|⟨rfl,rfl⟩|⟨rfl,rfl⟩|⟨rfl,rfl⟩|⟨rfl,rfl⟩|⟨rfl,rfl⟩|⟨rfl,rfl⟩|⟨rfl,rfl⟩|⟨rfl,rfl⟩<;>kernel_rfl
theorem EA(K:p6):kitOne K (.type "bool") (.type "int")=some true:=by kernel_rfl
theorem gJ(K:p6)(t:String):kitOne K (.type t) (.type t)=some true:=by
 unfold kitOne;rw[if_pos (by simp)]
theorem PD:¬(("bool":Str) = "int")∧¬(("str":Str) = "int")∧¬(("list":Str) = "int")∧¬(("tuple":Str) = "int")∧¬(("int":Str) = "bool")∧¬(("str":Str) = "bool")∧¬(("list":Str) = "bool")∧¬(("tuple":Str) = "bool") ∧
  ¬(("int":Str) = "str")∧¬(("bool":Str) = "str")∧¬(("list":Str) = "str")∧¬(("tuple":Str) = "str")∧¬(("int":Str) = "list")∧¬(("bool":Str) = "list")∧¬(("str":Str) = "list")∧¬(("tuple":Str) = "list") ∧
  ¬(("int":Str) = "tuple")∧¬(("bool":Str) = "tuple")∧¬(("str":Str) = "tuple")∧¬(("list":Str) = "tuple"):=by decide +kernel
theorem SQ{t:Str}{k:Bool}{tn:String}(K:p6)(ht:gS.contains t=true)(hd:iF d=some tn)(h:gL G t d=some k):∃n:String,bootBuiltins t=some (.type n)∧kitOne K (.type tn) (.type n)=some k:=by
 obtain⟨n1,n2,n3,n4,n5,n6,n7,n8,n9,n10,n11,n12,n13,n14,n15,n16,n17,n18,n19,n20⟩:=PD;have ht':t = "int"∨t = "bool"∨t = "str"∨t = "list"∨t = "tuple":=by
  simpa [gS] using ht
 have b1:bootBuiltins "int" = some (.type "int"):=by decide +kernel
 have b2:bootBuiltins "bool" = some (.type "bool"):=by decide +kernel
 have b3:bootBuiltins "str" = some (.type "str"):=by decide +kernel
 have b4:bootBuiltins "list" = some (.type "list"):=by decide +kernel
 have b5:bootBuiltins "tuple" = some (.type "tuple"):=by decide +kernel
 rcases ht' with rfl|rfl|rfl|rfl|rfl<;>cases d<;>simp only[iF,reduceCtorEq,l5]at hd
 all_goals subst hd
 all_goals simp only[gL,n1,n2,n3,n4,n5,n6,n7,n8,n9,n10,n11,n12,n13,n14,n15,n16,n17,n18,n19,n20,if_true,if_false,true_or,or_true,or_false,or_self,l5]at h
 all_goals subst h
 all_goals first
  |exact⟨_,b1,by first|exact gJ K _|exact EA K|exact fO K _ _ (by decide)⟩
  |exact⟨_,b2,by first|exact gJ K _|exact fO K _ _ (by decide)⟩
  |exact⟨_,b3,by first|exact gJ K _|exact fO K _ _ (by decide)⟩
  |exact⟨_,b4,by first|exact gJ K _|exact fO K _ _ (by decide)⟩
  |exact⟨_,b5,by first|exact gJ K _|exact fO K _ _ (by decide)⟩
theorem nF:bootBuiltins "isinstance" = some (.builtin "isinstance"):=by decide +kernel
theorem aAH(h:XC CX X c G T lv){t:Str}{p p2:Pos}{k:Bool}{tn:String}(hg:aO c "isinstance" = true)(hm:X.mg "isinstance" = none)(hgt:aO c t=true)(hmt:X.mg t=none)(ht:gS.contains t=true)(ha:PE X ea (tD X.K T S ρ a))(hs:starEach [ea,.Name t p2] X.env=[(false,eval ea X.env),(false,eval (.Name t p2) X.env)])
  (hd:iF a=some tn) (hi:gL G t a=some k):PE X (.Call (.Name "isinstance" p) [ea,.Name t p2] [] pos) (tD X.K T S ρ (.bl k)):=by
 obtain⟨n,hb,hk⟩:=SQ X.K ht hd hi;have hnn:t≠"__name__":=by
  intro z;subst z
  revert ht
  decide +kernel
 have hp:PE X (.Name t p2) (tC (.ty n)):=wA (h.glob hgt) hmt hb rfl hnn (h.gne hgt)
 have hc:eD X (.builtin "isinstance") (fun xs H Q=>∃x,xs=[x,.ty n]∧Rep X.K T H S a x∧Q (.bl k) H):=by
  rintro pins s σ H xs us Q I r ⟨x,rfl,rep,q⟩;obtain⟨u,w',rfl,r1,r2⟩:=vals2 r;obtain rfl:w'=Value.type n:=r2;exact DZ I r1 rep hd hk fun tk=>⟨.bl k,H,I.tok tk,rfl,q⟩
 have ik:starEach [ea,.Name t p2] X.env=(false,eval ea X.env)::starEach [.Name t p2] X.env:=hs
 refine PE.mono (eU hc (h.glob hg) hm nF (bU ha (bU hp gE) ik) (by decide +kernel) ?_ ?_ ?_) fun σ H Q ⟨re,q⟩=>⟨re,fun x H1 s1 r1=>⟨x,rfl,r1,q _ H1 s1 bP⟩⟩
 all_goals first|exact h.gne hg|exact ik|rfl|decide +kernel
end
theorem jE{o:Expr}{m:Str}{env:Env}(ho:gU o=true):attributeBase o m env (eval o env)=eval o env:=by
 cases o<;>first|rfl|(simp[gU]at ho)
theorem tT{env:Env}{pos:Pos}:∀(l:List Expr),(backTo pos (l.map fun e=>(false,eval e env))).all (!·.1)=true
 |[]=>rfl
 |_::r=>tT r
theorem sN{X:Cx}{o:Expr}{m:Str}{args:List Expr}{apos pos:Pos}(ho:gU o=true)(hs:starEach args X.env=args.map fun e=>(false,eval e X.env))(hl:args.length<30)(hp:(apos.endLine == pos.line)=true):mW X o m args apos pos:=by
 refine⟨do return (←importBound o X.env).getD true,?_⟩
 show (do
  let ov ←attributeBase o m X.env (eval o X.env)
  standAt apos.atName
  methodCall o m apos pos X.env ov (args.length+0) (backTo pos (starEach args X.env)) (backToKw pos (keywordEach [] X.env)))=_
 rw[jE ho];have hf:methodCallForm (args.length+0) (backTo pos (starEach args X.env)) (backToKw pos (keywordEach [] X.env))=true:=by
  unfold methodCallForm;rw[hs,tT];simp[backToKw,keywordEach]
  first|omega|(refine⟨?_,?_⟩<;>first|rfl|omega)
 have hpp:methodCallPos true o X.env apos pos=pure pos:=by
  unfold methodCallPos;rw[hp];rfl
 unfold methodCall;rw[hf,hpp];unfold calleeOf;rfl
section
variable {K:p6}{T:Tx}{H:Hp}{S:Addr→Prop}
theorem aU.len:∀{kvs:List (Int×D)} {gs:List (Key×V)},aU K T H S kvs gs→kvs.length=gs.length
 |[],gs,h=>by unfold aU at h;subst h;rfl
 | (i,d)::kvs,gs,h=>by
  unfold aU at h;obtain⟨x,r,rfl,_,q⟩:=h;exact congrArg (· + 1) (aU.len q)
theorem aU.nil:aU K T H S [] []:=by unfold aU;rfl
theorem aU.cons{i:Int}{d:D}{x:V}{kvs:List (Int×D)}{gs:List (Key×V)}(h:Rep K T H S d x)(g:aU K T H S kvs gs):aU K T H S ((i,d)::kvs) ((Sum.inl i,x)::gs):=by unfold aU;exact⟨x,gs,rfl,h,g⟩
theorem EC{i j:Int}(h:¬i=j):¬(Sum.inl i:Key)=Sum.inl j:=fun z=>h (Sum.inl.inj z)
theorem aU.val{k:Int}:∀{kvs:List (Int×D)} {gs:List (Key×V)},aU K T H S kvs gs→(∀d,cV kvs k=some d→∃x,jH gs (Sum.inl k)=some x∧Rep K T H S d x)∧(cV kvs k=none→jH gs (Sum.inl k)=none)
 |[],gs,h=>by unfold aU at h;subst h;exact⟨fun d e=>(nomatch (show none=some d from e)),fun _=>rfl⟩
 | (i,d)::kvs,gs,h=>by
  unfold aU at h;obtain⟨x,r,rfl,p,q⟩:=h;obtain⟨i1,i2⟩:=aU.val (k:=k) q
  by_cases e:i=k
  ·have e1:cV ((i,d)::kvs) k=some d:=by unfold cV;rw[List.find?_cons_of_pos (by simpa using e)];rfl
   rw[e1,iM (congrArg Sum.inl e)];exact⟨fun d' z=>⟨x,rfl,by cases z;exact p⟩,fun z=>by cases z⟩
  ·have e1:cV ((i,d)::kvs) k=cV kvs k:=by unfold cV;rw[List.find?_cons_of_neg (by simpa using e)]
   rw[e1,iO (EC e)];exact⟨i1,i2⟩
theorem aU.any{k:Int}:∀{kvs:List (Int×D)} {gs:List (Key×V)},aU K T H S kvs gs→(kvs.any fun kv=>decide (kv.1=k))=gs.any fun kv=>decide (kv.1=(Sum.inl k:Key))
 |[],gs,h=>by unfold aU at h;subst h;rfl
 | (i,d)::kvs,gs,h=>by
  unfold aU at h;obtain⟨x,r,rfl,p,q⟩:=h;rw[any_cons,any_cons,aU.any q]
  congr 1
  exact decide_eq_decide.mpr ⟨fun z=>congrArg Sum.inl z,fun z=>Sum.inl.inj z⟩
theorem aU.repl{k:Int}{d:D}{v:V}(hv:Rep K T H S d v):∀{kvs:List (Int×D)} {gs:List (Key×V)},aU K T H S kvs gs→aU K T H S (kvs.map fun kv=>if kv.1=k then(kv.1,d) else kv) (gs.map fun kv=>if kv.1=(Sum.inl k:Key) then(kv.1,v) else kv)
 |[],gs,h=>by unfold aU at h;subst h;exact aU.nil
 | (i,d')::kvs,gs,h=>by
  unfold aU at h;obtain⟨x,r,rfl,p,q⟩:=h;rw[nj,nj]
  by_cases e:i=k
  ·rw[if_pos e,if_pos (congrArg Sum.inl e)];exact aU.cons hv (aU.repl hv q)
  ·rw[if_neg e,if_neg (EC e)];exact aU.cons p (aU.repl hv q)
theorem aU.snoc{k:Int}{d:D}{v:V}(hv:Rep K T H S d v):∀{kvs:List (Int×D)} {gs:List (Key×V)},aU K T H S kvs gs→aU K T H S (kvs++[(k,d)]) (gs++[(Sum.inl k,v)])
 |[],gs,h=>by unfold aU at h;subst h;exact aU.cons hv aU.nil
 | (i,d')::kvs,gs,h=>by
  unfold aU at h;obtain⟨x,r,rfl,p,q⟩:=h;exact aU.cons p (aU.snoc hv q)
theorem aU.put{k:Int}{d:D}{v:V}(hv:Rep K T H S d v){kvs:List (Int×D)}{gs:List (Key×V)}(h:aU K T H S kvs gs):aU K T H S (jN kvs k d) (putK gs (Sum.inl k) v):=by
 unfold jN putK;rw[aU.any h];split
 ·exact aU.repl hv h
 ·exact aU.snoc hv h
end
section
variable {CX:ak}{X:Cx}{c:CC}{G:GS}{T:Tx}{lv:Nat}{ρ:List Sl}{S:Addr→Prop}{pos:Pos}{ea eb ec:Expr}{a b d:D}
theorem aAN(hu:X.A.units+1<cLine){i:Int}{kvs:List (Int×D)}(ha:PE X ea (tD X.K T S ρ (.dct kvs)))(hb:PE X eb (tD X.K T S ρ (.int i)))(hp:jG eb)(hd:cV kvs i=some d):PE X (.Subscript ea eb pos) (tD X.K T S ρ d):=
 PE.mono (JE hu ha hb hp) fun σ H Q ⟨re,q⟩=>⟨re,fun x H1 s1 r1=>⟨re.same s1,fun y H2 s2 r2=>by
  have r1:=r1.same s2
  unfold Rep at r1 r2;subst r2;obtain⟨p,gs,rfl,_,e,rk⟩:=r1;obtain⟨v,e1,rv⟩:=(aU.val (k:=i) rk).1 d hd;refine⟨p,v,rfl,?_,q v H2 (s1.trans s2) rv⟩;rw[←e1];exact BC.k (k:=Sum.inl i) e⟩⟩
end
structure Plain (e:Expr):Prop where
 star:∀(env:Env) (es:List Expr),starEach (e::es) env=(false,eval e env)::starEach es env
 marks:∀op,behindInMarks op e=false
 set_:∀env x,foldedSetIterable e env x=pure x
 ix:jG e
theorem dB{n:Nat}{c:CC}{e:Expr}{ir:IE}(h:cE n c e=some ir):Plain e:=by
 cases e<;>first|exact⟨fun _ _=>rfl,fun _=>rfl,fun _ _=>rfl,fun _ _=>rfl⟩|(cases n<;>exact nomatch (show none=some ir from h))
section
variable {CX:ak}{G:GS}{T:Tx}{lv:Nat}
def da(CX:ak)(G:GS)(T:Tx)(lv n:Nat):Prop:=∀(X:Cx) (c:CC) (S:Addr→Prop) (ρ:List Sl) (e:Expr) (ir:IE),XC CX X c G T lv→cE n c e=some ir→∀d,ev G ir ρ=some d →
 PE X e (tD X.K T S ρ d)∧(eV c e=true→∀ds,d=.lst ds→PE X e (c8 X.K T S ρ ds))
def jq(CX:ak)(G:GS)(T:Tx)(lv n:Nat):Prop:=∀(X:Cx) (c:CC) (S:Addr→Prop) (ρ:List Sl) (e:Expr) (ir:IE),XC CX X c G T lv→cT n c e=some ir→∀k,ev G ir ρ=some (.bl k)→PT X e (dj X.K T S ρ k)
def k8(CX:ak)(G:GS)(T:Tx)(lv n:Nat):Prop:=∀(X:Cx) (c:CC) (S:Addr→Prop) (ρ:List Sl) (k:Bool) (vs:List Expr) (ir:IE) (pos:Pos),XC CX X c G T lv →
 (cB n c false k vs=some ir→∀d,ev G ir ρ=some d→PE X (.BoolOp (if k then .And else .Or) vs pos) (tD X.K T S ρ d)) ∧
 (cB n c true k vs=some ir→∀b,ev G ir ρ=some (.bl b)→PW X (.BoolOp (if k then .And else .Or) vs pos) (dj X.K T S ρ b))
def gp(CX:ak)(G:GS)(T:Tx)(lv n:Nat):Prop:=∀(X:Cx) (c:CC) (S:Addr→Prop) (ρ:List Sl) (es:List Expr) (ir:IE),XC CX X c G T lv→cA n c es=some ir→∀d,ev G ir ρ=some d →
 ∃ds,d=.tup ds∧ds.length=es.length∧PA X es (b0 X.K T S ρ ds)∧starEach es X.env=es.map fun e=>(false,eval e X.env)
def FO(_:Src)(_:Expr):Prop:=True
theorem GY{c:CC}{tg:Expr}{au:List Nat}{tp:Bool}{k:Src}(cf:bN c tg=some (au,tp))(h:EJ tp k=true):FO k tg:=trivial
def OkI(CX:ak)(G:GS)(T:Tx)(lv n:Nat):Prop:=∀(X:Cx) (c:CC) (S:Addr→Prop) (ρ:List Sl) (e:Expr) (k:Src) (ir:IE),XC CX X c G T lv→cI n c e=some (k,ir)→∀d ds,ev G ir ρ=some d→items k d=some ds →
 (∀tg,FO k tg→PI X tg e (tI X.K T S ρ ds))∧∀x,foldedSetIterable e X.env x=pure x
theorem DA{n:Nat}(hE:da CX G T lv n)(hA:gp CX G T lv n):gp CX G T lv (n+1):=by
 intro X c S ρ es ir xc h d hd;cases es with
 |nil =>
  cases (show some IE.nil=some ir from h)
  simp only[ev,l5]at hd;exact⟨[],hd.symm,rfl,DI,rfl⟩
 |cons e es =>
  obtain⟨x,hx,h⟩:=aE h;obtain⟨y,hy,rfl⟩:=aI h;simp only[ev,ll,l7]at hd;obtain⟨a,ha,w,hw,hd⟩:=hd;obtain⟨ds,rfl,hl,pa,hs⟩:=hA X c S ρ es y xc hy w hw;simp only[l5]at hd;have st:=(dB hx).star X.env es
  refine⟨a::ds,hd.symm,by simp[hl],uL (hE X c S ρ e x xc hx a ha).1 pa st,?_⟩
  rw[st,hs];rfl
theorem CZ{n:Nat}(hE:da CX G T lv n)(hT:jq CX G T lv n)(hB:k8 CX G T lv n):k8 CX G T lv (n+1):=by
 intro X c S ρ k vs ir pos xc;refine⟨fun h d hd=>?_,fun h b hb=>?_⟩
 ·cases vs with
  |nil=>exact nomatch (show none=some ir from h)
  |cons a r =>
   cases r with
   |nil =>
    exact QU (hE X c S ρ a ir xc h d hd).1
   |cons b r =>
    obtain⟨x,hx,h⟩:=aE h;obtain⟨y,hy,rfl⟩:=aI h;cases k with
    |true =>
     simp only[if_true,ev,ll,l7]at hd;obtain⟨w,hw,hd⟩:=hd;have p1:=(hE X c S ρ a x xc hx w hw).1
     cases w<;>first|(simp only[reduceCtorEq]at hd;done)|skip
     rename_i kk;cases kk with
     |true =>
      simp only[l7]at hd;obtain⟨z,hz,hd⟩:=hd;have p2:=(hB X c S ρ true (b::r) y pos xc).1 hy z hz
      have ic:z=d:=by cases z<;>simp_all
      subst ic;exact PE.mono (CL p1 p2) fun σ H Q ⟨re,q⟩=>⟨re,fun x H1 s1 r1=>by
       unfold Rep at r1;exact⟨true,r1,nB ⟨re.same s1,fun v H' s2 r=>q v H' (s1.trans s2) r⟩⟩⟩
     |false =>
      simp only[l5]at hd;subst hd;exact PE.mono (CL p1 (tb:=fun _ _ _=>False) (fun _ _ _ _ _ _ h=>h.elim)) fun σ H Q ⟨re,q⟩=>⟨re,fun x H1 s1 r1=>by
       unfold Rep at r1;exact⟨false,r1,lV (q _ H1 s1 bP)⟩⟩
    |false =>
     simp only[lr,if_false,ev,ll,l7]at hd;obtain⟨w,hw,hd⟩:=hd;have p1:=(hE X c S ρ a x xc hx w hw).1
     cases w<;>first|(simp only[reduceCtorEq]at hd;done)|skip
     rename_i kk;cases kk with
     |false =>
      simp only[l7]at hd;obtain⟨z,hz,hd⟩:=hd;have p2:=(hB X c S ρ false (b::r) y pos xc).1 hy z hz
      have ic:z=d:=by cases z<;>simp_all
      subst ic;exact PE.mono (NG p1 p2) fun σ H Q ⟨re,q⟩=>⟨re,fun x H1 s1 r1=>by
       unfold Rep at r1;exact⟨false,r1,lV ⟨re.same s1,fun v H' s2 r=>q v H' (s1.trans s2) r⟩⟩⟩
     |true =>
      simp only[l5]at hd;subst hd;exact PE.mono (NG p1 (tb:=fun _ _ _=>False) (fun _ _ _ _ _ _ h=>h.elim)) fun σ H Q ⟨re,q⟩=>⟨re,fun x H1 s1 r1=>by
       unfold Rep at r1;exact⟨true,r1,nB (q _ H1 s1 bP)⟩⟩
 ·cases vs with
  |nil=>exact nomatch (show none=some ir from h)
  |cons a r =>
   cases r with
   |nil =>
    cases k with
    |true=>exact IP (hT X c S ρ a ir xc h b hb)
    |false=>exact pH (hT X c S ρ a ir xc h b hb)
   |cons b' r =>
    obtain⟨x,hx,h⟩:=aE h;obtain⟨y,hy,rfl⟩:=aI h;cases k with
    |true =>
     simp only[if_true,ev,ll,l7]at hb;obtain⟨w,hw,hb⟩:=hb;cases w<;>first|(simp only[reduceCtorEq]at hb;done)|skip
     rename_i kk;have p1:=hT X c S ρ a x xc hx kk hw
     cases kk with
     |true =>
      simp only[l7]at hb;obtain⟨z,hz,hb⟩:=hb;have ic:z=.bl b:=by cases z<;>simp_all
      subst ic;have p2:=(hB X c S ρ true (b'::r) y pos xc).2 hy b hz
      exact PW.mono (BY p1 p2) fun σ H Q ⟨re,q⟩=>⟨re,fun H1 s1=>nB ⟨re.same s1,fun H' s2=>q H' (s1.trans s2)⟩⟩
     |false =>
      simp only[l5,D.bl.injEq]at hb;subst hb;exact PW.mono (BY p1 (tB':=fun _ _ _=>False) (fun _ _ _ _ _ _ _ h=>h.elim)) fun σ H Q ⟨re,q⟩=>⟨re,fun H1 s1=>lV (q H1 s1)⟩
    |false =>
     simp only[lr,if_false,ev,ll,l7]at hb;obtain⟨w,hw,hb⟩:=hb;cases w<;>first|(simp only[reduceCtorEq]at hb;done)|skip
     rename_i kk;have p1:=hT X c S ρ a x xc hx kk hw
     cases kk with
     |false =>
      simp only[l7]at hb;obtain⟨z,hz,hb⟩:=hb;have ic:z=.bl b:=by cases z<;>simp_all
      subst ic;have p2:=(hB X c S ρ false (b'::r) y pos xc).2 hy b hz
      exact PW.mono (rX p1 p2) fun σ H Q ⟨re,q⟩=>⟨re,fun H1 s1=>lV ⟨re.same s1,fun H' s2=>q H' (s1.trans s2)⟩⟩
     |true =>
      simp only[l5,D.bl.injEq]at hb;subst hb;exact PW.mono (rX p1 (tB':=fun _ _ _=>False) (fun _ _ _ _ _ _ _ h=>h.elim)) fun σ H Q ⟨re,q⟩=>⟨re,fun H1 s1=>nB (q H1 s1)⟩
theorem hG(xc:XC CX X c G T lv){x:Str}(h1:eQ.contains x=true)(h2:c.fns.contains x=false)(h3:c.cls.contains x=false):X.mg x=none:=xc.go.bi x h1 h2 h3
theorem CW{n:Nat}(hE:da CX G T lv n)(hA:gp CX G T lv n):OkI CX G T lv (n+1):=by
 intro X c S ρ e k ir xc h d ds hd hi;have h:(match (mT c e).bind fun q=>(srcOf q.1).map fun k=>(k,q.2) with
  |some q=>(match q.1 with
   |.rng=>(cA n c q.2).map fun y=>(Src.rng,IE.tup y)
   |k=>(one? q.2).bind fun a=>(cE n c a).map fun y=>(k,y))
  |none=>(cE n c e).map fun y=>(Src.seq,y))=some (k,ir):=h
 cases hb:((mT c e).bind fun q=>(srcOf q.1).map fun k=>(k,q.2)) with
 |none =>
  rw[hb]at h;obtain⟨y,hy,e1⟩:=aI h;cases e1;exact⟨fun tg _=>IW (hE X c S ρ e ir xc hy d hd).1 hi,(dB hy).set_ X.env⟩
 |some q =>
  rw[hb]at h;obtain⟨r,hr,hq⟩:=aE hb;obtain⟨k',hk,rfl⟩:=aI hq;obtain⟨p1,p2,rfl,hg,ho⟩:=kJ hr;obtain⟨hf,hc⟩:=CP ho;have hx:(r.1 = "range"∧k'=.rng)∨(r.1 = "reversed"∧k'=.rev):=by
   unfold srcOf at hk;split at hk
   ·rename_i e0;cases hk;exact .inl ⟨e0,rfl⟩
   ·split at hk
    ·rename_i e0;cases hk;exact .inr ⟨e0,rfl⟩
    ·cases hk
  obtain⟨x,args⟩:=r
  rcases hx with ⟨rfl,rfl⟩|⟨rfl,rfl⟩
  ·obtain⟨y,hy,e1⟩:=aI h;cases e1;simp only[ev,ma]at hd;obtain⟨as,has,rfl⟩:=hd;have kh:ev G y ρ=some (.tup as):=by
    unfold bA at has;split at has
    ·cases has;assumption
    ·cases has
   obtain⟨as',e1,hl,pa,hs⟩:=hA X _ S ρ args y xc hy _ kh;cases e1;exact⟨fun tg _=>IX (xc.glob hg) (hG xc (by decide +kernel) hf hc) pa hs hi hl,fun _=>rfl⟩
  ·obtain⟨a,ha,h⟩:=aE h;obtain rfl:=bZ ha;obtain⟨y,hy,e1⟩:=aI h;cases e1;have st:=(dB hy).star X.env []
   exact⟨fun tg _=>IZ (xc.glob hg) (hG xc (by decide +kernel) hf hc) (uL (hE X _ S ρ a ir xc hy d hd).1 DI st) st hi,fun _=>rfl⟩
end
section
variable {CX:ak}{X:Cx}{c:CC}{G:GS}{T:Tx}{lv:Nat}{ρ:List Sl}{S:Addr→Prop}{pos p:Pos}{ea:Expr}
noncomputable def KW:Bool→CmpOp
 |false=>.In
 |true=>.NotIn
theorem CM(h:XC CX X c G T lv){x y:Str}{kvs:List (Str×D)}(e:aO c x=true)(hk:G.dk x=some kvs)(ha:PE X ea (tD X.K T S ρ (.str y)))(neg:Bool):PC X (KW neg) ea (.Name x p) (tD X.K T S ρ (.bl (neg != (kvs.lookup y).isSome))):=by
 obtain⟨a,hm,hs,o,vs,hl,hd,hks,_⟩:=h.go.dk x kvs hk;intro pins s σ H Q I ⟨re,q⟩;refine af (ha pins s σ H (fun v H'=>aF H H'∧Rep X.K T H' S (.str y) v) I ⟨re,fun v H' sm r=>⟨sm,r⟩⟩) fun iv s1 ⟨v,H1,I1,ry,sm,r⟩=>?_
 refine fE I1 (h.glob e) hm ?_ (h.gne e);unfold Rep at r;subst r;obtain⟨t,rfl⟩:=ry;have dd:s1.heap.DictOf (bG X.prog X.w) a vs:=Heap.dictOf_iff.mpr ⟨o,I1.kIn a o hl,hd⟩
 have fin:∀b,b=(neg != (kvs.lookup y).isSome)→EP X pins σ Q (.bool b) { s1 with toks:=s1.toks+1 }:=fun b hb=>⟨.bl b,H1,I1.tok _,rfl,q _ H1 sm (by rw[hb];unfold Rep;rfl)⟩
 cases neg with
 |false=>exact wpAny_in_of (knd:=bG X.prog X.w) (gG X.prog X.w y t) hs dd.mapOf (fin _ (by rw[hks];simp))
 |true=>exact wpAny_notIn_of (knd:=bG X.prog X.w) (gG X.prog X.w y t) hs dd.mapOf (fin _ (by rw[hks];simp))
theorem aAJ(h:XC CX X c G T lv){x y:Str}{kvs:List (Str×D)}(e:aO c x=true)(hk:G.dk x=some kvs)(ha:PE X ea (tD X.K T S ρ (.str y)))(neg:Bool):PE X (.Compare ea [KW neg] [.Name x p] pos) (tD X.K T S ρ (.bl (neg != (kvs.lookup y).isSome))):=QY (CM h e hk ha neg) (by cases neg<;>rfl)
theorem RY(h:XC CX X c G T lv){x y:Str}{kvs:List (Str×D)}(e:aO c x=true)(hk:G.dk x=some kvs)(ha:PE X ea (tD X.K T S ρ (.str y)))(neg:Bool):PT X (.Compare ea [KW neg] [.Name x p] pos) (dj X.K T S ρ (neg != (kvs.lookup y).isSome)):=
 PT.mono (QO (CM h e hk ha neg) (by cases neg<;>rfl)) fun σ H Q ⟨re,q⟩=>⟨re,fun v H' sm r=>by
  unfold Rep at r;exact⟨_,r,q H' sm⟩⟩
end
variable {CX:ak}{G:GS}{T:Tx}{lv:Nat}
theorem bJ{o:Option D}{ds:List D}(h:bA o=some ds):o=some (.tup ds):=by
 unfold bA at h;split at h
 ·cases h;rfl
 ·cases h
theorem jT{o:Option Rs}{d:D}(h:iE o=some d):o=some (.ok d):=by
 unfold iE at h;split at h
 ·cases h;rfl
 ·cases h
theorem fW{o:Option D}{i:Int}(h:intOf o=some i):o=some (.int i):=by
 unfold intOf at h;split at h
 ·cases h;rfl
 ·cases h
theorem dC{X:Cx}{K:p6}{c:CC}{S:Addr→Prop}{ρ:List Sl}{e:Expr}{d:D}(h:PE X e (tD X.K T S ρ d))(hf:eV c e=false):PE X e (tD X.K T S ρ d)∧(eV c e=true→∀ds,d=.lst ds→PE X e (c8 X.K T S ρ ds)):=
 ⟨h,fun z=>by rw[hf]at z;cases z⟩
theorem eR{X:Cx}{c:CC}{S:Addr→Prop}{ρ:List Sl}{e:Expr}{ds:List D}(h:PE X e (c8 X.K T S ρ ds)):PE X e (tD X.K T S ρ (.lst ds))∧(eV c e=true→∀es,D.lst ds=.lst es→PE X e (c8 X.K T S ρ es)):=
 ⟨NN h,fun _ es z=>by cases z;exact h⟩
theorem fC{X:Cx}{c:CC}{S:Addr→Prop}{ρ:List Sl}{n:Nat}(hE:da CX G T lv n)(xc:XC CX X c G T lv){lo:Option Expr}{l:IE}{o:Option Int}(h:pG (cE n c) lo=some l)(hp:part lo.isSome (ev G l ρ)=some o):PO X lo (fj X.K T S ρ o):=by
 cases lo with
 |none =>
  simp only[part,Option.isSome_none,lr,if_false,l5]at hp;subst hp;exact aAB
 |some e =>
  simp only[part,Option.isSome_some,if_true,ma]at hp;obtain⟨i,hi,rfl⟩:=hp;exact aAA (hE X c S ρ e l xc h _ (fW hi)).1
theorem zT{c:CC}{x:Str}{i:Nat}(h:SC c x=some i):bC c x=some i:=by
 unfold SC at h;exact(aX h).2
theorem cU{c:CC}{e:Expr}{i:Nat}(h:cO c e=some i):∃x p,e=.Name x p∧bC c x=some i:=by
 obtain⟨x,h1,h⟩:=aE h;exact⟨x.1,x.2,cM h1,zT h⟩
theorem oE{K:p6}{S:Addr→Prop}{H H1 H':Hp}{es:List D}{v:V}{Q:VK}(s1:aF H H1)(s2:aF H1 H')(fr:oV K T S H1 H' (.lst es) v)(q:∀p xs H',aF H H'→H p=none→H' p=some (.lst xs)→aD K T (er H' p) S es xs→Q (.ref p) H'):Q v H':=by
 obtain⟨p,xs,rfl,hn,hs,rl⟩:=fr es rfl;exact q p xs H' (s1.trans s2) (s1.free hn) hs rl
theorem RW{X:Cx}{c:CC}{S:Addr→Prop}{ρ:List Sl}(xc:XC CX X c G T lv){y:Str}{p py q:Pos}{i:Nat}{xs:List D}(hg:aO c "len" = true)(hm:X.mg "len" = none)(e:bC c y=some i)(hs:fA ρ i=some xs) :
  PE X (.Call (.Name "len" p) [.Name y py] [] q) (tD X.K T S ρ (.int xs.length)):=by
 have st:starEach [.Name y py] X.env=(false,eval (.Name y py) X.env)::starEach [] X.env:=rfl
 refine PE.mono (eU eP (xc.glob hg) hm (by decide +kernel) (bU (hU xc e) gE st) (by decide +kernel) (by decide +kernel) rfl rfl) fun σ H Q ⟨re,q⟩=>?_
 obtain⟨p,ys,e1,e2,rl⟩:=jJ re hs;exact⟨_,e1,p,ys,rfl,.inl (SqL.of e2),by rw[←rl.len];exact q _ H (aF.refl H) cY⟩
theorem TX:bootBuiltins "len" = some (.builtin "len"):=by decide +kernel
theorem TY:bootBuiltins "int" = some (.type "int"):=by decide +kernel
theorem FI:bootBuiltins "tuple" = some (.type "tuple"):=by decide +kernel
theorem TV:bootBuiltins "max" = some (.builtin "max"):=by decide +kernel
theorem TR:bootBuiltins "min" = some (.builtin "min"):=by decide +kernel
theorem KI{X:Cx}{c:CC}{S:Addr→Prop}{ρ:List Sl}(xc:XC CX X c G T lv){x:Str}{b:BF}{p pos:Pos}{es:List Expr}{ds:List D}{d:D}(hg:aO c x=true)(hm:X.mg x=none)(hb:nG x=some b)(ha:PA X es (b0 X.K T S ρ ds))(hs:starEach es X.env=es.map fun e=>(false,eval e X.env))(hlen:ds.length=es.length)(hd:bf b ds=some d) :
  PE X (.Call (.Name x p) es [] pos) (tD X.K T S ρ d)∧(x = "list"∨x = "sorted"→∀dO,d=.lst dO→PE X (.Call (.Name x p) es [] pos) (c8 X.K T S ρ dO)):=by
 cases es with
 |nil =>
  have:ds=[]:=ni.mp hlen
  subst this;cases b<;>simp[bf,LR,LS,sZ,qV,EO,LQ,qW]at hd
 |cons e es =>
  obtain⟨h1,h2⟩:=lG (pos:=pos) hs;have gh:=xc.glob hg
  have go:∀{g:List D→Option D},g ds=some d→∀σ H Q,tD X.K T S ρ d σ H Q→tCB (jb X.K T S g) (b0 X.K T S ρ ds) σ H Q:=fun {g} jg σ H Q ⟨re,q⟩=>⟨re,fun vs H1 s1 r1=>⟨ds,d,(re.same s1).dom,r1,jg,fun v H' s2 r2=>q v H' (s1.trans s2) r2⟩⟩
  unfold nG at hb;split at hb
  ·rename_i e0;subst e0;cases hb;exact⟨PE.mono (eU aBt gh hm TX ha (by decide +kernel) (by decide +kernel) h1 h2) (go hd),fun z=>absurd z (by decide +kernel)⟩
  split at hb
  ·rename_i e0;subst e0;cases hb;exact⟨PE.mono (jP aBu gh hm TY ha (by decide +kernel) (by decide +kernel) h1 h2) (go hd),fun z=>absurd z (by decide +kernel)⟩
  split at hb
  ·rename_i e0;subst e0;cases hb;have hl:∃dO,d=.lst dO:=by
    simp only[bf]at hd;unfold sZ at hd;split at hd<;>first|(cases hd;exact⟨_,rfl⟩)|cases hd
   obtain⟨dO,rfl⟩:=hl;have pn:PE X (.Call (.Name "list" p) (e::es) [] pos) (c8 X.K T S ρ dO):=PE.mono (jP UA gh hm yK ha (by decide +kernel) (by decide +kernel) h1 h2) fun σ H Q ⟨re,q⟩=>⟨re,fun vs H1 s1 r1=>⟨ds,dO,r1,hd,fun p ys H' s2 hn bz rl=>by
    refine q p ys H' (s1.trans s2) ?_ bz rl;cases e0:H p with
    |none=>rfl
    |some o=>rw[s1 p o e0]at hn;cases hn⟩⟩
   exact⟨NN pn,fun _ es2 z=>by cases z;exact pn⟩
  split at hb
  ·rename_i e0;subst e0;cases hb;exact⟨PE.mono (jP MJ gh hm FI ha (by decide +kernel) (by decide +kernel) h1 h2) (go hd),fun z=>absurd z (by decide +kernel)⟩
  split at hb
  ·rename_i e0;subst e0;cases hb;exact⟨PE.mono (eU (aBs xc.calm) gh hm TV ha (by decide +kernel) (by decide +kernel) h1 h2) (go hd),fun z=>absurd z (by decide +kernel)⟩
  split at hb
  ·rename_i e0;subst e0;cases hb;exact⟨PE.mono (eU (aBr xc.calm) gh hm TR ha (by decide +kernel) (by decide +kernel) h1 h2) (go hd),fun z=>absurd z (by decide +kernel)⟩
  split at hb
  ·cases hb;cases hd
  split at hb
  ·cases hb;cases hd
  ·cases hb
theorem aBq{x:Str}{b:BF}(h:nG x=some b):eQ.contains x=true:=by
 unfold nG at h
 repeat' split at h
 all_goals first|cases h;done|(rename_i e;subst e;decide +kernel)
theorem WC{x:Str}(h:gS.contains x=true):eQ.contains x=true:=by
 rw[List.contains_iff_mem]at h ⊢;unfold gS at h;simp only[my,not_mem_nil,or_false]at h;rw[←List.contains_iff_mem]
 rcases h with h|h|h|h|h<;>subst h<;>decide +kernel
section
variable {n:Nat}{X:Cx}{c:CC}{S:Addr→Prop}{ρ:List Sl}{ir:IE}{d:D}
abbrev Tells(CX:ak)(T:Tx)(X:Cx)(c:CC)(S:Addr→Prop)(ρ:List Sl)(e:Expr)(d:D):Prop:=PE X e (tD X.K T S ρ d)∧(eV c e=true→∀ds,d=.lst ds→PE X e (c8 X.K T S ρ ds))
theorem ZR(hE:da CX G T lv n)(hA:gp CX G T lv n)(xc:XC CX X c G T lv){x:Str}{p q:Pos}{args:List Expr}{b:BF}(hg:aO c x=true)(hf:c.fns.contains x=false)(hc:c.cls.contains x=false)(hb:nG x=some b)(h:zI (cE n c) c b args (cA n c args)=some ir)(hd:ev G ir ρ=some d):Tells CX T X c S ρ (.Call (.Name x p) args [] q) d:=by
 have hm:=hG xc (aBq hb) hf hc
 have bcl:∀{y:IE},cA n c args=some y→ir=.bcall b y→Tells CX T X c S ρ (.Call (.Name x p) args [] q) d:=fun {y} hy e=>by
  subst e;simp only[ev,ll,l7]at hd;obtain⟨ds,ay,hd⟩:=hd;obtain⟨ds',e1,hl,pa,hs⟩:=hA X _ S ρ args y xc hy _ (bJ ay);cases e1;have r:=KI (p:=p) (pos:=q) xc hg hm hb pa hs hl hd
  refine⟨r.1,fun z es e=>r.2 ?_ es e⟩
  have z:((c.fns.contains x&&c.fresh.contains x) || (aO c x&&(x == "list" || x == "sorted")&&!own c x))=true:=z
  simp only[own,hf,hc,hg,Bool.false_and,Bool.false_or,Bool.true_and,Bool.or_false,Bool.not_false,Bool.and_true,or_eq_true,nu]at z;exact z
 have mb:(cA n c args).map (fun x=>IE.bcall b x)=some ir→Tells CX T X c S ρ (.Call (.Name x p) args [] q) d:=fun h=>by
  obtain⟨y,hy,e⟩:=aI h;exact bcl hy e
 unfold zI at h;cases hmu:NP c args with
 |some i =>
  rw[hmu]at h;obtain⟨e,h1,h2⟩:=aE hmu;obtain⟨y,py,rfl,dq⟩:=cU h2;obtain rfl:=bZ h1;cases b with
  |int=>exact mb h
  |list=>exact mb h
  |tuple=>exact mb h
  |max=>exact mb h
  |min=>exact mb h
  |str=>exact mb h
  |any=>exact mb h
  |len =>
   cases (show some (IE.lenm i)=some ir from h)
   simp only[ev,ll,l7,l5]at hd;obtain⟨xs,j7,rfl⟩:=hd;have hx:x = "len":=by
    unfold nG at hb
    repeat' split at hb
    all_goals first|assumption|cases hb
   subst hx;exact⟨RW xc hg hm dq j7,fun _ ds z=>by cases z⟩
  |sorted=>exact mb h
 |none =>
  rw[hmu]at h;cases hr:uD c args with
  |none =>
   rw[hr]at h;exact mb (by cases b<;>exact h)
  |some a =>
   rw[hr]at h;cases b with
   |int=>exact mb h
   |len=>exact mb h
   |tuple=>exact mb h
   |max=>exact mb h
   |min=>exact mb h
   |str=>exact mb h
   |any=>exact mb h
   |sorted=>exact mb h
   |list =>
   clear bcl mb;obtain⟨z,hz,rfl⟩:=aI (show (cE n c a).map (fun x=>IE.walk .rev x)=some ir from h)
   simp only[ev,ll,l7,ma]at hd;obtain⟨w,hw,ds,ay,rfl⟩:=hd;have hx:x = "list":=by
    unfold nG at hb
    repeat' split at hb
    all_goals first|assumption|cases hb
   subst hx;obtain⟨e,h1,r1⟩:=aE hr;obtain⟨r,h2,r2⟩:=aE r1;obtain⟨hn,r3⟩:=aX r2;obtain⟨p1,p2,e5,jg,ho⟩:=kJ h2;obtain⟨y,as⟩:=r;have e6:y = "reversed":=nu.mp hn
   have e7:as=[a]:=bZ r3
   have e8:=bZ h1
   clear hr h1 r1 h2 r2 hn r3 hmu h;subst e6 e7;dsimp only at e5 jg ho;subst e5;subst e8;obtain⟨fq,hc'⟩:=CP ho;have st:=(dB hz).star X.env []
   exact eR (uI xc.calm (xc.glob jg) (hG xc (by decide +kernel) fq hc') (xc.glob hg) hm (uL (hE X _ S ρ a z xc hz w hw).1 DI st) st ay)
theorem CU(hE:da CX G T lv n)(hA:gp CX G T lv n)(xc:XC CX X c G T lv){x:Str}{p q:Pos}{args:List Expr}(h:vV (cE n c) c x args (cA n c args)=some ir)(hd:ev G ir ρ=some d):Tells CX T X c S ρ (.Call (.Name x p) args [] q) d:=by
 obtain⟨hg,h⟩:=aX h;cases dg:c.fns.contains x with
 |true =>
  rw[dg]at h;obtain⟨y,hy,rfl⟩:=aI (show (cA n c args).map (fun y=>IE.call x y)=some ir from h)
  simp only[ev,ll,l7]at hd;obtain⟨ds,ay,hd⟩:=hd;obtain⟨ds',e1,hl,pa,hs⟩:=hA X _ S ρ args y xc hy _ (bJ ay);cases e1;have r:=SB (p:=p) (pos:=q) xc hg dg pa hs hl (jT hd)
  refine⟨PE.mono r fun σ H Q ⟨re,q⟩=>⟨re,fun v H1 H' s1 s2 rp _=>q v H' (s1.trans s2) rp⟩,fun hf es e=>?_⟩
  subst e;have fq:G.ff x=true:=by
   have z:((c.fns.contains x&&c.fresh.contains x) || (aO c x&&(x == "list" || x == "sorted")&&!own c x))=true:=hf
   simp only[own,dg,Bool.true_and,Bool.true_or,ng,Bool.and_false,Bool.or_false]at z;exact(xc.go.frs x z).1
  exact PE.mono r fun σ H Q ⟨re,q⟩=>⟨re,fun v H1 H' s1 s2 rp fr=>oE s1 s2 (fr fq) q⟩
 |false =>
  rw[dg]at h;cases ao:c.cls.contains x with
  |true =>
   rw[ao]at h;obtain⟨y,hy,rfl⟩:=aI (show (cA n c args).map (fun y=>IE.mk x y)=some ir from h)
   simp only[ev,ll,l7]at hd;obtain⟨ds,ay,hd⟩:=hd;obtain⟨ds',e1,hl,pa,hs⟩:=hA X _ S ρ args y xc hy _ (bJ ay);cases e1;refine dC (K:=X.K) (aDP xc hg ao pa hs hl (jT hd)) ?_;show ((c.fns.contains x&&c.fresh.contains x) || (aO c x&&(x == "list" || x == "sorted")&&!own c x))=false
   simp only[own,dg,ao,Bool.false_and,Bool.or_true,ng,Bool.and_false,Bool.or_false]
  |false =>
   rw[ao]at h;cases hi:x == "isinstance" with
   |false =>
    rw[hi]at h;obtain⟨b,hb,h⟩:=aE (show (nG x).bind (fun b=>zI (cE n c) c b args (cA n c args))=some ir from h)
    exact ZR hE hA xc hg dg ao hb h hd
   |true =>
    rw[hi]at h;obtain rfl:=nu.mp hi;have h:BU (cE n c) c args=some ir:=h
    match args,h with
    |[a,y],h =>
     obtain⟨y',cH,h⟩:=aE h;obtain⟨hk,h⟩:=aX h;obtain⟨hk,hk3⟩:=bS hk;obtain⟨hk1,iy⟩:=bS hk;obtain⟨z,hz,rfl⟩:=aI h;obtain rfl:=cM cH;obtain⟨ho1,d5⟩:=CP (NL hk3);simp only[ev,ll,l7,ma]at hd;obtain⟨w,hw,k,hk,rfl⟩:=hd;have ht:∃tn,iF w=some tn:=by
      cases w<;>first|exact⟨_,rfl⟩|(simp only[gL,reduceCtorEq]at hk)
     obtain⟨tn,ht⟩:=ht;have st:=(dB hz).star X.env [.Name y'.1 y'.2]
     exact⟨aAH xc hg (hG xc (by decide +kernel) dg ao) hk1 (hG xc (WC iy) ho1 d5) iy (hE X _ S ρ a z xc hz w hw).1 (by rw[st];rfl) ht hk,fun _ ds z=>by cases z⟩
theorem JW(hE:da CX G T lv n)(hA:gp CX G T lv n)(xc:XC CX X c G T lv){o:Expr}{m:Str}{ap q:Pos}{args:List Expr}(h:(if gU o&&decide (args.length<30)&&(ap.endLine == q.line) then(cE n c o).bind fun x=>(cA n c args).map fun y=>IE.meth x m y else none)=some ir)(hd:ev G ir ρ=some d):Tells CX T X c S ρ (.Call (.Attribute o m ap) args [] q) d:=by
 obtain⟨hc,h⟩:=aX h;obtain⟨hc,hc3⟩:=bS hc;obtain⟨hc1,d9⟩:=bS hc;obtain⟨x,hx,h⟩:=aE h;obtain⟨y,hy,rfl⟩:=aI h;simp only[ev,ll,l7]at hd;obtain⟨w,hw,hd⟩:=hd;cases w<;>first|exact nomatch (show none=some d from hd)|skip
 rename_i cn fs;obtain⟨hnone,hd⟩:=aX hd;obtain⟨ds,ay,hd⟩:=aE hd;obtain⟨ds',e1,hl,pa,hs⟩:=hA X _ S ρ args y xc hy _ (bJ ay);cases e1;have r:=RV (pos:=q) xc (sN hc1 hs (of_decide_eq_true d9) hc3) (hE X _ S ρ o x xc hx _ hw).1 (Option.isNone_iff_eq_none.mp hnone) pa hs hl (jT hd)
 refine⟨PE.mono r fun σ H Q ⟨re,q⟩=>⟨re,fun v H1 H' s1 s2 rp _=>q v H' (s1.trans s2) rp⟩,fun hf es e=>?_⟩
 subst e;have fq:=(xc.go.frs m hf).2 cn
 exact PE.mono r fun σ H Q ⟨re,q⟩=>⟨re,fun v H1 H' s1 s2 rp fr=>oE s1 s2 (fr fq) q⟩
theorem EL{es:List Expr}(h:few es=true):es.length≤sizeLine:=mw (of_decide_eq_true h) (mw (by decide) gR)
theorem RO(hE:da CX G T lv n)(xc:XC CX X c G T lv){a i:Expr}{p:Pos}(h:BS (cE n c) (cO c a) (cE n c a) i=some ir)(hd:ev G ir ρ=some d):Tells CX T X c S ρ (.Subscript a i p) d:=by
 unfold BS at h;cases dq:jv i with
 |some q =>
  rw[dq]at h;obtain⟨lo,hi,st,pp⟩:=q;obtain rfl:=BO dq;cases st with
  |some _=>exact nomatch (show none=some ir from h)
  |none =>
   obtain⟨l,hl,h⟩:=aE (show (pG (cE n c) lo).bind _=some ir from h)
   obtain⟨u,hu,h⟩:=aE h;unfold XW at h;cases hm:cO c a with
   |some j =>
    rw[hm]at h;cases h;obtain⟨x,px,rfl,dq⟩:=cU hm;simp only[ev,ll,l7,l5]at hd;obtain⟨xs,j7,ol,j9,ou,iq,rfl⟩:=hd;exact eR (aAy xc dq j7 (fC hE xc hl j9) (fC hE xc hu iq))
   |none =>
    rw[hm]at h;obtain⟨x,hx,rfl⟩:=aI h;simp only[ev,ll,l7]at hd;obtain⟨w,hw,ol,j9,ou,iq,hd⟩:=hd;have pa:=(hE X _ S ρ a x xc hx w hw).1
    cases w<;>first|exact nomatch (show none=some d from hd)|skip
    ·cases hd;exact eR (NM pa (fC hE xc hl j9) (fC hE xc hu iq) (.inl rfl))
    ·simp only at hd;split at hd
     ·cases hd
     ·rename_i hw';cases hd;exact⟨aAz pa (fC hE xc hl j9) (fC hE xc hu iq) hw',fun _ ds z=>by cases z⟩
    ·cases hd;exact eR (NM pa (fC hE xc hl j9) (fC hE xc hu iq) (.inr rfl))
 |none =>
  rw[dq]at h;obtain⟨k,hk,h⟩:=aE h;refine dC (K:=X.K) ?_ (by show (jv i).isSome=false;rw[dq];rfl)
  unfold XZ at h;cases hm:cO c a with
  |some j =>
   rw[hm]at h;cases h;obtain⟨x,px,rfl,dq⟩:=cU hm;simp only[ev,ll,l7]at hd;obtain⟨xs,j7,ii,hii,hd⟩:=hd;exact aAG xc dq (hE X _ S ρ i k xc hk _ (fW hii)).1 (dB hk).ix j7 hd
  |none =>
   rw[hm]at h;obtain⟨x,hx,rfl⟩:=aI h;simp only[ev,ll,l7]at hd;obtain⟨u,hu,v,hv,hd⟩:=hd;have pa:=(hE X _ S ρ a x xc hx u hu).1
   have pi:=(hE X _ S ρ i k xc hk v hv).1
   cases v<;>first|(cases u<;>exact nomatch (show none=some d from hd))|skip
   cases u<;>first|exact nomatch (show none=some d from hd)|skip
   ·exact RX pa pi (dB hk).ix (.inl rfl) hd
   ·exact RX pa pi (dB hk).ix (.inr (.inl rfl)) hd
   ·exact aAN (NT xc.room) pa pi (dB hk).ix hd
   ·exact RX pa pi (dB hk).ix (.inr (.inr rfl)) hd
theorem yG(hE:da CX G T lv n)(hT:jq CX G T lv n)(hI:OkI CX G T lv n)(xc:XC CX X c G T lv){elt:Expr}{gs:List Comprehension}{sc:Scope}{p:Pos}(h:cE (n+1) c (.ListComp elt gs sc p)=some ir)(hd:ev G ir ρ=some d) :
  ∃tg iter ifs fr au tp ds outs f,gs=[⟨tg,iter,ifs,0⟩]∧d=.lst outs∧iL c sc=true∧freeOf c sc (sc.names.filter fun x=>x.2 == .free)=some fr∧au.all (fun i=>(fr.lookup i).isNone)=true∧bN { c with N:=ownNames sc,sc:=sc } tg=some (au,tp) ∧
   PI X tg iter (tI X.K T S ρ ds)∧(∀x,foldedSetIterable iter X.env x=pure x)∧bR f ds=some outs ∧
   (∀d o,f d=some o→∃ρ1,bB au tp d (frame (ownNames sc).length fr ρ)=some ρ1∧TurnOk CX G T lv { c with N:=ownNames sc,sc:=sc } X.K ifs elt ρ1 o):=by
 obtain⟨g,gg,h⟩:=aE h;obtain⟨tg,iter,ifs,as⟩:=g
 by_cases ha:as=0
 ·subst ha;obtain⟨⟨au,tp⟩,cf,h⟩:=aE (show BV c sc ⟨tg,iter,ifs,0⟩ (cI n c iter) (cT n { c with N:=ownNames sc,sc:=sc }) (cE n { c with N:=ownNames sc,sc:=sc } elt)=some ir from h)
  obtain⟨⟨k,src⟩,hk,h⟩:=aE h;obtain⟨test,bt,h⟩:=aE h;obtain⟨el,hel,h⟩:=aE h;obtain⟨fr,ar,h⟩:=aE h;obtain⟨hok,h⟩:=aX h;have tgk:FO k tg:=trivial
  obtain⟨ho1,d5⟩:=bS hok;cases h;obtain⟨s,hs,hd⟩:=aE hd;obtain⟨ds,ay,hd⟩:=aE hd;obtain⟨outs,houts,rfl⟩:=aI hd;obtain⟨hi,hset⟩:=hI X _ S ρ iter k src xc hk s ds hs ay;refine⟨tg,iter,ifs,fr,au,tp,ds,outs,_,bZ gg,rfl,ho1,ar,d5,cf,hi tg tgk,hset,houts,?_⟩;intro d o hf;obtain⟨ρ1,h1,hf⟩:=aE hf;obtain⟨w,hw,hf⟩:=aE hf;refine⟨ρ1,h1,fun X' S' xc' hK=>?_⟩
  cases w<;>first|exact nomatch (show none=some o from hf)|skip
  rename_i kk;have ho:kk=o.isSome∧∀y,o=some y→ev G el ρ1=some y:=by
   cases kk with
   |true =>
    obtain⟨y,hy,rfl⟩:=aI hf;exact⟨rfl,fun z e=>by cases e;exact hy⟩
   |false =>
    cases hf;exact⟨rfl,fun z e=>by cases e⟩
  obtain⟨rfl,hy⟩:=ho;refine⟨?_,fun y e=>(hE X' _ S' ρ1 elt el xc' hel y (hy y e)).1⟩
  match ifs,bt with
  |[],bt =>
   cases bt;simp only[ev,Lit.d,l5,D.bl.injEq]at hw;exact .inl ⟨rfl,hw.symm⟩
  |[e],bt=>exact .inr ⟨e,rfl,hT X' _ S' ρ1 e test xc' bt _ hw⟩
 ·exact nomatch (show none=some ir from(if_neg ha).symm.trans h)
theorem CT(hE:da CX G T lv n)(xc:XC CX X c G T lv){a:Expr}{os:List CmpOp}{bs:List Expr}{p:Pos}(h:BW c (cE n c) (cE n c a) os bs=some ir)(hd:ev G ir ρ=some d):PE X (.Compare a os bs p) (tD X.K T S ρ d)∧∀k,d=.bl k→PT X (.Compare a os bs p) (dj X.K T S ρ k):=by
 match os,bs,h with
 |[o],[b],h =>
  obtain⟨x,hx,h⟩:=aE h;cases hi:aBa c o b with
  |some q =>
   rw[hi]at h;cases h;obtain⟨k,hk,hi⟩:=aE hi;obtain⟨r,hr,hi⟩:=aE hi;obtain⟨hg,hi⟩:=aX hi;cases hi;obtain rfl:=cM hr;obtain rfl:o=KW k:=by cases o<;>first|exact nomatch (show none=some k from hk)|(cases hk;rfl)
   cases hu:ev G x ρ with
   |none=>simp only[ev,hu]at hd;cases hd
   |some u =>
    simp only[ev,hu,ll,og]at hd;cases u<;>first|exact nomatch (show none=some d from hd)|skip
    rename_i s;obtain⟨kvs,hkv,rfl⟩:=aI hd;have pa:=(hE X _ S ρ a x xc hx _ hu).1
    exact⟨aAJ xc (bS hg).1 hkv pa k,fun k' e=>by cases e;exact RY xc (bS hg).1 hkv pa k⟩
  |none =>
  rw[hi]at h;obtain⟨y,hy,rfl⟩:=aI h;simp only[ev,ll,l7]at hd;obtain⟨u,hu,v,hv,hd⟩:=hd;have pa:=(hE X _ S ρ a x xc hx u hu).1
  have pb:=(hE X _ S ρ b y xc hy v hv).1
  exact⟨aAO xc.units pa pb ((dB hy).marks o) hd,fun k e=>by subst e;exact SA xc.units pa pb ((dB hy).marks o) hd⟩
 |[o,o'],[b,b'],h =>
  obtain⟨x,hx,h⟩:=aE h;obtain⟨y,hy,h⟩:=aE h;obtain⟨z,hz,rfl⟩:=aI h;simp only[ev,ll,l7]at hd;obtain⟨v,hv,u,hu,w,hw,hd⟩:=hd;have pa:=(hE X _ S ρ a x xc hx u hu).1
  have pb:=(hE X _ S ρ b y xc hy v hv).1
  have lm:lastMarks [o,o'] [b,b']=false:=(dB hz).marks o'
  cases w<;>first|exact nomatch (show none=some d from hd)|skip
  rename_i kk;cases kk with
  |true =>
   obtain⟨w,hw',hd⟩:=aE hd;have pc:=(hE X _ S ρ b' z xc hz w hw').1
   exact⟨KG xc.units pa pb pc lm hw (by rw[if_pos rfl];exact hd),fun k e=>by subst e;exact DJ xc.units pa pb pc lm hw (by rw[if_pos rfl];exact hd)⟩
  |false =>
   cases hd;refine⟨PE.mono (sG (dY (T:=T) (S:=S) xc.units o) (dY (T:=T) (S:=S) xc.units o') pa pb (tc:=fun _ _ _=>False) (fun _ _ _ _ _ _ h=>h.elim) lm) fun σ H Q ⟨re,q⟩=>⟨re,fun x H1 s1 r1=>⟨re.same s1,fun y H2 s2 r2=>⟨u,v,.bl false,((re.same s1).same s2).dom,r1.same s2,r2,hw,fun z H3 s3 r3=>?_⟩⟩⟩,fun k e=>?_⟩
   ·unfold Rep at r3;exact⟨false,r3,lV (q _ H3 (s1.trans (s2.trans s3)) bP)⟩
   ·cases e;refine PT.mono (rZ (dY (T:=T) (S:=S) xc.units o) (dY (T:=T) (S:=S) xc.units o') pa pb (tc:=fun _ _ _=>False) (fun _ _ _ _ _ _ h=>h.elim) lm) fun σ H Q ⟨re,q⟩=>⟨re,fun x H1 s1 r1=>⟨re.same s1,fun y H2 s2 r2=>⟨u,v,.bl false,((re.same s1).same s2).dom,r1.same s2,r2,hw,fun z H3 s3 r3=>?_⟩⟩⟩
    unfold Rep at r3;exact⟨false,r3,lV ⟨_,rfl,q H3 (s1.trans (s2.trans s3))⟩⟩
end
theorem CY{n:Nat}(hE:da CX G T lv n)(hT:jq CX G T lv n)(hB:k8 CX G T lv n)(hA:gp CX G T lv n)(hI:OkI CX G T lv n):da CX G T lv (n+1):=by
 intro X c S ρ e ir xc h d hd;cases e<;>first|exact nomatch (show none=some ir from h)|skip
 case Name x p =>
  refine dC (K:=X.K) ?_ rfl;have h:uF c x=some ir:=h
  unfold uF at h;cases hs:bC c x with
  |some i =>
   rw[hs]at h;cases h;simp only[ev]at hd;exact aAv xc hs hd
  |none =>
   rw[hs]at h;obtain⟨hg,h⟩:=aX h;cases h;simp only[ev]at hd;exact aAK xc (bS hg).1 (bS hg).2 hd
 case Constant v k p =>
  refine dC (K:=X.K) ?_ rfl;have h:vU v=some ir:=h
  cases v<;>first|exact nomatch (show none=some ir from h)|skip
  all_goals
   cases h;simp only[ev,Lit.d,l5]at hd;subst hd
  ·exact aAD
  ·exact aDQ
  ·exact aAI
  ·exact aAx
 case BinOp a o b p =>
  refine dC (K:=X.K) ?_ rfl;obtain⟨o',ho,h⟩:=aE h;obtain⟨x,hx,h⟩:=aE h;obtain⟨y,hy,rfl⟩:=aI h;simp only[ev,ll,l7]at hd;obtain⟨u,hu,v,hv,hd⟩:=hd;exact aAP ho (hE X _ S ρ a x xc hx u hu).1 (hE X _ S ρ b y xc hy v hv).1 hd
 case UnaryOp o a p =>
  refine dC (K:=X.K) ?_ rfl;have h:XU (cE n c a) o=some ir:=h
  cases o<;>first|exact nomatch (show none=some ir from h)|skip
  ·obtain⟨x,hx,rfl⟩:=aI h;simp only[ev,ll,l7,ma]at hd;obtain⟨u,⟨w,hw,k,hk,rfl⟩,hd⟩:=hd;cases hd;exact aAC (hE X _ S ρ a x xc hx w hw).1 hk
  ·obtain⟨x,hx,rfl⟩:=aI h;simp only[ev,ll,l7]at hd;obtain⟨u,hu,hd⟩:=hd;cases u<;>first|exact nomatch (show none=some d from hd)|skip
   cases hd;exact aAE (hE X _ S ρ a x xc hx _ hu).1
 case BoolOp o vs p =>
  refine dC (K:=X.K) ?_ rfl;cases o with
  |And=>exact(hB X _ S ρ true vs ir p xc).1 h d hd
  |Or=>exact(hB X _ S ρ false vs ir p xc).1 h d hd
 case IfExp t a b p =>
  refine dC (K:=X.K) ?_ rfl;obtain⟨x,hx,h⟩:=aE h;obtain⟨y,hy,h⟩:=aE h;obtain⟨z,hz,rfl⟩:=aI h;simp only[ev,ll,l7]at hd;obtain⟨u,hu,hd⟩:=hd;cases u<;>first|exact nomatch (show none=some d from hd)|skip
  rename_i k;have pt:=hT X _ S ρ t x xc hx k hu
  cases k with
  |true=>exact NO pt (fun _=>(hE X _ S ρ a y xc hy d hd).1) (fun z=>by cases z)
  |false=>exact NO pt (fun z=>by cases z) (fun _=>(hE X _ S ρ b z xc hz d hd).1)
 case Compare a os bs p=>exact dC (K:=X.K) (CT hE xc h hd).1 rfl
 case Tuple es k p =>
  refine dC (K:=X.K) ?_ rfl;obtain⟨hl0,h⟩:=aX h;obtain⟨x,hx,rfl⟩:=aI h;simp only[ev,ma]at hd;obtain⟨ds,ay,rfl⟩:=hd;obtain⟨ds',e1,hl,pa,hs⟩:=hA X _ S ρ es x xc hx _ (bJ ay);cases e1;exact aAw pa (by rw[hl];exact EL hl0)
 case List es p =>
  obtain⟨hl0,h⟩:=aX h;obtain⟨x,hx,rfl⟩:=aI h;simp only[ev,ma]at hd;obtain⟨ds,ay,rfl⟩:=hd;obtain⟨ds',e1,hl,pa,hs⟩:=hA X _ S ρ es x xc hx _ (bJ ay);cases e1;exact eR (aAF pa (by rw[hl];exact EL hl0))
 case Subscript a i p=>exact RO hE xc h hd
 case Attribute a f p =>
  refine dC (K:=X.K) ?_ rfl;obtain⟨dt,h⟩:=aX h;obtain⟨x,hx,rfl⟩:=aI h;simp only[ev,ll,l7]at hd;obtain⟨u,hu,hd⟩:=hd;have pa:=(hE X _ S ρ a x xc hx u hu).1
  cases u<;>first|exact nomatch (show none=some d from hd)|skip
  obtain⟨hf,hd⟩:=aX hd;exact aAL xc pa (jE dt) hf hd
 case ListComp elt gs sc p =>
  obtain⟨tg,iter,ifs,fr,au,tp,ds,outs,f,rfl,rfl,h1,h2,h3,h4,h5,h6,h7,h8⟩:=yG (S:=S) hE hT hI xc h hd;exact eR (JF xc h1 h2 h3 h4 h5 h6 h7 h8)
 case Call f args kw p =>
  obtain⟨hkw,h⟩:=aX h;obtain rfl:=jB hkw;cases f<;>first|exact nomatch (show none=some ir from h)|skip
  ·exact JW hE hA xc h hd
  ·exact CU hE hA xc h hd
end Z
namespace Z
open PySem PySem.Spec PyProof.Rows L2
variable {CX:ak}{G:GS}{T:Tx}{lv:Nat}
theorem CV{n:Nat}(hE:da CX G T lv n)(hT:jq CX G T lv n)(hB:k8 CX G T lv n):jq CX G T lv (n+1):=by
 intro X c S ρ e ir xc h k hk;have tr:(cE n c e).map .tr=some ir→(∀whole,isTrue e X.env whole=(do let v ←whole;standAt e.pos;holding [v] (truthy v)))→PT X e (dj X.K T S ρ k):=fun h he=>by
  obtain⟨x,hx,rfl⟩:=aI h;simp only[ev,ll,l7,ma,D.bl.injEq]at hk;obtain⟨w,hw,k',kb,rfl⟩:=hk;exact KC (hE X c S ρ e x xc hx w hw).1 he kb
 cases e<;>first|exact tr h fun _=>rfl|skip
 case BoolOp o vs p =>
  cases o with
  |And=>exact PW.pt ((hB X c S ρ true vs ir p xc).2 h k hk)
  |Or=>exact PW.pt ((hB X c S ρ false vs ir p xc).2 h k hk)
 case UnaryOp o a p =>
  cases o<;>first|exact tr h fun _=>rfl|skip
  obtain⟨x,hx,rfl⟩:=aI h;simp only[ev,ll,l7]at hk;obtain⟨w,hw,hk⟩:=hk;cases w<;>first|exact nomatch (show none=some (D.bl k) from hk)|skip
  cases hk;exact RU (hT X c S ρ a x xc hx _ hw)
 case IfExp _ _ _ _=>exact nomatch (show none=some ir from h)
 case Compare a os bs p=>exact(CT hE xc h hk).2 k rfl
theorem cL:∀n,da CX G T lv n∧jq CX G T lv n∧k8 CX G T lv n∧gp CX G T lv n∧OkI CX G T lv n
 | 0=>⟨fun X c S ρ e ir xc h=>(nomatch (show none=some ir from h)),fun X c S ρ e ir xc h=>(nomatch (show none=some ir from h)),fun X c S ρ k vs ir pos xc=>⟨fun h=>(nomatch (show none=some ir from h)),fun h=>(nomatch (show none=some ir from h))⟩,fun X c S ρ es ir xc h=>(nomatch (show none=some ir from h)),fun X c S ρ e k ir xc h=>(nomatch (show none=some (k,ir) from h))⟩
 |n+1=>by
  obtain⟨hE,hT,hB,hA,hI⟩:=cL n;exact⟨CY hE hT hB hA hI,CV hE hT hB,CZ hE hT hB,DA hE hA,CW hE hA⟩
end Z
namespace Z
open PySem PySem.Spec PyProof.Rows L2
def D0(S₀:Addr→Prop)(H₀:Hp):Prop:=∀a,S₀ a→∃o,H₀ a=some o
def Dm(S₀:Addr→Prop)(H₀:Hp)(ρ:List Sl)(σ:L2.St):Prop:=∀a,S₀ a→(∃o,H₀ a=some o)∨∃o,ρ[0]?=some (.mu o)∧σ[0]?=some (some (.ref a))
def K1(S₀:Addr→Prop)(H₀:Hp)(i:Nat):Prop:=i≠0∨D0 S₀ H₀
def K2(S₀:Addr→Prop)(H₀:Hp)(is:List Nat):Prop:=0∉is∨D0 S₀ H₀
def K0(S₀:Addr→Prop)(H₀:Hp)(is:IS):Prop:=bV is=true∨D0 S₀ H₀
theorem FA{S₀:Addr→Prop}{H₀:Hp}{ρ:List Sl}{σ:L2.St}{i:Nat}{s:Sl}{v:Option V}(h0:K1 S₀ H₀ i)(d:Dm S₀ H₀ ρ σ):Dm S₀ H₀ (ρ.set i s) (σ.set i v):=fun a z=>by
 rcases d a z with q|⟨o,q1,q2⟩
 ·exact .inl q
 ·rcases h0 with n|h0
  ·exact .inr ⟨o,by rw[mq n];exact q1,by rw[mq n];exact q2⟩
  ·exact .inl (h0 a z)
theorem tJ{S₀:Addr→Prop}{H₀:Hp}{ρ:List Sl}{σ:L2.St}{i:Nat}{ds ds':D}(hi:ρ[i]?=some (.mu ds))(d:Dm S₀ H₀ ρ σ):Dm S₀ H₀ (ρ.set i (.mu ds')) σ:=fun a z=>by
 rcases d a z with q|⟨o,q1,q2⟩
 ·exact .inl q
 ·by_cases e:i=0
  ·subst e;exact .inr ⟨ds',mn (l0.mp hi).1,q2⟩
  ·exact .inr ⟨o,by rw[mq e];exact q1,q2⟩
theorem DV{S₀:Addr→Prop}{H₀:Hp}{a b c:IS}(e:bV c=(bV a&&bV b))(h:K0 S₀ H₀ c):K0 S₀ H₀ a∧K0 S₀ H₀ b:=by
 rcases h with h|h
 ·rw[e]at h;exact⟨.inl (bS h).1,.inl (bS h).2⟩
 ·exact⟨.inr h,.inr h⟩
theorem DT{S₀:Addr→Prop}{H₀:Hp}{a b:IS}(h:K0 S₀ H₀ (.seq a b)):K0 S₀ H₀ a∧K0 S₀ H₀ b:=DV rfl h
theorem DU{S₀:Addr→Prop}{H₀:Hp}{a b:IS}{t:IE}(h:K0 S₀ H₀ (.iff t a b)):K0 S₀ H₀ a∧K0 S₀ H₀ b:=DV rfl h
theorem sR{S₀:Addr→Prop}{H₀:Hp}{i:Nat}{c:IS}(e:bV c=(i != 0))(h:K0 S₀ H₀ c):K1 S₀ H₀ i:=h.imp (fun h=>by rw[e]at h;simpa using h) id
theorem aAV{S₀:Addr→Prop}{H₀:Hp}{is:List Nat}{c:IS}(e:bV c=!is.contains 0)(h:K0 S₀ H₀ c):K2 S₀ H₀ is:=h.imp (fun h=>by rw[e]at h;simpa using h) id
theorem wI{S₀:Addr→Prop}{H₀:Hp}{tg:List Nat}{tp:Bool}{k:Src}{s:IE}{b:IS}(h:K0 S₀ H₀ (.loop tg tp k s b)):K2 S₀ H₀ tg∧K0 S₀ H₀ b:=by
 rcases h with h|h
 ·have h:(!tg.contains 0&&bV b)=true:=h
  exact⟨.inl (by simpa using (bS h).1),.inl (bS h).2⟩
 ·exact⟨.inr h,.inr h⟩
theorem NR{S₀:Addr→Prop}{H₀:Hp}{c:IS}(e:bV c=false)(h:K0 S₀ H₀ c):D0 S₀ H₀:=h.elim (fun h=>by rw[e]at h;cases h) id
structure SInv (K:p6) (T:Tx) (S₀:Addr→Prop) (H₀:Hp) (S:Addr→Prop) (ρ:List Sl) (σ:L2.St) (H:Hp):Prop where
 re:RE K T H S ρ σ
 dom0:Dm S₀ H₀ ρ σ
 sup:∀a,S₀ a→S a
 same:aF H₀ H
 dist:∀(i j:Nat) xs ys p,ρ[i]?=some (.mu xs)→ρ[j]?=some (.mu ys)→σ[i]?=some (some (.ref p))→σ[j]?=some (some (.ref p))→i=j
 own:∀(i:Nat) xs p,ρ[i]?=some (.mu xs)→σ[i]?=some (some (.ref p))→H₀ p=none
section
variable {K:p6}{T:Tx}{S₀ S S':Addr→Prop}{H₀ H H' fy:Hp}{ρ ρ1:List Sl}{σ σ1:L2.St}
theorem aG.refl:aG K H H S S:=fun a n _=>⟨n,fun _ e=>e⟩
theorem aG.same(h:aF H H'):aG K H H' S S:=fun a n _=>⟨n,fun o e=>h a o e⟩
theorem aG.trans{S'':Addr→Prop}(h:aG K H H' S S')(g:aG K H' fy S' S''):aG K H fy S S'':=fun a n q=>by
 obtain⟨n1,k1⟩:=h a n q;obtain⟨n2,k2⟩:=g a n1 (q.elim (fun⟨o,e⟩=>.inl ⟨o,k1 o e⟩) .inr)
 exact⟨n2,fun o e=>k2 o (k1 o e)⟩
theorem SInv.step(si:SInv K T S₀ H₀ S ρ σ H)(h:aF H H'):SInv K T S₀ H₀ S ρ σ H':=⟨si.re.same h,si.dom0,si.sup,si.same.trans h,si.dist,si.own⟩
theorem SInv.set(si:SInv K T S₀ H₀ S ρ σ H){i:Nat}{d:D}{v:V}(h0:K1 S₀ H₀ i)(r:Rep K T H S d v):SInv K T S₀ H₀ S (ρ.set i (.im d)) (σ.set i (some v)) H:=by
 have old:∀(j:Nat) xs p,(ρ.set i (.im d))[j]?=some (.mu xs)→(σ.set i (some v))[j]?=some (some (.ref p))→j≠i∧ρ[j]?=some (.mu xs)∧σ[j]?=some (some (.ref p)):=fun j xs p h1 h2=>by
  have ne:j≠i:=by
   rintro rfl;have hl:j<ρ.length:=by simpa using (l0.mp h1).1
   rw[mn hl]at h1;cases h1
  rw[mq (Ne.symm ne)]at h1 h2;exact⟨ne,h1,h2⟩
 refine⟨si.re.set r,FA h0 si.dom0,si.sup,si.same,fun a b xs ys p h1 h2 h3 h4=>?_,fun a xs p h1 h2=>?_⟩
 ·obtain⟨_,q1,q2⟩:=old a xs p h1 h3;obtain⟨_,q3,q4⟩:=old b ys p h2 h4;exact si.dist a b xs ys p q1 q3 q2 q4
 ·obtain⟨_,q1,q2⟩:=old a xs p h1 h2;exact si.own a xs p q1 q2
theorem SInv.setm(si:SInv K T S₀ H₀ S ρ σ H){i:Nat}{ds:D}{p:Addr}{xs:HO}(h0:K1 S₀ H₀ i)(sm:aF H H')(hp:H p=none)(hk:K.lookup p=none)(b7:H' p=some xs)(rl:gB K T (er H' p) S ds xs) :
  SInv K T S₀ H₀ (fun a=>S a∨a=p) (ρ.set i (.mu ds)) (σ.set i (some (.ref p))) H'∧aG K H H' S (fun a=>S a∨a=p):=by
 have mv:aG K H H' S (fun a=>S a∨a=p):=fun a n q=>by
  have ne:a≠p:=by
   rintro rfl
   rcases q with ⟨o,e⟩|⟨o,e⟩
   ·rw[hp]at e;cases e
   ·rw[hk]at e;cases e
  exact⟨fun z=>z.elim n ne,fun o e=>sm a o e⟩
 have dom:∀a,(S a∨a=p)→∃o,H' a=some o:=fun a z=>z.elim (fun z=>let ⟨o,e⟩:=si.re.dom a z;⟨o,sm a o e⟩) fun z=>⟨xs,by rw[z];exact b7⟩
 have re':RE K T H' (fun a=>S a∨a=p) ρ σ:=si.re.gen mv (fun a ys z e _=>⟨.inl z,sm a _ e⟩) dom
 have slotp:∀(j:Nat) ys,ρ[j]?=some (.mu ys)→σ[j]?=some (some (.ref p))→False:=fun j ys h1 h2=>by
  obtain⟨q,zs,e1,e2,e3,_⟩:=si.re.at_ j _ h1;rw[h2]at e1;cases e1;rw[hp]at e3;cases e3
 have at_:∀(j:Nat) ys q,(ρ.set i (.mu ds))[j]?=some (.mu ys)→(σ.set i (some (.ref p)))[j]?=some (some (.ref q))→(j=i∧q=p)∨(j≠i∧ρ[j]?=some (.mu ys)∧σ[j]?=some (some (.ref q))):=fun j ys q h1 h2=>by
  by_cases e:j=i
  ·subst e;have hl:j<ρ.length:=by simpa using (l0.mp h1).1
   rw[mn (by rw[←si.re.len];exact hl)]at h2
   cases h2;exact .inl ⟨rfl,rfl⟩
  ·rw[mq (Ne.symm e)]at h1 h2;exact .inr ⟨e,h1,h2⟩
 refine⟨⟨⟨dom,by simp[si.re.len],fun j s e=>?_⟩,FA h0 si.dom0,fun a z=>.inl (si.sup a z),si.same.trans sm,fun a b ys zs q h1 h2 h3 h4=>?_,fun a ys q h1 h2=>?_⟩,mv⟩
 ·by_cases hj:j=i
  ·subst hj;have hl:j<ρ.length:=by simpa using (l0.mp e).1
   rw[mn hl]at e;cases e;rw[mn (by rw[←si.re.len];exact hl)]
   exact⟨p,xs,rfl,.inr rfl,b7,rl.gen (aG.own hk)⟩
  ·rw[mq (Ne.symm hj)]at e ⊢;exact re'.at_ j s e
 ·rcases at_ a ys q h1 h3 with ⟨ea,eq⟩|⟨na,q1,q2⟩
  ·rcases at_ b zs q h2 h4 with ⟨eb,_⟩|⟨nb,q3,q4⟩
   ·rw[ea,eb]
   ·subst eq;exact(slotp b zs q3 q4).elim
  ·rcases at_ b zs q h2 h4 with ⟨eb,eq⟩|⟨nb,q3,q4⟩
   ·subst eq;exact(slotp a ys q1 q2).elim
   ·exact si.dist a b ys zs q q1 q3 q2 q4
 ·rcases at_ a ys q h1 h2 with ⟨ea,eq⟩|⟨na,q1,q2⟩
  ·subst eq;exact si.same.free hp
  ·exact si.own a ys q q1 q2
theorem SInv.write(si:SInv K T S₀ H₀ S ρ σ H){i:Nat}{ds ds':D}{p:Addr}{di:HO}(hi:ρ[i]?=some (.mu ds))(hp:σ[i]?=some (some (.ref p)))(rl:gB K T H S ds' di) :
  SInv K T S₀ H₀ S (ρ.set i (.mu ds')) σ (upd H p di)∧aG K H (upd H p di) S S:=by
 obtain⟨q,zs,e1,e2,e3,_⟩:=si.re.at_ i _ hi;rw[hp]at e1;cases e1;have mv:aG K H (upd H p di) S S:=fun a n _=>⟨n,fun o e=>by rw[aK (fun z=>n (by rw[z];exact e2))];exact e⟩
 have dom:∀a,S a→∃o,upd H p di a=some o:=fun a z=>by
  by_cases e:a=p
  ·exact⟨di,by rw[e];exact aN⟩
  ·obtain⟨o,q⟩:=si.re.dom a z;exact⟨o,by rw[aK e];exact q⟩
 have hl:i<ρ.length:=(l0.mp hi).1
 have old:∀(j:Nat) ys,(ρ.set i (.mu ds'))[j]?=some (.mu ys)→∃zs,ρ[j]?=some (.mu zs):=fun j ys h=>by
  by_cases e:j=i
  ·exact⟨ds,by rw[e];exact hi⟩
  ·rw[mq (Ne.symm e)]at h;exact⟨ys,h⟩
 refine⟨⟨⟨dom,by simp[si.re.len],fun j s e=>?_⟩,tJ hi si.dom0,si.sup,fun b o e=>?_,fun a b ys zs q h1 h2 h3 h4=>?_,fun a ys q h1 h2=>?_⟩,mv⟩
 ·by_cases hj:j=i
  ·subst hj;rw[mn hl]at e;cases e;exact⟨p,di,hp,e2,aN,rl.gen mv⟩
  ·rw[mq (Ne.symm hj)]at e;have h:=si.re.at_ j s e
   cases s with
   |un=>trivial
   |im d=>obtain⟨v,e4,r⟩:=h;exact⟨v,e4,Rep.gen mv d v r⟩
   |mu ys =>
    obtain⟨q,ws,e4,e5,e6,r⟩:=h;refine⟨q,ws,e4,e5,?_,r.gen mv⟩;rw[aK]
    ·exact e6
    ·rintro rfl;exact hj (si.dist j i ys ds q e hi e4 hp)
 ·have ne:b≠p:=by
   rintro rfl;rw[si.own i ds b hi hp]at e;cases e
  rw[aK ne];exact si.same b o e
 ·obtain⟨dc,q1⟩:=old a ys h1;obtain⟨zs',q2⟩:=old b zs h2;exact si.dist a b dc zs' q q1 q2 h3 h4
 ·obtain⟨dc,q1⟩:=old a ys h1;exact si.own a dc q q1 h2
theorem gQ:∀{is:List Nat} {ds:List D} {ρ ρ1:List Sl} {j:Nat} {xs:D},aQ is ds ρ=some ρ1→ρ1[j]?=some (.mu xs)→j∉is∧ρ[j]?=some (.mu xs)
 |[],[],ρ,ρ1,j,xs,h,e=>by
  simp only[aQ,l5]at h;subst h;exact⟨by simp,e⟩
 |i::is,d::ds,ρ,ρ1,j,xs,h,e=>by
  simp only[aQ]at h;obtain⟨n,q⟩:=gQ h e;have ne:j≠i:=by
   rintro rfl;have hl:j<ρ.length:=by simpa using (l0.mp q).1
   rw[mn hl]at q;cases q
  rw[mq (Ne.symm ne)]at q;exact⟨by simp[n,ne],q⟩
 |[],_::_,_,_,_,_,h,_=>by simp[aQ]at h
 |_::_,[],_,_,_,_,h,_=>by simp[aQ]at h
theorem mS{is:List Nat}{tp:Bool}{d:D}{j:Nat}{xs:D}(h:bB is tp d ρ=some ρ1)(e:ρ1[j]?=some (.mu xs)):j∉is∧ρ[j]?=some (.mu xs):=by
 unfold bB at h;split at h
 ·split at h
  ·exact gQ h e
  ·cases h
 ·exact gQ h e
theorem fJ:∀{is:List Nat} {ds:List D} {ρ ρ1:List Sl} {j:Nat},aQ is ds ρ=some ρ1→j∉is→ρ1[j]?=ρ[j]?
 |[],[],ρ,ρ1,j,h,_=>by
  simp only[aQ,l5]at h;rw[h]
 |i::is,d::ds,ρ,ρ1,j,h,n=>by
  simp only[aQ]at h;rw[fJ h fun z=>n (lu _ z),mq fun z=>n (by rw[z];exact oi)]
 |[],_::_,_,_,_,h,_=>by simp[aQ]at h
 |_::_,[],_,_,_,h,_=>by simp[aQ]at h
theorem vJ{is:List Nat}{tp:Bool}{d:D}{j:Nat}(h:bB is tp d ρ=some ρ1)(n:j∉is):ρ1[j]?=ρ[j]?:=by
 unfold bB at h;split at h
 ·split at h
  ·exact fJ h n
  ·cases h
 ·exact fJ h n
theorem SInv.bind(si:SInv K T S₀ H₀ S ρ σ H){is:List Nat}{tp:Bool}{d:D}(h0:K2 S₀ H₀ is)(h:bB is tp d ρ=some ρ1)(re:RE K T H S ρ1 σ1)(ag:∀j,j∉is→σ1[j]?=σ[j]?):SInv K T S₀ H₀ S ρ1 σ1 H:=by
 have dm:Dm S₀ H₀ ρ1 σ1:=fun a z=>by
  rcases si.dom0 a z with q|⟨o,q1,q2⟩
  ·exact .inl q
  ·rcases h0 with n|h0
   ·exact .inr ⟨o,(vJ h n).trans q1,(ag 0 n).trans q2⟩
   ·exact .inl (h0 a z)
 refine⟨re,dm,si.sup,si.same,fun a b xs ys p h1 h2 h3 h4=>?_,fun a xs p h1 h2=>?_⟩
 ·obtain⟨n1,q1⟩:=mS h h1;obtain⟨n2,q2⟩:=mS h h2;rw[ag a n1]at h3;rw[ag b n2]at h4;exact si.dist a b xs ys p q1 q2 h3 h4
 ·obtain⟨n1,q1⟩:=mS h h1;rw[ag a n1]at h2;exact si.own a xs p q1 h2
theorem RE.view(re:RE K T H S ρ σ):RE K T H (fun _=>False) (view ρ) σ:=by
 refine⟨fun a z=>z.elim,by simp[Z.view,re.len],fun i s e=>?_⟩
 unfold Z.view at e;rw[l9]at e;cases h:ρ[i]? with
 |none=>rw[h]at e;cases e
 |some s' =>
  rw[h]at e;cases e;have r:=re.at_ i s' h
  cases s' with
  |un=>trivial
  |im d=>obtain⟨v,e1,r⟩:=r;exact⟨v,e1,Rep.mono (fun _ z=>z.elim) (fun _ _ _ e=>e) d v r⟩
  |mu ds =>
   obtain⟨p,xs,e1,_,e3,r⟩:=r;exact⟨.ref p,e1,r.rep e3 (fun z=>z) fun _ z=>z.elim⟩
theorem BR{d:D}{v:V}(h:uC d=true)(r:Rep K T H S d v):Rep K T H S' d v:=by
 cases d<;>first|(simp only[uC,lr]at h;done)|(unfold Rep at r ⊢;exact r)
end
variable {CX:ak}{G:GS}{T:Tx}{lv:Nat}{X:Cx}{c:CC}{S₀:Addr→Prop}{H₀:Hp}{fr:Bool}{EX:Str→Hp→Prop}{pos:Pos}
noncomputable def FP(K:p6)(T:Tx)(S₀:Addr→Prop)(H₀:Hp)(fr:Bool)(EX:Str→Hp→Prop)(H:Hp)(S:Addr→Prop)(D:Ends):Out→Prop
 |.nx ρ=>∀S' σ' H',SInv K T S₀ H₀ S' ρ σ' H'→aG K H H' S S'→D.nx σ' H'
 |.bk ρ=>∀S' σ' H',SInv K T S₀ H₀ S' ρ σ' H'→aG K H H' S S'→D.bk σ' H'
 |.ct ρ=>∀S' σ' H',SInv K T S₀ H₀ S' ρ σ' H'→aG K H H' S S'→D.ct σ' H'
 |.rt d=>∀v H',aF H₀ H'→Rep K T H' S₀ d v→(fr=true→oV K T S₀ H₀ H' d v)→D.rt v H'
 |.er c=>∀H',aF H₀ H'→EX c H'
 |.rm d ρ=>∀S' σ' H' v,SInv K T S₀ H₀ S' ρ σ' H'→aG K H H' S S'→Rep K T H' S' d v→D.rt v H'
def bc(K:p6)(T:Tx)(S₀:Addr→Prop)(H₀:Hp)(fr:Bool)(EX:Str→Hp→Prop)(G:GS)(is:IS):TS:=fun D σ H=>∃ρ out S,ex G is ρ=some out∧SInv K T S₀ H₀ S ρ σ H∧FP K T S₀ H₀ fr EX H S D out
structure XS (CX:ak) (T:Tx) (X:Cx) (c:CC) (EX:Str→Hp→Prop):Prop where
 kind:X.env.scope.kind=.function
 pass:PassesOwn (model X.prog X.w) X.A X.env X.xe
 rse:∀x m j p p' q pos,aO c x=true→c.cls.contains x=true→PS X (.Raise (some (.Call (.Name x p) [.Constant (.str m) j p'] [] q)) none pos) (fun D σ H=>EX x H)
 pss:∀E1:XK,(∀cls H',E1 cls none H'→∃k C,T.xc k=some C∧cls=.ref C∧EX k H')→fK CX X E1
 stk:X.stack=X.env::X.outer
 frm:X.env.frame=some X.env.locals
theorem FP.step{K:p6}{H H':Hp}{S S':Addr→Prop}{D:Ends}{o:Out}(mv:aG K H H' S S')(h:FP K T S₀ H₀ fr EX H S D o):FP K T S₀ H₀ fr EX H' S' D o:=by
 cases o with
 |nx ρ=>exact fun S2 σ2 H2 si m=>h S2 σ2 H2 si (mv.trans m)
 |bk ρ=>exact fun S2 σ2 H2 si m=>h S2 σ2 H2 si (mv.trans m)
 |ct ρ=>exact fun S2 σ2 H2 si m=>h S2 σ2 H2 si (mv.trans m)
 |rt d=>exact h
 |er c=>exact h
 |rm d ρ=>exact fun S2 σ2 H2 v si m r=>h S2 σ2 H2 v si (mv.trans m) r
theorem mJ{e:IE}{ρ:List Sl}{d:D}(h:bu G e ρ=some d):ev G e ρ=some d∨(ev G e (view ρ)=some d∧uC d=true):=by
 unfold bu at h;split at h
 ·rename_i h1;cases h;exact .inl h1
 ·split at h
  ·rename_i h2;split at h
   ·rename_i h3;cases h;exact .inr ⟨h2,h3⟩
   ·cases h
  ·cases h
theorem iU(xc:XC CX X c G T lv){n:Nat}{e:Expr}{ir:IE}{ρ:List Sl}{d:D}{S:Addr→Prop}(he:cE n c e=some ir)(h:bu G ir ρ=some d):PE X e (tD X.K T S ρ d):=by
 rcases mJ h with h|⟨h,hs⟩
 ·exact((cL n).1 X c S ρ e ir xc he d h).1
 ·exact PE.mono ((cL n).1 X c (fun _=>False) (view ρ) e ir xc he d h).1 fun σ H Q ⟨re,q⟩=>⟨re.view,fun v H' sm r=>q v H' sm (BR hs r)⟩
theorem HJ:PS X (.Pass pos) (bc X.K T S₀ H₀ fr EX G .nop):=fun pins s σ H D I ⟨ρ,out,S,hx,si,po⟩=>by
 simp only[ex,l5]at hx;subst hx;exact IR pins s σ H D I (po S σ H si aG.refl)
theorem HG:PS X (.Return none pos) (bc X.K T S₀ H₀ fr EX G .retn):=fun pins s σ H D I ⟨ρ,out,S,hx,si,po⟩=>by
 simp only[ex,l5]at hx;subst hx;exact IQ pins s σ H D I (po .non H si.same (by unfold Rep;rfl) fun _ ds e=>by cases e)
theorem HI(xc:XC CX X c G T lv){x:Str}{p:Pos}{i:Nat}(e:bC c x=some i)(hk:K0 S₀ H₀ (.retm i)):PS X (.Return (some (.Name x p)) pos) (bc X.K T S₀ H₀ fr EX G (.retm i)):=fun pins s σ H D I ⟨ρ,out,S,hx,si,po⟩=>by
 simp only[ex]at hx;split at hx
 ·rename_i ds hi;cases hx;obtain⟨q,xs,e1,e2,e3,rl⟩:=si.re.at_ i _ hi;have hn:=si.own i ds q hi e1
  have n0:¬S₀ q:=fun z=>by obtain⟨o,z⟩:=NR rfl hk q z;rw[hn]at z;cases z
  refine lM (hU xc e) pins s σ H D I ⟨_,e1,po (.ref q) H si.same ?_ fun _ ds' z=>?_⟩
  ·exact rl.rep e3 n0 si.sup
  ·subst z;obtain⟨ys,rfl,rl'⟩:=rl.lst;exact⟨q,ys,rfl,hn,e3,aD.disown e2 si.sup rl'⟩
 ·cases hx
theorem PP(xc:XC CX X c G T lv){n:Nat}{e:Expr}{ir:IE}{b:Bool}(he:cE n c e=some ir)(hb:b=true→eV c e=true)(ar:fr=true→b=true):PS X (.Return (some e) pos) (bc X.K T S₀ H₀ fr EX G (.ret b ir)):=fun pins s σ H D I ⟨ρ,out,S,hx,si,po⟩=>by
 simp only[ex,ma]at hx;obtain⟨d,hd,rfl⟩:=hx;have plain:(∀ds,d=.lst ds→fr=false)→wpAny (model X.prog X.w) X.A (exec (.Return (some e) pos) X.env) (SP X pins D) X.xe s:=fun hn =>
  lM (iU (S:=S) xc he hd) pins s σ H D I ⟨si.re,fun v H' sm r=>po v H' (si.same.trans sm) (Rep.mono si.sup (fun _ _ _ e=>e) d v r) fun z ds e=>by rw[hn ds e]at z;cases z⟩
 cases hf:fr with
 |false=>exact plain fun _ _=>hf
 |true =>
  by_cases hl:∃ds,d=.lst ds
  ·obtain⟨ds,rfl⟩:=hl;have kh:ev G ir ρ=some (.lst ds):=by
    rcases mJ hd with h|⟨_,h⟩
    ·exact h
    ·cases h
   refine lM (((cL n).1 X c S ρ e ir xc he _ kh).2 (hb (ar hf)) ds rfl) pins s σ H D I ⟨si.re,fun p xs H' sm hp b7 rl=>po (.ref p) H' (si.same.trans sm) ?_ fun _ ds' z=>?_⟩
   ·unfold Rep;exact⟨p,xs,rfl,fun z=>si.re.nS hp (si.sup p z),b7,aD.mono si.sup (fun _ _ _ e=>e) _ _ rl.er⟩
   ·cases z;exact⟨p,xs,rfl,si.same.free hp,b7,aD.mono si.sup (fun _ _ _ e=>e) _ _ rl⟩
  ·exact plain fun ds e=>(hl ⟨ds,e⟩).elim
theorem HF(xc:XC CX X c G T lv){n:Nat}{e:Expr}{ir:IE}(he:cE n c e=some ir):PS X (.Return (some e) pos) (bc X.K T S₀ H₀ fr EX G (.retq ir)):=fun pins s σ H D I ⟨ρ,out,S,hx,si,po⟩=>by
 simp only[ex]at hx;obtain⟨d,hd,hx⟩:=aE hx;obtain⟨hs,hx⟩:=aX hx;cases hx;exact lM (iU (S:=S) xc he hd) pins s σ H D I ⟨si.re,fun v H' sm r=>po S σ H' v (si.step sm) (aG.same sm) r⟩
theorem WN(xc:XC CX X c G T lv){n:Nat}{t:Expr}{ir:IE}{a b:List Stmt}{ia ib:IS}(ht:cT n c t=some ir)(ha:PSs X a (bc X.K T S₀ H₀ fr EX G ia))(hb:PSs X b (bc X.K T S₀ H₀ fr EX G ib)) :
  PS X (.If t a b pos) (bc X.K T S₀ H₀ fr EX G (.iff ir ia ib)):=fun pins s σ H D I ⟨ρ,out,S,hx,si,po⟩=>by
 simp only[ex,ll,l7]at hx;obtain⟨w,hw,hx⟩:=hx;cases w<;>first|(simp only[reduceCtorEq]at hx;done)|skip
 rename_i k;refine sD ((cL n).2.1 X c (fun _=>False) (view ρ) t ir xc ht k hw) ha hb pins s σ H D I ⟨si.re.view,fun H' sm=>?_⟩
 cases k with
 |true=>exact nB ⟨ρ,out,S,hx,si.step sm,po.step (aG.same sm)⟩
 |false=>exact lV ⟨ρ,out,S,hx,si.step sm,po.step (aG.same sm)⟩
theorem PR:PSs X [] (bc X.K T S₀ H₀ fr EX G .nop):=fun pins s σ H D I ⟨ρ,out,S,hx,si,po⟩=>by
 simp only[ex,l5]at hx;subst hx;exact kR pins s σ H D I (po S σ H si aG.refl)
theorem PM{st:Stmt}{rest:List Stmt}{a b:IS}(ha:PS X st (bc X.K T S₀ H₀ fr EX G a))(hb:PSs X rest (bc X.K T S₀ H₀ fr EX G b)):PSs X (st::rest) (bc X.K T S₀ H₀ fr EX G (.seq a b)):=fun pins s σ H D I ⟨ρ,out,S,hx,si,po⟩=>by
 simp only[ex,ll,l7]at hx;obtain⟨o,ho,hx⟩:=hx;refine sA ha hb pins s σ H D I ⟨ρ,o,S,ho,si,?_⟩;cases o with
 |nx ρ'=>exact fun S' σ' H' de mv=>⟨ρ',out,S',hx,de,po.step mv⟩
 |bk ρ'=>simp only[l5]at hx;subst hx;exact po
 |ct ρ'=>simp only[l5]at hx;subst hx;exact po
 |rt d=>simp only[l5]at hx;subst hx;exact po
 |er d=>simp only[l5]at hx;subst hx;exact po
 |rm d ρ'=>simp only[l5]at hx;subst hx;exact po
theorem PN(xs:XS CX T X c EX){x:Str}{m:Str}{j:Nat}{p p' q:Pos}(hg:aO c x=true)(hc:c.cls.contains x=true):PS X (.Raise (some (.Call (.Name x p) [.Constant (.str m) j p'] [] q)) none pos) (bc X.K T S₀ H₀ fr EX G (.rse x)):=fun pins s σ H D I ⟨ρ,out,S,hx,si,po⟩=>by
 simp only[ex]at hx;split at hx
 ·cases hx;exact xs.rse x m j p p' q pos hg hc pins s σ H D I (po H si.same)
 ·cases hx
theorem HC(xc:XC CX X c G T lv){n:Nat}{es:List Expr}{k:Nat}{p:Pos}{e:Expr}{ir:IE}{is:List Nat}(hn:eE c es=some is)(he:cE n c e=some ir)(hnt:∀vs k p,e≠.Tuple vs k p)(hk:K0 S₀ H₀ (.sett is ir)) :
  PS X (.Assign [.Tuple es k p] e pos) (bc X.K T S₀ H₀ fr EX G (.sett is ir)):=fun pins s σ H D I ⟨ρ,out,S,hx,si,po⟩=>by
 simp only[ex,ll,l7,ma]at hx;obtain⟨d,hd,ρ1,hb,rfl⟩:=hx;have cf:bN c (.Tuple es k p)=some (is,true):=by simp only[bN,hn,oe]
 refine CF ((cL n).1 X c S ρ e ir xc he d hd).1 (JC xc (S:=S) cf hb) ?_ ?_ rfl pins s σ H D I ⟨si.re,fun v H' sm r=>⟨si.re.same sm,r,fun σ' re' ag=>po S σ' H' ((si.step sm).bind (aAV rfl hk) hb re' ag) (aG.same sm)⟩⟩
 ·cases e<;>rfl
 ·cases e<;>first|rfl|exact absurd rfl (hnt _ _ _)
end Z
namespace Z
open PySem PySem.Spec PyProof.Rows L2
variable {CX:ak}{G:GS}{T:Tx}{lv:Nat}{X:Cx}{c:CC}{S₀:Addr→Prop}{H₀:Hp}{fr:Bool}{EX:Str→Hp→Prop}{pos:Pos}
noncomputable def lX:Expr→Bool
 |.ListComp _ _ _ _=>true
 |_=>false
theorem rP{n:Nat}{c:CC}{e:Expr}{ir:IE}(h:cE n c e=some ir)(hc:lX e=false)(t:Expr)(l:Nat)(env:Env):swapsWith e (some t) l env=pure false:=by
 cases e<;>first|rfl|exact nomatch (show true=false from hc)|(cases n<;>exact nomatch (show none=some ir from h))
theorem lE{elt:Expr}{gs:List Comprehension}{sc:Scope}{p px:Pos}{x:Str}{l:Nat}{env:Env}:∃b,swapsWith (.ListComp elt gs sc p) (some (.Name x px)) l env=pure b:=⟨_,rfl⟩
theorem iK{n:Nat}{elt:Expr}{gs:List Comprehension}{sc:Scope}{p:Pos}{ir:IE}{ρ:List Sl}{d:D}(xc:XC CX X c G T lv)(h:cE n c (.ListComp elt gs sc p)=some ir)(hd:ev G ir ρ=some d)(S:Addr→Prop) :
  ∃tg iter ifs fr au tp ds outs f,gs=[⟨tg,iter,ifs,0⟩]∧d=.lst outs∧iL c sc=true∧freeOf c sc (sc.names.filter fun x=>x.2 == .free)=some fr∧au.all (fun i=>(fr.lookup i).isNone)=true∧bN { c with N:=ownNames sc,sc:=sc } tg=some (au,tp) ∧
   PI X tg iter (tI X.K T S ρ ds)∧(∀x,foldedSetIterable iter X.env x=pure x)∧bR f ds=some outs ∧
   (∀d o,f d=some o→∃ρ1,bB au tp d (frame (ownNames sc).length fr ρ)=some ρ1∧TurnOk CX G T lv { c with N:=ownNames sc,sc:=sc } X.K ifs elt ρ1 o):=by
 cases n with
 |zero=>exact nomatch (show none=some ir from h)
 |succ n =>
  obtain⟨hE,hT,hB,hA,hI⟩:=cL (CX:=CX) (G:=G) (T:=T) (lv:=lv) n;exact yG hE hT hI xc h hd
theorem DQ{pins:ph}{σ:L2.St}{H:Hp}{s:Shared}{p:Addr}{o:HO}(I:Inv X pins σ H s)(h:H p=some o):X.K.lookup p=none:=by
 cases e:X.K.lookup p with
 |none=>rfl
 |some u=>rw[NQ I p u e]at h;cases h
def tNk(K:p6)(T:Tx)(S:Addr→Prop)(ρ:List Sl)(ds:List D):TE:=fun σ H Q=>RE K T H S ρ σ∧∀p xs H',aF H H'→H p=none→K.lookup p=none→H' p=some (.lst xs)→aD K T (er H' p) S ds xs→Q (.ref p) H'
theorem aDO{e:Expr}{S:Addr→Prop}{ρ:List Sl}{ds:List D}(h:PE X e (c8 X.K T S ρ ds)):PE X e (tNk X.K T S ρ ds):=fun pins s σ H Q I ⟨re,q⟩ =>
 af (h pins s σ H (fun v H'=>∃p xs,v=.ref p∧aF H H'∧H p=none∧H' p=some (.lst xs)∧aD X.K T (er H' p) S ds xs) I ⟨re,fun p xs H' a b c d=>⟨p,xs,rfl,a,b,c,d⟩⟩) fun u s1 ⟨v,H',I',r,p,xs,e,a,b,c,d⟩=>⟨v,H',I',r,by rw[e];exact q p xs H' a b (DQ I' c) c d⟩
theorem HE(xc:XC CX X c G T lv){x:Str}{px eu pd:Pos}{i:Nat}(hx:eC c (.Name x eu)=some i)(h0:K0 S₀ H₀ (.setd i)):PS X (.Assign [.Name x px] (.Dict [] [] pd) pos) (bc X.K T S₀ H₀ fr EX G (.setd i)):=fun pins s σ H D I ⟨ρ,out,S,hex,si,po⟩=>by
 cases hex;obtain⟨hN,hk⟩:=fM hx;obtain⟨hl,hf⟩:=xc.loc hk;have pn:PE X (.Dict [] [] pd) (fun σ H Q=>∀p,H p=none→X.K.lookup p=none→Q (.ref p) (upd H p (.dK []))):=fun pins s σ H Q I q =>
  af (CK pins s σ H (fun v H'=>∃p,v=.ref p∧H p=none∧H'=upd H p (.dK [])) I fun p hp=>⟨p,rfl,hp,rfl⟩) fun u s1 ⟨v,H',I',r,p,e1,hp,e2⟩=>⟨v,H',I',r,by
   subst e1 e2;exact q p hp (DQ I' (aN))⟩
 refine lL (by rw[xc.N];exact xc.nd) (by rw[xc.N];exact hN) hl pn rfl hf pins s σ H D I fun p hp hkp=>?_
 obtain⟨de,mv⟩:=si.setm (i:=i) (ds:=.dct []) (xs:=.dK []) (sR rfl h0) (aF.upd hp) hp hkp aN (.inr ⟨_,_,rfl,rfl,aU.nil⟩);exact po _ _ _ de mv
theorem PL(xc:XC CX X c G T lv){n:Nat}{e:Expr}{ir:IE}{x:Str}{px eu:Pos}{i:Nat}(hx:eC c (.Name x eu)=some i)(he:cE n c e=some ir)(h0:K0 S₀ H₀ (.set i ir)):PS X (.Assign [.Name x px] e pos) (bc X.K T S₀ H₀ fr EX G (.set i ir)):=fun pins s σ H D I ⟨ρ,out,S,hex,si,po⟩=>by
 simp only[ex,ma]at hex;obtain⟨d,hd,rfl⟩:=hex;obtain⟨hN,hk⟩:=fM hx;obtain⟨hl,hf⟩:=xc.loc hk;have plain:swapsWith e (some (.Name x px)) pos.line X.env=pure false→wpAny (model X.prog X.w) X.A (exec (.Assign [.Name x px] e pos) X.env) (SP X pins D) X.xe s:=fun hs =>
  lL (by rw[xc.N];exact xc.nd) (by rw[xc.N];exact hN) hl (iU (S:=S) xc he hd) hs hf pins s σ H D I ⟨si.re,fun v H' sm r=>po S _ H' ((si.step sm).set (sR rfl h0) r) (aG.same sm)⟩
 cases hc:lX e with
 |false=>exact plain (rP he hc _ _ _)
 |true =>
  cases e<;>simp only[lX,lr]at hc
  rename_i elt gs sc p;obtain⟨b,hb⟩:=lE (elt:=elt) (gs:=gs) (sc:=sc) (p:=p) (px:=px) (x:=x) (l:=pos.line) (env:=X.env);cases b with
  |false=>exact plain hb
  |true =>
   have kh:ev G ir ρ=some d:=by
    rcases mJ hd with h|⟨h,hs⟩
    ·exact h
    ·obtain⟨_,_,_,_,_,_,_,outs,_,_,rfl,_⟩:=iK xc he h (fun _=>False)
     cases hs
   obtain⟨tg,iter,ifs,fr',au,tp,ds,outs,f,rfl,rfl,h1,h2,h3,h4,h5,h6,h7,h8⟩:=iK xc he kh S;exact vX xc h1 h2 h3 h4 h5 h6 (px:=px) (by simp only[eC]at hx ⊢;exact hx) hb h7 h8 pins s σ H D I ⟨si.re,fun p xs H' sm hp b7 rl=>po S _ H' ((si.step sm).set (sR rfl h0) (by unfold Rep;exact⟨p,xs,rfl,si.re.nS hp,b7,rl.er⟩)) (aG.same sm)⟩
theorem HD(xc:XC CX X c G T lv){n:Nat}{e:Expr}{ir:IE}{x:Str}{px eu:Pos}{i:Nat}(hx:eC c (.Name x eu)=some i)(he:cE n c e=some ir)(ar:eV c e=true)(h0:K0 S₀ H₀ (.setm i ir)):PS X (.Assign [.Name x px] e pos) (bc X.K T S₀ H₀ fr EX G (.setm i ir)):=fun pins s σ H D I ⟨ρ,out,S,hex,si,po⟩=>by
 simp only[ex,ll,l7]at hex;obtain⟨d,hd,hex⟩:=hex;cases d<;>first|(simp only[reduceCtorEq]at hex;done)|skip
 rename_i outs;simp only[l5]at hex;subst hex;obtain⟨hN,hk⟩:=fM hx;obtain⟨hl,hf⟩:=xc.loc hk;have pn:=((cL n).1 X c S ρ e ir xc he _ hd).2 ar outs rfl
 have plain:swapsWith e (some (.Name x px)) pos.line X.env=pure false→wpAny (model X.prog X.w) X.A (exec (.Assign [.Name x px] e pos) X.env) (SP X pins D) X.xe s:=fun hs =>
  lL (by rw[xc.N];exact xc.nd) (by rw[xc.N];exact hN) hl (aDO pn) hs hf pins s σ H D I ⟨si.re,fun p xs H' sm hp hkp b7 rl=>by
   obtain⟨de,mv⟩:=si.setm (i:=i) (ds:=.lst outs) (sR rfl h0) sm hp hkp b7 (.inl ⟨_,_,rfl,rfl,rl⟩);exact po _ _ H' de mv⟩
 cases hc:lX e with
 |false=>exact plain (rP he hc _ _ _)
 |true =>
  cases e<;>simp only[lX,lr]at hc
  rename_i elt gs sc p;obtain⟨b,hb⟩:=lE (elt:=elt) (gs:=gs) (sc:=sc) (p:=p) (px:=px) (x:=x) (l:=pos.line) (env:=X.env);cases b with
  |false=>exact plain hb
  |true =>
   obtain⟨tg,iter,ifs,fr',au,tp,ds,outs',f,rfl,e1,h1,h2,h3,h4,h5,h6,h7,h8⟩:=iK xc he hd S;cases e1;refine o9 (vX xc h1 h2 h3 h4 h5 h6 (px:=px) (by simp only[eC]at hx ⊢;exact hx) hb h7 h8 pins s σ H ⟨fun σ' H'=>∃p xs,σ'=σ.set i (some (.ref p))∧aF H H'∧H p=none∧H' p=some (.lst xs)∧aD X.K T (er H' p) S outs xs,fun _ _=>False,fun _ _=>False,fun _ _=>False⟩ I ⟨si.re,fun p xs H' sm hp b7 rl=>⟨p,xs,rfl,sm,hp,b7,rl⟩⟩) (fun f s' q=>?_) fun _ _ z=>z
   cases f with
   |next =>
    obtain⟨σ',H',I',p,xs,rfl,sm,hp,b7,rl⟩:=q;obtain⟨de,mv⟩:=si.setm (i:=i) (ds:=.lst outs) (sR rfl h0) sm hp (DQ I' b7) b7 (.inl ⟨_,_,rfl,rfl,rl⟩);exact⟨_,H',I',po _ _ H' de mv⟩
   |brk=>obtain⟨_,_,_,z⟩:=q;exact z.elim
   |cont=>obtain⟨_,_,_,z⟩:=q;exact z.elim
   |ret u=>obtain⟨_,_,_,_,_,z⟩:=q;exact z.elim
end Z
namespace Z
open PySem PySem.Spec PyProof.Rows L2
variable {CX:ak}{G:GS}{T:Tx}{lv:Nat}{X:Cx}{c:CC}{S₀:Addr→Prop}{H₀:Hp}{fr:Bool}{EX:Str→Hp→Prop}{pos:Pos}
theorem PY(xc:XC CX X c G T lv){n:Nat}{e:Expr}{ir:IE}{x:Str}{i:Nat}{p1 p2 p:Pos}(hx:bC c x=some i)(hl:(p2.endLine == p.line)=true)(he:cE n c e=some ir) :
  PS X (.Expr (.Call (.Attribute (.Name x p1) "append" p2) [e] [] p) pos) (bc X.K T S₀ H₀ fr EX G (.app i ir)):=fun pins s σ H D I ⟨ρ,out,S,hex,si,po⟩=>by
 simp only[ex,ll,l7]at hex;obtain⟨d,hd,hex⟩:=hex;split at hex
 ·rename_i ds hi;split at hex
  ·rename_i hz;cases hex;obtain⟨q,ob,e1,e2,e3,rm⟩:=si.re.at_ i _ hi;obtain⟨xs,rfl,rl⟩:=rm.lst;have st:=(dB he).star X.env []
   refine pJ (NJ PySem.F.plainAttrs_list PySem.F.slot_list_append PySem.F.type_list_append nT (hU xc hx) (bU (iU (S:=S) xc he hd) gE st) rfl ?_ hl st rfl) rfl pins s σ H D I ⟨.ref q,e1,.inl ⟨rfl,xs,SqL.of e3⟩,si.re,fun v H' sm r=>⟨q,xs,v,rfl,rfl,sm _ _ e3,?_,?_⟩⟩
   ·rw[st];rfl
   ·rw[←rl.len];exact md hz gR
   ·obtain⟨de,mv⟩:=(si.step sm).write (ds':=.lst (ds++[d])) hi e1 (.inl ⟨_,_,rfl,rfl,(rl.same sm).app (aD.cons r aD.nil)⟩);exact po S σ _ de ((aG.same sm).trans mv)
  ·cases hex
 ·cases hex
theorem SN(n:Nat)(i:Int):Z.ixN n i=L2.ixN n i:=by
 unfold Z.ixN L2.ixN;rfl
theorem zB{n:Nat}{c:CC}{e:Expr}{ir:IE}(h:cE n c e=some ir){o i:Expr}{p:Pos}{l:Nat}{env:Env}:swapsWith e (some (.Subscript o i p)) l env=pure false:=by
 cases e<;>first|rfl|(cases n<;>exact nomatch (show none=some ir from h))
theorem PQ(xc:XC CX X c G T lv){n:Nat}{e k:Expr}{ir kr:IE}{x:Str}{i:Nat}{p1 p2:Pos}(hx:bC c x=some i)(hk:cE n c k=some kr)(he:cE n c e=some ir) :
  PS X (.Assign [.Subscript (.Name x p1) k p2] e pos) (bc X.K T S₀ H₀ fr EX G (.put i kr ir)):=fun pins s σ H D I ⟨ρ,out,S,hex,si,po⟩=>by
 simp only[ex,ll,l7]at hex;obtain⟨d,hd,ki,hki,hex⟩:=hex;split at hex
 ·rename_i o hi;obtain⟨o',ho,rfl⟩:=ma.mp hex;obtain⟨q,ob,e1,e2,e3,rm⟩:=si.re.at_ i _ hi;cases o<;>first|exact nomatch (show none=some o' from ho)|skip
  ·rename_i ds;obtain⟨j,hj,rfl⟩:=ma.mp ho;obtain⟨xs,rfl,rl⟩:=rm.lst;refine CF (iU (S:=S) xc he hd) (QR (hU xc hx) (iU (S:=S) xc hk (fW hki)) set_list ?_) ?_ ?_ rfl pins s σ H D I ⟨si.re,fun v H' sm r=>⟨.ref q,e1,(si.step sm).re,fun w H2 dy r2=>?_⟩⟩
   ·intro v;cases k<;>first|rfl|(cases n<;>exact nomatch (show none=some kr from hk))
   ·cases e<;>rfl
   ·cases e<;>rfl
   ·unfold Rep at r2;subst r2;refine⟨q,xs,ki,j,rfl,rfl,dy _ _ (sm _ _ e3),by rw[←rl.len,←SN];exact hj,?_⟩
    obtain⟨de,mv⟩:=(si.step (sm.trans dy)).write (ds':=.lst (ds.set j d)) hi e1 (.inl ⟨_,_,rfl,rfl,aD.set j (rl.same (sm.trans dy)) (r.same dy)⟩);exact po S σ _ de ((aG.same (sm.trans dy)).trans mv)
  ·rename_i kvs;have ho:(if kvs.length<big then some (Z.D.dct (jN kvs ki d)) else none)=some o':=ho
   split at ho
   ·rename_i hz;cases ho;obtain⟨gs,rfl,rk⟩:=rm.dct;refine IT (NT xc.room) (hU xc hx) (iU (S:=S) xc hk (fW hki)) (iU (S:=S) xc he hd) (zB he) pins s σ H D I ⟨si.re,fun v H' sm r=>⟨.ref q,e1,(si.step sm).re,fun w H2 dy r2=>?_⟩⟩
    unfold Rep at r2;subst r2;refine⟨q,_,rfl,GT.k (k:=Sum.inl ki) (dy _ _ (sm _ _ e3)) (by rw[←aU.len rk];exact md hz gR),?_⟩
    obtain⟨de,mv⟩:=(si.step (sm.trans dy)).write (ds':=.dct (jN kvs ki d)) hi e1 (.inr ⟨_,_,rfl,rfl,aU.put (r.same dy) (aU.gen (aG.same (S:=S) (sm.trans dy)) _ _ rk)⟩);exact po S σ _ de ((aG.same (sm.trans dy)).trans mv)
   ·cases ho
 ·cases hex
theorem vA{bind:D→List Sl→Option (List Sl)}{body:List Sl→Option Out}{d:D}{r:List D}{ρ:List Sl}{out:Out}(h:eG bind body (d::r) ρ=some out):∃ρ1 o,bind d ρ=some ρ1∧body ρ1=some o ∧
  ((∃ρ2,o=.nx ρ2∧eG bind body r ρ2=some out)∨(∃ρ2,o=.ct ρ2∧eG bind body r ρ2=some out)∨(∃ρ2,o=.bk ρ2∧out=.nx ρ2)∨(∃d,o=.rt d∧out=o)∨(∃x,o=.er x∧out=o)∨∃d ρ2,o=.rm d ρ2∧out=o):=by
 simp only[eG,ll,l7]at h;obtain⟨ρ1,h1,o,h2,h3⟩:=h;refine⟨ρ1,o,h1,h2,?_⟩;cases o<;>simp only[l5]at h3
 ·exact .inl ⟨_,rfl,h3⟩
 ·exact .inr (.inr (.inr (.inl ⟨_,rfl,h3.symm⟩)))
 ·exact .inr (.inr (.inl ⟨_,rfl,h3.symm⟩))
 ·exact .inr (.inl ⟨_,rfl,h3⟩)
 ·exact .inr (.inr (.inr (.inr (.inl ⟨_,rfl,h3.symm⟩))))
 ·exact .inr (.inr (.inr (.inr (.inr ⟨_,_,rfl,h3.symm⟩))))
def gEx(K:p6)(T:Tx)(is:List Nat)(tp:Bool):TG:=fun v σ H Q=>∃ρ S ρ1 d,bB is tp d ρ=some ρ1∧gD K T S is ρ ρ1 d v σ H Q
theorem PU(xc:XC CX X c G T lv)(xs:XS CX T X c EX){n:Nat}{tg iter:Expr}{body:List Stmt}{au:List Nat}{tp:Bool}{k:Src}{src:IE}{ib:IS}(cf:bN c tg=some (au,tp))(hi:cI n c iter=some (k,src))(jc:FO k tg)(hk:K2 S₀ H₀ au)(hb:PSs X body (bc X.K T S₀ H₀ fr EX G ib)) :
  PS X (.For tg iter body [] pos) (bc X.K T S₀ H₀ fr EX G (.loop au tp k src ib)):=fun pins s σ H D I ⟨ρ,out,S,hex,si,po⟩=>by
 simp only[ex,ll,l7]at hex;obtain⟨d,hd,ds,ay,du⟩:=hex;obtain⟨hit,hset⟩:=(cL n).2.2.2.2 X c S ρ iter k src xc hi d ds hd ay;have hg:PG X tg (gEx X.K T au tp):=fun pins s σ H v u Q I r ⟨ρ,S,ρ1,d,fu,h⟩=>JC xc cf fu pins s σ H v u Q I r h
 refine CD xs.pass xc.calm (hit tg jc) hg hb hset pins s σ H D I ⟨si.re,fun J H1 sm hX hlen=>?_⟩
 refine⟨fun i m σ H=>∃ρi Si,m=ds.length-i∧i≤ds.length∧eG (bB au tp) (ex G ib) (ds.drop i) ρi=some out∧SInv X.K T S₀ H₀ Si ρi σ H∧aG X.K H1 H S Si,⟨ds.length,ρ,S,by simp,oz _,by simpa using du,si.step sm,aG.refl⟩,?_⟩
 rintro i m σ' H' ⟨ρi,Si,rfl,hile,kc,f6,mv⟩;obtain⟨it1,it2⟩:=hX H' Si mv f6.re.dom;have jy:FP X.K T S₀ H₀ fr EX H' Si D out:=po.step ((aG.same sm).trans mv)
 by_cases fc:i<ds.length
 ·refine .inr ?_;have hdr:ds.drop i=ds[i]::ds.drop (i+1):=List.drop_eq_getElem_cons fc
  rw[hdr]at kc;obtain⟨ρ1,o,fu,hbo,hcase⟩:=vA kc;obtain⟨hgo',hy⟩:=it1 i ds[i] (by simp[fc])
  refine⟨hgo',fun σ2 H2=>∃ρ2 S2,eG (bB au tp) (ex G ib) (ds.drop (i+1)) ρ2=some out∧SInv X.K T S₀ H₀ S2 ρ2 σ2 H2∧aG X.K H1 H2 S S2,fun σ2 H2 ⟨ρ2,S2,a,b,c⟩=>⟨ds.length-(i+1),by omega,ρ2,S2,rfl,fc,a,b,c⟩,fun x H2 j6=>?_⟩
  obtain⟨s2,rx⟩:=hy x H2 j6;refine⟨ρi,Si,ρ1,ds[i],fu,(f6.step s2).re,rx,fun σ3 ja ag=>⟨ρ1,o,Si,hbo,(f6.step s2).bind hk fu ja ag,?_⟩⟩
  have j4:aG X.K H1 H2 S Si:=mv.trans (aG.same s2)
  rcases hcase with ⟨ρ2,rfl,hr⟩|⟨ρ2,rfl,hr⟩|⟨ρ2,rfl,rfl⟩|⟨d',rfl,rfl⟩|⟨x',rfl,rfl⟩|⟨d',ρ2,rfl,rfl⟩
  ·exact fun S3 σ4 H4 gy gz=>⟨ρ2,S3,hr,gy,j4.trans gz⟩
  ·exact fun S3 σ4 H4 gy gz=>⟨ρ2,S3,hr,gy,j4.trans gz⟩
  ·exact fun S3 σ4 H4 gy gz=>jy S3 σ4 H4 gy ((aG.same s2).trans gz)
  ·exact jy
  ·exact jy
  ·exact fun S3 σ4 H4 v gy gz r=>jy S3 σ4 H4 v gy ((aG.same s2).trans gz) r
 ·have hn:i=ds.length:=by omega
  refine .inl ⟨it2 i (by omega),?_⟩
  rw[hn,List.drop_length]at kc;simp only[eG,l5]at kc;subst kc;exact jy Si σ' H' f6 aG.refl
theorem RZ(h:XC CX X c G T lv){S:Addr→Prop}{ρ:List Sl}{x y:Str}{es:List Expr}{ds:List D}{p py:Pos}{i:Nat}{o d o':D}(hg:aO c x=true)(e:bC c y=some i)(hi:ρ[i]?=some (.mu o))(ha:PA X es (b0 X.K T S ρ ds))(hs:starEach es X.env=es.map fun e=>(false,eval e X.env))(hlen:ds.length=es.length)(hd:G.fm x o ds=some (d,o')) :
  PE X (.Call (.Name x p) (.Name y py::es) [] pos) (fun σ H Q=>RE X.K T H S ρ σ∧∀q,σ[i]?=some (some (.ref q))→∀v H' ez,(∀a b,a≠q→H a=some b→H' a=some b)→H' q=some ez→gB X.K T H' S o' ez→Rep X.K T H' S d v→Q v H'):=by
 obtain⟨f,fd,ps,hm,hk,hb,hl,F⟩:=h.go.fm x o ds _ hd;have st:starEach (.Name y py::es) X.env=(false,eval (.Name y py) X.env)::starEach es X.env:=rfl
 have gu:(backTo pos (starEach es X.env)).any (·.1)=false:=by
  cases es with
  |nil=>rfl
  |cons e2 es2 =>
   obtain⟨a1,a2⟩:=lG (pos:=pos) hs;rw[a1];exact a2
 refine PE.mono (pM F h.room (h.glob hg) hm hk hb .nil (lO h) (bU (hU h e) ha st) (h.gne hg) st gu) fun σ H Q ⟨re,q⟩=>?_
 obtain⟨p0,ob,e1,e2,e3,rm⟩:=re.at_ i _ hi;refine⟨.ref p0,e1,re,fun vs H1 s1 r1=>?_⟩
 refine⟨?_,S,p0,o,ob,vs,ds,d,o',by rw[nh],(re.same s1).dom,e2,s1 _ _ e3,rm.gen (aG.same s1),r1,hd,fun v H' ez k hq rm' rd=>q p0 e1 v H' ez (fun a b n e=>k a b n (s1 a b e)) hq rm' rd⟩
 rw[nh,om,←r1.len];exact hl
theorem SInv.writeA{K:p6}{S:Addr→Prop}{ρ:List Sl}{σ:L2.St}{H H':Hp}(si:SInv K T S₀ H₀ S ρ σ H){i:Nat}{ds ds':D}{p:Addr}{di:HO}(hi:ρ[i]?=some (.mu ds))(hp:σ[i]?=some (some (.ref p)))(k:∀a b,a≠p→H a=some b→H' a=some b)(b7:H' p=some di)(rl:gB K T H' S ds' di) :
  SInv K T S₀ H₀ S (ρ.set i (.mu ds')) σ H'∧aG K H H' S S:=by
 obtain⟨q,zs,e1,e2,e3,_⟩:=si.re.at_ i _ hi;rw[hp]at e1;cases e1;have mv:aG K H H' S S:=fun a n _=>⟨n,fun o e=>k a o (fun z=>n (by rw[z];exact e2)) e⟩
 have dom:∀a,S a→∃o,H' a=some o:=fun a z=>by
  by_cases e:a=p
  ·exact⟨di,by rw[e];exact b7⟩
  ·obtain⟨o,q⟩:=si.re.dom a z;exact⟨o,k a o e q⟩
 have hl:i<ρ.length:=(l0.mp hi).1
 have old:∀(j:Nat) ys,(ρ.set i (.mu ds'))[j]?=some (.mu ys)→∃zs,ρ[j]?=some (.mu zs):=fun j ys h=>by
  by_cases e:j=i
  ·exact⟨ds,by rw[e];exact hi⟩
  ·rw[mq (Ne.symm e)]at h;exact⟨ys,h⟩
 refine⟨⟨⟨dom,by simp[si.re.len],fun j s e=>?_⟩,tJ hi si.dom0,si.sup,fun b o e=>?_,fun a b ys zs q h1 h2 h3 h4=>?_,fun a ys q h1 h2=>?_⟩,mv⟩
 ·by_cases hj:j=i
  ·subst hj;rw[mn hl]at e;cases e;exact⟨p,di,hp,e2,b7,rl⟩
  ·rw[mq (Ne.symm hj)]at e;have h:=si.re.at_ j s e
   cases s with
   |un=>trivial
   |im d=>obtain⟨v,e4,r⟩:=h;exact⟨v,e4,Rep.gen mv d v r⟩
   |mu ys =>
    obtain⟨q,ws,e4,e5,e6,r⟩:=h;exact⟨q,ws,e4,e5,k q ws (fun z=>hj (si.dist j i ys ds q e hi e4 (by rw[z];exact hp))) e6,r.gen mv⟩
 ·have ne:b≠p:=by
   rintro rfl;rw[si.own i ds b hi hp]at e;cases e
  exact k b o ne (si.same b o e)
 ·obtain⟨dc,q1⟩:=old a ys h1;obtain⟨zs',q2⟩:=old b zs h2;exact si.dist a b dc zs' q q1 q2 h3 h4
 ·obtain⟨dc,q1⟩:=old a ys h1;exact si.own a dc q q1 h2
theorem PV(xc:XC CX X c G T lv){n:Nat}{t:Expr}{it ies:IE}{f y:Str}{i:Nat}{es:List Expr}{a:List Stmt}{ia:IS}{p py cp np bp:Pos}(ht:cT n c t=some it)(hg:aO c f=true)(hy:bC c y=some i)(he:cA n c es=some ies)(ha:PSs X a (bc X.K T S₀ H₀ fr EX G ia)) :
  PS X (.If (.BoolOp .Or [t,.UnaryOp .Not (.Call (.Name f p) (.Name y py::es) [] cp) np] bp) a [] pos) (bc X.K T S₀ H₀ fr EX G (.fil it f i ies ia)):=fun pins s σ H D I ⟨ρ,out,S,hx,si,po⟩=>by
 simp only[ex]at hx;obtain⟨w,hw,hx⟩:=aE hx;have pn:PSs X ([]:List Stmt) (fun D σ H=>D.nx σ H):=fun pins s σ H D I h=>kR pins s σ H D I h
 cases w<;>first|exact nomatch (show none=some out from hx)|skip
 rename_i kk;have pt:=(cL n).2.1 X c (fun _=>False) (view ρ) t it xc ht kk hw
 cases kk with
 |true =>
  refine sD (PW.pt (rX pt (pH (tA:=fun _ _ _=>False) (fun _ _ _ _ _ _ h=>h.elim)))) ha pn pins s σ H D I ⟨si.re.view,fun H' sm=>?_⟩
  exact nB (nB ⟨ρ,out,S,hx,si.step sm,po.step (aG.same sm)⟩)
 |false =>
  obtain⟨as,has,hx⟩:=aE hx;split at hx
  ·rename_i o hi;obtain⟨r,hr,hx⟩:=aE hx;obtain⟨d,o'⟩:=r;obtain⟨ds',e1,hl,pa,hs⟩:=(cL n).2.2.2.1 X c S ρ es ies xc he _ (bJ has);cases e1;refine sD (PW.pt (rX pt (pH (uG (CA (RZ xc hg hy hi pa hs hl hr)))))) ha pn pins s σ H D I ⟨si.re.view,fun H1 s1=>?_⟩
   refine lV ⟨(si.step s1).re,fun q e1 v H2 ez k hq rm rd=>?_⟩
   obtain⟨si2,mv⟩:=(si.step s1).writeA hi e1 k hq rm;have j4:aG X.K H H2 S S:=(aG.same s1).trans mv
   cases d<;>first|exact nomatch (show none=some out from hx)|skip
   rename_i b;unfold Rep at rd;refine⟨b,rd,?_⟩;cases b with
   |true =>
    cases (show some (Out.nx (ρ.set i (.mu o')))=some out from hx)
    exact lV (po S σ H2 si2 j4)
   |false=>exact nB ⟨_,out,S,hx,si2,po.step j4⟩
  ·cases hx
theorem vG{t r:List Sl→Option D}{i:Nat}{d:D}{ds:List D}{ρ:List Sl}{out:Out}(h:mP t r i (d::ds) ρ=some out):(t (ρ.set i (.im d))=some (.bl true)∧∃v,r (ρ.set i (.im d))=some v∧out=.rt v)∨(t (ρ.set i (.im d))=some (.bl false)∧mP t r i ds (ρ.set i (.im d))=some out):=by
 obtain⟨w,h1,h⟩:=aE (show (t (ρ.set i (.im d))).bind _=some out from h)
 cases w<;>first|exact nomatch (show none=some out from h)|skip
 rename_i k;cases k with
 |true =>
  obtain⟨v,h2,e⟩:=aI h;exact .inl ⟨h1,v,h2,e⟩
 |false=>exact .inr ⟨h1,h⟩
theorem HL(xc:XC CX X c G T lv)(xs:XS CX T X c EX){n:Nat}{y:Str}{py eu rp ip:Pos}{x i:Nat}{z:Str}{t e:Expr}{it ie:IE}(hy:bC c y=some x)(hz:eC c (.Name z eu)=some i)(cN:i≠x)(ht:cT n c t=some it)(he:cE n c e=some ie)(ar:fr=false)(hk:D0 S₀ H₀) :
  PS X (.For (.Name z eu) (.Name y py) [.If t [.Return (some e) rp] [] ip] [] pos) (bc X.K T S₀ H₀ fr EX G (.chkm x i it ie)):=fun pins s σ H D I ⟨ρ,out,S,hx,si,po⟩=>by
 simp only[ex]at hx;split at hx
 ·rename_i ds hi;obtain⟨q,ob,e1,e2,e3,rm⟩:=si.re.at_ x _ hi;obtain⟨i8,rfl,rl⟩:=rm.lst;have cf:bN c (.Name z eu)=some ([i],false):=by simp only[bN,hz,oe]
  have hg:PG X (.Name z eu) (gEx X.K T [i] false):=fun pins s σ H v u Q I r ⟨ρ,S,ρ1,d,fu,h⟩=>JC xc cf fu pins s σ H v u Q I r h
  have pb:PSs X [.If t [.Return (some e) rp] [] ip] (fun D' σ' H'=>∃ρ' S' b,ev G it (view ρ')=some (.bl b)∧SInv X.K T S₀ H₀ S' ρ' σ' H'∧((b=true∧∃d,bu G ie ρ'=some d∧∀v fy,aF H₀ fy→Rep X.K T fy S₀ d v→D'.rt v fy)∨(b=false∧∀fy,aF H' fy→D'.nx σ' fy))):=
   pI fun pins s σ H D' I ⟨ρ',S',b,h1,h2,h3⟩=>by
    have pt:=(cL n).2.1 X c (fun _=>False) (view ρ') t it xc ht b h1
    rcases h3 with ⟨rfl,d,hd,h3⟩|⟨rfl,h3⟩
    ·refine sD pt (pI (lM (iU (S:=S') xc he hd))) (u:=fun _ _ _=>False) (fun _ _ _ _ _ _ h=>h.elim) pins s σ H D' I ⟨h2.re.view,fun H1 s1=>nB ⟨(h2.step s1).re,fun v H2 s2 r=>h3 v H2 ((h2.step s1).same.trans s2) (Rep.mono h2.sup (fun _ _ _ e=>e) d v r)⟩⟩
    ·refine sD pt (t:=fun _ _ _=>False) (fun _ _ _ _ _ _ h=>h.elim) (u:=fun D σ H=>D.nx σ H) (fun pins s σ H D I h=>kR pins s σ H D I h) pins s σ H D' I ⟨h2.re.view,fun H1 s1=>lV (h3 H1 s1)⟩
  refine CD xs.pass xc.calm (JA (hU xc hy)) hg pb (fun _=>rfl) pins s σ H D I ⟨.ref q,e1,q,rfl,⟨i8,SqL.of e3⟩,?_⟩
  refine⟨fun k m σ' H'=>∃ρi,m=ds.length-k∧k≤ds.length∧mP (fun ρ=>ev G it (view ρ)) (fun ρ=>bu G ie ρ) i (ds.drop k) ρi=some out∧SInv X.K T S₀ H₀ S ρi σ' H'∧ρi[x]?=some (.mu (.lst ds))∧σ'[x]?=some (some (.ref q))∧aF H H',⟨ds.length,ρ,by simp,oz _,by simpa using hx,si,hi,e1,aF.refl H⟩,?_⟩
  rintro k m σ' H' ⟨ρi,rfl,hkl,du,f6,hxi,hqi,sm⟩;have e3':H' q=some (.lst i8):=sm q _ e3
  have rl':aD X.K T H' S ds i8:=rl.same sm
  by_cases fc:k<ds.length
  ·refine .inr ?_;rw[List.drop_eq_getElem_cons fc]at du;obtain⟨v,hv,rv⟩:=rl'.get (i:=k) (d:=ds[k]) (by simp[fc])
   refine⟨⟨i8,v,SqL.of e3',hv⟩,fun σ2 H2=>∃ρ2,mP (fun ρ=>ev G it (view ρ)) (fun ρ=>bu G ie ρ) i (ds.drop (k+1)) ρ2=some out∧SInv X.K T S₀ H₀ S ρ2 σ2 H2∧ρ2[x]?=some (.mu (.lst ds))∧σ2[x]?=some (some (.ref q))∧aF H H2,fun σ2 H2 ⟨ρ2,a,b,c,d,e⟩=>⟨ds.length-(k+1),by omega,ρ2,rfl,fc,a,b,c,d,e⟩,fun w H2 j6=>?_⟩
   obtain⟨rfl,ey⟩:=j6;have:=ey i8 (SqL.of e3')
   rw[hv]at this;cases this;have fu:bB [i] false ds[k] ρi=some (ρi.set i (.im ds[k])):=rfl
   refine⟨ρi,S,ρi.set i (.im ds[k]),ds[k],fu,f6.re,rv,fun σ3 ja ag=>?_⟩
   have si3:=f6.bind (.inr hk) fu ja ag
   have x3:(ρi.set i (.im ds[k]))[x]?=some (.mu (.lst ds)):=by rw[mq cN];exact hxi
   have q3:σ3[x]?=some (some (.ref q)):=(ag x (by simpa using Ne.symm cN)).trans hqi
   rcases vG du with ⟨h1,v,h2,rfl⟩|⟨h1,h2⟩
   ·refine⟨_,S,true,h1,si3,.inl ⟨rfl,v,h2,fun u H4 s4 r4=>po u H4 s4 r4 fun zz=>by rw[ar]at zz;cases zz⟩⟩
   ·exact⟨_,S,false,h1,si3,.inr ⟨rfl,fun H4 s4=>⟨_,h2,si3.step s4,x3,q3,sm.trans s4⟩⟩⟩
  ·have hn:k=ds.length:=by omega
   refine .inl ⟨⟨i8,SqL.of e3',by rw[←rl'.len];omega⟩,?_⟩
   rw[hn,List.drop_length]at du;cases (show some (Out.nx ρi)=some out from du)
   exact po S σ' H' f6 (aG.same sm)
 ·cases hx
end Z
namespace Z
open PySem PySem.Spec PyProof.Rows L2
variable {CX:ak}{G:GS}{T:Tx}{lv:Nat}{X:Cx}{c:CC}{S₀:Addr→Prop}{H₀:Hp}{fr:Bool}{EX:Str→Hp→Prop}{pos:Pos}
theorem KH(h:XC CX X c G T lv){S:Addr→Prop}{ρ:List Sl}{x:Str}{es:List Expr}{ds:List D}{p:Pos}{k:Str}{C:Addr}{E1:XK}(hg:aO c x=true)(hf:c.fns.contains x=true)(ha:PA X es (b0 X.K T S ρ ds))(hs:starEach es X.env=es.map fun e=>(false,eval e X.env))(hlen:ds.length=es.length)
  (hd:G.fn x ds=some (.er k)) (hT:T.xc k=some C) (hp:fK CX X E1):PE X (.Call (.Name x p) es [] pos) (fun σ H Q=>RE X.K T H S ρ σ∧∀H',aF H H'→E1 (.ref C) none H'):=by
 obtain⟨f,fd,ps,hm,hk,hb,hl,F⟩:=h.go.fn x hf;have key:∀σ H Q,(RE X.K T H S ρ σ∧∀H',aF H H'→E1 (.ref C) none H')→vS (eg X.K T ps.length (G.fn x) (G.ff x)) [] E1 (b0 X.K T S ρ ds) σ H Q:=fun σ H Q ⟨re,q⟩ =>
  ⟨re,fun vs H1 s1 r1=>⟨by rw[nh,←r1.len];exact hl ds _ hd,S,ds,(re.same s1).dom,by rw[nh];exact r1,.inr ⟨k,C,hd,hT,fun H' s2=>q H' (s1.trans s2)⟩⟩⟩
 cases es with
 |nil =>
  refine PE.mono (sH F h.room (h.glob hg) hm hk hb .nil hp (h.gne hg)) fun σ H Q hq=>?_
  obtain⟨re,q⟩:=hq;have ay:ds=[]:=ni.mp hlen
  subst ay;exact(key σ H Q ⟨re,q⟩).2 [] H (aF.refl H) aD.nil
 |cons e es =>
  obtain⟨h1,h2⟩:=lG (pos:=pos) hs;exact PE.mono (pM F h.room (h.glob hg) hm hk hb .nil hp ha (h.gne hg) h1 h2) key
theorem KD(h:XC CX X c G T lv){S:Addr→Prop}{ρ:List Sl}{ea:Expr}{m cn:Str}{fs:List (Str×D)}{es:List Expr}{ds:List D}{apos:Pos}{k:Str}{C:Addr}{E1:XK}(ht:mW X ea m es apos pos)(ho:PE X ea (tD X.K T S ρ (.obj cn fs)))(hn:fs.lookup m=none)
  (ha:PA X es (b0 X.K T S ρ ds)) (hs:starEach es X.env=es.map fun e=>(false,eval e X.env)) (hlen:ds.length=es.length) (hd:G.me cn m (.obj cn fs::ds)=some (.er k)) (hT:T.xc k=some C) (hp:fK CX X E1) :
  PE X (.Call (.Attribute ea m apos) es [] pos) (fun σ H Q=>RE X.K T H S ρ σ∧∀H',aF H H'→E1 (.ref C) none H'):=by
 obtain⟨pl,ht⟩:=ht;intro pins s σ H Q I ⟨re,q⟩;refine PySem.W.methodCall_KW (pl:=pl) (af (ho pins s σ H (fun v H'=>aF H H'∧Rep X.K T H' S (.obj cn fs) v) I ⟨re,fun v H' a b=>⟨a,b⟩⟩) fun u s1 ⟨x,H1,I1,rx,sm,ro⟩=>?_) ht
 have ro':=ro
 unfold Rep at ro;obtain⟨p,C',dx,gs,ex,_,ec,e,rf⟩:=ro;subst ex;obtain rfl:u=Value.ref p:=rx;obtain⟨f,fd,ps,hm,hb,hl,F⟩:=h.go.me cn C' m _ _ ec hd;refine mB I1 e (h.go.cls cn C' ec) hm ((bT.look rf).2 hn) ?_;have fin:∀(us:List Value) (vs:List V) (s2:Shared) (H2:Hp),Inv X pins σ H2 s2→aM vs us→aF H1 H2→aD X.K T H2 S ds vs→wpAny (model X.prog X.w) X.A (call (.ref f) (.ref p::us)) (EP X pins σ Q) X.xe s2:=fun us vs s2 H2 I2 r2 bw rl=>by
  refine pF (us:=.ref p::us) (vs:=.ref p::vs) (dvs:=[]) (ds:=[]) (E:=E1) F h.room hb .nil hp I2 (.cons rfl r2) ?_;refine⟨?_,S,.obj cn fs::ds,((re.same sm).same bw).dom,?_,.inr ⟨k,C,hd,hT,fun H' s3=>q H' ((sm.trans bw).trans s3)⟩⟩
  ·have:=hl _ _ hd
   simp only[nh,om]at this ⊢;rw[←rl.len];exact this
  ·rw[nh];exact aD.cons (ro'.same bw) rl
 cases es with
 |nil =>
  have ay:ds=[]:=ni.mp hlen
  subst ay;exact callWith_K0 (first:=[.ref p]) I1.kIn hm.kp (fin [] [] s1 H1 I1 .nil (aF.refl _) aD.nil)
 |cons e es =>
  obtain⟨h1,h2⟩:=lG (pos:=pos) hs;refine callWith_K (first:=[.ref p]) (h₀:=X.base) I.ok.mod.kin hm.kp (af (ha pos pins s1 σ H1 (fun vs H'=>aF H1 H'∧aD X.K T H' S ds vs) I1 ⟨re.same sm,fun vs H' a b=>⟨a,b⟩⟩) fun us s2 ⟨vs,H2,I2,r,bw,rl⟩=>⟨I2.kIn,?_⟩) h1 h2
  exact fin us vs s2 H2 I2 r bw rl
theorem aAM(xc:XC CX X c G T lv){S:Addr→Prop}{ρ:List Sl}{n:Nat}{f:Expr}{args:List Expr}{kw:List Keyword}{p:Pos}{ir:IE}{k:Str}{C:Addr}{E1:XK}(he:cE n c (.Call f args kw p)=some ir)(hr:ku G ir ρ=some (.er k))(hT:T.xc k=some C)(hp:fK CX X E1) :
  PE X (.Call f args kw p) (fun σ H Q=>RE X.K T H S ρ σ∧∀H',aF H H'→E1 (.ref C) none H'):=by
 cases n with
 |zero=>exact nomatch (show none=some ir from he)
 |succ n =>
  obtain⟨hE,fg,hB,hA,hI⟩:=cL (CX:=CX) (G:=G) (T:=T) (lv:=lv) n;obtain⟨hkw,he⟩:=aX he;obtain rfl:=jB hkw;cases f<;>first|exact nomatch (show none=some ir from he)|skip
  case Attribute o m ap _ =>
   obtain⟨hc,he⟩:=aX he;obtain⟨hc,hc3⟩:=bS hc;obtain⟨hc1,d9⟩:=bS hc;obtain⟨x,hx,he⟩:=aE he;obtain⟨y,hy,rfl⟩:=aI he;simp only[ku]at hr;split at hr
   ·rename_i cn fs hw;obtain⟨hnone,hr⟩:=aX hr;obtain⟨ds,ay,hd⟩:=aE hr;obtain⟨ds',e1,hl,pa,hs⟩:=hA X _ S ρ args y xc hy _ (bJ ay);cases e1;exact KD xc (sN hc1 hs (of_decide_eq_true d9) hc3) (hE X _ S ρ o x xc hx _ hw).1 (Option.isNone_iff_eq_none.mp hnone) pa hs hl hd hT hp
   ·cases hr
  case Name x px _ =>
   obtain⟨hg,he⟩:=aX he;cases hf:c.fns.contains x with
   |true =>
    rw[hf]at he;obtain⟨y,hy,rfl⟩:=aI (show (cA n c args).map (fun y=>IE.call x y)=some ir from he)
    obtain⟨ds,ay,hd⟩:=aE (show (bA (ev G y ρ)).bind (G.fn x)=some (.er k) from hr)
    obtain⟨ds',e1,hl,pa,hs⟩:=hA X _ S ρ args y xc hy _ (bJ ay);cases e1;exact KH xc hg hf pa hs hl hd hT hp
   |false =>
    exfalso
    rw[hf]at he;have no:∀{o:Option IE} {g:IE→IE},(∀y,ku G (g y) ρ=none)→o.map g=some ir→False:=fun {o g} hn z=>by
     obtain⟨y,_,rfl⟩:=aI z;rw[hn y]at hr;cases hr
    cases ao:c.cls.contains x with
    |true=>rw[ao]at he;exact no (g:=fun y=>IE.mk x y) (fun _=>rfl) he
    |false =>
     rw[ao]at he;cases hi:x == "isinstance" with
     |true =>
      rw[hi]at he;have he:BU (cE n c) c args=some ir:=he
      match args,he with
      |[a,y],he =>
       obtain⟨y',_,he⟩:=aE he;obtain⟨_,he⟩:=aX he;exact no (g:=fun z=>IE.isi z y'.1) (fun _=>rfl) he
     |false =>
      rw[hi]at he;obtain⟨b,hb,he⟩:=aE (show (nG x).bind (fun b=>zI (cE n c) c b args (cA n c args))=some ir from he)
      unfold zI at he;have nb:∀b:BF,((cA n c args).map fun z=>IE.bcall b z)=some ir→False:=fun b he=>no (g:=fun z=>IE.bcall b z) (fun _=>rfl) he
      split at he
      ·rename_i i _;cases b<;>first|exact nb _ he|(cases (show some _=some ir from he);cases hr)
      ·cases hra:uD c args with
       |none=>rw[hra]at he;exact nb b (by cases b<;>exact he)
       |some a=>rw[hra]at he;cases b<;>first|exact nb _ he|exact no (g:=fun z=>IE.walk .rev z) (fun _=>rfl) he
theorem HK(xc:XC CX X c G T lv)(xs:XS CX T X c EX){n:Nat}{f:Expr}{args:List Expr}{kw:List Keyword}{p:Pos}{ir:IE}(he:cE n c (.Call f args kw p)=some ir):PS X (.Expr (.Call f args kw p) pos) (bc X.K T S₀ H₀ fr EX G (.drop ir)):=fun pins s σ H D I ⟨ρ,out,S,hx,si,po⟩=>by
 simp only[ex]at hx;split at hx
 ·rename_i d hd;cases hx;exact pJ ((cL n).1 X c (fun _=>False) (view ρ) _ ir xc he d hd).1 rfl pins s σ H D I ⟨si.re.view,fun v H' sm _=>po S σ H' (si.step sm) (aG.same sm)⟩
 ·split at hx
  ·rename_i k hk;split at hx
   ·rename_i hn;cases hx;obtain⟨C,hT⟩:=xc.go.xns k hn;refine pJ (aAM (S:=fun _=>False) (E1:=fun cls _ H'=>∃k C,T.xc k=some C∧cls=.ref C∧EX k H') xc he hk hT (xs.pss _ fun cls H' z=>z)) rfl pins s σ H D I ⟨si.re.view,fun H' sm=>⟨k,C,hT,rfl,po H' (si.same.trans sm)⟩⟩
   ·cases hx
  ·cases hx
theorem XC.re{X':Cx}(xc:XC CX X c G T lv)(h1:X'.prog=X.prog)(h2:X'.w=X.w)(h3:X'.K=X.K)(h4:X'.mg=X.mg)(h5:X'.base=X.base)(h6:X'.N=X.N)(h7:X'.env=X.env)(h8:X'.fn=X.fn)(h9:X'.calm=X.calm)(h10:X'.A=X.A):XC CX X' c G T lv:=by
 obtain⟨pr,w,K,mg,base,A,N,s0,H0,env,outer,stack,ex,fn,calm,pn,xe⟩:=X;obtain⟨pr',w',K',mg',base',A',N',s0',H0',env',outer',stack',ex',fn',calm',pn',xe'⟩:=X';dsimp only at h1 h2 h3 h4 h5 h6 h7 h8 h9 h10;subst h1 h2 h3 h4 h5 h6 h7 h8 h9 h10;exact⟨xc.N,xc.nd,xc.kd,xc.own,xc.dbg,xc.gdb,xc.calm,xc.room,⟨xc.go.fn,xc.go.me,xc.go.cls,xc.go.fld,xc.go.mo,xc.go.cst,xc.go.bi,xc.go.xcl,xc.go.frs,xc.go.cx0,xc.go.cxf,xc.go.xns,xc.go.xk,xc.go.sub,xc.go.wd,xc.go.dk,xc.go.fm⟩⟩
end Z
namespace Z
open PySem PySem.Spec PyProof.Rows L2
variable {CX:ak}{G:GS}{T:Tx}{lv:Nat}{X:Cx}{c:CC}{S₀:Addr→Prop}{H₀:Hp}{fr:Bool}{EX:Str→Hp→Prop}{pos:Pos}
def UO(CX:ak)(G:GS)(T:Tx)(lv:Nat)(S₀:Addr→Prop)(H₀:Hp)(fr:Bool)(EX:Str→Hp→Prop)(n:Nat):Prop:=∀(X:Cx) (c:CC) (st:Stmt) (is:IS),XC CX X c G T lv→XS CX T X c EX→cS n c st=some is→(fr=true→fY is=true)→K0 S₀ H₀ is→PS X st (bc X.K T S₀ H₀ fr EX G is)
def MR(CX:ak)(G:GS)(T:Tx)(lv:Nat)(S₀:Addr→Prop)(H₀:Hp)(fr:Bool)(EX:Str→Hp→Prop)(n:Nat):Prop:=∀(X:Cx) (c:CC) (st:List Stmt) (is:IS),XC CX X c G T lv→XS CX T X c EX→cy n c st=some is→(fr=true→fY is=true)→K0 S₀ H₀ is→PSs X st (bc X.K T S₀ H₀ fr EX G is)
theorem zH{s:Stmt}{x:Option Expr×Pos}(h:XT s=some x):s=.Return x.1 x.2:=by
 cases s<;>first|exact nomatch (show none=some x from h)|(cases (show some _=some x from h);rfl)
theorem BB{c:CC}{e:Expr}{q:Nat×Expr}(h:MN c e=some q):∃x p1 p2 p,e=.Call (.Attribute (.Name x p1) "append" p2) [q.2] [] p∧bC c x=some q.1∧(p2.endLine == p.line)=true:=by
 obtain⟨r,h1,h⟩:=aE h;obtain⟨g,h2,h⟩:=aE h;obtain⟨j,h3,h⟩:=aE h;obtain⟨a,h4,h⟩:=aE h;obtain⟨h5,h⟩:=aX h;obtain⟨h5,h7⟩:=bS h5;obtain⟨h5,h6⟩:=bS h5;cases h;obtain⟨x,p1,e3,hs⟩:=cU h3;refine⟨x,p1,g.2.2,r.2.2.2,?_,hs,h7⟩;rw[eX h1,mU h2,bZ h4,jB h5,e3,nu.mp h6]
theorem vI{e:Expr}{x:BoolOp×List Expr}(h:NZ e=some x):∃p,e=.BoolOp x.1 x.2 p:=by
 cases e<;>first|exact nomatch (show none=some x from h)|(cases (show some _=some x from h);exact⟨_,rfl⟩)
theorem zR{e x:Expr}(h:RQ e=some x):∃p,e=.UnaryOp .Not x p:=by
 cases e<;>first|exact nomatch (show none=some x from h)|skip
 rename_i o a p;cases o<;>first|exact nomatch (show none=some x from h)|(cases (show some _=some x from h);exact⟨_,rfl⟩)
theorem qA{c:CC}{e:Expr}{r:Str×Nat×List Expr}(h:qB c e=some r):∃p y py cp,e=.Call (.Name r.1 p) (.Name y py::r.2.2) [] cp∧aO c r.1=true∧bC c y=some r.2.1:=by
 obtain⟨q,h1,h2⟩:=aE h;obtain⟨g,h3,h4⟩:=aE h2;obtain⟨h5,h6⟩:=aX h4;obtain⟨h5,h8⟩:=bS h5;obtain⟨h5,h7⟩:=bS h5;obtain⟨fx,as,kw,cp⟩:=q;cases as with
 |nil=>exact nomatch (show none=some r from h6)
 |cons y as =>
  obtain⟨j,h9,e9⟩:=aI (show (cO c y).map (fun j=>(g.1,j,as))=some r from h6)
  subst e9;obtain⟨x,py,e3,hs⟩:=cU h9;refine⟨g.2,x,py,cp,?_,h7,hs⟩;have e4:fx=.Name g.1 g.2:=cM h3
  have e5:kw=[]:=jB h5
  subst e4 e5 e3;exact eX h1
theorem AN{c:CC}{t:Expr}{r:Expr×Str×Nat×List Expr}(h:LF c t=some r):∃t0 f p y py cp np bp,t0=r.1∧f=r.2.1∧t=.BoolOp .Or [r.1,.UnaryOp .Not (.Call (.Name r.2.1 p) (.Name y py::r.2.2.2) [] cp) np] bp∧aO c r.2.1=true∧bC c y=some r.2.2.1:=by
 obtain⟨q,h1,h2⟩:=aE h;obtain⟨bp,e1⟩:=vI h1;obtain⟨o,vs⟩:=q;cases o with
 |And=>exact nomatch (show none=some r from h2)
 |Or =>
  rcases vs with _|⟨a,_|⟨b,_|⟨d,rest⟩⟩⟩
  ·exact nomatch (show none=some r from h2)
  ·exact nomatch (show none=some r from h2)
  ·obtain⟨e,h3,h4⟩:=aE (show (RQ b).bind (fun e=>(qB c e).map fun r=>(a,r))=some r from h2)
   obtain⟨np,e2⟩:=zR h3;obtain⟨s,h5,e5⟩:=aI h4;subst e5;obtain⟨p,y,py,cp,e6,hg,hs⟩:=qA h5;refine⟨a,s.1,p,y,py,cp,np,bp,rfl,rfl,?_,hg,hs⟩;subst e6 e2;exact e1
  ·exact nomatch (show none=some r from h2)
theorem EE{s:Stmt}{x:Expr×List Stmt×List Stmt}(h:ifP s=some x):∃p,s=.If x.1 x.2.1 x.2.2 p:=by
 cases s<;>first|exact nomatch (show none=some x from h)|(cases (show some _=some x from h);exact⟨_,rfl⟩)
theorem AW{c:CC}{tg iter:Expr}{body:List Stmt}{r:Nat×Nat×Expr×Expr}(h:MG c tg iter body=some r):∃z pz y py t e rp ip,tg=.Name z pz∧iter=.Name y py∧body=[.If t [.Return (some e) rp] [] ip]∧bC c y=some r.1∧eC c (.Name z pz)=some r.2.1∧r.2.1≠r.1∧r.2.2.1=t∧r.2.2.2=e:=by
 obtain⟨x,h1,h⟩:=aE h;obtain⟨i,h2,h⟩:=aE h;obtain⟨s,h3,h⟩:=aE h;obtain⟨q,h4,h⟩:=aE h;obtain⟨r1,h5,h⟩:=aE h;obtain⟨r2,h6,h⟩:=aE h;obtain⟨e,h7,h⟩:=aE h;obtain⟨h8,h⟩:=aX h;obtain⟨h8,h9⟩:=bS h8;cases h;obtain⟨y,py,rfl,hs⟩:=cU h1;obtain⟨ip,e4⟩:=EE h4;have hz:∃z pz,tg=.Name z pz:=by
  cases tg<;>first|exact⟨_,_,rfl⟩|exact nomatch (show none=some i from h2)
 obtain⟨z,pz,rfl⟩:=hz;exact⟨z,pz,y,py,q.1,e,r2.2,ip,rfl,rfl,by rw[bZ h3,e4,bZ h5,zH h6,h7,jB h8],hs,h2,by simpa using h9,rfl,rfl⟩
theorem PX{n:Nat}(xc:XC CX X c G T lv)(xs:XS CX T X c EX){t e:Expr}{is:IS}(h:NF (cE n c) c e t=some is)(hk:K0 S₀ H₀ is):PS X (.Assign [t] e pos) (bc X.K T S₀ H₀ fr EX G is):=by
 cases t<;>first|exact nomatch (show none=some is from h)|skip
 case Name x p =>
  obtain⟨i,hx,h⟩:=aE h;unfold BX at h;split at h
  ·split at h
   ·rename_i hz;cases h;unfold wN at hz;split at hz
    ·exact HE xc hx hk
    ·cases hz
   ·obtain⟨hf,h⟩:=aX h;obtain⟨y,hy,rfl⟩:=aI h;exact HD xc hx hy hf hk
  ·obtain⟨y,hy,rfl⟩:=aI h;exact PL xc hx hy hk
 case Subscript a i p =>
  obtain⟨j,hj,h⟩:=aE h;obtain⟨k,hkk,h⟩:=aE h;obtain⟨y,hy,rfl⟩:=aI h;obtain⟨x,p1,rfl,hs⟩:=cU hj;exact PQ xc hs hkk hy
 case Tuple ts k p =>
  have h:uE (cE n c) c ts e=some is:=h
  unfold uE at h;cases ht:tupP e with
  |some q =>
   rw[ht]at h;exact nomatch (show none=some is from h)
  |none =>
   rw[ht]at h;obtain⟨is',his,h⟩:=aE h;obtain⟨u,hu,rfl⟩:=aI h;refine HC xc his hu (fun vs k p z=>?_) hk
   subst z;exact nomatch (show some _=none from ht)
theorem zO{n:Nat}(hS:MR CX G T lv S₀ H₀ fr EX n):UO CX G T lv S₀ H₀ fr EX (n+1):=by
 intro X c st is xc xs h ar hk;cases st<;>first|exact nomatch (show none=some is from h)|skip
 case Pass q=>cases (show some IS.nop=some is from h);exact HJ
 case Return v q =>
  cases v with
  |none=>cases (show some IS.retn=some is from h);exact HG
  |some e =>
   have h:(if FN c then(cE n c e).map IS.retq else match cO c e with|some i=>some (IS.retm i)|none=>(cE n c e).map fun x=>IS.ret (eV c e) x)=some is:=h
   cases hq:FN c with
   |true =>
    rw[hq]at h;obtain⟨y,hy,rfl⟩:=aI (show (cE n c e).map IS.retq=some is from h)
    exact HF xc hy
   |false =>
   rw[hq]at h;have h:(match cO c e with|some i=>some (IS.retm i)|none=>(cE n c e).map fun x=>IS.ret (eV c e) x)=some is:=h
   cases hm:cO c e with
   |some i =>
    rw[hm]at h;cases h;obtain⟨x,p,rfl,hs⟩:=cU hm;exact HI xc hs hk
   |none =>
    rw[hm]at h;obtain⟨y,hy,rfl⟩:=aI h;exact PP xc hy (fun z=>z) fun z=>ar z
 case Assign ts e q =>
  obtain⟨t,ht,h⟩:=aE h;obtain rfl:=bZ ht;exact PX xc xs h hk
 case If t a b q =>
  have h:(match LF c t with
   |some q=>if b.isEmpty then(cT n c q.1).bind fun t=>(cA n c q.2.2.2).bind fun es=>(cy n c a).map fun a=>IS.fil t q.2.1 q.2.2.1 es a else none
   |none=>(cT n c t).bind fun t=>(cy n c a).bind fun a=>(cy n c b).map fun b=>IS.iff t a b)=some is:=h
  cases hq:LF c t with
  |some r =>
   rw[hq]at h;obtain⟨hb,h⟩:=aX h;obtain rfl:=jB hb;obtain⟨u,hu,h⟩:=aE h;obtain⟨es,hes,h⟩:=aE h;obtain⟨v,hv,rfl⟩:=aI h;obtain⟨t0,f,p,y,py,cp,np,bp,rfl,e1,e2,hg,hy⟩:=AN hq;rw[e2];exact PV xc hu hg hy hes (hS X _ a v xc xs hv (fun z=>ar z) hk)
  |none =>
  rw[hq]at h;obtain⟨u,hu,h⟩:=aE h;obtain⟨v,hv,h⟩:=aE h;obtain⟨w,hw,rfl⟩:=aI h;have kg:fr=true→fY v=true∧fY w=true:=fun z=>bS (ar z)
  exact WN xc hu (hS X _ a v xc xs hv (fun z=>(kg z).1) (DU hk).1) (hS X _ b w xc xs hw (fun z=>(kg z).2) (DU hk).2)
 case For tg iter body els q =>
  obtain⟨he,h⟩:=aX h;obtain rfl:=jB he;have h:(match MG c tg iter body with
   |some q=>(cT n c q.2.2.1).bind fun t=>(cE n c q.2.2.2).map fun e=>IS.chkm q.1 q.2.1 t e
   |none=>(bN c tg).bind fun g=>(cI n c iter).bind fun k=>if EJ g.2 k.1 then(cy n c body).map fun b=>IS.loop g.1 g.2 k.1 k.2 b else none)=some is:=h
  cases hq:MG c tg iter body with
  |some r =>
   rw[hq]at h;obtain⟨u,hu,h⟩:=aE h;obtain⟨v,hv,rfl⟩:=aI h;obtain⟨z,pz,y,py,t,e,rp,ip,rfl,rfl,rfl,hy,hz,cN,e1,e2⟩:=AW hq;rw[e1]at hu;rw[e2]at hv;refine HL xc xs hy hz cN hu hv ?_ (NR rfl hk);cases hf:fr with
   |false=>rfl
   |true=>exact nomatch (show false=true from ar hf)
  |none =>
  rw[hq]at h;obtain⟨⟨au,tp⟩,cf,h⟩:=aE h;obtain⟨⟨k,src⟩,hsrc,h⟩:=aE h;obtain⟨hen,h⟩:=aX h;have jc:FO k tg:=GY cf hen
  obtain⟨v,hv,rfl⟩:=aI h;exact PU xc xs cf hsrc jc (wI hk).1 (hS X _ body v xc xs hv (fun z=>ar z) (wI hk).2)
 case Expr e q =>
  have h:(match MN c e with|some q=>(cE n c q.2).map fun x=>IS.app q.1 x|none=>(mR e).bind fun _=>(cE n c e).map .drop)=some is:=h
  cases ha:MN c e with
  |some r =>
   rw[ha]at h;obtain⟨u,hu,rfl⟩:=aI h;obtain⟨x,p1,p2,p,rfl,hs,hp⟩:=BB ha;exact PY xc hs hp hu
  |none =>
   rw[ha]at h;obtain⟨r,hr,h⟩:=aE h;obtain⟨u,hu,rfl⟩:=aI h;obtain rfl:=eX hr;exact HK xc xs hu
 case Raise e f q =>
  obtain⟨e',he,h⟩:=aE h;obtain⟨r,h1,h⟩:=aE h;obtain⟨x,h2,h⟩:=aE h;obtain⟨a,h3,h⟩:=aE h;obtain⟨m,h4,h⟩:=aE h;obtain⟨h5,h⟩:=aX h;obtain⟨h5,h8⟩:=bS h5;obtain⟨h5,h7⟩:=bS h5;obtain⟨h5,h6⟩:=bS h5;cases h;obtain⟨j,p',ea⟩:=zC h4;rw[he,Option.isNone_iff_eq_none.mp h5,eX h1,cM h2,bZ h3,jB h6,ea];exact PN xs h7 h8
theorem zP{n:Nat}(hS:UO CX G T lv S₀ H₀ fr EX n)(hR:MR CX G T lv S₀ H₀ fr EX n):MR CX G T lv S₀ H₀ fr EX (n+1):=by
 intro X c st is xc xs h ar hk
 rcases st with _|⟨s,_|⟨s2,r⟩⟩
 ·cases (show some IS.nop=some is from h)
  exact PR
 ·exact pI (hS X c s is xc xs h ar hk)
 ·obtain⟨u,hu,h⟩:=aE h;obtain⟨v,hv,rfl⟩:=aI h;have kg:fr=true→fY u=true∧fY v=true:=fun z=>bS (ar z)
  exact PM (hS X c s u xc xs hu (fun z=>(kg z).1) (DT hk).1) (hR X c (s2::r) v xc xs hv (fun z=>(kg z).2) (DT hk).2)
theorem iS:∀n,UO CX G T lv S₀ H₀ fr EX n∧MR CX G T lv S₀ H₀ fr EX n
 | 0=>⟨fun X c st is xc xs h=>(nomatch (show none=some is from h)),fun X c st is xc xs h=>(nomatch (show none=some is from h))⟩
 |n+1=>⟨zO (iS n).2,zP (iS n).1 (iS n).2⟩
end Z
namespace Z
open PySem PySem.Spec PyProof.Rows L2
variable {CX:ak}{G:GS}{T:Tx}{lv:Nat}
noncomputable def jI(n:Nat)(ds:List D):List Sl:=ds.map .im++List.replicate (n-ds.length) .un
theorem lF{K:p6}{H:Hp}{S:Addr→Prop}{N:List Str}{ds:List D}{vs:List V}(dom:∀a,S a→∃o,H a=some o)(rl:aD K T H S ds vs):SInv K T S H S (jI N.length ds) (L2.start N vs) H:=by
 have hl:=rl.len
 have df:∀(i:Nat) xs,(jI N.length ds)[i]?≠some (.mu xs):=fun i xs e=>by
  unfold jI at e
  by_cases h:i<(ds.map Sl.im).length
  ·rw[ow h,l9]at e;cases h2:ds[i]? with
   |none=>rw[h2]at e;cases e
   |some d=>rw[h2]at e;cases e
  ·rw[ox (by omega),getElem?_replicate]at e
   split at e<;>cases e
 refine⟨⟨dom,by simp[jI,L2.start,hl],fun i s e=>?_⟩,fun a z=>.inl (dom a z),fun _ z=>z,aF.refl H,fun i j xs ys p h=>absurd h (df i xs),fun i xs p h=>absurd h (df i xs)⟩
 unfold jI at e;unfold L2.start
 by_cases h:i<(ds.map Sl.im).length
 ·rw[ow h,l9]at e;cases h2:ds[i]? with
  |none=>rw[h2]at e;cases e
  |some d =>
   rw[h2]at e;cases e;obtain⟨v,h3,r⟩:=rl.get h2;exact⟨v,by rw[ow (by rw[la]at h ⊢;omega),l9,h3];rfl,r⟩
 ·rw[ox (by omega),getElem?_replicate]at e
  split at e
  ·cases e;trivial
  ·cases e
theorem sQ(k:Option NameKind):rH k k:=by
 cases k with
 |none=>trivial
 |some k=>cases k<;>first|rfl|trivial|exact .inl rfl
noncomputable def hZ(c:CC)(sc:Scope):Bool:=c.N.all (fun x=>!(x == ("__debug__":Str))&&!(x == ("__classdict__":Str)))&&!(aO c "__debug__")
theorem tW{P:p8}{w:World}{K:p6}{mg:pj}{base:Heap}{N ps:List Str}{qual:Str}{sc:Scope}{f:Addr}{cd:Value}{A:Around}{outer:List Env}{s:Shared}{H:Hp}{E:XK}{c:CC}(hN:c.N=N)(ij:c.sc=sc)(fs:aa N ps sc)(hk:hZ c sc=true)
  (hr:Room lv (A.deeper (envOfC qual sc s.heap.objs.size f cd))) (go:js CX (iJ CX P w K mg base N qual sc f cd A outer s H E).nox c G T lv):XC CX (iJ CX P w K mg base N qual sc f cd A outer s H E).nox c G T lv:=by
 unfold hZ at hk;rw[ly,all_eq_true]at hk;refine⟨hN.symm,by rw[hN];exact fs.nd,fun x=>?_,fun _ _=>rfl,fun x hx=>?_,?_,rfl,hr,go⟩
 ·rw[ij];exact sQ _
 ·have:=hk.1 x hx
  simpa using this
 ·simpa using hk.2
theorem SU{P:p8}{w:World}{K:p6}{mg:pj}{base:Heap}{x qual:Str}{st:Stmt}{f:Addr}{fd:p7}{N ps:List Str}{c:CC}{n:Nat}{ir:IS}{fr:Bool}(F:Fun K x qual st f fd)(fs:aa N ps (aC st))(hN:c.N=N)(ij:c.sc=aC st)(hk:hZ c (aC st)=true)
  (c6:cy n c (bE st)=some ir) (ar:fr=true→fY ir=true)
  (go:∀(X:Cx),X.prog=P→X.w=w→X.K=K→X.mg=mg→X.base=base→js (cQ P w) X c G T lv):FnOk P w K mg base (cQ P w) (lv+1) f fd ps (eg K T ps.length (fun ds=>aP G N.length ir ds) fr):=by
 obtain⟨oc,od,kV,doc,pm,an,av,ct,gc,rfl,lk,c7⟩:=F.ex;refine wU lk c7 fs (fun vs H Q E h=>h.1) fun A outer s H vs Q E hr aT=>?_
 obtain⟨hlen,S,ds,dom,rl,hcase⟩:=aT;have xc:XC (cQ P w) (iJ (cQ P w) P w K mg base N qual (aC st) f av A outer s H E) c G T lv:=(tW (CX:=cQ P w) (E:=E) (P:=P) (w:=w) (mg:=mg) (base:=base) (outer:=outer) (s:=s) (H:=H) (f:=f) (cd:=av) (qual:=qual) hN ij fs hk hr (go _ rfl rfl rfl rfl rfl)).re rfl rfl rfl rfl rfl rfl rfl rfl rfl rfl
 have xs:XS (cQ P w) T (iJ (cQ P w) P w K mg base N qual (aC st) f av A outer s H E) c (fun k H'=>∃C,T.xc k=some C∧E (.ref C) none H'):=by
  refine⟨fs.kind,PassesOwn.leaving,fun y m j p p' q pos hg hc=>?_,fun E1 h1=>wB fun cls H' z=>?_,rfl,rfl⟩
  ·rintro pins s1 σ H1 D I ⟨C,hT,hE⟩;exact sC (W:=fun H'=>E (.ref C) none H') rfl (xc.glob hg) (xc.gne hg) (xc.go.xcl y C hT) (xc.go.xk y C hT) (fun pins σ H s h' e vs I hm hE=>lU I hm hE) pins s1 σ H1 D I hE
  ·obtain⟨k,C,hT,rfl,C',fg,hE⟩:=h1 cls H' z;rw[hT]at fg;cases fg;exact hE
 refine⟨_,(iS (S₀:=S) (H₀:=H) (fr:=fr) n).2 _ c _ ir xc xs c6 ar (.inr dom),?_⟩;have hs:jI N.length ds=ds.map .im++List.replicate (N.length-ds.length) .un:=rfl
 rcases hcase with ⟨d,hd,q⟩|⟨e,C,he,hT,q⟩
 ·dsimp only at hd;unfold aP at hd;rw[←hs]at hd;split at hd
  ·rename_i d' ho;cases hd;exact⟨_,_,S,ho,lF dom rl,fun v H' sm r fr'=>q v H' sm r fr'⟩
  ·rename_i ρ' ho;cases hd;exact⟨_,_,S,ho,lF dom rl,fun S' σ' H' si mv=>q .non H' si.same (by unfold Rep;rfl) fun _ ds' z=>by cases z⟩
  ·cases hd
  ·cases hd
 ·dsimp only at he;unfold aP at he;rw[←hs]at he;split at he
  ·cases he
  ·cases he
  ·rename_i k ho;cases he;exact⟨_,_,S,ho,lF dom rl,fun H' sm=>⟨C,hT,q H' sm⟩⟩
  ·cases he
noncomputable def pB(n:Nat)(o:D)(ds:List D):List Sl:=.mu o::ds.map .im++List.replicate (n-(ds.length+1)) .un
theorem zD{K:p6}{H:Hp}{S:Addr→Prop}{N:List Str}{o:D}{ob:HO}{q:Addr}{ds:List D}{vs:List V}(dom:∀a,S a→∃o,H a=some o)(hS:S q)(hq:H q=some ob)(rm:gB K T H S o ob)(rl:aD K T H S ds vs):SInv K T S (er H q) S (pB N.length o ds) (L2.start N (.ref q::vs)) H:=by
 have hl:=rl.len
 have df:∀(i:Nat) xs,(pB N.length o ds)[i]?=some (.mu xs)→i=0:=fun i xs e=>by
  cases i with
  |zero=>rfl
  |succ i =>
   exfalso
   have e:(ds.map Sl.im++List.replicate (N.length-(ds.length+1)) Sl.un)[i]?=some (.mu xs):=e
   by_cases h:i<(ds.map Sl.im).length
   ·rw[ow h,l9]at e;cases h2:ds[i]? with
    |none=>rw[h2]at e;cases e
    |some d=>rw[h2]at e;cases e
   ·rw[ox (by omega),getElem?_replicate]at e
    split at e<;>cases e
 have er0:er H q q=none:=by unfold er;rw[if_pos rfl]
 have er1:∀a,a≠q→er H q a=H a:=fun a n=>by unfold er;rw[if_neg n]
 refine⟨⟨dom,by simp[pB,L2.start,hl],fun i s e=>?_⟩,fun a z=>?_,fun _ z=>z,fun a b e=>?_,fun i j xs ys p h1 h2 _ _=>(df i xs h1).trans (df j ys h2).symm,fun i xs p h h2=>?_⟩
 ·cases i with
  |zero =>
   cases (show some (Sl.mu o)=some s from e)
   exact⟨q,ob,rfl,hS,hq,rm⟩
  |succ i =>
   have e:(ds.map Sl.im++List.replicate (N.length-(ds.length+1)) Sl.un)[i]?=some s:=e
   by_cases h:i<(ds.map Sl.im).length
   ·rw[ow h,l9]at e;cases h2:ds[i]? with
    |none=>rw[h2]at e;cases e
    |some d =>
     rw[h2]at e;cases e;obtain⟨v,h3,r⟩:=rl.get h2;refine⟨v,?_,r⟩;show (vs.map some++List.replicate (N.length-(vs.length+1)) none)[i]?=_
     rw[ow (by rw[la]at h ⊢;omega),l9,h3];rfl
   ·rw[ox (by omega),getElem?_replicate]at e
    split at e
    ·cases e;trivial
    ·cases e
 ·by_cases h:a=q
  ·subst h;exact .inr ⟨o,rfl,rfl⟩
  ·obtain⟨b,h2⟩:=dom a z;exact .inl ⟨b,(er1 a h).trans h2⟩
 ·by_cases h:a=q
  ·rw[h,er0]at e;cases e
  ·rw[er1 a h]at e;exact e
 ·have:=df i xs h
  subst this;cases (show some (some (V.ref q))=some (some (V.ref p)) from h2)
  exact er0
theorem aEa{P:p8}{w:World}{K:p6}{mg:pj}{base:Heap}{x qual:Str}{st:Stmt}{f:Addr}{fd:p7}{N ps:List Str}{c:CC}{n:Nat}{ir:IS}(F:Fun K x qual st f fd)(fs:aa N ps (aC st))(hN:c.N=N)(ij:c.sc=aC st)(hk:hZ c (aC st)=true)
  (c6:cy n c (bE st)=some ir) (iz:bV ir=true)
  (go:∀(X:Cx),X.prog=P→X.w=w→X.K=K→X.mg=mg→X.base=base→js (cQ P w) X c G T lv):FnOk P w K mg base (cQ P w) (lv+1) f fd ps (spA K T ps.length (fun o ds=>runM G N.length ir o ds)):=by
 obtain⟨oc,od,kV,doc,pm,an,av,ct,gc,rfl,lk,c7⟩:=F.ex;refine wU lk c7 fs (fun vs H Q E h=>h.1) fun A outer s H vs Q E hr aT=>?_
 obtain⟨hlen,S,q,o,ob,rest,ds,d,o',rfl,dom,hS,hq,rm,rl,hd,post⟩:=aT;have xc:XC (cQ P w) (iJ (cQ P w) P w K mg base N qual (aC st) f av A outer s H E) c G T lv:=(tW (CX:=cQ P w) (E:=E) (P:=P) (w:=w) (mg:=mg) (base:=base) (outer:=outer) (s:=s) (H:=H) (f:=f) (cd:=av) (qual:=qual) hN ij fs hk hr (go _ rfl rfl rfl rfl rfl)).re rfl rfl rfl rfl rfl rfl rfl rfl rfl rfl
 have xs:XS (cQ P w) T (iJ (cQ P w) P w K mg base N qual (aC st) f av A outer s H E) c (fun k H'=>∃C,T.xc k=some C∧E (.ref C) none H'):=by
  refine⟨fs.kind,PassesOwn.leaving,fun y m j p p' q pos hg hc=>?_,fun E1 h1=>wB fun cls H' z=>?_,rfl,rfl⟩
  ·rintro pins s1 σ H1 D I ⟨C,hT,hE⟩;exact sC (W:=fun H'=>E (.ref C) none H') rfl (xc.glob hg) (xc.gne hg) (xc.go.xcl y C hT) (xc.go.xk y C hT) (fun pins σ H s h' e vs I hm hE=>lU I hm hE) pins s1 σ H1 D I hE
  ·obtain⟨k,C,hT,rfl,C',fg,hE⟩:=h1 cls H' z;rw[hT]at fg;cases fg;exact hE
 refine⟨_,(iS (S₀:=S) (H₀:=er H q) (fr:=false) n).2 _ c _ ir xc xs c6 (fun z=>by cases z) (.inl iz),?_⟩
 have er0:er H q q=none:=by unfold er;rw[if_pos rfl]
 have er1:∀a,a≠q→er H q a=H a:=fun a n=>by unfold er;rw[if_neg n]
 have hd:(match ex G ir (pB N.length o ds) with|some (.rm d ρ)=>(match (ρ[0]?:Option Sl) with|some (.mu o')=>some (d,o')|_=>none)|_=>none)=some (d,o'):=hd
 split at hd
 ·rename_i d1 ρ1 ho;split at hd
  ·rename_i o1 h0;cases hd;refine⟨_,_,S,ho,zD dom hS hq rm rl,fun S' σ' H' v si mv r=>?_⟩
   have e1:σ'[0]?=some (some (.ref q)):=by
    rcases si.dom0 q hS with ⟨b,z⟩|⟨_,_,z⟩
    ·rw[er0]at z;cases z
    ·exact z
   obtain⟨q2,ez,e2,_,e4,rm'⟩:=si.re.at_ 0 _ h0;rw[e1]at e2;cases e2;have mv':aG K H' H' S' S:=fun a n _=>⟨fun z=>n (si.sup a z),fun _ e=>e⟩
   exact post v H' ez (fun a b n e=>si.same a b ((er1 a n).trans e)) e4 (rm'.gen mv') (Rep.gen mv' d v r)
  ·cases hd
 ·cases hd
end Z
namespace Z
open PySem PySem.Spec PyProof.Rows L2
structure Nm where
 fns:List Str
 cls:List Str
 csts:List Str
 fresh:List Str
noncomputable def Nm.cc(m:Nm)(N:List Str)(sc:Scope)(mus:List Str):CC:=⟨N,sc,m.fns,m.cls,m.csts,mus,m.fresh⟩
def MOk(P:p8)(w:World)(K:p6)(mg:pj)(base:Heap)(CX:ak)(m:Nm)(G:GS)(T:Tx)(lv:Nat):Prop:=
 ∀(X:Cx) (c:CC),X.prog=P→X.w=w→X.K=K→X.mg=mg→X.base=base→c.fns=m.fns→c.cls=m.cls→c.csts=m.csts→c.fresh=m.fresh→js CX X c G T lv
noncomputable def Nm.addF(m:Nm)(x:Str)(fr:Bool):Nm:={ m with fns:=x::m.fns,fresh:=if fr then x::m.fresh else m.fresh }
noncomputable def GS.addF(G:GS)(x:Str)(g:List D→Option Rs)(fr:Bool):GS:={ G with fn:=fun y=>if y=x then g else G.fn y,ff:=fun y=>if y=x then fr else G.ff y,mf:=fun cn y=>if y=x then fr else G.mf cn y }
section
variable {P:p8}{w:World}{K:p6}{mg:pj}{base:Heap}{CX:ak}{m:Nm}{G:GS}{T:Tx}{lv:Nat}
theorem contains_cons{x y:Str}{l:List Str}:(x::l).contains y=true→y=x∨l.contains y=true:=fun h=>by
 rw[List.contains_cons,or_eq_true,nu]at h;exact h
theorem MOk.addF(h:MOk P w K mg base CX m G T lv){x:Str}{f:Addr}{fd:p7}{ps:List Str}{g:List D→Option Rs}{fr:Bool}(hn:m.fns.contains x=false)(fo:∀cn ds,G.me cn x ds=none)(iw:m.fresh.contains x=false)
  (hm:mg x=some (.ref f)) (hk:keepIn K (.ref f)=true) (hb:Binds K fd ps []) (hl:∀ds r,g ds=some r→ds.length=ps.length) (F:FnOk P w K mg base CX (lv+1) f fd ps (eg K T ps.length g fr)) :
  MOk P w K mg base CX (m.addF x fr) (G.addF x g fr) T (lv+1):=by
 intro X c e1 e2 e3 e4 e5 e6 e7 e8 e9;subst e1 e2 e3 e4 e5;have o:=h X { c with fns:=m.fns,fresh:=m.fresh } rfl rfl rfl rfl rfl rfl e7 e8 rfl
 refine⟨fun y hy=>?_,fun cn C mm ds r hT hr=>?_,o.cls,o.fld,fun y hy ds d hd=>?_,fun y d hd hc=>o.cst y d hd hc,fun y hy h1 h2=>?_,o.xcl,fun y hy=>?_,o.cx0,o.cxf,o.xns,o.xk,o.sub,fun f k x C h1 h2=>let ⟨a,b,c,j,d,e⟩:=o.wd f k x C h1 h2;⟨a,b,c,j,le_succ_of_le d,e⟩,o.dk,fun x o2 ds r h1=>let ⟨f,fd,ps,a,b,c,d,e⟩:=o.fm x o2 ds r h1;⟨f,fd,ps,a,b,c,d,e.mono (oh _)⟩⟩
 ·rw[e6]at hy
  by_cases e:y=x
  ·subst e;refine⟨f,fd,ps,hm,hk,hb,?_,?_⟩
   ·intro ds r hr;simp only[GS.addF,if_true]at hr;exact hl ds r hr
   ·simp only[GS.addF,if_true];exact F
  ·rcases contains_cons hy with z|z
   ·exact absurd z e
   ·obtain⟨f',ba,a9,a1,a2,a3,a4,a5⟩:=o.fn y z;refine⟨f',ba,a9,a1,a2,a3,?_,?_⟩
    ·intro ds r hr;simp only[GS.addF,if_neg e]at hr;exact a4 ds r hr
    ·simp only[GS.addF,if_neg e];exact a5.mono (oh _)
 ·have cN:mm≠x:=by
   rintro rfl;have:G.me cn mm ds=some r:=hr
   rw[fo]at this;cases this
  obtain⟨f',ba,a9,a1,a2,a3,a4⟩:=o.me cn C mm ds r hT hr;refine⟨f',ba,a9,a1,a2,a3,?_⟩;simp only[GS.addF,if_neg cN];exact a4.mono (oh _)
 ·obtain⟨C,f',ba,a9,j,a1,a2⟩:=o.mo y hy ds d hd;exact⟨C,f',ba,a9,j,le_succ_of_le a1,a2⟩
 ·refine o.bi y hy ?_ h2;rw[e6]at h1;rw[Nm.addF,List.contains_cons,Bool.or_eq_false_iff]at h1;exact h1.2
 ·rw[e9]at hy
  by_cases e:y=x
  ·subst e;cases ar:fr with
   |true=>exact⟨by simp[GS.addF],fun cn=>by simp[GS.addF]⟩
   |false =>
    exfalso
    rw[ar]at hy;have:m.fresh.contains y=true:=hy
    rw[iw]at this;cases this
  ·have:m.fresh.contains y=true:=by
    unfold Nm.addF at hy;simp only at hy;split at hy
    ·rcases contains_cons hy with z|z
     ·exact absurd z e
     ·exact z
    ·exact hy
   obtain⟨b1,b2⟩:=o.frs y this;exact⟨by simp only[GS.addF,if_neg e];exact b1,fun cn=>by simp only[GS.addF,if_neg e];exact b2 cn⟩
noncomputable def Nm.addM(m:Nm)(x:Str)(fr:Bool):Nm:={ m with fresh:=if fr then x::m.fresh else m.fresh }
noncomputable def GS.addM(G:GS)(cn x:Str)(g:List D→Option Rs)(fr:Bool):GS:={ G with me:=fun c y=>if c=cn∧y=x then g else G.me c y,ff:=fun y=>if y=x then fr else G.ff y,mf:=fun c y=>if y=x then fr else G.mf c y }
theorem MOk.addM(h:MOk P w K mg base CX m G T lv){cn x:Str}{C:Addr}{f:Addr}{fd:p7}{ps:List Str}{g:List D→Option Rs}{fr:Bool}(hn:m.fns.contains x=false)(fo:∀cn ds,G.me cn x ds=none)(iw:m.fresh.contains x=false)
  (hT:T.cl cn=some C) (hm:ef K C x f) (hb:Binds K fd ps []) (hl:∀ds r,g ds=some r→ds.length=ps.length) (F:FnOk P w K mg base CX (lv+1) f fd ps (eg K T ps.length g fr)) :
  MOk P w K mg base CX (m.addM x fr) (G.addM cn x g fr) T (lv+1):=by
 intro X c e1 e2 e3 e4 e5 e6 e7 e8 e9;subst e1 e2 e3 e4 e5;have o:=h X { c with fresh:=m.fresh } rfl rfl rfl rfl rfl e6 e7 e8 rfl
 have nfn:∀y,c.fns.contains y=true→y≠x:=fun y hy z=>by
  subst z;rw[e6]at hy;have cH:m.fns.contains y=true:=hy
  rw[hn]at cH;cases cH
 refine⟨fun y hy=>?_,fun cn' C' mm ds r fg hr=>?_,o.cls,o.fld,fun y hy ds d hd=>?_,fun y d hd hc=>o.cst y d hd hc,fun y hy h1 h2=>o.bi y hy h1 h2,o.xcl,fun y hy=>?_,o.cx0,o.cxf,o.xns,o.xk,o.sub,fun f k x C h1 h2=>let ⟨a,b,c,j,d,e⟩:=o.wd f k x C h1 h2;⟨a,b,c,j,le_succ_of_le d,e⟩,o.dk,fun x o2 ds r h1=>let ⟨f,fd,ps,a,b,c,d,e⟩:=o.fm x o2 ds r h1;⟨f,fd,ps,a,b,c,d,e.mono (oh _)⟩⟩
 ·have e:=nfn y hy
  obtain⟨f',ba,a9,a1,a2,a3,a4,a5⟩:=o.fn y hy;refine⟨f',ba,a9,a1,a2,a3,a4,?_⟩;simp only[GS.addM,if_neg e];exact a5.mono (oh _)
 ·by_cases e:mm=x
  ·subst e;have ec:cn'=cn:=by
    by_cases e:cn'=cn
    ·exact e
    ·simp only[GS.addM,e,false_and,if_false]at hr;rw[fo]at hr;cases hr
   subst ec;rw[hT]at fg;cases fg;refine⟨f,fd,ps,hm,hb,?_,?_⟩
   ·intro ds r hr;simp only[GS.addM,and_self,if_true]at hr;exact hl ds r hr
   ·simp only[GS.addM,and_self,if_true];exact F
  ·simp only[GS.addM,e,and_false,if_false]at hr;obtain⟨f',ba,a9,a1,a2,a3,a4⟩:=o.me cn' C' mm ds r fg hr;refine⟨f',ba,a9,a1,a2,?_,?_⟩
   ·intro ds r hr;simp only[GS.addM,e,and_false,if_false]at hr;exact a3 ds r hr
   ·simp only[GS.addM,e,and_false,if_false];exact a4.mono (oh _)
 ·obtain⟨C,f',ba,a9,j,a1,a2⟩:=o.mo y hy ds d hd;exact⟨C,f',ba,a9,j,le_succ_of_le a1,a2⟩
 ·rw[e9]at hy
  by_cases e:y=x
  ·subst e;cases ar:fr with
   |true=>exact⟨by simp[GS.addM],fun cn=>by simp[GS.addM]⟩
   |false =>
    exfalso
    rw[ar]at hy;have:m.fresh.contains y=true:=hy
    rw[iw]at this;cases this
  ·have:m.fresh.contains y=true:=by
    unfold Nm.addM at hy;simp only at hy;split at hy
    ·rcases contains_cons hy with z|z
     ·exact absurd z e
     ·exact z
    ·exact hy
   obtain⟨b1,b2⟩:=o.frs y this;exact⟨by simp only[GS.addM,if_neg e];exact b1,fun cn=>by simp only[GS.addM,if_neg e];exact b2 cn⟩
theorem DM{n:Nat}{o:Option Rs}{r:Rs}{ds:List D}(h:(if ds.length=n then o else none)=some r):ds.length=n:=by
 by_cases e:ds.length=n
 ·exact e
 ·rw[if_neg e]at h;cases h
theorem MOk.defF(h:MOk P w K mg base (cQ P w) m G T lv){x:Str}{st:Stmt}{f:Addr}{fd:p7}{N ps mus:List Str}{n:Nat}{ir:IS}{fr:Bool}(hn:m.fns.contains x=false)(fo:∀cn ds,G.me cn x ds=none)(iw:m.fresh.contains x=false)(hm:mg x=some (.ref f))(hb:Binds K fd ps [])
  (F:Fun K x x st f fd) (fs:aa N ps (aC st)) (hk:hZ (m.cc N (aC st) mus) (aC st)=true) (c6:cy n (m.cc N (aC st) mus) (bE st)=some ir) (ar:fr=true→fY ir=true) :
  MOk P w K mg base (cQ P w) (m.addF x fr) (G.addF x (fun ds=>if ds.length=ps.length then aP G N.length ir ds else none) fr) T (lv+1):=by
 refine h.addF hn fo iw hm F.kp hb (fun ds r hr=>DM hr) ?_
 have G1:=SU (P:=P) (w:=w) (mg:=mg) (base:=base) (T:=T) (lv:=lv) F fs (c:=m.cc N (aC st) mus) rfl rfl hk c6 ar (fun X a1 a2 a3 a4 a5=>h X _ a1 a2 a3 a4 a5 rfl rfl rfl rfl)
 refine⟨fun vs H Q E h=>h.1,fun A outer s H args us vs Q E hr e0 i0 hv aT=>G1.run A outer s H args us vs Q E hr e0 i0 hv ?_⟩
 obtain⟨h1,S,ds,dom,rl,hc⟩:=aT;refine⟨h1,S,ds,dom,rl,?_⟩;have el:ds.length=ps.length:=by rw[rl.len];exact h1
 dsimp only at hc;rw[if_pos el]at hc;exact hc
theorem MOk.defM(h:MOk P w K mg base (cQ P w) m G T lv){cn x qual:Str}{C:Addr}{st:Stmt}{f:Addr}{fd:p7}{N ps mus:List Str}{n:Nat}{ir:IS}{fr:Bool}(hn:m.fns.contains x=false)(fo:∀cn ds,G.me cn x ds=none)(iw:m.fresh.contains x=false)(hT:T.cl cn=some C)(hm:ef K C x f)(hb:Binds K fd ps [])
  (F:Fun K x qual st f fd) (fs:aa N ps (aC st)) (hk:hZ (m.cc N (aC st) mus) (aC st)=true) (c6:cy n (m.cc N (aC st) mus) (bE st)=some ir) (ar:fr=true→fY ir=true) :
  MOk P w K mg base (cQ P w) (m.addM x fr) (G.addM cn x (fun ds=>if ds.length=ps.length then aP G N.length ir ds else none) fr) T (lv+1):=by
 refine h.addM hn fo iw hT hm hb (fun ds r hr=>DM hr) ?_
 have G1:=SU (P:=P) (w:=w) (mg:=mg) (base:=base) (T:=T) (lv:=lv) F fs (c:=m.cc N (aC st) mus) rfl rfl hk c6 ar (fun X a1 a2 a3 a4 a5=>h X _ a1 a2 a3 a4 a5 rfl rfl rfl rfl)
 refine⟨fun vs H Q E h=>h.1,fun A outer s H args us vs Q E hr e0 i0 hv aT=>G1.run A outer s H args us vs Q E hr e0 i0 hv ?_⟩
 obtain⟨h1,S,ds,dom,rl,hc⟩:=aT;refine⟨h1,S,ds,dom,rl,?_⟩;have el:ds.length=ps.length:=by rw[rl.len];exact h1
 dsimp only at hc;rw[if_pos el]at hc;exact hc
noncomputable def GS.addA(G:GS)(x:Str)(g:D→List D→Option (D×D)):GS:={ G with fm:=fun y=>if y=x then g else G.fm y }
theorem MOk.defA(h:MOk P w K mg base (cQ P w) m G T lv){x:Str}{st:Stmt}{f:Addr}{fd:p7}{N ps mus:List Str}{n:Nat}{ir:IS}(hm:mg x=some (.ref f))(hb:Binds K fd ps [])
  (F:Fun K x x st f fd) (fs:aa N ps (aC st)) (hk:hZ (m.cc N (aC st) mus) (aC st)=true) (c6:cy n (m.cc N (aC st) mus) (bE st)=some ir) (iz:bV ir=true) :
  MOk P w K mg base (cQ P w) m (G.addA x (fun o ds=>if ds.length+1=ps.length then runM G N.length ir o ds else none)) T (lv+1):=by
 have G1:=aEa (P:=P) (w:=w) (mg:=mg) (base:=base) (T:=T) (lv:=lv) F fs (c:=m.cc N (aC st) mus) rfl rfl hk c6 iz (fun X a1 a2 a3 a4 a5=>h X _ a1 a2 a3 a4 a5 rfl rfl rfl rfl)
 have F1:FnOk P w K mg base (cQ P w) (lv+1) f fd ps (spA K T ps.length (fun o ds=>if ds.length+1=ps.length then runM G N.length ir o ds else none)):=by
  refine⟨fun vs H Q E h=>h.1,fun A outer s H args us vs Q E hr e0 i0 hv aT=>G1.run A outer s H args us vs Q E hr e0 i0 hv ?_⟩
  obtain⟨h1,S,q,o,ob,rest,ds,d,o',e,h2,h3,h4,h5,h6,h7,h8⟩:=aT;refine⟨h1,S,q,o,ob,rest,ds,d,o',e,h2,h3,h4,h5,h6,?_,h8⟩;have el:ds.length+1=ps.length:=by rw[←h1,e,om,h6.len]
  dsimp only at h7;rw[if_pos el]at h7;exact h7
 intro X c e1 e2 e3 e4 e5 e6 e7 e8 e9;subst e1 e2 e3 e4 e5;have o:=h X c rfl rfl rfl rfl rfl e6 e7 e8 e9
 refine⟨fun y hy=>?_,fun cn C mm ds r hT hr=>?_,o.cls,o.fld,fun y hy ds d hd=>?_,fun y d hd hc=>o.cst y d hd hc,fun y hy h1 h2=>o.bi y hy h1 h2,o.xcl,o.frs,o.cx0,o.cxf,o.xns,o.xk,o.sub,fun f k x C h1 h2=>let ⟨a,b,c,j,d,e⟩:=o.wd f k x C h1 h2;⟨a,b,c,j,le_succ_of_le d,e⟩,o.dk,fun y o2 ds r hr=>?_⟩
 ·obtain⟨f',ba,a9,a1,a2,a3,a4,a5⟩:=o.fn y hy;exact⟨f',ba,a9,a1,a2,a3,a4,a5.mono (oh _)⟩
 ·obtain⟨f',ba,a9,a1,a2,a3,a4⟩:=o.me cn C mm ds r hT hr;exact⟨f',ba,a9,a1,a2,a3,a4.mono (oh _)⟩
 ·obtain⟨C',f',ba,a9,j,a1,a2⟩:=o.mo y hy ds d hd;exact⟨C',f',ba,a9,j,le_succ_of_le a1,a2⟩
 ·by_cases e:y=x
  ·subst e;simp only[GS.addA,if_true]at hr ⊢;refine⟨f,fd,ps,hm,F.kp,hb,?_,F1⟩
   by_cases el:ds.length+1=ps.length
   ·exact el
   ·rw[if_neg el]at hr;cases hr
  ·simp only[GS.addA,if_neg e]at hr ⊢;obtain⟨f',ba,a9,a1,a2,a3,a4,a5⟩:=o.fm y o2 ds r hr;exact⟨f',ba,a9,a1,a2,a3,a4,a5.mono (oh _)⟩
end
variable {CX:ak}{G:GS}{T:Tx}{lv:Nat}{X:Cx}{c:CC}
noncomputable def aBR:Stmt→Option (List Expr×Expr×Pos)
 |.Assign ts e p=>some (ts,e,p)
 |_=>none
theorem AZ{s:Stmt}{x:List Expr×Expr×Pos}(h:aBR s=some x):s=.Assign x.1 x.2.1 x.2.2:=by
 cases s<;>first|exact nomatch (show none=some x from h)|(cases (show some _=some x from h);rfl)
noncomputable def oO(n:Nat)(c:CC):List Stmt→Option (List (Str×IE))
 |[]=>some []
 |st::r=>(aBR st).bind fun q=>(one? q.1).bind fun t=>(FM t).bind fun a=>(nameP a.1).bind fun s=>if bC c s.1 == some 0 then(cE n c q.2.1).bind fun y=>(oO n c r).map fun z=>(a.2.1,y)::z else none
noncomputable def fh(G:GS)(ρ:List Sl):List (Str×IE)→Option (List (Str×D))
 |[]=>some []
 | (f,e)::r=>do some ((f,←ev G e ρ)::(←fh G ρ r))
noncomputable def zG(G:GS)(cn:Str)(n:Nat)(fs:List (Str×IE))(ds:List D):Option Rs:=
 (fh G (.un::(ds.map .im++List.replicate (n-1-ds.length) .un)) fs).map fun gs=>.ok (.obj cn gs)
theorem rY{f:Str}{v:V}:∀{gs:List (Str×V)},f∉gs.map (·.1)→gA f v gs=gs++[(f,v)]
 |[],_=>rfl
 | (g,x)::r,h=>by
  simp only[nj,my,not_or]at h;unfold gA;rw[if_neg (Ne.symm h.1),rY h.2];rfl
theorem bT.names{K:p6}{H:Hp}{S:Addr→Prop}:∀{fs:List (Str×D)} {gs:List (Str×V)},bT K T H S fs gs→gs.map (·.1)=fs.map (·.1)
 |[],gs,h=>by unfold bT at h;subst h;rfl
 | (f,d)::fs,gs,h=>by
  unfold bT at h;obtain⟨x,r,rfl,_,q⟩:=h;simp[bT.names q]
theorem bT.app1{K:p6}{H:Hp}{S:Addr→Prop}{f:Str}{d:D}{v:V}(rv:Rep K T H S d v):∀{fs:List (Str×D)} {gs:List (Str×V)},bT K T H S fs gs→bT K T H S (fs++[(f,d)]) (gs++[(f,v)])
 |[],gs,h=>by
  unfold bT at h;subst h;show bT K T H S [(f,d)] [(f,v)]
  unfold bT;exact⟨v,[],rfl,rv,by unfold bT;rfl⟩
 | (g,e)::fs,gs,h=>by
  unfold bT at h;obtain⟨x,r,rfl,p,q⟩:=h;show bT K T H S ((g,e)::(fs++[(f,d)])) _
  unfold bT;exact⟨x,r++[(f,v)],rfl,p,bT.app1 rv q⟩
structure IInv (K:p6) (T:Tx) (S:Addr→Prop) (H₀:Hp) (C p dx:Addr) (ρ:List Sl) (fs:List (Str×D)) (σ:L2.St) (H:Hp):Prop where
 re:RE K T H S ρ σ
 sp:S p
 self:σ[0]?=some (some (.ref p))
 at_:∃gs,H p=some (.ins C dx gs)∧bT K T H S fs gs
 keep:∀b o,b≠p→H₀ b=some o→H b=some o
theorem oA(xc:XC CX X c G T lv){S:Addr→Prop}{H₀:Hp}{C p dx:Addr}{ρ:List Sl}{n:Nat}(hc:Cls X.K C):∀{body:List Stmt} {is:List (Str×IE)} {gs fs:List (Str×D)},oO n c body=some is→fh G ρ is=some gs→(∀x∈is,dN X.K C x.1)→((fs++gs).map (·.1)).Nodup→(fs++gs).length<1000 →
  PSs X body (fun D σ H=>IInv X.K T S H₀ C p dx ρ fs σ H∧∀σ' H',IInv X.K T S H₀ C p dx ρ (fs++gs) σ' H'→D.nx σ' H')
 |[],is,gs,fs,h1,h2,_,_,_=>by
  simp only[oO,l5]at h1;subst h1;simp only[fh,l5]at h2;subst h2;exact fun pins s σ H D I ⟨iv,q⟩=>kR pins s σ H D I (q σ H (by rw[nh];exact iv))
 |st::body,is,gs,fs,h1,h2,je,jd,hlen=>by
  obtain⟨q0,a1,h1⟩:=aE h1;obtain⟨t0,a2,h1⟩:=aE h1;obtain⟨a0,a3,h1⟩:=aE h1;obtain⟨s0,a4,h1⟩:=aE h1;obtain⟨hs,h1⟩:=aX h1;obtain⟨ir,c6,h1⟩:=aE h1;obtain⟨is',his,rfl⟩:=aI h1;have e0:st=.Assign [.Attribute (.Name s0.1 s0.2) a0.2.1 a0.2.2] q0.2.1 q0.2.2:=by rw[AZ a1,bZ a2,mU a3,cM a4]
  subst e0;obtain⟨_,e,pe⟩:=q0;obtain⟨_,f,pf⟩:=a0;obtain⟨s,ps⟩:=s0;clear a1 a2 a3 a4;simp only[fh,ll,l7,l5]at h2;obtain⟨d,hd,gs',gg,rfl⟩:=h2;have bz:bC c s=some 0:=nu.mp hs
  have ih:=oA xc (S:=S) (H₀:=H₀) (p:=p) (dx:=dx) hc (fs:=fs++[(f,d)]) his gg (fun x hx=>je x (lu _ hx)) (by simpa using jd) (by simpa using hlen)
  intro pins s1 σ H DD I ⟨iv,q⟩;refine sA (QP (hU xc bz) ((cL n).1 X c S ρ e ir xc c6 d hd).1 ?_) ih pins s1 σ H DD I ⟨iv.re,fun v H' sm r=>⟨.ref p,iv.self,?_⟩⟩
  ·cases e<;>rfl
  ·obtain⟨ys,hy,rf⟩:=iv.at_;have dg:f∉ys.map (·.1):=by
    rw[rf.names];have:=jd
    simp only[oo,nj]at this;rw[List.nodup_append]at this;intro z;exact this.2.2 f z f (by simp) rfl
   have hl:ys.length<1000:=by
    have e1:=congrArg List.length rf.names
    simp only[la]at e1;rw[e1];simp only[nc,om]at hlen;omega
   refine⟨p,C,dx,ys,rfl,sm _ _ hy,hc,je (f,ir) (by simp),hl,?_⟩
   rw[rY dg];have mv:aG X.K H' (upd H' p (.ins C dx (ys++[(f,v)]))) S S:=fun a na _=>⟨na,fun o e=>by rw[aK (fun z=>na (by rw[z];exact iv.sp))];exact e⟩
   have rf':bT X.K T H' S fs ys:=bT.gen (aG.same sm) _ _ rf
   refine⟨⟨?_,iv.sp,iv.self,⟨_,aN,bT.gen mv _ _ (bT.app1 r rf')⟩,fun b o hb e=>by rw[aK hb];exact sm _ _ (iv.keep b o hb e)⟩,fun σ' H2 iv2=>q σ' H2 (by simpa using iv2)⟩
   refine(iv.re.same sm).gen mv (fun a xs z e hm=>⟨z,?_⟩) fun a z=>?_
   ·rw[aK]
    ·exact e
    ·rintro rfl;rw[sm _ _ hy]at e;cases e;obtain⟨d',hm⟩:=hm
     rcases hm with ⟨_,_,_,z,_⟩|⟨_,_,_,z,_⟩<;>cases z
   ·by_cases e:a=p
    ·exact⟨.ins C dx (ys++[(f,v)]),by rw[e];exact aN⟩
    ·obtain⟨o,e2⟩:=(iv.re.same sm).dom a z;exact⟨o,by rw[aK e];exact e2⟩
end Z
namespace Z
open PySem PySem.Spec PyProof.Rows L2
variable {CX:ak}{G:GS}{T:Tx}{lv:Nat}
theorem oJ{ρ:List Sl}:∀{is:List (Str×IE)} {gs:List (Str×D)},fh G ρ is=some gs→gs.map (·.1)=is.map (·.1)
 |[],gs,h=>by simp only[fh,l5]at h;subst h;rfl
 | (f,e)::r,gs,h=>by
  simp only[fh,ll,l7,l5]at h;obtain⟨d,_,gs',h2,rfl⟩:=h;simp[oJ h2]
theorem uA{K:p6}{H:Hp}{S:Addr→Prop}{N:List Str}{ds:List D}{p:Addr}{ws:List V}(dom:∀a,S a→∃o,H a=some o)(rl:aD K T H S ds ws)(hN:ws.length+1≤N.length):RE K T H S (.un::(ds.map .im++List.replicate (N.length-1-ds.length) .un)) (L2.start N (.ref p::ws)):=by
 have hl:=rl.len
 refine⟨dom,by simp[L2.start,hl];omega,fun i s e=>?_⟩
 cases i with
 |zero=>cases e;trivial
 |succ i =>
  rw[List.getElem?_cons_succ]at e;unfold L2.start;rw[nj,List.cons_append,List.getElem?_cons_succ]
  by_cases h:i<(ds.map Sl.im).length
  ·rw[ow h,l9]at e;cases h2:ds[i]? with
   |none=>rw[h2]at e;cases e
   |some d =>
    rw[h2]at e;cases e;obtain⟨v,h3,r⟩:=rl.get h2;exact⟨v,by rw[ow (by rw[la]at h ⊢;omega),l9,h3];rfl,r⟩
  ·rw[ox (by omega),getElem?_replicate]at e
   split at e
   ·cases e;trivial
   ·cases e
theorem LA{P:p8}{w:World}{K:p6}{mg:pj}{base:Heap}{x qual cn:Str}{C:Addr}{st:Stmt}{f:Addr}{fd:p7}{N ps:List Str}{c:CC}{n:Nat}{is:List (Str×IE)}(F:Fun K x qual st f fd)(fs:aa N ps (aC st))(hN:c.N=N)(ij:c.sc=aC st)(hk:hZ c (aC st)=true)
  (c6:oO n c (bE st)=some is) (hT:T.cl cn=some C) (ao:Cls K C) (je:∀x∈is,dN K C x.1) (jd:(is.map (·.1)).Nodup) (hlen:is.length<1000)
  (go:∀(X:Cx),X.prog=P→X.w=w→X.K=K→X.mg=mg→X.base=base→js CX X c G T lv):FnOk P w K mg base CX (lv+1) f fd ps (PZ K T C ps.length (zG G cn N.length is)):=by
 obtain⟨oc,od,kV,doc,pm,an,av,ct,gc,rfl,lk,c7⟩:=F.ex;refine wU lk c7 fs (fun vs H Q E h=>h.1) fun A outer s H vs Q E hr aT=>?_
 obtain⟨hl,p,dx,ws,S,ds,d,rfl,hp,sp,dom,rl,hg,q⟩:=aT;have xc:=tW (E:=E) (P:=P) (w:=w) (mg:=mg) (base:=base) (outer:=outer) (s:=s) (H:=H) (f:=f) (cd:=av) (qual:=qual) hN ij fs hk hr (go _ rfl rfl rfl rfl rfl)
 unfold zG at hg;simp only[ma]at hg;obtain⟨gs,gg,hg⟩:=hg;cases hg;have hnm:=oJ gg
 have il:ps.length≤N.length:=by have:=congrArg List.length fs.pre;rw[o4]at this;omega
 refine⟨_,PSs.nox (oA xc (S:=S) (H₀:=H) (C:=C) (p:=p) (dx:=dx) (fs:=[]) ao c6 gg je (by rw[List.nil_append,hnm];exact jd) (by rw[List.nil_append];have:=congrArg List.length hnm;simp only[la]at this;omega)),?_,?_⟩
 ·exact⟨uA dom rl (by simp only[om]at hl;omega),sp,rfl,⟨[],hp,by unfold bT;rfl⟩,fun b o _ e=>e⟩
 ·intro σ' H' iv;obtain⟨ys,hy,rf⟩:=iv.at_;refine q H' iv.keep fun S' ji=>?_
  unfold Rep;exact⟨p,C,dx,ys,rfl,fun z=>(ji p z).2 rfl,hT,hy,bT.gen (aG.mk (fun a z=>(ji a z).1) fun b o _ e=>e) _ _ rf⟩
def tV(K:p6)(T:Tx)(mg:pj)(x:Str)(d:D):Prop:=∃u v,mg x=some u∧RelV v u∧∀(H:Hp) (S:Addr→Prop),(∀a o,K.lookup a=some o→H a=none)→(∀a,S a→∃o,H a=some o)→Rep K T H S d v
theorem MF{K:p6}{mg:pj}{x:Str}{i:Int}{t:Tok}(h:mg x=some (.int i t)):tV K T mg x (.int i):=⟨_,.int i,h,⟨t,rfl⟩,fun H S _ _=>by unfold Rep;rfl⟩
theorem rA{K:p6}{mg:pj}{x:Str}{a:Addr}{ds:List D}{xs:List V}(h:mg x=some (.ref a))(hs:∀H,SqT K H a xs)(hk:∃o,K.lookup a=some o)(hd:∀H S,aD K T H S ds xs):tV K T mg x (.tup ds):=⟨_,.ref a,h,rfl,fun H S h1 h2=>by
 unfold Rep;refine⟨a,xs,rfl,fun z=>?_,hs H,hd H S⟩
 obtain⟨o,e⟩:=h2 a z;obtain⟨u,e2⟩:=hk;rw[h1 a u e2]at e;cases e⟩
noncomputable def G0(csts:List (Str×D))(fl:Str→List Str)(sub:Str→Str→Bool)(xn:Str→Bool)(wd:Str→Str→Option Str)(dks:List (Str×List (Str×D)):=[]):GS:={ fn:=fun _ _=>none,ff:=fun _=>false,me:=fun _ _ _=>none,mf:=fun _ _=>false,mo:=fun _ _=>none,cst:=fun x=>csts.lookup x,sub:=sub,fl:=fl,xn:=xn,wd:=wd,dk:=fun x=>dks.lookup x,fm:=fun _ _ _=>none }
theorem aDR{P:p8}{w:World}{K:p6}{mg:pj}{base:Heap}{cls:List Str}{csts:List (Str×D)}{fl:Str→List Str}{sub:Str→Str→Bool}{xn:Str→Bool}{wd:Str→Str→Option Str}{dks:List (Str×List (Str×D))}(hc:∀x d,csts.lookup x=some d→tV K T mg x d)(ao:∀cn C,T.cl cn=some C→Cls K C)(dv:∀cn C f,T.cl cn=some C→(fl cn).contains f=true→dN K C f)
  (hbi:∀x,eQ.contains x=true→mg x=none) (hx:∀x C,T.xc x=some C→mg x=some (.ref C)) (hxn:∀k,xn k=true→∃C,T.xc k=some C) (hxk:∀k C,T.xc k=some C→excIn K C i6 "ValueError.__new__" = true)
  (hsub:∀k k' C C',T.xc k=some C→T.xc k'=some C'→sub k k'=true→lQ K C (.ref C')=true)
  (hwd:∀f k x C,T.xc k=some C→wd f k=some x→∃fa fd ps j,j≤lv∧mg f=some (.ref fa)∧keepIn K (.ref fa)=true∧Binds K fd ps []∧FnM P w K mg base j fa fd ps (spW C x)) (hdk:∀x kvs,dks.lookup x=some kvs→∃a,mg x=some (.ref a)∧∀X:Cx,X.prog=P→X.w=w→X.K=K→aCe X T a kvs:=by intro x kvs h;cases h):MOk P w K mg base (cQ P w) ⟨[],cls,csts.map (·.1),[]⟩ (G0 csts fl sub xn wd dks) T lv:=by
 intro X c e1 e2 e3 e4 e5 e6 e7 e8 e9;subst e1 e2 e3 e4 e5;refine⟨fun x hx=>?_,fun cn C m ds r _ hr=>(by cases hr),ao,dv,fun x _ ds d hd=>(by cases hd),fun x d hd _=>hc x d hd,fun x hx _ _=>hbi x hx,hx,fun x hx=>?_,NU,fun _ _ _ _ _ _ z=>z,hxn,hxk,hsub,hwd,fun x kvs h=>let ⟨a,h1,h2⟩:=hdk x kvs h;⟨a,h1,h2 X rfl rfl rfl⟩,fun x o ds r h=>(by cases h)⟩
 ·rw[e6]at hx;simp at hx
 ·rw[e9]at hx;simp at hx
noncomputable def GS.addC(G:GS)(x:Str)(g:List D→Option Rs):GS:={ G with mo:=fun y=>if y=x then g else G.mo y }
theorem MOk.addC{P:p8}{w:World}{K:p6}{mg:pj}{base:Heap}{m:Nm}(h:MOk P w K mg base CX m G T lv){x:Str}{C f:Addr}{fd:p7}{ps:List Str}{g:List D→Option Rs}(hm:mg x=some (.ref C))(M:Mk K C f)(hb:Binds K fd ps [])(hl:∀ds d,g ds=some (.ok d)→ds.length+1=ps.length)
  (F:FnOk P w K mg base CX lv f fd ps (PZ K T C ps.length g)):MOk P w K mg base CX m (G.addC x g) T (lv+1):=by
 intro X c e1 e2 e3 e4 e5 e6 e7 e8 e9;subst e1 e2 e3 e4 e5;have o:=h X c rfl rfl rfl rfl rfl e6 e7 e8 e9
 refine⟨fun y hy=>?_,fun cn C mm ds r hT hr=>?_,o.cls,o.fld,fun y hy ds d hd=>?_,fun y d hd hc=>o.cst y d hd hc,fun y hy h1 h2=>o.bi y hy h1 h2,o.xcl,o.frs,o.cx0,o.cxf,o.xns,o.xk,o.sub,fun f k x C h1 h2=>let ⟨a,b,c,j,d,e⟩:=o.wd f k x C h1 h2;⟨a,b,c,j,le_succ_of_le d,e⟩,o.dk,fun x o2 ds r h1=>let ⟨f,fd,ps,a,b,c,d,e⟩:=o.fm x o2 ds r h1;⟨f,fd,ps,a,b,c,d,e.mono (oh _)⟩⟩
 ·obtain⟨f',ba,a9,a1,a2,a3,a4,a5⟩:=o.fn y hy;exact⟨f',ba,a9,a1,a2,a3,a4,a5.mono (oh _)⟩
 ·obtain⟨f',ba,a9,a1,a2,a3,a4⟩:=o.me cn C mm ds r hT hr;exact⟨f',ba,a9,a1,a2,a3,a4.mono (oh _)⟩
 ·by_cases e:y=x
  ·subst e;simp only[GS.addC,if_true]at hd ⊢;exact⟨C,f,fd,ps,lv,lj _,hm,M,hb,hl ds d hd,F⟩
  ·simp only[GS.addC,if_neg e]at hd ⊢;obtain⟨C',f',ba,a9,j,a1,a2⟩:=o.mo y hy ds d hd;exact⟨C',f',ba,a9,j,le_succ_of_le a1,a2⟩
theorem MOk.defC{P:p8}{w:World}{K:p6}{mg:pj}{base:Heap}{m:Nm}(h:MOk P w K mg base CX m G T lv){x qual:Str}{C f:Addr}{st:Stmt}{fd:p7}{N ps mus:List Str}{n:Nat}{is:List (Str×IE)}(hm:mg x=some (.ref C))(M:Mk K C f)(hb:Binds K fd ps [])
  (F:Fun K "__init__" qual st f fd) (fs:aa N ps (aC st)) (hk:hZ (m.cc N (aC st) mus) (aC st)=true) (c6:oO n (m.cc N (aC st) mus) (bE st)=some is) (hT:T.cl x=some C) (ao:Cls K C) (je:∀x∈is,dN K C x.1) (jd:(is.map (·.1)).Nodup) (hlen:is.length<1000) :
  MOk P w K mg base CX m (G.addC x fun ds=>if ds.length+1=ps.length then zG G x N.length is ds else none) T (lv+2):=by
 have G1:=LA (CX:=CX) (P:=P) (w:=w) (mg:=mg) (base:=base) (T:=T) (lv:=lv) F fs (c:=m.cc N (aC st) mus) rfl rfl hk c6 hT ao je jd hlen (fun X a1 a2 a3 a4 a5=>h X _ a1 a2 a3 a4 a5 rfl rfl rfl rfl)
 have h':MOk P w K mg base CX m G T (lv+1):=by
  intro X c e1 e2 e3 e4 e5 e6 e7 e8 e9;subst e1 e2 e3 e4 e5;have o:=h X c rfl rfl rfl rfl rfl e6 e7 e8 e9
  refine⟨fun y hy=>?_,fun cn C mm ds r hT hr=>?_,o.cls,o.fld,fun y hy ds d hd=>?_,fun y d hd hc=>o.cst y d hd hc,fun y hy h1 h2=>o.bi y hy h1 h2,o.xcl,o.frs,o.cx0,o.cxf,o.xns,o.xk,o.sub,fun f k x C h1 h2=>let ⟨a,b,c,j,d,e⟩:=o.wd f k x C h1 h2;⟨a,b,c,j,le_succ_of_le d,e⟩,o.dk,fun x o2 ds r h1=>let ⟨f,fd,ps,a,b,c,d,e⟩:=o.fm x o2 ds r h1;⟨f,fd,ps,a,b,c,d,e.mono (oh _)⟩⟩
  ·obtain⟨f',ba,a9,a1,a2,a3,a4,a5⟩:=o.fn y hy;exact⟨f',ba,a9,a1,a2,a3,a4,a5.mono (oh _)⟩
  ·obtain⟨f',ba,a9,a1,a2,a3,a4⟩:=o.me cn C mm ds r hT hr;exact⟨f',ba,a9,a1,a2,a3,a4.mono (oh _)⟩
  ·obtain⟨C',f',ba,a9,j,a1,a2⟩:=o.mo y hy ds d hd;exact⟨C',f',ba,a9,j,le_succ_of_le a1,a2⟩
 refine h'.addC hm M hb (fun ds d hd=>?_) ?_
 ·by_cases e:ds.length+1=ps.length
  ·exact e
  ·rw[if_neg e]at hd;cases hd
 ·refine⟨fun vs H Q E h=>h.1,fun A outer s H args us vs Q E hr e0 i0 hv aT=>G1.run A outer s H args us vs Q E hr e0 i0 hv ?_⟩
  obtain⟨h1,p,dx,ws,S,ds,d,e1,h2,h3,h4,h5,h6,h7⟩:=aT;refine⟨h1,p,dx,ws,S,ds,d,e1,h2,h3,h4,h5,?_,h7⟩;have el:ds.length+1=ps.length:=by
   by_cases e:ds.length+1=ps.length
   ·exact e
   ·dsimp only at h6;rw[if_neg e]at h6;cases h6
  dsimp only at h6;rw[if_pos el]at h6;exact h6
end Z
namespace Z
open PySem PySem.Spec PyProof.Rows L2
section
variable {X:Cx}
theorem vO:∀{bs:List Bool} {its:List Value},aM (bs.map V.bl) its→its=bs.map Value.bool
 |[],its,h=>by cases h;rfl
 |b::bs,its,h=>by
  cases h with
  |cons h1 h2 =>
   obtain rfl:=h1;rw[vO h2];rfl
noncomputable def eqT:Value→Bool
 |.bool a=>a == true
 |_=>false
theorem aBo:∀bs:List Bool,(bs.map Value.bool).countP eqT=bs.count true
 |[]=>rfl
 |b::bs=>by
  rw[nj,List.countP_cons,List.count_cons,aBo bs];cases b<;>rfl
noncomputable def ZA:V→List V→Hp→VK→Prop:=fun x vs H Q=>∃(l:Addr) (bs:List Bool),x=.ref l∧vs=[.bl true]∧H l=some (.lst (bs.map V.bl))∧Q (.int (bs.count true)) H
theorem SD:MtM X "list.count" ZA:=by
 intro pins s σ H x vs v us Q I rx rv h;obtain⟨l,bs,rfl,rfl,hH,q⟩:=h;cases rx;obtain⟨u,rfl,ru⟩:=rv.one;obtain rfl:u=.bool true:=ru;obtain⟨z,its,n,r,hl,e⟩:=I.lstM hH;have hi:=vO r
 subst hi;refine call_meets PySem.F.slot_list_count ⟨_,e,rfl⟩ PySem.F.entry_list_count (PySem.F.args_list_count_2 _ _) (SeqAt.list_countAt l (bs.map Value.bool).toArray n none #[] (.bool true) eqT) ⟨e,fun y hy=>?_,?_⟩
 ·have cH:y∈bs.map Value.bool:=by simpa using hy
  obtain⟨b,_,rfl⟩:=nv.mp cH;exact SeqAt.EqAt.bool_bool b true
 ·refine⟨.int (bs.count true),H,I.tok _,⟨s.toks,?_⟩,q⟩;rw[←aBo bs]
end
noncomputable def iH(p:Nat→Pos)(k:Nat)(y:Str):Expr:=.Call (.Name "isinstance" (p k)) [.Name "e" (p (k+1)),.Name y (p (k+2))] [] (p (k+3))
noncomputable def fH:List Str:=["NoSheet","NoFold","NoPlace","Ajar","Severed","Bolted","Loose","NoWord"]
section
variable {X:Cx}{p:Nat→Pos}
def PJ(K:p6)(c:Value):TE:=fun σ H Q=>∃a C b,σ[0]?=some (some (.ref a))∧H a=some (.ext (isExc a C))∧XcK K C∧kitOne K (.ref C) c=some b∧Q (.bl b) H
theorem tS{c:Value}{v:V}(rc:∀u,RelV v u→u=c):eD X (.builtin "isinstance") (fun xs H Q=>∃a C b,xs=[.ref a,v]∧H a=some (.ext (isExc a C))∧XcK X.K C∧kitOne X.K (.ref C) c=some b∧Q (.bl b) H):=by
 rintro pins s σ H xs us Q I r ⟨a,C,b,rfl,hx,F,hk,q⟩;cases r with
 |cons r1 r2 =>
  cases r2 with
  |cons r2 r3 =>
   cases r3;obtain rfl:=r1;have ec:=rc _ r2
   subst ec;obtain⟨h1,_,_⟩:=I.hok a _ hx;exact kia_one (DR F) I.kIn h1 hk (fun z=>by cases z) fun tk=>⟨.bl b,H,I.tok tk,rfl,q⟩
theorem oP:bootBuiltins "isinstance" = some (.builtin "isinstance"):=by decide +kernel
theorem aBp:bootBuiltins "ValueError" = some (.type "ValueError"):=by decide +kernel
structure WX (X:Cx) (cs:Str→Addr):Prop where
 N:X.N=(["e","kinds"]:List Str)
 le:X.env.kindOf "e" = some .local
 lk:X.env.kindOf "kinds" = some .local
 gi:Gl X "isinstance"
 gv:Gl X "ValueError"
 gx:∀y∈fH,Gl X y
 mi:X.mg "isinstance" = none
 mv:X.mg "ValueError" = none
 mx:∀y∈fH,X.mg y=some (.ref (cs y))
variable {cs:Str→Addr}
theorem ZK(W:WX X cs){q:Pos}:PE X (.Name "e" q) (zA 0):=pK (by rw[W.N];rfl) (.inl W.le) (by decide +kernel) (by decide +kernel)
theorem ZJ(W:WX X cs){q:Pos}:PE X (.Name "kinds" q) (zA 1):=pK (by rw[W.N];rfl) (.inl W.lk) (by decide +kernel) (by decide +kernel)
theorem pL(W:WX X cs){k:Nat}{y:Str}(hy:y∈fH):PE X (iH p k y) (PJ X.K (.ref (cs y))):=by
 have hd:(y == ("__debug__":Str))=false:=by
  have:fH.all (fun y=>!(y == ("__debug__":Str)))=true:=by decide +kernel
  have:=all_eq_true.mp this y hy
  simpa using this
 refine PE.mono (eU (tS (v:=.ref (cs y)) fun u h=>h) W.gi W.mi oP (bU (ZK W) (bU (JD (v:=.ref (cs y)) (W.gx y hy) (W.mx y hy) rfl hd) gE)) (by decide +kernel) (by decide +kernel) rfl rfl) fun σ H Q hh=>?_
 obtain⟨a,C,b,h1,h2,h3,h4,q⟩:=hh;exact⟨.ref a,h1,a,C,b,rfl,h2,h3,h4,q⟩
theorem QW(W:WX X cs){k:Nat}:PE X (iH p k "ValueError") (PJ X.K (.type "ValueError")):=by
 refine PE.mono (eU (tS (v:=.ty "ValueError") fun u h=>h) W.gi W.mi oP (bU (ZK W) (bU (wA (v:=.ty "ValueError") W.gv W.mv aBp rfl (by decide +kernel) (by decide +kernel)) gE)) (by decide +kernel) (by decide +kernel) rfl rfl) fun σ H Q hh=>?_
 obtain⟨a,C,b,h1,h2,h3,h4,q⟩:=hh;exact⟨.ref a,h1,a,C,b,rfl,h2,h3,h4,q⟩
def BK(K:p6)(c1 c2 c3 c4:Value):TE:=fun σ H Q=>∃a C b1 b2 b3 b4,σ[0]?=some (some (.ref a))∧H a=some (.ext (isExc a C))∧XcK K C∧kitOne K (.ref C) c1=some b1∧kitOne K (.ref C) c2=some b2∧kitOne K (.ref C) c3=some b3∧kitOne K (.ref C) c4=some b4∧∀l,H l=none→Q (.ref l) (upd H l (.lst ([b1,b2,b3,b4].map V.bl)))
theorem vZ(W:WX X cs){k1 k2 k3 k4:Nat}{q:Pos}{y1 y2 y3 y4:Str}(h1:y1∈fH)(h2:y2∈fH)(h3:y3∈fH)(h4:y4∈fH):PE X (.List [iH p k1 y1,iH p k2 y2,iH p k3 y3,iH p k4 y4] q) (BK X.K (.ref (cs y1)) (.ref (cs y2)) (.ref (cs y3)) (.ref (cs y4))):=
 PE.mono (CI (bU (pL W h1) (bU (pL W h2) (bU (pL W h3) (bU (pL W h4) gE))))) fun σ H Q hh=>by
  obtain⟨a,C,b1,b2,b3,b4,e1,e2,e3,f1,f2,f3,f4,q⟩:=hh;exact⟨a,C,b1,e1,e2,e3,f1,a,C,b2,e1,e2,e3,f2,a,C,b3,e1,e2,e3,f3,a,C,b4,e1,e2,e3,f4,by show 4≤sizeLine;rw[sizeLine_eq];decide,q⟩
theorem kD{i:Nat}{y:Str}(h:fH[i]?=some y):y∈fH:=l6 h
section
variable (p)
abbrev wS1:Stmt:=.Assign [.Name "kinds" (p 0)] (.List [iH p 1 "NoSheet",iH p 5 "NoFold",iH p 9 "NoPlace",iH p 13 "Ajar"] (p 17)) (p 18)
abbrev wS2:Stmt:=.Assign [.Name "kinds" (p 19)] (.BinOp (.Name "kinds" (p 20)) .Add (.List [iH p 21 "Severed",iH p 25 "Bolted",iH p 29 "Loose",iH p 33 "NoWord"] (p 37)) (p 38)) (p 39)
abbrev wC1:Expr:=.Call (.Attribute (.Name "kinds" (p 40)) "count" (p 41)) [.Constant (.bool true) 0 (p 42)] [] (p 43)
abbrev wT3:Expr:=.BoolOp .Or [.Compare (wC1 p) [.NotEq] [.Constant (.int 1) 0 (p 44)] (p 45),.UnaryOp .Not (iH p 46 "ValueError") (p 50)] (p 51)
end
theorem w1(W:WX X cs):PS X (wS1 p) (HA (BK X.K (.ref (cs "NoSheet")) (.ref (cs "NoFold")) (.ref (cs "NoPlace")) (.ref (cs "Ajar"))) (oB 1)):=
 lL (i:=1) (by rw[W.N];decide +kernel) (by rw[W.N];rfl) (.inl W.lk) (vZ W (kD (i:=0) rfl) (kD (i:=1) rfl) (kD (i:=2) rfl) (kD (i:=3) rfl)) rfl (.inr W.lk)
theorem w2(W:WX X cs):PS X (wS2 p) (HA (fz ZD (zA 1) (BK X.K (.ref (cs "Severed")) (.ref (cs "Bolted")) (.ref (cs "Loose")) (.ref (cs "NoWord")))) (oB 1)):=
 lL (i:=1) (by rw[W.N];decide +kernel) (by rw[W.N];rfl) (.inl W.lk) (NH CQ (ZJ W) (vZ W (kD (i:=4) rfl) (kD (i:=5) rfl) (kD (i:=6) rfl) (kD (i:=7) rfl))) rfl (.inr W.lk)
theorem w3(W:WX X cs)(hl1:((p 41).endLine == (p 43).line)=true):PT X (wT3 p) (tOr (BJ (fz rNe (tBM X.K "list" ZA (zA 1) (NB (tC (.bl true)) PH)) (tC (.int 1)))) (WH (tB (PJ X.K (.type "ValueError"))))):=
 PW.pt (rX (vW ZL (NJ PySem.F.plainAttrs_list PySem.F.slot_list_count PySem.F.type_list_count SD (ZJ W) (bU NK gE) rfl rfl hl1) CJ (RS _)) (pH (uG (CA (QW W)))))
end
section
variable {X:Cx}{p:Nat→Pos}{cs:Str→Addr}
end
end Z
namespace Toy
open PySem PySem.Spec PyProof.Rows L2 Z
noncomputable def sW:Str→List Str:=fun c=>if c = "Pile" then ["columns","rows","wide","high","table","folds","severed"] else []
noncomputable def csts:List (Str×D):=[("MOST_CELLS",.int 64),("UPRIGHT_SIDES",.tup [.str "west",.str "east"]),("LEVEL_SIDES",.tup [.str "north",.str "south"]),("NEAR_SIDES",.tup [.str "west",.str "north"])]
noncomputable def dw:List Str:=([]:List Str)
noncomputable def WL:Str→Str→Bool:=fun k k'=>dw.contains k&&(k' == "LeafError" || k == k')
noncomputable def wdX:Str→Str→Option Str:=fun _ _=>none
noncomputable def m0:Nm:=⟨[],(["Pile","LeafError","NoSheet","NoFold","NoPlace","Severed"]:List Str),csts.map (·.1),[]⟩
noncomputable def g0:GS:=G0 csts sW WL (fun k=>dw.contains k) wdX
abbrev Rd(U:List Str)(m:Nm)(N:List Str)(st:Stmt)(i:IS):Prop:=cy 60 (m.cc N (aC st) U) (bE st)=some i
abbrev Ok(U:List Str)(m:Nm)(N:List Str)(st:Stmt):Prop:=hZ (m.cc N (aC st) U) (aC st)=true
theorem sK{N P:List Str}{sc:Scope}(a:sc.kind=.function:=by rfl)(b:sc.isCoroutine=false:=by rfl)(c:sc.isGenerator=false:=by rfl)(d:N.Nodup:=by decide +kernel)(e:N.take P.length=P:=by rfl)(f:∀x∈P,sc.names.lookup x=some .local∨sc.names.lookup x=some .cell:=by decide +kernel)(h:∀y∈sc.names,y.2≠.free:=by decide +kernel):aa N P sc:=⟨a,b,c,d,e,f,h⟩
noncomputable def fD(k:Nat)(g:GS)(n:Nat)(i:IS)(ds:List D):Option Rs:=if ds.length=k then aP g n i ds else none
theorem dG{k:Nat}{g:GS}{n:Nat}{i:IS}{ds:List D}(h:ds.length=k):fD k g n i ds=aP g n i ds:=if_pos h
noncomputable def sU:List (Str×IE):=[("columns",.var 1),("rows",.var 2),("wide",.bcall .len (.cons (.ix (.var 3) (.lit (.int 0))) .nil)),("high",.bcall .len (.cons (.var 3) .nil)),("table",.var 3),("folds",.var 4),("severed",.var 5)]
theorem YZ:oO 60 (m0.cc (["self","columns","rows","table","folds","severed"]:List Str) (aC (L2.inClass (top 12) 0)) []) (bE (L2.inClass (top 12) 0))=some sU:=by kernel_rfl
noncomputable def EM(ds:List D):Option Rs:=if ds.length+1=6 then zG g0 "Pile" 6 sU ds else none
noncomputable def g1:GS:=g0.addC "Pile" EM
noncomputable def m1:Nm:=m0
noncomputable def yN:List Str:=(["self","x","y"]:List Str)
abbrev FR:List Str:=yN
theorem YC:Rd ([]:List Str) m1 yN (L2.inClass (top 12) 1) Pg.pX:=by kernel_rfl
theorem WT:aa yN FR (aC (L2.inClass (top 12) 1)):=sK
theorem ZY:Ok ([]:List Str) m1 yN (L2.inClass (top 12) 1):=by decide +kernel
noncomputable def oH:=fD 3 g1 3 Pg.pX
theorem VJ{ds:List D}:ds.length=3→oH ds=aP g1 3 Pg.pX ds:=dG
noncomputable def g2:GS:=g1.addM "Pile" "heap" oH true
noncomputable def m2:Nm:=m1.addM "heap" true
noncomputable def yQ:List Str:=(["columns","y"]:List Str)
abbrev FV:List Str:=yQ
theorem YG:Rd ([]:List Str) m2 yQ (top 14) Pg.fX:=by kernel_rfl
theorem WY:aa yQ FV (aC (top 14)):=sK
theorem aAc:Ok ([]:List Str) m2 yQ (top 14):=by decide +kernel
noncomputable def xJ:=fD 2 g2 2 Pg.fX
theorem VO{ds:List D}:ds.length=2→xJ ds=aP g2 2 Pg.fX ds:=dG
noncomputable def g3:GS:=g2.addF "laid_row" xJ false
noncomputable def m3:Nm:=m2.addF "laid_row" false
noncomputable def GJ:List Str:=(["columns","rows","table"]:List Str)
noncomputable def FQ:List Str:=(["columns","rows"]:List Str)
theorem YB:Rd ([]:List Str) m3 GJ (top 13) Pg.pW:=by kernel_rfl
theorem WS:aa GJ FQ (aC (top 13)):=sK
theorem ZX:Ok ([]:List Str) m3 GJ (top 13):=by decide +kernel
noncomputable def xF:=fD 2 g3 3 Pg.pW
theorem VI{ds:List D}:ds.length=2→xF ds=aP g3 3 Pg.pW ds:=dG
noncomputable def g4:GS:=g3.addF "laid" xF false
noncomputable def m4:Nm:=m3.addF "laid" false
noncomputable def yP:List Str:=(["part","k"]:List Str)
abbrev FU:List Str:=yP
theorem YF:Rd ([]:List Str) m4 yP (top 25) Pg.gX:=by kernel_rfl
theorem WW:aa yP FU (aC (top 25)):=sK
theorem aAb:Ok ([]:List Str) m4 yP (top 25):=by decide +kernel
noncomputable def xI:=fD 2 g4 2 Pg.gX
theorem VN{ds:List D}:ds.length=2→xI ds=aP g4 2 Pg.gX ds:=dG
noncomputable def g5:GS:=g4.addF "heap_at" xI false
noncomputable def m5:Nm:=m4.addF "heap_at" false
noncomputable def US:List Str:=(["moving","staying","over","upper","lower","longer"]:List Str)
noncomputable def UJ:List Str:=(["moving","staying","over"]:List Str)
theorem aDr:Rd ([]:List Str) m5 US (top 24) Pg.cJ:=by kernel_rfl
theorem aDe:aa US UJ (aC (top 24)):=sK
theorem aDJ:Ok ([]:List Str) m5 US (top 24):=by decide +kernel
noncomputable def LN:=fD 3 g5 6 Pg.cJ
theorem aCL{ds:List D}:ds.length=3→LN ds=aP g5 6 Pg.cJ ds:=dG
noncomputable def g6:GS:=g5.addF "laid_together" LN false
noncomputable def m6:Nm:=m5.addF "laid_together" false
noncomputable def MS:List Str:=(["heap","side"]:List Str)
abbrev UD:List Str:=MS
theorem aDl:Rd ([]:List Str) m6 MS (top 23) Pg.eB:=by kernel_rfl
theorem aCY:aa MS UD (aC (top 23)):=sK
theorem aDD:Ok ([]:List Str) m6 MS (top 23):=by decide +kernel
noncomputable def LH:=fD 2 g6 2 Pg.eB
theorem aCF{ds:List D}:ds.length=2→LH ds=aP g6 2 Pg.eB ds:=dG
noncomputable def g7:GS:=g6.addF "turned_heap" LH false
noncomputable def m7:Nm:=m6.addF "turned_heap" false
noncomputable def MT:List Str:=(["part","side"]:List Str)
abbrev UE:List Str:=MT
theorem aDm:Rd ([]:List Str) m7 MT (top 22) Pg.eA:=by kernel_rfl
theorem aCZ:aa MT UE (aC (top 22)):=sK
theorem aDE:Ok ([]:List Str) m7 MT (top 22):=by decide +kernel
noncomputable def LI:=fD 2 g7 2 Pg.eA
theorem aCG{ds:List D}:ds.length=2→LI ds=aP g7 2 Pg.eA ds:=dG
noncomputable def g8:GS:=g7.addF "turned_part" LI false
noncomputable def m8:Nm:=m7.addF "turned_part" false
noncomputable def UQ:List Str:=(["strip","side","over","crease","before","behind","outward"]:List Str)
noncomputable def UH:List Str:=(["strip","side","over","crease"]:List Str)
theorem aDp:Rd ([]:List Str) m8 UQ (top 21) Pg.dE:=by kernel_rfl
theorem aDc:aa UQ UH (aC (top 21)):=sK
theorem aDH:Ok ([]:List Str) m8 UQ (top 21):=by decide +kernel
noncomputable def LL:=fD 4 g8 7 Pg.dE
theorem aCJ{ds:List D}:ds.length=4→LL ds=aP g8 7 Pg.dE ds:=dG
noncomputable def g9:GS:=g8.addF "folded_strip" LL false
noncomputable def m9:Nm:=m8.addF "folded_strip" false
noncomputable def yS:List Str:=(["table","x"]:List Str)
abbrev FY:List Str:=yS
theorem YJ:Rd ([]:List Str) m9 yS (top 20) Pg.fF:=by kernel_rfl
theorem XB:aa yS FY (aC (top 20)):=sK
theorem aAf:Ok ([]:List Str) m9 yS (top 20):=by decide +kernel
noncomputable def xM:=fD 2 g9 2 Pg.fF
theorem VR{ds:List D}:ds.length=2→xM ds=aP g9 2 Pg.fF ds:=dG
noncomputable def kq:GS:=g9.addF "column_of" xM false
noncomputable def m10:Nm:=m9.addF "column_of" false
noncomputable def yX:List Str:=(["table"]:List Str)
abbrev GH:List Str:=yX
theorem YT:Rd ([]:List Str) m10 yX (top 19) Pg.eJ:=by kernel_rfl
theorem XN:aa yX GH (aC (top 19)):=sK
theorem aAo:Ok ([]:List Str) m10 yX (top 19):=by decide +kernel
noncomputable def xU:=fD 1 kq 1 Pg.eJ
theorem WA{ds:List D}:ds.length=1→xU ds=aP kq 1 Pg.eJ ds:=dG
noncomputable def jo:GS:=kq.addF "transposed" xU false
noncomputable def m11:Nm:=m10.addF "transposed" false
noncomputable def UR:List Str:=(["table","side","over","crease","strips"]:List Str)
noncomputable def UI:List Str:=(["table","side","over","crease"]:List Str)
theorem aDq:Rd ([]:List Str) m11 UR (top 18) Pg.dD:=by kernel_rfl
theorem aDd:aa UR UI (aC (top 18)):=sK
theorem aDI:Ok ([]:List Str) m11 UR (top 18):=by decide +kernel
noncomputable def LM:=fD 4 jo 5 Pg.dD
theorem aCK{ds:List D}:ds.length=4→LM ds=aP jo 5 Pg.dD ds:=dG
noncomputable def g12:GS:=jo.addF "folded_table" LM false
noncomputable def m12:Nm:=m11.addF "folded_table" false
noncomputable def yW:List Str:=(["pile","side","crease"]:List Str)
abbrev GF:List Str:=yW
theorem YR:Rd ([]:List Str) m12 yW (top 17) Pg.eL:=by kernel_rfl
theorem XJ:aa yW GF (aC (top 17)):=sK
theorem aAm:Ok ([]:List Str) m12 yW (top 17):=by decide +kernel
noncomputable def xS:=fD 3 g12 3 Pg.eL
theorem VY{ds:List D}:ds.length=3→xS ds=aP g12 3 Pg.eL ds:=dG
noncomputable def g13:GS:=g12.addF "has_crease" xS false
noncomputable def m13:Nm:=m12.addF "has_crease" false
noncomputable def MW:List Str:=(["pile"]:List Str)
abbrev UM:List Str:=MW
theorem aDu:Rd ([]:List Str) m13 MW (top 16) Pg.cD:=by kernel_rfl
theorem aDh:aa MW UM (aC (top 16)):=sK
theorem aDM:Ok ([]:List Str) m13 MW (top 16):=by decide +kernel
noncomputable def LP:=fD 1 g13 1 Pg.cD
theorem aCO{ds:List D}:ds.length=1→LP ds=aP g13 1 Pg.cD ds:=dG
noncomputable def i4:GS:=g13.addF "refuse_severed" LP false
noncomputable def m14:Nm:=m13.addF "refuse_severed" false
noncomputable def GK:List Str:=(["pile","side","over","crease","table","folds"]:List Str)
noncomputable def FT:List Str:=(["pile","side","over","crease"]:List Str)
theorem YE:Rd ([]:List Str) m14 GK (top 15) Pg.iW:=by kernel_rfl
theorem WV:aa GK FT (aC (top 15)):=sK
theorem aAa:Ok ([]:List Str) m14 GK (top 15):=by decide +kernel
noncomputable def xH:=fD 4 i4 6 Pg.iW
theorem VM{ds:List D}:ds.length=4→xH ds=aP i4 6 Pg.iW ds:=dG
noncomputable def jn:GS:=i4.addF "folded" xH false
noncomputable def m15:Nm:=m14.addF "folded" false
noncomputable def GN:List Str:=(["pile","lines","y","x","cell","east","north"]:List Str)
noncomputable def GD:List Str:=(["pile"]:List Str)
theorem YO:Rd (["lines"]:List Str) m15 GN (top 30) Pg.eM:=by kernel_rfl
theorem XH:aa GN GD (aC (top 30)):=sK
theorem aAk:Ok (["lines"]:List Str) m15 GN (top 30):=by decide +kernel
noncomputable def xQ:=fD 1 jn 7 Pg.eM
theorem VW{ds:List D}:ds.length=1→xQ ds=aP jn 7 Pg.eM ds:=dG
noncomputable def g16:GS:=jn.addF "edge_lines" xQ false
noncomputable def m16:Nm:=m15.addF "edge_lines" false
noncomputable def GQ:List Str:=(["columns","rows","cells","found","cell"]:List Str)
noncomputable def GI:List Str:=(["columns","rows"]:List Str)
theorem YU:Rd (["found"]:List Str) m16 GQ (top 29) Pg.eK:=by kernel_rfl
theorem XO:aa GQ GI (aC (top 29)):=sK
theorem aAp:Ok (["found"]:List Str) m16 GQ (top 29):=by decide +kernel
noncomputable def xV:=fD 2 g16 5 Pg.eK
theorem WB{ds:List D}:ds.length=2→xV ds=aP g16 5 Pg.eK ds:=dG
noncomputable def jm:GS:=g16.addF "neighbours" xV false
noncomputable def m17:Nm:=m16.addF "neighbours" false
noncomputable def GP:List Str:=(["pile","lines","found","first","second","level"]:List Str)
noncomputable def GG:List Str:=(["pile"]:List Str)
theorem YS:Rd (["found"]:List Str) m17 GP (top 28) Pg.eN:=by kernel_rfl
theorem XM:aa GP GG (aC (top 28)):=sK
theorem aAn:Ok (["found"]:List Str) m17 GP (top 28):=by decide +kernel
noncomputable def xT:=fD 1 jm 6 Pg.eN
theorem VZ{ds:List D}:ds.length=1→xT ds=aP jm 6 Pg.eN ds:=dG
noncomputable def ko:GS:=jm.addF "all_joints" xT false
noncomputable def m18:Nm:=m17.addF "all_joints" false
noncomputable def yO:List Str:=(["pile"]:List Str)
abbrev FS:List Str:=yO
theorem YD:Rd ([]:List Str) m18 yO (top 27) Pg.iV:=by kernel_rfl
theorem WU:aa yO FS (aC (top 27)):=sK
theorem ZZ:Ok ([]:List Str) m18 yO (top 27):=by decide +kernel
noncomputable def xG:=fD 1 ko 1 Pg.iV
theorem VL{ds:List D}:ds.length=1→xG ds=aP ko 1 Pg.iV ds:=dG
noncomputable def g19:GS:=ko.addF "joints" xG false
noncomputable def m19:Nm:=m18.addF "joints" false
noncomputable def MU:List Str:=(["script","k"]:List Str)
abbrev UG:List Str:=MU
theorem aDo:Rd ([]:List Str) m19 MU (top 32) Pg.gY:=by kernel_rfl
theorem aDb:aa MU UG (aC (top 32)):=sK
theorem aDG:Ok ([]:List Str) m19 MU (top 32):=by decide +kernel
noncomputable def LK:=fD 2 g19 2 Pg.gY
theorem aCI{ds:List D}:ds.length=2→LK ds=aP g19 2 Pg.gY ds:=dG
noncomputable def g20:GS:=g19.addF "_law_cell_at" LK false
noncomputable def m20:Nm:=m19.addF "_law_cell_at" false
noncomputable def yV:List Str:=(["found"]:List Str)
abbrev GC:List Str:=yV
theorem YN:Rd ([]:List Str) m20 yV (top 33) Pg.kU:=by kernel_rfl
theorem XG:aa yV GC (aC (top 33)):=sK
theorem aAj:Ok ([]:List Str) m20 yV (top 33):=by decide +kernel
noncomputable def oI:=fD 1 g20 1 Pg.kU
theorem VV{ds:List D}:ds.length=1→oI ds=aP g20 1 Pg.kU ds:=dG
noncomputable def g21:GS:=g20.addF "_law_whole" oI false
noncomputable def m21:Nm:=m20.addF "_law_whole" false
noncomputable def UT:List Str:=(["cell","way","more"]:List Str)
noncomputable def UK:List Str:=(["cell"]:List Str)
theorem aDs:Rd ([]:List Str) m21 UT (top 34) K18.dR:=by kernel_rfl
theorem aDf:aa UT UK (aC (top 34)):=sK
theorem aDK:Ok ([]:List Str) m21 UT (top 34):=by decide +kernel
noncomputable def SZ:=fD 1 g21 3 K18.dR
theorem aCM{ds:List D}:ds.length=1→SZ ds=aP g21 3 K18.dR ds:=dG
noncomputable def kn:GS:=g21.addF "_law_sheet_by" SZ false
noncomputable def m22:Nm:=m21.addF "_law_sheet_by" false
noncomputable def UP:List Str:=(["cell","wide","high","level","extent","sides"]:List Str)
noncomputable def UF:List Str:=(["cell","wide","high"]:List Str)
theorem aDn:Rd ([]:List Str) m22 UP (top 35) Pg.fP:=by kernel_rfl
theorem aDa:aa UP UF (aC (top 35)):=sK
theorem aDF:Ok ([]:List Str) m22 UP (top 35):=by decide +kernel
noncomputable def LJ:=fD 3 kn 6 Pg.fP
theorem aCH{ds:List D}:ds.length=3→LJ ds=aP kn 6 Pg.fP ds:=dG
noncomputable def jl:GS:=kn.addF "_law_fold_by" LJ false
noncomputable def m23:Nm:=m22.addF "_law_fold_by" false
noncomputable def GM:List Str:=(["seats_of","found","x","y","layer","one"]:List Str)
noncomputable def GA:List Str:=(["seats_of","found","x","y"]:List Str)
theorem YL:Rd (["seats_of"]:List Str) m23 GM (top 36) K06.lZ:=by kernel_rfl
theorem XE:aa GM GA (aC (top 36)):=sK
theorem aAh:Ok (["seats_of"]:List Str) m23 GM (top 36):=by decide +kernel
noncomputable def xO(o:D)(ds:List D):Option (D×D):=if ds.length+1=4 then runM jl 6 K06.lZ o ds else none
theorem VT{o:D}{ds:List D}(h:ds.length+1=4):xO o ds=runM jl 6 K06.lZ o ds:=if_pos h
noncomputable def gk:GS:=jl.addA "_law_fill" xO
noncomputable def m24:Nm:=m23
noncomputable def GO:List Str:=(["pile","out","y","x","found","one"]:List Str)
noncomputable def GE:List Str:=(["pile"]:List Str)
theorem YQ:Rd (["out"]:List Str) m24 GO (top 37) K06.kW:=by kernel_rfl
theorem XI:aa GO GE (aC (top 37)):=sK
theorem aAl:Ok (["out"]:List Str) m24 GO (top 37):=by decide +kernel
noncomputable def xR:=fD 1 gk 6 K06.kW
theorem VX{ds:List D}:ds.length=1→xR ds=aP gk 6 K06.kW ds:=dG
noncomputable def g25:GS:=gk.addF "_law_seats" xR false
noncomputable def m25:Nm:=m24.addF "_law_seats" false
noncomputable def GL:List Str:=(["columns","rows","out","k"]:List Str)
noncomputable def FX:List Str:=(["columns","rows"]:List Str)
theorem YI:Rd (["out"]:List Str) m25 GL (top 38) K06.pT:=by kernel_rfl
theorem XA:aa GL FX (aC (top 38)):=sK
theorem aAe:Ok (["out"]:List Str) m25 GL (top 38):=by decide +kernel
noncomputable def xK:=fD 2 g25 4 K06.pT
theorem VQ{ds:List D}:ds.length=2→xK ds=aP g25 4 K06.pT ds:=dG
noncomputable def g26:GS:=g25.addF "_law_near" xK false
noncomputable def m26:Nm:=m25.addF "_law_near" false
noncomputable def yR:List Str:=(["one","level"]:List Str)
abbrev FW:List Str:=yR
theorem YH:Rd ([]:List Str) m26 yR (top 39) K06.pV:=by kernel_rfl
theorem WZ:aa yR FW (aC (top 39)):=sK
theorem aAd:Ok ([]:List Str) m26 yR (top 39):=by decide +kernel
noncomputable def sY:=fD 2 g26 2 K06.pV
theorem VP{ds:List D}:ds.length=2→sY ds=aP g26 2 K06.pV ds:=dG
noncomputable def g27:GS:=g26.addF "_law_line" sY false
noncomputable def m27:Nm:=m26.addF "_law_line" false
noncomputable def MV:List Str:=(["one","level"]:List Str)
abbrev UL:List Str:=MV
theorem aDt:Rd ([]:List Str) m27 MV (top 40) K06.pY:=by kernel_rfl
theorem aDg:aa MV UL (aC (top 40)):=sK
theorem aDL:Ok ([]:List Str) m27 MV (top 40):=by decide +kernel
noncomputable def LO:=fD 2 g27 2 K06.pY
theorem aCN{ds:List D}:ds.length=2→LO ds=aP g27 2 K06.pY ds:=dG
noncomputable def jk:GS:=g27.addF "_law_back_line" LO false
noncomputable def m28:Nm:=m27.addF "_law_back_line" false
noncomputable def yU:List Str:=(["one","other","level"]:List Str)
abbrev GB:List Str:=yU
theorem YM:Rd ([]:List Str) m28 yU (top 41) K06.pU:=by kernel_rfl
theorem XF:aa yU GB (aC (top 41)):=sK
theorem aAi:Ok ([]:List Str) m28 yU (top 41):=by decide +kernel
noncomputable def xP:=fD 3 jk 3 K06.pU
theorem VU{ds:List D}:ds.length=3→xP ds=aP jk 3 K06.pU ds:=dG
noncomputable def km:GS:=jk.addF "_law_meet" xP false
noncomputable def m29:Nm:=m28.addF "_law_meet" false
noncomputable def yT:List Str:=(["one","first","second","level","line"]:List Str)
abbrev FZ:List Str:=yT
theorem YK:Rd ([]:List Str) m29 yT (top 42) K06.pS:=by kernel_rfl
theorem XD:aa yT FZ (aC (top 42)):=sK
theorem aAg:Ok ([]:List Str) m29 yT (top 42):=by decide +kernel
noncomputable def xN:=fD 5 km 5 K06.pS
theorem VS{ds:List D}:ds.length=5→xN ds=aP km 5 K06.pS ds:=dG
noncomputable def cu:GS:=km.addF "_law_told" xN false
noncomputable def j5:Nm:=m29.addF "_law_told" false
noncomputable def yM:List Str:=(["script","columns","rows","pile","cell","fold","spots","due","found","k","first","second","level"]:List Str)
noncomputable def oU:List Str:=(["script"]:List Str)
theorem YA:Rd ([]:List Str) j5 yM (top 43) K06.wO:=by kernel_rfl
theorem WR:aa yM oU (aC (top 43)):=sK
theorem ZW:Ok ([]:List Str) j5 yM (top 43):=by decide +kernel
noncomputable def sX:=fD 1 cu 13 K06.wO
theorem MY{ds:List D}:ds.length=1→sX ds=aP cu 13 K06.wO ds:=dG
noncomputable def tx(C:Addr)(cs:Str→Addr):Tx:=⟨fun x=>if x = "Pile" then some C else none,fun x=>if dw.contains x=true then some (cs x) else none⟩
theorem vR(C:Addr)(cs:Str→Addr):(tx C cs).cl "Pile" = some C:=by
 unfold tx;simp only[if_true]
theorem MZ{C:Addr}{cs:Str→Addr}{cn:Str}{C':Addr}(h:(tx C cs).cl cn=some C'):cn = "Pile"∧C'=C:=by
 unfold tx at h;dsimp only at h;split at h
 ·rename_i e;cases h;exact⟨e,rfl⟩
 ·cases h
theorem vQ{C:Addr}{cs:Str→Addr}{k:Str}{C':Addr}(h:(tx C cs).xc k=some C'):dw.contains k=true∧C'=cs k:=by
 unfold tx at h;dsimp only at h;split at h
 ·rename_i e;cases h;exact⟨e,rfl⟩
 ·cases h
structure Df (K:p6) (mg:pj) (x:Str) (st:Stmt) (ps:List Str) (f:Addr) (fd:p7):Prop where
 fn:Fun K x x st f fd
 at_:mg x=some (.ref f)
 bd:Binds K fd ps []
structure Mt (K:p6) (C:Addr) (x qual:Str) (st:Stmt) (ps:List Str) (f:Addr) (fd:p7):Prop where
 fn:Fun K x qual st f fd
 at_:ef K C x f
 bd:Binds K fd ps []
section
variable {P:p8}{w:World}{K:p6}{mg:pj}{base:Heap}{C:Addr}{cs:Str→Addr}
abbrev MO(P:p8)(w:World)(K:p6)(mg:pj)(base:Heap)(C:Addr)(cs:Str→Addr)(m:Nm)(g:GS)(k:Nat):Prop:=MOk P w K mg base (cQ P w) m g (tx C cs) k
theorem aCE:∀g k x C',(tx C cs).xc k=some C'→wdX g k=some x→∃fa fd ps j,j≤1∧mg g=some (.ref fa)∧keepIn K (.ref fa)=true∧Binds K fd ps []∧FnM P w K mg base j fa fd ps (spW C' x):=by
 intro g k x C' h1 h2;exact nomatch (show none=some x from h2)
theorem mk0(hc:∀x d,csts.lookup x=some d→tV K (tx C cs) mg x d)(ao:Cls K C)(dv:∀f,(sW "Pile").contains f=true→dN K C f)(hbi:∀x,eQ.contains x=true→mg x=none)(hx:∀k,dw.contains k=true→mg k=some (.ref (cs k)))(hxk:∀k,dw.contains k=true→excIn K (cs k) i6 "ValueError.__new__" = true)
  (hsub:∀k k',dw.contains k=true→dw.contains k'=true→WL k k'=true→lQ K (cs k) (.ref (cs k'))=true) (hwd:∀g k x C',(tx C cs).xc k=some C'→wdX g k=some x→∃fa fd ps j,j≤1∧mg g=some (.ref fa)∧keepIn K (.ref fa)=true∧Binds K fd ps []∧FnM P w K mg base j fa fd ps (spW C' x)):MO P w K mg base C cs m0 g0 1:=
 aDR hc (fun cn C' h=>by obtain⟨_,rfl⟩:=MZ h;exact ao) (fun cn C' f h hf=>by obtain⟨rfl,rfl⟩:=MZ h;exact dv f hf) hbi (fun k C' h=>by obtain⟨h1,rfl⟩:=vQ h;exact hx k h1) (fun k h=>⟨cs k,if_pos h⟩) (fun k C' h=>by obtain⟨h1,rfl⟩:=vQ h;exact hxk k h1)
  (fun k k' C1 C2 a b h=>by obtain⟨h1,rfl⟩:=vQ a;obtain⟨h2,rfl⟩:=vQ b;exact hsub k k' h1 h2 h) hwd
theorem XQ:aa (["self","columns","rows","table","folds","severed"]:List Str) (["self","columns","rows","table","folds","severed"]:List Str) (aC (L2.inClass (top 12) 0)):=sK
theorem mk1{f:Addr}{fd:p7}(h:MO P w K mg base C cs m0 g0 1)(hm:mg "Pile" = some (.ref C))(M:Mk K C f)(hb:Binds K fd (["self","columns","rows","table","folds","severed"]:List Str) [])(F:Fun K "__init__" "Pile.__init__" (L2.inClass (top 12) 0) f fd)(ao:Cls K C)(dv:∀f,(sW "Pile").contains f=true→dN K C f):MO P w K mg base C cs m1 g1 3:=
 h.defC hm M hb F XQ (by decide +kernel) YZ (vR C cs) ao (fun x hx=>dv x.1 (by
  have:sU.all (fun x=>(sW "Pile").contains x.1)=true:=by decide +kernel
  exact all_eq_true.mp this x hx)) (by decide +kernel) (by decide)
theorem mkM{m:Nm}{g:GS}{k:Nat}{x q:Str}{st:Stmt}{N ps U:List Str}{i:IS}{f:Addr}{fd:p7}(e:∀cn ds,g.me cn x ds=none)(s:aa N ps (aC st))(o:Ok U m N st)(r:Rd U m N st i)(h:MO P w K mg base C cs m g k)(M:Mt K C x q st ps f fd)(a1:m.fns.contains x=false:=by decide +kernel)(a3:m.fresh.contains x=false:=by decide +kernel)(a4:true=true→fY i=true:=by decide +kernel):MO P w K mg base C cs (m.addM x true) (g.addM "Pile" x (fD ps.length g N.length i) true) (k+1):=h.defM a1 e a3 (vR C cs) M.at_ M.bd M.fn s o r a4
theorem aBj:∀cn ds,g1.me cn "heap" ds=none:=fun cn ds=>by
 rfl
theorem aAQ{x:Str}(h_heap:¬x = "heap"):∀cn ds,g2.me cn x ds=none:=fun cn ds=>by
 show (if cn = "Pile"∧x = "heap" then oH else fun _=>none) ds=none
 rw[if_neg fun z=>h_heap z.2]
theorem bg{m:Nm}{g:GS}{k:Nat}{x:Str}{st:Stmt}{N ps U:List Str}{i:IS}{f:Addr}{fd:p7}(s:aa N ps (aC st))(o:Ok U m N st)(r:Rd U m N st i)(h:MO P w K mg base C cs m g k)(M:Df K mg x st ps f fd)(a1:m.fns.contains x=false:=by decide +kernel)(a2:∀cn ds,g.me cn x ds=none:=by exact aAQ (by decide +kernel))(a3:m.fresh.contains x=false:=by decide +kernel)(a4:false=true→fY i=true:=by first|(intro z;cases z;done)|decide +kernel):MO P w K mg base C cs (m.addF x false) (g.addF x (fD ps.length g N.length i) false) (k+1):=h.defF a1 a2 a3 M.at_ M.bd M.fn s o r a4
theorem mkA{m:Nm}{g:GS}{k:Nat}{x:Str}{st:Stmt}{N ps U:List Str}{i:IS}{f:Addr}{fd:p7}(s:aa N ps (aC st))(o:Ok U m N st)(r:Rd U m N st i)(h:MO P w K mg base C cs m g k)(M:Df K mg x st ps f fd)(a1:bV i=true:=by decide +kernel):MO P w K mg base C cs m (g.addA x fun o ds=>if ds.length+1=ps.length then runM g N.length i o ds else none) (k+1):=h.defA M.at_ M.bd M.fn s o r a1
theorem SE{f:Addr}{fd:p7}(h:MO P w K mg base C cs j5 cu 32)(M:Df K mg "law" (top 43) oU f fd):FnOk P w K mg base (cQ P w) 33 f fd oU (eg K (tx C cs) 1 sX false):=
 ((SU (fr:=false) (n:=60) (c:=j5.cc yM (aC (top 43)) ([]:List Str)) M.fn WR rfl rfl ZW YA (fun z=>by cases z) (fun X a1 a2 a3 a4 a5=>h X _ a1 a2 a3 a4 a5 rfl rfl rfl rfl)).imp fun vs H Q E ⟨h1,S,ds,dom,rl,hc⟩=>⟨h1,S,ds,dom,rl,by rw[MY (by rw[rl.len];exact h1)]at hc;exact hc⟩)
end
theorem QG:g3.fn "laid_row" = xJ:=by kernel_rfl
theorem QF:g5.fn "heap_at" = xI:=by kernel_rfl
theorem ZG:g7.fn "turned_heap" = LH:=by kernel_rfl
theorem ZF:g8.fn "laid_together" = LN:=by kernel_rfl
theorem ZE:g8.fn "turned_part" = LI:=by kernel_rfl
theorem IM:kq.fn "column_of" = xM:=by kernel_rfl
theorem QN:jo.fn "folded_strip" = LL:=by kernel_rfl
theorem IL:jo.fn "transposed" = xU:=by kernel_rfl
theorem QL:i4.fn "folded_table" = LM:=by kernel_rfl
theorem IK:i4.fn "has_crease" = xS:=by kernel_rfl
theorem QM:i4.fn "refuse_severed" = LP:=by kernel_rfl
theorem JK:jn.me "Pile" "heap" = oH:=by kernel_rfl
theorem II:jm.fn "edge_lines" = xQ:=by kernel_rfl
theorem IJ:jm.fn "neighbours" = xV:=by kernel_rfl
theorem IH:ko.fn "all_joints" = xT:=by kernel_rfl
theorem IG:jl.fn "_law_whole" = oI:=by kernel_rfl
theorem IF:gk.fn "_law_whole" = oI:=by kernel_rfl
theorem lK:gk.fm "_law_fill" = xO:=by kernel_rfl
theorem JJ:gk.me "Pile" "heap" = oH:=by kernel_rfl
theorem QK:jk.fn "_law_back_line" = LO:=by kernel_rfl
theorem ID:jk.fn "_law_line" = sY:=by kernel_rfl
theorem IC:km.fn "_law_whole" = oI:=by kernel_rfl
theorem QI:cu.fn "_law_cell_at" = LK:=by kernel_rfl
theorem QH:cu.fn "_law_fold_by" = LJ:=by kernel_rfl
theorem HX:cu.fn "_law_line" = sY:=by kernel_rfl
theorem IA:cu.fn "_law_meet" = xP:=by kernel_rfl
theorem HY:cu.fn "_law_near" = xK:=by kernel_rfl
theorem IB:cu.fn "_law_seats" = xR:=by kernel_rfl
theorem QJ:cu.fn "_law_sheet_by" = SZ:=by kernel_rfl
theorem HZ:cu.fn "_law_told" = xN:=by kernel_rfl
theorem HW:cu.fn "folded" = xH:=by kernel_rfl
theorem HV:cu.fn "joints" = xG:=by kernel_rfl
theorem HU:cu.fn "laid" = xF:=by kernel_rfl
end Toy
namespace Toy
open PySem Z Z.Pg
theorem fv(G:GS)(h:G.fl=sW):G.fl "Pile" = b9:=by rw[h];rfl
theorem mo_(c r:Int)(T row:List D)(F S:List D)(h:T[0]?=some (.lst row)):EM [.int c,.int r,.lst T,.tup F,.tup S]=some (.ok (bL c r row.length T.length T F S)):=by
 show zG g0 "Pile" 6 sU _=_
 unfold zG sU;have e:atI T 0=some (.lst row):=dM (k:=0) h
 show Option.map _ (fh g0 [.un,.im (.int c),.im (.int r),.im (.lst T),.im (.tup F),.im (.tup S)] _)=_
 simp only[fh,ll];simp only[zz,yy,aA,aB,e];rfl
theorem MX{c r w h:Nat}{T:Table}{F S:List D}{x y:Nat}(R:Rect T w h)(hx:x<w)(hy:y<h):oH [aL c r w h T F S,.int x,.int y]=some (.ok (hE ((T.getD y []).getD x []))):=by
 rw[VJ rfl];have cH:y<T.length:=by rw[R.len];exact hy
 have hr:(T.getD y []).length=w:=R.row _ (by rw[l4,l8 cH];exact p5 cH)
 refine KY (fv _ rfl) (row:=(T.getD y []).map hE) (by omega) (by omega) ?_ ?_
 ·rw[l9,l4,l8 cH];rfl
 ·rw[l9,l4 (l:=T.getD y []),l8 (by omega)];rfl
theorem mc_:g3.cst "MOST_CELLS" = some (.int 64):=by rfl
theorem VB{c y:Nat}(h1:c≤64)(h2:y≤64):xJ [.int c,.int y]=some (.ok (.lst (kK c y))):=(VO rfl).trans (sP h1 h2)
theorem UX{c r:Nat}(h1:1≤c)(h2:1≤r)(h3:c*r≤64):xF [.int c,.int r]=some (.ok (aL c r c r (fG c r) [] [])):=by
 rw[VI rfl];unfold aL;rw[←rO];exact KP mc_ (fun c y a b=>by rw[QG];exact VB a b) (fun c r T row h=>mo_ c r T row [] [] h) h1 h2 h3
theorem VA(p:aR)(k:Nat):xI [sE p,.int k]=some (.ok (hE (p.getD k []))):=(VN rfl).trans uX
theorem aCC(mv st:aR)(over:Bool)(l1:mv.length≤1000)(l2:st.length≤1000)(f1:Few 400000 mv)(f2:Few 400000 st):LN [sE mv,sE st,.bl over]=some (.ok (sE (bH mv st over))):=
 (aCL rfl).trans (jW (fun p k=>by rw[QF];exact VA p k) l1 l2 f1 f2)
theorem aCy(h:dQ)(sd:Side):LH [hE h,.str sd.str]=some (.ok (hE (dP sd.up h))):=(aCF rfl).trans (lD rfl)
theorem aCz(p:aR)(sd:Side):LI [sE p,.str sd.str]=some (.ok (sE (cX sd.up p))):=(aCG rfl).trans (lC fun h sd=>by rw[ZG];exact aCy h sd)
theorem aCA(s:aR)(sd:Side)(over:Bool)(c:Nat)(ls:s.length≤1000)(hf:Few 400000 s):LL [sE s,.str sd.str,.bl over,.int c]=some (.ok (sE (bW sd over c s))):=
 (aCJ rfl).trans (kN rfl (fun p sd=>by rw[ZE];exact aCz p sd) (fun mv st over a b c d=>by rw[ZF];exact aCC mv st over a b c d) ls hf)
theorem VC(T:Table)(x:Nat)(h:∀s∈T,x<s.length):xM [tE T,.int x]=some (.ok (sE (T.map fun s=>s.getD x []))):=(VR rfl).trans (rC h)
theorem VG(T:Table)(w h:Nat)(R:Rect T w h)(hw:w≤1000):xU [tE T]=some (.ok (tE (transp T))):=(WA rfl).trans (mY (fun T x h=>by rw[IM];exact VC T x h) R hw)
theorem aCB(T:Table)(w h:Nat)(sd:Side)(over:Bool)(k:Nat)(R:Rect T w h)(hw:w≤1000)(hh:h≤1000)(hf:nI 400000 T)(h1:1≤k)(h2:k<if sd.up then w else h):LM [tE T,.str sd.str,.bl over,.int k]=some (.ok (tE (foldT sd over k T))):=
 (aCK rfl).trans (kM rfl (fun T w h R hw=>by rw[IL];exact VG T w h R hw) (fun s sd over c a b=>by rw[QN];exact aCA s sd over c a b) R hw hh hf h1 h2)
theorem VE(c r w h:Nat)(T:Table)(F S:List D)(sd:Side)(i:Int):xS [aL c r w h T F S,.str sd.str,.int i]=some (.ok (.bl (decide (1≤i)&&decide (i<((if sd.up then w else h:Nat):Int))))):=(VY rfl).trans (nC (fv _ rfl) rfl rfl)
theorem aCD(c r w h:Nat)(T:Table)(F:List D):LP [aL c r w h T F []]=some (.ok .non):=(aCO rfl).trans (iR (fv _ rfl))
theorem UZ(c r w h:Nat)(T:Table)(F:List D)(sd:Side)(over:Bool)(k:Nat)(R:Rect T w h)(hw:w≤1000)(hh:h≤1000)(hf:nI 400000 T)(h1:1≤k)(h2:k<if sd.up then w else h)(hF:F.length≤1000):xH [aL c r w h T F [],.str sd.str,.bl over,.int k]=some (.ok (aL c r (if sd.up then max k (w-k) else w) (if sd.up then h else max k (h-k)) (foldT sd over k T) (F++[eI sd over k]) [])):=
 (VM rfl).trans (AG (fv _ rfl) (fun c r w h T F=>by rw[QM];exact aCD c r w h T F) (fun c r w h T F S sd i=>by rw[IK];exact VE c r w h T F S sd i) (fun T w h sd over k a b c d e f=>by rw[QL];exact aCB T w h sd over k a b c d e f) (fun c r T row F S h=>mo_ c r T row F S h) R hw hh hf h1 h2 hF)
theorem yZ(ns:List Int)(k:Nat):LK [.frz (ns.map .int),.int k]=some (.ok (.int (fi ns k))):=(aCI rfl).trans vH
theorem oX(i:Int):oI [.int i]=some (.ok (.bl true)):=(VV rfl).trans BE
theorem yY(w h:Nat)(cell:Int)(hw:1≤w)(hh:1≤h)(hwh:1<w*h):∃(sd:Side) (over:Bool) (k:Nat),1≤k∧(k<if sd.up then w else h)∧LJ [.int cell,.int w,.int h]=some (.ok (eI sd over k)):=by
 obtain⟨sd,over,k,a,b,e⟩:=vB (G:=kn) (cell:=cell) hw hh hwh;exact⟨sd,over,k,a,b,(aCH rfl).trans e⟩
theorem VD(c r w h:Nat)(T:Table)(F C:List D)(sp:List Spot)(S:Sits T w h sp):∃kvs,xQ [aL c r w h T F C]=some (.ok (.dct kvs))∧∀(i:Nat) (s:Spot),sp[i]?=some s→cV kvs i=some (gH s):=by
 obtain⟨kvs,e,h⟩:=nD (G:=jn) (c:=c) (r:=r) (F:=F) (C:=C) (fv _ rfl) (fun c r w h T F S x y a b d=>by rw[JK];exact MX a b d) S
 exact⟨kvs,(VW rfl).trans e,h⟩
theorem VH(c r:Nat)(hc:1≤c)(bj:c*r≤64)(d7:c≤64):xV [.int c,.int r]=some (.ok (.lst ((a8 c (c*r) (c*r)).map br))):=(WB rfl).trans (nA hc bj d7)
theorem VF(c r w h:Nat)(T:Table)(F C:List D)(sp:List Spot)(S:Sits T w h sp)(hc:1≤c)(bj:c*r≤64)(d7:c≤64)(aT:sp.length=c*r):xT [aL c r w h T F C]=some (.ok (cm sp c r)):=by
 obtain⟨kvs,e,hk⟩:=VD c r w h T F C sp S;exact(VZ rfl).trans (nH (fv _ rfl) (by rw[II];exact e) hk (by rw[IJ];exact VH c r hc bj d7) bj aT)
theorem UY(c r w h:Nat)(T:Table)(F:List D)(sp:List Spot)(S:Sits T w h sp)(hc:1≤c)(bj:c*r≤64)(d7:c≤64)(aT:sp.length=c*r):xG [aL c r w h T F []]=some (.ok (cm sp c r)):=
 (VL rfl).trans (AA (fv _ rfl) (by rw[IH];exact VF c r w h T F [] sp S hc bj d7 aT))
theorem OY(T:Table)(sp:List Spot)(x y:Nat)(out:List D)(P:Nat→Spot→Prop)(Lk_:Lk T sp)(h64:sp.length≤64)(S:K06.Seats sp out P)(hP:∀i s,sp[i]?=some s→s.x=x→s.y=y→¬P i s):∃ae,xO (.lst out) [hE (aj T x y),.int x,.int y]=some (.bl true,.lst ae)∧K06.Seats sp ae (fun i s=>P i s∨(s.x=x∧s.y=y)):=by
 obtain⟨ae,e,S'⟩:=K06.LD (G:=jl) (fun i=>by rw[IG];exact oX i) Lk_ h64 S hP
 exact⟨ae,(VT rfl).trans e,S'⟩
theorem GU(c r:Nat)(fs:List Fold)(sp:List Spot)(S:Stg c r fs sp)(hc:c≤64):∃ds,xR [bD c r fs]=some (.ok (.lst ds))∧K06.Seats sp ds (fun _ _=>True):=by
 obtain⟨ds,e,S'⟩:=K06.BQ (G:=gk) (fv _ rfl) (fun i=>by rw[IF];exact oX i) (fun c r w h T F S x y R hx hy=>by rw[JJ];exact MX R hx hy) (fun T sp x y out P a b d e=>by rw[lK];exact OY T sp x y out P a b d e) (c:=c) (r:=r) (F:=fs.map Fold.d) (C:=[]) S.sits S.len hc
 exact⟨ds,(VX rfl).trans e,S'⟩
theorem OW(c r:Nat)(hc:1≤c)(hr:1≤r)(bj:c*r≤64)(d7:c≤64):xK [.int c,.int r]=some (.ok (.lst ((a8 c (c*r) (c*r)).map br))):=(VQ rfl).trans (K06.KA hc hr bj d7)
theorem BD(s:Spot)(d:D)(l:Bool)(h:K06.jF s d):sY [d,.bl l]=some (.ok (.int (if l then gF s else gP s))):=(VP rfl).trans (K06.KM h)
theorem OZ(s:Spot)(d:D)(l:Bool)(h:K06.jF s d):LO [d,.bl l]=some (.ok (.int (if l then K06.lin (!s.n) s.y else K06.lin (!s.e) s.x))):=(aCN rfl).trans (K06.MI h)
theorem OX(s t:Spot)(d e:D)(l:Bool)(hs:K06.jF s d)(ht:K06.jF t e)(m:K06.Meets s t l):xP [d,e,.bl l]=some (.ok (.bl true)):=(VU rfl).trans (K06.KJ (fun s d l h=>by rw[ID];exact BD s d l h) (fun s d l h=>by rw[QK];exact OZ s d l h) hs ht m)
theorem OV(a b ln:Int)(l:Bool):xN [.tup [.int a,.int b,.bl l,.int ln],.int a,.int b,.bl l,.int ln]=some (.ok (.bl true)):=(VS rfl).trans (K06.GX fun i=>by rw[IC];exact oX i)
theorem law_true(ns:List Int)(_:ns.length≤63):sX [.frz (ns.map .int)]=some (.ok (.bl true)):=by
 refine(MY rfl).trans (K06.SF (G:=cu) (fv _ rfl) (ns:=ns) (fun k=>by rw[QI];exact yZ ns k) (fun cell=>?_) (fun c r a b d=>by rw[HU];exact UX a b d) (fun w h cell a b d=>by rw[QH];exact yY w h cell a b d)
  (fun c r fs sp f S ok hl=>AH (fun c r w h T F sd over k a1 a2 a3 a4 a5 a6 a7=>by rw[HW];exact UZ c r w h T F sd over k a1 a2 a3 a4 a5 a6 a7) S ok hl)
  (fun c r fs sp S hc=>by rw[IB];exact GU c r fs sp S hc) (fun c r a b d e=>by rw[HY];exact OW c r a b d e)
  (fun c r fs sp hc bj d7 S=>by rw[HV];exact UY c r _ _ _ _ sp S.sits hc (mw bj (by decide)) d7 S.len)
  (fun s d l h=>by rw[HX];exact BD s d l h) (fun s t d e l a b m=>by rw[IA];exact OX s t d e l a b m) (fun a b ln l=>by rw[HZ];exact OV a b ln l))
 rw[QJ,aCM rfl];exact K18.rS
end Toy
namespace Toy
open PySem L2 Z
theorem fw{K:p6}{x q:Str}{st:Stmt}{f:Addr}{fd:p7}{ps:List Str}(F:Fun K x q st f fd)(l:ps.length=1)(h:∀(kV doc pm:Value) (an:Option Addr) (av ct a:Value),bindArgs (PySem.W.fnOf x q (eO st) (bE st) (aC st) .none kV doc pm an av ct) ⟨[a],[]⟩=pure (ps.zip [a])):Binds K fd ps []:=F.binds fun _ _ _ _ _ _ us hl=>by
 match us,hl.trans l with
 |[a],_=>exact h _ _ _ _ _ _ a
theorem ed{K:p6}{x q:Str}{st:Stmt}{f:Addr}{fd:p7}{ps:List Str}(F:Fun K x q st f fd)(l:ps.length=2)(h:∀(kV doc pm:Value) (an:Option Addr) (av ct a b:Value),bindArgs (PySem.W.fnOf x q (eO st) (bE st) (aC st) .none kV doc pm an av ct) ⟨[a,b],[]⟩=pure (ps.zip [a,b])):Binds K fd ps []:=F.binds fun _ _ _ _ _ _ us hl=>by
 match us,hl.trans l with
 |[a,b],_=>exact h _ _ _ _ _ _ a b
theorem k6{K:p6}{x q:Str}{st:Stmt}{f:Addr}{fd:p7}{ps:List Str}(F:Fun K x q st f fd)(l:ps.length=3)(h:∀(kV doc pm:Value) (an:Option Addr) (av ct a b c:Value),bindArgs (PySem.W.fnOf x q (eO st) (bE st) (aC st) .none kV doc pm an av ct) ⟨[a,b,c],[]⟩=pure (ps.zip [a,b,c])):Binds K fd ps []:=F.binds fun _ _ _ _ _ _ us hl=>by
 match us,hl.trans l with
 |[a,b,c],_=>exact h _ _ _ _ _ _ a b c
theorem bn4{K:p6}{x q:Str}{st:Stmt}{f:Addr}{fd:p7}{ps:List Str}(F:Fun K x q st f fd)(l:ps.length=4)(h:∀(kV doc pm:Value) (an:Option Addr) (av ct a b c d:Value),bindArgs (PySem.W.fnOf x q (eO st) (bE st) (aC st) .none kV doc pm an av ct) ⟨[a,b,c,d],[]⟩=pure (ps.zip [a,b,c,d])):Binds K fd ps []:=F.binds fun _ _ _ _ _ _ us hl=>by
 match us,hl.trans l with
 |[a,b,c,d],_=>exact h _ _ _ _ _ _ a b c d
theorem bn5{K:p6}{x q:Str}{st:Stmt}{f:Addr}{fd:p7}{ps:List Str}(F:Fun K x q st f fd)(l:ps.length=5)(h:∀(kV doc pm:Value) (an:Option Addr) (av ct a b c d e:Value),bindArgs (PySem.W.fnOf x q (eO st) (bE st) (aC st) .none kV doc pm an av ct) ⟨[a,b,c,d,e],[]⟩=pure (ps.zip [a,b,c,d,e])):Binds K fd ps []:=F.binds fun _ _ _ _ _ _ us hl=>by
 match us,hl.trans l with
 |[a,b,c,d,e],_=>exact h _ _ _ _ _ _ a b c d e
theorem bn6{K:p6}{x q:Str}{st:Stmt}{f:Addr}{fd:p7}{ps:List Str}(F:Fun K x q st f fd)(l:ps.length=6)(h:∀(kV doc pm:Value) (an:Option Addr) (av ct a b c d e f:Value),bindArgs (PySem.W.fnOf x q (eO st) (bE st) (aC st) .none kV doc pm an av ct) ⟨[a,b,c,d,e,f],[]⟩=pure (ps.zip [a,b,c,d,e,f])):Binds K fd ps []:=F.binds fun _ _ _ _ _ _ us hl=>by
 match us,hl.trans l with
 |[a,b,c,d,e,f],_=>exact h _ _ _ _ _ _ a b c d e f
theorem mF{K:p6}{n q:Str}{st:Stmt}{a:Addr}{fd:p7}{m:Str}{t c:Nat}(e:fd=dF n q st m t c)(h:K.lookup a=some (oF fd))(h2:codeIn K (.ref c) q=true)(h3:keepIn K (.ref a)=true):Fun K n q st a fd:=⟨⟨_,_,_,_,_,_,_,_,_,e,h,h2⟩,h3⟩
section
variable (P:Params)
theorem OB:Fun (KK P) "laid" "laid" (top 13) 125 qC:=mF rfl (by kernel_rfl) (by kernel_rfl) (by kernel_rfl)
theorem aBx:Binds (KK P) qC FQ []:=ed (OB P) rfl fun _ _ _ _ _ _ _ _=>rfl
theorem OG:Fun (KK P) "laid_row" "laid_row" (top 14) 130 qH:=mF rfl (by kernel_rfl) (by kernel_rfl) (by kernel_rfl)
theorem aBD:Binds (KK P) qH FV []:=ed (OG P) rfl fun _ _ _ _ _ _ _ _=>rfl
theorem OD:Fun (KK P) "folded" "folded" (top 15) 137 qF:=mF rfl (by kernel_rfl) (by kernel_rfl) (by kernel_rfl)
theorem aBA:Binds (KK P) qF FT []:=bn4 (OD P) rfl fun _ _ _ _ _ _ _ _ _ _=>rfl
theorem aCd:Fun (KK P) "refuse_severed" "refuse_severed" (top 16) 144 xE:=mF rfl (by kernel_rfl) (by kernel_rfl) (by kernel_rfl)
theorem aEk:Binds (KK P) xE UM []:=fw (aCd P) rfl fun _ _ _ _ _ _ _=>rfl
theorem OQ:Fun (KK P) "has_crease" "has_crease" (top 17) 151 qR:=mF rfl (by kernel_rfl) (by kernel_rfl) (by kernel_rfl)
theorem aBN:Binds (KK P) qR GF []:=k6 (OQ P) rfl fun _ _ _ _ _ _ _ _ _=>rfl
theorem aBZ:Fun (KK P) "folded_table" "folded_table" (top 18) 156 xA:=mF rfl (by kernel_rfl) (by kernel_rfl) (by kernel_rfl)
theorem aEg:Binds (KK P) xA UI []:=bn4 (aBZ P) rfl fun _ _ _ _ _ _ _ _ _ _=>rfl
theorem OS:Fun (KK P) "transposed" "transposed" (top 19) 161 qT:=mF rfl (by kernel_rfl) (by kernel_rfl) (by kernel_rfl)
theorem aBP:Binds (KK P) qT GH []:=fw (OS P) rfl fun _ _ _ _ _ _ _=>rfl
theorem OJ:Fun (KK P) "column_of" "column_of" (top 20) 166 qK:=mF rfl (by kernel_rfl) (by kernel_rfl) (by kernel_rfl)
theorem aBG:Binds (KK P) qK FY []:=ed (OJ P) rfl fun _ _ _ _ _ _ _ _=>rfl
theorem aBY:Fun (KK P) "folded_strip" "folded_strip" (top 21) 173 wZ:=mF rfl (by kernel_rfl) (by kernel_rfl) (by kernel_rfl)
theorem aEf:Binds (KK P) wZ UH []:=bn4 (aBY P) rfl fun _ _ _ _ _ _ _ _ _ _=>rfl
theorem aBV:Fun (KK P) "turned_part" "turned_part" (top 22) 178 wW:=mF rfl (by kernel_rfl) (by kernel_rfl) (by kernel_rfl)
theorem aEc:Binds (KK P) wW UE []:=ed (aBV P) rfl fun _ _ _ _ _ _ _ _=>rfl
theorem aBU:Fun (KK P) "turned_heap" "turned_heap" (top 23) 183 wV:=mF rfl (by kernel_rfl) (by kernel_rfl) (by kernel_rfl)
theorem aEb:Binds (KK P) wV UD []:=ed (aBU P) rfl fun _ _ _ _ _ _ _ _=>rfl
theorem aCa:Fun (KK P) "laid_together" "laid_together" (top 24) 188 xB:=mF rfl (by kernel_rfl) (by kernel_rfl) (by kernel_rfl)
theorem aEh:Binds (KK P) xB UJ []:=k6 (aCa P) rfl fun _ _ _ _ _ _ _ _ _=>rfl
theorem OE:Fun (KK P) "heap_at" "heap_at" (top 25) 195 qG:=mF rfl (by kernel_rfl) (by kernel_rfl) (by kernel_rfl)
theorem aBB:Binds (KK P) qG FU []:=ed (OE P) rfl fun _ _ _ _ _ _ _ _=>rfl
theorem OC:Fun (KK P) "joints" "joints" (top 27) 200 qE:=mF rfl (by kernel_rfl) (by kernel_rfl) (by kernel_rfl)
theorem aBz:Binds (KK P) qE FS []:=fw (OC P) rfl fun _ _ _ _ _ _ _=>rfl
theorem OR:Fun (KK P) "all_joints" "all_joints" (top 28) 207 qS:=mF rfl (by kernel_rfl) (by kernel_rfl) (by kernel_rfl)
theorem aBO:Binds (KK P) qS GG []:=fw (OR P) rfl fun _ _ _ _ _ _ _=>rfl
theorem OT:Fun (KK P) "neighbours" "neighbours" (top 29) 214 qU:=mF rfl (by kernel_rfl) (by kernel_rfl) (by kernel_rfl)
theorem aBQ:Binds (KK P) qU GI []:=ed (OT P) rfl fun _ _ _ _ _ _ _ _=>rfl
theorem OO:Fun (KK P) "edge_lines" "edge_lines" (top 30) 221 qP:=mF rfl (by kernel_rfl) (by kernel_rfl) (by kernel_rfl)
theorem aBL:Binds (KK P) qP GD []:=fw (OO P) rfl fun _ _ _ _ _ _ _=>rfl
theorem aBX:Fun (KK P) "_law_cell_at" "_law_cell_at" (top 32) 228 wY:=mF rfl (by kernel_rfl) (by kernel_rfl) (by kernel_rfl)
theorem aEe:Binds (KK P) wY UG []:=ed (aBX P) rfl fun _ _ _ _ _ _ _ _=>rfl
theorem ON:Fun (KK P) "_law_whole" "_law_whole" (top 33) 235 qO:=mF rfl (by kernel_rfl) (by kernel_rfl) (by kernel_rfl)
theorem aBK:Binds (KK P) qO GC []:=fw (ON P) rfl fun _ _ _ _ _ _ _=>rfl
theorem aCb:Fun (KK P) "_law_sheet_by" "_law_sheet_by" (top 34) 242 xC:=mF rfl (by kernel_rfl) (by kernel_rfl) (by kernel_rfl)
theorem aEi:Binds (KK P) xC UK []:=fw (aCb P) rfl fun _ _ _ _ _ _ _=>rfl
theorem aBW:Fun (KK P) "_law_fold_by" "_law_fold_by" (top 35) 249 wX:=mF rfl (by kernel_rfl) (by kernel_rfl) (by kernel_rfl)
theorem aEd:Binds (KK P) wX UF []:=k6 (aBW P) rfl fun _ _ _ _ _ _ _ _ _=>rfl
theorem OL:Fun (KK P) "_law_fill" "_law_fill" (top 36) 256 qM:=mF rfl (by kernel_rfl) (by kernel_rfl) (by kernel_rfl)
theorem aBI:Binds (KK P) qM GA []:=bn4 (OL P) rfl fun _ _ _ _ _ _ _ _ _ _=>rfl
theorem OP:Fun (KK P) "_law_seats" "_law_seats" (top 37) 261 qQ:=mF rfl (by kernel_rfl) (by kernel_rfl) (by kernel_rfl)
theorem aBM:Binds (KK P) qQ GE []:=fw (OP P) rfl fun _ _ _ _ _ _ _=>rfl
theorem OI:Fun (KK P) "_law_near" "_law_near" (top 38) 268 qJ:=mF rfl (by kernel_rfl) (by kernel_rfl) (by kernel_rfl)
theorem aBF:Binds (KK P) qJ FX []:=ed (OI P) rfl fun _ _ _ _ _ _ _ _=>rfl
theorem OH:Fun (KK P) "_law_line" "_law_line" (top 39) 275 qI:=mF rfl (by kernel_rfl) (by kernel_rfl) (by kernel_rfl)
theorem aBE:Binds (KK P) qI FW []:=ed (OH P) rfl fun _ _ _ _ _ _ _ _=>rfl
theorem aCc:Fun (KK P) "_law_back_line" "_law_back_line" (top 40) 282 xD:=mF rfl (by kernel_rfl) (by kernel_rfl) (by kernel_rfl)
theorem aEj:Binds (KK P) xD UL []:=ed (aCc P) rfl fun _ _ _ _ _ _ _ _=>rfl
theorem OM:Fun (KK P) "_law_meet" "_law_meet" (top 41) 289 qN:=mF rfl (by kernel_rfl) (by kernel_rfl) (by kernel_rfl)
theorem aBJ:Binds (KK P) qN GB []:=k6 (OM P) rfl fun _ _ _ _ _ _ _ _ _=>rfl
theorem OK:Fun (KK P) "_law_told" "_law_told" (top 42) 296 qL:=mF rfl (by kernel_rfl) (by kernel_rfl) (by kernel_rfl)
theorem aBH:Binds (KK P) qL FZ []:=bn5 (OK P) rfl fun _ _ _ _ _ _ _ _ _ _ _=>rfl
theorem OA:Fun (KK P) "law" "law" (top 43) 303 mH:=mF rfl (by kernel_rfl) (by kernel_rfl) (by kernel_rfl)
theorem aBw:Binds (KK P) mH oU []:=fw (OA P) rfl fun _ _ _ _ _ _ _=>rfl
theorem OF:Fun (KK P) "__init__" "Pile.__init__" (L2.inClass (top 12) 0) 99 vD:=mF rfl (by kernel_rfl) (by kernel_rfl) (by kernel_rfl)
theorem aBC:Binds (KK P) vD (["self","columns","rows","table","folds","severed"]:List Str) []:=bn6 (OF P) rfl fun _ _ _ _ _ _ _ _ _ _ _ _=>rfl
theorem GR:Fun (KK P) "heap" "Pile.heap" (L2.inClass (top 12) 1) 106 qD:=mF rfl (by kernel_rfl) (by kernel_rfl) (by kernel_rfl)
theorem aBy:Binds (KK P) qD FR []:=k6 (GR P) rfl fun _ _ _ _ _ _ _ _ _=>rfl
theorem aCg:Mt (KK P) 116 "heap" "Pile.heap" (L2.inClass (top 12) 1) FR 106 qD:=⟨GR P,⟨by kernel_rfl,by kernel_rfl,(GR P).kp⟩,aBy P⟩
theorem SR:Mk (KK P) 116 99:=⟨by kernel_rfl,by kernel_rfl,by kernel_rfl,by kernel_rfl⟩
theorem FH:Cls (KK P) 116:=⟨by kernel_rfl,by kernel_rfl,by kernel_rfl,by kernel_rfl⟩
theorem DK:∀f,(sW "Pile").contains f=true→dN (KK P) 116 f:=by
 intro f hf;have fq:f∈sW "Pile":=by simpa using hf
 rw[show sW "Pile" = (["columns","rows","wide","high","table","folds","severed"]:List Str) from if_pos rfl]at fq
 simp only[my,not_mem_nil,or_false]at fq
 rcases fq with rfl|rfl|rfl|rfl|rfl|rfl|rfl
 ·exact(by kernel_rfl:findIn (KK P) (.ref 116) "columns" = some none)
 ·exact(by kernel_rfl:findIn (KK P) (.ref 116) "rows" = some none)
 ·exact(by kernel_rfl:findIn (KK P) (.ref 116) "wide" = some none)
 ·exact(by kernel_rfl:findIn (KK P) (.ref 116) "high" = some none)
 ·exact(by kernel_rfl:findIn (KK P) (.ref 116) "table" = some none)
 ·exact(by kernel_rfl:findIn (KK P) (.ref 116) "folds" = some none)
 ·exact(by kernel_rfl:findIn (KK P) (.ref 116) "severed" = some none)
variable {P}{h:Heap}{mg:pj}(X:(KK P).In h)(G:h.Ns mainGlobals mg)
include X G
theorem aCf:Df (KK P) mg "laid" (top 13) FQ 125 qC:=⟨OB P,mg_of X G (by kernel_rfl),aBx P⟩
theorem aCk:Df (KK P) mg "laid_row" (top 14) FV 130 qH:=⟨OG P,mg_of X G (by kernel_rfl),aBD P⟩
theorem aCi:Df (KK P) mg "folded" (top 15) FT 137 qF:=⟨OD P,mg_of X G (by kernel_rfl),aBA P⟩
theorem aEz:Df (KK P) mg "refuse_severed" (top 16) UM 144 xE:=⟨aCd P,mg_of X G (by kernel_rfl),aEk P⟩
theorem aCu:Df (KK P) mg "has_crease" (top 17) GF 151 qR:=⟨OQ P,mg_of X G (by kernel_rfl),aBN P⟩
theorem aEv:Df (KK P) mg "folded_table" (top 18) UI 156 xA:=⟨aBZ P,mg_of X G (by kernel_rfl),aEg P⟩
theorem aCw:Df (KK P) mg "transposed" (top 19) GH 161 qT:=⟨OS P,mg_of X G (by kernel_rfl),aBP P⟩
theorem aCn:Df (KK P) mg "column_of" (top 20) FY 166 qK:=⟨OJ P,mg_of X G (by kernel_rfl),aBG P⟩
theorem aEu:Df (KK P) mg "folded_strip" (top 21) UH 173 wZ:=⟨aBY P,mg_of X G (by kernel_rfl),aEf P⟩
theorem aEr:Df (KK P) mg "turned_part" (top 22) UE 178 wW:=⟨aBV P,mg_of X G (by kernel_rfl),aEc P⟩
theorem aEq:Df (KK P) mg "turned_heap" (top 23) UD 183 wV:=⟨aBU P,mg_of X G (by kernel_rfl),aEb P⟩
theorem aEw:Df (KK P) mg "laid_together" (top 24) UJ 188 xB:=⟨aCa P,mg_of X G (by kernel_rfl),aEh P⟩
theorem aCj:Df (KK P) mg "heap_at" (top 25) FU 195 qG:=⟨OE P,mg_of X G (by kernel_rfl),aBB P⟩
theorem aCh:Df (KK P) mg "joints" (top 27) FS 200 qE:=⟨OC P,mg_of X G (by kernel_rfl),aBz P⟩
theorem aCv:Df (KK P) mg "all_joints" (top 28) GG 207 qS:=⟨OR P,mg_of X G (by kernel_rfl),aBO P⟩
theorem aCx:Df (KK P) mg "neighbours" (top 29) GI 214 qU:=⟨OT P,mg_of X G (by kernel_rfl),aBQ P⟩
theorem aCs:Df (KK P) mg "edge_lines" (top 30) GD 221 qP:=⟨OO P,mg_of X G (by kernel_rfl),aBL P⟩
theorem aEt:Df (KK P) mg "_law_cell_at" (top 32) UG 228 wY:=⟨aBX P,mg_of X G (by kernel_rfl),aEe P⟩
theorem aCr:Df (KK P) mg "_law_whole" (top 33) GC 235 qO:=⟨ON P,mg_of X G (by kernel_rfl),aBK P⟩
theorem aEx:Df (KK P) mg "_law_sheet_by" (top 34) UK 242 xC:=⟨aCb P,mg_of X G (by kernel_rfl),aEi P⟩
theorem aEs:Df (KK P) mg "_law_fold_by" (top 35) UF 249 wX:=⟨aBW P,mg_of X G (by kernel_rfl),aEd P⟩
theorem aCp:Df (KK P) mg "_law_fill" (top 36) GA 256 qM:=⟨OL P,mg_of X G (by kernel_rfl),aBI P⟩
theorem aCt:Df (KK P) mg "_law_seats" (top 37) GE 261 qQ:=⟨OP P,mg_of X G (by kernel_rfl),aBM P⟩
theorem aCm:Df (KK P) mg "_law_near" (top 38) FX 268 qJ:=⟨OI P,mg_of X G (by kernel_rfl),aBF P⟩
theorem aCl:Df (KK P) mg "_law_line" (top 39) FW 275 qI:=⟨OH P,mg_of X G (by kernel_rfl),aBE P⟩
theorem aEy:Df (KK P) mg "_law_back_line" (top 40) UL 282 xD:=⟨aCc P,mg_of X G (by kernel_rfl),aEj P⟩
theorem aCq:Df (KK P) mg "_law_meet" (top 41) GB 289 qN:=⟨OM P,mg_of X G (by kernel_rfl),aBJ P⟩
theorem aCo:Df (KK P) mg "_law_told" (top 42) FZ 296 qL:=⟨OK P,mg_of X G (by kernel_rfl),aBH P⟩
theorem OU:Df (KK P) mg "law" (top 43) oU 303 mH:=⟨OA P,mg_of X G (by kernel_rfl),aBw P⟩
theorem aDW:∀x,eQ.contains x=true→mg x=none:=by
 intro x hx;have d0:x∈eQ:=by simpa using hx
 simp only[eQ,my,not_mem_nil,or_false]at d0
 rcases d0 with rfl|rfl|rfl|rfl|rfl|rfl|rfl|rfl|rfl|rfl|rfl|rfl|rfl|rfl|rfl
 ·exact mg_none_of X G (by kernel_rfl)
 ·exact mg_none_of X G (by kernel_rfl)
 ·exact mg_none_of X G (by kernel_rfl)
 ·exact mg_none_of X G (by kernel_rfl)
 ·exact mg_none_of X G (by kernel_rfl)
 ·exact mg_none_of X G (by kernel_rfl)
 ·exact mg_none_of X G (by kernel_rfl)
 ·exact mg_none_of X G (by kernel_rfl)
 ·exact mg_none_of X G (by kernel_rfl)
 ·exact mg_none_of X G (by kernel_rfl)
 ·exact mg_none_of X G (by kernel_rfl)
 ·exact mg_none_of X G (by kernel_rfl)
 ·exact mg_none_of X G (by kernel_rfl)
 ·exact mg_none_of X G (by kernel_rfl)
 ·exact mg_none_of X G (by kernel_rfl)
theorem aBe{T:Tx}:∀x d,csts.lookup x=some d→tV (KK P) T mg x d:=by
 intro x d hx;have d0:(x,d)∈csts:=ny hx
 simp only[csts,my,not_mem_nil,or_false,Prod.mk.injEq]at d0
 rcases d0 with ⟨rfl,rfl⟩|⟨rfl,rfl⟩|⟨rfl,rfl⟩|⟨rfl,rfl⟩
 ·exact MF (mg_of X G (by kernel_rfl:nsIn (KK P) mainGlobals "MOST_CELLS" = some (some (.int 64 280))))
 ·have u:(KK P).lookup 83=some ⟨(.type "tuple"),none,(.seq #[(.str "west" 282),(.str "east" 283)] 0),#[]⟩:=by kernel_rfl
  exact rA (xs:=[.str "west",.str "east"]) (mg_of X G (by kernel_rfl:nsIn (KK P) mainGlobals "UPRIGHT_SIDES" = some (some (.ref 83)))) (fun H=>.inr ⟨_,_,_,u,rfl,rfl,by show 2≤sizeLine;rw[sizeLine_eq];decide,.cons ⟨_,rfl⟩ (.cons ⟨_,rfl⟩ .nil)⟩) ⟨_,u⟩ fun H S=>aD.cons (by exact rfl) (aD.cons (by exact rfl) aD.nil)
 ·have u:(KK P).lookup 84=some ⟨(.type "tuple"),none,(.seq #[(.str "north" 285),(.str "south" 286)] 0),#[]⟩:=by kernel_rfl
  exact rA (xs:=[.str "north",.str "south"]) (mg_of X G (by kernel_rfl:nsIn (KK P) mainGlobals "LEVEL_SIDES" = some (some (.ref 84)))) (fun H=>.inr ⟨_,_,_,u,rfl,rfl,by show 2≤sizeLine;rw[sizeLine_eq];decide,.cons ⟨_,rfl⟩ (.cons ⟨_,rfl⟩ .nil)⟩) ⟨_,u⟩ fun H S=>aD.cons (by exact rfl) (aD.cons (by exact rfl) aD.nil)
 ·have u:(KK P).lookup 85=some ⟨(.type "tuple"),none,(.seq #[(.str "west" 288),(.str "north" 289)] 0),#[]⟩:=by kernel_rfl
  exact rA (xs:=[.str "west",.str "north"]) (mg_of X G (by kernel_rfl:nsIn (KK P) mainGlobals "NEAR_SIDES" = some (some (.ref 85)))) (fun H=>.inr ⟨_,_,_,u,rfl,rfl,by show 2≤sizeLine;rw[sizeLine_eq];decide,.cons ⟨_,rfl⟩ (.cons ⟨_,rfl⟩ .nil)⟩) ⟨_,u⟩ fun H S=>aD.cons (by exact rfl) (aD.cons (by exact rfl) aD.nil)
end
def rR(K:p6):Sp:=fun vs H Q _=>∃(a:Addr) (ns:List Int),vs=[.ref a]∧SqL K H a (ns.map V.int)∧ns.length≤63∧∀H',Q (.bl true) H'
theorem nQ{K:p6}{T:Tx}{H:Hp}{S:Addr→Prop}:∀ns:List Int,aD K T H S (ns.map D.int) (ns.map V.int)
 |[]=>aD.nil
 |n::ns=>aD.cons (by exact rfl) (nQ ns)
theorem SG{P:p8}{w:World}{K:p6}{mg:pj}{base:Heap}{T:Tx}{k:Nat}{f:Addr}{fd:p7}{fr:Bool}(F:FnOk P w K mg base (cQ P w) k f fd oU (eg K T 1 sX fr))(hk:k≤60):FnOk P w K mg base i7 60 f fd ["script"] (rR K):=by
 have key:∀vs H Q E,rR K vs H Q E→eg K T 1 sX fr vs H Q E0:=by
  rintro vs H Q E ⟨a,ns,rfl,hS,hl,q⟩;refine⟨rfl,fun _=>False,[.frz (ns.map D.int)],fun _ z=>z.elim,aD.cons (show Exists _ from⟨a,ns.map V.int,rfl,fun z=>z,hS,nQ ns⟩) aD.nil,.inl ⟨.bl true,law_true ns hl,fun v H' sm r _=>?_⟩⟩
  obtain rfl:=r;exact q H'
 refine⟨fun vs H Q E hs=>F.len _ _ _ _ (key vs H Q E hs),fun A outer s H args us vs Q E hr e0 hb hv hs=>?_⟩
 refine codeAny_mono (F.run A outer s H args us vs Q E0 (hr.mono hk) e0 hb hv (key vs H Q E hs)) fun r s' hq=>?_
 cases r with
 |error e=>exact(NU _ _ _ _ _ hq).elim
 |ok fl=>cases fl<;>exact hq
noncomputable def cs(y:Str):Addr:=0
section
variable {P:Params}
variable {h:Heap}{mg:pj}(X:(KK P).In h)(G:h.Ns mainGlobals mg)
include X G
end
set_option maxHeartbeats 0 in
theorem all_mk{l:PySem.W.OpenLaw}{w:World}{h:Heap}{mg:pj}{fa:Addr}(X:(KK w.params).In h)(G:h.Ns mainGlobals mg)(hfa:mg "law" = some (.ref fa)) :
  ∃fd:p7,(∀(s:Shared) (v:Value),BindsTo s fd ⟨[v],[]⟩ [("script",v)])∧∀base:Heap,(KK w.params).In base→base.Ns mainGlobals mg→FnOk l.prog w (KK w.params) mg base i7 60 fa fd ["script"] (rR (KK w.params)):=by
 have e:=hfa.symm.trans (OU X G).at_
 cases e;refine⟨mH,fun s v=>.of_eq rfl,fun base _ _=>?_⟩
 have m:=mk1 (mk0 (P:=l.prog) (w:=w) (base:=base) (cs:=cs) (aBe X G) (FH _) (DK _) (aDW X G) (fun k hk=>absurd hk (by unfold dw;simp)) (fun k hk=>absurd hk (by unfold dw;simp)) (fun k _ hk=>absurd hk (by unfold dw;simp)) aCE) (mg_of X G (by kernel_rfl)) (SR _) (aBC _) (OF _) (FH _) (DK _)
 replace m:MO _ _ _ _ _ _ _ m2 g2 4:=mkM aBj WT ZY YC m (aCg _);replace m:MO _ _ _ _ _ _ _ m3 g3 5:=bg WY aAc YG m (aCk X G);replace m:MO _ _ _ _ _ _ _ m4 g4 6:=bg WS ZX YB m (aCf X G);replace m:MO _ _ _ _ _ _ _ m5 g5 7:=bg WW aAb YF m (aCj X G);replace m:MO _ _ _ _ _ _ _ m6 g6 8:=bg aDe aDJ aDr m (aEw X G);replace m:MO _ _ _ _ _ _ _ m7 g7 9:=bg aCY aDD aDl m (aEq X G);replace m:MO _ _ _ _ _ _ _ m8 g8 10:=bg aCZ aDE aDm m (aEr X G);replace m:MO _ _ _ _ _ _ _ m9 g9 11:=bg aDc aDH aDp m (aEu X G);replace m:MO _ _ _ _ _ _ _ m10 kq 12:=bg XB aAf YJ m (aCn X G);replace m:MO _ _ _ _ _ _ _ m11 jo 13:=bg XN aAo YT m (aCw X G);replace m:MO _ _ _ _ _ _ _ m12 g12 14:=bg aDd aDI aDq m (aEv X G);replace m:MO _ _ _ _ _ _ _ m13 g13 15:=bg XJ aAm YR m (aCu X G);replace m:MO _ _ _ _ _ _ _ m14 i4 16:=bg aDh aDM aDu m (aEz X G);replace m:MO _ _ _ _ _ _ _ m15 jn 17:=bg WV aAa YE m (aCi X G);replace m:MO _ _ _ _ _ _ _ m16 g16 18:=bg XH aAk YO m (aCs X G);replace m:MO _ _ _ _ _ _ _ m17 jm 19:=bg XO aAp YU m (aCx X G);replace m:MO _ _ _ _ _ _ _ m18 ko 20:=bg XM aAn YS m (aCv X G);replace m:MO _ _ _ _ _ _ _ m19 g19 21:=bg WU ZZ YD m (aCh X G);replace m:MO _ _ _ _ _ _ _ m20 g20 22:=bg aDb aDG aDo m (aEt X G);replace m:MO _ _ _ _ _ _ _ m21 g21 23:=bg XG aAj YN m (aCr X G);replace m:MO _ _ _ _ _ _ _ m22 kn 24:=bg aDf aDK aDs m (aEx X G);replace m:MO _ _ _ _ _ _ _ m23 jl 25:=bg aDa aDF aDn m (aEs X G);replace m:MO _ _ _ _ _ _ _ m24 gk 26:=mkA XE aAh YL m (aCp X G);replace m:MO _ _ _ _ _ _ _ m25 g25 27:=bg XI aAl YQ m (aCt X G);replace m:MO _ _ _ _ _ _ _ m26 g26 28:=bg XA aAe YI m (aCm X G);replace m:MO _ _ _ _ _ _ _ m27 g27 29:=bg WZ aAd YH m (aCl X G);replace m:MO _ _ _ _ _ _ _ m28 jk 30:=bg aDg aDL aDt m (aEy X G);replace m:MO _ _ _ _ _ _ _ m29 km 31:=bg XF aAi YM m (aCq X G);replace m:MO _ _ _ _ _ _ _ j5 cu 32:=bg XD aAg YK m (aCo X G);exact SG (SE m (OU X G)) (by decide)
theorem walk{l:PySem.W.OpenLaw}{q:p8}{loose:List Str}{XP:(pj)→Heap→Prop}{YP:World→Heap→Prop}{d:DefRec}{K:Params→p6}(hn:l.most=some 63)(kj:d.params.defaults=[])
  (hY:∀(w:World) (h:Heap),YP w h→(K w.params).In h)
  (F:∀(w:World) (mg:pj) (fa:Addr) (h:Heap),(K w.params).In h→h.Ns mainGlobals mg→mg d.name=some (.ref fa) →
   ∃fd:p7,(∀(s:Shared) (u:Value),BindsTo s fd ⟨[u],[]⟩ [("script",u)])∧∀base:Heap,(K w.params).In base→base.Ns mainGlobals mg→FnOk l.prog w (K w.params) mg base i7 60 fa fd ["script"] (rR (K w.params))) :
  PySem.W.WalkO q loose XP YP l.row.toRowW d [] (fun f vs=>PySem.call f vs):=
 L2.GV (n:=63) (k:=60) (x:="script") (CX:=fun _=>i7) (sp:=fun w=>rR (K w.params)) hn (by decide) kj ⟨rfl,by decide,by decide⟩ hY F (fun _ _ a ns hl _ hS=>⟨a,ns,rfl,hS,hl,fun _=>rfl⟩) fun _ _ _ _ _ z=>z
end Toy
open PySem PySem.W PyProof.Rows
set_option maxRecDepth 100000 in
set_option maxHeartbeats 0 in
theorem PySem.Challenge.cw_leaffold_k06_whole_joined_holds : PySem.Challenge.rw_leaffold_k06_whole_joined.Holds := by
 w_on;o_law
 refine holds_open (q:=Toy.vw) (loose:=[]) (Xt:=Toy.Xt) (XP:=XL Toy.vw []) (Yf:=Hook.obs Toy.HH) (Ya:=Hook.val Toy.HH) (YP:=Hook.says Toy.HH) (N:=4766) Toy.left (Hook.of Toy.HH) (Hook.keeps Toy.HH) (fun s e=>xl_of s (Bool.and_eq_true_iff.mp e).1) XL.keeps (by rfl) (by rfl) (by rfl) (fun s e=>recFacts_of (Bool.and_eq_true_iff.mp e).2) (by rfl) (by first|assumption|decide +kernel) (by decide +kernel) ⟨rfl,rfl,rfl,rfl,rfl,by decide +kernel⟩ ?hw ?hc
 case hw=>w_witness2
 case hc=>exact Toy.walk (l:=Toy.lw) (K:=Toy.KK) rfl rfl (fun w h Y=>PySem.W.kIn_of Y) fun w mg fa h KX G ka=>Toy.all_mk KX G ka
