import PyProof.Rows.All
import Imp.Common
import KE.KIsAll
import KE.KItem
import KE.KRevIter
import ObjForm.Claim3
import Open.Boot
import Open.Claim
import Open.FastRun
import Open.Head
import Open.Line
import Open.Row
import OpenK.KCall
import OpenK.KCls
import OpenK.KDescr
import OpenK.KFacts
import OpenK.KGet
import OpenK.KLine
import OpenK.KMake
import OpenK.KMore
import OpenK.KOwn
import OpenK.KRaise
import OpenK.KWalk
import OpenK.Peek
import PyProof.AssignAttr
import PyProof.AutoSeq1
import PyProof.Boot
import PyProof.BuiltinFast
import PyProof.ByEvalTree
import PyProof.CallRoads
import PyProof.Calls
import PyProof.Calm
import PyProof.Cells
import PyProof.Claim2
import PyProof.CodeObj
import PyProof.CollectWalk
import PyProof.Comp
import PyProof.CompFree
import PyProof.CompI
import PyProof.CompMap
import PyProof.CompUse
import PyProof.Conv_int
import PyProof.Conv_int_bool
import PyProof.DefCall
import PyProof.Defs
import PyProof.Dict
import PyProof.DictKeyH
import PyProof.DictKind
import PyProof.DictKinds
import PyProof.DictList
import PyProof.DictRoads
import PyProof.DictRoadsH
import PyProof.DictStraight
import PyProof.DictTruth
import PyProof.Ends
import PyProof.EnumFor
import PyProof.EnumIter
import PyProof.EnumMake
import PyProof.EnumStmt
import PyProof.EqAt
import PyProof.EqKinds
import PyProof.EvalArms
import PyProof.ExcArgs
import PyProof.ExcArgsOwn
import PyProof.ExcAttrAll.ValueError
import PyProof.ExcBaseAll.ValueError
import PyProof.ExcClass
import PyProof.ExcClass2
import PyProof.FactsAll.dict_0
import PyProof.FactsAll.dict_1
import PyProof.FactsAll.dict_3
import PyProof.FactsAll.list_0
import PyProof.FactsAll.list_2
import PyProof.FactsAll.list_3
import PyProof.FactsAll.list_4
import PyProof.FactsAll.tuple_1
import PyProof.FactsIdx
import PyProof.Fits
import PyProof.FitsBits
import PyProof.FnAt
import PyProof.ForAny
import PyProof.ForAppend
import PyProof.Heap
import PyProof.Laws
import PyProof.Lay0
import PyProof.LayNew
import PyProof.LetGo
import PyProof.ListCopy
import PyProof.ListIndex
import PyProof.ListIndexNeg
import PyProof.ListNew
import PyProof.ListOps
import PyProof.ListRange
import PyProof.ListTruth
import PyProof.Logic
import PyProof.LookupFast
import PyProof.Meets
import PyProof.MeetsDict
import PyProof.MeetsIn
import PyProof.MeetsSeq
import PyProof.Methods
import PyProof.MinMaxWalk
import PyProof.NeData
import PyProof.NoPylong
import PyProof.Ns1
import PyProof.NsCount
import PyProof.NsMap
import PyProof.OldK
import PyProof.Ops
import PyProof.P3Eq
import PyProof.P3In
import PyProof.P3Statements
import PyProof.PassesOwn
import PyProof.PlainAttrs
import PyProof.PureInt
import PyProof.Raises
import PyProof.RaisesMany
import PyProof.RangeFor
import PyProof.RangeIter
import PyProof.Rows.AttrNodeAny
import PyProof.Rows.BoolArith
import PyProof.Rows.CellsFrame
import PyProof.Rows.Chain
import PyProof.Rows.EqMixed
import PyProof.Rows.EqNone
import PyProof.Rows.Exc
import PyProof.Rows.FactsSeq_str
import PyProof.Rows.FactsT2
import PyProof.Rows.FactsTup
import PyProof.Rows.Globals
import PyProof.Rows.IntRules
import PyProof.Rows.Nodes
import PyProof.Rows.OwnEval
import PyProof.Rows.RowBridgeG
import PyProof.Rows.RuleB_floordiv
import PyProof.Rows.RuleB_mod
import PyProof.Rows.RuleB_mul
import PyProof.Rows.RuleB_small
import PyProof.Rows.RuleC_bool
import PyProof.Rows.RuleC_int
import PyProof.Rows.RuleIs
import PyProof.Rows.RuleU_int
import PyProof.Rows.SeqItemCall
import PyProof.Rows.SeqJoint
import PyProof.Rows.SeqMore
import PyProof.Rows.SeqRange
import PyProof.Rows.StrRules
import PyProof.Rows.StrTemp
import PyProof.Rows.Top
import PyProof.Rows.TopObj
import PyProof.Rows.Tup
import PyProof.Rows.TupIn
import PyProof.Rows.TupIter
import PyProof.Rows.TupMore
import PyProof.Rows.TupReads
import PyProof.Rows.TupSub
import PyProof.Rules
import PyProof.Rules2
import PyProof.RulesAssignMore
import PyProof.RulesDelMore
import PyProof.Runs
import PyProof.Seq
import PyProof.SeqI2
import PyProof.SeqI3
import PyProof.SeqRoads
import PyProof.SeqWrite
import PyProof.SetKind
import PyProof.SliceList
import PyProof.SliceSyntax
import PyProof.Slots
import PyProof.Start
import PyProof.StationsW
import PyProof.Straight
import PyProof.Truth
import PyProof.TupleCall
import PyProof.TupleIter
import PyProof.TupleKey
import PyProof.TupleOfSeq
import PyProof.TupleOps
import PyProof.WalkInts
import PyProof.WalkLemmas
import PyProof.Walks
import PyProof.WalksMore
import PyProof.WalksS
import PySem.Aliases
import PySem.Bind
import PySem.Builtin.Dict.W0All
import PySem.Builtin.Getset_descriptor.Common
import PySem.Builtin.Getset_descriptor.W1All
import PySem.Builtin.IntDigits
import PySem.Builtin.List.Common
import PySem.Builtin.List.W0All
import PySem.Builtin.List.W1All
import PySem.Builtin.Object
import PySem.Builtin.Range.Common
import PySem.Builtin.Slice.Common
import PySem.Builtin.Tuple.Common
import PySem.Builtin.Tuple.W0All
import PySem.BuiltinTypes
import PySem.CRoom
import PySem.Call
import PySem.Challenge.RW_leaffold_k07_whole_no_layer_through
import PySem.Claim
import PySem.DictOps
import PySem.Entry
import PySem.Eval
import PySem.Interp
import PySem.Machine
import PySem.Manifest
import PySem.ManifestKinds
import PySem.Names
import PySem.Object
import PySem.Operators
import PySem.Os
import PySem.PyData
import PySem.Sem
import PySem.SetOps
import PySem.SetTable
import PySem.Signatures
import PySem.Str
import PySem.Syntax
import PySem.TablesWhole
import PySem.ThirdPartyMarks
import PySem.Value
import Wide.BridgeG
import Wide.BytesRules
import Wide.Claim
import Wide.Data
import Wide.Ends
import Wide.Head
import Wide.Lay
import Wide.Line
import Wide.Loose
import Wide.ObjOpen
import Wide.OneHead
import Wide.Pins
import Wide.Reads
import Wide.Row
import Wide.Tac
import Wide.Tm
import Wide.Vals
import Wide.Well
noncomputable section
set_option linter.all false
set_option maxRecDepth 100000
set_option maxHeartbeats 4000000
set_option Elab.async false
set_option genSizeOf false
set_option bootstrap.genMatcherCode false
set_option compiler.extract_closed false
open Array (length_toList)
open Bool (or_eq_true)
open Int (toNat_natCast)
open List (all_cons all_eq_true any_cons find?_cons getElem?_replicate getElem_of_mem lookup_cons map_drop mem_filterMap mem_reverse nodup_cons reverse_cons)
open Nat (div_add_mod le_succ_of_le min_eq_left mul_comm mul_le_mul not_lt not_lt_zero)
open Prod (fst)
open PySem.F (args_tuple_add_2 entry_tuple_add plainAttrs_list slot_dict_get slot_tuple_add)
open PySem.Heap (size_push)
open PySem.W (callWith_K callWith_K0 codeIn emptyDict excIn findIn handedIn hasDictIn hideAll instObj isFn keepIn kia_one kitOne kitx_dict kitx_list lookIn makesIn methodObj mg_none_of mg_of mroIn nsIn plainGet plainGet_of plainOver specialIn takerIn takesIn)
abbrev o5:=@List.getElem?_eq_some_iff
abbrev o6:=@List.getD_eq_getElem?_getD
abbrev o7:=@Option.some.injEq
abbrev o8:=@List.mem_of_getElem?
abbrev o9:=@Option.bind_eq_some_iff
abbrev oa:=@List.getElem?_eq_getElem
abbrev oe:=@List.getElem?_map
abbrev og:=@List.length_map
abbrev oh:=@Nat.le_refl
abbrev oi:=@Option.bind_eq_bind
abbrev oj:=@decide_eq_false
abbrev om:=@PySem.Heap.get?_push_of_some
abbrev oo:=@Bool.false_eq_true
abbrev oq:=@List.mem_cons_of_mem
abbrev ot:=@List.size_toArray
abbrev ow:=@Bool.and_eq_true
abbrev ox:=@Option.some.inj
abbrev oy:=@Option.map_eq_some_iff
abbrev oz:=@Nat.lt_of_lt_of_le
abbrev oN:=@Bool.false_ne_true
abbrev p4:=@decide_eq_true_eq
abbrev p5:=@List.length_range
abbrev p6:=@List.getElem?_set_self
abbrev p7:=@List.getElem?_set_ne
abbrev p8:=@PySem.Heap.lt_size
abbrev p9:=@Nat.le_trans
abbrev ph:=@List.mem_singleton
abbrev pj:=@List.mem_cons
abbrev pk:=@PyProof.Rows.callWith_type1
abbrev pq:=@Nat.zero_add
abbrev pv:=@List.length_append
abbrev pD:=@Bool.not_true
abbrev q9:=@List.append_nil
abbrev qa:=@List.length_eq_zero_iff
abbrev qb:=@List.map_cons
abbrev qc:=@decide_eq_true
abbrev qd:=@beq_iff_eq
abbrev qe:=@List.mem_map
abbrev qf:=@PySem.mem_of_lookup
abbrev qg:=@beq_eq_false_iff_ne
abbrev qh:=@Nat.ne_of_lt
abbrev qi:=@List.length_take
abbrev qj:=@List.mem_append_right
abbrev qk:=@List.mem_append_left
abbrev ql:=@Nat.lt_irrefl
abbrev qm:=@PySem.wpAny_bind
abbrev qo:=@PySem.wpAny_pure
abbrev qp:=@PySem.wpAny_mono
abbrev qr:=@PySem.Heap.get?_push_size
abbrev qt:=@Option.map_some
abbrev qu:=@Option.bind_some
abbrev qv:=@Nat.le_succ
abbrev qw:=@List.mem_cons_self
abbrev qx:=@List.getElem?_range
abbrev qy:=@List.length_cons
abbrev qz:=@List.map_append
abbrev r8:=@List.take_add_one
abbrev rg:=@List.not_mem_nil
abbrev rh:=@List.map_map
abbrev rj:=@List.getElem?_append_left
abbrev rn:=@List.getElem?_append_right
abbrev rq:=@List.mem_range
abbrev rz:=@Nat.zero_le
abbrev se:=@List.length_reverse
abbrev sf:=@List.take_length
abbrev sg:=@List.length_drop
abbrev sh:=@List.getElem_mem
abbrev sj:=@List.pairwise_append
abbrev sk:=@List.mem_append
abbrev so:=PySem.W.Frag
abbrev sq:=PySem.FuncData
abbrev sr:=PySem.Program
abbrev su:=PySem.Value→PySem.Shared→Prop
abbrev sv:=List (PySem.Addr×PySem.Obj)
abbrev t5:=PySem.Str→Option PySem.Value
namespace L2
open PySem PySem.Spec PyProof.Rows
abbrev Key:=Sum Int Str
noncomputable def rY:Key→Value→Bool
 |.inl k,v=>Value.isInt k v
 |.inr x,v=>Value.isStrOf x v
noncomputable def aLf(w:World):Key→Int
 |.inl k=>hashInt k
 |.inr x=>hashStr w x
theorem bS:∀{k:Key} {v:Value},rY k v=true→(∃i t,k=Sum.inl i∧v=Value.int i t)∨(∃x t,k=Sum.inr x∧v=Value.str x t)
 |.inl i,v,h=>by
  obtain⟨t,e⟩:=Value.isInt_shape (k:=i) (v:=v) h;exact .inl ⟨i,t,rfl,e⟩
 |.inr x,v,h=>by
  obtain⟨t,e⟩:=Value.isStrOf_shape (x:=x) (v:=v) h;exact .inr ⟨x,t,rfl,e⟩
theorem IC(i:Int)(t:Tok):rY (.inl i) (.int i t)=true:=by simp[rY,Value.isInt]
theorem IB(x:Str)(t:Tok):rY (.inr x) (.str x t)=true:=by simp[rY,Value.isStrOf]
theorem aCy(a b:Int):decide ((Sum.inl a:Key)=Sum.inl b)=(a == b):=by
 by_cases e:a=b
 ·subst e;simp
 ·have h:¬(Sum.inl a:Key)=Sum.inl b:=fun q=>e (Sum.inl.inj q)
  rw[oj h];exact(qg.mpr e).symm
theorem aCv(a b:Str):decide ((Sum.inr a:Key)=Sum.inr b)=decide (a=b):=by
 by_cases e:a=b
 ·subst e;simp
 ·have h:¬(Sum.inr a:Key)=Sum.inr b:=fun q=>e (Sum.inr.inj q)
  rw[oj h,oj e]
theorem aCx(a:Int)(b:Str):decide ((Sum.inl a:Key)=Sum.inr b)=false:=oj (fun q=>nomatch q)
theorem aCw(a:Str)(b:Int):decide ((Sum.inr a:Key)=Sum.inl b)=false:=oj (fun q=>nomatch q)
noncomputable def bK(prog:sr)(w:World):PySem.KeyKind prog w Key where
 is:=rY
 hash:=aLf w
 inj:=fun v a b ha hb=>by
  rcases bS ha with ⟨i,t,rfl,rfl⟩|⟨x,t,rfl,rfl⟩
  ·rcases bS hb with ⟨j,u,rfl,e⟩|⟨y,u,rfl,e⟩
   ·injection e with e1 _;rw[e1]
   ·exact nomatch e
  ·rcases bS hb with ⟨j,u,rfl,e⟩|⟨y,u,rfl,e⟩
   ·exact nomatch e
   ·injection e with e1 _;rw[e1]
 byValue:=fun k v h=>by
  rcases bS h with ⟨i,t,rfl,rfl⟩|⟨x,t,rfl,rfl⟩<;>rfl
 pyHash:=fun hv h=>by
  rcases bS hv with ⟨i,t,rfl,rfl⟩|⟨x,t,rfl,rfl⟩
  ·exact wpAny_pyHash_int h
  ·exact wpAny_pyHash_str h
 eqBool:=fun hu hv h=>by
  rcases bS hu with ⟨i,t,rfl,rfl⟩|⟨x,t,rfl,rfl⟩
  ·rcases bS hv with ⟨j,u,rfl,rfl⟩|⟨y,u,rfl,rfl⟩
   ·rw[aCy]at h;exact wpAny_eqBool_int h
   ·rw[aCx]at h;exact SeqAt.EqAt.int_str i t y u _ _ _ _ h
  ·rcases bS hv with ⟨j,u,rfl,rfl⟩|⟨y,u,rfl,rfl⟩
   ·rw[aCw]at h;exact SeqAt.EqAt.str_int x t j u _ _ _ _ h
   ·rw[aCv]at h;exact wpAny_eqBool_str h
 «strs»:=fun k x t v h=>by
  rcases bS h with ⟨i,u,rfl,e⟩|⟨y,u,rfl,e⟩
  ·exact nomatch e
  ·injection e with e1 _
   subst e1;cases v<;>rfl
theorem xV(prog:sr)(w:World)(i:Int)(t:Tok):(bK prog w).is (.inl i) (.int i t)=true:=IC i t
theorem jA(prog:sr)(w:World)(x:Str)(t:Tok):(bK prog w).is (.inr x) (.str x t)=true:=IB x t
inductive V where
 |non|bl (b:Bool)|int (i:Int)|str (x:Str)|byt (b:Array UInt8)|flt (b:UInt64)|ref (a:Addr)|ty (n:String)
 deriving DecidableEq
noncomputable def RelV:V→Value→Prop
 |.non,u=>u=Value.none
 |.bl b,u=>u=Value.bool b
 |.int i,u=>∃t,u=Value.int i t
 |.str x,u=>∃t,u=Value.str x t
 |.byt b,u=>∃t,u=Value.bytes b t
 |.flt b,u=>∃t,u=Value.float b t
 |.ref a,u=>u=Value.ref a
 |.ty n,u=>u=Value.type n
abbrev aR:List V→List Value→Prop:=Paired RelV
theorem aR.length{xs:List V}{us:List Value}(r:aR xs us):xs.length=us.length:=Paired.length r
theorem aR.get:∀{xs:List V} {us:List Value} {i:Nat} {x:V},aR xs us→xs[i]?=some x→∃u,us[i]?=some u∧RelV x u
 |_,_,_,_,.nil,e=>by simp at e
 |_,_,0,_,.cons r _,e=>by simp at e;subst e;exact⟨_,rfl,r⟩
 |_,_,i+1,x,.cons _ t,e=>by
  obtain⟨u,h1,h2⟩:=aR.get (i:=i) (x:=x) t (by simpa using e)
  exact⟨u,by simpa using h1,h2⟩
theorem aR.set{x:V}{u:Value}(r:RelV x u):∀{xs:List V} {us:List Value} (i:Nat),aR xs us→aR (xs.set i x) (us.set i u)
 |_,_,_,.nil=>.nil
 |_,_,0,.cons _ t=>.cons r t
 |_,_,i+1,.cons q t=>.cons q (aR.set r i t)
theorem aR.append:∀{xs ys:List V} {us ws:List Value},aR xs us→aR ys ws→aR (xs++ys) (us++ws)
 |_,_,_,_,.nil,s=>s
 |_,_,_,_,.cons r t,s=>.cons r (aR.append t s)
theorem aR.take:∀{xs:List V} {us:List Value} (n:Nat),aR xs us→aR (xs.take n) (us.take n)
 |_,_,0,_=>.nil
 |_,_,_+1,.nil=>.nil
 |_,_,n+1,.cons r t=>.cons r (aR.take n t)
theorem aR.drop:∀{xs:List V} {us:List Value} (n:Nat),aR xs us→aR (xs.drop n) (us.drop n)
 |_,_,0,r=>r
 |_,_,_+1,.nil=>.nil
 |_,_,n+1,.cons _ t=>aR.drop n t
noncomputable def iW:Option V→Option Value→Prop
 |some v,some u=>RelV v u
 |none,none=>True
 |_,_=>False
noncomputable def KV{κ:Type}:List (κ×V)→List (κ×Value)→Prop:=Paired fun (p:κ×V) (q:κ×Value)=>p.1=q.1∧RelV p.2 q.2
noncomputable def kV:Key→V
 |.inl i=>.int i
 |.inr x=>.str x
inductive HO where
 |lst (xs:List V)
 |tup (xs:List V)
 |dK (kvs:List (Key×V))|dT (kvs:List (List Key×V))
 |set (S:Int→Bool) (n:Nat)
 |ins (C dx:Addr) (fs:List (Str×V))
 |own (x:Addr)
 |xd (fs:List (Str×V))
 |met (f x:Addr)
 |rng (lo hi:Int)
 |frz (o:Obj) (u:HO)
 |tbl (ps:Array Value)
 |ext (φ:Heap→Prop)
abbrev Hp:=Addr→Option HO
noncomputable def upd(H:Hp)(a:Addr)(o:HO):Hp:=fun b=>if b=a then some o else H b
theorem aV{H:Hp}{a:Addr}{o:HO}:upd H a o a=some o:=by unfold upd;rw[if_pos rfl]
theorem aQ{H:Hp}{a b:Addr}{o:HO}(h:b≠a):upd H a o b=H b:=by unfold upd;rw[if_neg h]
theorem aHf{H:Hp}{a b:Addr}{o u:HO}(h:H a=some o)(h':H b=some u)(d:o≠u):a≠b:=by
 intro e;subst e;rw[h]at h';exact d (ox h')
theorem bG{H:Hp}{a b:Addr}{o:HO}(h:H a=some o)(h':H b=none):a≠b:=by
 intro e;subst e;rw[h]at h';cases h'
section
variable (P:sr)(w:World)
noncomputable def bV(H:Hp)(h:Heap)(a:Addr):HO→Prop
 |.lst xs=>xs.length≤sizeLine∧∃(its:List Value) (n:Nat),aR xs its∧h.get? a=some { cls:=.type "list",data:=.seq its.toArray n }
 |.tup xs=>xs.length≤sizeLine∧∃its:List Value,aR xs its∧IsTup h a its.toArray
 |.dK kvs=>kvs.length≤sizeLine∧(a == sysModules)=false∧∃vs,KV kvs vs∧h.DictOf (bK P w) a vs
 |.dT kvs=>kvs.length≤sizeLine∧(a == sysModules)=false∧∃xs:List (List Key×Addr×Value),
   Paired (fun (p:List Key×V) (q:List Key×Addr×Value)=>p.1=q.1∧H q.2.1=some (.tup (p.1.map kV))∧RelV p.2 q.2.2) kvs xs ∧
   ∃o es ep,h.get? a=some o∧o.ExactDict∧o.data=.dict es ep∧es.toList=xs.map (entryOfKey (tupleKind (bK P w)))∧(xs.map (·.1)).Nodup
 |.set S n=>h.SetOf (intKind P w) a S n
 |.ins C dx fs=>H dx=some (.own a)∧fs.length≤1000∧dx≠a∧h.get? a=some (instObj C dx) ∧
   ∃mA,h.Ns1 dx mA∧(∀f,iW (fs.lookup f) (mA f))∧PySem.Within mA (fs.map (·.1))
 |.own _=>∃o,h.get? a=some o
 |.xd fs=>∃mA,h.Ns1 a mA∧∀f,iW (fs.lookup f) (mA f)
 |.rng lo hi=>∃t u v,h.get? a=some { cls:=.type "range",data:=.fields #[.int lo t,.int hi u,.int 1 v] }
 |.frz o u=>h.get? a=some o∧bV H h a u
 |.tbl ps=>h.get? a=some { cls:=.none,data:=.fields ps }
 |.met f x=>h.get? a=some (methodObj (.ref f) (.ref x))
 |.ext φ=>φ h∧(∃o,h.get? a=some o)∧∀h1 h2:Heap,φ h1→(∀o,h1.get? a=some o→h2.get? a=some o)→φ h2
def HOk(H:Hp)(h:Heap):Prop:=∀a o,H a=some o→bV P w H h a o
end
section
variable {P:sr}{w:World}{H H':Hp}{h h':Heap}{a:Addr}{o:HO}
theorem bV.lt(x:bV P w H h a o):a<h.objs.size:=by
 cases o with
 |lst xs=>obtain⟨_,_,_,_,e⟩:=x;exact p8 e
 |tup xs=>obtain⟨_,_,_,p⟩:=x;exact p.lt
 |dK kvs=>obtain⟨_,_,_,_,o,_,_,e,_⟩:=x;exact p8 e
 |dT kvs=>obtain⟨_,_,_,_,o,_,_,e,_⟩:=x;exact p8 e
 |set S n=>obtain⟨o,_,_,_,e,_⟩:=x;exact p8 e
 |ins C dx fs=>obtain⟨_,_,_,e,_⟩:=x;exact p8 e
 |own y=>obtain⟨_,e⟩:=x;exact p8 e
 |xd fs=>obtain⟨_,⟨_,_,_,e,_⟩,_⟩:=x;exact p8 e
 |rng lo hi=>obtain⟨_,_,_,e⟩:=x;exact p8 e
 |frz ob u=>obtain⟨e,_⟩:=x;exact p8 e
 |tbl ps=>exact p8 (show h.get? a=some _ from x)
 |met f y=>exact p8 (show h.get? a=some _ from x)
 |ext φ=>obtain⟨_,⟨_,e⟩,_⟩:=x;exact p8 e
theorem Paired.mapP{α β:Type}{F G:α→β→Prop}:∀{l₁:List α} {l₂:List β},Paired F l₁ l₂→(∀a b,F a b→G a b)→Paired G l₁ l₂
 |_,_,.nil,_=>.nil
 |_,_,.cons r t,f=>.cons (f _ _ r) (Paired.mapP t f)
theorem bV.stay(x:bV P w H h a o)(k:∀b u,(b=a∨H b=some (.own a))→h.get? b=some u→h'.get? b=some u)
  (ho:∀b,H b=some (.own a)→H' b=some (.own a)) (ht:∀b xs,H b=some (.tup xs)→H' b=some (.tup xs)):bV P w H' h' a o:=by
 induction o with
 |lst xs=>obtain⟨z,its,n,r,e⟩:=x;exact⟨z,its,n,r,k _ _ (.inl rfl) e⟩
 |tup xs=>obtain⟨z,its,r,ob,e,c⟩:=x;exact⟨z,its,r,ob,k _ _ (.inl rfl) e,c⟩
 |dK kvs=>obtain⟨z,y,vs,r,ob,es,ep,e,c⟩:=x;exact⟨z,y,vs,r,ob,es,ep,k _ _ (.inl rfl) e,c⟩
 |dT kvs =>
  obtain⟨z,y,xs,r,ob,es,ep,e,c⟩:=x;exact⟨z,y,xs,Paired.mapP r fun p q z=>⟨z.1,ht _ _ z.2.1,z.2.2⟩,ob,es,ep,k _ _ (.inl rfl) e,c⟩
 |set S n=>obtain⟨ob,es,ep,t,e,c⟩:=x;exact⟨ob,es,ep,t,k _ _ (.inl rfl) e,c⟩
 |ins C dx fs =>
  obtain⟨d,z,ne,e,mA,⟨od,es,ep,e2,c⟩,r⟩:=x;exact⟨ho _ d,z,ne,k _ _ (.inl rfl) e,mA,⟨od,es,ep,k _ _ (.inr d) e2,c⟩,r⟩
 |own y=>obtain⟨ob,e⟩:=x;exact⟨ob,k _ _ (.inl rfl) e⟩
 |xd fs=>obtain⟨mA,⟨od,es,ep,e,c⟩,r⟩:=x;exact⟨mA,⟨od,es,ep,k _ _ (.inl rfl) e,c⟩,r⟩
 |rng lo hi=>obtain⟨t,u,v,e⟩:=x;exact⟨t,u,v,k _ _ (.inl rfl) e⟩
 |frz ob u ih=>obtain⟨e,q⟩:=x;exact⟨k _ _ (.inl rfl) e,ih q⟩
 |tbl ps =>
  have e:h.get? a=some { cls:=.none,data:=.fields ps }:=x
  show h'.get? a=some { cls:=.none,data:=.fields ps }
  exact k a _ (.inl rfl) e
 |met f y =>
  have e:h.get? a=some (methodObj (.ref f) (.ref y)):=x
  show h'.get? a=some (methodObj (.ref f) (.ref y))
  exact k a _ (.inl rfl) e
 |ext φ=>obtain⟨p,⟨o,e⟩,st⟩:=x;exact⟨st _ _ p fun o q=>k _ _ (.inl rfl) q,⟨o,k _ _ (.inl rfl) e⟩,st⟩
theorem HOk.lt(x:HOk P w H h)(e:H a=some o):a<h.objs.size:=(x a o e).lt
theorem HOk.fresh(x:HOk P w H h)(e:h.objs.size≤a):H a=none:=by
 cases q:H a with
 |none=>rfl
 |some u=>exact absurd (oz (x.lt q) e) (ql _)
theorem HOk.kept(x:HOk P w H h)(k:∀b u,h.get? b=some u→h'.get? b=some u):HOk P w H h':=fun a o e =>
 (x a o e).stay (fun b u _ q=>k b u q) (fun _ q=>q) fun _ _ q=>q
theorem HOk.laid(x:HOk P w H h)(k:∀b u,h.get? b=some u→h'.get? b=some u)(hp:h.objs.size≤a)(new:bV P w (upd H a o) h' a o):HOk P w (upd H a o) h':=fun b u e=>by
 have hn:=x.fresh hp
 by_cases hb:b=a
 ·subst hb;rw[aV]at e;cases e;exact new
 ·rw[aQ hb]at e;exact(x b u e).stay (fun c v _ q=>k c v q) (fun c q=>by rw[aQ (bG q hn)];exact q) fun c xs q=>by rw[aQ (bG q hn)];exact q
end
def Rd(H:Hp)(a:Addr)(u:HO):Prop:=H a=some u∨∃o,H a=some (.frz o u)
theorem Rd.ok{P:sr}{w:World}{H:Hp}{h:Heap}{a:Addr}{u:HO}(r:Rd H a u)(x:HOk P w H h):bV P w H h a u:=by
 rcases r with r|⟨o,r⟩
 ·exact x a u r
 ·obtain⟨_,q⟩:=x a _ r;exact q
noncomputable def nz:Option HO→Prop
 |some (.lst _)=>True
 |some (.dK _)=>True
 |some (.dT _)=>True
 |some (.set _ _)=>True
 |some (.ins _ _ _)=>True
 |some (.ext _)=>True
 |_=>False
section
variable {P:sr}{w:World}{H:Hp}{h h':Heap}{x e:Addr}{o':HO}
theorem HOk.write(ok:HOk P w H h)(mu:nz (H x))(he:e=x∨H e=some (.own x))(k:∀b u,b≠e→h.get? b=some u→h'.get? b=some u)(j5:∃u,h'.get? e=some u)
  (new:bV P w (upd H x o') h' x o'):HOk P w (upd H x o') h':=fun b u q=>by
 have nown:∀c y,H c=some (.own y)→c≠x:=fun c y r z=>by subst z;rw[r]at mu;exact mu
 have ntup:∀c xs,H c=some (.tup xs)→c≠x:=fun c xs r z=>by subst z;rw[r]at mu;exact mu
 by_cases hb:b=x
 ·subst hb;rw[aV]at q;cases q;exact new
 ·rw[aQ hb]at q
  by_cases f7:b=e
  ·have q':H b=some (.own x):=by
    rcases he with z|z
    ·exact absurd (f7.trans z) hb
    ·rw[f7];exact z
   rw[q]at q';cases q';obtain⟨v,hv⟩:=j5;exact⟨v,by rw[f7];exact hv⟩
  ·refine(ok b u q).stay (fun c v hc r=>k c v ?_ r) (fun c r=>by rw[aQ (nown c b r)];exact r) fun c xs r=>by rw[aQ (ntup c xs r)];exact r
   rcases hc with rfl|hc
   ·exact f7
   ·rintro rfl
    rcases he with z|z
    ·exact nown c b hc z
    ·rw[hc]at z;cases z;exact hb rfl
end
structure Un (fs ex:List Addr) (H H':Hp) (h h':Heap):Prop where
 keep:∀b o,h.get? b=some o→H b=none→b∉fs→b∉ex→h'.get? b=some o
 slot:∀b o,h.get? b=some o→H b=none→b∈fs→b∉ex→∃sl,h'.get? b=some { o with slots:=sl }
 free:∀b o,h.get? b=some o→H b=none→b∉ex→H' b=none
 there:∀b o,h.get? b=some o→b∉ex→∃o',h'.get? b=some o'
 tups:∀b xs,H b=some (.tup xs)→H' b=some (.tup xs)
 frzs:∀b o u,H b=some (.frz o u)→H' b=some (.frz o u)
 tbls:∀b ps,H b=some (.tbl ps)→∃more,H' b=some (.tbl (ps++more))
section
variable {fs fs' ex ex':List Addr}{H H1 H2:Hp}{h h1 h2 h':Heap}{a x e:Addr}{o:HO}
theorem Un.any(u:Un fs ex H H1 h h1){b:Addr}{ob:Obj}(q:h.get? b=some ob)(n:H b=none)(hx:b∉ex):∃sl,h1.get? b=some { ob with slots:=sl }:=by
 by_cases hb:b∈fs
 ·exact u.slot b ob q n hb hx
 ·exact⟨ob.slots,u.keep b ob q n hb hx⟩
theorem Un.kept(k:∀b u,h.get? b=some u→h'.get? b=some u):Un fs ex H H h h':=
 ⟨fun b ob q _ _ _=>k b ob q,fun b ob q _ _ _=>⟨ob.slots,k b ob q⟩,fun _ _ _ n _=>n,fun b ob q _=>⟨ob,k b ob q⟩,fun _ _ q=>q,fun _ _ _ q=>q,fun _ ps q=>⟨#[],by rw[q];simp⟩⟩
theorem Un.refl:Un fs ex H H h h:=Un.kept fun _ _ q=>q
theorem Un.laid(k:∀b u,h.get? b=some u→h'.get? b=some u)(hp:h.objs.size≤a)(hn:H a=none):Un fs ex H (upd H a o) h h' where
 keep:=fun b u q _ _ _=>k b u q
 slot:=fun b u q _ _ _=>⟨u.slots,k b u q⟩
 free:=fun b u q n _=>by rw[aQ (qh (oz (p8 q) hp))];exact n
 there:=fun b u q _=>⟨u,k b u q⟩
 tups:=fun b xs q=>by rw[aQ (bG q hn)];exact q
 frzs:=fun b u xs q=>by rw[aQ (bG q hn)];exact q
 tbls:=fun b ps q=>⟨#[],by rw[aQ (bG q hn),q];simp⟩
theorem Un.write(mu:nz (H x))(he:e=x∨H e=some (.own x))(k:∀b u,b≠e→h.get? b=some u→h'.get? b=some u)(j5:∃u,h'.get? e=some u):Un fs ex H (upd H x o) h h':=by
 have hx:∀b,H b=none→b≠x:=fun b n z=>by subst z;rw[n]at mu;exact mu
 have hb:∀b,H b=none→b≠e:=fun b n z=>by
  subst z
  rcases he with r|r
  ·exact hx b n r
  ·rw[n]at r;cases r
 have hm:∀b u,H b=some u→¬nz (some u)→b≠x:=fun b u q nm z=>by subst z;rw[q]at mu;exact nm mu
 refine⟨fun b u q n _ _=>k b u (hb b n) q,fun b u q n _ _=>⟨u.slots,k b u (hb b n) q⟩,fun b u q n _=>by rw[aQ (hx b n)];exact n,fun b u q _=>?_,
  fun b xs q=>by rw[aQ (hm b _ q fun z=>z)];exact q,fun b u xs q=>by rw[aQ (hm b _ q fun z=>z)];exact q,fun b ps q=>⟨#[],by rw[aQ (hm b _ q fun z=>z),q];simp⟩⟩
 by_cases f7:b=e
 ·subst f7;exact j5
 ·exact⟨u,k b u f7 q⟩
theorem Un.mono(u:Un fs ex H H1 h h1)(hs:∀b∈fs,b∈fs')(hx:∀b∈ex,b∈ex'):Un fs' ex' H H1 h h1:=
 ⟨fun b ob q n hb he=>u.keep b ob q n (fun z=>hb (hs b z)) fun z=>he (hx b z),fun _ _ q n _ he=>u.any q n fun z=>he (hx _ z),fun b ob q n he=>u.free b ob q n fun z=>he (hx b z),fun b ob q he=>u.there b ob q fun z=>he (hx b z),u.tups,u.frzs,u.tbls⟩
end
noncomputable def trk(h:Heap)(H:Hp):List Addr:=(List.range h.objs.size).filter fun a=>(H a).isSome
noncomputable def uJ(h:Heap)(H:Hp):Heap:=hideAll h (trk h H)
theorem IH(h:Heap)(H:Hp):(uJ h H).objs.size=h.objs.size:=PySem.W.hideAll_size _ _
theorem NS{h:Heap}{H:Hp}{b:Addr}{o:Obj}(e:h.get? b=some o)(n:H b=none):(uJ h H).get? b=some o:=
 PySem.W.hideAll_get _ e fun hm=>by
  have q:(H b).isSome=true:=(List.mem_filter.mp hm).2
  rw[n]at q;simp at q
theorem VH{h:Heap}{H:Hp}{b:Addr}{o:Obj}(e:(uJ h H).get? b=some o):h.get? b=some o∧H b=none:=by
 have e':h.get? b=some o:=PySem.W.of_hideAll (trk h H) e
 refine⟨e',?_⟩;cases q:H b with
 |none=>rfl
 |some x =>
  have hm:b∈trk h H:=List.mem_filter.mpr ⟨rq.mpr (p8 e'),by simp[q]⟩
  have z:(uJ h H).get? b=none:=PySem.W.hideAll_none (trk h H) hm
  rw[z]at e;cases e
noncomputable def YG(g h:Heap)(L:Addr):List (Addr×Obj):=(List.range h.objs.size).filterMap fun a=>if a=L∨(g.get? a).isSome=true then none else(h.get? a).map fun o=>(a,o)
noncomputable def rest(g h:Heap)(L d:Addr):List (Addr×Obj):=(YG g h L).filter fun p=>decide (p.1≠d)
structure Mod (K:so) (mg:t5) (base:Heap):Prop where
 kin:K.In base
 glob:base.Ns mainGlobals mg
 blt:∃mb,base.Ns builtinsNs mb∧∀x:Str,x≠"__name__"→mb x=bootBuiltins x
 nolimit:base.NoLimit
structure Cx where
 prog:sr
 w:World
 K:so
 mg:Str→Option Value
 base:Heap
 A:Around
 N:List Str
 s₀:Shared
 H₀:Hp
 env:Env
 outer:List Env
 stack:List Env
 ex:List Addr
 fn:Str→Bool
 calm:Bool
 pn:List (Addr×Obj)
 xe:Value→Shared→Prop
noncomputable def frs(l:List Env):List Addr:=l.filterMap (·.frame)
abbrev Cx.fs(X:Cx):List Addr:=frs X.outer
def Vis(sc:Scope)(x:Str):Prop:=sc.names.lookup x=some .local∨sc.names.lookup x=some .cell∨sc.names.lookup x=some .free
def Loc(sc:Scope)(x:Str):Prop:=sc.names.lookup x=some .local∨sc.names.lookup x=some .cell
def Look(env:Env)(h:Heap)(m:t5)(x:Str)(u:Value):Prop:=
 (env.kindOf x=some .local∧m x=some u)∨((env.kindOf x=some .cell∨env.kindOf x=some .free)∧∃c,env.cells.lookup x=some c∧h.IsCell c (some u))
structure Cx.Ok (X:Cx):Prop where
 mod:Mod X.K X.mg X.base
 kind:X.env.scope.kind=.function
 glob:X.env.globals=mainGlobals
 blt:X.env.builtins=builtinsNs
 above:X.s₀.heap.objs.size≤X.env.locals
 inj:∀x y c,X.env.cells.lookup x=some c→X.env.cells.lookup y=some c→x=y
 has:∀x,(X.env.kindOf x=some .cell∨X.env.kindOf x=some .free)→∃c,X.env.cells.lookup x=some c
 cab:∀x c,X.fn x=true→X.env.cells.lookup x=some c→X.s₀.heap.objs.size≤c
 hd:X.calm=true→X.A.handled=none
 frames:X.A.frames=some X.stack
 stk:X.stack=X.outer∨(X.stack=X.env::X.outer∧X.env.frame=some X.env.locals)
 exf:∀b∈X.ex,b≠X.env.locals∧∀x c,X.env.cells.lookup x=some c→c≠b
 bs:∀b o,X.base.get? b=some o→X.s₀.heap.get? b=some o∧X.H₀ b=none
 bsz:X.base.objs.size≤X.s₀.heap.objs.size
 noex:∀b o,X.base.get? b=some o→b∉X.ex
 exfs:∀b∈X.ex,b∉X.fs
 funs:X.s₀.heap.FunFrames X.base X.outer
 frf:∀b∈X.fs,X.H₀ b=none
structure Inv (X:Cx) (pins:sv) (σ:List (Option V)) (H:Hp) (s:Shared):Prop where
 ok:X.Ok
 os:s.os=X.s₀.os
 bare:AllBare s.gens
 base:Un X.fs X.ex X.H₀ H X.s₀.heap s.heap
 loc:∃m,s.heap.Ns X.env.locals m∧∀(i:Nat) (x:Str) (v:V),X.N[i]?=some x→σ[i]?=some (some v)→Vis X.env.scope x→∃u,RelV v u∧Look X.env s.heap m x u
 cell:∀x c,X.env.cells.lookup x=some c→∃v,s.heap.IsCell c v
 free:H X.env.locals=none
 freeC:∀x c,X.env.cells.lookup x=some c→H c=none
 pin:∀p∈X.pn++pins,s.heap.get? p.1=some p.2∧H p.1=none∧p.1≠X.env.locals∧p.1∉X.fs∧∀v,p.2.data≠.cell v
 hok:HOk X.prog X.w H s.heap
 len:σ.length=X.N.length
section
variable {X:Cx}{pins:sv}{σ:List (Option V)}{H H':Hp}{s:Shared}{h':Heap}
theorem Cx.Ok.nofr(ok:X.Ok){b:Addr}{o:Obj}(e:X.base.get? b=some o):b∉X.fs:=fun hb=>by
 have:=(ok.funs.mem hb).1
 rw[e]at this;cases this
theorem Inv.bs(I:Inv X pins σ H s):∀b o,X.base.get? b=some o→s.heap.get? b=some o∧H b=none:=fun b o e =>
 ⟨I.base.keep b o (I.ok.bs b o e).1 (I.ok.bs b o e).2 (I.ok.nofr e) (I.ok.noex b o e),I.base.free b o (I.ok.bs b o e).1 (I.ok.bs b o e).2 (I.ok.noex b o e)⟩
theorem Inv.bk(I:Inv X pins σ H s):∀b o,X.base.get? b=some o→s.heap.get? b=some o:=fun b o e=>(I.bs b o e).1
theorem Inv.mod(I:Inv X pins σ H s):Mod X.K X.mg X.base:=I.ok.mod
theorem Inv.kIn(I:Inv X pins σ H s):X.K.In s.heap:=I.ok.mod.kin.keeps I.bk
theorem Inv.lt(I:Inv X pins σ H s):X.env.locals<s.heap.objs.size:=let ⟨_,hn,_⟩:=I.loc;hn.lt
theorem Inv.sz(I:Inv X pins σ H s):X.s₀.heap.objs.size≤s.heap.objs.size:=p9 I.ok.above (Nat.le_of_lt I.lt)
theorem Inv.nofs(I:Inv X pins σ H s){a:Addr}(h:s.heap.objs.size≤a):a∉X.fs:=fun hb=>by
 obtain⟨_,o,ho,_⟩:=I.ok.funs.mem hb;exact absurd (oz (p8 ho) (p9 I.sz h)) (ql _)
theorem Inv.cne(I:Inv X pins σ H s):∀x c,X.env.cells.lookup x=some c→c≠X.env.locals:=fun x c e z=>by
 obtain⟨v,o,ho,hd⟩:=I.cell x c e;obtain⟨m,⟨o',es,ep,fj,hd',_⟩,_⟩:=I.loc;rw[z,fj]at ho;cases ho;rw[hd']at hd;cases hd
theorem Inv.funs(I:Inv X pins σ H s):s.heap.FunFrames X.base X.outer:=by
 have all:∀(l:List Env),(∀b∈frs l,b∈X.fs)→X.s₀.heap.FunFrames X.base l→s.heap.FunFrames X.base l:=by
  intro l
  induction l with
  |nil=>intro _ _;trivial
  |cons env r ih =>
   intro hs hl;obtain⟨hk,⟨L,o,hf,hn,ho,hd⟩,hr⟩:=hl;have hL:L∈X.fs:=hs L (by unfold frs;rw[List.filterMap_cons,hf];exact qw)
   obtain⟨sl,e⟩:=I.base.slot L o ho (I.ok.frf L hL) hL fun z=>I.ok.exfs L z hL
   exact⟨hk,⟨L,_,hf,hn,e,hd⟩,ih (fun b hb=>hs b (by unfold frs;rw[List.filterMap_cons,hf];exact oq _ hb)) hr⟩
 exact all X.outer (fun _ hb=>hb) I.ok.funs
theorem Inv.stack(I:Inv X pins σ H s):s.heap.FunFrames X.base X.stack:=by
 rcases I.ok.stk with e|⟨e,hf⟩
 ·rw[e];exact I.funs
 ·rw[e];obtain⟨m,hn,_⟩:=I.loc;refine .cons (by rw[I.ok.kind];decide) hf hn ?_ I.funs
  exact Heap.get?_none_of_le (p9 I.ok.bsz I.ok.above)
theorem Inv.stkSub(I:Inv X pins σ H s):∀b∈frs X.stack,b∈X.env.locals::X.fs:=fun b hb=>by
 rcases I.ok.stk with e|⟨e,hf⟩
 ·rw[e]at hb;exact oq _ hb
 ·rw[e]at hb;unfold frs at hb;rw[List.filterMap_cons,hf]at hb;exact hb
theorem Inv.stkFree(I:Inv X pins σ H s):∀b∈frs X.stack,H b=none:=fun b hb=>by
 rcases pj.mp (I.stkSub b hb) with e|hb
 ·rw[e];exact I.free
 ·obtain⟨_,o,ho,_⟩:=I.ok.funs.mem hb;exact I.base.free b o ho (I.ok.frf b hb) fun z=>I.ok.exfs b z hb
theorem Inv.step{g':Array GenState}{t':Nat}{d':Drawn}{ch:List Addr}(I:Inv X pins σ H s)
  (f6:∀b∈ch,(b∈X.ex∨X.s₀.heap.objs.size≤b)∧b≠X.env.locals∧(∀x c,X.env.cells.lookup x=some c→c≠b)∧∀p∈X.pn++pins,p.1≠b)
  (keep:∀b o,b≠X.env.locals→b∉X.fs→b∉ch→s.heap.get? b=some o→H b=none→h'.get? b=some o)
  (slot:∀b o,b≠X.env.locals→b∈X.fs→b∉ch→s.heap.get? b=some o→H b=none→∃sl,h'.get? b=some { o with slots:=sl }) (free:∀b o,b∉ch→s.heap.get? b=some o→H b=none→H' b=none)
  (there:∀b o,b∉ch→s.heap.get? b=some o→∃o',h'.get? b=some o')
  (tups:∀b xs,H b=some (.tup xs)→H' b=some (.tup xs)) (frzs:∀b o u,H b=some (.frz o u)→H' b=some (.frz o u)) (tbls:∀b ps,H b=some (.tbl ps)→∃more,H' b=some (.tbl (ps++more)))
  (ns:∀m,s.heap.Ns X.env.locals m→h'.Ns X.env.locals m) (hok:HOk X.prog X.w H' h') (hg:AllBare g') :
  Inv X pins σ H' { s with heap:=h',gens:=g',drawn:=d',toks:=t' }:=by
 have neL:∀b o,X.s₀.heap.get? b=some o→b≠X.env.locals:=fun b o e=>qh (oz (p8 e) I.ok.above)
 have neC:∀b o,X.s₀.heap.get? b=some o→b∉X.ex→b∉ch:=fun b o e hx hb=>by
  rcases (f6 b hb).1 with z|z
  ·exact hx z
  ·exact absurd (oz (p8 e) z) (ql _)
 have cellK:∀x c,X.env.cells.lookup x=some c→∀v,s.heap.IsCell c v→h'.IsCell c v:=fun x c e v ⟨o,ho,hd⟩=>by
  have k7:c∉ch:=fun z=>(f6 c z).2.2.1 x c e rfl
  by_cases hc:c∈X.fs
  ·obtain⟨sl,q⟩:=slot c o (I.cne x c e) hc k7 ho (I.freeC x c e);exact⟨_,q,hd⟩
  ·exact⟨o,keep c o (I.cne x c e) hc k7 ho (I.freeC x c e),hd⟩
 refine⟨I.ok,I.os,hg,⟨fun b o e n hb hx=>?_,fun b o e n hb hx=>?_,fun b o e n hx=>?_,fun b o e hx=>?_,fun b xs e=>tups b xs (I.base.tups b xs e),fun b o xs e=>frzs b o xs (I.base.frzs b o xs e),fun b ps e=>?_⟩,?_,fun x c e=>?_,?_,fun x c e=>?_,fun p hp=>?_,hok,I.len⟩
 ·exact keep b o (neL b o e) hb (neC b o e hx) (I.base.keep b o e n hb hx) (I.base.free b o e n hx)
 ·obtain⟨sl,e1⟩:=I.base.slot b o e n hb hx;obtain⟨sl',e2⟩:=slot b _ (neL b o e) hb (neC b o e hx) e1 (I.base.free b o e n hx);exact⟨sl',e2⟩
 ·obtain⟨o',e1⟩:=I.base.there b o e hx;exact free b o' (neC b o e hx) e1 (I.base.free b o e n hx)
 ·obtain⟨o',e1⟩:=I.base.there b o e hx;exact there b o' (neC b o e hx) e1
 ·obtain⟨m1,e1⟩:=I.base.tbls b ps e;obtain⟨m2,e2⟩:=tbls b _ e1;exact⟨m1++m2,by rw[e2,Array.append_assoc]⟩
 ·obtain⟨m,hn,hl⟩:=I.loc;refine⟨m,ns m hn,fun i x v e1 e2 e3=>?_⟩
  obtain⟨u,r,l⟩:=hl i x v e1 e2 e3;refine⟨u,r,?_⟩
  rcases l with l|⟨k,c,e,z⟩
  ·exact .inl l
  ·exact .inr ⟨k,c,e,cellK x c e _ z⟩
 ·obtain⟨v,z⟩:=I.cell x c e;exact⟨v,cellK x c e v z⟩
 ·obtain⟨m,⟨o,_,_,ho,_⟩,_⟩:=I.loc;exact free _ o (fun z=>(f6 _ z).2.1 rfl) ho I.free
 ·obtain⟨v,o,ho,hd⟩:=I.cell x c e;exact free c o (fun z=>(f6 c z).2.2.1 x c e rfl) ho (I.freeC x c e)
 ·obtain⟨e,n,ne,nf,d⟩:=I.pin p hp;have k7:p.1∉ch:=fun z=>(f6 p.1 z).2.2.2 p hp rfl
  exact⟨keep p.1 p.2 ne nf k7 e n,free p.1 p.2 k7 e n,ne,nf,d⟩
theorem Inv.un{t':Nat}(I:Inv X pins σ H s)(u:Un X.fs [] H H' s.heap h')(hok:HOk X.prog X.w H' h'):Inv X pins σ H' { s with heap:=h',toks:=t' }:=by
 obtain⟨m,⟨o,es,ep,ho,r⟩,_⟩:=id I.loc;obtain⟨sl,hL⟩:=u.any ho I.free (by simp)
 exact I.step (g':=s.gens) (d':=s.drawn) (ch:=[]) (fun _ z=>nomatch z) (fun b o _ hb _ e n=>u.keep b o e n hb (by simp)) (fun b o _ hb _ e n=>u.slot b o e n hb (by simp)) (fun b o _ e n=>u.free b o e n (by simp)) (fun b o _ e=>u.there b o e (by simp)) u.tups u.frzs u.tbls (fun m' hm=>by
  obtain⟨o',fq,ep',fj,r'⟩:=hm;rw[ho]at fj;cases fj;exact⟨_,fq,ep',hL,r'⟩) hok I.bare
theorem Inv.call{g':Array GenState}{t':Nat}{d':Drawn}{ch:List Addr}(I:Inv X pins σ H s)(u:Un (frs X.stack) ch H H' s.heap h')(hok:HOk X.prog X.w H' h')(hg:AllBare g')
  (f6:∀b∈ch,(b∈X.ex∨X.s₀.heap.objs.size≤b)∧b≠X.env.locals∧(∀x c,X.env.cells.lookup x=some c→c≠b)∧∀p∈X.pn++pins,p.1≠b) :
  Inv X pins σ H' { s with heap:=h',gens:=g',drawn:=d',toks:=t' }:=by
 obtain⟨m,⟨o,es,ep,ho,r⟩,_⟩:=id I.loc;obtain⟨sl,hL⟩:=u.any ho I.free fun z=>(f6 _ z).2.1 rfl
 exact I.step (ch:=ch) f6 (fun b o hL hb hc e n=>u.keep b o e n (fun z=>(pj.mp (I.stkSub b z)).elim hL hb) hc) (fun b o _ _ hc e n=>u.any e n hc) (fun b o hc e n=>u.free b o e n hc) (fun b o hc e=>u.there b o e hc) u.tups u.frzs u.tbls (fun m' hm=>by
  obtain⟨o',fq,ep',fj,r'⟩:=hm;rw[ho]at fj;cases fj;exact⟨_,fq,ep',hL,r'⟩) hok hg
theorem Inv.turned{t':Nat}{it:Addr}(I:Inv X pins σ H s)(k:∀b o,b≠it→s.heap.get? b=some o→h'.get? b=some o)(hn:H it=none)(hL:it≠X.env.locals)
  (h1:it∈X.ex∨X.s₀.heap.objs.size≤it) (h2:∀x c,X.env.cells.lookup x=some c→c≠it) (h3:∀p∈X.pn++pins,p.1≠it):Inv X pins σ H { s with heap:=h',toks:=t' }:=by
 have nit:∀b u,H b=some u→b≠it:=fun b u e z=>by rw[z,hn]at e;cases e
 refine I.step (g':=s.gens) (d':=s.drawn) (ch:=[it]) (fun b hb=>?_) (fun b o _ _ hc e _=>k b o (fun z=>hc (by simp[z])) e) (fun b o _ _ hc e _=>⟨o.slots,k b o (fun z=>hc (by simp[z])) e⟩) (fun _ _ _ _ n=>n)
  (fun b o hc e=>⟨o,k b o (fun z=>hc (by simp[z])) e⟩) (fun _ _ e=>e) (fun _ _ _ e=>e) (fun b ps e=>⟨#[],by rw[e];simp⟩) (fun m hm=>?_) (fun b u e=>?_) I.bare
 ·have e:b=it:=by simpa using hb
  subst e;exact⟨h1,hL,h2,h3⟩
 ·obtain⟨o,es,ep,ho,r⟩:=hm;exact⟨o,es,ep,k _ o (Ne.symm hL) ho,r⟩
 ·refine(I.hok b u e).stay (fun c v hc q=>k c v ?_ q) (fun _ q=>q) fun _ _ q=>q
  rcases hc with z|z
  ·rw[z];exact nit b u e
  ·exact nit c _ z
theorem Inv.tok(I:Inv X pins σ H s)(t:Nat):Inv X pins σ H { s with toks:=t }:=I.un (h':=s.heap) (t':=t) Un.refl I.hok
theorem Inv.kept{t':Nat}(I:Inv X pins σ H s)(k:∀b u,s.heap.get? b=some u→h'.get? b=some u):Inv X pins σ H { s with heap:=h',toks:=t' }:=I.un (Un.kept k) (I.hok.kept k)
theorem Inv.laid{a:Addr}{o:HO}{t':Nat}(I:Inv X pins σ H s)(k:∀b u,s.heap.get? b=some u→h'.get? b=some u)(hp:s.heap.objs.size≤a)(new:bV X.prog X.w (upd H a o) h' a o) :
  Inv X pins σ (upd H a o) { s with heap:=h',toks:=t' }:=I.un (Un.laid k hp (I.hok.fresh hp)) (I.hok.laid k hp new)
theorem Inv.write{x e:Addr}{o:HO}{t':Nat}(I:Inv X pins σ H s)(mu:nz (H x))(he:e=x∨H e=some (.own x))(k:∀b u,b≠e→s.heap.get? b=some u→h'.get? b=some u)(j5:∃u,h'.get? e=some u)
  (new:bV X.prog X.w (upd H x o) h' x o):Inv X pins σ (upd H x o) { s with heap:=h',toks:=t' }:=I.un (Un.write mu he k j5) (I.hok.write mu he k j5 new)
theorem Inv.pins_of{pins':sv}(I:Inv X pins σ H s)(h:∀p∈pins',s.heap.get? p.1=some p.2∧H p.1=none∧p.1≠X.env.locals∧p.1∉X.fs∧∀v,p.2.data≠.cell v):Inv X pins' σ H s:=
 ⟨I.ok,I.os,I.bare,I.base,I.loc,I.cell,I.free,I.freeC,fun p hp=>(sk.mp hp).elim (fun z=>I.pin p (qk _ z)) (h p),I.hok,I.len⟩
theorem xS{N:List Str}(hN:N.Nodup){i j:Nat}{x:Str}(a:N[i]?=some x)(b:N[j]?=some x):i=j:=by
 obtain⟨h1,e1⟩:=o5.mp a;obtain⟨h2,e2⟩:=o5.mp b;exact(List.getElem_inj hN).mp (e1.trans e2.symm)
theorem rN{M:Model}{A:Around}{E:su}{i:Nat}{x:Str}{v:V}{u:Value}{Q:Unit→Shared→Prop}(I:Inv X pins σ H s)(hN:X.N.Nodup)(hi:X.N[i]?=some x)(hx:Loc X.env.scope x)(r:RelV v u)
  (h:∀s',Inv X pins (σ.set i (some v)) H s'→(∃a,Heap.SameBut a s.heap s'.heap∧(a=X.env.locals∨X.env.cells.lookup x=some a))→Q () s') (hf:X.fn x=true∨X.env.scope.names.lookup x=some .local:=by first|exact .inl rfl|exact .inr rfl|assumption):wpAny M A (storeName X.env x u) Q E s:=by
 obtain⟨m,hn,hl⟩:=id I.loc;have hcls:(X.env.scope.kind == .class || (X.env.scope.kind == .module&&X.env.locals != X.env.globals))=false:=by rw[I.ok.kind];rfl
 have hiσ:i<σ.length:=by rw[I.len];exact(o5.mp hi).1
 have cne:=I.cne
 have tracked:∀{a:Addr} {h':Heap},(∃o,s.heap.get? a=some o∧H a=none)→Heap.SameBut a s.heap h'→HOk X.prog X.w H h':=fun {a h'} ha hs b ob e=>by
  obtain⟨_,_,hfree⟩:=ha;refine(I.hok b ob e).stay (fun c w' hc q=>(hs.2 c ?_).trans q) (fun _ q=>q) fun _ _ q=>q
  rintro rfl
  rcases hc with rfl|hc
  ·rw[hfree]at e;cases e
  ·rw[hfree]at hc;cases hc
 rcases hx with hk|hk
 ·refine wpAny_storeName_local hk hn (fun h' hn' hs=>?_) hcls
  obtain⟨oL,_,_,hoL,_⟩:=id hn;refine h _ ⟨I.ok,I.os,I.bare,⟨fun b o e n hb hx=>?_,fun b o e n hb hx=>?_,I.base.free,fun b o e hx=>?_,I.base.tups,I.base.frzs,I.base.tbls⟩,⟨_,hn',fun j y v' e1 e2 e3=>?_⟩,fun y c e=>?_,I.free,I.freeC,fun p hp=>?_,tracked ⟨oL,hoL,I.free⟩ hs,by simpa using I.len⟩ ⟨_,hs,.inl rfl⟩
  ·exact(hs.2 b (qh (oz (p8 e) I.ok.above))).trans (I.base.keep b o e n hb hx)
  ·obtain⟨sl,e1⟩:=I.base.slot b o e n hb hx;exact⟨sl,(hs.2 b (qh (oz (p8 e) I.ok.above))).trans e1⟩
  ·obtain⟨o',e1⟩:=I.base.there b o e hx;exact⟨o',(hs.2 b (qh (oz (p8 e) I.ok.above))).trans e1⟩
  ·by_cases hj:j=i
   ·subst hj;rw[hi]at e1;cases e1;rw[p6 hiσ]at e2;cases e2;exact⟨u,r,.inl ⟨hk,by simp⟩⟩
   ·rw[p7 (Ne.symm hj)]at e2;obtain⟨u',r',q⟩:=hl j y v' e1 e2 e3;refine⟨u',r',?_⟩
    rcases q with ⟨k,e⟩|⟨k,c,e,z⟩
    ·refine .inl ⟨k,?_⟩;have:y≠x:=fun e=>hj (xS hN e1 (e ▸ hi))
     simp[this,e]
    ·exact .inr ⟨k,c,e,z.sameBut hs (cne y c e)⟩
  ·obtain⟨w',z⟩:=I.cell y c e;exact⟨w',z.sameBut hs (cne y c e)⟩
  ·obtain⟨e,n,ne,nf,d⟩:=I.pin p hp;exact⟨(hs.2 p.1 ne).trans e,n,ne,nf,d⟩
 ·have d3:X.fn x=true:=by
   rcases hf with z|z
   ·exact z
   ·rw[z]at hk;cases hk
  obtain⟨c,hc⟩:=I.ok.has x (.inl hk);obtain⟨w',z⟩:=I.cell x c hc;refine wpAny_storeName_cell I.ok.kind hk hc z (fun h' hc' hs=>?_)
  obtain⟨oc,hoc,hocd⟩:=id z;refine h { s with heap:=h' } ⟨I.ok,I.os,I.bare,⟨fun b o e n hb hx=>?_,fun b o e n hb hx=>?_,I.base.free,fun b o e hx=>?_,I.base.tups,I.base.frzs,I.base.tbls⟩,⟨m,hn.sameBut hs (Ne.symm (cne x c hc)),fun j y v' e1 e2 e3=>?_⟩,fun y c' e=>?_,I.free,I.freeC,fun p hp=>?_,tracked ⟨oc,hoc,I.freeC x c hc⟩ hs,by simpa using I.len⟩ ⟨c,hs,.inr hc⟩
  ·exact(hs.2 b (qh (oz (p8 e) (I.ok.cab x c d3 hc)))).trans (I.base.keep b o e n hb hx)
  ·obtain⟨sl,e1⟩:=I.base.slot b o e n hb hx;exact⟨sl,(hs.2 b (qh (oz (p8 e) (I.ok.cab x c d3 hc)))).trans e1⟩
  ·obtain⟨o',e1⟩:=I.base.there b o e hx;exact⟨o',(hs.2 b (qh (oz (p8 e) (I.ok.cab x c d3 hc)))).trans e1⟩
  ·by_cases hj:j=i
   ·subst hj;rw[hi]at e1;cases e1;rw[p6 hiσ]at e2;cases e2;exact⟨u,r,.inr ⟨.inl hk,c,hc,hc'⟩⟩
   ·rw[p7 (Ne.symm hj)]at e2;obtain⟨u',r',q⟩:=hl j y v' e1 e2 e3;refine⟨u',r',?_⟩
    rcases q with q|⟨k,c',e,z'⟩
    ·exact .inl q
    ·refine .inr ⟨k,c',e,z'.sameBut hs ?_⟩;rintro rfl;exact hj (xS hN e1 (I.ok.inj _ _ _ e hc ▸ hi))
  ·by_cases hcc:c'=c
   ·subst hcc;exact⟨_,hc'⟩
   ·obtain⟨w2,z2⟩:=I.cell y c' e;exact⟨w2,z2.sameBut hs hcc⟩
  ·obtain⟨e,n,ne,nf,d⟩:=I.pin p hp;refine⟨(hs.2 p.1 ?_).trans e,n,ne,nf,d⟩;intro q;rw[q,hoc]at e;have q':oc=p.2:=ox e
   exact d w' (by rw[←q'];exact hocd)
theorem wO{M:Model}{A:Around}{E:su}{i:Nat}{x:Str}{v:V}{u:Value}{Q:Unit→Shared→Prop}(I:Inv X pins σ H s)(hN:X.N.Nodup)(hi:X.N[i]?=some x)(hx:Loc X.env.scope x)(r:RelV v u)
  (h:∀s',Inv X pins (σ.set i (some v)) H s'→Q () s') (hf:X.fn x=true∨X.env.scope.names.lookup x=some .local:=by first|exact .inl rfl|exact .inr rfl|assumption):wpAny M A (storeName X.env x u) Q E s:=
 rN I hN hi hx r (fun s' I' _=>h s' I') hf
theorem Inv.call'{s':Shared}{ch:List Addr}(I:Inv X pins σ H s)(ho:s'.os=s.os)(u:Un (frs X.stack) ch H H' s.heap s'.heap)(hok:HOk X.prog X.w H' s'.heap)(hg:AllBare s'.gens)
  (f6:∀b∈ch,(b∈X.ex∨X.s₀.heap.objs.size≤b)∧b≠X.env.locals∧(∀x c,X.env.cells.lookup x=some c→c≠b)∧∀p∈X.pn++pins,p.1≠b):Inv X pins σ H' s':=by
 obtain⟨h',g',d',t',o'⟩:=s';have e:o'=s.os:=ho
 subst e;exact I.call (g':=g') (t':=t') (d':=d') u hok hg f6
end
abbrev XK:=Value→Option Addr→Hp→Prop
abbrev St:=List (Option V)
abbrev VK:=V→Hp→Prop
abbrev TE:=St→Hp→VK→Prop
abbrev TT:=St→Hp→(Bool→Hp→Prop)→Prop
abbrev TA:=St→Hp→(List V→Hp→Prop)→Prop
structure Ends where
 nx:St→Hp→Prop
 rt:VK
 bk:St→Hp→Prop:=fun _ _=>False
 ct:St→Hp→Prop:=fun _ _=>False
abbrev TS:=Ends→St→Hp→Prop
def EP(X:Cx)(pins:sv)(σ:St)(Q:VK)(u:Value)(s':Shared):Prop:=∃v H',Inv X pins σ H' s'∧RelV v u∧Q v H'
def TP(X:Cx)(pins:sv)(σ:St)(Q:Bool→Hp→Prop)(b:Bool)(s':Shared):Prop:=∃H',Inv X pins σ H' s'∧Q b H'
def AP(X:Cx)(pins:sv)(σ:St)(Q:List V→Hp→Prop)(us:List Value)(s':Shared):Prop:=∃vs H',Inv X pins σ H' s'∧aR vs us∧Q vs H'
def SP(X:Cx)(pins:sv)(D:Ends)(f:Flow)(s':Shared):Prop:=
 match f with
 |.next=>∃σ' H',Inv X pins σ' H' s'∧D.nx σ' H'
 |.brk=>∃σ' H',Inv X pins σ' H' s'∧D.bk σ' H'
 |.cont=>∃σ' H',Inv X pins σ' H' s'∧D.ct σ' H'
 |.ret u=>∃v σ' H',Inv X pins σ' H' s'∧RelV v u∧D.rt v H'
def PE(X:Cx)(e:Expr)(t:TE):Prop:=
 ∀(pins:sv) (s:Shared) (σ:St) (H:Hp) (Q:VK),Inv X pins σ H s→t σ H Q→wpAny (model X.prog X.w) X.A (eval e X.env) (EP X pins σ Q) X.xe s
def PT(X:Cx)(e:Expr)(t:TT):Prop:=
 ∀(pins:sv) (s:Shared) (σ:St) (H:Hp) (Q:Bool→Hp→Prop),Inv X pins σ H s→t σ H Q→wpAny (model X.prog X.w) X.A (isTrue e X.env (eval e X.env)) (TP X pins σ Q) X.xe s
def PW(X:Cx)(e:Expr)(t:TT):Prop:=
 ∀(whole:Sem Value) (pins:sv) (s:Shared) (σ:St) (H:Hp) (Q:Bool→Hp→Prop),Inv X pins σ H s→t σ H Q→wpAny (model X.prog X.w) X.A (isTrue e X.env whole) (TP X pins σ Q) X.xe s
theorem PW.pt{X:Cx}{e:Expr}{t:TT}(h:PW X e t):PT X e t:=h _
def PA(X:Cx)(es:List Expr)(t:TA):Prop:=
 ∀(pos:Pos) (pins:sv) (s:Shared) (σ:St) (H:Hp) (Q:List V→Hp→Prop),Inv X pins σ H s→t σ H Q→wpAny (model X.prog X.w) X.A (spliced (backTo pos (starEach es X.env))) (AP X pins σ Q) X.xe s
def PS(X:Cx)(st:Stmt)(t:TS):Prop:=
 ∀(pins:sv) (s:Shared) (σ:St) (H:Hp) (D:Ends),Inv X pins σ H s→t D σ H→wpAny (model X.prog X.w) X.A (exec st X.env) (SP X pins D) X.xe s
def PSs(X:Cx)(st:List Stmt)(t:TS):Prop:=
 ∀(pins:sv) (s:Shared) (σ:St) (H:Hp) (D:Ends),Inv X pins σ H s→t D σ H→wpAny (model X.prog X.w) X.A (execs st X.env) (SP X pins D) X.xe s
theorem af{α:Type}{t:Sem α}{Q Q':α→Shared→Prop}{M:Model}{A:Around}{E:su}{s:Shared}(h:wpAny M A t Q E s)(hQ:∀a s,Q a s→Q' a s):wpAny M A t Q' E s:=qp h hQ fun _ _ x=>x
section
variable {X:Cx}
theorem bin{a b:Expr}{ta tb:TE}(ha:PE X a ta)(hb:PE X b tb){pins:sv}{s:Shared}{σ:St}{H:Hp}{R:V→V→Hp→Prop}(I:Inv X pins σ H s)(h:ta σ H fun x H1=>tb σ H1 fun y H2=>R x y H2)
  {α:Type} {Q:α→Shared→Prop} {f:Value→Value→Sem α}
  (hf:∀v u s2 x y H2,Inv X pins σ H2 s2→RelV x v→RelV y u→R x y H2→wpAny (model X.prog X.w) X.A (f v u) Q X.xe s2) :
  wpAny (model X.prog X.w) X.A (eval a X.env) (fun v s₁=>wpAny (model X.prog X.w) X.A (eval b X.env) (fun u s₂=>wpAny (model X.prog X.w) X.A (f v u) Q X.xe s₂) X.xe s₁) X.xe s:=by
 refine af (ha pins s σ H _ I h) fun v s1 ⟨x,H1,I1,r1,q1⟩=>?_
 refine af (hb pins s1 σ H1 _ I1 q1) fun u s2 ⟨y,H2,I2,r2,q2⟩=>?_
 exact hf v u s2 x y H2 I2 r1 r2 q2
def GQ(i:Nat):TE:=fun σ H Q=>∃v,σ[i]?=some (some v)∧Q v H
def tC(v:V):TE:=fun _ H Q=>Q v H
theorem tO{i:Nat}{x:Str}{pos:Pos}(hN:X.N[i]?=some x)(hv:Vis X.env.scope x)(hd:(x == ("__debug__":Str))=false:=by decide)(dh:(x == ("__classdict__":Str))=false:=by decide):PE X (.Name x pos) (GQ i):=by
 intro pins s σ H Q I h;obtain⟨v,e,h⟩:=h;obtain⟨m,hn,hl⟩:=I.loc;obtain⟨u,r,l⟩:=hl i x v hN e hv;have fin:EP X pins σ Q u s:=⟨v,H,I,r,h⟩
 rcases l with ⟨hk,hm⟩|⟨hk,c,hc,hcell⟩
 ·exact wpAny_Name (wpAny_loadName_local I.ok.kind hk hn hm fin) hd
 ·rcases hk with hk|hk
  ·exact wpAny_Name (wpAny_loadName_cell I.ok.kind hk hc hcell fin) hd
  ·exact wpAny_Name (wpAny_loadName_free I.ok.kind hk hc hcell fin dh) hd
theorem LL{i j pos}:PE X (.Constant (.int i) j pos) (tC (.int i)):=fun _ _ _ H _ I h=>wpAny_Constant_int ⟨.int i,H,I.tok _,⟨_,rfl⟩,h⟩
theorem ZE{b j pos}:PE X (.Constant (.bool b) j pos) (tC (.bl b)):=fun _ _ _ H _ I h=>Constant_bool ⟨.bl b,H,I,rfl,h⟩
theorem aBE{j pos}:PE X (.Constant .none j pos) (tC .non):=fun _ _ _ H _ I h=>Constant_none ⟨.non,H,I,rfl,h⟩
theorem aBC{x j pos}:PE X (.Constant (.str x) j pos) (tC (.str x)):=fun _ _ _ H _ I h=>Calls.Constant_str ⟨.str x,H,I.tok _,⟨_,rfl⟩,h⟩
def Gl(X:Cx)(x:Str):Prop:=X.env.kindOf x=some .globalImplicit
theorem gE{E:su}{pins:sv}{s:Shared}{σ:St}{H:Hp}{x:Str}{u:Value}{pos:Pos}{Q:su}(I:Inv X pins σ H s)(hg:Gl X x)(hm:X.mg x=some u)(h:Q u s)
  (hd:(x == ("__debug__":Str))=false:=by decide):wpAny (model X.prog X.w) X.A (eval (.Name x pos) X.env) Q E s:=
 Calls.Name_function_global I.ok.kind hg (Calls.loadGlobal_global (by rw[I.ok.glob];exact I.mod.glob.keeps I.bk) hm h) hd
theorem iC{E:su}{pins:sv}{s:Shared}{σ:St}{H:Hp}{x:Str}{u:Value}{pos:Pos}{Q:su}(I:Inv X pins σ H s)(hg:Gl X x)(hm:X.mg x=none)(hv:bootBuiltins x=some u)(h:Q u s)
  (hn:x≠"__name__":=by decide) (hd:(x == ("__debug__":Str))=false:=by decide):wpAny (model X.prog X.w) X.A (eval (.Name x pos) X.env) Q E s:=by
 obtain⟨mb,h1,h2⟩:=I.mod.blt;exact Calls.Name_function_global I.ok.kind hg (Calls.loadGlobal_builtin (by rw[I.ok.glob];exact I.mod.glob.keeps I.bk) hm (by rw[I.ok.blt];exact h1.keeps I.bk) ((h2 x hn).trans hv) h) hd
theorem UN{x:Str}{v:V}{u:Value}{pos:Pos}(hg:Gl X x)(hm:X.mg x=some u)(r:RelV v u)(hd:(x == ("__debug__":Str))=false:=by decide):PE X (.Name x pos) (tC v):=
 fun _ _ _ H _ I h=>gE I hg hm ⟨v,H,I,r,h⟩ hd
theorem CL{x:Str}{v:V}{u:Value}{pos:Pos}(hg:Gl X x)(hm:X.mg x=none)(hv:bootBuiltins x=some u)(r:RelV v u)(hn:x≠"__name__":=by decide)(hd:(x == ("__debug__":Str))=false:=by decide):PE X (.Name x pos) (tC v):=
 fun _ _ _ H _ I h=>iC I hg hm hv ⟨v,H,I,r,h⟩ hn hd
variable {a b:Expr}{ta tb:TE}{pos:Pos}
def PC(X:Cx)(op:CmpOp)(a b:Expr)(t:TE):Prop:=
 ∀(pins:sv) (s:Shared) (σ:St) (H:Hp) (Q:VK),Inv X pins σ H s→t σ H Q →
  wpAny (model X.prog X.w) X.A (eval a X.env) (fun v s₁=>wpAny (model X.prog X.w) X.A (eval b X.env) (fun u s₂=>wpAny (model X.prog X.w) X.A (compareOp op v u) (EP X pins σ Q) X.xe s₂) X.xe s₁) X.xe s
theorem xT(b:Expr){op:CmpOp}(h:op≠.In)(h2:op≠.NotIn):behindInMarks op b=false:=by
 have e1:(op == CmpOp.In)=false:=by cases op<;>first|rfl|exact absurd rfl h
 have e2:(op == CmpOp.NotIn)=false:=by cases op<;>first|rfl|exact absurd rfl h2
 cases b<;>simp[behindInMarks,e1,e2]
noncomputable def tB(t:TE):TT:=fun σ H Q=>t σ H fun x H1=>∃c,x=.bl c∧Q c H1
theorem aBH{op:CmpOp}{t:TE}(h:PC X op a b t)(h1:behindInMarks op b=false:=by first|exact xT _ (by decide) (by decide)|rfl):PE X (.Compare a [op] [b] pos) t:=fun pins s σ H Q I hw=>wpAny_Compare1 (h pins s σ H Q I hw) h1
theorem aBx{op:CmpOp}{t:TE}(h:PC X op a b t)(h1:behindInMarks op b=false:=by first|exact xT _ (by decide) (by decide)|rfl):PT X (.Compare a [op] [b] pos) (tB t):=by
 intro pins s σ H Q I hw;refine wpAny_isTrue_Compare1 (af (h pins s σ H _ I hw) fun v s1 h1=>af h1 fun u s2 h2=>af h2 fun c s3 ⟨x,H1,I1,r1,q1⟩=>?_) h1
 obtain⟨d,rfl,q⟩:=q1;cases r1;exact wpAny_truthy_bool ⟨H1,I1,q⟩
theorem LC{e:Expr}{t:TE}(h:PE X e t)(he:∀whole,isTrue e X.env whole=(do let v ←whole;standAt e.pos;holding [v] (truthy v)):=by intro _;rfl):PT X e (tB t):=by
 intro pins s σ H Q I hw;refine isTrue_plain (af (h pins s σ H _ I hw) fun v s1 ⟨x,H1,I1,r1,q1⟩=>?_) (he _)
 obtain⟨d,rfl,q⟩:=q1;cases r1;exact wpAny_truthy_bool ⟨H1,I1,q⟩
variable {tA tB':TT}{rest:List Expr}
noncomputable def aKj(t u:TT):TT:=fun σ H Q=>t σ H fun c H1=>if c=true then u σ H1 Q else Q false H1
noncomputable def tOr(t u:TT):TT:=fun σ H Q=>t σ H fun c H1=>if c=true then Q true H1 else u σ H1 Q
noncomputable def aEz(t:TT):TT:=fun σ H Q=>t σ H fun c H1=>Q (!c) H1
theorem UA(ha:PT X a tA):PW X (.BoolOp .And [a] pos) tA:=by
 intro wh pins s σ H Q I h;refine isTrue_and (af (ha pins s σ H Q I h) fun c s1 e=>?_)
 cases c with
 |true=>exact isTrue_and_nil e
 |false=>exact e
theorem tM(ha:PT X a tA):PW X (.BoolOp .Or [a] pos) tA:=by
 intro wh pins s σ H Q I h;refine isTrue_or (af (ha pins s σ H Q I h) fun c s1 e=>?_)
 cases c with
 |false=>exact isTrue_or_nil e
 |true=>exact e
theorem LB(ha:PT X a tA)(hb:PW X (.BoolOp .And (b::rest) pos) tB'):PW X (.BoolOp .And (a::b::rest) pos) (aKj tA tB'):=by
 intro wh pins s σ H Q I h;refine isTrue_and (af (ha pins s σ H _ I h) fun c s1 ⟨H1,I1,q1⟩=>?_)
 cases c with
 |true=>exact hb wh pins s1 σ H1 Q I1 q1
 |false=>exact⟨H1,I1,q1⟩
theorem xD(ha:PT X a tA)(hb:PW X (.BoolOp .Or (b::rest) pos) tB'):PW X (.BoolOp .Or (a::b::rest) pos) (tOr tA tB'):=by
 intro wh pins s σ H Q I h;refine isTrue_or (af (ha pins s σ H _ I h) fun c s1 ⟨H1,I1,q1⟩=>?_)
 cases c with
 |true=>exact⟨H1,I1,q1⟩
 |false=>exact hb wh pins s1 σ H1 Q I1 q1
theorem zX(ha:PT X a tA):PT X (.UnaryOp .Not a pos) (aEz tA):=by
 intro pins s σ H Q I h;exact isTrue_not (ha pins s σ H (fun c H1=>Q (!c) H1) I h)
def aEC(ta tb:TE):TE:=fun σ H Q=>ta σ H fun x H1=>∃c,x=.bl c∧if c=true then tb σ H1 Q else Q (.bl false) H1
def aKd(ta tb:TE):TE:=fun σ H Q=>ta σ H fun x H1=>∃c,x=.bl c∧if c=true then Q (.bl true) H1 else tb σ H1 Q
theorem aBD{op}{t:TE}(h:PE X a t):PE X (.BoolOp op [a] pos) t:=fun pins s σ H Q I hw=>BoolOp_one (h pins s σ H Q I hw)
theorem LO(ha:PE X a ta)(hb:PE X (.BoolOp .And (b::rest) pos) tb):PE X (.BoolOp .And (a::b::rest) pos) (aEC ta tb):=by
 intro pins s σ H Q I h;refine BoolOp_and (af (ha pins s σ H _ I h) fun v s1 ⟨x,H1,I1,r1,q1⟩=>?_)
 obtain⟨c,rfl,q1⟩:=q1;cases r1;refine wpAny_truthy_bool ?_;cases c with
 |true=>exact hb pins s1 σ H1 Q I1 q1
 |false=>exact⟨.bl false,H1,I1,rfl,q1⟩
theorem ZA(ha:PE X a ta)(hb:PE X (.BoolOp .Or (b::rest) pos) tb):PE X (.BoolOp .Or (a::b::rest) pos) (aKd ta tb):=by
 intro pins s σ H Q I h;refine BoolOp_or (af (ha pins s σ H _ I h) fun v s1 ⟨x,H1,I1,r1,q1⟩=>?_)
 obtain⟨c,rfl,q1⟩:=q1;cases r1;refine wpAny_truthy_bool ?_;cases c with
 |false=>exact hb pins s1 σ H1 Q I1 q1
 |true=>exact⟨.bl true,H1,I1,rfl,q1⟩
def tIf(t:TT)(ta tb:TE):TE:=fun σ H Q=>t σ H fun c H1=>if c=true then ta σ H1 Q else tb σ H1 Q
theorem xK{c:Expr}(hc:PT X c tA)(ha:PE X a ta)(hb:PE X b tb):PE X (.IfExp c a b pos) (tIf tA ta tb):=by
 intro pins s σ H Q I h;refine wpAny_IfExp (af (hc pins s σ H _ I h) fun d s1 ⟨H1,I1,q1⟩=>?_)
 cases d with
 |true=>exact ha pins s1 σ H1 Q I1 q1
 |false=>exact hb pins s1 σ H1 Q I1 q1
end
def SqL(K:so)(H:Hp)(a:Addr)(xs:List V):Prop:=
 Rd H a (.lst xs) ∨
  ∃(o:Obj) (its:Array Value) (n:Nat),K.lookup a=some o∧o.cls=.type "list"∧o.dict=none∧o.data=.seq its n∧its.size≤sizeLine∧aR xs its.toList
def SqT(K:so)(H:Hp)(a:Addr)(xs:List V):Prop:=
 Rd H a (.tup xs) ∨
  ∃(o:Obj) (its:Array Value) (n:Nat),K.lookup a=some o∧o.cls=.type "tuple"∧o.data=.seq its n∧its.size≤sizeLine∧aR xs its.toList
noncomputable def aLy:Value→Option V
 |.none=>some .non
 |.bool b=>some (.bl b)
 |.int i _=>some (.int i)
 |.str x _=>some (.str x)
 |.bytes b _=>some (.byt b)
 |.float b _=>some (.flt b)
 |.ref a=>some (.ref a)
 |.type n=>some (.ty n)
 |_=>none
theorem RelV.abs{x:V}{u:Value}(r:RelV x u):aLy u=some x:=by
 cases x with
 |non=>cases r;rfl
 |bl _=>cases r;rfl
 |int _=>obtain⟨t,rfl⟩:=r;rfl
 |str _=>obtain⟨t,rfl⟩:=r;rfl
 |byt _=>obtain⟨t,rfl⟩:=r;rfl
 |flt _=>obtain⟨t,rfl⟩:=r;rfl
 |ref _=>cases r;rfl
 |ty _=>cases r;rfl
theorem RelV.inj{x y:V}{u:Value}(r:RelV x u)(q:RelV y u):x=y:=ox (r.abs.symm.trans q.abs)
theorem aR.inj:∀{xs ys:List V} {us:List Value},aR xs us→aR ys us→xs=ys
 |_,_,_,.nil,.nil=>rfl
 |_,_,_,.cons r t,.cons r' t'=>by rw[r.inj r',aR.inj t t']
section
variable {X:Cx}{pins:sv}{σ:St}{H:Hp}{s:Shared}{a:Addr}{xs ys:List V}
theorem SqL.of{K:so}(h:H a=some (.lst xs)):SqL K H a xs:=.inl (.inl h)
theorem SqT.of{K:so}(h:H a=some (.tup xs)):SqT K H a xs:=.inl (.inl h)
theorem Inv.list(I:Inv X pins σ H s)(h:SqL X.K H a xs):∃its:List Value,aR xs its∧PlainL s.heap a its.toArray∧xs.length≤sizeLine:=by
 rcases h with h|⟨o,its,n,hk,hc,hd,hs,hz,r⟩
 ·obtain⟨z,its,n,r,e⟩:=h.ok I.hok;exact⟨its,r,⟨_,n,e,rfl,rfl,rfl⟩,z⟩
 ·refine⟨its.toList,r,⟨o,n,I.kIn a o hk,hc,hd,by simpa using hs⟩,?_⟩
  have e:=r.length
  simp only[length_toList]at e;omega
theorem Inv.tuple(I:Inv X pins σ H s)(h:SqT X.K H a xs):∃its:List Value,aR xs its∧IsTup s.heap a its.toArray∧xs.length≤sizeLine:=by
 rcases h with h|⟨o,its,n,hk,hc,hs,hz,r⟩
 ·obtain⟨z,its,r,p⟩:=h.ok I.hok;exact⟨its,r,p,z⟩
 ·refine⟨its.toList,r,⟨o,I.kIn a o hk,hc,n,by simpa using hs⟩,?_⟩
  have e:=r.length
  simp only[length_toList]at e;omega
theorem Inv.list_inj(I:Inv X pins σ H s)(h:SqL X.K H a xs)(h':SqL X.K H a ys):xs=ys:=by
 obtain⟨its,r,⟨o,n,e,_,_,d⟩,_⟩:=I.list h;obtain⟨its',r',⟨o',n',e',_,_,d'⟩,_⟩:=I.list h';rw[e]at e';cases e';rw[d]at d';injection d' with d1 _
 have:its=its':=by simpa using congrArg Array.toList d1
 subst this;exact r.inj r'
theorem Inv.tuple_inj(I:Inv X pins σ H s)(h:SqT X.K H a xs)(h':SqT X.K H a ys):xs=ys:=by
 obtain⟨its,r,⟨o,e,_,n,d⟩,_⟩:=I.tuple h;obtain⟨its',r',⟨o',e',_,n',d'⟩,_⟩:=I.tuple h';rw[e]at e';cases e';rw[d]at d';injection d' with d1 _
 have:its=its':=by simpa using congrArg Array.toList d1
 subst this;exact r.inj r'
end
abbrev Cx.wish(X:Cx)(E:su):Cx:={ X with xe:=E }
abbrev Cx.nox(X:Cx):Cx:=X.wish fun _ _=>False
theorem Cx.Ok.wish{X:Cx}(ok:X.Ok)(E:su):(X.wish E).Ok:=
 ⟨ok.mod,ok.kind,ok.glob,ok.blt,ok.above,ok.inj,ok.has,ok.cab,ok.hd,ok.frames,ok.stk,ok.exf,ok.bs,ok.bsz,ok.noex,ok.exfs,ok.funs,ok.frf⟩
theorem Cx.Ok.unwish{X:Cx}{E:su}(ok:(X.wish E).Ok):X.Ok:=
 ⟨ok.mod,ok.kind,ok.glob,ok.blt,ok.above,ok.inj,ok.has,ok.cab,ok.hd,ok.frames,ok.stk,ok.exf,ok.bs,ok.bsz,ok.noex,ok.exfs,ok.funs,ok.frf⟩
section
variable {X:Cx}{pins:sv}{σ:St}{H:Hp}{s:Shared}{E:su}
theorem Inv.wish(I:Inv X pins σ H s)(E:su):Inv (X.wish E) pins σ H s:=⟨I.ok.wish E,I.os,I.bare,I.base,I.loc,I.cell,I.free,I.freeC,I.pin,I.hok,I.len⟩
theorem Inv.unwish(I:Inv (X.wish E) pins σ H s):Inv X pins σ H s:=⟨I.ok.unwish,I.os,I.bare,I.base,I.loc,I.cell,I.free,I.freeC,I.pin,I.hok,I.len⟩
theorem SP.unwish{D:Ends}{f:Flow}{s':Shared}(h:SP (X.wish E) pins D f s'):SP X pins D f s':=by
 cases f with
 |next=>obtain⟨σ',H',I,q⟩:=h;exact⟨σ',H',I.unwish,q⟩
 |brk=>obtain⟨σ',H',I,q⟩:=h;exact⟨σ',H',I.unwish,q⟩
 |cont=>obtain⟨σ',H',I,q⟩:=h;exact⟨σ',H',I.unwish,q⟩
 |ret u=>obtain⟨v,σ',H',I,r,q⟩:=h;exact⟨v,σ',H',I.unwish,r,q⟩
theorem PE.nox{e:Expr}{t:TE}(h:PE X.nox e t):PE X e t:=fun pins s σ H Q I hw =>
 qp (h pins s σ H Q (I.wish _) hw) (fun _ _ ⟨v,H',I',r,q⟩=>⟨v,H',I'.unwish,r,q⟩) fun _ _ z=>False.elim z
theorem PT.nox{e:Expr}{t:TT}(h:PT X.nox e t):PT X e t:=fun pins s σ H Q I hw =>
 qp (h pins s σ H Q (I.wish _) hw) (fun _ _ ⟨H',I',q⟩=>⟨H',I'.unwish,q⟩) fun _ _ z=>False.elim z
theorem PSs.nox{st:List Stmt}{t:TS}(h:PSs X.nox st t):PSs X st t:=fun pins s σ H D I hw =>
 qp (h pins s σ H D (I.wish _) hw) (fun _ _ q=>q.unwish) fun _ _ z=>False.elim z
end
section
variable {X:Cx}{st:Stmt}{rest:List Stmt}{t u:TS}{e:Expr}{te:TE}{pos:Pos}
def YR:TS:=fun D σ H=>D.nx σ H
def aKb(t u:TS):TS:=fun D σ H=>t { D with nx:=u D } σ H
theorem nY:PSs X [] YR:=fun _ _ σ H _ I h=>wpAny_execs_nil ⟨σ,H,I,h⟩
theorem xH(h1:PS X st t)(h2:PSs X rest u):PSs X (st::rest) (aKb t u):=by
 intro pins s σ H D I h;refine wpAny_execs_cons (af (h1 pins s σ H { D with nx:=u D } I h) fun f s1 q=>?_)
 cases f with
 |next =>
  obtain⟨σ',H',I',q⟩:=q;exact h2 pins s1 σ' H' D I' q
 |ret v=>exact q
 |brk=>exact q
 |cont=>exact q
theorem tN(h1:PS X st t):PSs X [st] t:=by
 intro pins s σ H D I h;refine wpAny_execs_cons (af (h1 pins s σ H D I h) fun f s1 q=>?_)
 cases f with
 |next=>exact wpAny_execs_nil q
 |ret v=>exact q
 |brk=>exact q
 |cont=>exact q
theorem UC:PS X (.Pass pos) YR:=fun _ _ σ H _ I h=>wpAny_Pass ⟨σ,H,I,h⟩
theorem Inv.quiet{pins:sv}{σ:St}{H:Hp}{s:Shared}(I:Inv X pins σ H s):interactive X.env=false:=by simp[interactive,I.ok.kind]
def aEA(te:TE):TS:=fun D σ H=>te σ H fun _ H1=>D.nx σ H1
theorem nZ(he:PE X e te)(hs:swapsWith e none pos.line X.env=pure false:=by rfl):PS X (.Expr e pos) (aEA te):=by
 intro pins s σ H D I h;exact wpAny_Expr_any (af (he pins s σ H _ I h) fun v s1 ⟨x,H1,I1,r1,q1⟩=>⟨σ,H1,I1,q1⟩) I.quiet hs
def aKc(te:TE):TS:=fun D σ H=>te σ H D.rt
theorem pJ(he:PE X e te):PS X (.Return (some e) pos) (aKc te):=by
 intro pins s σ H D I h;exact wpAny_Return_some (af (he pins s σ H _ I h) fun v s1 ⟨x,H1,I1,r1,q1⟩=>⟨x,σ,H1,I1,r1,q1⟩)
def aEx:TS:=fun D _ H=>D.rt .non H
theorem UB:PS X (.Return none pos) aEx:=fun _ _ σ H _ I h=>wpAny_Return_none ⟨.non,σ,H,I,rfl,h⟩
def aKf(c:TT)(t u:TS):TS:=fun D σ H=>c σ H fun b H1=>if b=true then t D σ H1 else u D σ H1
theorem xJ{c:Expr}{a b:List Stmt}{tc:TT}(hc:PT X c tc)(ha:PSs X a t)(hb:PSs X b u):PS X (.If c a b pos) (aKf tc t u):=by
 intro pins s σ H D I h;refine wpAny_If (af (hc pins s σ H _ I h) fun d s1 ⟨H1,I1,q1⟩=>?_)
 cases d with
 |true=>exact ha pins s1 σ H1 D I1 q1
 |false=>exact hb pins s1 σ H1 D I1 q1
end
abbrev TG:=V→St→Hp→(St→Hp→Prop)→Prop
abbrev i3:=List V→St→Hp→(St→Hp→Prop)→Prop
def PG(X:Cx)(target:Expr)(t:TG):Prop:=
 ∀(pins:sv) (s:Shared) (σ:St) (H:Hp) (v:V) (u:Value) (Q:St→Hp→Prop),Inv X pins σ H s→RelV v u→t v σ H Q →
  wpAny (model X.prog X.w) X.A (assign target X.env u) (fun _ s'=>∃σ' H',Inv X pins σ' H' s'∧Q σ' H') X.xe s
def nv(X:Cx)(ts:List Expr)(t:i3):Prop:=
 ∀(pins:sv) (s:Shared) (σ:St) (H:Hp) (vs:List V) (us:List Value) (Q:St→Hp→Prop),Inv X pins σ H s→aR vs us→t vs σ H Q →
  wpAny (model X.prog X.w) X.A (assignInOrder ((assignEach ts X.env).map (·.2)) us) (fun _ s'=>∃σ' H',Inv X pins σ' H' s'∧Q σ' H') X.xe s
abbrev aDi:=V→V→V→Hp→(Hp→Prop)→Prop
def aIV(X:Cx)(t:aDi):Prop:=
 ∀(pins:sv) (s:Shared) (σ:St) (H:Hp) (o i v:V) (ov iv u:Value) (Q:Hp→Prop),Inv X pins σ H s→RelV o ov→RelV i iv→RelV v u→t o i v H Q →
  wpAny (model X.prog X.w) X.A (setItem ov iv u) (fun _ s'=>∃H',Inv X pins σ H' s'∧Q H') X.xe s
section
variable {X:Cx}{pos:Pos}
def sF(i:Nat):TG:=fun v σ H Q=>Q (σ.set i (some v)) H
theorem CI{i:Nat}{x:Str}(hN:X.N.Nodup)(hi:X.N[i]?=some x)(hx:Loc X.env.scope x)(hf:X.fn x=true∨X.env.scope.names.lookup x=some .local:=by first|exact .inl rfl|exact .inr rfl|assumption):PG X (.Name x pos) (sF i):=by
 intro pins s σ H v u Q I r h;exact wpAny_assign_Name (wO I hN hi hx r (fun s' I'=>⟨_,H,I',h⟩) hf)
noncomputable def aLk:i3:=fun vs σ H Q=>vs=[]∧Q σ H
noncomputable def aHV(t:TG)(u:i3):i3:=fun vs σ H Q=>∃v r,vs=v::r∧t v σ H fun σ' H'=>u r σ' H' Q
theorem UL:nv X [] aLk:=by
 intro pins s σ H vs us Q I r h;obtain⟨e,h⟩:=h;subst e;cases r;exact assignInOrder_nil ⟨σ,H,I,h⟩
theorem LJ{e:Expr}{es:List Expr}{t:TG}{u:i3}(h1:PG X e t)(h2:nv X es u)
  (hs:(assignEach (e::es) X.env).map (·.2)=assign e X.env::(assignEach es X.env).map (·.2):=by rfl):nv X (e::es) (aHV t u):=by
 intro pins s σ H vs us Q I r h;obtain⟨v,vr,e1,h⟩:=h;subst e1;cases r with
 |cons r rr =>
  rw[hs];refine assignInOrder_cons (af (h1 pins s σ H _ _ _ I r h) fun _ s1 ⟨σ1,H1,I1,q1⟩=>?_)
  exact h2 pins s1 σ1 H1 _ _ Q I1 rr q1
def aLi(K:so)(n:Nat)(t:i3):TG:=fun v σ H Q=>∃a xs,v=.ref a∧SqT K H a xs∧xs.length=n∧t xs σ H Q
theorem aBz{es:List Expr}{k:Nat}{t:i3}{n:Nat}(hc:X.calm=true)(h:nv X es t)
  (hn:(assignEach es X.env).length=n:=by rfl) (eg:(assignEach es X.env).findIdx? (·.1)=none:=by rfl):PG X (.Tuple es k pos) (aLi X.K n t):=by
 intro pins s σ H v u Q I r hw;obtain⟨a,xs,e1,hq,hl,hw⟩:=hw;subst e1;cases r;obtain⟨its,rv,ht,hz⟩:=I.tuple hq;refine assign_Tuple_tuple (I.ok.hd hc) ht (by simp[hn,←hl,rv.length]) eg fun h' hx=>?_
 have I1:Inv X pins σ H { s with heap:=h' }:=I.kept (t':=s.toks) fun b o e=>hx b o (qh (p8 e)) e
 exact h pins _ σ H xs _ Q I1 (by simpa using rv) hw
def aLj(to ti:TE)(t:aDi):TG:=fun v σ H Q=>to σ H fun o H1=>ti σ H1 fun i H2=>t o i v H2 fun H3=>Q σ H3
theorem aBA{o i:Expr}{to ti:TE}{t:aDi}(ho:PE X o to)(hi:PE X i ti)(hs:aIV X t)
  (ha:∀v,assign (.Subscript o i pos) X.env v=(do
   let ov ←holding [v] (eval o X.env)
   let iv ←holding [v,ov] (eval i X.env)
   standAt pos
   holding [v,ov,iv] (setItem ov iv v)
   release [v,ov,iv] []):=by intro _;rfl):PG X (.Subscript o i pos) (aLj to ti t):=by
 intro pins s σ H v u Q I r h;rw[ha];refine qm (wpAny_holding (af (ho pins s σ H _ I h) fun ov s1 ⟨x,H1,I1,r1,q1⟩=>?_))
 refine qm (wpAny_holding (af (hi pins s1 σ H1 _ I1 q1) fun iv s2 ⟨y,H2,I2,r2,q2⟩=>?_))
 refine qm (wpAny_standAt (qm (wpAny_holding (af (hs pins s2 σ H2 x y v ov iv u _ I2 r1 r2 r q2) fun _ s3 ⟨H3,I3,q3⟩=>?_))))
 exact wpAny_release ⟨σ,H3,I3,q3⟩
def RU(te:TE)(g:TG):TS:=fun D σ H=>te σ H fun x H1=>g x σ H1 D.nx
theorem LG{tg e:Expr}{te:TE}{g:TG}(he:PE X e te)(hg:PG X tg g)(hs:swapsWithSole [tg] e pos.line X.env=pure false:=by rfl)(hw:swappedStores [tg] e X.env=pure none:=by rfl)
  (h1:(assignEach [tg] X.env).map (·.2)=[assign tg X.env]:=by rfl):PS X (.Assign [tg] e pos) (RU te g):=by
 intro pins s σ H D I h;refine wpAny_Assign_stores (af (he pins s σ H _ I h) fun v s1 ⟨x,H1,I1,r1,q1⟩=>?_) hs hw
 rw[h1];exact af (hg pins s1 σ H1 x v _ I1 r1 q1) fun _ s2 q=>q
theorem pI{i:Nat}{x:Str}{e:Expr}{te:TE}{pos':Pos}(hN:X.N.Nodup)(hi:X.N[i]?=some x)(hx:Loc X.env.scope x)(he:PE X e te)(hs:swapsWith e (some (.Name x pos')) pos.line X.env=pure false:=by rfl)(hf:X.fn x=true∨X.env.scope.names.lookup x=some .local:=by first|exact .inl rfl|exact .inr rfl|assumption) :
  PS X (.Assign [.Name x pos'] e pos) (RU te (sF i)):=by
 intro pins s σ H D I h;refine wpAny_Assign_Name (af (he pins s σ H _ I h) fun v s1 ⟨y,H1,I1,r1,q1⟩=>?_) hs
 exact wO I1 hN hi hx r1 (fun s2 I2=>⟨_,H1,I2,q1⟩) hf
end
section
variable {X:Cx}{pos:Pos}
end
structure It where
 go:Nat→Hp→Prop
 yld:Nat→Hp→V→Hp→Prop
 stop:Nat→Hp→Prop
def lW(X:Cx)(pins:sv)(H:Hp)(b:Addr):Prop:=
 H b=none∧b≠X.env.locals∧b∉X.fs∧(b∈X.ex∨X.s₀.heap.objs.size≤b)∧(∀x c,X.env.cells.lookup x=some c→c≠b)∧∀p∈X.pn++pins,p.1≠b
theorem Inv.fpOk{X:Cx}{pins:sv}{σ:St}{H H':Hp}{s:Shared}{b:Addr}(I:Inv X pins σ H s)(hb:s.heap.objs.size≤b)(hn:H' b=none):lW X pins H' b:=by
 refine⟨hn,Nat.ne_of_gt (oz I.lt hb),I.nofs hb,.inr (p9 I.sz hb),fun x c e z=>?_,fun p hp z=>?_⟩
 ·obtain⟨v,q⟩:=I.cell x c e;exact absurd (oz q.lt (by rw[z];exact hb)) (ql _)
 ·exact absurd (oz (p8 (I.pin p hp).1) (by rw[z];exact hb)) (ql _)
structure Turn (P:sr) (w:World) (K:so) (tg:Expr) (J:It) (fp:List Addr) (it:Addr) (tn:Nat→Heap→Prop):Prop where
 mem:it∈fp
 obj:∀i h,tn i h→∀b∈fp,∃o,h.get? b=some o∧∀v,o.data≠.cell v
 keep:∀i h h',tn i h→(∀b∈fp,∀o,h.get? b=some o→h'.get? b=some o)→tn i h'
 item:∀(X:Cx),X.prog=P→X.w=w→X.K=K→X.calm=true→∀(i:Nat) (pins:sv) (s:Shared) (σ:St) (H:Hp) (E:su),Inv X pins σ H s→(∀b∈fp,lW X pins H b)→tn i s.heap→J.go i H →
  wpAny (model P w) X.A (pyNext (.ref it)) (fun r s1=>∃u,r=some u ∧
   wpAny (model P w) X.A (letOwnedTupleGo tg (.ref it) u) (fun _ s2=>∃x H',Inv X pins σ H' s2∧RelV x u∧J.yld i H x H'∧tn (i+1) s2.heap∧∀b∈fp,H' b=none) E s1) E s
 done:∀(X:Cx),X.prog=P→X.w=w→X.K=K→X.calm=true→∀(i:Nat) (pins:sv) (s:Shared) (σ:St) (H:Hp) (E:su),Inv X pins σ H s→(∀b∈fp,lW X pins H b)→tn i s.heap→J.stop i H →
  wpAny (model P w) X.A (pyNext (.ref it)) (fun r s1=>r=none∧Inv X pins σ H s1) E s
 self:∀(A:Around) (i:Nat) (s:Shared) (Q:su) (E:su),tn i s.heap→Q (.ref it) s→wpAny (model P w) A (pyIter (.ref it)) Q E s
abbrev TI:=St→Hp→(It→Hp→Prop)→Prop
def PIE(X:Cx)(pins:sv)(σ:St)(tg:Expr)(R:It→Hp→Prop)(itv:Value)(s2:Shared):Prop:=
 ∃(it:Addr) (fp:List Addr) (tn:Nat→Heap→Prop) (J:It) (H':Hp),itv=.ref it∧Inv X pins σ H' s2∧Turn X.prog X.w X.K tg J fp it tn∧tn 0 s2.heap∧(∀b∈fp,lW X pins H' b)∧R J H'
def PI(X:Cx)(tg iter:Expr)(wi:TI):Prop:=
 ∀(pins:sv) (s:Shared) (σ:St) (H:Hp) (R:It→Hp→Prop),Inv X pins σ H s→wi σ H R →
  wpAny (model X.prog X.w) X.A (eval iter X.env) (fun v s1=>wpAny (model X.prog X.w) X.A (pyIter v) (PIE X pins σ tg R) X.xe s1) X.xe s
theorem DF{M:Model}{A:Around}{E:su}{s:Shared}{tg:Expr}{it:Addr}{u:Value}{o:Obj}{n:String}{vs:Array Value}{Q:Unit→Shared→Prop}(ho:s.heap.get? it=some o)(hc:o.cls=.type n)(hd:o.data=.fields vs)
  (hn:["enumerate","zip","dict_itemiterator","dict_reverseitemiterator","odict_iterator","itertools.zip_longest","itertools.pairwise"].contains n=false) (hQ:Q () s):wpAny M A (letOwnedTupleGo tg (.ref it) u) Q E s:=by
 unfold letOwnedTupleGo;cases tg<;>first
  |exact qo hQ
  | (cases u<;>first
    |exact qo hQ
    | (refine qm (wpAny_load ho ?_)
       rw[hc,hd];show wpAny M A (if (["enumerate","zip","dict_itemiterator","dict_reverseitemiterator","odict_iterator","itertools.zip_longest","itertools.pairwise"].contains n&&vs[0]? == some (rawInt _))=true then _ else _) Q E s
       rw[if_neg (by intro h;rw[hn,Bool.false_and]at h;cases h)]
       exact qo hQ))
noncomputable def Itl(K:so)(a:Addr):It:=
 ⟨fun i H=>∃xs x,SqL K H a xs∧xs[i]?=some x,fun i H x H'=>H'=H∧∀xs,SqL K H a xs→xs[i]?=some x,fun i H=>∃xs,SqL K H a xs∧xs.length≤i⟩
noncomputable def Itt(K:so)(a:Addr):It:=
 ⟨fun i H=>∃xs x,SqT K H a xs∧xs[i]?=some x,fun i H x H'=>H'=H∧∀xs,SqT K H a xs→xs[i]?=some x,fun i H=>∃xs,SqT K H a xs∧xs.length≤i⟩
noncomputable def kh(lo:Int)(n:Nat):It:=⟨fun i _=>i<n,fun i H x H'=>H'=H∧x=.int (lo+i),fun i _=>n≤i⟩
theorem rK{P:sr}{w:World}{K:so}{tg:Expr}(a it:Addr):Turn P w K tg (Itl K a) [it] it (fun i h=>h.IsListIter it a i) where
 mem:=by simp
 obj:=fun i h st b hb=>by
  have e:b=it:=by simpa using hb
  subst e;obtain⟨o,e,c,d⟩:=st;exact⟨o,e,fun v z=>by rw[d]at z;cases z⟩
 keep:=fun i h h' st k=>st.at fun o e=>k it (by simp) o e
 item:=by
  intro X hP hw hK hc i pins s σ H E I hf st hg;subst hP hw hK;obtain⟨xs,x,hq,hx⟩:=hg;obtain⟨its,rv,p,hz⟩:=I.list hq;obtain⟨u,hu,ru⟩:=rv.get hx;obtain⟨f0,f1,f2,f3,f4,f5⟩:=hf it (by simp)
  refine wpAny_pyNext_list_item st p.isList (x:=u) (by simpa using hu) fun h' d9 sb=>?_
  have I1:Inv X pins σ H { s with heap:=h' }:=I.turned (t':=s.toks) (fun b o hb e=>(sb.2 b hb).trans e) f0 f1 f3 f4 f5
  obtain⟨o,e,c,d⟩:=id d9;exact⟨u,rfl,DF (s:={ s with heap:=h' }) e c d (by decide) ⟨x,H,I1,ru,⟨rfl,fun ys hy=>by rw[I.list_inj hy hq];exact hx⟩,d9,fun b hb=>(hf b hb).1⟩⟩
 done:=by
  intro X hP hw hK hc i pins s σ H E I hf st hg;subst hP hw hK;obtain⟨xs,hq,hx⟩:=hg;obtain⟨its,rv,p,hz⟩:=I.list hq;obtain⟨f0,f1,f2,f3,f4,f5⟩:=hf it (by simp)
  have hl:=rv.length
  exact wpAny_pyNext_list_end (I.ok.hd hc) st p.isList (by simp;omega) fun h' eb=>⟨rfl,I.turned (t':=s.toks) (fun b o hb e=>eb b o hb e) f0 f1 f3 f4 f5⟩
 self:=fun _ _ _ _ _ st h=>wpAny_pyIter_listiter st h
theorem zJ{P:sr}{w:World}{K:so}{tg:Expr}(a it:Addr):Turn P w K tg (Itt K a) [it] it (fun i h=>h.IsTupleIter it a i) where
 mem:=by simp
 obj:=fun i h st b hb=>by
  have e:b=it:=by simpa using hb
  subst e;obtain⟨o,e,c,d⟩:=st;exact⟨o,e,fun v z=>by rw[d]at z;cases z⟩
 keep:=fun i h h' st k=>st.at fun o e=>k it (by simp) o e
 item:=by
  intro X hP hw hK hc i pins s σ H E I hf st hg;subst hP hw hK;obtain⟨xs,x,hq,hx⟩:=hg;obtain⟨its,rv,p,hz⟩:=I.tuple hq;obtain⟨u,hu,ru⟩:=rv.get hx;obtain⟨f0,f1,f2,f3,f4,f5⟩:=hf it (by simp)
  refine wpAny_pyNext_tuple_item st (show s.heap.IsTuple a its.toArray from p) (x:=u) (by simpa using hu) fun h' d9 sb=>?_
  have I1:Inv X pins σ H { s with heap:=h' }:=I.turned (t':=s.toks) (fun b o hb e=>(sb.2 b hb).trans e) f0 f1 f3 f4 f5
  obtain⟨o,e,c,d⟩:=id d9;exact⟨u,rfl,DF (s:={ s with heap:=h' }) e c d (by decide) ⟨x,H,I1,ru,⟨rfl,fun ys hy=>by rw[I.tuple_inj hy hq];exact hx⟩,d9,fun b hb=>(hf b hb).1⟩⟩
 done:=by
  intro X hP hw hK hc i pins s σ H E I hf st hg;subst hP hw hK;obtain⟨xs,hq,hx⟩:=hg;obtain⟨its,rv,p,hz⟩:=I.tuple hq;obtain⟨f0,f1,f2,f3,f4,f5⟩:=hf it (by simp)
  have hl:=rv.length
  exact wpAny_pyNext_tuple_end (I.ok.hd hc) st (show s.heap.IsTuple a its.toArray from p) (by simp;omega) fun h' eb=>⟨rfl,I.turned (t':=s.toks) (fun b o hb e=>eb b o hb e) f0 f1 f3 f4 f5⟩
 self:=fun _ _ _ _ _ st h=>wpAny_pyIter_tupleiter st h
theorem zK{P:sr}{w:World}{K:so}{tg:Expr}(it:Addr)(lo:Int)(n:Nat):Turn P w K tg (kh lo n) [it] it (fun i h=>IsRangeIter h it (lo+(i:Nat)*1) ((n:Int)-(i:Nat)) 1) where
 mem:=by simp
 obj:=fun i h st b hb=>by
  have e:b=it:=by simpa using hb
  subst e;exact⟨_,st,fun v z=>by
   have z':Data.fields _=Data.cell v:=z
   cases z'⟩
 keep:=fun i h h' st k=>k it (by simp) _ st
 item:=by
  intro X hP hw hK hc i pins s σ H E I hf st hg;subst hP hw hK;obtain⟨f0,f1,f2,f3,f4,f5⟩:=hf it (by simp)
  have W:=Walks.range (prog:=X.prog) (w:=X.w) (I.ok.hd hc) it lo 1 n
  refine W.item i s _ _ hg st fun v h' tk hv d9 kk=>?_
  obtain⟨t,rfl⟩:=hv;have I1:Inv X pins σ H { s with heap:=h',toks:=tk }:=I.turned (fun b o hb e=>kk b o (by simpa using hb) e) f0 f1 f3 f4 f5
  refine⟨_,rfl,DF (s:={ s with heap:=h',toks:=tk }) (n:="range_iterator") d9 rfl rfl (by decide) ⟨.int (lo+i),H,I1,⟨t,?_⟩,⟨rfl,rfl⟩,d9,fun b hb=>(hf b hb).1⟩⟩
  rw[Int.mul_one]
 done:=by
  intro X hP hw hK hc i pins s σ H E I hf st hg;subst hP hw hK;obtain⟨f0,f1,f2,f3,f4,f5⟩:=hf it (by simp)
  exact wpAny_pyNext_range_end (I.ok.hd hc) st (by have:n≤i:=hg;omega) fun h' eb=>⟨rfl,I.turned (t':=s.toks) (fun b o hb e=>eb b o hb e) f0 f1 f3 f4 f5⟩
 self:=fun _ _ _ _ _ st h=>wpAny_pyIter_rangeiter st h
section
variable {X:Cx}{tg:Expr}
def aHT(K:so)(tl:TE):TI:=fun σ H R=>tl σ H fun x H1=>∃a,x=.ref a∧(∃xs,SqL K H1 a xs)∧R (Itl K a) H1
theorem UK{l:Expr}{tl:TE}(hl:PE X l tl):PI X tg l (aHT X.K tl):=by
 intro pins s σ H R I h;refine af (hl pins s σ H _ I h) fun v s1 ⟨x,H1,I1,r1,q1⟩=>?_
 obtain⟨a,e,⟨xs,hq⟩,q⟩:=q1;subst e;cases r1;obtain⟨its,rv,p,hz⟩:=I1.list hq;refine wpAny_pyIter_list p.isList ?_;refine⟨s1.heap.objs.size,[s1.heap.objs.size],_,_,H1,rfl,I1.kept (t':=s1.toks) fun b o e=>om _ e,rK a _,⟨_,qr _ rfl,rfl,rfl⟩,fun b hb=>?_,q⟩
 have e:b=s1.heap.objs.size:=by simpa using hb
 subst e;exact I1.fpOk (oh _) (I1.hok.fresh (oh _))
theorem xB{pins:sv}{σ:St}{H:Hp}{s:Shared}{R:It→Hp→Prop}{E:su}{lo hi:Int}{t u v:Tok}{tk:Nat}(I:Inv X pins σ H s)(h1:-(2 ^ 62)≤lo)(h2:lo<2 ^ 62)(h3:-(2 ^ 62)≤hi)(h4:hi<2 ^ 62)
  (q:R (kh lo (hi-lo).toNat) H):wpAny (model X.prog X.w) X.A (pyIter (.ref s.heap.objs.size)) (PIE X pins σ tg R) E { s with heap:=s.heap.push { cls:=.type "range",data:=.fields #[.int lo t,.int hi u,.int 1 v] },toks:=tk }:=by
 refine wpAny_pyIter_range (IsRange.new ..) (small_one h1 h2 h3 h4) ?_;have I1:Inv X pins σ H { s with heap:=s.heap.push { cls:=.type "range",data:=.fields #[.int lo t,.int hi u,.int 1 v] },toks:=tk }:=I.kept fun b o e=>om _ e
 refine⟨(s.heap.push { cls:=.type "range",data:=.fields #[.int lo t,.int hi u,.int 1 v] }).objs.size,[(s.heap.push { cls:=.type "range",data:=.fields #[.int lo t,.int hi u,.int 1 v] }).objs.size],_,_,H,rfl,
  I1.kept (t':=tk) fun b o e=>om _ e,zK _ lo (hi-lo).toNat,?_,fun b hb=>?_,q⟩
 ·have e1:lo+((0:Nat):Int)*1=lo:=by simp
  have e2:(((hi-lo).toNat:Nat):Int)-((0:Nat):Int)=Builtin.Range.rangeSize lo hi 1:=by rw[rangeSize_one];split<;>omega
  show IsRangeIter _ _ (lo+((0:Nat):Int)*1) ((((hi-lo).toNat:Nat):Int)-((0:Nat):Int)) 1
  rw[e1,e2];exact qr _ rfl
 ·have e:b=(s.heap.push { cls:=.type "range",data:=.fields #[.int lo t,.int hi u,.int 1 v] }).objs.size:=by simpa using hb
  subst e;exact I1.fpOk (oh _) (I1.hok.fresh (oh _))
def aHS(ta:TA):TI:=fun σ H R=>ta σ H fun vs H1=>∃j:Int,vs=[.int j]∧-(2 ^ 62)≤j∧j<2 ^ 62∧R (kh 0 j.toNat) H1
def aHR(ta:TA):TI:=fun σ H R=>ta σ H fun vs H1=>∃i j:Int,vs=[.int i,.int j]∧(-(2 ^ 62)≤i∧i<2 ^ 62∧-(2 ^ 62)≤j∧j<2 ^ 62)∧R (kh i (j-i).toNat) H1
theorem HI{a:Expr}{ta:TA}{p pos:Pos}(hg:Gl X "range")(hm:X.mg "range" = none)(ha:PA X [a] ta)(hs:starEach [a] X.env=[(false,eval a X.env)]:=by rfl):PI X tg (.Call (.Name "range" p) [a] [] pos) (aHS ta):=by
 intro pins s σ H R I h;refine Call_ (iC I hg hm boot_range (pk (af (ha pos pins s σ H _ I h) fun us s1 ⟨vs,H1,I1,r1,q1⟩=>?_) hs rfl))
 obtain⟨j,e,q1,q2,q⟩:=q1;subst e;cases r1 with
 |cons r rr =>
  cases rr;obtain⟨t,rfl⟩:=r;exact call_range_1 (xB I1 (by omega) (by omega) q1 q2 (by simpa using q))
theorem HG{a b:Expr}{ta:TA}{p pos:Pos}(hg:Gl X "range")(hm:X.mg "range" = none)(ha:PA X [a,b] ta)(hs:starEach [a,b] X.env=[(false,eval a X.env),(false,eval b X.env)]:=by rfl)(jc:starEach [b] X.env=[(false,eval b X.env)]:=by rfl) :
  PI X tg (.Call (.Name "range" p) [a,b] [] pos) (aHR ta):=by
 intro pins s σ H R I h;refine Call_ (iC I hg hm boot_range (pk (af (ha pos pins s σ H _ I h) fun us s1 ⟨vs,H1,I1,r1,q1⟩=>?_) (by rw[hs,jc]) (by rw[jc];rfl)))
 obtain⟨i,j,e,⟨q1,q2,q3,q4⟩,q⟩:=q1;subst e;cases r1 with
 |cons r rr =>
  cases rr with
  |cons r' rr =>
   cases rr;obtain⟨t,rfl⟩:=r;obtain⟨t',rfl⟩:=r';exact call_range_2 (xB I1 q1 q2 q3 q4 q)
def aKg(wi:TI)(g:TG)(tb:TS):TS:=fun D σ H=>wi σ H fun J H1=>∃W:Nat→Nat→St→Hp→Prop,(∃m,W 0 m σ H1)∧∀i m σ H,W i m σ H →
 (J.stop i H∧D.nx σ H)∨(J.go i H∧∃N:St→Hp→Prop,(∀σ' H',N σ' H'→∃m',m'<m∧W (i+1) m' σ' H')∧∀x H',J.yld i H x H'→g x σ H' fun σ2 H2=>tb { D with nx:=N,ct:=N,bk:=D.nx } σ2 H2)
noncomputable def mE(fp:List Addr)(h:Heap):List (Addr×Obj):=fp.filterMap fun b=>(h.get? b).map fun o=>(b,o)
theorem iB{fp:List Addr}{h:Heap}{b:Addr}{o:Obj}(hb:b∈fp)(e:h.get? b=some o):(b,o)∈mE fp h:=mem_filterMap.mpr ⟨b,hb,by rw[e];rfl⟩
theorem HN{fp:List Addr}{h:Heap}{p:Addr×Obj}(hp:p∈mE fp h):p.1∈fp∧h.get? p.1=some p.2:=by
 obtain⟨b,hb,e⟩:=mem_filterMap.mp hp;cases q:h.get? b with
 |none=>rw[q]at e;cases e
 |some o =>
  rw[q]at e;have e':(b,o)=p:=ox e
  subst e';exact⟨hb,q⟩
theorem Inv.pinned{pins:sv}{σ:St}{H:Hp}{s:Shared}{fp:List Addr}(I:Inv X pins σ H s)(hf:∀b∈fp,lW X pins H b)(ho:∀b∈fp,∃o,s.heap.get? b=some o∧∀v,o.data≠.cell v):Inv X (pins++mE fp s.heap) σ H s:=
 I.pins_of fun p hp=>(sk.mp hp).elim (fun z=>I.pin p (qj _ z)) fun z=>by
  obtain⟨hb,e⟩:=HN z;obtain⟨f0,f1,f2,_⟩:=hf p.1 hb;obtain⟨o,e',d⟩:=ho p.1 hb;rw[e]at e';cases e';exact⟨e,f0,f1,f2,d⟩
theorem Inv.unpinned{pins pl:sv}{σ:St}{H:Hp}{s:Shared}(I:Inv X (pins++pl) σ H s):Inv X pins σ H s:=I.pins_of fun p hp=>I.pin p (qj _ (qk _ hp))
theorem LF{iter:Expr}{body:List Stmt}{wi:TI}{g:TG}{tb:TS}{pos:Pos}(hp:PassesOwn (model X.prog X.w) X.A X.env X.xe)(hc:X.calm=true)(hi:PI X tg iter wi)(hg:PG X tg g)(hb:PSs X body tb)
  (hs:∀x,foldedSetIterable iter X.env x=pure x:=by intro _;rfl):PS X (.For tg iter body [] pos) (aKg wi g tb):=by
 intro pins s σ H D I h;refine wpAny_For (af (hi pins s σ H _ I h) fun v s1 h1=>af h1 fun itv s2 h2=>?_) hs
 obtain⟨it,fp,tn,J,H2,e,I2,T,i5,f2,W,⟨m0,w0⟩,turn⟩:=h2;subst e;have dc:∀{H':Hp},(∀b∈fp,H' b=none)→∀b∈fp,lW X pins H' b:=fun hn b hb=>⟨hn b hb,(f2 b hb).2⟩
 refine codeAny_forLoop_any (fun n s'=>∃i σ' H',Inv X pins σ' H' s'∧tn i s'.heap∧(∀b∈fp,H' b=none)∧W i n σ' H') ?_ m0 ⟨0,σ,H2,I2,i5,fun b hb=>(f2 b hb).1,w0⟩
 rintro n s3 ⟨i,σ3,H3,I3,st3,fr3,w3⟩
 rcases turn i n σ3 H3 w3 with ⟨stop,qn⟩|⟨go,N,hN,step⟩
 ·refine wpAny_passesOwn hp (af (T.done X rfl rfl rfl hc i pins s3 σ3 H3 X.xe I3 (dc fr3) st3 stop) fun r s4 ⟨hr,I4⟩=>?_)
  subst hr;exact wpAny_execs_nil ⟨σ3,H3,I4,qn⟩
 ·refine wpAny_passesOwn hp (af (T.item X rfl rfl rfl hc i pins s3 σ3 H3 X.xe I3 (dc fr3) st3 go) fun r s4 ⟨u,hr,h4⟩=>?_)
  subst hr;refine wpAny_passesOwn hp (af h4 fun _ s5 ⟨x,H5,I5,r5,y5,st5,fr5⟩=>?_)
  have I5':=I5.pinned (dc fr5) (T.obj _ _ st5)
  refine wpAny_passesOwn hp (af (hg _ s5 σ3 H5 x u _ I5' r5 (step x H5 y5)) fun _ s6 ⟨σ6,H6,I6,q6⟩=>?_)
  refine wpAny_passesOwn hp (af (hb _ s6 σ6 H6 _ I6 q6) fun f s7 q7=>?_)
  have again:∀{σ7:St} {H7:Hp},Inv X (pins++mE fp s5.heap) σ7 H7 s7→N σ7 H7→∃m,m<n∧∃i σ' H',Inv X pins σ' H' s7∧tn i s7.heap∧(∀b∈fp,H' b=none)∧W i m σ' H':=fun {σ7 H7} I7 n7=>by
   obtain⟨m',hm,w7⟩:=hN σ7 H7 n7;refine⟨m',hm,i+1,σ7,H7,I7.unpinned,T.keep _ _ _ st5 fun b hb o e=>(I7.pin (b,o) (qj _ (qj _ (iB hb e)))).1,fun b hb=>?_,w7⟩
   obtain⟨o,e,d⟩:=T.obj _ _ st5 b hb;exact(I7.pin (b,o) (qj _ (qj _ (iB hb e)))).2.1
  cases f with
  |next=>obtain⟨σ7,H7,I7,n7⟩:=q7;exact again I7 n7
  |cont=>obtain⟨σ7,H7,I7,n7⟩:=q7;exact again I7 n7
  |brk=>obtain⟨σ7,H7,I7,q7⟩:=q7;exact⟨σ7,H7,I7.unpinned,q7⟩
  |ret v=>obtain⟨x7,σ7,H7,I7,r7,q7⟩:=q7;exact⟨x7,σ7,H7,I7.unpinned,r7,q7⟩
end
abbrev R2:=V→V→Hp→VK→Prop
def au(X:Cx)(f:Value→Value→Sem Value)(r:R2):Prop:=
 ∀(pins:sv) (s:Shared) (σ:St) (H:Hp) (x y:V) (v u:Value) (Q:VK),Inv X pins σ H s→RelV x v→RelV y u→r x y H Q →
  wpAny (model X.prog X.w) X.A (f v u) (EP X pins σ Q) X.xe s
def UnR(X:Cx)(f:Value→Sem Value)(r:V→Hp→VK→Prop):Prop:=
 ∀(pins:sv) (s:Shared) (σ:St) (H:Hp) (x:V) (v:Value) (Q:VK),Inv X pins σ H s→RelV x v→r x H Q →
  wpAny (model X.prog X.w) X.A (f v) (EP X pins σ Q) X.xe s
def eF(X:Cx)(f:Value)(r:List V→Hp→VK→Prop):Prop:=
 ∀(pins:sv) (s:Shared) (σ:St) (H:Hp) (xs:List V) (us:List Value) (Q:VK),Inv X pins σ H s→aR xs us→r xs H Q →
  wpAny (model X.prog X.w) X.A (call f us) (EP X pins σ Q) X.xe s
def aLz(X:Cx)(r:V→Hp→(Bool→Hp→Prop)→Prop):Prop:=
 ∀(pins:sv) (s:Shared) (σ:St) (H:Hp) (x:V) (v:Value) (Q:Bool→Hp→Prop),Inv X pins σ H s→RelV x v→r x H Q →
  wpAny (model X.prog X.w) X.A (truthy v) (TP X pins σ Q) X.xe s
def ic(r:R2)(ta tb:TE):TE:=fun σ H Q=>ta σ H fun x H1=>tb σ H1 fun y H2=>r x y H2 Q
def tUn(r:V→Hp→VK→Prop)(ta:TE):TE:=fun σ H Q=>ta σ H fun x H1=>r x H1 Q
noncomputable def rI(C:Int→Int→Prop)(g:Int→Int→V):R2:=fun x y H Q=>∃i j,x=.int i∧y=.int j∧C i j∧Q (g i j) H
noncomputable def ij(g:Int→Int→V):R2:=fun x y H Q=>∃i j,x=.int i∧y=.int j∧Q (g i j) H
noncomputable def rU(g:Int→V):V→Hp→VK→Prop:=fun x H Q=>∃i,x=.int i∧Q (g i) H
section
variable {X:Cx}{a b c:Expr}{ta tb tc:TE}{pos:Pos}
theorem aDf(ha:PE X a ta)(hb:PE X b tb){pins:sv}{s:Shared}{σ:St}{H:Hp}{R:V→V→Hp→Prop}(I:Inv X pins σ H s)
  (h:ta σ H fun x H1=>tb σ H1 fun y H2=>R x y H2) {Q:su} {f:Value→Value→Sem Value}
  (hf:∀v u s2 x y H2,Inv X pins σ H2 s2→RelV x v→RelV y u→R x y H2→wpAny (model X.prog X.w) X.A (f v u) Q X.xe s2) :
  wpAny (model X.prog X.w) X.A (eval a X.env) (fun v s₁=>wpAny (model X.prog X.w) X.A (eval b X.env) (fun u s₂=>wpAny (model X.prog X.w) X.A (f v u) Q X.xe s₂) X.xe s₁) X.xe s:=by
 refine af (ha pins s σ H _ I h) fun v s1 ⟨x,H1,I1,r1,q1⟩=>?_
 refine af (hb pins s1 σ H1 _ I1 q1) fun u s2 ⟨y,H2,I2,r2,q2⟩=>?_
 exact hf v u s2 x y H2 I2 r1 r2 q2
theorem ZC{op:Operator}{r:R2}(ho:au X (binaryOp op) r)(ha:PE X a ta)(hb:PE X b tb):PE X (.BinOp a op b pos) (ic r ta tb):=by
 intro pins s σ H Q I h;exact wpAny_BinOp (aDf ha hb I h fun v u s2 x y H2 I2 rx ry q=>ho pins s2 σ H2 x y v u Q I2 rx ry q)
theorem aGl{op:UnaryOp}{r:V→Hp→VK→Prop}(ho:UnR X (unaryOp op) r)(ha:PE X a ta):PE X (.UnaryOp op a pos) (tUn r ta):=by
 intro pins s σ H Q I h;exact UnaryOp_ (af (ha pins s σ H _ I h) fun v s1 ⟨x,H1,I1,r1,q1⟩=>ho pins s1 σ H1 x v Q I1 r1 q1)
theorem opI{f:Value→Value→Sem Value}{C:Int→Int→Prop}{g:Int→Int→Int}
  (rule:∀(i j:Int) (t u:Tok) (s:Shared) (Q:su) (E:su),C i j→Q (.int (g i j) s.toks) { s with toks:=s.toks+1 }→wpAny (model X.prog X.w) X.A (f (.int i t) (.int j u)) Q E s) :
  au X f (rI C fun i j=>.int (g i j)):=by
 intro pins s σ H x y v u Q I rx ry h;obtain⟨i,j,rfl,rfl,hc,q⟩:=h;obtain⟨t,rfl⟩:=rx;obtain⟨t',rfl⟩:=ry;exact rule i j t t' s _ _ hc ⟨.int (g i j),H,I.tok _,⟨_,rfl⟩,q⟩
theorem aGt{f:Value→Value→Sem Value}{g:Int→Int→Int}
  (rule:∀(i j:Int) (t u:Tok) (s:Shared) (Q:su) (E:su),Q (.int (g i j) s.toks) { s with toks:=s.toks+1 }→wpAny (model X.prog X.w) X.A (f (.int i t) (.int j u)) Q E s) :
  au X f (ij fun i j=>.int (g i j)):=by
 intro pins s σ H x y v u Q I rx ry h;obtain⟨i,j,rfl,rfl,q⟩:=h;obtain⟨t,rfl⟩:=rx;obtain⟨t',rfl⟩:=ry;exact rule i j t t' s _ _ ⟨.int (g i j),H,I.tok _,⟨_,rfl⟩,q⟩
theorem VE{f:Value→Value→Sem Value}{g:Int→Int→Bool}
  (rule:∀(i j:Int) (t u:Tok) (s:Shared) (Q:su) (E:su),Q (.bool (g i j)) s→wpAny (model X.prog X.w) X.A (f (.int i t) (.int j u)) Q E s) :
  au X f (ij fun i j=>.bl (g i j)):=by
 intro pins s σ H x y v u Q I rx ry h;obtain⟨i,j,rfl,rfl,q⟩:=h;obtain⟨t,rfl⟩:=rx;obtain⟨t',rfl⟩:=ry;exact rule i j t t' s _ _ ⟨.bl (g i j),H,I,rfl,q⟩
def aLL(i j:Int):Prop:=0<j∧j<1073741824
def aLK(i j:Int):Prop:=0≤j∧j≤1000000∧i.natAbs<2 ^ 64
def aDC(i j:Int):Prop:=(-(2 ^ 64)<i∧i<2 ^ 64)∨(-(2 ^ 64)<j∧j<2 ^ 64)
theorem aDC.ok{i j:Int}(h:aDC i j):IntMulOk i j:=by
 rcases h with ⟨h1,h2⟩|⟨h1,h2⟩
 ·exact .of_left (intBits_le_64 h1 h2)
 ·exact .of_right (intBits_le_64 h1 h2)
theorem aBO:au X (binaryOp .Add) (ij fun i j=>.int (i+j)):=aGt fun _ _ _ _ _ _ _ q=>add_int q
theorem aBJ:au X (binaryOp .Sub) (ij fun i j=>.int (i-j)):=aGt fun _ _ _ _ _ _ _ q=>sub_int q
theorem aBL:au X (binaryOp .Mult) (rI aDC fun i j=>.int (i*j)):=opI fun _ _ _ _ _ _ _ hc q=>mul_int q hc.ok
theorem UV:au X (binaryOp .FloorDiv) (rI aLL fun i j=>.int (i / j)):=opI fun i j _ _ _ _ _ hc q=>by
 have h1:(0:Int)<j:=hc.1
 have h2:j<1073741824:=hc.2
 exact floordiv_int (by omega) (by rw[Int.fdiv_eq_ediv_of_nonneg i (by omega)];exact q) (.inl (PyProof.noPylong_small (by omega)))
theorem aBM:au X (binaryOp .Mod) (rI (fun _ j=>0<j) fun i j=>.int (i % j)):=opI fun i j _ _ _ _ _ hc q=>by
 have h1:(0:Int)<j:=hc
 exact mod_int' (by omega) (by rw[Int.fmod_eq_emod_of_nonneg i (by omega)];exact q)
theorem aBK:au X (binaryOp .Pow) (rI aLK fun i j=>.int (i ^ j.toNat)):=opI fun _ _ _ _ _ _ _ hc q=>pow_int_small hc.1 hc.2.1 hc.2.2 q
theorem unI{f:Value→Sem Value}{g:Int→Int}
  (rule:∀(i:Int) (t:Tok) (s:Shared) (Q:su) (E:su),Q (.int (g i) s.toks) { s with toks:=s.toks+1 }→wpAny (model X.prog X.w) X.A (f (.int i t)) Q E s) :
  UnR X f (rU fun i=>.int (g i)):=by
 intro pins s σ H x v Q I rx h;obtain⟨i,rfl,q⟩:=h;obtain⟨t,rfl⟩:=rx;exact rule i t s _ _ ⟨.int (g i),H,I.tok _,⟨_,rfl⟩,q⟩
theorem aAL:UnR X (unaryOp .USub) (rU fun i=>.int (-i)):=unI fun _ _ _ _ _ q=>neg_int q
end
noncomputable def zQ:V→V→Bool
 |.non,.non=>true | .non,.int _=>true | .int _,.non=>true | .non,.bl _=>true | .bl _,.non=>true | .non,.str _=>true | .str _,.non=>true
 |.int _,.int _=>true | .bl _,.bl _=>true | .str _,.str _=>true | .byt _,.byt _=>true
 |.int _,.str _=>true | .str _,.int _=>true | .bl _,.str _=>true | .str _,.bl _=>true
 |_,_=>false
noncomputable def rNe:R2:=fun x y H Q=>zQ x y=true∧Q (.bl (!decide (x=y))) H
theorem XT{i j:Int}:decide (V.int i=V.int j)=(i == j):=by
 rw[Bool.eq_iff_iff];simp
theorem aCY{i j:Bool}:decide (V.bl i=V.bl j)=(i == j):=by
 rw[Bool.eq_iff_iff];simp
theorem XR{i j:Str}:decide (V.str i=V.str j)=(i == j):=by
 rw[Bool.eq_iff_iff];simp
theorem XU{i j:Array UInt8}:decide (V.byt i=V.byt j)=(i.toList == j.toList):=by
 rw[Bool.eq_iff_iff];cases i;cases j;simp
section
variable {X:Cx}{a b c:Expr}{ta tb tc:TE}{pos:Pos}
theorem cU{pins:sv}{σ:St}{H:Hp}{s:Shared}{Q:VK}{k k':Bool}(I:Inv X pins σ H s)(q:Q (.bl k) H)(e:k=k'):EP X pins σ Q (.bool k') s:=by
 subst e;exact⟨.bl k,H,I,rfl,q⟩
theorem aGo:au X (compareOp .NotEq) rNe:=by
 intro pins s σ H x y v u Q I rx ry h;obtain⟨hs,q⟩:=h;cases x with
 |non =>
  cases rx;cases y with
  |non=>cases ry;exact PySem.EqNone.ne_none_none (cU I q (by simp))
  |bl j=>cases ry;exact PySem.EqNone.ne_none_bool (cU I q (by simp))
  |int j=>obtain⟨t',rfl⟩:=ry;exact PySem.EqNone.ne_none_int (cU I q (by simp))
  |str j=>obtain⟨t',rfl⟩:=ry;exact PySem.EqNone.ne_none_str (cU I q (by simp))
  |_=>exact absurd (show false=true from hs) oN
 |bl i =>
  cases rx;cases y with
  |non=>cases ry;exact PySem.EqNone.ne_bool_none (cU I q (by simp))
  |bl j=>cases ry;exact ne_bool (cU I q (congrArg not aCY))
  |str j=>obtain⟨t',rfl⟩:=ry;exact PySem.EqMixed.ne_bool_str (cU I q (by simp))
  |_=>exact absurd (show false=true from hs) oN
 |int i =>
  obtain⟨t,rfl⟩:=rx;cases y with
  |non=>cases ry;exact PySem.EqNone.ne_int_none (cU I q (by simp))
  |int j=>obtain⟨t',rfl⟩:=ry;exact ne_int (cU I q (congrArg not XT))
  |str j=>obtain⟨t',rfl⟩:=ry;exact PySem.EqMixed.ne_int_str (cU I q (by simp))
  |_=>exact absurd (show false=true from hs) oN
 |str i =>
  obtain⟨t,rfl⟩:=rx;cases y with
  |non=>cases ry;exact PySem.EqNone.ne_str_none (cU I q (by simp))
  |bl j=>cases ry;exact PySem.EqMixed.ne_str_bool (cU I q (by simp))
  |int j=>obtain⟨t',rfl⟩:=ry;exact PySem.EqMixed.ne_str_int (cU I q (by simp))
  |str j=>obtain⟨t',rfl⟩:=ry;exact ne_str (cU I q (congrArg not XR))
  |_=>exact absurd (show false=true from hs) oN
 |byt i =>
  obtain⟨t,rfl⟩:=rx;cases y with
  |byt j=>obtain⟨t',rfl⟩:=ry;exact PySem.W.ne_bytes (cU I q (congrArg not XU))
  |_=>exact absurd (show false=true from hs) oN
 |_=>cases y<;>exact absurd (show false=true from hs) oN
theorem aGp:au X (compareOp .Lt) (ij fun i j=>.bl (decide (i<j))):=VE fun _ _ _ _ _ _ _ q=>lt_int q
theorem aGq:au X (compareOp .LtE) (ij fun i j=>.bl (decide (i≤j))):=VE fun _ _ _ _ _ _ _ q=>le_int q
theorem aGr:au X (compareOp .Gt) (ij fun i j=>.bl (decide (j<i))):=VE fun _ _ _ _ _ _ _ q=>gt_int q
theorem aGs:au X (compareOp .GtE) (ij fun i j=>.bl (decide (j≤i))):=VE fun _ _ _ _ _ _ _ q=>ge_int q
theorem aBN:au X (compareOp .Is) (fun x y H Q=>y=.non∧Q (.bl (decide (x=.non))) H):=by
 intro pins s σ H x y v u Q I rx ry h;obtain⟨rfl,q⟩:=h;cases ry;refine is_none_gen (cU I q ?_);cases x<;>first
  | (cases rx;rfl)
  | (obtain⟨t,rfl⟩:=rx;rfl)
theorem UU:au X (compareOp .IsNot) (fun x y H Q=>y=.non∧Q (.bl (!decide (x=.non))) H):=by
 intro pins s σ H x y v u Q I rx ry h;obtain⟨rfl,q⟩:=h;cases ry;refine isnot_none_gen (cU I q ?_);cases x<;>first
  | (cases rx;rfl)
  | (obtain⟨t,rfl⟩:=rx;rfl)
theorem aCb(b:Expr){op:CmpOp}(h:op≠.In:=by decide)(h2:op≠.NotIn:=by decide):behindInMarks op b=false:=by
 have e1:(op == CmpOp.In)=false:=by cases op<;>first|rfl|exact absurd rfl h
 have e2:(op == CmpOp.NotIn)=false:=by cases op<;>first|rfl|exact absurd rfl h2
 cases b<;>simp[behindInMarks,e1,e2]
theorem UP{op:CmpOp}{r:R2}(ho:au X (compareOp op) r)(ha:PE X a ta)(hb:PE X b tb)(hm:behindInMarks op b=false):PE X (.Compare a [op] [b] pos) (ic r ta tb):=by
 intro pins s σ H Q I h;exact wpAny_Compare1 (aDf ha hb I h fun v u s2 x y H2 I2 rx ry q=>ho pins s2 σ H2 x y v u Q I2 rx ry q) hm
noncomputable def KG(t:TE):TT:=fun σ H Q=>t σ H fun x H'=>∃k,x=.bl k∧Q k H'
theorem CF{op:CmpOp}{r:R2}(ho:au X (compareOp op) r)(ha:PE X a ta)(hb:PE X b tb)(hm:behindInMarks op b=false):PT X (.Compare a [op] [b] pos) (KG (ic r ta tb)):=by
 intro pins s σ H Q I h;refine wpAny_isTrue_Compare1 (af (ha pins s σ H _ I h) fun v s1 ⟨x,H1,I1,r1,q1⟩=>af (hb pins s1 σ H1 _ I1 q1) fun u s2 ⟨y,H2,I2,r2,q2⟩ =>
  af (ho pins s2 σ H2 x y v u _ I2 r1 r2 q2) fun c s3 ⟨z,H3,I3,r3,k,e,q3⟩=>?_) hm
 subst e;cases r3;exact wpAny_truthy_bool ⟨H3,I3,q3⟩
def zM(r r':R2)(ta tb tc:TE):TE:=fun σ H Q=>ta σ H fun x H1=>tb σ H1 fun y H2=>r x y H2 fun z H3=>∃k,z=.bl k ∧
 (if k=true then tc σ H3 fun w' H4=>r' y w' H4 Q else Q (.bl false) H3)
theorem xM{op c6:CmpOp}{r r':R2}(ho:au X (compareOp op) r)(fj:au X (compareOp c6) r')(ha:PE X a ta)(hb:PE X b tb)(hc:PE X c tc)
  (hm:lastMarks [op,c6] [b,c]=false:=by with_unfolding_all rfl):PE X (.Compare a [op,c6] [b,c] pos) (zM r r' ta tb tc):=by
 intro pins s σ H Q I h;refine Compare_chain (af (ha pins s σ H _ I h) fun v s1 ⟨x,H1,I1,r1,q1⟩=>chain_link (af (hb pins s1 σ H1 _ I1 q1) fun u s2 ⟨y,H2,I2,r2,q2⟩ =>
  af (ho pins s2 σ H2 x y v u _ I2 r1 r2 q2) fun d s3 ⟨z,H3,I3,r3,k,e,q3⟩=>?_)) hm
 subst e;cases r3;refine wpAny_truthy_bool ?_;cases k with
 |false=>exact ite_ff ⟨.bl false,H3,I3,rfl,q3⟩
 |true=>exact ite_tt (chain_last (af (hc pins s3 σ H3 _ I3 q3) fun w' s4 ⟨z',H4,I4,r4,q4⟩=>fj pins s4 σ H4 y z' u w' Q I4 r2 r4 q4))
theorem xG{op c6:CmpOp}{r r':R2}(ho:au X (compareOp op) r)(fj:au X (compareOp c6) r')(ha:PE X a ta)(hb:PE X b tb)(hc:PE X c tc)
  (hm:lastMarks [op,c6] [b,c]=false:=by with_unfolding_all rfl):PT X (.Compare a [op,c6] [b,c] pos) (KG (zM r r' ta tb tc)):=by
 intro pins s σ H Q I h;refine isTrue_chain (af (ha pins s σ H _ I h) fun v s1 ⟨x,H1,I1,r1,q1⟩=>test_link (af (hb pins s1 σ H1 _ I1 q1) fun u s2 ⟨y,H2,I2,r2,q2⟩ =>
  af (ho pins s2 σ H2 x y v u _ I2 r1 r2 q2) fun d s3 ⟨z,H3,I3,r3,k,e,q3⟩=>?_)) hm
 subst e;cases r3;refine wpAny_truthy_bool ?_;cases k with
 |false =>
  obtain⟨k',e',q'⟩:=q3;cases e';exact ite_ff ⟨H3,I3,q'⟩
 |true =>
  refine ite_tt (test_last (af (hc pins s3 σ H3 _ I3 q3) fun w' s4 ⟨z',H4,I4,r4,q4⟩=>af (fj pins s4 σ H4 y z' u w' _ I4 r2 r4 q4) fun d' s5 ⟨z2,H5,I5,r5,k2,e2,q5⟩=>?_))
  subst e2;cases r5;exact wpAny_truthy_bool ⟨H5,I5,q5⟩
def aDh(K:so)(x:V)(H:Hp)(k:Bool):Prop:=
 match x with
 |.non=>k=false
 |.bl b=>k=b
 |.int i=>k=(i != 0)
 |.str y=>y.length≤sizeLine∧k=((y.length:Int) != 0)
 |.byt y=>y.size≤sizeLine∧k=((y.size:Int) != 0)
 |.ref p=>(∃xs,SqL K H p xs∧k=!xs.isEmpty)∨(∃xs,SqT K H p xs∧k=!xs.isEmpty)∨∃kvs,H p=some (.dK kvs)∧k=!kvs.isEmpty
 |_=>False
theorem AR{κ:Type}{kvs:List (κ×V)}{vs:List (κ×Value)}(r:KV kvs vs):(!vs.isEmpty)=!kvs.isEmpty:=by
 cases r<;>rfl
theorem pU{xs:List V}{its:List Value}(r:aR xs its):(!its.toArray.isEmpty)=!xs.isEmpty:=by
 cases r<;>simp
theorem kJ:(sizeLine:Nat)<2 ^ 63:=by rw[sizeLine_eq];decide
theorem KB:aLz X (fun x H Q=>∃k,aDh X.K x H k∧Q k H):=by
 intro pins s σ H x v Q I rx h;obtain⟨k,e,q⟩:=h;have hl:=kJ
 have hs:sizeLine=16777216:=sizeLine_eq
 cases x with
 |non =>
  cases rx;have e':k=false:=e
  subst e';exact truthy_none ⟨H,I,q⟩
 |bl b =>
  cases rx;have e':k=b:=e
  subst e';exact wpAny_truthy_bool ⟨H,I,q⟩
 |int i =>
  obtain⟨t,rfl⟩:=rx;have e':k=(i != 0):=e
  subst e';exact PySem.P.truthy_int ⟨H,I,q⟩
 |str y =>
  obtain⟨t,rfl⟩:=rx;obtain⟨hy,e'⟩:y.length≤sizeLine∧k=((y.length:Int) != 0):=e;subst e';exact PySem.P.truthy_str (by omega) ⟨H,I.tok _,q⟩
 |byt y =>
  obtain⟨t,rfl⟩:=rx;obtain⟨hy,e'⟩:y.size≤sizeLine∧k=((y.size:Int) != 0):=e;subst e';exact PySem.W.truthy_bytes (by omega) ⟨H,I.tok _,q⟩
 |ref p =>
  cases rx;have e':(∃xs,SqL X.K H p xs∧k=!xs.isEmpty)∨(∃xs,SqT X.K H p xs∧k=!xs.isEmpty)∨∃kvs,H p=some (.dK kvs)∧k=!kvs.isEmpty:=e
  rcases e' with ⟨xs,hx,e'⟩|⟨xs,hx,e'⟩|⟨kvs,hx,e'⟩
  ·subst e';obtain⟨its,r,pl,hz⟩:=I.list hx;have hlen:=r.length
   exact wpAny_truthy_list pl.isList (by simp only[ot];omega) ⟨H,I.tok _,by rw[pU r];exact q⟩
  ·subst e';obtain⟨its,r,pl,hz⟩:=I.tuple hx;have hlen:=r.length
   exact truthy_tuple pl (by simp only[ot];omega) ⟨H,I.tok _,by rw[pU r];exact q⟩
  ·subst e';obtain⟨hz,hS,vs,r,m⟩:kvs.length≤sizeLine∧(p == sysModules)=false∧∃vs,KV kvs vs∧s.heap.DictOf (bK X.prog X.w) p vs:=I.hok p _ hx;have hlen:kvs.length=vs.length:=Paired.length r
   exact wpAny_truthy_dict hS m (by omega) ⟨H,I.tok _,by rw[AR r];exact q⟩
 |_=>exact(show False from e).elim
theorem LD(ha:PE X a ta)(he:∀whole,isTrue a X.env whole=(do let v ←whole;standAt a.pos;holding [v] (truthy v))) :
  PT X a (fun σ H Q=>ta σ H fun x H'=>∃k,aDh X.K x H' k∧Q k H'):=by
 intro pins s σ H Q I h;exact isTrue_plain (af (ha pins s σ H _ I h) fun v s1 ⟨x,H1,I1,r1,q1⟩=>KB pins s1 σ H1 x v Q I1 r1 q1) (he _)
theorem AC:au X (binaryOp .Add) (fun x y H Q=>∃i j,x=.str i∧y=.str j∧i.length+j.length≤sizeLine∧Q (.str (i++j)) H):=by
 intro pins s σ H x y v u Q I rx ry h;obtain⟨i,j,rfl,rfl,hz,q⟩:=h;obtain⟨t,rfl⟩:=rx;obtain⟨t',rfl⟩:=ry;exact add_str (fun t' tk=>⟨.str (i++j),H,I.tok _,⟨_,rfl⟩,q⟩) hz
theorem vals1{x:V}{us:List Value}(r:aR [x] us):∃u,us=[u]∧RelV x u:=by
 cases r with
 |cons r1 r2=>cases r2;exact⟨_,rfl,r1⟩
theorem vals2{x y:V}{us:List Value}(r:aR [x,y] us):∃u w',us=[u,w']∧RelV x u∧RelV y w':=by
 cases r with
 |cons r1 r2 =>
  cases r2 with
  |cons r3 r4=>cases r4;exact⟨_,_,rfl,r1,r3⟩
theorem JI(hc:X.calm=true):eF X (.builtin "max") (fun xs H Q=>∃i j,xs=[.int i,.int j]∧Q (.int (if j > i then j else i)) H):=by
 intro pins s σ H xs us Q I r h;obtain⟨i,j,rfl,q⟩:=h;obtain⟨u,w',rfl,⟨t,rfl⟩,⟨t',rfl⟩⟩:=vals2 r;refine max_two_ints (I.ok.hd hc) fun h' tk k=>⟨_,H,I.kept k,?_,q⟩
 by_cases hj:j > i
 ·rw[if_pos hj,if_pos hj];exact⟨_,rfl⟩
 ·rw[if_neg hj,if_neg hj];exact⟨_,rfl⟩
theorem JH(hc:X.calm=true):eF X (.builtin "min") (fun xs H Q=>∃i j,xs=[.int i,.int j]∧Q (.int (if j<i then j else i)) H):=by
 intro pins s σ H xs us Q I r h;obtain⟨i,j,rfl,q⟩:=h;obtain⟨u,w',rfl,⟨t,rfl⟩,⟨t',rfl⟩⟩:=vals2 r;refine min_two_ints (I.ok.hd hc) fun h' tk k=>⟨_,H,I.kept k,?_,q⟩
 by_cases hj:j<i
 ·rw[if_pos hj,if_pos hj];exact⟨_,rfl⟩
 ·rw[if_neg hj,if_neg hj];exact⟨_,rfl⟩
theorem sL:eF X (.type "int") (fun xs H Q=>(∃i,xs=[.int i]∧Q (.int i) H)∨∃k,xs=[.bl k]∧Q (.int (if k then 1 else 0)) H):=by
 intro pins s σ H xs us Q I r h
 rcases h with ⟨i,rfl,q⟩|⟨k,rfl,q⟩
 ·obtain⟨u,rfl,t,rfl⟩:=vals1 r;exact call_int_int ⟨.int i,H,I,⟨_,rfl⟩,q⟩
 ·obtain⟨u,rfl,r1⟩:=vals1 r;cases r1;exact call_int_bool ⟨.int (if k then 1 else 0),H,I.tok _,⟨_,rfl⟩,q⟩
end
structure ObjM (h:Heap) (x dx C:Addr) (mA:t5):Prop where
 obj:h.get? x=some (instObj C dx)
 ns:h.Ns1 dx mA
 ne:dx≠x
theorem HY{h:Heap}{dx:Addr}{mA:t5}(n:h.Ns1 dx mA):∃od,h.get? dx=some od∧∀name,lookIn name od=some (mA name):=by
 obtain⟨o,es,ep,ho,hd,hk,_,hm⟩:=n;refine⟨o,ho,fun name=>?_⟩
 have e:=hm name
 unfold nsFind findBy at e;rw[←Array.find?_toList]at e;unfold lookIn;rw[hd];dsimp only;split
 ·rename_i y q;rw[q]at e;exact congrArg some e
 ·rename_i q;rw[q]at e;have a:es.toList.any (·.refKey)=false:=by
   rw[List.any_eq_false];intro y hy;obtain⟨z,t,hkey⟩:=hk y (Array.mem_toList_iff.mp hy);simp[DictEntry.refKey,hkey]
  have a':¬es.toList.any (·.refKey)=true:=by rw[a];exact oN
  rw[if_neg a'];exact congrArg some e
theorem ObjM.look{h:Heap}{x dx C:Addr}{mA:t5}(I:ObjM h x dx C mA):∃od,PySem.W.InstAt h x (instObj C dx) C (some od)∧∀name,lookIn name od=some (mA name):=
 let ⟨od,ho,hl⟩:=HY I.ns
 ⟨od,⟨I.obj,rfl,rfl,ho⟩,hl⟩
section
variable {prog:sr}{w:World}{A:Around}{E:su}{s:Shared}{K:so}{x dx C f:Addr}{mA:t5}{name:Str}{v:Value}
theorem get_map{expr:Bool}{Q:su}(X:K.In s.heap)(I:ObjM s.heap x dx C mA)(hg:plainGet K C name=true)(hh:hasDictIn K C=true)
  (ha:findIn K (.ref C) name=some none) (hv:mA name=some v) (hv':handedIn v=true) (h:Q v { s with toks:=s.toks+1 }) :
  wpAny (model prog w) A (getAttr (.ref x) name expr) Q E s:=by
 obtain⟨od,J,hl⟩:=I.look;exact PySem.W.get_value X J (plainGet_of hg).1 (PySem.W.findObj_own hh ha rfl (by rw[hl,hv])) hv' h
theorem NT{pl:Sem Bool}{Q:Value×List Value→Shared→Prop}(X:K.In s.heap)(I:ObjM s.heap x dx C mA)(hg:plainGet K C name=true)
  (hf:findIn K (.ref C) name=some (some (.ref f))) (ht:isFn K (.ref f)=true) (hv:mA name=none) (h:Q (.ref f,[.ref x]) s) :
  wpAny (model prog w) A (getMethod (.ref x) name pl) Q E s:=by
 obtain⟨od,J,hl⟩:=I.look;exact PySem.W.method_fn X J (plainGet_of hg).1 (plainGet_of hg).2 hf (qd.mp ht) (by show (lookIn name od).map (·.isSome)=some false;rw[hl,hv];rfl) h
theorem SH{ns:List Str}{Q:Unit→Shared→Prop}(X:K.In s.heap)(I:ObjM s.heap x dx C mA)
  (hs:findIn K (.ref C) "__setattr__" = some (some (.builtin "object.__setattr__"))) (hp:plainOver K C=true) (ht:takerIn K C name=some none) (hh:hasDictIn K C=true)
  (hw:PySem.Within mA ns) (hsz:ns.length≤sizeLine)
  (h:∀h',ObjM h' x dx C (fun y=>if y=name then some v else mA y)→Heap.SameBut dx s.heap h'→Q () { s with heap:=h',toks:=s.toks+2 }) :
  wpAny (model prog w) A (setAttr (.ref x) name v) Q E s:=by
 obtain⟨od,J,hl⟩:=I.look;refine PySem.W.set_plain X J hs (PySem.W.osa_open (s:={ s with toks:=s.toks+1 }) (r:=none) X J hp ht fun b=>?_)
 obtain⟨cd,hc,hd'⟩:=PySem.W.any_some hh;have hx:s.heap.get? x=some ⟨.ref C,some dx,.plain,#[]⟩:=I.obj
 refine qm (qo (qm (qm (wpAny_loadPart hx (qm (PySem.W.Looks.here (s:={ s with toks:=s.toks+1 }) (PySem.W.looks_clsIn X hc) ?_))))))
 rw[hd'];refine qo (a:=some dx) (qm (qo (qm ?_)));refine wpAny_nsSet1 (s:={ s with toks:=s.toks+1 }) I.ns fun h' hn2 jc=>?_
 obtain⟨oD,esD,epD,hoD,hdD,hcD⟩:=hn2.count (PySem.Within.cons name v hw);refine qm (wpAny_lookBehind hoD (by rw[hdD];exact pastItsLine_dict (p9 hcD (by rw[qy];omega))) ?_)
 exact qo (h _ ⟨(jc.2 _ (Ne.symm I.ne)).trans I.obj,hn2,I.ne⟩ jc)
theorem MP{R:Result→Shared→Prop}{vs:List Value}{kw:List (Str×Value)}(X:K.In s.heap)(hm:makesIn K C=true)
  (hi:findIn K (.ref C) "__init__" = some (some (.ref f))) (hf:PySem.W.typeIn K (.ref f)=some (.type "function"))
  (h:codeAny (model prog w) (A.under (.builtin "type.__call__" ⟨.ref C::vs,kw⟩)) (.call (.ref f) ⟨.ref (s.heap.objs.size+1)::vs,kw⟩) (PySem.W.InitBack (s.heap.objs.size+1) R)
   {s with heap:=(s.heap.push emptyDict).push (instObj C s.heap.objs.size) }) :
  codeAny (model prog w) A (.call (.ref C) ⟨vs,kw⟩) R s:=by
 obtain⟨hh,g,d,t,os⟩:=s;exact PySem.W.make_core (PySem.W.makes_of X hm) (PySem.W.looks_findIn X hi) (fun self=>PySem.W.bind_fn X self hf) (.inl rfl) h
end
noncomputable def iU(f:Str)(v:V):List (Str×V)→List (Str×V)
 |[]=>[(f,v)]
 | (g,x)::r=>if g=f then(g,v)::r else(g,x)::iU f v r
theorem nG(f g:Str)(v:V):∀fs:List (Str×V),(iU f v fs).lookup g=if g=f then some v else fs.lookup g
 |[]=>by
  show List.lookup g [(f,v)]=_
  by_cases h:g=f
  ·have hb:(g == f)=true:=qd.mpr h
   simp only[List.lookup,hb,if_pos h]
  ·have hb:(g == f)=false:=qg.mpr h
   simp only[List.lookup,hb,if_neg h]
 | (k,x)::r=>by
  have ih:=nG f g v r
  rw[show iU f v ((k,x)::r)=(if k=f then(k,v)::r else(k,x)::iU f v r) from rfl]
  by_cases hk:k=f
  ·rw[if_pos hk]
   by_cases h:g=k
   ·have hb:(g == k)=true:=qd.mpr h
    simp only[List.lookup,hb,if_pos (h.trans hk)]
   ·have hb:(g == k)=false:=qg.mpr h
    simp only[List.lookup,hb,if_neg (fun e:g=f=>h (e.trans hk.symm))]
  ·rw[if_neg hk]
   by_cases h:g=k
   ·have hb:(g == k)=true:=qd.mpr h
    simp only[List.lookup,hb,if_neg (fun e:g=f=>hk (h.symm.trans e))]
   ·have hb:(g == k)=false:=qg.mpr h
    simp only[List.lookup,hb];exact ih
theorem mS(f:Str)(v:V):∀fs:List (Str×V),f∈(iU f v fs).map (·.1)∧∀g,g∈fs.map (·.1)→g∈(iU f v fs).map (·.1)
 |[]=>⟨by simp[iU],fun g h=>by simp at h⟩
 | (k,x)::r=>by
  obtain⟨i1,i2⟩:=mS f v r;rw[show iU f v ((k,x)::r)=(if k=f then(k,v)::r else(k,x)::iU f v r) from rfl]
  by_cases hk:k=f
  ·rw[if_pos hk];subst hk;exact⟨by simp,fun g h=>by simpa using h⟩
  ·rw[if_neg hk];refine⟨?_,fun g h=>?_⟩
   ·rw[qb];exact oq _ i1
   ·rw[qb]at h ⊢
    rcases pj.mp h with e|e
    ·exact pj.mpr (.inl e)
    ·exact oq _ (i2 g e)
theorem nI(f:Str)(v:V):∀fs:List (Str×V),(iU f v fs).length≤fs.length+1
 |[]=>by simp[iU]
 | (k,x)::r=>by
  have ih:=nI f v r
  rw[show iU f v ((k,x)::r)=(if k=f then(k,v)::r else(k,x)::iU f v r) from rfl]
  by_cases hk:k=f
  ·rw[if_pos hk,qy,qy];omega
  ·rw[if_neg hk,qy,qy];omega
theorem iW.some_of{v:V}{o:Option Value}(r:iW (some v) o):∃u,o=some u∧RelV v u:=by
 cases o with
 |none=>exact(show False from r).elim
 |some u=>exact⟨u,rfl,r⟩
theorem iW.none_of{o:Option Value}(r:iW none o):o=none:=by
 cases o with
 |none=>rfl
 |some u=>exact(show False from r).elim
theorem IJ{v:V}{u:Value}(r:RelV v u):handedIn u=true:=by
 cases v with
 |non=>cases (show u=Value.none from r);rfl
 |bl b=>cases (show u=Value.bool b from r);rfl
 |int i=>obtain⟨t,e⟩:=(show ∃t,u=Value.int i t from r);cases e;rfl
 |str x=>obtain⟨t,e⟩:=(show ∃t,u=Value.str x t from r);cases e;rfl
 |byt b=>obtain⟨t,e⟩:=(show ∃t,u=Value.bytes b t from r);cases e;rfl
 |flt b=>obtain⟨t,e⟩:=(show ∃t,u=Value.float b t from r);cases e;rfl
 |ref a=>cases (show u=Value.ref a from r);rfl
 |ty n=>cases (show u=Value.type n from r);rfl
section
variable {P:sr}{w:World}{H H':Hp}{h h':Heap}{a C dx:Addr}{fs fs':List (Str×V)}
theorem oB(hok:HOk P w H h)(e:H a=some (.ins C dx fs)):∃mA,ObjM h a dx C mA∧(∀f,iW (fs.lookup f) (mA f))∧PySem.Within mA (fs.map (·.1))∧fs.length≤1000∧H dx=some (.own a):=by
 obtain⟨d,z,ne,ob,mA,n,r,q⟩:=(show bV P w H h a (.ins C dx fs) from hok a _ e)
 exact⟨mA,⟨ob,n,ne⟩,r,q,z,d⟩
end
structure Cls (K:so) (C:Addr):Prop where
 pg:plainGet K C Str.empty=true
 hd:hasDictIn K C=true
 po:plainOver K C=true
 sa:findIn K (.ref C) "__setattr__" = some (some (.builtin "object.__setattr__"))
theorem Cls.get{K:so}{C:Addr}(c:Cls K C)(f:Str):plainGet K C f=true:=c.pg
def cK(K:so)(C:Addr)(f:Str):Prop:=findIn K (.ref C) f=some none
theorem cK.taker{K:so}{C:Addr}{f:Str}(n:cK K C f):takerIn K C f=some none:=by
 unfold takerIn;rw[show findIn K (.ref C) f=some none from n]
 rfl
structure Con (K:so) (C:Addr) (f:Str) (v:V) (u:Value):Prop where
 at_:findIn K (.ref C) f=some (some u)
 rel:RelV v u
 get:specialIn K u "__get__" = some none
 cp:PySem.W.copiedNames.contains f=false
structure fu (K:so) (C:Addr) (m:Str) (f:Addr):Prop where
 at_:findIn K (.ref C) m=some (some (.ref f))
 fn:isFn K (.ref f)=true
 kp:keepIn K (.ref f)=true
section
variable {X:Cx}{pins:sv}{σ:St}{H:Hp}{s:Shared}{a C dx:Addr}{fs:List (Str×V)}{f:Str}{v:V}{A:Around}{E:su}
theorem AW{b:Bool}{Q:su}(I:Inv X pins σ H s)(e:H a=some (.ins C dx fs))(c:Cls X.K C)(n:cK X.K C f)(l:fs.lookup f=some v)
  (h:∀u s',Inv X pins σ H s'→RelV v u→Q u s'):wpAny (model X.prog X.w) A (getAttr (.ref a) f b) Q E s:=by
 obtain⟨mA,O,r,_,_,_⟩:=oB I.hok e;obtain⟨u,hu,ru⟩:=iW.some_of (v:=v) (o:=mA f) (by rw[←l];exact r f)
 exact get_map I.kIn O (c.get f) c.hd n hu (IJ ru) (h u _ (I.tok _) ru)
theorem pZ{m:Str}{g:Addr}{pl:Sem Bool}{Q:Value×List Value→Shared→Prop}(I:Inv X pins σ H s)(e:H a=some (.ins C dx fs))(c:Cls X.K C)(k:fu X.K C m g)(l:fs.lookup m=none)
  (h:Q (.ref g,[.ref a]) s):wpAny (model X.prog X.w) A (getMethod (.ref a) m pl) Q E s:=by
 obtain⟨mA,O,r,_,_,_⟩:=oB I.hok e;have hn:mA m=none:=iW.none_of (by rw[←l];exact r m)
 exact NT I.kIn O (c.get m) k.at_ k.fn hn h
theorem zP{y:V}{u:Value}{Q:Unit→Shared→Prop}(I:Inv X pins σ H s)(e:H a=some (.ins C dx fs))(c:Cls X.K C)(n:cK X.K C f)(hl:fs.length<1000)(ry:RelV y u)
  (h:∀s',Inv X pins σ (upd H a (.ins C dx (iU f y fs))) s'→Q () s'):wpAny (model X.prog X.w) A (setAttr (.ref a) f u) Q E s:=by
 obtain⟨mA,O,r,wi,_,ho⟩:=oB I.hok e;have hz:(fs.map (·.1)).length≤sizeLine:=by rw[og,sizeLine_eq];omega
 refine SH I.kIn O c.sa c.po n.taker c.hd wi hz fun h' O' sb=>h _ ?_
 have hd:∃o,h'.get? dx=some o:=let ⟨o,_,_,e',_⟩:=O'.ns;⟨o,e'⟩
 refine I.write (x:=a) (e:=dx) (by rw[e];exact True.intro) (.inr ho) (fun b q hb z=>(sb.2 b hb).trans z) hd ?_
 refine⟨by rw[aQ O.ne];exact ho,?_,O.ne,O'.obj,_,O'.ns,fun g=>?_,fun g hg=>?_⟩
 ·have:=nI f y fs;omega
 ·show iW ((iU f y fs).lookup g) (if g=f then some u else mA g)
  rw[nG]
  by_cases q:g=f
  ·rw[if_pos q,if_pos q];exact ry
  ·rw[if_neg q,if_neg q];exact r g
 ·by_cases q:g=f
  ·rw[q];exact(mS f y fs).1
  ·refine(mS f y fs).2 g (wi g fun z=>hg ?_)
   show (if g=f then some u else mA g)=none
   rw[if_neg q];exact z
theorem Inv.made(I:Inv X pins σ H s):Inv X pins σ (upd (upd H s.heap.objs.size (.own (s.heap.objs.size+1))) (s.heap.objs.size+1) (.ins C s.heap.objs.size []))
  {s with heap:=(s.heap.push emptyDict).push (instObj C s.heap.objs.size) }:=by
 have e1:(s.heap.push emptyDict).get? s.heap.objs.size=some emptyDict:=qr s.heap rfl
 have e2:((s.heap.push emptyDict).push (instObj C s.heap.objs.size)).get? (s.heap.objs.size+1)=some (instObj C s.heap.objs.size):=by
  have:=qr (s.heap.push emptyDict) (o:=instObj C s.heap.objs.size) rfl
  rwa [size_push]at this
 have e3:(s.heap.push emptyDict).Ns s.heap.objs.size (fun _=>none):=⟨emptyDict,#[],_,e1,rfl,(fun e he=>absurd he (by simp)),fun _=>rfl⟩
 have I1:=I.laid (a:=s.heap.objs.size) (o:=.own (s.heap.objs.size+1)) (h':=s.heap.push emptyDict) (t':=s.toks) (fun b u q=>om _ q) (oh _) ⟨_,e1⟩
 refine I1.laid (a:=s.heap.objs.size+1) (o:=.ins C s.heap.objs.size []) (t':=s.toks) (fun b u q=>om _ q) (Nat.le_of_eq (size_push _ _)) ?_
 have ne:s.heap.objs.size≠s.heap.objs.size+1:=qh (Nat.lt_succ_self _)
 refine⟨by rw[aQ ne,aV],rz _,ne,e2,fun _=>none,(Heap.Ns1.of_empty e3).at fun o q=>om _ q,fun _=>True.intro,fun y hy=>absurd rfl hy⟩
theorem YE{prog:sr}{w:World}{env:Env}{e:Expr}{f:Str}{pos:Pos}{s:Shared}{Q:su}(hb:attributeBase e f env (eval e env)=eval e env)
  (h:wpAny (model prog w) A (eval e env) (fun o s₁=>wpAny (model prog w) A (getAttr o f true) Q E s₁) E s):wpAny (model prog w) A (eval (.Attribute e f pos) env) Q E s:=
 Attribute_any_ h (by rw[arm_eval_Attribute,hb])
end
def aKh(K:so)(ta:TE)(f:Str):TE:=fun σ H Q=>ta σ H fun x H1=>∃a C dx fs v,x=.ref a∧H1 a=some (.ins C dx fs)∧Cls K C∧cK K C f∧fs.lookup f=some v∧Q v H1
def aKu(K:so)(ta tv:TE)(f:Str):TS:=fun D σ H=>tv σ H fun y H1=>ta σ H1 fun x H2=>∃a C dx fs,x=.ref a∧H2 a=some (.ins C dx fs)∧Cls K C∧cK K C f∧fs.length<1000 ∧
 D.nx σ (upd H2 a (.ins C dx (iU f y fs)))
section
variable {X:Cx}{o e value:Expr}{f:Str}{pos pos' tpos:Pos}{ta tv:TE}
theorem aBG(he:PE X e ta)(hb:attributeBase e f X.env (eval e X.env)=eval e X.env):PE X (.Attribute e f pos) (aKh X.K ta f):=by
 intro pins s σ H Q I h;refine YE hb (af (he pins s σ H _ I h) fun u s1 ⟨x,H1,I1,rx,a,C,dx,fs,v,ex,ea,c,n,l,q⟩=>?_)
 subst ex;obtain rfl:u=Value.ref a:=rx;exact AW I1 ea c n l fun u' s2 I2 ru=>⟨v,H1,I2,ru,q⟩
theorem aBy(ha:PE X o ta)(hv:PE X value tv)(hs:swapsWith value (some (.Attribute o f pos')) pos.line X.env=pure false):PS X (.Assign [.Attribute o f pos'] value pos) (aKu X.K ta tv f):=by
 intro pins s σ H D I h;refine plainObj_wpAny_Assign_Attribute (af (hv pins s σ H _ I h) fun u s1 ⟨y,H1,I1,ry,q⟩=>af (ha pins s1 σ H1 _ I1 q) fun ov s2 ⟨x,H2,I2,rx,a,C,dx,fs,ex,ea,c,n,l,q2⟩=>?_) hs
 subst ex;obtain rfl:ov=Value.ref a:=rx;exact zP I2 ea c n l ry fun s3 I3=>⟨σ,_,I3,q2⟩
end
section
variable {X:Cx}{pins:sv}{σ:St}{H:Hp}{s:Shared}{A:Around}{E:su}{Q:su}{c:Value}{b:Bool}
inductive bw (K:so) (H:Hp):V→Value→Prop where
 |non:bw K H .non (.type "NoneType")
 |bl (x:Bool):bw K H (.bl x) (.type "bool")
 |int (i:Int):bw K H (.int i) (.type "int")
 |str (x:Str):bw K H (.str x) (.type "str")
 |flt (x:UInt64):bw K H (.flt x) (.type "float")
 |lst {a:Addr} {xs:List V} (e:H a=some (.lst xs)):bw K H (.ref a) (.type "list")
 |frz {a:Addr} {o:Obj} {xs:List V} (e:H a=some (.frz o (.lst xs))):bw K H (.ref a) (.type "list")
 |tup {a:Addr} {xs:List V} (e:H a=some (.tup xs)):bw K H (.ref a) (.type "tuple")
 |dK {a:Addr} {kvs:List (Key×V)} (e:H a=some (.dK kvs)):bw K H (.ref a) (.type "dict")
 |dT {a:Addr} {kvs:List (List Key×V)} (e:H a=some (.dT kvs)):bw K H (.ref a) (.type "dict")
 |ins {a C dx:Addr} {fs:List (Str×V)} (e:H a=some (.ins C dx fs)) (cl:Cls K C) (ha:findIn K (.ref C) "__class__" = some (some (.builtin "object.__class__")))
   (hn:specialIn K (.builtin "object.__class__") "__get__" = some (some (.builtin "getset_descriptor.__get__"))) (jz:takesIn K (.builtin "object.__class__")=some true)
   (hm:mroIn K C (.type "object")=some true):bw K H (.ref a) (.ref C)
theorem gU{x:V}{u t:Value}(I:Inv X pins σ H s)(rx:RelV x u)(ty:bw X.K H x t)(e:kitOne X.K t c=some b)(h:∀tk,Q (.bool b) { s with toks:=tk }) :
  wpAny (model X.prog X.w) A (call (.builtin "isinstance") [u,c]) Q E s:=by
 cases ty with
 |non=>cases (show u=Value.none from rx);exact kia_one PySem.W.kitx_none I.kIn True.intro e (fun z=>nomatch z) h
 |bl y=>cases (show u=Value.bool y from rx);exact kia_one PySem.W.kitx_bool I.kIn True.intro e (fun z=>nomatch z) h
 |int i=>obtain⟨t,q⟩:=(show ∃t,u=Value.int i t from rx);cases q;exact kia_one PySem.W.kitx_int I.kIn True.intro e (fun z=>nomatch z) h
 |str y=>obtain⟨t,q⟩:=(show ∃t,u=Value.str y t from rx);cases q;exact kia_one PySem.W.kitx_str I.kIn True.intro e (fun z=>nomatch z) h
 |flt y=>obtain⟨t,q⟩:=(show ∃t,u=Value.float y t from rx);cases q;exact kia_one PySem.W.kitx_float I.kIn True.intro e (fun z=>nomatch z) h
 | @lst a xs ea =>
  cases (show u=Value.ref a from rx)
  obtain⟨_,_,n,_,h1⟩:=(show bV X.prog X.w H s.heap a (.lst xs) from I.hok a _ ea)
  exact kia_one kitx_list I.kIn ⟨_,h1,rfl⟩ e (fun z=>nomatch z) h
 | @frz a ob xs ea =>
  cases (show u=Value.ref a from rx)
  obtain⟨_,_,_,n,_,h1⟩:=(show bV X.prog X.w H s.heap a (.frz ob (.lst xs)) from I.hok a _ ea)
  exact kia_one kitx_list I.kIn ⟨_,h1,rfl⟩ e (fun z=>nomatch z) h
 | @tup a xs ea =>
  cases (show u=Value.ref a from rx)
  obtain⟨_,_,_,p⟩:=(show bV X.prog X.w H s.heap a (.tup xs) from I.hok a _ ea)
  obtain⟨o,h1,h2,_⟩:=p;exact kia_one PySem.W.kitx_tuple I.kIn ⟨o,h1,h2⟩ e (fun z=>nomatch z) h
 | @dK a kvs ea =>
  cases (show u=Value.ref a from rx)
  obtain⟨_,_,vs,_,p⟩:=(show bV X.prog X.w H s.heap a (.dK kvs) from I.hok a _ ea)
  obtain⟨o,es,ep,h1,h2,_⟩:=p;exact kia_one kitx_dict I.kIn ⟨o,h1,h2.1⟩ e (fun z=>nomatch z) h
 | @dT a kvs ea =>
  cases (show u=Value.ref a from rx)
  obtain⟨_,_,xs,_,o,es,ep,h1,h2,_⟩:=(show bV X.prog X.w H s.heap a (.dT kvs) from I.hok a _ ea)
  exact kia_one kitx_dict I.kIn ⟨o,h1,h2.1⟩ e (fun z=>nomatch z) h
 | @ins a C dx fs ea cl ha hn jz hm =>
  cases (show u=Value.ref a from rx)
  obtain⟨mA,O,_⟩:=oB I.hok ea;obtain⟨od,J,_⟩:=O.look;exact kia_one (PySem.W.kitx_own (cl.get _) cl.hd ha hn jz hm) I.kIn J e (fun z=>nomatch z) h
end
structure Room (k:Nat) (A:Around):Prop where
 hd:A.handled=none
 dp:A.depth+3*k+5<recursionLimit
 un:A.units+16*k+200<cLine
theorem Room.mono{j k:Nat}{A:Around}(r:Room k A)(h:j≤k):Room j A:=⟨r.hd,by have:=r.dp;omega,by have:=r.un;omega⟩
theorem Room.deeper{k:Nat}{A:Around}(r:Room (k+1) A)(env:Env):Room k (A.deeper env):=
 ⟨r.hd,by have:=r.dp;show A.depth+1+3*k+5<_;omega,by have:=r.un;show A.units+3+16*k+200<_;omega⟩
theorem AL{A:Around}{C:Addr}{us:List Value}{kw:List (Str×Value)}:(A.under (.builtin "type.__call__" ⟨.ref C::us,kw⟩)).depth=A.depth+1:=by
 first|rfl|simp[Around.under,Code.weight,Code.isCreation,Code.isGuard,Code.isCaller,Code.frames,Code.isFrame,guardIds]
theorem AK{A:Around}{C:Addr}{us:List Value}{kw:List (Str×Value)}:(A.under (.builtin "type.__call__" ⟨.ref C::us,kw⟩)).units=A.units+1:=by
 first|rfl|simp[Around.under,Code.cUnits,Code.frames,Code.isFrame]
theorem Room.make{k:Nat}{A:Around}(r:Room (k+1) A)(C:Addr)(us:List Value)(kw:List (Str×Value)):Room k (A.under (.builtin "type.__call__" ⟨.ref C::us,kw⟩)):=
 ⟨r.hd,by have:=r.dp;rw[AL];omega,by have:=r.un;rw[AK];omega⟩
theorem Room.depth{k:Nat}{A:Around}(r:Room k A):A.depth<recursionLimit:=by have:=r.dp;omega
theorem Room.units{k:Nat}{A:Around}(r:Room k A):A.units+64<cLine:=by have:=r.un;omega
def aAN:TA:=fun _ H Q=>Q [] H
def YS(ta:TE)(tr:TA):TA:=fun σ H Q=>ta σ H fun x H1=>tr σ H1 fun xs H2=>Q (x::xs) H2
section
variable {X:Cx}{e:Expr}{es:List Expr}{te:TE}{t:TA}{pos:Pos}
theorem hV:PA X [] aAN:=fun _ _ _ _ H Q I h=>Calls.spliced_nil ⟨[],H,I,.nil,h⟩
theorem bX(ha:PE X e te)(hr:PA X es t)(hs:starEach (e::es) X.env=(false,eval e X.env)::starEach es X.env:=by rfl):PA X (e::es) (YS te t):=by
 intro pos pins s σ H Q I h;rw[hs];show wpAny _ _ (spliced ((false,eval e X.env)::backTo pos (starEach es X.env))) _ _ s
 refine Calls.spliced_cons (af (ha pins s σ H _ I h) fun u s1 ⟨x,H1,I1,r1,q1⟩=>?_)
 exact af (hr pos pins s1 σ H1 _ I1 q1) fun us s2 ⟨xs,H2,I2,r2,q2⟩=>⟨x::xs,H2,I2,.cons r1 r2,q2⟩
def aKa(t:TA):TE:=fun σ H Q=>t σ H fun xs H1=>xs.length≤sizeLine∧∀p,H1 p=none→Q (.ref p) (upd H1 p (.tup xs))
def aKe(t:TA):TE:=fun σ H Q=>t σ H fun xs H1=>xs.length≤sizeLine∧∀p,H1 p=none→Q (.ref p) (upd H1 p (.lst xs))
theorem aBB{x1}(h:PA X es t):PE X (.Tuple es x1 pos) (aKa t):=by
 intro pins s σ H Q I hq;refine wpAny_Tuple_spliced (af (h pos pins s σ H _ I hq) fun us s1 ⟨xs,H1,I1,r,z,q⟩=>⟨by rw[←r.length];exact z,?_⟩)
 have hf:H1 s1.heap.objs.size=none:=I1.hok.fresh (oh _)
 refine⟨.ref s1.heap.objs.size,upd H1 s1.heap.objs.size (.tup xs),I1.laid (t':=s1.toks) (fun b u e=>om _ e) (oh _) ?_,rfl,q _ hf⟩
 exact⟨z,us,r,⟨_,qr _ rfl,rfl,_,rfl⟩⟩
theorem LK(h:PA X es t):PE X (.List es pos) (aKe t):=by
 intro pins s σ H Q I hq;refine wpAny_List_spliced (af (h pos pins s σ H _ I hq) fun us s1 ⟨xs,H1,I1,r,z,q⟩=>⟨by rw[←r.length];exact z,?_⟩)
 have hf:H1 s1.heap.objs.size=none:=I1.hok.fresh (oh _)
 refine⟨.ref s1.heap.objs.size,upd H1 s1.heap.objs.size (.lst xs),I1.laid (t':=s1.toks) (fun b u e=>om _ e) (oh _) ?_,rfl,q _ hf⟩
 exact⟨z,us,0,r,qr _ rfl⟩
end
abbrev Sp:=List V→Hp→VK→XK→Prop
abbrev ao:=List Env→Hp→Shared→XK→Value→Shared→Prop
structure Env0 (P:sr) (w:World) (K:so) (mg:t5) (base:Heap) (A:Around) (outer:List Env) (s:Shared) (H:Hp):Prop where
 frames:A.frames=some outer
 mod:Mod K mg base
 bs:∀b o,base.get? b=some o→s.heap.get? b=some o∧H b=none
 bsz:base.objs.size≤s.heap.objs.size
 funs:s.heap.FunFrames base outer
 frf:∀b∈frs outer,H b=none
 hok:HOk P w H s.heap
 bare:AllBare s.gens
def CE(outer:List Env)(P:sr)(w:World)(H:Hp)(s:Shared)(Q:VK)(u:Value)(s':Shared):Prop:=
 ∃v H',s'.os=s.os∧AllBare s'.gens∧Un (frs outer) [] H H' s.heap s'.heap∧HOk P w H' s'.heap∧RelV v u∧Q v H'
def CR(CX:ao)(outer:List Env)(P:sr)(w:World)(H:Hp)(s:Shared)(Q:VK)(E:XK)(r:Result)(s':Shared):Prop:=
 match r with
 |.ok (.ret u)=>CE outer P w H s Q u s'
 |.ok _=>False
 |.error e=>CX outer H s E e s'
structure FnOk (P:sr) (w:World) (K:so) (mg:t5) (base:Heap) (CX:ao) (k:Nat) (f:Addr) (fd:sq) (ps:List Str) (sp:Sp):Prop where
 len:∀vs H Q E,sp vs H Q E→vs.length=ps.length
 run:∀(A:Around) (outer:List Env) (s:Shared) (H:Hp) (args:Args) (us:List Value) (vs:List V) (Q:VK) (E:XK),Room k A→Env0 P w K mg base A outer s H→BindsTo s fd args (ps.zip us)→aR vs us→sp vs H Q E →
  codeAny (model P w) A (.call (.ref f) args) (CR CX outer P w H s Q E) s
theorem FnOk.mono{P:sr}{w:World}{K:so}{mg:t5}{base:Heap}{CX:ao}{j k:Nat}{f:Addr}{fd:sq}{ps:List Str}{sp:Sp}(F:FnOk P w K mg base CX j f fd ps sp)(h:j≤k) :
  FnOk P w K mg base CX k f fd ps sp:=⟨F.len,fun A outer s H args us vs Q E hr=>F.run A outer s H args us vs Q E (hr.mono h)⟩
theorem FnOk.imp{P:sr}{w:World}{K:so}{mg:t5}{base:Heap}{CX:ao}{k:Nat}{f:Addr}{fd:sq}{ps:List Str}{sp sp':Sp}(F:FnOk P w K mg base CX k f fd ps sp)
  (h:∀vs H Q E,sp' vs H Q E→sp vs H Q E):FnOk P w K mg base CX k f fd ps sp':=
 ⟨fun vs H Q E q=>F.len vs H Q E (h _ _ _ _ q),fun A outer s H args us vs Q E hr he hb hv hs=>F.run A outer s H args us vs Q E hr he hb hv (h _ _ _ _ hs)⟩
theorem Env0.make{P:sr}{w:World}{K:so}{mg:t5}{base:Heap}{A:Around}{outer:List Env}{s:Shared}{H:Hp}(e:Env0 P w K mg base A outer s H)(C:Addr)(us:List Value)(kw:List (Str×Value)) :
  Env0 P w K mg base (A.under (.builtin "type.__call__" ⟨.ref C::us,kw⟩)) outer s H:=⟨by first|exact e.frames|(simpa [Around.under,Code.envs,Code.isFrame,pushEnvs] using e.frames),e.mod,e.bs,e.bsz,e.funs,e.frf,e.hok,e.bare⟩
section
variable {X:Cx}{pins:sv}{σ:St}{H:Hp}{s s':Shared}
theorem Inv.env0(I:Inv X pins σ H s):Env0 X.prog X.w X.K X.mg X.base X.A X.stack s H:=
 ⟨I.ok.frames,I.ok.mod,I.bs,p9 I.ok.bsz I.sz,I.stack,I.stkFree,I.hok,I.bare⟩
theorem Inv.after{Q:VK}{u:Value}(I:Inv X pins σ H s)(h:CE X.stack X.prog X.w H s Q u s'):EP X pins σ Q u s':=by
 obtain⟨v,H',os,bare,un,hok,r,q⟩:=h;obtain⟨hh,g,d,t,os'⟩:=s';obtain rfl:os'=s.os:=os;exact⟨v,H',I.call (h':=hh) (g':=g) (d':=d) (t':=t) (ch:=[]) un hok bare (fun b z=>absurd z (by simp)),r,q⟩
end
def BY(sp:Sp)(dvs:List V)(E:XK)(t:TA):TE:=fun σ H Q=>t σ H fun vs H1=>sp (vs++dvs) H1 Q E
def Binds(K:so)(fd:sq)(ps:List Str)(ds:List Value):Prop:=
 ∀(s:Shared) (us:List Value),K.In s.heap→(us++ds).length=ps.length→BindsTo s fd ⟨us,[]⟩ (ps.zip (us++ds))
theorem Binds.all{K:so}{fd:sq}{ps:List Str}(h:∀us:List Value,us.length=ps.length→bindArgs fd ⟨us,[]⟩=pure (ps.zip us)):Binds K fd ps []:=fun s us _ hl=>by
 rw[q9]at hl ⊢;exact .of_eq (h us hl)
def gP(CX:ao)(X:Cx)(E:XK):Prop:=∀(pins:sv) (σ:St) (H:Hp) (s:Shared) (e:Value) (s':Shared),Inv X pins σ H s→CX X.stack H s E e s'→X.xe e s'
section
variable {X:Cx}{CX:ao}{k:Nat}{f C:Addr}{fd:sq}{ps:List Str}{sp:Sp}{dvs:List V}{ds:List Value}{E:XK}{x m:Str}{p pos apos:Pos}{e o:Expr}{es:List Expr}{ta:TE}{t:TA}
theorem tK{pins:sv}{σ:St}{H:Hp}{s:Shared}{Q:VK}{us:List Value}{vs:List V}(F:FnOk X.prog X.w X.K X.mg X.base CX k f fd ps sp)(hr:Room k X.A)(hb:Binds X.K fd ps ds)(hd:aR dvs ds)(hx:gP CX X E)
  (I:Inv X pins σ H s) (r:aR vs us) (h:sp (vs++dvs) H Q E):wpAny (model X.prog X.w) X.A (call (.ref f) us) (EP X pins σ Q) X.xe s:=by
 have r2:aR (vs++dvs) (us++ds):=r.append hd
 have hl:(us++ds).length=ps.length:=by rw[←r2.length];exact F.len _ _ _ _ h
 refine wpAny_call (codeAny_mono (F.run X.A X.stack s H ⟨us,[]⟩ (us++ds) (vs++dvs) Q E hr I.env0 (hb s us I.kIn hl) r2 h) fun r s' hq=>?_)
 cases r with
 |error e=>exact hx pins σ H s e s' I hq
 |ok fl =>
  cases fl with
  |ret u=>exact I.after hq
  |next=>exact False.elim hq
  |brk=>exact False.elim hq
  |cont=>exact False.elim hq
theorem tQ(F:FnOk X.prog X.w X.K X.mg X.base CX k f fd ps sp)(hr:Room k X.A)(hg:Gl X x)(hm:X.mg x=some (.ref f))(hk:keepIn X.K (.ref f)=true)(hb:Binds X.K fd ps ds)(hd:aR dvs ds)(hx:gP CX X E)
  (ha:PA X (e::es) t) (gu:(x == ("__debug__":Str))=false:=by decide) (he:starEach (e::es) X.env=(false,eval e X.env)::starEach es X.env:=by rfl) (gp:(backTo pos (starEach es X.env)).any (·.1)=false:=by rfl) :
  PE X (.Call (.Name x p) (e::es) [] pos) (BY sp dvs E t):=by
 intro pins s σ H Q I h;refine wpAny_Call_Name_kw (gE I hg hm ?_ gu);refine callWith_K (h₀:=X.base) I.ok.mod.kin hk (af (ha pos pins s σ H _ I h) fun us s1 ⟨vs,H1,I1,r,q⟩=>⟨I1.kIn,?_⟩) he gp
 exact tK F hr hb hd hx I1 r q
theorem xN(F:FnOk X.prog X.w X.K X.mg X.base CX k f fd ps sp)(hr:Room k X.A)(hg:Gl X x)(hm:X.mg x=some (.ref f))(hk:keepIn X.K (.ref f)=true)(hb:Binds X.K fd ps ds)(hd:aR dvs ds)(hx:gP CX X E)
  (gu:(x == ("__debug__":Str))=false:=by decide):PE X (.Call (.Name x p) [] [] pos) (BY sp dvs E aAN):=by
 intro pins s σ H Q I h;refine wpAny_Call_Name_kw (gE I hg hm ?_ gu);exact callWith_K0 I.kIn hk (tK (us:=[]) F hr hb hd hx I .nil h)
structure Mk (K:so) (C f:Addr):Prop where
 makes:makesIn K C=true
 init:findIn K (.ref C) "__init__" = some (some (.ref f))
 fn:isFn K (.ref f)=true
 kp:keepIn K (.ref C)=true
end
section
variable {X:Cx}{CX:ao}{k:Nat}{f C:Addr}{fd:sq}{ps ks:List Str}{sp:Sp}{E:XK}{x m:Str}{p pos apos kpos:Pos}{e o:Expr}{es:List Expr}{kws:List Keyword}{te ta:TE}{t tk:TA}{nm:Option Str}
structure KBinds (K:so) (fd:sq) (ps ks:List Str) (g:List Value→List Value→List Value) (gV:List V→List V→List V):Prop where
 to:∀(s:Shared) (us ws:List Value),K.In s.heap→(g us ws).length=ps.length→BindsTo s fd ⟨us,ks.zip ws⟩ (ps.zip (g us ws))
 rel:∀{vs:List V} {us:List Value} {zs:List V} {ws:List Value},aR vs us→aR zs ws→aR (gV vs zs) (g us ws)
variable {g:List Value→List Value→List Value}{gV:List V→List V→List V}
end
structure aa (N P:List Str) (sc:Scope):Prop where
 kind:sc.kind=.function
 co:sc.isCoroutine=false
 gen:sc.isGenerator=false
 nd:N.Nodup
 pre:N.take P.length=P
 par:∀x∈P,sc.names.lookup x=some .local∨sc.names.lookup x=some .cell
 nofree:∀y∈sc.names,y.2≠.free
theorem sN{kindOf:Str→Option NameKind}{x:Str}:∀{binds:List (Str×Value)} {m:t5},(∀v,(x,v)∉binds)→bindL kindOf binds m x=m x
 |[],_,_=>rfl
 | (n,v)::r,m,h=>by
  unfold bindL;rw[sN fun w hw=>h w (oq _ hw)]
  split
  ·have:x≠n:=by rintro rfl;exact h v qw
   simp[this]
  ·rfl
theorem sP{kindOf:Str→Option NameKind}{x:Str}:∀{binds:List (Str×Value)} {m:t5},(∀v,(x,v)∉binds)→bindC kindOf binds m x=m x
 |[],_,_=>rfl
 | (n,v)::r,m,h=>by
  unfold bindC;rw[sP fun w hw=>h w (oq _ hw)]
  split
  ·rfl
  ·have:x≠n:=by rintro rfl;exact h v qw
   simp[this]
theorem sO{kindOf:Str→Option NameKind}{x:Str}{v:Value}:∀{P:List Str} {vs:List Value} {i:Nat} {m:t5},P.Nodup→P[i]?=some x→vs[i]?=some v→kindOf x=some .local →
  bindL kindOf (P.zip vs) m x=some v
 |[],_,_,_,_,h,_,_=>by simp at h
 |_::_,[],_,_,_,_,h,_=>by simp at h
 |p::P,w::vs,0,m,nd,h1,h2,hk=>by
  simp at h1 h2;subst h1;subst h2;show bindL kindOf ((p,w)::P.zip vs) m p=_
  unfold bindL;rw[sN fun v hv=>(nodup_cons.mp nd).1 (List.of_mem_zip hv).1,if_pos hk]
  simp
 |p::P,w::vs,i+1,m,nd,h1,h2,hk=>by
  show bindL kindOf ((p,w)::P.zip vs) m x=_
  unfold bindL;exact sO (i:=i) (nodup_cons.mp nd).2 (by simpa using h1) (by simpa using h2) hk
theorem sQ{kindOf:Str→Option NameKind}{x:Str}{v:Value}:∀{P:List Str} {vs:List Value} {i:Nat} {m:t5},P.Nodup→P[i]?=some x→vs[i]?=some v→kindOf x≠some .local →
  bindC kindOf (P.zip vs) m x=some v
 |[],_,_,_,_,h,_,_=>by simp at h
 |_::_,[],_,_,_,_,h,_=>by simp at h
 |p::P,w::vs,0,m,nd,h1,h2,hk=>by
  simp at h1 h2;subst h1;subst h2;show bindC kindOf ((p,w)::P.zip vs) m p=_
  unfold bindC;rw[sP fun v hv=>(nodup_cons.mp nd).1 (List.of_mem_zip hv).1,if_neg hk]
  simp
 |p::P,w::vs,i+1,m,nd,h1,h2,hk=>by
  show bindC kindOf ((p,w)::P.zip vs) m x=_
  unfold bindC;exact sQ (i:=i) (nodup_cons.mp nd).2 (by simpa using h1) (by simpa using h2) hk
noncomputable def start(N:List Str)(vs:List V):St:=vs.map some++List.replicate (N.length-vs.length) none
noncomputable def kM(CX:ao)(P:sr)(w:World)(K:so)(mg:t5)(base:Heap)(N:List Str)(qual:Str)(scope:Scope)(f:Addr)(cd:Value)(A:Around)(outer:List Env)(s:Shared)(H:Hp)(E:XK):Cx where
 prog:=P
 w:=w
 K:=K
 mg:=mg
 base:=base
 A:=A.deeper (envOfC qual scope s.heap.objs.size f cd)
 N:=N
 s₀:=s
 H₀:=H
 env:=envOfC qual scope s.heap.objs.size f cd
 outer:=outer
 stack:=envOfC qual scope s.heap.objs.size f cd::outer
 ex:=[]
 calm:=true
 fn:=fun _=>true
 pn:=[]
 xe:=fun e s'=>wpAny (model P w) (A.deeper (envOfC qual scope s.heap.objs.size f cd)) (leaving (envOfC qual scope s.heap.objs.size f cd) e) (fun _ ku=>CX outer H s E e ku) (fun e' ku=>CX outer H s E e' ku) s'
theorem yY{sc:Scope}{n:Nat}{x:Str}(h:sc.names.lookup x=some .cell):∃c,(cellsFrom n sc.names []).lookup x=some c:=by
 have q:=PySem.W.cellsFrom_some sc.names n [] (.inl h)
 exact Option.isSome_iff_exists.mp q
theorem IF{CX:ao}{P:sr}{w:World}{K:so}{mg:t5}{base:Heap}{N ps:List Str}{qual:Str}{scope:Scope}{f:Addr}{cd:Value}{A:Around}{outer:List Env}{s s1:Shared}{H:Hp}{E:XK}{us:List Value}{vs:List V}
  (S:aa N ps scope) (hd:A.handled=none) (e0:Env0 P w K mg base A outer s H) (hl:vs.length=ps.length) (r:aR vs us)
  (x:InCallC s s.heap.objs.size (bindL (envOfC qual scope s.heap.objs.size f cd).kindOf (ps.zip us) fun _=>none) (cellsFrom (s.heap.objs.size+1) scope.names []) (bindC (envOfC qual scope s.heap.objs.size f cd).kindOf (ps.zip us) fun _=>none) s1) :
  Inv (kM CX P w K mg base N qual scope f cd A outer s H E) [] (start N vs) H s1:=by
 have gp:ps.length≤N.length:=by have:=congrArg List.length S.pre;rw[qi]at this;omega
 obtain⟨h1,tk,rfl,hk⟩:=x.done;have k6:∀b:Addr,b∉(kM CX P w K mg base N qual scope f cd A outer s H E).ex:=fun b z=>absurd (show b∈([]:List Addr) from z) (by simp)
 refine⟨⟨e0.mod,S.kind,rfl,rfl,oh _,fun y z c h1 h2=>?_,fun y hy=>?_,fun y c _ h=>?_,fun _=>hd,Around.frames_deeper e0.frames,.inr ⟨rfl,rfl⟩,fun b z=>absurd z (k6 b),e0.bs,e0.bsz,fun b _ _=>k6 b,fun b z=>absurd z (k6 b),e0.funs,e0.frf⟩,
  rfl,e0.bare,Un.kept hk,⟨_,x.toInCall.ns,fun i y v h1 h2 h3=>?_⟩,fun y c h=>⟨_,x.cell y c h⟩,e0.hok.fresh (oh _),fun y c h=>?_,fun p hp=>absurd (show p∈([]:sv) from hp) (by simp),e0.hok.kept hk,?_⟩
 ·exact name_of_addr x.apart (qf h1) (qf h2)
 ·have hy:scope.names.lookup y=some .cell∨scope.names.lookup y=some .free:=hy
  rcases hy with hy|hy
  ·exact yY hy
  ·exact absurd rfl (S.nofree _ (qf hy))
 ·exact Nat.le_of_lt (x.above y c (qf h))
 ·have hi:i<vs.length:=by
   unfold start at h2
   by_cases hi:i<vs.length
   ·exact hi
   ·rw[rn (by simpa using hi)]at h2
    rw[getElem?_replicate]at h2;split at h2<;>cases h2
  have ha:vs[i]?=some v:=by
   unfold start at h2;rw[rj (by simpa using hi),oe]at h2
   cases e:vs[i]? with
   |none=>rw[e]at h2;cases h2
   |some a=>rw[e]at h2;cases h2;rfl
  obtain⟨u,hu,rv⟩:=r.get ha;have hp:ps[i]?=some y:=by
   rw[←S.pre,List.getElem?_take_of_lt (by omega)];exact h1
  have ndP:ps.Nodup:=by rw[←S.pre];exact S.nd.sublist (List.take_sublist _ _)
  refine⟨u,rv,?_⟩
  rcases S.par y (o8 hp) with k|k
  ·exact .inl ⟨k,sO ndP hp hu k⟩
  ·obtain⟨c,e⟩:=yY (n:=s.heap.objs.size+1) k;refine .inr ⟨.inl k,c,e,?_⟩;have q:=x.cell y c e
   rw[sQ ndP hp hu (by show scope.names.lookup y≠_;rw[k];decide)]at q
   exact q
 ·exact e0.hok.fresh (Nat.le_of_lt (x.above y c (qf h)))
 ·unfold start;show _=N.length
  rw[pv,og,List.length_replicate];omega
theorem DJ{CX:ao}{P:sr}{w:World}{K:so}{mg:t5}{base:Heap}{k:Nat}{f:Addr}{name qual:Str}{params:Arguments}{body:List Stmt}{scope:Scope}{dV kV doc pm ax ct oc:Value}{an od:Option Addr}
  {ik:Array (Option Value)} {N ps:List Str} {sp:Sp} (lk:K.lookup f=some ⟨oc,od,.func (PySem.W.fnOf name qual params body scope dV kV doc pm an ax ct),ik⟩) (dh:codeIn K ax qual=true) (S:aa N ps scope)
  (len:∀vs H Q E,sp vs H Q E→vs.length=ps.length)
  (hbody:∀(A:Around) (outer:List Env) (s:Shared) (H:Hp) (vs:List V) (Q:VK) (E:XK),Room k (A.deeper (envOfC qual scope s.heap.objs.size f ax))→sp vs H Q E →
   ∃t,PSs (kM CX P w K mg base N qual scope f ax A outer s H E) body t∧t { nx:=fun _ H'=>Q .non H',rt:=Q } (start N vs) H) :
  FnOk P w K mg base CX (k+1) f (PySem.W.fnOf name qual params body scope dV kV doc pm an ax ct) ps sp:=by
 refine⟨len,fun A outer s H args us vs Q E hr e0 hb r bo=>?_⟩
 have hl:=len _ _ _ _ bo
 have KX:K.In s.heap:=e0.mod.kin.keeps fun b o e=>(e0.bs b o e).1
 have lim:s.heap.NoLimit:=e0.mod.nolimit.keeps fun b o e=>(e0.bs b o e).1
 have hkind:∀y∈ps.zip us,scope.names.lookup y.1=some .local∨(scope.names.lookup y.1=some .cell∧((cellsFrom (s.heap.objs.size+1) scope.names []).lookup y.1).isSome=true):=fun⟨n,v⟩ hy=>by
  rcases S.par n (List.of_mem_zip hy).1 with q|q
  ·exact .inl q
  ·exact .inr ⟨q,PySem.W.cellsFrom_some _ _ _ (.inl q)⟩
 refine codeAny_call_function hr.depth (KX _ _ lk) rfl S.co S.gen rfl (PySem.W.codeRec_of KX dh) (hb _ _ _ _ ?_);refine wpAny_newFunctionEnv_cells S.kind hkind fun env he s1 x=>?_
 subst he;refine⟨lim.keeps x.toInCall.keep,codeAny_func ?_⟩;obtain⟨t,ht,hq⟩:=hbody A outer s H vs Q E (hr.deeper _) bo;have I:Inv (kM CX P w K mg base N qual scope f ax A outer s H E) [] (start N vs) H s1:=IF S hr.hd e0 hl r x
 refine qp (ht [] s1 (start N vs) H _ I hq) (fun fl s' hs=>?_) fun e s' hs=>hs
 have fin:∀{σ':St} {H':Hp} {v:V} {u:Value},Inv (kM CX P w K mg base N qual scope f ax A outer s H E) [] σ' H' s'→RelV v u→Q v H'→CE outer P w H s Q u s':=
  fun {σ' H' v u} J rv q=>⟨v,H',J.os,J.bare,J.base,J.hok,rv,q⟩
 cases fl with
 |ret u =>
  obtain⟨v,σ',H',J,rv,q⟩:=hs;exact fin J rv q
 |next =>
  obtain⟨σ',H',J,q⟩:=hs;exact fin (v:=V.non) (u:=Value.none) J rfl q
 |brk =>
  obtain⟨_,_,_,q⟩:=hs;exact False.elim q
 |cont =>
  obtain⟨_,_,_,q⟩:=hs;exact False.elim q
section
variable {X:Cx}{x:Str}{p pos:Pos}{e:Expr}{es:List Expr}{t:TA}{id T:String}{r:List V→Hp→VK→Prop}
def tCB(r:List V→Hp→VK→Prop)(t:TA):TE:=fun σ H Q=>t σ H fun vs H1=>r vs H1 Q
theorem eX(hc:eF X (.builtin id) r)(hg:Gl X x)(hm:X.mg x=none)(hv:bootBuiltins x=some (.builtin id))(ha:PA X (e::es) t)(hn:x≠"__name__":=by decide)(gu:(x == ("__debug__":Str))=false:=by decide)
  (he:starEach (e::es) X.env=(false,eval e X.env)::starEach es X.env:=by rfl) (gp:(backTo pos (starEach es X.env)).any (·.1)=false:=by rfl):PE X (.Call (.Name x p) (e::es) [] pos) (tCB r t):=by
 intro pins s σ H Q I h;refine wpAny_Call_Name_kw (iC I hg hm hv ?_ hn gu);exact PyProof.Rows.callWith_builtin1 (af (ha pos pins s σ H _ I h) fun us s1 ⟨vs,H1,I1,r1,q1⟩=>hc pins s1 σ H1 vs us Q I1 r1 q1) he gp
theorem mH(hc:eF X (.type T) r)(hg:Gl X x)(hm:X.mg x=none)(hv:bootBuiltins x=some (.type T))(ha:PA X (e::es) t)(hn:x≠"__name__":=by decide)(gu:(x == ("__debug__":Str))=false:=by decide)
  (he:starEach (e::es) X.env=(false,eval e X.env)::starEach es X.env:=by rfl) (gp:(backTo pos (starEach es X.env)).any (·.1)=false:=by rfl):PE X (.Call (.Name x p) (e::es) [] pos) (tCB r t):=by
 intro pins s σ H Q I h;refine wpAny_Call_Name_kw (iC I hg hm hv ?_ hn gu);exact pk (af (ha pos pins s σ H _ I h) fun us s1 ⟨vs,H1,I1,r1,q1⟩=>hc pins s1 σ H1 vs us Q I1 r1 q1) he gp
end
end L2
namespace HT
open PySem PyProof.Rows
section
open PySem.SeqAt
open PySem.AutoSeq1 (wpAny_loadPart')
open PySem.MeetsSeq PySem.MeetsSeq2 PySem.MeetsSeq3
end
section
variable {prog:sr}{w:World}{A:Around}{E:su}{s:Shared}
theorem XZ{t b:Addr}{vs ws:List Value}{Q:su}(ht:IsTup s.heap t vs.toArray)(hb:IsTup s.heap b ws.toArray)(hv:vs≠[])
  (h1:ws=[]→Q (.ref t) s) (h2:ws≠[]→Q (.ref s.heap.objs.size) { s with heap:=s.heap.push { cls:=.type "tuple",data:=.seq (vs++ws).toArray } })
  (hsz:vs.length+ws.length≤sizeLine):wpAny (model prog w) A (binaryOp .Add (.ref t) (.ref b)) Q E s:=by
 obtain⟨⟨cls,dd,data,sl⟩,ho,hc,n,hd⟩:=id ht;obtain⟨⟨cls2,dd2,data2,jv⟩,fi,fk,n2,hd2⟩:=id hb;simp only at hc hd fk hd2;subst hc hd fk hd2;have e:vs.toArray++ws.toArray=(vs++ws).toArray:=by simp
 by_cases hw:ws=[]
 ·exact concat_meets ⟨_,ho,rfl⟩ ⟨_,fi,rfl⟩ noFill_tuple_add seq_tuple_add slot_tuple_add entry_tuple_add (args_tuple_add_2 _ _)
   (tuple_addW1 t b vs.toArray ws.toArray n n2 dd dd2 sl jv (by simpa using hv) (by simp[hw])) ⟨ho,fi,h1 hw⟩
 ·refine concat_meets ⟨_,ho,rfl⟩ ⟨_,fi,rfl⟩ noFill_tuple_add seq_tuple_add slot_tuple_add entry_tuple_add (args_tuple_add_2 _ _)
   (tuple_addW2 t b vs.toArray ws.toArray n n2 dd dd2 sl jv (by simpa using hv) (by simpa using hw) (by rw[ot,ot];exact hsz)) ⟨ho,fi,?_⟩
  rw[e];exact h2 hw
noncomputable def sIx(n d:Nat):Option Int→Nat
 |none=>d
 |some v=>if v<0 then(v+(n:Int)).toNat else min v.toNat n
theorem aBh(n d:Nat)(hd:d≤n)(o:Option Int):sIx n d o≤n:=by
 cases o with
 |none=>exact hd
 |some v =>
  show (if v<0 then(v+(n:Int)).toNat else min v.toNat n)≤n
  by_cases hv:v<0
  ·rw[if_pos hv];omega
  ·rw[if_neg hv];exact Nat.min_le_right _ _
theorem FH(v:Int)(n d:Nat):(if v<0 then max (v+(n:Int)) 0 else min v (n:Int))=((sIx n d (some v):Nat):Int):=by
 show (if v<0 then max (v+(n:Int)) 0 else min v (n:Int))=(((if v<0 then(v+(n:Int)).toNat else min v.toNat n):Nat):Int)
 by_cases hv:v<0
 ·simp only[if_pos hv];omega
 ·simp only[if_neg hv];omega
theorem BO(lo hi:Option Int)(n:Nat):Builtin.Slice.sliceAdjust lo hi 1 (n:Int)=(((sIx n 0 lo:Nat):Int),((sIx n n hi:Nat):Int)):=by
 have h1:¬((1:Int)<0):=by omega
 unfold Builtin.Slice.sliceAdjust;simp only[h1,if_false];refine Prod.ext ?_ ?_
 ·cases lo with
  |none=>rfl
  |some v=>exact FH v n 0
 ·cases hi with
  |none=>rfl
  |some v=>exact FH v n n
theorem zY(i j:Nat):Builtin.Slice.slicePlaces (i:Int) (j:Int) 1=j-i:=by
 unfold Builtin.Slice.slicePlaces;have h1:(1:Int) > 0:=by omega
 simp only[h1,if_true,Int.ediv_one];split<;>omega
theorem pG{v:Value}{o:Option Int}{Q:Option Int→Shared→Prop}(p:IsPart v o)(h:Q o s):wpAny (model prog w) A (Builtin.Slice.slicePartIndex v) Q E s:=by
 cases p with
 |none=>exact slicePart_none h
 |int i t=>exact slicePart_int h
theorem mB{sl:Addr}{vl vu:Value}{lo hi:Option Int}{n:Nat}{Q:Int×Int×Nat→Shared→Prop}(hs:s.heap.IsSliceOf sl vl vu .none)(pl:IsPart vl lo)(pu:IsPart vu hi)
  (h:Q (((sIx n 0 lo:Nat):Int),1,sIx n n hi-sIx n 0 lo) s):wpAny (model prog w) A (Builtin.Slice.sliceApplied (.ref sl) (pure (n:Int))) Q E s:=by
 obtain⟨os,je,hcs,a8⟩:=id hs;unfold Builtin.Slice.sliceApplied Builtin.Slice.sliceFields;refine qm (qm (wpAny_field je a8 (x:=vl) rfl (qm (wpAny_field je a8 (x:=vu) rfl (qm (wpAny_field je a8 (x:=.none) rfl (qo ?_)))))));refine qm (slicePart_none ?_);show wpAny _ _ (if ((1:Int) == 0)=true then _ else _) _ _ s
 rw[if_neg (by decide)]
 refine qm (pG pl (qm (pG pu (qm (qo ?_)))));show wpAny _ _ (match Builtin.Slice.sliceAdjust lo hi 1 (n:Int) with|(lo,hi)=>pure (lo,(1:Int),Builtin.Slice.slicePlaces lo hi 1)) _ _ s
 rw[BO lo hi n];show wpAny _ _ (pure (((sIx n 0 lo:Nat):Int),(1:Int),Builtin.Slice.slicePlaces ((sIx n 0 lo:Nat):Int) ((sIx n n hi:Nat):Int) 1)) _ _ s
 rw[zY];exact qo h
theorem LH(xs:Array Value)(i k:Nat):((List.range k).filterMap fun (m:Nat)=>xs[((i:Int)+(m:Int)*1).toNat]?).toArray=((xs.toList.drop i).take k).toArray:=by
 have e:(fun (m:Nat)=>xs[((i:Int)+(m:Int)*1).toNat]?)=fun m=>xs[i+m]?:=by
  funext m
  have:((i:Int)+(m:Int)*1).toNat=i+m:=by omega
  rw[this]
 rw[e];have:=pick_run xs i k
 rw[List.filterMap_map]at this;have e2:((fun x=>xs[x]?) ∘ fun x=>i+x)=fun m=>xs[i+m]?:=rfl
 rw[e2]at this;rw[this]
theorem lJ{t sl:Addr}{items:Array Value}{vl vu:Value}{lo hi:Option Int}{Q:su}(ht:IsTup s.heap t items)(hs:s.heap.IsSliceOf sl vl vu .none)(pl:IsPart vl lo)(pu:IsPart vu hi)
  (hw:¬(sIx items.size 0 lo=0∧sIx items.size items.size hi=items.size))
  (h:Q (.ref s.heap.objs.size) { s with heap:=s.heap.push { cls:=.type "tuple",data:=.seq ((items.toList.drop (sIx items.size 0 lo)).take (sIx items.size items.size hi-sIx items.size 0 lo)).toArray } })
  (hsz:items.size≤sizeLine):wpAny (model prog w) A (getItem (.ref t) (.ref sl)) Q E s:=by
 have htake:sizeOk (.seq ((items.toList.drop (sIx items.size 0 lo)).take (sIx items.size items.size hi-sIx items.size 0 lo)).toArray):=by
  show ((items.toList.drop (sIx items.size 0 lo)).take (sIx items.size items.size hi-sIx items.size 0 lo)).toArray.size≤sizeLine
  rw[ot,qi,sg,length_toList];omega
 have hj:sIx items.size items.size hi≤items.size:=aBh _ _ (oh _) hi
 obtain⟨os,je,hcs,a8⟩:=id hs;have hTs:s.TypeIs (.ref sl) "slice":=⟨os,je,hcs⟩
 unfold getItem
 try with_reducible refine wpAny_holding ?_
 first|refine qm (qo ?_)|skip
 refine qm (wpAny_sequenceKey ht.typeIs (by decide) ?_)
 refine qm (wpAny_callSpecial?_slot (name:=Str.ofString "__getitem__") ht.typeIs PyProof.Rows.slot_tuple_getitem
  (wpAny_call_entry PyProof.Rows.slot_tuple_getitem ht.typeIs entry_tuple_getitem ?_ (args_tuple_getitem _ _)))
 show wpAny _ _ (Builtin.Tuple.tupleItemsOf (.ref t) >>= _) _ _ s
 refine qm (tupleItemsOf_ ht ?_);refine qm (wpAny_typeOf hTs ?_);rw[if_pos (by decide)]
 refine qm (mB hs pl pu ?_);have hno:¬((((sIx items.size 0 lo:Nat):Int) == 0&&(1:Int) == 1&&(sIx items.size items.size hi-sIx items.size 0 lo) == items.size)=true):=by
  intro q;rw[ow,ow]at q;have q1:((sIx items.size 0 lo:Nat):Int)=0:=eq_of_beq q.1.1
  have q2:sIx items.size items.size hi-sIx items.size 0 lo=items.size:=eq_of_beq q.2
  exact hw ⟨by omega,by omega⟩
 show wpAny _ _ (if (((sIx items.size 0 lo:Nat):Int) == 0&&(1:Int) == 1&&(sIx items.size items.size hi-sIx items.size 0 lo) == items.size)=true then _ else _) _ _ s
 rw[if_neg hno,LH]
 first
  |exact qm (m:=Builtin.Tuple.tupleExact _) (wpAny_newObj_type (qo ⟨_,rfl,qo h⟩) htake)
  |exact qm (m:=Builtin.Tuple.tupleExact _) (wpAny_newObj_type (qm (qo (qo ⟨_,rfl,qo h⟩))) htake)
  |exact qm (qm (m:=Builtin.Tuple.tupleExact _) (wpAny_newObj_type (qo (qo ⟨_,rfl,qo h⟩)) htake))
  |exact qm (qm (m:=Builtin.Tuple.tupleExact _) (wpAny_newObj_type (qo ⟨_,rfl,qo h⟩) htake))
end
end HT
namespace L2
open PySem PySem.Spec PyProof.Rows
abbrev TO:=St→Hp→(Option Int→Hp→Prop)→Prop
def PO(X:Cx)(e:Option Expr)(t:TO):Prop:=
 ∀(pins:sv) (s:Shared) (σ:St) (H:Hp) (Q:Option Int→Hp→Prop),Inv X pins σ H s→t σ H Q →
  wpAny (model X.prog X.w) X.A (evalPart e X.env) (fun u s'=>∃o H',Inv X pins σ H' s'∧IsPart u o∧Q o H') X.xe s
noncomputable def RT:TO:=fun _ H Q=>Q none H
noncomputable def aEy(t:TE):TO:=fun σ H Q=>t σ H fun x H1=>∃i,x=.int i∧Q (some i) H1
section
variable {X:Cx}{e:Expr}{te:TE}{lo hi:Option Expr}{tl th:TO}{pos p2:Pos}
theorem UG:PO X none RT:=by
 intro pins s σ H Q I h;rw[evalPart_none];exact qo ⟨none,H,I,.none,h⟩
theorem UF(h:PE X e te):PO X (some e) (aEy te):=by
 intro pins s σ H Q I hw;rw[evalPart_some];refine af (h pins s σ H _ I hw) fun u s1 ⟨x,H1,I1,r1,q1⟩=>?_
 obtain⟨i,rfl,q⟩:=q1;obtain⟨t,rfl⟩:=r1;exact⟨some i,H1,I1,.int i t,q⟩
def SlR(X:Cx)(r:V→Option Int→Option Int→Hp→VK→Prop):Prop:=
 ∀(pins:sv) (s:Shared) (σ:St) (H:Hp) (x:V) (v vl vu:Value) (lo hi:Option Int) (sl:Addr) (Q:VK),Inv X pins σ H s→RelV x v→s.heap.IsSliceOf sl vl vu .none→IsPart vl lo→IsPart vu hi→r x lo hi H Q →
  ∃T id,typeLookup (.type T) "__getitem__" = pure (some (.builtin id))∧s.TypeIs v T∧wpAny (model X.prog X.w) X.A (getItem v (.ref sl)) (EP X pins σ Q) X.xe s
def tSl(r:V→Option Int→Option Int→Hp→VK→Prop)(te:TE)(tl th:TO):TE:=fun σ H Q=>te σ H fun x H1=>tl σ H1 fun l H2=>th σ H2 fun u H3=>r x l u H3 Q
theorem pK{r:V→Option Int→Option Int→Hp→VK→Prop}(hr:SlR X r)(he:PE X e te)(hl:PO X lo tl)(hu:PO X hi th):PE X (.Subscript e (.Slice lo hi none p2) pos) (tSl r te tl th):=by
 intro pins s σ H Q I h;refine Subscript_ (af (he pins s σ H _ I h) fun v s1 ⟨x,H1,I1,r1,q1⟩=>?_)
 refine wpAny_Slice (af (hl pins s1 σ H1 _ I1 q1) fun vl s2 ⟨l,H2,I2,pl,q2⟩=>af (hu pins s2 σ H2 _ I2 q2) fun vu s3 ⟨u,H3,I3,pu,q3⟩=>?_)
 rw[evalPart_none];refine qo ?_;have I4:Inv X pins σ H3 { s3 with heap:=s3.heap.push { cls:=.type "slice",data:=.fields #[vl,vu,.none] } }:=I3.kept (t':=s3.toks) fun b ob q=>om _ q
 obtain⟨T,id,hT,ht,hg⟩:=hr pins { s3 with heap:=s3.heap.push { cls:=.type "slice",data:=.fields #[vl,vu,.none] } } σ H3 x v vl vu l u s3.heap.objs.size Q I4 r1 (Heap.IsSliceOf.new ..) pl pu q3
 show wpAny (model X.prog X.w) X.A (subscriptTail e (.Slice lo hi none p2) v (.ref s3.heap.objs.size)) (EP X pins σ Q) X.xe { s3 with heap:=s3.heap.push { cls:=.type "slice",data:=.fields #[vl,vu,.none] } }
 exact tail_any (ops:=[.ref s3.heap.objs.size,v]) ht hT hg (by with_unfolding_all rfl)
noncomputable def yS(xs:List V)(lo hi:Option Int):List V:=(xs.drop (HT.sIx xs.length 0 lo)).take (HT.sIx xs.length xs.length hi-HT.sIx xs.length 0 lo)
theorem nM(xs:List V)(lo hi:Option Int):(yS xs lo hi).length≤xs.length:=by
 unfold yS;rw[qi,sg];omega
noncomputable def aKH(K:so):V→Option Int→Option Int→Hp→VK→Prop:=fun x lo hi H Q=>∃a xs,x=.ref a∧SqT K H a xs ∧
 ¬(HT.sIx xs.length 0 lo=0∧HT.sIx xs.length xs.length hi=xs.length)∧∀p,H p=none→Q (.ref p) (upd H p (.tup (yS xs lo hi)))
theorem aBe:SlR X (aKH X.K):=by
 intro pins s σ H x v vl vu lo hi sl Q I rx hs pl pu h;obtain⟨a,xs,rfl,hx,hw,q⟩:=h;cases rx;obtain⟨its,r,ht,hz⟩:=I.tuple hx;have hlen:its.toArray.size=xs.length:=by rw[ot];exact r.length.symm
 refine⟨"tuple",_,PyProof.Rows.slot_tuple_getitem.lookup,ht.typeIs,?_⟩;refine HT.lJ ht hs pl pu (by rw[hlen];exact hw) ?_ (by rw[hlen];exact hz)
 rw[hlen];refine⟨.ref s.heap.objs.size,_,I.laid (t':=s.toks) (o:=.tup (yS xs lo hi)) (fun b ob q=>om _ q) (oh _) ?_,rfl,q _ (I.hok.fresh (oh _))⟩
 exact⟨p9 (nM xs lo hi) hz,_,(r.drop (HT.sIx xs.length 0 lo)).take (HT.sIx xs.length xs.length hi-HT.sIx xs.length 0 lo),IsTup.new _ _⟩
noncomputable def aGi(K:so):R2:=fun x y H Q=>∃a b xs ys,x=.ref a∧y=.ref b∧SqT K H a xs∧SqT K H b ys∧xs≠[]∧xs.length+ys.length≤sizeLine ∧
 (ys=[]→Q (.ref a) H)∧(ys≠[]→∀p,H p=none→Q (.ref p) (upd H p (.tup (xs++ys))))
theorem aR.nil_iff{xs:List V}{us:List Value}(r:aR xs us):us=[]↔xs=[]:=by
 cases r with
 |nil=>simp
 |cons _ _=>simp
theorem UW:au X (binaryOp .Add) (aGi X.K):=by
 intro pins s σ H x y v u Q I rx ry h;obtain⟨a,b,xs,ys,rfl,rfl,ha,hb,hx,hz,q1,q2⟩:=h;cases rx;cases ry;obtain⟨its,r1,p1,_⟩:=I.tuple ha;obtain⟨cm,r2,p2,_⟩:=I.tuple hb;refine HT.XZ p1 p2 (fun z=>hx (r1.nil_iff.mp z)) (fun z=>⟨.ref a,H,I,rfl,q1 (r2.nil_iff.mp z)⟩) (fun z=>?_) (by rw[←r1.length,←r2.length];exact hz)
 refine⟨.ref s.heap.objs.size,_,I.laid (t':=s.toks) (o:=.tup (xs++ys)) (fun b ob q=>om _ q) (oh _) ?_,rfl,q2 (fun w=>z (r2.nil_iff.mpr w)) _ (I.hok.fresh (oh _))⟩
 exact⟨by rw[pv];exact hz,_,r1.append r2,IsTup.new _ _⟩
end
noncomputable def ixN(n:Nat)(i:Int):Option Nat:=if 0≤i then(if i<n then some i.toNat else none) else if -(n:Int)≤i then some (i+n).toNat else none
noncomputable def atI{α:Type}(xs:List α)(i:Int):Option α:=(ixN xs.length i).bind fun j=>xs[j]?
theorem CY{n:Nat}{i:Int}{j:Nat}(h:ixN n i=some j):seqIndex? i n=some j∧j<n∧-(n:Int)≤i∧i<n:=by
 unfold ixN at h
 by_cases h0:0≤i
 ·rw[if_pos h0]at h
  by_cases h1:i<n
  ·rw[if_pos h1]at h;have e:i.toNat=j:=ox h
   exact⟨by rw[seqIndex_of h0 h1,e],by omega,by omega,h1⟩
  ·rw[if_neg h1]at h;cases h
 ·rw[if_neg h0]at h
  by_cases h1:-(n:Int)≤i
  ·rw[if_pos h1]at h;have e:(i+n).toNat=j:=ox h
   exact⟨by rw[seqIndex_neg (by omega) h1,e],by omega,h1,by omega⟩
  ·rw[if_neg h1]at h;cases h
theorem wC{α:Type}{xs:List α}{i:Int}{v:α}(h:atI xs i=some v):∃j,seqIndex? i xs.length=some j∧xs[j]?=some v∧j<xs.length∧-(xs.length:Int)≤i∧i<xs.length:=by
 unfold atI at h;cases e:ixN xs.length i with
 |none=>rw[e]at h;cases h
 |some j =>
  rw[e]at h;obtain⟨h1,h2,h3,h4⟩:=CY e;exact⟨j,h1,h,h2,h3,h4⟩
def jY(b:Expr):Prop:=∀o i,subscripted b false o i=operate [o,i] (getItem o i)
def IxR(X:Cx)(r:R2):Prop:=
 ∀(value slice:Expr) (pins:sv) (s:Shared) (σ:St) (H:Hp) (x y:V) (v u:Value) (Q:VK),Inv X pins σ H s→RelV x v→RelV y u→r x y H Q →
  subscripted slice false v u=operate [v,u] (getItem v u)→wpAny (model X.prog X.w) X.A (subscriptTail value slice v u) (EP X pins σ Q) X.xe s
def MtR(X:Cx)(id:String)(r:V→List V→Hp→VK→Prop):Prop:=
 ∀(pins:sv) (s:Shared) (σ:St) (H:Hp) (x:V) (xs:List V) (v:Value) (us:List Value) (Q:VK),Inv X pins σ H s→RelV x v→aR xs us→r x xs H Q →
  wpAny (model X.prog X.w) X.A (call (.builtin id) (v::us)) (EP X pins σ Q) X.xe s
section
variable {X:Cx}{a b:Expr}{ta tb:TE}{pos:Pos}
theorem IxR.or{r r':R2}(h:IxR X r)(h':IxR X r'):IxR X (fun x y H Q=>r x y H Q∨r' x y H Q):=by
 intro value slice pins s σ H x y v u Q I rx ry q hs
 rcases q with q|q
 ·exact h value slice pins s σ H x y v u Q I rx ry q hs
 ·exact h' value slice pins s σ H x y v u Q I rx ry q hs
theorem ZD{r:R2}(hr:IxR X r)(ha:PE X a ta)(hb:PE X b tb)(hs:jY b):PE X (.Subscript a b pos) (ic r ta tb):=by
 intro pins s σ H Q I h;exact Subscript_ (aDf ha hb I h fun v u s2 x y H2 I2 rx ry q=>hr a b pins s2 σ H2 x y v u Q I2 rx ry q (hs _ _))
noncomputable def aGe(K:so):R2:=fun x y H Q=>∃p xs i v,x=.ref p∧y=.int i∧SqL K H p xs∧atI xs i=some v∧Q v H
noncomputable def aGc(K:so):R2:=fun x y H Q=>∃p xs i v,x=.ref p∧y=.int i∧SqT K H p xs∧atI xs i=some v∧Q v H
noncomputable def aGd:R2:=fun x y H Q=>∃z i c,x=.str z∧y=.int i∧z.length≤sizeLine∧atI z.cps.toList i=some c∧Q (.str ⟨#[c]⟩) H
theorem WH:IxR X (aGe X.K):=by
 intro value slice pins s σ H x y v u Q I rx ry h hs;obtain⟨p,xs,i,z,rfl,rfl,hq,he,q⟩:=h;cases rx;obtain⟨t,rfl⟩:=ry;obtain⟨its,r,pl,hz⟩:=I.list hq;obtain⟨j,h1,h2,h3,h4,h5⟩:=wC he;obtain⟨w,ew,dy⟩:=r.get h2;have hl:=r.length
 have hn:=kJ
 have fin:EP X pins σ Q w s:=⟨z,H,I,dy,q⟩
 by_cases h0:0≤i
 ·have hj:i.toNat=j:=by
   rw[seqIndex_of h0 h5]at h1;exact ox h1
  exact item_listR pl.isList h0 (by omega) (by rw[hj];simpa using ew) fin hs
 ·have hj:(i+(its.toArray.size:Int)).toNat=j:=by
   rw[seqIndex_neg (by omega) h4]at h1
   rw[ot,←hl];exact ox h1
  exact subscriptTail_builtinR (x:=w) pl.isList.typeIs slot_list_getitem.lookup
   (wpAny_getItem_list_neg (Q:=fun r s'=>r=w∧EP X pins σ Q r s') pl.isList (by omega) (by rw[ot]<;>omega) (by omega) (by rw[hj];simpa using ew) ⟨rfl,fin⟩) hs
theorem aCz:IxR X (aGc X.K):=by
 intro value slice pins s σ H x y v u Q I rx ry h hs;obtain⟨p,xs,i,z,rfl,rfl,hq,he,q⟩:=h;cases rx;obtain⟨t,rfl⟩:=ry;obtain⟨its,r,pl,hz⟩:=I.tuple hq;obtain⟨j,h1,h2,h3,h4,h5⟩:=wC he;obtain⟨w,ew,dy⟩:=r.get h2;have hl:=r.length
 have hn:=kJ
 have fin:EP X pins σ Q w s:=⟨z,H,I,dy,q⟩
 exact subscriptTail_builtinR (x:=w) pl.typeIs slot_tuple_getitem.lookup
  (getItem_tuple (j:=j) (Q:=fun r s'=>r=w∧EP X pins σ Q r s') pl (by omega) (by omega) (by rw[ot,←hl];exact h1) (by simpa using ew) ⟨rfl,fin⟩) hs
theorem aCA:IxR X aGd:=by
 intro value slice pins s σ H x y v u Q I rx ry h hs;obtain⟨z,i,c,rfl,rfl,hz,he,q⟩:=h;obtain⟨t,rfl⟩:=rx;obtain⟨t',rfl⟩:=ry;obtain⟨j,h1,h2,h3,h4,h5⟩:=wC he;have hl:z.cps.toList.length=z.length:=by simp[Str.length]
 rw[hl]at h1 h4 h5;have hn:=kJ
 exact tail_any (typeIs_str s z t) slot_str_getitem.lookup (getItem_str (c:=c) (by
  have e1:decide (i < -(2 ^ 63:Int))=false:=oj (by omega)
  have e2:decide (i ≥ 2 ^ 63)=false:=oj (by omega)
  rw[e1,e2,Bool.or_false]) (by rw[h1];simpa using h2) ⟨.str ⟨#[c]⟩,H,I.tok _,⟨_,rfl⟩,q⟩) hs
noncomputable def rIx(K:so):R2:=fun x y H Q=>aGe K x y H Q∨aGc K x y H Q∨aGd x y H Q
theorem NA:IxR X (rIx X.K):=WH.or (aCz.or aCA)
theorem AJ(its:List Value)(n j:Nat)(u:Value):Obj.mapSeq (·.setIfInBounds j u) { cls:=.type "list",data:=.seq its.toArray n }={ cls:=.type "list",data:=.seq (its.set j u).toArray n }:=by
 simp[Obj.mapSeq]
theorem Inv.lst{pins:sv}{σ:St}{H:Hp}{s:Shared}{p:Addr}{xs:List V}(I:Inv X pins σ H s)(h:H p=some (.lst xs)) :
  ∃(its:List Value) (n:Nat),aR xs its∧s.heap.get? p=some { cls:=.type "list",data:=.seq its.toArray n }∧xs.length≤sizeLine:=by
 obtain⟨z,its,n,r,e⟩:=I.hok p _ h;exact⟨its,n,r,e,z⟩
theorem Inv.lstUpd{pins:sv}{σ:St}{H:Hp}{s:Shared}{p:Addr}{xs ys:List V}{its its':List Value}{n n':Nat}{f:Obj→Obj}(I:Inv X pins σ H s)(h:H p=some (.lst xs))
  (ho:s.heap.get? p=some { cls:=.type "list",data:=.seq its.toArray n }) (hf:f { cls:=.type "list",data:=.seq its.toArray n }={ cls:=.type "list",data:=.seq its'.toArray n' }) (r:aR ys its') (hz:ys.length≤sizeLine) (t:Nat) :
  Inv X pins σ (upd H p (.lst ys)) { s with heap:=s.heap.update p f,toks:=t }:=by
 have e:(s.heap.update p f).get? p=some { cls:=.type "list",data:=.seq its'.toArray n' }:=by
  rw[Heap.get?_update_self f ho (by rw[hf]<;>rfl),hf]
 refine I.write (x:=p) (e:=p) (by rw[h];trivial) (.inl rfl) (fun b u hb q=>(Heap.get?_update_other _ _ (Ne.symm hb)).trans q) ⟨_,e⟩ ?_
 exact⟨hz,its',n',r,e⟩
noncomputable def aGb:V→V→V→Hp→(Hp→Prop)→Prop:=fun o i v H Q=>∃p xs k j,o=.ref p∧i=.int k∧H p=some (.lst xs)∧ixN xs.length k=some j∧Q (upd H p (.lst (xs.set j v)))
theorem set_list:aIV X aGb:=by
 intro pins s σ H o i v ov iv u Q I ro ri rv h;obtain⟨p,xs,k,j,rfl,rfl,hp,hj,q⟩:=h;cases ro;obtain⟨t,rfl⟩:=ri;obtain⟨its,n,r,ho,hz⟩:=I.lst hp;obtain⟨h1,h2,h3,h4⟩:=CY hj;have hl:=r.length
 have hn:=kJ
 have I':Inv X pins σ (upd H p (.lst (xs.set j v))) { s with heap:=s.heap.update p (Obj.mapSeq (·.setIfInBounds j u)) }:=
  I.lstUpd hp ho (AJ its n j u) (r.set rv j) (by rw[List.length_set];exact hz) s.toks
 by_cases h0:0≤k
 ·have hk:k.toNat=j:=by
   rw[seqIndex_of h0 h4]at h1;exact ox h1
  exact PySem.W.ki_setAt ho h0 (by omega) (by rw[ot,←hl];exact h4) (by rw[hk];exact⟨_,I',q⟩)
 ·have hk:(k+(its.toArray.size:Int)).toNat=j:=by
   rw[seqIndex_neg (by omega) h3]at h1
   rw[ot,←hl];exact ox h1
  exact PySem.W.ki_setBack ho (by omega) (by rw[ot,←hl];exact h3) (by omega) (by rw[hk];exact⟨_,I',q⟩)
theorem tJ(lo hi:Option Int)(n:Nat):(sliceBounds lo hi none n).1=((HT.sIx n 0 lo:Nat):Int)∧(sliceBounds lo hi none n).2.1=((HT.sIx n n hi:Nat):Int)∧(sliceBounds lo hi none n).2.2=1:=by
 refine⟨?_,?_,rfl⟩
 ·cases lo with
  |none=>simp[sliceBounds,HT.sIx]
  |some i =>
   simp only[sliceBounds,HT.sIx,Option.getD_none,show (1:Int) > 0 by decide,if_true]
   by_cases h:i<0
   ·simp only[h,if_true]<;>omega
   ·simp only[h,if_false]<;>omega
 ·cases hi with
  |none=>simp[sliceBounds,HT.sIx]
  |some i =>
   simp only[sliceBounds,HT.sIx,Option.getD_none,show (1:Int) > 0 by decide,if_true]
   by_cases h:i<0
   ·simp only[h,if_true]<;>omega
   ·simp only[h,if_false]<;>omega
theorem qX(its:List Value)(lo hi:Option Int):slicePick its.toArray lo hi none=((its.drop (HT.sIx its.length 0 lo)).take (HT.sIx its.length its.length hi-HT.sIx its.length 0 lo)).toArray:=by
 obtain⟨h1,h2,h3⟩:=tJ lo hi its.toArray.size;unfold slicePick;rw[h1,h2,h3];simp only[sliceRange_one,pick_run,ot]<;>rfl
noncomputable def aKI(K:so):V→Option Int→Option Int→Hp→VK→Prop:=fun x lo hi H Q=>∃a xs,x=.ref a∧SqL K H a xs∧∀p,H p=none→Q (.ref p) (upd H p (.lst (yS xs lo hi)))
theorem BZ:SlR X (aKI X.K):=by
 intro pins s σ H x v vl vu lo hi sl Q I rx hs pl pu h;obtain⟨a,xs,rfl,hx,q⟩:=h;cases rx;obtain⟨its,r,ht,hz⟩:=I.list hx;have hlen:=r.length
 refine⟨"list",_,slot_list_getitem.lookup,ht.isList.typeIs,?_⟩;refine wpAny_getItem_list_slice ht.isList hs pl pu .none (by simp) ?_ (by rw[ot]<;>omega)
 rw[qX,←hlen];refine⟨.ref s.heap.objs.size,_,I.laid (t':=s.toks) (o:=.lst (yS xs lo hi)) (fun b ob q=>om _ q) (oh _) ?_,rfl,q _ (I.hok.fresh (oh _))⟩
 exact⟨p9 (nM xs lo hi) hz,_,0,(r.drop (HT.sIx xs.length 0 lo)).take (HT.sIx xs.length xs.length hi-HT.sIx xs.length 0 lo),qr _ rfl⟩
theorem fJ:eF X (.builtin "len") (fun xs H Q=>∃p ys,xs=[.ref p]∧(SqL X.K H p ys∨SqT X.K H p ys)∧Q (.int ys.length) H):=by
 intro pins s σ H xs us Q I r h;obtain⟨p,ys,rfl,hq,q⟩:=h;obtain⟨u,rfl,rx⟩:=vals1 r;cases rx;have hn:=kJ
 rcases hq with hq|hq
 ·obtain⟨its,r',pl,hz⟩:=I.list hq;have hlen:=r'.length
  exact Calls.call_len_list pl.isList (by simp only[ot]<;>omega) ⟨.int ys.length,H,I.tok _,⟨s.toks+1,by rw[ot,hlen]⟩,q⟩
 ·obtain⟨its,r',pl,hz⟩:=I.tuple hq;have hlen:=r'.length
  exact len_tuple pl (by simp only[ot]<;>omega) ⟨.int ys.length,H,I.tok _,⟨s.toks+1,by rw[ot,hlen]⟩,q⟩
theorem wA:eF X (.builtin "len") (fun xs H Q=>∃z,xs=[.str z]∧z.length≤sizeLine∧Q (.int z.length) H):=by
 intro pins s σ H xs us Q I r h;obtain⟨z,rfl,hz,q⟩:=h;obtain⟨u,rfl,t,rfl⟩:=vals1 r;have hn:=kJ
 exact len_str (by omega) ⟨.int z.length,H,I.tok _,⟨_,rfl⟩,q⟩
theorem iL:eF X (.type "list") (fun xs H Q=>∃p ys,xs=[.ref p]∧(SqL X.K H p ys∨SqT X.K H p ys)∧∀l,H l=none→Q (.ref l) (upd H l (.lst ys))):=by
 intro pins s σ H xs us Q I r h;obtain⟨p,ys,rfl,hq,q⟩:=h;obtain⟨u,rfl,rx⟩:=vals1 r;cases rx;have fin:∀(its:List Value),aR ys its→ys.length≤sizeLine→∀(h':Heap) (c':Nat),(∀b o',s.heap.get? b=some o'→h'.get? b=some o') →
   h'.get? s.heap.objs.size=some { cls:=.type "list",dict:=none,data:=.seq its.toArray c',slots:=#[] }→EP X pins σ Q (.ref s.heap.objs.size) { s with heap:=h' }:=fun its r' hz h' c' kp e =>
  ⟨.ref s.heap.objs.size,_,I.laid (t':=s.toks) kp (oh _) (show bV X.prog X.w _ h' _ (.lst ys) from⟨hz,its,c',r',e⟩),rfl,q _ (I.hok.fresh (oh _))⟩
 rcases hq with hq|hq
 ·obtain⟨its,r',pl,hz⟩:=I.list hq;have hlen:=r'.length
  obtain⟨o,ho,hc,n,hd⟩:=pl.isList;exact call_list_seq p (.inl rfl) ho hc hd (fun h' c' kp e=>fin its r' hz h' c' kp e) (by simp only[ot]<;>omega)
 ·obtain⟨its,r',pl,hz⟩:=I.tuple hq;have hlen:=r'.length
  obtain⟨o,ho,hc,n,hd⟩:=pl;exact call_list_seq p (.inr rfl) ho hc hd (fun h' c' kp e=>fin its r' hz h' c' kp e) (by simp only[ot]<;>omega)
theorem kE:eF X (.type "tuple") (fun xs H Q=>∃p ys,xs=[.ref p]∧((SqL X.K H p ys∧∀l,H l=none→Q (.ref l) (upd H l (.tup ys)))∨(SqT X.K H p ys∧Q (.ref p) H))):=by
 intro pins s σ H xs us Q I r h;obtain⟨p,ys,rfl,h⟩:=h;obtain⟨u,rfl,rx⟩:=vals1 r;cases rx
 rcases h with ⟨hq,q⟩|⟨hq,q⟩
 ·obtain⟨its,r',pl,hz⟩:=I.list hq;have hlen:=r'.length
  refine call_tuple_list pl.isList (fun h' kp=>?_) (by simp only[ot]<;>omega)
  have I1:Inv X pins σ H { s with heap:=h' }:=I.kept (t':=s.toks) kp
  have I2:Inv X pins σ (upd H h'.objs.size (.tup ys)) { s with heap:=h'.push { cls:=.type "tuple",data:=.seq its.toArray } }:=
   I1.laid (t':=s.toks) (fun b o e=>om _ e) (oh _) (show bV X.prog X.w _ _ _ (.tup ys) from⟨hz,its,r',IsTup.new _ _⟩)
  exact⟨.ref h'.objs.size,_,I2,rfl,q _ (I1.hok.fresh (oh _))⟩
 ·obtain⟨its,r',pl,hz⟩:=I.tuple hq;exact call_tuple_same pl ⟨.ref p,H,I,rfl,q⟩
def tyV(K:so)(T:String)(x:V)(H:Hp):Prop:=match x with
 |.str _=>T = "str"
 |.int _=>T = "int"
 |.ref p=>(T = "list"∧∃xs,SqL K H p xs)∨(T = "tuple"∧∃o,K.lookup p=some o∧o.cls=.type "tuple"∧o.dict=none) ∨
   (T = "dict"∧((∃kvs,H p=some (.dK kvs))∨∃kvs,H p=some (.dT kvs)))∨(T = "set"∧∃S n,H p=some (.set S n))
 |_=>False
theorem JZ{pins:sv}{σ:St}{H:Hp}{s:Shared}{T:String}{x:V}{v:Value}(I:Inv X pins σ H s)(r:RelV x v)(ty:tyV X.K T x H) :
  s.TypeIs v T∧∀a,v=.ref a→∃ob,s.heap.get? a=some ob∧ob.dict=none:=by
 cases x with
 |str z =>
  obtain⟨t,rfl⟩:=r;cases (show T = "str" from ty)
  exact⟨typeIs_str s z t,fun _ e=>nomatch e⟩
 |int i =>
  obtain⟨t,rfl⟩:=r;cases (show T = "int" from ty)
  exact⟨typeIs_int s i t,fun _ e=>nomatch e⟩
 |ref p =>
  cases r
  rcases ty with ⟨rfl,xs,hq⟩|⟨rfl,o,hk,hc,hd⟩|⟨rfl,hk⟩|⟨rfl,S,n,hk⟩
  ·obtain⟨its,_,pl,_⟩:=I.list hq;refine⟨pl.isList.typeIs,fun a e=>?_⟩
   cases e;obtain⟨o,n,e,c,hd,_⟩:=pl;exact⟨o,e,hd⟩
  ·refine⟨⟨o,I.kIn p o hk,hc⟩,fun a e=>?_⟩
   cases e;exact⟨o,I.kIn _ o hk,hd⟩
  ·have z:∃o,s.heap.get? p=some o∧o.ExactDict:=by
    rcases hk with ⟨kvs,hk⟩|⟨kvs,hk⟩
    ·obtain⟨_,_,_,_,o,_,_,e,ex,_⟩:=I.hok p _ hk;exact⟨o,e,ex⟩
    ·obtain⟨_,_,_,_,o,_,_,e,ex,_⟩:=I.hok p _ hk;exact⟨o,e,ex⟩
   obtain⟨o,e,ex⟩:=z;refine⟨⟨o,e,ex.1⟩,fun a e2=>?_⟩
   cases e2;exact⟨o,e,ex.2.1⟩
  ·obtain⟨o,_,_,_,e,ex,_⟩:=I.hok p _ hk;refine⟨⟨o,e,ex.1⟩,fun a e2=>?_⟩
   cases e2;exact⟨o,e,ex.2.1⟩
 |_=>exact False.elim ty
def aKi(K:so)(T:String)(r:V→List V→Hp→VK→Prop)(to:TE):TE:=fun σ H Q=>to σ H fun x H1=>tyV K T x H1∧r x [] H1 Q
def tBM(K:so)(T:String)(r:V→List V→Hp→VK→Prop)(to:TE)(t:TA):TE:=fun σ H Q=>to σ H fun x H1=>tyV K T x H1∧t σ H1 fun xs H2=>r x xs H2 Q
variable {o e:Expr}{es:List Expr}{to:TE}{t:TA}{name:Str}{apos aw:Pos}{T id:String}{r:V→List V→Hp→VK→Prop}
theorem aBI(pa:PlainAttrs T)(slot:Slot T name id)(hty:typeOf (.builtin id)=pure (.type "method_descriptor"))(hm:MtR X id r)(ho:PE X o to)
  (hbase:attributeBase o name X.env (eval o X.env)=eval o X.env:=by rfl) (hline:(apos.endLine == aw.line)=true:=by rfl):PE X (.Call (.Attribute o name apos) [] [] aw) (aKi X.K T r to):=by
 intro pins s σ H Q I h;refine wpAny_Call_method0_late hbase hline (af (ho pins s σ H _ I h) fun v s1 ⟨x,H1,I1,r1,ty,q1⟩=>?_)
 obtain⟨h1,h2⟩:=JZ I1 r1 ty;exact⟨T,id,pa,slot,hty,h1,h2,Calls.callWith_builtin rfl (PySem.evalArgs_none (hm pins s1 σ H1 x [] v [] Q I1 r1 .nil q1))⟩
theorem LN(pa:PlainAttrs T)(slot:Slot T name id)(hty:typeOf (.builtin id)=pure (.type "method_descriptor"))(hm:MtR X id r)(ho:PE X o to)(ha:PA X (e::es) t)
  (hbase:attributeBase o name X.env (eval o X.env)=eval o X.env:=by rfl)
  (hfew:((backTo aw (starEach (e::es) X.env)).all (fun x=>!x.1)&&(backToKw aw (keywordEach [] X.env)).all (fun x=>x.1.isSome)
   && decide ((e::es).length+([]:List Keyword).length+(if ([]:List Keyword).isEmpty then 0 else 1)<30))=true:=by rfl)
  (hline:(apos.endLine == aw.line)=true:=by rfl) (hs:starEach (e::es) X.env=(false,eval e X.env)::starEach es X.env:=by rfl) (hplain:(backTo aw (starEach es X.env)).any (·.1)=false:=by rfl) :
  PE X (.Call (.Attribute o name apos) (e::es) [] aw) (tBM X.K T r to t):=by
 intro pins s σ H Q I h;refine wpAny_Call_method_late hbase hfew hline rfl (af (ho pins s σ H _ I h) fun v s1 ⟨x,H1,I1,r1,ty,q1⟩=>?_)
 obtain⟨h1,h2⟩:=JZ I1 r1 ty;refine⟨T,id,pa,slot,hty,h1,h2,?_⟩;have hA:=ha aw pins s1 σ H1 _ I1 q1
 rw[hs]at hA ⊢;refine Calls.callWith_builtin (by show (false || (backTo aw (starEach es X.env)).any (·.1))=false;rw[hplain]<;>rfl) (Calls.evalArgs_plain ?_)
 exact af hA fun us s2 ⟨vs,H2,I2,r2,q2⟩=>hm pins s2 σ H2 x vs v us Q I2 r1 r2 q2
end
def MtM(X:Cx)(id:String)(r:V→List V→Hp→VK→Prop):Prop:=
 ∀(pins:sv) (s:Shared) (σ:St) (H:Hp) (x:V) (xs:List V) (v:Value) (us:List Value) (Q:VK),Inv X pins σ H s→RelV x v→aR xs us→r x xs H Q →
  wpAny (model X.prog X.w) X.A (call (.builtin id) (v::us)) (EP X pins σ Q) X.xe s
theorem aR.one:∀{x:V} {us:List Value},aR [x] us→∃u,us=[u]∧RelV x u
 |_,_,.cons r .nil=>⟨_,rfl,r⟩
theorem aR.zero:∀{us:List Value},aR [] us→us=[]
 |_,.nil=>rfl
theorem aR.dropLast{xs:List V}{us:List Value}(h:aR xs us):aR xs.dropLast us.dropLast:=by
 induction h with
 |nil=>exact .nil
 |cons r t ih =>
  cases t with
  |nil=>exact .nil
  |cons q t'=>exact .cons r ih
theorem aR.reverse{xs:List V}{us:List Value}(h:aR xs us):aR xs.reverse us.reverse:=by
 induction h with
 |nil=>exact .nil
 |cons r t ih=>rw[reverse_cons,reverse_cons];exact aR.append ih (.cons r .nil)
theorem BD{α:Type}(l:List α):l.eraseIdx (l.length-1)=l.dropLast:=by
 induction l with
 |nil=>rfl
 |cons a r ih =>
  cases r with
  |nil=>rfl
  |cons b r =>
   have e:(a::b::r).length-1=((b::r).length-1)+1:=by
    have h1:(a::b::r).length=r.length+2:=rfl
    have h2:(b::r).length=r.length+1:=rfl
    omega
   rw[e,List.eraseIdx_cons_succ,ih]
   all_goals rfl
section
variable {X:Cx}{pins:sv}{σ:St}{H:Hp}{s:Shared}{l b:Addr}{xs ys zs:List V}
theorem Inv.lset{its its':List Value}{n:Nat}{f:Array Value→Array Value}{t':Nat}(I:Inv X pins σ H s)(hH:H l=some (.lst xs))
  (e:s.heap.get? l=some { cls:=.type "list",data:=.seq its.toArray n }) (hf:f its.toArray=its'.toArray) (hv:aR ys its') (hz:ys.length≤sizeLine) :
  Inv X pins σ (upd H l (.lst ys)) { s with heap:=s.heap.update l (Obj.mapSeq f),toks:=t' }:=by
 have q:=PySem.IsL.update e f
 rw[hf]at q;refine I.write (x:=l) (e:=l) (by rw[hH];exact trivial) (.inl rfl) (fun b' u hb hu=>(Heap.get?_update_other s.heap (Obj.mapSeq f) (Ne.symm hb)).trans hu) ⟨_,q⟩ ?_
 exact⟨hz,its',_,hv,q⟩
theorem Inv.lnew{its:List Value}{t':Nat}(I:Inv X pins σ H s)(hv:aR ys its)(hz:ys.length≤sizeLine) :
  Inv X pins σ (upd H s.heap.objs.size (.lst ys)) { s with heap:=s.heap.push { cls:=.type "list",data:=.seq its.toArray },toks:=t' }:=
 I.laid (fun _ _ q=>om _ q) (oh _) ⟨hz,its,0,hv,qr _ rfl⟩
theorem Inv.fresh(I:Inv X pins σ H s):H s.heap.objs.size=none:=I.hok.fresh (oh _)
theorem Inv.lstM(I:Inv X pins σ H s)(hH:H l=some (.lst xs)):xs.length≤sizeLine∧∃(its:List Value) (n:Nat),aR xs its∧xs.length=its.length∧s.heap.get? l=some { cls:=.type "list",data:=.seq its.toArray n }:=by
 obtain⟨z,its,n,r,e⟩:=I.hok l _ hH;exact⟨z,its,n,r,r.length,e⟩
theorem MI{n:Nat}(h:n≤sizeLine):Builtin.List.listTooLong n=false:=by
 unfold Builtin.List.listTooLong;exact oj (by omega)
end
section
variable {X:Cx}
noncomputable def SK:V→List V→Hp→VK→Prop:=fun x vs H Q=>∃l xs y,x=.ref l∧vs=[y]∧H l=some (.lst xs)∧xs.length<sizeLine∧Q .non (upd H l (.lst (xs++[y])))
theorem rT:MtM X "list.append" SK:=by
 intro pins s σ H x vs v us Q I rx rv h;obtain⟨l,xs,y,rfl,rfl,hH,hz,q⟩:=h;cases rx;obtain⟨u,rfl,ru⟩:=rv.one;obtain⟨z,its,n,r,hl,e⟩:=I.lstM hH;refine call_meets F.slot_list_append ⟨_,e,rfl⟩ F.entry_list_append (F.args_list_append_2 _ _) (PySem.list_append l its.toArray n u (by rw[ot];omega)) ⟨e,?_⟩
 refine⟨.non,_,I.lset (its':=its++[u]) hH e (by simp) (r.append (.cons ru .nil)) ?_,rfl,q⟩
 rw[pv,List.length_singleton];omega
noncomputable def SJ:V→List V→Hp→VK→Prop:=fun x vs H Q=>∃l b xs zs,x=.ref l∧vs=[.ref b]∧H l=some (.lst xs)∧H b=some (.lst zs)∧xs.length+zs.length≤sizeLine∧Q .non (upd H l (.lst (xs++zs)))
theorem aDD:MtM X "list.extend" SJ:=by
 intro pins s σ H x vs v us Q I rx rv h;obtain⟨l,b,xs,zs,rfl,rfl,hH,hB,hz,q⟩:=h;cases rx;obtain⟨u,rfl,ru⟩:=rv.one;cases ru;obtain⟨z,its,n,r,hl,e⟩:=I.lstM hH;obtain⟨z2,cm,n2,r2,j3,e2⟩:=I.lstM hB;have hsz:its.toArray.size+cm.toArray.size≤sizeLine:=by rw[ot,ot];omega
 have hlong:¬(!its.toArray.isEmpty&&Builtin.List.listTooLong (its.toArray.size+cm.toArray.size))=true:=by
  rw[MI hsz,Bool.and_false];exact oN
 refine call_meets F.slot_list_extend ⟨_,e,rfl⟩ F.entry_list_extend (F.args_list_extend_2 _ _)
  (AutoSeq1.list_extend_list_list_0 l its.toArray n b cm.toArray n2 hlong (by rw[ot];omega) (by omega)) ⟨e,e2,?_⟩
 refine⟨.non,_,I.lset (its':=its++cm) hH e (by simp) (r.append r2) ?_,rfl,q⟩
 rw[pv];omega
noncomputable def aKJ:V→List V→Hp→VK→Prop:=fun x vs H Q=>∃l xs y,x=.ref l∧vs=[]∧H l=some (.lst xs)∧xs[xs.length-1]?=some y∧Q y (upd H l (.lst xs.dropLast))
theorem aCo:MtM X "list.pop" aKJ:=by
 intro pins s σ H x vs v us Q I rx rv h;obtain⟨l,xs,y,rfl,rfl,hH,hy,q⟩:=h;cases rx;have hus:=rv.zero
 subst hus;obtain⟨z,its,n,r,hl,e⟩:=I.lstM hH;obtain⟨u,hu,ru⟩:=r.get hy;have ef:its.toArray[its.toArray.size-1]?=some u:=by
  show its.toArray[its.length-1]?=some u
  rw[←Array.getElem?_toList,←hl];exact hu
 refine call_meets F.slot_list_pop ⟨_,e,rfl⟩ F.entry_list_pop (F.args_list_pop_1 _) (MeetsSeq.list_pop_last l its.toArray n u ef (by rw[ot];omega)) ⟨e,?_⟩
 refine⟨y,_,I.lset (its':=its.dropLast) hH e ?_ r.dropLast ?_,ru,q⟩
 ·show its.toArray.eraseIdxIfInBounds (its.toArray.size-1)=its.dropLast.toArray
  rw[ot,List.eraseIdxIfInBounds_toArray,BD]
 ·rw[List.length_dropLast];omega
noncomputable def aGj:R2:=fun x y H Q=>∃l b xs zs,x=.ref l∧y=.ref b∧H l=some (.lst xs)∧H b=some (.lst zs)∧xs.length+zs.length≤sizeLine∧∀p,H p=none→Q (.ref p) (upd H p (.lst (xs++zs)))
theorem LV:au X (binaryOp .Add) aGj:=by
 intro pins s σ H x y v u Q I rx ry h;obtain⟨l,b,xs,zs,rfl,rfl,hH,hB,hz,q⟩:=h;cases rx;cases ry;obtain⟨z,its,n,r,hl,e⟩:=I.lstM hH;obtain⟨z2,cm,n2,r2,j3,e2⟩:=I.lstM hB;refine PySem.P.add_list e e2 ?_ (by rw[ot,ot];omega)
 have ea:its.toArray++cm.toArray=(its++cm).toArray:=by simp
 rw[ea];exact⟨.ref _,_,I.lnew (t':=s.toks) (r.append r2) (by rw[pv];omega),rfl,q _ I.fresh⟩
end
section
variable {prog:sr}{w:World}{A:Around}{E:su}{s:Shared}
end
section
variable {X:Cx}
end
end L2
namespace Att
open PySem PySem.W PySem.Calls PyProof.Rows
theorem nR{P:Params}{h:Heap}:∀(ns:List Int) (vs:List Value),WellAll P h vs (ns.map WData.int)→IntsAre vs ns:=by
 intro ns
 induction ns with
 |nil =>
  intro vs w;rw[List.map_nil]at w;cases w;exact .nil
 |cons n ns ih =>
  intro vs w;rw[qb]at w;cases w with
  |cons a b =>
   cases a;exact .cons _ _ (ih _ b)
theorem GV{l:OpenLaw}{n:Nat}(hn:l.most=some n){P:Params}{h:Heap}{args:List WData}{vals:List Value}
  (hpre:l.row.toRowW.claim.pre args=true) (hwl:WellAll P h vals args) :
  ∃a vs ns,vals=[Value.ref a]∧args=[WData.list (ns.map WData.int)]∧h.get? a=some { cls:=.type "list",data:=.seq vs.toArray }∧IntsAre vs ns∧ns.length≤n:=by
 have hsh:WShape.hasAll [] args [.list .int]=true:=(pre_splitW hpre).1
 have hc:l.pre.holds [] { args:=args }=true:=(pre_splitW hpre).2
 obtain⟨d,r,rfl,h1,h2⟩:=hasAllW_cons hsh;obtain rfl:=hasAllW_nil h2;obtain⟨xs,rfl,h3⟩:=hasW_list h1;obtain⟨ns,rfl⟩:=items_int h3;have hlen:ns.length≤n:=by
  unfold OpenLaw.pre at hc;have h4:(WTm.not (.lt (.lit (.int (n:Int))) (.len (.arg 0)))).holds [] { args:=[.list (ns.map .int)] }=true:=by
   have h4:=(holds_andW hc).1
   rw[hn]at h4;exact h4
  have h5:=condW_of h4 (w_not (w_lt w_lit (w_len_list (w_arg rfl))))
  rw[og]at h5;refine Nat.le_of_not_lt fun q=>?_
  have q':(n:Int)<((ns.length:Nat):Int):=by omega
  first
   | (rw[qc q']at h5;exact absurd h5 (by decide))
   | (simp at h5;omega)
 cases hwl with
 |cons w1 w2 =>
  cases w2;cases w1 with
  |list ho hall=>exact⟨_,_,ns,rfl,rfl,ho,nR ns _ hall,hlen⟩
theorem HD(l:OpenLaw)(args:List WData):l.row.toRowW.claim.post args (.bool true) args=true:=
 postW_of (r:=l.row.toRowW) (X:=(true == true))
  (show WShape.has [] (.bool true) .bool=true by first|rfl|decide|simp[WShape.has,WShape.arms,WShape.armsAll])
  (show (WTm.eq .res (.lit (.bool true))).value [] { args:=args,res:=some (.bool true),after:=args }=some (.bool (true == true)) from w_eq_bool (w_res rfl) w_lit) rfl
theorem zE{l:OpenLaw}{n:Nat}{q:sr}{loose:List Str}{XP:(t5)→Heap→Prop}{YP:World→Heap→Prop}{d:DefRec}
  (hn:l.most=some n) (mh:d.params.defaults=[])
  (call:∀(w:World) (s₀ s₁:Shared) (mg mb:t5) (fa:Addr) (o:Obj) (pm cd doc:Value) (a:Addr) (vs:List Value) (ns:List Int),
   Ground q loose [] XP w s₀ mg mb s₁.heap→YP w s₁.heap →
   s₁.heap.get? fa=some o→o.data=.func (docDef d.name d.params d.body d.scope pm cd doc)→s₁.heap.CodeRec cd d.name→mg d.name=some (.ref fa) →
   s₁.heap.get? a=some { cls:=.type "list",data:=.seq vs.toArray }→IntsAre vs ns→ns.length≤n→s₁.gens=#[] →
   codeAny (model l.prog w) callerA (.call (.ref fa) ⟨[.ref a],[]⟩) (fun r s'=>r=.ok (.ret (.bool true))∧OldK s₁.heap s'.heap∧s'.os=s₁.os∧AllBare s'.gens) s₁) :
  WalkO q loose XP YP l.row.toRowW d [] (fun f vs=>PySem.call f vs):=by
 intro w s₀ s₁ mg mb G Y fa o pm cd doc dV kV ho hd dh hD lx hg args vals as hpre hlay hrd hwl hlo;obtain rfl:dV=.none:=Dflts.none hD mh;obtain rfl:kV=.none:=Dflts.noKw hD;obtain⟨a,vs,ns,rfl,rfl,hobj,hints,hlen⟩:=GV hn hpre hwl;refine enter_call (codeAny_mono (call w s₀ s₁ mg mb fa o pm cd doc a vs ns G Y ho (fd_plain hd) dh lx hobj hints hlen hg) fun r s' hq=>?_)
 obtain⟨rfl,h2,h3,h4⟩:=hq;exact⟨.inl ⟨.bool true,.bool true,[],rfl,fun _=>rfl,.bool true,HD l _,fun _=>⟨List.Pairwise.nil,fun _ hm=>(nomatch hm)⟩⟩,h2,h3,h4⟩
section
variable {prog:sr}{w:World}{A:Around}{E:su}{s:Shared}{K:Frag}
end
end Att
namespace L2
open PySem PySem.Spec PyProof.Rows
theorem rH:∀{vs:List Value} {ns:List Int},IntsAre vs ns→aR (ns.map V.int) vs
 |_,_,.nil=>.nil
 |_,_,.cons n t h=>.cons ⟨t,rfl⟩ (rH h)
def aDt(H:Hp):Prop:=∀b,H b=none∨∃o xs,H b=some (.frz o (.lst xs))
theorem MT{P:sr}{w:World}{K:so}{mg mb:t5}{CX:ao}{k:Nat}{fa a:Addr}{fd:sq}{x:Str}{sp:Sp}{s₁:Shared}{vs:List Value}{ns:List Int}
  (KX:K.In s₁.heap) (ej:s₁.heap.Ns mainGlobals mg) (hb:s₁.heap.Ns builtinsNs mb) (hbb:∀x:Str,x≠"__name__"→mb x=bootBuiltins x) (hlim:s₁.heap.NoLimit) (hg:s₁.gens=#[])
  (ha:s₁.heap.get? a=some { cls:=.type "list",data:=.seq vs.toArray }) (hi:IntsAre vs ns) (hl:ns.length≤sizeLine) (hr:Room k callerA)
  (F:∀base:Heap,K.In base→base.Ns mainGlobals mg→FnOk P w K mg base CX k fa fd [x] sp) (hbind:∀(s:Shared) (u:Value),BindsTo s fd ⟨[u],[]⟩ [(x,u)])
  (bo:∀H:Hp,aDt H→SqL K H a (ns.map V.int)→sp [.ref a] H (fun v _=>v=.bl true) fun _ _ _=>False)
  (hCX:∀H e s',CX [] H s₁ (fun _ _ _=>False) e s'→False) :
  codeAny (model P w) callerA (.call (.ref fa) ⟨[.ref a],[]⟩) (fun r s'=>r=.ok (.ret (.bool true))∧OldK s₁.heap s'.heap∧s'.os=s₁.os∧AllBare s'.gens) s₁:=by
 have rv:=rH hi
 have lenV:=hi.length
 have core:∀H:Hp,aDt H→SqL K H a (ns.map V.int)→HOk P w H s₁.heap→(∀b,H b≠none→b=a)→(H a≠none→K.lookup a=none) →
   codeAny (model P w) callerA (.call (.ref fa) ⟨[.ref a],[]⟩) (fun r s'=>r=.ok (.ret (.bool true))∧OldK s₁.heap s'.heap∧s'.os=s₁.os∧AllBare s'.gens) s₁:=by
  intro H hO hS hok hA hK;have lT:∀{b:Addr} {o:Obj},s₁.heap.get? b=some o→H b=none→(uJ s₁.heap H).get? b=some o:=fun e n=>NS e n
  have k6:∀{b:Addr} {o:Obj} {es:Array DictEntry} {ep:Nat},s₁.heap.get? b=some o→o.data=.dict es ep→H b=none:=fun {b o es ep} e d=>by
   cases q:H b with
   |none=>rfl
   |some u =>
    have e':b=a:=hA b (by rw[q];simp)
    subst e';rw[ha]at e;cases e;have d':Data.seq vs.toArray _=Data.dict es ep:=d
    cases d'
  have nsK:∀{b:Addr} {m:t5},s₁.heap.Ns b m→(uJ s₁.heap H).Ns b m:=fun {b m} ⟨o,es,ep,e,d,r⟩=>⟨o,es,ep,lT e (k6 e d),d,r⟩
  have hKb:K.In (uJ s₁.heap H):=fun b o e=>lT (KX b o e) (by
   cases q:H b with
   |none=>rfl
   |some u =>
    have e':b=a:=hA b (by rw[q];simp)
    subst e';rw[hK (by rw[q];simp)]at e;cases e)
  have hM:Mod K mg (uJ s₁.heap H):=⟨hKb,nsK ej,⟨mb,nsK hb,hbb⟩,let ⟨mc,h1,h2⟩:=hlim;⟨mc,nsK h1,h2⟩⟩
  have e0:Env0 P w K mg (uJ s₁.heap H) callerA [] s₁ H:=⟨rfl,hM,fun b o e=>VH e,Nat.le_of_eq (IH _ _),trivial,fun b hb=>absurd (show b∈([]:List Addr) from hb) (by simp),hok,.of_eq hg⟩
  refine codeAny_mono ((F _ hKb (nsK ej)).run callerA [] s₁ H ⟨[.ref a],[]⟩ [.ref a] [.ref a] _ _ hr e0 (hbind s₁ (.ref a)) (.cons rfl .nil) (bo H hO hS)) fun r s' h=>?_
  cases r with
  |error e=>exact(hCX H e s' h).elim
  |ok fl =>
   cases fl with
   |next=>exact False.elim h
   |brk=>exact False.elim h
   |cont=>exact False.elim h
   |ret u =>
    obtain⟨v,H',os,bare,un,hok',r',q⟩:=h;have q':v=.bl true:=q
    subst q';obtain rfl:u=Value.bool true:=r';refine⟨rfl,OldK.of_keep fun b o e=>?_,os,bare⟩
    cases q:H b with
    |none=>exact un.keep b o e q (by intro z;exact absurd (show b∈([]:List Addr) from z) (by simp)) (by simp)
    |some u =>
     rcases hO b with z|⟨ob,xs,z⟩
     ·rw[q]at z;cases z
     ·have z2:=un.frzs b ob _ z
      obtain⟨e1,_⟩:=hok b _ z;obtain⟨e2,_⟩:=hok' b _ z2;rw[e]at e1;cases e1;exact e2
 cases hk:K.lookup a with
 |some o =>
  have e:=KX a o hk
  rw[ha]at e;cases e;refine core (fun _=>none) (fun _=>.inl rfl) (.inr ⟨_,vs.toArray,_,hk,rfl,rfl,rfl,by rw[ot,lenV];exact hl,by simpa using rv⟩) (fun b u z=>by have z':(none:Option HO)=some u:=z;cases z') (fun b z=>absurd rfl z) fun z=>absurd rfl z
 |none =>
  refine core (fun b=>if b=a then some (.frz { cls:=.type "list",data:=.seq vs.toArray } (.lst (ns.map V.int))) else none) (fun b=>?_) (.inl (.inr ⟨{ cls:=.type "list",data:=.seq vs.toArray },if_pos rfl⟩)) (fun b u z=>?_) (fun b z=>?_) fun _=>hk
  ·by_cases hb:b=a
   ·exact .inr ⟨_,_,if_pos hb⟩
   ·exact .inl (if_neg hb)
  ·by_cases hb:b=a
   ·have z':=(if_pos hb).symm.trans z
    cases z';subst hb;exact⟨ha,by rw[og];exact hl,vs,_,rv,ha⟩
   ·have z':=(if_neg hb).symm.trans z
    cases z'
  ·by_cases hb:b=a
   ·exact hb
   ·exact absurd (if_neg hb) z
theorem RN{l:PySem.W.OpenLaw}{n k:Nat}{q:sr}{loose:List Str}{XP:(t5)→Heap→Prop}{YP:World→Heap→Prop}{d:DefRec}{K:Params→so}{CX:World→ao}{sp:World→Sp}{x:Str}
  (hn:l.most=some n) (hn2:n≤sizeLine) (mh:d.params.defaults=[]) (hr:Room k callerA)
  (hY:∀(w:World) (h:Heap),YP w h→(K w.params).In h)
  (F:∀(w:World) (mg:t5) (fa:Addr) (h:Heap),(K w.params).In h→h.Ns mainGlobals mg→mg d.name=some (.ref fa) →
   ∃fd:sq,(∀(s:Shared) (u:Value),BindsTo s fd ⟨[u],[]⟩ [(x,u)]) ∧
    ∀base:Heap,(K w.params).In base→base.Ns mainGlobals mg→FnOk l.prog w (K w.params) mg base (CX w) k fa fd [x] (sp w))
  (bo:∀(w:World) (H:Hp) (a:Addr) (ns:List Int),ns.length≤n→aDt H→SqL (K w.params) H a (ns.map V.int)→sp w [.ref a] H (fun v _=>v=.bl true) fun _ _ _=>False)
  (hCX:∀(w:World) (H:Hp) (s:Shared) (e:Value) (s':Shared),CX w [] H s (fun _ _ _=>False) e s'→False) :
  PySem.W.WalkO q loose XP YP l.row.toRowW d [] (fun f vs=>PySem.call f vs):=by
 refine Att.zE hn mh fun w s₀ s₁ mg mb fa o pm cd doc a vs ns G Y ho hd dh lx hobj hints hlen hg=>?_
 have KX:=hY w _ Y
 obtain⟨fd,hb,hF⟩:=F w mg fa _ KX G.T.g lx;exact MT KX G.T.g G.T.b G.T.builtins G.T.nolimit hg hobj hints (p9 hlen hn2) hr hF hb (fun H hO hS=>bo w H a ns hlen hO hS) fun H e s'=>hCX w H s₁ e s'
noncomputable def inClass(s:Stmt)(j:Nat):Stmt:=match s with
 |.ClassDef _ _ _ body _ _ _ _ _ _ _=>body.getD j (.Pass ⟨0,0,0,0⟩)
 |_=>.Pass ⟨0,0,0,0⟩
noncomputable def fI(s:Stmt):Arguments:=match s with
 |.FunctionDef _ a _ _ _ _ _ _ _ _=>a
 |_=>{ posonlyargs:=[],args:=[],vararg:=none,kwonlyargs:=[],kw_defaults:=[],kwarg:=none,defaults:=[] }
noncomputable def bI(s:Stmt):List Stmt:=match s with
 |.FunctionDef _ _ b _ _ _ _ _ _ _=>b
 |_=>[]
noncomputable def aB(s:Stmt):Scope:=match s with
 |.FunctionDef _ _ _ _ _ _ sc _ _ _=>sc
 |_=>{ kind:=.function,names:=[],isGenerator:=false,isCoroutine:=false }
abbrev jo:ao:=fun _ _ _ _ _ _=>False
abbrev E0:XK:=fun _ _ _=>False
structure Fun (K:so) (x qual:Str) (st:Stmt) (f:Addr) (fd:sq):Prop where
 ex:∃(oc:Value) (od:Option Addr) (kV doc pm:Value) (an:Option Addr) (ax ct:Value) (ik:Array (Option Value)),
  fd=PySem.W.fnOf x qual (fI st) (bI st) (aB st) .none kV doc pm an ax ct∧K.lookup f=some ⟨oc,od,.func fd,ik⟩∧codeIn K ax qual=true
 kp:keepIn K (.ref f)=true
section
variable {P:sr}{w:World}{K:so}{mg:t5}{base:Heap}
theorem Fun.ok{x qual:Str}{st:Stmt}{f:Addr}{fd:sq}{N ps:List Str}{k:Nat}{sp:Sp}(F:Fun K x qual st f fd)(S:aa N ps (aB st))(len:∀vs H Q E,sp vs H Q E→vs.length=ps.length)
  (hbody:∀(ax:Value) (A:Around) (outer:List Env) (s:Shared) (H:Hp) (vs:List V) (Q:VK) (E:XK),Room k (A.deeper (envOfC qual (aB st) s.heap.objs.size f ax))→sp vs H Q E →
   ∃t,PSs (kM jo P w K mg base N qual (aB st) f ax A outer s H E).nox (bI st) t∧t { nx:=fun _ H'=>Q .non H',rt:=Q } (start N vs) H):FnOk P w K mg base jo (k+1) f fd ps sp:=by
 obtain⟨oc,od,kV,doc,pm,an,ax,ct,ik,rfl,lk,dh⟩:=F.ex;refine DJ lk dh S len fun A outer s H vs Q E hr bo=>?_
 obtain⟨t,h,q⟩:=hbody ax A outer s H vs Q E hr bo;exact⟨t,h.nox,q⟩
theorem Fun.binds{x qual:Str}{st:Stmt}{f:Addr}{fd:sq}{ps:List Str}(F:Fun K x qual st f fd)
  (h:∀(kV doc pm:Value) (an:Option Addr) (ax ct:Value) (us:List Value),us.length=ps.length→bindArgs (PySem.W.fnOf x qual (fI st) (bI st) (aB st) .none kV doc pm an ax ct) ⟨us,[]⟩=pure (ps.zip us)):Binds K fd ps []:=by
 obtain⟨oc,od,kV,doc,pm,an,ax,ct,ik,rfl,lk,dh⟩:=F.ex;exact .all (h kV doc pm an ax ct)
end
theorem DE{A:Around}{k:Nat}(hr:Room k A):A.units+1<cLine:=Nat.lt_of_le_of_lt (Nat.add_le_add_left (by decide:1≤64) _) hr.units
section
variable {X:Cx}
end
theorem pT{A B:Prop}(h:B):if false=true then A else B:=by
 rw[if_neg oN];exact h
theorem qZ{A B:Prop}(h:A):if true=true then A else B:=by
 rw[if_pos rfl];exact h
def aG(H H':Hp):Prop:=∀b o,H b=some o→H' b=some o
theorem aG.refl(H:Hp):aG H H:=fun _ _ h=>h
theorem aG.trans{H H1 H2:Hp}(a:aG H H1)(b:aG H1 H2):aG H H2:=fun c o h=>b c o (a c o h)
theorem aG.free{H H':Hp}(e:aG H H'){l:Addr}(h:H' l=Option.none):H l=Option.none:=by
 cases q:H l with
 |none=>rfl
 |some o =>
  rw[e l o q]at h;cases h
section
variable {κ:Type}[DecidableEq κ]
noncomputable def kU(kvs:List (κ×V))(k:κ):Option V:=(kvs.find? fun kv=>decide (kv.1=k)).map (·.2)
noncomputable def putK(kvs:List (κ×V))(k:κ)(v:V):List (κ×V):=
 if (kvs.any fun kv=>decide (kv.1=k))=true then kvs.map (fun kv=>if kv.1=k then(kv.1,v) else kv) else kvs++[(k,v)]
theorem kS{p:κ×V}{r:List (κ×V)}{k:κ}(e:p.1=k):kU (p::r) k=some p.2:=by simp[kU,find?_cons,e]
theorem kT{p:κ×V}{r:List (κ×V)}{k:κ}(e:¬p.1=k):kU (p::r) k=kU r k:=by simp[kU,find?_cons,e]
theorem wH(k:κ):∀kvs:List (κ×V),(kvs.any fun kv=>decide (kv.1=k))=(kU kvs k).isSome
 |[]=>rfl
 |p::r=>by
  rw[any_cons]
  by_cases e:p.1=k
  ·simp only[kS e,qc e,Bool.true_or,Option.isSome_some]
  ·rw[kT e,oj e,Bool.false_or];exact wH k r
theorem nH(kvs:List (κ×V))(k:κ)(v:V):(putK kvs k v).length≤kvs.length+1:=by
 unfold putK;split
 ·rw[og];omega
 ·rw[pv,qy,List.length_nil];omega
theorem iW.isSome_eq{o:Option V}{u:Option Value}(r:iW o u):o.isSome=u.isSome:=by
 cases o with
 |none=>cases u with
  |none=>rfl
  |some _=>exact(show False from r).elim
 |some _=>cases u with
  |none=>exact(show False from r).elim
  |some _=>rfl
theorem iW.getD{o:Option V}{u:Option Value}{d:V}{d':Value}(r:iW o u)(rd:RelV d d'):RelV (o.getD d) (u.getD d'):=by
 cases o with
 |none=>cases u with
  |none=>exact rd
  |some _=>exact(show False from r).elim
 |some _=>cases u with
  |none=>exact(show False from r).elim
  |some _=>exact r
theorem KV.val{kvs:List (κ×V)}{vs:List (κ×Value)}(r:KV kvs vs)(k:κ):iW (kU kvs k) (valueAt vs k):=by
 unfold KV at r
 induction r with
 |nil=>exact True.intro
 | @cons p q ps qs h t ih =>
  obtain⟨h1,h2⟩:=h
  by_cases e:p.1=k
  ·have e':q.1=k:=h1.symm.trans e
   have b:valueAt (q::qs) k=some q.2:=by simp[valueAt,find?_cons,e']
   rw[kS e,b];exact h2
  ·have e':¬q.1=k:=fun z=>e (h1.trans z)
   have b:valueAt (q::qs) k=valueAt qs k:=by simp[valueAt,find?_cons,e']
   rw[kT e,b];exact ih
theorem KV.any{kvs:List (κ×V)}{vs:List (κ×Value)}(r:KV kvs vs)(k:κ):(kvs.any fun kv=>decide (kv.1=k))=vs.any fun kv=>decide (kv.1=k):=by
 unfold KV at r
 induction r with
 |nil=>rfl
 |cons h t ih=>rw[any_cons,any_cons,ih,h.1]
theorem KV.repl{kvs:List (κ×V)}{vs:List (κ×Value)}(r:KV kvs vs)(k:κ){y:V}{u:Value}(ry:RelV y u) :
  KV (kvs.map fun kv=>if kv.1=k then(kv.1,y) else kv) (vs.map fun kv=>if kv.1=k then(kv.1,u) else kv):=by
 unfold KV at r ⊢
 induction r with
 |nil=>exact .nil
 | @cons p q ps qs h t ih =>
  rw[qb,qb];refine .cons ?_ ih;obtain⟨h1,h2⟩:=h
  by_cases e:p.1=k
  ·rw[if_pos e,if_pos (h1.symm.trans e)];exact⟨h1,ry⟩
  ·rw[if_neg e,if_neg (fun z=>e (h1.trans z))];exact⟨h1,h2⟩
theorem KV.put{kvs:List (κ×V)}{vs:List (κ×Value)}(r:KV kvs vs)(k:κ){y:V}{u:Value}(ry:RelV y u):KV (putK kvs k y) (stored vs k u):=by
 unfold putK stored;rw[r.any k]
 by_cases e:(vs.any fun kv=>decide (kv.1=k))=true
 ·rw[if_pos e,if_pos e];exact r.repl k ry
 ·rw[if_neg e,if_neg e];exact Paired.snoc r ⟨rfl,ry⟩
theorem KV.length{kvs:List (κ×V)}{vs:List (κ×Value)}(r:KV kvs vs):kvs.length=vs.length:=Paired.length r
end
theorem CV{P:sr}{w:World}{k:Key}{u:Value}(r:RelV (kV k) u):(bK P w).is k u=true:=by
 cases k with
 |inl i=>obtain⟨t,e⟩:=(show ∃t,u=Value.int i t from r);subst e;exact xV P w i t
 |inr x=>obtain⟨t,e⟩:=(show ∃t,u=Value.str x t from r);subst e;exact jA P w x t
theorem sA{P:sr}{w:World}:∀{ks:List Key} {us:List Value},aR (ks.map kV) us→ItemsAre (bK P w) ks us
 |[],_,r=>by rw[List.map_nil]at r;cases r;exact .nil
 |k::ks,_,r=>by
  rw[qb]at r;cases r with
  |cons h t=>exact .cons (CV h) (sA t)
abbrev KT(H:Hp):List (List Key×V)→List (List Key×Addr×Value)→Prop:=Paired fun p q=>p.1=q.1∧H q.2.1=some (.tup (p.1.map kV))∧RelV p.2 q.2.2
theorem KT.val{H:Hp}{kvs:List (List Key×V)}{xs:List (List Key×Addr×Value)}(r:KT H kvs xs)(k:List Key):iW (kU kvs k) ((atKey xs k).map (·.2)):=by
 induction r with
 |nil=>exact True.intro
 | @cons p q ps qs h t ih =>
  obtain⟨h1,_,h2⟩:=h
  by_cases e:p.1=k
  ·have e':q.1=k:=h1.symm.trans e
   have b:atKey (q::qs) k=some q.2:=by simp[atKey,find?_cons,e']
   rw[kS e,b];exact h2
  ·have e':¬q.1=k:=fun z=>e (h1.trans z)
   have b:atKey (q::qs) k=atKey qs k:=by simp[atKey,find?_cons,e']
   rw[kT e,b];exact ih
theorem KT.repl{H:Hp}{kvs:List (List Key×V)}{xs:List (List Key×Addr×Value)}(r:KT H kvs xs)(k:List Key){y:V}{u:Value}(ry:RelV y u) :
  KT H (kvs.map fun kv=>if kv.1=k then(kv.1,y) else kv) (xs.map (putAt k u)):=by
 induction r with
 |nil=>exact .nil
 | @cons p q ps qs h t ih =>
  rw[qb,qb];refine .cons ?_ ih;obtain⟨h1,h2,h3⟩:=h;unfold putAt
  by_cases e:p.1=k
  ·rw[if_pos e,if_pos (h1.symm.trans e)];exact⟨h1,h2,ry⟩
  ·rw[if_neg e,if_neg (fun z=>e (h1.trans z))];exact⟨h1,h2,h3⟩
theorem KT.put{H:Hp}{kvs:List (List Key×V)}{xs:List (List Key×Addr×Value)}(r:KT H kvs xs)(k:List Key){b:Addr}{y:V}{u:Value}(hb:H b=some (.tup (k.map kV)))(ry:RelV y u) :
  KT H (putK kvs k y) (storedH xs k b u):=by
 have e:(kvs.any fun kv=>decide (kv.1=k))=(atKey xs k).isSome:=by
  rw[wH,(r.val k).isSome_eq,Option.isSome_map]
 unfold putK storedH;rw[e]
 by_cases q:(atKey xs k).isSome=true
 ·rw[if_pos q,if_pos q];exact r.repl k ry
 ·rw[if_neg q,if_neg q];exact Paired.snoc r ⟨rfl,hb,ry⟩
theorem KT.keeps{H H':Hp}{kvs:List (List Key×V)}{xs:List (List Key×Addr×Value)}(r:KT H kvs xs)(ht:∀b ys,H b=some (.tup ys)→H' b=some (.tup ys)):KT H' kvs xs:=
 Paired.mapP r fun _ _ z=>⟨z.1,ht _ _ z.2.1,z.2.2⟩
section
variable {P:sr}{w:World}{H:Hp}{h:Heap}{a:Addr}
theorem YY{u:HO}(ok:HOk P w H h)(e:Rd H a u):bV P w H h a u:=e.ok ok
theorem yQ{kvs:List (Key×V)}(ok:HOk P w H h)(e:Rd H a (.dK kvs)):kvs.length≤sizeLine∧(a == sysModules)=false∧∃vs,KV kvs vs∧h.DictOf (bK P w) a vs:=
 show bV P w H h a (.dK kvs) from YY ok e
theorem aIb{kvs:List (Key×V)}(ok:HOk P w H h)(e:H a=some (.dK kvs)):kvs.length≤sizeLine∧(a == sysModules)=false∧∃vs,KV kvs vs∧h.DictOf (bK P w) a vs:=yQ ok (.inl e)
theorem tX{ks:List Key}(ok:HOk P w H h)(e:H a=some (.tup (ks.map kV))):(tupleKind (bK P w)).is h ks a:=by
 obtain⟨_,its,r,o,h1,h2,n,h3⟩:=(show bV P w H h a (.tup (ks.map kV)) from ok a _ e)
 exact⟨o,its.toArray,n,h1,h2,h3,by simpa using sA r⟩
theorem FB{kvs:List (List Key×V)}(ok:HOk P w H h)(e:Rd H a (.dT kvs)):kvs.length≤sizeLine∧(a == sysModules)=false ∧
  ∃xs,KT H kvs xs∧h.DictOfH (tupleKind (bK P w)) a xs:=by
 obtain⟨z,y,xs,r,o,es,ep,h1,h2,h3,h4,h5⟩:=(show bV P w H h a (.dT kvs) from YY ok e)
 refine⟨z,y,xs,r,o,es,ep,h1,h2,h3,h4,fun x hx=>?_,h5⟩
 have all:∀{l:List (List Key×V)} {m:List (List Key×Addr×Value)},KT H l m→∀x∈m,(tupleKind (bK P w)).is h x.1 x.2.1:=by
  intro l m q
  induction q with
  |nil=>intro x hx;exact nomatch hx
  | @cons p q ps qs hq t ih =>
   intro x hx
   rcases pj.mp hx with e|hx
   ·subst e;exact tX ok (by rw[←hq.1];exact hq.2.1)
   ·exact ih x hx
 exact all r x hx
theorem aHZ{kvs:List (List Key×V)}(ok:HOk P w H h)(e:H a=some (.dT kvs)):kvs.length≤sizeLine∧(a == sysModules)=false ∧
  ∃xs,KT H kvs xs∧h.DictOfH (tupleKind (bK P w)) a xs:=FB ok (.inl e)
end
def rG(H:Hp)(a:Addr)(y:V)(r:Option V):Prop:=
 (∃kvs k,Rd H a (.dK kvs)∧y=kV k∧r=kU kvs k)∨∃kvs k b,Rd H a (.dT kvs)∧y=.ref b∧H b=some (.tup (k.map kV))∧r=kU kvs k
def RH(H:Hp)(a:Addr)(y v:V)(H':Hp):Prop:=
 (∃kvs k,H a=some (.dK kvs)∧y=kV k∧kvs.length<sizeLine∧H'=upd H a (.dK (putK kvs k v))) ∨
 ∃kvs k b,H a=some (.dT kvs)∧y=.ref b∧H b=some (.tup (k.map kV))∧kvs.length<sizeLine∧H'=upd H a (.dT (putK kvs k v))
theorem rG.k{H:Hp}{a:Addr}{kvs:List (Key×V)}{k:Key}(e:H a=some (.dK kvs)):rG H a (kV k) (kU kvs k):=.inl ⟨kvs,k,.inl e,rfl,rfl⟩
theorem RH.k{H:Hp}{a:Addr}{kvs:List (Key×V)}{k:Key}{v:V}(e:H a=some (.dK kvs))(hl:kvs.length<sizeLine):RH H a (kV k) v (upd H a (.dK (putK kvs k v))):=.inl ⟨kvs,k,e,rfl,hl,rfl⟩
section
variable {X:Cx}{pins:sv}{σ:St}{H:Hp}{s:Shared}{a:Addr}{y v:V}{u r:Value}{o:Option V}{A:Around}{E:su}
theorem Inv.big(I:Inv X pins σ H s):sysModules<s.heap.objs.size:=by
 have h:mainGlobals<s.heap.objs.size:=(I.mod.glob.keeps I.bk).lt
 exact Nat.lt_trans (by decide) h
theorem JE{Q:su}(hu:A.units+1<cLine)(I:Inv X pins σ H s)(g:rG H a y (some v))(ry:RelV y u)(h:∀w' s',Inv X pins σ H s'→RelV v w'→Q w' s') :
  wpAny (model X.prog X.w) A (getItem (.ref a) u) Q E s:=by
 rcases g with ⟨kvs,k,e,ey,l⟩|⟨kvs,k,b,e,ey,eb,l⟩
 ·subst ey;obtain⟨z,hd,vs,rel,dd⟩:=yQ I.hok e;obtain⟨w',hw,dy⟩:=iW.some_of (v:=v) (o:=valueAt vs k) (by rw[l];exact rel.val k)
  exact wpAny_getItem_of (CV ry) dd.mapOf hw (h w' _ (I.tok _) dy)
 ·subst ey;cases (show u=Value.ref b from ry)
  obtain⟨z,hd,xs,rel,dd⟩:=FB I.hok e;obtain⟨w',hw,dy⟩:=iW.some_of (v:=v) (o:=(atKey xs k).map (·.2)) (by rw[l];exact rel.val k)
  obtain⟨p,hp,hp2⟩:=oy.mp hw;refine wpAny_getItem_heap (tupleKind_room_in1 hu) (tX I.hok eb) dd hp ?_;rw[hp2];exact h w' _ (I.tok _) dy
theorem FF{h':Heap}{t':Nat}{ob:HO}(I:Inv X pins σ H s)(mu:nz (H a))(hs:Heap.SameBut a s.heap h')(he:∃q,h'.get? a=some q)(new:bV X.prog X.w (upd H a ob) h' a ob) :
  Inv X pins σ (upd H a ob) { s with heap:=h',toks:=t' }:=
 I.write (x:=a) (e:=a) mu (.inl rfl) (fun b q hb z=>(hs.2 b hb).trans z) he new
theorem aCW{P:sr}{w:World}{H':Hp}{h':Heap}{kvs:List (Key×V)}{vs:List (Key×Value)}(z:kvs.length≤sizeLine)(hd:(a == sysModules)=false)(rel:KV kvs vs)(dd:h'.DictOf (bK P w) a vs) :
  bV P w H' h' a (.dK kvs):=⟨z,hd,vs,rel,dd⟩
theorem JD{H':Hp}{Q:Unit→Shared→Prop}(hu:A.units+1<cLine)(I:Inv X pins σ H s)(g:RH H a y v H')(ry:RelV y u)(rv:RelV v r)(h:∀s',Inv X pins σ H' s'→Q () s') :
  wpAny (model X.prog X.w) A (setItem (.ref a) u r) Q E s:=by
 rcases g with ⟨kvs,k,e,ey,l,eH⟩|⟨kvs,k,b,e,ey,eb,l,eH⟩
 ·subst ey eH;obtain⟨z,hd,vs,rel,dd⟩:=aIb I.hok e;have hz:vs.length≤sizeLine:=by rw[←rel.length];exact z
  have hl:(putK kvs k v).length≤sizeLine:=by have:=nH kvs k v;omega
  refine wpAny_setItem_pairs (hsz:=hz) (CV ry) dd fun h' nu hs=>h _ ?_
  have he:∃q,h'.get? a=some q:=let ⟨q,_,_,hq,_⟩:=nu;⟨q,hq⟩
  exact FF I (by rw[e];exact True.intro) hs he (aCW hl hd (rel.put k rv) nu)
 ·subst ey eH;cases (show u=Value.ref b from ry)
  obtain⟨z,hd,xs,rel,dd⟩:=aHZ I.hok e;have hz:xs.length≤sizeLine:=by rw[←Paired.length rel];exact z
  have hl:(putK kvs k v).length≤sizeLine:=by have:=nH kvs k v;omega
  refine wpAny_setItem_heap (hsz:=hz) (tupleKind_room_in1 hu) (tX I.hok eb) dd fun h' nu hs=>h _ ?_
  obtain⟨q,es,ep,hq,h2,h3,h4,_,h5⟩:=nu;refine FF I (by rw[e];exact True.intro) hs ⟨q,hq⟩ ⟨hl,hd,_,(rel.put k eb rv).keeps fun c ys ec=>?_,q,es,ep,hq,h2,h3,h4,h5⟩
  rw[aQ (aHf ec e (fun z=>nomatch z))]
  exact ec
end
section
variable {X:Cx}{pins:sv}{σ:St}{H:Hp}{s:Shared}{a:Addr}{kvs:List (Key×V)}{k:Key}{u:Value}{A:Around}{E:su}
theorem aIc{Q:su}(I:Inv X pins σ H s)(e:Rd H a (.dK kvs))(h:∀t s',Inv X pins σ H s'→Q (.int kvs.length t) s'):wpAny (model X.prog X.w) A (call (.builtin "len") [.ref a]) Q E s:=by
 obtain⟨z,hd,vs,rel,dd⟩:=yQ I.hok e;refine call_len_dict hd dd (by rw[←rel.length];rw[sizeLine_eq]at z;omega) ?_
 rw[←rel.length];exact h _ _ (I.tok _)
end
def aIW(i:Expr):Prop:=∀ov iv,subscripted i false ov iv=operate [ov,iv] (getItem ov iv)
theorem RV{prog:sr}{w:World}{A:Around}{E:su}{s:Shared}{env:Env}{value slice:Expr}{pos:Pos}{T id:String}{Q:su}
  (hl:typeLookup (.type T) "__getitem__" = pure (some (.builtin id))) (hs:aIW slice)
  (h:wpAny (model prog w) A (eval value env) (fun o s₁=>wpAny (model prog w) A (eval slice env) (fun i s₂=>s₂.TypeIs o T∧wpAny (model prog w) A (getItem o i) Q E s₂) E s₁) E s) :
  wpAny (model prog w) A (eval (.Subscript value slice pos) env) Q E s:=by
 refine Subscript_ (qp h (fun o s₁ h₁=>qp h₁ (fun i s₂ h₂=>?_) fun _ _ x=>x) fun _ _ x=>x)
 obtain⟨hT,h₂⟩:=h₂;unfold subscriptTail;refine qm ?_;rw[getitemInPython_of_ne hT.not_modules];refine qm (wpAny_specialOf hT hl ?_);have fin:wpAny (model prog w) A (subscripted slice false o i) (fun r s₃=>wpAny (model prog w) A (letTemporaryGo value o r >>= fun _=>pure r) Q E s₃) E s₂:=by
  rw[hs o i];exact wpAny_operating (qp h₂ (fun r s₃ h₃=>qm (wpAny_letTemporaryGo (qo h₃))) fun _ _ x=>x)
 first
  |exact qo (qm fin)
  |exact qm (qo (qm fin))
  |exact qm fin
theorem yR{X:Cx}{pins:sv}{σ:St}{H:Hp}{s:Shared}{a:Addr}{y:V}{o:Option V}(I:Inv X pins σ H s)(g:rG H a y o):s.TypeIs (.ref a) "dict":=by
 rcases g with ⟨kvs,k,e,_,_⟩|⟨kvs,k,b,e,_,_,_⟩
 ·obtain⟨_,_,vs,_,dd⟩:=yQ I.hok e;exact dd.typeIs
 ·obtain⟨_,_,xs,_,dd⟩:=FB I.hok e;exact dd.typeIs
def aEB(td ty:TE):TE:=fun σ H Q=>td σ H fun x H1=>ty σ H1 fun y H2=>∃a v,x=.ref a∧rG H2 a y (some v)∧Q v H2
def aFq(td ty tv:TE):TS:=fun D σ H=>tv σ H fun v H1=>td σ H1 fun x H2=>ty σ H2 fun y H3=>∃a H4,x=.ref a∧RH H3 a y v H4∧D.nx σ H4
section
variable {X:Cx}{o i e value:Expr}{pos pos' tpos:Pos}{td ty tv:TE}
theorem CK(hu:X.A.units+1<cLine)(ho:PE X o td)(hi:PE X i ty)(hs:aIW i):PE X (.Subscript o i pos) (aEB td ty):=by
 intro pins s σ H Q I h;refine RV PySem.F.slot_dict_getitem.lookup hs (af (ho pins s σ H _ I h) fun u s1 ⟨x,H1,I1,rx,q1⟩=>af (hi pins s1 σ H1 _ I1 q1) fun iv s2 ⟨y,H2,I2,ry,a,v,ex,g,q2⟩=>?_)
 subst ex;obtain rfl:u=Value.ref a:=rx;exact⟨yR I2 g,JE hu I2 g ry fun w' s3 I3 dy=>⟨v,H2,I3,dy,q2⟩⟩
theorem UD(hu:X.A.units+1<cLine)(ho:PE X o td)(hi:PE X i ty)(hv:PE X value tv)(hs:swapsWith value (some (.Subscript o i pos')) pos.line X.env=pure false) :
  PS X (.Assign [.Subscript o i pos'] value pos) (aFq td ty tv):=by
 intro pins s σ H D I h;refine wpAny_Assign_Subscript (af (hv pins s σ H _ I h) fun r s1 ⟨v,H1,I1,rv,q1⟩=>af (ho pins s1 σ H1 _ I1 q1) fun u s2 ⟨x,H2,I2,rx,q2⟩=>af (hi pins s2 σ H2 _ I2 q2) fun iv s3 ⟨y,H3,I3,ry,a,H4,ex,g,q3⟩=>?_) hs
 subst ex;obtain rfl:u=Value.ref a:=rx;exact JD hu I3 g ry rv fun s4 I4=>⟨σ,H4,I4,q3⟩
end
theorem OM{P:sr}{w:World}{H:Hp}(h:Heap)(hb:sysModules<h.objs.size):bV P w H (h.push { cls:=.type "dict",data:=.dict #[] }) h.objs.size (.dK []):=
 ⟨rz _,qg.mpr (Ne.symm (qh hb)),[],.nil,Heap.DictOf.new h⟩
def aAP:TE:=fun _ H Q=>∀p,H p=none→Q (.ref p) (upd H p (.dK []))
section
variable {X:Cx}{pos:Pos}
theorem LM:PE X (.Dict [] [] pos) aAP:=fun pins s σ H Q I h =>
 wpAny_Dict_empty ⟨.ref s.heap.objs.size,_,I.laid (a:=s.heap.objs.size) (o:=.dK []) (t':=s.toks) (fun _ _ q=>om _ q) (oh _) (OM s.heap I.big),rfl,h _ (I.hok.fresh (oh _))⟩
end
structure M1 (X:Cx) (o:Expr) (m:Str) (apos:Pos) (e:Expr) (aw:Pos):Prop where
 base:attributeBase o m X.env (eval o X.env)=eval o X.env
 few:((backTo aw (starEach [e] X.env)).all (fun x=>!x.1)&&(backToKw aw (keywordEach [] X.env)).all (fun x=>x.1.isSome)
  && decide (([e]:List Expr).length+([]:List Keyword).length+(if ([]:List Keyword).isEmpty then 0 else 1)<30))=true
 line:(apos.endLine == aw.line)=true
 trees:backTo aw (starEach [e] X.env)=[(false,eval e X.env)]
structure M2 (X:Cx) (o:Expr) (m:Str) (apos:Pos) (e f:Expr) (aw:Pos):Prop where
 base:attributeBase o m X.env (eval o X.env)=eval o X.env
 few:((backTo aw (starEach [e,f] X.env)).all (fun x=>!x.1)&&(backToKw aw (keywordEach [] X.env)).all (fun x=>x.1.isSome)
  && decide (([e,f]:List Expr).length+([]:List Keyword).length+(if ([]:List Keyword).isEmpty then 0 else 1)<30))=true
 line:(apos.endLine == aw.line)=true
 trees:backTo aw (starEach [e,f] X.env)=[(false,eval e X.env),(false,eval f X.env)]
section
variable {X:Cx}{pins:sv}{σ:St}{H:Hp}{s:Shared}{a:Addr}{y d:V}{u r:Value}{o:Option V}{A:Around}{E:su}
theorem aCZ{Q:su}(hu:A.units+1<cLine)(I:Inv X pins σ H s)(g:rG H a y o)(ry:RelV y u)(rd:RelV d r)(h:∀w' s',Inv X pins σ H s'→RelV (o.getD d) w'→Q w' s') :
  wpAny (model X.prog X.w) A (call (.builtin "dict.get") [.ref a,u,r]) Q E s:=by
 rcases g with ⟨kvs,k,e,ey,l⟩|⟨kvs,k,b,e,ey,eb,l⟩
 ·subst ey;obtain⟨z,hd,vs,rel,dd⟩:=yQ I.hok e;refine call_meetsIn slot_dict_get dd.typeIs PySem.F.entry_dict_get (PySem.F.args_dict_get_3 _ _ _) (meets_dict_get_default (bK X.prog X.w) a (CV ry) hd r) ⟨_,dd.mapOf,h _ _ (I.tok _) ?_⟩;rw[l];exact(rel.val k).getD rd
 ·subst ey;cases (show u=Value.ref b from ry)
  obtain⟨z,hd,xs,rel,dd⟩:=FB I.hok e;refine call_meetsIn slot_dict_get dd.typeIs PySem.F.entry_dict_get (PySem.F.args_dict_get_3 _ _ _) (meetsH_dict_get_default (tupleKind (bK X.prog X.w)) a b hd r) ⟨tupleKind_room_in1 hu,k,xs,tX I.hok eb,dd,h _ _ (I.tok _) ?_⟩;rw[l];exact(rel.val k).getD rd
end
section
variable {X:Cx}{o e f:Expr}{apos aw:Pos}{td ty tx:TE}
end
section
variable {X:Cx}{pins:sv}{σ:St}{H:Hp}{s:Shared}{a:Addr}{kvs:List (Key×V)}{A:Around}{E:su}
end
section
variable {X:Cx}{pins:sv}{σ:St}{H:Hp}{s:Shared}{a:Addr}{y:V}{u:Value}{A:Around}{E:su}
end
end L2
namespace Att
open PySem PySem.W PySem.Calls PyProof.Rows
end Att
namespace L2
open PySem PySem.Spec PyProof.Rows
section
variable {X:Cx}
theorem JJ:eF X (.builtin "len") (fun xs H Q=>∃a kvs,xs=[V.ref a]∧H a=some (.dK kvs)∧Q (.int kvs.length) H):=by
 intro pins s σ H xs us Q I r h;obtain⟨a,kvs,rfl,ha,q⟩:=h;obtain⟨u,rfl,ru⟩:=vals1 r;cases ru;exact aIc I (.inl ha) fun t s' I'=>⟨.int kvs.length,H,I',⟨t,rfl⟩,q⟩
end
section
variable {κ:Type}[DecidableEq κ]
end
end L2
namespace Toy
open PySem L2
open PySem.W (fnOf)
noncomputable def top(i:Nat):Stmt:=PySem.Challenge.pw_leaffold_k07_whole_no_layer_through.main.body.getD i (.Pass ⟨0,0,0,0⟩)
noncomputable def dF(n q:Str)(s:Stmt)(m:Str)(t c:Nat):sq:=fnOf n q (L2.fI s) (L2.bI s) (L2.aB s) .none .none .none (.str m t) none (.ref c) .none
noncomputable def oF(f:sq):Obj:=⟨.type "function",none,.func f,#[]⟩
noncomputable def oC(x:Array Value):Obj:=⟨.type "code",none,.fields x,#[]⟩
noncomputable def en(P:Params)(x:Str)(t:Nat)(v:Value):DictEntry:=⟨PyData.keyHash P x,.str x t,v⟩
noncomputable def j(i:Int):Value:=.int i 0
noncomputable def l(a:Nat):Value:=.ref a
noncomputable def cF(t:Nat):Value:=.str "/claim/cut.py" t
noncomputable def BA:sq:=dF "__init__" "Pile.__init__" (L2.inClass (top 12) 0) "leaffold.piles" 278 98
noncomputable def uN:sq:=dF "heap" "Pile.heap" (L2.inClass (top 12) 1) "leaffold.piles" 278 105
noncomputable def uO:sq:=dF "laid" "laid" (top 13) "leaffold.piles" 278 124
noncomputable def uT:sq:=dF "laid_row" "laid_row" (top 14) "leaffold.piles" 278 129
noncomputable def uR:sq:=dF "folded" "folded" (top 15) "leaffold.piles" 278 136
noncomputable def DS:sq:=dF "refuse_severed" "refuse_severed" (top 16) "leaffold.piles" 278 143
noncomputable def vD:sq:=dF "has_crease" "has_crease" (top 17) "leaffold.piles" 278 150
noncomputable def DK:sq:=dF "folded_table" "folded_table" (top 18) "leaffold.piles" 278 155
noncomputable def vC:sq:=dF "transposed" "transposed" (top 19) "leaffold.piles" 278 160
noncomputable def uV:sq:=dF "column_of" "column_of" (top 20) "leaffold.piles" 278 165
noncomputable def DL:sq:=dF "folded_strip" "folded_strip" (top 21) "leaffold.piles" 278 172
noncomputable def vL:sq:=dF "turned_part" "turned_part" (top 22) "leaffold.piles" 278 177
noncomputable def vN:sq:=dF "turned_heap" "turned_heap" (top 23) "leaffold.piles" 278 182
noncomputable def DP:sq:=dF "laid_together" "laid_together" (top 24) "leaffold.piles" 278 187
noncomputable def uS:sq:=dF "heap_at" "heap_at" (top 25) "leaffold.piles" 278 194
noncomputable def vE:sq:=dF "neighbours" "neighbours" (top 27) "leaffold.joints" 443 201
noncomputable def eL:sq:=dF "__init__" "Spot.__init__" (L2.inClass (top 29) 0) "leaffold.lying" 456 215
noncomputable def gI:sq:=dF "far_line" "Spot.far_line" (L2.inClass (top 29) 1) "leaffold.lying" 456 222
noncomputable def fH:sq:=dF "near_line" "Spot.near_line" (L2.inClass (top 29) 2) "leaffold.lying" 456 229
noncomputable def dI:sq:=dF "__init__" "Strand.__init__" (L2.inClass (top 30) 0) "leaffold.lying" 456 250
noncomputable def iI:sq:=dF "is_torn" "Strand.is_torn" (L2.inClass (top 30) 1) "leaffold.lying" 456 257
noncomputable def iJ:sq:=dF "is_bend" "Strand.is_bend" (L2.inClass (top 30) 2) "leaffold.lying" 456 264
noncomputable def uP:sq:=dF "fault" "fault" (top 31) "leaffold.lying" 456 278
noncomputable def vK:sq:=dF "astray_cell" "astray_cell" (top 32) "leaffold.lying" 456 285
noncomputable def vO:sq:=dF "all_strands" "all_strands" (top 33) "leaffold.lying" 456 292
noncomputable def vG:sq:=dF "torn_joint" "torn_joint" (top 34) "leaffold.lying" 456 299
noncomputable def DT:sq:=dF "crossed_joints" "crossed_joints" (top 35) "leaffold.lying" 456 306
noncomputable def uQ:sq:=dF "cross" "cross" (top 36) "leaffold.lying" 456 313
noncomputable def vF:sq:=dF "is_pierced" "is_pierced" (top 37) "leaffold.lying" 456 320
noncomputable def uW:sq:=dF "is_within" "is_within" (top 38) "leaffold.lying" 456 327
noncomputable def DQ:sq:=dF "bridges_cross" "bridges_cross" (top 39) "leaffold.lying" 456 334
noncomputable def DM:sq:=dF "_law_cell_at" "_law_cell_at" (top 41) "law_leaffold_k07_whole_no_layer_through" 663 341
noncomputable def vH:sq:=dF "_law_whole" "_law_whole" (top 42) "law_leaffold_k07_whole_no_layer_through" 663 348
noncomputable def DO:sq:=dF "_law_sheet_by" "_law_sheet_by" (top 43) "law_leaffold_k07_whole_no_layer_through" 663 355
noncomputable def DN:sq:=dF "_law_fold_by" "_law_fold_by" (top 44) "law_leaffold_k07_whole_no_layer_through" 663 362
noncomputable def uX:sq:=dF "_law_fill" "_law_fill" (top 45) "law_leaffold_k07_whole_no_layer_through" 663 369
noncomputable def vB:sq:=dF "_law_seats" "_law_seats" (top 46) "law_leaffold_k07_whole_no_layer_through" 663 374
noncomputable def uZ:sq:=dF "_law_near" "_law_near" (top 47) "law_leaffold_k07_whole_no_layer_through" 663 381
noncomputable def uU:sq:=dF "_law_line" "_law_line" (top 48) "law_leaffold_k07_whole_no_layer_through" 663 388
noncomputable def DR:sq:=dF "_law_back_line" "_law_back_line" (top 49) "law_leaffold_k07_whole_no_layer_through" 663 395
noncomputable def uY:sq:=dF "_law_meet" "_law_meet" (top 50) "law_leaffold_k07_whole_no_layer_through" 663 402
noncomputable def vI:sq:=dF "_law_parts" "_law_parts" (top 51) "law_leaffold_k07_whole_no_layer_through" 663 407
noncomputable def vJ:sq:=dF "_law_inside" "_law_inside" (top 52) "law_leaffold_k07_whole_no_layer_through" 663 414
noncomputable def vA:sq:=dF "_law_bends" "_law_bends" (top 53) "law_leaffold_k07_whole_no_layer_through" 663 421
noncomputable def vP:sq:=dF "_law_through" "_law_through" (top 54) "law_leaffold_k07_whole_no_layer_through" 663 428
noncomputable def vM:sq:=dF "_law_places" "_law_places" (top 55) "law_leaffold_k07_whole_no_layer_through" 663 435
noncomputable def qD:sq:=dF "law" "law" (top 56) "law_leaffold_k07_whole_no_layer_through" 663 440
noncomputable def KK(P:Params):so:=[(3,⟨(.type "dict"),none,(.dict #[en P "__name__" 165 (.str "law_leaffold_k07_whole_no_layer_through" 663),en P "__doc__" 166 .none,en P "__package__" 167 .none,en P "__loader__" 168 (.builtin "__main__.__loader__#opaque"),en P "__spec__" 169 .none,en P "__annotations__" 170 (.ref 6),en P "__builtins__" 171 (.ref 4),en P "__file__" 173 (cF 172),en P "__cached__" 174 .none,en P "_wall" 193 (.ref 21),en P "LeafError" 213 (.ref 31),en P "NoSheet" 229 (.ref 44),en P "NoFold" 245 (.ref 56),en P "NoPlace" 261 (.ref 68),en P "Severed" 277 (.ref 80),en P "MOST_CELLS" 281 (.int 64 280),en P "UPRIGHT_SIDES" 284 (.ref 83),en P "LEVEL_SIDES" 287 (.ref 84),en P "NEAR_SIDES" 290 (.ref 85),en P "Pile" 345 (.ref 116),en P "laid" 351 (.ref 125),en P "laid_row" 357 (.ref 130),en P "folded" 369 (.ref 137),en P "refuse_severed" 376 (.ref 144),en P "has_crease" 385 (.ref 151),en P "folded_table" 391 (.ref 156),en P "transposed" 397 (.ref 161),en P "column_of" 403 (.ref 166),en P "folded_strip" 416 (.ref 173),en P "turned_part" 422 (.ref 178),en P "turned_heap" 428 (.ref 183),en P "laid_together" 434 (.ref 188),en P "heap_at" 442 (.ref 195),en P "neighbours" 455 (.ref 202),en P "Spot" 508 (.ref 233),en P "Strand" 559 (.ref 268),en P "fault" 573 (.ref 279),en P "astray_cell" 585 (.ref 286),en P "all_strands" 608 (.ref 293),en P "torn_joint" 616 (.ref 300),en P "crossed_joints" 626 (.ref 307),en P "cross" 634 (.ref 314),en P "is_pierced" 642 (.ref 321),en P "is_within" 652 (.ref 328),en P "bridges_cross" 662 (.ref 335),en P "_law_cell_at" 672 (.ref 342),en P "_law_whole" 679 (.ref 349),en P "_law_sheet_by" 688 (.ref 356),en P "_law_fold_by" 700 (.ref 363),en P "_law_fill" 712 (.ref 370),en P "_law_seats" 718 (.ref 375),en P "_law_near" 728 (.ref 382),en P "_law_line" 736 (.ref 389),en P "_law_back_line" 744 (.ref 396),en P "_law_meet" 753 (.ref 403),en P "_law_parts" 759 (.ref 408),en P "_law_inside" 767 (.ref 415),en P "_law_bends" 775 (.ref 422),en P "_law_through" 783 (.ref 429),en P "_law_places" 798 (.ref 436),en P "law" 804 (.ref 441)] 61),#[]⟩),
 (83,⟨(.type "tuple"),none,(.seq #[(.str "west" 282),(.str "east" 283)] 0),#[]⟩),
 (84,⟨(.type "tuple"),none,(.seq #[(.str "north" 285),(.str "south" 286)] 0),#[]⟩),
 (85,⟨(.type "tuple"),none,(.seq #[(.str "west" 288),(.str "north" 289)] 0),#[]⟩),
 (98,oC #[.str "__init__" 303,.str "Pile.__init__" 304,cF 305,j 22,j 6,j 0,j 0,j 3,l 93,(.bool true),j 181,l 94,.none,l 95,l 96,l 97,j 312,j 22,cF 313]),
 (99,oF BA),
 (105,oC #[.str "heap" 315,.str "Pile.heap" 316,cF 317,j 31,j 3,j 0,j 0,j 3,l 100,(.bool true),j 181,l 101,.none,l 102,l 103,l 104,j 321,j 31,cF 322]),
 (106,oF uN),
 (115,⟨(.type "dict"),none,(.dict #[en P "__module__" 298 (.str "leaffold.piles" 278),en P "__firstlineno__" 302 (.int 20 301),en P "__init__" 314 (.ref 99),en P "heap" 323 (.ref 106),en P "done" 330 (.ref 113),en P "__static_attributes__" 338 (.ref 114),en P "__dict__" 340 (.ref 117),en P "__weakref__" 342 (.ref 118),en P "__doc__" 343 .none] 4),#[]⟩),
 (116,⟨(.type "type"),none,(.cls ⟨"Pile",[(.type "object")],[(.ref 116),(.type "object")],115,"Pile",true,[],[],false,none,false⟩),#[none,none,(some (.str "Pile" 291)),(some (.str "Pile" 299)),(some (.builtin "object.__new__")),(some (.bool true))]⟩),
 (124,oC #[.str "laid" 346,.str "laid" 347,cF 348,j 38,j 2,j 0,j 0,j 3,l 121,(.bool true),j 181,l 122,.none,.none,.none,l 123,j 349,j 38,cF 350]),
 (125,oF uO),
 (129,oC #[.str "laid_row" 352,.str "laid_row" 353,cF 354,j 43,j 2,j 0,j 0,j 3,l 126,(.bool true),j 181,l 127,.none,.none,.none,l 128,j 355,j 43,cF 356]),
 (130,oF uT),
 (136,oC #[.str "folded" 358,.str "folded" 359,cF 360,j 45,j 4,j 0,j 0,j 3,l 131,(.bool true),j 181,l 132,.none,l 133,l 134,l 135,j 367,j 45,cF 368]),
 (137,oF uR),
 (143,oC #[.str "refuse_severed" 370,.str "refuse_severed" 371,cF 372,j 52,j 1,j 0,j 0,j 3,l 138,(.bool true),j 181,l 139,.none,l 140,l 141,l 142,j 374,j 52,cF 375]),
 (144,oF DS),
 (150,oC #[.str "has_crease" 377,.str "has_crease" 378,cF 379,j 55,j 3,j 0,j 0,j 3,l 145,(.bool true),j 181,l 146,.none,l 147,l 148,l 149,j 383,j 55,cF 384]),
 (151,oF vD),
 (155,oC #[.str "folded_table" 386,.str "folded_table" 387,cF 388,j 61,j 4,j 0,j 0,j 3,l 152,(.bool true),j 181,l 153,.none,.none,.none,l 154,j 389,j 61,cF 390]),
 (156,oF DK),
 (160,oC #[.str "transposed" 392,.str "transposed" 393,cF 394,j 66,j 1,j 0,j 0,j 3,l 157,(.bool true),j 181,l 158,.none,.none,.none,l 159,j 395,j 66,cF 396]),
 (161,oF vC),
 (165,oC #[.str "column_of" 398,.str "column_of" 399,cF 400,j 68,j 2,j 0,j 0,j 3,l 162,(.bool true),j 181,l 163,.none,.none,.none,l 164,j 401,j 68,cF 402]),
 (166,oF uV),
 (172,oC #[.str "folded_strip" 404,.str "folded_strip" 405,cF 406,j 70,j 4,j 0,j 0,j 3,l 167,(.bool true),j 181,l 168,.none,l 169,l 170,l 171,j 414,j 70,cF 415]),
 (173,oF DL),
 (177,oC #[.str "turned_part" 417,.str "turned_part" 418,cF 419,j 77,j 2,j 0,j 0,j 3,l 174,(.bool true),j 181,l 175,.none,.none,.none,l 176,j 420,j 77,cF 421]),
 (178,oF vL),
 (182,oC #[.str "turned_heap" 423,.str "turned_heap" 424,cF 425,j 79,j 2,j 0,j 0,j 3,l 179,(.bool true),j 181,l 180,.none,.none,.none,l 181,j 426,j 79,cF 427]),
 (183,oF vN),
 (187,oC #[.str "laid_together" 429,.str "laid_together" 430,cF 431,j 83,j 3,j 0,j 0,j 3,l 184,(.bool true),j 181,l 185,.none,.none,.none,l 186,j 432,j 83,cF 433]),
 (188,oF DP),
 (194,oC #[.str "heap_at" 435,.str "heap_at" 436,cF 437,j 88,j 2,j 0,j 0,j 3,l 189,(.bool true),j 181,l 190,.none,l 191,l 192,l 193,j 440,j 88,cF 441]),
 (195,oF uS),
 (201,oC #[.str "neighbours" 445,.str "neighbours" 446,cF 447,j 91,j 2,j 0,j 0,j 3,l 196,(.bool true),j 181,l 197,.none,l 198,l 199,l 200,j 453,j 91,cF 454]),
 (202,oF vE),
 (215,oC #[.str "__init__" 470,.str "Spot.__init__" 471,cF 472,j 103,j 6,j 0,j 0,j 3,l 210,(.bool true),j 181,l 211,.none,l 212,l 213,l 214,j 479,j 103,cF 480]),
 (216,oF eL),
 (222,oC #[.str "far_line" 482,.str "Spot.far_line" 483,cF 484,j 110,j 1,j 0,j 0,j 3,l 217,(.bool true),j 181,l 218,.none,l 219,l 220,l 221,j 486,j 110,cF 487]),
 (223,oF gI),
 (229,oC #[.str "near_line" 489,.str "Spot.near_line" 490,cF 491,j 113,j 1,j 0,j 0,j 3,l 224,(.bool true),j 181,l 225,.none,l 226,l 227,l 228,j 493,j 113,cF 494]),
 (230,oF fH),
 (232,⟨(.type "dict"),none,(.dict #[en P "__module__" 465 (.str "leaffold.lying" 456),en P "__firstlineno__" 469 (.int 101 468),en P "__init__" 481 (.ref 216),en P "far_line" 488 (.ref 223),en P "near_line" 495 (.ref 230),en P "__static_attributes__" 501 (.ref 231),en P "__dict__" 503 (.ref 234),en P "__weakref__" 505 (.ref 235),en P "__doc__" 506 .none] 4),#[]⟩),
 (233,⟨(.type "type"),none,(.cls ⟨"Spot",[(.type "object")],[(.ref 233),(.type "object")],232,"Spot",true,[],[],false,none,false⟩),#[none,none,(some (.str "Spot" 458)),(some (.str "Spot" 466)),(some (.builtin "object.__new__")),(some (.bool true))]⟩),
 (250,oC #[.str "__init__" 521,.str "Strand.__init__" 522,cF 523,j 117,j 6,j 0,j 0,j 3,l 245,(.bool true),j 181,l 246,.none,l 247,l 248,l 249,j 530,j 117,cF 531]),
 (251,oF dI),
 (257,oC #[.str "is_torn" 533,.str "Strand.is_torn" 534,cF 535,j 124,j 1,j 0,j 0,j 3,l 252,(.bool true),j 181,l 253,.none,l 254,l 255,l 256,j 537,j 124,cF 538]),
 (258,oF iI),
 (264,oC #[.str "is_bend" 540,.str "Strand.is_bend" 541,cF 542,j 129,j 1,j 0,j 0,j 3,l 259,(.bool true),j 181,l 260,.none,l 261,l 262,l 263,j 544,j 129,cF 545]),
 (265,oF iJ),
 (267,⟨(.type "dict"),none,(.dict #[en P "__module__" 516 (.str "leaffold.lying" 456),en P "__firstlineno__" 520 (.int 115 519),en P "__init__" 532 (.ref 251),en P "is_torn" 539 (.ref 258),en P "is_bend" 546 (.ref 265),en P "__static_attributes__" 552 (.ref 266),en P "__dict__" 554 (.ref 269),en P "__weakref__" 556 (.ref 270),en P "__doc__" 557 .none] 4),#[]⟩),
 (268,⟨(.type "type"),none,(.cls ⟨"Strand",[(.type "object")],[(.ref 268),(.type "object")],267,"Strand",true,[],[],false,none,false⟩),#[none,none,(some (.str "Strand" 509)),(some (.str "Strand" 517)),(some (.builtin "object.__new__")),(some (.bool true))]⟩),
 (278,oC #[.str "fault" 560,.str "fault" 561,cF 562,j 131,j 5,j 0,j 0,j 3,l 273,(.bool true),j 181,l 274,.none,l 275,l 276,l 277,j 571,j 131,cF 572]),
 (279,oF uP),
 (285,oC #[.str "astray_cell" 574,.str "astray_cell" 575,cF 576,j 140,j 2,j 0,j 0,j 3,l 280,(.bool true),j 181,l 281,.none,l 282,l 283,l 284,j 583,j 140,cF 584]),
 (286,oF vK),
 (292,oC #[.str "all_strands" 586,.str "all_strands" 587,cF 588,j 149,j 4,j 0,j 0,j 3,l 287,(.bool true),j 181,l 288,.none,l 289,l 290,l 291,j 606,j 149,cF 607]),
 (293,oF vO),
 (299,oC #[.str "torn_joint" 609,.str "torn_joint" 610,cF 611,j 163,j 1,j 0,j 0,j 3,l 294,(.bool true),j 181,l 295,.none,l 296,l 297,l 298,j 614,j 163,cF 615]),
 (300,oF vG),
 (306,oC #[.str "crossed_joints" 617,.str "crossed_joints" 618,cF 619,j 168,j 1,j 0,j 0,j 3,l 301,(.bool true),j 181,l 302,.none,l 303,l 304,l 305,j 624,j 168,cF 625]),
 (307,oF DT),
 (313,oC #[.str "cross" 627,.str "cross" 628,cF 629,j 174,j 2,j 0,j 0,j 3,l 308,(.bool true),j 181,l 309,.none,l 310,l 311,l 312,j 632,j 174,cF 633]),
 (314,oF uQ),
 (320,oC #[.str "is_pierced" 635,.str "is_pierced" 636,cF 637,j 180,j 2,j 0,j 0,j 3,l 315,(.bool true),j 181,l 316,.none,l 317,l 318,l 319,j 640,j 180,cF 641]),
 (321,oF vF),
 (327,oC #[.str "is_within" 643,.str "is_within" 644,cF 645,j 182,j 2,j 0,j 0,j 3,l 322,(.bool true),j 181,l 323,.none,l 324,l 325,l 326,j 650,j 182,cF 651]),
 (328,oF uW),
 (334,oC #[.str "bridges_cross" 653,.str "bridges_cross" 654,cF 655,j 188,j 2,j 0,j 0,j 3,l 329,(.bool true),j 181,l 330,.none,l 331,l 332,l 333,j 660,j 188,cF 661]),
 (335,oF DQ),
 (341,oC #[.str "_law_cell_at" 665,.str "_law_cell_at" 666,cF 667,j 196,j 2,j 0,j 0,j 3,l 336,(.bool true),j 181,l 337,.none,l 338,l 339,l 340,j 670,j 196,cF 671]),
 (342,oF DM),
 (348,oC #[.str "_law_whole" 673,.str "_law_whole" 674,cF 675,j 200,j 1,j 0,j 0,j 3,l 343,(.bool true),j 181,l 344,.none,l 345,l 346,l 347,j 677,j 200,cF 678]),
 (349,oF vH),
 (355,oC #[.str "_law_sheet_by" 680,.str "_law_sheet_by" 681,cF 682,j 202,j 1,j 0,j 0,j 3,l 350,(.bool true),j 181,l 351,.none,l 352,l 353,l 354,j 686,j 202,cF 687]),
 (356,oF DO),
 (362,oC #[.str "_law_fold_by" 689,.str "_law_fold_by" 690,cF 691,j 210,j 3,j 0,j 0,j 3,l 357,(.bool true),j 181,l 358,.none,l 359,l 360,l 361,j 698,j 210,cF 699]),
 (363,oF DN),
 (369,oC #[.str "_law_fill" 701,.str "_law_fill" 702,cF 703,j 215,j 4,j 0,j 0,j 3,l 364,(.bool true),j 181,l 365,.none,l 366,l 367,l 368,j 710,j 215,cF 711]),
 (370,oF uX),
 (374,oC #[.str "_law_seats" 713,.str "_law_seats" 714,cF 715,j 227,j 1,j 0,j 0,j 3,l 371,(.bool true),j 181,l 372,.none,.none,.none,l 373,j 716,j 227,cF 717]),
 (375,oF vB),
 (381,oC #[.str "_law_near" 719,.str "_law_near" 720,cF 721,j 240,j 2,j 0,j 0,j 3,l 376,(.bool true),j 181,l 377,.none,l 378,l 379,l 380,j 726,j 240,cF 727]),
 (382,oF uZ),
 (388,oC #[.str "_law_line" 729,.str "_law_line" 730,cF 731,j 248,j 2,j 0,j 0,j 3,l 383,(.bool true),j 181,l 384,.none,l 385,l 386,l 387,j 734,j 248,cF 735]),
 (389,oF uU),
 (395,oC #[.str "_law_back_line" 737,.str "_law_back_line" 738,cF 739,j 252,j 2,j 0,j 0,j 3,l 390,(.bool true),j 181,l 391,.none,l 392,l 393,l 394,j 742,j 252,cF 743]),
 (396,oF DR),
 (402,oC #[.str "_law_meet" 745,.str "_law_meet" 746,cF 747,j 256,j 3,j 0,j 0,j 3,l 397,(.bool true),j 181,l 398,.none,l 399,l 400,l 401,j 751,j 256,cF 752]),
 (403,oF uY),
 (407,oC #[.str "_law_parts" 754,.str "_law_parts" 755,cF 756,j 262,j 4,j 0,j 0,j 3,l 404,(.bool true),j 181,l 405,.none,.none,.none,l 406,j 757,j 262,cF 758]),
 (408,oF vI),
 (414,oC #[.str "_law_inside" 760,.str "_law_inside" 761,cF 762,j 267,j 2,j 0,j 0,j 3,l 409,(.bool true),j 181,l 410,.none,l 411,l 412,l 413,j 765,j 267,cF 766]),
 (415,oF vJ),
 (421,oC #[.str "_law_bends" 768,.str "_law_bends" 769,cF 770,j 269,j 2,j 0,j 0,j 3,l 416,(.bool true),j 181,l 417,.none,l 418,l 419,l 420,j 773,j 269,cF 774]),
 (422,oF vA),
 (428,oC #[.str "_law_through" 776,.str "_law_through" 777,cF 778,j 275,j 2,j 0,j 0,j 3,l 423,(.bool true),j 181,l 424,.none,l 425,l 426,l 427,j 781,j 275,cF 782]),
 (429,oF vP),
 (435,oC #[.str "_law_places" 784,.str "_law_places" 785,cF 786,j 279,j 3,j 0,j 0,j 3,l 430,(.bool true),j 181,l 431,.none,l 432,l 433,l 434,j 796,j 279,cF 797]),
 (436,oF vM),
 (440,oC #[.str "law" 799,.str "law" 800,cF 801,j 288,j 1,j 0,j 0,j 3,l 437,(.bool true),j 181,l 438,.none,.none,.none,l 439,j 802,j 288,cF 803]),
 (441,oF qD)]
noncomputable def aas:List Addr:=[3,83,84,85,98,99,105,106,115,116,124,125,129,130,136,137,143,144,150,151,155,156,160,161,165,166,172,173,177,178,182,183,187,188,194,195,201,202,215,216,222,223,229,230,232,233,250,251,257,258,264,265,267,268,278,279,285,286,292,293,299,300,306,307,313,314,320,321,327,328,334,335,341,342,348,349,355,356,362,363,369,370,374,375,381,382,388,389,395,396,402,403,407,408,414,415,421,422,428,429,435,436,440,441]
theorem aHK:∀P,aas=(KK P).map (·.1):=fun _=>by kernel_rfl
abbrev lw:PySem.W.OpenLaw:=PySem.Challenge.rw_leaffold_k07_whole_no_layer_through
abbrev HH:PySem.W.Hook:=PySem.W.kHook KK aas aHK
open PySem.W PyProof.Rows
noncomputable def vw:sr:=view lw.prog [0,2,3,4,5,6,8,9,10,11,12,13,14,15,16,17,18,19,20,21,22,23,24,25,27,29,30,31,32,33,34,35,36,37,38,39,41,42,43,44,45,46,47,48,49,50,51,52,53,54,55,56]
abbrev Xt(s:Shared):Bool:=xlAt vw [] s&&recOk (RowW.records (OpenRow.toRowW (OpenLaw.row lw))) s
set_option maxHeartbeats 0 in
theorem tV{p q:sr}{loose:List Str}{Xt:Shared→Bool}{α:Type}{Yf:Shared→α}{Ya:World→α}{N:Nat}{g0:Bool}(open_:∀w:World,(fencedOpening treeTable p w N).map (fun s=>(s.heap,s.gens,s.drawn,s.toks))=some (boot_heap w.params,Array.mk [],boot_drawn,boot_toks))
  (h:∀(w:World) (os:OsState),(topFrom treeTable p w N ⟨boot_heap w.params,Array.mk [],boot_drawn,boot_toks,os⟩).map (fun s=>(openSeen q loose (importedModules p.main.body) Xt g0 s,Yf s))=some (openGood q loose,Ya w)):LeftO p q loose Xt Yf Ya N g0:=fun w=>by
 obtain⟨⟨hp,gs,d,k,os⟩,e,e'⟩:=oy.mp (open_ w);obtain⟨rfl,rfl,rfl,rfl⟩:hp=boot_heap w.params∧gs=Array.mk []∧d=boot_drawn∧k=boot_toks:=by simpa using e'
 unfold openEnds;rw[e];exact h w os
set_option maxHeartbeats 0 in
theorem left:LeftO lw.prog vw [] Xt (Hook.obs HH) (Hook.val HH) 6574:=by
 refine tV (boot_open rfl rfl fun s=>rfl) fun w os=>?_
 unfold topFrom
 rewrite[Fast.te14082659384304107361,Fast.te4187177175401517315]
 kernel_rfl
end Toy
namespace Z
open PySem
inductive D where
 |non
 |bl (b:Bool)
 |int (i:Int)
 |str (x:Str)
 |lst (xs:List D)
 |tup (xs:List D)
 |obj (c:Str) (fs:List (Str×D))
 |exc (c:Str)
 |dct (kvs:List (Int×D))
 |frz (xs:List D)
noncomputable def cL(kvs:List (Int×D))(k:Int):Option D:=(kvs.find? fun kv=>decide (kv.1=k)).map (·.2)
noncomputable def kI(kvs:List (Int×D))(k:Int)(d:D):List (Int×D):=if kvs.any (fun kv=>decide (kv.1=k)) then kvs.map (fun kv=>if kv.1=k then(kv.1,d) else kv) else kvs++[(k,d)]
set_option genCtorIdx false in
inductive Lit where
 |non|bl (b:Bool)|int (i:Int)|str (x:Str)
noncomputable def Lit.d:Lit→D
 |.non=>.non
 |.bl b=>.bl b
 |.int i=>.int i
 |.str x=>.str x
inductive Rs where
 |ok (d:D)
 |er (c:Str)
mutual
noncomputable def cg:D→D→Bool
 |.non,.non=>true
 |.bl a,.bl b=>a == b
 |.bl a,.int b=>(if a then 1 else 0) == b
 |.int a,.bl b=>a == (if b then 1 else 0)
 |.int a,.int b=>a == b
 |.str a,.str b=>a == b
 |.lst a,.lst b=>rB a b
 |.tup a,.tup b=>rB a b
 |_,_=>false
noncomputable def rB:List D→List D→Bool
 |[],[]=>true
 |x::xs,y::ys=>cg x y&&rB xs ys
 |_,_=>false
end
noncomputable def okS(x:Str):Bool:=x.cps.all (· < 0x110000)
noncomputable def flat:Nat→D→Bool
 |_,.non=>true
 |_,.bl _=>true
 |_,.int _=>true
 |_,.str x=>okS x
 |n+1,.lst xs=>xs.all (flat n)
 |n+1,.tup xs=>xs.all (flat n)
 |_,_=>false
noncomputable def plain(d:D):Bool:=flat 8 d
noncomputable def b8:D→Option Bool
 |.non=>some false
 |.bl b=>some b
 |.int i=>some (i != 0)
 |.lst xs=>some (!xs.isEmpty)
 |.tup xs=>some (!xs.isEmpty)
 |.frz xs=>some (!xs.isEmpty)
 |_=>none
inductive O2 where
 |add|sub|mul|fdiv|mod|pow|eq|ne|lt|le|gt|ge|isin|notin|is|isnot
noncomputable def big:Nat:=1000000
noncomputable def ixN(n:Nat)(i:Int):Option Nat:=if 0≤i then(if i<n then some i.toNat else none) else if -(n:Int)≤i then some (i+n).toNat else none
noncomputable def atI{α:Type}(xs:List α)(i:Int):Option α:=(ixN xs.length i).bind fun j=>xs[j]?
noncomputable def sIx(n d:Nat):Option Int→Nat
 |none=>d
 |some v=>if v<0 then(v+(n:Int)).toNat else min v.toNat n
noncomputable def cut{α:Type}(xs:List α)(lo hi:Option Int):List α:=(xs.drop (sIx xs.length 0 lo)).take (sIx xs.length xs.length hi-sIx xs.length 0 lo)
noncomputable def isD:D→D→Option Bool
 |.non,.non=>some true
 |.bl _,.non=>some false
 |.int _,.non=>some false
 |.str _,.non=>some false
 |.lst _,.non=>some false
 |.tup _,.non=>some false
 |.obj _ _,.non=>some false
 |.bl a,.bl b=>some (a == b)
 |_,_=>none
noncomputable def VJ:D→D→Option D
 |.int i,.int j=>some (.int (i+j))
 |.str x,.str y=>if x.length+y.length≤big then some (.str (x++y)) else none
 |.lst xs,.lst ys=>if xs.length+ys.length≤big then some (.lst (xs++ys)) else none
 |.tup xs,.tup ys=>if xs.length+ys.length≤big then some (.tup (xs++ys)) else none
 |_,_=>none
noncomputable def aHc:D→D→Option D
 |.int i,.int j=>some (.int (i-j))
 |_,_=>none
noncomputable def aHe:D→D→Option D
 |.int i,.int j=>if (-(2 ^ 64)<i∧i<2 ^ 64)∨(-(2 ^ 64)<j∧j<2 ^ 64) then some (.int (i*j)) else none
 |_,_=>none
noncomputable def oDiv:D→D→Option D
 |.int i,.int j=>if 0<j∧j<1073741824 then some (.int (i / j)) else none
 |_,_=>none
noncomputable def oMod:D→D→Option D
 |.int i,.int j=>if 0<j then some (.int (i % j)) else none
 |_,_=>none
noncomputable def aHd:D→D→Option D
 |.int i,.int j=>if 0≤j∧j≤1000∧i.natAbs<2 ^ 64 then some (.int (i ^ j.toNat)) else none
 |_,_=>none
noncomputable def oEq(a b:D):Option D:=if plain a&&plain b then some (.bl (cg a b)) else none
noncomputable def oNe(a b:D):Option D:=if plain a&&plain b then some (.bl (!cg a b)) else none
noncomputable def oLt:D→D→Option D
 |.int i,.int j=>some (.bl (decide (i<j)))
 |_,_=>none
noncomputable def oLe:D→D→Option D
 |.int i,.int j=>some (.bl (decide (i≤j)))
 |_,_=>none
noncomputable def oGt:D→D→Option D
 |.int i,.int j=>some (.bl (decide (j<i)))
 |_,_=>none
noncomputable def oGe:D→D→Option D
 |.int i,.int j=>some (.bl (decide (j≤i)))
 |_,_=>none
noncomputable def oIn(a:D):D→Option D
 |.lst ys=>if plain a&&ys.all plain then some (.bl (ys.any fun y=>cg y a)) else none
 |.tup ys=>if plain a&&ys.all plain then some (.bl (ys.any fun y=>cg y a)) else none
 |_=>none
noncomputable def MF(a:D):D→Option D
 |.lst ys=>if plain a&&ys.all plain then some (.bl (!ys.any fun y=>cg y a)) else none
 |.tup ys=>if plain a&&ys.all plain then some (.bl (!ys.any fun y=>cg y a)) else none
 |_=>none
noncomputable def oIs(a b:D):Option D:=(isD a b).map .bl
noncomputable def MG(a b:D):Option D:=(isD a b).map fun k=>.bl (!k)
noncomputable def aj(o:O2)(a b:D):Option D:=match o with
 |.add=>VJ a b
 |.sub=>aHc a b
 |.mul=>aHe a b
 |.fdiv=>oDiv a b
 |.mod=>oMod a b
 |.pow=>aHd a b
 |.eq=>oEq a b
 |.ne=>oNe a b
 |.lt=>oLt a b
 |.le=>oLe a b
 |.gt=>oGt a b
 |.ge=>oGe a b
 |.isin=>oIn a b
 |.notin=>MF a b
 |.is=>oIs a b
 |.isnot=>MG a b
inductive BF where
 |len|int|list|tuple|max|min|str|sorted|any
noncomputable def pW:List D→Option (List Int)
 |[]=>some []
 |.int i::r=>(pW r).map (i :: ·)
 |_::_=>none
noncomputable def mP:Int→List Int→Int
 |m,[]=>m
 |m,x::r=>mP (if x > m then x else m) r
noncomputable def pQ:Int→List Int→Int
 |m,[]=>m
 |m,x::r=>pQ (if x<m then x else m) r
noncomputable def XI:List D→Option D
 |[.lst xs]=>some (.int xs.length)
 |[.tup xs]=>some (.int xs.length)
 |[.frz xs]=>some (.int xs.length)
 |[.str x]=>if x.length≤big then some (.int x.length) else none
 |_=>none
noncomputable def XJ:List D→Option D
 |[.int i]=>some (.int i)
 |[.bl b]=>some (.int (if b then 1 else 0))
 |_=>none
noncomputable def yK:List D→Option D
 |[.lst xs]=>some (.lst xs)
 |[.tup xs]=>some (.lst xs)
 |[.frz xs]=>some (.lst xs)
 |_=>none
noncomputable def vQ:List D→Option D
 |[.lst xs]=>some (.tup xs)
 |[.tup xs]=>some (.tup xs)
 |_=>none
noncomputable def OD:List D→Option D
 |[.int i,.int j]=>some (.int (if j > i then j else i))
 |[.lst xs]=>match pW xs with|some (i::r)=>some (.int (mP i r))|_=>none
 |_=>none
noncomputable def XH:List D→Option D
 |[.int i,.int j]=>some (.int (if j<i then j else i))
 |[.lst xs]=>match pW xs with|some (i::r)=>some (.int (pQ i r))|_=>none
 |_=>none
noncomputable def LR:List D→Option (List (Int×Int))
 |[]=>some []
 |.tup [.int a,.int b]::r=>(LR r).map ((a,b) :: ·)
 |_::_=>none
noncomputable def aIe(p:Int×Int):D:=.tup [.int p.1,.int p.2]
noncomputable def gg(x y:Int×Int):Bool:=decide (x.1<y.1) || (x.1 == y.1&&decide (x.2<y.2))
noncomputable def AS(x:Int×Int):List (Int×Int)→List (Int×Int)
 |[]=>[x]
 |y::r=>if gg x y then x::y::r else y::AS x r
noncomputable def pF:List (Int×Int)→List (Int×Int)
 |[]=>[]
 |x::r=>AS x (pF r)
noncomputable def FJ(ps:List (Int×Int)):Bool:=decide (ps.length≤64)&&decide ps.Nodup
noncomputable def aEI(ds:List D):Option (List D):=match LR ds with
 |some ps=>if FJ ps then some ((pF ps).map aIe) else none
 |none=>match pW ds with
  |some is=>if FJ (is.map fun i=>(i,0)) then some ((pF (is.map fun i=>(i,0))).map fun p=>.int p.1) else none
  |none=>none
noncomputable def vR:List D→Option D
 |[.lst xs]=>(aEI xs).map .lst
 |_=>none
noncomputable def bf(b:BF)(ds:List D):Option D:=match b with
 |.sorted=>vR ds
 |.len=>XI ds
 |.int=>XJ ds
 |.list=>yK ds
 |.tuple=>vQ ds
 |.max=>OD ds
 |.min=>XH ds
 |_=>none
inductive Src where
 |seq|rng|rev|enum|rvr
noncomputable def eA(lo hi:Int):List D:=(List.range (hi-lo).toNat).map fun (k:Nat)=>D.int (lo+k)
noncomputable def hG:Nat→List D→List D
 |_,[]=>[]
 |k,x::r=>.tup [.int k,x]::hG (k+1) r
noncomputable def fY(i:Int):Bool:=decide (-(2 ^ 62)≤i)&&decide (i<2 ^ 62)
noncomputable def ZO:D→Option (List D)
 |.lst xs=>some xs
 |.tup xs=>some xs
 |.frz xs=>some xs
 |_=>none
noncomputable def NG:List D→Option (List D)
 |[.int j]=>if fY j&&decide (j.toNat≤big) then some (eA 0 j) else none
 |[.int i,.int j]=>if fY i&&fY j&&decide ((j-i).toNat≤big) then some (eA i j) else none
 |_=>none
noncomputable def aHM:List D→Option (List D)
 |[.int j]=>if decide (0≤j)&&decide (j.toNat≤big) then some (eA 0 j).reverse else none
 |_=>none
noncomputable def yC:D→Option (List D)
 |.lst xs=>some xs.reverse
 |_=>none
noncomputable def AQ:D→Option (List D)
 |.lst xs=>some (hG 0 xs)
 |_=>none
noncomputable def items(k:Src)(d:D):Option (List D):=match k with
 |.seq=>ZO d
 |.rng=>match d with
  |.tup as=>NG as
  |_=>none
 |.rev=>yC d
 |.enum=>AQ d
 |.rvr=>match d with
  |.tup as=>aHM as
  |_=>none
set_option genSizeOf false
set_option genInjectivity false
set_option genCtorIdx false in
inductive IE where
 |var (i:Nat)
 |lit (l:Lit)
 |glo (x:Str)
 |bin (o:O2) (a b:IE)
 |neg (a:IE)
 |and (a b:IE)
 |or (a b:IE)
 |not (a:IE)
 |tr (a:IE)
 |ite (c a b:IE)
 |chain (o o':O2) (a b c:IE)
 |nil
 |cons (e es:IE)
 |tup (es:IE)
 |lst (es:IE)
 |ix (a i:IE)
 |ixm (x:Nat) (i:IE)
 |lenm (x:Nat)
 |sortm (x:Nat)
 |sl (a:IE) (bl:Bool) (lo:IE) (bh:Bool) (hi:IE)
 |slm (x:Nat) (bl:Bool) (lo:IE) (bh:Bool) (hi:IE)
 |fld (a:IE) (f:Str)
 |call (f:Str) (es:IE)
 |meth (o:IE) (m:Str) (es:IE)
 |mk (c:Str) (es:IE)
 |bcall (b:BF) (es:IE)
 |isi (a:IE) (t:Str)
 |walk (k:Src) (a:IE)
 |comp (n:Nat) (fr:List (Nat×Nat)) (tg:List Nat) (tp:Bool) (k:Src) (src test elt:IE)
 |inC (neg:Bool) (x:Str) (a:IE)
 |getd (x:Nat) (es:IE)
 |ixd (x:Nat) (i:IE)
 |lend (x:Nat)
set_option genInjectivity true
inductive Sl where
 |un
 |im (d:D)
 |mu (d:D)
structure GS where
 fn:Str→List D→Option Rs
 ff:Str→Bool
 me:Str→Str→List D→Option Rs
 mf:Str→Str→Bool
 mo:Str→List D→Option Rs
 cst:Str→Option D
 sub:Str→Str→Bool
 fl:Str→List Str
 xn:Str→Bool
 wd:Str→Str→Option Str
 dk:Str→Option (List (Str×D))
 fm:Str→D→List D→Option (D×D)
noncomputable def jC(G:GS)(t:Str):D→Option Bool
 |.non=>if t = "int"∨t = "bool"∨t = "str"∨t = "list"∨t = "tuple" then some false else none
 |.bl _=>if t = "int"∨t = "bool" then some true else if t = "str"∨t = "list"∨t = "tuple" then some false else none
 |.int _=>if t = "int" then some true else if t = "bool"∨t = "str"∨t = "list"∨t = "tuple" then some false else none
 |.str _=>if t = "str" then some true else if t = "int"∨t = "bool"∨t = "list"∨t = "tuple" then some false else none
 |.lst _=>if t = "list" then some true else if t = "int"∨t = "bool"∨t = "str"∨t = "tuple" then some false else none
 |.tup _=>if t = "tuple" then some true else if t = "int"∨t = "bool"∨t = "str"∨t = "list" then some false else none
 |_=>none
noncomputable def slot(ρ:List Sl)(i:Nat):Option D:=match ρ[i]? with
 |some (.im d)=>some d
 |_=>none
noncomputable def fZ(ρ:List Sl)(i:Nat):Option (List D):=match ρ[i]? with
 |some (.im (.lst ds))=>some ds
 |some (.mu (.lst ds))=>some ds
 |_=>none
noncomputable def nE(ρ:List Sl)(i:Nat):Option (List (Int×D)):=match ρ[i]? with
 |some (.im (.dct ds))=>some ds
 |some (.mu (.dct ds))=>some ds
 |_=>none
noncomputable def bT:Option Rs→Option D
 |some (.ok d)=>some d
 |_=>none
noncomputable def bH:Option D→Option (List D)
 |some (.tup ds)=>some ds
 |_=>none
noncomputable def boolOf:Option D→Option Bool
 |some (.bl b)=>some b
 |_=>none
noncomputable def intOf:Option D→Option Int
 |some (.int b)=>some b
 |_=>none
noncomputable def frame(n:Nat)(fr:List (Nat×Nat))(ρ:List Sl):List Sl:=(List.range n).map fun i=>match fr.lookup i with
 |some j=>ρ.getD j .un
 |none=>.un
noncomputable def aY:List Nat→List D→List Sl→Option (List Sl)
 |[],[],ρ=>some ρ
 |i::is,d::ds,ρ=>aY is ds (ρ.set i (.im d))
 |_,_,_=>none
noncomputable def bB(tg:List Nat)(tp:Bool)(d:D)(ρ:List Sl):Option (List Sl):=
 if tp then(match d with | .tup ds=>aY tg ds ρ|_=>none) else aY tg [d] ρ
noncomputable def bQ(f:D→Option (Option D)):List D→Option (List D)
 |[]=>some []
 |d::r=>do
  let o ←f d
  let t ←bQ f r
  match o with
  |some y=>some (y::t)
  |none=>some t
noncomputable def part(b:Bool)(o:Option D):Option (Option Int):=if b then(intOf o).map some else some none
noncomputable def ev(G:GS):IE→List Sl→Option D
 |.var i,ρ=>slot ρ i
 |.lit l,_=>some l.d
 |.glo x,_=>G.cst x
 |.bin o a b,ρ=>do aj o (←ev G a ρ) (←ev G b ρ)
 |.neg a,ρ=>do match ←ev G a ρ with | .int i=>some (.int (-i))|_=>none
 |.and a b,ρ=>do match ←ev G a ρ with | .bl true=>(match ←ev G b ρ with | .bl k=>some (.bl k)|_=>none) | .bl false=>some (.bl false)|_=>none
 |.or a b,ρ=>do match ←ev G a ρ with | .bl false=>(match ←ev G b ρ with | .bl k=>some (.bl k)|_=>none) | .bl true=>some (.bl true)|_=>none
 |.not a,ρ=>do match ←ev G a ρ with | .bl k=>some (.bl (!k))|_=>none
 |.tr a,ρ=>do (b8 (←ev G a ρ)).map .bl
 |.ite c a b,ρ=>do match ←ev G c ρ with | .bl true=>ev G a ρ | .bl false=>ev G b ρ|_=>none
 |.chain o o' a b c,ρ=>do
  let y ←ev G b ρ
  match ←aj o (←ev G a ρ) y with
  |.bl true=>aj o' y (←ev G c ρ)
  |.bl false=>some (.bl false)
  |_=>none
 |.nil,_=>some (.tup [])
 |.cons e es,ρ=>do
  let d ←ev G e ρ
  match ←ev G es ρ with
  |.tup ds=>some (.tup (d::ds))
  |_=>none
 |.tup es,ρ=>(bH (ev G es ρ)).map .tup
 |.lst es,ρ=>(bH (ev G es ρ)).map .lst
 |.ix a i,ρ=>do
  match ←ev G a ρ,←ev G i ρ with
  |.lst xs,.int k=>atI xs k
  |.tup xs,.int k=>atI xs k
  |.frz xs,.int k=>atI xs k
  |.dct kvs,.int k=>cL kvs k
  |_,_=>none
 |.ixm x i,ρ=>do atI (←fZ ρ x) (←intOf (ev G i ρ))
 |.lenm x,ρ=>do some (.int (←fZ ρ x).length)
 |.sortm x,ρ=>do vR [.lst (←fZ ρ x)]
 |.sl a bl lo bh hi,ρ=>do
  let d ←ev G a ρ
  let l ←part bl (ev G lo ρ)
  let h ←part bh (ev G hi ρ)
  match d with
  |.lst xs=>some (.lst (cut xs l h))
  |.frz xs=>some (.lst (cut xs l h))
  |.tup xs=>if sIx xs.length 0 l=0∧sIx xs.length xs.length h=xs.length then none else some (.tup (cut xs l h))
  |_=>none
 |.slm x bl lo bh hi,ρ=>do
  let xs ←fZ ρ x
  let l ←part bl (ev G lo ρ)
  let h ←part bh (ev G hi ρ)
  some (.lst (cut xs l h))
 |.fld a f,ρ=>do match ←ev G a ρ with | .obj c fs=>if (G.fl c).contains f then fs.lookup f else none|_=>none
 |.call f es,ρ=>do bT (G.fn f (←bH (ev G es ρ)))
 |.meth o m es,ρ=>do match ←ev G o ρ with | .obj c fs=>(if (fs.lookup m).isNone then(bH (ev G es ρ)).bind fun as=>bT (G.me c m (.obj c fs::as)) else none)|_=>none
 |.mk c es,ρ=>do bT (G.mo c (←bH (ev G es ρ)))
 |.bcall b es,ρ=>do bf b (←bH (ev G es ρ))
 |.isi a t,ρ=>do (jC G t (←ev G a ρ)).map .bl
 |.walk k a,ρ=>do (items k (←ev G a ρ)).map .lst
 |.comp n fr tg tp k src test elt,ρ=>do
  let ds ←items k (←ev G src ρ)
  (bQ (fun d=>do
   let ρ1 ←bB tg tp d (frame n fr ρ)
   match ←ev G test ρ1 with
   |.bl true=>(ev G elt ρ1).map some
   |.bl false=>some none
   |_=>none) ds).map .lst
 |.inC neg x a,ρ=>do match ←ev G a ρ with | .str s=>(G.dk x).map fun kvs=>.bl (neg != (kvs.lookup s).isSome)|_=>none
 |.getd x es,ρ=>(bH (ev G es ρ)).bind fun as=>match as with
  |[.int k,.int d]=>(nE ρ x).bind fun kvs=>match (cL kvs k).getD (.int d) with
   |.int v=>some (.int v)
   |_=>none
  |_=>none
 |.ixd x i,ρ=>do cL (←nE ρ x) (←intOf (ev G i ρ))
 |.lend x,ρ=>do some (.int (←nE ρ x).length)
noncomputable def nj(G:GS):IE→List Sl→Option Rs
 |.call f es,ρ=>(bH (ev G es ρ)).bind (G.fn f)
 |.meth o m es,ρ=>match ev G o ρ with
  |some (.obj c fs)=>if (fs.lookup m).isNone then(bH (ev G es ρ)).bind fun as=>G.me c m (.obj c fs::as) else none
  |_=>none
 |_,_=>none
set_option genCtorIdx false in
inductive HR where
 |lit (l:Lit)
 |word (f:Str)
 |weq (f:Str) (x:Str)
noncomputable def hrD(G:GS)(c:Str):HR→Option D
 |.lit l=>some l.d
 |.word f=>(G.wd f c).map .str
 |.weq f x=>(G.wd f c).map fun y=>.bl (y == x)
set_option genInjectivity false
set_option genCtorIdx false in
inductive IS where
 |nop
 |seq (a b:IS)
 |ret (fr:Bool) (e:IE)
 |retm (x:Nat)
 |retn
 |set (x:Nat) (e:IE)
 |setm (x:Nat) (e:IE)
 |setd (x:Nat)
 |sett (tg:List Nat) (e:IE)
 |par (x y:Nat) (a b:IE)
 |iff (c:IE) (a b:IS)
 |loop (tg:List Nat) (tp:Bool) (k:Src) (src:IE) (body:IS)
 |whl (c:IE) (body:IS)
 |app (x:Nat) (e:IE)
 |put (x:Nat) (k e:IE)
 |drop (e:IE)
 |frz (xs:List Nat) (st:IS)
 |rse (c:Str)
 |tryx (ce:IE) (hc:Str) (hb:Option Nat) (r:HR)
 |pop (x:Nat)
 |retq (e:IE)
 |fil (t:IE) (f:Str) (x:Nat) (es:IE) (a:IS)
 |chkm (x i:Nat) (t e:IE)
set_option genInjectivity true
inductive Out where
 |nx (ρ:List Sl)
 |rt (d:D)
 |bk (ρ:List Sl)
 |ct (ρ:List Sl)
 |er (c:Str)
 |rm (d:D) (ρ:List Sl)
noncomputable def fV(bind:D→List Sl→Option (List Sl))(body:List Sl→Option Out):List D→List Sl→Option Out
 |[],ρ=>some (.nx ρ)
 |d::r,ρ=>do
  let ρ1 ←bind d ρ
  match ←body ρ1 with
  |.nx ρ2=>fV bind body r ρ2
  |.ct ρ2=>fV bind body r ρ2
  |.bk ρ2=>some (.nx ρ2)
  |o=>some o
noncomputable def sV(test:List Sl→Option D)(body:List Sl→Option Out):Nat→List Sl→Option Out
 | 0,_=>none
 |n+1,ρ=>do
  match ←test ρ with
  |.bl true=>(match ←body ρ with
   |.nx ρ2=>sV test body n ρ2
   |.ct ρ2=>sV test body n ρ2
   |.bk ρ2=>some (.nx ρ2)
   |o=>some o)
  |.bl false=>some (.nx ρ)
  |_=>none
noncomputable def uK(i:Nat)(ρ:List Sl):List Sl:=match ρ[i]? with
 |some (.mu d)=>ρ.set i (.im d)
 |_=>ρ
noncomputable def freeze:List Nat→List Sl→List Sl
 |[],ρ=>ρ
 |i::r,ρ=>freeze r (uK i ρ)
noncomputable def fP:Sl→Sl
 |.mu d=>.im d
 |s=>s
noncomputable def view(ρ:List Sl):List Sl:=ρ.map fP
noncomputable def zQ:D→Bool
 |.non=>true
 |.bl _=>true
 |.int _=>true
 |.str _=>true
 |_=>false
noncomputable def b0(G:GS)(e:IE)(ρ:List Sl):Option D:=match ev G e ρ with
 |some d=>some d
 |none=>match ev G e (view ρ) with
  |some d=>if zQ d then some d else none
  |none=>none
noncomputable def qN(t r:List Sl→Option D)(i:Nat):List D→List Sl→Option Out
 |[],ρ=>some (.nx ρ)
 |d::ds,ρ=>(t (ρ.set i (.im d))).bind fun v=>match v with
  |.bl true=>(r (ρ.set i (.im d))).map .rt
  |.bl false=>qN t r i ds (ρ.set i (.im d))
  |_=>none
noncomputable def aKK(o:D)(i:Int)(d:D):Option D:=match o with
 |.lst ds=>(ixN ds.length i).map fun j=>.lst (ds.set j d)
 |.dct kvs=>if kvs.length<big then some (.dct (kI kvs i d)) else none
 |_=>none
noncomputable def ex(G:GS):IS→List Sl→Option Out
 |.nop,ρ=>some (.nx ρ)
 |.seq a b,ρ=>do
  match ←ex G a ρ with
  |.nx ρ'=>ex G b ρ'
  |o=>some o
 |.ret _ e,ρ=>(b0 G e ρ).map .rt
 |.retm x,ρ=>match ρ[x]? with|some (.mu d)=>some (.rt d)|_=>none
 |.retn,_=>some (.rt .non)
 |.set x e,ρ=>(b0 G e ρ).map fun d=>.nx (ρ.set x (.im d))
 |.setm x e,ρ=>do match ←ev G e ρ with | .lst ds=>some (.nx (ρ.set x (.mu (.lst ds))))|_=>none
 |.setd x,ρ=>some (.nx (ρ.set x (.mu (.dct []))))
 |.sett tg e,ρ=>do (bB tg true (←ev G e ρ) ρ).map .nx
 |.par x y a b,ρ=>do
  let u ←ev G a ρ
  let v ←ev G b ρ
  some (.nx ((ρ.set x (.im u)).set y (.im v)))
 |.iff c a b,ρ=>do match ←ev G c (view ρ) with | .bl true=>ex G a ρ | .bl false=>ex G b ρ|_=>none
 |.loop tg tp k src body,ρ=>do fV (bB tg tp) (ex G body) (←items k (←ev G src ρ)) ρ
 |.whl c body,ρ=>sV (fun ρ=>ev G c (view ρ)) (ex G body) 5000 ρ
 |.app x e,ρ=>do
  let d ←b0 G e ρ
  match ρ[x]? with
  |some (.mu (.lst ds))=>if ds.length<big then some (.nx (ρ.set x (.mu (.lst (ds++[d]))))) else none
  |_=>none
 |.put x k e,ρ=>do
  let d ←b0 G e ρ
  let i ←intOf (b0 G k ρ)
  match ρ[x]? with
  |some (.mu o)=>(aKK o i d).map fun o=>.nx (ρ.set x (.mu o))
  |_=>none
 |.drop e,ρ=>match ev G e (view ρ) with
  |some _=>some (.nx ρ)
  |none=>match nj G e (view ρ) with
   |some (.er k)=>if G.xn k then some (.er k) else none
   |_=>none
 |.frz xs st,ρ=>ex G st (freeze xs ρ)
 |.rse c,_=>if G.xn c then some (.er c) else none
 |.tryx ce hc _ r,ρ=>match nj G ce (view ρ) with
  |some (.ok _)=>some (.nx ρ)
  |some (.er k)=>if G.xn k&&G.xn hc&&G.sub k hc then(hrD G k r).map .rt else none
  |none=>none
 |.chkm x i t e,ρ=>match ρ[x]? with
  |some (.mu (.lst ds))=>qN (fun ρ=>ev G t (view ρ)) (fun ρ=>b0 G e ρ) i ds ρ
  |_=>none
 |.retq e,ρ=>(b0 G e ρ).bind fun d=>if zQ d then some (.rm d ρ) else none
 |.fil t f x es a,ρ=>(ev G t (view ρ)).bind fun v=>match v with
  |.bl true=>ex G a ρ
  |.bl false=>(bH (ev G es ρ)).bind fun as=>(match ρ[x]? with
   |some (.mu o)=>(G.fm f o as).bind fun q=>(match q.1 with
    |.bl true=>some (.nx (ρ.set x (.mu q.2)))
    |.bl false=>ex G a (ρ.set x (.mu q.2))
    |_=>none)
   |_=>none)
  |_=>none
 |.pop x,ρ=>match ρ[x]? with
  |some (.mu (.lst ds))=>if ds.isEmpty then none else some (.nx (ρ.set x (.mu (.lst ds.dropLast))))
  |_=>none
noncomputable def gY:IS→Bool
 |.seq a b=>gY a&&gY b
 |.ret fr _=>fr
 |.iff _ a b=>gY a&&gY b
 |.loop _ _ _ _ b=>gY b
 |.whl _ b=>gY b
 |.frz _ b=>gY b
 |.tryx _ _ _ _=>true
 |.retq _=>false
 |.chkm _ _ _ _=>false
 |.fil _ _ _ _ a=>gY a
 |_=>true
noncomputable def aO(G:GS)(n:Nat)(b:IS)(args:List D):Option Rs:=
 match ex G b (args.map .im++List.replicate (n-args.length) .un) with
 |some (.rt d)=>some (.ok d)
 |some (.nx _)=>some (.ok .non)
 |some (.er c)=>some (.er c)
 |_=>none
noncomputable def runM(G:GS)(n:Nat)(b:IS)(o:D)(args:List D):Option (D×D):=
 match ex G b (.mu o::args.map .im++List.replicate (n-(args.length+1)) .un) with
 |some (.rm d ρ)=>(match (ρ[0]?:Option Sl) with
  |some (.mu o')=>some (d,o')
  |_=>none)
 |_=>none
noncomputable def cP:IS→Bool
 |.seq a b=>cP a&&cP b
 |.set x _=>x != 0
 |.setm x _=>x != 0
 |.setd x=>x != 0
 |.sett tg _=>!tg.contains 0
 |.par x y _ _=>x != 0&&y != 0
 |.iff _ a b=>cP a&&cP b
 |.loop tg _ _ _ b=>!tg.contains 0&&cP b
 |.whl _ b=>cP b
 |.frz _ _=>false
 |.fil _ _ _ _ a=>cP a
 |.chkm _ _ _ _=>false
 |.ret _ _=>false
 |.retm _=>false
 |.retn=>false
 |.rse _=>false
 |.drop _=>false
 |.tryx _ _ _ _=>false
 |_=>true
section
variable {G:GS}{ρ:List Sl}{a b e es src test elt:IE}{i j:Int}
theorem OH{k:Nat}:ev G (.var k) ρ=slot ρ k:=id rfl
theorem aCT{l:Lit}:ev G (.lit l) ρ=some l.d:=id rfl
theorem aCV{x:Str}:ev G (.glo x) ρ=G.cst x:=id rfl
theorem aU{o:O2}:ev G (.bin o a b) ρ=(ev G a ρ).bind fun x=>(ev G b ρ).bind fun y=>aj o x y:=id rfl
theorem aCR:ev G (.neg a) ρ=(ev G a ρ).bind fun x=>match x with | .int i=>some (.int (-i))|_=>none:=id rfl
theorem OJ:ev G (.and a b) ρ=(ev G a ρ).bind fun x=>match x with | .bl true=>((ev G b ρ).bind fun y=>match y with | .bl k=>some (.bl k)|_=>none) | .bl false=>some (.bl false)|_=>none:=id rfl
theorem ZR:ev G (.or a b) ρ=(ev G a ρ).bind fun x=>match x with | .bl false=>((ev G b ρ).bind fun y=>match y with | .bl k=>some (.bl k)|_=>none) | .bl true=>some (.bl true)|_=>none:=id rfl
theorem vT:ev G (.not a) ρ=(ev G a ρ).bind fun x=>match x with | .bl k=>some (.bl (!k))|_=>none:=id rfl
theorem iR:ev G (.tr a) ρ=(ev G a ρ).bind fun x=>(b8 x).map .bl:=id rfl
theorem qI{c:IE}:ev G (.ite c a b) ρ=(ev G c ρ).bind fun x=>match x with | .bl true=>ev G a ρ | .bl false=>ev G b ρ|_=>none:=id rfl
theorem lN{o o':O2}{c:IE}:ev G (.chain o o' a b c) ρ=(ev G b ρ).bind fun y=>(ev G a ρ).bind fun x=>(aj o x y).bind fun w=>match w with | .bl true=>(ev G c ρ).bind fun z=>aj o' y z | .bl false=>some (.bl false)|_=>none:=id rfl
theorem aCQ:ev G .nil ρ=some (.tup []):=id rfl
theorem aJ:ev G (.cons e es) ρ=(ev G e ρ).bind fun d=>(ev G es ρ).bind fun t=>match t with | .tup ds=>some (.tup (d::ds))|_=>none:=id rfl
theorem jE:ev G (.tup es) ρ=(bH (ev G es ρ)).map .tup:=id rfl
theorem aCS:ev G (.lst es) ρ=(bH (ev G es ρ)).map .lst:=id rfl
theorem EZ:ev G (.ix a b) ρ=(ev G a ρ).bind fun x=>(ev G b ρ).bind fun y=>(match x,y with
  |.lst xs,.int k=>atI xs k
  |.tup xs,.int k=>atI xs k
  |.frz xs,.int k=>atI xs k
  |.dct kvs,.int k=>cL kvs k
  |_,_=>none):=id rfl
theorem dB{f:Str}:ev G (.fld a f) ρ=(ev G a ρ).bind fun x=>match x with | .obj c fs=>if (G.fl c).contains f then fs.lookup f else none|_=>none:=id rfl
theorem aW{f:Str}:ev G (.call f es) ρ=(bH (ev G es ρ)).bind fun as=>bT (G.fn f as):=id rfl
theorem oP{m:Str}:ev G (.meth a m es) ρ=(ev G a ρ).bind fun x=>match x with | .obj c fs=>(if (fs.lookup m).isNone then(bH (ev G es ρ)).bind fun as=>bT (G.me c m (.obj c fs::as)) else none)|_=>none:=id rfl
theorem yL{c:Str}:ev G (.mk c es) ρ=(bH (ev G es ρ)).bind fun as=>bT (G.mo c as):=id rfl
theorem lO{f:BF}:ev G (.bcall f es) ρ=(bH (ev G es ρ)).bind fun as=>bf f as:=id rfl
theorem aCU{t:Str}:ev G (.isi a t) ρ=(ev G a ρ).bind fun x=>(jC G t x).map .bl:=id rfl
theorem XQ{k:Src}:ev G (.walk k a) ρ=(ev G a ρ).bind fun x=>(items k x).map .lst:=id rfl
theorem OI{x:Nat}:ev G (.ixm x b) ρ=(fZ ρ x).bind fun xs=>(intOf (ev G b ρ)).bind fun k=>atI xs k:=id rfl
theorem EY{x:Nat}:ev G (.lenm x) ρ=(fZ ρ x).bind fun xs=>some (.int xs.length):=id rfl
theorem aHX{bl bh:Bool}{lo hi:IE}:ev G (.sl a bl lo bh hi) ρ=(ev G a ρ).bind fun d=>(part bl (ev G lo ρ)).bind fun l=>(part bh (ev G hi ρ)).bind fun h=>(match d with
  |.lst xs=>some (.lst (cut xs l h))
  |.frz xs=>some (.lst (cut xs l h))
  |.tup xs=>if sIx xs.length 0 l=0∧sIx xs.length xs.length h=xs.length then none else some (.tup (cut xs l h))
  |_=>none):=id rfl
theorem vU{n:Nat}{fr:List (Nat×Nat)}{tg:List Nat}{tp:Bool}{k:Src}:ev G (.comp n fr tg tp k src test elt) ρ=(ev G src ρ).bind fun s=>(items k s).bind fun ds =>
  (bQ (fun d=>(bB tg tp d (frame n fr ρ)).bind fun ρ1=>(ev G test ρ1).bind fun w=>match w with
   |.bl true=>(ev G elt ρ1).map some
   |.bl false=>some none
   |_=>none) ds).map .lst:=id rfl
theorem JO{ds:List D}:bH (some (.tup ds))=some ds:=id rfl
theorem VG{d:D}:bT (some (.ok d))=some d:=id rfl
theorem aGx:aj .add (.int i) (.int j)=some (.int (i+j)):=id rfl
theorem aGv:aj .sub (.int i) (.int j)=some (.int (i-j)):=id rfl
theorem ME(h0:-1000000≤i)(h1:i≤1000000):aj .mul (.int i) (.int j)=some (.int (i*j)):=if_pos (.inl ⟨by omega,by omega⟩)
theorem rS(h0:0<j)(h1:j<1000000):aj .fdiv (.int i) (.int j)=some (.int (i / j)):=if_pos ⟨h0,by omega⟩
theorem CO(h0:0<j):aj .mod (.int i) (.int j)=some (.int (i % j)):=if_pos h0
theorem aKL:aj .lt (.int i) (.int j)=some (.bl (decide (i<j))):=id rfl
theorem aKM:aj .le (.int i) (.int j)=some (.bl (decide (i≤j))):=id rfl
theorem aKN:aj .gt (.int i) (.int j)=some (.bl (decide (j<i))):=id rfl
theorem aKO:aj .ge (.int i) (.int j)=some (.bl (decide (j≤i))):=id rfl
theorem aBZ:aj .eq (.int i) (.int j)=some (.bl (i == j)):=id rfl
theorem VI:aj .ne (.int i) (.int j)=some (.bl (!(i == j))):=id rfl
theorem aGw{x y:Bool}:aj .is (.bl x) (.bl y)=some (.bl (x == y)):=id rfl
theorem aBY{x y:Bool}:aj .isnot (.bl x) (.bl y)=some (.bl (!(x == y))):=id rfl
theorem KM(h0:-1000000≤j)(h1:j≤1000000):fY j=true:=by
 unfold fY;rw[ow,p4,p4];omega
theorem AN{n:Nat}(h:n≤1000000):items .rng (.tup [.int (n:Int)])=some (eA 0 (n:Int)):=by
 have h1:(fY (n:Int)&&decide ((n:Int).toNat≤big))=true:=by
  rw[KM (by omega) (by omega),Bool.true_and,p4]
  unfold big;omega
 simp only[items,NG];rw[if_pos h1]
theorem slot0{d:D}{r:List Sl}:slot (.im d::r) 0=some d:=id rfl
theorem aEJ{x:Sl}{r:List Sl}{k:Nat}:slot (x::r) (k+1)=slot r k:=id rfl
end
section
variable {G:GS}{ρ:List Sl}{a b:IS}{e c:IE}
theorem aM:ex G .nop ρ=some (.nx ρ):=id rfl
theorem OF:ex G (.seq a b) ρ=(ex G a ρ).bind fun o=>match o with | .nx ρ'=>ex G b ρ'|o=>some o:=id rfl
theorem OG:ex G (.iff c a b) ρ=(ev G c (view ρ)).bind fun x=>match x with | .bl true=>ex G a ρ | .bl false=>ex G b ρ|_=>none:=id rfl
theorem kL{d:D}(h:ev G e ρ=some d):b0 G e ρ=some d:=by unfold b0;rw[h]
theorem aK{d:D}{f:Bool}(h:ev G e ρ=some d):ex G (.ret f e) ρ=some (.rt d):=by show (b0 G e ρ).map Out.rt=_;rw[kL h];rfl
theorem aP{d:D}{x:Nat}(h:ev G e ρ=some d):ex G (.set x e) ρ=some (.nx (ρ.set x (.im d))):=by show (b0 G e ρ).map _=_;rw[kL h];rfl
theorem lK{ds:List D}{x:Nat}(h:ev G e ρ=some (.lst ds)):ex G (.setm x e) ρ=some (.nx (ρ.set x (.mu (.lst ds)))):=by show (ev G e ρ).bind _=_;rw[h];rfl
theorem bO{tg:List Nat}{tp:Bool}{k:Src}{d:D}{ds:List D}(h1:ev G e ρ=some d)(h2:items k d=some ds):ex G (.loop tg tp k e a) ρ=fV (bB tg tp) (ex G a) ds ρ:=by show (ev G e ρ).bind _=_;rw[h1];show ((items k d).bind _)=_;rw[h2];rfl
end
theorem qL{f:D→Option (Option D)}{h:D→D}:∀{ds:List D},(∀d∈ds,f d=some (some (h d)))→bQ f ds=some (ds.map h)
 |[],_=>rfl
 |d::r,e=>by
  unfold bQ;rw[e d (qw),qL fun x hx=>e x (oq _ hx)]
  rfl
theorem pR{lo hi:Int}{d:D}(h:d∈eA lo hi):∃i:Int,d=.int i∧lo≤i∧i<hi:=by
 unfold eA at h;simp only[qe,rq]at h;obtain⟨k,hk,rfl⟩:=h;exact⟨_,rfl,by omega,by omega⟩
theorem kH{n:Nat}:eA 0 (n:Int)=(List.range n).map fun (k:Nat)=>D.int k:=by
 unfold eA;simp
theorem eK{bind:D→List Sl→Option (List Sl)}{body:List Sl→Option Out}(P:Nat→List Sl→Prop):∀{ds:List D} {k:Nat} {ρ:List Sl},P k ρ →
  (∀(i:Nat) (d:D) (ρ:List Sl),ds[i]?=some d→P (k+i) ρ→∃ρ1,bind d ρ=some ρ1∧∃ρ2,body ρ1=some (.nx ρ2)∧P (k+i+1) ρ2)→∃ρ',fV bind body ds ρ=some (.nx ρ')∧P (k+ds.length) ρ'
 |[],k,ρ,h,_=>⟨ρ,rfl,h⟩
 |d::r,k,ρ,h,st=>by
  obtain⟨ρ1,h1,ρ2,h2,h3⟩:=st 0 d ρ rfl h;obtain⟨ρ',h4,h5⟩:=eK P (ds:=r) (k:=k+1) h3 fun i d' ρ' e p=>by
   have:=st (i+1) d' ρ' (by simpa using e) (by rw[Nat.add_comm i 1,←Nat.add_assoc];exact p)
   rw[show k+1+i+1=k+(i+1)+1 by omega]
   exact this
  refine⟨ρ',?_,by rw[qy,show k+(r.length+1)=k+1+r.length by omega];exact h5⟩
  unfold fV;rw[h1];show ((body ρ1).bind _)=_
  rw[h2];exact h4
theorem aH{G:GS}{n:Nat}{b:IS}{args:List D}{ρ:List Sl}{d:D}(h0:args.map .im++List.replicate (n-args.length) .un=ρ)(h:ex G b ρ=some (.rt d)):aO G n b args=some (.ok d):=by unfold aO;rw[h0,h]
theorem SI{G:GS}{n:Nat}{b:IS}{args:List D}{ρ ρ':List Sl}(h0:args.map .im++List.replicate (n-args.length) .un=ρ)(h:ex G b ρ=some (.nx ρ')):aO G n b args=some (.ok .non):=by unfold aO;rw[h0,h]
theorem yM{G:GS}{ρ:List Sl}{n:Nat}{fr:List (Nat×Nat)}{tg:List Nat}{tp:Bool}{k:Src}{src test elt:IE}{s:D}{ds:List D}(h:D→D)(h1:ev G src ρ=some s)(h2:items k s=some ds)
  (h3:∀d∈ds,∃ρ1,bB tg tp d (frame n fr ρ)=some ρ1∧ev G test ρ1=some (.bl true)∧ev G elt ρ1=some (h d)):ev G (.comp n fr tg tp k src test elt) ρ=some (.lst (ds.map h)):=by
 rw[vU,h1,qu,h2,qu,qL (h:=h)]
 ·rfl
 ·intro d hd;obtain⟨ρ1,e1,e2,e3⟩:=h3 d hd;rw[e1,qu,e2,qu];show Option.map some (ev G elt ρ1)=_
  rw[e3];rfl
theorem bL:view []=[]:=id rfl
theorem eO{d:D}{r:List Sl}:view (.im d::r)=.im d::view r:=id rfl
theorem BS{r:List Sl}:view (.un::r)=.un::view r:=id rfl
theorem RO{d:D}{r:List Sl}:view (.mu d::r)=.im d::view r:=id rfl
theorem OE{G:GS}{ρ:List Sl}{tg:List Nat}{e:IE}:ex G (.sett tg e) ρ=(ev G e ρ).bind fun d=>(bB tg true d ρ).map .nx:=id rfl
theorem aF{G:GS}{ρ ρ':List Sl}{a b:IS}{o:Out}(h1:ex G a ρ=some (.nx ρ'))(h2:ex G b ρ'=some o):ex G (.seq a b) ρ=some o:=by rw[OF,h1];exact h2
theorem fC{G:GS}{ρ:List Sl}{a b:IS}{o:Out}(h1:ex G a ρ=some o)(h2:∀ρ',o≠.nx ρ'):ex G (.seq a b) ρ=some o:=by
 rw[OF,h1];cases o<;>first|rfl|exact absurd rfl (h2 _)
theorem iK{G:GS}{ρ:List Sl}{a b:IS}{c:IE}{o:Option Out}(h1:ev G c (view ρ)=some (.bl true))(h2:ex G a ρ=o):ex G (.iff c a b) ρ=o:=by rw[OG,h1];exact h2
theorem bJ{G:GS}{ρ:List Sl}{a b:IS}{c:IE}{o:Option Out}(h1:ev G c (view ρ)=some (.bl false))(h2:ex G b ρ=o):ex G (.iff c a b) ρ=o:=by rw[OG,h1];exact h2
theorem cX{G:GS}{ρ:List Sl}{a b:IE}{x y:Bool}(ha:ev G a ρ=some (.bl x))(hb:x=false→ev G b ρ=some (.bl y)):ev G (.or a b) ρ=some (.bl (x || y)):=by
 rw[ZR,ha];cases x with
 |true=>rfl
 |false=>show ((ev G b ρ).bind _)=_;rw[hb rfl];rfl
theorem gJ{G:GS}{ρ:List Sl}{a b:IE}{x y:Bool}(ha:ev G a ρ=some (.bl x))(hb:x=true→ev G b ρ=some (.bl y)):ev G (.and a b) ρ=some (.bl (x&&y)):=by
 rw[OJ,ha];cases x with
 |false=>rfl
 |true=>show ((ev G b ρ).bind _)=_;rw[hb rfl];rfl
theorem aHW{xs:List D}:bf .len [.lst xs]=some (.int xs.length):=id rfl
theorem aCM{xs:List D}:bf .len [.frz xs]=some (.int xs.length):=id rfl
theorem aCL{xs:List D}:bf .len [.tup xs]=some (.int xs.length):=id rfl
theorem aCK{xs:List D}:bf .list [.lst xs]=some (.lst xs):=id rfl
theorem WV{xs:List D}:bf .list [.tup xs]=some (.lst xs):=id rfl
theorem dM{α:Type}{xs:List α}{k:Nat}{x:α}(h:xs[k]?=some x):atI xs (k:Int)=some x:=by
 have hl:=(o5.mp h).1
 unfold atI ixN;rw[if_pos (by omega),if_pos (by omega)]
 simpa using h
theorem aA{α β:Type}{a:α}{f:α→Option β}:(some a).bind f=f a:=id rfl
theorem aC{α β:Type}{a:α}{f:α→β}:(some a).map f=some (f a):=id rfl
theorem aHJ{i:Int}:(Lit.int i).d=.int i:=id rfl
theorem aLe{b:Bool}:(Lit.bl b).d=.bl b:=id rfl
theorem aHH{x:Str}:(Lit.str x).d=.str x:=id rfl
theorem aHI:(Lit.non).d=.non:=id rfl
theorem zz:(∀G ρ k,ev G (.var k) ρ=slot ρ k)∧(∀G ρ l,ev G (.lit l) ρ=some l.d)∧(∀G ρ x,ev G (.glo x) ρ=G.cst x)∧(∀G ρ o a b,ev G (.bin o a b) ρ=(ev G a ρ).bind fun x=>(ev G b ρ).bind fun y=>aj o x y) ∧
  (∀G ρ a,ev G (.neg a) ρ=(ev G a ρ).bind fun x=>match x with | .int i=>some (.int (-i))|_=>none) ∧
  (∀G ρ a b,ev G (.and a b) ρ=(ev G a ρ).bind fun x=>match x with | .bl true=>((ev G b ρ).bind fun y=>match y with | .bl k=>some (.bl k)|_=>none) | .bl false=>some (.bl false)|_=>none) ∧
  (∀G ρ a b,ev G (.or a b) ρ=(ev G a ρ).bind fun x=>match x with | .bl false=>((ev G b ρ).bind fun y=>match y with | .bl k=>some (.bl k)|_=>none) | .bl true=>some (.bl true)|_=>none) ∧
  (∀G ρ a,ev G (.not a) ρ=(ev G a ρ).bind fun x=>match x with | .bl k=>some (.bl (!k))|_=>none)∧(∀G ρ a,ev G (.tr a) ρ=(ev G a ρ).bind fun x=>(b8 x).map .bl) ∧
  (∀G ρ c a b,ev G (.ite c a b) ρ=(ev G c ρ).bind fun x=>match x with | .bl true=>ev G a ρ | .bl false=>ev G b ρ|_=>none) ∧
  (∀G ρ o o' a b c,ev G (.chain o o' a b c) ρ=(ev G b ρ).bind fun y=>(ev G a ρ).bind fun x=>(aj o x y).bind fun w=>match w with | .bl true=>(ev G c ρ).bind fun z=>aj o' y z | .bl false=>some (.bl false)|_=>none) ∧
  (∀G ρ,ev G .nil ρ=some (.tup []))∧(∀G ρ e es,ev G (.cons e es) ρ=(ev G e ρ).bind fun d=>(ev G es ρ).bind fun t=>match t with | .tup ds=>some (.tup (d::ds))|_=>none) ∧
  (∀G ρ es,ev G (.tup es) ρ=(bH (ev G es ρ)).map .tup)∧(∀G ρ es,ev G (.lst es) ρ=(bH (ev G es ρ)).map .lst) ∧
  (∀G ρ a b,ev G (.ix a b) ρ=(ev G a ρ).bind fun x=>(ev G b ρ).bind fun y=>(match x,y with | .lst xs,.int k=>atI xs k | .tup xs,.int k=>atI xs k | .frz xs,.int k=>atI xs k | .dct kvs,.int k=>cL kvs k|_,_=>none)) ∧
  (∀G ρ a f,ev G (.fld a f) ρ=(ev G a ρ).bind fun x=>match x with | .obj c fs=>if (G.fl c).contains f then fs.lookup f else none|_=>none) ∧
  (∀G ρ f es,ev G (.call f es) ρ=(bH (ev G es ρ)).bind fun as=>bT (G.fn f as)) ∧
  (∀G ρ a m es,ev G (.meth a m es) ρ=(ev G a ρ).bind fun x=>match x with | .obj c fs=>(if (fs.lookup m).isNone then(bH (ev G es ρ)).bind fun as=>bT (G.me c m (.obj c fs::as)) else none)|_=>none) ∧
  (∀G ρ c es,ev G (.mk c es) ρ=(bH (ev G es ρ)).bind fun as=>bT (G.mo c as))∧(∀G ρ f es,ev G (.bcall f es) ρ=(bH (ev G es ρ)).bind fun as=>bf f as) ∧
  (∀G ρ a t,ev G (.isi a t) ρ=(ev G a ρ).bind fun x=>(jC G t x).map .bl)∧(∀G ρ k a,ev G (.walk k a) ρ=(ev G a ρ).bind fun x=>(items k x).map .lst) ∧
  (∀G ρ x b,ev G (.ixm x b) ρ=(fZ ρ x).bind fun xs=>(intOf (ev G b ρ)).bind fun k=>atI xs k)∧(∀G ρ x,ev G (.lenm x) ρ=(fZ ρ x).bind fun xs=>some (.int xs.length)) ∧
  (∀G ρ a bl lo bh hi,ev G (.sl a bl lo bh hi) ρ=(ev G a ρ).bind fun d=>(part bl (ev G lo ρ)).bind fun l=>(part bh (ev G hi ρ)).bind fun h=>(match d with
   |.lst xs=>some (.lst (cut xs l h))
   |.frz xs=>some (.lst (cut xs l h))
   |.tup xs=>if sIx xs.length 0 l=0∧sIx xs.length xs.length h=xs.length then none else some (.tup (cut xs l h))
   |_=>none)):=
 ⟨fun _ _ _=>OH,fun _ _ _=>aCT,fun _ _ _=>aCV,fun _ _ _ _ _=>aU,fun _ _ _=>aCR,fun _ _ _ _=>OJ,fun _ _ _ _=>ZR,fun _ _ _=>vT,fun _ _ _=>iR,fun _ _ _ _ _=>qI,fun _ _ _ _ _ _ _=>lN,fun _ _=>aCQ,fun _ _ _ _=>aJ,fun _ _ _=>jE,fun _ _ _=>aCS,fun _ _ _ _=>EZ,fun _ _ _ _=>dB,fun _ _ _ _=>aW,fun _ _ _ _ _=>oP,fun _ _ _ _=>yL,fun _ _ _ _=>lO,fun _ _ _ _=>aCU,fun _ _ _ _=>XQ,fun _ _ _ _=>OI,fun _ _ _=>EY,fun _ _ _ _ _ _ _=>aHX⟩
theorem yy:(∀ds,bH (some (.tup ds))=some ds)∧(∀d,bT (some (.ok d))=some d)∧(∀i j,aj .add (.int i) (.int j)=some (.int (i+j)))∧(∀i j,aj .sub (.int i) (.int j)=some (.int (i-j)))∧(∀i j,aj .lt (.int i) (.int j)=some (.bl (decide (i<j))))∧(∀i j,aj .le (.int i) (.int j)=some (.bl (decide (i≤j)))) ∧
  (∀i j,aj .gt (.int i) (.int j)=some (.bl (decide (j<i))))∧(∀i j,aj .ge (.int i) (.int j)=some (.bl (decide (j≤i))))∧(∀i j,aj .eq (.int i) (.int j)=some (.bl (i == j)))∧(∀i j,aj .ne (.int i) (.int j)=some (.bl (!(i == j))))∧(∀x y,aj .is (.bl x) (.bl y)=some (.bl (x == y)))∧(∀x y,aj .isnot (.bl x) (.bl y)=some (.bl (!(x == y)))) ∧
  (∀d r,slot (.im d::r) 0=some d)∧(∀x r k,slot (x::r) (k+1)=slot r k)∧(view []=[])∧(∀d r,view (.im d::r)=.im d::view r)∧(∀r,view (.un::r)=.un::view r)∧(∀d r,view (.mu d::r)=.im d::view r) ∧
  (∀xs,bf .len [.lst xs]=some (.int xs.length))∧(∀xs,bf .len [.frz xs]=some (.int xs.length))∧(∀xs,bf .len [.tup xs]=some (.int xs.length))∧(∀xs,bf .list [.lst xs]=some (.lst xs))∧(∀xs,bf .list [.tup xs]=some (.lst xs)) ∧
  (∀i,(Lit.int i).d=.int i)∧(∀b,(Lit.bl b).d=.bl b)∧(∀x,(Lit.str x).d=.str x)∧((Lit.non).d=.non):=
 ⟨fun _=>JO,fun _=>VG,fun _ _=>aGx,fun _ _=>aGv,fun _ _=>aKL,fun _ _=>aKM,fun _ _=>aKN,fun _ _=>aKO,fun _ _=>aBZ,fun _ _=>VI,fun _ _=>aGw,fun _ _=>aBY,fun _ _=>slot0,fun _ _ _=>aEJ,bL,fun _ _=>eO,fun _=>BS,fun _ _=>RO,fun _=>aHW,fun _=>aCM,fun _=>aCL,fun _=>aCK,fun _=>WV,fun _=>aHJ,fun _=>aLe,fun _=>aHH,aHI⟩
namespace Pg
noncomputable def iD:IS:=(.ret true (.comp 4 [(2,0),(3,1)] [1] false .rng (.tup (.cons (.var 0) .nil)) (.lit (.bl true)) (.lst (.cons (.tup (.cons (.bin .add (.bin .mul (.var 3) (.var 2)) (.var 1)) (.cons (.lit (.bl false)) (.cons (.lit (.bl false)) .nil)))) .nil))))
noncomputable def ZU(i:Int)(e n:Bool):D:=.tup [.int i,.bl e,.bl n]
noncomputable def nQ(c y:Nat):List D:=(List.range c).map fun x=>.lst [ZU (y*c+x:Nat) false false]
theorem xZ{G:GS}{c y:Nat}(hc:c≤64)(hy:y≤64):aO G 2 iD [.int c,.int y]=some (.ok (.lst (nQ c y))):=by
 have e:=yM (G:=G) (ρ:=[.im (.int c),.im (.int y)]) (n:=4) (fr:=[(2,0),(3,1)]) (tg:=[1]) (tp:=false) (k:=.rng) (src:=.tup (.cons (.var 0) .nil)) (test:=.lit (.bl true)) (elt:=.lst (.cons (.tup (.cons (.bin .add (.bin .mul (.var 3) (.var 2)) (.var 1)) (.cons (.lit (.bl false)) (.cons (.lit (.bl false)) .nil)))) .nil))
  (fun d=>match d with | .int x=>.lst [ZU (y*c+x) false false]|_=>.non) (s:=.tup [.int c]) (by simp only[zz,yy,aA,aC]) (AN (by omega)) (fun d hd=>by
   obtain⟨x,rfl,h1,h2⟩:=pR hd;refine⟨[.un,.im (.int x),.im (.int c),.im (.int y)],rfl,by simp only[zz,yy,aA,aC],?_⟩
   simp only[zz,yy,aA,aC,ME (show (-1000000:Int)≤y by omega) (show (y:Int)≤1000000 by omega)]
   rfl)
 refine aH (ρ:=[.im (.int c),.im (.int y)]) rfl (aK (e.trans ?_));rw[kH];simp[nQ]
noncomputable def cG(c r w h:Int)(T F S:List D):D:=.obj "Pile" [("columns",.int c),("rows",.int r),("wide",.int w),("high",.int h),("table",.lst T),("folds",.tup F),("severed",.tup S)]
noncomputable def fQ(c r:Nat):List D:=(List.range r).map fun y=>.lst (nQ c y)
noncomputable def uF:IS:=(.seq (.iff (.or (.bin .lt (.var 0) (.lit (.int 1))) (.or (.bin .lt (.var 1) (.lit (.int 1))) (.bin .gt (.bin .mul (.var 0) (.var 1)) (.glo "MOST_CELLS")))) (.rse "NoSheet") .nop) (.seq (.set 2 (.comp 3 [(2,0)] [1] false .rng (.tup (.cons (.var 1) .nil)) (.lit (.bl true)) (.call "laid_row" (.cons (.var 2) (.cons (.var 1) .nil))))) (.ret false (.mk "Pile" (.cons (.var 0) (.cons (.var 1) (.cons (.var 2) (.cons (.tup .nil) (.cons (.tup .nil) .nil)))))))))
section
variable {G:GS}
theorem IA(hm:G.cst "MOST_CELLS" = some (.int 64)){c r:Int}{ρ:List Sl}(hmul:aj .mul (.int c) (.int r)=some (.int (c*r)))(h0:slot ρ 0=some (.int c))(h1:slot ρ 1=some (.int r)) :
  ev G (.or (.bin .lt (.var 0) (.lit (.int 1))) (.or (.bin .lt (.var 1) (.lit (.int 1))) (.bin .gt (.bin .mul (.var 0) (.var 1)) (.glo "MOST_CELLS")))) ρ=some (.bl (decide (c<1) || (decide (r<1) || decide (64<c*r)))):=by
 refine cX (by simp only[zz,yy,aA,aC,h0]) fun _=>cX (by simp only[zz,yy,aA,aC,h1]) fun _=>?_
 simp only[zz,yy,aA,aC,h0,h1,hmul,hm]
theorem WE(hm:G.cst "MOST_CELLS" = some (.int 64))(hrow:∀c y:Nat,c≤64→y≤64→G.fn "laid_row" [.int c,.int y]=some (.ok (.lst (nQ c y))))
  (hmo:∀(c r:Int) (T row:List D),T[0]?=some (.lst row)→G.mo "Pile" [.int c,.int r,.lst T,.tup [],.tup []]=some (.ok (cG c r row.length T.length T [] []))) {c r:Nat} (hc:1≤c) (hr:1≤r) (cH:c*r≤64) :
  aO G 3 uF [.int c,.int r]=some (.ok (cG c r c r (fQ c r) [] [])):=by
 have fk:c≤64:=p9 (Nat.le_mul_of_pos_right c hr) cH
 have hr2:r≤64:=p9 (Nat.le_mul_of_pos_left r hc) cH
 have e:=yM (G:=G) (ρ:=[.im (.int c),.im (.int r),.un]) (n:=3) (fr:=[(2,0)]) (tg:=[1]) (tp:=false) (k:=.rng) (src:=.tup (.cons (.var 1) .nil)) (test:=.lit (.bl true)) (elt:=.call "laid_row" (.cons (.var 2) (.cons (.var 1) .nil)))
  (fun d=>match d with | .int y=>.lst (nQ c y.toNat)|_=>.non) (s:=.tup [.int r]) (by simp only[zz,yy,aA,aC]) (AN (by omega)) (fun d hd=>by
   obtain⟨y,rfl,h1,h2⟩:=pR hd;obtain⟨k,rfl⟩:∃k:Nat,y=k:=⟨y.toNat,by omega⟩
   refine⟨[.un,.im (.int k),.im (.int c)],rfl,by simp only[zz,yy,aA,aC],?_⟩
   simp only[zz,yy,aA,aC,hrow c k fk (by omega)]
   rfl)
 have e2:(eA 0 (r:Int)).map (fun d=>match d with | .int y=>D.lst (nQ c y.toNat)|_=>.non)=fQ c r:=by
  rw[kH];simp[fQ]
 rw[e2]at e;have hmul:aj .mul (.int (c:Int)) (.int (r:Int))=some (.int (c*r)):=ME (by omega) (by omega)
 have ht:(fQ c r)[0]?=some (.lst (nQ c 0)):=by unfold fQ;rw[oe,qx hr];rfl
 have e3:=hmo c r (fQ c r) (nQ c 0) ht
 have l1:(nQ c 0).length=c:=by simp[nQ]
 have l2:(fQ c r).length=r:=by simp[fQ]
 rw[l1,l2]at e3;refine aH (ρ:=[.im (.int c),.im (.int r),.un]) rfl (aF (bJ ?_ aM) (aF (aP e) (aK ?_)))
 ·rw[eO,eO,BS,bL,IA hm hmul (by simp only[zz,yy,aA,aC]) (by simp only[zz,yy,aA,aC])]
  have h3:((c:Int)*r)≤64:=by exact_mod_cast cH
  rw[oj (show ¬(c:Int)<1 by omega),oj (show ¬(r:Int)<1 by omega),oj (show ¬64<(c:Int)*r by omega)]
  rfl
 ·show ev G _ [.im (.int c),.im (.int r),.im (.lst (fQ c r))]=_
  simp only[zz,yy,aA,aC,e3]
end
noncomputable def de:List Str:=["columns","rows","wide","high","table","folds","severed"]
section
variable {G:GS}{c r w h:Int}{T F S:List D}{ρ:List Sl}{a:IE}
theorem mK(hf:G.fl "Pile" = de)(e:ev G a ρ=some (cG c r w h T F S)):ev G (.fld a "columns") ρ=some (.int c):=by rw[dB,e];show (if (G.fl "Pile").contains _ then _ else _)=_;rw[hf];rfl
theorem AB(hf:G.fl "Pile" = de)(e:ev G a ρ=some (cG c r w h T F S)):ev G (.fld a "rows") ρ=some (.int r):=by rw[dB,e];show (if (G.fl "Pile").contains _ then _ else _)=_;rw[hf];rfl
theorem mI(hf:G.fl "Pile" = de)(e:ev G a ρ=some (cG c r w h T F S)):ev G (.fld a "wide") ρ=some (.int w):=by rw[dB,e];show (if (G.fl "Pile").contains _ then _ else _)=_;rw[hf];rfl
theorem mJ(hf:G.fl "Pile" = de)(e:ev G a ρ=some (cG c r w h T F S)):ev G (.fld a "high") ρ=some (.int h):=by rw[dB,e];show (if (G.fl "Pile").contains _ then _ else _)=_;rw[hf];rfl
theorem CN(hf:G.fl "Pile" = de)(e:ev G a ρ=some (cG c r w h T F S)):ev G (.fld a "table") ρ=some (.lst T):=by rw[dB,e];show (if (G.fl "Pile").contains _ then _ else _)=_;rw[hf];rfl
theorem UQ(hf:G.fl "Pile" = de)(e:ev G a ρ=some (cG c r w h T F S)):ev G (.fld a "folds") ρ=some (.tup F):=by rw[dB,e];show (if (G.fl "Pile").contains _ then _ else _)=_;rw[hf];rfl
theorem rR(hf:G.fl "Pile" = de)(e:ev G a ρ=some (cG c r w h T F S)):ev G (.fld a "severed") ρ=some (.tup S):=by rw[dB,e];show (if (G.fl "Pile").contains _ then _ else _)=_;rw[hf];rfl
theorem LS{m:Str}{es:IE}{ds:List D}{o:Option Rs}(hm:([("columns",D.int c),("rows",.int r),("wide",.int w),("high",.int h),("table",.lst T),("folds",.tup F),("severed",.tup S)]:List (Str×D)).lookup m=none)(e:ev G a ρ=some (cG c r w h T F S))(ea:ev G es ρ=some (.tup ds))(eo:G.me "Pile" m (cG c r w h T F S::ds)=o):ev G (.meth a m es) ρ=bT o:=by
 rw[oP,e];show (if (List.lookup m _).isNone=true then _ else _)=_
 rw[hm,ea];show bT (G.me "Pile" m (cG c r w h T F S::ds))=_
 rw[eo]
noncomputable def uG:IS:=(.seq (.iff (.or (.bin .lt (.var 1) (.lit (.int 0))) (.or (.bin .ge (.var 1) (.fld (.var 0) "wide")) (.or (.bin .lt (.var 2) (.lit (.int 0))) (.bin .ge (.var 2) (.fld (.var 0) "high"))))) (.rse "NoPlace") .nop) (.ret true (.bcall .list (.cons (.ix (.ix (.fld (.var 0) "table") (.var 2)) (.var 1)) .nil))))
theorem II(hf:G.fl "Pile" = de){x y:Int}:ev G (.or (.bin .lt (.var 1) (.lit (.int 0))) (.or (.bin .ge (.var 1) (.fld (.var 0) "wide")) (.or (.bin .lt (.var 2) (.lit (.int 0))) (.bin .ge (.var 2) (.fld (.var 0) "high"))))) [.im (cG c r w h T F S),.im (.int x),.im (.int y)] =
  some (.bl (decide (x<0) || (decide (w≤x) || (decide (y<0) || decide (h≤y))))):=by
 have e0:ev G (.var 0) [.im (cG c r w h T F S),.im (.int x),.im (.int y)]=some (cG c r w h T F S):=by simp only[zz,yy,aA,aC]
 refine cX (by simp only[zz,yy,aA,aC]) fun _=>cX ?_ fun _=>cX (by simp only[zz,yy,aA,aC]) fun _=>?_
 ·rw[aU,mI hf e0];simp only[zz,yy,aA,aC]
 ·rw[aU,mJ hf e0];simp only[zz,yy,aA,aC]
theorem WN(hf:G.fl "Pile" = de){x y:Nat}{row hp:List D}(hw:(x:Int)<w)(hh:(y:Int)<h)(h1:T[y]?=some (.lst row))(h2:row[x]?=some (.lst hp)):aO G 3 uG [cG c r w h T F S,.int x,.int y]=some (.ok (.lst hp)):=by
 have e0:ev G (.var 0) [.im (cG c r w h T F S),.im (.int x),.im (.int y)]=some (cG c r w h T F S):=by simp only[zz,yy,aA,aC]
 refine aH (ρ:=[.im (cG c r w h T F S),.im (.int x),.im (.int y)]) rfl (aF (bJ ?_ aM) (aK ?_))
 ·rw[eO,eO,eO,bL,II hf];rw[oj (show ¬(x:Int)<0 by omega),oj (show ¬w≤(x:Int) by omega),oj (show ¬(y:Int)<0 by omega),oj (show ¬h≤(y:Int) by omega)]
  rfl
 ·simp only[zz,yy,aA,aC,CN hf e0,dM h1,dM h2]
noncomputable def jU:IS:=(.seq (.iff (.bin .lt (.var 1) (.bcall .len (.cons (.var 0) .nil))) (.ret false (.ix (.var 0) (.var 1))) .nop) (.ret false (.lit (.int 0))))
noncomputable def gb(ns:List Int)(k:Nat):Int:=ns.getD k 0
theorem BI{ns:List Int}{k:Nat}:aO G 2 jU [.frz (ns.map .int),.int k]=some (.ok (.int (gb ns k))):=by
 have e:ev G (.bin .lt (.var 1) (.bcall .len (.cons (.var 0) .nil))) [.im (.frz (ns.map .int)),.im (.int k)]=some (.bl (decide ((k:Int)<ns.length))):=by
  simp only[zz,yy,aA,aC,og]
 by_cases hk:k<ns.length
 ·refine aH (ρ:=[.im (.frz (ns.map .int)),.im (.int k)]) rfl (fC (iK ?_ (aK (d:=.int (gb ns k)) ?_)) (fun _ z=>by cases z))
  ·rw[eO,eO,bL,e,qc (by omega)]
  ·have:(ns.map D.int)[k]?=some (.int (gb ns k)):=by
    unfold gb;rw[oe,o6,oa hk];rfl
   simp only[zz,yy,aA,aC,dM this]
 ·refine aH (ρ:=[.im (.frz (ns.map .int)),.im (.int k)]) rfl (aF (bJ ?_ aM) (aK ?_))
  ·rw[eO,eO,bL,e,oj (by omega)]
  ·have:gb ns k=0:=by
    unfold gb;rw[o6,List.getElem?_eq_none (by omega)];rfl
   simp only[zz,yy,aA,aC,this]
noncomputable def oE:IS:=(.ret false (.and (.isi (.var 0) "int") (.not (.tr (.isi (.var 0) "bool")))))
theorem yD{i:Int}:jC G "int" (.int i)=some true:=by simp only[jC];rw[if_pos trivial]
theorem tY{i:Int}:jC G "bool" (.int i)=some false:=by simp only[jC];rw[if_neg (by decide +kernel),if_pos (.inl trivial)]
theorem nJ{b:Bool}:jC G "bool" (.bl b)=some true:=by simp only[jC];rw[if_pos (.inr trivial)]
theorem WL{xs:List D}:jC G "list" (.lst xs)=some true:=by simp only[jC];rw[if_pos trivial]
theorem WK{xs:List D}:jC G "tuple" (.tup xs)=some true:=by simp only[jC];rw[if_pos trivial]
theorem JY{i:Int}:aO G 1 oE [.int i]=some (.ok (.bl true)):=by
 refine aH (ρ:=[.im (.int i)]) rfl (aK ?_);simp only[zz,yy,aA,aC,yD,tY,b8];rfl
end
end Pg
theorem yV{α:Type}{f:D→Option (Option D)}{enc:α→D}{g:α→D}:∀{L:List α},(∀a∈L,f (enc a)=some (some (g a)))→bQ f (L.map enc)=some (L.map g)
 |[],_=>rfl
 |a::r,e=>by
  rw[qb];unfold bQ;rw[e a (qw),yV fun x hx=>e x (oq _ hx)]
  rfl
theorem dC{α:Type}{G:GS}{ρ:List Sl}{n:Nat}{fr:List (Nat×Nat)}{tg:List Nat}{tp:Bool}{k:Src}{src test elt:IE}{s:D}{L:List α}(enc g:α→D)(h1:ev G src ρ=some s)(h2:items k s=some (L.map enc))
  (h3:∀a∈L,∃ρ1,bB tg tp (enc a) (frame n fr ρ)=some ρ1∧ev G test ρ1=some (.bl true)∧ev G elt ρ1=some (g a)):ev G (.comp n fr tg tp k src test elt) ρ=some (.lst (L.map g)):=by
 rw[vU,h1,qu,h2,qu,yV (g:=g)]
 ·rfl
 ·intro a ha;obtain⟨ρ1,e1,e2,e3⟩:=h3 a ha;rw[e1,qu,e2,qu];show Option.map some (ev G elt ρ1)=_
  rw[e3];rfl
theorem eQ{n:Nat}(h:n≤1000000):items .rng (.tup [.int (n:Int)])=some ((List.range n).map fun (k:Nat)=>D.int k):=by rw[AN h,kH]
theorem eG{xs:List D}:items .seq (.lst xs)=some xs:=id rfl
theorem AO{xs:List D}:items .rev (.lst xs)=some xs.reverse:=id rfl
namespace Pg
abbrev Cell:=Int×Bool×Bool
abbrev dS:=List Cell
abbrev bA:=List dS
abbrev Table:=List bA
noncomputable def bY(c:Cell):D:=.tup [.int c.1,.bl c.2.1,.bl c.2.2]
noncomputable def hE(h:dS):D:=.lst (h.map bY)
noncomputable def sE(s:bA):D:=.lst (s.map hE)
noncomputable def tE(T:Table):D:=.lst (T.map sE)
inductive Side|west|east|north|south deriving DecidableEq
noncomputable def Side.str:Side→Str
 |.west=>"west" | .east=>"east" | .north=>"north" | .south=>"south"
noncomputable def Side.up:Side→Bool
 |.west=>true | .east=>true | .north=>false | .south=>false
noncomputable def Side.near:Side→Bool
 |.west=>true | .east=>false | .north=>true | .south=>false
noncomputable def fX(up:Bool)(c:Cell):Cell:=if up then(c.1,!c.2.1,c.2.2) else(c.1,c.2.1,!c.2.2)
noncomputable def eE(up:Bool)(h:dS):dS:=h.reverse.map (fX up)
noncomputable def dW(up:Bool)(p:bA):bA:=p.map (eE up)
noncomputable def tog(u l:bA):bA:=(List.range (max u.length l.length)).map fun k=>u.getD k []++l.getD k []
noncomputable def bR(mv st:bA)(over:Bool):bA:=tog (if over then mv else st) (if over then st else mv)
noncomputable def cQ(sd:Side)(over:Bool)(c:Nat)(s:bA):bA:=
 if sd.near then bR (dW sd.up (s.take c).reverse) (s.drop c) over else(bR (dW sd.up (s.drop c)) (s.take c).reverse over).reverse
noncomputable def width(T:Table):Nat:=(T.getD 0 []).length
noncomputable def transp(T:Table):Table:=(List.range (width T)).map fun x=>T.map fun s=>s.getD x []
noncomputable def foldT(sd:Side)(over:Bool)(c:Nat)(T:Table):Table:=if sd.up then T.map (cQ sd over c) else transp ((transp T).map (cQ sd over c))
section
variable {G:GS}
noncomputable def cUP:D:=.tup [.str "west",.str "east"]
noncomputable def cLV:D:=.tup [.str "north",.str "south"]
noncomputable def cNR:D:=.tup [.str "west",.str "north"]
theorem AE{a:D}{ys:List D}{b:Bool}(hp:(plain a&&ys.all plain)=true)(hb:(ys.any fun y=>cg y a)=b):aj .isin a (.tup ys)=some (.bl b):=by
 simp only[aj,oIn];rw[if_pos hp,hb]
theorem NL{sd:Side}:aj .isin (.str sd.str) cUP=some (.bl sd.up):=by cases sd<;>exact AE (by decide +kernel) (by decide +kernel)
theorem aHO{sd:Side}:aj .isin (.str sd.str) cLV=some (.bl (!sd.up)):=by cases sd<;>exact AE (by decide +kernel) (by decide +kernel)
theorem aHN{sd:Side}:aj .isin (.str sd.str) cNR=some (.bl sd.near):=by cases sd<;>exact AE (by decide +kernel) (by decide +kernel)
noncomputable def jS:IS:=(.ret false (.ite (.bin .lt (.var 1) (.bcall .len (.cons (.var 0) .nil))) (.ix (.var 0) (.var 1)) (.lst .nil)))
theorem AU{p:bA}{k:Nat}:aO G 2 jS [sE p,.int k]=some (.ok (hE (p.getD k []))):=by
 refine aH (ρ:=[.im (sE p),.im (.int k)]) rfl (aK ?_);have e:ev G (.bin .lt (.var 1) (.bcall .len (.cons (.var 0) .nil))) [.im (sE p),.im (.int k)]=some (.bl (decide ((k:Int)<p.length))):=by
  unfold sE;simp only[zz,yy,aA,aC,og]
 by_cases hk:k<p.length
 ·have h1:(p.map hE)[k]?=some (hE (p.getD k [])):=by rw[oe,o6,oa hk];rfl
  rw[qI,e,qc (by omega)]
  unfold sE;simp only[zz,yy,aA,aC,dM h1]
 ·have h1:p.getD k []=[]:=by rw[o6,List.getElem?_eq_none (by omega)];rfl
  rw[qI,e,oj (by omega),h1]
  simp only[zz,yy,aA,aC];rfl
noncomputable def eS:IS:=(.seq (.iff (.bin .isin (.var 1) (.glo "UPRIGHT_SIDES")) (.ret true (.comp 4 [] [1,2,3] true .rev (.var 0) (.lit (.bl true)) (.tup (.cons (.var 1) (.cons (.not (.tr (.var 2))) (.cons (.var 3) .nil)))))) .nop) (.ret true (.comp 4 [] [1,2,3] true .rev (.var 0) (.lit (.bl true)) (.tup (.cons (.var 1) (.cons (.var 2) (.cons (.not (.tr (.var 3))) .nil)))))))
theorem oZ(hc:G.cst "UPRIGHT_SIDES" = some cUP){h:dS}{sd:Side}:aO G 2 eS [hE h,.str sd.str]=some (.ok (hE (eE sd.up h))):=by
 have et:ev G (.bin .isin (.var 1) (.glo "UPRIGHT_SIDES")) (view [.im (hE h),.im (.str sd.str)])=some (.bl sd.up):=by simp only[zz,yy,aA,aC,hc,NL]
 have er:items .rev (hE h)=some (h.reverse.map bY):=by unfold hE;rw[AO,List.map_reverse]
 cases hs:sd.up with
 |true =>
  refine aH (ρ:=[.im (hE h),.im (.str sd.str)]) rfl (fC (iK (et.trans (by rw[hs])) (aK (d:=hE (eE true h)) ?_)) (fun _ z=>by cases z))
  have e:=dC (G:=G) (ρ:=[.im (hE h),.im (.str sd.str)]) (n:=4) (fr:=[]) (tg:=[1,2,3]) (tp:=true) (k:=.rev) (src:=.var 0) (test:=.lit (.bl true)) (elt:=.tup (.cons (.var 1) (.cons (.not (.tr (.var 2))) (.cons (.var 3) .nil)))) (L:=h.reverse) bY (fun c=>bY (fX true c)) (by simp only[zz,yy,aA,aC]) er (fun c _=>⟨[.un,.im (.int c.1),.im (.bl c.2.1),.im (.bl c.2.2)],rfl,by simp only[zz,yy,aA,aC],by simp only[zz,yy,aA,aC,b8];rfl⟩)
  rw[e];unfold hE eE;rw[rh];rfl
 |false =>
  refine aH (ρ:=[.im (hE h),.im (.str sd.str)]) rfl (aF (bJ (et.trans (by rw[hs])) aM) (aK ?_))
  have e:=dC (G:=G) (ρ:=[.im (hE h),.im (.str sd.str)]) (n:=4) (fr:=[]) (tg:=[1,2,3]) (tp:=true) (k:=.rev) (src:=.var 0) (test:=.lit (.bl true)) (elt:=.tup (.cons (.var 1) (.cons (.var 2) (.cons (.not (.tr (.var 3))) .nil)))) (L:=h.reverse) bY (fun c=>bY (fX false c)) (by simp only[zz,yy,aA,aC]) er (fun c _=>⟨[.un,.im (.int c.1),.im (.bl c.2.1),.im (.bl c.2.2)],rfl,by simp only[zz,yy,aA,aC],by simp only[zz,yy,aA,aC,b8];rfl⟩)
  rw[e];unfold hE eE;rw[rh];rfl
noncomputable def eR:IS:=(.ret true (.comp 3 [(2,1)] [1] false .seq (.var 0) (.lit (.bl true)) (.call "turned_heap" (.cons (.var 1) (.cons (.var 2) .nil)))))
theorem oY(ht:∀(h:dS) (sd:Side),G.fn "turned_heap" [hE h,.str sd.str]=some (.ok (hE (eE sd.up h)))){p:bA}{sd:Side}:aO G 2 eR [sE p,.str sd.str]=some (.ok (sE (dW sd.up p))):=by
 refine aH (ρ:=[.im (sE p),.im (.str sd.str)]) rfl (aK ?_);refine(dC (L:=p) hE (fun h=>hE (eE sd.up h)) (s:=sE p) (by simp only[zz,yy,aA,aC]) (by unfold sE;exact eG) (fun h _=>⟨[.un,.im (hE h),.im (.str sd.str)],rfl,by simp only[zz,yy,aA,aC],by simp only[zz,yy,aA,aC,ht]⟩)).trans ?_
 unfold sE dW;rw[rh];rfl
theorem aLd{a b:Nat}:bf .max [.int (a:Int),.int (b:Int)]=some (.int ((max a b:Nat):Int)):=by
 simp only[bf,OD]
 by_cases h:(b:Int) > a
 ·rw[if_pos h];rw[Nat.max_eq_right (by omega)]
 ·rw[if_neg h];rw[Nat.max_eq_left (by omega)]
theorem aLx{a b:dS}(h:a.length+b.length≤1000000):aj .add (hE a) (hE b)=some (hE (a++b)):=by
 unfold hE;simp only[aj,VJ];rw[if_pos (by simp only[og];exact h),qz]
noncomputable def dE:IS:=(.seq (.set 3 (.ite (.tr (.var 2)) (.var 0) (.var 1))) (.seq (.set 4 (.ite (.tr (.var 2)) (.var 1) (.var 0))) (.seq (.set 5 (.bcall .max (.cons (.bcall .len (.cons (.var 3) .nil)) (.cons (.bcall .len (.cons (.var 4) .nil)) .nil)))) (.ret true (.comp 4 [(2,4),(3,3)] [1] false .rng (.tup (.cons (.var 5) .nil)) (.lit (.bl true)) (.bin .add (.call "heap_at" (.cons (.var 3) (.cons (.var 1) .nil))) (.call "heap_at" (.cons (.var 2) (.cons (.var 1) .nil)))))))))
def Few(b:Nat)(p:bA):Prop:=∀h∈p,h.length≤b
theorem Few.at_{b:Nat}{p:bA}(h:Few b p)(k:Nat):(p.getD k []).length≤b:=by
 rw[o6];cases e:p[k]? with
 |none=>exact rz _
 |some x=>exact h x (o8 e)
theorem mQ(hh:∀(p:bA) (k:Nat),G.fn "heap_at" [sE p,.int k]=some (.ok (hE (p.getD k [])))){mv st:bA}{over:Bool}(l1:mv.length≤1000)(l2:st.length≤1000)(f1:Few 400000 mv)(f2:Few 400000 st):aO G 6 dE [sE mv,sE st,.bl over]=some (.ok (sE (bR mv st over))):=by
 have key:∀u l:bA,u.length≤1000→l.length≤1000→Few 400000 u→Few 400000 l→∀s0 s1 s2,ex G (.seq (.set 5 (.bcall .max (.cons (.bcall .len (.cons (.var 3) .nil)) (.cons (.bcall .len (.cons (.var 4) .nil)) .nil)))) (.ret true (.comp 4 [(2,4),(3,3)] [1] false .rng (.tup (.cons (.var 5) .nil)) (.lit (.bl true)) (.bin .add (.call "heap_at" (.cons (.var 3) (.cons (.var 1) .nil))) (.call "heap_at" (.cons (.var 2) (.cons (.var 1) .nil)))))))
   [s0,s1,s2,.im (sE u),.im (sE l),.un]=some (.rt (sE (tog u l))):=fun u l a1 a2 b1 b2 s0 s1 s2=>by
  refine aF (aP (d:=.int ((max u.length l.length:Nat):Int)) (by unfold sE;simp only[zz,yy,aA,aC,og,aLd])) (aK ?_)
  show ev G _ [s0,s1,s2,.im (sE u),.im (sE l),.im (.int ((max u.length l.length:Nat):Int))]=_
  refine(dC (L:=List.range (max u.length l.length)) (fun k=>.int (k:Nat)) (fun k=>hE (u.getD k []++l.getD k [])) (s:=.tup [.int ((max u.length l.length:Nat):Int)]) (by simp only[zz,yy,aA,aC]) (eQ (by omega)) (fun k _=>⟨[.un,.im (.int k),.im (sE l),.im (sE u)],rfl,by simp only[zz,yy,aA,aC],?_⟩)).trans ?_
  ·have:=b1.at_ k
   have:=b2.at_ k
   simp only[zz,yy,aA,aC,hh,aLx (show (u.getD k []).length+(l.getD k []).length≤1000000 by omega)]
  ·unfold tog sE;rw[rh];rfl
 cases over with
 |true=>exact aH (ρ:=[.im (sE mv),.im (sE st),.im (.bl true),.un,.un,.un]) rfl (aF (aP (d:=sE mv) (by simp only[zz,yy,aA,aC,b8])) (aF (aP (d:=sE st) (by simp only[List.set];simp only[zz,yy,aA,aC,b8])) (key mv st l1 l2 f1 f2 _ _ _)))
 |false=>exact aH (ρ:=[.im (sE mv),.im (sE st),.im (.bl false),.un,.un,.un]) rfl (aF (aP (d:=sE st) (by simp only[zz,yy,aA,aC,b8])) (aF (aP (d:=sE mv) (by simp only[List.set];simp only[zz,yy,aA,aC,b8])) (key st mv l2 l1 f2 f1 _ _ _)))
end
theorem OO{α:Type}{xs:List α}{c:Nat}:cut xs none (some (c:Int))=xs.take c:=by
 simp only[cut,sIx];rw[if_neg (by omega)]
 simp only[List.drop_zero,Nat.sub_zero,toNat_natCast]
 by_cases h:c≤xs.length
 ·rw[min_eq_left h]
 ·rw[Nat.min_eq_right (by omega),List.take_of_length_le (by omega),List.take_of_length_le (by omega)]
theorem jH{α:Type}{xs:List α}{c:Nat}:cut xs (some (c:Int)) none=xs.drop c:=by
 simp only[cut,sIx];rw[if_neg (by omega)]
 simp only[toNat_natCast]
 by_cases h:c≤xs.length
 ·rw[min_eq_left h,List.take_of_length_le (by rw[sg];exact oh _)]
 ·rw[Nat.min_eq_right (by omega),List.drop_of_length_le (by omega),List.drop_of_length_le (by omega),List.take_nil]
theorem Few.sub{b:Nat}{p q:bA}(h:Few b p)(s:∀x∈q,x∈p):Few b q:=fun x hx=>h x (s x hx)
theorem Few.turn{b:Nat}{p:bA}{u:Bool}(h:Few b p):Few b (dW u p):=by
 intro x hx;unfold dW at hx;obtain⟨y,hy,rfl⟩:=qe.mp hx;unfold eE;rw[og,se];exact h y hy
theorem sX{u l:bA}:(tog u l).length=max u.length l.length:=by unfold tog;simp
theorem hJ{u l:bA}{over:Bool}:(bR u l over).length=max u.length l.length:=by
 unfold bR;cases over with
 |true=>exact sX
 |false=>rw[Nat.max_comm];exact sX
theorem gQ{u:Bool}{p:bA}:(dW u p).length=p.length:=by unfold dW;simp
theorem IQ{sd:Side}{over:Bool}{c:Nat}{s:bA}(h:c≤s.length):(cQ sd over c s).length=max c (s.length-c):=by
 unfold cQ;split
 ·rw[hJ,gQ,se,qi,sg,min_eq_left h]
 ·rw[se,hJ,gQ,se,qi,sg,min_eq_left h,Nat.max_comm]
section
variable {G:GS}
noncomputable def eD:IS:=(.seq (.set 4 (.walk .rev (.sl (.var 0) false (.lit .non) true (.var 3)))) (.seq (.set 5 (.sl (.var 0) true (.var 3) false (.lit .non))) (.seq (.iff (.bin .isin (.var 1) (.glo "NEAR_SIDES")) (.ret false (.call "laid_together" (.cons (.call "turned_part" (.cons (.var 4) (.cons (.var 1) .nil))) (.cons (.var 5) (.cons (.var 2) .nil))))) .nop) (.seq (.set 6 (.call "laid_together" (.cons (.call "turned_part" (.cons (.var 5) (.cons (.var 1) .nil))) (.cons (.var 4) (.cons (.var 2) .nil))))) (.ret true (.walk .rev (.var 6)))))))
theorem nU(hc:G.cst "NEAR_SIDES" = some cNR)(ht:∀(p:bA) (sd:Side),G.fn "turned_part" [sE p,.str sd.str]=some (.ok (sE (dW sd.up p))))
  (hl:∀(mv st:bA) (over:Bool),mv.length≤1000→st.length≤1000→Few 400000 mv→Few 400000 st→G.fn "laid_together" [sE mv,sE st,.bl over]=some (.ok (sE (bR mv st over)))) {s:bA} {sd:Side} {over:Bool} {c:Nat} (ls:s.length≤1000) (hf:Few 400000 s) :
  aO G 7 eD [sE s,.str sd.str,.bl over,.int c]=some (.ok (sE (cQ sd over c s))):=by
 have a1:Few 400000 (s.take c).reverse:=hf.sub fun x hx=>List.mem_of_mem_take (mem_reverse.mp hx)
 have a2:Few 400000 (s.drop c):=hf.sub fun x hx=>List.mem_of_mem_drop hx
 have l1:(s.take c).reverse.length≤1000:=by rw[se,qi];omega
 have l2:(s.drop c).length≤1000:=by rw[sg];omega
 have e1:ev G (.walk .rev (.sl (.var 0) false (.lit .non) true (.var 3))) [.im (sE s),.im (.str sd.str),.im (.bl over),.im (.int c),.un,.un,.un]=some (sE (s.take c).reverse):=by
  unfold sE;simp only[zz,yy,aA,aC,part,intOf];simp only[oo,if_false,if_true];simp only[zz,yy,aA,aC,OO,AO];rw[←List.map_take,←List.map_reverse]
 have e2:ev G (.sl (.var 0) true (.var 3) false (.lit .non)) [.im (sE s),.im (.str sd.str),.im (.bl over),.im (.int c),.im (sE (s.take c).reverse),.un,.un]=some (sE (s.drop c)):=by
  unfold sE;simp only[zz,yy,aA,aC,part,intOf];simp only[oo,if_false,if_true];simp only[zz,yy,aA,aC,jH];rw[←map_drop]
 have et:ev G (.bin .isin (.var 1) (.glo "NEAR_SIDES")) (view [.im (sE s),.im (.str sd.str),.im (.bl over),.im (.int c),.im (sE (s.take c).reverse),.im (sE (s.drop c)),.un])=some (.bl sd.near):=by simp only[zz,yy,aA,aC,hc,aHN]
 refine aH (ρ:=[.im (sE s),.im (.str sd.str),.im (.bl over),.im (.int c),.un,.un,.un]) rfl (aF (aP e1) (aF (aP e2) ?_));show ex G _ [.im (sE s),.im (.str sd.str),.im (.bl over),.im (.int c),.im (sE (s.take c).reverse),.im (sE (s.drop c)),.un]=_
 cases hn:sd.near with
 |true =>
  refine fC (iK (et.trans (by rw[hn])) (aK ?_)) (fun _ z=>by cases z)
  unfold cQ;rw[if_pos hn];simp only[zz,yy,aA,aC,ht,hl (dW sd.up (s.take c).reverse) (s.drop c) over (by rw[gQ];exact l1) l2 a1.turn a2]
 |false =>
  refine aF (bJ (et.trans (by rw[hn])) aM) (aF (aP (d:=sE (bR (dW sd.up (s.drop c)) (s.take c).reverse over)) ?_) (aK ?_))
  ·simp only[zz,yy,aA,aC,ht,hl (dW sd.up (s.drop c)) (s.take c).reverse over (by rw[gQ];exact l2) l1 a2.turn a1]
  ·show ev G _ [.im (sE s),.im (.str sd.str),.im (.bl over),.im (.int c),.im (sE (s.take c).reverse),.im (sE (s.drop c)),.im (sE (bR (dW sd.up (s.drop c)) (s.take c).reverse over))]=_
   unfold cQ;rw[if_neg (by rw[hn];decide)]
   unfold sE;simp only[zz,yy,aA,aC,AO];rw[←List.map_reverse]
noncomputable def gG:IS:=(.ret true (.comp 3 [(2,1)] [1] false .seq (.var 0) (.lit (.bl true)) (.ix (.var 1) (.var 2))))
theorem vZ{T:Table}{x:Nat}(h:∀s∈T,x<s.length):aO G 2 gG [tE T,.int x]=some (.ok (sE (T.map fun s=>s.getD x []))):=by
 refine aH (ρ:=[.im (tE T),.im (.int x)]) rfl (aK ?_);refine(dC (L:=T) sE (fun s=>hE (s.getD x [])) (s:=tE T) (by simp only[zz,yy,aA,aC]) (by unfold tE;exact eG) (fun s hs=>⟨[.un,.im (sE s),.im (.int x)],rfl,by simp only[zz,yy,aA,aC],?_⟩)).trans ?_
 ·have h1:(s.map hE)[x]?=some (hE (s.getD x [])):=by rw[oe,o6,oa (h s hs)];rfl
  unfold sE;simp only[zz,yy,aA,aC,dM h1]
 ·unfold sE;rw[rh];rfl
structure Rect (T:Table) (w h:Nat):Prop where
 len:T.length=h
 row:∀s∈T,s.length=w
 h1:1≤h
 w1:1≤w
theorem Rect.width{T:Table}{w h:Nat}(r:Rect T w h):Pg.width T=w:=by
 obtain⟨len,row,h1,w1⟩:=r;unfold Pg.width;rw[o6,oa (by omega)]
 exact row _ (sh _)
theorem Rect.transp{T:Table}{w h:Nat}(r:Rect T w h):Rect (transp T) h w:=by
 refine⟨?_,fun s hs=>?_,r.w1,r.h1⟩
 ·unfold Pg.transp;rw[og,p5,r.width]
 ·unfold Pg.transp at hs;obtain⟨x,_,rfl⟩:=qe.mp hs;rw[og,r.len]
noncomputable def fE:IS:=(.ret true (.comp 3 [(2,0)] [1] false .rng (.tup (.cons (.bcall .len (.cons (.ix (.var 0) (.lit (.int 0))) .nil)) .nil)) (.lit (.bl true)) (.call "column_of" (.cons (.var 2) (.cons (.var 1) .nil)))))
theorem qW(hc:∀(T:Table) (x:Nat),(∀s∈T,x<s.length)→G.fn "column_of" [tE T,.int x]=some (.ok (sE (T.map fun s=>s.getD x [])))){T:Table}{w h:Nat}(r:Rect T w h)(hw:w≤1000):aO G 1 fE [tE T]=some (.ok (tE (transp T))):=by
 refine aH (ρ:=[.im (tE T)]) rfl (aK ?_);have h0:(T.map sE)[0]?=some (sE (T.getD 0 [])):=by
  have:=r.len;have:=r.h1
  rw[oe,o6,oa (by omega)];rfl
 have e0:atI (T.map sE) 0=some (sE (T.getD 0 [])):=dM (k:=0) h0
 refine(dC (L:=List.range (width T)) (fun k=>.int (k:Nat)) (fun x=>sE (T.map fun s=>s.getD x [])) (s:=.tup [.int (width T:Nat)]) ?_ (eQ (by rw[r.width];omega)) (fun x hx=>⟨[.un,.im (.int x),.im (tE T)],rfl,by simp only[zz,yy,aA,aC],?_⟩)).trans ?_
 ·unfold tE;simp only[zz,yy,aA,aC,e0];unfold sE;simp only[zz,yy,aA,aC,og];rfl
 ·have ja:x<w:=by rw[←r.width];exact rq.mp hx
  simp only[zz,yy,aA,aC,hc T x (fun s hs=>by rw[r.row s hs];exact ja)]
 ·unfold tE transp;rw[rh];rfl
def rF(b:Nat)(T:Table):Prop:=∀s∈T,Few b s
theorem rF.transp{b:Nat}{T:Table}(h:rF b T):rF b (transp T):=by
 intro s hs;unfold Pg.transp at hs;obtain⟨x,_,rfl⟩:=qe.mp hs;intro y hy;obtain⟨s,hs,rfl⟩:=qe.mp hy;exact(h s hs).at_ x
theorem Rect.fold{T:Table}{w h:Nat}{sd:Side}{over:Bool}{c:Nat}(r:Rect T w h)(h1:1≤c)(h2:c<w):Rect (T.map (cQ sd over c)) (max c (w-c)) h:=by
 refine⟨by rw[og,r.len],fun s hs=>?_,r.h1,by omega⟩
 obtain⟨s',bg,rfl⟩:=qe.mp hs;rw[IQ (by rw[r.row s' bg];omega),r.row s' bg]
theorem Rect.foldT{T:Table}{w h:Nat}{sd:Side}{over:Bool}{c:Nat}(r:Rect T w h)(h1:1≤c)(h2:c<if sd.up then w else h):Rect (foldT sd over c T) (if sd.up then max c (w-c) else w) (if sd.up then h else max c (h-c)):=by
 unfold Pg.foldT;cases hs:sd.up with
 |true=>rw[hs]at h2;exact r.fold h1 h2
 |false=>rw[hs]at h2;exact(r.transp.fold h1 h2).transp
noncomputable def eC:IS:=(.seq (.iff (.bin .isin (.var 1) (.glo "UPRIGHT_SIDES")) (.ret true (.comp 5 [(2,3),(3,2),(4,1)] [1] false .seq (.var 0) (.lit (.bl true)) (.call "folded_strip" (.cons (.var 1) (.cons (.var 4) (.cons (.var 3) (.cons (.var 2) .nil))))))) .nop) (.seq (.set 4 (.comp 5 [(2,3),(3,2),(4,1)] [1] false .seq (.call "transposed" (.cons (.var 0) .nil)) (.lit (.bl true)) (.call "folded_strip" (.cons (.var 1) (.cons (.var 4) (.cons (.var 3) (.cons (.var 2) .nil))))))) (.ret false (.call "transposed" (.cons (.var 4) .nil)))))
theorem nT(hc:G.cst "UPRIGHT_SIDES" = some cUP)(ht:∀(T:Table) (w h:Nat),Rect T w h→w≤1000→G.fn "transposed" [tE T]=some (.ok (tE (transp T))))
  (hs:∀(s:bA) (sd:Side) (over:Bool) (c:Nat),s.length≤1000→Few 400000 s→G.fn "folded_strip" [sE s,.str sd.str,.bl over,.int c]=some (.ok (sE (cQ sd over c s)))) {T:Table} {w h:Nat} {sd:Side} {over:Bool} {c:Nat} (r:Rect T w h) (hw:w≤1000) (hh:h≤1000) (hf:rF 400000 T) (h1:1≤c) (h2:c<if sd.up then w else h) :
  aO G 5 eC [tE T,.str sd.str,.bl over,.int c]=some (.ok (tE (foldT sd over c T))):=by
 have et:ev G (.bin .isin (.var 1) (.glo "UPRIGHT_SIDES")) (view [.im (tE T),.im (.str sd.str),.im (.bl over),.im (.int c),.un])=some (.bl sd.up):=by simp only[zz,yy,aA,aC,hc,NL]
 cases hu:sd.up with
 |true =>
  refine aH (ρ:=[.im (tE T),.im (.str sd.str),.im (.bl over),.im (.int c),.un]) rfl (fC (iK (et.trans (by rw[hu])) (aK ?_)) (fun _ z=>by cases z))
  refine(dC (L:=T) sE (fun s=>sE (cQ sd over c s)) (s:=tE T) (by simp only[zz,yy,aA,aC]) (by unfold tE;exact eG) (fun s bg=>⟨[.un,.im (sE s),.im (.int c),.im (.bl over),.im (.str sd.str)],rfl,by simp only[zz,yy,aA,aC],?_⟩)).trans ?_
  ·simp only[zz,yy,aA,aC,hs s sd over c (by rw[r.row s bg];exact hw) (hf s bg)]
  ·unfold tE foldT;rw[if_pos hu,rh];rfl
 |false =>
  rw[hu]at h2;have h2:c<h:=h2
  refine aH (ρ:=[.im (tE T),.im (.str sd.str),.im (.bl over),.im (.int c),.un]) rfl (aF (bJ (et.trans (by rw[hu])) aM) (aF (aP (d:=tE ((transp T).map (cQ sd over c))) ?_) (aK ?_)))
  ·refine(dC (L:=transp T) sE (fun s=>sE (cQ sd over c s)) (s:=tE (transp T)) (by simp only[zz,yy,aA,aC,ht T w h r hw]) (by unfold tE;exact eG) (fun s bg=>⟨[.un,.im (sE s),.im (.int c),.im (.bl over),.im (.str sd.str)],rfl,by simp only[zz,yy,aA,aC],?_⟩)).trans ?_
   ·simp only[zz,yy,aA,aC,hs s sd over c (by rw[r.transp.row s bg];exact hh) (hf.transp s bg)]
   ·unfold tE;rw[rh];rfl
  ·show ev G _ [.im (tE T),.im (.str sd.str),.im (.bl over),.im (.int c),.im (tE ((transp T).map (cQ sd over c)))]=_
   unfold foldT;rw[if_neg (by rw[hu];decide)]
   simp only[zz,yy,aA,aC,ht ((transp T).map (cQ sd over c)) (max c (h-c)) w (r.transp.fold h1 h2) (by omega)]
end
noncomputable def bP(c r w h:Nat)(T:Table)(F S:List D):D:=cG c r w h (T.map sE) F S
noncomputable def gH(c r:Nat):Table:=(List.range r).map fun y=>(List.range c).map fun x=>[(((y*c+x:Nat):Int),false,false)]
theorem wL{c r:Nat}:fQ c r=(gH c r).map sE:=by
 unfold fQ gH nQ;rw[rh]
 congr 1
 funext y
 show _=D.lst (((List.range c).map _).map hE)
 rw[rh];rfl
theorem IT{c r:Nat}(hc:1≤c)(hr:1≤r):Rect (gH c r) c r:=by
 refine⟨by unfold gH;simp,fun s hs=>?_,hr,hc⟩
 unfold gH at hs;obtain⟨y,_,rfl⟩:=qe.mp hs;simp
section
variable {G:GS}{c r w h:Nat}{T:Table}{F S:List D}
noncomputable def cY:IS:=(.iff (.tr (.fld (.var 0) "severed")) (.rse "Severed") .nop)
theorem kX(hf:G.fl "Pile" = de):aO G 1 cY [bP c r w h T F []]=some (.ok .non):=by
 have e0:ev G (.var 0) (view [.im (bP c r w h T F [])])=some (cG c r w h (T.map sE) F []):=by simp only[zz,yy,aA,aC];rfl
 refine SI (ρ:=[.im (bP c r w h T F [])]) (ρ':=[.im (bP c r w h T F [])]) rfl (bJ ?_ aM);rw[iR,rR hf e0];rfl
noncomputable def fG:IS:=(.seq (.iff (.bin .isin (.var 1) (.glo "UPRIGHT_SIDES")) (.ret false (.chain .le .lt (.lit (.int 1)) (.var 2) (.fld (.var 0) "wide"))) .nop) (.seq (.iff (.bin .isin (.var 1) (.glo "LEVEL_SIDES")) (.ret false (.chain .le .lt (.lit (.int 1)) (.var 2) (.fld (.var 0) "high"))) .nop) (.ret false (.lit (.bl false)))))
theorem yX{ρ:List Sl}{a:IE}{i j:Int}(h1:slot ρ 2=some (.int i))(h2:ev G a ρ=some (.int j)):ev G (.chain .le .lt (.lit (.int 1)) (.var 2) a) ρ=some (.bl (decide (1≤i)&&decide (i<j))):=by
 rw[lN,OH,h1];simp only[zz,yy,aA,aC];cases hb:decide (1≤i) with
 |true=>rw[h2];simp only[zz,yy,aA,aC];rfl
 |false=>rfl
theorem rA(hf:G.fl "Pile" = de)(h1:G.cst "UPRIGHT_SIDES" = some cUP)(h2:G.cst "LEVEL_SIDES" = some cLV){sd:Side}{i:Int}:aO G 3 fG [bP c r w h T F S,.str sd.str,.int i]=some (.ok (.bl (decide (1≤i)&&decide (i<((if sd.up then w else h:Nat):Int))))):=by
 have e0:ev G (.var 0) [.im (bP c r w h T F S),.im (.str sd.str),.im (.int i)]=some (cG c r w h (T.map sE) F S):=by simp only[zz,yy,aA,aC];rfl
 have et:ev G (.bin .isin (.var 1) (.glo "UPRIGHT_SIDES")) (view [.im (bP c r w h T F S),.im (.str sd.str),.im (.int i)])=some (.bl sd.up):=by simp only[zz,yy,aA,aC,h1,NL]
 have el:ev G (.bin .isin (.var 1) (.glo "LEVEL_SIDES")) (view [.im (bP c r w h T F S),.im (.str sd.str),.im (.int i)])=some (.bl (!sd.up)):=by simp only[zz,yy,aA,aC,h2,aHO]
 cases hu:sd.up with
 |true=>exact aH (ρ:=[.im (bP c r w h T F S),.im (.str sd.str),.im (.int i)]) rfl (fC (iK (et.trans (by rw[hu])) (aK (yX (by simp only[zz,yy,aA,aC]) (mI hf e0)))) (fun _ z=>by cases z))
 |false=>exact aH (ρ:=[.im (bP c r w h T F S),.im (.str sd.str),.im (.int i)]) rfl (aF (bJ (et.trans (by rw[hu])) aM) (fC (iK (el.trans (by rw[hu];rfl)) (aK (yX (by simp only[zz,yy,aA,aC]) (mJ hf e0)))) (fun _ z=>by cases z)))
noncomputable def fB(sd:Side)(over:Bool)(k:Nat):D:=.tup [.str sd.str,.bl over,.int k]
noncomputable def lH:IS:=(.seq (.drop (.call "refuse_severed" (.cons (.var 0) .nil))) (.seq (.iff (.not (.tr (.call "has_crease" (.cons (.var 0) (.cons (.var 1) (.cons (.var 3) .nil)))))) (.rse "NoFold") .nop) (.seq (.set 4 (.call "folded_table" (.cons (.fld (.var 0) "table") (.cons (.var 1) (.cons (.var 2) (.cons (.var 3) .nil)))))) (.seq (.set 5 (.bin .add (.fld (.var 0) "folds") (.tup (.cons (.tup (.cons (.var 1) (.cons (.var 2) (.cons (.var 3) .nil)))) .nil)))) (.ret false (.mk "Pile" (.cons (.fld (.var 0) "columns") (.cons (.fld (.var 0) "rows") (.cons (.var 4) (.cons (.var 5) (.cons (.fld (.var 0) "severed") .nil)))))))))))
theorem aLw{a b:List D}(h:a.length+b.length≤1000000):aj .add (.tup a) (.tup b)=some (.tup (a++b)):=by
 simp only[aj,VJ];rw[if_pos (by unfold big;exact h)]
theorem XO{ρ:List Sl}{e:IE}{d:D}(h:ev G e (view ρ)=some d):ex G (.drop e) ρ=some (.nx ρ):=by
 show (match ev G e (view ρ) with|some _=>some (Out.nx ρ)|none=>_)=_
 rw[h]
theorem IM(hf:G.fl "Pile" = de)(hsv:∀(c r w h:Nat) (T:Table) (F:List D),G.fn "refuse_severed" [bP c r w h T F []]=some (.ok .non))
  (cH:∀(c r w h:Nat) (T:Table) (F S:List D) (sd:Side) (i:Int),G.fn "has_crease" [bP c r w h T F S,.str sd.str,.int i]=some (.ok (.bl (decide (1≤i)&&decide (i<((if sd.up then w else h:Nat):Int))))))
  (hft:∀(T:Table) (w h:Nat) (sd:Side) (over:Bool) (k:Nat),Rect T w h→w≤1000→h≤1000→rF 400000 T→1≤k→(k<if sd.up then w else h)→G.fn "folded_table" [tE T,.str sd.str,.bl over,.int k]=some (.ok (tE (foldT sd over k T))))
  (hmo:∀(c r:Int) (T row:List D) (F S:List D),T[0]?=some (.lst row)→G.mo "Pile" [.int c,.int r,.lst T,.tup F,.tup S]=some (.ok (cG c r row.length T.length T F S)))
  {sd:Side} {over:Bool} {k:Nat} (R:Rect T w h) (hw:w≤1000) (hh:h≤1000) (hfew:rF 400000 T) (h1:1≤k) (h2:k<if sd.up then w else h) (hF:F.length≤1000) :
  aO G 6 lH [bP c r w h T F [],.str sd.str,.bl over,.int k]=some (.ok (bP c r (if sd.up then max k (w-k) else w) (if sd.up then h else max k (h-k)) (foldT sd over k T) (F++[fB sd over k]) [])):=by
 have R':=R.foldT (over:=over) h1 h2
 have e0:∀s4 s5,ev G (.var 0) [.im (bP c r w h T F []),.im (.str sd.str),.im (.bl over),.im (.int k),s4,s5]=some (cG c r w h (T.map sE) F []):=fun _ _=>by simp only[zz,yy,aA,aC];rfl
 have ht:=hft T w h sd over k R hw hh hfew h1 h2
 unfold tE at ht;have em:=hmo c r ((foldT sd over k T).map sE) (((foldT sd over k T).getD 0 []).map hE) (F++[fB sd over k]) [] (by
  have:=R'.len;have:=R'.h1
  rw[oe,o6,oa (by omega)];rfl)
 rw[og,og,R'.len,show ((foldT sd over k T).getD 0 []).length=_ from R'.width]at em
 refine aH (ρ:=[.im (bP c r w h T F []),.im (.str sd.str),.im (.bl over),.im (.int k),.un,.un]) rfl ?_;refine aF (XO (d:=.non) (by simp only[zz,yy,aA,aC,hsv])) (aF (bJ ?_ aM) (aF (aP (d:=.lst ((foldT sd over k T).map sE)) ?_) (aF (aP (d:=.tup (F++[fB sd over k])) ?_) (aK ?_))))
 ·have hb:(decide ((1:Int)≤(k:Int))&&decide ((k:Int)<((if sd.up then w else h:Nat):Int)))=true:=by
   rw[ow,p4,p4];exact⟨by omega,by exact_mod_cast h2⟩
  simp only[zz,yy,aA,aC,cH,hb,b8,pD]
 ·rw[aW,aJ,CN hf (e0 _ _)];simp only[zz,yy,aA,aC,ht]
 ·show ev G _ [.im (bP c r w h T F []),.im (.str sd.str),.im (.bl over),.im (.int k),.im (.lst ((foldT sd over k T).map sE)),.un]=_
  rw[aU,UQ hf (e0 _ _)];simp only[zz,yy,aA,aC,aLw (show F.length + [D.tup [.str sd.str,.bl over,.int k]].length≤1000000 by simp only[qy,List.length_nil];omega)]
  rfl
 ·show ev G _ [.im (bP c r w h T F []),.im (.str sd.str),.im (.bl over),.im (.int k),.im (.lst ((foldT sd over k T).map sE)),.im (.tup (F++[fB sd over k]))]=_
  rw[yL,aJ,mK hf (e0 _ _),aJ,AB hf (e0 _ _)];simp only[zz,yy,aA,aC,rR hf (e0 _ _),em];rfl
noncomputable def gX:IS:=(.seq (.set 3 (.or (.bin .eq (.var 1) (.lit (.int 1))) (.and (.bin .gt (.var 2) (.lit (.int 1))) (.bin .eq (.bin .mod (.var 0) (.lit (.int 2))) (.lit (.int 1)))))) (.seq (.set 4 (.ite (.tr (.var 3)) (.var 2) (.var 1))) (.seq (.set 5 (.ite (.tr (.var 3)) (.lst (.cons (.lit (.str "north")) (.cons (.lit (.str "south")) .nil))) (.lst (.cons (.lit (.str "west")) (.cons (.lit (.str "east")) .nil))))) (.ret false (.tup (.cons (.ix (.var 5) (.bin .mod (.bin .fdiv (.var 0) (.lit (.int 2))) (.lit (.int 2)))) (.cons (.bin .eq (.bin .mod (.bin .fdiv (.var 0) (.lit (.int 4))) (.lit (.int 2))) (.lit (.int 1))) (.cons (.bin .add (.lit (.int 1)) (.bin .mod (.bin .fdiv (.var 0) (.lit (.int 8))) (.bin .sub (.var 4) (.lit (.int 1))))) .nil))))))))
theorem mod2(i:Int):i % 2=0∨i % 2=1:=by omega
theorem AY{cell:Int}(hw:1≤w)(hh:1≤h)(hwh:1<w*h):∃(sd:Side) (over:Bool) (k:Nat),1≤k∧(k<if sd.up then w else h)∧aO G 6 gX [.int cell,.int w,.int h]=some (.ok (fB sd over k)):=by
 have m2:∀i:Int,aj .mod (.int i) (.int 2)=some (.int (i % 2)):=fun i=>CO (by decide)
 have d2:∀i:Int,aj .fdiv (.int i) (.int 2)=some (.int (i / 2)):=fun i=>rS (by decide) (by decide)
 have d4:∀i:Int,aj .fdiv (.int i) (.int 4)=some (.int (i / 4)):=fun i=>rS (by decide) (by decide)
 have d8:∀i:Int,aj .fdiv (.int i) (.int 8)=some (.int (i / 8)):=fun i=>rS (by decide) (by decide)
 have e3:ev G (.or (.bin .eq (.var 1) (.lit (.int 1))) (.and (.bin .gt (.var 2) (.lit (.int 1))) (.bin .eq (.bin .mod (.var 0) (.lit (.int 2))) (.lit (.int 1))))) [.im (.int cell),.im (.int w),.im (.int h),.un,.un,.un]=some (.bl (((w:Int) == 1) || (decide (1<(h:Int))&&(cell % 2 == 1)))):=
  cX (by simp only[zz,yy,aA,aC]) fun _=>gJ (by simp only[zz,yy,aA,aC]) fun _=>by simp only[zz,yy,aA,aC,m2]
 have s01:∀{a b:D},atI [a,b] 0=some a:=fun {a b}=>dM (k:=0) rfl
 have cb:∀{a b:D},atI [a,b] 1=some b:=fun {a b}=>dM (k:=1) rfl
 have fin:∀(lv:Bool) (ext:Nat) (a b:Side),(((w:Int) == 1) || (decide (1<(h:Int))&&(cell % 2 == 1)))=lv→ext=(if lv then h else w)→2≤ext→(a=if lv then .north else .west)→(b=if lv then .south else .east) →
   ∃(sd:Side) (over:Bool) (k:Nat),1≤k∧(k<if sd.up then w else h)∧aO G 6 gX [.int cell,.int w,.int h]=some (.ok (fB sd over k)):=by
  intro lv ext a b h1 h2 h3 ha hb;have mx:aj .mod (.int (cell / 8)) (.int ((ext:Int)-1))=some (.int (cell / 8 % ((ext:Int)-1))):=CO (by omega)
  have r0:=Int.emod_nonneg (cell / 8) (show ((ext:Int)-1)≠0 by omega)
  have r1:=Int.emod_lt_of_pos (cell / 8) (show (0:Int)<(ext:Int)-1 by omega)
  have hk:(((1+cell / 8 % ((ext:Int)-1)).toNat:Nat):Int)=1+cell / 8 % ((ext:Int)-1):=by omega
  have up_a:(if a.up then w else h)=ext:=by subst ha h2;cases lv<;>rfl
  have up_b:(if b.up then w else h)=ext:=by subst hb h2;cases lv<;>rfl
  have e4:ev G (.ite (.tr (.var 3)) (.var 2) (.var 1)) [.im (.int cell),.im (.int w),.im (.int h),.im (.bl lv),.un,.un]=some (.int ext):=by subst h2;cases lv<;>simp only[zz,yy,aA,aC,b8]<;>rfl
  have e5:ev G (.ite (.tr (.var 3)) (.lst (.cons (.lit (.str "north")) (.cons (.lit (.str "south")) .nil))) (.lst (.cons (.lit (.str "west")) (.cons (.lit (.str "east")) .nil)))) [.im (.int cell),.im (.int w),.im (.int h),.im (.bl lv),.im (.int ext),.un]=some (.lst [.str a.str,.str b.str]):=by subst ha hb;cases lv<;>simp only[zz,yy,aA,aC,b8]<;>rfl
  rcases mod2 (cell / 2) with q|q
  ·refine⟨a,(cell / 4 % 2 == 1),(1+cell / 8 % ((ext:Int)-1)).toNat,by omega,by rw[up_a];omega,?_⟩
   refine aH (ρ:=[.im (.int cell),.im (.int w),.im (.int h),.un,.un,.un]) rfl (aF (aP (e3.trans (by rw[h1]))) (aF (aP e4) (aF (aP e5) (aK ?_))))
   show ev G _ [.im (.int cell),.im (.int w),.im (.int h),.im (.bl lv),.im (.int ext),.im (.lst [.str a.str,.str b.str])]=_
   simp only[zz,yy,aA,aC,d2,m2,q,s01,d4,d8,mx];unfold fB;rw[hk]
  ·refine⟨b,(cell / 4 % 2 == 1),(1+cell / 8 % ((ext:Int)-1)).toNat,by omega,by rw[up_b];omega,?_⟩
   refine aH (ρ:=[.im (.int cell),.im (.int w),.im (.int h),.un,.un,.un]) rfl (aF (aP (e3.trans (by rw[h1]))) (aF (aP e4) (aF (aP e5) (aK ?_))))
   show ev G _ [.im (.int cell),.im (.int w),.im (.int h),.im (.bl lv),.im (.int ext),.im (.lst [.str a.str,.str b.str])]=_
   simp only[zz,yy,aA,aC,d2,m2,q,cb,d4,d8,mx];unfold fB;rw[hk]
 cases hb:(((w:Int) == 1) || (decide (1<(h:Int))&&(cell % 2 == 1))) with
 |true =>
  refine fin true h .north .south hb rfl ?_ rfl rfl;rw[or_eq_true,ow,qd,p4]at hb
  rcases hb with hb|hb
  ·have:w=1:=by omega
   subst this;omega
  ·omega
 |false =>
  refine fin false w .west .east hb rfl ?_ rfl rfl;rw[Bool.or_eq_false_iff]at hb;have:(w:Int)≠1:=by simpa using hb.1
  omega
end
end Pg
theorem dU{s:Sl}{r:List Sl}:view (s::r)=fP s::view r:=id rfl
theorem XW{α β:Type}{f:α→β}{xs:List α}{a b:Option Int}:cut (xs.map f) a b=(cut xs a b).map f:=by
 unfold cut;rw[og,List.map_take,map_drop]
namespace Pg
def Full(s:bA):Prop:=∀h∈s,h≠[]
def kG(T:Table):Prop:=∀s∈T,Full s
theorem getD_mem{s:bA}{k:Nat}(h:k<s.length):s.getD k []∈s:=by
 rw[o6,oa h];exact sh h
theorem Full.turn{s:bA}{u:Bool}(h:Full s):Full (dW u s):=by
 intro x hx;unfold dW at hx;obtain⟨y,hy,rfl⟩:=qe.mp hx;unfold eE;intro z;exact h y hy (by simpa using z)
theorem Full.tog{u l:bA}(h1:Full u)(h2:Full l):Full (tog u l):=by
 intro x hx;unfold Pg.tog at hx;obtain⟨k,hk,rfl⟩:=qe.mp hx;have hk:=rq.mp hk
 intro z;have z:=List.append_eq_nil_iff.mp z
 by_cases e:k<u.length
 ·exact h1 _ (getD_mem e) z.1
 ·exact h2 _ (getD_mem (by omega)) z.2
theorem Full.sub{s t:bA}(h:Full s)(q:∀x∈t,x∈s):Full t:=fun x hx=>h x (q x hx)
theorem AZ{sd:Side}{over:Bool}{c:Nat}{s:bA}(h:Full s):Full (cQ sd over c s):=by
 have a1:Full (s.take c).reverse:=h.sub fun x hx=>List.mem_of_mem_take (mem_reverse.mp hx)
 have a2:Full (s.drop c):=h.sub fun x hx=>List.mem_of_mem_drop hx
 have t:∀{u l:bA},Full u→Full l→Full (bR u l over):=fun {u l} p q=>by
  unfold bR;cases over with
  |true=>exact p.tog q
  |false=>exact q.tog p
 unfold cQ;split
 ·exact t a1.turn a2
 ·exact(t a2.turn a1).sub fun x hx=>mem_reverse.mp hx
theorem kG.transp{T:Table}{w h:Nat}(r:Rect T w h)(f:kG T):kG (transp T):=by
 intro s hs;unfold Pg.transp at hs;obtain⟨x,hx,rfl⟩:=qe.mp hs;have hx:=rq.mp hx
 intro y hy;obtain⟨t,ht,rfl⟩:=qe.mp hy;exact f t ht _ (getD_mem (by rw[r.row t ht,←r.width];exact hx))
theorem kG.foldT{T:Table}{w h:Nat}{sd:Side}{over:Bool}{c:Nat}(r:Rect T w h)(f:kG T)(h1:1≤c)(h2:c<if sd.up then w else h):kG (foldT sd over c T):=by
 have g:∀{U:Table},kG U→kG (U.map (cQ sd over c)):=fun {U} q s hs=>by
  obtain⟨s',bg,rfl⟩:=qe.mp hs;exact AZ (q s' bg)
 unfold Pg.foldT;cases hu:sd.up with
 |true=>exact g f
 |false =>
  rw[hu]at h2;exact(g (f.transp r)).transp (r.transp.fold h1 h2)
theorem IU{c r:Nat}:kG (gH c r):=by
 intro s hs;unfold gH at hs;obtain⟨y,_,rfl⟩:=qe.mp hs;intro h hh;obtain⟨x,_,rfl⟩:=qe.mp hh;exact List.cons_ne_nil _ _
structure Spot where
 x:Nat
 y:Nat
 z:Int
 e:Bool
 n:Bool
noncomputable def ai(T:Table)(x y:Nat):dS:=(T.getD y []).getD x []
noncomputable def aq(sp:List Spot)(k:Int):Int:=match sp[k.toNat]? with
 |some s=>s.z
 |none=>0
structure Lk (T:Table) (sp:List Spot):Prop where
 mem:∀(x y:Nat) (c:Cell),c∈ai T x y↔∃(i:Nat) (s:Spot),sp[i]?=some s∧s.x=x∧s.y=y∧c=((i:Int),s.e,s.n)
 ord:∀x y:Nat,(ai T x y).Pairwise (fun a b=>aq sp b.1<aq sp a.1)
noncomputable def Spot.al(up:Bool)(s:Spot):Nat:=if up then s.x else s.y
noncomputable def Spot.ac(up:Bool)(s:Spot):Nat:=if up then s.y else s.x
noncomputable def cZ(c p:Nat):Nat:=if c≤p then p-c else c-1-p
noncomputable def bF(nr:Bool)(c gr p:Nat):Nat:=if nr then cZ c p else gr-1-cZ c p
noncomputable def moves(nr:Bool)(c p:Nat):Bool:=decide (c≤p) != nr
noncomputable def bC(sd:Side)(over:Bool)(c gr:Nat)(top low:Int)(s:Spot):Spot:=
 {x:=if sd.up then bF sd.near c gr (s.al sd.up) else s.x
  y:=if sd.up then s.y else bF sd.near c gr (s.al sd.up)
  z:=if moves sd.near c (s.al sd.up) then(if over then 2*top+1-s.z else 2*low-1-s.z) else s.z
  e:=if moves sd.near c (s.al sd.up)&&sd.up then !s.e else s.e
  n:=if moves sd.near c (s.al sd.up)&&!sd.up then !s.n else s.n }
theorem gR{sd:Side}{over:Bool}{c gr:Nat}{top low:Int}{s:Spot}:(bC sd over c gr top low s).al sd.up=bF sd.near c gr (s.al sd.up):=by
 unfold bC Spot.al;cases sd.up<;>rfl
theorem pC{sd:Side}{over:Bool}{c gr:Nat}{top low:Int}{s:Spot}:(bC sd over c gr top low s).ac sd.up=s.ac sd.up:=by
 unfold bC Spot.ac;cases sd.up<;>rfl
noncomputable def hA(up:Bool)(T:Table)(p q:Nat):dS:=if up then ai T p q else ai T q p
theorem getD_map{α β:Type}{f:α→β}{l:List α}{k:Nat}{d:β}{d':α}(h:f d'=d):(l.map f).getD k d=f (l.getD k d'):=by
 rw[o6,o6,oe];cases l[k]?<;>simp[h]
theorem getD_none{α:Type}{l:List α}{k:Nat}{d:α}(h:l.length≤k):l.getD k d=d:=by
 rw[o6,List.getElem?_eq_none h];rfl
theorem rL{u:Bool}:eE u []=[]:=rfl
theorem wZ{s:bA}{c k:Nat}(hc:c≤s.length):(s.take c).reverse.getD k []=if k<c then s.getD (c-1-k) [] else []:=by
 by_cases h:k<c
 ·rw[if_pos h,o6,List.getElem?_reverse (by rw[qi];omega),qi,min_eq_left hc,List.getElem?_take,if_pos (by omega),o6]
 ·rw[if_neg h];exact getD_none (by rw[se,qi];omega)
theorem FC{s:bA}{c k:Nat}:(s.drop c).getD k []=s.getD (c+k) []:=by
 rw[o6,List.getElem?_drop,o6]
theorem KD{u l:bA}{k:Nat}:(tog u l).getD k []=u.getD k []++l.getD k []:=by
 by_cases h:k<max u.length l.length
 ·unfold tog;rw[o6,oe,qx h];rfl
 ·rw[getD_none (by rw[sX];omega),getD_none (by omega),getD_none (by omega)];rfl
noncomputable def rZ(over:Bool)(m s:dS):dS:=if over then m++s else s++m
theorem nC{m s:bA}{over:Bool}{k:Nat}:(bR m s over).getD k []=rZ over (m.getD k []) (s.getD k []):=by
 unfold bR rZ;cases over
 ·exact KD
 ·exact KD
theorem wK{u:Bool}{p:bA}{k:Nat}:(dW u p).getD k []=eE u (p.getD k []):=by unfold dW;exact getD_map rL
noncomputable def cy(c g:Nat)(s:Nat→dS):dS:=if g<c then s (c-1-g) else []
noncomputable def AH(sd:Side)(over:Bool)(c g:Nat)(s:Nat→dS):dS:=rZ over (eE sd.up (if sd.near then cy c g s else s (c+g))) (if sd.near then s (c+g) else cy c g s)
theorem NZ{sd:Side}{over:Bool}{c:Nat}{s:bA}(hc:c≤s.length){k:Nat}(hk:k<max c (s.length-c)) :
  (cQ sd over c s).getD k []=AH sd over c (if sd.near then k else max c (s.length-c)-1-k) fun j=>s.getD j []:=by
 unfold cQ AH cy;cases hn:sd.near with
 |true =>
  simp only[if_true];rw[nC,wK,wZ hc,FC]
 |false =>
  simp only[oo,if_false];have hl:(bR (dW sd.up (s.drop c)) (s.take c).reverse over).length=max c (s.length-c):=by
   rw[hJ,gQ,se,qi,sg,min_eq_left hc,Nat.max_comm]
  rw[o6,List.getElem?_reverse (by rw[hl];exact hk),hl,←o6,nC,wK,wZ hc,FC]
theorem rM{T:Table}{w h:Nat}(r:Rect T w h){x y:Nat}:ai (transp T) x y=ai T y x:=by
 unfold ai
 by_cases hy:y<w
 ·have e1:(transp T).getD y []=T.map fun s=>s.getD y []:=by
   unfold transp;rw[r.width,o6,oe,qx hy];rfl
  rw[e1];exact getD_map (f:=fun s:bA=>s.getD y []) (by simp)
 ·rw[show (transp T).getD y []=[] from getD_none (by unfold transp;rw[og,p5,r.width];omega)]
  rw[show ([]:bA).getD x []=[] by simp]
  by_cases hx:x<T.length
  ·have hm:T.getD x []∈T:=by rw[o6,oa hx];exact sh hx
   rw[getD_none (by rw[r.row _ hm];omega)]
  ·rw[getD_none (l:=T) (by omega)];simp
noncomputable def ext(sd:Side)(w h:Nat):Nat:=if sd.up then w else h
theorem AV{T:Table}{w h:Nat}(r:Rect T w h){sd:Side}{p q:Nat}(hp:ext sd w h≤p):hA sd.up T p q=[]:=by
 unfold hA;unfold ext at hp;unfold ai;cases hu:sd.up with
 |true =>
  rw[hu]at hp;simp only[if_true]at hp ⊢
  by_cases hq:q<T.length
  ·have hm:T.getD q []∈T:=by rw[o6,oa hq];exact sh hq
   exact getD_none (by rw[r.row _ hm];exact hp)
  ·rw[getD_none (l:=T) (by omega)];simp
 |false =>
  rw[hu]at hp;simp only[oo,if_false]at hp ⊢;rw[getD_none (l:=T) (by rw[r.len];exact hp)];simp
theorem DI{T:Table}{w h:Nat}(r:Rect T w h){sd:Side}{over:Bool}{c:Nat}(h1:1≤c)(h2:c<ext sd w h){p q:Nat}(hp:p<max c (ext sd w h-c)) :
  hA sd.up (foldT sd over c T) p q=AH sd over c (if sd.near then p else max c (ext sd w h-c)-1-p) fun j=>hA sd.up T j q:=by
 have key:∀{U:Table} {w h:Nat},Rect U w h→c<w→∀{p q:Nat},p<max c (w-c)→ai (U.map (cQ sd over c)) p q=AH sd over c (if sd.near then p else max c (w-c)-1-p) fun j=>ai U j q:=by
  intro U w h r h2 p q hp;unfold ai
  by_cases hq:q<U.length
  ·have hm:U.getD q []∈U:=by rw[o6,oa hq];exact sh hq
   have hw:=r.row _ hm
   have e1:(U.map (cQ sd over c)).getD q []=cQ sd over c (U.getD q []):=by
    rw[o6,oe,o6,oa hq];rfl
   rw[e1,NZ (by omega) (by rw[hw];exact hp),hw]
  ·rw[getD_none (l:=U.map (cQ sd over c)) (by rw[og];omega),getD_none (l:=U) (by omega)]
   unfold AH cy rZ;simp[rL]
 unfold hA foldT;unfold ext at h2 hp ⊢;cases hu:sd.up with
 |true =>
  rw[hu]at h2 hp;simp only[if_true]at h2 hp ⊢;exact key r h2 hp
 |false =>
  rw[hu]at h2 hp;simp only[oo,if_false]at h2 hp ⊢;rw[rM (r.transp.fold h1 h2),key r.transp h2 hp]
  congr 1
  funext j
  exact rM r
theorem qA{c p ex:Nat}(h1:1≤c)(hp:p<ex):cZ c p<max c (ex-c):=by
 unfold cZ;split<;>omega
theorem place_lt{nr:Bool}{c p ex:Nat}(h1:1≤c)(hp:p<ex):bF nr c (max c (ex-c)) p<max c (ex-c):=by
 have:=qA h1 hp
 unfold bF;split<;>omega
theorem sW{u:Bool}{c:Cell}:(fX u c).1=c.1:=by unfold fX;cases u<;>rfl
theorem xX{u:Bool}{h:dS}{c:Cell}:c∈eE u h↔fX u c∈h:=by
 have inv:∀d:Cell,fX u (fX u d)=d:=fun d=>by unfold fX;cases u<;>simp
 unfold eE;rw[qe];constructor
 ·rintro⟨d,hd,rfl⟩;rw[inv];exact mem_reverse.mp hd
 ·intro hc;exact⟨_,mem_reverse.mpr hc,inv c⟩
theorem BQ{sp:List Spot}{f:Spot→Spot}{i:Nat}{s:Spot}(h:sp[i]?=some s):aq (sp.map f) (i:Int)=(f s).z:=by
 unfold aq;rw[toNat_natCast,oe,h];rfl
theorem sU{sp:List Spot}{i:Nat}{s:Spot}(h:sp[i]?=some s):aq sp (i:Int)=s.z:=by
 unfold aq;rw[toNat_natCast,h]
section
variable {T:Table}{w h:Nat}{sp:List Spot}
theorem Lk.memA(L:Lk T sp)(up:Bool){p q:Nat}{c:Cell}:c∈hA up T p q↔∃(i:Nat) (s:Spot),sp[i]?=some s∧s.al up=p∧s.ac up=q∧c=((i:Int),s.e,s.n):=by
 unfold hA Spot.al Spot.ac;cases up with
 |true=>exact L.mem p q c
 |false =>
  refine(L.mem q p c).trans ⟨fun⟨i,s,a,b,d,e⟩=>⟨i,s,a,d,b,e⟩,fun⟨i,s,a,b,d,e⟩=>⟨i,s,a,d,b,e⟩⟩
theorem Lk.of{up:Bool}(h1:∀(p q:Nat) (c:Cell),c∈hA up T p q↔∃(i:Nat) (s:Spot),sp[i]?=some s∧s.al up=p∧s.ac up=q∧c=((i:Int),s.e,s.n))(h2:∀p q:Nat,(hA up T p q).Pairwise (fun a b=>aq sp b.1<aq sp a.1)):Lk T sp:=by
 cases up with
 |true=>exact⟨h1,h2⟩
 |false=>exact⟨fun x y c=>(h1 y x c).trans ⟨fun⟨i,s,a,b,d,e⟩=>⟨i,s,a,d,b,e⟩,fun⟨i,s,a,b,d,e⟩=>⟨i,s,a,d,b,e⟩⟩,fun x y=>h2 y x⟩
theorem Lk.al_lt(L:Lk T sp)(r:Rect T w h)(sd:Side){i:Nat}{s:Spot}(e:sp[i]?=some s):s.al sd.up<ext sd w h:=by
 refine Nat.lt_of_not_le fun z=>?_
 have:=(L.memA sd.up (p:=s.al sd.up) (q:=s.ac sd.up) (c:=((i:Int),s.e,s.n))).mpr ⟨i,s,e,rfl,rfl,rfl⟩
 rw[AV r z]at this;cases this
theorem Lk.fold(L:Lk T sp)(r:Rect T w h){sd:Side}{over:Bool}{c:Nat}{top low:Int}(h1:1≤c)(h2:c<ext sd w h)(ht:∀s∈sp,s.z≤top)(hl:∀s∈sp,low≤s.z) :
  Lk (foldT sd over c T) (sp.map (bC sd over c (max c (ext sd w h-c)) top low)):=by
 have get:∀{i:Nat} {s':Spot},(sp.map (bC sd over c (max c (ext sd w h-c)) top low))[i]?=some s'→∃s,sp[i]?=some s∧s'=bC sd over c (max c (ext sd w h-c)) top low s:=fun {i s'} e=>by
  rw[oe]at e;obtain⟨s,a,b⟩:=oy.mp e;exact⟨s,a,b.symm⟩
 have mvP:∀{p' p:Nat},p'<ext sd w h→bF sd.near c (max c (ext sd w h-c)) p'=p→moves sd.near c p'=true→p<max c (ext sd w h-c) →
   p'=(if sd.near then c-1-p else c+(max c (ext sd w h-c)-1-p))∧(sd.near=true→p<c):=by
  intro p' p q0 q1 q2 q3;have:=qA h1 q0
  unfold moves at q2;unfold bF at q1;cases hn:sd.near with
  |true =>
   rw[hn]at q1 q2;simp only[if_true]at q1 ⊢;simp only[bne_iff_ne,ne_eq,p4]at q2;unfold cZ at q1;rw[if_neg q2]at q1;exact⟨by omega,fun _=>by omega⟩
  |false =>
   rw[hn]at q1 q2;simp only[oo,if_false]at q1 ⊢;simp only[bne_iff_ne,ne_eq,decide_eq_false_iff_not,Classical.not_not]at q2;unfold cZ at q1 this;rw[if_pos q2]at q1 this;exact⟨by omega,fun z=>absurd z (by decide)⟩
 have stP:∀{p' p:Nat},p'<ext sd w h→bF sd.near c (max c (ext sd w h-c)) p'=p→moves sd.near c p'=false→p<max c (ext sd w h-c) →
   p'=(if sd.near then c+p else c-1-(max c (ext sd w h-c)-1-p))∧(sd.near=false→max c (ext sd w h-c)-1-p<c):=by
  intro p' p q0 q1 q2 q3;have:=qA h1 q0
  unfold moves at q2;unfold bF at q1;cases hn:sd.near with
  |true =>
   rw[hn]at q1 q2;simp only[if_true]at q1 ⊢;simp only[bne_eq_false_iff_eq,p4]at q2;unfold cZ at q1;rw[if_pos q2]at q1;exact⟨by omega,fun z=>absurd z (by decide)⟩
  |false =>
   rw[hn]at q1 q2;simp only[oo,if_false]at q1 ⊢;simp only[bne_eq_false_iff_eq,decide_eq_false_iff_not]at q2;unfold cZ at q1 this;rw[if_neg q2]at q1 this;exact⟨by omega,fun _=>by omega⟩
 have bk:∀{p' p:Nat},p<max c (ext sd w h-c)→p'<ext sd w h→(p'=(if sd.near then c-1-p else c+(max c (ext sd w h-c)-1-p))∧(sd.near=true→p<c)→moves sd.near c p'=true∧bF sd.near c (max c (ext sd w h-c)) p'=p) ∧
   (p'=(if sd.near then c+p else c-1-(max c (ext sd w h-c)-1-p))∧(sd.near=false→max c (ext sd w h-c)-1-p<c)→moves sd.near c p'=false∧bF sd.near c (max c (ext sd w h-c)) p'=p):=by
  intro p' p q3 q0;unfold moves bF cZ;cases hn:sd.near with
  |true =>
   simp only[if_true];refine⟨fun⟨a,b⟩=>?_,fun⟨a,b⟩=>?_⟩
   ·have:=b trivial
    have z:¬c≤p':=by omega
    rw[oj z,if_neg z];exact⟨rfl,by omega⟩
   ·have z:c≤p':=by omega
    rw[qc z,if_pos z];exact⟨rfl,by omega⟩
  |false =>
   simp only[oo,if_false];refine⟨fun⟨a,b⟩=>?_,fun⟨a,b⟩=>?_⟩
   ·have z:c≤p':=by omega
    rw[qc z,if_pos z];exact⟨rfl,by omega⟩
   ·have:=b trivial
    have z:¬c≤p':=by omega
    rw[oj z,if_neg z];exact⟨rfl,by omega⟩
 have mvI:∀{p q:Nat} {d:Cell},p<max c (ext sd w h-c)→(d∈(if sd.near then cy c (if sd.near then p else max c (ext sd w h-c)-1-p) (fun j=>hA sd.up T j q) else hA sd.up T (c+(if sd.near then p else max c (ext sd w h-c)-1-p)) q) ↔
   ∃(i:Nat) (s:Spot),sp[i]?=some s∧moves sd.near c (s.al sd.up)=true∧bF sd.near c (max c (ext sd w h-c)) (s.al sd.up)=p∧s.ac sd.up=q∧d=((i:Int),s.e,s.n)):=by
  intro p q d hp;constructor
  ·intro hd;have:∃p',d∈hA sd.up T p' q∧p'=(if sd.near then c-1-p else c+(max c (ext sd w h-c)-1-p))∧(sd.near=true→p<c):=by
    cases hn:sd.near with
    |true =>
     rw[hn]at hd;simp only[if_true,cy]at hd
     by_cases hq:p<c
     ·rw[if_pos hq]at hd;exact⟨_,hd,rfl,fun _=>hq⟩
     ·rw[if_neg hq]at hd;cases hd
    |false =>
     rw[hn]at hd;simp only[oo,if_false]at hd;exact⟨_,hd,rfl,fun z=>absurd z (by decide)⟩
   obtain⟨p',hd,e1,e2⟩:=this;obtain⟨i,s,a1,a2,a3,a4⟩:=(L.memA sd.up).mp hd;have b:=(bk (p':=p') hp (by rw[←a2];exact L.al_lt r sd a1)).1 ⟨e1,e2⟩
   rw[←a2]at b;exact⟨i,s,a1,b.1,b.2,a3,a4⟩
  ·rintro⟨i,s,a1,a2,a3,a4,a5⟩;have b:=mvP (L.al_lt r sd a1) a3 a2 hp
   have hd:=(L.memA sd.up (p:=s.al sd.up) (q:=q) (c:=d)).mpr ⟨i,s,a1,rfl,a4,a5⟩
   rw[b.1]at hd;cases hn:sd.near with
   |true =>
    rw[hn]at hd b;simp only[if_true,cy]at hd ⊢;rw[if_pos (b.2 rfl)];exact hd
   |false =>
    rw[hn]at hd;simp only[oo,if_false]at hd ⊢;exact hd
 have stI:∀{p q:Nat} {d:Cell},p<max c (ext sd w h-c)→(d∈(if sd.near then hA sd.up T (c+(if sd.near then p else max c (ext sd w h-c)-1-p)) q else cy c (if sd.near then p else max c (ext sd w h-c)-1-p) (fun j=>hA sd.up T j q)) ↔
   ∃(i:Nat) (s:Spot),sp[i]?=some s∧moves sd.near c (s.al sd.up)=false∧bF sd.near c (max c (ext sd w h-c)) (s.al sd.up)=p∧s.ac sd.up=q∧d=((i:Int),s.e,s.n)):=by
  intro p q d hp;constructor
  ·intro hd;have:∃p',d∈hA sd.up T p' q∧p'=(if sd.near then c+p else c-1-(max c (ext sd w h-c)-1-p))∧(sd.near=false→max c (ext sd w h-c)-1-p<c):=by
    cases hn:sd.near with
    |true =>
     rw[hn]at hd;simp only[if_true]at hd;exact⟨_,hd,rfl,fun z=>absurd z (by decide)⟩
    |false =>
     rw[hn]at hd;simp only[oo,if_false,cy]at hd
     by_cases hq:max c (ext sd w h-c)-1-p<c
     ·rw[if_pos hq]at hd;exact⟨_,hd,rfl,fun _=>hq⟩
     ·rw[if_neg hq]at hd;cases hd
   obtain⟨p',hd,e1,e2⟩:=this;obtain⟨i,s,a1,a2,a3,a4⟩:=(L.memA sd.up).mp hd;have b:=(bk (p':=p') hp (by rw[←a2];exact L.al_lt r sd a1)).2 ⟨e1,e2⟩
   rw[←a2]at b;exact⟨i,s,a1,b.1,b.2,a3,a4⟩
  ·rintro⟨i,s,a1,a2,a3,a4,a5⟩;have b:=stP (L.al_lt r sd a1) a3 a2 hp
   have hd:=(L.memA sd.up (p:=s.al sd.up) (q:=q) (c:=d)).mpr ⟨i,s,a1,rfl,a4,a5⟩
   rw[b.1]at hd;cases hn:sd.near with
   |true =>
    rw[hn]at hd;simp only[if_true]at hd ⊢;exact hd
   |false =>
    rw[hn]at hd b;simp only[oo,if_false,cy]at hd ⊢;rw[if_pos (b.2 rfl)];exact hd
 refine Lk.of (up:=sd.up) (fun p q d=>?_) fun p q=>?_
 ·by_cases hp:p<max c (ext sd w h-c)
  ·rw[DI r h1 h2 hp];unfold AH rZ;have sw:∀a b:dS,d∈(if over then a++b else b++a)↔d∈a∨d∈b:=fun a b=>by cases over<;>simp[or_comm]
   rw[sw,xX,mvI hp,stI hp];constructor
   ·rintro (⟨i,s,a1,a2,a3,a4,a5⟩|⟨i,s,a1,a2,a3,a4,a5⟩)
    ·refine⟨i,bC sd over c (max c (ext sd w h-c)) top low s,by rw[oe,a1];rfl,by rw[gR];exact a3,by rw[pC];exact a4,?_⟩
     have inv:d=fX sd.up (fX sd.up d):=by unfold fX;cases sd.up<;>simp
     rw[inv,a5];unfold fX bC;dsimp only;rw[a2];cases sd.up<;>rfl
    ·refine⟨i,bC sd over c (max c (ext sd w h-c)) top low s,by rw[oe,a1];rfl,by rw[gR];exact a3,by rw[pC];exact a4,?_⟩
     rw[a5];unfold bC;dsimp only;rw[a2];rfl
   ·rintro⟨i,s',a1,a2,a3,a4⟩;obtain⟨s,e1,rfl⟩:=get a1;rw[gR]at a2;rw[pC]at a3;cases hm:moves sd.near c (s.al sd.up) with
    |true =>
     refine .inl ⟨i,s,e1,hm,a2,a3,?_⟩;rw[a4];unfold fX bC;dsimp only;rw[hm];cases sd.up<;>simp
    |false =>
     refine .inr ⟨i,s,e1,hm,a2,a3,?_⟩;rw[a4];unfold bC;dsimp only;rw[hm];rfl
  ·constructor
   ·intro hd;have r':=r.foldT (over:=over) h1 h2
    rw[AV r' (by unfold ext;unfold ext at hp;cases hu:sd.up<;>rw[hu]at hp<;>simp only[if_true,oo,if_false]at hp ⊢<;>omega)]at hd
    cases hd
   ·rintro⟨i,s',a1,a2,a3,a4⟩;obtain⟨s,e1,rfl⟩:=get a1;rw[gR]at a2;exact absurd (a2 ▸ place_lt h1 (L.al_lt r sd e1)) hp
 ·by_cases hp:p<max c (ext sd w h-c)
  ·rw[DI r h1 h2 hp];unfold AH;have ordA:∀j,(hA sd.up T j q).Pairwise (fun a b=>aq sp b.1<aq sp a.1):=fun j=>by
    unfold hA;cases sd.up
    ·exact L.ord q j
    ·exact L.ord j q
   have ordL:∀g,(cy c g fun j=>hA sd.up T j q).Pairwise (fun a b=>aq sp b.1<aq sp a.1):=fun g=>by
    unfold cy;split
    ·exact ordA _
    ·exact List.Pairwise.nil
   have mvZ:∀{d:Cell},d∈(if sd.near then cy c (if sd.near then p else max c (ext sd w h-c)-1-p) (fun j=>hA sd.up T j q) else hA sd.up T (c+(if sd.near then p else max c (ext sd w h-c)-1-p)) q) →
     aq (sp.map (bC sd over c (max c (ext sd w h-c)) top low)) d.1=(if over then 2*top+1-aq sp d.1 else 2*low-1-aq sp d.1)∧aq sp d.1≤top∧low≤aq sp d.1:=fun {d} hd=>by
    obtain⟨i,s,a1,a2,a3,a4,a5⟩:=(mvI hp).mp hd;rw[a5];dsimp only;rw[BQ a1,sU a1];refine⟨?_,ht s (o8 a1),hl s (o8 a1)⟩;unfold bC;dsimp only;rw[a2];rfl
   have stZ:∀{d:Cell},d∈(if sd.near then hA sd.up T (c+(if sd.near then p else max c (ext sd w h-c)-1-p)) q else cy c (if sd.near then p else max c (ext sd w h-c)-1-p) (fun j=>hA sd.up T j q)) →
     aq (sp.map (bC sd over c (max c (ext sd w h-c)) top low)) d.1=aq sp d.1∧aq sp d.1≤top∧low≤aq sp d.1:=fun {d} hd=>by
    obtain⟨i,s,a1,a2,a3,a4,a5⟩:=(stI hp).mp hd;rw[a5];dsimp only;rw[BQ a1,sU a1];refine⟨?_,ht s (o8 a1),hl s (o8 a1)⟩;unfold bC;dsimp only;rw[a2];rfl
   have mvO:(if sd.near then cy c (if sd.near then p else max c (ext sd w h-c)-1-p) (fun j=>hA sd.up T j q) else hA sd.up T (c+(if sd.near then p else max c (ext sd w h-c)-1-p)) q).Pairwise (fun a b=>aq sp b.1<aq sp a.1):=by
    split
    ·exact ordL _
    ·exact ordA _
   have stO:(if sd.near then hA sd.up T (c+(if sd.near then p else max c (ext sd w h-c)-1-p)) q else cy c (if sd.near then p else max c (ext sd w h-c)-1-p) (fun j=>hA sd.up T j q)).Pairwise (fun a b=>aq sp b.1<aq sp a.1):=by
    split
    ·exact ordA _
    ·exact ordL _
   generalize (if sd.near then cy c (if sd.near then p else max c (ext sd w h-c)-1-p) (fun j=>hA sd.up T j q) else hA sd.up T (c+(if sd.near then p else max c (ext sd w h-c)-1-p)) q)=mv at *
   generalize (if sd.near then hA sd.up T (c+(if sd.near then p else max c (ext sd w h-c)-1-p)) q else cy c (if sd.near then p else max c (ext sd w h-c)-1-p) (fun j=>hA sd.up T j q))=st at *
   have mvO':(eE sd.up mv).Pairwise (fun a b=>aq (sp.map (bC sd over c (max c (ext sd w h-c)) top low)) b.1<aq (sp.map (bC sd over c (max c (ext sd w h-c)) top low)) a.1):=by
    unfold eE;rw[List.pairwise_map,List.pairwise_reverse];refine mvO.imp_of_mem fun {a b} ha hb k=>?_
    rw[sW,sW,(mvZ ha).1,(mvZ hb).1];split<;>omega
   have stO':st.Pairwise (fun a b=>aq (sp.map (bC sd over c (max c (ext sd w h-c)) top low)) b.1<aq (sp.map (bC sd over c (max c (ext sd w h-c)) top low)) a.1):=
    stO.imp_of_mem fun {a b} ha hb k=>by rw[(stZ ha).1,(stZ hb).1];exact k
   have mvM:∀{d:Cell},d∈eE sd.up mv→aq (sp.map (bC sd over c (max c (ext sd w h-c)) top low)) d.1=(if over then 2*top+1-aq sp d.1 else 2*low-1-aq sp d.1)∧aq sp d.1≤top∧low≤aq sp d.1:=fun {d} hd=>by
    have:=mvZ (xX.mp hd)
    rw[sW]at this;exact this
   unfold rZ;cases over with
   |true =>
    refine sj.mpr ⟨mvO',stO',fun a ha b hb=>?_⟩
    have k1:=mvM ha
    have k2:=stZ hb
    rw[k1.1,k2.1];simp only[if_true];omega
   |false =>
    refine sj.mpr ⟨stO',mvO',fun a ha b hb=>?_⟩
    have k1:=mvM hb
    have k2:=stZ ha
    rw[k1.1,k2.1];simp only[oo,if_false];omega
  ·have r':=r.foldT (over:=over) h1 h2
   rw[AV r' (by unfold ext;unfold ext at hp;cases hu:sd.up<;>rw[hu]at hp<;>simp only[if_true,oo,if_false]at hp ⊢<;>omega)]
   exact List.Pairwise.nil
end
end Pg
theorem hZ{x y:Int×Int}:gg x y=true↔x.1<y.1∨(x.1=y.1∧x.2<y.2):=by
 unfold gg;simp only[or_eq_true,ow,p4,qd]
theorem UR{x y:Int×Int}:gg x y=false↔¬(x.1<y.1∨(x.1=y.1∧x.2<y.2)):=by rw[←hZ,Bool.not_eq_true]
theorem mU(x:Int×Int):∀l:List (Int×Int),(AS x l).Perm (x::l)
 |[]=>List.Perm.refl _
 |y::r=>by
  unfold AS;split
  ·exact List.Perm.refl _
  ·exact((mU x r).cons y).trans (List.Perm.swap x y r)
theorem hU:∀l:List (Int×Int),(pF l).Perm l
 |[]=>List.Perm.refl _
 |x::r=>(mU x _).trans ((hU r).cons x)
theorem nK{x:Int×Int}:∀{l:List (Int×Int)},l.Pairwise (fun a b=>gg a b=true)→x∉l→(AS x l).Pairwise (fun a b=>gg a b=true)
 |[],_,_=>by unfold AS;simp
 |y::r,h,n=>by
  obtain⟨h1,h2⟩:=List.pairwise_cons.mp h;unfold AS;split
  ·rename_i e;refine List.pairwise_cons.mpr ⟨fun z hz=>?_,h⟩
   rcases pj.mp hz with rfl|hz
   ·exact e
   ·have:=h1 z hz
    rw[hZ]at this e ⊢;omega
  ·rename_i e;rw[Bool.not_eq_true]at e;refine List.pairwise_cons.mpr ⟨fun z hz=>?_,nK h2 fun z=>n (oq _ z)⟩
   rcases pj.mp ((mU x r).mem_iff.mp hz) with rfl|hz
   ·have bu:z≠y:=fun q=>n (by rw[q];simp)
    rw[UR]at e;rw[hZ];have:¬(z.1=y.1∧z.2=y.2):=fun q=>bu (Prod.ext q.1 q.2)
    omega
   ·exact h1 z hz
theorem kW:∀{l:List (Int×Int)},l.Nodup→(pF l).Pairwise (fun a b=>gg a b=true)
 |[],_=>List.Pairwise.nil
 |x::r,h=>by
  obtain⟨h1,h2⟩:=nodup_cons.mp h;exact nK (kW h2) fun z=>h1 ((hU r).mem_iff.mp z)
theorem KL{l m:List (Int×Int)}(p:m.Perm l)(h:m.Pairwise (fun a b=>gg a b=true)):m=pF l:=by
 have nd:m.Nodup:=h.imp fun {a b} e q=>by subst q;rw[hZ]at e;omega
 exact List.Perm.eq_of_pairwise (fun a b _ _ e1 e2=>by rw[hZ]at e1 e2;omega) h (kW (p.nodup_iff.mp nd)) (p.trans (hU l).symm)
theorem rW:∀(r:List Int) (m:Int),(mP m r=m∨mP m r∈r)∧m≤mP m r∧∀a∈r,a≤mP m r
 |[],m=>⟨.inl rfl,Int.le_refl _,fun a h=>by simp at h⟩
 |x::r,m=>by
  obtain⟨h1,h2,h3⟩:=rW r (if x > m then x else m)
  show (mP (if x > m then x else m) r=m∨_)∧m≤mP (if x > m then x else m) r∧_
  have e:mP m (x::r)=mP (if x > m then x else m) r:=rfl
  rw[e];refine⟨?_,?_,fun a ha=>?_⟩
  ·rcases h1 with h|h
   ·split at h
    ·rename_i hx;rw[if_pos hx,h];exact .inr (by simp)
    ·rename_i hx;rw[if_neg hx,h];exact .inl rfl
   ·exact .inr (oq _ h)
  ·split at h2
   ·rename_i hx;rw[if_pos hx];omega
   ·rename_i hx;rw[if_neg hx];exact h2
  ·rcases pj.mp ha with rfl|ha
   ·split at h2
    ·rename_i hx;rw[if_pos hx];exact h2
    ·rename_i hx;rw[if_neg hx];omega
   ·exact h3 a ha
theorem rV:∀(r:List Int) (m:Int),(pQ m r=m∨pQ m r∈r)∧pQ m r≤m∧∀a∈r,pQ m r≤a
 |[],m=>⟨.inl rfl,Int.le_refl _,fun a h=>by simp at h⟩
 |x::r,m=>by
  obtain⟨h1,h2,h3⟩:=rV r (if x<m then x else m)
  have e:pQ m (x::r)=pQ (if x<m then x else m) r:=rfl
  rw[e];refine⟨?_,?_,fun a ha=>?_⟩
  ·rcases h1 with h|h
   ·split at h
    ·rename_i hx;rw[if_pos hx,h];exact .inr (by simp)
    ·rename_i hx;rw[if_neg hx,h];exact .inl rfl
   ·exact .inr (oq _ h)
  ·split at h2
   ·rename_i hx;rw[if_pos hx];omega
   ·rename_i hx;rw[if_neg hx];exact h2
  ·rcases pj.mp ha with rfl|ha
   ·split at h2
    ·rename_i hx;rw[if_pos hx];exact h2
    ·rename_i hx;rw[if_neg hx];omega
   ·exact h3 a ha
namespace Pg
noncomputable def fA(c r:Nat):List Spot:=(List.range (c*r)).map fun k=>⟨k % c,k / c,0,false,false⟩
section
variable {G:GS}
theorem iH{c r x y:Nat}:ai (gH c r) x y=if x<c∧y<r then [(((y*c+x:Nat):Int),false,false)] else []:=by
 unfold ai gH
 by_cases hy:y<r
 ·have e1:((List.range r).map fun y=>(List.range c).map fun x=>[(((y*c+x:Nat):Int),false,false)]).getD y []=(List.range c).map fun x=>[(((y*c+x:Nat):Int),false,false)]:=by
   rw[o6,oe,qx hy];rfl
  rw[e1]
  by_cases hx:x<c
  ·rw[if_pos ⟨hx,hy⟩,o6,oe,qx hx];rfl
  ·rw[if_neg (fun z=>hx z.1)]
   exact getD_none (by rw[og,p5];omega)
 ·rw[if_neg (fun z=>hy z.2),getD_none (l:=List.map _ _) (by rw[og,p5];omega)]
  simp
theorem WS{c r:Nat}(hc:1≤c):Lk (gH c r) (fA c r):=by
 have get:∀{i:Nat} {s:Spot},(fA c r)[i]?=some s↔i<c*r∧s=⟨i % c,i / c,0,false,false⟩:=fun {i s}=>by
  unfold fA;rw[oe]
  by_cases hi:i<c*r
  ·rw[qx hi];simp only[qt,o7,hi,true_and];exact eq_comm
  ·rw[List.getElem?_eq_none (by rw[p5];omega)]
   simp[hi]
 refine⟨fun x y d=>?_,fun x y=>?_⟩
 ·rw[iH];constructor
  ·intro h;split at h
   ·rename_i iN;have e:d=(((y*c+x:Nat):Int),false,false):=by simpa using h
    have h1:(y*c+x) % c=x:=by rw[Nat.add_comm,Nat.add_mul_mod_self_right];exact Nat.mod_eq_of_lt iN.1
    have h2:(y*c+x) / c=y:=by rw[Nat.add_comm,Nat.add_mul_div_right _ _ (by omega),Nat.div_eq_of_lt iN.1];omega
    refine⟨y*c+x,_,get.mpr ⟨?_,rfl⟩,h1,h2,e⟩;have:(y+1)*c≤r*c:=Nat.mul_le_mul_right c (by omega)
    rw[Nat.add_mul,Nat.one_mul]at this;rw[mul_comm c r];omega
   ·cases h
  ·rintro⟨i,s,a1,rfl,rfl,a4⟩;obtain⟨hi,rfl⟩:=get.mp a1;have h1:i % c<c:=Nat.mod_lt _ (by omega)
   have h2:i / c<r:=by rw[Nat.div_lt_iff_lt_mul (by omega),mul_comm];exact hi
   rw[if_pos ⟨h1,h2⟩,a4];have:=div_add_mod i c
   rw[mul_comm]at this;simp[this]
 ·rw[iH];split
  ·simp
  ·exact List.Pairwise.nil
theorem qC{c r:Nat}:(fA c r).length=c*r:=by unfold fA;simp
theorem aCO{ρ:List Sl}{x:Nat}{k e:IE}{d:D}{i:Int}{ds:List D}{j:Nat}(h1:ev G e ρ=some d)(h2:ev G k ρ=some (.int i))(h3:ρ[x]?=some (.mu (.lst ds)))(h4:ixN ds.length i=some j):ex G (.put x k e) ρ=some (.nx (ρ.set x (.mu (.lst (ds.set j d))))):=by
 show (b0 G e ρ).bind (fun d=>(intOf (b0 G k ρ)).bind fun i=>_)=_
 rw[kL h1,kL h2];show (match ρ[x]? with|some (.mu o)=>_|_=>_)=_
 rw[h3];show Option.map _ (Option.map _ (ixN ds.length i))=_
 rw[h4];rfl
end
section
variable {G:GS}
theorem nX{α:Type}{a b c:α}:atI [a,b,c] 0=some a∧atI [a,b,c] 1=some b∧atI [a,b,c] 2=some c:=⟨rfl,rfl,rfl⟩
noncomputable def isAt(x y:Nat)(s:Spot):Bool:=(s.x == x)&&(s.y == y)
noncomputable def tW(sp:List Spot)(x y i:Nat):Option (Int×Int):=match sp[i]? with
 |some s=>if isAt x y s then some (0-s.z,(i:Int)) else none
 |none=>none
noncomputable def lay(sp:List Spot)(x y k:Nat):List (Int×Int):=(List.range k).filterMap (tW sp x y)
theorem MR{sp:List Spot}{x y k:Nat}:lay sp x y (k+1)=lay sp x y k++(tW sp x y k).toList:=by
 unfold lay;rw[List.range_succ,List.filterMap_append]
 congr 1
noncomputable def ID(sp:List Spot)(c:Cell):Int×Int:=(0-aq sp c.1,c.1)
theorem WB{sp:List Spot}{x y:Nat}{p:Int×Int}:p∈lay sp x y sp.length↔∃(i:Nat) (s:Spot),sp[i]?=some s∧s.x=x∧s.y=y∧p=(0-s.z,(i:Int)):=by
 unfold lay;rw[mem_filterMap];constructor
 ·rintro⟨i,hi,e⟩;unfold tW at e;split at e
  ·rename_i s hs;split at e
   ·rename_i iN;cases e;unfold isAt at iN;rw[ow,qd,qd]at iN;exact⟨i,s,hs,iN.1,iN.2,rfl⟩
   ·cases e
  ·cases e
 ·rintro⟨i,s,hs,rfl,rfl,rfl⟩;refine⟨i,rq.mpr (o5.mp hs).1,?_⟩;unfold tW isAt;rw[hs];simp
theorem HZ{sp:List Spot}{x y k:Nat}:(lay sp x y k).Nodup:=by
 have h2:∀{i:Nat} {p:Int×Int},tW sp x y i=some p→p.2=i:=fun {i p} e=>by
  unfold tW at e;split at e
  ·split at e
   ·cases e;rfl
   ·cases e
  ·cases e
 induction k with
 |zero=>exact List.nodup_nil
 |succ k ih =>
  rw[MR];refine List.nodup_append.mpr ⟨ih,?_,fun a ha b hb=>?_⟩
  ·cases tW sp x y k<;>simp
  ·have j6:tW sp x y k=some b:=by simpa using hb
   unfold lay at ha;obtain⟨i,hi,e⟩:=mem_filterMap.mp ha;intro z;have q1:=h2 e
   have q2:=h2 j6
   rw[z]at q1;have:=rq.mp hi
   omega
theorem MS{T:Table}{sp:List Spot}(L:Lk T sp){x y:Nat}:pF (lay sp x y sp.length)=(ai T x y).map (ID sp):=by
 have pw:((ai T x y).map (ID sp)).Pairwise (fun a b=>gg a b=true):=by
  rw[List.pairwise_map];refine(L.ord x y).imp fun {a b} h=>?_
  rw[hZ];unfold ID;exact .inl (by dsimp only;omega)
 have nd:((ai T x y).map (ID sp)).Nodup:=pw.imp fun {a b} e q=>by subst q;rw[hZ]at e;omega
 refine(KL ?_ pw).symm;refine(List.perm_ext_iff_of_nodup nd HZ).mpr fun p=>?_
 rw[WB,qe];constructor
 ·rintro⟨c,hc,rfl⟩;obtain⟨i,s,a1,a2,a3,a4⟩:=(L.mem x y c).mp hc;refine⟨i,s,a1,a2,a3,?_⟩;subst a4;unfold ID;dsimp only;rw[sU a1]
 ·rintro⟨i,s,a1,a2,a3,rfl⟩;refine⟨((i:Int),s.e,s.n),(L.mem x y _).mpr ⟨i,s,a1,a2,a3,rfl⟩,?_⟩;unfold ID;dsimp only;rw[sU a1]
theorem WC{T:Table}{sp:List Spot}(L:Lk T sp){x y:Nat}:(lay sp x y sp.length).length=(ai T x y).length:=by
 rw[←(hU _).length_eq,MS L,og]
theorem BC{ρ:List Sl}{x:Nat}{e:IE}{d:D}{ds:List D}(h1:ev G e ρ=some d)(h2:ρ[x]?=some (.mu (.lst ds)))(h3:ds.length<1000000):ex G (.app x e) ρ=some (.nx (ρ.set x (.mu (.lst (ds++[d]))))):=by
 show (b0 G e ρ).bind _=_
 rw[kL h1];show (match ρ[x]? with|some (.mu (.lst ds))=>_|_=>_)=_
 rw[h2];exact if_pos h3
theorem cR{b:Bool}:b8 (.bl b)=some b:=rfl
structure Fold where
 sd:Side
 over:Bool
 k:Nat
noncomputable def Fold.d(f:Fold):D:=fB f.sd f.over f.k
end
structure Sits (T:Table) (w h:Nat) (sp:List Spot):Prop where
 lk:Lk T sp
 rect:Rect T w h
 full:kG T
 w64:w≤64
 h64:h≤64
 len:sp.length≤64
section
variable {G:GS}{T:Table}{w h:Nat}{sp:List Spot}
theorem Sits.xlt(S:Sits T w h sp){s:Spot}(hs:s∈sp):s.x<w:=by
 obtain⟨i,hi,rfl⟩:=getElem_of_mem hs;exact S.lk.al_lt S.rect .west (oa hi)
theorem Sits.ylt(S:Sits T w h sp){s:Spot}(hs:s∈sp):s.y<h:=by
 obtain⟨i,hi,rfl⟩:=getElem_of_mem hs;exact S.lk.al_lt S.rect .north (oa hi)
theorem Lk.short(L:Lk T sp){x y:Nat}:(ai T x y).length≤sp.length:=by
 rw[←WC L];unfold lay;have:=List.length_filterMap_le (tW sp x y) (List.range sp.length)
 rwa [p5]at this
theorem Sits.few(S:Sits T w h sp):rF 64 T:=by
 intro s hs hp hm;obtain⟨y,hy,rfl⟩:=getElem_of_mem hs;obtain⟨x,hx,rfl⟩:=getElem_of_mem hm;have e:ai T x y=T[y][x]:=by
  unfold ai;rw[o6 (l:=T),oa hy];simp[hx]
 rw[←e];exact p9 S.lk.short S.len
theorem Sits.fold(S:Sits T w h sp){sd:Side}{over:Bool}{c:Nat}{top low:Int}(h1:1≤c)(h2:c<ext sd w h)(ht:∀s∈sp,s.z≤top)(hl:∀s∈sp,low≤s.z) :
  Sits (foldT sd over c T) (if sd.up then max c (w-c) else w) (if sd.up then h else max c (h-c)) (sp.map (bC sd over c (max c (ext sd w h-c)) top low)):=by
 have a:=S.w64
 have b:=S.h64
 have h2':c<if sd.up then w else h:=h2
 refine⟨S.lk.fold S.rect h1 h2 ht hl,S.rect.foldT h1 h2,S.full.foldT S.rect h1 h2,?_,?_,by rw[og];exact S.len⟩
 ·split
  ·rename_i hu;rw[if_pos hu]at h2';omega
  ·exact a
 ·split
  ·exact b
  ·rename_i hu;rw[if_neg hu]at h2';omega
theorem IR{c r:Nat}(hc:1≤c)(hr:1≤r)(cH:c*r≤64):Sits (gH c r) c r (fA c r):=
 ⟨WS hc,IT hc hr,IU,p9 (Nat.le_mul_of_pos_right c hr) cH,p9 (Nat.le_mul_of_pos_left r hc) cH,by rw[qC];exact cH⟩
end
end Pg
theorem dP{i k:Int}{d:D}{r:List (Int×D)}:cL ((i,d)::r) k=if i=k then some d else cL r k:=by
 unfold cL
 by_cases e:i=k
 ·rw[List.find?_cons_of_pos (by simpa using e),if_pos e];rfl
 ·rw[List.find?_cons_of_neg (by simpa using e),if_neg e]
theorem wI{k:Int}:∀{kvs:List (Int×D)},(kvs.any fun kv=>decide (kv.1=k))=(cL kvs k).isSome
 |[]=>rfl
 | (i,d)::r=>by
  rw[any_cons,dP,wI (kvs:=r)]
  by_cases e:i=k
  ·rw[if_pos e,qc e];rfl
  ·rw[if_neg e,oj e];rfl
theorem oW{k j:Int}{d:D}:∀{kvs:List (Int×D)},cL (kvs.map fun kv=>if kv.1=k then(kv.1,d) else kv) j=if j=k then(cL kvs j).map fun _=>d else cL kvs j
 |[]=>by
  show none=_
  split<;>rfl
 | (i,e)::r=>by
  rw[qb]
  by_cases h:i=k
  ·rw[if_pos h,dP,dP,oW (kvs:=r)]
   by_cases g:i=j
   ·rw[if_pos g,if_pos g,if_pos (g.symm.trans h)];rfl
   ·rw[if_neg g,if_neg g]
  ·rw[if_neg h,dP,dP,oW (kvs:=r)]
   by_cases g:i=j
   ·rw[if_pos g,if_pos g,if_neg (fun z=>h (g.trans z))]
   ·rw[if_neg g,if_neg g]
theorem rJ{k j:Int}{d:D}:∀{kvs:List (Int×D)},cL (kvs++[(k,d)]) j=(cL kvs j).or (if k=j then some d else none)
 |[]=>by
  rw[List.nil_append,dP];split<;>rfl
 | (i,e)::r=>by
  rw[List.cons_append,dP,dP,rJ (kvs:=r)];split<;>rfl
theorem oV{kvs:List (Int×D)}{k j:Int}{d:D}:cL (kI kvs k d) j=if j=k then some d else cL kvs j:=by
 unfold kI;rw[wI]
 by_cases h:(cL kvs k).isSome=true
 ·rw[if_pos h,oW]
  by_cases e:j=k
  ·subst e;rw[if_pos rfl,if_pos rfl];obtain⟨x,hx⟩:=Option.isSome_iff_exists.mp h;rw[hx];rfl
  ·rw[if_neg e,if_neg e]
 ·rw[if_neg h,rJ]
  by_cases e:j=k
  ·subst e;rw[if_pos rfl,if_pos rfl,Option.not_isSome_iff_eq_none.mp h];rfl
  ·rw[if_neg e,if_neg (Ne.symm e)];cases cL kvs j<;>rfl
theorem xE{kvs:List (Int×D)}{k:Int}{d:D}:(kI kvs k d).length≤kvs.length+1:=by
 unfold kI;split
 ·rw[og];omega
 ·rw[pv];exact oh _
theorem vS{G:GS}{ρ:List Sl}{x:Nat}{k e:IE}{d:D}{i:Int}{kvs:List (Int×D)}(h1:ev G e ρ=some d)(h2:ev G k ρ=some (.int i))(h3:ρ[x]?=some (.mu (.dct kvs)))(h4:kvs.length<1000000):ex G (.put x k e) ρ=some (.nx (ρ.set x (.mu (.dct (kI kvs i d))))):=by
 show (b0 G e ρ).bind (fun d=>(intOf (b0 G k ρ)).bind fun i=>_)=_
 rw[kL h1,kL h2];show (match ρ[x]? with|some (.mu o)=>_|_=>_)=_
 rw[h3];show Option.map _ (if kvs.length<big then some (D.dct (kI kvs i d)) else none)=_
 rw[if_pos (by unfold big;exact h4)];rfl
theorem lL{G:GS}{ρ:List Sl}{x:Nat}{d:D}(h:ρ[x]?=some (.mu d)):ex G (.retm x) ρ=some (.rt d):=by
 show (match ρ[x]? with|some (.mu d)=>some (Out.rt d)|_=>none)=_
 rw[h]
namespace Pg
section
variable {G:GS}{T:Table}{w h:Nat}{sp:List Spot}
noncomputable def lQ(s:Spot):Int:=if s.e then s.x else s.x+1
noncomputable def lC(s:Spot):Int:=if s.n then s.y else s.y+1
noncomputable def aHG(s:Spot):D:=.tup [.int (lQ s),.int (lC s)]
structure Lines (sp:List Spot) (kvs:List (Int×D)) (n:Nat) (P:Nat→Spot→Prop):Prop where
 ok:∀(k:Int) (d:D),cL kvs k=some d→∃(i:Nat) (s:Spot),k=i∧sp[i]?=some s∧d=aHG s
 has:∀(i:Nat) (s:Spot),sp[i]?=some s→P i s→(cL kvs i).isSome=true
 len:kvs.length≤n
theorem Lines.mono{kvs:List (Int×D)}{n m:Nat}{P Q:Nat→Spot→Prop}(L:Lines sp kvs n P)(hm:n≤m)(h:∀j t,sp[j]?=some t→Q j t→P j t):Lines sp kvs m Q:=
 ⟨L.ok,fun i s hs hq=>L.has i s hs (h i s hs hq),p9 L.len hm⟩
end
end Pg
theorem KO{α:Type}{l:List α}{x:Nat}{a:α}(h:l[x]?=some a):l.set x a=l:=by
 apply List.ext_getElem?;intro i
 by_cases e:x=i
 ·subst e;rw[p6 (o5.mp h).1,h]
 ·rw[p7 e]
theorem lM{G:GS}{ρ:List Sl}{x:Nat}{t e:IE}{b:Bool}{d:D}{ds:List D}(ht:ev G t (view ρ)=some (.bl b))(he:ev G e ρ=some d)(hx:ρ[x]?=some (.mu (.lst ds)))(hl:ds.length<1000000):ex G (.iff t (.app x e) .nop) ρ=some (.nx (ρ.set x (.mu (.lst (ds++if b then [d] else []))))):=by
 cases b with
 |true=>exact iK ht (Pg.BC he hx hl)
 |false =>
  rw[bJ ht aM,if_neg (by decide),q9,KO hx]
theorem fN{bind:D→List Sl→Option (List Sl)}{body:List Sl→Option Out}(P:Nat→List Sl→Prop){n:Nat}{ρ:List Sl}(h0:P 0 ρ)(st:∀k,k<n→∀ρ,P k ρ→∃ρ1,bind (.int (k:Nat)) ρ=some ρ1∧∃ρ2,body ρ1=some (.nx ρ2)∧P (k+1) ρ2) :
  ∃ρ',fV bind body ((List.range n).map fun (k:Nat)=>D.int k) ρ=some (.nx ρ')∧P n ρ':=by
 obtain⟨ρ',a,b⟩:=eK (bind:=bind) (body:=body) P (ds:=(List.range n).map fun (k:Nat)=>D.int k) (k:=0) h0 fun k d ρ hd hp=>by
  rw[oe]at hd;obtain⟨k',ly,rfl⟩:=oy.mp hd;have hk:k<n:=by have:=(o5.mp ly).1;rwa [p5]at this
  obtain rfl:k=k':=by rw[qx hk]at ly;exact ox ly
  rw[pq]at hp ⊢;exact st k hk ρ hp
 exact⟨ρ',a,by rw[og,p5,pq]at b;exact b⟩
theorem dR{α:Type}{enc:α→D}{bind:D→List Sl→Option (List Sl)}{body:List Sl→Option Out}(P:Nat→List Sl→Prop){L:List α}{ρ:List Sl}(h0:P 0 ρ)(st:∀k a,L[k]?=some a→∀ρ,P k ρ→∃ρ1,bind (enc a) ρ=some ρ1∧∃ρ2,body ρ1=some (.nx ρ2)∧P (k+1) ρ2) :
  ∃ρ',fV bind body (L.map enc) ρ=some (.nx ρ')∧P L.length ρ':=by
 obtain⟨ρ',a,b⟩:=eK (bind:=bind) (body:=body) P (ds:=L.map enc) (k:=0) h0 fun k d ρ hd hp=>by
  rw[oe]at hd;obtain⟨x,hx,rfl⟩:=oy.mp hd;rw[pq]at hp ⊢;exact st k x hx ρ hp
 exact⟨ρ',a,by rw[og,pq]at b;exact b⟩
namespace Pg
section
variable {G:GS}{T:Table}{w h:Nat}{sp:List Spot}
noncomputable def ed(c n k:Nat):List (Nat×Nat×Bool):=(if decide (k % c<c-1) then [(k,k+1,false)] else [])++(if decide (k+c<n) then [(k,k+c,true)] else [])
noncomputable def ah(c n k:Nat):List (Nat×Nat×Bool):=(List.range k).flatMap (ed c n)
theorem lA{c n k:Nat}:ah c n (k+1)=ah c n k++ed c n k:=by
 unfold ah;rw[List.range_succ,List.flatMap_append,List.flatMap_cons,List.flatMap_nil,q9]
theorem VQ{c n k:Nat}:(ed c n k).length≤2:=by
 unfold ed;rw[pv];split<;>split<;>simp
theorem iA{c n:Nat}:∀k,(ah c n k).length≤2*k
 | 0=>rz _
 |k+1=>by
  rw[lA,pv];have:=iA (c:=c) (n:=n) k
  have:=VQ (c:=c) (n:=n) (k:=k)
  omega
theorem mO{c n k:Nat}{j:Nat×Nat×Bool}(h:j∈ah c n k):j.1<k:=by
 unfold ah at h;obtain⟨i,hi,hj⟩:=List.mem_flatMap.mp h;have hi:=rq.mp hi
 unfold ed at hj
 rcases sk.mp hj with q|q<;>(split at q<;>first|(simp only[ph]at q;rw[q];exact hi)|(simp at q))
noncomputable def c7(j:Nat×Nat×Bool):D:=.tup [.int j.1,.int j.2.1,.bl j.2.2]
theorem CQ{c n k:Nat}{α:Type}{f:Nat×Nat×Bool→α}:(ed c n k).map f=(if decide (k % c<c-1) then [f (k,k+1,false)] else [])++(if decide (k+c<n) then [f (k,k+c,true)] else []):=by
 unfold ed;rw[qz];cases decide (k % c<c-1)<;>cases decide (k+c<n)<;>rfl
noncomputable def fF:IS:=(.seq (.set 2 (.bin .mul (.var 0) (.var 1))) (.seq (.setm 3 (.lst .nil)) (.seq (.loop [4] false .rng (.tup (.cons (.var 2) .nil)) (.seq (.iff (.bin .lt (.bin .mod (.var 4) (.var 0)) (.bin .sub (.var 0) (.lit (.int 1)))) (.app 3 (.tup (.cons (.var 4) (.cons (.bin .add (.var 4) (.lit (.int 1))) (.cons (.lit (.bl false)) .nil))))) .nop) (.iff (.bin .lt (.bin .add (.var 4) (.var 0)) (.var 2)) (.app 3 (.tup (.cons (.var 4) (.cons (.bin .add (.var 4) (.var 0)) (.cons (.lit (.bl true)) .nil))))) .nop))) (.retm 3))))
theorem oA{a b:Nat}(h:0<b):aj .mod (.int (a:Int)) (.int (b:Int))=some (.int ((a % b:Nat):Int)):=(CO (by omega)).trans (by rw[Int.natCast_emod])
theorem vV{a b:Nat}(h:0<b)(h1:b<1000000):aj .fdiv (.int (a:Int)) (.int (b:Int))=some (.int ((a / b:Nat):Int)):=(rS (by omega) (by omega)).trans (by rw[Int.natCast_ediv])
theorem jO{a b:Nat}(h:a≤1000000):aj .mul (.int (a:Int)) (.int (b:Int))=some (.int ((a*b:Nat):Int)):=(ME (by omega) (by omega)).trans (by rw[Int.natCast_mul])
theorem FE{a b:Nat}(hb:1≤b):decide ((a:Int)<(b:Int)-1)=decide (a<b-1):=decide_eq_decide.mpr (by omega)
theorem qY{c r:Nat}(hc:1≤c)(cH:c*r≤64)(hc6:c≤64):aO G 5 fF [.int c,.int r]=some (.ok (.lst ((ah c (c*r) (c*r)).map c7))):=by
 refine aH (ρ:=[.im (.int c),.im (.int r),.un,.un,.un]) rfl ?_;refine aF (aP (d:=.int ((c*r:Nat):Int)) (by simp only[zz,yy,aA,aC,jO (show c≤1000000 by omega)])) (aF (lK (ds:=[]) (by simp only[zz,yy,aC])) ?_)
 simp only[List.set];obtain⟨ρ',l,s4,rfl⟩:=fN (bind:=bB [4] false) (body:=ex G (.seq (.iff (.bin .lt (.bin .mod (.var 4) (.var 0)) (.bin .sub (.var 0) (.lit (.int 1)))) (.app 3 (.tup (.cons (.var 4) (.cons (.bin .add (.var 4) (.lit (.int 1))) (.cons (.lit (.bl false)) .nil))))) .nop) (.iff (.bin .lt (.bin .add (.var 4) (.var 0)) (.var 2)) (.app 3 (.tup (.cons (.var 4) (.cons (.bin .add (.var 4) (.var 0)) (.cons (.lit (.bl true)) .nil))))) .nop)))
  (fun k ρ=>∃s4,ρ=[.im (.int c),.im (.int r),.im (.int ((c*r:Nat):Int)),.mu (.lst ((ah c (c*r) k).map c7)),s4]) (n:=c*r) (ρ:=[.im (.int c),.im (.int r),.im (.int ((c*r:Nat):Int)),.mu (.lst []),.un]) ⟨_,rfl⟩ (by
   rintro k hk ρ ⟨s4,rfl⟩;have hl:=iA (c:=c) (n:=c*r) k
   refine⟨_,rfl,_,aF (lM (b:=decide (k % c<c-1)) (d:=c7 (k,k+1,false)) ?_ ?_ rfl (by rw[og];omega)) (lM (b:=decide (k+c<c*r)) (d:=c7 (k,k+c,true)) ?_ ?_ rfl ?_),.im (.int k),?_⟩
   ·simp only[List.set];simp only[zz,yy,aA,aC,oA hc,FE hc]
   ·simp only[List.set];simp only[zz,yy,aA,aC];rfl
   ·simp only[List.set];simp only[zz,yy,aA,aC];exact congrArg (fun b=>some (D.bl b)) (decide_eq_decide.mpr (by omega))
   ·simp only[List.set];simp only[zz,yy,aA,aC];rfl
   ·rw[pv,og];split<;>simp<;>omega
   ·simp only[List.set,lA,qz,List.append_assoc,CQ])
 exact aF ((bO (d:=.tup [.int ((c*r:Nat):Int)]) (by simp only[zz,yy,aA,aC]) (eQ (by omega))).trans l) (lL rfl)
end
end Pg
theorem yW{α:Type}{f:D→Option (Option D)}{enc g:α→D}{p:α→Bool}:∀{L:List α},(∀a∈L,f (enc a)=some (if p a then some (g a) else none))→bQ f (L.map enc)=some ((L.filter p).map g)
 |[],_=>rfl
 |a::r,e=>by
  rw[qb];unfold bQ;rw[e a (qw),yW fun x hx=>e x (oq _ hx)]
  cases h:p a
  ·rw[List.filter_cons_of_neg (by simp[h])];rfl
  ·rw[List.filter_cons_of_pos (by simp[h])];rfl
theorem yN{α:Type}{G:GS}{ρ:List Sl}{n:Nat}{fr:List (Nat×Nat)}{tg:List Nat}{tp:Bool}{k:Src}{src test elt:IE}{s:D}{L:List α}(enc g:α→D)(p:α→Bool)(h1:ev G src ρ=some s)(h2:items k s=some (L.map enc))
  (h3:∀a∈L,∃ρ1,bB tg tp (enc a) (frame n fr ρ)=some ρ1∧ev G test ρ1=some (.bl (p a))∧ev G elt ρ1=some (g a)):ev G (.comp n fr tg tp k src test elt) ρ=some (.lst ((L.filter p).map g)):=by
 rw[vU,h1,qu,h2,qu,yW (g:=g) (p:=p)]
 ·rfl
 ·intro a ha;obtain⟨ρ1,e1,e2,e3⟩:=h3 a ha;rw[e1,qu,e2,qu];cases p a
  ·rfl
  ·show Option.map some (ev G elt ρ1)=_
   rw[e3];rfl
namespace Pg
section
variable {G:GS}
noncomputable def KI(p:Table×Nat×Nat)(f:Fold):Table×Nat×Nat:=(foldT f.sd f.over f.k p.1,if f.sd.up then max f.k (p.2.1-f.k) else p.2.1,if f.sd.up then p.2.2 else max f.k (p.2.2-f.k))
noncomputable def runs(c r:Nat)(fs:List Fold):Table×Nat×Nat:=fs.foldl KI (gH c r,c,r)
theorem mC{c r:Nat}{fs:List Fold}{f:Fold}:runs c r (fs++[f])=KI (runs c r fs) f:=by unfold runs;rw[List.foldl_append];rfl
noncomputable def aX(c r:Nat)(fs:List Fold):D:=bP c r (runs c r fs).2.1 (runs c r fs).2.2 (runs c r fs).1 (fs.map Fold.d) []
structure Stg (c r:Nat) (fs:List Fold) (sp:List Spot):Prop where
 sits:Sits (runs c r fs).1 (runs c r fs).2.1 (runs c r fs).2.2 sp
 len:sp.length=c*r
def Fits(c r:Nat)(fs:List Fold)(f:Fold):Prop:=1≤f.k∧f.k<ext f.sd (runs c r fs).2.1 (runs c r fs).2.2
theorem Stg.fold{c r:Nat}{fs:List Fold}{sp:List Spot}(S:Stg c r fs sp){f:Fold}{top low:Int}(ok:Fits c r fs f)(ht:∀s∈sp,s.z≤top)(hl:∀s∈sp,low≤s.z) :
  Stg c r (fs++[f]) (sp.map (bC f.sd f.over f.k (max f.k (ext f.sd (runs c r fs).2.1 (runs c r fs).2.2-f.k)) top low)):=by
 refine⟨?_,by rw[og];exact S.len⟩
 rw[mC];exact S.sits.fold ok.1 ok.2 ht hl
structure Stgs (c r:Nat) (fs:List Fold) (sps:List (List Spot)):Prop where
 len:sps.length=fs.length+1
 at_:∀i sp,sps[i]?=some sp→Stg c r (fs.take i) sp
 ok:∀i f,fs[i]?=some f→Fits c r (fs.take i) f
theorem IP(l0:∀(c r w h:Nat) (T:Table) (F:List D) (sd:Side) (over:Bool) (k:Nat),Rect T w h→w≤1000→h≤1000→rF 400000 T→1≤k→(k<if sd.up then w else h)→F.length≤1000 →
   G.fn "folded" [bP c r w h T F [],.str sd.str,.bl over,.int k]=some (.ok (bP c r (if sd.up then max k (w-k) else w) (if sd.up then h else max k (h-k)) (foldT sd over k T) (F++[fB sd over k]) [])))
  {c r:Nat} {fs:List Fold} {sp:List Spot} (S:Stg c r fs sp) {f:Fold} (ok:Fits c r fs f) (hl:fs.length≤1000):G.fn "folded" [aX c r fs,.str f.sd.str,.bl f.over,.int f.k]=some (.ok (aX c r (fs++[f]))):=by
 have a:=S.sits.w64
 have b:=S.sits.h64
 unfold aX;rw[l0 c r _ _ _ _ f.sd f.over f.k S.sits.rect (by omega) (by omega) (fun s hs x hx=>p9 (S.sits.few s hs x hx) (by decide)) ok.1 ok.2 (by rw[og];exact hl),mC,qz]
 rfl
end
end Pg
namespace K18
open Pg
section
variable {G:GS}
noncomputable def eI:IS:=(.seq (.set 1 (.bin .mod (.var 0) (.lit (.int 6)))) (.seq (.set 2 (.bin .fdiv (.var 0) (.lit (.int 6)))) (.seq (.iff (.bin .lt (.var 1) (.lit (.int 4))) (.ret false (.tup (.cons (.bin .add (.lit (.int 1)) (.bin .mod (.var 2) (.lit (.int 5)))) (.cons (.bin .add (.lit (.int 1)) (.bin .mod (.bin .fdiv (.var 2) (.lit (.int 5))) (.lit (.int 4)))) .nil)))) .nop) (.seq (.iff (.bin .eq (.var 1) (.lit (.int 4))) (.ret false (.tup (.cons (.bin .add (.lit (.int 1)) (.bin .mod (.var 2) (.lit (.int 24)))) (.cons (.lit (.int 1)) .nil)))) .nop) (.ret false (.tup (.cons (.bin .add (.lit (.int 1)) (.bin .mod (.var 2) (.lit (.int 2)))) (.cons (.bin .add (.lit (.int 1)) (.bin .mod (.bin .fdiv (.var 2) (.lit (.int 2))) (.lit (.int 12)))) .nil))))))))
theorem wU{cell:Int}:∃c r:Nat,1≤c∧1≤r∧c*r≤24∧aO G 3 eI [.int cell]=some (.ok (.tup [.int c,.int r])):=by
 have m:∀(i:Int) (n:Int),0<n→aj .mod (.int i) (.int n)=some (.int (i % n)):=fun i n h=>CO h
 have d:∀(i:Int) (n:Int),0<n→n<1000000→aj .fdiv (.int i) (.int n)=some (.int (i / n)):=fun i n h h'=>rS h h'
 have b:∀(i:Int) (n:Nat),0<n→∃k:Nat,k<n∧i % (n:Int)=k:=fun i n h=>by
  have h0:=Int.emod_nonneg i (show (n:Int)≠0 by omega)
  have h1:=Int.emod_lt_of_pos i (show (0:Int)<n by omega)
  exact⟨(i % (n:Int)).toNat,by omega,by omega⟩
 have e1:ev G (.bin .mod (.var 0) (.lit (.int 6))) [.im (.int cell),.un,.un]=some (.int (cell % 6)):=by simp only[zz,yy,aA,aC,m _ 6 (by decide)]
 have e2:ev G (.bin .fdiv (.var 0) (.lit (.int 6))) [.im (.int cell),.im (.int (cell % 6)),.un]=some (.int (cell / 6)):=by simp only[zz,yy,aA,aC,d _ 6 (by decide) (by decide)]
 have t1:ev G (.bin .lt (.var 1) (.lit (.int 4))) (view [.im (.int cell),.im (.int (cell % 6)),.im (.int (cell / 6))])=some (.bl (decide (cell % 6<4))):=by simp only[zz,yy,aA,aC]
 have t2:ev G (.bin .eq (.var 1) (.lit (.int 4))) (view [.im (.int cell),.im (.int (cell % 6)),.im (.int (cell / 6))])=some (.bl (cell % 6 == 4)):=by simp only[zz,yy,aA,aC]
 have start:∀{o:D},(∃x,ex G x [.im (.int cell),.im (.int (cell % 6)),.im (.int (cell / 6))]=some (.rt o)∧eI=(.seq (.set 1 (.bin .mod (.var 0) (.lit (.int 6)))) (.seq (.set 2 (.bin .fdiv (.var 0) (.lit (.int 6)))) x)))→aO G 3 eI [.int cell]=some (.ok o):=by
  rintro o ⟨x,hx,e⟩;rw[e];exact aH (ρ:=[.im (.int cell),.un,.un]) rfl (aF (aP e1) (aF (aP e2) hx))
 cases h1:decide (cell % 6<4) with
 |true =>
  obtain⟨a,ha,ea⟩:=b (cell / 6) 5 (by decide)
  obtain⟨c,hc,ec⟩:=b (cell / 6 / 5) 4 (by decide)
  refine⟨1+a,1+c,by omega,by omega,?_,start ⟨_,fC (iK (t1.trans (by rw[h1])) (aK ?_)) (fun _ z=>by cases z),rfl⟩⟩
  ·have:(1+a)*(1+c)≤5*4:=mul_le_mul (by omega) (by omega)
   omega
  ·simp only[zz,yy,aA,aC,m _ 5 (by decide),d _ 5 (by decide) (by decide),m _ 4 (by decide)]
   have nq:cell / 6 % 5=a:=ea
   have ec':cell / 6 / 5 % 4=c:=ec
   rw[nq,ec']
   push_cast
   rfl
 |false =>
  cases h2:(cell % 6 == 4) with
  |true =>
   obtain⟨a,ha,ea⟩:=b (cell / 6) 24 (by decide)
   refine⟨1+a,1,by omega,by omega,by omega,start ⟨_,aF (bJ (t1.trans (by rw[h1])) aM) (fC (iK (t2.trans (by rw[h2])) (aK ?_)) (fun _ z=>by cases z)),rfl⟩⟩
   simp only[zz,yy,aA,aC,m _ 24 (by decide)]
   have nq:cell / 6 % 24=a:=ea
   rw[nq]
   push_cast
   rfl
  |false =>
   obtain⟨a,ha,ea⟩:=b (cell / 6) 2 (by decide)
   obtain⟨c,hc,ec⟩:=b (cell / 6 / 2) 12 (by decide)
   refine⟨1+a,1+c,by omega,by omega,?_,start ⟨_,aF (bJ (t1.trans (by rw[h1])) aM) (aF (bJ (t2.trans (by rw[h2])) aM) (aK ?_)),rfl⟩⟩
   ·have:(1+a)*(1+c)≤2*12:=mul_le_mul (by omega) (by omega)
    omega
   ·simp only[zz,yy,aA,aC,m _ 2 (by decide),d _ 2 (by decide) (by decide),m _ 12 (by decide)]
    have nq:cell / 6 % 2=a:=ea
    have ec':cell / 6 / 2 % 12=c:=ec
    rw[nq,ec']
    push_cast
    rfl
end
end K18
namespace Pg
section
variable {G:GS}
theorem dv{i n:Int}(h:0<n)(h':n<1000000):aj .fdiv (.int i) (.int n)=some (.int (i / n)):=rS h h'
end
end Pg
namespace K02
open Pg
section
variable {G:GS}
end
end K02
namespace K06
open Pg
section
variable {G:GS}
theorem nW{α:Type}{a b c d e:α}:atI [a,b,c,d,e] 0=some a∧atI [a,b,c,d,e] 1=some b∧atI [a,b,c,d,e] 3=some d∧atI [a,b,c,d,e] 4=some e:=⟨rfl,rfl,rfl,rfl⟩
theorem wF:∀sp:List Spot,∃top low:Int,(∀s∈sp,s.z≤top)∧(∀s∈sp,low≤s.z)
 |[]=>⟨0,0,fun _ h=>(nomatch h),fun _ h=>(nomatch h)⟩
 |s::sp=>by
  obtain⟨t,l,h1,h2⟩:=wF sp;refine⟨max t s.z,min l s.z,fun u hu=>?_,fun u hu=>?_⟩
  ·rcases pj.mp hu with e|hu
   ·rw[e];omega
   ·have:=h1 u hu;omega
  ·rcases pj.mp hu with e|hu
   ·rw[e];omega
   ·have:=h2 u hu;omega
noncomputable def lin(e:Bool)(p:Nat):Int:=if e then p else p+1
structure Meets (s t:Spot) (l:Bool):Prop where
 up:l=false→s.y=t.y∧s.n=t.n∧lin s.e s.x=lin (!t.e) t.x
 lv:l=true→s.x=t.x∧s.e=t.e∧lin s.n s.y=lin (!t.n) t.y
noncomputable def qE(nr:Bool)(c gr:Nat)(L:Int):Int:=if nr then(if (c:Int)≤L then L-c else c-L) else gr-(if (c:Int)≤L then L-c else c-L)
theorem lD{nr e:Bool}{c gr p:Nat}(h:cZ c p+1≤gr):lin (if moves nr c p then !e else e) (bF nr c gr p)=qE nr c gr (lin e p):=by
 unfold lin qE bF moves;unfold cZ at h ⊢
 by_cases q:c≤p
 ·rw[if_pos q]at h ⊢;rw[qc q];cases nr<;>cases e<;>simp<;>split<;>omega
 ·rw[if_neg q]at h ⊢;rw[oj q];cases nr<;>cases e<;>simp<;>split<;>omega
theorem rX{nr e:Bool}{c gr p:Nat}(h:cZ c p+1≤gr):lin (!(if moves nr c p then !e else e)) (bF nr c gr p)=qE nr c gr (lin (!e) p):=by
 rw[←lD (e:=!e) h];cases moves nr c p<;>rfl
theorem Meets.fold{s t:Spot}{l:Bool}(m:Meets s t l){sd:Side}{over:Bool}{c gr:Nat}{top low:Int}(hs:cZ c (s.al sd.up)+1≤gr)(ht:cZ c (t.al sd.up)+1≤gr):Meets (bC sd over c gr top low s) (bC sd over c gr top low t) l:=by
 unfold bC;unfold Spot.al at hs ht ⊢;cases hu:sd.up with
 |true =>
  rw[hu]at hs ht;simp only[if_true,Bool.and_true,pD,Bool.and_false,oo,if_false]at hs ht ⊢;refine⟨fun z=>?_,fun z=>?_⟩
  ·obtain⟨a,b,d⟩:=m.up z;exact⟨a,b,by dsimp only;rw[lD hs,rX ht,d]⟩
  ·obtain⟨a,b,d⟩:=m.lv z;exact⟨by dsimp only;rw[a],by dsimp only;rw[a,b],d⟩
 |false =>
  rw[hu]at hs ht;simp only[if_true,Bool.and_true,Bool.not_false,Bool.and_false,oo,if_false]at hs ht ⊢;refine⟨fun z=>?_,fun z=>?_⟩
  ·obtain⟨a,b,d⟩:=m.up z;exact⟨by dsimp only;rw[a],by dsimp only;rw[a,b],d⟩
  ·obtain⟨a,b,d⟩:=m.lv z;exact⟨a,b,by dsimp only;rw[lD hs,rX ht,d]⟩
def Mt(c n:Nat)(sp:List Spot):Prop:=∀j∈ah c n n,∀s t,sp[j.1]?=some s→sp[j.2.1]?=some t→Meets s t j.2.2
theorem qA{c p ex:Nat}(h1:1≤c)(h2:c<ex)(hp:p<ex):cZ c p+1≤max c (ex-c):=by
 unfold cZ;split<;>omega
theorem Mt.fold{c n:Nat}{sp:List Spot}(m:Mt c n sp){sd:Side}{over:Bool}{k gr:Nat}{top low:Int}(h:∀s∈sp,cZ k (s.al sd.up)+1≤gr):Mt c n (sp.map (bC sd over k gr top low)):=fun j hj s t hs ht=>by
 rw[oe]at hs ht;obtain⟨s',bg,rfl⟩:=oy.mp hs;obtain⟨t',ht',rfl⟩:=oy.mp ht;exact(m j hj s' t' bg ht').fold (h s' (o8 bg)) (h t' (o8 ht'))
theorem tS{c n k:Nat}{j:Nat×Nat×Bool}(h:j∈ah c n k):j.1<k∧((j.2.1=j.1+1∧j.2.2=false∧j.1 % c<c-1)∨(j.2.1=j.1+c∧j.2.2=true∧j.1+c<n)):=by
 unfold ah at h;obtain⟨i,hi,hj⟩:=List.mem_flatMap.mp h;have hi:=rq.mp hi
 unfold ed at hj
 rcases sk.mp hj with q|q
 ·by_cases z:i % c<c-1
  ·rw[qc z]at q;simp only[if_true,ph]at q;subst q;exact⟨hi,.inl ⟨rfl,rfl,z⟩⟩
  ·rw[oj z]at q;simp at q
 ·by_cases z:i+c<n
  ·rw[qc z]at q;simp only[if_true,ph]at q;subst q;exact⟨hi,.inr ⟨rfl,rfl,z⟩⟩
  ·rw[oj z]at q;simp at q
theorem iH{c r k:Nat}{s:Spot}(h:(fA c r)[k]?=some s):s=⟨k % c,k / c,0,false,false⟩:=by
 unfold fA at h;rw[oe]at h;obtain⟨i,hi,rfl⟩:=oy.mp h;have hk:=(o5.mp hi).1
 rw[p5]at hk;rw[qx hk]at hi;cases hi;rfl
theorem mod_succ{a c:Nat}(h:a % c<c-1):(a+1) % c=a % c+1∧(a+1) / c=a / c:=by
 have e:=div_add_mod a c
 have hc:0<c:=by omega
 generalize a / c=q at *;generalize a % c=m at *;rw[show a+1=c*q+(m+1) by omega]
 exact⟨by rw[Nat.mul_add_mod,Nat.mod_eq_of_lt (by omega)],by rw[Nat.mul_add_div hc,Nat.div_eq_of_lt (by omega),Nat.add_zero]⟩
theorem WR{c r:Nat}(hc:1≤c):Mt c (c*r) (fA c r):=fun j hj s t hs ht=>by
 rw[iH hs,iH ht]
 rcases (tS hj).2 with ⟨e1,e2,e3⟩|⟨e1,e2,e3⟩
 ·obtain⟨a,b⟩:=mod_succ e3;rw[e1,e2];refine⟨fun _=>⟨b.symm,rfl,?_⟩,fun z=>(nomatch z)⟩
  dsimp only;rw[a];rfl
 ·rw[e1,e2];refine⟨fun z=>(nomatch z),fun _=>⟨(Nat.add_mod_right _ _).symm,rfl,?_⟩⟩
  dsimp only;rw[Nat.add_div_right _ hc];rfl
def lV(s:Spot)(d:D):Prop:=∃l:Int,d=.tup [.int s.x,.int s.y,.int l,.bl s.e,.bl s.n]
structure Seats (Q:Nat→Int→Prop) (sp:List Spot) (out:List D) (P:Nat→Spot→Prop):Prop where
 len:out.length=sp.length
 at_:∀i s,sp[i]?=some s→P i s→∃l:Int,Q i l∧out[i]?=some (.tup [.int s.x,.int s.y,.int l,.bl s.e,.bl s.n])
 non:∀i s,sp[i]?=some s→¬P i s→out[i]?=some .non
theorem Seats.has{A:Nat→Int→Prop}{sp:List Spot}{out:List D}{P:Nat→Spot→Prop}(S:Seats A sp out P)(i:Nat)(s:Spot)(hs:sp[i]?=some s)(p:P i s):∃d,out[i]?=some d∧lV s d:=
 let ⟨l,_,e⟩:=S.at_ i s hs p;⟨_,e,l,rfl⟩
theorem Seats.iff{A:Nat→Int→Prop}{sp:List Spot}{out:List D}{P Q:Nat→Spot→Prop}(S:Seats A sp out P)(h:∀i s,sp[i]?=some s→(Q i s↔P i s)):Seats A sp out Q:=
 ⟨S.len,fun i s hs q=>S.at_ i s hs ((h i s hs).mp q),fun i s hs q=>S.non i s hs fun z=>q ((h i s hs).mpr z)⟩
noncomputable def PF:IS:=(.seq (.iff (.or (.not (.tr (.isi (.var 5) "tuple"))) (.or (.bin .ne (.bcall .len (.cons (.var 5) .nil)) (.lit (.int 3))) (.not (.tr (.call "_law_whole" (.cons (.ix (.var 5) (.lit (.int 0))) .nil)))))) (.retq (.lit (.bl false))) .nop) (.seq (.iff (.or (.not (.tr (.isi (.ix (.var 5) (.lit (.int 1))) "bool"))) (.not (.tr (.isi (.ix (.var 5) (.lit (.int 2))) "bool")))) (.retq (.lit (.bl false))) .nop) (.seq (.iff (.or (.bin .lt (.ix (.var 5) (.lit (.int 0))) (.lit (.int 0))) (.or (.bin .ge (.ix (.var 5) (.lit (.int 0))) (.lenm 0)) (.bin .isnot (.ixm 0 (.ix (.var 5) (.lit (.int 0)))) (.lit .non)))) (.retq (.lit (.bl false))) .nop) (.seq (.put 0 (.ix (.var 5) (.lit (.int 0))) (.tup (.cons (.var 2) (.cons (.var 3) (.cons (.var 4) (.cons (.ix (.var 5) (.lit (.int 1))) (.cons (.ix (.var 5) (.lit (.int 2))) .nil))))))) (.set 4 (.bin .add (.var 4) (.lit (.int 1))))))))
noncomputable def pY:IS:=(.seq (.set 4 (.lit (.int 0))) (.seq (.loop [5] false .seq (.var 1) PF) (.retq (.lit (.bl true)))))
noncomputable def cW(out:List D)(hp:D)(x y:Nat)(s4 s5:Sl):List Sl:=[.mu (.lst out),.im hp,.im (.int x),.im (.int y),s4,s5]
theorem WT{A:Nat→Int→Prop}(hw:∀i:Int,G.fn "_law_whole" [.int i]=some (.ok (.bl true))){T:Table}{sp:List Spot}(L:Lk T sp)(h64:sp.length≤64){x y:Nat}{out:List D}{P:Nat→Spot→Prop}(hA:∀(k i:Nat) (s:Spot),sp[i]?=some s→s.x=x→s.y=y→(ai T x y)[k]?=some ((i:Int),s.e,s.n)→A i k)(S:Seats A sp out P)(hP:∀i s,sp[i]?=some s→s.x=x→s.y=y→¬P i s) :
  ∃ae,runM G 6 pY (.lst out) [hE (ai T x y),.int x,.int y]=some (.bl true,.lst ae)∧Seats A sp ae (fun i s=>P i s∨(s.x=x∧s.y=y)):=by
 obtain⟨ρ',a,ae,s5,b,S'⟩:=eK (bind:=bB [5] false) (body:=ex G PF) (fun k ρ=>∃ae s5,ρ=cW ae (hE (ai T x y)) x y (.im (.int (k:Nat))) s5∧Seats A sp ae (fun i s=>P i s∨((i:Int),s.e,s.n)∈(ai T x y).take k))
  (ds:=(ai T x y).map bY) (k:=0) (ρ:=cW out (hE (ai T x y)) x y (.im (.int (0:Nat))) .un) ⟨out,.un,rfl,S.iff fun i s _=>⟨fun q=>q.elim id fun z=>by simp at z,.inl⟩⟩ (by
   rintro k d ρ hd ⟨ae,s5,rfl,S'⟩;rw[oe]at hd;obtain⟨cl,ak,rfl⟩:=oy.mp hd;rw[pq]at S' ⊢;have hk:k<(ai T x y).length:=(o5.mp ak).1
   have hmem:=o8 ak
   obtain⟨i,s,hs,sx,sy,rfl⟩:=(L.mem x y cl).mp hmem;have hi:=(o5.mp hs).1
   have nt:((i:Int),s.e,s.n)∉(ai T x y).take k:=fun z=>by
    have pw:=L.ord x y
    have e:ai T x y=(ai T x y).take k++((i:Int),s.e,s.n)::(ai T x y).drop (k+1):=by
     obtain⟨hi',ea⟩:=o5.mp ak;rw[←ea,←List.drop_eq_getElem_cons hi',List.take_append_drop]
    rw[e]at pw;exact absurd ((sj.mp pw).2.2 _ z _ qw) (Int.lt_irrefl _)
   have nP:¬(P i s∨((i:Int),s.e,s.n)∈(ai T x y).take k):=fun z=>z.elim (hP i s hs sx sy) nt
   have hnon:=S'.non i s hs nP
   have hlen:=S'.len
   have hat:atI ae (i:Int)=some .non:=dM hnon
   have hix:ixN ae.length (i:Int)=some i:=by
    unfold ixN;rw[if_pos (by omega),if_pos (by omega)];simp
   refine⟨cW ae (hE (ai T x y)) x y (.im (.int (k:Nat))) (.im (bY ((i:Int),s.e,s.n))),rfl,_,aF (bJ ?_ aM) (aF (bJ ?_ aM) (aF (bJ ?_ aM) (aF (aCO (d:=.tup [.int x,.int y,.int (k:Nat),.bl s.e,.bl s.n]) (i:=i) (ds:=ae) (j:=i) ?_ ?_ rfl hix) (aP (d:=.int ((k+1:Nat):Int)) ?_)))),ae.set i (.tup [.int x,.int y,.int (k:Nat),.bl s.e,.bl s.n]),.im (bY ((i:Int),s.e,s.n)),rfl,?_⟩
   ·unfold cW bY;simp only[dU,fP,bL];refine cX (x:=false) (y:=false) (by simp only[zz,yy,aA,aC,WK,cR,pD]) fun _=>cX (x:=false) (y:=false) ?_ fun _=>?_
    ·simp only[zz,yy,aA,aC];rfl
    ·simp only[zz,yy,aA,aC,nX.1,hw,cR,pD]
   ·unfold cW bY;simp only[dU,fP,bL];exact cX (x:=false) (y:=false) (by simp only[zz,yy,aA,aC,nX.2.1,nJ,cR,pD]) fun _=>by simp only[zz,yy,aA,aC,nX.2.2,nJ,cR,pD]
   ·unfold cW bY;simp only[dU,fP,bL];refine cX (x:=false) (y:=false) ?_ fun _=>cX (x:=false) (y:=false) ?_ fun _=>?_
    ·simp only[zz,yy,aA,aC,nX.1];rw[oj (by omega)]
    ·rw[aU,EY];show (ev G (.ix (.var 5) (.lit (.int 0))) _).bind (fun u=>aj .ge u (.int (ae.length:Nat)))=_
     simp only[zz,yy,aA,aC,nX.1];rw[oj (by omega)]
    ·have sl:∀r,fZ (.im (.lst ae)::r) 0=some ae:=fun _=>rfl
     rw[aU,OI,sl];simp only[zz,yy,aA,aC,nX.1];show (atI ae (i:Int)).bind _=_
     rw[hat];rfl
   ·unfold cW bY;simp only[zz,yy,aA,aC,nX.2.1,nX.2.2]
   ·unfold cW bY;simp only[zz,yy,aA,aC,nX.1]
   ·unfold cW;simp only[List.set];simp only[zz,yy,aA,aC];rfl
   ·refine⟨by rw[List.length_set];exact hlen,fun j t ht q=>?_,fun j t ht q=>?_⟩
    ·by_cases e:j=i
     ·subst e;rw[hs]at ht;cases ht;exact⟨(k:Int),hA k j s hs sx sy ak,by rw[p6 (by omega),sx,sy]⟩
     ·rw[p7 (Ne.symm e)];refine S'.at_ j t ht (q.imp id fun q=>?_)
      rw[r8,ak]at q
      rcases sk.mp q with q|q
      ·exact q
      ·exfalso
       have q:((j:Int),t.e,t.n)=((i:Int),s.e,s.n):=by simpa using q
       have q:(j:Int)=i:=congrArg (·.1) q
       exact e (by exact_mod_cast q)
    ·have e:j≠i:=fun e=>by
      subst e;rw[hs]at ht;cases ht;exact q (.inr (by rw[r8,ak];simp))
     rw[p7 (Ne.symm e)];exact S'.non j t ht fun z=>q (z.imp id fun z=>by rw[r8];exact qk _ z))
 refine⟨ae,?_,S'.iff fun i s hs=>or_congr Iff.rfl ?_⟩
 ·have e:ex G pY (cW out (hE (ai T x y)) x y .un .un)=some (.rm (.bl true) (cW ae (hE (ai T x y)) x y (.im (.int ((0+((ai T x y).map bY).length:Nat):Int))) s5)):=by
   refine aF (aP (d:=.int (0:Nat)) (by unfold cW;simp only[zz,yy];rfl)) (aF ((bO (d:=hE (ai T x y)) (by unfold cW;simp only[List.set];simp only[zz,yy]) eG).trans (a.trans (by rw[b]))) ?_)
   rfl
  unfold runM;rw[show (Sl.mu (.lst out)::([hE (ai T x y),.int x,.int y]:List D).map Sl.im++List.replicate (6-(([hE (ai T x y),.int x,.int y]:List D).length+1)) Sl.un)=cW out (hE (ai T x y)) x y .un .un from rfl,e]
  rfl
 ·rw[og,pq,sf];constructor
  ·rintro⟨q1,q2⟩;exact(L.mem x y _).mpr ⟨i,s,hs,q1,q2,rfl⟩
  ·intro q;obtain⟨j,t,ht,tx,ty,e⟩:=(L.mem x y _).mp q;have e1:(i:Int)=j:=congrArg (·.1) e
   have e1:i=j:=by exact_mod_cast e1
   subst e1;rw[hs]at ht;cases ht;exact⟨tx,ty⟩
theorem aCP{ρ:List Sl}{t es:IE}{f:Str}{x:Nat}{a:IS}{o o':D}{as:List D}(ht:ev G t (view ρ)=some (.bl false))(he:bH (ev G es ρ)=some as)(hx:ρ[x]?=some (.mu o))(hf:G.fm f o as=some (.bl true,o')):ex G (.fil t f x es a) ρ=some (.nx (ρ.set x (.mu o'))):=by
 simp only[ex,ht,he,qu];rw[hx];simp only[hf,qu]
theorem FI{t r:List Sl→Option D}{i:Nat}(P:List Sl→Prop):∀(ds:List D) (ρ:List Sl),P ρ→(∀d∈ds,∀ρ,P ρ→t (ρ.set i (.im d))=some (.bl false)∧P (ρ.set i (.im d)))→∃ρ',qN t r i ds ρ=some (.nx ρ')∧P ρ'
 |[],ρ,h,_=>⟨ρ,rfl,h⟩
 |d::ds,ρ,h,st=>by
  obtain⟨h1,h2⟩:=st d qw ρ h;obtain⟨ρ',a,b⟩:=FI (t:=t) (r:=r) P ds _ h2 fun e he=>st e (oq _ he)
  refine⟨ρ',?_,b⟩;show (t (ρ.set i (.im d))).bind _=_
  rw[h1];exact a
noncomputable def b_x:IS:=(.seq (.set 4 (.meth (.var 0) "heap" (.cons (.var 3) (.cons (.var 2) .nil)))) (.fil (.not (.tr (.isi (.var 4) "list"))) "_law_fill" 1 (.cons (.var 4) (.cons (.var 3) (.cons (.var 2) .nil))) (.ret false (.lit .non))))
noncomputable def b_y:IS:=(.loop [3] false .rng (.tup (.cons (.fld (.var 0) "wide") .nil)) b_x)
noncomputable def oH:IS:=(.seq (.iff (.or (.not (.tr (.call "_law_whole" (.cons (.fld (.var 0) "wide") .nil)))) (.not (.tr (.call "_law_whole" (.cons (.fld (.var 0) "high") .nil))))) (.ret false (.lit .non)) .nop) (.seq (.setm 1 (.comp 2 [] [1] false .rng (.tup (.cons (.bin .mul (.fld (.var 0) "columns") (.fld (.var 0) "rows")) .nil)) (.lit (.bl true)) (.lit .non))) (.seq (.loop [2] false .rng (.tup (.cons (.fld (.var 0) "high") .nil)) b_y) (.seq (.chkm 1 5 (.bin .is (.var 5) (.lit .non)) (.lit .non)) (.retm 1)))))
noncomputable def dt(p:D)(out:List D)(s2 s3 s4 s5:Sl):List Sl:=[.im p,.mu (.lst out),s2,s3,s4,s5]
theorem KP{A:Nat→Int→Prop}(hf:G.fl "Pile" = de)(hw:∀i:Int,G.fn "_law_whole" [.int i]=some (.ok (.bl true)))
  (hhp:∀(c r w h:Nat) (T:Table) (F S:List D) (x y:Nat),Rect T w h→x<w→y<h→G.me "Pile" "heap" [bP c r w h T F S,.int x,.int y]=some (.ok (hE (ai T x y))))
  (hfm:∀(T:Table) (sp:List Spot) (x y:Nat) (out:List D) (P:Nat→Spot→Prop),Lk T sp→sp.length≤64→(∀(k i:Nat) (s:Spot),sp[i]?=some s→s.x=x→s.y=y→(ai T x y)[k]?=some ((i:Int),s.e,s.n)→A i k)→Seats A sp out P→(∀i s,sp[i]?=some s→s.x=x→s.y=y→¬P i s)→∃ae,G.fm "_law_fill" (.lst out) [hE (ai T x y),.int x,.int y]=some (.bl true,.lst ae)∧Seats A sp ae (fun i s=>P i s∨(s.x=x∧s.y=y)))
  {c r w h:Nat} {T:Table} {F C:List D} {sp:List Spot} (S:Sits T w h sp) (hA:∀(k i:Nat) (s:Spot),sp[i]?=some s→(ai T s.x s.y)[k]?=some ((i:Int),s.e,s.n)→A i k) (hs:sp.length=c*r) (hc:c≤64):∃ds,aO G 6 oH [bP c r w h T F C]=some (.ok (.lst ds))∧Seats A sp ds (fun _ _=>True):=by
 have w64:=S.w64
 have h64:=S.h64
 have n64:=S.len
 have e0:∀r',ev G (.var 0) (.im (bP c r w h T F C)::r')=some (cG c r w h (T.map sE) F C):=fun _=>by simp only[zz,yy];rfl
 have row:∀(y:Nat) (out:List D) (s3 s4:Sl),y<h→Seats A sp out (fun _ s=>s.y<y)→∃ρ',ex G b_y (dt (bP c r w h T F C) out (.im (.int y)) s3 s4 .un)=some (.nx ρ')∧∃ae t3 t4,ρ'=dt (bP c r w h T F C) ae (.im (.int y)) t3 t4 .un∧Seats A sp ae (fun _ s=>s.y<y+1):=by
  intro y out s3 s4 hy S0;obtain⟨ρ',a,ae,t3,t4,b,S'⟩:=fN (bind:=bB [3] false) (body:=ex G b_x) (fun k ρ=>∃ae t3 t4,ρ=dt (bP c r w h T F C) ae (.im (.int y)) t3 t4 .un∧Seats A sp ae (fun _ s=>s.y<y∨(s.y=y∧s.x<k)))
   (n:=w) (ρ:=dt (bP c r w h T F C) out (.im (.int y)) s3 s4 .un) ⟨out,s3,s4,rfl,S0.iff fun i s _=>⟨fun q=>q.elim id fun z=>absurd z.2 (not_lt_zero _),.inl⟩⟩ (by
    rintro x hx ρ ⟨ae,t3,t4,rfl,S'⟩;obtain⟨out2,e2,S2⟩:=hfm T sp x y ae _ S.lk n64 (fun k i s a b c e=>hA k i s a (by rw[b,c];exact e)) S' (fun i s _ sx sy q=>by omega)
    refine⟨dt (bP c r w h T F C) ae (.im (.int y)) (.im (.int (x:Nat))) t4 .un,rfl,_,aF (aP (d:=hE (ai T x y)) ?_) (aCP (o:=.lst ae) (as:=[hE (ai T x y),.int x,.int y]) ?_ ?_ rfl e2),out2,.im (.int (x:Nat)),.im (hE (ai T x y)),rfl,S2.iff fun i s _=>by omega⟩
    ·exact LS (c:=c) (r:=r) (w:=w) (h:=h) (T:=T.map sE) (F:=F) (S:=C) (ds:=[.int x,.int y]) rfl (e0 _) (by simp only[zz,yy,aA,aC]) (hhp c r w h T F C x y S.rect hx hy)
    ·unfold dt hE;simp only[List.set,dU,fP,bL];simp only[zz,yy,aA,aC,WL,cR,pD]
    ·unfold dt;simp only[List.set];simp only[zz,yy,aA,aC])
  refine⟨ρ',(bO (d:=.tup [.int ((w:Nat):Int)]) ?_ (eQ (by omega))).trans a,ae,t3,t4,b,S'.iff fun i s hs=>?_⟩
  ·unfold dt;rw[jE,aJ,mI hf (e0 _)];simp only[zz,yy,aA,aC]
  ·have:=S.xlt (o8 hs)
   omega
 obtain⟨ρ',a,ae,t2,t3,t4,rfl,S'⟩:=fN (bind:=bB [2] false) (body:=ex G b_y) (fun k ρ=>∃ae t2 t3 t4,ρ=dt (bP c r w h T F C) ae t2 t3 t4 .un∧Seats A sp ae (fun _ s=>s.y<k))
  (n:=h) (ρ:=dt (bP c r w h T F C) ((List.range (c*r)).map fun _=>D.non) .un .un .un .un) ⟨_,.un,.un,.un,rfl,⟨by rw[og,p5,hs],fun _ _ _ z=>absurd z (not_lt_zero _),fun i s hi _=>by
   have:=(o5.mp hi).1
   rw[oe,qx (by omega)];rfl⟩⟩ (by
   rintro y hy ρ ⟨ae,t2,t3,t4,rfl,S'⟩;obtain⟨ρ2,l2,out2,u3,u4,rfl,S2⟩:=row y ae t3 t4 hy S';exact⟨dt (bP c r w h T F C) ae (.im (.int (y:Nat))) t3 t4 .un,rfl,_,l2,out2,.im (.int (y:Nat)),u3,u4,rfl,S2⟩)
 have S2:Seats A sp ae (fun _ _=>True):=S'.iff fun i s hs=>⟨fun _=>S.ylt (o8 hs),fun _=>trivial⟩
 obtain⟨ρ2,ck,s5,rfl⟩:=FI (t:=fun ρ=>ev G (.bin .is (.var 5) (.lit .non)) (view ρ)) (r:=fun ρ=>b0 G (.lit .non) ρ) (i:=5) (fun ρ=>∃s5,ρ=dt (bP c r w h T F C) ae t2 t3 t4 s5) ae (dt (bP c r w h T F C) ae t2 t3 t4 .un) ⟨_,rfl⟩ (by
  rintro d hd ρ ⟨s5,rfl⟩;obtain⟨i,hi⟩:=List.mem_iff_getElem?.mp hd;have hl:=(o5.mp hi).1
  rw[S2.len]at hl;obtain⟨d',e1,l,rfl⟩:=S2.has i _ (oa hl) trivial;rw[hi]at e1;cases e1;refine⟨?_,_,rfl⟩;show ev G _ (view [_,_,t2,t3,t4,.im _])=_
  simp only[dU,bL];rw[aU];rfl)
 refine⟨ae,aH (ρ:=[.im (bP c r w h T F C),.un,.un,.un,.un,.un]) rfl (aF (bJ ?_ aM) (aF (lK (ds:=(List.range (c*r)).map fun _=>D.non) ?_) (aF ((bO (d:=.tup [.int ((h:Nat):Int)]) ?_ (eQ (by omega))).trans a) (aF (ρ':=dt (bP c r w h T F C) ae t2 t3 t4 s5) ?_ (lL rfl))))),S2⟩
 ·simp only[dU,fP,bL];refine cX (x:=false) (y:=false) ?_ fun _=>?_
  ·rw[vT,iR,aW,aJ,mI hf (e0 _)];simp only[zz,yy,aA,aC,hw,cR,pD]
  ·rw[vT,iR,aW,aJ,mJ hf (e0 _)];simp only[zz,yy,aA,aC,hw,cR,pD]
 ·refine dC (L:=List.range (c*r)) (fun (k:Nat)=>D.int k) (fun _=>D.non) (s:=.tup [.int ((c*r:Nat):Int)]) ?_ (eQ (by omega)) fun k _=>⟨[.un,.im (.int (k:Nat))],rfl,by simp only[zz,yy],by simp only[zz,yy]⟩
  rw[jE,aJ,aU,mK hf (e0 _),AB hf (e0 _)];simp only[zz,yy,aA,aC,jO (show c≤1000000 by omega)]
 ·simp only[List.set];rw[jE,aJ,mJ hf (e0 _)];simp only[zz,yy,aA,aC]
 ·exact ck
noncomputable def PD:IS:=(.seq (.iff (.bin .lt (.bin .mod (.var 3) (.var 0)) (.bin .sub (.var 0) (.lit (.int 1)))) (.app 2 (.tup (.cons (.var 3) (.cons (.bin .add (.var 3) (.lit (.int 1))) (.cons (.lit (.bl false)) .nil))))) .nop) (.iff (.bin .lt (.bin .fdiv (.var 3) (.var 0)) (.bin .sub (.var 1) (.lit (.int 1)))) (.app 2 (.tup (.cons (.var 3) (.cons (.bin .add (.var 3) (.var 0)) (.cons (.lit (.bl true)) .nil))))) .nop))
noncomputable def uC:IS:=(.seq (.setm 2 (.lst .nil)) (.seq (.loop [3] false .rng (.tup (.cons (.bin .mul (.var 0) (.var 1)) .nil)) PD) (.retm 2)))
theorem MK{c r k:Nat}(hc:1≤c)(hr:1≤r):decide (((k / c:Nat):Int)<(r:Int)-1)=decide (k+c<c*r):=by
 refine decide_eq_decide.mpr ?_;have:=Nat.div_lt_iff_lt_mul (x:=k+c) (k:=c) (y:=r) hc
 rw[Nat.add_div_right _ hc,mul_comm r c]at this;omega
theorem VM{c r:Nat}(hc:1≤c)(hr:1≤r)(cH:c*r≤64)(hc6:c≤64):aO G 4 uC [.int c,.int r]=some (.ok (.lst ((ah c (c*r) (c*r)).map c7))):=by
 obtain⟨ρ',l,s3,rfl⟩:=fN (bind:=bB [3] false) (body:=ex G PD) (fun k ρ=>∃s3,ρ=[.im (.int c),.im (.int r),.mu (.lst ((ah c (c*r) k).map c7)),s3]) (n:=c*r) (ρ:=[.im (.int c),.im (.int r),.mu (.lst []),.un]) ⟨_,rfl⟩ (by
   rintro k hk ρ ⟨s3,rfl⟩;have hl:=iA (c:=c) (n:=c*r) k
   refine⟨[.im (.int c),.im (.int r),.mu (.lst ((ah c (c*r) k).map c7)),.im (.int (k:Nat))],rfl,_,aF (lM (b:=decide (k % c<c-1)) (d:=c7 (k,k+1,false)) ?_ ?_ rfl (by rw[og];omega)) (lM (b:=decide (k+c<c*r)) (d:=c7 (k,k+c,true)) ?_ ?_ rfl ?_),.im (.int k),?_⟩
   ·simp only[zz,yy,aA,aC,oA hc,FE hc]
   ·simp only[zz,yy,aA,aC];rfl
   ·simp only[List.set];simp only[zz,yy,aA,aC,vV hc (show c<1000000 by omega),MK hc hr]
   ·simp only[List.set];simp only[zz,yy,aA,aC];rfl
   ·rw[pv,og];split<;>simp<;>omega
   ·simp only[List.set,lA,qz,List.append_assoc,CQ])
 refine aH (ρ:=[.im (.int c),.im (.int r),.un,.un]) rfl (aF (lK (ds:=[]) (by simp only[zz,yy,aC])) (aF ((bO (d:=.tup [.int ((c*r:Nat):Int)]) ?_ (eQ (by omega))).trans l) (lL rfl)))
 simp only[List.set];simp only[zz,yy,aA,aC,jO (show c≤1000000 by omega)]
noncomputable def uE:IS:=(.seq (.iff (.tr (.var 1)) (.ret false (.ite (.tr (.ix (.var 0) (.lit (.int 4)))) (.ix (.var 0) (.lit (.int 1))) (.bin .add (.ix (.var 0) (.lit (.int 1))) (.lit (.int 1))))) .nop) (.ret false (.ite (.tr (.ix (.var 0) (.lit (.int 3)))) (.ix (.var 0) (.lit (.int 0))) (.bin .add (.ix (.var 0) (.lit (.int 0))) (.lit (.int 1))))))
noncomputable def uI:IS:=(.seq (.iff (.tr (.var 1)) (.ret false (.ite (.tr (.ix (.var 0) (.lit (.int 4)))) (.bin .add (.ix (.var 0) (.lit (.int 1))) (.lit (.int 1))) (.ix (.var 0) (.lit (.int 1))))) .nop) (.ret false (.ite (.tr (.ix (.var 0) (.lit (.int 3)))) (.bin .add (.ix (.var 0) (.lit (.int 0))) (.lit (.int 1))) (.ix (.var 0) (.lit (.int 0))))))
theorem WA{s:Spot}{d:D}(h:lV s d){l:Bool}:aO G 2 uE [d,.bl l]=some (.ok (.int (if l then lC s else lQ s))):=by
 obtain⟨z,rfl⟩:=h;refine aH (ρ:=[.im (.tup [.int s.x,.int s.y,.int z,.bl s.e,.bl s.n]),.im (.bl l)]) rfl ?_;unfold lC lQ;cases l with
 |true =>
  refine fC (iK ?_ (aK ?_)) (fun _ z=>by cases z)
  ·simp only[zz,yy,aA,aC,cR]
  ·cases s.n<;>(simp only[zz,yy,aA,aC,cR,nW.2.1,nW.2.2.2];rfl)
 |false =>
  refine aF (bJ ?_ aM) (aK ?_)
  ·simp only[zz,yy,aA,aC,cR]
  ·cases s.e<;>(simp only[zz,yy,aA,aC,cR,nW.1,nW.2.2.1];rfl)
theorem YC{s:Spot}{d:D}(h:lV s d){l:Bool}:aO G 2 uI [d,.bl l]=some (.ok (.int (if l then lin (!s.n) s.y else lin (!s.e) s.x))):=by
 obtain⟨z,rfl⟩:=h;refine aH (ρ:=[.im (.tup [.int s.x,.int s.y,.int z,.bl s.e,.bl s.n]),.im (.bl l)]) rfl ?_;unfold lin;cases l with
 |true =>
  refine fC (iK ?_ (aK ?_)) (fun _ z=>by cases z)
  ·simp only[zz,yy,aA,aC,cR]
  ·cases s.n<;>(simp only[zz,yy,aA,aC,cR,nW.2.1,nW.2.2.2];rfl)
 |false =>
  refine aF (bJ ?_ aM) (aK ?_)
  ·simp only[zz,yy,aA,aC,cR]
  ·cases s.e<;>(simp only[zz,yy,aA,aC,cR,nW.1,nW.2.2.1];rfl)
noncomputable def uD:IS:=(.seq (.iff (.and (.tr (.var 2)) (.or (.bin .ne (.ix (.var 0) (.lit (.int 0))) (.ix (.var 1) (.lit (.int 0)))) (.bin .ne (.ix (.var 0) (.lit (.int 3))) (.ix (.var 1) (.lit (.int 3)))))) (.ret false (.lit (.bl false))) .nop) (.seq (.iff (.and (.not (.tr (.var 2))) (.or (.bin .ne (.ix (.var 0) (.lit (.int 1))) (.ix (.var 1) (.lit (.int 1)))) (.bin .ne (.ix (.var 0) (.lit (.int 4))) (.ix (.var 1) (.lit (.int 4)))))) (.ret false (.lit (.bl false))) .nop) (.ret false (.bin .eq (.call "_law_line" (.cons (.var 0) (.cons (.var 2) .nil))) (.call "_law_back_line" (.cons (.var 1) (.cons (.var 2) .nil)))))))
theorem VN{a:Bool}:aj .ne (.bl a) (.bl a)=some (.bl false):=by cases a<;>rfl
theorem aHg{i:Int}:aj .ne (.int i) (.int i)=some (.bl false):=by rw[VI,beq_self_eq_true];rfl
theorem VZ(hli:∀(s:Spot) (d:D) (l:Bool),lV s d→G.fn "_law_line" [d,.bl l]=some (.ok (.int (if l then lC s else lQ s))))(hbk:∀(s:Spot) (d:D) (l:Bool),lV s d→G.fn "_law_back_line" [d,.bl l]=some (.ok (.int (if l then lin (!s.n) s.y else lin (!s.e) s.x))))
  {s t:Spot} {d e:D} {l:Bool} (hs:lV s d) (ht:lV t e) (m:Meets s t l):aO G 3 uD [d,e,.bl l]=some (.ok (.bl true)):=by
 have el:=hli s d l hs
 have eb:=hbk t e l ht
 refine aH (ρ:=[.im d,.im e,.im (.bl l)]) rfl (aF (bJ ?_ aM) (aF (bJ ?_ aM) (aK ?_)))
 ·simp only[dU,fP,bL];refine(gJ (x:=l) (y:=false) (by simp only[zz,yy,aA,aC,cR]) fun hl=>?_).trans (by rw[Bool.and_false])
  obtain⟨a,b,_⟩:=m.lv hl;obtain⟨z,rfl⟩:=hs;obtain⟨z',rfl⟩:=ht;refine cX (x:=false) (y:=false) ?_ fun _=>?_
  ·simp only[zz,yy,aA,aC,nW.1,a,beq_self_eq_true,pD]
  ·simp only[zz,yy,aA,aC,nW.2.2.1,b,VN]
 ·simp only[dU,fP,bL];refine(gJ (x:=!l) (y:=false) (by simp only[zz,yy,aA,aC,cR]) fun hl=>?_).trans (by rw[Bool.and_false])
  obtain⟨a,b,_⟩:=m.up (by simpa using hl)
  obtain⟨z,rfl⟩:=hs;obtain⟨z',rfl⟩:=ht;refine cX (x:=false) (y:=false) ?_ fun _=>?_
  ·simp only[zz,yy,aA,aC,nW.2.1,a,beq_self_eq_true,pD]
  ·simp only[zz,yy,aA,aC,nW.2.2.2,b,VN]
 ·have e1:(if l then lC s else lQ s)=if l then lin (!t.n) t.y else lin (!t.e) t.x:=by
   cases hl:l with
   |true=>exact(m.lv hl).2.2
   |false=>exact(m.up hl).2.2
  simp only[zz,yy,aA,aC,el,eb];rw[e1,beq_self_eq_true]
end
end K06
end Z
namespace G07
def In(m a b:Int):Prop:=(a<m∧m<b)∨(b<m∧m<a)
structure NX {α:Type} (p1 q1:α) (z1 w1:Int) (p2 q2:α) (z2 w2:Int):Prop where
 bb:p1=q1→p2=q2→p1=p2→(In z2 z1 w1↔In w2 z1 w1)
 b1:p1=q1→p2≠q2→(p2=p1→¬In z2 z1 w1)∧(q2=p1→¬In w2 z1 w1)
 b2:p2=q2→p1≠q1→(p1=p2→¬In z1 z2 w2)∧(q1=p2→¬In w1 z2 w2)
 br:p1≠q1→p2≠q2→(p1=p2→(z1<z2↔w1<w2))∧(p1=q2→(z1<w2↔w1<z2))
structure Df {α:Type} (p1 q1:α) (z1 w1:Int) (p2 q2:α) (z2 w2:Int):Prop where
 a:p1=p2→z1≠z2
 b:p1=q2→z1≠w2
 c:q1=p2→w1≠z2
 d:q1=q2→w1≠w2
noncomputable def bt(m:Bool)(K z:Int):Int:=if m then K-z else z
structure Sm {α β:Type} (p1 q1 p2 q2:α) (gj gf gh gd:β):Prop where
 a:p1=q1↔gj=gf
 b:p2=q2↔gh=gd
 c:p1=p2↔gj=gh
 d:p1=q2↔gj=gd
 e:q1=p2↔gf=gh
theorem NX.re{α β:Type}{p1 q1 p2 q2:α}{gj gf gh gd:β}{z1 w1 z2 w2:Int}(m:Sm p1 q1 p2 q2 gj gf gh gd)(x:NX p1 q1 z1 w1 p2 q2 z2 w2):NX gj gf z1 w1 gh gd z2 w2 where
 bb a b c:=x.bb (m.a.mpr a) (m.b.mpr b) (m.c.mpr c)
 b1 a b:=let ⟨h1,h2⟩:=x.b1 (m.a.mpr a) fun z=>b (m.b.mp z);⟨fun e=>h1 (m.c.mpr e.symm).symm,fun e=>h2 ((m.d.mpr (e.symm)).symm)⟩
 b2 a b:=let ⟨h1,h2⟩:=x.b2 (m.b.mpr a) fun z=>b (m.a.mp z);⟨fun e=>h1 (m.c.mpr e),fun e=>h2 (m.e.mpr e)⟩
 br a b:=let ⟨h1,h2⟩:=x.br (fun z=>a (m.a.mp z)) fun z=>b (m.b.mp z);⟨fun e=>h1 (m.c.mpr e),fun e=>h2 (m.d.mpr e)⟩
section
variable {z1 w1 z2 w2 K:Int}
theorem gF{m a b:Int}:In (K-m) (K-a) (K-b)↔In m a b:=by unfold In;omega
theorem oT{a b c:Bool}(h1:a≠b)(h2:c≠b):a=c:=by cases a<;>cases b<;>cases c<;>first|rfl|exact absurd rfl h1|exact absurd rfl h2
theorem CT{a b c d:Int}(h:a<b↔c<d)(h1:a≠b)(h2:c≠d):K-a<K-b↔K-c<K-d:=by omega
theorem flip{p1 q1 p2 q2:Bool}(d:Df p1 q1 z1 w1 p2 q2 z2 w2)(x:NX p1 q1 z1 w1 p2 q2 z2 w2):NX p1 q1 (K-z1) (K-w1) p2 q2 (K-z2) (K-w2) where
 bb a b c:=by rw[gF,gF];exact x.bb a b c
 b1 a b:=by rw[gF,gF];exact x.b1 a b
 b2 a b:=by rw[gF,gF];exact x.b2 a b
 br a b:=⟨fun e=>CT ((x.br a b).1 e) (d.a e) (d.d (oT a.symm (by rw[e];exact b.symm))),fun e=>CT ((x.br a b).2 e) (d.b e) (d.c (oT a.symm (by rw[e];exact b)))⟩
theorem ZQ{p1 q1 p2 q2:Bool}{m:Bool}(d:Df p1 q1 z1 w1 p2 q2 z2 w2)(x:NX p1 q1 z1 w1 p2 q2 z2 w2):NX p1 q1 (bt m K z1) (bt m K w1) p2 q2 (bt m K z2) (bt m K w2):=by
 cases m
 ·exact x
 ·exact flip d x
theorem gy{α:Type}{p1 q1 p2 q2:α}(h:(z1<z2∧z1<w2∧w1<z2∧w1<w2)∨(z2<z1∧w2<z1∧z2<w1∧w2<w1)):NX p1 q1 z1 w1 p2 q2 z2 w2 where
 bb _ _ _:=by unfold In;omega
 b1 _ _:=by unfold In;omega
 b2 _ _:=by unfold In;omega
 br _ _:=by omega
def Sep(K:Int)(z1 w1 z2 w2:Int):Prop:=
 (z1+z2<K∧z1+w2<K∧w1+z2<K∧w1+w2<K∧z1+w1<K∧z2+w2<K)∨(K<z1+z2∧K<z1+w2∧K<w1+z2∧K<w1+w2∧K<z1+w1∧K<z2+w2)
theorem apart{α:Type}{p1 q1 p2 q2:α}{m:Bool}(s:Sep K z1 w1 z2 w2):NX p1 q1 (bt m K z1) (bt m K w1) p2 q2 (bt (!m) K z2) (bt (!m) K w2):=by
 unfold Sep at s;cases m
 ·exact gy (by show _∨_;simp only[bt,Bool.not_false,if_true,oo,if_false];omega)
 ·exact gy (by simp only[bt,pD,if_true,oo,if_false];omega)
theorem aDa{p1 q1 p2 q2:Bool}(s:Sep K z1 w1 z2 w2)(d:Df p1 q1 z1 w1 p2 q2 z2 w2)(x:NX p1 q1 z1 w1 p2 q2 z2 w2):In (bt p2 K z2) (bt p1 K z1) (bt q1 K w1)↔In (bt q2 K w2) (bt p1 K z1) (bt q1 K w1):=by
 unfold Sep at s;have t:∀z,bt true K z=K-z:=fun _=>rfl
 have f:∀z,bt false K z=z:=fun _=>rfl
 cases p1<;>cases q1<;>cases p2<;>cases q2<;>simp only[t,f]
 ·exact x.bb rfl rfl rfl
 ·have:=(x.b1 rfl (by decide)).1 rfl
  unfold In at this ⊢;omega
 ·have:=(x.b1 rfl (by decide)).2 rfl
  unfold In at this ⊢;omega
 ·unfold In;omega
 ·have:=(x.b2 rfl (by decide)).1 rfl
  have h1:=d.a rfl
  have h2:=d.b rfl
  unfold In at this ⊢;omega
 ·have:=(x.br (by decide) (by decide)).1 rfl
  have h1:=d.a rfl
  have h2:=d.d rfl
  unfold In;omega
 ·have:=(x.br (by decide) (by decide)).2 rfl
  have h1:=d.b rfl
  have h2:=d.c rfl
  unfold In;omega
 ·have:=(x.b2 rfl (by decide)).2 rfl
  have h1:=d.c rfl
  have h2:=d.d rfl
  unfold In at this ⊢;omega
 ·have:=(x.b2 rfl (by decide)).2 rfl
  have h1:=d.c rfl
  have h2:=d.d rfl
  unfold In at this ⊢;omega
 ·have:=(x.br (by decide) (by decide)).2 rfl
  have h1:=d.b rfl
  have h2:=d.c rfl
  unfold In;omega
 ·have:=(x.br (by decide) (by decide)).1 rfl
  have h1:=d.a rfl
  have h2:=d.d rfl
  unfold In;omega
 ·have:=(x.b2 rfl (by decide)).1 rfl
  have h1:=d.a rfl
  have h2:=d.b rfl
  unfold In at this ⊢;omega
 ·unfold In;omega
 ·have:=(x.b1 rfl (by decide)).2 rfl
  unfold In at this ⊢;omega
 ·have:=(x.b1 rfl (by decide)).1 rfl
  unfold In at this ⊢;omega
 ·rw[gF,gF];exact x.bb rfl rfl rfl
end
end G07
namespace Z
open PySem Pg
namespace K07
open K06 G07
theorem Df.re{α β:Type}{p1 q1 p2 q2:α}{gj gf gh gd:β}{z1 w1 z2 w2:Int}(m:Sm p1 q1 p2 q2 gj gf gh gd)(m2:q1=q2↔gf=gd)(x:Df p1 q1 z1 w1 p2 q2 z2 w2):Df gj gf z1 w1 gh gd z2 w2:=
 ⟨fun e=>x.a (m.c.mpr e),fun e=>x.b (m.d.mpr e),fun e=>x.c (m.e.mpr e),fun e=>x.d (m2.mpr e)⟩
def On(p L:Nat):Prop:=p=L∨p+1=L
theorem aN{p q L:Nat}(hp:On p L)(hq:On q L):p=q↔decide (p=L)=decide (q=L):=by
 unfold On at hp hq
 by_cases h1:p=L<;>by_cases h2:q=L
 ·rw[qc h1,qc h2];exact⟨fun _=>rfl,fun _=>by omega⟩
 ·rw[qc h1,oj h2];simp;omega
 ·rw[oj h1,qc h2];simp;omega
 ·rw[oj h1,oj h2];exact⟨fun _=>rfl,fun _=>by omega⟩
theorem jN{p c:Nat}{nr:Bool}(hp:On p c):moves nr c p=(decide (p=c) != nr):=by
 unfold On at hp;unfold moves
 by_cases h:p=c
 ·rw[qc h,qc (by omega)]
 ·rw[oj h,oj (by omega)]
theorem iZ{p L c:Nat}{nr:Bool}(hp:On p L)(h:L≠c):moves nr c p=(decide (c<L) != nr):=by
 unfold On at hp;unfold moves
 by_cases h2:c<L
 ·rw[qc h2,qc (by omega)]
 ·rw[oj h2,oj (by omega)]
theorem jX{a b n:Bool}:(a != n)=(b != n)↔a=b:=by cases a<;>cases b<;>cases n<;>decide
theorem gS{p q L c gr:Nat}{nr:Bool}(hp:On p L)(hq:On q L)(h:L≠c)(g1:cZ c p+1≤gr)(g2:cZ c q+1≤gr):p=q↔bF nr c gr p=bF nr c gr q:=by
 unfold On at hp hq;refine⟨fun e=>by rw[e],fun e=>?_⟩
 unfold bF at e;unfold cZ at e g1 g2
 by_cases h1:c≤p
 ·rw[if_pos h1]at e g1;rw[if_pos (by omega:c≤q)]at e g2
  cases nr<;>simp only[if_true,oo,if_false]at e<;>omega
 ·rw[if_neg h1]at e g1;rw[if_neg (by omega:¬c≤q)]at e g2
  cases nr<;>simp only[if_true,oo,if_false]at e<;>omega
theorem kY{p c gr:Nat}{nr:Bool}(hp:On p c):bF nr c gr p=if nr then 0 else gr-1:=by
 unfold On at hp;have:cZ c p=0:=by unfold cZ;split<;>omega
 unfold bF;rw[this];rfl
theorem aCJ{nr:Bool}{c gr L1 L2:Nat}(h:qE nr c gr L1=qE nr c gr L2):L1=L2∨(L1≠L2∧L1+L2=2*c):=by
 unfold qE at h;cases nr<;>simp only[if_true,oo,if_false]at h<;>split at h<;>split at h<;>omega
section
variable {p1 q1 p2 q2 L1 L2 c gr:Nat}{z1 w1 z2 w2 K:Int}{nr:Bool}
theorem VL(o1:On p1 L1)(o2:On q1 L1)(o3:On p2 L2)(o4:On q2 L2)(g1:cZ c p1+1≤gr)(g2:cZ c q1+1≤gr)(g3:cZ c p2+1≤gr)(g4:cZ c q2+1≤gr)(hL:qE nr c gr L1=qE nr c gr L2)(s:G07.Sep K z1 w1 z2 w2)
  (d:L1=L2→Df p1 q1 z1 w1 p2 q2 z2 w2) (x:L1=L2→NX p1 q1 z1 w1 p2 q2 z2 w2) :
  NX (bF nr c gr p1) (bF nr c gr q1) (bt (moves nr c p1) K z1) (bt (moves nr c q1) K w1) (bF nr c gr p2) (bF nr c gr q2) (bt (moves nr c p2) K z2) (bt (moves nr c q2) K w2):=by
 rcases aCJ hL with e|⟨e,e2⟩
 ·subst e;have d:=d rfl
  have x:=x rfl
  by_cases h:L1=c
  ·subst h;have m:Sm p1 q1 p2 q2 (moves nr L1 p1) (moves nr L1 q1) (moves nr L1 p2) (moves nr L1 q2):=by
    rw[jN o1,jN o2,jN o3,jN o4];exact⟨(aN o1 o2).trans jX.symm,(aN o3 o4).trans jX.symm,(aN o1 o3).trans jX.symm,(aN o1 o4).trans jX.symm,(aN o2 o3).trans jX.symm⟩
   have m2:q1=q2↔moves nr L1 q1=moves nr L1 q2:=by
    rw[jN o2,jN o4];exact(aN o2 o4).trans jX.symm
   have k:=aDa s (Df.re m m2 d) (x.re m)
   rw[kY o1,kY o2,kY o3,kY o4];exact⟨fun _ _ _=>k,fun _ z=>absurd rfl z,fun _ z=>absurd rfl z,fun z=>absurd rfl z⟩
  ·have m:Sm p1 q1 p2 q2 (decide (p1=L1)) (decide (q1=L1)) (decide (p2=L1)) (decide (q2=L1)):=⟨aN o1 o2,aN o3 o4,aN o1 o3,aN o1 o4,aN o2 o3⟩
   have k:=ZQ (K:=K) (m:=decide (c<L1) != nr) (Df.re m (aN o2 o4) d) (x.re m)
   rw[iZ o1 h,iZ o2 h,iZ o3 h,iZ o4 h];exact k.re ⟨(aN o1 o2).symm.trans (gS o1 o2 h g1 g2),(aN o3 o4).symm.trans (gS o3 o4 h g3 g4),(aN o1 o3).symm.trans (gS o1 o3 h g1 g3),(aN o1 o4).symm.trans (gS o1 o4 h g1 g4),(aN o2 o3).symm.trans (gS o2 o3 h g2 g3)⟩
 ·rw[iZ o1 (by omega),iZ o2 (by omega),iZ o3 (by omega),iZ o4 (by omega)]
  have:(decide (c<L2) != nr)=!(decide (c<L1) != nr):=by
   by_cases h:c<L1
   ·rw[qc h,oj (by omega)];cases nr<;>rfl
   ·rw[oj h,qc (by omega)];cases nr<;>rfl
  rw[this];exact apart s
end
noncomputable def alL(l:Bool)(s:Spot):Nat:=if l then s.y else s.x
noncomputable def acL(l:Bool)(s:Spot):Nat:=if l then s.x else s.y
noncomputable def bq(l:Bool)(s:Spot):Bool:=if l then s.n else s.e
noncomputable def lnN(l:Bool)(s:Spot):Nat:=if bq l s then alL l s else alL l s+1
theorem pP{s t:Spot}{l:Bool}(m:Meets s t l):acL l s=acL l t:=by
 cases l
 ·exact(m.up rfl).1
 ·exact(m.lv rfl).1
theorem gC{e:Bool}{p:Nat}:lin e p=((if e then p else p+1:Nat):Int):=by cases e<;>rfl
theorem tU{s t:Spot}{l:Bool}(m:Meets s t l):On (alL l t) (lnN l s):=by
 have h:lin (bq l s) (alL l s)=lin (!bq l t) (alL l t):=by
  cases l
  ·exact(m.up rfl).2.2
  ·exact(m.lv rfl).2.2
 rw[gC,gC]at h;unfold On lnN;cases h2:bq l t<;>rw[h2]at h<;>simp only[pD,Bool.not_false,if_true,oo,if_false]at h<;>omega
theorem gk{s:Spot}{l:Bool}:On (alL l s) (lnN l s):=by
 unfold On lnN;cases bq l s
 ·exact .inr rfl
 ·exact .inl rfl
structure Tk (c n:Nat) (sp:List Spot) (j k:Nat×Nat×Bool) (l:Bool) (s t s' t':Spot):Prop where
 mj:j∈ah c n n
 mq:k∈ah c n n
 lj:j.2.2=l
 lk:k.2.2=l
 ne:j≠k
 s1:sp[j.1]?=some s
 t1:sp[j.2.1]?=some t
 s2:sp[k.1]?=some s'
 t2:sp[k.2.1]?=some t'
 lane:acL l s=acL l s'
 line:lnN l s=lnN l s'
def NC(c n:Nat)(sp:List Spot):Prop:=∀j k l s t s' t',Tk c n sp j k l s t s' t'→NX (alL l s) (alL l t) s.z t.z (alL l s') (alL l t') s'.z t'.z
theorem CU{T:Table}{sp:List Spot}(L:Lk T sp){i k:Nat}{s s':Spot}(hi:sp[i]?=some s)(hk:sp[k]?=some s')(bu:i≠k)(hx:s.x=s'.x)(hy:s.y=s'.y):s.z≠s'.z:=by
 have m1:((i:Int),s.e,s.n)∈ai T s.x s.y:=(L.mem _ _ _).mpr ⟨i,s,hi,rfl,rfl,rfl⟩
 have m2:((k:Int),s'.e,s'.n)∈ai T s.x s.y:=(L.mem _ _ _).mpr ⟨k,s',hk,hx.symm,hy.symm,rfl⟩
 have z1:aq sp (i:Int)=s.z:=by unfold aq;rw[toNat_natCast,hi]
 have z2:aq sp (k:Int)=s'.z:=by unfold aq;rw[toNat_natCast,hk]
 intro hz;obtain⟨a,ha,ea⟩:=getElem_of_mem m1;obtain⟨b,hb,eb⟩:=getElem_of_mem m2;have hab:a≠b:=fun z=>by
  subst z;rw[ea]at eb;have:(i:Int)=(k:Int):=congrArg fst eb
  omega
 rcases Nat.lt_or_gt_of_ne hab with h|h
 ·have:=List.pairwise_iff_getElem.mp (L.ord s.x s.y) a b ha hb h
  rw[ea,eb]at this;have:aq sp (k:Int)<aq sp (i:Int):=this
  omega
 ·have:=List.pairwise_iff_getElem.mp (L.ord s.x s.y) b a hb ha h
  rw[ea,eb]at this;have:aq sp (i:Int)<aq sp (k:Int):=this
  omega
theorem ZH{c n:Nat}{j k:Nat×Nat×Bool}(hj:j∈ah c n n)(hk:k∈ah c n n)(hl:j.2.2=k.2.2):(j.1=k.1→j=k)∧(j.2.1=k.2.1→j=k):=by
 obtain⟨a,b,d⟩:=j;obtain⟨a',b',d'⟩:=k;have h1:=tS hj
 have h2:=tS hk
 simp only at h1 h2 hl ⊢;subst hl;have:b-a=b'-a'∧a≤b∧a'≤b':=by
  rcases h1.2 with ⟨e,f,_⟩|⟨e,f,_⟩<;>rcases h2.2 with ⟨e',f',_⟩|⟨e',f',_⟩
  ·omega
  ·rw[f]at f';exact nomatch f'
  ·rw[f]at f';exact nomatch f'
  ·omega
 refine⟨fun e=>?_,fun e=>?_⟩
 ·have e2:b=b':=by omega
  rw[e,e2]
 ·have e2:a=a':=by omega
  rw[e,e2]
section
variable {c n:Nat}{T:Table}{sp:List Spot}{j k:Nat×Nat×Bool}{l:Bool}{s t s' t':Spot}
theorem wG{a b:Spot}(h1:alL l a=alL l b)(h2:acL l a=acL l b):a.x=b.x∧a.y=b.y:=by
 cases l
 ·exact⟨h1,h2⟩
 ·exact⟨h2,h1⟩
theorem Tk.ms(K:Tk c n sp j k l s t s' t')(m:Mt c n sp):Meets s t l∧Meets s' t' l:=by
 have a:=m j K.mj s t K.s1 K.t1
 have b:=m k K.mq s' t' K.s2 K.t2
 rw[K.lj]at a;rw[K.lk]at b;exact⟨a,b⟩
theorem FL(m:Meets s t l)(a:Spot)(h:lnN l a=lnN l s):a≠t:=fun z=>by
 subst z;have h1:lin (bq l s) (alL l s)=lin (!bq l a) (alL l a):=by
  cases l
  ·exact(m.up rfl).2.2
  ·exact(m.lv rfl).2.2
 rw[gC,gC]at h1;unfold lnN at h;cases h2:bq l a<;>rw[h2]at h1 h<;>simp only[pD,Bool.not_false,if_true,oo,if_false]at h1 h<;>omega
theorem Tk.df(K:Tk c n sp j k l s t s' t')(m:Mt c n sp)(L:Lk T sp):Df (alL l s) (alL l t) s.z t.z (alL l s') (alL l t') s'.z t'.z:=by
 obtain⟨m1,m2⟩:=K.ms m;have e:=ZH K.mj K.mq (K.lj.trans K.lk.symm)
 have b1:j.1≠k.2.1:=fun z=>FL m2 s K.line (by
  have:=K.s1
  rw[z,K.t2]at this;exact(ox this).symm)
 have b2:j.2.1≠k.1:=fun z=>FL m1 s' K.line.symm (by
  have:=K.t1
  rw[z,K.s2]at this;exact ox this)
 have n1:j.1≠k.1:=fun z=>K.ne (e.1 z)
 have n2:j.2.1≠k.2.1:=fun z=>K.ne (e.2 z)
 have l1:=pP m1
 have l2:=pP m2
 have l3:=K.lane
 refine⟨fun q=>?_,fun q=>?_,fun q=>?_,fun q=>?_⟩
 ·have:=wG q l3
  exact CU L K.s1 K.s2 n1 this.1 this.2
 ·have:=wG q (l3.trans l2)
  exact CU L K.s1 K.t2 b1 this.1 this.2
 ·have:=wG q (l1.symm.trans l3)
  exact CU L K.t1 K.s2 b2 this.1 this.2
 ·have:=wG q (l1.symm.trans (l3.trans l2))
  exact CU L K.t1 K.t2 n2 this.1 this.2
end
noncomputable def kF(over:Bool)(top low:Int):Int:=if over then 2*top+1 else 2*low-1
section
variable {sd:Side}{over:Bool}{c gr:Nat}{top low:Int}{s:Spot}{l:Bool}
theorem iX:(bC sd over c gr top low s).z=bt (moves sd.near c (s.al sd.up)) (kF over top low) s.z:=by
 unfold bC bt kF;cases over<;>rfl
theorem iP(h:l=!sd.up):alL l s=s.al sd.up:=by
 unfold alL Spot.al;rw[h];cases sd.up<;>rfl
theorem fW(h:l=sd.up):acL l s=s.al sd.up:=by
 unfold acL Spot.al;rw[h]
theorem wV(h:l=!sd.up):alL l (bC sd over c gr top low s)=bF sd.near c gr (alL l s):=by
 rw[iP h,iP h,gR]
theorem YW(h:l=!sd.up):acL l (bC sd over c gr top low s)=acL l s:=by
 unfold acL bC;rw[h];cases sd.up<;>rfl
theorem YV(h:l=!sd.up)(g:cZ c (alL l s)+1≤gr):(lnN l (bC sd over c gr top low s):Int)=qE sd.near c gr (lnN l s):=by
 have e:=lD (nr:=sd.near) (e:=bq l s) g
 have e2:bq l (bC sd over c gr top low s)=if moves sd.near c (alL l s) then !bq l s else bq l s:=by
  unfold bq alL bC Spot.al;rw[h];cases sd.up<;>simp
 unfold lnN;rw[e2,wV h,←gC,e,gC]
theorem wM(h:l=sd.up):alL l (bC sd over c gr top low s)=alL l s:=by
 unfold alL bC;rw[h];cases sd.up<;>rfl
theorem YU(h:l=sd.up):acL l (bC sd over c gr top low s)=bF sd.near c gr (acL l s):=by
 rw[fW h,fW h,gR]
theorem YT(h:l=sd.up):lnN l (bC sd over c gr top low s)=lnN l s:=by
 have e2:bq l (bC sd over c gr top low s)=bq l s:=by
  unfold bq bC;rw[h];cases sd.up<;>simp
 unfold lnN;rw[e2,wM h]
end
theorem WD{nr:Bool}{c gr a b:Nat}(g1:cZ c a+1≤gr)(g2:cZ c b+1≤gr)(h:bF nr c gr a=bF nr c gr b):a=b∨moves nr c b=!moves nr c a:=by
 unfold bF at h;unfold cZ at h g1 g2;unfold moves
 by_cases h1:c≤a<;>by_cases h2:c≤b
 ·left
  rw[if_pos h1]at g1 h;rw[if_pos h2]at g2 h;cases nr<;>simp only[if_true,oo,if_false]at h<;>omega
 ·right
  rw[qc h1,oj h2];cases nr<;>rfl
 ·right
  rw[oj h1,qc h2];cases nr<;>rfl
 ·left
  rw[if_neg h1]at g1 h;rw[if_neg h2]at g2 h;cases nr<;>simp only[if_true,oo,if_false]at h<;>omega
theorem aBf{over:Bool}{top low:Int}{z1 w1 z2 w2:Int}(t1:z1≤top)(t2:w1≤top)(t3:z2≤top)(t4:w2≤top)(l1:low≤z1)(l2:low≤w1)(l3:low≤z2)(l4:low≤w2):G07.Sep (kF over top low) z1 w1 z2 w2:=by
 unfold G07.Sep kF;cases over
 ·right
  simp only[oo,if_false];omega
 ·left
  simp only[if_true];omega
theorem NC.fold{c n:Nat}{T:Table}{sp:List Spot}(x:NC c n sp)(m:Mt c n sp)(L:Lk T sp){sd:Side}{over:Bool}{q gr:Nat}{top low:Int}(hg:∀s∈sp,cZ q (s.al sd.up)+1≤gr)(ht:∀s∈sp,s.z≤top)(hl:∀s∈sp,low≤s.z):NC c n (sp.map (bC sd over q gr top low)):=by
 intro j k l s t s' t' K;obtain⟨mj,mq,lj,lk,ne,s1,t1,s2,t2,lane,line⟩:=K;rw[oe]at s1 t1 s2 t2;obtain⟨a,ha,rfl⟩:=oy.mp s1;obtain⟨b,hb,rfl⟩:=oy.mp t1;obtain⟨a',ha',rfl⟩:=oy.mp s2;obtain⟨b',j6,rfl⟩:=oy.mp t2;have ma:=o8 ha
 have mb:=o8 hb
 have la:=o8 ha'
 have mb':=o8 j6
 have s:=aBf (over:=over) (ht a ma) (ht b mb) (ht a' la) (ht b' mb') (hl a ma) (hl b mb) (hl a' la) (hl b' mb')
 have m1:Meets a b l:=by have:=m j mj a b ha hb;rwa [lj]at this
 have m2:Meets a' b' l:=by have:=m k mq a' b' ha' j6;rwa [lk]at this
 by_cases h:l=!sd.up
 ·rw[YW h,YW h]at lane;have g:∀s∈sp,cZ q (alL l s)+1≤gr:=fun s hs=>by rw[iP h];exact hg s hs
  have line:qE sd.near q gr (lnN l a)=qE sd.near q gr (lnN l a'):=by
   rw[←YV (over:=over) (top:=top) (low:=low) h (g a ma),←YV (over:=over) (top:=top) (low:=low) h (g a' la),line]
  have tk:lnN l a=lnN l a'→Tk c n sp j k l a b a' b':=fun e=>⟨mj,mq,lj,lk,ne,ha,hb,ha',j6,lane,e⟩
  have r:=VL (gk (s:=a) (l:=l)) (tU m1) (gk (s:=a') (l:=l)) (tU m2) (g a ma) (g b mb) (g a' la) (g b' mb') line s (fun e=>(tk e).df m L) fun e=>x j k l a b a' b' (tk e)
  rw[wV h,wV h,wV h,wV h,iX,iX,iX,iX,←iP h,←iP h,←iP h,←iP h];exact r
 ·have h:l=sd.up:=by cases l<;>cases hu:sd.up<;>rw[hu]at h<;>first|rfl|exact absurd rfl h
  rw[YU h,YU h]at lane;rw[YT h,YT h]at line;have g:∀s∈sp,cZ q (acL l s)+1≤gr:=fun s hs=>by rw[fW h];exact hg s hs
  rw[wM h,wM h,wM h,wM h,iX,iX,iX,iX,←fW h,←fW h,←fW h,←fW h,←pP m1,←pP m2]
  rcases WD (g a ma) (g a' la) lane with e|e
  ·have tk:Tk c n sp j k l a b a' b':=⟨mj,mq,lj,lk,ne,ha,hb,ha',j6,e,line⟩
   have o1:=gk (s:=a) (l:=l)
   have o2:=(tU m1)
   have o3:=gk (s:=a') (l:=l)
   have o4:=(tU m2)
   rw[←line]at o3 o4;have sm:Sm (alL l a) (alL l b) (alL l a') (alL l b') (decide (alL l a=lnN l a)) (decide (alL l b=lnN l a)) (decide (alL l a'=lnN l a)) (decide (alL l b'=lnN l a)):=⟨aN o1 o2,aN o3 o4,aN o1 o3,aN o1 o4,aN o2 o3⟩
   rw[←e];exact(ZQ (Df.re sm (aN o2 o4) (tk.df m L)) ((x j k l a b a' b' tk).re sm)).re ⟨(aN o1 o2).symm,(aN o3 o4).symm,(aN o1 o3).symm,(aN o1 o4).symm,(aN o2 o3).symm⟩
  ·rw[e];exact apart s
theorem WQ{c r:Nat}(hc:1≤c):NC c (c*r) (fA c r):=by
 intro j k l s t s' t' K
 exfalso
 have e1:=iH K.s1
 have e2:=iH K.s2
 subst e1 e2;have h1:=K.lane
 have h2:=K.line
 refine K.ne ((ZH K.mj K.mq (K.lj.trans K.lk.symm)).1 ?_);have d1:=div_add_mod j.1 c
 have d2:=div_add_mod k.1 c
 have:j.1 % c=k.1 % c∧j.1 / c=k.1 / c:=by
  cases l<;>simp only[acL,lnN,bq,alL,oo,if_false,if_true]at h1 h2<;>omega
 rw[this.1,this.2]at d1;omega
def dQ(T:Table)(sp:List Spot)(i:Nat)(l:Int):Prop:=∃(k:Nat) (s:Spot),l=k∧sp[i]?=some s∧(ai T s.x s.y)[k]?=some ((i:Int),s.e,s.n)
theorem OK{T:Table}{sp:List Spot}(L:Lk T sp){i j:Nat}{s t:Spot}(hs:sp[i]?=some s)(ht:sp[j]?=some t)(hx:s.x=t.x)(hy:s.y=t.y){l m:Int}(a:dQ T sp i l)(b:dQ T sp j m)(h:l<m):t.z<s.z:=by
 obtain⟨k,s',rfl,h1,h2⟩:=a;obtain⟨k',t',rfl,h3,h4⟩:=b;rw[hs]at h1;cases h1;rw[ht]at h3;cases h3;rw[←hx,←hy]at h4;obtain⟨q1,e1⟩:=o5.mp h2;obtain⟨q2,e2⟩:=o5.mp h4;have:=List.pairwise_iff_getElem.mp (L.ord s.x s.y) k k' q1 q2 (by omega)
 rw[e1,e2]at this;have:aq sp (j:Int)<aq sp (i:Int):=this
 unfold aq at this;rw[toNat_natCast,toNat_natCast,hs,ht]at this;exact this
theorem aIa{T:Table}{sp:List Spot}{i j:Nat}{s t:Spot}(hs:sp[i]?=some s)(ht:sp[j]?=some t)(hx:s.x=t.x)(hy:s.y=t.y){l:Int}(a:dQ T sp i l)(b:dQ T sp j l):i=j:=by
 obtain⟨k,s',e,h1,h2⟩:=a;obtain⟨k',t',e',h3,h4⟩:=b;rw[hs]at h1;cases h1;rw[ht]at h3;cases h3;rw[←hx,←hy]at h4;obtain rfl:k=k':=by omega
 rw[h2]at h4;have:(i:Int)=(j:Int):=congrArg fst (ox h4)
 omega
theorem ZS{T:Table}{sp:List Spot}(L:Lk T sp){i j:Nat}{s t:Spot}(hs:sp[i]?=some s)(ht:sp[j]?=some t)(hx:s.x=t.x)(hy:s.y=t.y){l m:Int}(a:dQ T sp i l)(b:dQ T sp j m):l<m↔t.z<s.z:=by
 refine⟨OK L hs ht hx hy a b,fun h=>?_⟩
 rcases Int.lt_trichotomy l m with h1|h1|h1
 ·exact h1
 ·subst h1;have:=aIa hs ht hx hy a b
  subst this;rw[hs]at ht;cases ht;omega
 ·have:=OK L ht hs hx.symm hy.symm b a h1
  omega
def Rv{α:Type}(p q:α)(z w l m:Int):Prop:=p=q→(l<m↔w<z)∧(m<l↔z<w)
theorem sD{a b c x y z:Int}(h1:(x<y↔b<a)∧(y<x↔a<b))(h2:(x<z↔c<a)∧(z<x↔a<c)):In x y z↔In a b c:=by
 unfold G07.In;rw[h1.1,h1.2,h2.1,h2.2];omega
theorem NX.dep{p1 q1 p2 q2:Bool}{z1 w1 z2 w2 l1 m1 l2 m2:Int}(d:Df p1 q1 z1 w1 p2 q2 z2 w2)(a:Rv p1 p2 z1 z2 l1 l2)(b:Rv p1 q2 z1 w2 l1 m2)(c:Rv q1 p2 w1 z2 m1 l2)(e:Rv q1 q2 w1 w2 m1 m2)(x:NX p1 q1 z1 w1 p2 q2 z2 w2):NX p1 q1 l1 m1 p2 q2 l2 m2 where
 bb h1 h2 h3:=by
  have a':=a h3
  have b':=b (h3.trans h2)
  have c':=c (h1.symm.trans h3)
  have e':=e (h1.symm.trans (h3.trans h2))
  rw[sD (a:=z2) (b:=z1) (c:=w1) ⟨a'.2,a'.1⟩ ⟨c'.2,c'.1⟩,sD (a:=w2) (b:=z1) (c:=w1) ⟨b'.2,b'.1⟩ ⟨e'.2,e'.1⟩];exact x.bb h1 h2 h3
 b1 h1 h2:=by
  refine⟨fun h=>?_,fun h=>?_⟩
  ·have a':=a h.symm
   have c':=c (h1.symm.trans h.symm)
   rw[sD (a:=z2) (b:=z1) (c:=w1) ⟨a'.2,a'.1⟩ ⟨c'.2,c'.1⟩];exact(x.b1 h1 h2).1 h
  ·have b':=b h.symm
   have e':=e (h1.symm.trans h.symm)
   rw[sD (a:=w2) (b:=z1) (c:=w1) ⟨b'.2,b'.1⟩ ⟨e'.2,e'.1⟩];exact(x.b1 h1 h2).2 h
 b2 h1 h2:=by
  refine⟨fun h=>?_,fun h=>?_⟩
  ·have a':=a h
   have b':=b (h.trans h1)
   rw[sD (a:=z1) (b:=z2) (c:=w2) a' b'];exact(x.b2 h1 h2).1 h
  ·have c':=c h
   have e':=e (h.trans h1)
   rw[sD (a:=w1) (b:=z2) (c:=w2) c' e'];exact(x.b2 h1 h2).2 h
 br h1 h2:=by
  refine⟨fun h=>?_,fun h=>?_⟩
  ·have hq:q1=q2:=oT h1.symm (by rw[h];exact h2.symm)
   have r:=(x.br h1 h2).1 h
   have d1:=d.a h
   have d2:=d.d hq
   rw[(a h).1,(e hq).1];omega
  ·have hq:q1=p2:=oT h1.symm (by rw[h];exact h2)
   have r:=(x.br h1 h2).2 h
   have d1:=d.b h
   have d2:=d.c hq
   rw[(b h).1,(c hq).1];omega
noncomputable def lG:IS:=(.ret false (.chain .lt .lt (.bcall .min (.cons (.var 1) .nil)) (.var 0) (.bcall .max (.cons (.var 1) .nil))))
noncomputable def oO:IS:=(.seq (.iff (.and (.bin .eq (.bcall .len (.cons (.var 0) .nil)) (.lit (.int 2))) (.bin .eq (.bcall .len (.cons (.var 1) .nil)) (.lit (.int 2)))) (.ret false (.bin .ne (.call "_law_inside" (.cons (.ix (.var 1) (.lit (.int 0))) (.cons (.var 0) .nil))) (.call "_law_inside" (.cons (.ix (.var 1) (.lit (.int 1))) (.cons (.var 0) .nil))))) .nop) (.seq (.iff (.and (.bin .eq (.bcall .len (.cons (.var 0) .nil)) (.lit (.int 2))) (.bin .eq (.bcall .len (.cons (.var 1) .nil)) (.lit (.int 1)))) (.ret false (.call "_law_inside" (.cons (.ix (.var 1) (.lit (.int 0))) (.cons (.var 0) .nil)))) .nop) (.ret false (.and (.bin .eq (.bcall .len (.cons (.var 0) .nil)) (.lit (.int 1))) (.and (.bin .eq (.bcall .len (.cons (.var 1) .nil)) (.lit (.int 2))) (.call "_law_inside" (.cons (.ix (.var 0) (.lit (.int 0))) (.cons (.var 1) .nil))))))))
noncomputable def fM:IS:=(.seq (.iff (.and (.bin .eq (.bcall .len (.cons (.ix (.var 0) (.lit (.int 0))) .nil)) (.lit (.int 1))) (.bin .eq (.bcall .len (.cons (.ix (.var 1) (.lit (.int 0))) .nil)) (.lit (.int 1)))) (.ret false (.bin .eq (.bin .lt (.ix (.ix (.var 0) (.lit (.int 0))) (.lit (.int 0))) (.ix (.ix (.var 1) (.lit (.int 0))) (.lit (.int 0)))) (.bin .gt (.ix (.ix (.var 0) (.lit (.int 1))) (.lit (.int 0))) (.ix (.ix (.var 1) (.lit (.int 1))) (.lit (.int 0)))))) .nop) (.ret false (.or (.call "_law_bends" (.cons (.ix (.var 0) (.lit (.int 0))) (.cons (.ix (.var 1) (.lit (.int 0))) .nil))) (.call "_law_bends" (.cons (.ix (.var 0) (.lit (.int 1))) (.cons (.ix (.var 1) (.lit (.int 1))) .nil))))))
section
variable {G:GS}
noncomputable def inB(m a b:Int):Bool:=decide ((if b<a then b else a)<m)&&decide (m<(if b > a then b else a))
theorem uA{m a b:Int}:inB m a b=true↔In m a b:=by
 unfold inB G07.In;rw[ow,p4,p4];split<;>split<;>omega
theorem nL{m a b:Int}(h:¬In m a b):inB m a b=false:=Bool.eq_false_iff.mpr fun z=>h (uA.mp z)
theorem NM{m n a b:Int}(h:In m a b↔In n a b):inB m a b=inB n a b:=by
 by_cases k:In m a b
 ·rw[uA.mpr k,uA.mpr (h.mp k)]
 ·rw[nL k,nL fun z=>k (h.mpr z)]
theorem IG{m a b:Int}:aO G 2 lG [.int m,.lst [.int a,.int b]]=some (.ok (.bl (inB m a b))):=by
 refine aH (ρ:=[.im (.int m),.im (.lst [.int a,.int b])]) rfl (aK ?_);have e1:ev G (.bcall .min (.cons (.var 1) .nil)) [.im (.int m),.im (.lst [.int a,.int b])]=some (.int (if b<a then b else a)):=rfl
 have e2:ev G (.bcall .max (.cons (.var 1) .nil)) [.im (.int m),.im (.lst [.int a,.int b])]=some (.int (if b > a then b else a)):=rfl
 have e3:ev G (.var 0) [.im (.int m),.im (.lst [.int a,.int b])]=some (.int m):=rfl
 rw[lN,e1,e2,e3];unfold inB;show (match D.bl (decide ((if b<a then b else a)<m)) with | .bl true=>some (D.bl (decide (m<(if b > a then b else a)))) | .bl false=>some (.bl false)|_=>none)=_
 cases decide ((if b<a then b else a)<m)<;>rfl
structure NB (u v:List Int):Prop where
 lu:u.length≤2
 lv:v.length≤2
 a:∀a b c d,u=[a,b]→v=[c,d]→(In c a b↔In d a b)
 b:∀a b c,u=[a,b]→v=[c]→¬In c a b
 c:∀a c d,u=[a]→v=[c,d]→¬In a c d
noncomputable def ld(u:List Int):D:=.lst (u.map .int)
theorem OX(hi:∀m a b:Int,G.fn "_law_inside" [.int m,.lst [.int a,.int b]]=some (.ok (.bl (inB m a b)))){u v:List Int}(h:NB u v):aO G 2 oO [ld u,ld v]=some (.ok (.bl false)):=by
 have lu:=h.lu
 have lv:=h.lv
 refine aH (ρ:=[.im (ld u),.im (ld v)]) rfl ?_
 match u,v,lu,lv with
 |[a,b],[c,d],_,_ =>
  refine fC (iK rfl (aK ?_)) fun _ z=>nomatch z
  have e1:ev G (.call "_law_inside" (.cons (.ix (.var 1) (.lit (.int 0))) (.cons (.var 0) .nil))) [.im (ld [a,b]),.im (ld [c,d])]=some (.bl (inB c a b)):=by
   rw[aW];show bT (G.fn "_law_inside" [.int c,.lst [.int a,.int b]])=_
   rw[hi];rfl
  have e2:ev G (.call "_law_inside" (.cons (.ix (.var 1) (.lit (.int 1))) (.cons (.var 0) .nil))) [.im (ld [a,b]),.im (ld [c,d])]=some (.bl (inB d a b)):=by
   rw[aW];show bT (G.fn "_law_inside" [.int d,.lst [.int a,.int b]])=_
   rw[hi];rfl
  rw[aU,e1,e2,NM (h.a a b c d rfl rfl)];show aj .ne (.bl (inB d a b)) (.bl (inB d a b))=_
  exact VN
 |[a,b],[c],_,_ =>
  refine aF (bJ rfl aM) (fC (iK rfl (aK ?_)) fun _ z=>nomatch z)
  rw[aW];show bT (G.fn "_law_inside" [.int c,.lst [.int a,.int b]])=_
  rw[hi,nL (h.b a b c rfl rfl)];rfl
 |[a],[c,d],_,_ =>
  refine aF (bJ rfl aM) (aF (bJ rfl aM) (aK ?_));refine gJ (x:=true) (y:=false) rfl fun _=>gJ (x:=true) (y:=false) rfl fun _=>?_
  rw[aW];show bT (G.fn "_law_inside" [.int a,.lst [.int c,.int d]])=_
  rw[hi,nL (h.c a c d rfl rfl)];rfl
 |[],[],_,_=>exact aF (bJ rfl aM) (aF (bJ rfl aM) (aK rfl))
 |[],[c],_,_=>exact aF (bJ rfl aM) (aF (bJ rfl aM) (aK rfl))
 |[],[c,d],_,_=>exact aF (bJ rfl aM) (aF (bJ rfl aM) (aK rfl))
 |[a],[],_,_=>exact aF (bJ rfl aM) (aF (bJ rfl aM) (aK rfl))
 |[a],[c],_,_=>exact aF (bJ rfl aM) (aF (bJ rfl aM) (aK rfl))
 |[a,b],[],_,_=>exact aF (bJ rfl aM) (aF (bJ rfl aM) (aK rfl))
theorem aHh{a b c d:Int}(h:In c a b↔In d a b):NB [a,b] [c,d]:=⟨oh 2,oh 2,fun _ _ _ _ e1 e2=>by cases e1;cases e2;exact h,fun _ _ _ _ e2=>(nomatch e2),fun _ _ _ e1 _=>(nomatch e1)⟩
theorem VO{a b c:Int}(h:¬In c a b):NB [a,b] [c]:=⟨oh 2,qv 1,fun _ _ _ _ _ e2=>(nomatch e2),fun _ _ _ e1 e2=>by cases e1;cases e2;exact h,fun _ _ _ e1 _=>(nomatch e1)⟩
theorem VR{a c d:Int}(h:¬In a c d):NB [a] [c,d]:=⟨qv 1,oh 2,fun _ _ _ _ e1 _=>(nomatch e1),fun _ _ _ e1 _=>(nomatch e1),fun _ _ _ e1 e2=>by cases e1;cases e2;exact h⟩
theorem il{v:List Int}(h:v.length≤2):NB [] v:=⟨rz 2,h,fun _ _ _ _ e1 _=>(nomatch e1),fun _ _ _ e1 _=>(nomatch e1),fun _ _ _ e1 _=>(nomatch e1)⟩
theorem HV{u:List Int}(h:u.length≤2):NB u []:=⟨h,rz 2,fun _ _ _ _ _ e2=>(nomatch e2),fun _ _ _ _ e2=>(nomatch e2),fun _ _ _ _ e2=>(nomatch e2)⟩
noncomputable def pick(b r s:Bool)(l m:Int):List Int:=(if r=b then [l] else [])++(if s=b then [m] else [])
theorem zL(hb:∀u v:List Int,NB u v→G.fn "_law_bends" [ld u,ld v]=some (.ok (.bl false))){r1 s1 r2 s2:Bool}{l1 m1 l2 m2:Int}(x:NX r1 s1 l1 m1 r2 s2 l2 m2)(d:Df r1 s1 l1 m1 r2 s2 l2 m2) :
  aO G 2 fM [.tup [ld (pick false r1 s1 l1 m1),ld (pick true r1 s1 l1 m1)],.tup [ld (pick false r2 s2 l2 m2),ld (pick true r2 s2 l2 m2)]]=some (.ok (.bl false)):=by
 have cmp:∀a b c e:Int,(a<b↔c<e)→c≠e→aj .eq (.bl (decide (a<b))) (.bl (decide (e<c)))=some (.bl false):=fun a b c e h n=>by
  by_cases q:a<b
  ·rw[qc q,oj (by omega)];rfl
  ·rw[oj q,qc (by omega)];rfl
 have two:∀u v u' v':List Int,NB u v→NB u' v'→(!(u.length == 1&&v.length == 1))=true→aO G 2 fM [.tup [ld u,ld u'],.tup [ld v,ld v']]=some (.ok (.bl false)):=fun u v u' v' n1 n2 hl=>by
  refine aH (ρ:=[.im (.tup [ld u,ld u']),.im (.tup [ld v,ld v'])]) rfl (aF (bJ ?_ aM) (aK (cX (x:=false) (y:=false) ?_ fun _=>?_)))
  ·have e1:∀w:List Int,aj .eq (.int ((w.map D.int).length:Nat)) (.int 1)=some (.bl (w.length == 1)):=fun w=>by
    rw[og,aBZ]
    congr 2
    rw[Bool.eq_iff_iff,qd,qd];omega
   have:=gJ (G:=G) (ρ:=[.im (.tup [ld u,ld u']),.im (.tup [ld v,ld v'])]) (a:=.bin .eq (.bcall .len (.cons (.ix (.var 0) (.lit (.int 0))) .nil)) (.lit (.int 1))) (b:=.bin .eq (.bcall .len (.cons (.ix (.var 1) (.lit (.int 0))) .nil)) (.lit (.int 1))) (x:=u.length == 1) (y:=v.length == 1) (e1 u) fun _=>e1 v
   rw[show (u.length == 1&&v.length == 1)=false from by revert hl;cases (u.length == 1&&v.length == 1)<;>intro h<;>first|rfl|exact h.symm]at this
   exact this
  ·rw[aW];show bT (G.fn "_law_bends" [ld u,ld v])=_
   rw[hb u v n1];rfl
  ·rw[aW];show bT (G.fn "_law_bends" [ld u',ld v'])=_
   rw[hb u' v' n2];rfl
 have one:∀a b c e:Int,(a<c↔b<e)→b≠e→aO G 2 fM [.tup [ld [a],ld [b]],.tup [ld [c],ld [e]]]=some (.ok (.bl false)):=fun a b c e h n=>by
  refine aH (ρ:=[.im (.tup [ld [a],ld [b]]),.im (.tup [ld [c],ld [e]])]) rfl (fC (iK rfl (aK ?_)) fun _ z=>nomatch z)
  exact cmp a c b e h n
 cases r1<;>cases s1<;>cases r2<;>cases s2
 ·exact two [l1,m1] [l2,m2] [] [] (aHh (x.bb rfl rfl rfl)) (il (rz 2)) rfl
 ·exact two [l1,m1] [l2] [] [m2] (VO ((x.b1 rfl (by decide)).1 rfl)) (il (qv 1)) rfl
 ·exact two [l1,m1] [m2] [] [l2] (VO ((x.b1 rfl (by decide)).2 rfl)) (il (qv 1)) rfl
 ·exact two [l1,m1] [] [] [l2,m2] (HV (oh 2)) (il (oh 2)) rfl
 ·exact two [l1] [l2,m2] [m1] [] (VR ((x.b2 rfl (by decide)).1 rfl)) (HV (qv 1)) rfl
 ·exact one l1 m1 l2 m2 ((x.br (by decide) (by decide)).1 rfl) (d.d rfl)
 ·exact one l1 m1 m2 l2 ((x.br (by decide) (by decide)).2 rfl) (d.c rfl)
 ·exact two [l1] [] [m1] [l2,m2] (HV (qv 1)) (VR ((x.b2 rfl (by decide)).2 rfl)) rfl
 ·exact two [m1] [l2,m2] [l1] [] (VR ((x.b2 rfl (by decide)).2 rfl)) (HV (qv 1)) rfl
 ·exact one m1 l1 l2 m2 ((x.br (by decide) (by decide)).2 rfl).symm (d.b rfl)
 ·exact one m1 l1 m2 l2 ((x.br (by decide) (by decide)).1 rfl).symm (d.a rfl)
 ·exact two [m1] [] [l1] [l2,m2] (HV (qv 1)) (VR ((x.b2 rfl (by decide)).1 rfl)) rfl
 ·exact two [] [l2,m2] [l1,m1] [] (il (oh 2)) (HV (oh 2)) rfl
 ·exact two [] [l2] [l1,m1] [m2] (il (qv 1)) (VO ((x.b1 rfl (by decide)).2 rfl)) rfl
 ·exact two [] [m2] [l1,m1] [l2] (il (qv 1)) (VO ((x.b1 rfl (by decide)).1 rfl)) rfl
 ·exact two [] [] [l1,m1] [l2,m2] (il (rz 2)) (aHh (x.bb rfl rfl rfl)) rfl
noncomputable def sdD(s:Spot)(l:Int):D:=.tup [.int s.x,.int s.y,.int l,.bl s.e,.bl s.n]
noncomputable def oI:IS:=(.seq (.set 4 (.bcall .int (.cons (.var 2) .nil))) (.seq (.set 5 (.comp 4 [(2,4),(3,3)] [1] false .seq (.tup (.cons (.var 0) (.cons (.var 1) .nil))) (.bin .eq (.ix (.var 1) (.var 2)) (.bin .sub (.var 3) (.lit (.int 1)))) (.ix (.var 1) (.lit (.int 2))))) (.seq (.set 6 (.comp 4 [(2,4),(3,3)] [1] false .seq (.tup (.cons (.var 0) (.cons (.var 1) .nil))) (.bin .eq (.ix (.var 1) (.var 2)) (.var 3)) (.ix (.var 1) (.lit (.int 2))))) (.ret false (.tup (.cons (.var 5) (.cons (.var 6) .nil)))))))
theorem ZY{s:Spot}{l:Int}{lv:Bool}:atI [D.int s.x,.int s.y,.int l,.bl s.e,.bl s.n] (if lv then 1 else 0)=some (.int (alL lv s:Nat)):=by cases lv<;>rfl
theorem CH{b:Bool}{p q L:Nat}(hp:On p L)(hq:On q L){l m:Int}{v:Int}(hv:v=if b then(L:Int) else L-1)(s t:Spot)(lv:Bool)(hs:alL lv s=p)(ht:alL lv t=q) :
  ([(s,l),(t,m)].filter fun a:Spot×Int=>((alL lv a.1:Nat):Int) == v).map (fun a=>D.int a.2)=(pick b (decide (p=L)) (decide (q=L)) l m).map D.int:=by
 have k:∀(z:Spot) (w:Nat),alL lv z=w→On w L→(((alL lv z:Nat):Int) == v)=(decide (w=L) == b):=fun z w e o=>by
  unfold On at o;rw[e,Bool.eq_iff_iff,qd,qd,hv];cases b
  ·by_cases h:w=L
   ·rw[qc h];simp;omega
   ·rw[oj h];simp;omega
  ·by_cases h:w=L
   ·rw[qc h];simp;omega
   ·rw[oj h];simp;omega
 unfold pick;rw[List.filter_cons,k s p hs hp,List.filter_cons,k t q ht hq,List.filter_nil];cases decide (p=L)<;>cases decide (q=L)<;>cases b<;>rfl
theorem LQ{s t:Spot}{l m:Int}{lv:Bool}{L:Nat}(hp:On (alL lv s) L)(hq:On (alL lv t) L) :
  aO G 7 oI [sdD s l,sdD t m,.bl lv,.int L]=some (.ok (.tup [ld (pick false (decide (alL lv s=L)) (decide (alL lv t=L)) l m),ld (pick true (decide (alL lv s=L)) (decide (alL lv t=L)) l m)])):=by
 refine aH (ρ:=[.im (sdD s l),.im (sdD t m),.im (.bl lv),.im (.int L),.un,.un,.un]) rfl (aF (aP (d:=.int (if lv then 1 else 0)) rfl) (aF (aP (d:=ld (pick false (decide (alL lv s=L)) (decide (alL lv t=L)) l m)) ?_) (aF (aP (d:=ld (pick true (decide (alL lv s=L)) (decide (alL lv t=L)) l m)) ?_) (aK rfl))))
 ·unfold ld;rw[←CH (b:=false) hp hq (v:=(L:Int)-1) rfl s t lv rfl rfl];refine yN (L:=[(s,l),(t,m)]) (fun a:Spot×Int=>sdD a.1 a.2) (fun a=>D.int a.2) (fun a=>((alL lv a.1:Nat):Int) == (L:Int)-1) (s:=.tup [sdD s l,sdD t m]) rfl rfl fun a _=>⟨[.un,.im (sdD a.1 a.2),.im (.int (if lv then 1 else 0)),.im (.int L)],rfl,?_,rfl⟩
  have e:ev G (.ix (.var 1) (.var 2)) [.un,.im (sdD a.1 a.2),.im (.int (if lv then 1 else 0)),.im (.int L)]=some (.int (alL lv a.1:Nat)):=ZY
  rw[aU,e];rfl
 ·unfold ld;rw[←CH (b:=true) hp hq (v:=(L:Int)) rfl s t lv rfl rfl];refine yN (L:=[(s,l),(t,m)]) (fun a:Spot×Int=>sdD a.1 a.2) (fun a=>D.int a.2) (fun a=>((alL lv a.1:Nat):Int) == (L:Int)) (s:=.tup [sdD s l,sdD t m]) rfl rfl fun a _=>⟨[.un,.im (sdD a.1 a.2),.im (.int (if lv then 1 else 0)),.im (.int L)],rfl,?_,rfl⟩
  have e:ev G (.ix (.var 1) (.var 2)) [.un,.im (sdD a.1 a.2),.im (.int (if lv then 1 else 0)),.im (.int L)]=some (.int (alL lv a.1:Nat)):=ZY
  rw[aU,e];rfl
end
noncomputable def spG(sp:List Spot)(i:Nat):Spot:=sp.getD i ⟨0,0,0,false,false⟩
theorem fR{sp:List Spot}{i:Nat}(h:i<sp.length):sp[i]?=some (spG sp i):=by
 unfold spG;rw[o6,oa h];rfl
structure Pz (c r:Nat) (T:Table) (sp:List Spot):Prop where
 lk:Lk T sp
 mt:Mt c (c*r) sp
 nc:NC c (c*r) sp
 len:sp.length=c*r
theorem pN{c r:Nat}{j:Nat×Nat×Bool}(h:j∈ah c (c*r) (c*r)):j.2.1<c*r:=by
 have h1:=tS h
 rcases h1.2 with ⟨e,_,hm⟩|⟨e,_,hm⟩
 ·have m:=mod_succ hm
  have:j.1+1≠c*r:=fun z=>by
   have:(j.1+1) % c=0:=by rw[z,Nat.mul_mod_right]
   omega
  omega
 ·omega
noncomputable def dep(ds:List D)(i:Nat):Int:=match ds[i]? with
 |some (.tup [_,_,.int l,_,_])=>l
 |_=>0
def SE(T:Table)(sp:List Spot)(ds:List D):Prop:=∀i s,sp[i]?=some s→ds[i]?=some (sdD s (dep ds i))∧dQ T sp i (dep ds i)
theorem aEK{T:Table}{sp:List Spot}{ds:List D}(S:Seats (dQ T sp) sp ds fun _ _=>True):SE T sp ds:=fun i s hs=>by
 obtain⟨l,q,e⟩:=S.at_ i s hs trivial;have:dep ds i=l:=by unfold dep;rw[e]
 rw[this];exact⟨e,q⟩
noncomputable def b6(lv:Bool)(L:Nat)(s:Spot):Bool:=decide (alL lv s=L)
section
variable {c r:Nat}{T:Table}{sp:List Spot}{ds:List D}{j k:Nat×Nat×Bool}
theorem Pz.tk(Z:Pz c r T sp)(mj:j∈ah c (c*r) (c*r))(mk:k∈ah c (c*r) (c*r))(ne:j≠k)(lv:j.2.2=k.2.2)(lane:acL j.2.2 (spG sp j.1)=acL j.2.2 (spG sp k.1))(line:lnN j.2.2 (spG sp j.1)=lnN j.2.2 (spG sp k.1)) :
  Tk c (c*r) sp j k j.2.2 (spG sp j.1) (spG sp j.2.1) (spG sp k.1) (spG sp k.2.1):=
 ⟨mj,mk,rfl,lv.symm,ne,fR (by rw[Z.len];exact mO mj),fR (by rw[Z.len];exact pN mj),fR (by rw[Z.len];exact mO mk),fR (by rw[Z.len];exact pN mk),lane,line⟩
theorem CA(L:Lk T sp){lv:Bool}{N:Nat}{i i':Nat}{s s':Spot}{l l':Int}(hs:sp[i]?=some s)(bg:sp[i']?=some s')(o:On (alL lv s) N)(o':On (alL lv s') N)(lane:acL lv s=acL lv s')(q:dQ T sp i l)(q':dQ T sp i' l'):Rv (b6 lv N s) (b6 lv N s') s.z s'.z l l':=fun e=>by
 have xy:=wG ((aN o o').mpr e) lane
 exact⟨ZS L hs bg xy.1 xy.2 q q',ZS L bg hs xy.1.symm xy.2.symm q' q⟩
theorem Pz.layers(Z:Pz c r T sp)(E:SE T sp ds){l:Bool}{s t s' t':Spot}(K:Tk c (c*r) sp j k l s t s' t') :
  NX (b6 l (lnN l s) s) (b6 l (lnN l s) t) (dep ds j.1) (dep ds j.2.1) (b6 l (lnN l s') s') (b6 l (lnN l s') t') (dep ds k.1) (dep ds k.2.1)∧Df (b6 l (lnN l s) s) (b6 l (lnN l s) t) (dep ds j.1) (dep ds j.2.1) (b6 l (lnN l s') s') (b6 l (lnN l s') t') (dep ds k.1) (dep ds k.2.1):=by
 obtain⟨m1,m2⟩:=K.ms Z.mt;have o1:=gk (s:=s) (l:=l)
 have o2:=tU m1
 have o3:=gk (s:=s') (l:=l)
 have o4:=tU m2
 have hl:=K.line
 rw[←hl]at o3 o4 ⊢;have sm:Sm (alL l s) (alL l t) (alL l s') (alL l t') (b6 l (lnN l s) s) (b6 l (lnN l s) t) (b6 l (lnN l s) s') (b6 l (lnN l s) t'):=⟨aN o1 o2,aN o3 o4,aN o1 o3,aN o1 o4,aN o2 o3⟩
 have d:=Df.re sm (aN o2 o4) (K.df Z.mt Z.lk)
 have x:=(Z.nc j k l s t s' t' K).re sm
 have n1:=pP m1
 have n2:=pP m2
 have n3:=K.lane
 have a:=CA Z.lk K.s1 K.s2 o1 o3 n3 (E _ _ K.s1).2 (E _ _ K.s2).2
 have b:=CA Z.lk K.s1 K.t2 o1 o4 (n3.trans n2) (E _ _ K.s1).2 (E _ _ K.t2).2
 have c:=CA Z.lk K.t1 K.s2 o2 o3 (n1.symm.trans n3) (E _ _ K.t1).2 (E _ _ K.s2).2
 have e:=CA Z.lk K.t1 K.t2 o2 o4 (n1.symm.trans (n3.trans n2)) (E _ _ K.t1).2 (E _ _ K.t2).2
 refine⟨NX.dep d a b c e x,fun h z=>?_,fun h z=>?_,fun h z=>?_,fun h z=>?_⟩
 ·have:=a h;have:=d.a h;omega
 ·have:=b h;have:=d.b h;omega
 ·have:=c h;have:=d.c h;omega
 ·have:=e h;have:=d.d h;omega
end
noncomputable def cx(sp:List Spot)(j:Nat×Nat×Bool):D:=.tup [.bl j.2.2,.int (lnN j.2.2 (spG sp j.1):Nat),.int (acL j.2.2 (spG sp j.1):Nat)]
noncomputable def jy(sp:List Spot)(ds:List D)(j:Nat×Nat×Bool):D:=
 .tup [ld (pick false (b6 j.2.2 (lnN j.2.2 (spG sp j.1)) (spG sp j.1)) (b6 j.2.2 (lnN j.2.2 (spG sp j.1)) (spG sp j.2.1)) (dep ds j.1) (dep ds j.2.1)),ld (pick true (b6 j.2.2 (lnN j.2.2 (spG sp j.1)) (spG sp j.1)) (b6 j.2.2 (lnN j.2.2 (spG sp j.1)) (spG sp j.2.1)) (dep ds j.1) (dep ds j.2.1))]
noncomputable def plD(sp:List Spot)(ds:List D)(j:Nat×Nat×Bool):D:=.tup [cx sp j,jy sp ds j]
noncomputable def zC:IS:=(.seq (.iff (.not (.tr (.call "_law_meet" (.cons (.ix (.var 0) (.var 4)) (.cons (.ix (.var 0) (.var 5)) (.cons (.var 6) .nil)))))) (.ret false (.lit .non)) .nop) (.seq (.set 7 (.call "_law_line" (.cons (.ix (.var 0) (.var 4)) (.cons (.var 6) .nil)))) (.seq (.set 8 (.tup (.cons (.var 6) (.cons (.var 7) (.cons (.ix (.ix (.var 0) (.var 4)) (.bin .sub (.lit (.int 1)) (.bcall .int (.cons (.var 6) .nil)))) .nil))))) (.app 3 (.tup (.cons (.var 8) (.cons (.call "_law_parts" (.cons (.ix (.var 0) (.var 4)) (.cons (.ix (.var 0) (.var 5)) (.cons (.var 6) (.cons (.var 7) .nil))))) .nil)))))))
noncomputable def lF:IS:=(.seq (.setm 3 (.lst .nil)) (.seq (.loop [4,5,6] true .seq (.call "_law_near" (.cons (.var 1) (.cons (.var 2) .nil))) zC) (.retm 3)))
theorem aCr{s:Spot}{lv:Bool}:(if lv then lC s else lQ s)=((lnN lv s:Nat):Int):=by
 unfold lC lQ lnN bq alL;cases lv
 ·cases h:s.e<;>simp[h]
 ·cases h:s.n<;>simp[h]
section
variable {G:GS}
theorem HF{c r:Nat}{T:Table}{sp:List Spot}{ds:List D}(Z:Pz c r T sp)(E:SE T sp ds)(cH:c*r≤64)
  (hnr:G.fn "_law_near" [.int c,.int r]=some (.ok (.lst ((ah c (c*r) (c*r)).map c7))))
  (gq:∀(s t:Spot) (d e:D) (l:Bool),lV s d→lV t e→Meets s t l→G.fn "_law_meet" [d,e,.bl l]=some (.ok (.bl true)))
  (hli:∀(s:Spot) (d:D) (l:Bool),lV s d→G.fn "_law_line" [d,.bl l]=some (.ok (.int (if l then lC s else lQ s))))
  (hpa:∀(s t:Spot) (l m:Int) (lv:Bool) (L:Nat),On (alL lv s) L→On (alL lv t) L→G.fn "_law_parts" [sdD s l,sdD t m,.bl lv,.int L]=some (.ok (.tup [ld (pick false (decide (alL lv s=L)) (decide (alL lv t=L)) l m),ld (pick true (decide (alL lv s=L)) (decide (alL lv t=L)) l m)]))) :
  aO G 9 lF [.lst ds,.int c,.int r]=some (.ok (.lst ((ah c (c*r) (c*r)).map (plD sp ds)))):=by
 have hl:=iA (c:=c) (n:=c*r) (c*r)
 obtain⟨ρ',l,s4,s5,s6,s7,s8,rfl⟩:=dR (enc:=c7) (bind:=bB [4,5,6] true) (body:=ex G zC) (fun k ρ=>∃s4 s5 s6 s7 s8,ρ=[.im (.lst ds),.im (.int c),.im (.int r),.mu (.lst (((ah c (c*r) (c*r)).take k).map (plD sp ds))),s4,s5,s6,s7,s8])
  (L:=ah c (c*r) (c*r)) (ρ:=[.im (.lst ds),.im (.int c),.im (.int r),.mu (.lst []),.un,.un,.un,.un,.un]) ⟨_,_,_,_,_,rfl⟩ (by
   rintro k j hj ρ ⟨s4,s5,s6,s7,s8,rfl⟩;have mj:=o8 hj
   have h1:=fR (sp:=sp) (i:=j.1) (by rw[Z.len];exact mO mj)
   have h2:=fR (sp:=sp) (i:=j.2.1) (by rw[Z.len];exact pN mj)
   have e1:=(E _ _ h1).1
   have e2:=(E _ _ h2).1
   have m:=Z.mt j mj _ _ h1 h2
   obtain⟨a,b,lv⟩:=j;have x1:∀q7 q8,ev G (.ix (.var 0) (.var 4)) [.im (.lst ds),.im (.int c),.im (.int r),.mu (.lst (((ah c (c*r) (c*r)).take k).map (plD sp ds))),.im (.int a),.im (.int b),.im (.bl lv),q7,q8]=some (sdD (spG sp a) (dep ds a)):=fun _ _=>dM e1
   have x2:∀q7 q8,ev G (.ix (.var 0) (.var 5)) [.im (.lst ds),.im (.int c),.im (.int r),.mu (.lst (((ah c (c*r) (c*r)).take k).map (plD sp ds))),.im (.int a),.im (.int b),.im (.bl lv),q7,q8]=some (sdD (spG sp b) (dep ds b)):=fun _ _=>dM e2
   have x1':∀q3 q7 q8,ev G (.ix (.var 0) (.var 4)) [.im (.lst ds),.im (.int c),.im (.int r),q3,.im (.int a),.im (.int b),.im (.bl lv),q7,q8]=some (sdD (spG sp a) (dep ds a)):=fun _ _ _=>dM e1
   have x2':∀q3 q7 q8,ev G (.ix (.var 0) (.var 5)) [.im (.lst ds),.im (.int c),.im (.int r),q3,.im (.int a),.im (.int b),.im (.bl lv),q7,q8]=some (sdD (spG sp b) (dep ds b)):=fun _ _ _=>dM e2
   refine⟨[.im (.lst ds),.im (.int c),.im (.int r),.mu (.lst (((ah c (c*r) (c*r)).take k).map (plD sp ds))),.im (.int a),.im (.int b),.im (.bl lv),s7,s8],rfl,_,aF (bJ ?_ aM) (aF (aP (d:=.int (lnN lv (spG sp a):Nat)) ?_) (aF (aP (d:=cx sp (a,b,lv)) ?_) (BC (d:=plD sp ds (a,b,lv)) ?_ rfl (by rw[og,qi];omega)))),.im (.int a),.im (.int b),.im (.bl lv),.im (.int (lnN lv (spG sp a):Nat)),.im (cx sp (a,b,lv)),?_⟩
   ·simp only[dU,fP,bL];rw[vT,iR,aW,aJ,x1',aJ,x2'];show (((bT (G.fn "_law_meet" [sdD (spG sp a) (dep ds a),sdD (spG sp b) (dep ds b),.bl lv])).bind fun x=>(b8 x).map D.bl).bind _:Option D)=_
    rw[gq (spG sp a) (spG sp b) (sdD (spG sp a) (dep ds a)) (sdD (spG sp b) (dep ds b)) lv ⟨_,rfl⟩ ⟨_,rfl⟩ m];rfl
   ·rw[aW,aJ,x1];show bT (G.fn "_law_line" [sdD (spG sp a) (dep ds a),.bl lv])=_
    rw[hli (spG sp a) (sdD (spG sp a) (dep ds a)) lv ⟨_,rfl⟩,aCr];rfl
   ·simp only[List.set];rw[jE,aJ,aJ,aJ,EZ,x1];cases lv<;>rfl
   ·simp only[List.set];rw[jE,aJ,aJ,aW,aJ,x1,aJ,x2];show (bH ((some (cx sp (a,b,lv))).bind fun d=>((bT (G.fn "_law_parts" [sdD (spG sp a) (dep ds a),sdD (spG sp b) (dep ds b),.bl lv,.int (lnN lv (spG sp a):Nat)])).bind fun d=>_).bind _)).map D.tup=_
    rw[hpa (spG sp a) (spG sp b) (dep ds a) (dep ds b) lv _ gk (tU m)];rfl
   ·rw[r8,hj,qz];rfl)
 rw[sf]at l;refine aH (ρ:=[.im (.lst ds),.im (.int c),.im (.int r),.un,.un,.un,.un,.un,.un]) rfl (aF (lK (ds:=[]) rfl) (aF ((bO (d:=.lst ((ah c (c*r) (c*r)).map c7)) ?_ eG).trans l) (lL rfl)));rw[aW];show bT (G.fn "_law_near" [.int c,.int r])=_
 rw[hnr];rfl
end
noncomputable def oSp(p:Nat)(a:Bool)(q:Nat)(b:Bool)(l:Int):D:=.obj "Spot" [("place",.int p),("turned",.bl a),("lane",.int q),("slanted",.bl b),("depth",.int l)]
noncomputable def spO(lv:Bool)(s:Spot)(l:Int):D:=oSp (alL lv s) (bq lv s) (acL lv s) (bq (!lv) s) l
noncomputable def oSt(a b:Int)(u v t:D):D:=.obj "Strand" [("first",.int a),("second",.int b),("here",u),("there",v),("track",t)]
noncomputable def stO(sp:List Spot)(dp:Nat→Int)(j:Nat×Nat×Bool):D:=oSt j.1 j.2.1 (spO j.2.2 (spG sp j.1) (dp j.1)) (spO j.2.2 (spG sp j.2.1) (dp j.2.1)) (cx sp j)
noncomputable def aEH:List Str:=["place","turned","lane","slanted","depth"]
noncomputable def aEG:List Str:=["first","second","here","there","track"]
noncomputable def DC:IS:=(.ret false (.ite (.tr (.fld (.var 0) "turned")) (.fld (.var 0) "place") (.bin .add (.fld (.var 0) "place") (.lit (.int 1)))))
noncomputable def oJ:IS:=(.ret false (.ite (.tr (.fld (.var 0) "turned")) (.bin .add (.fld (.var 0) "place") (.lit (.int 1))) (.fld (.var 0) "place")))
noncomputable def uB:IS:=(.seq (.iff (.or (.bin .ne (.fld (.fld (.var 0) "here") "lane") (.fld (.fld (.var 0) "there") "lane")) (.bin .ne (.fld (.fld (.var 0) "here") "slanted") (.fld (.fld (.var 0) "there") "slanted"))) (.ret false (.lit (.bl true))) .nop) (.ret false (.bin .ne (.meth (.fld (.var 0) "here") "far_line" .nil) (.meth (.fld (.var 0) "there") "near_line" .nil))))
noncomputable def uH:IS:=(.ret false (.bin .eq (.fld (.fld (.var 0) "here") "place") (.fld (.fld (.var 0) "there") "place")))
noncomputable def lE:IS:=(.seq (.iff (.bin .ne (.fld (.var 1) "place") (.fld (.fld (.var 0) "here") "place")) (.ret false (.lit (.bl false))) .nop) (.seq (.set 2 (.bcall .min (.cons (.fld (.fld (.var 0) "here") "depth") (.cons (.fld (.fld (.var 0) "there") "depth") .nil)))) (.seq (.set 3 (.bcall .max (.cons (.fld (.fld (.var 0) "here") "depth") (.cons (.fld (.fld (.var 0) "there") "depth") .nil)))) (.ret false (.chain .lt .lt (.var 2) (.fld (.var 1) "depth") (.var 3))))))
noncomputable def jR:IS:=(.ret false (.bin .ne (.call "is_within" (.cons (.var 0) (.cons (.fld (.var 1) "here") .nil))) (.call "is_within" (.cons (.var 0) (.cons (.fld (.var 1) "there") .nil)))))
noncomputable def jV:IS:=(.seq (.set 2 (.fld (.var 1) "here")) (.seq (.set 3 (.fld (.var 1) "there")) (.seq (.iff (.bin .ne (.fld (.fld (.var 0) "here") "place") (.fld (.fld (.var 1) "here") "place")) (.seq (.set 2 (.fld (.var 1) "there")) (.set 3 (.fld (.var 1) "here"))) .nop) (.ret false (.bin .ne (.bin .lt (.fld (.fld (.var 0) "here") "depth") (.fld (.var 2) "depth")) (.bin .lt (.fld (.fld (.var 0) "there") "depth") (.fld (.var 3) "depth")))))))
noncomputable def oM:IS:=(.seq (.iff (.tr (.meth (.var 0) "is_bend" .nil)) (.ret false (.call "is_pierced" (.cons (.var 0) (.cons (.var 1) .nil)))) .nop) (.seq (.iff (.tr (.meth (.var 1) "is_bend" .nil)) (.ret false (.call "is_pierced" (.cons (.var 1) (.cons (.var 0) .nil)))) .nop) (.ret false (.call "bridges_cross" (.cons (.var 0) (.cons (.var 1) .nil))))))
section
variable {G:GS}(hS:G.fl "Spot" = aEH)(hT:G.fl "Strand" = aEG)
section
variable {ρ:List Sl}{e:IE}{p q:Nat}{a b:Bool}{l:Int}(h:ev G e ρ=some (oSp p a q b l))
include hS h
theorem eV:ev G (.fld e "place") ρ=some (.int p):=by rw[dB,h];show (if (G.fl "Spot").contains _ then _ else _)=_;rw[hS];rfl
theorem rO:ev G (.fld e "turned") ρ=some (.bl a):=by rw[dB,h];show (if (G.fl "Spot").contains _ then _ else _)=_;rw[hS];rfl
theorem tG:ev G (.fld e "lane") ρ=some (.int q):=by rw[dB,h];show (if (G.fl "Spot").contains _ then _ else _)=_;rw[hS];rfl
theorem pE:ev G (.fld e "slanted") ρ=some (.bl b):=by rw[dB,h];show (if (G.fl "Spot").contains _ then _ else _)=_;rw[hS];rfl
theorem dY:ev G (.fld e "depth") ρ=some (.int l):=by rw[dB,h];show (if (G.fl "Spot").contains _ then _ else _)=_;rw[hS];rfl
end
section
variable {ρ:List Sl}{e:IE}{a b:Int}{u v t:D}(h:ev G e ρ=some (oSt a b u v t))
include hT h
theorem dX:ev G (.fld e "here") ρ=some u:=by rw[dB,h];show (if (G.fl "Strand").contains _ then _ else _)=_;rw[hT];rfl
theorem eU:ev G (.fld e "there") ρ=some v:=by rw[dB,h];show (if (G.fl "Strand").contains _ then _ else _)=_;rw[hT];rfl
theorem wQ:ev G (.fld e "track") ρ=some t:=by rw[dB,h];show (if (G.fl "Strand").contains _ then _ else _)=_;rw[hT];rfl
end
theorem tF{ρ:List Sl}{e:IE}{p q:Nat}{a b:Bool}{l:Int}{m:Str}{d:D}(hm:([("place",D.int p),("turned",.bl a),("lane",.int q),("slanted",.bl b),("depth",.int l)]:List (Str×D)).lookup m=none)(h:ev G e ρ=some (oSp p a q b l))(o:G.me "Spot" m [oSp p a q b l]=some (.ok d)):ev G (.meth e m .nil) ρ=some d:=by
 rw[oP,h];show (if (List.lookup m _).isNone=true then _ else _)=_
 rw[hm];show bT (G.me "Spot" m [oSp p a q b l])=_
 rw[o];rfl
theorem sZ{ρ:List Sl}{e:IE}{a b:Int}{u v t:D}{m:Str}{d:D}(hm:([("first",D.int a),("second",.int b),("here",u),("there",v),("track",t)]:List (Str×D)).lookup m=none)(h:ev G e ρ=some (oSt a b u v t))(o:G.me "Strand" m [oSt a b u v t]=some (.ok d)):ev G (.meth e m .nil) ρ=some d:=by
 rw[oP,h];show (if (List.lookup m _).isNone=true then _ else _)=_
 rw[hm];show bT (G.me "Strand" m [oSt a b u v t])=_
 rw[o];rfl
include hS in
theorem aCI{p q:Nat}{a b:Bool}{l:Int}:aO G 1 DC [oSp p a q b l]=some (.ok (.int ((if a then p else p+1:Nat):Int))):=by
 have e:ev G (.var 0) [.im (oSp p a q b l)]=some (oSp p a q b l):=rfl
 refine aH (ρ:=[.im (oSp p a q b l)]) rfl (aK ?_);rw[qI,iR,rO hS e,aU,eV hS e];cases a<;>rfl
include hS in
theorem MJ{p q:Nat}{a b:Bool}{l:Int}:aO G 1 oJ [oSp p a q b l]=some (.ok (.int ((if a then p+1 else p:Nat):Int))):=by
 have e:ev G (.var 0) [.im (oSp p a q b l)]=some (oSp p a q b l):=rfl
 refine aH (ρ:=[.im (oSp p a q b l)]) rfl (aK ?_);rw[qI,iR,rO hS e,aU,eV hS e];cases a<;>rfl
include hS hT in
theorem YB{a b:Int}{p q p' q':Nat}{x y x' y':Bool}{l l':Int}{t:D}:aO G 1 uH [oSt a b (oSp p x q y l) (oSp p' x' q' y' l') t]=some (.ok (.bl ((p:Int) == p'))):=by
 have e:ev G (.var 0) [.im (oSt a b (oSp p x q y l) (oSp p' x' q' y' l') t)]=some (oSt a b (oSp p x q y l) (oSp p' x' q' y' l') t):=rfl
 refine aH (ρ:=[.im (oSt a b (oSp p x q y l) (oSp p' x' q' y' l') t)]) rfl (aK ?_);rw[aU,eV hS (dX hT e),eV hS (eU hT e)];exact aBZ
include hS hT in
theorem RQ(l6:∀(p q:Nat) (a b:Bool) (l:Int),G.me "Spot" "far_line" [oSp p a q b l]=some (.ok (.int ((if a then p else p+1:Nat):Int))))(bu:∀(p q:Nat) (a b:Bool) (l:Int),G.me "Spot" "near_line" [oSp p a q b l]=some (.ok (.int ((if a then p+1 else p:Nat):Int))))
  {s t:Spot} {lv:Bool} (m:Meets s t lv) {a b l l':Int} {k:D}:aO G 1 uB [oSt a b (spO lv s l) (spO lv t l') k]=some (.ok (.bl false)):=by
 have e:ev G (.var 0) [.im (oSt a b (spO lv s l) (spO lv t l') k)]=some (oSt a b (spO lv s l) (spO lv t l') k):=rfl
 have h1:=dX hT e
 have h2:=eU hT e
 have sl:bq (!lv) s=bq (!lv) t:=by
  cases lv
  ·exact(m.up rfl).2.1
  ·exact(m.lv rfl).2.1
 have ln:((if bq lv s then alL lv s else alL lv s+1:Nat):Int)=((if bq lv t then alL lv t+1 else alL lv t:Nat):Int):=by
  have h:lin (bq lv s) (alL lv s)=lin (!bq lv t) (alL lv t):=by
   cases lv
   ·exact(m.up rfl).2.2
   ·exact(m.lv rfl).2.2
  rw[gC,gC]at h;rw[h];cases bq lv t<;>rfl
 refine aH (ρ:=[.im (oSt a b (spO lv s l) (spO lv t l') k)]) rfl (aF (bJ ?_ aM) (aK ?_))
 ·show ev G _ [.im (oSt a b (spO lv s l) (spO lv t l') k)]=_
  refine cX (x:=false) (y:=false) ?_ fun _=>?_
  ·rw[aU,tG hS h1,tG hS h2,pP m];exact aHg
  ·rw[aU,pE hS h1,pE hS h2,sl];exact VN
 ·rw[aU,tF rfl h1 (l6 _ _ _ _ _),tF rfl h2 (bu _ _ _ _ _),ln];exact aHg
include hS hT in
theorem GM{a b:Int}{p q p' q' p2 q2:Nat}{x y x' y' x2 y2:Bool}{l l' l2:Int}{t:D}:aO G 4 lE [oSt a b (oSp p x q y l) (oSp p' x' q' y' l') t,oSp p2 x2 q2 y2 l2]=some (.ok (.bl (((p2:Int) == p)&&inB l2 l l'))):=by
 have e:∀r,ev G (.var 0) (.im (oSt a b (oSp p x q y l) (oSp p' x' q' y' l') t)::r)=some (oSt a b (oSp p x q y l) (oSp p' x' q' y' l') t):=fun _=>rfl
 have e2:∀s r,ev G (.var 1) (s :: .im (oSp p2 x2 q2 y2 l2)::r)=some (oSp p2 x2 q2 y2 l2):=fun _ _=>rfl
 have c:∀z:Bool,(!((p2:Int) == p))=z→ev G (.bin .ne (.fld (.var 1) "place") (.fld (.fld (.var 0) "here") "place")) [.im (oSt a b (oSp p x q y l) (oSp p' x' q' y' l') t),.im (oSp p2 x2 q2 y2 l2),.un,.un]=some (.bl z):=fun z h=>by
  rw[aU,eV hS (e2 _ _),eV hS (dX hT (e _)),←h];exact VI
 cases h:(p2:Int) == p with
 |false=>exact aH (ρ:=[.im (oSt a b (oSp p x q y l) (oSp p' x' q' y' l') t),.im (oSp p2 x2 q2 y2 l2),.un,.un]) rfl (fC (iK (c true (by rw[h];rfl)) (aK rfl)) fun _ z=>nomatch z)
 |true =>
  refine aH (ρ:=[.im (oSt a b (oSp p x q y l) (oSp p' x' q' y' l') t),.im (oSp p2 x2 q2 y2 l2),.un,.un]) rfl (aF (bJ (c false (by rw[h];rfl)) aM) (aF (aP (d:=.int (if l'<l then l' else l)) ?_) (aF (aP (d:=.int (if l' > l then l' else l)) ?_) (aK ?_))))
  ·rw[lO,aJ,dY hS (dX hT (e _)),aJ,dY hS (eU hT (e _))];rfl
  ·simp only[List.set];rw[lO,aJ,dY hS (dX hT (e _)),aJ,dY hS (eU hT (e _))];rfl
  ·simp only[List.set];rw[lN,dY hS (e2 _ _)];unfold inB;show (match D.bl (decide ((if l'<l then l' else l)<l2)) with | .bl true=>some (D.bl (decide (l2<(if l' > l then l' else l)))) | .bl false=>some (.bl false)|_=>none)=_
   cases decide ((if l'<l then l' else l)<l2)<;>rfl
end
theorem VP{c n k:Nat}{j:Nat×Nat×Bool}(h:j∈ed c n k):j.1=k:=by
 unfold ed at h
 rcases sk.mp h with h|h<;>(split at h<;>simp at h<;>rw[h])
theorem aCc{c n k:Nat}:(ed c n k).Nodup:=by
 unfold ed;split<;>split<;>simp
theorem AF{c n:Nat}:∀k,(ah c n k).Nodup
 | 0=>List.nodup_nil
 |k+1=>by
  rw[lA,List.nodup_append];refine⟨AF k,aCc,fun a ha b hb e=>?_⟩
  have h1:=mO ha
  have h2:=VP hb
  rw[e]at h1;omega
theorem ZG{α:Type}{l:List α}(h:l.Nodup){i j:Nat}{a b:α}(hi:l[i]?=some a)(hj:l[j]?=some b)(bu:i<j):a≠b:=by
 obtain⟨h1,e1⟩:=o5.mp hi;obtain⟨h2,e2⟩:=o5.mp hj;rw[←e1,←e2];exact List.pairwise_iff_getElem.mp h i j h1 h2 bu
theorem lP:∀(xs:List D) (k i:Nat),(hG k xs)[i]?=(xs[i]?).map fun x=>D.tup [.int ((k+i:Nat):Int),x]
 |[],_,_=>rfl
 |x::r,k,0=>rfl
 |x::r,k,i+1=>by
  show (hG (k+1) r)[i]?=_
  rw[lP r (k+1) i,List.getElem?_cons_succ,show k+1+i=k+(i+1) by omega]
theorem jH{α:Type}{xs:List α}{n:Nat}:cut xs (some (n:Int)) none=xs.drop n:=by
 have e:sIx xs.length 0 (some (n:Int))=min n xs.length:=by
  show (if (n:Int)<0 then((n:Int)+(xs.length:Int)).toNat else min (n:Int).toNat xs.length)=_
  rw[if_neg (by omega),toNat_natCast]
 unfold cut;rw[e];show (xs.drop (min n xs.length)).take (xs.length-min n xs.length)=_
 by_cases h:n≤xs.length
 ·rw[min_eq_left h,List.take_of_length_le (by rw[sg];omega)]
 ·rw[Nat.min_eq_right (by omega),Nat.sub_self,List.take_zero,List.drop_eq_nil_of_le (by omega)]
noncomputable def OY:IS:=(.iff (.tr (.meth (.var 1) "is_torn" .nil)) (.ret false (.tup (.cons (.lit (.str "torn")) (.cons (.fld (.var 1) "first") (.cons (.fld (.var 1) "second") .nil))))) .nop)
noncomputable def oG:IS:=(.seq (.loop [1] false .seq (.var 0) OY) (.ret false (.lit .non)))
noncomputable def sR:IS:=(.iff (.and (.bin .eq (.fld (.var 2) "track") (.fld (.var 3) "track")) (.tr (.call "cross" (.cons (.var 2) (.cons (.var 3) .nil))))) (.ret false (.tup (.cons (.lit (.str "crossed")) (.cons (.fld (.var 2) "first") (.cons (.fld (.var 2) "second") (.cons (.fld (.var 3) "first") (.cons (.fld (.var 3) "second") .nil))))))) .nop)
noncomputable def mR:IS:=(.loop [3] false .seq (.sl (.var 0) true (.bin .add (.var 1) (.lit (.int 1))) false (.lit .non)) sR)
noncomputable def jT:IS:=(.seq (.loop [1,2] true .enum (.var 0) mR) (.ret false (.lit .non)))
section
variable {G:GS}(hS:G.fl "Spot" = aEH)(hT:G.fl "Strand" = aEG)
include hS hT
section
variable {a b a2 b2:Int}{p q p' q' p2 q2 p3 q3:Nat}{x y x' y' x2 y2 x3 y3:Bool}{l l' l2 l3:Int}{t t2:D}
omit hS in
theorem zZ(hw:∀(a b:Int) (p q p' q' p2 q2:Nat) (x y x' y' x2 y2:Bool) (l l' l2:Int) (t:D),G.fn "is_within" [oSt a b (oSp p x q y l) (oSp p' x' q' y' l') t,oSp p2 x2 q2 y2 l2]=some (.ok (.bl (((p2:Int) == p)&&inB l2 l l')))) :
  aO G 2 jR [oSt a b (oSp p x q y l) (oSp p' x' q' y' l') t,oSt a2 b2 (oSp p2 x2 q2 y2 l2) (oSp p3 x3 q3 y3 l3) t2]=some (.ok (.bl (!((((p2:Int) == p)&&inB l2 l l') == (((p3:Int) == p)&&inB l3 l l'))))):=by
 have e:ev G (.var 1) [.im (oSt a b (oSp p x q y l) (oSp p' x' q' y' l') t),.im (oSt a2 b2 (oSp p2 x2 q2 y2 l2) (oSp p3 x3 q3 y3 l3) t2)]=some (oSt a2 b2 (oSp p2 x2 q2 y2 l2) (oSp p3 x3 q3 y3 l3) t2):=rfl
 refine aH (ρ:=[.im (oSt a b (oSp p x q y l) (oSp p' x' q' y' l') t),.im (oSt a2 b2 (oSp p2 x2 q2 y2 l2) (oSp p3 x3 q3 y3 l3) t2)]) rfl (aK ?_);rw[aU,aW,aJ,aJ,dX hT e,aW,aJ,aJ,eU hT e];show (bT (G.fn "is_within" [oSt a b (oSp p x q y l) (oSp p' x' q' y' l') t,oSp p2 x2 q2 y2 l2])).bind (fun u=>(bT (G.fn "is_within" [oSt a b (oSp p x q y l) (oSp p' x' q' y' l') t,oSp p3 x3 q3 y3 l3])).bind fun v=>aj .ne u v)=_
 rw[hw,hw];rfl
theorem BK:aO G 4 jV [oSt a b (oSp p x q y l) (oSp p' x' q' y' l') t,oSt a2 b2 (oSp p2 x2 q2 y2 l2) (oSp p3 x3 q3 y3 l3) t2]=some (.ok (.bl (if (p:Int) == p2 then !(decide (l<l2) == decide (l'<l3)) else !(decide (l<l3) == decide (l'<l2))))):=by
 have e:∀r,ev G (.var 0) (.im (oSt a b (oSp p x q y l) (oSp p' x' q' y' l') t)::r)=some (oSt a b (oSp p x q y l) (oSp p' x' q' y' l') t):=fun _=>rfl
 have e2:∀s r,ev G (.var 1) (s :: .im (oSt a2 b2 (oSp p2 x2 q2 y2 l2) (oSp p3 x3 q3 y3 l3) t2)::r)=some (oSt a2 b2 (oSp p2 x2 q2 y2 l2) (oSp p3 x3 q3 y3 l3) t2):=fun _ _=>rfl
 have c:∀z:Bool,(!((p:Int) == p2))=z→∀s3 s4,ev G (.bin .ne (.fld (.fld (.var 0) "here") "place") (.fld (.fld (.var 1) "here") "place")) [.im (oSt a b (oSp p x q y l) (oSp p' x' q' y' l') t),.im (oSt a2 b2 (oSp p2 x2 q2 y2 l2) (oSp p3 x3 q3 y3 l3) t2),s3,s4]=some (.bl z):=fun z h s3 s4=>by
  rw[aU,eV hS (dX hT (e _)),eV hS (dX hT (e2 _ _)),←h];exact VI
 have fin:∀(u v:Nat×Bool×Nat×Bool×Int),ev G (.bin .ne (.bin .lt (.fld (.fld (.var 0) "here") "depth") (.fld (.var 2) "depth")) (.bin .lt (.fld (.fld (.var 0) "there") "depth") (.fld (.var 3) "depth"))) [.im (oSt a b (oSp p x q y l) (oSp p' x' q' y' l') t),.im (oSt a2 b2 (oSp p2 x2 q2 y2 l2) (oSp p3 x3 q3 y3 l3) t2),.im (oSp u.1 u.2.1 u.2.2.1 u.2.2.2.1 u.2.2.2.2),.im (oSp v.1 v.2.1 v.2.2.1 v.2.2.2.1 v.2.2.2.2)]=some (.bl (!(decide (l<u.2.2.2.2) == decide (l'<v.2.2.2.2)))):=fun u v=>by
  have f2:ev G (.var 2) [.im (oSt a b (oSp p x q y l) (oSp p' x' q' y' l') t),.im (oSt a2 b2 (oSp p2 x2 q2 y2 l2) (oSp p3 x3 q3 y3 l3) t2),.im (oSp u.1 u.2.1 u.2.2.1 u.2.2.2.1 u.2.2.2.2),.im (oSp v.1 v.2.1 v.2.2.1 v.2.2.2.1 v.2.2.2.2)]=some (oSp u.1 u.2.1 u.2.2.1 u.2.2.2.1 u.2.2.2.2):=rfl
  have f3:ev G (.var 3) [.im (oSt a b (oSp p x q y l) (oSp p' x' q' y' l') t),.im (oSt a2 b2 (oSp p2 x2 q2 y2 l2) (oSp p3 x3 q3 y3 l3) t2),.im (oSp u.1 u.2.1 u.2.2.1 u.2.2.2.1 u.2.2.2.2),.im (oSp v.1 v.2.1 v.2.2.1 v.2.2.2.1 v.2.2.2.2)]=some (oSp v.1 v.2.1 v.2.2.1 v.2.2.2.1 v.2.2.2.2):=rfl
  rw[aU,aU,aU,dY hS (dX hT (e _)),dY hS f2,dY hS (eU hT (e _)),dY hS f3];rfl
 refine aH (ρ:=[.im (oSt a b (oSp p x q y l) (oSp p' x' q' y' l') t),.im (oSt a2 b2 (oSp p2 x2 q2 y2 l2) (oSp p3 x3 q3 y3 l3) t2),.un,.un]) rfl (aF (aP (dX hT (e2 _ _))) (aF (aP (eU hT (e2 _ _))) ?_));cases h:(p:Int) == p2 with
 |true=>exact aF (bJ (c false (by rw[h];rfl) _ _) aM) (aK (fin (p2,x2,q2,y2,l2) (p3,x3,q3,y3,l3)))
 |false=>exact aF (iK (c true (by rw[h];rfl) _ _) (aF (aP (eU hT (e2 _ _))) (aP (dX hT (e2 _ _))))) (aK (fin (p3,x3,q3,y3,l3) (p2,x2,q2,y2,l2)))
end
omit hS hT in
theorem lS{a b:Bool}(h:a=b):(!(a == b))=false:=by rw[h];cases b<;>rfl
omit hS hT in
theorem KC{c r:Nat}{T:Table}{sp:List Spot}{dp:Nat→Int}(Z:Pz c r T sp)(hto:∀(s t:Spot) (lv:Bool) (a b l l':Int) (k:D),Meets s t lv→G.me "Strand" "is_torn" [oSt a b (spO lv s l) (spO lv t l') k]=some (.ok (.bl false))) :
  aO G 2 oG [.lst ((ah c (c*r) (c*r)).map (stO sp dp))]=some (.ok .non):=by
 obtain⟨ρ',l,s1,rfl⟩:=dR (enc:=stO sp dp) (bind:=bB [1] false) (body:=ex G OY) (fun _ ρ=>∃s1,ρ=[.im (.lst ((ah c (c*r) (c*r)).map (stO sp dp))),s1])
  (L:=ah c (c*r) (c*r)) (ρ:=[.im (.lst ((ah c (c*r) (c*r)).map (stO sp dp))),.un]) ⟨_,rfl⟩ (by
   rintro k j hj ρ ⟨s1,rfl⟩;have mj:=o8 hj
   have m:=Z.mt j mj _ _ (fR (by rw[Z.len];exact mO mj)) (fR (by rw[Z.len];exact pN mj))
   refine⟨[.im (.lst ((ah c (c*r) (c*r)).map (stO sp dp))),.im (stO sp dp j)],rfl,_,bJ ?_ aM,_,rfl⟩;show ev G _ [.im (.lst ((ah c (c*r) (c*r)).map (stO sp dp))),.im (stO sp dp j)]=_
   rw[iR,sZ rfl (show ev G (.var 1) [.im (.lst ((ah c (c*r) (c*r)).map (stO sp dp))),.im (stO sp dp j)]=some (stO sp dp j) from rfl) (hto _ _ _ _ _ _ _ _ m)]
   rfl)
 exact aH (ρ:=[.im (.lst ((ah c (c*r) (c*r)).map (stO sp dp))),.un]) rfl (aF ((bO (d:=.lst ((ah c (c*r) (c*r)).map (stO sp dp))) rfl eG).trans l) (aK rfl))
omit hS hT in
theorem OP{c r:Nat}{T:Table}{sp:List Spot}{ds:List D}(Z:Pz c r T sp)(E:SE T sp ds)
  (f7:∀(a b:Int) (p q p' q':Nat) (x y x' y':Bool) (l l':Int) (t:D),G.me "Strand" "is_bend" [oSt a b (oSp p x q y l) (oSp p' x' q' y' l') t]=some (.ok (.bl ((p:Int) == p'))))
  (hpi:∀(a b a2 b2:Int) (p q p' q' p2 q2 p3 q3:Nat) (x y x' y' x2 y2 x3 y3:Bool) (l l' l2 l3:Int) (t t2:D),G.fn "is_pierced" [oSt a b (oSp p x q y l) (oSp p' x' q' y' l') t,oSt a2 b2 (oSp p2 x2 q2 y2 l2) (oSp p3 x3 q3 y3 l3) t2]=some (.ok (.bl (!((((p2:Int) == p)&&inB l2 l l') == (((p3:Int) == p)&&inB l3 l l'))))))
  (hbr:∀(a b a2 b2:Int) (p q p' q' p2 q2 p3 q3:Nat) (x y x' y' x2 y2 x3 y3:Bool) (l l' l2 l3:Int) (t t2:D),G.fn "bridges_cross" [oSt a b (oSp p x q y l) (oSp p' x' q' y' l') t,oSt a2 b2 (oSp p2 x2 q2 y2 l2) (oSp p3 x3 q3 y3 l3) t2]=some (.ok (.bl (if (p:Int) == p2 then !(decide (l<l2) == decide (l'<l3)) else !(decide (l<l3) == decide (l'<l2))))))
  {j k:Nat×Nat×Bool} (K:Tk c (c*r) sp j k j.2.2 (spG sp j.1) (spG sp j.2.1) (spG sp k.1) (spG sp k.2.1)):aO G 2 oM [stO sp (dep ds) j,stO sp (dep ds) k]=some (.ok (.bl false)):=by
 obtain⟨m1,m2⟩:=K.ms Z.mt;have o1:=gk (s:=spG sp j.1) (l:=j.2.2)
 have o2:=tU m1
 have o3:=gk (s:=spG sp k.1) (l:=j.2.2)
 have o4:=tU m2
 have x:=(Z.layers E K).1
 have hl:=K.line
 rw[←hl]at o3 o4 x;have x:=x.re ⟨(aN o1 o2).symm,(aN o3 o4).symm,(aN o1 o3).symm,(aN o1 o4).symm,(aN o2 o3).symm⟩
 have lv:=K.lk
 have nat:∀u v:Nat,((u:Int) == (v:Int))=decide (u=v):=fun u v=>by
  rw[Bool.eq_iff_iff,qd,p4];omega
 have k1:stO sp (dep ds) k=oSt k.1 k.2.1 (spO j.2.2 (spG sp k.1) (dep ds k.1)) (spO j.2.2 (spG sp k.2.1) (dep ds k.2.1)) (cx sp k):=by unfold stO;rw[lv]
 rw[k1];generalize hA:alL j.2.2 (spG sp j.1)=A at x o1;generalize hB:alL j.2.2 (spG sp j.2.1)=B at x o2;generalize hC:alL j.2.2 (spG sp k.1)=C at x o3;generalize hD:alL j.2.2 (spG sp k.2.1)=F at x o4;have b1:∀ρ,slot ρ 0=some (stO sp (dep ds) j)→ev G (.tr (.meth (.var 0) "is_bend" .nil)) ρ=some (.bl (decide (A=B))):=fun ρ h=>by
  rw[iR,sZ rfl (show ev G (.var 0) ρ=some (stO sp (dep ds) j) from h) (f7 _ _ _ _ _ _ _ _ _ _ _ _ _),nat,hA,hB];rfl
 have b2:∀ρ,slot ρ 1=some (oSt k.1 k.2.1 (spO j.2.2 (spG sp k.1) (dep ds k.1)) (spO j.2.2 (spG sp k.2.1) (dep ds k.2.1)) (cx sp k))→ev G (.tr (.meth (.var 1) "is_bend" .nil)) ρ=some (.bl (decide (C=F))):=fun ρ h=>by
  rw[iR,sZ rfl (show ev G (.var 1) ρ=some (oSt k.1 k.2.1 (spO j.2.2 (spG sp k.1) (dep ds k.1)) (spO j.2.2 (spG sp k.2.1) (dep ds k.2.1)) (cx sp k)) from h) (f7 _ _ _ _ _ _ _ _ _ _ _ _ _),nat,hC,hD];rfl
 refine aH (ρ:=[.im (stO sp (dep ds) j),.im (oSt k.1 k.2.1 (spO j.2.2 (spG sp k.1) (dep ds k.1)) (spO j.2.2 (spG sp k.2.1) (dep ds k.2.1)) (cx sp k))]) rfl ?_
 by_cases h1:A=B
 ·refine fC (iK ((b1 _ rfl).trans (by rw[qc h1])) (aK ?_)) fun _ z=>nomatch z
  rw[aW];show bT (G.fn "is_pierced" [stO sp (dep ds) j,oSt k.1 k.2.1 (spO j.2.2 (spG sp k.1) (dep ds k.1)) (spO j.2.2 (spG sp k.2.1) (dep ds k.2.1)) (cx sp k)])=_
  unfold stO spO;rw[hpi,nat,nat,hA,hC,hD];show some (D.bl _)=some (D.bl false)
  congr 2
  refine lS ?_
  by_cases h2:C=F
  ·rw[h2]
   by_cases h3:F=A
   ·rw[NM (x.bb h1 h2 (by rw[h2,h3]))]
   ·rw[oj h3];rfl
  ·have y:=x.b1 h1 h2
   by_cases h3:C=A
   ·rw[nL (y.1 h3),oj (fun z:F=A=>h2 (h3.trans z.symm))];simp
   ·rw[oj h3]
    by_cases h4:F=A
    ·rw[nL (y.2 h4)];simp
    ·rw[oj h4];rfl
 refine aF (bJ ((b1 _ rfl).trans (by rw[oj h1])) aM) ?_
 by_cases h2:C=F
 ·refine fC (iK ((b2 _ rfl).trans (by rw[qc h2])) (aK ?_)) fun _ z=>nomatch z
  rw[aW];show bT (G.fn "is_pierced" [oSt k.1 k.2.1 (spO j.2.2 (spG sp k.1) (dep ds k.1)) (spO j.2.2 (spG sp k.2.1) (dep ds k.2.1)) (cx sp k),stO sp (dep ds) j])=_
  unfold stO spO;rw[hpi,nat,nat,hA,hB,hC];show some (D.bl _)=some (D.bl false)
  congr 2
  refine lS ?_;have y:=x.b2 h2 h1
  by_cases h3:A=C
  ·rw[nL (y.1 h3),oj (fun z:B=C=>h1 (h3.trans z.symm))];simp
  ·rw[oj h3]
   by_cases h4:B=C
   ·rw[nL (y.2 h4)];simp
   ·rw[oj h4];rfl
 refine aF (bJ ((b2 _ rfl).trans (by rw[oj h2])) aM) (aK ?_)
 rw[aW];show bT (G.fn "bridges_cross" [stO sp (dep ds) j,oSt k.1 k.2.1 (spO j.2.2 (spG sp k.1) (dep ds k.1)) (spO j.2.2 (spG sp k.2.1) (dep ds k.2.1)) (cx sp k)])=_
 unfold stO spO;rw[hbr,nat,hA,hC];have y:=x.br h1 h2
 show some (D.bl _)=some (D.bl false)
 congr 2
 by_cases h3:A=C
 ·rw[qc h3,if_pos rfl];exact lS (decide_eq_decide.mpr (y.1 h3))
 ·rw[oj h3,if_neg (by decide)]
  refine lS (decide_eq_decide.mpr (y.2 ?_));unfold On at o1 o3 o4;omega
omit hS in
theorem BG{c r:Nat}{T:Table}{sp:List Spot}{ds:List D}(Z:Pz c r T sp)(cH:c*r≤64)
  (hcx:∀j k:Nat×Nat×Bool,Tk c (c*r) sp j k j.2.2 (spG sp j.1) (spG sp j.2.1) (spG sp k.1) (spG sp k.2.1)→G.fn "cross" [stO sp (dep ds) j,stO sp (dep ds) k]=some (.ok (.bl false))) :
  aO G 4 jT [.lst ((ah c (c*r) (c*r)).map (stO sp (dep ds)))]=some (.ok .non):=by
 have hl:=iA (c:=c) (n:=c*r) (c*r)
 have inner:∀(i:Nat) (j:Nat×Nat×Bool) (s3:Sl),(ah c (c*r) (c*r))[i]?=some j→∃ρ',ex G mR [.im (.lst ((ah c (c*r) (c*r)).map (stO sp (dep ds)))),.im (.int i),.im (stO sp (dep ds) j),s3]=some (.nx ρ')∧∃s3,ρ'=[.im (.lst ((ah c (c*r) (c*r)).map (stO sp (dep ds)))),.im (.int i),.im (stO sp (dep ds) j),s3]:=by
  intro i j s3 hj;have mj:=o8 hj
  obtain⟨ρ',l,q⟩:=dR (enc:=stO sp (dep ds)) (bind:=bB [3] false) (body:=ex G sR) (fun _ ρ=>∃s3,ρ=[.im (.lst ((ah c (c*r) (c*r)).map (stO sp (dep ds)))),.im (.int i),.im (stO sp (dep ds) j),s3])
   (L:=(ah c (c*r) (c*r)).drop (i+1)) (ρ:=[.im (.lst ((ah c (c*r) (c*r)).map (stO sp (dep ds)))),.im (.int i),.im (stO sp (dep ds) j),s3]) ⟨_,rfl⟩ (by
    rintro n k hk ρ ⟨s3,rfl⟩;rw[List.getElem?_drop]at hk;have mk:=o8 hk
    have ne:j≠k:=ZG (AF _) hj hk (by omega)
    refine⟨[.im (.lst ((ah c (c*r) (c*r)).map (stO sp (dep ds)))),.im (.int i),.im (stO sp (dep ds) j),.im (stO sp (dep ds) k)],rfl,_,bJ ?_ aM,_,rfl⟩;show ev G _ [.im (.lst ((ah c (c*r) (c*r)).map (stO sp (dep ds)))),.im (.int i),.im (stO sp (dep ds) j),.im (stO sp (dep ds) k)]=_
    have t1:=wQ hT (show ev G (.var 2) [.im (.lst ((ah c (c*r) (c*r)).map (stO sp (dep ds)))),.im (.int i),.im (stO sp (dep ds) j),.im (stO sp (dep ds) k)]=some (stO sp (dep ds) j) from rfl)
    have t2:=wQ hT (show ev G (.var 3) [.im (.lst ((ah c (c*r) (c*r)).map (stO sp (dep ds)))),.im (.int i),.im (stO sp (dep ds) j),.im (stO sp (dep ds) k)]=some (stO sp (dep ds) k) from rfl)
    refine(gJ (y:=false) (x:=cg (cx sp j) (cx sp k)) ?_ fun h=>?_).trans (by rw[Bool.and_false])
    ·rw[aU,t1,t2];rfl
    ·have h:(j.2.2 == k.2.2&&(((lnN j.2.2 (spG sp j.1):Nat):Int) == ((lnN k.2.2 (spG sp k.1):Nat):Int)&&(((acL j.2.2 (spG sp j.1):Nat):Int) == ((acL k.2.2 (spG sp k.1):Nat):Int)&&true)))=true:=by
      unfold cx at h;rw[cg]at h;simp only[rB,cg]at h;exact h
     rw[ow,ow,ow,qd,qd,qd]at h;obtain⟨e1,e2,e3,_⟩:=h;rw[←e1]at e2 e3;have K:=Z.tk mj mk ne e1 (by omega) (by omega)
     rw[iR,aW];show ((bT (G.fn "cross" [stO sp (dep ds) j,stO sp (dep ds) k])).bind fun x=>(b8 x).map D.bl)=_
     rw[hcx j k K];rfl)
  refine⟨ρ',(bO (d:=.lst (cut ((ah c (c*r) (c*r)).map (stO sp (dep ds))) (some ((i+1:Nat):Int)) none)) rfl (by rw[jH,←map_drop];exact eG)).trans l,q⟩
 obtain⟨ρ',l,s1,s2,s3,rfl⟩:=eK (bind:=bB [1,2] true) (body:=ex G mR) (fun _ ρ=>∃s1 s2 s3,ρ=[.im (.lst ((ah c (c*r) (c*r)).map (stO sp (dep ds)))),s1,s2,s3])
  (ds:=hG 0 ((ah c (c*r) (c*r)).map (stO sp (dep ds)))) (k:=0) (ρ:=[.im (.lst ((ah c (c*r) (c*r)).map (stO sp (dep ds)))),.un,.un,.un]) ⟨_,_,_,rfl⟩ (by
   rintro i d ρ hd ⟨s1,s2,s3,rfl⟩;rw[lP,oe]at hd;obtain⟨x,hx,rfl⟩:=oy.mp hd;obtain⟨j,hj,rfl⟩:=oy.mp hx;rw[pq];obtain⟨ρ2,l2,t3,rfl⟩:=inner i j s3 hj;exact⟨[.im (.lst ((ah c (c*r) (c*r)).map (stO sp (dep ds)))),.im (.int i),.im (stO sp (dep ds) j),s3],rfl,_,l2,_,_,_,rfl⟩)
 exact aH (ρ:=[.im (.lst ((ah c (c*r) (c*r)).map (stO sp (dep ds)))),.un,.un,.un]) rfl (aF ((bO (d:=.lst ((ah c (c*r) (c*r)).map (stO sp (dep ds)))) rfl rfl).trans l) (aK rfl))
end
noncomputable def hps(T:Table)(w h:Nat):List dS:=(List.range (w*h)).map fun k=>ai T (k % w) (k / w)
theorem NQ{T:Table}{w h k:Nat}{hp:dS}(e:(hps T w h)[k]?=some hp):k<w*h∧hp=ai T (k % w) (k / w):=by
 unfold hps at e;rw[oe]at e;obtain⟨q,hq,rfl⟩:=oy.mp e;have hk:k<w*h:=by have:=(o5.mp hq).1;rwa [p5]at this
 rw[qx hk]at hq;cases hq;exact⟨hk,rfl⟩
theorem pM{w:Nat}{s:Spot}{k:Nat}(hx:s.x<w):(s.x=k % w∧s.y=k / w)↔s.y*w+s.x=k:=by
 constructor
 ·rintro⟨h1,h2⟩;have:=div_add_mod k w
  rw[h1,h2,mul_comm];exact this
 ·intro h;subst h;rw[mul_comm,Nat.mul_add_mod,Nat.mod_eq_of_lt hx,Nat.mul_add_div (by omega),Nat.div_eq_of_lt hx]
  exact⟨rfl,rfl⟩
theorem MH{T:Table}{w h:Nat}{sp:List Spot}(S:Sits T w h sp){s:Spot}(hs:s∈sp):s.y*w+s.x<w*h:=by
 have h1:=S.xlt hs
 have h2:=S.ylt hs
 have:=Nat.mul_le_mul_right w (show s.y+1≤h from h2)
 rw[Nat.succ_mul,mul_comm h w]at this;omega
structure Cn (kvs:List (Int×D)) (m:Nat) (P:Nat→Prop):Prop where
 one:∀i:Nat,P i→cL kvs i=some (.int 1)
 non:∀i:Nat,¬P i→cL kvs i=none
 len:kvs.length≤m
noncomputable def ZW:IS:=(.put 2 (.ix (.var 4) (.lit (.int 0))) (.bin .add (.getd 2 (.cons (.ix (.var 4) (.lit (.int 0))) (.cons (.lit (.int 0)) .nil))) (.lit (.int 1))))
noncomputable def MU:IS:=(.loop [4] false .seq (.var 3) ZW)
noncomputable def ZX:IS:=(.iff (.bin .ne (.getd 2 (.cons (.var 5) (.cons (.lit (.int 0)) .nil))) (.lit (.int 1))) (.ret false (.tup (.cons (.lit (.str "cell")) (.cons (.var 5) .nil)))) .nop)
noncomputable def lI:IS:=(.seq (.setd 2) (.seq (.loop [3] false .seq (.var 1) MU) (.seq (.loop [5] false .rng (.tup (.cons (.var 0) .nil)) ZX) (.ret false (.lit .non)))))
theorem CP{T:Table}{sp:List Spot}(L:Lk T sp){x y k:Nat}{cl:Cell}(h:(ai T x y)[k]?=some cl):cl∉(ai T x y).take k:=fun z=>by
 have pw:=L.ord x y
 have e:ai T x y=(ai T x y).take k++cl::(ai T x y).drop (k+1):=by
  obtain⟨hi',ea⟩:=o5.mp h;rw[←ea,←List.drop_eq_getElem_cons hi',List.take_append_drop]
 rw[e]at pw;exact absurd ((sj.mp pw).2.2 _ z _ qw) (Int.lt_irrefl _)
section
variable {G:GS}
theorem JM{T:Table}{w h n:Nat}{sp:List Spot}(S:Sits T w h sp)(hn:sp.length=n):aO G 6 lI [.int n,.lst ((hps T w h).map hE)]=some (.ok .non):=by
 have n64:=S.len
 have w64:=S.w64
 have h64:=S.h64
 have wh:w*h≤64*64:=mul_le_mul w64 h64
 have cells:∀(k m:Nat) (kvs:List (Int×D)) (P:Nat→Prop) (s4:Sl),m+64<1000000→Cn kvs m P→(∀i s,sp[i]?=some s→s.x=k % w→s.y=k / w→¬P i) →
   ∃ρ',ex G MU [.im (.int n),.im (.lst ((hps T w h).map hE)),.mu (.dct kvs),.im (hE (ai T (k % w) (k / w))),s4,.un]=some (.nx ρ')∧∃a9 s4,ρ'=[.im (.int n),.im (.lst ((hps T w h).map hE)),.mu (.dct a9),.im (hE (ai T (k % w) (k / w))),s4,.un]∧Cn a9 (m+64) (fun i=>P i∨∃s,sp[i]?=some s∧s.x=k % w∧s.y=k / w):=by
  intro k m kvs P s4 hm C hP;have hl:(ai T (k % w) (k / w)).length≤64:=p9 S.lk.short S.len
  obtain⟨ρ',l,a9,t4,b,C'⟩:=dR (enc:=bY) (bind:=bB [4] false) (body:=ex G ZW) (fun b ρ=>∃a9 t4,ρ=[.im (.int n),.im (.lst ((hps T w h).map hE)),.mu (.dct a9),.im (hE (ai T (k % w) (k / w))),t4,.un]∧Cn a9 (m+b) (fun i=>P i∨∃s,sp[i]?=some s∧((i:Int),s.e,s.n)∈(ai T (k % w) (k / w)).take b))
   (L:=ai T (k % w) (k / w)) (ρ:=[.im (.int n),.im (.lst ((hps T w h).map hE)),.mu (.dct kvs),.im (hE (ai T (k % w) (k / w))),s4,.un]) ⟨kvs,s4,rfl,fun i q=>C.one i (q.elim id fun⟨s,_,z⟩=>by simp at z),fun i q=>C.non i fun z=>q (.inl z),by have:=C.len;omega⟩ (by
    rintro b cl ak ρ ⟨a9,t4,rfl,C'⟩;have hb:b<(ai T (k % w) (k / w)).length:=(o5.mp ak).1
    obtain⟨i,s,hs,sx,sy,rfl⟩:=(S.lk.mem _ _ cl).mp (o8 ak);have nP:¬(P i∨∃s,sp[i]?=some s∧((i:Int),s.e,s.n)∈(ai T (k % w) (k / w)).take b):=fun z=>z.elim (hP i s hs sx sy) fun⟨s',bg,z⟩=>by
     rw[hs]at bg;cases bg;exact CP S.lk ak z
    have hv:=C'.non i nP
    have e1:ev G (.ix (.var 4) (.lit (.int 0))) [.im (.int n),.im (.lst ((hps T w h).map hE)),.mu (.dct a9),.im (hE (ai T (k % w) (k / w))),.im (bY ((i:Int),s.e,s.n)),.un]=some (.int i):=rfl
    have e2:ev G (.getd 2 (.cons (.ix (.var 4) (.lit (.int 0))) (.cons (.lit (.int 0)) .nil))) [.im (.int n),.im (.lst ((hps T w h).map hE)),.mu (.dct a9),.im (hE (ai T (k % w) (k / w))),.im (bY ((i:Int),s.e,s.n)),.un]=some (.int 0):=by
     show (match (cL a9 (i:Int)).getD (.int 0) with | .int v=>some (D.int v)|_=>none)=_
     rw[hv];rfl
    refine⟨[.im (.int n),.im (.lst ((hps T w h).map hE)),.mu (.dct a9),.im (hE (ai T (k % w) (k / w))),.im (bY ((i:Int),s.e,s.n)),.un],rfl,_,vS (kvs:=a9) (i:=i) (d:=.int 1) ?_ e1 rfl (by have:=C'.len;omega),kI a9 i (.int 1),_,rfl,fun q hq=>?_,fun q hq=>?_,?_⟩
    ·rw[aU,e2];rfl
    ·rw[oV]
     by_cases z:(q:Int)=i
     ·rw[if_pos z]
     ·rw[if_neg z];refine C'.one q (hq.imp id fun⟨t,ht,y⟩=>⟨t,ht,?_⟩)
      rw[r8,ak]at y
      rcases sk.mp y with y|y
      ·exact y
      ·exact absurd (congrArg (·.1) (show ((q:Int),t.e,t.n)=((i:Int),s.e,s.n) by simpa using y)) z
    ·rw[oV,if_neg]
     ·exact C'.non q fun y=>hq (y.imp id fun⟨t,ht,y⟩=>⟨t,ht,by rw[r8];exact qk _ y⟩)
     ·intro z;have z:q=i:=by omega
      subst z;exact hq (.inr ⟨s,hs,by rw[r8,ak];simp⟩)
    ·have:=xE (kvs:=a9) (k:=i) (d:=.int 1)
     have:=C'.len
     omega)
  refine⟨ρ',(bO (d:=hE (ai T (k % w) (k / w))) rfl eG).trans l,a9,t4,b,fun i q=>C'.one i (q.imp id fun⟨s,hs,h1,h2⟩=>⟨s,hs,?_⟩),fun i q=>C'.non i fun y=>q (y.imp id fun⟨s,hs,y⟩=>⟨s,hs,?_⟩),by have:=C'.len;omega⟩
  ·rw[sf];exact(S.lk.mem _ _ _).mpr ⟨i,s,hs,h1,h2,rfl⟩
  ·rw[sf]at y;obtain⟨j,t,ht,tx,ty,e⟩:=(S.lk.mem _ _ _).mp y;have e1:(i:Int)=j:=congrArg (·.1) e
   have e1:i=j:=by omega
   subst e1;rw[hs]at ht;cases ht;exact⟨tx,ty⟩
 obtain⟨ρ',l,kvs,s3,s4,rfl,C⟩:=dR (enc:=hE) (bind:=bB [3] false) (body:=ex G MU) (fun k ρ=>∃kvs s3 s4,ρ=[.im (.int n),.im (.lst ((hps T w h).map hE)),.mu (.dct kvs),s3,s4,.un]∧Cn kvs (k*64) (fun i=>∃s,sp[i]?=some s∧s.y*w+s.x<k))
  (L:=hps T w h) (ρ:=[.im (.int n),.im (.lst ((hps T w h).map hE)),.mu (.dct []),.un,.un,.un]) ⟨[],.un,.un,rfl,fun i ⟨_,_,z⟩=>absurd z (not_lt_zero _),fun _ _=>rfl,rz _⟩ (by
   rintro k hp hk ρ ⟨kvs,s3,s4,rfl,C⟩;obtain⟨kl,rfl⟩:=NQ hk;have bk:k*64≤64*64*64:=Nat.mul_le_mul_right 64 (by omega)
   obtain⟨ρ2,l2,a9,t4,rfl,C'⟩:=cells k _ kvs _ s4 (by omega) C (fun i s hs h1 h2 ⟨s',bg,z⟩=>by
    rw[hs]at bg;cases bg;have:=(pM (k:=k) (S.xlt (o8 hs))).mp ⟨h1,h2⟩
    omega)
   refine⟨[.im (.int n),.im (.lst ((hps T w h).map hE)),.mu (.dct kvs),.im (hE (ai T (k % w) (k / w))),s4,.un],rfl,_,l2,a9,_,t4,rfl,fun i ⟨s,hs,z⟩=>C'.one i ?_,fun i q=>C'.non i fun y=>q ?_,by have:=C'.len;omega⟩
   ·by_cases y:s.y*w+s.x=k
    ·exact .inr ⟨s,hs,((pM (S.xlt (o8 hs))).mpr y).1,((pM (S.xlt (o8 hs))).mpr y).2⟩
    ·exact .inl ⟨s,hs,by omega⟩
   ·rcases y with ⟨s,hs,z⟩|⟨s,hs,h1,h2⟩
    ·exact⟨s,hs,by omega⟩
    ·exact⟨s,hs,by rw[(pM (S.xlt (o8 hs))).mp ⟨h1,h2⟩];omega⟩)
 obtain⟨ρ2,l2,s5,rfl⟩:=fN (bind:=bB [5] false) (body:=ex G ZX) (fun _ ρ=>∃s5,ρ=[.im (.int n),.im (.lst ((hps T w h).map hE)),.mu (.dct kvs),s3,s4,s5]) (n:=n) (ρ:=[.im (.int n),.im (.lst ((hps T w h).map hE)),.mu (.dct kvs),s3,s4,.un]) ⟨_,rfl⟩ (by
   rintro i hi ρ ⟨s5,rfl⟩;have hs:=fR (sp:=sp) (i:=i) (by omega)
   have hv:=C.one i ⟨_,hs,by unfold hps;rw[og,p5];exact MH S (o8 hs)⟩
   refine⟨[.im (.int n),.im (.lst ((hps T w h).map hE)),.mu (.dct kvs),s3,s4,.im (.int (i:Nat))],rfl,_,bJ ?_ aM,_,rfl⟩;simp only[dU,fP,bL];have e2:∀q3 q4,ev G (.getd 2 (.cons (.var 5) (.cons (.lit (.int 0)) .nil))) [.im (.int n),.im (.lst ((hps T w h).map hE)),.im (.dct kvs),q3,q4,.im (.int (i:Nat))]=some (.int 1):=fun _ _=>by
    show (match (cL kvs (i:Int)).getD (.int 0) with | .int v=>some (D.int v)|_=>none)=_
    rw[hv];rfl
   rw[aU,e2];rfl)
 refine aH (ρ:=[.im (.int n),.im (.lst ((hps T w h).map hE)),.un,.un,.un,.un]) rfl (aF (ρ':=[.im (.int n),.im (.lst ((hps T w h).map hE)),.mu (.dct []),.un,.un,.un]) rfl (aF ((bO (d:=.lst ((hps T w h).map hE)) rfl eG).trans l) (aF ((bO (d:=.tup [.int ((n:Nat):Int)]) rfl (eQ (by omega))).trans l2) (aK rfl))))
end
theorem aIT{T:Table}{sp:List Spot}(L:Lk T sp){x y a b:Nat}{cl:Cell}(ha:(ai T x y)[a]?=some cl)(hb:(ai T x y)[b]?=some cl):a=b:=by
 have k:∀{a b:Nat},(ai T x y)[a]?=some cl→(ai T x y)[b]?=some cl→¬a<b:=fun {a b} ha hb h=>CP L hb (by
  have:((ai T x y).take b)[a]?=some cl:=by rw[List.getElem?_take,if_pos h];exact ha
  exact o8 this)
 rcases Nat.lt_trichotomy a b with h|h|h
 ·exact absurd h (k ha hb)
 ·exact h
 ·exact absurd h (k hb ha)
theorem aCX{T:Table}{sp:List Spot}{ds:List D}(L:Lk T sp)(E:SE T sp ds){i b:Nat}{s:Spot}(hs:sp[i]?=some s)(hb:(ai T s.x s.y)[b]?=some ((i:Int),s.e,s.n)):dep ds i=(b:Int):=by
 obtain⟨k,s',e,h1,h2⟩:=(E i s hs).2;rw[hs]at h1;cases h1;rw[e,aIT L h2 hb]
theorem mW:∀(xs:List D) (k:Nat),(hG k xs).length=xs.length
 |[],_=>rfl
 |x::r,k=>by
  show (hG (k+1) r).length+1=_
  rw[mW r (k+1)];rfl
structure Dc (sp:List Spot) (dp:Nat→Int) (lv:Bool) (kvs:List (Int×D)) (m:Nat) (P:Nat→Spot→Prop):Prop where
 ok:∀i s,sp[i]?=some s→P i s→cL kvs i=some (spO lv s (dp i))
 len:kvs.length≤m
theorem Dc.put{sp:List Spot}{dp:Nat→Int}{lv:Bool}{kvs:List (Int×D)}{m:Nat}{P:Nat→Spot→Prop}(C:Dc sp dp lv kvs m P){i:Nat}{s:Spot}(hs:sp[i]?=some s):Dc sp dp lv (kI kvs i (spO lv s (dp i))) (m+1) (fun j t=>P j t∨j=i):=by
 refine⟨fun j t ht q=>?_,?_⟩
 ·rw[oV]
  by_cases z:(j:Int)=i
  ·have z2:j=i:=by omega
   subst z2;rw[hs]at ht;cases ht;rw[if_pos rfl]
  ·rw[if_neg z];exact C.ok j t ht (q.elim id fun y=>absurd (by rw[y]) z)
 ·have:=xE (kvs:=kvs) (k:=i) (d:=spO lv s (dp i))
  have:=C.len
  omega
theorem Dc.mono{sp:List Spot}{dp:Nat→Int}{lv:Bool}{kvs:List (Int×D)}{m m':Nat}{P Q:Nat→Spot→Prop}(C:Dc sp dp lv kvs m P)(h:m≤m')(q:∀i s,sp[i]?=some s→Q i s→P i s):Dc sp dp lv kvs m' Q:=⟨fun i s hs z=>C.ok i s hs (q i s hs z),p9 C.len h⟩
noncomputable def OZ:IS:=(.seq (.put 4 (.ix (.var 11) (.lit (.int 0))) (.mk "Spot" (.cons (.var 8) (.cons (.ix (.var 11) (.lit (.int 1))) (.cons (.var 9) (.cons (.ix (.var 11) (.lit (.int 2))) (.cons (.var 10) .nil))))))) (.put 5 (.ix (.var 11) (.lit (.int 0))) (.mk "Spot" (.cons (.var 9) (.cons (.ix (.var 11) (.lit (.int 2))) (.cons (.var 8) (.cons (.ix (.var 11) (.lit (.int 1))) (.cons (.var 10) .nil))))))))
noncomputable def aCu:IS:=(.loop [10,11] true .enum (.var 7) OZ)
noncomputable def wB:IS:=(.seq (.set 8 (.bin .mod (.var 6) (.var 2))) (.seq (.set 9 (.bin .fdiv (.var 6) (.var 2))) aCu))
noncomputable def zB:IS:=(.seq (.set 16 (.ite (.tr (.var 15)) (.var 5) (.var 4))) (.app 12 (.mk "Strand" (.cons (.var 13) (.cons (.var 14) (.cons (.var 15) (.cons (.ix (.var 16) (.var 13)) (.cons (.ix (.var 16) (.var 14)) .nil))))))))
noncomputable def jQ:IS:=(.seq (.setd 4) (.seq (.setd 5) (.seq (.loop [6,7] true .enum (.var 3) wB) (.frz [4,5] (.seq (.setm 12 (.lst .nil)) (.seq (.loop [13,14,15] true .seq (.call "neighbours" (.cons (.var 0) (.cons (.var 1) .nil))) zB) (.retm 12)))))))
section
variable {G:GS}
theorem zN{c r:Nat}{T:Table}{w h:Nat}{sp:List Spot}{ds:List D}(S:Sits T w h sp)(Z:Pz c r T sp)(E:SE T sp ds)(cH:c*r≤64)
  (hnb:G.fn "neighbours" [.int c,.int r]=some (.ok (.lst ((ah c (c*r) (c*r)).map c7))))
  (bo:∀(p q:Nat) (a b:Bool) (l:Int),G.mo "Spot" [.int p,.bl a,.int q,.bl b,.int l]=some (.ok (oSp p a q b l)))
  (eg:∀(a b:Int) (lv:Bool) (s t:Spot) (l l':Int),G.mo "Strand" [.int a,.int b,.bl lv,spO lv s l,spO lv t l']=some (.ok (oSt a b (spO lv s l) (spO lv t l') (.tup [.bl lv,.int (lnN lv s:Nat),.int (acL lv s:Nat)])))) :
  aO G 17 jQ [.int c,.int r,.int w,.lst ((hps T w h).map hE)]=some (.ok (.lst ((ah c (c*r) (c*r)).map (stO sp (dep ds))))):=by
 have n64:=S.len
 have w64:=S.w64
 have h64:=S.h64
 have w1:=S.rect.w1
 have wh:w*h≤64*64:=mul_le_mul w64 h64
 have hl:=iA (c:=c) (n:=c*r) (c*r)
 have heap:∀(k m:Nat) (k4 k5:List (Int×D)) (P:Nat→Spot→Prop) (s8 s9 b7 cb:Sl),m+64<1000000→Dc sp (dep ds) false k4 m P→Dc sp (dep ds) true k5 m P →
   ∃ρ',ex G wB [.im (.int c),.im (.int r),.im (.int w),.im (.lst ((hps T w h).map hE)),.mu (.dct k4),.mu (.dct k5),.im (.int k),.im (hE (ai T (k % w) (k / w))),s8,s9,b7,cb,.un,.un,.un,.un,.un]=some (.nx ρ')∧∃k4 k5 s6 s7 s8 s9 b7 cb,ρ'=[.im (.int c),.im (.int r),.im (.int w),.im (.lst ((hps T w h).map hE)),.mu (.dct k4),.mu (.dct k5),s6,s7,s8,s9,b7,cb,.un,.un,.un,.un,.un]∧Dc sp (dep ds) false k4 (m+64) (fun i s=>P i s∨(s.x=k % w∧s.y=k / w))∧Dc sp (dep ds) true k5 (m+64) (fun i s=>P i s∨(s.x=k % w∧s.y=k / w)):=by
  intro k m k4 k5 P s8 s9 b7 cb hm C4 C5;have hlh:(ai T (k % w) (k / w)).length≤64:=p9 S.lk.short S.len
  obtain⟨ρ',l,a4,a5,ju,jt,b,D4,D5⟩:=eK (bind:=bB [10,11] true) (body:=ex G OZ) (fun b ρ=>∃a4 a5 ju jt,ρ=[.im (.int c),.im (.int r),.im (.int w),.im (.lst ((hps T w h).map hE)),.mu (.dct a4),.mu (.dct a5),.im (.int k),.im (hE (ai T (k % w) (k / w))),.im (.int (k % w:Nat)),.im (.int (k / w:Nat)),ju,jt,.un,.un,.un,.un,.un]∧Dc sp (dep ds) false a4 (m+b) (fun i s=>P i s∨((i:Int),s.e,s.n)∈(ai T (k % w) (k / w)).take b)∧Dc sp (dep ds) true a5 (m+b) (fun i s=>P i s∨((i:Int),s.e,s.n)∈(ai T (k % w) (k / w)).take b))
   (ds:=hG 0 ((ai T (k % w) (k / w)).map bY)) (k:=0) (ρ:=[.im (.int c),.im (.int r),.im (.int w),.im (.lst ((hps T w h).map hE)),.mu (.dct k4),.mu (.dct k5),.im (.int k),.im (hE (ai T (k % w) (k / w))),.im (.int (k % w:Nat)),.im (.int (k / w:Nat)),b7,cb,.un,.un,.un,.un,.un]) ⟨k4,k5,b7,cb,rfl,C4.mono (oh _) fun i s _ q=>q.elim id fun z=>by simp at z,C5.mono (oh _) fun i s _ q=>q.elim id fun z=>by simp at z⟩ (by
    rintro b d ρ hd ⟨a4,a5,ju,jt,rfl,D4,D5⟩;rw[lP,oe]at hd;obtain⟨x,hx,rfl⟩:=oy.mp hd;obtain⟨cl,ak,rfl⟩:=oy.mp hx;rw[pq]at D4 D5 ⊢;have hb:b<(ai T (k % w) (k / w)).length:=(o5.mp ak).1
    obtain⟨i,s,hs,sx,sy,rfl⟩:=(S.lk.mem _ _ cl).mp (o8 ak);have dp:=aCX S.lk E hs (by rw[sx,sy];exact ak)
    have mem:∀j t,sp[j]?=some t→(P j t∨((j:Int),t.e,t.n)∈(ai T (k % w) (k / w)).take (b+1))→((P j t∨((j:Int),t.e,t.n)∈(ai T (k % w) (k / w)).take b)∨j=i):=fun j t ht q=>by
     rcases q with q|q
     ·exact .inl (.inl q)
     ·rw[r8,ak]at q
      rcases sk.mp q with q|q
      ·exact .inl (.inr q)
      ·refine .inr ?_;have q:((j:Int),t.e,t.n)=((i:Int),s.e,s.n):=by simpa using q
       have q:(j:Int)=i:=congrArg (·.1) q
       omega
    have l4:=D4.len
    have l5:=D5.len
    refine⟨[.im (.int c),.im (.int r),.im (.int w),.im (.lst ((hps T w h).map hE)),.mu (.dct a4),.mu (.dct a5),.im (.int k),.im (hE (ai T (k % w) (k / w))),.im (.int (k % w:Nat)),.im (.int (k / w:Nat)),.im (.int (b:Nat)),.im (bY ((i:Int),s.e,s.n)),.un,.un,.un,.un,.un],rfl,_,aF (vS (kvs:=a4) (i:=i) (d:=spO false s (dep ds i)) ?_ rfl rfl (by omega)) (vS (kvs:=a5) (i:=i) (d:=spO true s (dep ds i)) ?_ rfl rfl (by omega)),kI a4 i (spO false s (dep ds i)),kI a5 i (spO true s (dep ds i)),_,_,rfl,(D4.put hs).mono (by omega) mem,(D5.put hs).mono (by omega) mem⟩
    ·rw[yL];show bT (G.mo "Spot" [.int (k % w:Nat),.bl s.e,.int (k / w:Nat),.bl s.n,.int (b:Nat)])=_
     rw[bo,dp,←sx,←sy];rfl
    ·rw[yL];show bT (G.mo "Spot" [.int (k / w:Nat),.bl s.n,.int (k % w:Nat),.bl s.e,.int (b:Nat)])=_
     rw[bo,dp,←sx,←sy];rfl)
  refine⟨ρ',aF (aP (d:=.int (k % w:Nat)) (oA w1)) (aF (aP (d:=.int (k / w:Nat)) (vV w1 (by omega))) ((bO (d:=hE (ai T (k % w) (k / w))) rfl rfl).trans l)),a4,a5,_,_,_,_,ju,jt,b,D4.mono ?_ fun i s hs q=>q.imp id fun⟨q1,q2⟩=>?_,D5.mono ?_ fun i s hs q=>q.imp id fun⟨q1,q2⟩=>?_⟩
  ·rw[mW,og];omega
  ·rw[mW,og];omega
  ·rw[mW,og,pq,sf];exact(S.lk.mem _ _ _).mpr ⟨i,s,hs,q1,q2,rfl⟩
  ·rw[mW,og,pq,sf];exact(S.lk.mem _ _ _).mpr ⟨i,s,hs,q1,q2,rfl⟩
 obtain⟨ρ',l,k4,k5,s6,s7,s8,s9,b7,cb,rfl,C4,C5⟩:=eK (bind:=bB [6,7] true) (body:=ex G wB) (fun k ρ=>∃k4 k5 s6 s7 s8 s9 b7 cb,ρ=[.im (.int c),.im (.int r),.im (.int w),.im (.lst ((hps T w h).map hE)),.mu (.dct k4),.mu (.dct k5),s6,s7,s8,s9,b7,cb,.un,.un,.un,.un,.un]∧Dc sp (dep ds) false k4 (k*64) (fun i s=>s.y*w+s.x<k)∧Dc sp (dep ds) true k5 (k*64) (fun i s=>s.y*w+s.x<k))
  (ds:=hG 0 ((hps T w h).map hE)) (k:=0) (ρ:=[.im (.int c),.im (.int r),.im (.int w),.im (.lst ((hps T w h).map hE)),.mu (.dct []),.mu (.dct []),.un,.un,.un,.un,.un,.un,.un,.un,.un,.un,.un]) ⟨[],[],_,_,_,_,_,_,rfl,⟨fun _ _ _ z=>absurd z (not_lt_zero _),rz _⟩,⟨fun _ _ _ z=>absurd z (not_lt_zero _),rz _⟩⟩ (by
   rintro k d ρ hd ⟨k4,k5,s6,s7,s8,s9,b7,cb,rfl,C4,C5⟩;rw[lP,oe]at hd;obtain⟨x,hx,rfl⟩:=oy.mp hd;obtain⟨hp,hk,rfl⟩:=oy.mp hx;obtain⟨kl,rfl⟩:=NQ hk;rw[pq]at C4 C5 ⊢;have bk:k*64≤64*64*64:=Nat.mul_le_mul_right 64 (by omega)
   obtain⟨ρ2,l2,a4,a5,t6,t7,t8,t9,ju,jt,rfl,D4,D5⟩:=heap k _ k4 k5 _ s8 s9 b7 cb (by omega) C4 C5
   have q:∀(i:Nat) (s:Spot),sp[i]?=some s→s.y*w+s.x<k+1→(s.y*w+s.x<k∨(s.x=k % w∧s.y=k / w)):=fun i s hs z=>by
    by_cases y:s.y*w+s.x=k
    ·exact .inr ((pM (S.xlt (o8 hs))).mpr y)
    ·exact .inl (by omega)
   exact⟨[.im (.int c),.im (.int r),.im (.int w),.im (.lst ((hps T w h).map hE)),.mu (.dct k4),.mu (.dct k5),.im (.int k),.im (hE (ai T (k % w) (k / w))),s8,s9,b7,cb,.un,.un,.un,.un,.un],rfl,_,l2,a4,a5,t6,t7,t8,t9,ju,jt,rfl,D4.mono (by omega) q,D5.mono (by omega) q⟩)
 have all:∀(i:Nat) (s:Spot),sp[i]?=some s→s.y*w+s.x<0+(hG 0 ((hps T w h).map hE)).length:=fun i s hs=>by
  have:=MH S (o8 hs)
  rw[mW,og];unfold hps;rw[og,p5];omega
 obtain⟨ρ2,l2,s13,s14,s15,s16,rfl⟩:=dR (enc:=c7) (bind:=bB [13,14,15] true) (body:=ex G zB) (fun k ρ=>∃s13 s14 s15 s16,ρ=[.im (.int c),.im (.int r),.im (.int w),.im (.lst ((hps T w h).map hE)),.im (.dct k4),.im (.dct k5),s6,s7,s8,s9,b7,cb,.mu (.lst (((ah c (c*r) (c*r)).take k).map (stO sp (dep ds)))),s13,s14,s15,s16])
  (L:=ah c (c*r) (c*r)) (ρ:=[.im (.int c),.im (.int r),.im (.int w),.im (.lst ((hps T w h).map hE)),.im (.dct k4),.im (.dct k5),s6,s7,s8,s9,b7,cb,.mu (.lst []),.un,.un,.un,.un]) ⟨_,_,_,_,rfl⟩ (by
   rintro k j hj ρ ⟨s13,s14,s15,s16,rfl⟩;have mj:=o8 hj
   have h1:=fR (sp:=sp) (i:=j.1) (by rw[Z.len];exact mO mj)
   have h2:=fR (sp:=sp) (i:=j.2.1) (by rw[Z.len];exact pN mj)
   obtain⟨a,b,lv⟩:=j;have v1:cL (if lv then k5 else k4) (a:Int)=some (spO lv (spG sp a) (dep ds a)):=by
    cases lv
    ·exact C4.ok _ _ h1 (all _ _ h1)
    ·exact C5.ok _ _ h1 (all _ _ h1)
   have v2:cL (if lv then k5 else k4) (b:Int)=some (spO lv (spG sp b) (dep ds b)):=by
    cases lv
    ·exact C4.ok _ _ h2 (all _ _ h2)
    ·exact C5.ok _ _ h2 (all _ _ h2)
   refine⟨[.im (.int c),.im (.int r),.im (.int w),.im (.lst ((hps T w h).map hE)),.im (.dct k4),.im (.dct k5),s6,s7,s8,s9,b7,cb,.mu (.lst (((ah c (c*r) (c*r)).take k).map (stO sp (dep ds)))),.im (.int a),.im (.int b),.im (.bl lv),s16],rfl,_,aF (aP (d:=.dct (if lv then k5 else k4)) ?_) (BC (d:=stO sp (dep ds) (a,b,lv)) ?_ rfl (by rw[og,qi];omega)),.im (.int a),.im (.int b),.im (.bl lv),.im (.dct (if lv then k5 else k4)),?_⟩
   ·cases lv<;>rfl
   ·simp only[List.set];have x1:ev G (.ix (.var 16) (.var 13)) [.im (.int c),.im (.int r),.im (.int w),.im (.lst ((hps T w h).map hE)),.im (.dct k4),.im (.dct k5),s6,s7,s8,s9,b7,cb,.mu (.lst (((ah c (c*r) (c*r)).take k).map (stO sp (dep ds)))),.im (.int a),.im (.int b),.im (.bl lv),.im (.dct (if lv then k5 else k4))]=some (spO lv (spG sp a) (dep ds a)):=v1
    have x2:ev G (.ix (.var 16) (.var 14)) [.im (.int c),.im (.int r),.im (.int w),.im (.lst ((hps T w h).map hE)),.im (.dct k4),.im (.dct k5),s6,s7,s8,s9,b7,cb,.mu (.lst (((ah c (c*r) (c*r)).take k).map (stO sp (dep ds)))),.im (.int a),.im (.int b),.im (.bl lv),.im (.dct (if lv then k5 else k4))]=some (spO lv (spG sp b) (dep ds b)):=v2
    rw[yL,aJ,aJ,aJ,aJ,x1,aJ,x2];show bT (G.mo "Strand" [.int a,.int b,.bl lv,spO lv (spG sp a) (dep ds a),spO lv (spG sp b) (dep ds b)])=_
    rw[eg];rfl
   ·rw[r8,hj,qz];rfl)
 rw[sf]at l2;refine aH (ρ:=[.im (.int c),.im (.int r),.im (.int w),.im (.lst ((hps T w h).map hE)),.un,.un,.un,.un,.un,.un,.un,.un,.un,.un,.un,.un,.un]) rfl (aF (ρ':=[.im (.int c),.im (.int r),.im (.int w),.im (.lst ((hps T w h).map hE)),.mu (.dct []),.un,.un,.un,.un,.un,.un,.un,.un,.un,.un,.un,.un]) rfl (aF (ρ':=[.im (.int c),.im (.int r),.im (.int w),.im (.lst ((hps T w h).map hE)),.mu (.dct []),.mu (.dct []),.un,.un,.un,.un,.un,.un,.un,.un,.un,.un,.un]) rfl (aF ((bO (d:=.lst ((hps T w h).map hE)) rfl rfl).trans l) ?_)));show ex G _ [.im (.int c),.im (.int r),.im (.int w),.im (.lst ((hps T w h).map hE)),.im (.dct k4),.im (.dct k5),s6,s7,s8,s9,b7,cb,.un,.un,.un,.un,.un]=_
 refine aF (lK (ds:=[]) rfl) (aF ((bO (d:=.lst ((ah c (c*r) (c*r)).map c7)) ?_ eG).trans l2) (lL rfl));rw[aW];show bT (G.fn "neighbours" [.int c,.int r])=_
 rw[hnb];rfl
end
noncomputable def oK:IS:=(.seq (.set 5 (.call "astray_cell" (.cons (.bin .mul (.var 0) (.var 1)) (.cons (.var 4) .nil)))) (.seq (.iff (.bin .isnot (.var 5) (.lit .non)) (.ret false (.var 5)) .nop) (.seq (.set 6 (.call "all_strands" (.cons (.var 0) (.cons (.var 1) (.cons (.var 2) (.cons (.var 4) .nil)))))) (.seq (.set 7 (.call "torn_joint" (.cons (.var 6) .nil))) (.seq (.iff (.bin .isnot (.var 7) (.lit .non)) (.ret false (.var 7)) .nop) (.ret false (.call "crossed_joints" (.cons (.var 6) .nil))))))))
noncomputable def FM:IS:=(.iff (.bin .gt (.bin .mul (.fld (.var 3) "wide") (.fld (.var 3) "high")) (.lit (.int 1))) (.seq (.set 5 (.call "_law_fold_by" (.cons (.var 4) (.cons (.fld (.var 3) "wide") (.cons (.fld (.var 3) "high") .nil))))) (.set 3 (.call "folded" (.cons (.var 3) (.cons (.ix (.var 5) (.lit (.int 0))) (.cons (.ix (.var 5) (.lit (.int 1))) (.cons (.ix (.var 5) (.lit (.int 2))) .nil))))))) .nop)
noncomputable def PB:IS:=(.iff (.and (.bin .eq (.ix (.ix (.var 7) (.var 8)) (.lit (.int 0))) (.ix (.var 9) (.lit (.int 0)))) (.tr (.call "_law_through" (.cons (.ix (.ix (.var 7) (.var 8)) (.lit (.int 1))) (.cons (.ix (.var 9) (.lit (.int 1))) .nil))))) (.ret false (.lit (.bl false))) .nop)
noncomputable def AM:IS:=(.loop [9] false .seq (.sl (.var 7) true (.bin .add (.var 8) (.lit (.int 1))) false (.lit .non)) PB)
noncomputable def DB:IS:=(.seq (.sett [1,2] (.call "_law_sheet_by" (.cons (.call "_law_cell_at" (.cons (.var 0) (.cons (.lit (.int 0)) .nil))) .nil))) (.seq (.set 3 (.call "laid" (.cons (.var 1) (.cons (.var 2) .nil)))) (.seq (.loop [4] false .seq (.sl (.var 0) true (.lit (.int 1)) false (.lit .non)) FM) (.seq (.iff (.or (.bin .ne (.fld (.var 3) "columns") (.var 1)) (.bin .ne (.fld (.var 3) "rows") (.var 2))) (.ret false (.lit (.bl false))) .nop) (.seq (.set 6 (.call "_law_seats" (.cons (.var 3) .nil))) (.seq (.iff (.bin .is (.var 6) (.lit .non)) (.ret false (.lit (.bl false))) .nop) (.seq (.set 7 (.call "_law_places" (.cons (.var 6) (.cons (.var 1) (.cons (.var 2) .nil))))) (.seq (.iff (.bin .is (.var 7) (.lit .non)) (.ret false (.lit (.bl false))) .nop) (.seq (.loop [8] false .rng (.tup (.cons (.bcall .len (.cons (.var 7) .nil)) .nil)) AM) (.seq (.set 10 (.comp 3 [(2,3)] [1] false .rng (.tup (.cons (.bin .mul (.fld (.var 3) "wide") (.fld (.var 3) "high")) .nil)) (.lit (.bl true)) (.bcall .list (.cons (.meth (.var 2) "heap" (.cons (.bin .mod (.var 1) (.fld (.var 2) "wide")) (.cons (.bin .fdiv (.var 1) (.fld (.var 2) "wide")) .nil))) .nil)))) (.ret false (.bin .is (.call "fault" (.cons (.var 1) (.cons (.var 2) (.cons (.fld (.var 3) "wide") (.cons (.fld (.var 3) "high") (.cons (.var 10) .nil)))))) (.lit .non)))))))))))))
section
variable {G:GS}
theorem OB{c r w h:Nat}{T:Table}{sp:List Spot}{ds:List D}(hc6:c≤64)
  (has:G.fn "astray_cell" [.int ((c*r:Nat):Int),.lst ((hps T w h).map hE)]=some (.ok .non))
  (eg:G.fn "all_strands" [.int c,.int r,.int w,.lst ((hps T w h).map hE)]=some (.ok (.lst ((ah c (c*r) (c*r)).map (stO sp (dep ds))))))
  (hto:G.fn "torn_joint" [.lst ((ah c (c*r) (c*r)).map (stO sp (dep ds)))]=some (.ok .non))
  (cH:G.fn "crossed_joints" [.lst ((ah c (c*r) (c*r)).map (stO sp (dep ds)))]=some (.ok .non)) :
  aO G 8 oK [.int c,.int r,.int w,.int h,.lst ((hps T w h).map hE)]=some (.ok .non):=by
 refine aH (ρ:=[.im (.int c),.im (.int r),.im (.int w),.im (.int h),.im (.lst ((hps T w h).map hE)),.un,.un,.un]) rfl (aF (aP (d:=.non) ?_) (aF (bJ rfl aM) (aF (aP (d:=.lst ((ah c (c*r) (c*r)).map (stO sp (dep ds)))) ?_) (aF (aP (d:=.non) ?_) (aF (bJ rfl aM) (aK ?_))))))
 ·have e:ev G (.bin .mul (.var 0) (.var 1)) [.im (.int c),.im (.int r),.im (.int w),.im (.int h),.im (.lst ((hps T w h).map hE)),.un,.un,.un]=some (.int ((c*r:Nat):Int)):=by
   simp only[zz,yy,aA,aC,jO (show c≤1000000 by omega)]
  rw[aW,aJ,e];show bT (G.fn "astray_cell" [.int ((c*r:Nat):Int),.lst ((hps T w h).map hE)])=_
  rw[has];rfl
 ·rw[aW];show bT (G.fn "all_strands" [.int c,.int r,.int w,.lst ((hps T w h).map hE)])=_
  rw[eg];rfl
 ·rw[aW];show bT (G.fn "torn_joint" [.lst ((ah c (c*r) (c*r)).map (stO sp (dep ds)))])=_
  rw[hto];rfl
 ·rw[aW];show bT (G.fn "crossed_joints" [.lst ((ah c (c*r) (c*r)).map (stO sp (dep ds)))])=_
  rw[cH];rfl
noncomputable def fr(ns:List Int)(c r:Nat)(p:D)(s4 s5 s6 s7 s8 s9 b7:Sl):List Sl:=[.im (.frz (ns.map .int)),.im (.int c),.im (.int r),.im p,s4,s5,s6,s7,s8,s9,b7]
theorem aCs(hf:G.fl "Pile" = de){ns:List Int}(hca:∀k:Nat,G.fn "_law_cell_at" [.frz (ns.map .int),.int k]=some (.ok (.int (gb ns k))))
  (hsb:∀cell:Int,∃c r:Nat,1≤c∧1≤r∧c*r≤24∧G.fn "_law_sheet_by" [.int cell]=some (.ok (.tup [.int c,.int r])))
  (hl:∀c r:Nat,1≤c→1≤r→c*r≤64→G.fn "laid" [.int c,.int r]=some (.ok (bP c r c r (gH c r) [] [])))
  (hfb:∀(w h:Nat) (cell:Int),1≤w→1≤h→1<w*h→∃(sd:Side) (over:Bool) (k:Nat),1≤k∧(k<if sd.up then w else h)∧G.fn "_law_fold_by" [.int cell,.int w,.int h]=some (.ok (fB sd over k)))
  (hfp:∀(c r:Nat) (fs:List Fold) (sp:List Spot) (f:Fold),Stg c r fs sp→Fits c r fs f→fs.length≤1000→G.fn "folded" [aX c r fs,.str f.sd.str,.bl f.over,.int f.k]=some (.ok (aX c r (fs++[f]))))
  (eg:∀(c r:Nat) (fs:List Fold) (sp:List Spot),Stg c r fs sp→c≤64→∃ds,G.fn "_law_seats" [aX c r fs]=some (.ok (.lst ds))∧Seats (dQ (runs c r fs).1 sp) sp ds (fun _ _=>True))
  (gp:∀(c r:Nat) (T:Table) (sp:List Spot) (ds:List D),1≤c→1≤r→c*r≤64→c≤64→Pz c r T sp→SE T sp ds→G.fn "_law_places" [.lst ds,.int c,.int r]=some (.ok (.lst ((ah c (c*r) (c*r)).map (plD sp ds)))))
  (hth:∀(r1 s1 r2 s2:Bool) (l1 m1 l2 m2:Int),NX r1 s1 l1 m1 r2 s2 l2 m2→Df r1 s1 l1 m1 r2 s2 l2 m2→G.fn "_law_through" [.tup [ld (pick false r1 s1 l1 m1),ld (pick true r1 s1 l1 m1)],.tup [ld (pick false r2 s2 l2 m2),ld (pick true r2 s2 l2 m2)]]=some (.ok (.bl false)))
  (hhp:∀(c r w h:Nat) (T:Table) (F S:List D) (x y:Nat),Rect T w h→x<w→y<h→G.me "Pile" "heap" [bP c r w h T F S,.int x,.int y]=some (.ok (hE (ai T x y))))
  (l6:∀(c r w h:Nat) (T:Table) (sp:List Spot) (ds:List D),1≤c→1≤r→c*r≤64→c≤64→Sits T w h sp→Pz c r T sp→SE T sp ds→G.fn "fault" [.int c,.int r,.int w,.int h,.lst ((hps T w h).map hE)]=some (.ok .non)) :
  aO G 11 DB [.frz (ns.map .int)]=some (.ok (.bl true)):=by
 have c0:G.fn "_law_cell_at" [.frz (ns.map .int),.int 0]=some (.ok (.int (gb ns 0))):=hca 0
 obtain⟨c,r,hc,hr,cH,esb⟩:=hsb (gb ns 0);have c64:c≤64:=p9 (Nat.le_mul_of_pos_right c hr) (by omega)
 have r64:r≤64:=p9 (Nat.le_mul_of_pos_left r hc) (by omega)
 have ela:=hl c r hc hr (by omega)
 have S0:Stg c r [] (fA c r):=⟨IR hc hr (by omega),qC⟩
 obtain⟨ρ',l,fs,sp,s4,s5,S,M,NN,hlen,rfl⟩:=dR (enc:=D.int) (bind:=bB [4] false) (body:=ex G FM) (fun _ ρ=>∃fs sp s4 s5,Stg c r fs sp∧Mt c (c*r) sp∧NC c (c*r) sp∧fs.length+(runs c r fs).2.1+(runs c r fs).2.2≤c+r∧ρ=fr ns c r (aX c r fs) s4 s5 .un .un .un .un .un) (L:=ns.drop 1) (ρ:=fr ns c r (aX c r []) .un .un .un .un .un .un .un)
  ⟨[],fA c r,_,_,S0,WR hc,WQ hc,by show 0+c+r≤c+r;omega,rfl⟩ (by
   rintro k cell hk ρ ⟨fs,sp,s4,s5,S,M,NN,hlen,rfl⟩;refine⟨fr ns c r (aX c r fs) (.im (.int cell)) s5 .un .un .un .un .un,rfl,?_⟩;have w1:=S.sits.rect.w1
   have h1:=S.sits.rect.h1
   have w64:=S.sits.w64
   have h64:=S.sits.h64
   have ew:∀{ρ:List Sl} {a:IE},ev G a ρ=some (aX c r fs)→ev G (.fld a "wide") ρ=some (.int (runs c r fs).2.1):=fun e=>mI hf e
   have eh:∀{ρ:List Sl} {a:IE},ev G a ρ=some (aX c r fs)→ev G (.fld a "high") ρ=some (.int (runs c r fs).2.2):=fun e=>mJ hf e
   have et:ev G (.bin .gt (.bin .mul (.fld (.var 3) "wide") (.fld (.var 3) "high")) (.lit (.int 1))) (view (fr ns c r (aX c r fs) (.im (.int cell)) s5 .un .un .un .un .un))=some (.bl (decide (1<(runs c r fs).2.1*(runs c r fs).2.2))):=by
    rw[aU,aU,ew rfl,eh rfl];simp only[zz,yy,aA,aC,jO (show (runs c r fs).2.1≤1000000 by omega)]
    exact congrArg (fun b=>some (D.bl b)) (decide_eq_decide.mpr (by omega))
   by_cases hb:1<(runs c r fs).2.1*(runs c r fs).2.2
   ·obtain⟨sd,over,kk,k1,k2,efb⟩:=hfb _ _ cell w1 h1 hb;have ok:Fits c r fs ⟨sd,over,kk⟩:=⟨k1,k2⟩
    have efp:=hfp c r fs sp ⟨sd,over,kk⟩ S ok (by omega)
    obtain⟨top,low,ht,hlo⟩:=K06.wF sp;have S':=S.fold ok ht hlo
    have hg:∀s∈sp,cZ kk (s.al sd.up)+1≤max kk (ext sd (runs c r fs).2.1 (runs c r fs).2.2-kk):=fun s hs=>by
     refine qA k1 k2 ?_;unfold Spot.al;have a:=S.sits.xlt hs
     have b:=S.sits.ylt hs
     unfold ext;cases sd.up<;>assumption
    refine⟨fr ns c r (aX c r (fs++[⟨sd,over,kk⟩])) (.im (.int cell)) (.im (fB sd over kk)) .un .un .un .un .un,iK (et.trans (by rw[qc hb])) (aF (aP (d:=fB sd over kk) ?_) ((aP (d:=aX c r (fs++[⟨sd,over,kk⟩])) ?_).trans rfl)),fs++[⟨sd,over,kk⟩],_,_,_,S',M.fold hg,NC.fold NN M S.sits.lk hg ht hlo,?_,rfl⟩
    ·rw[aW,aJ,aJ,ew rfl,aJ,eh rfl];unfold fr;simp only[zz,yy,aA,aC,efb]
    ·unfold fr;simp only[List.set];simp only[zz,yy,aA,aC,fB,nX.1,nX.2.1,nX.2.2,efp]
    ·rw[mC,pv];have jg:kk<if sd.up then(runs c r fs).2.1 else(runs c r fs).2.2:=k2
     unfold KI;simp only[qy,List.length_nil];cases hu:sd.up with
     |true=>rw[hu]at jg;simp only[if_true]at jg ⊢;omega
     |false=>rw[hu]at jg;simp only[oo,if_false]at jg ⊢;omega
   ·exact⟨_,bJ (et.trans (by rw[oj hb])) aM,fs,sp,_,_,S,M,NN,hlen,rfl⟩)
 obtain⟨ds,eds,St⟩:=eg c r fs sp S c64;have E:=aEK St
 have Z:Pz c r (runs c r fs).1 sp:=⟨S.sits.lk,M,NN,S.len⟩
 have epl:=gp c r _ sp ds hc hr (by omega) c64 Z E
 have efa:=l6 c r _ _ _ sp ds hc hr (by omega) c64 S.sits Z E
 have hnl:=iA (c:=c) (n:=c*r) (c*r)
 have w64:=S.sits.w64
 have h64:=S.sits.h64
 have w1:=S.sits.rect.w1
 have ew:∀{ρ:List Sl} {a:IE},ev G a ρ=some (aX c r fs)→ev G (.fld a "wide") ρ=some (.int (runs c r fs).2.1):=fun e=>mI hf e
 have eh:∀{ρ:List Sl} {a:IE},ev G a ρ=some (aX c r fs)→ev G (.fld a "high") ρ=some (.int (runs c r fs).2.2):=fun e=>mJ hf e
 have inner:∀(i:Nat) (j:Nat×Nat×Bool) (s9:Sl),(ah c (c*r) (c*r))[i]?=some j→∃ρ',ex G AM (fr ns c r (aX c r fs) s4 s5 (.im (.lst ds)) (.im (.lst ((ah c (c*r) (c*r)).map (plD sp ds)))) (.im (.int i)) s9 .un)=some (.nx ρ')∧∃s9,ρ'=fr ns c r (aX c r fs) s4 s5 (.im (.lst ds)) (.im (.lst ((ah c (c*r) (c*r)).map (plD sp ds)))) (.im (.int i)) s9 .un:=by
  intro i j s9 hj;have mj:=o8 hj
  obtain⟨ρ',l,q⟩:=dR (enc:=plD sp ds) (bind:=bB [9] false) (body:=ex G PB) (fun _ ρ=>∃s9,ρ=fr ns c r (aX c r fs) s4 s5 (.im (.lst ds)) (.im (.lst ((ah c (c*r) (c*r)).map (plD sp ds)))) (.im (.int i)) s9 .un)
   (L:=(ah c (c*r) (c*r)).drop (i+1)) (ρ:=fr ns c r (aX c r fs) s4 s5 (.im (.lst ds)) (.im (.lst ((ah c (c*r) (c*r)).map (plD sp ds)))) (.im (.int i)) s9 .un) ⟨_,rfl⟩ (by
    rintro n k hk ρ ⟨s9,rfl⟩;rw[List.getElem?_drop]at hk;have mk:=o8 hk
    have ne:j≠k:=ZG (AF _) hj hk (by omega)
    refine⟨fr ns c r (aX c r fs) s4 s5 (.im (.lst ds)) (.im (.lst ((ah c (c*r) (c*r)).map (plD sp ds)))) (.im (.int i)) (.im (plD sp ds k)) .un,rfl,_,bJ ?_ aM,_,rfl⟩;unfold fr;simp only[dU,fP,bL];have a1:∀q4 q5,ev G (.ix (.var 7) (.var 8)) [.im (.frz (ns.map .int)),.im (.int c),.im (.int r),.im (aX c r fs),q4,q5,.im (.lst ds),.im (.lst ((ah c (c*r) (c*r)).map (plD sp ds))),.im (.int i),.im (plD sp ds k),.un]=some (plD sp ds j):=fun _ _=>dM (by rw[oe,hj];rfl)
    refine(gJ (y:=false) (x:=cg (cx sp j) (cx sp k)) ?_ fun h=>?_).trans (by rw[Bool.and_false])
    ·rw[aU,EZ,a1];rfl
    ·have h:(j.2.2 == k.2.2&&(((lnN j.2.2 (spG sp j.1):Nat):Int) == ((lnN k.2.2 (spG sp k.1):Nat):Int)&&(((acL j.2.2 (spG sp j.1):Nat):Int) == ((acL k.2.2 (spG sp k.1):Nat):Int)&&true)))=true:=by
      unfold cx at h;rw[cg]at h;simp only[rB,cg]at h;exact h
     rw[ow,ow,ow,qd,qd,qd]at h;obtain⟨e1,e2,e3,_⟩:=h;rw[←e1]at e2 e3;have K:=Z.tk mj mk ne e1 (by omega) (by omega)
     have NX:=Z.layers E K
     have et:=hth _ _ _ _ _ _ _ _ NX.1 NX.2
     rw[iR,aW,aJ,EZ,a1];show ((bT (G.fn "_law_through" [jy sp ds j,jy sp ds k])).bind fun x=>(b8 x).map D.bl)=_
     have ek:jy sp ds k=.tup [ld (pick false (b6 j.2.2 (lnN j.2.2 (spG sp k.1)) (spG sp k.1)) (b6 j.2.2 (lnN j.2.2 (spG sp k.1)) (spG sp k.2.1)) (dep ds k.1) (dep ds k.2.1)),ld (pick true (b6 j.2.2 (lnN j.2.2 (spG sp k.1)) (spG sp k.1)) (b6 j.2.2 (lnN j.2.2 (spG sp k.1)) (spG sp k.2.1)) (dep ds k.1) (dep ds k.2.1))]:=by unfold jy;rw[←e1]
     rw[ek];unfold jy;rw[et];rfl)
  refine⟨ρ',(bO (d:=.lst (cut ((ah c (c*r) (c*r)).map (plD sp ds)) (some ((i+1:Nat):Int)) none)) rfl (by rw[K07.jH,←map_drop];exact eG)).trans l,q⟩
 obtain⟨ρ2,l2,s8,s9,rfl⟩:=fN (bind:=bB [8] false) (body:=ex G AM) (fun _ ρ=>∃s8 s9,ρ=fr ns c r (aX c r fs) s4 s5 (.im (.lst ds)) (.im (.lst ((ah c (c*r) (c*r)).map (plD sp ds)))) s8 s9 .un) (n:=(ah c (c*r) (c*r)).length) (ρ:=fr ns c r (aX c r fs) s4 s5 (.im (.lst ds)) (.im (.lst ((ah c (c*r) (c*r)).map (plD sp ds)))) .un .un .un) ⟨_,_,rfl⟩ (by
  rintro k hk ρ ⟨s8,s9,rfl⟩;obtain⟨j,hj⟩:∃j,(ah c (c*r) (c*r))[k]?=some j:=⟨_,oa hk⟩;obtain⟨ρ2,l2,t9,rfl⟩:=inner k j s9 hj;exact⟨fr ns c r (aX c r fs) s4 s5 (.im (.lst ds)) (.im (.lst ((ah c (c*r) (c*r)).map (plD sp ds)))) (.im (.int (k:Nat))) s9 .un,rfl,_,l2,_,_,rfl⟩)
 have e3:∀{ρ:List Sl} {a:IE},ev G a ρ=some (aX c r fs)→ev G (.fld a "columns") ρ=some (.int c):=fun e=>mK hf e
 have e4:∀{ρ:List Sl} {a:IE},ev G a ρ=some (aX c r fs)→ev G (.fld a "rows") ρ=some (.int r):=fun e=>AB hf e
 have wh:(runs c r fs).2.1*(runs c r fs).2.2≤64*64:=mul_le_mul w64 h64
 refine aH (ρ:=[.im (.frz (ns.map .int)),.un,.un,.un,.un,.un,.un,.un,.un,.un,.un]) rfl ?_;refine aF (ρ':=[.im (.frz (ns.map .int)),.im (.int c),.im (.int r),.un,.un,.un,.un,.un,.un,.un,.un]) (OE.trans ?_) (aF (aP (d:=aX c r []) ?_) (aF ((bO (d:=.lst ((ns.drop 1).map .int)) ?_ eG).trans l) (aF (bJ ?_ aM) (aF (aP (d:=.lst ds) ?_) (aF (bJ ?_ aM) (aF (aP (d:=.lst ((ah c (c*r) (c*r)).map (plD sp ds))) ?_) (aF (bJ ?_ aM) (aF ((bO (d:=.tup [.int (((ah c (c*r) (c*r)).length:Nat):Int)]) ?_ (eQ (by omega))).trans l2) (aF (aP (d:=.lst ((hps (runs c r fs).1 (runs c r fs).2.1 (runs c r fs).2.2).map hE)) ?_) (aK ?_))))))))))
 ·simp only[zz,yy,aA,aC,c0,esb];rfl
 ·simp only[zz,yy,aA,aC,ela];rfl
 ·simp only[List.set];simp only[zz,yy,aA,aC,part,intOf,if_true,oo,if_false];show some (D.lst (cut (ns.map .int) (some ((1:Nat):Int)) none))=_
  rw[XW,K07.jH]
 ·unfold fr;simp only[dU,fP];refine cX (x:=false) (y:=false) ?_ fun _=>?_
  ·rw[aU,e3 rfl];simp only[zz,yy,aA,aC,beq_self_eq_true,pD]
  ·rw[aU,e4 rfl];simp only[zz,yy,aA,aC,beq_self_eq_true,pD]
 ·unfold fr;simp only[zz,yy,aA,aC,eds]
 ·unfold fr;simp only[List.set,dU,fP];rw[aU];rfl
 ·unfold fr;simp only[List.set];simp only[zz,yy,aA,aC,epl]
 ·unfold fr;simp only[List.set,dU,fP];rw[aU];rfl
 ·unfold fr;simp only[List.set];simp only[zz,yy,aA,aC,og]
 ·unfold fr hps;rw[rh];refine dC (L:=List.range ((runs c r fs).2.1*(runs c r fs).2.2)) (fun (k:Nat)=>D.int k) (fun k=>hE (ai (runs c r fs).1 (k % (runs c r fs).2.1) (k / (runs c r fs).2.1))) (s:=.tup [.int (((runs c r fs).2.1*(runs c r fs).2.2:Nat):Int)]) ?_ (eQ (by omega)) fun k hk=>⟨[.un,.im (.int (k:Nat)),.im (aX c r fs)],rfl,rfl,?_⟩
  ·rw[jE,aJ,aU,ew rfl,eh rfl];simp only[zz,yy,aA,aC,jO (show (runs c r fs).2.1≤1000000 by omega)]
  ·have hk:=rq.mp hk
   have e2:ev G (.var 2) [.un,.im (.int (k:Nat)),.im (aX c r fs)]=some (aX c r fs):=rfl
   have x1:ev G (.cons (.bin .mod (.var 1) (.fld (.var 2) "wide")) (.cons (.bin .fdiv (.var 1) (.fld (.var 2) "wide")) .nil)) [.un,.im (.int (k:Nat)),.im (aX c r fs)]=some (.tup [.int (k % (runs c r fs).2.1:Nat),.int (k / (runs c r fs).2.1:Nat)]):=by
    rw[aJ,aU,ew e2,aJ,aU,ew e2];simp only[zz,yy,aA,aC,oA w1,vV w1 (show (runs c r fs).2.1<1000000 by omega)]
   have x2:=LS (m:="heap") rfl e2 x1 (hhp c r _ _ _ _ _ (k % (runs c r fs).2.1) (k / (runs c r fs).2.1) S.sits.rect (Nat.mod_lt _ w1) (Nat.div_lt_of_lt_mul hk))
   rw[lO,aJ,x2];rfl
 ·unfold fr;simp only[List.set];have e2:ev G (.var 3) [.im (.frz (ns.map .int)),.im (.int c),.im (.int r),.im (aX c r fs),s4,s5,.im (.lst ds),.im (.lst ((ah c (c*r) (c*r)).map (plD sp ds))),s8,s9,.im (.lst ((hps (runs c r fs).1 (runs c r fs).2.1 (runs c r fs).2.2).map hE))]=some (aX c r fs):=rfl
  rw[aU,aW,aJ,aJ,aJ,ew e2,aJ,eh e2];show (bT (G.fn "fault" [.int c,.int r,.int (runs c r fs).2.1,.int (runs c r fs).2.2,.lst ((hps (runs c r fs).1 (runs c r fs).2.1 (runs c r fs).2.2).map hE)])).bind _=_
  rw[efa];rfl
end
end K07
end Z
namespace Z
open PySem
structure CC where
 N:List Str
 sc:Scope
 fns:List Str
 cls:List Str
 csts:List Str
 mus:List Str
 fresh:List Str
noncomputable def bD(c:CC)(x:Str):Option Nat:=match c.sc.names.lookup x with
 |some .local=>c.N.idxOf? x
 |some .cell=>c.N.idxOf? x
 |some .free=>c.N.idxOf? x
 |_=>none
noncomputable def aS(c:CC)(x:Str):Bool:=c.sc.names.lookup x == some .globalImplicit
noncomputable def aCn(c:CC)(x:Str):Option Nat:=if c.mus.contains x then bD c x else none
noncomputable def one?{α:Type}:List α→Option α
 |[a]=>some a
 |_=>none
noncomputable def nameP:Expr→Option (Str×Pos)
 |.Name x p=>some (x,p)
 |_=>none
noncomputable def FN:Expr→Option (Expr×Str×Pos)
 |.Attribute o m p=>some (o,m,p)
 |_=>none
noncomputable def qP:Expr→Option (Expr×List Expr×List Keyword×Pos)
 |.Call f as kw p=>some (f,as,kw,p)
 |_=>none
noncomputable def ko:Expr→Option (Option Expr×Option Expr×Option Expr×Pos)
 |.Slice a b st p=>some (a,b,st,p)
 |_=>none
noncomputable def tupP:Expr→Option (List Expr×Nat×Pos)
 |.Tuple es k p=>some (es,k,p)
 |_=>none
noncomputable def aIf:Expr→Option (Const×Nat×Pos)
 |.Constant v k p=>some (v,k,p)
 |_=>none
noncomputable def cO(c:CC)(e:Expr):Option Nat:=(nameP e).bind fun x=>aCn c x.1
noncomputable def UX:Operator→Option O2
 |.Add=>some .add
 |.Sub=>some .sub
 |.Mult=>some .mul
 |.FloorDiv=>some .fdiv
 |.Mod=>some .mod
 |.Pow=>some .pow
 |_=>none
noncomputable def kD:CmpOp→O2
 |.Eq=>.eq
 |.NotEq=>.ne
 |.Lt=>.lt
 |.LtE=>.le
 |.Gt=>.gt
 |.GtE=>.ge
 |.Is=>.is
 |.IsNot=>.isnot
 |.In=>.isin
 |.NotIn=>.notin
noncomputable def qS(x:Str):Option BF:=
 if x = "len" then some .len else if x = "int" then some .int else if x = "list" then some .list else if x = "tuple" then some .tuple else if x = "max" then some .max
 else if x = "min" then some .min else if x = "str" then some .str else if x = "any" then some .any else none
noncomputable def srcOf(x:Str):Option Src:=
 if x = "range" then some .rng else if x = "reversed" then some .rev else if x = "enumerate" then some .enum else none
noncomputable def aCD:Src→Bool
 |.enum=>true
 |_=>false
noncomputable def DH(tp:Bool)(k:Src):Bool:=tp || !aCD k
noncomputable def jL:List Str:=["int","bool","str","list","tuple"]
noncomputable def eY(c:CC):Expr→Option Nat
 |.Name x _=>match c.sc.names.lookup x with
  |some .local=>c.N.idxOf? x
  |some .cell=>c.N.idxOf? x
  |_=>none
 |_=>none
noncomputable def eZ(c:CC):List Expr→Option (List Nat)
 |[]=>some []
 |e::r=>do some ((←eY c e)::(←eZ c r))
noncomputable def bW(c:CC):Expr→Option (List Nat×Bool)
 |.Name x p=>(eY c (.Name x p)).map fun i=>([i],false)
 |.Tuple es _ _=>(eZ c es).map fun is=>(is,true)
 |_=>none
noncomputable def tZ:NameKind→Bool
 |.globalImplicit=>true
 |.globalExplicit=>true
 |_=>false
noncomputable def ownNames(sc:Scope):List Str:=(sc.names.filter fun x=>!tZ x.2).map (·.1)
noncomputable def jM:Expr→Bool
 |.Call _ _ _ _=>false
 |_=>true
noncomputable def kO(c:CC)(sc:Scope):Bool:=
 sc.kind == .function&&sc.names.all (fun x=>x.2 != .cell)&&sc.names.all (fun x=>x.2 != .local || sc.names.lookup x.1 == some .local)&&sc.names.all (fun x=>x.2 != .free || sc.names.lookup x.1 == some .free)&&decide (ownNames sc).Nodup &&
 (ownNames sc).all (fun x=>!(x == ("__debug__":Str))&&!(x == ("__classdict__":Str)))&&!(sc.names.lookup ("__debug__":Str) == some NameKind.globalImplicit) &&
 sc.names.all (fun x=>x.2 != .free || (c.sc.names.lookup x.1 == some .cell || c.sc.names.lookup x.1 == some .free))
noncomputable def freeOf(c:CC)(sc:Scope):List (Str×NameKind)→Option (List (Nat×Nat))
 |[]=>some []
 |x::r=>do some ((←(ownNames sc).idxOf? x.1,←bD c x.1)::(←freeOf c sc r))
noncomputable def own(c:CC)(x:Str):Bool:=c.fns.contains x || c.cls.contains x
noncomputable def zU(c:CC)(x:Str):Option IE:=match bD c x with
 |some i=>some (.var i)
 |none=>if aS c x&&c.csts.contains x then some (.glo x) else none
noncomputable def CB:Const→Option IE
 |.int i=>some (.lit (.int i))
 |.bool b=>some (.lit (.bl b))
 |.str x=>some (.lit (.str x))
 |.none=>some (.lit .non)
 |_=>none
noncomputable def aFs(a:Option IE):UnaryOp→Option IE
 |.USub=>a.map .neg
 |.Not=>a.map fun x=>.not (.tr x)
 |_=>none
noncomputable def boK:BoolOp→Bool
 |.And=>true
 |.Or=>false
noncomputable def JC:List Str:=["SPINE_LINES","WAYS"]
noncomputable def aHP:CmpOp→Option Bool
 |.In=>some false
 |.NotIn=>some true
 |_=>none
noncomputable def aHQ(c:CC)(o:CmpOp)(b:Expr):Option (Bool×Str):=(aHP o).bind fun k=>(nameP b).bind fun q=>if aS c q.1&&JC.contains q.1 then some (k,q.1) else none
noncomputable def KY(c:CC)(f:Expr→Option IE)(a:Option IE):List CmpOp→List Expr→Option IE
 |[o],[b]=>a.bind fun x=>match aHQ c o b with
  |some q=>some (.inC q.1 q.2 x)
  |none=>(f b).map fun y=>.bin (kD o) x y
 |[o,o'],[b,d]=>a.bind fun x=>(f b).bind fun y=>(f d).map fun z=>.chain (kD o) (kD o') x y z
 |_,_=>none
noncomputable def tL(f:Expr→Option IE):Option Expr→Option IE
 |none=>some (.lit .non)
 |some e=>f e
noncomputable def aFt(m:Option Nat)(a:Option IE)(bl:Bool)(l:IE)(bh:Bool)(h:IE):Option IE:=match m with
 |some i=>some (.slm i bl l bh h)
 |none=>a.map fun x=>.sl x bl l bh h
noncomputable def ON:List Str:=["prints"]
noncomputable def yE(e:Expr):Bool:=match nameP e with
 |some q=>ON.contains q.1
 |none=>false
noncomputable def aFw(dv:Bool)(m:Option Nat)(a:Option IE)(k:IE):Option IE:=match m with
 |some i=>some (if dv then .ixd i k else .ixm i k)
 |none=>a.map fun x=>.ix x k
noncomputable def KS(f:Expr→Option IE)(dv:Bool)(m:Option Nat)(a:Option IE)(i:Expr):Option IE:=match ko i with
 |some q=>if q.2.2.1.isSome then none else(tL f q.1).bind fun l=>(tL f q.2.1).bind fun h=>aFt m a q.1.isSome l q.2.1.isSome h
 |none=>(f i).bind (aFw dv m a)
noncomputable def KU(f:Expr→Option IE)(c:CC):List Expr→Option IE
 |[a,y]=>(nameP y).bind fun y=>if aS c y.1&&jL.contains y.1&&!own c y.1 then(f a).map fun x=>.isi x y.1 else none
 |_=>none
noncomputable def ZL(c:CC)(args:List Expr):Option Nat:=(one? args).bind (cO c)
noncomputable def qR(c:CC)(e:Expr):Option (Str×List Expr):=(qP e).bind fun q=>(nameP q.1).bind fun x=>if q.2.2.1.isEmpty&&aS c x.1&&!own c x.1 then some (x.1,q.2.1) else none
noncomputable def zS(c:CC)(args:List Expr):Option Expr:=(one? args).bind fun e=>(qR c e).bind fun q=>if q.1 == "reversed" then one? q.2 else none
noncomputable def aKv(dv:Bool)(b:BF)(as:Option IE)(i:Nat):Option IE:=match b with
 |.len=>some (if dv then .lend i else .lenm i)
 |_=>as.map fun x=>.bcall b x
noncomputable def aBj(b:BF)(as:Option IE)(w:Option (Option IE)):Option IE:=match b,w with
 |.list,some o=>o.map fun x=>.walk .rev x
 |_,_=>as.map fun x=>.bcall b x
noncomputable def HA(f:Expr→Option IE)(c:CC)(b:BF)(args:List Expr)(as:Option IE):Option IE:=match ZL c args with
 |some i=>aKv (args.any yE) b as i
 |none=>aBj b as ((zS c args).map f)
noncomputable def CD(f:Expr→Option IE)(c:CC)(x:Str)(args:List Expr)(as:Option IE):Option IE:=
 if aS c x then
  (if c.fns.contains x then as.map fun y=>.call x y
   else if c.cls.contains x then as.map fun y=>.mk x y
   else if x == "isinstance" then KU f c args
   else(qS x).bind fun b=>HA f c b args as)
 else none
noncomputable def getM(c:CC)(o:Expr)(m:Str):Option Nat:=if m == "get" then cO c o else none
noncomputable def aBk(f:Expr→Option IE)(c:CC)(g:Expr)(args:List Expr)(as:Option IE)(p:Pos):Option IE:=match g with
 |.Name x _=>CD f c x args as
 |.Attribute o m ap=>if jM o&&decide (args.length<30)&&(ap.endLine == p.line) then(match getM c o m with|some i=>as.map fun y=>.getd i y|none=>(f o).bind fun x=>as.map fun y=>.meth x m y) else none
 |_=>none
noncomputable def aBi(f:Expr→Option IE):List Expr→Option IE
 |[]=>some (.lit (.bl true))
 |[e]=>f e
 |_=>none
noncomputable def KW(c:CC)(sc:Scope)(g:Comprehension)(it:Option (Src×IE))(ct:Expr→Option IE)(el:Option IE):Option IE:=
 (bW { c with N:=ownNames sc,sc:=sc } g.target).bind fun tg=>it.bind fun k=>(aBi ct g.ifs).bind fun te=>el.bind fun el=>(freeOf c sc (sc.names.filter fun x=>x.2 == .free)).bind fun fr =>
  if kO c sc&&tg.1.all (fun i=>(fr.lookup i).isNone)&&!aCD k.1 then some (.comp (ownNames sc).length fr tg.1 tg.2 k.1 k.2 te el) else none
noncomputable def few(es:List Expr):Bool:=decide (es.length≤100)
mutual
noncomputable def cE:Nat→CC→Expr→Option IE
 | 0,_,_=>none
 |n+1,c,e=>match e with
  |.Name x _=>zU c x
  |.Constant v _ _=>CB v
  |.BinOp a o b _=>(UX o).bind fun o=>(cE n c a).bind fun x=>(cE n c b).map fun y=>.bin o x y
  |.UnaryOp o a _=>aFs (cE n c a) o
  |.BoolOp o vs _=>cB n c false (boK o) vs
  |.IfExp d a b _=>(cT n c d).bind fun x=>(cE n c a).bind fun y=>(cE n c b).map fun z=>.ite x y z
  |.Compare a os bs _=>KY c (cE n c) (cE n c a) os bs
  |.Tuple es _ _=>if few es then(cA n c es).map .tup else none
  |.List es _=>if few es then(cA n c es).map .lst else none
  |.Subscript a i _=>KS (cE n c) (yE a) (cO c a) (cE n c a) i
  |.Attribute a f _=>if jM a then(cE n c a).map fun x=>.fld x f else none
  |.ListComp elt gs sc _=>(one? gs).bind fun g=>if g.is_async=0 then KW c sc g (cI n c g.iter) (cT n { c with N:=ownNames sc,sc:=sc }) (cE n { c with N:=ownNames sc,sc:=sc } elt) else none
  |.Call f args kw p=>if kw.isEmpty then aBk (cE n c) c f args (cA n c args) p else none
  |_=>none
noncomputable def cT:Nat→CC→Expr→Option IE
 | 0,_,_=>none
 |n+1,c,e=>match e with
  |.BoolOp o vs _=>cB n c true (boK o) vs
  |.UnaryOp .Not a _=>(cT n c a).map .not
  |.Compare a os bs _=>KY c (cE n c) (cE n c a) os bs
  |.IfExp _ _ _ _=>none
  |e=>(cE n c e).map .tr
noncomputable def cB:Nat→CC→Bool→Bool→List Expr→Option IE
 | 0,_,_,_,_=>none
 |n+1,c,t,k,[]=>none
 |n+1,c,t,k,[a]=>if t then cT n c a else cE n c a
 |n+1,c,t,k,a::b::r=>(if t then cT n c a else cE n c a).bind fun x=>(cB n c t k (b::r)).map fun y=>if k then .and x y else .or x y
noncomputable def cA:Nat→CC→List Expr→Option IE
 | 0,_,_=>none
 |n+1,c,[]=>some .nil
 |n+1,c,e::es=>(cE n c e).bind fun x=>(cA n c es).map fun y=>.cons x y
noncomputable def cI:Nat→CC→Expr→Option (Src×IE)
 | 0,_,_=>none
 |n+1,c,e=>match (qR c e).bind fun q=>(srcOf q.1).map fun k=>(k,q.2) with
  |some q=>(match q.1 with
   |.rng=>(cA n c q.2).map fun y=>(.rng,.tup y)
   |.enum=>(one? q.2).bind fun a=>(cE n c a).map fun y=>(.enum,y)
   |k=>(one? q.2).bind fun a=>(cE n c a).map fun y=>(k,y))
  |none=>(cE n c e).map fun y=>(.seq,y)
end
noncomputable def aLg(i:Expr):Bool:=(ko i).isSome
noncomputable def aCG(c:CC):Expr→Bool
 |.Name x _=>(c.fns.contains x&&c.fresh.contains x) || (aS c x&&(x == "list" || x == "sorted")&&!own c x)
 |.Attribute _ m _=>c.fresh.contains m
 |_=>false
noncomputable def iE(c:CC):Expr→Bool
 |.List _ _=>true
 |.ListComp _ _ _ _=>true
 |.Subscript _ i _=>aLg i
 |.Call f _ _ _=>aCG c f
 |_=>false
noncomputable def aEE(e:Expr):Option Str:=(aIf e).bind fun v=>match v.1 with
 |.str x=>some x
 |_=>none
noncomputable def PH(c:CC):Bool:=match c.N with
 |x::_=>c.mus.contains x
 |[]=>false
noncomputable def rdR(f:Expr→Option IE)(c:CC)(e:Expr):Option IS:=(f e).map fun x=>.ret (iE c e) x
noncomputable def aFv(f:Expr→Option IE)(c:CC):Option Expr→Option IS
 |none=>some .retn
 |some e=>if PH c then(f e).map .retq else match cO c e with
  |some i=>some (.retm i)
  |none=>rdR f c e
noncomputable def DA:Expr→Bool
 |.Dict [] [] _=>true
 |_=>false
noncomputable def KZ(f:Expr→Option IE)(c:CC)(x:Str)(e:Expr)(i:Nat):Option IS:=
 if c.mus.contains x then(if DA e then some (.setd i) else if iE c e then(f e).map fun y=>.setm i y else none) else(f e).map fun y=>.set i y
noncomputable def zT(f:Expr→Option IE)(c:CC)(ts:List Expr)(e:Expr):Option IS:=match tupP e with
 |some _=>none
 |none=>(eZ c ts).bind fun is=>(f e).map fun y=>.sett is y
noncomputable def YZ(f:Expr→Option IE)(c:CC)(e:Expr):Expr→Option IS
 |.Name x p=>(eY c (.Name x p)).bind (KZ f c x e)
 |.Tuple ts _ _=>zT f c ts e
 |.Subscript a i _=>(cO c a).bind fun j=>(f i).bind fun k=>(f e).map fun y=>.put j k y
 |_=>none
noncomputable def YF(c:CC)(e:Expr):Option (Nat×Expr):=(qP e).bind fun q=>(FN q.1).bind fun g=>(cO c g.1).bind fun j=>(one? q.2.1).bind fun a=>if q.2.2.1.isEmpty&&g.2.1 == "append" && g.2.2.endLine == q.2.2.2.line then some (j,a) else none
noncomputable def UE(c:CC)(e:Expr):Option Nat:=(qP e).bind fun q=>(FN q.1).bind fun g=>(cO c g.1).bind fun j=>if q.2.1.isEmpty&&q.2.2.1.isEmpty&&g.2.1 == "pop" && g.2.2.endLine == q.2.2.2.line then some j else none
noncomputable def zV(f:Expr→Option IE)(_:CC)(e:Expr):Option IS:=(qP e).bind fun _=>(f e).map .drop
noncomputable def aKw(f:Expr→Option IE)(c:CC)(e:Expr):Option IS:=match YF c e with
 |some q=>(f q.2).map fun x=>.app q.1 x
 |none=>match UE c e with
  |some j=>some (.pop j)
  |none=>zV f c e
noncomputable def aFu(c:CC)(e:Option Expr)(h:Option Expr):Option IS:=e.bind fun e=>(qP e).bind fun q=>(nameP q.1).bind fun x=>(one? q.2.1).bind fun a=>(aEE a).bind fun _ =>
 if h.isNone&&q.2.2.1.isEmpty&&aS c x.1&&c.cls.contains x.1 then some (.rse x.1) else none
noncomputable def aFr:Stmt→Option (Option Expr×Pos)
 |.Return e p=>some (e,p)
 |_=>none
noncomputable def ifP:Stmt→Option (Expr×List Stmt×List Stmt)
 |.If t a b _=>some (t,a,b)
 |_=>none
noncomputable def XY(c:CC)(tg iter:Expr)(body:List Stmt):Option (Nat×Nat×Expr×Expr):=(cO c iter).bind fun x=>(eY c tg).bind fun i=>(one? body).bind fun s=>(ifP s).bind fun q=>(one? q.2.1).bind fun r=>(aFr r).bind fun r=>r.1.bind fun e=>if q.2.2.isEmpty&&i != x then some (x,i,q.1,e) else none
noncomputable def ZV:Expr→Option (BoolOp×List Expr)
 |.BoolOp o vs _=>some (o,vs)
 |_=>none
noncomputable def aCa:Expr→Option Expr
 |.UnaryOp .Not a _=>some a
 |_=>none
noncomputable def IV:List Str:=["_law_fill"]
noncomputable def uM(c:CC)(e:Expr):Option (Str×Nat×List Expr):=(qP e).bind fun q=>(nameP q.1).bind fun f=>if q.2.2.1.isEmpty&&aS c f.1&&IV.contains f.1 then(match q.2.1 with
 |a::as=>(cO c a).map fun j=>(f.1,j,as)
 |[]=>none) else none
noncomputable def WU(c:CC)(t:Expr):Option (Expr×Str×Nat×List Expr):=(ZV t).bind fun q=>if boK q.1 then none else match q.2 with
 |[a,b]=>(aCa b).bind fun e=>(uM c e).map fun r=>(a,r)
 |_=>none
noncomputable def NV:List Str:=["across_upright","across_level"]
noncomputable def NU(c:CC):Stmt→List Nat
 |.Assign [.Name _ _] (.List [] _) _=>(NV.filter fun x=>c.mus.contains x).filterMap (bD c)
 |_=>[]
noncomputable def IK(xs:List Nat)(b:IS):IS:=if xs.isEmpty then b else .frz xs b
mutual
noncomputable def cS:Nat→CC→Stmt→Option IS
 | 0,_,_=>none
 |n+1,c,st=>match st with
  |.Pass _=>some .nop
  |.Return v _=>aFv (cE n c) c v
  |.Assign ts e _=>(one? ts).bind (YZ (cE n c) c e)
  |.If t a b _=>match WU c t with
   |some q=>if b.isEmpty then(cT n c q.1).bind fun t=>(cA n c q.2.2.2).bind fun es=>(da n c a).map fun a=>.fil t q.2.1 q.2.2.1 es a else none
   |none=>(cT n c t).bind fun t=>(da n c a).bind fun a=>(da n c b).map fun b=>.iff t a b
  |.For tg iter body els _=>if els.isEmpty then(match XY c tg iter body with
   |some q=>(cT n c q.2.2.1).bind fun t=>(cE n c q.2.2.2).map fun e=>.chkm q.1 q.2.1 t e
   |none=>(bW c tg).bind fun g=>(cI n c iter).bind fun k=>if DH g.2 k.1 then(da n c body).map fun b=>.loop g.1 g.2 k.1 k.2 b else none) else none
  |.Expr e _=>aKw (cE n c) c e
  |.Raise e h _=>aFu c e h
  |_=>none
noncomputable def da:Nat→CC→List Stmt→Option IS
 | 0,_,_=>none
 |n+1,c,[]=>some .nop
 |n+1,c,[s]=>cS n c s
 |n+1,c,s::s2::r=>(cS n c s).bind fun a=>(da n c (s2::r)).map fun b=>.seq a (IK (NU c s2) b)
end
theorem cM{α:Type}{l:List α}{a:α}(h:one? l=some a):l=[a]:=by
 match l,h with
 |[_],h=>exact congrArg (fun x=>[x]) (ox h)
theorem dH{e:Expr}{x:Str×Pos}(h:nameP e=some x):e=.Name x.1 x.2:=by
 cases e<;>first|exact nomatch (show none=some x from h)|(cases (show some _=some x from h);rfl)
theorem kP{e:Expr}{x:Expr×Str×Pos}(h:FN e=some x):e=.Attribute x.1 x.2.1 x.2.2:=by
 cases e<;>first|exact nomatch (show none=some x from h)|(cases (show some _=some x from h);rfl)
theorem eM{e:Expr}{x:Expr×List Expr×List Keyword×Pos}(h:qP e=some x):e=.Call x.1 x.2.1 x.2.2.1 x.2.2.2:=by
 cases e<;>first|exact nomatch (show none=some x from h)|(cases (show some _=some x from h);rfl)
theorem KN{e:Expr}{x:Option Expr×Option Expr×Option Expr×Pos}(h:ko e=some x):e=.Slice x.1 x.2.1 x.2.2.1 x.2.2.2:=by
 cases e<;>first|exact nomatch (show none=some x from h)|(cases (show some _=some x from h);rfl)
theorem JF{e:Expr}{x:Const×Nat×Pos}(h:aIf e=some x):e=.Constant x.1 x.2.1 x.2.2:=by
 cases e<;>first|exact nomatch (show none=some x from h)|(cases (show some _=some x from h);rfl)
theorem aE{α β:Type}{o:Option α}{f:α→Option β}{b:β}(h:o.bind f=some b):∃a,o=some a∧f a=some b:=o9.mp h
theorem aL{α β:Type}{o:Option α}{f:α→β}{b:β}(h:o.map f=some b):∃a,o=some a∧b=f a:=by
 obtain⟨a,h1,h2⟩:=oy.mp h;exact⟨a,h1,h2.symm⟩
theorem bE{α:Type}{k:Bool}{o:Option α}{a:α}(h:(if k then o else none)=some a):k=true∧o=some a:=by
 cases k with
 |true=>exact⟨rfl,h⟩
 |false=>exact nomatch (show none=some a from h)
theorem bN{a b:Bool}(h:(a&&b)=true):a=true∧b=true:=(ow a b) ▸ h
theorem ZF{a:Bool}(h:(!a)=true):a=false:=by cases a<;>first|rfl|exact h.symm
theorem jG{α:Type}{l:List α}(h:l.isEmpty=true):l=[]:=List.isEmpty_iff.mp h
theorem LU{c:CC}{x:Str}(h:own c x=false):c.fns.contains x=false∧c.cls.contains x=false:=by
 unfold own at h;rw[Bool.or_eq_false_iff]at h;exact h
theorem nO{c:CC}{e:Expr}{q:Str×List Expr}(h:qR c e=some q):∃p1 p2,e=.Call (.Name q.1 p1) q.2 [] p2∧aS c q.1=true∧own c q.1=false:=by
 obtain⟨r,h1,h⟩:=aE h;obtain⟨x,h2,h⟩:=aE h;obtain⟨h3,h⟩:=bE h;obtain⟨h3,h5⟩:=bN h3;obtain⟨h3,h4⟩:=bN h3;cases h;exact⟨x.2,r.2.2.2,by rw[eM h1,dH h2,jG h3],h4,ZF h5⟩
theorem GT{e:Expr}{x:Str}(h:aEE e=some x):∃j p,e=.Constant (.str x) j p:=by
 obtain⟨v,h1,h⟩:=aE h;obtain⟨v,j,p⟩:=v;have e1:=JF h1
 cases v<;>first|exact nomatch (show none=some x from h)|(cases (show some _=some x from h);exact⟨j,p,e1⟩)
end Z
namespace Z
open PySem PySem.Spec PyProof.Rows L2
def ExcAt(xc:Str→Option Addr)(H:Hp)(a:Addr)(c:Str):Prop:=
 ∃φ C,H a=some (.ext φ)∧xc c=some C∧∀h:Heap,φ h→∃o,h.get? a=some o∧o.cls=.ref C
structure Tx where
 cl:Str→Option Addr
 xc:Str→Option Addr
section
variable (K:so)(T:Tx)(H:Hp)(S:Addr→Prop)
mutual
noncomputable def Rep:D→V→Prop
 |.non,v=>v=.non
 |.bl b,v=>v=.bl b
 |.int i,v=>v=.int i
 |.str x,v=>v=.str x
 |.lst ds,v=>∃a xs,v=.ref a∧¬S a∧H a=some (.lst xs)∧aD ds xs
 |.tup ds,v=>∃a xs,v=.ref a∧¬S a∧SqT K H a xs∧aD ds xs
 |.obj c fs,v=>∃a C dx gs,v=.ref a∧¬S a∧T.cl c=some C∧H a=some (.ins C dx gs)∧cD fs gs
 |.exc c,v=>∃a,v=.ref a∧¬S a∧ExcAt T.xc H a c
 |.dct kvs,v=>∃a gs,v=.ref a∧¬S a∧H a=some (.dK gs)∧aZ kvs gs
 |.frz ds,v=>∃a xs,v=.ref a∧¬S a∧SqL K H a xs∧aD ds xs
noncomputable def aD:List D→List V→Prop
 |[],xs=>xs=[]
 |d::ds,xs=>∃x r,xs=x::r∧Rep d x∧aD ds r
noncomputable def cD:List (Str×D)→List (Str×V)→Prop
 |[],gs=>gs=[]
 | (f,d)::fs,gs=>∃x r,gs=(f,x)::r∧Rep d x∧cD fs r
noncomputable def aZ:List (Int×D)→List (Key×V)→Prop
 |[],gs=>gs=[]
 | (i,d)::fs,gs=>∃x r,gs=(Sum.inl i,x)::r∧Rep d x∧aZ fs r
end
end
section
variable {K:so}{T:Tx}{H H':Hp}{S S':Addr→Prop}
theorem SqT.keeps{a:Addr}{xs:List V}(h:SqT K H a xs)(k:∀o,H a=some o→H' a=some o):SqT K H' a xs:=by
 rcases h with (h|⟨o,h⟩)|h
 ·exact .inl (.inl (k _ h))
 ·exact .inl (.inr ⟨o,k _ h⟩)
 ·exact .inr h
theorem SqL.keeps{a:Addr}{xs:List V}(h:SqL K H a xs)(k:∀o,H a=some o→H' a=some o):SqL K H' a xs:=by
 rcases h with (h|⟨o,h⟩)|h
 ·exact .inl (.inl (k _ h))
 ·exact .inl (.inr ⟨o,k _ h⟩)
 ·exact .inr h
def aI(K:so)(H H':Hp)(S S':Addr→Prop):Prop:=∀a,¬S a→((∃o,H a=some o)∨∃o,K.lookup a=some o)→¬S' a∧∀o,H a=some o→H' a=some o
theorem SqT.has{a:Addr}{xs:List V}(h:SqT K H a xs):(∃o,H a=some o)∨∃o,K.lookup a=some o:=by
 rcases h with (h|⟨o,h⟩)|⟨o,_,_,h,_⟩
 ·exact .inl ⟨_,h⟩
 ·exact .inl ⟨_,h⟩
 ·exact .inr ⟨_,h⟩
theorem SqL.has{a:Addr}{xs:List V}(h:SqL K H a xs):(∃o,H a=some o)∨∃o,K.lookup a=some o:=by
 rcases h with (h|⟨o,h⟩)|⟨o,_,_,h,_⟩
 ·exact .inl ⟨_,h⟩
 ·exact .inl ⟨_,h⟩
 ·exact .inr ⟨_,h⟩
mutual
theorem Rep.gen(hk:aI K H H' S S'):∀(d:D) (v:V),Rep K T H S d v→Rep K T H' S' d v
 |.non,v,h=>by unfold Rep at h ⊢;exact h
 |.bl b,v,h=>by unfold Rep at h ⊢;exact h
 |.int i,v,h=>by unfold Rep at h ⊢;exact h
 |.str x,v,h=>by unfold Rep at h ⊢;exact h
 |.lst ds,v,h=>by
  unfold Rep at h ⊢;obtain⟨a,xs,e,n,q,r⟩:=h;obtain⟨n',k⟩:=hk a n (.inl ⟨_,q⟩);exact⟨a,xs,e,n',k _ q,aD.gen hk ds xs r⟩
 |.tup ds,v,h=>by
  unfold Rep at h ⊢;obtain⟨a,xs,e,n,q,r⟩:=h;obtain⟨n',k⟩:=hk a n (SqT.has q);exact⟨a,xs,e,n',SqT.keeps q k,aD.gen hk ds xs r⟩
 |.obj c fs,v,h=>by
  unfold Rep at h ⊢;obtain⟨a,C,dx,gs,e,n,ec,q,r⟩:=h;obtain⟨n',k⟩:=hk a n (.inl ⟨_,q⟩);exact⟨a,C,dx,gs,e,n',ec,k _ q,cD.gen hk fs gs r⟩
 |.exc c,v,h=>by
  unfold Rep at h ⊢;obtain⟨a,e,n,φ,C,q,r⟩:=h;obtain⟨n',k⟩:=hk a n (.inl ⟨_,q⟩);exact⟨a,e,n',φ,C,k _ q,r⟩
 |.dct kvs,v,h=>by
  unfold Rep at h ⊢;obtain⟨a,gs,e,n,q,r⟩:=h;obtain⟨n',k⟩:=hk a n (.inl ⟨_,q⟩);exact⟨a,gs,e,n',k _ q,aZ.gen hk kvs gs r⟩
 |.frz ds,v,h=>by
  unfold Rep at h ⊢;obtain⟨a,xs,e,n,q,r⟩:=h;obtain⟨n',k⟩:=hk a n (SqL.has q);exact⟨a,xs,e,n',SqL.keeps q k,aD.gen hk ds xs r⟩
theorem aD.gen(hk:aI K H H' S S'):∀(ds:List D) (xs:List V),aD K T H S ds xs→aD K T H' S' ds xs
 |[],xs,h=>by unfold aD at h ⊢;exact h
 |d::ds,xs,h=>by
  unfold aD at h ⊢;obtain⟨x,r,e,p,q⟩:=h;exact⟨x,r,e,Rep.gen hk d x p,aD.gen hk ds r q⟩
theorem cD.gen(hk:aI K H H' S S'):∀(ds:List (Str×D)) (xs:List (Str×V)),cD K T H S ds xs→cD K T H' S' ds xs
 |[],xs,h=>by unfold cD at h ⊢;exact h
 | (f,d)::ds,xs,h=>by
  unfold cD at h ⊢;obtain⟨x,r,e,p,q⟩:=h;exact⟨x,r,e,Rep.gen hk d x p,cD.gen hk ds r q⟩
theorem aZ.gen(hk:aI K H H' S S'):∀(ds:List (Int×D)) (xs:List (Key×V)),aZ K T H S ds xs→aZ K T H' S' ds xs
 |[],xs,h=>by unfold aZ at h ⊢;exact h
 | (f,d)::ds,xs,h=>by
  unfold aZ at h ⊢;obtain⟨x,r,e,p,q⟩:=h;exact⟨x,r,e,Rep.gen hk d x p,aZ.gen hk ds r q⟩
end
theorem aI.mk(hS:∀a,S' a→S a)(hk:∀b o,¬S b→H b=some o→H' b=some o):aI K H H' S S':=fun a n _=>⟨fun z=>n (hS a z),fun o=>hk a o n⟩
theorem aI.add{D:Addr}{o:HO}(hD:H D=none)(hK:K.lookup D=none):aI K H (upd H D o) S (fun a=>S a∨a=D):=fun a n h=>by
 have ne:a≠D:=by
  rintro rfl
  rcases h with ⟨u,e⟩|⟨u,e⟩
  ·rw[hD]at e;cases e
  ·rw[hK]at e;cases e
 exact⟨fun z=>z.elim n ne,fun u e=>by rw[aQ ne];exact e⟩
theorem Rep.mono(hS:∀a,S' a→S a)(hk:∀b o,¬S b→H b=some o→H' b=some o)(d:D)(v:V)(h:Rep K T H S d v):Rep K T H' S' d v:=Rep.gen (aI.mk hS hk) d v h
theorem aD.mono(hS:∀a,S' a→S a)(hk:∀b o,¬S b→H b=some o→H' b=some o)(d:List D)(v:List V)(h:aD K T H S d v):aD K T H' S' d v:=aD.gen (aI.mk hS hk) d v h
theorem Rep.same(k:aG H H'){d:D}{v:V}(h:Rep K T H S d v):Rep K T H' S d v:=Rep.mono (fun _ z=>z) (fun b o _=>k b o) d v h
theorem aD.same(k:aG H H'){d:List D}{v:List V}(h:aD K T H S d v):aD K T H' S d v:=aD.mono (fun _ z=>z) (fun b o _=>k b o) d v h
theorem aD.len:∀{ds:List D} {xs:List V},aD K T H S ds xs→ds.length=xs.length
 |[],xs,h=>by unfold aD at h;subst h;rfl
 |d::ds,xs,h=>by
  unfold aD at h;obtain⟨x,r,rfl,_,q⟩:=h;simp[aD.len q]
theorem aD.get:∀{ds:List D} {xs:List V} {i:Nat} {d:D},aD K T H S ds xs→ds[i]?=some d→∃x,xs[i]?=some x∧Rep K T H S d x
 |[],_,_,_,_,e=>by simp at e
 |d::ds,xs,0,d',h,e=>by
  unfold aD at h;obtain⟨x,r,rfl,p,q⟩:=h;simp at e;subst e;exact⟨x,rfl,p⟩
 |d::ds,xs,i+1,d',h,e=>by
  unfold aD at h;obtain⟨x,r,rfl,p,q⟩:=h;obtain⟨y,h1,h2⟩:=aD.get (i:=i) (d:=d') q (by simpa using e)
  exact⟨y,by simpa using h1,h2⟩
theorem aD.app:∀{ds es:List D} {xs ys:List V},aD K T H S ds xs→aD K T H S es ys→aD K T H S (ds++es) (xs++ys)
 |[],es,xs,ys,h,g=>by unfold aD at h;subst h;exact g
 |d::ds,es,xs,ys,h,g=>by
  unfold aD at h;obtain⟨x,r,rfl,p,q⟩:=h;show aD K T H S (d::(ds++es)) _
  unfold aD;exact⟨x,r++ys,rfl,p,aD.app q g⟩
theorem aD.nil:aD K T H S [] []:=by unfold aD;rfl
theorem aD.cons{d:D}{x:V}{ds:List D}{xs:List V}(h:Rep K T H S d x)(g:aD K T H S ds xs):aD K T H S (d::ds) (x::xs):=by unfold aD;exact⟨x,xs,rfl,h,g⟩
theorem aD.drop:∀{ds:List D} {xs:List V} (n:Nat),aD K T H S ds xs→aD K T H S (ds.drop n) (xs.drop n)
 |ds,xs,0,h=>h
 |[],xs,n+1,h=>by unfold aD at h;subst h;exact aD.nil
 |d::ds,xs,n+1,h=>by
  unfold aD at h;obtain⟨x,r,rfl,p,q⟩:=h;exact aD.drop n q
theorem aD.take:∀{ds:List D} {xs:List V} (n:Nat),aD K T H S ds xs→aD K T H S (ds.take n) (xs.take n)
 |ds,xs,0,h=>by simp;exact aD.nil
 |[],xs,n+1,h=>by unfold aD at h;subst h;exact aD.nil
 |d::ds,xs,n+1,h=>by
  unfold aD at h;obtain⟨x,r,rfl,p,q⟩:=h;exact aD.cons p (aD.take n q)
theorem aD.set:∀{ds:List D} {xs:List V} (n:Nat) {d:D} {v:V},aD K T H S ds xs→Rep K T H S d v→aD K T H S (ds.set n d) (xs.set n v)
 |[],xs,n,d,v,h,g=>by unfold aD at h;subst h;exact aD.nil
 |_::ds,xs,0,d,v,h,g=>by
  unfold aD at h;obtain⟨x,r,rfl,p,q⟩:=h;exact aD.cons g q
 |_::ds,xs,n+1,d,v,h,g=>by
  unfold aD at h;obtain⟨x,r,rfl,p,q⟩:=h;exact aD.cons p (aD.set n q g)
theorem aD.rev:∀{ds:List D} {xs:List V},aD K T H S ds xs→aD K T H S ds.reverse xs.reverse
 |[],xs,h=>by unfold aD at h;subst h;exact aD.nil
 |d::ds,xs,h=>by
  unfold aD at h;obtain⟨x,r,rfl,p,q⟩:=h;rw[reverse_cons,reverse_cons];exact aD.app (aD.rev q) (aD.cons p aD.nil)
theorem cD.look{f:Str}:∀{ds:List (Str×D)} {xs:List (Str×V)},cD K T H S ds xs→(∀d,ds.lookup f=some d→∃x,xs.lookup f=some x∧Rep K T H S d x)∧(ds.lookup f=none→xs.lookup f=none)
 |[],xs,h=>by unfold cD at h;subst h;exact⟨fun d e=>by simp at e,fun _=>rfl⟩
 | (g,d)::ds,xs,h=>by
  unfold cD at h;obtain⟨x,r,rfl,p,q⟩:=h;obtain⟨i1,i2⟩:=cD.look (f:=f) q;rw[lookup_cons,lookup_cons];cases e:f == g with
  |true=>exact⟨fun d' z=>⟨x,rfl,by cases z;exact p⟩,fun z=>by cases z⟩
  |false=>exact⟨i1,i2⟩
end
noncomputable def er(H:Hp)(p:Addr):Hp:=fun a=>if a=p then none else H a
theorem FA{H:Hp}{p a:Addr}{o:HO}:er H p a=some o↔a≠p∧H a=some o:=by
 unfold er;split<;>simp_all
theorem jF{H:Hp}{p:Addr}{o:HO}(h:H p=none):er (upd H p o) p=H:=by
 funext a
 unfold er
 by_cases e:a=p
 ·rw[if_pos e,e,h]
 ·rw[if_neg e,aQ e]
theorem aD.er{K:so}{T:Tx}{H:Hp}{S:Addr→Prop}{p:Addr}{ds:List D}{xs:List V}(h:aD K T (er H p) S ds xs):aD K T H S ds xs:=aD.mono (fun _ z=>z) (fun b o _ e=>(FA.mp e).2) ds xs h
theorem aD.disown{K:so}{T:Tx}{H:Hp}{S S':Addr→Prop}{p:Addr}{ds:List D}{xs:List V}(hp:S p)(hs:∀a,S' a→S a)(h:aD K T H S ds xs):aD K T (Z.er H p) S' ds xs:=
 aD.gen (fun a n _=>⟨fun z=>n (hs a z),fun o e=>FA.mpr ⟨fun z=>n (by rw[z];exact hp),e⟩⟩) ds xs h
theorem aI.own{K:so}{H:Hp}{S:Addr→Prop}{p:Addr}(hk:K.lookup p=none):aI K (Z.er H p) H S (fun a=>S a∨a=p):=fun a n q=>by
 have ne:a≠p:=by
  rintro rfl
  rcases q with ⟨o,e⟩|⟨o,e⟩
  ·exact(FA.mp e).1 rfl
  ·rw[hk]at e;cases e
 exact⟨fun z=>z.elim n ne,fun o e=>(FA.mp e).2⟩
def iV(K:so)(T:Tx)(H:Hp)(S:Addr→Prop)(d:D)(o:HO):Prop:=(∃ds xs,d=.lst ds∧o=.lst xs∧aD K T H S ds xs)∨∃kvs gs,d=.dct kvs∧o=.dK gs∧aZ K T H S kvs gs
theorem iV.gen{K:so}{T:Tx}{H H':Hp}{S S':Addr→Prop}{d:D}{o:HO}(mv:aI K H H' S S')(h:iV K T H S d o):iV K T H' S' d o:=by
 rcases h with ⟨ds,xs,e1,e2,r⟩|⟨ds,xs,e1,e2,r⟩
 ·exact .inl ⟨ds,xs,e1,e2,aD.gen mv _ _ r⟩
 ·exact .inr ⟨ds,xs,e1,e2,aZ.gen mv _ _ r⟩
theorem iV.lst{K:so}{T:Tx}{H:Hp}{S:Addr→Prop}{ds:List D}{o:HO}(h:iV K T H S (.lst ds) o):∃xs,o=.lst xs∧aD K T H S ds xs:=by
 rcases h with ⟨ds',xs,e1,e2,r⟩|⟨ds',xs,e1,e2,r⟩
 ·cases e1;exact⟨xs,e2,r⟩
 ·cases e1
theorem iV.dct{K:so}{T:Tx}{H:Hp}{S:Addr→Prop}{ds:List (Int×D)}{o:HO}(h:iV K T H S (.dct ds) o):∃xs,o=.dK xs∧aZ K T H S ds xs:=by
 rcases h with ⟨ds',xs,e1,e2,r⟩|⟨ds',xs,e1,e2,r⟩
 ·cases e1
 ·cases e1;exact⟨xs,e2,r⟩
theorem iV.rep{K:so}{T:Tx}{H:Hp}{S S':Addr→Prop}{d:D}{o:HO}{p:Addr}(h:iV K T H S d o)(hp:H p=some o)(hn:¬S' p)(hs:∀a,S' a→S a):Rep K T H S' d (.ref p):=by
 rcases h with ⟨ds,xs,rfl,rfl,r⟩|⟨ds,xs,rfl,rfl,r⟩
 ·unfold Rep;exact⟨p,xs,rfl,hn,hp,aD.gen (aI.mk hs fun _ _ _ e=>e) _ _ r⟩
 ·unfold Rep;exact⟨p,xs,rfl,hn,hp,aZ.gen (aI.mk hs fun _ _ _ e=>e) _ _ r⟩
section
variable (K:so)(T:Tx)(H:Hp)(S:Addr→Prop)
def YH(s:Sl)(o:Option (Option V)):Prop:=match s with
 |.un=>True
 |.im d=>∃v,o=some (some v)∧Rep K T H S d v
 |.mu d=>∃p ob,o=some (some (.ref p))∧S p∧H p=some ob∧iV K T H S d ob
structure RE (ρ:List Sl) (σ:L2.St):Prop where
 dom:∀a,S a→∃o,H a=some o
 len:ρ.length=σ.length
 at_:∀(i:Nat) s,ρ[i]?=some s→YH K T H S s σ[i]?
def tD(ρ:List Sl)(d:D):TE:=fun σ H Q=>RE K T H S ρ σ∧∀v H',aG H H'→Rep K T H' S d v→Q v H'
def b9(ρ:List Sl)(ds:List D):TA:=fun σ H Q=>RE K T H S ρ σ∧∀vs H',aG H H'→aD K T H' S ds vs→Q vs H'
noncomputable def d7(ρ:List Sl)(b:Bool):TT:=fun σ H Q=>RE K T H S ρ σ∧∀H',aG H H'→Q b H'
def dj(ρ:List Sl)(ds:List D):TE:=fun σ H Q=>RE K T H S ρ σ∧∀p xs H',aG H H'→H p=none→H' p=some (.lst xs)→aD K T (er H' p) S ds xs→Q (.ref p) H'
end
section
variable {K:so}{T:Tx}{H H':Hp}{S S':Addr→Prop}{ρ:List Sl}{σ:L2.St}
theorem YH.same(k:aG H H'){s:Sl}{o:Option (Option V)}(h:YH K T H S s o):YH K T H' S s o:=by
 cases s with
 |un=>trivial
 |im d=>obtain⟨v,e,r⟩:=h;exact⟨v,e,r.same k⟩
 |mu ds=>obtain⟨p,xs,e,n,q,r⟩:=h;exact⟨p,xs,e,n,k _ _ q,r.gen (aI.mk (fun _ z=>z) fun b o _=>k b o)⟩
theorem RE.same(k:aG H H')(h:RE K T H S ρ σ):RE K T H' S ρ σ:=
 ⟨fun a z=>let ⟨o,e⟩:=h.dom a z;⟨o,k a o e⟩,h.len,fun i s e=>(h.at_ i s e).same k⟩
theorem RE.nS(h:RE K T H S ρ σ){a:Addr}(e:H a=none):¬S a:=fun z=>by
 obtain⟨o,q⟩:=h.dom a z;rw[e]at q;cases q
end
theorem PE.mono{X:Cx}{e:Expr}{t t':TE}(h:PE X e t)(m:∀σ H Q,t' σ H Q→t σ H Q):PE X e t':=fun pins s σ H Q I hw=>h pins s σ H Q I (m σ H Q hw)
theorem PT.mono{X:Cx}{e:Expr}{t t':TT}(h:PT X e t)(m:∀σ H Q,t' σ H Q→t σ H Q):PT X e t':=fun pins s σ H Q I hw=>h pins s σ H Q I (m σ H Q hw)
theorem PW.mono{X:Cx}{e:Expr}{t t':TT}(h:PW X e t)(m:∀σ H Q,t' σ H Q→t σ H Q):PW X e t':=fun wh pins s σ H Q I hw=>h wh pins s σ H Q I (m σ H Q hw)
theorem PA.mono{X:Cx}{e:List Expr}{t t':TA}(h:PA X e t)(m:∀σ H Q,t' σ H Q→t σ H Q):PA X e t':=fun pos pins s σ H Q I hw=>h pos pins s σ H Q I (m σ H Q hw)
theorem aG.upd{H:Hp}{p:Addr}{o:HO}(h:H p=none):aG H (upd H p o):=fun b u e=>by rw[aQ (bG e h)];exact e
mutual
noncomputable def py:D→PyData
 |.non=>.none
 |.bl b=>.bool b
 |.int i=>.int i
 |.str x=>.str x
 |.lst xs=>.list (bx xs)
 |.tup xs=>.tuple (bx xs)
 |.obj _ _=>.none
 |.exc _=>.none
 |.dct _=>.none
 |.frz _=>.none
noncomputable def bx:List D→List PyData
 |[]=>[]
 |d::r=>py d::bx r
end
theorem dJ{n:Nat}(h:∀d,flat n d=true→(py d).canLay0=true):∀ds:List D,ds.all (flat n)=true→PyData.canLayAll0 (bx ds)=true
 |[],_=>by simp[bx,PyData.canLayAll0]
 |d::ds,e=>by
  rw[all_cons,ow]at e;simp only[bx,PyData.canLayAll0,ow];exact⟨h d e.1,dJ h ds e.2⟩
theorem canLay:∀(n:Nat) (d:D),flat n d=true→(py d).canLay0=true
 |n,.non,_=>by simp[py,PyData.canLay0]
 |n,.bl _,_=>by simp[py,PyData.canLay0]
 |n,.int _,_=>by simp[py,PyData.canLay0]
 |n,.str x,h=>by
  have e:okS x=true:=by cases n<;>simpa [flat] using h
  simp only[py,PyData.canLay0];exact e
 | 0,.lst _,h=>by simp[flat]at h
 | 0,.tup _,h=>by simp[flat]at h
 |n+1,.lst xs,h=>by
  simp only[py,PyData.canLay0];exact dJ (canLay n) xs (by simpa [flat] using h)
 |n+1,.tup xs,h=>by
  simp only[py,PyData.canLay0];exact dJ (canLay n) xs (by simpa [flat] using h)
 |n,.obj _ _,h=>by cases n<;>simp[flat]at h
 |n,.exc _,h=>by cases n<;>simp[flat]at h
 |n,.dct _,h=>by cases n<;>simp[flat]at h
 |n,.frz _,h=>by cases n<;>simp[flat]at h
theorem mX{n:Nat}(h:∀d,flat n d=true→(py d).depth≤n):∀ds:List D,ds.all (flat n)=true→PyData.depthAll (bx ds)≤n
 |[],_=>by simp[bx,PyData.depthAll]
 |d::ds,e=>by
  rw[all_cons,ow]at e;simp only[bx,PyData.depthAll];exact Nat.max_le.mpr ⟨h d e.1,mX h ds e.2⟩
theorem qJ:∀(n:Nat) (d:D),flat n d=true→(py d).depth≤n
 |n,.non,_=>by simp[py,PyData.depth]
 |n,.bl _,_=>by simp[py,PyData.depth]
 |n,.int _,_=>by simp[py,PyData.depth]
 |n,.str x,h=>by simp[py,PyData.depth]
 | 0,.lst _,h=>by simp[flat]at h
 | 0,.tup _,h=>by simp[flat]at h
 |n+1,.lst xs,h=>by
  simp only[py,PyData.depth];exact Nat.succ_le_succ (mX (qJ n) xs (by simpa [flat] using h))
 |n+1,.tup xs,h=>by
  simp only[py,PyData.depth];exact Nat.succ_le_succ (mX (qJ n) xs (by simpa [flat] using h))
 |n,.obj _ _,h=>by simp[py,PyData.depth]
 |n,.exc _,h=>by simp[py,PyData.depth]
 |n,.dct _,h=>by simp[py,PyData.depth]
 |n,.frz _,h=>by simp[py,PyData.depth]
theorem FD{n:Nat}(h:∀d e,flat n d=true→flat n e=true→cg d e=PyData.eqv (py d) (py e)):∀ds es:List D,ds.all (flat n)=true→es.all (flat n)=true→rB ds es=PyData.eqvAll (bx ds) (bx es)
 |[],[],_,_=>by simp[rB,bx,PyData.eqvAll]
 |[],_::_,_,_=>by simp[rB,bx,PyData.eqvAll]
 |_::_,[],_,_=>by simp[rB,bx,PyData.eqvAll]
 |d::ds,e::es,a,b=>by
  rw[all_cons,ow]at a b;simp only[rB,bx,PyData.eqvAll];rw[h d e a.1 b.1,FD h ds es a.2 b.2]
theorem vW:∀(n:Nat) (d e:D),flat n d=true→flat n e=true→cg d e=PyData.eqv (py d) (py e)
 | 0,d,e,a,b=>by
  cases d<;>cases e<;>first|(simp[flat]at a;done)|(simp[flat]at b;done)|simp[cg,py,PyData.eqv]
 |n+1,d,e,a,b=>by
  cases d<;>cases e<;>first
   | (simp[flat]at a;done)
   | (simp[flat]at b;done)
   | (simp only[cg,py,PyData.eqv];exact FD (vW n) _ _ (by simpa [flat] using a) (by simpa [flat] using b))
   |simp[cg,py,PyData.eqv]
section
variable {X:Cx}{T:Tx}{pins:sv}{σ:L2.St}{H:Hp}{s:Shared}{S:Addr→Prop}
theorem mD{n:Nat}(h:∀d v u,flat n d=true→Rep X.K T H S d v→RelV v u→∃as,Reads s.heap u (py d) as) :
  ∀(ds:List D) (xs:List V) (us:List Value),ds.all (flat n)=true→aD X.K T H S ds xs→aR xs us→∃as,ReadsAll s.heap us (bx ds) as
 |[],xs,us,_,r,v=>by
  unfold aD at r;subst r;cases v;exact⟨_,.nil⟩
 |d::ds,xs,us,e,r,v=>by
  rw[all_cons,ow]at e;unfold aD at r;obtain⟨x,q,rfl,r1,r2⟩:=r;cases v with
  |cons v1 v2 =>
   obtain⟨as,h1⟩:=h d x _ e.1 r1 v1;obtain⟨bs,h2⟩:=mD h ds q _ e.2 r2 v2;exact⟨_,.cons h1 h2⟩
theorem dZ(I:Inv X pins σ H s):∀(n:Nat) (d:D) (v:V) (u:Value),flat n d=true→Rep X.K T H S d v→RelV v u→∃as,Reads s.heap u (py d) as
 |n,.non,v,u,_,r,q=>by
  unfold Rep at r;subst r;cases q;exact⟨_,.none⟩
 |n,.bl b,v,u,_,r,q=>by
  unfold Rep at r;subst r;cases q;exact⟨_,.bool b⟩
 |n,.int i,v,u,_,r,q=>by
  unfold Rep at r;subst r;obtain⟨t,rfl⟩:=q;exact⟨_,.int i t⟩
 |n,.str x,v,u,_,r,q=>by
  unfold Rep at r;subst r;obtain⟨t,rfl⟩:=q;exact⟨_,.str x t⟩
 | 0,.lst _,_,_,h,_,_=>by simp[flat]at h
 | 0,.tup _,_,_,h,_,_=>by simp[flat]at h
 |n+1,.lst ds,v,u,h,r,q=>by
  unfold Rep at r;obtain⟨a,xs,rfl,_,e,r⟩:=r;cases q;obtain⟨its,rv,⟨o,k,ho,hc,hd,hs⟩,_⟩:=I.list (SqL.of e);obtain⟨as,ra⟩:=mD (dZ I n) ds xs its (by simpa [flat] using h) r rv
  simp only[py];exact⟨_,.list ho hc hs (by simpa using ra)⟩
 |n+1,.tup ds,v,u,h,r,q=>by
  unfold Rep at r;obtain⟨a,xs,rfl,_,e,r⟩:=r;cases q;obtain⟨its,rv,⟨o,ho,hc,k,hs⟩,_⟩:=I.tuple e;obtain⟨as,ra⟩:=mD (dZ I n) ds xs its (by simpa [flat] using h) r rv
  simp only[py];exact⟨_,.tuple ho hc hs (by simpa using ra)⟩
 |n,.obj _ _,_,_,h,_,_=>by cases n<;>simp[flat]at h
 |n,.exc _,_,_,h,_,_=>by cases n<;>simp[flat]at h
 |n,.dct _,_,_,h,_,_=>by cases n<;>simp[flat]at h
 |n,.frz _,_,_,h,_,_=>by cases n<;>simp[flat]at h
end
noncomputable def rD(K:so)(T:Tx)(S:Addr→Prop)(o:O2):R2:=fun x y H Q =>
 ∃a b d,(∀a,S a→∃o,H a=some o)∧Rep K T H S a x∧Rep K T H S b y∧aj o a b=some d∧∀v H',aG H H'→Rep K T H' S d v→Q v H'
theorem iM:big≤sizeLine:=by rw[sizeLine_eq];decide
section
variable {X:Cx}{T:Tx}{S:Addr→Prop}
theorem xA{K:so}{H:Hp}{p:Addr}{ds:List D}{xs:List V}(dom:∀a,S a→∃o,H a=some o)(hp:H p=none)(r:aD K T H S ds xs):Rep K T (upd H p (.lst xs)) S (.lst ds) (.ref p):=by
 unfold Rep;exact⟨p,xs,rfl,fun z=>(by obtain⟨o,e⟩:=dom p z;rw[hp]at e;cases e),aV,r.same (aG.upd hp)⟩
theorem eW{K:so}{H:Hp}{p:Addr}{ds:List D}{xs:List V}(dom:∀a,S a→∃o,H a=some o)(hp:H p=none)(r:aD K T H S ds xs):Rep K T (upd H p (.tup xs)) S (.tup ds) (.ref p):=by
 unfold Rep;exact⟨p,xs,rfl,fun z=>(by obtain⟨o,e⟩:=dom p z;rw[hp]at e;cases e),SqT.of aV,r.same (aG.upd hp)⟩
theorem OS{prog:sr}{w:World}{A:Around}{E:su}{s:Shared}{t b:Addr}{ws:List Value}{Q:su}(ht:IsTup s.heap t (#[]:Array Value))(hb:IsTup s.heap b ws.toArray)
  (h1:Q (.ref b) s) (hsz:ws.length≤sizeLine):wpAny (model prog w) A (binaryOp .Add (.ref t) (.ref b)) Q E s:=by
 obtain⟨⟨cls,dd,data,sl⟩,ho,hc,n,hd⟩:=id ht;obtain⟨⟨cls2,dd2,data2,jv⟩,fi,fk,n2,hd2⟩:=id hb;simp only at hc hd fk hd2;subst hc hd fk hd2;exact concat_meets ⟨_,ho,rfl⟩ ⟨_,fi,rfl⟩ noFill_tuple_add seq_tuple_add slot_tuple_add entry_tuple_add (args_tuple_add_2 _ _)
   (tuple_addW0 t b #[] ws.toArray n n2 dd dd2 sl jv (by simp)) ⟨ho,fi,h1⟩
theorem VD:au X (binaryOp .Add) (rD X.K T S .add):=by
 rintro pins s σ H x y v u Q I rx ry ⟨a,b,d,dom,ra,rb,e,q⟩;simp only[aj,VJ]at e;split at e
 ·rename_i i j;unfold Rep at ra rb;cases e;exact aBO pins s σ H x y v u Q I rx ry ⟨i,j,ra,rb,q _ H (aG.refl H) (by unfold Rep;rfl)⟩
 ·rename_i i j;unfold Rep at ra rb;split at e
  ·rename_i hz;cases e;exact AC pins s σ H x y v u Q I rx ry ⟨i,j,ra,rb,p9 hz iM,q _ H (aG.refl H) (by unfold Rep;rfl)⟩
  ·cases e
 ·rename_i as bs;unfold Rep at ra rb;obtain⟨l,xs,ex,_,e1,r1⟩:=ra;obtain⟨b,ys,ey,_,e2,r2⟩:=rb;split at e
  ·rename_i hz;cases e;refine LV pins s σ H x y v u Q I rx ry ⟨l,b,xs,ys,ex,ey,e1,e2,?_,fun p hp=>q _ _ (aG.upd hp) (xA dom hp (r1.app r2))⟩
   rw[←r1.len,←r2.len];exact p9 hz iM
  ·cases e
 ·rename_i as bs;have ra':=ra
  have rb':=rb
  unfold Rep at ra rb;obtain⟨l,xs,ex,_,e1,r1⟩:=ra;obtain⟨b,ys,ey,_,e2,r2⟩:=rb;split at e
  ·rename_i hz;cases e;have hz':xs.length+ys.length≤sizeLine:=by rw[←r1.len,←r2.len];exact p9 hz iM
   by_cases hx:xs=[]
   ·subst hx ex ey;cases rx;cases ry;have ea:as=[]:=qa.mp r1.len
    subst ea;obtain⟨its,v1,p1,_⟩:=I.tuple e1;obtain⟨cm,v2,p2,z2⟩:=I.tuple e2;cases v1;exact OS p1 p2 ⟨.ref b,H,I,rfl,q _ H (aG.refl H) (by simpa using rb')⟩ (by rw[←v2.length];exact z2)
   ·refine UW pins s σ H x y v u Q I rx ry ⟨l,b,xs,ys,ex,ey,e1,e2,hx,hz',fun hy=>?_,fun hy p hp=>q _ _ (aG.upd hp) (eW dom hp (r1.app r2))⟩
    subst hy;have eb:bs=[]:=qa.mp r2.len
    subst eb;rw[←ex];exact q _ H (aG.refl H) (by simpa using ra')
  ·cases e
 ·cases e
theorem UY:au X (binaryOp .Sub) (rD X.K T S .sub):=by
 rintro pins s σ H x y v u Q I rx ry ⟨a,b,d,dom,ra,rb,e,q⟩;simp only[aj,aHc]at e;split at e
 ·rename_i i j;unfold Rep at ra rb;cases e;exact aBJ pins s σ H x y v u Q I rx ry ⟨i,j,ra,rb,q _ H (aG.refl H) (by unfold Rep;rfl)⟩
 ·cases e
theorem VA:au X (binaryOp .Mult) (rD X.K T S .mul):=by
 rintro pins s σ H x y v u Q I rx ry ⟨a,b,d,dom,ra,rb,e,q⟩;simp only[aj,aHe]at e;split at e
 ·rename_i i j;unfold Rep at ra rb;split at e
  ·rename_i hz;cases e;exact aBL pins s σ H x y v u Q I rx ry ⟨i,j,ra,rb,hz,q _ H (aG.refl H) (by unfold Rep;rfl)⟩
  ·cases e
 ·cases e
theorem LW:au X (binaryOp .FloorDiv) (rD X.K T S .fdiv):=by
 rintro pins s σ H x y v u Q I rx ry ⟨a,b,d,dom,ra,rb,e,q⟩;simp only[aj,oDiv]at e;split at e
 ·rename_i i j;unfold Rep at ra rb;split at e
  ·rename_i hz;cases e;exact UV pins s σ H x y v u Q I rx ry ⟨i,j,ra,rb,hz,q _ H (aG.refl H) (by unfold Rep;rfl)⟩
  ·cases e
 ·cases e
theorem VB:au X (binaryOp .Mod) (rD X.K T S .mod):=by
 rintro pins s σ H x y v u Q I rx ry ⟨a,b,d,dom,ra,rb,e,q⟩;simp only[aj,oMod]at e;split at e
 ·rename_i i j;unfold Rep at ra rb;split at e
  ·rename_i hz;cases e;exact aBM pins s σ H x y v u Q I rx ry ⟨i,j,ra,rb,hz,q _ H (aG.refl H) (by unfold Rep;rfl)⟩
  ·cases e
 ·cases e
theorem UZ:au X (binaryOp .Pow) (rD X.K T S .pow):=by
 rintro pins s σ H x y v u Q I rx ry ⟨a,b,d,dom,ra,rb,e,q⟩;simp only[aj,aHd]at e;split at e
 ·rename_i i j;unfold Rep at ra rb;split at e
  ·rename_i hz;cases e;exact aBK pins s σ H x y v u Q I rx ry ⟨i,j,ra,rb,⟨hz.1,by omega,hz.2.2⟩,q _ H (aG.refl H) (by unfold Rep;rfl)⟩
  ·cases e
 ·cases e
theorem VC{op:Operator}{o:O2}(h:UX op=some o):au X (binaryOp op) (rD X.K T S o):=by
 cases op<;>simp only[UX]at h<;>first|(cases h;done)|(cases h;first|exact VD|exact UY|exact VA|exact LW|exact VB|exact UZ)
theorem bZ{K:so}{H:Hp}{b:Bool}:Rep K T H S (.bl b) (.bl b):=by unfold Rep;rfl
theorem aBQ:au X (compareOp .Lt) (rD X.K T S .lt):=by
 rintro pins s σ H x y v u Q I rx ry ⟨a,b,d,dom,ra,rb,e,q⟩;simp only[aj,oLt]at e;split at e
 ·rename_i i j;unfold Rep at ra rb;cases e;exact aGp pins s σ H x y v u Q I rx ry ⟨i,j,ra,rb,q _ H (aG.refl H) bZ⟩
 ·cases e
theorem aBR:au X (compareOp .LtE) (rD X.K T S .le):=by
 rintro pins s σ H x y v u Q I rx ry ⟨a,b,d,dom,ra,rb,e,q⟩;simp only[aj,oLe]at e;split at e
 ·rename_i i j;unfold Rep at ra rb;cases e;exact aGq pins s σ H x y v u Q I rx ry ⟨i,j,ra,rb,q _ H (aG.refl H) bZ⟩
 ·cases e
theorem aBU:au X (compareOp .Gt) (rD X.K T S .gt):=by
 rintro pins s σ H x y v u Q I rx ry ⟨a,b,d,dom,ra,rb,e,q⟩;simp only[aj,oGt]at e;split at e
 ·rename_i i j;unfold Rep at ra rb;cases e;exact aGr pins s σ H x y v u Q I rx ry ⟨i,j,ra,rb,q _ H (aG.refl H) bZ⟩
 ·cases e
theorem aBV:au X (compareOp .GtE) (rD X.K T S .ge):=by
 rintro pins s σ H x y v u Q I rx ry ⟨a,b,d,dom,ra,rb,e,q⟩;simp only[aj,oGe]at e;split at e
 ·rename_i i j;unfold Rep at ra rb;cases e;exact aGs pins s σ H x y v u Q I rx ry ⟨i,j,ra,rb,q _ H (aG.refl H) bZ⟩
 ·cases e
theorem YX{A:Around}(hu:A.units+64<cLine){d e:D}(hd:plain d=true):A.units+min (py d).depth (py e).depth<cLine:=by
 have h1:=qJ 8 d hd
 have h2:min (py d).depth (py e).depth≤(py d).depth:=Nat.min_le_left _ _
 omega
theorem aBW(hu:X.A.units+64<cLine):au X (compareOp .Eq) (rD X.K T S .eq):=by
 rintro pins s σ H x y v u Q I rx ry ⟨a,b,d,dom,ra,rb,e,q⟩;simp only[aj,oEq]at e;split at e
 ·rename_i hp;rw[ow]at hp;cases e;obtain⟨as,h1⟩:=dZ I 8 a x v hp.1 ra rx;obtain⟨bs,h2⟩:=dZ I 8 b y u hp.2 rb ry;refine SeqAt.compareEq_reads h1 h2 (canLay 8 a hp.1) (canLay 8 b hp.2) (YX hu hp.1) ⟨.bl _,H,I,rfl,?_⟩;rw[←vW 8 a b hp.1 hp.2];exact q _ H (aG.refl H) bZ
 ·cases e
theorem aBP(hu:X.A.units+64<cLine):au X (compareOp .NotEq) (rD X.K T S .ne):=by
 rintro pins s σ H x y v u Q I rx ry ⟨a,b,d,dom,ra,rb,e,q⟩;simp only[aj,oNe]at e;split at e
 ·rename_i hp;rw[ow]at hp;cases e;obtain⟨as,h1⟩:=dZ I 8 a x v hp.1 ra rx;obtain⟨bs,h2⟩:=dZ I 8 b y u hp.2 rb ry;refine SeqAt.compareNe_reads h1 h2 (canLay 8 a hp.1) (canLay 8 b hp.2) (YX hu hp.1) ⟨.bl _,H,I,rfl,?_⟩;rw[←vW 8 a b hp.1 hp.2];exact q _ H (aG.refl H) bZ
 ·cases e
theorem qU(a:D)(ha:plain a=true):∀ds:List D,ds.all plain=true→((bx ds).any fun y=>PyData.eqv y (py a))=ds.any fun y=>cg y a
 |[],_=>by simp[bx]
 |d::ds,h=>by
  rw[all_cons,ow]at h;simp only[bx,any_cons];rw[qU a ha ds h.2,vW 8 d a h.1 ha]
theorem aBT(hu:X.A.units+64<cLine):au X (compareOp .In) (rD X.K T S .isin):=by
 rintro pins s σ H x y v u Q I rx ry ⟨a,b,d,dom,ra,rb,e,q⟩;have go:∀(ds:List D),plain a=true→ds.all plain=true→X.A.units+1+min (PyData.depthAll (bx ds)) (py a).depth<cLine:=fun ds h1 h2=>by
  have h3:=qJ 8 a h1
  have h4:min (PyData.depthAll (bx ds)) (py a).depth≤(py a).depth:=Nat.min_le_right _ _
  omega
 simp only[aj,oIn]at e;split at e
 ·rename_i ds;split at e
  ·rename_i hp;rw[ow]at hp;cases e;obtain⟨as,h1⟩:=dZ I 8 a x v hp.1 ra rx;obtain⟨bs,h2⟩:=dZ I 9 (.lst ds) y u (by show ds.all (flat 8)=true;exact hp.2) rb ry
   simp only[py]at h2;refine SeqAt.in_list_reads h2 h1 (dJ (canLay 8) ds hp.2) (canLay 8 a hp.1) (go ds hp.1 hp.2) ⟨.bl _,H,I,rfl,?_⟩;rw[qU a hp.1 ds hp.2];exact q _ H (aG.refl H) bZ
  ·cases e
 ·rename_i ds;split at e
  ·rename_i hp;rw[ow]at hp;cases e;obtain⟨as,h1⟩:=dZ I 8 a x v hp.1 ra rx;obtain⟨bs,h2⟩:=dZ I 9 (.tup ds) y u (by show ds.all (flat 8)=true;exact hp.2) rb ry
   simp only[py]at h2;refine SeqAt.in_tuple_reads h2 h1 (dJ (canLay 8) ds hp.2) (canLay 8 a hp.1) (go ds hp.1 hp.2) ⟨.bl _,H,I,rfl,?_⟩;rw[qU a hp.1 ds hp.2];exact q _ H (aG.refl H) bZ
  ·cases e
 ·cases e
theorem HJ(hu:X.A.units+64<cLine):au X (compareOp .NotIn) (rD X.K T S .notin):=by
 rintro pins s σ H x y v u Q I rx ry ⟨a,b,d,dom,ra,rb,e,q⟩;have go:∀(ds:List D),plain a=true→ds.all plain=true→X.A.units+1+min (PyData.depthAll (bx ds)) (py a).depth<cLine:=fun ds h1 h2=>by
  have h3:=qJ 8 a h1
  have h4:min (PyData.depthAll (bx ds)) (py a).depth≤(py a).depth:=Nat.min_le_right _ _
  omega
 simp only[aj,MF]at e;split at e
 ·rename_i ds;split at e
  ·rename_i hp;rw[ow]at hp;cases e;obtain⟨as,h1⟩:=dZ I 8 a x v hp.1 ra rx;obtain⟨bs,h2⟩:=dZ I 9 (.lst ds) y u (by show ds.all (flat 8)=true;exact hp.2) rb ry
   simp only[py]at h2;refine SeqAt.notIn_list_reads h2 h1 (dJ (canLay 8) ds hp.2) (canLay 8 a hp.1) (go ds hp.1 hp.2) ⟨.bl _,H,I,rfl,?_⟩;rw[qU a hp.1 ds hp.2];exact q _ H (aG.refl H) bZ
  ·cases e
 ·rename_i ds;split at e
  ·rename_i hp;rw[ow]at hp;cases e;obtain⟨as,h1⟩:=dZ I 8 a x v hp.1 ra rx;obtain⟨bs,h2⟩:=dZ I 9 (.tup ds) y u (by show ds.all (flat 8)=true;exact hp.2) rb ry
   simp only[py]at h2;refine SeqAt.notIn_tuple_reads h2 h1 (dJ (canLay 8) ds hp.2) (canLay 8 a hp.1) (go ds hp.1 hp.2) ⟨.bl _,H,I,rfl,?_⟩;rw[qU a hp.1 ds hp.2];exact q _ H (aG.refl H) bZ
  ·cases e
 ·cases e
theorem aBS:au X (compareOp .Is) (rD X.K T S .is):=by
 rintro pins s σ H x y v u Q I rx ry ⟨a,b,d,dom,ra,rb,e,q⟩;have go:∀k,b=.non→k=decide (x=V.non)→d=.bl k→wpAny (model X.prog X.w) X.A (compareOp .Is v u) (EP X pins σ Q) X.xe s:=fun k hb hk hd=>by
  subst hb hd hk;unfold Rep at rb;exact aBN pins s σ H x y v u Q I rx ry ⟨rb,q _ H (aG.refl H) bZ⟩
 simp only[aj,oIs,isD]at e;split at e<;>simp only[qt,Option.map_none,o7,reduceCtorEq]at e
 all_goals subst e
 all_goals first
  | (unfold Rep at ra;refine go _ rfl ?_ rfl;first|(subst ra;rfl)|(obtain⟨_,_,rfl,_⟩:=ra;rfl)|(obtain⟨_,_,_,_,rfl,_⟩:=ra;rfl))
  | (unfold Rep at ra rb
     subst ra rb;cases rx;cases ry;exact is_bool ⟨.bl _,H,I,rfl,q _ H (aG.refl H) bZ⟩)
end
structure Fly (P:sr) (w:World) (l:List Env) (H:Hp) (s:Shared) (B:Heap) (a:Addr) (cls a0:Value) (H':Hp) (s':Shared):Prop where
 os:s'.os=s.os
 bare:AllBare s'.gens
 un:Un (frs l) [] H H' s.heap s'.heap
 hok:HOk P w H' s'.heap
 fly:Heap.FlyingW B l a cls a0 s'.heap
 new:H' a=none
 old:s.heap.get? a=none
 frf:∀b∈frs l,H' b=none
 cov:∀b o,s'.heap.get? b=some o→b∉frs l→((∃u,H' b=some u)∨∃o',s.heap.get? b=some o')→B.get? b=some o
noncomputable def dN(P:sr)(w:World):ao:=fun l H s E e s'=>∃a cls a0 B H',e=.ref a∧Fly P w l H s B a cls a0 H' s'∧E cls none H'
theorem ZP{P:sr}{w:World}:∀outer H s e s',dN P w outer H s E0 e s'→False:=fun _ _ _ _ _ ⟨_,_,_,_,_,_,_,h⟩=>h
section
variable {P:sr}{w:World}{l:List Env}{H H':Hp}{s s':Shared}{B:Heap}{a:Addr}{cls a0:Value}
theorem mM{h:Heap}{b:Addr}:∀{o:HO},bV P w H h b o→∃u,h.get? b=some u:=by
 intro o x;cases o with
 |lst xs=>obtain⟨_,_,_,_,e⟩:=x;exact⟨_,e⟩
 |tup xs=>obtain⟨_,_,_,ob,e,_⟩:=x;exact⟨_,e⟩
 |dK kvs=>obtain⟨_,_,_,_,o,_,_,e,_⟩:=x;exact⟨_,e⟩
 |dT kvs=>obtain⟨_,_,_,_,o,_,_,e,_⟩:=x;exact⟨_,e⟩
 |set S n=>obtain⟨o,_,_,_,e,_⟩:=x;exact⟨_,e⟩
 |ins C dx fs=>obtain⟨_,_,_,e,_⟩:=x;exact⟨_,e⟩
 |own y=>obtain⟨_,e⟩:=x;exact⟨_,e⟩
 |xd fs=>obtain⟨_,⟨_,_,_,e,_⟩,_⟩:=x;exact⟨_,e⟩
 |rng lo hi=>obtain⟨_,_,_,e⟩:=x;exact⟨_,e⟩
 |frz ob u=>obtain⟨e,_⟩:=x;exact⟨_,e⟩
 |tbl ps=>exact⟨_,(show h.get? b=some _ from x)⟩
 |met f y=>exact⟨_,(show h.get? b=some _ from x)⟩
 |ext φ=>obtain⟨_,⟨_,e⟩,_⟩:=x;exact⟨_,e⟩
theorem BV{fs:List Addr}{h0 h1 h2:Heap}(u:Un fs [] H H' h0 h1)(keep:∀b o,h1.get? b=some o→(∃o',h0.get? b=some o')→b∉fs→h2.get? b=some o)
  (slot:∀b o,h1.get? b=some o→b∈fs→∃sl,h2.get? b=some { o with slots:=sl }):Un fs [] H H' h0 h2 where
 keep b o e n hb hx:=keep b o (u.keep b o e n hb hx) ⟨o,e⟩ hb
 slot b o e n hb hx:=by
  obtain⟨sl,e1⟩:=u.slot b o e n hb hx;obtain⟨jv,e2⟩:=slot b _ e1 hb;exact⟨jv,e2⟩
 free:=u.free
 there b o e hx:=by
  obtain⟨o',e1⟩:=u.there b o e hx
  by_cases hb:b∈fs
  ·obtain⟨sl,e2⟩:=slot b _ e1 hb;exact⟨_,e2⟩
  ·exact⟨_,keep b o' e1 ⟨o,e⟩ hb⟩
 tups:=u.tups
 frzs:=u.frzs
 tbls:=u.tbls
theorem yG{h1 h2:Heap}(ok:HOk P w H h1)(keep:∀b o u,H b=some u→h1.get? b=some o→h2.get? b=some o):HOk P w H h2:=fun b u e =>
 (ok b u e).stay (fun c v hc q=>by
  rcases hc with rfl|hc
  ·exact keep _ v u e q
  ·exact keep _ v _ hc q) (fun _ q=>q) fun _ _ q=>q
end
section
variable {X:Cx}{pins:sv}{σ:L2.St}{H H':Hp}{s s':Shared}{B:Heap}{a:Addr}{cls a0:Value}
theorem Fly.inv(I:Inv X pins σ H s)(F:Fly X.prog X.w X.stack H s B a cls a0 H' s'):Inv X pins σ H' s':=I.call' F.os F.un F.hok F.bare fun b z=>absurd z (by simp)
theorem Fly.up{env:Env}{outer:List Env}(I:Inv X pins σ H s)(eg:X.stack=env::outer)(jd:X.outer=outer)(hex:X.ex=[])(ar:env.frame=some X.env.locals)(F:Fly X.prog X.w X.stack H s B a cls a0 H' s'){h2:Heap}(fl:Heap.FlyingW B outer a cls a0 h2)(up:s'.heap.UpToSlots h2) :
  Fly X.prog X.w outer X.H₀ X.s₀ B a cls a0 H' { s' with heap:=h2 }:=by
 have J:=F.inv I
 have jm:frs X.stack=X.env.locals::frs outer:=by
  rw[eg];unfold frs;rw[List.filterMap_cons,ar]
 have olds:∀b o,X.s₀.heap.get? b=some o→b≠X.env.locals:=fun b o e=>qh (oz (p8 e) I.ok.above)
 have tr:∀b u,H' b=some u→b∉frs X.stack:=fun b u e z=>by rw[F.frf b z]at e;cases e
 have old1:∀b o,X.s₀.heap.get? b=some o→∃o',s.heap.get? b=some o':=fun b o e=>I.base.there b o e (by rw[hex];simp)
 have ns:∀b,b∉frs outer→b≠X.env.locals→b∉frs X.stack:=fun b h1 h2 z=>by
  rw[jm]at z
  rcases pj.mp z with z|z
  ·exact h2 z
  ·exact h1 z
 have jr:Un (frs outer) [] X.H₀ H' X.s₀.heap s'.heap:=by
  have:=J.base
  rw[hex]at this;unfold Cx.fs at this;rw[jd]at this;exact this
 refine⟨J.os,F.bare,BV jr (fun b o e t nb=>?_) (fun b o e hb=>?_),yG F.hok fun b o u e q=>fl.1 b o (F.cov b o q (tr b u e) (.inl ⟨u,e⟩)),fl,F.new,?_,fun b hb=>F.frf b (by rw[jm];exact oq _ hb),fun b o e nb t=>?_⟩
 ·obtain⟨o',e'⟩:=t;exact fl.1 b o (F.cov b o e (ns b nb (olds b o' e')) (.inr (old1 b o' e')))
 ·obtain⟨_,o2,e2,nf⟩:=F.fly.2.2.1.mem (show b∈frs X.stack by rw[jm];exact oq _ hb)
  rw[e]at e2;cases e2;exact up b o e nf
 ·cases e:X.s₀.heap.get? a with
  |none=>rfl
  |some o =>
   obtain⟨o',e'⟩:=old1 a o e;rw[F.old]at e';cases e'
 ·have e:h2.get? b=some o:=e
  rcases t with ⟨u,e1⟩|⟨o',e1⟩
  ·obtain⟨o1,q⟩:=mM (F.hok b u e1);have c:=F.cov b o1 q (tr b u e1) (.inl ⟨u,e1⟩)
   have:=fl.1 b o1 c
   rw[e]at this;cases this;exact c
  ·obtain⟨o1,q⟩:=jr.there b o' e1 (by simp)
   have c:=F.cov b o1 q (ns b nb (olds b o' e1)) (.inr (old1 b o' e1))
   have:=fl.1 b o1 c
   rw[e]at this;cases this;exact c
end
noncomputable def jn:List Value:=[.type "ValueError",.type "Exception",.type "BaseException",.type "object"]
noncomputable def pO(K:so)(C:Addr)(v:Value):Bool:=match K.lookup C with
 |some ⟨_,_,.cls cd,_⟩=>cd.mro.contains v
 |_=>false
theorem aDE{K:so}{C:Addr}(q:excIn K C jn "ValueError.__new__" = true):∃nm qn N bs bm hdct sn sub ab col dd k0 k1 k2 k3 k5,
  K.lookup C=some (excClassObj nm qn C N bs bm hdct sn sub ab col dd k0 k1 k2 k3 k5 "ValueError.__new__")∧PySem.W.tailIn K jn bm=true∧PySem.W.nsOkIn K N=true∧nsIn K N "__init__" = some none∧∀v,pO K C v=(Value.ref C::bm).contains v:=by
 unfold excIn at q;split at q
 ·rename_i dd cd sl ho;split at q
  ·rename_i C' bm k0 k1 k2 k3 n k5 hm hs;simp only[ow,qd,Bool.not_eq_true']at q;obtain⟨⟨⟨⟨⟨rfl,rfl⟩,hdel⟩,ht⟩,hok⟩,hni⟩:=q;obtain⟨nm,bs,mro,ns,qn,hd,sn,sub,ab,col,del⟩:=cd;dsimp only at hm hdel hok hni;subst hm hdel;have cu:sl=#[k0,k1,k2,k3,some (.builtin "ValueError.__new__"),k5]:=by
    obtain⟨l⟩:=sl;simp only at hs;rw[hs]
   subst cu;refine⟨nm,qn,ns,bs,bm,hd,sn,sub,ab,col,dd,k0,k1,k2,k3,k5,ho,ht,hok,hni,fun v=>?_⟩
   unfold pO;rw[ho]
  ·cases q
 ·cases q
theorem xI{X:Cx}{x m:Str}{j:Nat}{p p' q pos:Pos}{C:Addr}{W:Hp→Prop}(hc:X.calm=true)(hg:Gl X x)(gu:(x == ("__debug__":Str))=false)(hm:X.mg x=some (.ref C))(hx:excIn X.K C jn "ValueError.__new__" = true)
  (hw:∀pins σ H s h' e vs,Inv X pins σ H s→Heap.MadeExcOf s.heap h' e (.ref C) vs→W H→X.xe (.ref e) { s with heap:=h' }) :
  PS X (.Raise (some (.Call (.Name x p) [.Constant (.str m) j p'] [] q)) none pos) (fun D σ H=>W H):=by
 intro pins s σ H D I hW;obtain⟨nm,qn,N,bs,bm,hdct,sn,sub,ab,col,dd,k0,k1,k2,k3,k5,ho,ht,hok,hni,_⟩:=aDE hx;have T:OwnTail s.heap jn bm:=PySem.W.tail_of_in I.kIn ht
 have hN:s.heap.Ns N (s.heap.nsMap N):=.of_isNs (PySem.W.isNs_of_in I.kIn hok)
 have hni':(s.heap.nsMap N) "__init__" = none:=PySem.W.nsMap_none_of_in I.kIn hok hni
 have hC:=I.kIn _ _ ho
 refine wpAny_Raise_call_subT (C:=C) (nm:=nm) (q:=qn) (N:=N) (bs:=bs) (bm:=bm) (hdct:=hdct) (sn:=sn) (sub:=sub) (ab:=ab) (col:=col) (dd:=dd) (k0:=k0) (k1:=k1) (k2:=k2) (k3:=k3) (k5:=k5)
  PySem.F.excBase_ValueError (mN:=s.heap.nsMap N) (T.hasType PySem.F.excBase_ValueError.hasBase) (I.ok.hd hc) rfl hni' (gE I hg hm ⟨rfl,?_⟩ gu)
 exact Calls.evalArgs_plain (Calls.spliced_cons (Calls.Constant_str (k:=j) (pos:=p') (Calls.spliced_nil ⟨rfl,by show 1≤sizeLine;rw[sizeLine_eq];decide,hC,hN,T,fun h' e hm=>hw pins σ H { s with toks:=s.toks+1 } h' e _ (I.tok _) hm hW⟩)))
section
variable {P:sr}{w:World}{K:so}{mg:t5}{base:Heap}{N:List Str}{qual:Str}{sc:Scope}{f:Addr}{cd:Value}{A:Around}{outer:List Env}{s:Shared}{H:Hp}{E:XK}
theorem pS{pins:sv}{σ:L2.St}{H1:Hp}{s1:Shared}{h':Heap}{e:Addr}{cls:Value}{vs:List Value}(I:Inv (kM (dN P w) P w K mg base N qual sc f cd A outer s H E) pins σ H1 s1)(hm:Heap.MadeExcOf s1.heap h' e cls vs)(hE:E cls none H1) :
  (kM (dN P w) P w K mg base N qual sc f cd A outer s H E).xe (.ref e) { s1 with heap:=h' }:=by
 have eg:=I.stack
 have ar:∀b∈frs (envOfC qual sc s.heap.objs.size f cd::outer),H1 b=none:=I.stkFree
 have jm:frs (envOfC qual sc s.heap.objs.size f cd::outer)=s.heap.objs.size::frs outer:=rfl
 have tr:∀b u,H1 b=some u→b∉frs (envOfC qual sc s.heap.objs.size f cd::outer):=fun b u e z=>by rw[ar b z]at e;cases e
 have ns:∀b o,s.heap.get? b=some o→b∉frs outer→b∉frs (envOfC qual sc s.heap.objs.size f cd::outer):=fun b o e h1 z=>by
  rw[jm]at z
  rcases pj.mp z with z|z
  ·exact absurd (p8 e) (by rw[z];exact ql _)
  ·exact h1 z
 have jr:Un (frs outer) [] H H1 s.heap s1.heap:=I.base
 refine wpAny_leaves_madeW (base:=hideAll s1.heap (frs (envOfC qual sc s.heap.objs.size f cd::outer))) (L:=s.heap.objs.size) (outer:=outer) I.ok.frames rfl (fun b o q=>PySem.W.of_hideAll _ q)
  (PySem.W.funFrames_hide eg fun env he b hb=>mem_filterMap.mpr ⟨env,he,hb⟩) hm fun h2 t x1 x2 x3 x4=>⟨e,cls,.ref t,hideAll s1.heap (frs (envOfC qual sc s.heap.objs.size f cd::outer)),H1,rfl,?_,hE⟩
 have inB:∀b o,s1.heap.get? b=some o→b∉frs (envOfC qual sc s.heap.objs.size f cd::outer)→(hideAll s1.heap (frs (envOfC qual sc s.heap.objs.size f cd::outer))).get? b=some o:=fun b o q n=>PySem.W.hideAll_get _ q n
 refine⟨I.os,I.bare,BV jr (fun b o e t nb=>?_) (fun b o e hb=>?_),yG I.hok fun b o u e q=>x1.1 b o (inB b o q (tr b u e)),x1,?_,?_,fun b hb=>ar b (by rw[jm];exact oq _ hb),fun b o e nb t=>?_⟩
 ·obtain⟨o',e'⟩:=t;exact x1.1 b o (inB b o e (ns b o' e' nb))
 ·obtain⟨_,o2,e2,nf⟩:=eg.mem (show b∈frs (envOfC qual sc s.heap.objs.size f cd::outer) by rw[jm];exact oq _ hb)
  rw[e]at e2;cases e2;exact x4 b o (hm.keeps b o e) nf
 ·cases q:H1 e with
  |none=>rfl
  |some u =>
   obtain⟨o,q2⟩:=mM (I.hok e u q);rw[hm.new]at q2;cases q2
 ·cases q:s.heap.get? e with
  |none=>rfl
  |some u =>
   obtain⟨o,q2⟩:=jr.there e u q (by simp)
   rw[hm.new]at q2;cases q2
 ·have e:h2.get? b=some o:=e
  rcases t with ⟨u,e1⟩|⟨o',e1⟩
  ·obtain⟨o1,q⟩:=mM (I.hok b u e1);have c:=inB b o1 q (tr b u e1)
   have:=x1.1 b o1 c
   rw[e]at this;cases this;exact c
  ·obtain⟨o1,q⟩:=jr.there b o' e1 (by simp)
   have c:=inB b o1 q (ns b o' e1 nb)
   have:=x1.1 b o1 c
   rw[e]at this;cases this;exact c
theorem CM{E1:XK}(hE:∀cls H',E1 cls none H'→E cls none H'):gP (dN P w) (kM (dN P w) P w K mg base N qual sc f cd A outer s H E) E1:=by
 rintro pins σ H1 s1 e s' I ⟨a,cls,a0,B,H',rfl,F,q⟩;exact wpAny_leaves_onW (L:=s.heap.objs.size) (outer:=outer) I.ok.frames rfl F.fly fun h2 x1 x2=>⟨a,cls,a0,B,H',rfl,Fly.up (env:=envOfC qual sc s.heap.objs.size f cd) I rfl rfl rfl rfl F x1 x2,hE _ _ q⟩
end
section
variable {X:Cx}{pins:sv}{σ:L2.St}{H H':Hp}{s s':Shared}{B:Heap}{a:Addr}{cls a0:Value}
def isExc(a C:Addr)(h:Heap):Prop:=∃o,h.get? a=some o∧o.cls=.ref C
end
section
variable {M:Model}{A:Around}{E:su}{h:Heap}{g:Array GenState}{d:Drawn}{t:Nat}{os:OsState}
variable {nm q:Str}{C N:Addr}{bs bm:List Value}{hdct:Bool}{sn:List Str}{sub:List Value}{ab:Bool}{col:Option Bool}{dd:Option Addr}{k0 k1 k2 k3 k5:Option Value}{newId:String}
variable {nm' q':Str}{L N':Addr}{bs' bm':List Value}{hdct':Bool}{sn':List Str}{sub':List Value}{ab':Bool}{col':Option Bool}{nu:Option Addr}{k0' k1' k2' k3' k5':Option Value}{newId':String}
end
section
variable {X:Cx}{pins:sv}{σ:L2.St}{H H':Hp}{s s':Shared}{B:Heap}{a C L:Addr}{a0:Value}{x:Str}{np hp:Pos}{b₀:Stmt}{suite:List Stmt}{rest:List ExceptHandler}{rt:VK}
end
structure RoomM (k:Nat) (A:Around):Prop where
 dp:A.depth+3*k+5<recursionLimit
 un:A.units+16*k+200<cLine
theorem RoomM.mono{j k:Nat}{A:Around}(r:RoomM k A)(h:j≤k):RoomM j A:=⟨by have:=r.dp;omega,by have:=r.un;omega⟩
structure FnM (P:sr) (w:World) (K:so) (mg:t5) (base:Heap) (k:Nat) (f:Addr) (fd:sq) (ps:List Str) (sp:Sp):Prop where
 len:∀vs H Q,sp vs H Q E0→vs.length=ps.length
 run:∀(A:Around) (outer:List Env) (s:Shared) (H:Hp) (args:Args) (us:List Value) (vs:List V) (Q:VK),RoomM k A→Env0 P w K mg base A outer s H→BindsTo s fd args (ps.zip us)→aR vs us→sp vs H Q E0 →
  codeAny (model P w) A (.call (.ref f) args) (CR jo outer P w H s Q E0) s
structure XcK (K:so) (C:Addr):Prop where
 ga:findIn K (.ref C) "__getattribute__" = some (some (.builtin "BaseException.__getattribute__"))
 gn:findIn K (.ref C) "__getattr__" = some none
 ha:findIn K (.ref C) "__class__" = some (some (.builtin "object.__class__"))
 hn:specialIn K (.builtin "object.__class__") "__get__" = some (some (.builtin "getset_descriptor.__get__"))
 tk:takesIn K (.builtin "object.__class__")=some true
 hm:mroIn K C (.type "object")=some true
 hb:mroIn K C (.type "BaseException")=some true
theorem XcK.cl{K:so}{C:Addr}(F:XcK K C):(PySem.W.clsIn K C).isSome=true:=by
 have h:=F.hm
 unfold mroIn at h;obtain⟨cd,h1,_⟩:=o9.mp h;rw[h1];rfl
section
open PySem.W PySem.Builtin PySem.Builtin.ObjectAttr PySem.Builtin.Getset_descriptor
variable {K:so}{x C:Addr}
theorem qG{M:Model}{h:Heap}(p:isExc x C h):Looks M h (typeOf (.ref x)) (.ref C):=by
 obtain⟨o,e,c⟩:=p;exact c ▸ (Looks.ld e).andThen .now
theorem OR{h:Heap}(k:K.In h)(z:(clsIn K C).isSome=true):(∃c d cd sl,h.get? C=some ⟨c,d,.cls cd,sl⟩)∧∀M:Model,Looks M h (isType (.ref C)) true:=by
 unfold clsIn at z;split at z
 ·rename_i c d cd sl ho;refine⟨⟨c,d,cd,sl,k _ _ ho⟩,fun M A Q E s kk q=>?_⟩
  unfold isType loadHead;exact qm (wpAny_loadPart (kk _ _ (k _ _ ho)) (qo q))
 ·cases z
theorem XM{prog:sr}{w:World}{A:Around}{R:Result→Shared→Prop}{s:Shared}{tp:Value}(F:XcK K C)(k:K.In s.heap)(p:isExc x C s.heap)(q:R (.ok (.ret (.ref C))) s) :
  codeAny (model prog w) A (.call (.builtin "getset_descriptor.__get__") ⟨[.builtin "object.__class__",.ref x,tp],[]⟩) R s:=by
 obtain⟨hp,gs,dr,tks,oss⟩:=s;have lt:Looks (model prog w) hp (typeOf (.ref x)) (.ref C):=qG p
 have lm:=looks_mroIn (M:=model prog w) k F.hm
 refine codeAny_call_builtin KF.slot_gs.plain KF.entry_gs (KF.slot_gs.check _ _ _ _ _ _ _ _ KF.type_class (KF.args_gs _ _ _) ?_);unfold Builtin.«getset_descriptor.__get__»;unfold descrGet;rw[dga_obj];refine qm (qo ?_);unfold descrGetter;unfold descrCheckInstance descrNameAndClass;unfold isInstance;simp only[KF.owner_class]
 repeat lk
 refine⟨Code.quiet_builtin _ (by decide +kernel),?_⟩
 refine codeAny_builtin KF.entry_class ?_;unfold Builtin.«object.__class__»;unfold shownTypeOf
 repeat lk
 exact q
theorem IX{prog:sr}{w:World}{A:Around}{E:su}{s:Shared}{tk:Tok}{Q:Fin→Shared→Prop}(F:XcK K C)(k:K.In s.heap)(p:isExc x C s.heap)(q:Q (.done (.ret (.ref C))) s) :
  wpAny (model prog w) A (Builtin.«object.__getattribute__» ⟨[.ref x,.str "__class__" tk],[]⟩) Q E s:=by
 obtain⟨hp,gs,dr,tks,oss⟩:=s;have lt:Looks (model prog w) hp (typeOf (.ref x)) (.ref C):=qG p
 have lf:Looks (model prog w) hp (find (.ref x) (.ref C) "__class__") (.bind (.builtin "getset_descriptor.__get__") (.builtin "object.__class__")):=
  (looks_findIn k F.ha).andThen ((looks_specialIn k F.hn).andThen ((show Looks (model prog w) hp (dataDescriptor? (some (.builtin "object.__class__")) (some (.builtin "getset_descriptor.__get__"))) (some (.builtin "getset_descriptor.__get__",.builtin "object.__class__")) from(looks_takesIn k F.tk).andThen .now).andThen (Looks.tag .now)))
 unfold Builtin.«object.__getattribute__»;refine qm (wpAny_of_eq (a:=(Value.ref x,[Value.str "__class__" tk])) (by rfl) ?_)
 refine qm (qo (qm (lt.at (qm (lf.at ?_)))));show wpAny _ _ (holding [Value.builtin "object.__class__"] (call (.builtin "getset_descriptor.__get__") [.builtin "object.__class__",.ref x,.ref C]) >>= ret) _ _ _
 exact qm (wpAny_holding (qp (wpAny_call (XM (R:=fun r s'=>match r with | .ok (.ret v)=>Q (.done (.ret v)) s' | .ok _=>False | .error e=>E e s') F k p (tp:=.ref C) q)) (fun v s' z=>qo z) fun _ _ z=>z))
theorem IZ{M:Model}{A:Around}{E:su}{s:Shared}{v:Value}{Q:Unit→Shared→Prop}(F:XcK K C)(k:K.In s.heap)(p:isExc x C s.heap)(q:Q () s) :
  wpAny M A (checkBuiltinCall "BaseException.__getattribute__" ⟨[.ref x,v],[]⟩) Q E s:=by
 obtain⟨hp,gs,dr,tks,oss⟩:=s;have lt:Looks M hp (typeOf (.ref x)) (.ref C):=qG p
 have lb:=looks_mroIn (M:=M) k F.hb
 have hk:builtinKind "BaseException.__getattribute__" = some .slot:=by decide +kernel
 have bo:splitId "BaseException.__getattribute__" = some ("BaseException","__getattribute__"):=by decide +kernel
 have har:=PySem.F.args_bexc_ga (.ref x) v
 simp only[checkBuiltinCall,hk,bo];refine qm ?_;unfold isInstance;refine qm (lt.at (lb.at ?_));simp only[pD,oo,if_false]
 repeat wp_step
 exact q
theorem XN{prog:sr}{w:World}{A:Around}{E:su}{Q:Option Value→Shared→Prop}{s:Shared}(F:XcK K C)(k:K.In s.heap)(p:isExc x C s.heap)(q:Q (some (.ref C)) { s with toks:=s.toks+1 }) :
  wpAny (model prog w) A (getAttr? (.ref x) "__class__") Q E s:=by
 obtain⟨hp,gs,dr,tks,oss⟩:=s;have lt:Looks (model prog w) hp (typeOf (.ref x)) (.ref C):=qG p
 have lg:=looks_findIn (M:=model prog w) k F.ga
 have lh:=looks_findIn (M:=model prog w) k F.gn
 have lb:=looks_mroIn (M:=model prog w) k F.hb
 have hx2:(Value.builtin "BaseException.__getattribute__" == Value.builtin "object.__getattribute__")=false:=by decide +kernel
 have hk:builtinKind "BaseException.__getattribute__" = some .slot:=by decide +kernel
 have bo:splitId "BaseException.__getattribute__" = some ("BaseException","__getattribute__"):=by decide +kernel
 unfold getAttr? getAttrBy? getAttrBy;refine qm (wpAny_mkText (qm (wpAny_attempt (wpAny_holding (qm (lt.at (qm (lg.at ?_))))))));dsimp only;rw[hx2,Bool.and_false,if_neg (by decide)]
 unfold getAttrByItsOwn hookBefore;refine qm ?_;rw[if_pos (show onTheHeap (Value.ref C)=true from rfl)]
 refine lh.at ?_;refine qm (wpAny_attempt (wpAny_holding ?_));unfold callGetattribute;rw[Bool.false_and,if_neg (by decide)]
 unfold boundAndCalled;refine qm (wpAny_of_eq (PySem.F.attrBase_ValueError.ga.bind (.ref x)) ?_);refine wpAny_call (codeAny_call_builtin PySem.F.attrBase_ValueError.ga.plain PySem.F.entry_bexc_ga ?_);refine IZ F k p ?_;refine qp (IX (Q:=fun fin s'=>fin=.done (.ret (.ref C))∧s'=⟨hp,gs,dr,tks+1,oss⟩) (E:=fun _ _=>False) F k p ⟨rfl,rfl⟩) (fun fin s' z=>?_) fun _ _ z=>z.elim
 obtain⟨rfl,rfl⟩:=z;exact handed_on rfl (qo q)
theorem MW(F:XcK K C):KitX K (.ref x) (.ref C) (isExc x C) where
 ty:=fun _ _ _ p=>qG p
 it:=fun M _ k _=>(OR k F.cl).2 M
 ne:=fun h tp dd its n sl k htp=>by
  obtain⟨⟨c,d,cd,sl',e⟩,_⟩:=OR k F.cl;refine Bool.eq_false_iff.mpr fun q=>?_
  have ee:C=tp:=Value.ref.inj (qd.mp q)
  rw[ee,htp]at e;cases e
 ca:=fun k p q=>XN F k p q
end
end Z
namespace Z
open PySem
end Z
namespace Z
open PySem PySem.Spec PyProof.Rows L2
def sT(K:so)(T:Tx)(S:Addr→Prop)(H H':Hp)(d:D)(v:V):Prop:=∀ds,d=.lst ds→∃p xs,v=.ref p∧H p=none∧H' p=some (.lst xs)∧aD K T (er H' p) S ds xs
def fv(K:so)(T:Tx)(n:Nat)(f:List D→Option Rs)(fr:Bool):Sp:=fun vs H Q E=>vs.length=n∧∃(S:Addr→Prop) (ds:List D),(∀a,S a→∃o,H a=some o)∧aD K T H S ds vs ∧
 ((∃d,f ds=some (.ok d)∧∀v H',aG H H'→Rep K T H' S d v→(fr=true→sT K T S H H' d v)→Q v H') ∨
  (∃c C,f ds=some (.er c)∧T.xc c=some C∧∀H',aG H H'→E (.ref C) none H'))
def aBd(K:so)(T:Tx)(C:Addr)(n:Nat)(g:List D→Option Rs):Sp:=fun vs H Q _=>vs.length=n∧∃(p dx:Addr) (ws:List V) (S:Addr→Prop) (ds:List D) (d:D),vs=.ref p::ws∧H p=some (.ins C dx [])∧S p∧(∀a,S a→∃o,H a=some o) ∧
 aD K T H S ds ws∧g ds=some (.ok d)∧∀H',(∀b o,b≠p→H b=some o→H' b=some o)→(∀S':Addr→Prop,(∀a,S' a→S a∧a≠p)→Rep K T H' S' d (.ref p))→Q .non H'
noncomputable def fK:List Str:=["len","int","list","tuple","max","min","str","sorted","any","range","reversed","enumerate","isinstance","bool","ValueError"]
def spW(C:Addr)(x:Str):Sp:=fun vs H Q _=>∃a,vs=[.ref a]∧H a=some (.ext (isExc a C))∧∀H',aG H H'→Q (.str x) H'
def aJh(X:Cx)(T:Tx)(a:Addr)(kvs:List (Str×D)):Prop:=(a == sysModules)=false∧∃o vs,X.K.lookup a=some o∧o.IsDictOf (bK X.prog X.w) vs∧(∀k,(valueAt vs (Sum.inr k)).isSome=(kvs.lookup k).isSome) ∧
 ∀k d u,kvs.lookup k=some d→valueAt vs (Sum.inr k)=some u→∃v,RelV v u∧∀(H:Hp) (S:Addr→Prop),(∀a o,X.K.lookup a=some o→H a=none)→(∀a,S a→∃o,H a=some o)→Rep X.K T H S d v
def spA(K:so)(T:Tx)(n:Nat)(g:D→List D→Option (D×D)):Sp:=fun vs H Q _=>vs.length=n∧∃(S:Addr→Prop) (q:Addr) (o:D) (ob:HO) (rest:List V) (ds:List D) (d o':D),vs=.ref q::rest∧(∀a,S a→∃o,H a=some o)∧S q∧H q=some ob∧iV K T H S o ob∧aD K T H S ds rest∧g o ds=some (d,o') ∧
 ∀v H' dO,(∀a b,a≠q→H a=some b→H' a=some b)→H' q=some dO→iV K T H' S o' dO→Rep K T H' S d v→Q v H'
structure kj (CX:ao) (X:Cx) (c:CC) (G:GS) (T:Tx) (lv:Nat):Prop where
 fn:∀x,c.fns.contains x=true→∃f fd ps,X.mg x=some (.ref f)∧keepIn X.K (.ref f)=true∧Binds X.K fd ps []∧(∀ds r,G.fn x ds=some r→ds.length=ps.length) ∧
  FnOk X.prog X.w X.K X.mg X.base CX lv f fd ps (fv X.K T ps.length (G.fn x) (G.ff x))
 me:∀cn C m ds r,T.cl cn=some C→G.me cn m ds=some r→∃f fd ps,fu X.K C m f∧Binds X.K fd ps []∧(∀ds r,G.me cn m ds=some r→ds.length=ps.length) ∧
  FnOk X.prog X.w X.K X.mg X.base CX lv f fd ps (fv X.K T ps.length (G.me cn m) (G.mf cn m))
 cls:∀cn C,T.cl cn=some C→Cls X.K C
 fld:∀cn C f,T.cl cn=some C→(G.fl cn).contains f=true→cK X.K C f
 mo:∀x,c.cls.contains x=true→∀ds d,G.mo x ds=some (.ok d)→∃C f fd ps j,j+1≤lv∧X.mg x=some (.ref C)∧Mk X.K C f∧Binds X.K fd ps []∧ds.length+1=ps.length ∧
  FnOk X.prog X.w X.K X.mg X.base CX j f fd ps (aBd X.K T C ps.length (G.mo x))
 cst:∀x d,G.cst x=some d→c.csts.contains x=true→∃u v,X.mg x=some u∧RelV v u∧∀(H:Hp) (S:Addr→Prop),(∀a o,X.K.lookup a=some o→H a=none)→(∀a,S a→∃o,H a=some o)→Rep X.K T H S d v
 bi:∀x,fK.contains x=true→c.fns.contains x=false→c.cls.contains x=false→X.mg x=none
 xcl:∀x C,T.xc x=some C→X.mg x=some (.ref C)
 frs:∀x,c.fresh.contains x=true→G.ff x=true∧∀cn,G.mf cn x=true
 cx0:∀outer H s e s',CX outer H s E0 e s'→False
 cxf:∀outer H s E e s',CX outer H s E e s'→dN X.prog X.w outer H s E e s'
 xns:∀k,G.xn k=true→∃C,T.xc k=some C
 xk:∀k C,T.xc k=some C→excIn X.K C jn "ValueError.__new__" = true
 sub:∀k k' C C',T.xc k=some C→T.xc k'=some C'→G.sub k k'=true→pO X.K C (.ref C')=true
 wd:∀f k x C,T.xc k=some C→G.wd f k=some x→∃fa fd ps j,j≤lv∧X.mg f=some (.ref fa)∧keepIn X.K (.ref fa)=true∧Binds X.K fd ps []∧FnM X.prog X.w X.K X.mg X.base j fa fd ps (spW C x)
 dk:∀x kvs,G.dk x=some kvs→∃a,X.mg x=some (.ref a)∧aJh X T a kvs
 fm:∀x o ds r,G.fm x o ds=some r→∃f fd ps,X.mg x=some (.ref f)∧keepIn X.K (.ref f)=true∧Binds X.K fd ps []∧ds.length+1=ps.length∧FnOk X.prog X.w X.K X.mg X.base CX lv f fd ps (spA X.K T ps.length (G.fm x))
def wD(k:Option NameKind)(k':Option NameKind):Prop:=match k with
 |some .local=>k'=some .local
 |some .cell=>k'=some .cell
 |some .free=>k'=some .free∨k'=some .cell
 |some .globalImplicit=>k'=some .globalImplicit
 |_=>True
structure XC (CX:ao) (X:Cx) (c:CC) (G:GS) (T:Tx) (lv:Nat):Prop where
 N:X.N=c.N
 nd:c.N.Nodup
 kd:∀x,wD (c.sc.names.lookup x) (X.env.kindOf x)
 own:∀x,c.sc.names.lookup x=some .cell→X.fn x=true
 dbg:∀x∈c.N,(x == ("__debug__":Str))=false∧(x == ("__classdict__":Str))=false
 gdb:aS c "__debug__" = false
 calm:X.calm=true
 room:Room lv X.A
 go:kj CX X c G T lv
section
variable {CX:ao}{X:Cx}{c:CC}{G:GS}{T:Tx}{lv:Nat}
theorem XC.units(h:XC CX X c G T lv):X.A.units+64<cLine:=h.room.units
theorem XC.glob(h:XC CX X c G T lv){x:Str}(e:aS c x=true):Gl X x:=by
 have k:=h.kd x
 have e':c.sc.names.lookup x=some .globalImplicit:=by
  unfold aS at e;exact qd.mp e
 rw[e']at k;exact k
theorem XC.gne(h:XC CX X c G T lv){x:Str}(e:aS c x=true):(x == ("__debug__":Str))=false:=by
 cases q:x == ("__debug__":Str) with
 |false=>rfl
 |true =>
  have q':x = "__debug__":=qd.mp q
  subst q';rw[h.gdb]at e;cases e
theorem jP{α:Type}[DecidableEq α][BEq α][LawfulBEq α]:∀{l:List α} {x:α} {i:Nat},l.idxOf? x=some i→l[i]?=some x:=by
 intro l x i h;unfold List.idxOf? at h;rw[List.findIdx?_eq_some_iff_getElem]at h;obtain⟨h1,h2,_⟩:=h;rw[oa h1];exact congrArg some (qd.mp h2)
theorem tH{x:Str}{i:Nat}(e:bD c x=some i):c.N[i]?=some x∧(c.sc.names.lookup x=some .local∨c.sc.names.lookup x=some .cell∨c.sc.names.lookup x=some .free):=by
 unfold bD at e;split at e
 ·rename_i h;exact⟨jP e,.inl h⟩
 ·rename_i h;exact⟨jP e,.inr (.inl h)⟩
 ·rename_i h;exact⟨jP e,.inr (.inr h)⟩
 ·cases e
theorem XC.vis(h:XC CX X c G T lv){x:Str}(e:c.sc.names.lookup x=some .local∨c.sc.names.lookup x=some .cell∨c.sc.names.lookup x=some .free):Vis X.env.scope x:=by
 have k:=h.kd x
 rcases e with e|e|e
 ·rw[e]at k;exact .inl k
 ·rw[e]at k;exact .inr (.inl k)
 ·rw[e]at k
  rcases k with k|k
  ·exact .inr (.inr k)
  ·exact .inr (.inl k)
theorem gT{x:Str}{p:Pos}{i:Nat}(e:eY c (.Name x p)=some i):c.N[i]?=some x∧(c.sc.names.lookup x=some .local∨c.sc.names.lookup x=some .cell):=by
 simp only[eY]at e;split at e
 ·rename_i h;exact⟨jP e,.inl h⟩
 ·rename_i h;exact⟨jP e,.inr h⟩
 ·cases e
theorem XC.loc(h:XC CX X c G T lv){x:Str}(e:c.sc.names.lookup x=some .local∨c.sc.names.lookup x=some .cell):Loc X.env.scope x∧(X.fn x=true∨X.env.scope.names.lookup x=some .local):=by
 have k:=h.kd x
 rcases e with e|e
 ·rw[e]at k;exact⟨.inl k,.inr k⟩
 ·have o:=h.own x e
  rw[e]at k;exact⟨.inr k,.inl o⟩
theorem ZM{pins:sv}{σ:L2.St}{H:Hp}{s:Shared}(I:Inv X pins σ H s):∀a o,X.K.lookup a=some o→H a=none:=fun a o e=>(I.bs a o (I.mod.kin a o e)).2
def gD(K:so)(T:Tx)(S:Addr→Prop)(is:List Nat)(ρ ρ1:List Sl)(d:D):TG:=fun v σ H Q=>RE K T H S ρ σ∧Rep K T H S d v∧∀σ',RE K T H S ρ1 σ'→(∀j,j∉is→σ'[j]?=σ[j]?)→Q σ' H
theorem RE.set{K:so}{H:Hp}{S:Addr→Prop}{ρ:List Sl}{σ:L2.St}{i:Nat}{d:D}{v:V}(re:RE K T H S ρ σ)(r:Rep K T H S d v):RE K T H S (ρ.set i (.im d)) (σ.set i (some v)):=by
 refine⟨re.dom,by simp[re.len],fun j s e=>?_⟩
 by_cases hj:j=i
 ·subst hj;have hl:j<ρ.length:=by
   have:=(o5.mp e).1
   simpa using this
  rw[p6 hl]at e;cases e;rw[p6 (by rw[←re.len];exact hl)]
  exact⟨v,rfl,r⟩
 ·rw[p7 (Ne.symm hj)]at e ⊢;exact re.at_ j s e
noncomputable def gDs(K:so)(T:Tx)(S:Addr→Prop)(is:List Nat)(ρ ρ1:List Sl)(ds:List D):i3:=fun vs σ H Q=>RE K T H S ρ σ∧aD K T H S ds vs∧∀σ',RE K T H S ρ1 σ'→(∀j,j∉is→σ'[j]?=σ[j]?)→Q σ' H
theorem eN(env:Env):∀{es:List Expr} {is:List Nat},eZ c es=some is→(assignEach es env).map (·.2)=es.map (fun e=>assign e env)∧(assignEach es env).length=es.length∧(assignEach es env).findIdx? (·.1)=none:=by
 intro es
 induction es with
 |nil=>intro is _;exact⟨rfl,rfl,rfl⟩
 |cons e es ih =>
  intro is h;simp only[eZ,oi,o9]at h;obtain⟨i,h1,r,h2,_⟩:=h;obtain⟨a1,a2,a3⟩:=ih h2;cases e<;>simp only[eY,reduceCtorEq]at h1
  rename_i x p;refine⟨?_,?_,?_⟩
  ·show assign (.Name x p) env::(assignEach es env).map (·.2)=_
   rw[a1];rfl
  ·show (assignEach es env).length+1=_
   rw[a2];rfl
  ·show List.findIdx? (·.1) ((false,assign (.Name x p) env)::assignEach es env)=none
   rw[List.findIdx?_cons,a3];rfl
theorem aGk(h:XC CX X c G T lv){S:Addr→Prop}:∀{es:List Expr} {is:List Nat} {ds:List D} {ρ ρ1:List Sl},eZ c es=some is→aY is ds ρ=some ρ1→nv X es (gDs X.K T S is ρ ρ1 ds):=by
 intro es
 induction es with
 |nil =>
  intro is ds ρ ρ1 h1 h2;simp only[eZ]at h1;cases h1;cases ds with
  |nil =>
   simp only[aY]at h2;cases h2;intro pins s σ H vs us Q I r ⟨re,rl,q⟩;unfold aD at rl;exact UL pins s σ H vs us Q I r ⟨rl,q σ re fun _ _=>rfl⟩
  |cons d ds=>simp[aY]at h2
 |cons e es ih =>
  intro is ds ρ ρ1 h1 h2;simp only[eZ,oi,o9]at h1;obtain⟨i,h1,r,h3,h4⟩:=h1;cases h4;cases ds with
  |nil=>simp[aY]at h2
  |cons d ds =>
   simp only[aY]at h2;have hs:=(eN (c:=c) X.env (es:=e::es) (is:=i::r) (by simp[eZ,h1,h3])).1
   have jc:=(eN (c:=c) X.env h3).1
   cases e<;>simp only[eY,reduceCtorEq]at h1
   rename_i x p;have ml:eY c (.Name x p)=some i:=h1
   obtain⟨hN,hk⟩:=gT ml;obtain⟨hl,hf⟩:=h.loc hk;have p1:PG X (.Name x p) (sF i):=CI (by rw[h.N];exact h.nd) (by rw[h.N];exact hN) hl hf
   have p2:=LJ p1 (ih h3 h2) (by rw[hs,jc];rfl)
   intro pins s σ H vs us Q I rv ⟨re,rl,q⟩;unfold aD at rl;obtain⟨y,w,e1,ry,dy⟩:=rl;refine p2 pins s σ H vs us Q I rv ⟨y,w,e1,?_⟩;refine⟨re.set ry,dy,fun σ2 re2 ag=>q σ2 re2 fun j hj=>?_⟩
   rw[ag j fun z=>hj (oq _ z),p7 (fun z=>hj (by rw[z];simp))]
theorem UM(h:XC CX X c G T lv){S:Addr→Prop}{tg:Expr}{is:List Nat}{tp:Bool}{d:D}{ρ ρ1:List Sl}(h1:bW c tg=some (is,tp))(h2:bB is tp d ρ=some ρ1):PG X tg (gD X.K T S is ρ ρ1 d):=by
 cases tg<;>simp only[bW,reduceCtorEq,oy,Prod.mk.injEq]at h1
 ·rename_i x p;obtain⟨i,h3,rfl,rfl⟩:=h1;simp only[bB,oo,if_false,aY]at h2;cases h2;obtain⟨hN,hk⟩:=gT h3;obtain⟨hl,hf⟩:=h.loc hk;have p1:PG X (.Name x p) (sF i):=CI (by rw[h.N];exact h.nd) (by rw[h.N];exact hN) hl hf
  intro pins s σ H v u Q I rv ⟨re,rd,q⟩;exact p1 pins s σ H v u Q I rv (q _ (re.set rd) fun j hj=>p7 (fun z=>hj (by rw[z];simp)))
 ·rename_i es k p;obtain⟨is',h3,rfl,rfl⟩:=h1;simp only[bB,if_true]at h2;cases d<;>simp only[reduceCtorEq]at h2
  rename_i ds;obtain⟨a1,a2,a3⟩:=eN (c:=c) X.env h3;have p1:=aBz (pos:=p) (k:=k) (n:=es.length) h.calm (aGk h (S:=S) h3 h2) a2 a3
  intro pins s σ H v u Q I rv ⟨re,rd,q⟩;unfold Rep at rd;obtain⟨a,xs,ev,_,e,rl⟩:=rd;refine p1 pins s σ H v u Q I rv ⟨a,xs,ev,e,?_,re,rl,q⟩;have l1:=rl.len
  have l2:is'.length=es.length:=by
   clear p1 a1 a2 a3 rl h2 q
   induction es generalizing is' with
   |nil=>simp only[eZ]at h3;cases h3;rfl
   |cons e es ih =>
    simp only[eZ,oi,o9]at h3;obtain⟨i,_,r,h4,h5⟩:=h3;cases h5;simp only[qy,Nat.add_right_cancel_iff];exact ih r h4
  have l3:∀{is:List Nat} {ds:List D} {ρ ρ1:List Sl},aY is ds ρ=some ρ1→is.length=ds.length:=by
   intro is
   induction is with
   |nil=>intro ds ρ ρ1 z;cases ds<;>simp_all [aY]
   |cons i is ih =>
    intro ds ρ ρ1 z;cases ds with
    |nil=>simp[aY]at z
    |cons d ds=>simp only[aY]at z;simp[ih z]
  rw[←l1,←l3 h2,l2]
end
def gz(K:so)(T:Tx)(S:Addr→Prop)(H0:Hp)(J:It)(ds:List D):Prop:=∀(H:Hp) (S':Addr→Prop),aI K H0 H S S'→(∀a,S' a→∃o,H a=some o) →
 (∀i d,ds[i]?=some d→J.go i H∧∀x H',J.yld i H x H'→aG H H'∧Rep K T H' S' d x)∧∀i,ds.length≤i→J.stop i H
def tI(K:so)(T:Tx)(S:Addr→Prop)(ρ:List Sl)(ds:List D):TI:=fun σ H R=>RE K T H S ρ σ∧∀J H',aG H H'→gz K T S H' J ds→ds.length≤sizeLine→R J H'
theorem fS(sc:Scope)(env:Env)(x:Str):(relabel sc env).names.lookup x=(sc.names.lookup x).map fun k=>if (k == .free&&env.scope.kind == .function&&env.kindOf x == some .cell)=true then .cell else k:=by
 show (sc.names.map fun (p:Str×NameKind)=>if (p.2 == .free&&env.scope.kind == .function&&env.kindOf p.1 == some .cell) then(p.1,NameKind.cell) else(p.1,p.2)).lookup x=_
 induction sc.names with
 |nil=>rfl
 |cons p r ih =>
  obtain⟨n,k⟩:=p;rw[qb]
  by_cases hx:x=n
  ·subst hx
   by_cases hc:(k == .free&&env.scope.kind == .function&&env.kindOf x == some .cell)=true
   ·show List.lookup x ((if (k == .free&&env.scope.kind == .function&&env.kindOf x == some .cell)=true then(x,NameKind.cell) else(x,k))::_)=_
    rw[if_pos hc,lookup_cons,lookup_cons,beq_self_eq_true];simp only[qt];rw[if_pos hc]
   ·show List.lookup x ((if (k == .free&&env.scope.kind == .function&&env.kindOf x == some .cell)=true then(x,NameKind.cell) else(x,k))::_)=_
    rw[if_neg hc,lookup_cons,lookup_cons,beq_self_eq_true];simp only[qt];rw[if_neg hc]
  ·have hb:(x == n)=false:=by simpa using hx
   show List.lookup x ((if (k == .free&&env.scope.kind == .function&&env.kindOf n == some .cell)=true then(n,NameKind.cell) else(n,k))::_)=_
   by_cases hc:(k == .free&&env.scope.kind == .function&&env.kindOf n == some .cell)=true
   ·rw[if_pos hc,lookup_cons,lookup_cons,hb];exact ih
   ·rw[if_neg hc,lookup_cons,lookup_cons,hb];exact ih
theorem gN{env:Env}:∀(names:List (Str×NameKind)) (acc:List (Str×Addr)),(∀x∈names,x.2=.free→∃a,env.cells.lookup x.1=some a) →
  ∃cl,(forIn names acc fun (x:Str×NameKind) (cs:List (Str×Addr))=>if (x.2 == .free)=true then(do let a ←cellOf env x.1;pure (ForInStep.yield ((x.1,a)::cs))) else pure (ForInStep.yield cs):Sem (List (Str×Addr)))=pure cl ∧
   (∀x a,cl.lookup x=some a→acc.lookup x=some a∨env.cells.lookup x=some a)∧(∀x,((x,NameKind.free)∈names∨∃a,acc.lookup x=some a)→∃a,cl.lookup x=some a)
 |[],acc,_=>⟨acc,rfl,fun x a h=>.inl h,fun x h=>by
   rcases h with h|h
   ·simp at h
   ·exact h⟩
 | (n,k)::r,acc,h=>by
  by_cases hk:k=.free
  ·subst hk;obtain⟨a,ha⟩:=h (n,.free) (by simp) rfl
   obtain⟨cl,e,h1,h2⟩:=gN r ((n,a)::acc) fun x hx=>h x (oq _ hx)
   refine⟨cl,?_,fun x b q=>?_,fun x q=>h2 x ?_⟩
   ·rw[List.forIn_cons];simp only[beq_self_eq_true,if_true,cellOf,ha];exact e
   ·rcases h1 x b q with z|z
    ·rw[lookup_cons]at z;cases hx:x == n with
     |true =>
      rw[hx]at z;have:x=n:=qd.mp hx
      subst this;cases z;exact .inr ha
     |false=>rw[hx]at z;exact .inl z
    ·exact .inr z
   ·by_cases hx:x=n
    ·subst hx;exact .inr ⟨a,by simp⟩
    ·have hb:(x == n)=false:=by simpa using hx
     rcases q with q|⟨b,q⟩
     ·rcases pj.mp q with q|q
      ·exact absurd (Prod.mk.inj q).1 hx
      ·exact .inl q
     ·exact .inr ⟨b,by rw[lookup_cons,hb];exact q⟩
  ·have hb:(k == NameKind.free)=false:=by simpa using hk
   obtain⟨cl,e,h1,h2⟩:=gN r acc fun x hx=>h x (oq _ hx)
   refine⟨cl,?_,h1,fun x q=>h2 x ?_⟩
   ·rw[List.forIn_cons];simp only[hb,oo,if_false];exact e
   ·rcases q with q|q
    ·rcases pj.mp q with q|q
     ·exact absurd (Prod.mk.inj q).2.symm hk
     ·exact .inl q
    ·exact .inr q
theorem qM{env:Env}{sc:Scope}(h:∀x∈sc.names,x.2=.free→∃a,env.cells.lookup x.1=some a) :
  ∃cl,closureFor sc env=pure cl∧(∀x a,cl.lookup x=some a→env.cells.lookup x=some a)∧(∀x,(x,NameKind.free)∈sc.names→∃a,cl.lookup x=some a):=by
 obtain⟨cl,e,h1,h2⟩:=gN (env:=env) sc.names [] h;refine⟨cl,?_,fun x a q=>(h1 x a q).elim (fun z=>by simp at z) id,fun x q=>h2 x (.inl q)⟩
 show ((forIn sc.names [] fun (x:Str×NameKind) (cs:List (Str×Addr))=>if (x.2 == .free)=true then(do let a ←cellOf env x.1;pure (ForInStep.yield ((x.1,a)::cs))) else pure (ForInStep.yield cs):Sem (List (Str×Addr))) >>= fun cs=>pure cs)=pure cl
 rw[e];rfl
noncomputable def yT(X:Cx)(N':List Str)(sc:Scope)(cl:List (Str×Addr))(C:Addr)(s:Shared)(H:Hp)(fp:List Addr)(E:su):Cx:=
 {X with N:=N',s₀:=s,H₀:=H,env:=compEnvC sc cl C X.env,outer:=X.stack,ex:=fp,fn:=fun _=>false,pn:=[],xe:=E }
theorem vY{prog:sr}{w:World}{A:Around}{R:Result→Shared→Prop}{s:Shared}{elt target iter:Expr}{ifs:List Expr}{scope:Scope}{pos:Pos}{it acc:Value}{env:Env}(I:Nat→Shared→Prop)
  (turn:∀n s,I n s→wpAny (model prog w) A (pyNext it) (fun r s₁=>match r with
   |none=>R (.ok .next) s₁
   |some v=>wpAny (model prog w) A (letOwnedTupleGo target it v) (fun _ s₁=>wpAny (model prog w) A (assign target env v) (fun _ s₂ =>
     wpAny (model prog w) A (forIn ifs true fun c r=>if r=true then do let ok ←isTrue c env (eval c env);pure (ForInStep.yield ok) else pure (ForInStep.yield r)) (fun ok s₃ =>
      if ok=true then wpAny (model prog w) A (eval elt env) (fun x s₄ =>
       wpAny (model prog w) A (call (.builtin "list.append") [acc,x]) (fun _ s₅=>∃m,m<n∧I m s₅) (notedBy (model prog w) A env fun e s'=>R (.error e) s') s₄) (notedBy (model prog w) A env fun e s'=>R (.error e) s') s₃
      else ∃m,m<n∧I m s₃) (notedBy (model prog w) A env fun e s'=>R (.error e) s') s₂) (notedBy (model prog w) A env fun e s'=>R (.error e) s') s₁) (notedBy (model prog w) A env fun e s'=>R (.error e) s') s₁) (notedBy (model prog w) A env fun e s'=>R (.error e) s') s)
  (n:Nat) (h:I n s):codeAny (model prog w) A (.compLoop (.ListComp elt [⟨target,iter,ifs,0⟩] scope pos) 0 it acc env) R s:=by
 refine codeAny_loop rfl I (fun n s hI=>?_) n h
 show wpAny _ A ((compTurn (.ListComp elt [⟨target,iter,ifs,0⟩] scope pos) 0 it acc env).onRaise (fun x=>do noteFrame x env;theTreesLotGoes x)) _ _ s
 refine wpAny_noted ?_;rw[compTurn_list];refine qm (wpAny_standAt (qm (qp (turn n s hI) (fun r s₁ h₁=>?_) fun _ _ h'=>h')))
 cases r with
 |none=>exact qo h₁
 |some v =>
  refine qm (qp h₁ (fun _ s₁' h₁'=>?_) fun _ _ h'=>h')
  refine qm (qp h₁' (fun _ s₂ h₂=>qm (qp h₂ (fun ok s₃ h₃=>?_) fun _ _ h'=>h')) fun _ _ h'=>h')
  cases ok with
  |false=>exact qo ⟨rfl,h₃⟩
  |true =>
   exact qm (qm (qp h₃ (fun x s₄ h₄=>qm (qp h₄ (fun _ s₅ h₅=>qo (qo ⟨rfl,h₅⟩)) fun _ _ h'=>h')) fun _ _ h'=>h'))
section
variable {CX:ao}{X:Cx}{c:CC}{G:GS}{T:Tx}{lv:Nat}{pins:sv}{σ:L2.St}{H:Hp}{s:Shared}
theorem lR(I:Inv X pins σ H s){N':List Str}{sc:Scope}{cl:List (Str×Addr)}{C:Addr}{fp:List Addr}{E:su}(hk:sc.kind=.function)(hC:s.heap.objs.size≤C)
  (ak:∀x a,cl.lookup x=some a→X.env.cells.lookup x=some a) (bj:∀x,(x,NameKind.free)∈sc.names→∃a,cl.lookup x=some a) (hnc:∀x∈sc.names,x.2≠.cell)
  (hf:∀b∈fp,lW X pins H b) (cN:∀b∈fp,b<s.heap.objs.size):(yT X N' sc cl C s H fp E).Ok where
 mod:=I.ok.mod
 kind:=hk
 glob:=I.ok.glob
 blt:=I.ok.blt
 above:=hC
 inj:=fun x y c h1 h2=>I.ok.inj x y c (ak _ _ h1) (ak _ _ h2)
 has:=fun x hx=>by
  have e:∀k,(relabel sc X.env).names.lookup x=some k→(k=.cell∨k=.free)→(x,NameKind.free)∈sc.names:=fun k e hk=>by
   rw[fS]at e;cases q:sc.names.lookup x with
   |none=>rw[q]at e;cases e
   |some k0 =>
    rw[q]at e;have hm:=qf q
    by_cases jh:k0=.free
    ·subst jh;exact hm
    ·have hb:(k0 == NameKind.free)=false:=by simpa using jh
     simp only[qt,hb,Bool.false_and,oo,if_false,o7]at e;subst e
     rcases hk with z|z
     ·exact absurd z (hnc _ hm)
     ·exact absurd z jh
  rcases hx with hx|hx
  ·exact bj x (e _ hx (.inl rfl))
  ·exact bj x (e _ hx (.inr rfl))
 cab:=fun x c h=>by cases h
 hd:=I.ok.hd
 frames:=I.ok.frames
 stk:=.inl rfl
 exf:=fun b hb=>⟨qh (oz (cN b hb) hC),fun x c e=>(hf b hb).2.2.2.2.1 x c (ak _ _ e)⟩
 bs:=I.bs
 bsz:=p9 I.ok.bsz I.sz
 noex:=fun b o e hb=>by
  obtain⟨_,_,_,h1,_⟩:=hf b hb
  rcases h1 with h1|h1
  ·exact I.ok.noex b o e h1
  ·exact absurd (oz (p8 e) I.ok.bsz) (not_lt.mpr h1)
 exfs:=fun b hb hs=>by
  obtain⟨_,h1,h2,_⟩:=hf b hb
  rcases pj.mp (I.stkSub b hs) with z|z
  ·exact h1 z
  ·exact h2 z
 funs:=I.stack
 frf:=I.stkFree
end
section
variable {CX:ao}{X:Cx}{c:CC}{G:GS}{T:Tx}{lv:Nat}{pins:sv}{σ:L2.St}{H:Hp}{s:Shared}
structure ay (c:CC) (sc:Scope):Prop where
 kind:sc.kind=.function
 nocell:∀x∈sc.names,x.2≠.cell
 loc:∀x∈sc.names,x.2=.local→sc.names.lookup x.1=some .local
 fl:∀x∈sc.names,x.2=.free→sc.names.lookup x.1=some .free
 nd:(ownNames sc).Nodup
 dbg:∀x∈ownNames sc,(x == ("__debug__":Str))=false∧(x == ("__classdict__":Str))=false
 gdb:sc.names.lookup ("__debug__":Str)≠some .globalImplicit
 fre:∀x∈sc.names,x.2=.free→c.sc.names.lookup x.1=some .cell∨c.sc.names.lookup x.1=some .free
theorem sJ{sc:Scope}(h:kO c sc=true):ay c sc:=by
 unfold kO at h;simp only[ow]at h;obtain⟨⟨⟨⟨⟨⟨⟨h1,h2⟩,h3⟩,h8⟩,h4⟩,h5⟩,h6⟩,h7⟩:=h;rw[all_eq_true]at h2 h3 h5 h7 h8;refine⟨qd.mp h1,fun x hx=>?_,fun x hx e=>?_,fun x hx e=>?_,of_decide_eq_true h4,fun x hx=>?_,fun e=>?_,fun x hx e=>?_⟩
 ·have:=h2 x hx
  simpa using this
 ·have:=h3 x hx
  simpa [e] using this
 ·have:=h8 x hx
  simpa [e] using this
 ·have:=h5 x hx
  simpa [ow] using this
 ·rw[e]at h6;simp at h6
 ·have:=h7 x hx
  simpa [e] using this
theorem OQ(h:XC CX X c G T lv){sc:Scope}(cs:ay c sc){cl:List (Str×Addr)}{C:Addr}{s:Shared}{H:Hp}{fp:List Addr}{E:su} :
  XC CX (yT X (ownNames sc) sc cl C s H fp E) { c with N:=ownNames sc,sc:=sc } G T lv where
 N:=rfl
 nd:=cs.nd
 kd:=fun x=>by
  show wD (sc.names.lookup x) ((relabel sc X.env).names.lookup x)
  rw[fS];cases q:sc.names.lookup x with
  |none=>trivial
  |some k =>
   cases k with
   | «local»=>rfl
   |cell=>exact absurd rfl (cs.nocell _ (qf q))
   |free =>
    simp only[qt,wD]
    by_cases hc:((NameKind.free == NameKind.free)&&X.env.scope.kind == .function&&X.env.kindOf x == some .cell)=true
    ·rw[if_pos hc];exact .inr rfl
    ·rw[if_neg hc];exact .inl rfl
   |globalExplicit=>trivial
   |globalImplicit=>rfl
 own:=fun x e=>absurd rfl (cs.nocell _ (qf e))
 dbg:=cs.dbg
 gdb:=by
  unfold aS;exact qg.mpr cs.gdb
 calm:=h.calm
 room:=h.room
 go:=⟨h.go.fn,h.go.me,h.go.cls,h.go.fld,h.go.mo,h.go.cst,h.go.bi,h.go.xcl,h.go.frs,h.go.cx0,h.go.cxf,h.go.xns,h.go.xk,h.go.sub,h.go.wd,h.go.dk,h.go.fm⟩
theorem IL{sc:Scope}:∀{l:List (Str×NameKind)} {fr:List (Nat×Nat)} {i j:Nat},freeOf c sc l=some fr→fr.lookup i=some j→∃x∈l,(ownNames sc).idxOf? x.1=some i∧bD c x.1=some j:=by
 intro l
 induction l with
 |nil =>
  intro fr i j h e;simp only[freeOf]at h;cases h;simp at e
 |cons x r ih =>
  intro fr i j h e;simp only[freeOf,oi,o9]at h;obtain⟨a,h1,b,h2,t,h3,h4⟩:=h;cases h4;rw[lookup_cons]at e;cases q:i == a with
  |true =>
   rw[q]at e;cases e;have:i=a:=by simpa using q
   subst this;exact⟨x,by simp,h1,h2⟩
  |false =>
   rw[q]at e;obtain⟨y,hy,z⟩:=ih h3 e;exact⟨y,oq _ hy,z⟩
noncomputable def eJ(n:Nat)(fr:List (Nat×Nat))(σ:L2.St):L2.St:=(List.range n).map fun i=>match fr.lookup i with
 |some j=>σ.getD j none
 |none=>none
theorem NY{K:so}{S:Addr→Prop}{ρ:List Sl}{n:Nat}{fr:List (Nat×Nat)}(re:RE K T H S ρ σ):RE K T H S (frame n fr ρ) (eJ n fr σ):=by
 refine⟨re.dom,by simp[frame,eJ],fun i sl e=>?_⟩
 unfold frame at e;unfold eJ;rw[oe]at e ⊢;cases hr:(List.range n)[i]? with
 |none=>rw[hr]at e;cases e
 |some k =>
  rw[hr]at e;simp only[qt,o7]at e ⊢;subst e;cases q:fr.lookup k with
  |none=>trivial
  |some j =>
   simp only;cases q2:ρ[j]? with
   |none =>
    rw[o6,q2];trivial
   |some sl =>
    have h:=re.at_ j sl q2
    rw[o6,q2];simp only[Option.getD_some];cases sl with
    |un=>trivial
    |im d =>
     obtain⟨v,e1,r⟩:=h;exact⟨v,by rw[o6,e1];rfl,r⟩
    |mu ds =>
     obtain⟨p,xs,e1,r⟩:=h;exact⟨p,xs,by rw[o6,e1];rfl,r⟩
theorem RE.gen{K:so}{H':Hp}{S S':Addr→Prop}{ρ:List Sl}(re:RE K T H S ρ σ)(mv:aI K H H' S S')(hm:∀a ob,S a→H a=some ob→(∃d,iV K T H S d ob)→S' a∧H' a=some ob)(hd:∀a,S' a→∃o,H' a=some o):RE K T H' S' ρ σ:=by
 refine⟨hd,re.len,fun i sl e=>?_⟩
 have h:=re.at_ i sl e
 cases sl with
 |un=>trivial
 |im d=>obtain⟨v,e1,r⟩:=h;exact⟨v,e1,Rep.gen mv d v r⟩
 |mu ds =>
  obtain⟨p,xs,e1,sp,hp,r⟩:=h;obtain⟨a1,a2⟩:=hm p xs sp hp ⟨ds,r⟩;exact⟨p,xs,e1,a1,a2,r.gen mv⟩
theorem NJ(h:XC CX X c G T lv)(I:Inv X pins σ H s){sc:Scope}(cs:ay c sc){cl:List (Str×Addr)}{fr:List (Nat×Nat)}{C:Addr}{fp:List Addr}{E:su}{s4:Shared}{m:t5}
  (ar:freeOf c sc (sc.names.filter fun x=>x.2 == .free)=some fr)
  (ak:∀x a,cl.lookup x=some a→X.env.cells.lookup x=some a) (bj:∀x,(x,NameKind.free)∈sc.names→∃a,cl.lookup x=some a)
  (hf:∀b∈fp,lW X pins H b) (cN:∀b∈fp,b<s.heap.objs.size) (hC:s.heap.objs.size≤C) (hn:s4.heap.Ns C m) (hk:∀b o,s.heap.get? b=some o→s4.heap.get? b=some o)
  (je:s4.os=s.os) (iq:AllBare s4.gens):Inv (yT X (ownNames sc) sc cl C s H fp E) [] (eJ (ownNames sc).length fr σ) H s4 where
 ok:=lR I cs.kind hC ak bj cs.nocell hf cN
 os:=je
 bare:=iq
 base:=Un.kept hk
 loc:=⟨m,hn,fun i x v h1 h2 h3=>by
  unfold eJ at h2;rw[oe]at h2;cases hr:(List.range (ownNames sc).length)[i]? with
  |none=>rw[hr]at h2;cases h2
  |some k =>
   have ek:k=i:=by
    obtain⟨_,e⟩:=o5.mp hr;simpa using e.symm
   subst ek;rw[hr]at h2;simp only[qt,o7]at h2;cases q:fr.lookup k with
   |none=>rw[q]at h2;cases h2
   |some j =>
    rw[q]at h2;simp only at h2;obtain⟨y,hy,hy1,hy2⟩:=IL ar q;have hyx:y.1=x:=by
     have:=jP hy1
     have ml:(ownNames sc)[k]?=some x:=h1
     rw[ml]at this;exact(ox this).symm
    obtain⟨hym,hyf⟩:=List.mem_filter.mp hy;have hyf':y.2=.free:=by simpa using hyf
    have hxm:(x,NameKind.free)∈sc.names:=by
     rw[←hyx,←hyf'];exact hym
    obtain⟨hN,_⟩:=tH hy2;rw[hyx]at hN hy2;have hσ:σ[j]?=some (some v):=by
     rw[o6]at h2;cases q2:σ[j]? with
     |none=>rw[q2]at h2;cases h2
     |some o=>rw[q2]at h2;simp only[Option.getD_some]at h2;rw[h2]
    obtain⟨m0,_,hl⟩:=I.loc;have l0:=cs.fre _ hym hyf'
    rw[hyx]at l0;obtain⟨u,ru,lk⟩:=hl j x v (by rw[h.N];exact hN) hσ (h.vis (.inr l0))
    refine⟨u,ru,.inr ?_⟩;have kd:=h.kd x
    have notloc:X.env.kindOf x≠some .local:=by
     rcases l0 with z|z
     ·rw[z]at kd;intro w;rw[kd]at w;cases w
     ·rw[z]at kd;intro w
      rcases kd with kd|kd<;>(rw[kd]at w;cases w)
    rcases lk with ⟨z,_⟩|⟨_,cc,e1,e2⟩
    ·exact absurd z notloc
    ·obtain⟨a,ha⟩:=bj x hxm;have ea:=ak x a ha
     rw[e1]at ea;cases ea;refine⟨?_,cc,ha,?_⟩
     ·show (relabel sc X.env).names.lookup x=some .cell∨(relabel sc X.env).names.lookup x=some .free
      rw[fS];have hlk:sc.names.lookup x=some .free:=cs.fl _ hxm rfl
      rw[hlk];simp only[qt];split
      ·exact .inl rfl
      ·exact .inr rfl
     ·obtain⟨o,h5,h6⟩:=e2;exact⟨o,hk _ _ h5,h6⟩⟩
 cell:=fun x a e=>by
  obtain⟨v,o,h5,h6⟩:=I.cell x a (ak x a e);exact⟨v,o,hk _ _ h5,h6⟩
 free:=I.hok.fresh hC
 freeC:=fun x a e=>I.freeC x a (ak x a e)
 pin:=fun p hp=>absurd (show p∈([]:sv) from hp) (by simp)
 hok:=I.hok.kept hk
 len:=by simp[eJ,yT]
end
section
variable {CX:ao}{X:Cx}{c:CC}{G:GS}{T:Tx}{lv:Nat}{pins:sv}{σ:L2.St}{H:Hp}{s:Shared}
theorem yU{f:D→Option (Option D)}{d:D}{r out:List D}(h:bQ f (d::r)=some out):∃o t,f d=some o∧bQ f r=some t∧out=(match o with|some y=>y::t|none=>t):=by
 simp only[bQ,oi,o9]at h;obtain⟨o,h1,t,h2,h3⟩:=h;refine⟨o,t,h1,h2,?_⟩;cases o<;>simp at h3<;>exact h3.symm
def TurnOk(CX:ao)(G:GS)(T:Tx)(lv:Nat)(c':CC)(K:so)(ifs:List Expr)(elt:Expr)(ρ1:List Sl)(o:Option D):Prop:=
 ∀(X':Cx) (S:Addr→Prop),XC CX X' c' G T lv→X'.K=K →
  ((ifs=[]∧o.isSome=true)∨∃e,ifs=[e]∧PT X' e (d7 X'.K T S ρ1 o.isSome))∧∀y,o=some y→PE X' elt (tD X'.K T S ρ1 y)
theorem qK(h:XC CX X c G T lv){sc:Scope}(cs:ay c sc){tg iter elt:Expr}{ifs:List Expr}{pos:Pos}{cl:List (Str×Addr)}{fr:List (Nat×Nat)}{av:List Nat}{tp:Bool}{ρ:List Sl}{S:Addr→Prop}
  {J:It} {fp:List Addr} {it:Addr} {tn:Nat→Heap→Prop} {ds outs:List D} {f:D→Option (Option D)} {RR:Value→Addr→Result→Shared→Prop} {E:su}
  (ar:freeOf c sc (sc.names.filter fun x=>x.2 == .free)=some fr) (lq:av.all (fun i=>(fr.lookup i).isNone)=true) (cq:bW { c with N:=ownNames sc,sc:=sc } tg=some (av,tp))
  (ak:∀x a,cl.lookup x=some a→X.env.cells.lookup x=some a) (bj:∀x,(x,NameKind.free)∈sc.names→∃a,cl.lookup x=some a)
  (I:Inv X pins σ H s) (re:RE X.K T H S ρ σ) (TU:Turn X.prog X.w X.K tg J fp it tn) (st:tn 0 s.heap) (hf:∀b∈fp,lW X pins H b) (i9:gz X.K T S H J ds) (hlen:ds.length≤sizeLine)
  (fh:bQ f ds=some outs) (c8:∀d o,f d=some o→∃ρ1,bB av tp d (frame (ownNames sc).length fr ρ)=some ρ1∧TurnOk CX G T lv { c with N:=ownNames sc,sc:=sc } X.K ifs elt ρ1 o)
  (hRR:∀(D C:Addr) (s':Shared) (H':Hp) (ys:List V) (m:t5),Inv X pins σ H' s'→aG H H'→H D=none→H' D=some (.lst ys)→aD X.K T (er H' D) S outs ys→s'.heap.Ns C m →
   (H' C=none∧C≠X.env.locals∧X.s₀.heap.objs.size≤C∧(∀x a,X.env.cells.lookup x=some a→a≠C)∧∀p∈X.pn++pins,p.1≠C)→RR (.ref D) C (.ok .next) s') :
  wpAny (model X.prog X.w) X.A (newList []) (fun acc s₃=>wpAny (model X.prog X.w) X.A (newFunctionEnv sc X.env.globals cl [] X.env.qual none .none (some X.env)) (fun cenv s₄ =>
   codeAny (model X.prog X.w) X.A (.compStart (.ListComp elt [⟨tg,iter,ifs,0⟩] sc pos) 0 (.ref it) acc { cenv with scope:=relabel sc X.env }) (RR acc cenv.locals) s₄) E s₃) E s:=by
 refine wpAny_newObj_type (wpAny_newFunctionEnv cs.nocell (by intro y hy;simp at hy) (fun h₁ hns₁ hsb₁=>?_) cs.kind)
 dsimp only at hns₁ hsb₁ ⊢;have I3:=I.lnew (t':=s.toks) (its:=[]) (ys:=[]) .nil (rz _)
 have cN:∀b∈fp,b<s.heap.objs.size:=fun b hb=>by
  obtain⟨o,e,_⟩:=TU.obj _ _ st b hb;exact p8 e
 generalize hD:s.heap.objs.size=D at *;generalize hs3:s.heap.push { cls:=.type "list",dict:=none,data:=.seq ([]:List Value).toArray }=h3 at *;have hC:h3.objs.size=D+1:=by rw[←hs3,size_push,hD]
 generalize j8:h3.objs.size=C at *;have iw:H D=none:=by rw[←hD];exact I.hok.fresh (oh _)
 have hKD:X.K.lookup D=none:=by
  cases q:X.K.lookup D with
  |none=>rfl
  |some o =>
   have e:=I.kIn D o q
   exact absurd (p8 e) (by rw[hD];exact ql _)
 have k3:∀b o,s.heap.get? b=some o→h3.get? b=some o:=fun b o e=>by rw[←hs3];exact om _ e
 have k4:∀b o,h3.get? b=some o→h₁.get? b=some o:=fun b o e=>hsb₁.extBut b o (by rw[←j8];exact qh (p8 e)) (om _ e)
 have jw:RE X.K T (upd H D (.lst [])) (fun a=>S a∨a=D) ρ σ:=re.gen (aI.add iw hKD) (fun a xs hs e _=>⟨.inl hs,by rw[aQ (bG e iw)];exact e⟩) fun a hs=>by
  rcases hs with z|z
  ·obtain⟨o,e⟩:=re.dom a z;exact⟨o,by rw[aQ (bG e iw)];exact e⟩
  ·subst z;exact⟨_,aV⟩
 have l7:∀b∈fp,lW X pins (upd H D (.lst [])) b:=fun b hb=>⟨by rw[aQ (qh (cN b hb))];exact(hf b hb).1,(hf b hb).2⟩
 have hfl3:∀b∈fp,b<h3.objs.size:=fun b hb=>by rw[j8,hC];exact Nat.lt_succ_of_lt (cN b hb)
 have loop:∀(E':su) (s4:Shared),s4={ s with heap:=h₁,toks:=s.toks+([]:List (Str×Value)).length } →
   codeAny (model X.prog X.w) X.A (.compLoop (.ListComp elt [⟨tg,iter,ifs,0⟩] sc pos) 0 (.ref it) (.ref D) (compEnvC sc cl C X.env)) (RR (.ref D) C) s4:=by
  rintro E' s4 rfl
  let EN:=notedBy (model X.prog X.w) X.A (compEnvC sc cl C X.env) fun e s'=>RR (.ref D) C (.error e) s'
  let Y:=yT X (ownNames sc) sc cl C { s with heap:=h3,toks:=s.toks } (upd H D (.lst [])) fp EN
  have xY:XC CX Y { c with N:=ownNames sc,sc:=sc } G T lv:=OQ h cs
  have J0:Inv Y [] (eJ (ownNames sc).length fr σ) (upd H D (.lst [])) { s with heap:=h₁,toks:=s.toks+([]:List (Str×Value)).length }:=
   NJ h I3 cs ar ak bj l7 hfl3 (by show h3.objs.size≤C;rw[j8];exact oh _) hns₁ k4 rfl I3.bare
  have dc:∀{H':Hp},(∀b∈fp,H' b=none)→∀b∈fp,lW Y [] H' b:=fun hn b hb =>
   ⟨hn b hb,((lR (E:=EN) (N':=ownNames sc) I3 cs.kind (show h3.objs.size≤C by rw[j8];exact oh _) ak bj cs.nocell l7 hfl3).exf b hb).1,
    (lR (E:=EN) (N':=ownNames sc) I3 cs.kind (show h3.objs.size≤C by rw[j8];exact oh _) ak bj cs.nocell l7 hfl3).exfs b hb,.inl hb,
    ((lR (E:=EN) (N':=ownNames sc) I3 cs.kind (show h3.objs.size≤C by rw[j8];exact oh _) ak bj cs.nocell l7 hfl3).exf b hb).2,fun p hp=>absurd (show p∈([]:sv) from hp) (by simp)⟩
  have hn':∀(σ':L2.St) (H':Hp),aG H H'→(∃ys,H' D=some (.lst ys))→σ'.length=(ownNames sc).length→(∀j,j∉av→σ'[j]?=(eJ (ownNames sc).length fr σ)[j]?) →
    RE X.K T H' (fun a=>S a∨a=D) (frame (ownNames sc).length fr ρ) σ':=fun σ' H' sm hys hl ag=>by
   have r0:=NY (n:=(ownNames sc).length) (fr:=fr) re
   have mv:aI X.K H H' S (fun a=>S a∨a=D):=fun a n hh=>by
    have ne:a≠D:=by
     rintro rfl
     rcases hh with ⟨u,e⟩|⟨u,e⟩
     ·rw[iw]at e;cases e
     ·rw[hKD]at e;cases e
    exact⟨fun z=>z.elim n ne,fun o e=>sm a o e⟩
   refine⟨fun a hs=>?_,by simp[frame,hl],fun j sl e=>?_⟩
   ·rcases hs with z|z
    ·obtain⟨o,e⟩:=re.dom a z;exact⟨o,sm a o e⟩
    ·subst z;obtain⟨ys,e⟩:=hys;exact⟨_,e⟩
   ·have h0:=r0.at_ j sl e
    by_cases hj:j∈av
    ·have hu:sl=.un:=by
      unfold frame at e;rw[oe]at e;cases hr:(List.range (ownNames sc).length)[j]? with
      |none=>rw[hr]at e;cases e
      |some k =>
       have ek:k=j:=by
        obtain⟨_,e'⟩:=o5.mp hr;simpa using e'.symm
       subst ek;rw[hr]at e;simp only[qt,o7]at e;have:=all_eq_true.mp lq k hj
       cases q:fr.lookup k with
       |none =>
        rw[q]at e;simpa using e.symm
       |some z=>rw[q]at this;simp at this
     subst hu;trivial
    ·rw[ag j hj];cases sl with
     |un=>trivial
     |im d=>obtain⟨v,e1,r⟩:=h0;exact⟨v,e1,Rep.gen mv d v r⟩
     |mu ds'=>obtain⟨p,xs,e1,sp,hp,r⟩:=h0;exact⟨p,xs,e1,.inl sp,sm _ _ hp,r.gen mv⟩
  refine vY (fun k s'=>∃(i:Nat) (σ':L2.St) (H':Hp) (ys:List V) (pre post:List Z.D),k=ds.length+1-i∧i≤ds.length∧Inv Y [] σ' H' s'∧tn i s'.heap∧(∀b∈fp,H' b=none) ∧
   aG H H'∧H' D=some (.lst ys)∧aD X.K T H' (fun a=>S a∨a=D) pre ys∧ys.length≤i∧outs=pre++post∧bQ f (ds.drop i)=some post ∧
   σ'.length=(ownNames sc).length∧(∀j,j∉av→σ'[j]?=(eJ (ownNames sc).length fr σ)[j]?)) ?_ (ds.length+1)
   ⟨0,_,_,[],[],outs,rfl,rz _,J0,TU.keep _ _ _ st fun b _ o e=>k4 b o (k3 b o e),fun b hb=>(l7 b hb).1,aG.upd iw,aV,aD.nil,oh _,rfl,by simpa using fh,by simp[eJ],fun _ _=>rfl⟩
  rintro k s' ⟨i,σ',H',ys,pre,post,rfl,hi,IY,sti,fri,same,hHD,rp,lp,ho,eu,hlσ,hag⟩;have rei:=hn' σ' H' same ⟨ys,hHD⟩ hlσ hag
  have mv:aI X.K H H' S (fun a=>S a∨a=D):=fun a n hh=>by
   have ne:a≠D:=by
    rintro rfl
    rcases hh with ⟨u,e⟩|⟨u,e⟩
    ·rw[iw]at e;cases e
    ·rw[hKD]at e;cases e
   exact⟨fun z=>z.elim n ne,fun o e=>same a o e⟩
  obtain⟨it1,it2⟩:=i9 H' _ mv rei.dom
  by_cases fz:i<ds.length
  ·obtain⟨d,hd⟩:∃d,ds[i]?=some d:=⟨ds[i],by simp[fz]⟩
   have hdr:ds.drop i=d::ds.drop (i+1):=by
    obtain⟨h1,h2⟩:=o5.mp hd;rw[←h2];exact List.drop_eq_getElem_cons h1
   rw[hdr]at eu;obtain⟨o,t,hfd,ht,hpost⟩:=yU eu;obtain⟨ρ1,hb,hok⟩:=c8 d o hfd;obtain⟨go,yl⟩:=it1 i d hd;refine af (TU.item Y rfl rfl rfl h.calm i [] s' σ' H' EN IY (dc fri) sti go) fun r s5 ⟨u,hr,h5⟩=>?_
   subst hr;refine af h5 fun _ s6 ⟨x,H6,I6,r6,y6,st6,cW⟩=>?_
   obtain⟨kn,rd6⟩:=yl x H6 y6;have I6':=I6.pinned (dc cW) (TU.obj _ _ st6)
   have hD6:H6 D=some (.lst ys):=kn _ _ hHD
   refine af (UM xY (S:=fun a=>S a∨a=D) cq hb _ s6 σ' H6 x u (fun σ2 H2=>H2=H6∧RE X.K T H6 (fun a=>S a∨a=D) ρ1 σ2∧∀j,j∉av→σ2[j]?=σ'[j]?) I6' r6
    ⟨rei.same kn,rd6,fun σ7 kx ag7=>⟨rfl,kx,ag7⟩⟩) fun _ s7 ⟨σ7,H7,I7,e7,kx,ag7⟩=>?_
   subst e7;have next:∀(s9:Shared) (H9:Hp) (dw:List V) (pre':List Z.D),Inv Y ([]++mE fp s6.heap) σ7 H9 s9→aG H H9→H9 D=some (.lst dw)→aD X.K T H9 (fun a=>S a∨a=D) pre' dw→dw.length≤i+1→outs=pre'++t →
     ∃m,m<ds.length+1-i∧∃(i:Nat) (σ':L2.St) (H':Hp) (ys:List V) (pre post:List Z.D),m=ds.length+1-i∧i≤ds.length∧Inv Y [] σ' H' s9∧tn i s9.heap∧(∀b∈fp,H' b=none) ∧
      aG H H'∧H' D=some (.lst ys)∧aD X.K T H' (fun a=>S a∨a=D) pre ys∧ys.length≤i∧outs=pre++post∧bQ f (ds.drop i)=some post ∧
      σ'.length=(ownNames sc).length∧(∀j,j∉av→σ'[j]?=(eJ (ownNames sc).length fr σ)[j]?):=fun s9 H9 dw pre' I9 i6 hD9 rp9 hl9 ho9=>by
    refine⟨ds.length+1-(i+1),by omega,i+1,σ7,H9,dw,pre',t,rfl,fz,I9.unpinned,?_,fun b hb=>?_,i6,hD9,rp9,hl9,ho9,ht,?_,fun j hj=>(ag7 j hj).trans (hag j hj)⟩
    ·exact TU.keep _ _ _ st6 fun b hb o e=>(I9.pin (b,o) (qj _ (qj _ (iB hb e)))).1
    ·obtain⟨o,e,_⟩:=TU.obj _ _ st6 b hb;exact(I9.pin (b,o) (qj _ (qj _ (iB hb e)))).2.1
    ·have l1:=kx.len
     have l2:=I9.len
     exact l2
   obtain⟨bz,helt⟩:=hok Y (fun a=>S a∨a=D) xY rfl
   have fin:∀(s8:Shared) (H8:Hp),Inv Y ([]++mE fp s6.heap) σ7 H8 s8→aG H7 H8 →
     (if o.isSome=true then wpAny (model X.prog X.w) X.A (eval elt (compEnvC sc cl C X.env)) (fun x s₄=>wpAny (model X.prog X.w) X.A (call (.builtin "list.append") [.ref D,x]) (fun _ s₅=>∃m,m<ds.length+1-i∧∃(i:Nat) (σ':L2.St) (H':Hp) (ys:List V) (pre post:List Z.D),m=ds.length+1-i∧i≤ds.length∧Inv Y [] σ' H' s₅∧tn i s₅.heap∧(∀b∈fp,H' b=none) ∧
      aG H H'∧H' D=some (.lst ys)∧aD X.K T H' (fun a=>S a∨a=D) pre ys∧ys.length≤i∧outs=pre++post∧bQ f (ds.drop i)=some post ∧
      σ'.length=(ownNames sc).length∧(∀j,j∉av→σ'[j]?=(eJ (ownNames sc).length fr σ)[j]?)) EN s₄) EN s8
     else ∃m,m<ds.length+1-i∧∃(i:Nat) (σ':L2.St) (H':Hp) (ys:List V) (pre post:List Z.D),m=ds.length+1-i∧i≤ds.length∧Inv Y [] σ' H' s8∧tn i s8.heap∧(∀b∈fp,H' b=none) ∧
      aG H H'∧H' D=some (.lst ys)∧aD X.K T H' (fun a=>S a∨a=D) pre ys∧ys.length≤i∧outs=pre++post∧bQ f (ds.drop i)=some post ∧
      σ'.length=(ownNames sc).length∧(∀j,j∉av→σ'[j]?=(eJ (ownNames sc).length fr σ)[j]?)):=fun s8 H8 I8 fw=>by
    have smH8:aG H H8:=same.trans (kn.trans fw)
    cases o with
    |none =>
     rw[if_neg (by simp)]
     refine next s8 H8 ys pre I8 smH8 (fw _ _ hD6) ((rp.same kn).same fw) (le_succ_of_le lp) ?_
     rw[ho,hpost]
    |some y =>
     rw[if_pos (show (some y).isSome=true from rfl)]
     refine af (helt y rfl _ s8 σ7 H8 (fun v H9=>aG H8 H9∧Rep X.K T H9 (fun a=>S a∨a=D) y v) I8 ⟨kx.same fw,fun v H9 i6 rv=>⟨i6,rv⟩⟩) fun u9 s9 ⟨v,H9,I9,r9,i6,rv⟩=>?_
     have hD9:H9 D=some (.lst ys):=i6 _ _ (fw _ _ hD6)
     refine af (rT (X:=Y) _ s9 σ7 H9 (.ref D) [v] (.ref D) [u9] (fun _ H10=>H10=upd H9 D (.lst (ys++[v]))) I9 rfl (.cons r9 .nil) ⟨D,ys,v,rfl,rfl,hD9,by omega,rfl⟩) fun _ b7 ⟨_,H10,I10,_,e10⟩=>?_
     subst e10;have smD:aG H (upd H9 D (.lst (ys++[v]))):=fun b ob e=>by
      rw[aQ (bG e iw)];exact i6 _ _ (smH8 _ _ e)
     have mvD:aI X.K H9 (upd H9 D (.lst (ys++[v]))) (fun a=>S a∨a=D) (fun a=>S a∨a=D):=fun a n _=>⟨n,fun ob e=>by rw[aQ (fun z=>n (.inr z))];exact e⟩
     refine next b7 _ (ys++[v]) (pre++[y]) I10 smD aV ?_ (by rw[pv];simp;omega) ?_
     ·exact aD.gen mvD _ _ (aD.app (((rp.same kn).same fw).same i6) (aD.cons rv aD.nil))
     ·rw[ho,hpost,List.append_assoc];rfl
   rcases bz with ⟨hifs,hsome⟩|⟨e,hifs,hpt⟩
   ·subst hifs;refine wpAny_tests_nil ?_;have z:=fin s7 H7 I7 (aG.refl _)
    rw[hsome]at z;exact z
   ·subst hifs;refine wpAny_tests_one (af (hpt _ s7 σ7 H7 (fun b H8=>b=o.isSome∧aG H7 H8) I7 ⟨kx,fun H8 fw=>⟨rfl,fw⟩⟩) fun b s8 ⟨H8,I8,eb,fw⟩=>?_)
    subst eb;exact fin s8 H8 I8 fw
  ·have ei:i=ds.length:=by omega
   subst ei;refine af (TU.done Y rfl rfl rfl h.calm ds.length [] s' σ' H' EN IY (dc fri) sti (it2 _ (oh _))) fun r s5 ⟨hr,I5⟩=>?_
   subst hr;have hp0:post=[]:=by
    rw[List.drop_length]at eu;simp only[bQ,o7]at eu;exact eu.symm
   subst hp0;rw[q9]at ho;subst ho;obtain⟨m,hnC,_⟩:=I5.loc;have I9:Inv X pins σ H' s5:=I3.call' I5.os I5.base I5.hok I5.bare fun b hb=>⟨(hf b hb).2.2.2.1,(hf b hb).2.1,(hf b hb).2.2.2.2.1,(hf b hb).2.2.2.2.2⟩
   have hCs:s.heap.objs.size≤C:=by rw[hD,hC];exact qv _
   refine hRR D C s5 H' ys m I9 same iw hHD (aD.disown (p:=D) (.inr rfl) (fun a z=>.inl z) rp) hnC ⟨I5.free,?_,p9 I.sz hCs,fun x a e=>?_,fun p hp=>?_⟩
   ·intro z;have:=I.lt
    rw[←z]at this;exact absurd this (not_lt.mpr hCs)
   ·intro z;obtain⟨v,ob,h5,_⟩:=I.cell x a e;rw[z]at h5;exact absurd (p8 h5) (not_lt.mpr hCs)
   ·intro z;have:=(I.pin p hp).1
    rw[z]at this;exact absurd (p8 this) (not_lt.mpr hCs)
 exact codeAny_compStart_list (loop E _ rfl) (TU.self X.A 0 _ _ _ (TU.keep _ _ _ st fun b _ o e=>k4 b o (k3 b o e)) (loop E _ rfl))
end
section
variable {CX:ao}{X:Cx}{c:CC}{G:GS}{T:Tx}{lv:Nat}{ρ:List Sl}{S:Addr→Prop}{tg:Expr}
theorem ND{H1:Hp}{a:Addr}{xs:List V}{ds:List D}(n:¬S a)(hq:SqL X.K H1 a xs)(r:aD X.K T H1 S ds xs):gz X.K T S H1 (Itl X.K a) ds:=fun H S' mv dom=>by
 obtain⟨n',k⟩:=mv a n (SqL.has hq);have cf:=SqL.keeps hq k
 refine⟨fun i d e=>?_,fun i hi=>⟨xs,cf,by rw[←r.len];exact hi⟩⟩
 obtain⟨x,e1,rx⟩:=r.get e;refine⟨⟨xs,x,cf,e1⟩,fun y H' ⟨eH,ey⟩=>?_⟩
 subst eH;have:=ey xs cf
 rw[e1]at this;cases this;exact⟨aG.refl _,Rep.gen mv d x rx⟩
theorem WI{H1:Hp}{a:Addr}{xs:List V}{ds:List D}(n:¬S a)(hq:SqT X.K H1 a xs)(r:aD X.K T H1 S ds xs):gz X.K T S H1 (Itt X.K a) ds:=fun H S' mv dom=>by
 obtain⟨n',k⟩:=mv a n (SqT.has hq);have cf:=SqT.keeps hq k
 refine⟨fun i d e=>?_,fun i hi=>⟨xs,cf,by rw[←r.len];exact hi⟩⟩
 obtain⟨x,e1,rx⟩:=r.get e;refine⟨⟨xs,x,cf,e1⟩,fun y H' ⟨eH,ey⟩=>?_⟩
 subst eH;have:=ey xs cf
 rw[e1]at this;cases this;exact⟨aG.refl _,Rep.gen mv d x rx⟩
theorem CZ{H1:Hp}{lo hi:Int}:gz X.K T S H1 (kh lo (hi-lo).toNat) (eA lo hi):=fun H S' mv dom=>by
 refine⟨fun i d e=>?_,fun i h=>by
  show (hi-lo).toNat≤i
  unfold eA at h;rw[og,p5]at h;exact h⟩
 unfold eA at e;rw[oe]at e;cases hr:(List.range (hi-lo).toNat)[i]? with
 |none=>rw[hr]at e;cases e
 |some k =>
  obtain⟨h1,e'⟩:=o5.mp hr;have ek:k=i:=by simpa using e'.symm
  subst ek;rw[hr]at e;simp only[qt,o7]at e;subst e;refine⟨by show k<(hi-lo).toNat;simpa using h1,fun y H' ⟨eH,ey⟩=>?_⟩
  subst eH ey;exact⟨aG.refl _,by unfold Rep;rfl⟩
theorem UH{l:Expr}{d:D}{ds:List D}(hl:PE X l (tD X.K T S ρ d))(hi:items .seq d=some ds):PI X tg l (tI X.K T S ρ ds):=by
 intro pins s σ H R I ⟨re,q⟩;refine af (hl pins s σ H (fun v H'=>aG H H'∧Rep X.K T H' S d v) I ⟨re,fun v H' a b=>⟨a,b⟩⟩) fun v s1 ⟨x,H1,I1,r1,sm,rep⟩=>?_
 have golist:∀(a:Addr) (xs:List V),x=.ref a→¬S a→SqL X.K H1 a xs→aD X.K T H1 S ds xs→wpAny (model X.prog X.w) X.A (pyIter v) (PIE X pins σ tg R) X.xe s1:=fun a xs e n hq r=>by
  subst e;cases r1;obtain⟨its,rv,p,hz⟩:=I1.list hq;refine wpAny_pyIter_list p.isList ?_;refine⟨s1.heap.objs.size,[s1.heap.objs.size],_,_,H1,rfl,I1.kept (t':=s1.toks) fun b o e=>om _ e,rK a _,⟨_,qr _ rfl,rfl,rfl⟩,fun b hb=>?_,q _ _ sm (ND n hq r) (by rw[r.len];exact hz)⟩
  have e:b=s1.heap.objs.size:=by simpa using hb
  subst e;exact I1.fpOk (oh _) (I1.hok.fresh (oh _))
 cases d<;>simp only[items,ZO,reduceCtorEq,o7]at hi
 ·subst hi;unfold Rep at rep;obtain⟨a,xs,e,n,hq,r⟩:=rep;exact golist a xs e n (SqL.of hq) r
 ·subst hi;unfold Rep at rep;obtain⟨a,xs,e,n,hq,r⟩:=rep;subst e;cases r1;obtain⟨its,rv,p,hz⟩:=I1.tuple hq;refine wpAny_pyIter_tuple (show s1.heap.IsTuple a its.toArray from p) ?_
  refine⟨s1.heap.objs.size,[s1.heap.objs.size],_,_,H1,rfl,I1.kept (t':=s1.toks) fun b o e=>om _ e,zJ a _,⟨_,qr _ rfl,rfl,rfl⟩,fun b hb=>?_,q _ _ sm (WI n hq r) (by rw[r.len];exact hz)⟩
  have e:b=s1.heap.objs.size:=by simpa using hb
  subst e;exact I1.fpOk (oh _) (I1.hok.fresh (oh _))
 ·subst hi;unfold Rep at rep;obtain⟨a,xs,e,n,hq,r⟩:=rep;exact golist a xs e n hq r
theorem rQ{lo hi:Int}(h:(hi-lo).toNat≤big):(eA lo hi).length≤sizeLine:=by
 unfold eA;rw[og,p5];exact p9 h iM
theorem iY{i:Int}(h:fY i=true):-(2 ^ 62)≤i∧i<2 ^ 62:=by
 unfold fY at h;rw[ow]at h;exact⟨of_decide_eq_true h.1,of_decide_eq_true h.2⟩
theorem UI{args:List Expr}{p pos:Pos}{as ds:List D}(hg:Gl X "range")(hm:X.mg "range" = none)(ha:PA X args (b9 X.K T S ρ as))(hs:starEach args X.env=args.map fun e=>(false,eval e X.env))(hi:items .rng (.tup as)=some ds)(hlen:as.length=args.length) :
  PI X tg (.Call (.Name "range" p) args [] pos) (tI X.K T S ρ ds):=by
 simp only[items]at hi;unfold NG at hi;split at hi
 ·rename_i j;split at hi
  ·rename_i hc;rw[ow]at hc;cases hi;obtain⟨b1,b2⟩:=iY hc.1
   match args,hlen with
   |[a],_ =>
    intro pins s σ H R I ⟨re,q⟩;refine HI hg hm ha hs pins s σ H R I ⟨re,fun vs H' sm r=>?_⟩
    unfold aD at r;obtain⟨x,r',rfl,rx,rr⟩:=r;unfold aD at rr;subst rr;unfold Rep at rx;subst rx;refine⟨j,rfl,b1,b2,?_⟩;have hz:=rQ (lo:=0) (hi:=j) (by simpa using of_decide_eq_true hc.2)
    have:=q (kh 0 (j-0).toNat) H' sm CZ hz
    simpa using this
  ·cases hi
 ·rename_i i j;split at hi
  ·rename_i hc;rw[ow,ow]at hc;cases hi;obtain⟨b1,b2⟩:=iY hc.1.1;obtain⟨b3,b4⟩:=iY hc.1.2
   match args,hlen with
   |[a,b],_ =>
    intro pins s σ H R I ⟨re,q⟩;refine HG hg hm ha hs (by
     have h2:=congrArg List.tail hs
     have e:starEach [a,b] X.env=(false,eval a X.env)::starEach [b] X.env:=by
      cases a<;>first|rfl|(simp[starEach]at hs)
     rw[e]at h2;exact h2) pins s σ H R I ⟨re,fun vs H' sm r=>?_⟩
    unfold aD at r;obtain⟨x,r',rfl,rx,rr⟩:=r;unfold aD at rr;obtain⟨y,r'',rfl,ry,rr⟩:=rr;unfold aD at rr;subst rr;unfold Rep at rx ry;subst rx ry;exact⟨i,j,rfl,⟨b1,b2,b3,b4⟩,q _ H' sm CZ (rQ (of_decide_eq_true hc.2))⟩
  ·cases hi
 ·cases hi
theorem qB(h:XC CX X c G T lv){pins:sv}{σ:L2.St}{H:Hp}{s:Shared}(I:Inv X pins σ H s){sc:Scope}(cs:ay c sc):∀x∈sc.names,x.2=.free→∃a,X.env.cells.lookup x.1=some a:=fun x hx hf=>by
 refine I.ok.has x.1 ?_;have k:=h.kd x.1
 rcases cs.fre x hx hf with e|e
 ·rw[e]at k;exact .inl k
 ·rw[e]at k
  rcases k with k|k
  ·exact .inr k
  ·exact .inl k
theorem UO(h:XC CX X c G T lv){sc:Scope}(chk:kO c sc=true){iter elt:Expr}{ifs:List Expr}{pos:Pos}{fr:List (Nat×Nat)}{av:List Nat}{tp:Bool}{ds outs:List D}{f:D→Option (Option D)}
  (ar:freeOf c sc (sc.names.filter fun x=>x.2 == .free)=some fr) (lq:av.all (fun i=>(fr.lookup i).isNone)=true) (cq:bW { c with N:=ownNames sc,sc:=sc } tg=some (av,tp))
  (hi:PI X tg iter (tI X.K T S ρ ds)) (hs:∀x,foldedSetIterable iter X.env x=pure x)
  (fh:bQ f ds=some outs) (c8:∀d o,f d=some o→∃ρ1,bB av tp d (frame (ownNames sc).length fr ρ)=some ρ1∧TurnOk CX G T lv { c with N:=ownNames sc,sc:=sc } X.K ifs elt ρ1 o) :
  PE X (.ListComp elt [⟨tg,iter,ifs,0⟩] sc pos) (dj X.K T S ρ outs):=by
 intro pins s σ H Q I ⟨re,q⟩;have cs:=sJ chk
 obtain⟨cl,hclos,ak,bj⟩:=qM (qB h I cs);rw[eval_ListComp];refine wpAny_comprehension_free (use:=none) rfl hs hclos cs.kind cs.loc (af (hi pins s σ H (fun J H2=>aG H H2∧gz X.K T S H2 J ds∧ds.length≤sizeLine) I ⟨re,fun J H2 a b z=>⟨a,b,z⟩⟩) fun v s1 h1=>af h1 fun itv s2 h2=>?_)
 obtain⟨it,fp,tn,J,H2,e,I2,TU,i5,f2,sm,i9,hlen⟩:=h2;subst e;refine qK (RR:=fun acc C=>compPost (model X.prog X.w) X.A X.xe none (EP X pins σ Q) acc C) h cs ar lq cq ak bj I2 (re.same sm) TU i5 f2 i9 hlen fh c8 ?_
 intro D C s' H' ys m I' sm' hD hD' rp hn ⟨c1,c2,c3,c4,c5⟩;refine⟨m,hn,fun h' bg=>⟨.ref D,H',I'.turned (t':=s'.toks) (fun b o hb e=>bg.extBut b o hb e) c1 c2.symm.symm (.inr c3) c4 c5,rfl,?_⟩⟩
 exact q D ys H' (sm.trans sm') (sm.free hD) hD' rp
theorem CG(h:XC CX X c G T lv){sc:Scope}(chk:kO c sc=true){iter elt:Expr}{ifs:List Expr}{pos spos px:Pos}{fr:List (Nat×Nat)}{av:List Nat}{tp:Bool}{ds outs:List D}{f:D→Option (Option D)}{x:Str}{i:Nat}
  (ar:freeOf c sc (sc.names.filter fun x=>x.2 == .free)=some fr) (lq:av.all (fun i=>(fr.lookup i).isNone)=true) (cq:bW { c with N:=ownNames sc,sc:=sc } tg=some (av,tp))
  (hi:PI X tg iter (tI X.K T S ρ ds)) (hs:∀x,foldedSetIterable iter X.env x=pure x) (hx:eY c (.Name x px)=some i)
  (hsw:swapsWith (.ListComp elt [⟨tg,iter,ifs,0⟩] sc pos) (some (.Name x px)) spos.line X.env=pure true)
  (fh:bQ f ds=some outs) (c8:∀d o,f d=some o→∃ρ1,bB av tp d (frame (ownNames sc).length fr ρ)=some ρ1∧TurnOk CX G T lv { c with N:=ownNames sc,sc:=sc } X.K ifs elt ρ1 o) :
  PS X (.Assign [.Name x px] (.ListComp elt [⟨tg,iter,ifs,0⟩] sc pos) spos) (fun D σ H=>RE X.K T H S ρ σ∧∀p xs H',aG H H'→H p=none→H' p=some (.lst xs)→aD X.K T (er H' p) S outs xs→D.nx (σ.set i (some (.ref p))) H'):=by
 intro pins s σ H DD I ⟨re,q⟩;have cs:=sJ chk
 obtain⟨cl,hclos,ak,bj⟩:=qM (qB h I cs);rw[exec_Assign_Name_used _ _ _ _ hsw];refine qm (wpAny_standAt (qm ?_));show wpAny _ X.A (do let _ ←comprehension (.ListComp elt [⟨tg,iter,ifs,0⟩] sc pos) sc X.env _ (newList []) false (eval iter X.env) (some (assign (.Name x px) X.env))) _ _ s
 refine qm (qp (wpAny_comprehension_free (use:=some (assign (.Name x px) X.env)) (Q:=fun _ s'=>SP X pins DD .next s') rfl hs hclos cs.kind cs.loc
  (af (hi pins s σ H (fun J H2=>aG H H2∧gz X.K T S H2 J ds∧ds.length≤sizeLine) I ⟨re,fun J H2 a b z=>⟨a,b,z⟩⟩) fun v s1 h1=>af h1 fun itv s2 h2=>?_)) (fun _ s' hq=>qo (qo hq)) fun _ _ e=>e)
 obtain⟨it,fp,tn,J,H2,e,I2,TU,i5,f2,sm,i9,hlen⟩:=h2;subst e;refine qK (RR:=fun acc C=>compPost (model X.prog X.w) X.A X.xe (some (assign (.Name x px) X.env)) (fun _ s'=>SP X pins DD .next s') acc C) h cs ar lq cq ak bj I2 (re.same sm) TU i5 f2 i9 hlen fh c8 ?_
 intro D C s' H' ys m I' sm' hD hD' rp hn ⟨c1,c2,c3,c4,c5⟩;obtain⟨hN,hk⟩:=gT hx;obtain⟨hl,hf⟩:=h.loc hk;show wpAny _ X.A (assign (.Name x px) X.env (.ref D)) _ _ _
 refine wpAny_assign_Name (rN I' (by rw[h.N];exact h.nd) (by rw[h.N];exact hN) hl (v:=.ref D) (u:=.ref D) rfl (fun ku I'' ⟨a,sb,ha⟩=>?_) hf)
 have hCa:C≠a:=by
  rcases ha with z|z
  ·rw[z];exact c2
  ·exact fun w=>c4 x a z w.symm
 refine⟨m,hn.sameBut sb hCa,fun h' bg=>⟨_,H',I''.turned (t':=ku.toks) (fun b o hb e=>bg.extBut b o hb e) c1 c2 (.inr c3) c4 c5,q D ys H' (sm.trans sm') (sm.free hD) hD' rp⟩⟩
end
noncomputable def Itv(K:so)(a:Addr)(n:Nat):It:=
 ⟨fun i H=>∃xs x,SqL K H a xs∧xs.length=n∧xs[n-1-i]?=some x∧i<n,fun i H x H'=>H'=H∧∀xs,SqL K H a xs→xs[n-1-i]?=some x,fun i H=>n≤i⟩
theorem KA{P:sr}{w:World}{K:so}{tg:Expr}(a it:Addr)(n:Nat):Turn P w K tg (Itv K a n) [it] it (fun i h=>i≤n∧h.IsRevIter it a ((n:Int)-1-(i:Int))) where
 mem:=by simp
 obj:=fun i h st b hb=>by
  have e:b=it:=by simpa using hb
  subst e;obtain⟨_,o,e,c,d⟩:=st;exact⟨o,e,fun v z=>by rw[d]at z;cases z⟩
 keep:=fun i h h' st k=>⟨st.1,st.2.at fun o e=>k it (by simp) o e⟩
 item:=by
  intro X hP hw hK hc i pins s σ H E I hf st hg;subst hP hw hK;obtain⟨xs,x,hq,hn,hx,hi⟩:=hg;obtain⟨its,rv,p,hz⟩:=I.list hq;obtain⟨u,hu,ru⟩:=rv.get hx;obtain⟨f0,f1,f2,f3,f4,f5⟩:=hf it (by simp)
  have e1:(n:Int)-1-(i:Int)=((n-1-i:Nat):Int):=by omega
  have km:=st.2
  rw[e1]at km;refine wpAny_pyNext_rev_item km p.isList (x:=u) (by simpa using hu) fun h' d9 sb=>?_
  have I1:Inv X pins σ H { s with heap:=h' }:=I.turned (t':=s.toks) (fun b o hb e=>(sb.2 b hb).trans e) f0 f1 f3 f4 f5
  obtain⟨o,e,c,d⟩:=id d9;have e2:((n-1-i:Nat):Int)-1=(n:Int)-1-((i+1:Nat):Int):=by omega
  rw[e2]at d9;exact⟨u,rfl,DF (s:={ s with heap:=h' }) e c d (by decide) ⟨x,H,I1,ru,⟨rfl,fun ys hy=>by rw[I.list_inj hy hq];exact hx⟩,⟨hi,d9⟩,fun b hb=>(hf b hb).1⟩⟩
 done:=by
  intro X hP hw hK hc i pins s σ H E I hf st hg;subst hP hw hK;have j4:n≤i:=hg
  have ei:i=n:=Nat.le_antisymm st.1 j4
  subst ei;obtain⟨f0,f1,f2,f3,f4,f5⟩:=hf it (by simp)
  have e1:(i:Int)-1-(i:Int)=-1:=by omega
  have km:=st.2
  rw[e1]at km;exact wpAny_pyNext_rev_end (I.ok.hd hc) km fun h' eb=>⟨rfl,I.turned (t':=s.toks) (fun b o hb e=>eb b o hb e) f0 f1 f3 f4 f5⟩
 self:=fun _ _ _ _ _ st h=>wpAny_pyIter_revIter st.2 h
section
variable {CX:ao}{X:Cx}{c:CC}{G:GS}{T:Tx}{lv:Nat}{ρ:List Sl}{S:Addr→Prop}{tg:Expr}
theorem WJ{H1:Hp}{a:Addr}{xs:List V}{ds:List D}(n:¬S a)(hq:SqL X.K H1 a xs)(r:aD X.K T H1 S ds xs):gz X.K T S H1 (Itv X.K a xs.length) ds.reverse:=fun H S' mv dom=>by
 obtain⟨n',k⟩:=mv a n (SqL.has hq);have cf:=SqL.keeps hq k
 have hl:=r.len
 refine⟨fun i d e=>?_,fun i hi=>?_⟩
 ·have hi:i<ds.length:=by
   have:=(o5.mp e).1
   simpa using this
  rw[List.getElem?_reverse hi]at e;obtain⟨x,e1,rx⟩:=r.get e;rw[hl]at e1 hi;refine⟨⟨xs,x,cf,rfl,e1,hi⟩,fun y H' ⟨eH,ey⟩=>?_⟩
  subst eH;have:=ey xs cf
  rw[e1]at this;cases this;exact⟨aG.refl _,Rep.gen mv d x rx⟩
 ·show xs.length≤i
  rw[←hl];simpa using hi
theorem UJ{a:Expr}{p pos:Pos}{d:D}{ds:List D}(hg:Gl X "reversed")(hm:X.mg "reversed" = none)(ha:PA X [a] (b9 X.K T S ρ [d]))(hs:starEach [a] X.env=[(false,eval a X.env)])(hi:yC d=some ds) :
  PI X tg (.Call (.Name "reversed" p) [a] [] pos) (tI X.K T S ρ ds):=by
 intro pins s σ H R I ⟨re,q⟩;refine Call_ (iC I hg hm boot_reversed (pk (af (ha pos pins s σ H (fun vs H'=>aG H H'∧aD X.K T H' S [d] vs) I ⟨re,fun vs H' a b=>⟨a,b⟩⟩) fun us s1 ⟨vs,H1,I1,r1,sm,rl⟩=>?_) hs rfl))
 unfold aD at rl;obtain⟨x,r',rfl,rx,rr⟩:=rl;unfold aD at rr;subst rr;cases r1 with
 |cons r rr =>
  cases rr;cases d<;>simp only[yC,reduceCtorEq,o7]at hi
  rename_i ds';subst hi;unfold Rep at rx;obtain⟨l,xs,e,n,hq,rl⟩:=rx;subst e;cases r;obtain⟨its,rv,pl,hz⟩:=I1.list (SqL.of hq);have hlen:=rv.length
  refine call_reversed_list pl.isList ?_;have I2:Inv X pins σ H1 { s1 with heap:=s1.heap.push (revObj l ((its.toArray.size:Int)-1)) }:=I1.kept (t':=s1.toks) fun b o e=>om _ e
  have hri:({ s1 with heap:=s1.heap.push (revObj l ((its.toArray.size:Int)-1)) }:Shared).heap.IsRevIter s1.heap.objs.size l ((xs.length:Int)-1):=by
   refine⟨_,qr _ rfl,rfl,?_⟩;have:(its.toArray.size:Int)=(xs.length:Int):=by rw[ot,hlen]
   show Data.fields #[.ref l,rawInt ((its.toArray.size:Int)-1)]=_
   rw[this]
  refine wpAny_pyIter_revIter hri ?_;refine⟨s1.heap.objs.size,[s1.heap.objs.size],_,_,H1,rfl,I2,KA l _ xs.length,⟨rz _,by simpa using hri⟩,fun b hb=>?_,q _ _ sm (WJ n (SqL.of hq) rl) ?_⟩
  ·have e:b=s1.heap.objs.size:=by simpa using hb
   subst e;exact I1.fpOk (oh _) (I1.hok.fresh (oh _))
  ·rw[se,rl.len];exact hz
end
theorem FK:bootBuiltins "list" = some (.type "list"):=by decide +kernel
theorem HU:typeLookup (.type "list_reverseiterator") "__len__" = pure none:=by rw[typeLookup_type,builtinLookup_eq_fast];kernel_rfl
theorem NR:typeLookup (.type "list_reverseiterator") "__length_hint__" = pure (some (.builtin "list_reverseiterator.__length_hint__")):=by rw[typeLookup_type,builtinLookup_eq_fast];kernel_rfl
section
variable {prog:sr}{w:World}{A:Around}{E:su}{s:Shared}
theorem rC{Q:su}{I l:Addr}{items:Array Value}(hh:A.handled=none)(bu:l≠I)(hit:s.heap.IsRevIter I l ((items.size:Int)-1))(hl:s.heap.IsList l items)(hz:items.size≤sizeLine)
  (hQ:∀h' tk d5 c',(∀b o,b≠I→s.heap.get? b=some o→h'.get? b=some o)→h'.get? s.heap.objs.size=some { cls:=.type "list",dict:=none,data:=.seq d5 c',slots:=#[] } →
   d5=items.reverse→Q (.ref s.heap.objs.size) { s with heap:=h',toks:=tk }) :
  wpAny (model prog w) A (call (.type "list") [.ref I]) Q E s:=by
 refine callType_codes (Q₁:=fun obj s₁=>obj=.ref s.heap.objs.size∧s₁={ s with heap:=s.heap.push { cls:=.type "list",data:=.seq #[] } }) F.called_list (F.typeCall_list_1 _) F.entry_list_init
  (code_list_new _ ⟨rfl,rfl⟩) fun obj s₁ h₁=>?_
 obtain⟨rfl,rfl⟩:=h₁;have hIlt:I<s.heap.objs.size:=by obtain⟨o,e,_⟩:=hit;exact p8 e
 have hllt:l<s.heap.objs.size:=by obtain⟨o,e,_⟩:=hl;exact p8 e
 have hS:(s.heap.push { cls:=.type "list",data:=.seq #[] }).get? s.heap.objs.size=some { cls:=.type "list",data:=.seq #[] }:=qr _ rfl
 have hup:∀b o,s.heap.get? b=some o→(s.heap.push { cls:=.type "list",data:=.seq #[] }).get? b=some o:=fun b o e=>om _ e
 refine⟨⟨_,hS,rfl⟩,F.args_list_init_2 _ _,?_⟩;generalize hSe:s.heap.objs.size=S at *;generalize hs1:s.heap.push { cls:=.type "list",data:=.seq #[] }=h1 at *;have hSI:S≠I:=Nat.ne_of_gt hIlt
 have hSl:S≠l:=Nat.ne_of_gt hllt
 show wpAny _ _ (do let old ←Builtin.List.listItems (.ref S);Builtin.List.listUpdate (.ref S) (fun _=>#[]);letGo old.toList.reverse;Builtin.List.listExtendWith (.ref S) (.ref I) .none) _ _ _
 refine qm ?_;unfold Builtin.List.listItems;refine qm (wpAny_seqItems hS rfl (qo ?_));show wpAny _ _ (updateSeq S (fun _=>#[]) >>= fun _=>letGo (#[]:Array Value).toList.reverse >>= fun _=>Builtin.List.listExtendWith (.ref S) (.ref I) .none) _ _ _
 refine qm (wpAny_updateSeq hS rfl ?_);have hS₂:=Heap.get?_update_self (Obj.mapSeq (fun _=>(#[]:Array Value))) hS rfl
 have oth:∀b o,b≠S→h1.get? b=some o→(h1.update S (Obj.mapSeq (fun _=>(#[]:Array Value)))).get? b=some o:=
  fun b o hb e=>(Heap.get?_update_other _ _ (Ne.symm hb)).trans e
 refine qm (wpAny_letGo ?_);generalize h1.update S (Obj.mapSeq (fun _=>(#[]:Array Value)))=h2 at *
 have W:=(Walks.listRev (prog:=prog) (w:=w) (A:=A.in1.in1) hh I l bu items).toS
 have hit2:h2.IsRevIter I l ((items.size:Int)-1-((0:Nat):Int)):=by
  have e0:(items.size:Int)-1-((0:Nat):Int)=(items.size:Int)-1:=by omega
  rw[e0];exact hit.at fun o e=>oth I o (Ne.symm hSI) (hup _ _ e)
 have j3:h2.IsList l items:=hl.at fun o e=>oth l o (Ne.symm hSl) (hup _ _ e)
 have hT:({ s with heap:=h2 }:Shared).TypeIs (.ref I) "list_reverseiterator":=hit2.typeIs (s:={ s with heap:=h2 })
 have hSf:S∉[I,l]:=by simp[hSI,hSl]
 have hs1':Builtin.List.listSameRef (.ref S) (.ref I)=false:=by simp[Builtin.List.listSameRef,hSI]
 show wpAny _ _ (Builtin.List.listExtendWith (.ref S) (.ref I) .none) _ _ { s with heap:=h2 }
 unfold Builtin.List.listExtendWith;refine qm (wpAny_typeOf hT ?_);rw[if_neg (by rw[hs1'];decide)]
 refine qm (W.self 0 _ _ _ ⟨rz _,hit2,j3⟩ ?_);refine qm (wpAny_holding ?_);unfold Builtin.List.listLengthHint;refine qm (wpAny_specialOf hT HU ?_);show wpAny _ _ (specialOf (Value.ref I) (Str.ofString "__length_hint__") >>= _) _ _ _
 refine qm (wpAny_specialOf hT NR ?_)
 (generalize hid:("list_reverseiterator.__length_hint__":String)=id0;(fail_if_success (clear hid id0));wp_delta;rw[show splitId id0=some ("list_reverseiterator","__length_hint__") from by subst hid;decide +kernel];subst hid)
 refine qm (wpAny_isInstance (b:=true) hT (by rw[isSubtype_type];kernel_rfl) ?_)
 refine qo ?_;rw[if_neg (by decide)]
 refine qo ⟨plainId_quiet F.plain_extend_loop _,codeAny_extend_loopS W hz S hSf _ items.size 0 _ _ _ rfl (rz _) ⟨rz _,hit2,j3⟩ hS₂ (ItemsOf.nil _) fun s' d5 c' hm j7 hacc=>?_⟩
 refine⟨rfl,?_⟩;rw[Moved.eq_with hm];refine hQ s'.heap s'.toks d5 c' (fun b o hb e=>?_) j7 ?_
 ·have hbS:b≠S:=fun z=>by
   subst z;exact absurd (p8 e) (by rw[hSe];exact ql _)
  exact hm.heap b o (by simp[hbS,hb]) (oth b o hbS (hup _ _ e))
 ·obtain⟨hl1,j3⟩:=hacc;apply Array.ext
  ·rw[hl1,Array.size_reverse]
  ·intro i h3 h4;have h5:=j3 i d5[i] (Array.getElem?_eq_getElem h3)
   rw[Array.getElem_reverse];obtain⟨_,e⟩:=Array.getElem?_eq_some_iff.mp h5;exact e.symm
end
section
variable {CX:ao}{X:Cx}{c:CC}{G:GS}{T:Tx}{lv:Nat}{ρ:List Sl}{S:Addr→Prop}
theorem AA{a:Expr}{p pos p2 pos2:Pos}{d:D}{ds:List D}(hc:X.calm=true)(hg:Gl X "reversed")(hm:X.mg "reversed" = none)(iu:Gl X "list")(hml:X.mg "list" = none)(ha:PA X [a] (b9 X.K T S ρ [d]))(hs:starEach [a] X.env=[(false,eval a X.env)])(hi:yC d=some ds) :
  PE X (.Call (.Name "list" p2) [.Call (.Name "reversed" p) [a] [] pos] [] pos2) (dj X.K T S ρ ds):=by
 intro pins s σ H Q I ⟨re,q⟩;refine Call_ (iC I iu hml FK (pk (Calls.spliced_cons (Call_ (iC I hg hm boot_reversed (pk (af (ha pos pins s σ H (fun vs H'=>aG H H'∧aD X.K T H' S [d] vs) I ⟨re,fun vs H' a b=>⟨a,b⟩⟩) fun us s1 ⟨vs,H1,I1,r1,sm,rl⟩=>?_) hs rfl)))) rfl rfl))
 unfold aD at rl;obtain⟨x,r',rfl,rx,rr⟩:=rl;unfold aD at rr;subst rr;cases r1 with
 |cons r rr =>
  cases rr;cases d<;>simp only[yC,reduceCtorEq,o7]at hi
  rename_i ds';subst hi;unfold Rep at rx;obtain⟨l,xs,e,n,hq,rl⟩:=rx;subst e;cases r;obtain⟨its,rv,pl,hz⟩:=I1.list (SqL.of hq);have hlen:=rv.length
  refine call_reversed_list pl.isList ?_;refine Calls.spliced_nil ?_;have hllt:l<s1.heap.objs.size:=by obtain⟨o,e,_⟩:=pl.isList;exact p8 e
  refine rC (I:=s1.heap.objs.size) (items:=its.toArray) (I1.ok.hd hc) (qh hllt) ⟨_,qr _ rfl,rfl,rfl⟩ (pl.isList.at fun o e=>om _ e) (by rw[ot,←hlen];exact hz) fun h' tk d5 c' hk j7 hacc=>?_
  have e1:(s1.heap.push (revObj l ((its.toArray.size:Int)-1))).objs.size=s1.heap.objs.size+1:=size_push ..
  have I3:Inv X pins σ (upd H1 (s1.heap.push (revObj l ((its.toArray.size:Int)-1))).objs.size (.lst xs.reverse)) { s1 with heap:=h',toks:=tk }:=by
   refine I1.laid (fun b u e=>hk b u (qh (p8 e)) (om _ e)) (by rw[e1];exact qv _) ?_
   refine⟨by rw[se];exact hz,its.reverse,c',aR.reverse rv,?_⟩
   rw[j7,hacc];simp
  have ar:H1 (s1.heap.push (revObj l ((its.toArray.size:Int)-1))).objs.size=none:=I1.hok.fresh (by rw[e1];exact qv _)
  exact⟨.ref _,_,I3,rfl,q _ xs.reverse _ (sm.trans (aG.upd ar)) (sm.free ar) aV (by rw[jF ar];exact rl.rev)⟩
end
section
variable {CX:ao}{X:Cx}{c:CC}{G:GS}{T:Tx}{lv:Nat}{ρ:List Sl}{S:Addr→Prop}{pos:Pos}{ea eb ec:Expr}{a b d:D}
theorem SG{i:Nat}(h:slot ρ i=some d):ρ[i]?=some (.im d):=by
 unfold slot at h;split at h
 ·rename_i e;cases h;exact e
 ·cases h
theorem aHi(h:XC CX X c G T lv){x:Str}{i:Nat}(e:bD c x=some i)(hs:slot ρ i=some d):PE X (.Name x pos) (tD X.K T S ρ d):=by
 obtain⟨hN,hk⟩:=tH e;have hm:x∈c.N:=o8 hN
 refine PE.mono (tO (by rw[h.N];exact hN) (h.vis hk) (h.dbg x hm).1 (h.dbg x hm).2) fun σ H Q ⟨re,q⟩=>?_
 obtain⟨v,e1,r⟩:=re.at_ i _ (SG hs);exact⟨v,e1,q v H (aG.refl H) r⟩
theorem gB(h:XC CX X c G T lv){x:Str}{i:Nat}(e:bD c x=some i):PE X (.Name x pos) (GQ i):=by
 obtain⟨hN,hk⟩:=tH e;have hm:x∈c.N:=o8 hN
 exact tO (by rw[h.N];exact hN) (h.vis hk) (h.dbg x hm).1 (h.dbg x hm).2
theorem aHy(h:XC CX X c G T lv){x:Str}(e:aS c x=true)(hc:c.csts.contains x=true)(hd:G.cst x=some d):PE X (.Name x pos) (tD X.K T S ρ d):=by
 obtain⟨u,v,e1,r,hr⟩:=h.go.cst x d hd hc;intro pins s σ H Q I ⟨re,q⟩;exact gE I (h.glob e) e1 ⟨v,H,I,r,q v H (aG.refl H) (hr H S (ZM I) re.dom)⟩ (h.gne e)
theorem aHw{i:Int}{j:Nat}:PE X (.Constant (.int i) j pos) (tD X.K T S ρ (.int i)):=PE.mono LL fun σ H Q ⟨re,q⟩=>q _ H (aG.refl H) (by unfold Rep;rfl)
theorem aLb{i:Bool}{j:Nat}:PE X (.Constant (.bool i) j pos) (tD X.K T S ρ (.bl i)):=PE.mono ZE fun σ H Q ⟨re,q⟩=>q _ H (aG.refl H) (by unfold Rep;rfl)
theorem aHk{i:Str}{j:Nat}:PE X (.Constant (.str i) j pos) (tD X.K T S ρ (.str i)):=PE.mono aBC fun σ H Q ⟨re,q⟩=>q _ H (aG.refl H) (by unfold Rep;rfl)
theorem aHq{j:Nat}:PE X (.Constant .none j pos) (tD X.K T S ρ .non):=PE.mono aBE fun σ H Q ⟨re,q⟩=>q _ H (aG.refl H) (by unfold Rep;rfl)
theorem oX{o:O2}(hd:aj o a b=some d):∀σ H Q,tD X.K T S ρ d σ H Q→ic (rD X.K T S o) (tD X.K T S ρ a) (tD X.K T S ρ b) σ H Q:=fun σ H Q ⟨re,q⟩ =>
 ⟨re,fun x H1 s1 r1=>⟨re.same s1,fun y H2 s2 r2=>⟨a,b,d,((re.same s1).same s2).dom,r1.same s2,r2,hd,fun v H' s3 r3=>q v H' (s1.trans (s2.trans s3)) r3⟩⟩⟩
theorem aHD{op:Operator}{o:O2}(ho:UX op=some o)(ha:PE X ea (tD X.K T S ρ a))(hb:PE X eb (tD X.K T S ρ b))(hd:aj o a b=some d):PE X (.BinOp ea op eb pos) (tD X.K T S ρ d):=
 PE.mono (ZC (VC ho) ha hb) (oX hd)
theorem HK:au X (compareOp .IsNot) (rD X.K T S .isnot):=by
 rintro pins s σ H x y v u Q I rx ry ⟨a,b,d,dom,ra,rb,e,q⟩;have go:∀k,b=.non→k=decide (x=V.non)→d=.bl (!k)→wpAny (model X.prog X.w) X.A (compareOp .IsNot v u) (EP X pins σ Q) X.xe s:=fun k hb hk hd=>by
  subst hb hd hk;unfold Rep at rb;exact UU pins s σ H x y v u Q I rx ry ⟨rb,q _ H (aG.refl H) bZ⟩
 simp only[aj,MG,isD]at e;split at e<;>simp only[qt,Option.map_none,o7,reduceCtorEq]at e
 all_goals subst e
 all_goals first
  | (unfold Rep at ra;refine go _ rfl ?_ rfl;first|(subst ra;rfl)|(obtain⟨_,_,rfl,_⟩:=ra;rfl)|(obtain⟨_,_,_,_,rfl,_⟩:=ra;rfl))
  | (unfold Rep at ra rb
     subst ra rb;cases rx;cases ry;exact isnot_bool ⟨.bl _,H,I,rfl,q _ H (aG.refl H) bZ⟩)
theorem eP(hu:X.A.units+64<cLine)(op:CmpOp):au X (compareOp op) (rD X.K T S (kD op)):=by
 cases op
 ·exact aBW hu
 ·exact aBP hu
 ·exact aBQ
 ·exact aBR
 ·exact aBU
 ·exact aBV
 ·exact aBS
 ·exact HK
 ·exact aBT hu
 ·exact HJ hu
theorem aHC(hu:X.A.units+64<cLine){op:CmpOp}(ha:PE X ea (tD X.K T S ρ a))(hb:PE X eb (tD X.K T S ρ b))(hm:behindInMarks op eb=false)(hd:aj (kD op) a b=some d):PE X (.Compare ea [op] [eb] pos) (tD X.K T S ρ d):=
 PE.mono (UP (eP hu op) ha hb hm) (oX hd)
theorem aCl(hu:X.A.units+64<cLine){op:CmpOp}{k:Bool}(ha:PE X ea (tD X.K T S ρ a))(hb:PE X eb (tD X.K T S ρ b))(hm:behindInMarks op eb=false)(hd:aj (kD op) a b=some (.bl k)):PT X (.Compare ea [op] [eb] pos) (d7 X.K T S ρ k):=
 PT.mono (CF (eP hu op) ha hb hm) fun σ H Q ⟨re,q⟩=>oX hd σ H _ ⟨re,fun v H' sm r=>by
  unfold Rep at r;exact⟨k,r,q H' sm⟩⟩
theorem qO{o o':O2}{c':D}{k:Bool}(h1:aj o a b=some (.bl k))(h2:if k=true then aj o' b c'=some d else d=.bl false):∀σ H Q,tD X.K T S ρ d σ H Q→zM (rD X.K T S o) (rD X.K T S o') (tD X.K T S ρ a) (tD X.K T S ρ b) (tD X.K T S ρ c') σ H Q:=
 fun σ H Q ⟨re,q⟩=>⟨re,fun x H1 s1 r1=>⟨re.same s1,fun y H2 s2 r2=>⟨a,b,.bl k,((re.same s1).same s2).dom,r1.same s2,r2,h1,fun z H3 s3 r3=>by
  unfold Rep at r3;refine⟨k,r3,?_⟩;cases k with
  |true =>
   rw[if_pos rfl]at h2 ⊢;exact⟨((re.same s1).same s2).same s3,fun w' H4 s4 r4=>⟨b,c',d,(((re.same s1).same s2).same s3).same s4 |>.dom,(r2.same s3).same s4,r4,h2,fun v H' s5 r5=>q v H' (s1.trans (s2.trans (s3.trans (s4.trans s5)))) r5⟩⟩
  |false =>
   rw[if_neg oN]at h2 ⊢;subst h2;exact q _ H3 (s1.trans (s2.trans s3)) bZ⟩⟩⟩
theorem VU(hu:X.A.units+64<cLine){op c6:CmpOp}{c':D}{k:Bool}(ha:PE X ea (tD X.K T S ρ a))(hb:PE X eb (tD X.K T S ρ b))(hc:PE X ec (tD X.K T S ρ c'))(hm:lastMarks [op,c6] [eb,ec]=false)
  (h1:aj (kD op) a b=some (.bl k)) (h2:if k=true then aj (kD c6) b c'=some d else d=.bl false):PE X (.Compare ea [op,c6] [eb,ec] pos) (tD X.K T S ρ d):=
 PE.mono (xM (eP hu op) (eP hu c6) ha hb hc hm) (qO h1 h2)
theorem ML(hu:X.A.units+64<cLine){op c6:CmpOp}{c':D}{k k':Bool}(ha:PE X ea (tD X.K T S ρ a))(hb:PE X eb (tD X.K T S ρ b))(hc:PE X ec (tD X.K T S ρ c'))(hm:lastMarks [op,c6] [eb,ec]=false)
  (h1:aj (kD op) a b=some (.bl k)) (h2:if k=true then aj (kD c6) b c'=some (.bl k') else D.bl k'=.bl false):PT X (.Compare ea [op,c6] [eb,ec] pos) (d7 X.K T S ρ k'):=
 PT.mono (xG (eP hu op) (eP hu c6) ha hb hc hm) fun σ H Q ⟨re,q⟩=>qO h1 h2 σ H _ ⟨re,fun v H' sm r=>by
  unfold Rep at r;exact⟨k',r,q H' sm⟩⟩
theorem aHr{i:Int}(ha:PE X ea (tD X.K T S ρ (.int i))):PE X (.UnaryOp .USub ea pos) (tD X.K T S ρ (.int (-i))):=
 PE.mono (aGl aAL ha) fun σ H Q ⟨re,q⟩=>⟨re,fun x H1 s1 r1=>by
  unfold Rep at r1;exact⟨i,r1,q _ H1 s1 (by unfold Rep;rfl)⟩⟩
theorem _root_.Z.aD.emp{K:so}{H:Hp}{ds:List D}{xs:List V}(r:aD K T H S ds xs):ds.isEmpty=xs.isEmpty:=by
 have:=r.len
 cases ds<;>cases xs<;>simp_all
theorem aEw{H:Hp}{v:V}{k:Bool}(r:Rep X.K T H S a v)(h:b8 a=some k):aDh X.K v H k:=by
 cases a<;>simp only[b8,reduceCtorEq,o7]at h
 ·unfold Rep at r;subst r;exact h.symm
 ·unfold Rep at r;subst r;exact h.symm
 ·unfold Rep at r;subst r;exact h.symm
 ·unfold Rep at r;obtain⟨p,xs,rfl,_,e,rl⟩:=r;refine .inl ⟨xs,SqL.of e,?_⟩;rw[←h];rw[rl.emp]
 ·unfold Rep at r;obtain⟨p,xs,rfl,_,e,rl⟩:=r;refine .inr (.inl ⟨xs,e,?_⟩);rw[←h];rw[rl.emp]
 ·unfold Rep at r;obtain⟨p,xs,rfl,_,e,rl⟩:=r;refine .inl ⟨xs,e,?_⟩;rw[←h];rw[rl.emp]
theorem VS{k:Bool}(ha:PE X ea (tD X.K T S ρ a))(he:∀whole,isTrue ea X.env whole=(do let v ←whole;standAt ea.pos;holding [v] (truthy v)))(h:b8 a=some k):PT X ea (d7 X.K T S ρ k):=
 PT.mono (LD ha he) fun σ H Q ⟨re,q⟩=>⟨re,fun x H1 s1 r1=>⟨k,aEw r1 h,q H1 s1⟩⟩
theorem aCd{k:Bool}(ha:PT X ea (d7 X.K T S ρ k)):PT X (.UnaryOp .Not ea pos) (d7 X.K T S ρ (!k)):=PT.mono (zX ha) fun σ H Q ⟨re,q⟩=>⟨re,fun H1 s1=>q H1 s1⟩
theorem aHp{k:Bool}(ha:PE X ea (tD X.K T S ρ a))(h:b8 a=some k):PE X (.UnaryOp .Not ea pos) (tD X.K T S ρ (.bl (!k))):=by
 intro pins s σ H Q I ⟨re,q⟩;refine UnaryOp_ (af (ha pins s σ H (fun v H'=>aG H H'∧Rep X.K T H' S a v) I ⟨re,fun v H' a b=>⟨a,b⟩⟩) fun v s1 ⟨x,H1,I1,r1,sm,rx⟩=>?_)
 exact not_of (af (KB pins s1 σ H1 x v (fun b H2=>b=k∧H2=H1) I1 r1 ⟨k,aEw rx h,rfl,rfl⟩) fun b s2 ⟨H2,I2,eb,eH⟩=>by
  subst eb eH;exact⟨.bl (!b),H2,I2,rfl,q _ H2 sm bZ⟩)
theorem ZK{k:Bool}(hc:PT X ec (d7 X.K T S ρ k))(ha:k=true→PE X ea (tD X.K T S ρ d))(hb:k=false→PE X eb (tD X.K T S ρ d)):PE X (.IfExp ec ea eb pos) (tD X.K T S ρ d):=by
 cases k with
 |true =>
  refine PE.mono (xK hc (ha rfl) (tb:=fun _ _ _=>False) (fun _ _ _ _ _ _ h=>h.elim)) fun σ H Q ⟨re,q⟩=>⟨re,fun H1 s1=>?_⟩
  exact qZ ⟨re.same s1,fun v H' s2 r=>q v H' (s1.trans s2) r⟩
 |false =>
  refine PE.mono (xK hc (ta:=fun _ _ _=>False) (fun _ _ _ _ _ _ h=>h.elim) (hb rfl)) fun σ H Q ⟨re,q⟩=>⟨re,fun H1 s1=>?_⟩
  exact pT ⟨re.same s1,fun v H' s2 r=>q v H' (s1.trans s2) r⟩
theorem CS:PA X [] (b9 X.K T S ρ []):=PA.mono hV fun σ H Q ⟨re,q⟩=>q [] H (aG.refl H) aD.nil
theorem tT{es:List Expr}{ds:List D}(ha:PE X ea (tD X.K T S ρ a))(hr:PA X es (b9 X.K T S ρ ds))(hs:starEach (ea::es) X.env=(false,eval ea X.env)::starEach es X.env):PA X (ea::es) (b9 X.K T S ρ (a::ds)):=
 PA.mono (bX ha hr hs) fun σ H Q ⟨re,q⟩=>⟨re,fun x H1 s1 r1=>⟨re.same s1,fun xs H2 s2 r2=>q _ H2 (s1.trans s2) (aD.cons (r1.same s2) r2)⟩⟩
theorem aHj{es:List Expr}{ds:List D}{x1:Nat}(h:PA X es (b9 X.K T S ρ ds))(hl:ds.length≤sizeLine):PE X (.Tuple es x1 pos) (tD X.K T S ρ (.tup ds)):=
 PE.mono (aBB h) fun σ H Q ⟨re,q⟩=>⟨re,fun xs H1 s1 r1=>⟨by rw[←r1.len];exact hl,fun p hp=>q _ _ (s1.trans (aG.upd hp)) (eW (re.same s1).dom hp r1)⟩⟩
theorem aHs{es:List Expr}{ds:List D}(h:PA X es (b9 X.K T S ρ ds))(hl:ds.length≤sizeLine):PE X (.List es pos) (dj X.K T S ρ ds):=
 PE.mono (LK h) fun σ H Q ⟨re,q⟩=>⟨re,fun xs H1 s1 r1=>⟨by rw[←r1.len];exact hl,fun p hp=>q _ _ _ (s1.trans (aG.upd hp)) (s1.free hp) aV (by rw[jF hp];exact r1)⟩⟩
theorem ZJ{e:Expr}{ds:List D}(h:PE X e (dj X.K T S ρ ds)):PE X e (tD X.K T S ρ (.lst ds)):=
 PE.mono h fun σ H Q ⟨re,q⟩=>⟨re,fun p xs H' sm hp cv r=>q _ H' sm (by unfold Rep;exact⟨p,xs,rfl,re.nS hp,cv,r.er⟩)⟩
theorem oU{K:so}{H:Hp}{ds:List D}{xs:List V}{i:Int}(r:aD K T H S ds xs)(h:atI ds i=some d):∃x,L2.atI xs i=some x∧Rep K T H S d x:=by
 unfold atI at h;unfold L2.atI;rw[o9]at h;obtain⟨j,h1,h2⟩:=h;obtain⟨x,e,rx⟩:=r.get h2;have ml:L2.ixN xs.length i=some j:=by rw[←r.len];exact h1
 exact⟨x,by rw[ml];exact e,rx⟩
theorem WG{i:Int}{ds:List D}(hc:a=.lst ds∨a=.tup ds∨a=.frz ds)(hd:atI ds i=some d):∀σ H Q,tD X.K T S ρ d σ H Q→ic (rIx X.K) (tD X.K T S ρ a) (tD X.K T S ρ (.int i)) σ H Q:=fun σ H Q ⟨re,q⟩ =>
 ⟨re,fun x H1 s1 r1=>⟨re.same s1,fun y H2 s2 r2=>by
  have dq:=r1.same s2
  unfold Rep at r2
  rcases hc with rfl|rfl|rfl
  ·unfold Rep at dq;obtain⟨p,xs,ex,_,e,rl⟩:=dq;obtain⟨v,e1,rv⟩:=oU rl hd;exact .inl ⟨p,xs,i,v,ex,r2,SqL.of e,e1,q v H2 (s1.trans s2) rv⟩
  ·unfold Rep at dq;obtain⟨p,xs,ex,_,e,rl⟩:=dq;obtain⟨v,e1,rv⟩:=oU rl hd;exact .inr (.inl ⟨p,xs,i,v,ex,r2,e,e1,q v H2 (s1.trans s2) rv⟩)
  ·unfold Rep at dq;obtain⟨p,xs,ex,_,e,rl⟩:=dq;obtain⟨v,e1,rv⟩:=oU rl hd;exact .inl ⟨p,xs,i,v,ex,r2,e,e1,q v H2 (s1.trans s2) rv⟩⟩⟩
theorem aCh{i:Int}{ds:List D}(ha:PE X ea (tD X.K T S ρ a))(hb:PE X eb (tD X.K T S ρ (.int i)))(hp:jY eb)(hc:a=.lst ds∨a=.tup ds∨a=.frz ds)(hd:atI ds i=some d):PE X (.Subscript ea eb pos) (tD X.K T S ρ d):=
 PE.mono (ZD NA ha hb hp) (WG hc hd)
theorem lY{i:Nat}{ds:List D}{σ:L2.St}{H:Hp}(re:RE X.K T H S ρ σ)(h:fZ ρ i=some ds):∃p xs,σ[i]?=some (some (.ref p))∧H p=some (.lst xs)∧aD X.K T H S ds xs:=by
 unfold fZ at h;split at h
 ·rename_i e;cases h;obtain⟨v,e1,r⟩:=re.at_ i _ e;unfold Rep at r;obtain⟨p,xs,rfl,_,e2,rl⟩:=r;exact⟨p,xs,e1,e2,rl⟩
 ·rename_i e;cases h;obtain⟨p,ob,e1,_,e2,rm⟩:=re.at_ i _ e;obtain⟨xs,rfl,rl⟩:=rm.lst;exact⟨p,xs,e1,e2,rl⟩
 ·cases h
theorem aHt(h:XC CX X c G T lv){x:Str}{p2:Pos}{j:Nat}{i:Int}{ds:List D}(e:bD c x=some j)(hb:PE X eb (tD X.K T S ρ (.int i)))(hp:jY eb)(hs:fZ ρ j=some ds)(hd:atI ds i=some d):PE X (.Subscript (.Name x p2) eb pos) (tD X.K T S ρ d):=
 PE.mono (ZD NA (gB h e) hb hp) fun σ H Q ⟨re,q⟩=>by
  obtain⟨p,xs,e1,e2,rl⟩:=lY re hs;refine⟨.ref p,e1,re,fun y H2 s2 r2=>?_⟩
  unfold Rep at r2;obtain⟨v,e3,rv⟩:=oU (rl.same s2) hd;exact .inl ⟨p,xs,i,v,rfl,r2,SqL.of (s2 _ _ e2),e3,q v H2 s2 rv⟩
theorem oQ{K:so}{H:Hp}{ds:List D}{xs:List V}{lo hi:Option Int}(r:aD K T H S ds xs):aD K T H S (cut ds lo hi) (yS xs lo hi):=by
 unfold cut yS;rw[r.len];exact(r.drop _).take _
noncomputable def gc(K:so)(T:Tx)(S:Addr→Prop)(ρ:List Sl)(o:Option Int):TO:=fun σ H Q=>RE K T H S ρ σ∧∀H',aG H H'→Q o H'
theorem aHo:PO X none (gc X.K T S ρ none):=fun pins s σ H Q I ⟨re,q⟩=>UG pins s σ H Q I (q H (aG.refl H))
theorem aHn{i:Int}(ha:PE X ea (tD X.K T S ρ (.int i))):PO X (some ea) (gc X.K T S ρ (some i)):=fun pins s σ H Q I ⟨re,q⟩=>UF ha pins s σ H Q I ⟨re,fun v H' sm r=>by
 unfold Rep at r;exact⟨i,r,q H' sm⟩⟩
theorem ZI{lo hi:Option Expr}{l h:Option Int}{p2:Pos}{ds:List D}(ha:PE X ea (tD X.K T S ρ a))(hl:PO X lo (gc X.K T S ρ l))(hh:PO X hi (gc X.K T S ρ h))(hc:a=.lst ds∨a=.frz ds):PE X (.Subscript ea (.Slice lo hi none p2) pos) (dj X.K T S ρ (cut ds l h)):=
 PE.mono (pK BZ ha hl hh) fun σ H Q ⟨re,q⟩=>⟨re,fun x H1 s1 r1=>⟨re.same s1,fun H2 s2=>⟨(re.same s1).same s2,fun H3 s3=>by
  have dq:=(r1.same s2).same s3
  have sm:=s1.trans (s2.trans s3)
  rcases hc with rfl|rfl
  ·unfold Rep at dq;obtain⟨p,xs,ex,_,e,rl⟩:=dq;exact⟨p,xs,ex,SqL.of e,fun p hp=>q _ _ _ (sm.trans (aG.upd hp)) (sm.free hp) aV (by rw[jF hp];exact oQ rl)⟩
  ·unfold Rep at dq;obtain⟨p,xs,ex,_,e,rl⟩:=dq;exact⟨p,xs,ex,e,fun p hp=>q _ _ _ (sm.trans (aG.upd hp)) (sm.free hp) aV (by rw[jF hp];exact oQ rl)⟩⟩⟩⟩
theorem aHm{lo hi:Option Expr}{l h:Option Int}{p2:Pos}{ds:List D}(ha:PE X ea (tD X.K T S ρ (.tup ds)))(hl:PO X lo (gc X.K T S ρ l))(hh:PO X hi (gc X.K T S ρ h))(hw:¬(sIx ds.length 0 l=0∧sIx ds.length ds.length h=ds.length)) :
  PE X (.Subscript ea (.Slice lo hi none p2) pos) (tD X.K T S ρ (.tup (cut ds l h))):=
 PE.mono (pK aBe ha hl hh) fun σ H Q ⟨re,q⟩=>⟨re,fun x H1 s1 r1=>⟨re.same s1,fun H2 s2=>⟨(re.same s1).same s2,fun H3 s3=>by
  have dq:=(r1.same s2).same s3
  have sm:=s1.trans (s2.trans s3)
  have jw:=((re.same s1).same s2).same s3
  unfold Rep at dq;obtain⟨p,xs,ex,_,e,rl⟩:=dq;exact⟨p,xs,ex,e,by rw[←rl.len];exact hw,fun p hp=>q _ _ (sm.trans (aG.upd hp)) (eW jw.dom hp (oQ rl))⟩⟩⟩⟩
theorem aHl(h:XC CX X c G T lv){x:Str}{p3:Pos}{j:Nat}{lo hi:Option Expr}{l u:Option Int}{p2:Pos}{ds:List D}(e:bD c x=some j)(hs:fZ ρ j=some ds)(hl:PO X lo (gc X.K T S ρ l))(hh:PO X hi (gc X.K T S ρ u)) :
  PE X (.Subscript (.Name x p3) (.Slice lo hi none p2) pos) (dj X.K T S ρ (cut ds l u)):=
 PE.mono (pK BZ (gB h e) hl hh) fun σ H Q ⟨re,q⟩=>by
  obtain⟨p,xs,e1,e2,rl⟩:=lY re hs;refine⟨.ref p,e1,re,fun H2 s2=>⟨re.same s2,fun H3 s3=>?_⟩⟩
  have sm:=s2.trans s3
  exact⟨p,xs,rfl,SqL.of (s3 _ _ (s2 _ _ e2)),fun p hp=>q _ _ _ (sm.trans (aG.upd hp)) (sm.free hp) aV (by rw[jF hp];exact oQ ((rl.same s2).same s3))⟩
theorem aHz(h:XC CX X c G T lv){cn f:Str}{fs:List (Str×D)}(ha:PE X ea (tD X.K T S ρ (.obj cn fs)))(hb:attributeBase ea f X.env (eval ea X.env)=eval ea X.env)(hf:(G.fl cn).contains f=true)(hd:fs.lookup f=some d):PE X (.Attribute ea f pos) (tD X.K T S ρ d):=
 PE.mono (aBG ha hb) fun σ H Q ⟨re,q⟩=>⟨re,fun x H1 s1 r1=>by
  unfold Rep at r1;obtain⟨p,C,dx,gs,ex,_,ec,e,rf⟩:=r1;obtain⟨v,e1,rv⟩:=(cD.look rf).1 d hd;exact⟨p,C,dx,gs,v,ex,e,h.go.cls cn C ec,h.go.fld cn C f ec hf,e1,q v H1 s1 rv⟩⟩
theorem pL(h:XC CX X c G T lv):gP CX X E0:=fun _ _ H s e s' _ z=>(h.go.cx0 _ H s e s' z).elim
theorem nD{e:Expr}{es:List Expr}(hs:starEach (e::es) X.env=(e::es).map fun e=>(false,eval e X.env)):starEach (e::es) X.env=(false,eval e X.env)::starEach es X.env∧(backTo pos (starEach es X.env)).any (·.1)=false:=by
 have h2:starEach (e::es) X.env=(false,eval e X.env)::starEach es X.env:=by
  cases e<;>first|rfl|(simp[starEach]at hs)
 have h3:starEach es X.env=es.map fun e=>(false,eval e X.env):=by
  have:=congrArg List.tail (h2.symm.trans hs)
  simpa using this
 refine⟨h2,?_⟩;rw[h3];clear h2 h3 hs
 induction es with
 |nil=>rfl
 |cons a r ih=>exact ih
theorem aCm(h:XC CX X c G T lv){x:Str}{es:List Expr}{ds:List D}{p:Pos}(hg:aS c x=true)(hf:c.fns.contains x=true)(ha:PA X es (b9 X.K T S ρ ds))(hs:starEach es X.env=es.map fun e=>(false,eval e X.env))(hlen:ds.length=es.length)(hd:G.fn x ds=some (.ok d)) :
  PE X (.Call (.Name x p) es [] pos) (fun σ H Q=>RE X.K T H S ρ σ∧∀v H1 H',aG H H1→aG H1 H'→Rep X.K T H' S d v→(G.ff x=true→sT X.K T S H1 H' d v)→Q v H'):=by
 obtain⟨f,fd,ps,hm,hk,hb,hl,F⟩:=h.go.fn x hf;have key:∀σ H Q,(RE X.K T H S ρ σ∧∀v H1 H',aG H H1→aG H1 H'→Rep X.K T H' S d v→(G.ff x=true→sT X.K T S H1 H' d v)→Q v H')→BY (fv X.K T ps.length (G.fn x) (G.ff x)) [] E0 (b9 X.K T S ρ ds) σ H Q:=fun σ H Q ⟨re,q⟩ =>
  ⟨re,fun vs H1 s1 r1=>⟨by rw[q9,←r1.len];exact hl ds _ hd,S,ds,(re.same s1).dom,by rw[q9];exact r1,.inl ⟨d,hd,fun v H' s2 r2 fr=>q v H1 H' s1 s2 r2 fr⟩⟩⟩
 cases es with
 |nil =>
  refine PE.mono (xN F h.room (h.glob hg) hm hk hb .nil (pL h) (h.gne hg)) fun σ H Q hq=>?_
  obtain⟨re,q⟩:=hq;have a8:ds=[]:=qa.mp hlen
  subst a8;exact(key σ H Q ⟨re,q⟩).2 [] H (aG.refl H) aD.nil
 |cons e es =>
  obtain⟨h1,h2⟩:=nD (pos:=pos) hs;exact PE.mono (tQ F h.room (h.glob hg) hm hk hb .nil (pL h) ha (h.gne hg) h1 h2) key
end
section
variable {CX:ao}{X:Cx}{c:CC}{G:GS}{T:Tx}{lv:Nat}{ρ:List Sl}{S:Addr→Prop}{pos:Pos}{ea eb ec:Expr}{a b d:D}
def qV(X:Cx)(o:Expr)(m:Str)(args:List Expr)(apos pos:Pos):Prop:=∃pl:Sem Bool,eval (.Call (.Attribute o m apos) args [] pos) X.env=(do
   let ov ←eval o X.env
   standAt apos.atName
   let (f,first) ←holding [ov] (getMethod ov m pl)
   callWith pos f first (backTo pos (starEach args X.env)) (backToKw pos (keywordEach [] X.env)))
theorem aCe(h:XC CX X c G T lv){m cn:Str}{fs:List (Str×D)}{es:List Expr}{ds:List D}{apos:Pos}(ht:qV X ea m es apos pos)(ho:PE X ea (tD X.K T S ρ (.obj cn fs)))(hn:fs.lookup m=none)
  (ha:PA X es (b9 X.K T S ρ ds)) (hs:starEach es X.env=es.map fun e=>(false,eval e X.env)) (hlen:ds.length=es.length) (hd:G.me cn m (.obj cn fs::ds)=some (.ok d)) :
  PE X (.Call (.Attribute ea m apos) es [] pos) (fun σ H Q=>RE X.K T H S ρ σ∧∀v H1 H',aG H H1→aG H1 H'→Rep X.K T H' S d v→(G.mf cn m=true→sT X.K T S H1 H' d v)→Q v H'):=by
 obtain⟨pl,ht⟩:=ht;intro pins s σ H Q I ⟨re,q⟩;refine PySem.W.methodCall_KW (pl:=pl) (af (ho pins s σ H (fun v H'=>aG H H'∧Rep X.K T H' S (.obj cn fs) v) I ⟨re,fun v H' a b=>⟨a,b⟩⟩) fun u s1 ⟨x,H1,I1,rx,sm,ro⟩=>?_) ht
 have ro':=ro
 unfold Rep at ro;obtain⟨p,C,dx,gs,ex,_,ec,e,rf⟩:=ro;subst ex;obtain rfl:u=Value.ref p:=rx;obtain⟨f,fd,ps,hm,hb,hl,F⟩:=h.go.me cn C m _ _ ec hd;refine pZ I1 e (h.go.cls cn C ec) hm ((cD.look rf).2 hn) ?_;have fin:∀(us:List Value) (vs:List V) (s2:Shared) (H2:Hp),Inv X pins σ H2 s2→aR vs us→aG H1 H2→aD X.K T H2 S ds vs→wpAny (model X.prog X.w) X.A (call (.ref f) (.ref p::us)) (EP X pins σ Q) X.xe s2:=fun us vs s2 H2 I2 r2 dn rl=>by
  refine tK (us:=.ref p::us) (vs:=.ref p::vs) (dvs:=[]) (ds:=[]) (E:=E0) F h.room hb .nil (pL h) I2 (.cons rfl r2) ?_;refine⟨?_,S,.obj cn fs::ds,((re.same sm).same dn).dom,?_,.inl ⟨d,hd,fun v H' s3 r3 fr=>q v H2 H' (sm.trans dn) s3 r3 fr⟩⟩
  ·have:=hl _ _ hd
   simp only[q9,qy]at this ⊢;rw[←rl.len];exact this
  ·rw[q9];exact aD.cons (ro'.same dn) rl
 cases es with
 |nil =>
  have a8:ds=[]:=qa.mp hlen
  subst a8;exact callWith_K0 (first:=[.ref p]) I1.kIn hm.kp (fin [] [] s1 H1 I1 .nil (aG.refl _) aD.nil)
 |cons e es =>
  obtain⟨h1,h2⟩:=nD (pos:=pos) hs;refine callWith_K (first:=[.ref p]) (h₀:=X.base) I.ok.mod.kin hm.kp (af (ha pos pins s1 σ H1 (fun vs H'=>aG H1 H'∧aD X.K T H' S ds vs) I1 ⟨re.same sm,fun vs H' a b=>⟨a,b⟩⟩) fun us s2 ⟨vs,H2,I2,r,dn,rl⟩=>⟨I2.kIn,?_⟩) h1 h2
  exact fin us vs s2 H2 I2 r dn rl
theorem GY{CX:ao}{k:Nat}{f C:Addr}{fd:sq}{ps:List Str}{sp:Sp}{E:XK}{pins:sv}{σ:L2.St}{H:Hp}{s:Shared}{Q:VK}{us:List Value}{vs:List V}(M:Mk X.K C f)(F:FnOk X.prog X.w X.K X.mg X.base CX k f fd ps sp)(hr:Room (k+1) X.A)(hb:Binds X.K fd ps [])
  (hx:gP CX X E) (I:Inv X pins σ H s) (r:aR vs us)
  (h:∀x dx,H x=none→H dx=none→dx≠x→X.K.lookup x=none→X.K.lookup dx=none→sp (.ref x::vs) (upd (upd H dx (.own x)) x (.ins C dx [])) (fun v H2=>v=.non∧Q (.ref x) H2) E) :
  wpAny (model X.prog X.w) X.A (call (.ref C) us) (EP X pins σ Q) X.xe s:=by
 have nk:∀a,s.heap.objs.size≤a→X.K.lookup a=none:=fun a ha=>by
  cases q:X.K.lookup a with
  |none=>rfl
  |some o=>exact absurd (p8 (I.kIn a o q)) (not_lt.mpr ha)
 have hq:=h (s.heap.objs.size+1) s.heap.objs.size (I.hok.fresh (qv _)) (I.hok.fresh (oh _)) (qh (Nat.lt_succ_self _)) (nk _ (qv _)) (nk _ (oh _))
 have I2:=Inv.made (C:=C) I
 have r2:aR (V.ref (s.heap.objs.size+1)::vs) (Value.ref (s.heap.objs.size+1)::us):=.cons rfl r
 have hl:(Value.ref (s.heap.objs.size+1)::us++[]).length=ps.length:=by
  have e:=r2.length
  rw[F.len _ _ _ _ hq]at e;rw[q9];exact e.symm
 refine wpAny_call (MP (f:=f) I.kIn M.makes M.init (qd.mp M.fn) (codeAny_mono (F.run _ X.stack _ _ ⟨Value.ref (s.heap.objs.size+1)::us,[]⟩ (Value.ref (s.heap.objs.size+1)::us) _ _ E (hr.make C us [])
  (I2.env0.make C us []) (by have:=hb _ (Value.ref (s.heap.objs.size+1)::us) I2.kIn hl;rw[q9]at this;exact this) r2 hq) fun r s' cf=>?_))
 cases r with
 |error e=>exact hx pins σ _ _ e s' I2 cf
 |ok fl =>
  cases fl with
  |ret u =>
   obtain⟨v,H',I3,rv,ev,q3⟩:=I2.after cf;subst ev;exact⟨rv,⟨V.ref (s.heap.objs.size+1),H',I3,rfl,q3⟩⟩
  |next=>exact False.elim cf
  |brk=>exact False.elim cf
  |cont=>exact False.elim cf
theorem aLa(h:XC CX X c G T lv){x:Str}{es:List Expr}{ds:List D}{p:Pos}(hg:aS c x=true)(hf:c.cls.contains x=true)(ha:PA X es (b9 X.K T S ρ ds))(hs:starEach es X.env=es.map fun e=>(false,eval e X.env))(hlen:ds.length=es.length)(hd:G.mo x ds=some (.ok d)) :
  PE X (.Call (.Name x p) es [] pos) (tD X.K T S ρ d):=by
 obtain⟨C,f,fd,ps,j,hj,hm,M,hb,hl,F⟩:=h.go.mo x hf ds d hd;have fin:∀(pins:sv) (σ:L2.St) (H:Hp) (Q:VK) (us:List Value) (vs:List V) (s2:Shared) (H2:Hp),RE X.K T H S ρ σ→(∀v H',aG H H'→Rep X.K T H' S d v→Q v H')→Inv X pins σ H2 s2→aR vs us→aG H H2→aD X.K T H2 S ds vs→wpAny (model X.prog X.w) X.A (call (.ref C) us) (EP X pins σ Q) X.xe s2:=fun pins σ H Q us vs s2 H2 re q I2 r2 dn rl=>by
  refine GY (E:=E0) M F (h.room.mono hj) hb (pL h) I2 r2 fun y dx hy hdx ne ky kdx=>?_
  have dom2:=(re.same dn).dom
  have m1:aI X.K H2 (upd H2 dx (.own y)) S S:=fun a n _=>⟨n,fun o e=>by rw[aQ (bG e hdx)];exact e⟩
  have hy1:(upd H2 dx (.own y)) y=none:=by rw[aQ (Ne.symm ne)];exact hy
  have m2:=aI.add (S:=S) (o:=.ins C dx []) hy1 ky
  refine⟨by simp only[qy];rw[←rl.len];exact hl,y,dx,vs,(fun a=>S a∨a=y),ds,d,rfl,aV,.inr rfl,fun a hs=>?_,aD.gen m2 _ _ (aD.gen m1 _ _ rl),hd,fun H' kp rp=>⟨rfl,q _ H' ?_ (rp S fun a ha=>⟨.inl ha,?_⟩)⟩⟩
  ·rcases hs with z|z
   ·obtain⟨o,e⟩:=dom2 a z;exact⟨o,by rw[aQ (bG e hy),aQ (bG e hdx)];exact e⟩
   ·subst z;exact⟨_,aV⟩
  ·intro b o e;have e2:=dn b o e
   refine kp b o (bG e2 hy) ?_;rw[aQ (bG e2 hy),aQ (bG e2 hdx)];exact e2
  ·intro z;subst z;obtain⟨o,e⟩:=dom2 a ha;rw[hy]at e;cases e
 cases es with
 |nil =>
  have a8:ds=[]:=qa.mp hlen
  subst a8;intro pins s σ H Q I ⟨re,q⟩;refine wpAny_Call_Name_kw (gE I (h.glob hg) hm ?_ (h.gne hg));exact callWith_K0 I.kIn M.kp (fin pins σ H Q [] [] s H re q I .nil (aG.refl _) aD.nil)
 |cons e es =>
  obtain⟨h1,h2⟩:=nD (pos:=pos) hs;intro pins s σ H Q I ⟨re,q⟩;refine wpAny_Call_Name_kw (gE I (h.glob hg) hm ?_ (h.gne hg));refine callWith_K (h₀:=X.base) I.ok.mod.kin M.kp (af (ha pos pins s σ H (fun vs H'=>aG H H'∧aD X.K T H' S ds vs) I ⟨re,fun vs H' a b=>⟨a,b⟩⟩) fun us s1 ⟨vs,H1,I1,r,sm,rl⟩=>⟨I1.kIn,?_⟩) h1 h2
  exact fin pins σ H Q us vs s1 H1 re q I1 r sm rl
noncomputable def jx(K:so)(T:Tx)(S:Addr→Prop)(g:List D→Option D):List V→Hp→VK→Prop:=fun xs H Q =>
 ∃ds d,(∀a,S a→∃o,H a=some o)∧aD K T H S ds xs∧g ds=some d∧∀v H',aG H H'→Rep K T H' S d v→Q v H'
theorem rep1{K:so}{H:Hp}{xs:List V}(r:aD K T H S [a] xs):∃x,xs=[x]∧Rep K T H S a x:=by
 unfold aD at r;obtain⟨x,r',rfl,rx,rr⟩:=r;unfold aD at rr;subst rr;exact⟨x,rfl,rx⟩
theorem rep2{K:so}{H:Hp}{xs:List V}(r:aD K T H S [a,b] xs):∃x y,xs=[x,y]∧Rep K T H S a x∧Rep K T H S b y:=by
 unfold aD at r;obtain⟨x,r',rfl,rx,rr⟩:=r;obtain⟨y,rfl,ry⟩:=rep1 rr;exact⟨x,y,rfl,rx,ry⟩
theorem dD{K:so}{H:Hp}{i:Int}:Rep K T H S (.int i) (.int i):=by unfold Rep;rfl
theorem aIm:eF X (.builtin "len") (jx X.K T S XI):=by
 rintro pins s σ H xs us Q I r ⟨ds,d,dom,rl,e,q⟩;unfold XI at e;split at e
 ·obtain⟨x,rfl,rx⟩:=rep1 rl;cases e;unfold Rep at rx;obtain⟨p,ys,rfl,_,hq,ry⟩:=rx;exact fJ pins s σ H _ us Q I r ⟨p,ys,rfl,.inl (SqL.of hq),by rw[←ry.len];exact q _ H (aG.refl H) dD⟩
 ·obtain⟨x,rfl,rx⟩:=rep1 rl;cases e;unfold Rep at rx;obtain⟨p,ys,rfl,_,hq,ry⟩:=rx;exact fJ pins s σ H _ us Q I r ⟨p,ys,rfl,.inr hq,by rw[←ry.len];exact q _ H (aG.refl H) dD⟩
 ·obtain⟨x,rfl,rx⟩:=rep1 rl;cases e;unfold Rep at rx;obtain⟨p,ys,rfl,_,hq,ry⟩:=rx;exact fJ pins s σ H _ us Q I r ⟨p,ys,rfl,.inl hq,by rw[←ry.len];exact q _ H (aG.refl H) dD⟩
 ·obtain⟨x,rfl,rx⟩:=rep1 rl;unfold Rep at rx;subst rx;split at e
  ·rename_i hz;cases e;exact wA pins s σ H _ us Q I r ⟨_,rfl,p9 hz iM,q _ H (aG.refl H) dD⟩
  ·cases e
 ·cases e
theorem aIn:eF X (.type "int") (jx X.K T S XJ):=by
 rintro pins s σ H xs us Q I r ⟨ds,d,dom,rl,e,q⟩;unfold XJ at e;split at e
 ·obtain⟨x,rfl,rx⟩:=rep1 rl;cases e;unfold Rep at rx;subst rx;exact sL pins s σ H _ us Q I r (.inl ⟨_,rfl,q _ H (aG.refl H) dD⟩)
 ·obtain⟨x,rfl,rx⟩:=rep1 rl;cases e;unfold Rep at rx;subst rx;exact sL pins s σ H _ us Q I r (.inr ⟨_,rfl,q _ H (aG.refl H) dD⟩)
 ·cases e
noncomputable def rBl(K:so)(T:Tx)(S:Addr→Prop):List V→Hp→VK→Prop:=fun xs H Q =>
 ∃ds es,aD K T H S ds xs∧yK ds=some (.lst es)∧∀p ys H',aG H H'→H p=none→H' p=some (.lst ys)→aD K T (er H' p) S es ys→Q (.ref p) H'
theorem aDg:eF X (.type "list") (rBl X.K T S):=by
 rintro pins s σ H xs us Q I r ⟨ds,es,rl,e,q⟩;unfold yK at e;split at e
 ·obtain⟨x,rfl,rx⟩:=rep1 rl;cases e;unfold Rep at rx;obtain⟨p,ys,rfl,_,hq,ry⟩:=rx;exact iL pins s σ H _ us Q I r ⟨p,ys,rfl,.inl (SqL.of hq),fun l hl=>q l ys _ (aG.upd hl) hl aV (by rw[jF hl];exact ry)⟩
 ·obtain⟨x,rfl,rx⟩:=rep1 rl;cases e;unfold Rep at rx;obtain⟨p,ys,rfl,_,hq,ry⟩:=rx;exact iL pins s σ H _ us Q I r ⟨p,ys,rfl,.inr hq,fun l hl=>q l ys _ (aG.upd hl) hl aV (by rw[jF hl];exact ry)⟩
 ·obtain⟨x,rfl,rx⟩:=rep1 rl;cases e;unfold Rep at rx;obtain⟨p,ys,rfl,_,hq,ry⟩:=rx;exact iL pins s σ H _ us Q I r ⟨p,ys,rfl,.inl hq,fun l hl=>q l ys _ (aG.upd hl) hl aV (by rw[jF hl];exact ry)⟩
 ·cases e
theorem YD:eF X (.type "tuple") (jx X.K T S vQ):=by
 rintro pins s σ H xs us Q I r ⟨ds,d,dom,rl,e,q⟩;unfold vQ at e;split at e
 ·obtain⟨x,rfl,rx⟩:=rep1 rl;cases e;unfold Rep at rx;obtain⟨p,ys,rfl,_,hq,ry⟩:=rx;exact kE pins s σ H _ us Q I r ⟨p,ys,rfl,.inl ⟨SqL.of hq,fun l hl=>q _ _ (aG.upd hl) (eW dom hl ry)⟩⟩
 ·obtain⟨x,rfl,rx⟩:=rep1 rl;cases e;have rx':=rx
  unfold Rep at rx;obtain⟨p,ys,rfl,_,hq,ry⟩:=rx;exact kE pins s σ H _ us Q I r ⟨p,ys,rfl,.inr ⟨hq,q _ H (aG.refl H) rx'⟩⟩
 ·cases e
theorem mT{K:so}{H:Hp}:∀{ds:List D} {ns:List Int} {ys:List V} {us:List Value},pW ds=some ns→aD K T H S ds ys→aR ys us→IntsAre us ns
 |[],ns,ys,us,h,r,v=>by
  simp only[pW]at h;cases h;unfold aD at r;subst r;cases v;exact .nil
 |d::ds,ns,ys,us,h,r,v=>by
  cases d<;>simp only[pW,reduceCtorEq]at h
  rename_i i;rw[oy]at h;obtain⟨r',h1,rfl⟩:=h;unfold aD at r;obtain⟨x,w,rfl,rx,rr⟩:=r;unfold Rep at rx;subst rx;cases v with
  |cons v1 v2 =>
   obtain⟨t,rfl⟩:=v1;exact .cons i t (mT h1 rr v2)
section
variable {prog:sr}{w:World}{A:Around}{E:su}{s:Shared}
theorem AI{l:Addr}{vs:List Value}{ns:List Int}{Q:su}(hh:A.handled=none)(hl:s.heap.IsList l vs.toArray)(hi:IntsAre vs ns)(bu:0<ns.length)
  (h:∀h' M (t:Tok) tk,(∀b o,s.heap.get? b=some o→h'.get? b=some o)→M∈ns→(∀a,a∈ns→a≤M)→Q (.int M t) { s with heap:=h',toks:=tk }) :
  wpAny (model prog w) A (call (.builtin "max") [.ref l]) Q E s:=by
 obtain⟨xs,e⟩:=hi.allInts.items;have ej:ns=xs.toList.map (·.1):=by
  rw[←hi.numsOf,←nums_intItems,←e]
 have hsz:0<xs.size:=by
  have h3:=bu;rw[ej,og,length_toList]at h3;exact h3
 rw[e]at hl;refine max_intList hh hl hsz fun v h' tk hv hk=>?_
 obtain⟨t,rfl⟩:=intItems_at hv;obtain⟨h1,h2⟩:=argBest_gt (numAt xs) (xs.size-1);refine h _ _ t tk hk ?_ fun a ha=>?_
 ·rw[ej,numAt_eq];exact getD_mem (by rw[og,length_toList];omega)
 ·rw[ej]at ha;obtain⟨j,hj,rfl⟩:=mem_getD ha;rw[og,length_toList]at hj;rw[←numAt_eq];exact h2 j (by omega)
theorem AG{l:Addr}{vs:List Value}{ns:List Int}{Q:su}(hh:A.handled=none)(hl:s.heap.IsList l vs.toArray)(hi:IntsAre vs ns)(bu:0<ns.length)
  (h:∀h' M (t:Tok) tk,(∀b o,s.heap.get? b=some o→h'.get? b=some o)→M∈ns→(∀a,a∈ns→M≤a)→Q (.int M t) { s with heap:=h',toks:=tk }) :
  wpAny (model prog w) A (call (.builtin "min") [.ref l]) Q E s:=by
 obtain⟨xs,e⟩:=hi.allInts.items;have ej:ns=xs.toList.map (·.1):=by
  rw[←hi.numsOf,←nums_intItems,←e]
 have hsz:0<xs.size:=by
  have h3:=bu;rw[ej,og,length_toList]at h3;exact h3
 rw[e]at hl;refine min_intList hh hl hsz fun v h' tk hv hk=>?_
 obtain⟨t,rfl⟩:=intItems_at hv;obtain⟨h1,h2⟩:=argBest_lt (numAt xs) (xs.size-1);refine h _ _ t tk hk ?_ fun a ha=>?_
 ·rw[ej,numAt_eq];exact getD_mem (by rw[og,length_toList];omega)
 ·rw[ej]at ha;obtain⟨j,hj,rfl⟩:=mem_getD ha;rw[og,length_toList]at hj;rw[←numAt_eq];exact h2 j (by omega)
end
theorem aIl(hc:X.calm=true):eF X (.builtin "max") (jx X.K T S OD):=by
 rintro pins s σ H xs us Q I r ⟨ds,d,dom,rl,e,q⟩;unfold OD at e;split at e
 ·obtain⟨x,y,rfl,rx,ry⟩:=rep2 rl;cases e;unfold Rep at rx ry;subst rx ry;exact JI hc pins s σ H _ us Q I r ⟨_,_,rfl,q _ H (aG.refl H) dD⟩
 ·obtain⟨x,rfl,rx⟩:=rep1 rl;split at e
  ·rename_i i t he;cases e;unfold Rep at rx;obtain⟨p,ys,rfl,_,hq,ry⟩:=rx;obtain⟨u,rfl,ru⟩:=vals1 r;cases ru;obtain⟨its,rv,pl,hz⟩:=I.list (SqL.of hq);have hi:=mT he ry rv
   refine AI (I.ok.hd hc) pl.isList hi (by simp) fun h' M tt tk hk hM hle=>⟨.int M,H,I.kept (t':=tk) hk,⟨_,rfl⟩,?_⟩
   obtain⟨m1,m2,m3⟩:=rW t i;have e1:mP i t∈i::t:=by
    rcases m1 with z|z
    ·rw[z];simp
    ·exact oq _ z
   have e2:M≤mP i t:=by
    rcases pj.mp hM with z|z
    ·rw[z];exact m2
    ·exact m3 M z
   have e3:M=mP i t:=Int.le_antisymm e2 (hle _ e1)
   rw[e3];exact q _ H (aG.refl H) dD
  ·cases e
 ·cases e
theorem aIk(hc:X.calm=true):eF X (.builtin "min") (jx X.K T S XH):=by
 rintro pins s σ H xs us Q I r ⟨ds,d,dom,rl,e,q⟩;unfold XH at e;split at e
 ·obtain⟨x,y,rfl,rx,ry⟩:=rep2 rl;cases e;unfold Rep at rx ry;subst rx ry;exact JH hc pins s σ H _ us Q I r ⟨_,_,rfl,q _ H (aG.refl H) dD⟩
 ·obtain⟨x,rfl,rx⟩:=rep1 rl;split at e
  ·rename_i i t he;cases e;unfold Rep at rx;obtain⟨p,ys,rfl,_,hq,ry⟩:=rx;obtain⟨u,rfl,ru⟩:=vals1 r;cases ru;obtain⟨its,rv,pl,hz⟩:=I.list (SqL.of hq);have hi:=mT he ry rv
   refine AG (I.ok.hd hc) pl.isList hi (by simp) fun h' M tt tk hk hM hle=>⟨.int M,H,I.kept (t':=tk) hk,⟨_,rfl⟩,?_⟩
   obtain⟨m1,m2,m3⟩:=rV t i;have e1:pQ i t∈i::t:=by
    rcases m1 with z|z
    ·rw[z];simp
    ·exact oq _ z
   have e2:pQ i t≤M:=by
    rcases pj.mp hM with z|z
    ·rw[z];exact m2
    ·exact m3 M z
   have e3:M=pQ i t:=Int.le_antisymm (hle _ e1) e2
   rw[e3];exact q _ H (aG.refl H) dD
  ·cases e
 ·cases e
end
section
variable {CX:ao}{X:Cx}{c:CC}{G:GS}{T:Tx}{lv:Nat}{ρ:List Sl}{S:Addr→Prop}{pos:Pos}{ea eb ec:Expr}{a b d:D}
noncomputable def js:D→Option String
 |.non=>some "NoneType"
 |.bl _=>some "bool"
 |.int _=>some "int"
 |.str _=>some "str"
 |.lst _=>some "list"
 |.tup _=>some "tuple"
 |_=>none
theorem NH{pins:sv}{σ:L2.St}{H:Hp}{s:Shared}{A:Around}{E:su}{Q:su}{x:V}{u c:Value}{tn:String}{k:Bool}(I:Inv X pins σ H s)(rx:RelV x u)(rep:Rep X.K T H S d x)(ht:js d=some tn)
  (e:kitOne X.K (.type tn) c=some k) (h:∀tk,Q (.bool k) { s with toks:=tk }):wpAny (model X.prog X.w) A (call (.builtin "isinstance") [u,c]) Q E s:=by
 cases d<;>simp only[js,reduceCtorEq,o7]at ht
 all_goals subst ht
 ·unfold Rep at rep;subst rep;exact gU I rx (.non) e h
 ·unfold Rep at rep;subst rep;exact gU I rx (.bl _) e h
 ·unfold Rep at rep;subst rep;exact gU I rx (.int _) e h
 ·unfold Rep at rep;subst rep;exact gU I rx (.str _) e h
 ·unfold Rep at rep;obtain⟨p,xs,rfl,_,hq,_⟩:=rep;exact gU I rx (.lst hq) e h
 ·unfold Rep at rep;obtain⟨p,xs,rfl,_,hq,_⟩:=rep;obtain rfl:u=Value.ref p:=rx;obtain⟨its,rv,⟨o,h1,h2,_⟩,_⟩:=I.tuple hq;exact kia_one PySem.W.kitx_tuple I.kIn ⟨o,h1,h2⟩ e (fun z=>nomatch z) h
theorem gW(K:so):∀(t n:String),(t,n)∈([("NoneType","int"),("NoneType","bool"),("NoneType","str"),("NoneType","list"),("NoneType","tuple"),("bool","str"),("bool","list"),("bool","tuple"),("int","bool"),("int","str"),("int","list"),("int","tuple"),
  ("str","int"),("str","bool"),("str","list"),("str","tuple"),("list","int"),("list","bool"),("list","str"),("list","tuple"),("tuple","int"),("tuple","bool"),("tuple","str"),("tuple","list")]:List (String×String))→kitOne K (.type t) (.type n)=some false:=by
 intro t n h;simp only[pj,Prod.mk.injEq,rg,or_false]at h
 rcases h with ⟨rfl,rfl⟩|⟨rfl,rfl⟩|⟨rfl,rfl⟩|⟨rfl,rfl⟩|⟨rfl,rfl⟩|⟨rfl,rfl⟩|⟨rfl,rfl⟩|⟨rfl,rfl⟩|⟨rfl,rfl⟩|⟨rfl,rfl⟩|⟨rfl,rfl⟩|⟨rfl,rfl⟩|⟨rfl,rfl⟩|⟨rfl,rfl⟩|⟨rfl,rfl⟩|⟨rfl,rfl⟩|⟨rfl,rfl⟩|⟨rfl,rfl⟩|⟨rfl,rfl⟩|⟨rfl,rfl⟩|⟨rfl,rfl⟩|⟨rfl,rfl⟩|⟨rfl,rfl⟩|⟨rfl,rfl⟩<;>kernel_rfl
theorem NI(K:so):kitOne K (.type "bool") (.type "int")=some true:=by kernel_rfl
theorem jB(K:so)(t:String):kitOne K (.type t) (.type t)=some true:=by
 unfold kitOne;rw[if_pos (by simp)]
theorem aAM:¬(("bool":Str) = "int")∧¬(("str":Str) = "int")∧¬(("list":Str) = "int")∧¬(("tuple":Str) = "int")∧¬(("int":Str) = "bool")∧¬(("str":Str) = "bool")∧¬(("list":Str) = "bool")∧¬(("tuple":Str) = "bool") ∧
  ¬(("int":Str) = "str")∧¬(("bool":Str) = "str")∧¬(("list":Str) = "str")∧¬(("tuple":Str) = "str")∧¬(("int":Str) = "list")∧¬(("bool":Str) = "list")∧¬(("str":Str) = "list")∧¬(("tuple":Str) = "list") ∧
  ¬(("int":Str) = "tuple")∧¬(("bool":Str) = "tuple")∧¬(("str":Str) = "tuple")∧¬(("list":Str) = "tuple"):=by decide +kernel
theorem aCC{t:Str}{k:Bool}{tn:String}(K:so)(ht:jL.contains t=true)(hd:js d=some tn)(h:jC G t d=some k):∃n:String,bootBuiltins t=some (.type n)∧kitOne K (.type tn) (.type n)=some k:=by
 obtain⟨n1,n2,n3,n4,n5,n6,n7,n8,n9,n10,n11,n12,n13,n14,n15,n16,n17,n18,n19,n20⟩:=aAM;have ht':t = "int"∨t = "bool"∨t = "str"∨t = "list"∨t = "tuple":=by
  simpa [jL] using ht
 have b1:bootBuiltins "int" = some (.type "int"):=by decide +kernel
 have b2:bootBuiltins "bool" = some (.type "bool"):=by decide +kernel
 have b3:bootBuiltins "str" = some (.type "str"):=by decide +kernel
 have b4:bootBuiltins "list" = some (.type "list"):=by decide +kernel
 have b5:bootBuiltins "tuple" = some (.type "tuple"):=by decide +kernel
 rcases ht' with rfl|rfl|rfl|rfl|rfl<;>cases d<;>simp only[js,reduceCtorEq,o7]at hd
 all_goals subst hd
 all_goals simp only[jC,n1,n2,n3,n4,n5,n6,n7,n8,n9,n10,n11,n12,n13,n14,n15,n16,n17,n18,n19,n20,if_true,if_false,true_or,or_true,or_false,or_self,o7]at h
 all_goals subst h
 all_goals first
  |exact⟨_,b1,by first|exact jB K _|exact NI K|exact gW K _ _ (by decide)⟩
  |exact⟨_,b2,by first|exact jB K _|exact gW K _ _ (by decide)⟩
  |exact⟨_,b3,by first|exact jB K _|exact gW K _ _ (by decide)⟩
  |exact⟨_,b4,by first|exact jB K _|exact gW K _ _ (by decide)⟩
  |exact⟨_,b5,by first|exact jB K _|exact gW K _ _ (by decide)⟩
theorem rE:bootBuiltins "isinstance" = some (.builtin "isinstance"):=by decide +kernel
theorem aHv(h:XC CX X c G T lv){t:Str}{p p2:Pos}{k:Bool}{tn:String}(hg:aS c "isinstance" = true)(hm:X.mg "isinstance" = none)(bt:aS c t=true)(hmt:X.mg t=none)(ht:jL.contains t=true)(ha:PE X ea (tD X.K T S ρ a))(hs:starEach [ea,.Name t p2] X.env=[(false,eval ea X.env),(false,eval (.Name t p2) X.env)])
  (hd:js a=some tn) (hi:jC G t a=some k):PE X (.Call (.Name "isinstance" p) [ea,.Name t p2] [] pos) (tD X.K T S ρ (.bl k)):=by
 obtain⟨n,hb,hk⟩:=aCC X.K ht hd hi;have hnn:t≠"__name__":=by
  intro z;subst z
  revert ht
  decide +kernel
 have hp:PE X (.Name t p2) (tC (.ty n)):=CL (h.glob bt) hmt hb rfl hnn (h.gne bt)
 have hc:eF X (.builtin "isinstance") (fun xs H Q=>∃x,xs=[x,.ty n]∧Rep X.K T H S a x∧Q (.bl k) H):=by
  rintro pins s σ H xs us Q I r ⟨x,rfl,rep,q⟩;obtain⟨u,w',rfl,r1,r2⟩:=vals2 r;obtain rfl:w'=Value.type n:=r2;exact NH I r1 rep hd hk fun tk=>⟨.bl k,H,I.tok tk,rfl,q⟩
 have hs1:starEach [ea,.Name t p2] X.env=(false,eval ea X.env)::starEach [.Name t p2] X.env:=hs
 refine PE.mono (eX hc (h.glob hg) hm rE (bX ha (bX hp hV) hs1) (by decide +kernel) ?_ ?_ ?_) fun σ H Q ⟨re,q⟩=>⟨re,fun x H1 s1 r1=>⟨x,rfl,r1,q _ H1 s1 bZ⟩⟩
 all_goals first|exact h.gne hg|exact hs1|rfl|decide +kernel
end
theorem lT{o:Expr}{m:Str}{env:Env}(ho:jM o=true):attributeBase o m env (eval o env)=eval o env:=by
 cases o<;>first|rfl|(simp[jM]at ho)
theorem qT{env:Env}{pos:Pos}:∀(l:List Expr),(backTo pos (l.map fun e=>(false,eval e env))).all (!·.1)=true
 |[]=>rfl
 |_::r=>qT r
theorem xW{X:Cx}{o:Expr}{m:Str}{args:List Expr}{apos pos:Pos}(ho:jM o=true)(hs:starEach args X.env=args.map fun e=>(false,eval e X.env))(hl:args.length<30)(hp:(apos.endLine == pos.line)=true):qV X o m args apos pos:=by
 refine⟨do return (←importBound o X.env).getD true,?_⟩
 show (do
  let ov ←attributeBase o m X.env (eval o X.env)
  standAt apos.atName
  methodCall o m apos pos X.env ov (args.length+0) (backTo pos (starEach args X.env)) (backToKw pos (keywordEach [] X.env)))=_
 rw[lT ho];have hf:methodCallForm (args.length+0) (backTo pos (starEach args X.env)) (backToKw pos (keywordEach [] X.env))=true:=by
  unfold methodCallForm;rw[hs,qT];simp[backToKw,keywordEach]
  first|omega|(refine⟨?_,?_⟩<;>first|rfl|omega)
 have hpp:methodCallPos true o X.env apos pos=pure pos:=by
  unfold methodCallPos;rw[hp];rfl
 unfold methodCall;rw[hf,hpp];unfold calleeOf;rfl
end Z
namespace L2
open PySem PySem.Spec PyProof.Rows
noncomputable def aGg:V→List V→Hp→VK→Prop:=fun x xs H Q=>∃a y z o,x=.ref a∧xs=[y,z]∧rG H a y o∧Q (o.getD z) H
theorem VX{X:Cx}(hu:X.A.units+1<cLine):MtR X "dict.get" aGg:=by
 rintro pins s σ H x xs v us Q I rx rs ⟨a,y,z,o,rfl,rfl,g,q⟩;obtain rfl:v=Value.ref a:=rx;cases rs with
 |cons r1 rs =>
  cases rs with
  |cons r2 rs =>
   cases rs;exact aCZ hu I g r1 r2 fun w' s' I' dy=>⟨_,H,I',dy,q⟩
end L2
namespace Z
open PySem PySem.Spec PyProof.Rows L2
section
variable {K:so}{T:Tx}{H:Hp}{S:Addr→Prop}
theorem aZ.len:∀{kvs:List (Int×D)} {gs:List (Key×V)},aZ K T H S kvs gs→kvs.length=gs.length
 |[],gs,h=>by unfold aZ at h;subst h;rfl
 | (i,d)::kvs,gs,h=>by
  unfold aZ at h;obtain⟨x,r,rfl,_,q⟩:=h;exact congrArg (· + 1) (aZ.len q)
theorem aZ.nil:aZ K T H S [] []:=by unfold aZ;rfl
theorem aZ.cons{i:Int}{d:D}{x:V}{kvs:List (Int×D)}{gs:List (Key×V)}(h:Rep K T H S d x)(g:aZ K T H S kvs gs):aZ K T H S ((i,d)::kvs) ((Sum.inl i,x)::gs):=by unfold aZ;exact⟨x,gs,rfl,h,g⟩
theorem NK{i j:Int}(h:¬i=j):¬(Sum.inl i:Key)=Sum.inl j:=fun z=>h (Sum.inl.inj z)
theorem aZ.val{k:Int}:∀{kvs:List (Int×D)} {gs:List (Key×V)},aZ K T H S kvs gs→(∀d,cL kvs k=some d→∃x,kU gs (Sum.inl k)=some x∧Rep K T H S d x)∧(cL kvs k=none→kU gs (Sum.inl k)=none)
 |[],gs,h=>by unfold aZ at h;subst h;exact⟨fun d e=>(nomatch (show none=some d from e)),fun _=>rfl⟩
 | (i,d)::kvs,gs,h=>by
  unfold aZ at h;obtain⟨x,r,rfl,p,q⟩:=h;obtain⟨i1,i2⟩:=aZ.val (k:=k) q
  by_cases e:i=k
  ·have e1:cL ((i,d)::kvs) k=some d:=by unfold cL;rw[List.find?_cons_of_pos (by simpa using e)];rfl
   rw[e1,kS (congrArg Sum.inl e)];exact⟨fun d' z=>⟨x,rfl,by cases z;exact p⟩,fun z=>by cases z⟩
  ·have e1:cL ((i,d)::kvs) k=cL kvs k:=by unfold cL;rw[List.find?_cons_of_neg (by simpa using e)]
   rw[e1,kT (NK e)];exact⟨i1,i2⟩
theorem aZ.any{k:Int}:∀{kvs:List (Int×D)} {gs:List (Key×V)},aZ K T H S kvs gs→(kvs.any fun kv=>decide (kv.1=k))=gs.any fun kv=>decide (kv.1=(Sum.inl k:Key))
 |[],gs,h=>by unfold aZ at h;subst h;rfl
 | (i,d)::kvs,gs,h=>by
  unfold aZ at h;obtain⟨x,r,rfl,p,q⟩:=h;rw[any_cons,any_cons,aZ.any q]
  congr 1
  exact decide_eq_decide.mpr ⟨fun z=>congrArg Sum.inl z,fun z=>Sum.inl.inj z⟩
theorem aZ.repl{k:Int}{d:D}{v:V}(hv:Rep K T H S d v):∀{kvs:List (Int×D)} {gs:List (Key×V)},aZ K T H S kvs gs→aZ K T H S (kvs.map fun kv=>if kv.1=k then(kv.1,d) else kv) (gs.map fun kv=>if kv.1=(Sum.inl k:Key) then(kv.1,v) else kv)
 |[],gs,h=>by unfold aZ at h;subst h;exact aZ.nil
 | (i,d')::kvs,gs,h=>by
  unfold aZ at h;obtain⟨x,r,rfl,p,q⟩:=h;rw[qb,qb]
  by_cases e:i=k
  ·rw[if_pos e,if_pos (congrArg Sum.inl e)];exact aZ.cons hv (aZ.repl hv q)
  ·rw[if_neg e,if_neg (NK e)];exact aZ.cons p (aZ.repl hv q)
theorem aZ.snoc{k:Int}{d:D}{v:V}(hv:Rep K T H S d v):∀{kvs:List (Int×D)} {gs:List (Key×V)},aZ K T H S kvs gs→aZ K T H S (kvs++[(k,d)]) (gs++[(Sum.inl k,v)])
 |[],gs,h=>by unfold aZ at h;subst h;exact aZ.cons hv aZ.nil
 | (i,d')::kvs,gs,h=>by
  unfold aZ at h;obtain⟨x,r,rfl,p,q⟩:=h;exact aZ.cons p (aZ.snoc hv q)
theorem aZ.put{k:Int}{d:D}{v:V}(hv:Rep K T H S d v){kvs:List (Int×D)}{gs:List (Key×V)}(h:aZ K T H S kvs gs):aZ K T H S (kI kvs k d) (putK gs (Sum.inl k) v):=by
 unfold kI putK;rw[aZ.any h];split
 ·exact aZ.repl hv h
 ·exact aZ.snoc hv h
end
section
variable {CX:ao}{X:Cx}{c:CC}{G:GS}{T:Tx}{lv:Nat}{ρ:List Sl}{S:Addr→Prop}{pos:Pos}{ea eb ec:Expr}{a b d:D}
theorem aHB(hu:X.A.units+1<cLine){i:Int}{kvs:List (Int×D)}(ha:PE X ea (tD X.K T S ρ (.dct kvs)))(hb:PE X eb (tD X.K T S ρ (.int i)))(hp:jY eb)(hd:cL kvs i=some d):PE X (.Subscript ea eb pos) (tD X.K T S ρ d):=
 PE.mono (CK hu ha hb hp) fun σ H Q ⟨re,q⟩=>⟨re,fun x H1 s1 r1=>⟨re.same s1,fun y H2 s2 r2=>by
  have r1:=r1.same s2
  unfold Rep at r1 r2;subst r2;obtain⟨p,gs,rfl,_,e,rk⟩:=r1;obtain⟨v,e1,rv⟩:=(aZ.val (k:=i) rk).1 d hd;refine⟨p,v,rfl,?_,q v H2 (s1.trans s2) rv⟩;rw[←e1];exact rG.k (k:=Sum.inl i) e⟩⟩
theorem lZ{i:Nat}{kvs:List (Int×D)}{σ:L2.St}{H:Hp}(re:RE X.K T H S ρ σ)(h:nE ρ i=some kvs):∃p gs,σ[i]?=some (some (.ref p))∧H p=some (.dK gs)∧aZ X.K T H S kvs gs:=by
 unfold nE at h;split at h
 ·rename_i e;cases h;obtain⟨v,e1,r⟩:=re.at_ i _ e;unfold Rep at r;obtain⟨p,gs,rfl,_,e2,rk⟩:=r;exact⟨p,gs,e1,e2,rk⟩
 ·rename_i e;cases h;obtain⟨p,ob,e1,_,e2,rm⟩:=re.at_ i _ e;obtain⟨gs,rfl,rk⟩:=rm.dct;exact⟨p,gs,e1,e2,rk⟩
 ·cases h
theorem aHu(h:XC CX X c G T lv)(hu:X.A.units+1<cLine){x:Str}{p2:Pos}{j:Nat}{i:Int}{kvs:List (Int×D)}(e:bD c x=some j)(hb:PE X eb (tD X.K T S ρ (.int i)))(hp:jY eb)(hs:nE ρ j=some kvs)(hd:cL kvs i=some d):PE X (.Subscript (.Name x p2) eb pos) (tD X.K T S ρ d):=
 PE.mono (CK hu (gB h e) hb hp) fun σ H Q ⟨re,q⟩=>by
  obtain⟨p,gs,e1,e2,rk⟩:=lZ re hs;refine⟨.ref p,e1,re,fun y H2 s2 r2=>?_⟩
  unfold Rep at r2;subst r2;obtain⟨v,e3,rv⟩:=(aZ.val (k:=i) (aZ.gen (show aI X.K H H2 S S from fun a n _=>⟨n,fun o e=>s2 a o e⟩) _ _ rk)).1 d hd
  refine⟨p,v,rfl,?_,q v H2 s2 rv⟩;rw[←e3];exact rG.k (k:=Sum.inl i) (s2 _ _ e2)
theorem aCg(xc:XC CX X c G T lv){y:Str}{p py q:Pos}{i:Nat}{kvs:List (Int×D)}(hg:aS c "len" = true)(hm:X.mg "len" = none)(e:bD c y=some i)(hs:nE ρ i=some kvs) :
  PE X (.Call (.Name "len" p) [.Name y py] [] q) (tD X.K T S ρ (.int kvs.length)):=by
 have st:starEach [.Name y py] X.env=(false,eval (.Name y py) X.env)::starEach [] X.env:=rfl
 refine PE.mono (eX JJ (xc.glob hg) hm (by decide +kernel) (bX (gB xc e) hV st) (by decide +kernel) (by decide +kernel) rfl rfl) fun σ H Q ⟨re,q⟩=>?_
 obtain⟨p,gs,e1,e2,rk⟩:=lZ re hs;exact⟨_,e1,p,gs,rfl,e2,by rw[←aZ.len rk];exact q _ H (aG.refl H) dD⟩
theorem aCj(h:XC CX X c G T lv)(hu:X.A.units+1<cLine){x:Str}{p2 ap q:Pos}{j:Nat}{i:Int}{kvs:List (Int×D)}{d0:D}{args:List Expr}(e:bD c x=some j)(pa:PA X args (b9 X.K T S ρ [.int i,d0]))(hs:starEach args X.env=args.map fun e=>(false,eval e X.env))(hlen:args.length=2)(hp:(ap.endLine == q.line)=true)(cu:nE ρ j=some kvs) :
  PE X (.Call (.Attribute (.Name x p2) "get" ap) args [] q) (tD X.K T S ρ ((cL kvs i).getD d0)):=by
 match args,hlen with
 |[a,b],_ =>
  obtain⟨h1,h2⟩:=nD (pos:=q) hs;have hf:((backTo q (starEach [a,b] X.env)).all (fun x=>!x.1)&&(backToKw q (keywordEach [] X.env)).all (fun x=>x.1.isSome)&&decide ([a,b].length+([]:List Keyword).length+(if ([]:List Keyword).isEmpty then 0 else 1)<30))=true:=by
   rw[hs,qT];simp[backToKw,keywordEach]
  refine PE.mono (LN PySem.F.plainAttrs_dict slot_dict_get PySem.F.type_dict_get (L2.VX hu) (gB h e) pa (by rfl) hf hp h1 h2) fun σ H Q ⟨re,qq⟩=>?_
  obtain⟨p,gs,e1,e2,rk⟩:=lZ re cu;refine⟨.ref p,e1,.inr (.inr (.inl ⟨rfl,.inl ⟨gs,e2⟩⟩)),re,fun vs H2 s2 r2=>?_⟩
  unfold aD at r2;obtain⟨v1,r1,rfl,rv1,r2⟩:=r2;unfold aD at r2;obtain⟨v2,r3,rfl,rv2,r2⟩:=r2;unfold aD at r2;subst r2;unfold Rep at rv1;subst rv1;have rk2:=aZ.val (k:=i) (aZ.gen (show aI X.K H H2 S S from fun a n _=>⟨n,fun o e=>s2 a o e⟩) _ _ rk)
  refine⟨p,_,v2,kU gs (Sum.inl i),rfl,rfl,rG.k (k:=Sum.inl i) (s2 _ _ e2),?_⟩;cases hv:cL kvs i with
  |none =>
   rw[rk2.2 hv];exact qq v2 H2 s2 (by rw[hv];exact rv2)
  |some d =>
   obtain⟨v,e3,rv⟩:=rk2.1 d hv;rw[e3];exact qq v H2 s2 (by rw[hv];exact rv)
end
theorem YA:bootBuiltins "enumerate" = some (.type "enumerate"):=by decide +kernel
theorem BX{X:Cx}{pins:sv}{σ:L2.St}{H:Hp}{s:Shared}{h':Heap}{t':Nat}{a b:Addr}(I:Inv X pins σ H s)(k:∀c o,c≠a→c≠b→s.heap.get? c=some o→h'.get? c=some o)(fa:lW X pins H a)(fb:lW X pins H b):Inv X pins σ H { s with heap:=h',toks:=t' }:=by
 have gy:∀{c:Addr},c∉[a,b]→c≠a∧c≠b:=fun {c} h=>⟨fun z=>h (by simp[z]),fun z=>h (by simp[z])⟩
 have sees:∀c u,H c=some u→c≠a∧c≠b:=fun c u e=>⟨fun z=>(by rw[z,fa.1]at e;cases e),fun z=>(by rw[z,fb.1]at e;cases e)⟩
 refine I.step (g':=s.gens) (d':=s.drawn) (ch:=[a,b]) (fun c hc=>?_) (fun c o _ _ hc e _=>k c o (gy hc).1 (gy hc).2 e) (fun c o _ _ hc e _=>⟨o.slots,k c o (gy hc).1 (gy hc).2 e⟩) (fun _ _ _ _ n=>n)
  (fun c o hc e=>⟨o,k c o (gy hc).1 (gy hc).2 e⟩) (fun _ _ e=>e) (fun _ _ _ e=>e) (fun c ps e=>⟨#[],by rw[e];simp⟩) (fun m hm=>?_) (fun c u e=>?_) I.bare
 ·rcases pj.mp hc with rfl|hc
  ·exact⟨fa.2.2.2.1,fa.2.1,fa.2.2.2.2.1,fa.2.2.2.2.2⟩
  ·obtain rfl:=ph.mp hc;exact⟨fb.2.2.2.1,fb.2.1,fb.2.2.2.2.1,fb.2.2.2.2.2⟩
 ·obtain⟨o,es,ep,ho,r⟩:=hm;exact⟨o,es,ep,k _ o (Ne.symm fa.2.1) (Ne.symm fb.2.1) ho,r⟩
 ·refine(I.hok c u e).stay (fun d v hd q=>?_) (fun _ q=>q) fun _ _ q=>q
  have n:d≠a∧d≠b:=by
   rcases hd with z|z
   ·rw[z];exact sees c u e
   ·exact sees d _ z
  exact k d v n.1 n.2 q
noncomputable def Ite(K:so)(a:Addr):It:=
 ⟨fun i H=>∃xs x,SqL K H a xs∧xs[i]?=some x,fun i H x H'=>∃p y,x=.ref p∧H p=none∧H'=upd H p (.tup [.int i,y])∧∀xs,SqL K H a xs→xs[i]?=some y,fun i H=>∃xs,SqL K H a xs∧xs.length≤i⟩
theorem GP{P:sr}{w:World}{K:so}{es:List Expr}{j:Nat}{q:Pos}(a e it:Addr)(bu:e≠it):Turn P w K (.Tuple es j q) (Ite K a) [e,it] e (fun i h=>(∃old,IsEnum h e it (i:Nat) old)∧h.IsListIter it a i) where
 mem:=by simp
 obj:=fun i h st b hb=>by
  obtain⟨⟨old,he⟩,hi⟩:=st
  rcases pj.mp hb with rfl|hb
  ·exact⟨_,he,fun v z=>by
    have z':Data.fields _=Data.cell v:=z
    cases z'⟩
  ·obtain rfl:=ph.mp hb;obtain⟨o,e,c,d⟩:=hi;exact⟨o,e,fun v z=>by rw[d]at z;cases z⟩
 keep:=fun i h h' st k=>⟨let ⟨old,he⟩:=st.1;⟨old,k e (by simp) _ he⟩,st.2.at fun o x=>k it (by simp) o x⟩
 item:=by
  intro X hP hw hK hc i pins s σ H E I hf st hg;subst hP hw hK;obtain⟨xs,x,hq,hx⟩:=hg;obtain⟨its,rv,p,hz⟩:=I.list hq;obtain⟨u,hu,ru⟩:=rv.get hx;obtain⟨⟨old,he⟩,hi⟩:=st;have hT:=I.hok.fresh (oh s.heap.objs.size)
  have eT:e≠s.heap.objs.size:=qh (p8 he)
  have iT:it≠s.heap.objs.size:=by obtain⟨o,e',_⟩:=hi;exact qh (p8 e')
  refine wpAny_pyNext_enum_item he hi p.isList (x:=u) (by simpa using hu) bu fun h1 ho hi1 hT1 hsz hk=>?_
  refine⟨_,rfl,wpAny_letOwnedTupleGo_enum (s:={ s with heap:=h1,toks:=s.toks+1 }) ho fun h2 he2 hs=>?_⟩
  have I1:Inv X pins σ (upd H s.heap.objs.size (.tup [.int i,x])) { s with heap:=s.heap.push { cls:=.type "tuple",data:=.seq #[.int i s.toks,u] },toks:=s.toks }:=
   I.laid (fun b o e=>om _ e) (oh _) ⟨p9 (show 2≤big from by decide) iM,[.int i s.toks,u],.cons ⟨_,rfl⟩ (.cons ru .nil),⟨_,qr _ rfl,rfl,_,rfl⟩⟩
  have fo:∀b,b∈[e,it]→b≠s.heap.objs.size→lW X pins (upd H s.heap.objs.size (.tup [.int i,x])) b:=fun b hb hn=>by
   obtain⟨f0,f1⟩:=hf b hb;exact⟨(aQ hn).trans f0,f1⟩
  have I2:Inv X pins σ (upd H s.heap.objs.size (.tup [.int i,x])) { s with heap:=h2,toks:=s.toks+1 }:=by
   have q:=BX (h':=h2) (t':=s.toks+1) I1 (fun b o n1 n2 eb=>by
    rw[hs.2 b n1]
    rcases Heap.get?_push_cases eb with ⟨rfl,rfl⟩|eb
    ·exact hT1
    ·exact hk b o n1 n2 eb) (fo e (by simp) eT) (fo it (by simp) iT)
   exact q
  refine⟨.ref s.heap.objs.size,_,I2,rfl,⟨_,x,rfl,hT,rfl,fun ys hy=>by rw[I.list_inj hy hq];exact hx⟩,⟨⟨_,by simpa using he2⟩,hi1.at fun o y=>(hs.2 it bu.symm).trans y⟩,fun b hb=>?_⟩
  rcases pj.mp hb with rfl|hb
  ·exact(fo b (by simp) eT).1
  ·obtain rfl:=ph.mp hb;exact(fo b (by simp) iT).1
 done:=by
  intro X hP hw hK hc i pins s σ H E I hf st hg;subst hP hw hK;obtain⟨xs,hq,hx⟩:=hg;obtain⟨its,rv,p,hz⟩:=I.list hq;obtain⟨⟨old,he⟩,hi⟩:=st;have hl:=rv.length
  exact wpAny_pyNext_enum_end (I.ok.hd hc) he hi p.isList (by simp;omega) fun h' eb=>⟨rfl,BX I (t':=s.toks) (fun b o n1 n2 y=>eb b o n2 y) (hf e (by simp)) (hf it (by simp))⟩
 self:=fun _ _ _ _ _ st h=>let ⟨_,he⟩:=st.1;wpAny_pyIter_enum he h
section
variable {CX:ao}{X:Cx}{c:CC}{G:GS}{T:Tx}{lv:Nat}{ρ:List Sl}{S:Addr→Prop}
theorem sI:∀{ds:List D} {k i:Nat} {d:D},(hG k ds)[i]?=some d→∃d',ds[i]?=some d'∧d=.tup [.int (k+i:Nat),d']
 |[],k,i,d,h=>by cases i<;>cases h
 |x::r,k,0,d,h=>by cases h;exact⟨x,rfl,rfl⟩
 |x::r,k,i+1,d,h=>by
  obtain⟨d',e1,e2⟩:=sI (ds:=r) (k:=k+1) (i:=i) h;exact⟨d',e1,by rw[e2,show k+1+i=k+(i+1) by omega]⟩
theorem mV:∀{ds:List D} {k:Nat},(hG k ds).length=ds.length
 |[],_=>rfl
 |x::r,k=>congrArg (· + 1) (mV (ds:=r) (k:=k+1))
theorem NF{H1:Hp}{a:Addr}{xs:List V}{ds:List D}(n:¬S a)(hq:SqL X.K H1 a xs)(r:aD X.K T H1 S ds xs):gz X.K T S H1 (Ite X.K a) (hG 0 ds):=fun H S' mv dom=>by
 obtain⟨n',k⟩:=mv a n (SqL.has hq);have cf:=SqL.keeps hq k
 refine⟨fun i d e=>?_,fun i hi=>⟨xs,cf,by rw[←r.len];rw[mV]at hi;exact hi⟩⟩
 obtain⟨d',e1,rfl⟩:=sI e;obtain⟨x,e2,rx⟩:=r.get e1;refine⟨⟨xs,x,cf,e2⟩,fun v H' hy=>?_⟩
 obtain⟨p,y,rfl,hp,rfl,ey⟩:=hy;have:=ey xs cf
 rw[e2]at this;cases this;rw[pq];exact⟨aG.upd hp,eW dom hp (aD.cons (by unfold Rep;rfl) (aD.cons (Rep.gen mv d' x rx) aD.nil))⟩
theorem LI{a:Expr}{p pos q:Pos}{d:D}{ds:List D}{es:List Expr}{j:Nat}(hg:Gl X "enumerate")(hm:X.mg "enumerate" = none)(ha:PA X [a] (b9 X.K T S ρ [d]))(hs:starEach [a] X.env=[(false,eval a X.env)])(hi:AQ d=some ds) :
  PI X (.Tuple es j q) (.Call (.Name "enumerate" p) [a] [] pos) (tI X.K T S ρ ds):=by
 intro pins s σ H R I ⟨re,q⟩;refine Call_ (iC I hg hm YA (pk (af (ha pos pins s σ H (fun vs H'=>aG H H'∧aD X.K T H' S [d] vs) I ⟨re,fun vs H' a b=>⟨a,b⟩⟩) fun us s1 ⟨vs,H1,I1,r1,sm,rl⟩=>?_) hs rfl))
 unfold aD at rl;obtain⟨x,r',rfl,rx,rr⟩:=rl;unfold aD at rr;subst rr;cases r1 with
 |cons r rr =>
  cases rr;cases d<;>simp only[AQ,reduceCtorEq,o7]at hi
  rename_i ds';subst hi;unfold Rep at rx;obtain⟨l,xs,e,n,hq,rl⟩:=rx;subst e;cases r;obtain⟨its,rv,pl,hz⟩:=I1.list (SqL.of hq);refine call_enumerate_list pl.isList fun h' hE hI hsz hk=>?_
  refine wpAny_pyIter_enum hE ?_;refine⟨s1.heap.objs.size+1,[s1.heap.objs.size+1,s1.heap.objs.size],_,_,H1,rfl,I1.kept (t':=s1.toks) hk,GP l _ _ (Nat.succ_ne_self _),⟨⟨.none,by simpa using hE⟩,hI⟩,fun b hb=>?_,q _ _ sm (NF n (SqL.of hq) rl) ?_⟩
  ·have hb:s1.heap.objs.size≤b:=by
    rcases pj.mp hb with rfl|hb
    ·exact qv _
    ·rw[ph.mp hb];exact oh _
   exact I1.fpOk hb (I1.hok.fresh hb)
  ·rw[mV,rl.len];exact hz
end
structure Plain (e:Expr):Prop where
 star:∀(env:Env) (es:List Expr),starEach (e::es) env=(false,eval e env)::starEach es env
 marks:∀op,behindInMarks op e=false
 set_:∀env x,foldedSetIterable e env x=pure x
 ix:jY e
theorem dA{n:Nat}{c:CC}{e:Expr}{ir:IE}(h:cE n c e=some ir):Plain e:=by
 cases e<;>first|exact⟨fun _ _=>rfl,fun _=>rfl,fun _ _=>rfl,fun _ _=>rfl⟩|(cases n<;>exact nomatch (show none=some ir from h))
section
variable {CX:ao}{G:GS}{T:Tx}{lv:Nat}
def du(CX:ao)(G:GS)(T:Tx)(lv n:Nat):Prop:=∀(X:Cx) (c:CC) (S:Addr→Prop) (ρ:List Sl) (e:Expr) (ir:IE),XC CX X c G T lv→cE n c e=some ir→∀d,ev G ir ρ=some d →
 PE X e (tD X.K T S ρ d)∧(iE c e=true→∀ds,d=.lst ds→PE X e (dj X.K T S ρ ds))
def kg(CX:ao)(G:GS)(T:Tx)(lv n:Nat):Prop:=∀(X:Cx) (c:CC) (S:Addr→Prop) (ρ:List Sl) (e:Expr) (ir:IE),XC CX X c G T lv→cT n c e=some ir→∀k,ev G ir ρ=some (.bl k)→PT X e (d7 X.K T S ρ k)
def ny(CX:ao)(G:GS)(T:Tx)(lv n:Nat):Prop:=∀(X:Cx) (c:CC) (S:Addr→Prop) (ρ:List Sl) (k:Bool) (vs:List Expr) (ir:IE) (pos:Pos),XC CX X c G T lv →
 (cB n c false k vs=some ir→∀d,ev G ir ρ=some d→PE X (.BoolOp (if k then .And else .Or) vs pos) (tD X.K T S ρ d)) ∧
 (cB n c true k vs=some ir→∀b,ev G ir ρ=some (.bl b)→PW X (.BoolOp (if k then .And else .Or) vs pos) (d7 X.K T S ρ b))
def i4(CX:ao)(G:GS)(T:Tx)(lv n:Nat):Prop:=∀(X:Cx) (c:CC) (S:Addr→Prop) (ρ:List Sl) (es:List Expr) (ir:IE),XC CX X c G T lv→cA n c es=some ir→∀d,ev G ir ρ=some d →
 ∃ds,d=.tup ds∧ds.length=es.length∧PA X es (b9 X.K T S ρ ds)∧starEach es X.env=es.map fun e=>(false,eval e X.env)
def PJ(k:Src)(tg:Expr):Prop:=k=.enum→∃es j p,tg=.Tuple es j p
theorem RS{c:CC}{tg:Expr}{av:List Nat}{tp:Bool}{k:Src}(cq:bW c tg=some (av,tp))(h:DH tp k=true):PJ k tg:=fun e=>by
 subst e;have ht:tp=true:=by simpa [DH,aCD] using h
 subst ht;cases tg<;>first|exact⟨_,_,_,rfl⟩|exact nomatch (show none=some _ from cq)|skip
 obtain⟨i,_,h2⟩:=aL cq;cases h2
def OkI(CX:ao)(G:GS)(T:Tx)(lv n:Nat):Prop:=∀(X:Cx) (c:CC) (S:Addr→Prop) (ρ:List Sl) (e:Expr) (k:Src) (ir:IE),XC CX X c G T lv→cI n c e=some (k,ir)→∀d ds,ev G ir ρ=some d→items k d=some ds →
 (∀tg,PJ k tg→PI X tg e (tI X.K T S ρ ds))∧∀x,foldedSetIterable e X.env x=pure x
theorem MD{n:Nat}(hE:du CX G T lv n)(hA:i4 CX G T lv n):i4 CX G T lv (n+1):=by
 intro X c S ρ es ir xc h d hd;cases es with
 |nil =>
  cases (show some IE.nil=some ir from h)
  simp only[ev,o7]at hd;exact⟨[],hd.symm,rfl,CS,rfl⟩
 |cons e es =>
  obtain⟨x,hx,h⟩:=aE h;obtain⟨y,hy,rfl⟩:=aL h;simp only[ev,oi,o9]at hd;obtain⟨a,ha,w,hw,hd⟩:=hd;obtain⟨ds,rfl,hl,pa,hs⟩:=hA X c S ρ es y xc hy w hw;simp only[o7]at hd;have st:=(dA hx).star X.env es
  refine⟨a::ds,hd.symm,by simp[hl],tT (hE X c S ρ e x xc hx a ha).1 pa st,?_⟩
  rw[st,hs];rfl
theorem MC{n:Nat}(hE:du CX G T lv n)(hT:kg CX G T lv n)(hB:ny CX G T lv n):ny CX G T lv (n+1):=by
 intro X c S ρ k vs ir pos xc;refine⟨fun h d hd=>?_,fun h b hb=>?_⟩
 ·cases vs with
  |nil=>exact nomatch (show none=some ir from h)
  |cons a r =>
   cases r with
   |nil =>
    exact aBD (hE X c S ρ a ir xc h d hd).1
   |cons b r =>
    obtain⟨x,hx,h⟩:=aE h;obtain⟨y,hy,rfl⟩:=aL h;cases k with
    |true =>
     simp only[if_true,ev,oi,o9]at hd;obtain⟨w,hw,hd⟩:=hd;have p1:=(hE X c S ρ a x xc hx w hw).1
     cases w<;>first|(simp only[reduceCtorEq]at hd;done)|skip
     rename_i kk;cases kk with
     |true =>
      simp only[o9]at hd;obtain⟨z,hz,hd⟩:=hd;have p2:=(hB X c S ρ true (b::r) y pos xc).1 hy z hz
      have iF:z=d:=by cases z<;>simp_all
      subst iF;exact PE.mono (LO p1 p2) fun σ H Q ⟨re,q⟩=>⟨re,fun x H1 s1 r1=>by
       unfold Rep at r1;exact⟨true,r1,qZ ⟨re.same s1,fun v H' s2 r=>q v H' (s1.trans s2) r⟩⟩⟩
     |false =>
      simp only[o7]at hd;subst hd;exact PE.mono (LO p1 (tb:=fun _ _ _=>False) (fun _ _ _ _ _ _ h=>h.elim)) fun σ H Q ⟨re,q⟩=>⟨re,fun x H1 s1 r1=>by
       unfold Rep at r1;exact⟨false,r1,pT (q _ H1 s1 bZ)⟩⟩
    |false =>
     simp only[oo,if_false,ev,oi,o9]at hd;obtain⟨w,hw,hd⟩:=hd;have p1:=(hE X c S ρ a x xc hx w hw).1
     cases w<;>first|(simp only[reduceCtorEq]at hd;done)|skip
     rename_i kk;cases kk with
     |false =>
      simp only[o9]at hd;obtain⟨z,hz,hd⟩:=hd;have p2:=(hB X c S ρ false (b::r) y pos xc).1 hy z hz
      have iF:z=d:=by cases z<;>simp_all
      subst iF;exact PE.mono (ZA p1 p2) fun σ H Q ⟨re,q⟩=>⟨re,fun x H1 s1 r1=>by
       unfold Rep at r1;exact⟨false,r1,pT ⟨re.same s1,fun v H' s2 r=>q v H' (s1.trans s2) r⟩⟩⟩
     |true =>
      simp only[o7]at hd;subst hd;exact PE.mono (ZA p1 (tb:=fun _ _ _=>False) (fun _ _ _ _ _ _ h=>h.elim)) fun σ H Q ⟨re,q⟩=>⟨re,fun x H1 s1 r1=>by
       unfold Rep at r1;exact⟨true,r1,qZ (q _ H1 s1 bZ)⟩⟩
 ·cases vs with
  |nil=>exact nomatch (show none=some ir from h)
  |cons a r =>
   cases r with
   |nil =>
    cases k with
    |true=>exact UA (hT X c S ρ a ir xc h b hb)
    |false=>exact tM (hT X c S ρ a ir xc h b hb)
   |cons b' r =>
    obtain⟨x,hx,h⟩:=aE h;obtain⟨y,hy,rfl⟩:=aL h;cases k with
    |true =>
     simp only[if_true,ev,oi,o9]at hb;obtain⟨w,hw,hb⟩:=hb;cases w<;>first|(simp only[reduceCtorEq]at hb;done)|skip
     rename_i kk;have p1:=hT X c S ρ a x xc hx kk hw
     cases kk with
     |true =>
      simp only[o9]at hb;obtain⟨z,hz,hb⟩:=hb;have iF:z=.bl b:=by cases z<;>simp_all
      subst iF;have p2:=(hB X c S ρ true (b'::r) y pos xc).2 hy b hz
      exact PW.mono (LB p1 p2) fun σ H Q ⟨re,q⟩=>⟨re,fun H1 s1=>qZ ⟨re.same s1,fun H' s2=>q H' (s1.trans s2)⟩⟩
     |false =>
      simp only[o7,D.bl.injEq]at hb;subst hb;exact PW.mono (LB p1 (tB':=fun _ _ _=>False) (fun _ _ _ _ _ _ _ h=>h.elim)) fun σ H Q ⟨re,q⟩=>⟨re,fun H1 s1=>pT (q H1 s1)⟩
    |false =>
     simp only[oo,if_false,ev,oi,o9]at hb;obtain⟨w,hw,hb⟩:=hb;cases w<;>first|(simp only[reduceCtorEq]at hb;done)|skip
     rename_i kk;have p1:=hT X c S ρ a x xc hx kk hw
     cases kk with
     |false =>
      simp only[o9]at hb;obtain⟨z,hz,hb⟩:=hb;have iF:z=.bl b:=by cases z<;>simp_all
      subst iF;have p2:=(hB X c S ρ false (b'::r) y pos xc).2 hy b hz
      exact PW.mono (xD p1 p2) fun σ H Q ⟨re,q⟩=>⟨re,fun H1 s1=>pT ⟨re.same s1,fun H' s2=>q H' (s1.trans s2)⟩⟩
     |true =>
      simp only[o7,D.bl.injEq]at hb;subst hb;exact PW.mono (xD p1 (tB':=fun _ _ _=>False) (fun _ _ _ _ _ _ _ h=>h.elim)) fun σ H Q ⟨re,q⟩=>⟨re,fun H1 s1=>qZ (q H1 s1)⟩
theorem iO(xc:XC CX X c G T lv){x:Str}(h1:fK.contains x=true)(h2:c.fns.contains x=false)(h3:c.cls.contains x=false):X.mg x=none:=xc.go.bi x h1 h2 h3
theorem MA{n:Nat}(hE:du CX G T lv n)(hA:i4 CX G T lv n):OkI CX G T lv (n+1):=by
 intro X c S ρ e k ir xc h d ds hd hi;have h:(match (qR c e).bind fun q=>(srcOf q.1).map fun k=>(k,q.2) with
  |some q=>(match q.1 with
   |.rng=>(cA n c q.2).map fun y=>(Src.rng,IE.tup y)
   |.enum=>(one? q.2).bind fun a=>(cE n c a).map fun y=>(Src.enum,y)
   |k=>(one? q.2).bind fun a=>(cE n c a).map fun y=>(k,y))
  |none=>(cE n c e).map fun y=>(Src.seq,y))=some (k,ir):=h
 cases hb:((qR c e).bind fun q=>(srcOf q.1).map fun k=>(k,q.2)) with
 |none =>
  rw[hb]at h;obtain⟨y,hy,e1⟩:=aL h;cases e1;exact⟨fun tg _=>UH (hE X c S ρ e ir xc hy d hd).1 hi,(dA hy).set_ X.env⟩
 |some q =>
  rw[hb]at h;obtain⟨r,hr,hq⟩:=aE hb;obtain⟨k',hk,rfl⟩:=aL hq;obtain⟨p1,p2,rfl,hg,ho⟩:=nO hr;obtain⟨hf,hc⟩:=LU ho
  by_cases hen:k'=Src.enum
  ·subst hen;have hx:r.1 = "enumerate":=by
    unfold srcOf at hk;split at hk
    ·cases hk
    ·split at hk
     ·cases hk
     ·split at hk
      ·assumption
      ·cases hk
   obtain⟨x,args⟩:=r;dsimp only at hx;subst hx;obtain⟨a,ha,h⟩:=aE h;obtain rfl:=cM ha;obtain⟨y,hy,e1⟩:=aL h;cases e1;have st:=(dA hy).star X.env []
   refine⟨fun tg ht=>?_,fun _=>rfl⟩
   obtain⟨es,j,p,rfl⟩:=ht rfl;exact LI (xc.glob hg) (iO xc (by decide +kernel) hf hc) (tT (hE X _ S ρ a ir xc hy d hd).1 CS st) st hi
  have hx:(r.1 = "range"∧k'=.rng)∨(r.1 = "reversed"∧k'=.rev):=by
   unfold srcOf at hk;split at hk
   ·rename_i e0;cases hk;exact .inl ⟨e0,rfl⟩
   ·split at hk
    ·rename_i e0;cases hk;exact .inr ⟨e0,rfl⟩
    ·split at hk
     ·cases hk;exact absurd rfl hen
     ·cases hk
  obtain⟨x,args⟩:=r
  rcases hx with ⟨rfl,rfl⟩|⟨rfl,rfl⟩
  ·obtain⟨y,hy,e1⟩:=aL h;cases e1;simp only[ev,oy]at hd;obtain⟨as,has,rfl⟩:=hd;have l9:ev G y ρ=some (.tup as):=by
    unfold bH at has;split at has
    ·cases has;assumption
    ·cases has
   obtain⟨as',e1,hl,pa,hs⟩:=hA X _ S ρ args y xc hy _ l9;cases e1;exact⟨fun tg _=>UI (xc.glob hg) (iO xc (by decide +kernel) hf hc) pa hs hi hl,fun _=>rfl⟩
  ·obtain⟨a,ha,h⟩:=aE h;obtain rfl:=cM ha;obtain⟨y,hy,e1⟩:=aL h;cases e1;have st:=(dA hy).star X.env []
   exact⟨fun tg _=>UJ (xc.glob hg) (iO xc (by decide +kernel) hf hc) (tT (hE X _ S ρ a ir xc hy d hd).1 CS st) st hi,fun _=>rfl⟩
end
section
variable {CX:ao}{X:Cx}{c:CC}{G:GS}{T:Tx}{lv:Nat}{ρ:List Sl}{S:Addr→Prop}{pos p:Pos}{ea:Expr}
noncomputable def WM:Bool→CmpOp
 |false=>.In
 |true=>.NotIn
theorem LP(h:XC CX X c G T lv){x y:Str}{kvs:List (Str×D)}(e:aS c x=true)(hk:G.dk x=some kvs)(ha:PE X ea (tD X.K T S ρ (.str y)))(neg:Bool):PC X (WM neg) ea (.Name x p) (tD X.K T S ρ (.bl (neg != (kvs.lookup y).isSome))):=by
 obtain⟨a,hm,hs,o,vs,hl,hd,hks,_⟩:=h.go.dk x kvs hk;intro pins s σ H Q I ⟨re,q⟩;refine af (ha pins s σ H (fun v H'=>aG H H'∧Rep X.K T H' S (.str y) v) I ⟨re,fun v H' sm r=>⟨sm,r⟩⟩) fun iv s1 ⟨v,H1,I1,ry,sm,r⟩=>?_
 refine gE I1 (h.glob e) hm ?_ (h.gne e);unfold Rep at r;subst r;obtain⟨t,rfl⟩:=ry;have dd:s1.heap.DictOf (bK X.prog X.w) a vs:=Heap.dictOf_iff.mpr ⟨o,I1.kIn a o hl,hd⟩
 have fin:∀b,b=(neg != (kvs.lookup y).isSome)→EP X pins σ Q (.bool b) { s1 with toks:=s1.toks+1 }:=fun b hb=>⟨.bl b,H1,I1.tok _,rfl,q _ H1 sm (by rw[hb];unfold Rep;rfl)⟩
 cases neg with
 |false=>exact wpAny_in_of (knd:=bK X.prog X.w) (jA X.prog X.w y t) hs dd.mapOf (fin _ (by rw[hks];simp))
 |true=>exact wpAny_notIn_of (knd:=bK X.prog X.w) (jA X.prog X.w y t) hs dd.mapOf (fin _ (by rw[hks];simp))
theorem aHx(h:XC CX X c G T lv){x y:Str}{kvs:List (Str×D)}(e:aS c x=true)(hk:G.dk x=some kvs)(ha:PE X ea (tD X.K T S ρ (.str y)))(neg:Bool):PE X (.Compare ea [WM neg] [.Name x p] pos) (tD X.K T S ρ (.bl (neg != (kvs.lookup y).isSome))):=aBH (LP h e hk ha neg) (by cases neg<;>rfl)
theorem aCi(h:XC CX X c G T lv){x y:Str}{kvs:List (Str×D)}(e:aS c x=true)(hk:G.dk x=some kvs)(ha:PE X ea (tD X.K T S ρ (.str y)))(neg:Bool):PT X (.Compare ea [WM neg] [.Name x p] pos) (d7 X.K T S ρ (neg != (kvs.lookup y).isSome)):=
 PT.mono (aBx (LP h e hk ha neg) (by cases neg<;>rfl)) fun σ H Q ⟨re,q⟩=>⟨re,fun v H' sm r=>by
  unfold Rep at r;exact⟨_,r,q H' sm⟩⟩
end
variable {CX:ao}{G:GS}{T:Tx}{lv:Nat}
theorem bM{o:Option D}{ds:List D}(h:bH o=some ds):o=some (.tup ds):=by
 unfold bH at h;split at h
 ·cases h;rfl
 ·cases h
theorem mL{o:Option Rs}{d:D}(h:bT o=some d):o=some (.ok d):=by
 unfold bT at h;split at h
 ·cases h;rfl
 ·cases h
theorem fT{o:Option D}{i:Int}(h:intOf o=some i):o=some (.int i):=by
 unfold intOf at h;split at h
 ·cases h;rfl
 ·cases h
theorem eB{X:Cx}{K:so}{c:CC}{S:Addr→Prop}{ρ:List Sl}{e:Expr}{d:D}(h:PE X e (tD X.K T S ρ d))(hf:iE c e=false):PE X e (tD X.K T S ρ d)∧(iE c e=true→∀ds,d=.lst ds→PE X e (dj X.K T S ρ ds)):=
 ⟨h,fun z=>by rw[hf]at z;cases z⟩
theorem fL{X:Cx}{c:CC}{S:Addr→Prop}{ρ:List Sl}{e:Expr}{ds:List D}(h:PE X e (dj X.K T S ρ ds)):PE X e (tD X.K T S ρ (.lst ds))∧(iE c e=true→∀es,D.lst ds=.lst es→PE X e (dj X.K T S ρ es)):=
 ⟨ZJ h,fun _ es z=>by cases z;exact h⟩
theorem gA{X:Cx}{c:CC}{S:Addr→Prop}{ρ:List Sl}{n:Nat}(hE:du CX G T lv n)(xc:XC CX X c G T lv){lo:Option Expr}{l:IE}{o:Option Int}(h:tL (cE n c) lo=some l)(hp:part lo.isSome (ev G l ρ)=some o):PO X lo (gc X.K T S ρ o):=by
 cases lo with
 |none =>
  simp only[part,Option.isSome_none,oo,if_false,o7]at hp;subst hp;exact aHo
 |some e =>
  simp only[part,Option.isSome_some,if_true,oy]at hp;obtain⟨i,hi,rfl⟩:=hp;exact aHn (hE X c S ρ e l xc h _ (fT hi)).1
theorem HW{c:CC}{x:Str}{i:Nat}(h:aCn c x=some i):bD c x=some i:=by
 unfold aCn at h;exact(bE h).2
theorem cC{c:CC}{e:Expr}{i:Nat}(h:cO c e=some i):∃x p,e=.Name x p∧bD c x=some i:=by
 obtain⟨x,h1,h⟩:=aE h;exact⟨x.1,x.2,dH h1,HW h⟩
theorem sG{K:so}{S:Addr→Prop}{H H1 H':Hp}{es:List D}{v:V}{Q:VK}(s1:aG H H1)(s2:aG H1 H')(fr:sT K T S H1 H' (.lst es) v)(q:∀p xs H',aG H H'→H p=none→H' p=some (.lst xs)→aD K T (er H' p) S es xs→Q (.ref p) H'):Q v H':=by
 obtain⟨p,xs,rfl,hn,hs,rl⟩:=fr es rfl;exact q p xs H' (s1.trans s2) (s1.free hn) hs rl
theorem aCf{X:Cx}{c:CC}{S:Addr→Prop}{ρ:List Sl}(xc:XC CX X c G T lv){y:Str}{p py q:Pos}{i:Nat}{xs:List D}(hg:aS c "len" = true)(hm:X.mg "len" = none)(e:bD c y=some i)(hs:fZ ρ i=some xs) :
  PE X (.Call (.Name "len" p) [.Name y py] [] q) (tD X.K T S ρ (.int xs.length)):=by
 have st:starEach [.Name y py] X.env=(false,eval (.Name y py) X.env)::starEach [] X.env:=rfl
 refine PE.mono (eX fJ (xc.glob hg) hm (by decide +kernel) (bX (gB xc e) hV st) (by decide +kernel) (by decide +kernel) rfl rfl) fun σ H Q ⟨re,q⟩=>?_
 obtain⟨p,ys,e1,e2,rl⟩:=lY re hs;exact⟨_,e1,p,ys,rfl,.inl (SqL.of e2),by rw[←rl.len];exact q _ H (aG.refl H) dD⟩
theorem aDd:bootBuiltins "len" = some (.builtin "len"):=by decide +kernel
theorem aDe:bootBuiltins "int" = some (.type "int"):=by decide +kernel
theorem OW:bootBuiltins "tuple" = some (.type "tuple"):=by decide +kernel
theorem aDc:bootBuiltins "max" = some (.builtin "max"):=by decide +kernel
theorem aDb:bootBuiltins "min" = some (.builtin "min"):=by decide +kernel
theorem VW{X:Cx}{c:CC}{S:Addr→Prop}{ρ:List Sl}(xc:XC CX X c G T lv){x:Str}{b:BF}{p pos:Pos}{es:List Expr}{ds:List D}{d:D}(hg:aS c x=true)(hm:X.mg x=none)(hb:qS x=some b)(ha:PA X es (b9 X.K T S ρ ds))(hs:starEach es X.env=es.map fun e=>(false,eval e X.env))(hlen:ds.length=es.length)(hd:bf b ds=some d) :
  PE X (.Call (.Name x p) es [] pos) (tD X.K T S ρ d)∧(x = "list"∨x = "sorted"→∀fq,d=.lst fq→PE X (.Call (.Name x p) es [] pos) (dj X.K T S ρ fq)):=by
 cases es with
 |nil =>
  have:ds=[]:=qa.mp hlen
  subst this;cases b<;>simp[bf,XI,XJ,yK,vQ,OD,XH,vR]at hd
 |cons e es =>
  obtain⟨h1,h2⟩:=nD (pos:=pos) hs;have iu:=xc.glob hg
  have go:∀{g:List D→Option D},g ds=some d→∀σ H Q,tD X.K T S ρ d σ H Q→tCB (jx X.K T S g) (b9 X.K T S ρ ds) σ H Q:=fun {g} j4 σ H Q ⟨re,q⟩=>⟨re,fun vs H1 s1 r1=>⟨ds,d,(re.same s1).dom,r1,j4,fun v H' s2 r2=>q v H' (s1.trans s2) r2⟩⟩
  unfold qS at hb;split at hb
  ·rename_i e0;subst e0;cases hb;exact⟨PE.mono (eX aIm iu hm aDd ha (by decide +kernel) (by decide +kernel) h1 h2) (go hd),fun z=>absurd z (by decide +kernel)⟩
  split at hb
  ·rename_i e0;subst e0;cases hb;exact⟨PE.mono (mH aIn iu hm aDe ha (by decide +kernel) (by decide +kernel) h1 h2) (go hd),fun z=>absurd z (by decide +kernel)⟩
  split at hb
  ·rename_i e0;subst e0;cases hb;have hl:∃fq,d=.lst fq:=by
    simp only[bf]at hd;unfold yK at hd;split at hd<;>first|(cases hd;exact⟨_,rfl⟩)|cases hd
   obtain⟨fq,rfl⟩:=hl;have pn:PE X (.Call (.Name "list" p) (e::es) [] pos) (dj X.K T S ρ fq):=PE.mono (mH aDg iu hm FK ha (by decide +kernel) (by decide +kernel) h1 h2) fun σ H Q ⟨re,q⟩=>⟨re,fun vs H1 s1 r1=>⟨ds,fq,r1,hd,fun p ys H' s2 hn bg rl=>by
    refine q p ys H' (s1.trans s2) ?_ bg rl;cases e0:H p with
    |none=>rfl
    |some o=>rw[s1 p o e0]at hn;cases hn⟩⟩
   exact⟨ZJ pn,fun _ es2 z=>by cases z;exact pn⟩
  split at hb
  ·rename_i e0;subst e0;cases hb;exact⟨PE.mono (mH YD iu hm OW ha (by decide +kernel) (by decide +kernel) h1 h2) (go hd),fun z=>absurd z (by decide +kernel)⟩
  split at hb
  ·rename_i e0;subst e0;cases hb;exact⟨PE.mono (eX (aIl xc.calm) iu hm aDc ha (by decide +kernel) (by decide +kernel) h1 h2) (go hd),fun z=>absurd z (by decide +kernel)⟩
  split at hb
  ·rename_i e0;subst e0;cases hb;exact⟨PE.mono (eX (aIk xc.calm) iu hm aDb ha (by decide +kernel) (by decide +kernel) h1 h2) (go hd),fun z=>absurd z (by decide +kernel)⟩
  split at hb
  ·cases hb;cases hd
  split at hb
  ·cases hb;cases hd
  ·cases hb
theorem aIj{x:Str}{b:BF}(h:qS x=some b):fK.contains x=true:=by
 unfold qS at h
 repeat' split at h
 all_goals first|cases h;done|(rename_i e;subst e;decide +kernel)
theorem aEv{x:Str}(h:jL.contains x=true):fK.contains x=true:=by
 rw[List.contains_iff_mem]at h ⊢;unfold jL at h;simp only[pj,rg,or_false]at h;rw[←List.contains_iff_mem]
 rcases h with h|h|h|h|h<;>subst h<;>decide +kernel
section
variable {n:Nat}{X:Cx}{c:CC}{S:Addr→Prop}{ρ:List Sl}{ir:IE}{d:D}
abbrev Tells(CX:ao)(T:Tx)(X:Cx)(c:CC)(S:Addr→Prop)(ρ:List Sl)(e:Expr)(d:D):Prop:=PE X e (tD X.K T S ρ d)∧(iE c e=true→∀ds,d=.lst ds→PE X e (dj X.K T S ρ ds))
theorem aGu(hE:du CX G T lv n)(hA:i4 CX G T lv n)(xc:XC CX X c G T lv){x:Str}{p q:Pos}{args:List Expr}{b:BF}(hg:aS c x=true)(hf:c.fns.contains x=false)(hc:c.cls.contains x=false)(hb:qS x=some b)(h:HA (cE n c) c b args (cA n c args)=some ir)(hd:ev G ir ρ=some d):Tells CX T X c S ρ (.Call (.Name x p) args [] q) d:=by
 have hm:=iO xc (aIj hb) hf hc
 have bcl:∀{y:IE},cA n c args=some y→ir=.bcall b y→Tells CX T X c S ρ (.Call (.Name x p) args [] q) d:=fun {y} hy e=>by
  subst e;simp only[ev,oi,o9]at hd;obtain⟨ds,a8,hd⟩:=hd;obtain⟨ds',e1,hl,pa,hs⟩:=hA X _ S ρ args y xc hy _ (bM a8);cases e1;have r:=VW (p:=p) (pos:=q) xc hg hm hb pa hs hl hd
  refine⟨r.1,fun z es e=>r.2 ?_ es e⟩
  have z:((c.fns.contains x&&c.fresh.contains x) || (aS c x&&(x == "list" || x == "sorted")&&!own c x))=true:=z
  simp only[own,hf,hc,hg,Bool.false_and,Bool.false_or,Bool.true_and,Bool.or_false,Bool.not_false,Bool.and_true,or_eq_true,qd]at z;exact z
 have mb:(cA n c args).map (fun x=>IE.bcall b x)=some ir→Tells CX T X c S ρ (.Call (.Name x p) args [] q) d:=fun h=>by
  obtain⟨y,hy,e⟩:=aL h;exact bcl hy e
 unfold HA at h;cases j2:ZL c args with
 |some i =>
  rw[j2]at h;obtain⟨e,h1,h2⟩:=aE j2;obtain⟨y,py,rfl,cu⟩:=cC h2;obtain rfl:=cM h1;cases b with
  |int=>exact mb h
  |list=>exact mb h
  |tuple=>exact mb h
  |max=>exact mb h
  |min=>exact mb h
  |str=>exact mb h
  |any=>exact mb h
  |len =>
   have h:some (if ([Expr.Name y py].any yE) then IE.lend i else IE.lenm i)=some ir:=h
   have hx:x = "len":=by
    unfold qS at hb
    repeat' split at hb
    all_goals first|assumption|cases hb
   cases md:([Expr.Name y py].any yE) with
   |true =>
    rw[md]at h;cases h;obtain⟨kvs,gm,hd⟩:=aE hd;cases hd;subst hx;exact⟨aCg xc hg hm cu gm,fun _ ds z=>by cases z⟩
   |false =>
   rw[md]at h;clear hx;cases (show some (IE.lenm i)=some ir from h)
   simp only[ev,oi,o9,o7]at hd;obtain⟨xs,gm,rfl⟩:=hd;have hx:x = "len":=by
    unfold qS at hb
    repeat' split at hb
    all_goals first|assumption|cases hb
   subst hx;exact⟨aCf xc hg hm cu gm,fun _ ds z=>by cases z⟩
  |sorted=>exact mb h
 |none =>
  rw[j2]at h;cases hr:zS c args with
  |none =>
   rw[hr]at h;exact mb (by cases b<;>exact h)
  |some a =>
   rw[hr]at h;cases b with
   |int=>exact mb h
   |len=>exact mb h
   |tuple=>exact mb h
   |max=>exact mb h
   |min=>exact mb h
   |str=>exact mb h
   |any=>exact mb h
   |sorted=>exact mb h
   |list =>
   clear bcl mb;obtain⟨z,hz,rfl⟩:=aL (show (cE n c a).map (fun x=>IE.walk .rev x)=some ir from h)
   simp only[ev,oi,o9,oy]at hd;obtain⟨w,hw,ds,a8,rfl⟩:=hd;have hx:x = "list":=by
    unfold qS at hb
    repeat' split at hb
    all_goals first|assumption|cases hb
   subst hx;obtain⟨e,h1,r1⟩:=aE hr;obtain⟨r,h2,r2⟩:=aE r1;obtain⟨hn,r3⟩:=bE r2;obtain⟨p1,p2,e5,j4,ho⟩:=nO h2;obtain⟨y,as⟩:=r;have e6:y = "reversed":=qd.mp hn
   have e7:as=[a]:=cM r3
   have e8:=cM h1
   clear hr h1 r1 h2 r2 hn r3 j2 h;subst e6 e7;dsimp only at e5 j4 ho;subst e5;subst e8;obtain⟨c9,hc'⟩:=LU ho;have st:=(dA hz).star X.env []
   exact fL (AA xc.calm (xc.glob j4) (iO xc (by decide +kernel) c9 hc') (xc.glob hg) hm (tT (hE X _ S ρ a z xc hz w hw).1 CS st) st a8)
theorem LY(hE:du CX G T lv n)(hA:i4 CX G T lv n)(xc:XC CX X c G T lv){x:Str}{p q:Pos}{args:List Expr}(h:CD (cE n c) c x args (cA n c args)=some ir)(hd:ev G ir ρ=some d):Tells CX T X c S ρ (.Call (.Name x p) args [] q) d:=by
 obtain⟨hg,h⟩:=bE h;cases d3:c.fns.contains x with
 |true =>
  rw[d3]at h;obtain⟨y,hy,rfl⟩:=aL (show (cA n c args).map (fun y=>IE.call x y)=some ir from h)
  simp only[ev,oi,o9]at hd;obtain⟨ds,a8,hd⟩:=hd;obtain⟨ds',e1,hl,pa,hs⟩:=hA X _ S ρ args y xc hy _ (bM a8);cases e1;have r:=aCm (p:=p) (pos:=q) xc hg d3 pa hs hl (mL hd)
  refine⟨PE.mono r fun σ H Q ⟨re,q⟩=>⟨re,fun v H1 H' s1 s2 rp _=>q v H' (s1.trans s2) rp⟩,fun hf es e=>?_⟩
  subst e;have c9:G.ff x=true:=by
   have z:((c.fns.contains x&&c.fresh.contains x) || (aS c x&&(x == "list" || x == "sorted")&&!own c x))=true:=hf
   simp only[own,d3,Bool.true_and,Bool.true_or,pD,Bool.and_false,Bool.or_false]at z;exact(xc.go.frs x z).1
  exact PE.mono r fun σ H Q ⟨re,q⟩=>⟨re,fun v H1 H' s1 s2 rp fr=>sG s1 s2 (fr c9) q⟩
 |false =>
  rw[d3]at h;cases ak:c.cls.contains x with
  |true =>
   rw[ak]at h;obtain⟨y,hy,rfl⟩:=aL (show (cA n c args).map (fun y=>IE.mk x y)=some ir from h)
   simp only[ev,oi,o9]at hd;obtain⟨ds,a8,hd⟩:=hd;obtain⟨ds',e1,hl,pa,hs⟩:=hA X _ S ρ args y xc hy _ (bM a8);cases e1;refine eB (K:=X.K) (aLa xc hg ak pa hs hl (mL hd)) ?_;show ((c.fns.contains x&&c.fresh.contains x) || (aS c x&&(x == "list" || x == "sorted")&&!own c x))=false
   simp only[own,d3,ak,Bool.false_and,Bool.or_true,pD,Bool.and_false,Bool.or_false]
  |false =>
   rw[ak]at h;cases hi:x == "isinstance" with
   |false =>
    rw[hi]at h;obtain⟨b,hb,h⟩:=aE (show (qS x).bind (fun b=>HA (cE n c) c b args (cA n c args))=some ir from h)
    exact aGu hE hA xc hg d3 ak hb h hd
   |true =>
    rw[hi]at h;obtain rfl:=qd.mp hi;have h:KU (cE n c) c args=some ir:=h
    match args,h with
    |[a,y],h =>
     obtain⟨y',ef,h⟩:=aE h;obtain⟨hk,h⟩:=bE h;obtain⟨hk,hk3⟩:=bN hk;obtain⟨hk1,jg⟩:=bN hk;obtain⟨z,hz,rfl⟩:=aL h;obtain rfl:=dH ef;obtain⟨ho1,fi⟩:=LU (ZF hk3);simp only[ev,oi,o9,oy]at hd;obtain⟨w,hw,k,hk,rfl⟩:=hd;have ht:∃tn,js w=some tn:=by
      cases w<;>first|exact⟨_,rfl⟩|(simp only[jC,reduceCtorEq]at hk)
     obtain⟨tn,ht⟩:=ht;have st:=(dA hz).star X.env [.Name y'.1 y'.2]
     exact⟨aHv xc hg (iO xc (by decide +kernel) d3 ak) hk1 (iO xc (aEv jg) ho1 fi) jg (hE X _ S ρ a z xc hz w hw).1 (by rw[st];rfl) ht hk,fun _ ds z=>by cases z⟩
theorem VF(hE:du CX G T lv n)(hA:i4 CX G T lv n)(xc:XC CX X c G T lv){o:Expr}{m:Str}{ap q:Pos}{args:List Expr}(h:(if jM o&&decide (args.length<30)&&(ap.endLine == q.line) then(match getM c o m with|some i=>(cA n c args).map fun y=>IE.getd i y|none=>(cE n c o).bind fun x=>(cA n c args).map fun y=>IE.meth x m y) else none)=some ir)(hd:ev G ir ρ=some d):Tells CX T X c S ρ (.Call (.Attribute o m ap) args [] q) d:=by
 obtain⟨hc,h⟩:=bE h;obtain⟨hc,hc3⟩:=bN hc;obtain⟨hc1,fk⟩:=bN hc;cases hg:getM c o m with
 |some i =>
  rw[hg]at h;obtain⟨y,hy,rfl⟩:=aL h;obtain⟨hm,j2⟩:=bE (show (if m == "get" then cO c o else none)=some i from hg)
  obtain⟨x,px,rfl,cu⟩:=cC j2;obtain rfl:m = "get":=qd.mp hm;obtain⟨as,has,hd⟩:=aE hd;obtain⟨ds',e1,hl,pa,hs⟩:=hA X _ S ρ args y xc hy _ (bM has);cases e1;split at hd
  ·rename_i k d0;obtain⟨kvs,hk,hd⟩:=aE hd;split at hd
   ·rename_i v hv;cases hd;have r:=aCj (d0:=.int d0) (i:=k) xc (DE xc.room) (p2:=px) cu pa hs (by first|exact hl|exact hl.symm) hc3 hk
    rw[hv]at r;exact⟨r,fun _ es e=>by cases e⟩
   ·cases hd
  ·cases hd
 |none =>
 rw[hg]at h;obtain⟨x,hx,h⟩:=aE h;obtain⟨y,hy,rfl⟩:=aL h;simp only[ev,oi,o9]at hd;obtain⟨w,hw,hd⟩:=hd;cases w<;>first|exact nomatch (show none=some d from hd)|skip
 rename_i cn fs;obtain⟨hnone,hd⟩:=bE hd;obtain⟨ds,a8,hd⟩:=aE hd;obtain⟨ds',e1,hl,pa,hs⟩:=hA X _ S ρ args y xc hy _ (bM a8);cases e1;have r:=aCe (pos:=q) xc (xW hc1 hs (of_decide_eq_true fk) hc3) (hE X _ S ρ o x xc hx _ hw).1 (Option.isNone_iff_eq_none.mp hnone) pa hs hl (mL hd)
 refine⟨PE.mono r fun σ H Q ⟨re,q⟩=>⟨re,fun v H1 H' s1 s2 rp _=>q v H' (s1.trans s2) rp⟩,fun hf es e=>?_⟩
 subst e;have c9:=(xc.go.frs m hf).2 cn
 exact PE.mono r fun σ H Q ⟨re,q⟩=>⟨re,fun v H1 H' s1 s2 rp fr=>sG s1 s2 (fr c9) q⟩
theorem OA{es:List Expr}(h:few es=true):es.length≤sizeLine:=p9 (of_decide_eq_true h) (p9 (by decide) iM)
theorem aBX(hE:du CX G T lv n)(xc:XC CX X c G T lv){a i:Expr}{p:Pos}(h:KS (cE n c) (yE a) (cO c a) (cE n c a) i=some ir)(hd:ev G ir ρ=some d):Tells CX T X c S ρ (.Subscript a i p) d:=by
 unfold KS at h;cases cu:ko i with
 |some q =>
  rw[cu]at h;obtain⟨lo,hi,st,pp⟩:=q;obtain rfl:=KN cu;cases st with
  |some _=>exact nomatch (show none=some ir from h)
  |none =>
   obtain⟨l,hl,h⟩:=aE (show (tL (cE n c) lo).bind _=some ir from h)
   obtain⟨u,hu,h⟩:=aE h;unfold aFt at h;cases hm:cO c a with
   |some j =>
    rw[hm]at h;cases h;obtain⟨x,px,rfl,cu⟩:=cC hm;simp only[ev,oi,o9,o7]at hd;obtain⟨xs,gm,ol,lr,ou,jd,rfl⟩:=hd;exact fL (aHl xc cu gm (gA hE xc hl lr) (gA hE xc hu jd))
   |none =>
    rw[hm]at h;obtain⟨x,hx,rfl⟩:=aL h;simp only[ev,oi,o9]at hd;obtain⟨w,hw,ol,lr,ou,jd,hd⟩:=hd;have pa:=(hE X _ S ρ a x xc hx w hw).1
    cases w<;>first|exact nomatch (show none=some d from hd)|skip
    ·cases hd;exact fL (ZI pa (gA hE xc hl lr) (gA hE xc hu jd) (.inl rfl))
    ·simp only at hd;split at hd
     ·cases hd
     ·rename_i hw';cases hd;exact⟨aHm pa (gA hE xc hl lr) (gA hE xc hu jd) hw',fun _ ds z=>by cases z⟩
    ·cases hd;exact fL (ZI pa (gA hE xc hl lr) (gA hE xc hu jd) (.inr rfl))
 |none =>
  rw[cu]at h;obtain⟨k,hk,h⟩:=aE h;refine eB (K:=X.K) ?_ (by show (ko i).isSome=false;rw[cu];rfl)
  unfold aFw at h;cases hm:cO c a with
  |some j =>
   rw[hm]at h;have h:some (if yE a then IE.ixd j k else IE.ixm j k)=some ir:=h
   cases md:yE a with
   |true =>
    rw[md]at h;cases h;obtain⟨x,px,rfl,cu⟩:=cC hm;obtain⟨kvs,gm,hd⟩:=aE hd;obtain⟨ii,hii,hd⟩:=aE hd;exact aHu xc (DE xc.room) cu (hE X _ S ρ i k xc hk _ (fT hii)).1 (dA hk).ix gm hd
   |false =>
   rw[md]at h;have h:some (IE.ixm j k)=some ir:=h
   cases h;obtain⟨x,px,rfl,cu⟩:=cC hm;simp only[ev,oi,o9]at hd;obtain⟨xs,gm,ii,hii,hd⟩:=hd;exact aHt xc cu (hE X _ S ρ i k xc hk _ (fT hii)).1 (dA hk).ix gm hd
  |none =>
   rw[hm]at h;obtain⟨x,hx,rfl⟩:=aL h;simp only[ev,oi,o9]at hd;obtain⟨u,hu,v,hv,hd⟩:=hd;have pa:=(hE X _ S ρ a x xc hx u hu).1
   have pi:=(hE X _ S ρ i k xc hk v hv).1
   cases v<;>first|(cases u<;>exact nomatch (show none=some d from hd))|skip
   cases u<;>first|exact nomatch (show none=some d from hd)|skip
   ·exact aCh pa pi (dA hk).ix (.inl rfl) hd
   ·exact aCh pa pi (dA hk).ix (.inr (.inl rfl)) hd
   ·exact aHB (DE xc.room) pa pi (dA hk).ix hd
   ·exact aCh pa pi (dA hk).ix (.inr (.inr rfl)) hd
theorem FG(hE:du CX G T lv n)(hT:kg CX G T lv n)(hI:OkI CX G T lv n)(xc:XC CX X c G T lv){elt:Expr}{gs:List Comprehension}{sc:Scope}{p:Pos}(h:cE (n+1) c (.ListComp elt gs sc p)=some ir)(hd:ev G ir ρ=some d) :
  ∃tg iter ifs fr av tp ds outs f,gs=[⟨tg,iter,ifs,0⟩]∧d=.lst outs∧kO c sc=true∧freeOf c sc (sc.names.filter fun x=>x.2 == .free)=some fr∧av.all (fun i=>(fr.lookup i).isNone)=true∧bW { c with N:=ownNames sc,sc:=sc } tg=some (av,tp) ∧
   PI X tg iter (tI X.K T S ρ ds)∧(∀x,foldedSetIterable iter X.env x=pure x)∧bQ f ds=some outs ∧
   (∀d o,f d=some o→∃ρ1,bB av tp d (frame (ownNames sc).length fr ρ)=some ρ1∧TurnOk CX G T lv { c with N:=ownNames sc,sc:=sc } X.K ifs elt ρ1 o):=by
 obtain⟨g,iq,h⟩:=aE h;obtain⟨tg,iter,ifs,as⟩:=g
 by_cases ha:as=0
 ·subst ha;obtain⟨⟨av,tp⟩,cq,h⟩:=aE (show KW c sc ⟨tg,iter,ifs,0⟩ (cI n c iter) (cT n { c with N:=ownNames sc,sc:=sc }) (cE n { c with N:=ownNames sc,sc:=sc } elt)=some ir from h)
  obtain⟨⟨k,src⟩,hk,h⟩:=aE h;obtain⟨test,bz,h⟩:=aE h;obtain⟨el,hel,h⟩:=aE h;obtain⟨fr,ar,h⟩:=aE h;obtain⟨hok,h⟩:=bE h;obtain⟨hok,bu⟩:=bN hok;have tgk:PJ k tg:=fun e=>by rw[e]at bu;exact nomatch bu
  obtain⟨ho1,fi⟩:=bN hok;cases h;obtain⟨s,hs,hd⟩:=aE hd;obtain⟨ds,a8,hd⟩:=aE hd;obtain⟨outs,houts,rfl⟩:=aL hd;obtain⟨hi,hset⟩:=hI X _ S ρ iter k src xc hk s ds hs a8;refine⟨tg,iter,ifs,fr,av,tp,ds,outs,_,cM iq,rfl,ho1,ar,fi,cq,hi tg tgk,hset,houts,?_⟩;intro d o hf;obtain⟨ρ1,h1,hf⟩:=aE hf;obtain⟨w,hw,hf⟩:=aE hf;refine⟨ρ1,h1,fun X' S' xc' hK=>?_⟩
  cases w<;>first|exact nomatch (show none=some o from hf)|skip
  rename_i kk;have ho:kk=o.isSome∧∀y,o=some y→ev G el ρ1=some y:=by
   cases kk with
   |true =>
    obtain⟨y,hy,rfl⟩:=aL hf;exact⟨rfl,fun z e=>by cases e;exact hy⟩
   |false =>
    cases hf;exact⟨rfl,fun z e=>by cases e⟩
  obtain⟨rfl,hy⟩:=ho;refine⟨?_,fun y e=>(hE X' _ S' ρ1 elt el xc' hel y (hy y e)).1⟩
  match ifs,bz with
  |[],bz =>
   cases bz;simp only[ev,Lit.d,o7,D.bl.injEq]at hw;exact .inl ⟨rfl,hw.symm⟩
  |[e],bz=>exact .inr ⟨e,rfl,hT X' _ S' ρ1 e test xc' bz _ hw⟩
 ·exact nomatch (show none=some ir from(if_neg ha).symm.trans h)
theorem LX(hE:du CX G T lv n)(xc:XC CX X c G T lv){a:Expr}{os:List CmpOp}{bs:List Expr}{p:Pos}(h:KY c (cE n c) (cE n c a) os bs=some ir)(hd:ev G ir ρ=some d):PE X (.Compare a os bs p) (tD X.K T S ρ d)∧∀k,d=.bl k→PT X (.Compare a os bs p) (d7 X.K T S ρ k):=by
 match os,bs,h with
 |[o],[b],h =>
  obtain⟨x,hx,h⟩:=aE h;cases hi:aHQ c o b with
  |some q =>
   rw[hi]at h;cases h;obtain⟨k,hk,hi⟩:=aE hi;obtain⟨r,hr,hi⟩:=aE hi;obtain⟨hg,hi⟩:=bE hi;cases hi;obtain rfl:=dH hr;obtain rfl:o=WM k:=by cases o<;>first|exact nomatch (show none=some k from hk)|(cases hk;rfl)
   cases hu:ev G x ρ with
   |none=>simp only[ev,hu]at hd;cases hd
   |some u =>
    simp only[ev,hu,oi,qu]at hd;cases u<;>first|exact nomatch (show none=some d from hd)|skip
    rename_i s;obtain⟨kvs,hkv,rfl⟩:=aL hd;have pa:=(hE X _ S ρ a x xc hx _ hu).1
    exact⟨aHx xc (bN hg).1 hkv pa k,fun k' e=>by cases e;exact aCi xc (bN hg).1 hkv pa k⟩
  |none =>
  rw[hi]at h;obtain⟨y,hy,rfl⟩:=aL h;simp only[ev,oi,o9]at hd;obtain⟨u,hu,v,hv,hd⟩:=hd;have pa:=(hE X _ S ρ a x xc hx u hu).1
  have pb:=(hE X _ S ρ b y xc hy v hv).1
  exact⟨aHC xc.units pa pb ((dA hy).marks o) hd,fun k e=>by subst e;exact aCl xc.units pa pb ((dA hy).marks o) hd⟩
 |[o,o'],[b,b'],h =>
  obtain⟨x,hx,h⟩:=aE h;obtain⟨y,hy,h⟩:=aE h;obtain⟨z,hz,rfl⟩:=aL h;simp only[ev,oi,o9]at hd;obtain⟨v,hv,u,hu,w,hw,hd⟩:=hd;have pa:=(hE X _ S ρ a x xc hx u hu).1
  have pb:=(hE X _ S ρ b y xc hy v hv).1
  have lm:lastMarks [o,o'] [b,b']=false:=(dA hz).marks o'
  cases w<;>first|exact nomatch (show none=some d from hd)|skip
  rename_i kk;cases kk with
  |true =>
   obtain⟨w,hw',hd⟩:=aE hd;have pc:=(hE X _ S ρ b' z xc hz w hw').1
   exact⟨VU xc.units pa pb pc lm hw (by rw[if_pos rfl];exact hd),fun k e=>by subst e;exact ML xc.units pa pb pc lm hw (by rw[if_pos rfl];exact hd)⟩
  |false =>
   cases hd;refine⟨PE.mono (xM (eP (T:=T) (S:=S) xc.units o) (eP (T:=T) (S:=S) xc.units o') pa pb (tc:=fun _ _ _=>False) (fun _ _ _ _ _ _ h=>h.elim) lm) fun σ H Q ⟨re,q⟩=>⟨re,fun x H1 s1 r1=>⟨re.same s1,fun y H2 s2 r2=>⟨u,v,.bl false,((re.same s1).same s2).dom,r1.same s2,r2,hw,fun z H3 s3 r3=>?_⟩⟩⟩,fun k e=>?_⟩
   ·unfold Rep at r3;exact⟨false,r3,pT (q _ H3 (s1.trans (s2.trans s3)) bZ)⟩
   ·cases e;refine PT.mono (xG (eP (T:=T) (S:=S) xc.units o) (eP (T:=T) (S:=S) xc.units o') pa pb (tc:=fun _ _ _=>False) (fun _ _ _ _ _ _ h=>h.elim) lm) fun σ H Q ⟨re,q⟩=>⟨re,fun x H1 s1 r1=>⟨re.same s1,fun y H2 s2 r2=>⟨u,v,.bl false,((re.same s1).same s2).dom,r1.same s2,r2,hw,fun z H3 s3 r3=>?_⟩⟩⟩
    unfold Rep at r3;exact⟨false,r3,pT ⟨_,rfl,q H3 (s1.trans (s2.trans s3))⟩⟩
end
theorem MB{n:Nat}(hE:du CX G T lv n)(hT:kg CX G T lv n)(hB:ny CX G T lv n)(hA:i4 CX G T lv n)(hI:OkI CX G T lv n):du CX G T lv (n+1):=by
 intro X c S ρ e ir xc h d hd;cases e<;>first|exact nomatch (show none=some ir from h)|skip
 case Name x p =>
  refine eB (K:=X.K) ?_ rfl;have h:zU c x=some ir:=h
  unfold zU at h;cases hs:bD c x with
  |some i =>
   rw[hs]at h;cases h;simp only[ev]at hd;exact aHi xc hs hd
  |none =>
   rw[hs]at h;obtain⟨hg,h⟩:=bE h;cases h;simp only[ev]at hd;exact aHy xc (bN hg).1 (bN hg).2 hd
 case Constant v k p =>
  refine eB (K:=X.K) ?_ rfl;have h:CB v=some ir:=h
  cases v<;>first|exact nomatch (show none=some ir from h)|skip
  all_goals
   cases h;simp only[ev,Lit.d,o7]at hd;subst hd
  ·exact aHq
  ·exact aLb
  ·exact aHw
  ·exact aHk
 case BinOp a o b p =>
  refine eB (K:=X.K) ?_ rfl;obtain⟨o',ho,h⟩:=aE h;obtain⟨x,hx,h⟩:=aE h;obtain⟨y,hy,rfl⟩:=aL h;simp only[ev,oi,o9]at hd;obtain⟨u,hu,v,hv,hd⟩:=hd;exact aHD ho (hE X _ S ρ a x xc hx u hu).1 (hE X _ S ρ b y xc hy v hv).1 hd
 case UnaryOp o a p =>
  refine eB (K:=X.K) ?_ rfl;have h:aFs (cE n c a) o=some ir:=h
  cases o<;>first|exact nomatch (show none=some ir from h)|skip
  ·obtain⟨x,hx,rfl⟩:=aL h;simp only[ev,oi,o9,oy]at hd;obtain⟨u,⟨w,hw,k,hk,rfl⟩,hd⟩:=hd;cases hd;exact aHp (hE X _ S ρ a x xc hx w hw).1 hk
  ·obtain⟨x,hx,rfl⟩:=aL h;simp only[ev,oi,o9]at hd;obtain⟨u,hu,hd⟩:=hd;cases u<;>first|exact nomatch (show none=some d from hd)|skip
   cases hd;exact aHr (hE X _ S ρ a x xc hx _ hu).1
 case BoolOp o vs p =>
  refine eB (K:=X.K) ?_ rfl;cases o with
  |And=>exact(hB X _ S ρ true vs ir p xc).1 h d hd
  |Or=>exact(hB X _ S ρ false vs ir p xc).1 h d hd
 case IfExp t a b p =>
  refine eB (K:=X.K) ?_ rfl;obtain⟨x,hx,h⟩:=aE h;obtain⟨y,hy,h⟩:=aE h;obtain⟨z,hz,rfl⟩:=aL h;simp only[ev,oi,o9]at hd;obtain⟨u,hu,hd⟩:=hd;cases u<;>first|exact nomatch (show none=some d from hd)|skip
  rename_i k;have pt:=hT X _ S ρ t x xc hx k hu
  cases k with
  |true=>exact ZK pt (fun _=>(hE X _ S ρ a y xc hy d hd).1) (fun z=>by cases z)
  |false=>exact ZK pt (fun z=>by cases z) (fun _=>(hE X _ S ρ b z xc hz d hd).1)
 case Compare a os bs p=>exact eB (K:=X.K) (LX hE xc h hd).1 rfl
 case Tuple es k p =>
  refine eB (K:=X.K) ?_ rfl;obtain⟨hl0,h⟩:=bE h;obtain⟨x,hx,rfl⟩:=aL h;simp only[ev,oy]at hd;obtain⟨ds,a8,rfl⟩:=hd;obtain⟨ds',e1,hl,pa,hs⟩:=hA X _ S ρ es x xc hx _ (bM a8);cases e1;exact aHj pa (by rw[hl];exact OA hl0)
 case List es p =>
  obtain⟨hl0,h⟩:=bE h;obtain⟨x,hx,rfl⟩:=aL h;simp only[ev,oy]at hd;obtain⟨ds,a8,rfl⟩:=hd;obtain⟨ds',e1,hl,pa,hs⟩:=hA X _ S ρ es x xc hx _ (bM a8);cases e1;exact fL (aHs pa (by rw[hl];exact OA hl0))
 case Subscript a i p=>exact aBX hE xc h hd
 case Attribute a f p =>
  refine eB (K:=X.K) ?_ rfl;obtain⟨ej,h⟩:=bE h;obtain⟨x,hx,rfl⟩:=aL h;simp only[ev,oi,o9]at hd;obtain⟨u,hu,hd⟩:=hd;have pa:=(hE X _ S ρ a x xc hx u hu).1
  cases u<;>first|exact nomatch (show none=some d from hd)|skip
  obtain⟨hf,hd⟩:=bE hd;exact aHz xc pa (lT ej) hf hd
 case ListComp elt gs sc p =>
  obtain⟨tg,iter,ifs,fr,av,tp,ds,outs,f,rfl,rfl,h1,h2,h3,h4,h5,h6,h7,h8⟩:=FG (S:=S) hE hT hI xc h hd;exact fL (UO xc h1 h2 h3 h4 h5 h6 h7 h8)
 case Call f args kw p =>
  obtain⟨hkw,h⟩:=bE h;obtain rfl:=jG hkw;cases f<;>first|exact nomatch (show none=some ir from h)|skip
  ·exact VF hE hA xc h hd
  ·exact LY hE hA xc h hd
end Z
namespace Z
open PySem PySem.Spec PyProof.Rows L2
variable {CX:ao}{G:GS}{T:Tx}{lv:Nat}
theorem LZ{n:Nat}(hE:du CX G T lv n)(hT:kg CX G T lv n)(hB:ny CX G T lv n):kg CX G T lv (n+1):=by
 intro X c S ρ e ir xc h k hk;have tr:(cE n c e).map .tr=some ir→(∀whole,isTrue e X.env whole=(do let v ←whole;standAt e.pos;holding [v] (truthy v)))→PT X e (d7 X.K T S ρ k):=fun h he=>by
  obtain⟨x,hx,rfl⟩:=aL h;simp only[ev,oi,o9,oy,D.bl.injEq]at hk;obtain⟨w,hw,k',ly,rfl⟩:=hk;exact VS (hE X c S ρ e x xc hx w hw).1 he ly
 cases e<;>first|exact tr h fun _=>rfl|skip
 case BoolOp o vs p =>
  cases o with
  |And=>exact PW.pt ((hB X c S ρ true vs ir p xc).2 h k hk)
  |Or=>exact PW.pt ((hB X c S ρ false vs ir p xc).2 h k hk)
 case UnaryOp o a p =>
  cases o<;>first|exact tr h fun _=>rfl|skip
  obtain⟨x,hx,rfl⟩:=aL h;simp only[ev,oi,o9]at hk;obtain⟨w,hw,hk⟩:=hk;cases w<;>first|exact nomatch (show none=some (D.bl k) from hk)|skip
  cases hk;exact aCd (hT X c S ρ a x xc hx _ hw)
 case IfExp _ _ _ _=>exact nomatch (show none=some ir from h)
 case Compare a os bs p=>exact(LX hE xc h hk).2 k rfl
theorem dG:∀n,du CX G T lv n∧kg CX G T lv n∧ny CX G T lv n∧i4 CX G T lv n∧OkI CX G T lv n
 | 0=>⟨fun X c S ρ e ir xc h=>(nomatch (show none=some ir from h)),fun X c S ρ e ir xc h=>(nomatch (show none=some ir from h)),fun X c S ρ k vs ir pos xc=>⟨fun h=>(nomatch (show none=some ir from h)),fun h=>(nomatch (show none=some ir from h))⟩,fun X c S ρ es ir xc h=>(nomatch (show none=some ir from h)),fun X c S ρ e k ir xc h=>(nomatch (show none=some (k,ir) from h))⟩
 |n+1=>by
  obtain⟨hE,hT,hB,hA,hI⟩:=dG n;exact⟨MB hE hT hB hA hI,LZ hE hT hB,MC hE hT hB,MD hE hA,MA hE hA⟩
end Z
namespace Z
open PySem PySem.Spec PyProof.Rows L2
def D0(S₀:Addr→Prop)(H₀:Hp):Prop:=∀a,S₀ a→∃o,H₀ a=some o
def Dm(S₀:Addr→Prop)(H₀:Hp)(ρ:List Sl)(σ:L2.St):Prop:=∀a,S₀ a→(∃o,H₀ a=some o)∨∃o,ρ[0]?=some (.mu o)∧σ[0]?=some (some (.ref a))
def K1(S₀:Addr→Prop)(H₀:Hp)(i:Nat):Prop:=i≠0∨D0 S₀ H₀
def K2(S₀:Addr→Prop)(H₀:Hp)(is:List Nat):Prop:=0∉is∨D0 S₀ H₀
def K0(S₀:Addr→Prop)(H₀:Hp)(is:IS):Prop:=cP is=true∨D0 S₀ H₀
theorem OL{S₀:Addr→Prop}{H₀:Hp}{ρ:List Sl}{σ:L2.St}{i:Nat}{s:Sl}{v:Option V}(h0:K1 S₀ H₀ i)(d:Dm S₀ H₀ ρ σ):Dm S₀ H₀ (ρ.set i s) (σ.set i v):=fun a z=>by
 rcases d a z with q|⟨o,q1,q2⟩
 ·exact .inl q
 ·rcases h0 with n|h0
  ·exact .inr ⟨o,by rw[p7 n];exact q1,by rw[p7 n];exact q2⟩
  ·exact .inl (h0 a z)
theorem yP{S₀:Addr→Prop}{H₀:Hp}{ρ:List Sl}{σ:L2.St}{i:Nat}{ds ds':D}(hi:ρ[i]?=some (.mu ds))(d:Dm S₀ H₀ ρ σ):Dm S₀ H₀ (ρ.set i (.mu ds')) σ:=fun a z=>by
 rcases d a z with q|⟨o,q1,q2⟩
 ·exact .inl q
 ·by_cases e:i=0
  ·subst e;exact .inr ⟨ds',p6 (o5.mp hi).1,q2⟩
  ·exact .inr ⟨o,by rw[p7 e];exact q1,q2⟩
theorem MZ{S₀:Addr→Prop}{H₀:Hp}{a b c:IS}(e:cP c=(cP a&&cP b))(h:K0 S₀ H₀ c):K0 S₀ H₀ a∧K0 S₀ H₀ b:=by
 rcases h with h|h
 ·rw[e]at h;exact⟨.inl (bN h).1,.inl (bN h).2⟩
 ·exact⟨.inr h,.inr h⟩
theorem MX{S₀:Addr→Prop}{H₀:Hp}{a b:IS}(h:K0 S₀ H₀ (.seq a b)):K0 S₀ H₀ a∧K0 S₀ H₀ b:=MZ rfl h
theorem MY{S₀:Addr→Prop}{H₀:Hp}{a b:IS}{t:IE}(h:K0 S₀ H₀ (.iff t a b)):K0 S₀ H₀ a∧K0 S₀ H₀ b:=MZ rfl h
theorem yB{S₀:Addr→Prop}{H₀:Hp}{i:Nat}{c:IS}(e:cP c=(i != 0))(h:K0 S₀ H₀ c):K1 S₀ H₀ i:=h.imp (fun h=>by rw[e]at h;simpa using h) id
theorem aHL{S₀:Addr→Prop}{H₀:Hp}{is:List Nat}{c:IS}(e:cP c=!is.contains 0)(h:K0 S₀ H₀ c):K2 S₀ H₀ is:=h.imp (fun h=>by rw[e]at h;simpa using h) id
theorem CW{S₀:Addr→Prop}{H₀:Hp}{tg:List Nat}{tp:Bool}{k:Src}{s:IE}{b:IS}(h:K0 S₀ H₀ (.loop tg tp k s b)):K2 S₀ H₀ tg∧K0 S₀ H₀ b:=by
 rcases h with h|h
 ·have h:(!tg.contains 0&&cP b)=true:=h
  exact⟨.inl (by simpa using (bN h).1),.inl (bN h).2⟩
 ·exact⟨.inr h,.inr h⟩
theorem ZN{S₀:Addr→Prop}{H₀:Hp}{c:IS}(e:cP c=false)(h:K0 S₀ H₀ c):D0 S₀ H₀:=h.elim (fun h=>by rw[e]at h;cases h) id
structure SInv (K:so) (T:Tx) (S₀:Addr→Prop) (H₀:Hp) (S:Addr→Prop) (ρ:List Sl) (σ:L2.St) (H:Hp):Prop where
 re:RE K T H S ρ σ
 dom0:Dm S₀ H₀ ρ σ
 sup:∀a,S₀ a→S a
 same:aG H₀ H
 dist:∀(i j:Nat) xs ys p,ρ[i]?=some (.mu xs)→ρ[j]?=some (.mu ys)→σ[i]?=some (some (.ref p))→σ[j]?=some (some (.ref p))→i=j
 own:∀(i:Nat) xs p,ρ[i]?=some (.mu xs)→σ[i]?=some (some (.ref p))→H₀ p=none
section
variable {K:so}{T:Tx}{S₀ S S':Addr→Prop}{H₀ H H' hX:Hp}{ρ ρ1:List Sl}{σ σ1:L2.St}
theorem aI.refl:aI K H H S S:=fun a n _=>⟨n,fun _ e=>e⟩
theorem aI.same(h:aG H H'):aI K H H' S S:=fun a n _=>⟨n,fun o e=>h a o e⟩
theorem aI.trans{S'':Addr→Prop}(h:aI K H H' S S')(g:aI K H' hX S' S''):aI K H hX S S'':=fun a n q=>by
 obtain⟨n1,k1⟩:=h a n q;obtain⟨n2,k2⟩:=g a n1 (q.elim (fun⟨o,e⟩=>.inl ⟨o,k1 o e⟩) .inr)
 exact⟨n2,fun o e=>k2 o (k1 o e)⟩
theorem SInv.step(si:SInv K T S₀ H₀ S ρ σ H)(h:aG H H'):SInv K T S₀ H₀ S ρ σ H':=⟨si.re.same h,si.dom0,si.sup,si.same.trans h,si.dist,si.own⟩
theorem SInv.set(si:SInv K T S₀ H₀ S ρ σ H){i:Nat}{d:D}{v:V}(h0:K1 S₀ H₀ i)(r:Rep K T H S d v):SInv K T S₀ H₀ S (ρ.set i (.im d)) (σ.set i (some v)) H:=by
 have old:∀(j:Nat) xs p,(ρ.set i (.im d))[j]?=some (.mu xs)→(σ.set i (some v))[j]?=some (some (.ref p))→j≠i∧ρ[j]?=some (.mu xs)∧σ[j]?=some (some (.ref p)):=fun j xs p h1 h2=>by
  have ne:j≠i:=by
   rintro rfl;have hl:j<ρ.length:=by simpa using (o5.mp h1).1
   rw[p6 hl]at h1;cases h1
  rw[p7 (Ne.symm ne)]at h1 h2;exact⟨ne,h1,h2⟩
 refine⟨si.re.set r,OL h0 si.dom0,si.sup,si.same,fun a b xs ys p h1 h2 h3 h4=>?_,fun a xs p h1 h2=>?_⟩
 ·obtain⟨_,q1,q2⟩:=old a xs p h1 h3;obtain⟨_,q3,q4⟩:=old b ys p h2 h4;exact si.dist a b xs ys p q1 q3 q2 q4
 ·obtain⟨_,q1,q2⟩:=old a xs p h1 h2;exact si.own a xs p q1 q2
theorem SInv.setm(si:SInv K T S₀ H₀ S ρ σ H){i:Nat}{ds:D}{p:Addr}{xs:HO}(h0:K1 S₀ H₀ i)(sm:aG H H')(hp:H p=none)(hk:K.lookup p=none)(cv:H' p=some xs)(rl:iV K T (er H' p) S ds xs) :
  SInv K T S₀ H₀ (fun a=>S a∨a=p) (ρ.set i (.mu ds)) (σ.set i (some (.ref p))) H'∧aI K H H' S (fun a=>S a∨a=p):=by
 have mv:aI K H H' S (fun a=>S a∨a=p):=fun a n q=>by
  have ne:a≠p:=by
   rintro rfl
   rcases q with ⟨o,e⟩|⟨o,e⟩
   ·rw[hp]at e;cases e
   ·rw[hk]at e;cases e
  exact⟨fun z=>z.elim n ne,fun o e=>sm a o e⟩
 have dom:∀a,(S a∨a=p)→∃o,H' a=some o:=fun a z=>z.elim (fun z=>let ⟨o,e⟩:=si.re.dom a z;⟨o,sm a o e⟩) fun z=>⟨xs,by rw[z];exact cv⟩
 have re':RE K T H' (fun a=>S a∨a=p) ρ σ:=si.re.gen mv (fun a ys z e _=>⟨.inl z,sm a _ e⟩) dom
 have slotp:∀(j:Nat) ys,ρ[j]?=some (.mu ys)→σ[j]?=some (some (.ref p))→False:=fun j ys h1 h2=>by
  obtain⟨q,zs,e1,e2,e3,_⟩:=si.re.at_ j _ h1;rw[h2]at e1;cases e1;rw[hp]at e3;cases e3
 have at_:∀(j:Nat) ys q,(ρ.set i (.mu ds))[j]?=some (.mu ys)→(σ.set i (some (.ref p)))[j]?=some (some (.ref q))→(j=i∧q=p)∨(j≠i∧ρ[j]?=some (.mu ys)∧σ[j]?=some (some (.ref q))):=fun j ys q h1 h2=>by
  by_cases e:j=i
  ·subst e;have hl:j<ρ.length:=by simpa using (o5.mp h1).1
   rw[p6 (by rw[←si.re.len];exact hl)]at h2
   cases h2;exact .inl ⟨rfl,rfl⟩
  ·rw[p7 (Ne.symm e)]at h1 h2;exact .inr ⟨e,h1,h2⟩
 refine⟨⟨⟨dom,by simp[si.re.len],fun j s e=>?_⟩,OL h0 si.dom0,fun a z=>.inl (si.sup a z),si.same.trans sm,fun a b ys zs q h1 h2 h3 h4=>?_,fun a ys q h1 h2=>?_⟩,mv⟩
 ·by_cases hj:j=i
  ·subst hj;have hl:j<ρ.length:=by simpa using (o5.mp e).1
   rw[p6 hl]at e;cases e;rw[p6 (by rw[←si.re.len];exact hl)]
   exact⟨p,xs,rfl,.inr rfl,cv,rl.gen (aI.own hk)⟩
  ·rw[p7 (Ne.symm hj)]at e ⊢;exact re'.at_ j s e
 ·rcases at_ a ys q h1 h3 with ⟨ea,eq⟩|⟨na,q1,q2⟩
  ·rcases at_ b zs q h2 h4 with ⟨eb,_⟩|⟨nb,q3,q4⟩
   ·rw[ea,eb]
   ·subst eq;exact(slotp b zs q3 q4).elim
  ·rcases at_ b zs q h2 h4 with ⟨eb,eq⟩|⟨nb,q3,q4⟩
   ·subst eq;exact(slotp a ys q1 q2).elim
   ·exact si.dist a b ys zs q q1 q3 q2 q4
 ·rcases at_ a ys q h1 h2 with ⟨ea,eq⟩|⟨na,q1,q2⟩
  ·subst eq;exact si.same.free hp
  ·exact si.own a ys q q1 q2
theorem SInv.write(si:SInv K T S₀ H₀ S ρ σ H){i:Nat}{ds ds':D}{p:Addr}{d6:HO}(hi:ρ[i]?=some (.mu ds))(hp:σ[i]?=some (some (.ref p)))(rl:iV K T H S ds' d6) :
  SInv K T S₀ H₀ S (ρ.set i (.mu ds')) σ (upd H p d6)∧aI K H (upd H p d6) S S:=by
 obtain⟨q,zs,e1,e2,e3,_⟩:=si.re.at_ i _ hi;rw[hp]at e1;cases e1;have mv:aI K H (upd H p d6) S S:=fun a n _=>⟨n,fun o e=>by rw[aQ (fun z=>n (by rw[z];exact e2))];exact e⟩
 have dom:∀a,S a→∃o,upd H p d6 a=some o:=fun a z=>by
  by_cases e:a=p
  ·exact⟨d6,by rw[e];exact aV⟩
  ·obtain⟨o,q⟩:=si.re.dom a z;exact⟨o,by rw[aQ e];exact q⟩
 have hl:i<ρ.length:=(o5.mp hi).1
 have old:∀(j:Nat) ys,(ρ.set i (.mu ds'))[j]?=some (.mu ys)→∃zs,ρ[j]?=some (.mu zs):=fun j ys h=>by
  by_cases e:j=i
  ·exact⟨ds,by rw[e];exact hi⟩
  ·rw[p7 (Ne.symm e)]at h;exact⟨ys,h⟩
 refine⟨⟨⟨dom,by simp[si.re.len],fun j s e=>?_⟩,yP hi si.dom0,si.sup,fun b o e=>?_,fun a b ys zs q h1 h2 h3 h4=>?_,fun a ys q h1 h2=>?_⟩,mv⟩
 ·by_cases hj:j=i
  ·subst hj;rw[p6 hl]at e;cases e;exact⟨p,d6,hp,e2,aV,rl.gen mv⟩
  ·rw[p7 (Ne.symm hj)]at e;have h:=si.re.at_ j s e
   cases s with
   |un=>trivial
   |im d=>obtain⟨v,e4,r⟩:=h;exact⟨v,e4,Rep.gen mv d v r⟩
   |mu ys =>
    obtain⟨q,ws,e4,e5,e6,r⟩:=h;refine⟨q,ws,e4,e5,?_,r.gen mv⟩;rw[aQ]
    ·exact e6
    ·rintro rfl;exact hj (si.dist j i ys ds q e hi e4 hp)
 ·have ne:b≠p:=by
   rintro rfl;rw[si.own i ds b hi hp]at e;cases e
  rw[aQ ne];exact si.same b o e
 ·obtain⟨dw,q1⟩:=old a ys h1;obtain⟨zs',q2⟩:=old b zs h2;exact si.dist a b dw zs' q q1 q2 h3 h4
 ·obtain⟨dw,q1⟩:=old a ys h1;exact si.own a dw q q1 h2
theorem jI:∀{is:List Nat} {ds:List D} {ρ ρ1:List Sl} {j:Nat} {xs:D},aY is ds ρ=some ρ1→ρ1[j]?=some (.mu xs)→j∉is∧ρ[j]?=some (.mu xs)
 |[],[],ρ,ρ1,j,xs,h,e=>by
  simp only[aY,o7]at h;subst h;exact⟨by simp,e⟩
 |i::is,d::ds,ρ,ρ1,j,xs,h,e=>by
  simp only[aY]at h;obtain⟨n,q⟩:=jI h e;have ne:j≠i:=by
   rintro rfl;have hl:j<ρ.length:=by simpa using (o5.mp q).1
   rw[p6 hl]at q;cases q
  rw[p7 (Ne.symm ne)]at q;exact⟨by simp[n,ne],q⟩
 |[],_::_,_,_,_,_,h,_=>by simp[aY]at h
 |_::_,[],_,_,_,_,h,_=>by simp[aY]at h
theorem qQ{is:List Nat}{tp:Bool}{d:D}{j:Nat}{xs:D}(h:bB is tp d ρ=some ρ1)(e:ρ1[j]?=some (.mu xs)):j∉is∧ρ[j]?=some (.mu xs):=by
 unfold bB at h;split at h
 ·split at h
  ·exact jI h e
  ·cases h
 ·exact jI h e
theorem gO:∀{is:List Nat} {ds:List D} {ρ ρ1:List Sl} {j:Nat},aY is ds ρ=some ρ1→j∉is→ρ1[j]?=ρ[j]?
 |[],[],ρ,ρ1,j,h,_=>by
  simp only[aY,o7]at h;rw[h]
 |i::is,d::ds,ρ,ρ1,j,h,n=>by
  simp only[aY]at h;rw[gO h fun z=>n (oq _ z),p7 fun z=>n (by rw[z];exact qw)]
 |[],_::_,_,_,_,h,_=>by simp[aY]at h
 |_::_,[],_,_,_,h,_=>by simp[aY]at h
theorem BM{is:List Nat}{tp:Bool}{d:D}{j:Nat}(h:bB is tp d ρ=some ρ1)(n:j∉is):ρ1[j]?=ρ[j]?:=by
 unfold bB at h;split at h
 ·split at h
  ·exact gO h n
  ·cases h
 ·exact gO h n
theorem SInv.bind(si:SInv K T S₀ H₀ S ρ σ H){is:List Nat}{tp:Bool}{d:D}(h0:K2 S₀ H₀ is)(h:bB is tp d ρ=some ρ1)(re:RE K T H S ρ1 σ1)(ag:∀j,j∉is→σ1[j]?=σ[j]?):SInv K T S₀ H₀ S ρ1 σ1 H:=by
 have dm:Dm S₀ H₀ ρ1 σ1:=fun a z=>by
  rcases si.dom0 a z with q|⟨o,q1,q2⟩
  ·exact .inl q
  ·rcases h0 with n|h0
   ·exact .inr ⟨o,(BM h n).trans q1,(ag 0 n).trans q2⟩
   ·exact .inl (h0 a z)
 refine⟨re,dm,si.sup,si.same,fun a b xs ys p h1 h2 h3 h4=>?_,fun a xs p h1 h2=>?_⟩
 ·obtain⟨n1,q1⟩:=qQ h h1;obtain⟨n2,q2⟩:=qQ h h2;rw[ag a n1]at h3;rw[ag b n2]at h4;exact si.dist a b xs ys p q1 q2 h3 h4
 ·obtain⟨n1,q1⟩:=qQ h h1;rw[ag a n1]at h2;exact si.own a xs p q1 h2
theorem RE.view(re:RE K T H S ρ σ):RE K T H (fun _=>False) (view ρ) σ:=by
 refine⟨fun a z=>z.elim,by simp[Z.view,re.len],fun i s e=>?_⟩
 unfold Z.view at e;rw[oe]at e;cases h:ρ[i]? with
 |none=>rw[h]at e;cases e
 |some s' =>
  rw[h]at e;cases e;have r:=re.at_ i s' h
  cases s' with
  |un=>trivial
  |im d=>obtain⟨v,e1,r⟩:=r;exact⟨v,e1,Rep.mono (fun _ z=>z.elim) (fun _ _ _ e=>e) d v r⟩
  |mu ds =>
   obtain⟨p,xs,e1,_,e3,r⟩:=r;exact⟨.ref p,e1,r.rep e3 (fun z=>z) fun _ z=>z.elim⟩
theorem KQ{d:D}{v:V}(h:zQ d=true)(r:Rep K T H S d v):Rep K T H S' d v:=by
 cases d<;>first|(simp only[zQ,oo]at h;done)|(unfold Rep at r ⊢;exact r)
end
variable {CX:ao}{G:GS}{T:Tx}{lv:Nat}{X:Cx}{c:CC}{S₀:Addr→Prop}{H₀:Hp}{fr:Bool}{EX:Str→Hp→Prop}{pos:Pos}
noncomputable def PK(K:so)(T:Tx)(S₀:Addr→Prop)(H₀:Hp)(fr:Bool)(EX:Str→Hp→Prop)(H:Hp)(S:Addr→Prop)(D:Ends):Out→Prop
 |.nx ρ=>∀S' σ' H',SInv K T S₀ H₀ S' ρ σ' H'→aI K H H' S S'→D.nx σ' H'
 |.bk ρ=>∀S' σ' H',SInv K T S₀ H₀ S' ρ σ' H'→aI K H H' S S'→D.bk σ' H'
 |.ct ρ=>∀S' σ' H',SInv K T S₀ H₀ S' ρ σ' H'→aI K H H' S S'→D.ct σ' H'
 |.rt d=>∀v H',aG H₀ H'→Rep K T H' S₀ d v→(fr=true→sT K T S₀ H₀ H' d v)→D.rt v H'
 |.er c=>∀H',aG H₀ H'→EX c H'
 |.rm d ρ=>∀S' σ' H' v,SInv K T S₀ H₀ S' ρ σ' H'→aI K H H' S S'→Rep K T H' S' d v→D.rt v H'
def aT(K:so)(T:Tx)(S₀:Addr→Prop)(H₀:Hp)(fr:Bool)(EX:Str→Hp→Prop)(G:GS)(is:IS):TS:=fun D σ H=>∃ρ out S,ex G is ρ=some out∧SInv K T S₀ H₀ S ρ σ H∧PK K T S₀ H₀ fr EX H S D out
structure XS (CX:ao) (T:Tx) (X:Cx) (c:CC) (EX:Str→Hp→Prop):Prop where
 kind:X.env.scope.kind=.function
 pass:PassesOwn (model X.prog X.w) X.A X.env X.xe
 rse:∀x m j p p' q pos,aS c x=true→c.cls.contains x=true→PS X (.Raise (some (.Call (.Name x p) [.Constant (.str m) j p'] [] q)) none pos) (fun D σ H=>EX x H)
 pss:∀E1:XK,(∀cls H',E1 cls none H'→∃k C,T.xc k=some C∧cls=.ref C∧EX k H')→gP CX X E1
 stk:X.stack=X.env::X.outer
 frm:X.env.frame=some X.env.locals
theorem PK.step{K:so}{H H':Hp}{S S':Addr→Prop}{D:Ends}{o:Out}(mv:aI K H H' S S')(h:PK K T S₀ H₀ fr EX H S D o):PK K T S₀ H₀ fr EX H' S' D o:=by
 cases o with
 |nx ρ=>exact fun S2 σ2 H2 si m=>h S2 σ2 H2 si (mv.trans m)
 |bk ρ=>exact fun S2 σ2 H2 si m=>h S2 σ2 H2 si (mv.trans m)
 |ct ρ=>exact fun S2 σ2 H2 si m=>h S2 σ2 H2 si (mv.trans m)
 |rt d=>exact h
 |er c=>exact h
 |rm d ρ=>exact fun S2 σ2 H2 v si m r=>h S2 σ2 H2 v si (mv.trans m) r
theorem qH{e:IE}{ρ:List Sl}{d:D}(h:b0 G e ρ=some d):ev G e ρ=some d∨(ev G e (view ρ)=some d∧zQ d=true):=by
 unfold b0 at h;split at h
 ·rename_i h1;cases h;exact .inl h1
 ·split at h
  ·rename_i h2;split at h
   ·rename_i h3;cases h;exact .inr ⟨h2,h3⟩
   ·cases h
  ·cases h
theorem lB(xc:XC CX X c G T lv){n:Nat}{e:Expr}{ir:IE}{ρ:List Sl}{d:D}{S:Addr→Prop}(he:cE n c e=some ir)(h:b0 G ir ρ=some d):PE X e (tD X.K T S ρ d):=by
 rcases qH h with h|⟨h,hs⟩
 ·exact((dG n).1 X c S ρ e ir xc he d h).1
 ·exact PE.mono ((dG n).1 X c (fun _=>False) (view ρ) e ir xc he d h).1 fun σ H Q ⟨re,q⟩=>⟨re.view,fun v H' sm r=>q v H' sm (KQ hs r)⟩
theorem SC:PS X (.Pass pos) (aT X.K T S₀ H₀ fr EX G .nop):=fun pins s σ H D I ⟨ρ,out,S,hx,si,po⟩=>by
 simp only[ex,o7]at hx;subst hx;exact UC pins s σ H D I (po S σ H si aI.refl)
theorem SA:PS X (.Return none pos) (aT X.K T S₀ H₀ fr EX G .retn):=fun pins s σ H D I ⟨ρ,out,S,hx,si,po⟩=>by
 simp only[ex,o7]at hx;subst hx;exact UB pins s σ H D I (po .non H si.same (by unfold Rep;rfl) fun _ ds e=>by cases e)
theorem SB(xc:XC CX X c G T lv){x:Str}{p:Pos}{i:Nat}(e:bD c x=some i)(hk:K0 S₀ H₀ (.retm i)):PS X (.Return (some (.Name x p)) pos) (aT X.K T S₀ H₀ fr EX G (.retm i)):=fun pins s σ H D I ⟨ρ,out,S,hx,si,po⟩=>by
 simp only[ex]at hx;split at hx
 ·rename_i ds hi;cases hx;obtain⟨q,xs,e1,e2,e3,rl⟩:=si.re.at_ i _ hi;have hn:=si.own i ds q hi e1
  have n0:¬S₀ q:=fun z=>by obtain⟨o,z⟩:=ZN rfl hk q z;rw[hn]at z;cases z
  refine pJ (gB xc e) pins s σ H D I ⟨_,e1,po (.ref q) H si.same ?_ fun _ ds' z=>?_⟩
  ·exact rl.rep e3 n0 si.sup
  ·subst z;obtain⟨ys,rfl,rl'⟩:=rl.lst;exact⟨q,ys,rfl,hn,e3,aD.disown e2 si.sup rl'⟩
 ·cases hx
theorem aAT(xc:XC CX X c G T lv){n:Nat}{e:Expr}{ir:IE}{b:Bool}(he:cE n c e=some ir)(hb:b=true→iE c e=true)(ar:fr=true→b=true):PS X (.Return (some e) pos) (aT X.K T S₀ H₀ fr EX G (.ret b ir)):=fun pins s σ H D I ⟨ρ,out,S,hx,si,po⟩=>by
 simp only[ex,oy]at hx;obtain⟨d,hd,rfl⟩:=hx;have plain:(∀ds,d=.lst ds→fr=false)→wpAny (model X.prog X.w) X.A (exec (.Return (some e) pos) X.env) (SP X pins D) X.xe s:=fun hn =>
  pJ (lB (S:=S) xc he hd) pins s σ H D I ⟨si.re,fun v H' sm r=>po v H' (si.same.trans sm) (Rep.mono si.sup (fun _ _ _ e=>e) d v r) fun z ds e=>by rw[hn ds e]at z;cases z⟩
 cases hf:fr with
 |false=>exact plain fun _ _=>hf
 |true =>
  by_cases hl:∃ds,d=.lst ds
  ·obtain⟨ds,rfl⟩:=hl;have l9:ev G ir ρ=some (.lst ds):=by
    rcases qH hd with h|⟨_,h⟩
    ·exact h
    ·cases h
   refine pJ (((dG n).1 X c S ρ e ir xc he _ l9).2 (hb (ar hf)) ds rfl) pins s σ H D I ⟨si.re,fun p xs H' sm hp cv rl=>po (.ref p) H' (si.same.trans sm) ?_ fun _ ds' z=>?_⟩
   ·unfold Rep;exact⟨p,xs,rfl,fun z=>si.re.nS hp (si.sup p z),cv,aD.mono si.sup (fun _ _ _ e=>e) _ _ rl.er⟩
   ·cases z;exact⟨p,xs,rfl,si.same.free hp,cv,aD.mono si.sup (fun _ _ _ e=>e) _ _ rl⟩
  ·exact plain fun ds e=>(hl ⟨ds,e⟩).elim
theorem RZ(xc:XC CX X c G T lv){n:Nat}{e:Expr}{ir:IE}(he:cE n c e=some ir):PS X (.Return (some e) pos) (aT X.K T S₀ H₀ fr EX G (.retq ir)):=fun pins s σ H D I ⟨ρ,out,S,hx,si,po⟩=>by
 simp only[ex]at hx;obtain⟨d,hd,hx⟩:=aE hx;obtain⟨hs,hx⟩:=bE hx;cases hx;exact pJ (lB (S:=S) xc he hd) pins s σ H D I ⟨si.re,fun v H' sm r=>po S σ H' v (si.step sm) (aI.same sm) r⟩
theorem aEF(xc:XC CX X c G T lv){n:Nat}{t:Expr}{ir:IE}{a b:List Stmt}{ia ib:IS}(ht:cT n c t=some ir)(ha:PSs X a (aT X.K T S₀ H₀ fr EX G ia))(hb:PSs X b (aT X.K T S₀ H₀ fr EX G ib)) :
  PS X (.If t a b pos) (aT X.K T S₀ H₀ fr EX G (.iff ir ia ib)):=fun pins s σ H D I ⟨ρ,out,S,hx,si,po⟩=>by
 simp only[ex,oi,o9]at hx;obtain⟨w,hw,hx⟩:=hx;cases w<;>first|(simp only[reduceCtorEq]at hx;done)|skip
 rename_i k;refine xJ ((dG n).2.1 X c (fun _=>False) (view ρ) t ir xc ht k hw) ha hb pins s σ H D I ⟨si.re.view,fun H' sm=>?_⟩
 cases k with
 |true=>exact qZ ⟨ρ,out,S,hx,si.step sm,po.step (aI.same sm)⟩
 |false=>exact pT ⟨ρ,out,S,hx,si.step sm,po.step (aI.same sm)⟩
theorem aAX:PSs X [] (aT X.K T S₀ H₀ fr EX G .nop):=fun pins s σ H D I ⟨ρ,out,S,hx,si,po⟩=>by
 simp only[ex,o7]at hx;subst hx;exact nY pins s σ H D I (po S σ H si aI.refl)
theorem aAR{st:Stmt}{rest:List Stmt}{a b:IS}(ha:PS X st (aT X.K T S₀ H₀ fr EX G a))(hb:PSs X rest (aT X.K T S₀ H₀ fr EX G b)):PSs X (st::rest) (aT X.K T S₀ H₀ fr EX G (.seq a b)):=fun pins s σ H D I ⟨ρ,out,S,hx,si,po⟩=>by
 simp only[ex,oi,o9]at hx;obtain⟨o,ho,hx⟩:=hx;refine xH ha hb pins s σ H D I ⟨ρ,o,S,ho,si,?_⟩;cases o with
 |nx ρ'=>exact fun S' σ' H' cz mv=>⟨ρ',out,S',hx,cz,po.step mv⟩
 |bk ρ'=>simp only[o7]at hx;subst hx;exact po
 |ct ρ'=>simp only[o7]at hx;subst hx;exact po
 |rt d=>simp only[o7]at hx;subst hx;exact po
 |er d=>simp only[o7]at hx;subst hx;exact po
 |rm d ρ'=>simp only[o7]at hx;subst hx;exact po
theorem NW{K:so}{S:Addr→Prop}{ρ:List Sl}{σ:L2.St}{H:Hp}{i:Nat}(d0:D0 S₀ H₀)(si:SInv K T S₀ H₀ S ρ σ H):∃S',SInv K T S₀ H₀ S' (uK i ρ) σ H∧aI K H H S S':=by
 unfold uK;split
 ·rename_i d h;obtain⟨p,ob,e1,hp,e2,rm⟩:=si.re.at_ i _ h;have mv:aI K H H S (fun a=>S a∧a≠p):=fun a n _=>⟨fun z=>n z.1,fun _ e=>e⟩
  have hi:=(o5.mp h).1
  have mu:∀{j:Nat} {x:D},(ρ.set i (.im d))[j]?=some (.mu x)→ρ[j]?=some (.mu x)∧j≠i:=fun {j x} q=>by
   by_cases e:j=i
   ·subst e;rw[p6 hi]at q;exact nomatch (ox q)
   ·rw[p7 (Ne.symm e)]at q;exact⟨q,e⟩
  refine⟨fun a=>S a∧a≠p,⟨⟨fun a z=>si.re.dom a z.1,by rw[List.length_set];exact si.re.len,fun j s q=>?_⟩,fun a z=>.inl (d0 a z),fun a z=>⟨si.sup a z,fun e=>?_⟩,si.same,fun j k x y r q1 q2=>si.dist j k x y r (mu q1).1 (mu q2).1,fun j x r q=>si.own j x r (mu q).1⟩,mv⟩
  ·by_cases e:j=i
   ·subst e;rw[p6 hi]at q;cases q;exact⟨.ref p,e1,rm.rep e2 (fun z=>z.2 rfl) fun a z=>z.1⟩
   ·rw[p7 (Ne.symm e)]at q;have r:=si.re.at_ j s q
    cases s with
    |un=>trivial
    |im x =>
     obtain⟨v,h1,h2⟩:=r;exact⟨v,h1,Rep.gen mv _ _ h2⟩
    |mu x =>
     obtain⟨p',dO,h1,h2,h3,h4⟩:=r;exact⟨p',dO,h1,⟨h2,fun z=>e (si.dist j i x d p' q h h1 (by rw[z];exact e1))⟩,h3,h4.gen mv⟩
  ·subst e;obtain⟨o,q⟩:=d0 a z;rw[si.own i d a h e1]at q;exact nomatch q
 ·exact⟨S,si,aI.refl⟩
theorem DG{K:so}{σ:L2.St}{H:Hp}(d0:D0 S₀ H₀):∀(xs:List Nat) {S:Addr→Prop} {ρ:List Sl},SInv K T S₀ H₀ S ρ σ H→∃S',SInv K T S₀ H₀ S' (freeze xs ρ) σ H∧aI K H H S S'
 |[],S,_,si=>⟨S,si,aI.refl⟩
 |i::r,_,_,si=>by
  obtain⟨S1,s1,m1⟩:=NW (i:=i) d0 si;obtain⟨S2,s2,m2⟩:=DG d0 r s1;exact⟨S2,s2,m1.trans m2⟩
theorem aAY{rest:List Stmt}{b:IS}{xs:List Nat}(d0:xs.isEmpty=false→D0 S₀ H₀)(hb:PSs X rest (aT X.K T S₀ H₀ fr EX G b)):PSs X rest (aT X.K T S₀ H₀ fr EX G (IK xs b)):=by
 unfold IK;cases h:xs.isEmpty with
 |true=>exact hb
 |false =>
  intro pins s σ H D I ⟨ρ,out,S,hx,si,po⟩;obtain⟨S',cz,mv⟩:=DG (d0 h) xs si;exact hb pins s σ H D I ⟨freeze xs ρ,out,S',hx,cz,po.step mv⟩
theorem aAS(xs:XS CX T X c EX){x:Str}{m:Str}{j:Nat}{p p' q:Pos}(hg:aS c x=true)(hc:c.cls.contains x=true):PS X (.Raise (some (.Call (.Name x p) [.Constant (.str m) j p'] [] q)) none pos) (aT X.K T S₀ H₀ fr EX G (.rse x)):=fun pins s σ H D I ⟨ρ,out,S,hx,si,po⟩=>by
 simp only[ex]at hx;split at hx
 ·cases hx;exact xs.rse x m j p p' q pos hg hc pins s σ H D I (po H si.same)
 ·cases hx
theorem RW(xc:XC CX X c G T lv){n:Nat}{es:List Expr}{k:Nat}{p:Pos}{e:Expr}{ir:IE}{is:List Nat}(hn:eZ c es=some is)(he:cE n c e=some ir)(hnt:∀vs k p,e≠.Tuple vs k p)(hk:K0 S₀ H₀ (.sett is ir)) :
  PS X (.Assign [.Tuple es k p] e pos) (aT X.K T S₀ H₀ fr EX G (.sett is ir)):=fun pins s σ H D I ⟨ρ,out,S,hx,si,po⟩=>by
 simp only[ex,oi,o9,oy]at hx;obtain⟨d,hd,ρ1,hb,rfl⟩:=hx;have cq:bW c (.Tuple es k p)=some (is,true):=by simp only[bW,hn,qt]
 refine LG ((dG n).1 X c S ρ e ir xc he d hd).1 (UM xc (S:=S) cq hb) ?_ ?_ rfl pins s σ H D I ⟨si.re,fun v H' sm r=>⟨si.re.same sm,r,fun σ' re' ag=>po S σ' H' ((si.step sm).bind (aHL rfl hk) hb re' ag) (aI.same sm)⟩⟩
 ·cases e<;>rfl
 ·cases e<;>first|rfl|exact absurd rfl (hnt _ _ _)
end Z
namespace Z
open PySem PySem.Spec PyProof.Rows L2
variable {CX:ao}{G:GS}{T:Tx}{lv:Nat}{X:Cx}{c:CC}{S₀:Addr→Prop}{H₀:Hp}{fr:Bool}{EX:Str→Hp→Prop}{pos:Pos}
noncomputable def pV:Expr→Bool
 |.ListComp _ _ _ _=>true
 |_=>false
theorem wN{n:Nat}{c:CC}{e:Expr}{ir:IE}(h:cE n c e=some ir)(hc:pV e=false)(t:Expr)(l:Nat)(env:Env):swapsWith e (some t) l env=pure false:=by
 cases e<;>first|rfl|exact nomatch (show true=false from hc)|(cases n<;>exact nomatch (show none=some ir from h))
theorem pA{elt:Expr}{gs:List Comprehension}{sc:Scope}{p px:Pos}{x:Str}{l:Nat}{env:Env}:∃b,swapsWith (.ListComp elt gs sc p) (some (.Name x px)) l env=pure b:=⟨_,rfl⟩
theorem kN{n:Nat}{elt:Expr}{gs:List Comprehension}{sc:Scope}{p:Pos}{ir:IE}{ρ:List Sl}{d:D}(xc:XC CX X c G T lv)(h:cE n c (.ListComp elt gs sc p)=some ir)(hd:ev G ir ρ=some d)(S:Addr→Prop) :
  ∃tg iter ifs fr av tp ds outs f,gs=[⟨tg,iter,ifs,0⟩]∧d=.lst outs∧kO c sc=true∧freeOf c sc (sc.names.filter fun x=>x.2 == .free)=some fr∧av.all (fun i=>(fr.lookup i).isNone)=true∧bW { c with N:=ownNames sc,sc:=sc } tg=some (av,tp) ∧
   PI X tg iter (tI X.K T S ρ ds)∧(∀x,foldedSetIterable iter X.env x=pure x)∧bQ f ds=some outs ∧
   (∀d o,f d=some o→∃ρ1,bB av tp d (frame (ownNames sc).length fr ρ)=some ρ1∧TurnOk CX G T lv { c with N:=ownNames sc,sc:=sc } X.K ifs elt ρ1 o):=by
 cases n with
 |zero=>exact nomatch (show none=some ir from h)
 |succ n =>
  obtain⟨hE,hT,hB,hA,hI⟩:=dG (CX:=CX) (G:=G) (T:=T) (lv:=lv) n;exact FG hE hT hI xc h hd
theorem MV{pins:sv}{σ:L2.St}{H:Hp}{s:Shared}{p:Addr}{o:HO}(I:Inv X pins σ H s)(h:H p=some o):X.K.lookup p=none:=by
 cases e:X.K.lookup p with
 |none=>rfl
 |some u=>rw[ZM I p u e]at h;cases h
def tNk(K:so)(T:Tx)(S:Addr→Prop)(ρ:List Sl)(ds:List D):TE:=fun σ H Q=>RE K T H S ρ σ∧∀p xs H',aG H H'→H p=none→K.lookup p=none→H' p=some (.lst xs)→aD K T (er H' p) S ds xs→Q (.ref p) H'
theorem aKZ{e:Expr}{S:Addr→Prop}{ρ:List Sl}{ds:List D}(h:PE X e (dj X.K T S ρ ds)):PE X e (tNk X.K T S ρ ds):=fun pins s σ H Q I ⟨re,q⟩ =>
 af (h pins s σ H (fun v H'=>∃p xs,v=.ref p∧aG H H'∧H p=none∧H' p=some (.lst xs)∧aD X.K T (er H' p) S ds xs) I ⟨re,fun p xs H' a b c d=>⟨p,xs,rfl,a,b,c,d⟩⟩) fun u s1 ⟨v,H',I',r,p,xs,e,a,b,c,d⟩=>⟨v,H',I',r,by rw[e];exact q p xs H' a b (MV I' c) c d⟩
theorem RY(xc:XC CX X c G T lv){x:Str}{px fy pd:Pos}{i:Nat}(hx:eY c (.Name x fy)=some i)(h0:K0 S₀ H₀ (.setd i)):PS X (.Assign [.Name x px] (.Dict [] [] pd) pos) (aT X.K T S₀ H₀ fr EX G (.setd i)):=fun pins s σ H D I ⟨ρ,out,S,hex,si,po⟩=>by
 cases hex;obtain⟨hN,hk⟩:=gT hx;obtain⟨hl,hf⟩:=xc.loc hk;have pn:PE X (.Dict [] [] pd) (fun σ H Q=>∀p,H p=none→X.K.lookup p=none→Q (.ref p) (upd H p (.dK []))):=fun pins s σ H Q I q =>
  af (LM pins s σ H (fun v H'=>∃p,v=.ref p∧H p=none∧H'=upd H p (.dK [])) I fun p hp=>⟨p,rfl,hp,rfl⟩) fun u s1 ⟨v,H',I',r,p,e1,hp,e2⟩=>⟨v,H',I',r,by
   subst e1 e2;exact q p hp (MV I' (aV))⟩
 refine pI (by rw[xc.N];exact xc.nd) (by rw[xc.N];exact hN) hl pn rfl hf pins s σ H D I fun p hp hkp=>?_
 obtain⟨cz,mv⟩:=si.setm (i:=i) (ds:=.dct []) (xs:=.dK []) (yB rfl h0) (aG.upd hp) hp hkp aV (.inr ⟨_,_,rfl,rfl,aZ.nil⟩);exact po _ _ _ cz mv
theorem aAQ(xc:XC CX X c G T lv){n:Nat}{e:Expr}{ir:IE}{x:Str}{px fy:Pos}{i:Nat}(hx:eY c (.Name x fy)=some i)(he:cE n c e=some ir)(h0:K0 S₀ H₀ (.set i ir)):PS X (.Assign [.Name x px] e pos) (aT X.K T S₀ H₀ fr EX G (.set i ir)):=fun pins s σ H D I ⟨ρ,out,S,hex,si,po⟩=>by
 simp only[ex,oy]at hex;obtain⟨d,hd,rfl⟩:=hex;obtain⟨hN,hk⟩:=gT hx;obtain⟨hl,hf⟩:=xc.loc hk;have plain:swapsWith e (some (.Name x px)) pos.line X.env=pure false→wpAny (model X.prog X.w) X.A (exec (.Assign [.Name x px] e pos) X.env) (SP X pins D) X.xe s:=fun hs =>
  pI (by rw[xc.N];exact xc.nd) (by rw[xc.N];exact hN) hl (lB (S:=S) xc he hd) hs hf pins s σ H D I ⟨si.re,fun v H' sm r=>po S _ H' ((si.step sm).set (yB rfl h0) r) (aI.same sm)⟩
 cases hc:pV e with
 |false=>exact plain (wN he hc _ _ _)
 |true =>
  cases e<;>simp only[pV,oo]at hc
  rename_i elt gs sc p;obtain⟨b,hb⟩:=pA (elt:=elt) (gs:=gs) (sc:=sc) (p:=p) (px:=px) (x:=x) (l:=pos.line) (env:=X.env);cases b with
  |false=>exact plain hb
  |true =>
   have l9:ev G ir ρ=some d:=by
    rcases qH hd with h|⟨h,hs⟩
    ·exact h
    ·obtain⟨_,_,_,_,_,_,_,outs,_,_,rfl,_⟩:=kN xc he h (fun _=>False)
     cases hs
   obtain⟨tg,iter,ifs,fr',av,tp,ds,outs,f,rfl,rfl,h1,h2,h3,h4,h5,h6,h7,h8⟩:=kN xc he l9 S;exact CG xc h1 h2 h3 h4 h5 h6 (px:=px) (by simp only[eY]at hx ⊢;exact hx) hb h7 h8 pins s σ H D I ⟨si.re,fun p xs H' sm hp cv rl=>po S _ H' ((si.step sm).set (yB rfl h0) (by unfold Rep;exact⟨p,xs,rfl,si.re.nS hp,cv,rl.er⟩)) (aI.same sm)⟩
theorem RX(xc:XC CX X c G T lv){n:Nat}{e:Expr}{ir:IE}{x:Str}{px fy:Pos}{i:Nat}(hx:eY c (.Name x fy)=some i)(he:cE n c e=some ir)(ar:iE c e=true)(h0:K0 S₀ H₀ (.setm i ir)):PS X (.Assign [.Name x px] e pos) (aT X.K T S₀ H₀ fr EX G (.setm i ir)):=fun pins s σ H D I ⟨ρ,out,S,hex,si,po⟩=>by
 simp only[ex,oi,o9]at hex;obtain⟨d,hd,hex⟩:=hex;cases d<;>first|(simp only[reduceCtorEq]at hex;done)|skip
 rename_i outs;simp only[o7]at hex;subst hex;obtain⟨hN,hk⟩:=gT hx;obtain⟨hl,hf⟩:=xc.loc hk;have pn:=((dG n).1 X c S ρ e ir xc he _ hd).2 ar outs rfl
 have plain:swapsWith e (some (.Name x px)) pos.line X.env=pure false→wpAny (model X.prog X.w) X.A (exec (.Assign [.Name x px] e pos) X.env) (SP X pins D) X.xe s:=fun hs =>
  pI (by rw[xc.N];exact xc.nd) (by rw[xc.N];exact hN) hl (aKZ pn) hs hf pins s σ H D I ⟨si.re,fun p xs H' sm hp hkp cv rl=>by
   obtain⟨cz,mv⟩:=si.setm (i:=i) (ds:=.lst outs) (yB rfl h0) sm hp hkp cv (.inl ⟨_,_,rfl,rfl,rl⟩);exact po _ _ H' cz mv⟩
 cases hc:pV e with
 |false=>exact plain (wN he hc _ _ _)
 |true =>
  cases e<;>simp only[pV,oo]at hc
  rename_i elt gs sc p;obtain⟨b,hb⟩:=pA (elt:=elt) (gs:=gs) (sc:=sc) (p:=p) (px:=px) (x:=x) (l:=pos.line) (env:=X.env);cases b with
  |false=>exact plain hb
  |true =>
   obtain⟨tg,iter,ifs,fr',av,tp,ds,outs',f,rfl,e1,h1,h2,h3,h4,h5,h6,h7,h8⟩:=kN xc he hd S;cases e1;refine qp (CG xc h1 h2 h3 h4 h5 h6 (px:=px) (by simp only[eY]at hx ⊢;exact hx) hb h7 h8 pins s σ H ⟨fun σ' H'=>∃p xs,σ'=σ.set i (some (.ref p))∧aG H H'∧H p=none∧H' p=some (.lst xs)∧aD X.K T (er H' p) S outs xs,fun _ _=>False,fun _ _=>False,fun _ _=>False⟩ I ⟨si.re,fun p xs H' sm hp cv rl=>⟨p,xs,rfl,sm,hp,cv,rl⟩⟩) (fun f s' q=>?_) fun _ _ z=>z
   cases f with
   |next =>
    obtain⟨σ',H',I',p,xs,rfl,sm,hp,cv,rl⟩:=q;obtain⟨cz,mv⟩:=si.setm (i:=i) (ds:=.lst outs) (yB rfl h0) sm hp (MV I' cv) cv (.inl ⟨_,_,rfl,rfl,rl⟩);exact⟨_,H',I',po _ _ H' cz mv⟩
   |brk=>obtain⟨_,_,_,z⟩:=q;exact z.elim
   |cont=>obtain⟨_,_,_,z⟩:=q;exact z.elim
   |ret u=>obtain⟨_,_,_,_,_,z⟩:=q;exact z.elim
end Z
namespace Z
open PySem PySem.Spec PyProof.Rows L2
variable {CX:ao}{G:GS}{T:Tx}{lv:Nat}{X:Cx}{c:CC}{S₀:Addr→Prop}{H₀:Hp}{fr:Bool}{EX:Str→Hp→Prop}{pos:Pos}
theorem aBc(xc:XC CX X c G T lv){n:Nat}{e:Expr}{ir:IE}{x:Str}{i:Nat}{p1 p2 p:Pos}(hx:bD c x=some i)(hl:(p2.endLine == p.line)=true)(he:cE n c e=some ir) :
  PS X (.Expr (.Call (.Attribute (.Name x p1) "append" p2) [e] [] p) pos) (aT X.K T S₀ H₀ fr EX G (.app i ir)):=fun pins s σ H D I ⟨ρ,out,S,hex,si,po⟩=>by
 simp only[ex,oi,o9]at hex;obtain⟨d,hd,hex⟩:=hex;split at hex
 ·rename_i ds hi;split at hex
  ·rename_i hz;cases hex;obtain⟨q,ob,e1,e2,e3,rm⟩:=si.re.at_ i _ hi;obtain⟨xs,rfl,rl⟩:=rm.lst;have st:=(dA he).star X.env []
   refine nZ (LN plainAttrs_list PySem.F.slot_list_append PySem.F.type_list_append rT (gB xc hx) (bX (lB (S:=S) xc he hd) hV st) rfl ?_ hl st rfl) rfl pins s σ H D I ⟨.ref q,e1,.inl ⟨rfl,xs,SqL.of e3⟩,si.re,fun v H' sm r=>⟨q,xs,v,rfl,rfl,sm _ _ e3,?_,?_⟩⟩
   ·rw[st];rfl
   ·rw[←rl.len];exact oz hz iM
   ·obtain⟨cz,mv⟩:=(si.step sm).write (ds':=.lst (ds++[d])) hi e1 (.inl ⟨_,_,rfl,rfl,(rl.same sm).app (aD.cons r aD.nil)⟩);exact po S σ _ cz ((aI.same sm).trans mv)
  ·cases hex
 ·cases hex
theorem wY{K:so}{H:Hp}{S:Addr→Prop}{ds:List D}{xs:List V}(r:aD K T H S ds xs):aD K T H S ds.dropLast xs.dropLast:=by
 rw[List.dropLast_eq_take,List.dropLast_eq_take,r.len];exact r.take _
theorem aAW(xc:XC CX X c G T lv){x:Str}{i:Nat}{p1 p2 p:Pos}(hx:bD c x=some i)(hl:(p2.endLine == p.line)=true) :
  PS X (.Expr (.Call (.Attribute (.Name x p1) "pop" p2) [] [] p) pos) (aT X.K T S₀ H₀ fr EX G (.pop i)):=fun pins s σ H D I ⟨ρ,out,S,hex,si,po⟩=>by
 simp only[ex]at hex;split at hex
 ·rename_i ds hi;split at hex
  ·cases hex
  ·rename_i hz;cases hex;obtain⟨q,ob,e1,e2,e3,rm⟩:=si.re.at_ i _ hi;obtain⟨xs,rfl,rl⟩:=rm.lst;have hn:xs.length-1<xs.length:=by
    rw[←rl.len];cases ds with
    |nil=>exact absurd rfl hz
    |cons a r=>exact Nat.lt_succ_self _
   refine nZ (aBI plainAttrs_list PySem.F.slot_list_pop PySem.F.type_list_pop aCo (gB xc hx) rfl hl) rfl pins s σ H D I ⟨.ref q,e1,.inl ⟨rfl,xs,SqL.of e3⟩,?_⟩;refine⟨q,xs,xs[xs.length-1],rfl,rfl,e3,oa hn,?_⟩;obtain⟨cz,mv⟩:=si.write (ds':=.lst ds.dropLast) hi e1 (.inl ⟨_,_,rfl,rfl,wY rl⟩);exact po S σ _ cz mv
 ·cases hex
theorem aCB(n:Nat)(i:Int):Z.ixN n i=L2.ixN n i:=by
 unfold Z.ixN L2.ixN;rfl
theorem GR{n:Nat}{c:CC}{e:Expr}{ir:IE}(h:cE n c e=some ir){o i:Expr}{p:Pos}{l:Nat}{env:Env}:swapsWith e (some (.Subscript o i p)) l env=pure false:=by
 cases e<;>first|rfl|(cases n<;>exact nomatch (show none=some ir from h))
theorem aAV(xc:XC CX X c G T lv){n:Nat}{e k:Expr}{ir kr:IE}{x:Str}{i:Nat}{p1 p2:Pos}(hx:bD c x=some i)(hk:cE n c k=some kr)(he:cE n c e=some ir) :
  PS X (.Assign [.Subscript (.Name x p1) k p2] e pos) (aT X.K T S₀ H₀ fr EX G (.put i kr ir)):=fun pins s σ H D I ⟨ρ,out,S,hex,si,po⟩=>by
 simp only[ex,oi,o9]at hex;obtain⟨d,hd,ki,hki,hex⟩:=hex;split at hex
 ·rename_i o hi;obtain⟨o',ho,rfl⟩:=oy.mp hex;obtain⟨q,ob,e1,e2,e3,rm⟩:=si.re.at_ i _ hi;cases o<;>first|exact nomatch (show none=some o' from ho)|skip
  ·rename_i ds;obtain⟨j,hj,rfl⟩:=oy.mp ho;obtain⟨xs,rfl,rl⟩:=rm.lst;refine LG (lB (S:=S) xc he hd) (aBA (gB xc hx) (lB (S:=S) xc hk (fT hki)) set_list ?_) ?_ ?_ rfl pins s σ H D I ⟨si.re,fun v H' sm r=>⟨.ref q,e1,(si.step sm).re,fun w H2 fg r2=>?_⟩⟩
   ·intro v;cases k<;>first|rfl|(cases n<;>exact nomatch (show none=some kr from hk))
   ·cases e<;>rfl
   ·cases e<;>rfl
   ·unfold Rep at r2;subst r2;refine⟨q,xs,ki,j,rfl,rfl,fg _ _ (sm _ _ e3),by rw[←rl.len,←aCB];exact hj,?_⟩
    obtain⟨cz,mv⟩:=(si.step (sm.trans fg)).write (ds':=.lst (ds.set j d)) hi e1 (.inl ⟨_,_,rfl,rfl,aD.set j (rl.same (sm.trans fg)) (r.same fg)⟩);exact po S σ _ cz ((aI.same (sm.trans fg)).trans mv)
  ·rename_i kvs;have ho:(if kvs.length<big then some (Z.D.dct (kI kvs ki d)) else none)=some o':=ho
   split at ho
   ·rename_i hz;cases ho;obtain⟨gs,rfl,rk⟩:=rm.dct;refine UD (DE xc.room) (gB xc hx) (lB (S:=S) xc hk (fT hki)) (lB (S:=S) xc he hd) (GR he) pins s σ H D I ⟨si.re,fun v H' sm r=>⟨.ref q,e1,(si.step sm).re,fun w H2 fg r2=>?_⟩⟩
    unfold Rep at r2;subst r2;refine⟨q,_,rfl,RH.k (k:=Sum.inl ki) (fg _ _ (sm _ _ e3)) (by rw[←aZ.len rk];exact oz hz iM),?_⟩
    obtain⟨cz,mv⟩:=(si.step (sm.trans fg)).write (ds':=.dct (kI kvs ki d)) hi e1 (.inr ⟨_,_,rfl,rfl,aZ.put (r.same fg) (aZ.gen (aI.same (S:=S) (sm.trans fg)) _ _ rk)⟩);exact po S σ _ cz ((aI.same (sm.trans fg)).trans mv)
   ·cases ho
 ·cases hex
theorem AX{bind:D→List Sl→Option (List Sl)}{body:List Sl→Option Out}{d:D}{r:List D}{ρ:List Sl}{out:Out}(h:fV bind body (d::r) ρ=some out):∃ρ1 o,bind d ρ=some ρ1∧body ρ1=some o ∧
  ((∃ρ2,o=.nx ρ2∧fV bind body r ρ2=some out)∨(∃ρ2,o=.ct ρ2∧fV bind body r ρ2=some out)∨(∃ρ2,o=.bk ρ2∧out=.nx ρ2)∨(∃d,o=.rt d∧out=o)∨(∃x,o=.er x∧out=o)∨∃d ρ2,o=.rm d ρ2∧out=o):=by
 simp only[fV,oi,o9]at h;obtain⟨ρ1,h1,o,h2,h3⟩:=h;refine⟨ρ1,o,h1,h2,?_⟩;cases o<;>simp only[o7]at h3
 ·exact .inl ⟨_,rfl,h3⟩
 ·exact .inr (.inr (.inr (.inl ⟨_,rfl,h3.symm⟩)))
 ·exact .inr (.inr (.inl ⟨_,rfl,h3.symm⟩))
 ·exact .inr (.inl ⟨_,rfl,h3⟩)
 ·exact .inr (.inr (.inr (.inr (.inl ⟨_,rfl,h3.symm⟩))))
 ·exact .inr (.inr (.inr (.inr (.inr ⟨_,_,rfl,h3.symm⟩))))
def gEx(K:so)(T:Tx)(is:List Nat)(tp:Bool):TG:=fun v σ H Q=>∃ρ S ρ1 d,bB is tp d ρ=some ρ1∧gD K T S is ρ ρ1 d v σ H Q
theorem aAZ(xc:XC CX X c G T lv)(xs:XS CX T X c EX){n:Nat}{tg iter:Expr}{body:List Stmt}{av:List Nat}{tp:Bool}{k:Src}{src:IE}{ib:IS}(cq:bW c tg=some (av,tp))(hi:cI n c iter=some (k,src))(jz:PJ k tg)(hk:K2 S₀ H₀ av)(hb:PSs X body (aT X.K T S₀ H₀ fr EX G ib)) :
  PS X (.For tg iter body [] pos) (aT X.K T S₀ H₀ fr EX G (.loop av tp k src ib)):=fun pins s σ H D I ⟨ρ,out,S,hex,si,po⟩=>by
 simp only[ex,oi,o9]at hex;obtain⟨d,hd,ds,a8,eu⟩:=hex;obtain⟨hit,hset⟩:=(dG n).2.2.2.2 X c S ρ iter k src xc hi d ds hd a8;have hg:PG X tg (gEx X.K T av tp):=fun pins s σ H v u Q I r ⟨ρ,S,ρ1,d,gw,h⟩=>UM xc cq gw pins s σ H v u Q I r h
 refine LF xs.pass xc.calm (hit tg jz) hg hb hset pins s σ H D I ⟨si.re,fun J H1 sm i9 hlen=>?_⟩
 refine⟨fun i m σ H=>∃ρi Si,m=ds.length-i∧i≤ds.length∧fV (bB av tp) (ex G ib) (ds.drop i) ρi=some out∧SInv X.K T S₀ H₀ Si ρi σ H∧aI X.K H1 H S Si,⟨ds.length,ρ,S,by simp,rz _,by simpa using eu,si.step sm,aI.refl⟩,?_⟩
 rintro i m σ' H' ⟨ρi,Si,rfl,hile,lz,ig,mv⟩;obtain⟨it1,it2⟩:=i9 H' Si mv ig.re.dom;have kz:PK X.K T S₀ H₀ fr EX H' Si D out:=po.step ((aI.same sm).trans mv)
 by_cases fz:i<ds.length
 ·refine .inr ?_;have hdr:ds.drop i=ds[i]::ds.drop (i+1):=List.drop_eq_getElem_cons fz
  rw[hdr]at lz;obtain⟨ρ1,o,gw,hbo,hcase⟩:=AX lz;obtain⟨hgo',hy⟩:=it1 i ds[i] (by simp[fz])
  refine⟨hgo',fun σ2 H2=>∃ρ2 S2,fV (bB av tp) (ex G ib) (ds.drop (i+1)) ρ2=some out∧SInv X.K T S₀ H₀ S2 ρ2 σ2 H2∧aI X.K H1 H2 S S2,fun σ2 H2 ⟨ρ2,S2,a,b,c⟩=>⟨ds.length-(i+1),by omega,ρ2,S2,rfl,fz,a,b,c⟩,fun x H2 lp=>?_⟩
  obtain⟨s2,rx⟩:=hy x H2 lp;refine⟨ρi,Si,ρ1,ds[i],gw,(ig.step s2).re,rx,fun σ3 jw ag=>⟨ρ1,o,Si,hbo,(ig.step s2).bind hk gw jw ag,?_⟩⟩
  have k8:aI X.K H1 H2 S Si:=mv.trans (aI.same s2)
  rcases hcase with ⟨ρ2,rfl,hr⟩|⟨ρ2,rfl,hr⟩|⟨ρ2,rfl,rfl⟩|⟨d',rfl,rfl⟩|⟨x',rfl,rfl⟩|⟨d',ρ2,rfl,rfl⟩
  ·exact fun S3 σ4 H4 i7 i8=>⟨ρ2,S3,hr,i7,k8.trans i8⟩
  ·exact fun S3 σ4 H4 i7 i8=>⟨ρ2,S3,hr,i7,k8.trans i8⟩
  ·exact fun S3 σ4 H4 i7 i8=>kz S3 σ4 H4 i7 ((aI.same s2).trans i8)
  ·exact kz
  ·exact kz
  ·exact fun S3 σ4 H4 v i7 i8 r=>kz S3 σ4 H4 v i7 ((aI.same s2).trans i8) r
 ·have hn:i=ds.length:=by omega
  refine .inl ⟨it2 i (by omega),?_⟩
  rw[hn,List.drop_length]at lz;simp only[fV,o7]at lz;subst lz;exact kz Si σ' H' ig aI.refl
theorem aCk(h:XC CX X c G T lv){S:Addr→Prop}{ρ:List Sl}{x y:Str}{es:List Expr}{ds:List D}{p py:Pos}{i:Nat}{o d o':D}(hg:aS c x=true)(e:bD c y=some i)(hi:ρ[i]?=some (.mu o))(ha:PA X es (b9 X.K T S ρ ds))(hs:starEach es X.env=es.map fun e=>(false,eval e X.env))(hlen:ds.length=es.length)(hd:G.fm x o ds=some (d,o')) :
  PE X (.Call (.Name x p) (.Name y py::es) [] pos) (fun σ H Q=>RE X.K T H S ρ σ∧∀q,σ[i]?=some (some (.ref q))→∀v H' dO,(∀a b,a≠q→H a=some b→H' a=some b)→H' q=some dO→iV X.K T H' S o' dO→Rep X.K T H' S d v→Q v H'):=by
 obtain⟨f,fd,ps,hm,hk,hb,hl,F⟩:=h.go.fm x o ds _ hd;have st:starEach (.Name y py::es) X.env=(false,eval (.Name y py) X.env)::starEach es X.env:=rfl
 have i5:(backTo pos (starEach es X.env)).any (·.1)=false:=by
  cases es with
  |nil=>rfl
  |cons e2 es2 =>
   obtain⟨a1,a2⟩:=nD (pos:=pos) hs;rw[a1];exact a2
 refine PE.mono (tQ F h.room (h.glob hg) hm hk hb .nil (pL h) (bX (gB h e) ha st) (h.gne hg) st i5) fun σ H Q ⟨re,q⟩=>?_
 obtain⟨p0,ob,e1,e2,e3,rm⟩:=re.at_ i _ hi;refine⟨.ref p0,e1,re,fun vs H1 s1 r1=>?_⟩
 refine⟨?_,S,p0,o,ob,vs,ds,d,o',by rw[q9],(re.same s1).dom,e2,s1 _ _ e3,rm.gen (aI.same s1),r1,hd,fun v H' dO k hq rm' rd=>q p0 e1 v H' dO (fun a b n e=>k a b n (s1 a b e)) hq rm' rd⟩
 rw[q9,qy,←r1.len];exact hl
theorem SInv.writeA{K:so}{S:Addr→Prop}{ρ:List Sl}{σ:L2.St}{H H':Hp}(si:SInv K T S₀ H₀ S ρ σ H){i:Nat}{ds ds':D}{p:Addr}{d6:HO}(hi:ρ[i]?=some (.mu ds))(hp:σ[i]?=some (some (.ref p)))(k:∀a b,a≠p→H a=some b→H' a=some b)(cv:H' p=some d6)(rl:iV K T H' S ds' d6) :
  SInv K T S₀ H₀ S (ρ.set i (.mu ds')) σ H'∧aI K H H' S S:=by
 obtain⟨q,zs,e1,e2,e3,_⟩:=si.re.at_ i _ hi;rw[hp]at e1;cases e1;have mv:aI K H H' S S:=fun a n _=>⟨n,fun o e=>k a o (fun z=>n (by rw[z];exact e2)) e⟩
 have dom:∀a,S a→∃o,H' a=some o:=fun a z=>by
  by_cases e:a=p
  ·exact⟨d6,by rw[e];exact cv⟩
  ·obtain⟨o,q⟩:=si.re.dom a z;exact⟨o,k a o e q⟩
 have hl:i<ρ.length:=(o5.mp hi).1
 have old:∀(j:Nat) ys,(ρ.set i (.mu ds'))[j]?=some (.mu ys)→∃zs,ρ[j]?=some (.mu zs):=fun j ys h=>by
  by_cases e:j=i
  ·exact⟨ds,by rw[e];exact hi⟩
  ·rw[p7 (Ne.symm e)]at h;exact⟨ys,h⟩
 refine⟨⟨⟨dom,by simp[si.re.len],fun j s e=>?_⟩,yP hi si.dom0,si.sup,fun b o e=>?_,fun a b ys zs q h1 h2 h3 h4=>?_,fun a ys q h1 h2=>?_⟩,mv⟩
 ·by_cases hj:j=i
  ·subst hj;rw[p6 hl]at e;cases e;exact⟨p,d6,hp,e2,cv,rl⟩
  ·rw[p7 (Ne.symm hj)]at e;have h:=si.re.at_ j s e
   cases s with
   |un=>trivial
   |im d=>obtain⟨v,e4,r⟩:=h;exact⟨v,e4,Rep.gen mv d v r⟩
   |mu ys =>
    obtain⟨q,ws,e4,e5,e6,r⟩:=h;exact⟨q,ws,e4,e5,k q ws (fun z=>hj (si.dist j i ys ds q e hi e4 (by rw[z];exact hp))) e6,r.gen mv⟩
 ·have ne:b≠p:=by
   rintro rfl;rw[si.own i ds b hi hp]at e;cases e
  exact k b o ne (si.same b o e)
 ·obtain⟨dw,q1⟩:=old a ys h1;obtain⟨zs',q2⟩:=old b zs h2;exact si.dist a b dw zs' q q1 q2 h3 h4
 ·obtain⟨dw,q1⟩:=old a ys h1;exact si.own a dw q q1 h2
theorem aBa(xc:XC CX X c G T lv){n:Nat}{t:Expr}{it ies:IE}{f y:Str}{i:Nat}{es:List Expr}{a:List Stmt}{ia:IS}{p py cp np bp:Pos}(ht:cT n c t=some it)(hg:aS c f=true)(hy:bD c y=some i)(he:cA n c es=some ies)(ha:PSs X a (aT X.K T S₀ H₀ fr EX G ia)) :
  PS X (.If (.BoolOp .Or [t,.UnaryOp .Not (.Call (.Name f p) (.Name y py::es) [] cp) np] bp) a [] pos) (aT X.K T S₀ H₀ fr EX G (.fil it f i ies ia)):=fun pins s σ H D I ⟨ρ,out,S,hx,si,po⟩=>by
 simp only[ex]at hx;obtain⟨w,hw,hx⟩:=aE hx;have pn:PSs X ([]:List Stmt) (fun D σ H=>D.nx σ H):=fun pins s σ H D I h=>nY pins s σ H D I h
 cases w<;>first|exact nomatch (show none=some out from hx)|skip
 rename_i kk;have pt:=(dG n).2.1 X c (fun _=>False) (view ρ) t it xc ht kk hw
 cases kk with
 |true =>
  refine xJ (PW.pt (xD pt (tM (tA:=fun _ _ _=>False) (fun _ _ _ _ _ _ h=>h.elim)))) ha pn pins s σ H D I ⟨si.re.view,fun H' sm=>?_⟩
  exact qZ (qZ ⟨ρ,out,S,hx,si.step sm,po.step (aI.same sm)⟩)
 |false =>
  obtain⟨as,has,hx⟩:=aE hx;split at hx
  ·rename_i o hi;obtain⟨r,hr,hx⟩:=aE hx;obtain⟨d,o'⟩:=r;obtain⟨ds',e1,hl,pa,hs⟩:=(dG n).2.2.2.1 X c S ρ es ies xc he _ (bM has);cases e1;refine xJ (PW.pt (xD pt (tM (zX (LC (aCk xc hg hy hi pa hs hl hr)))))) ha pn pins s σ H D I ⟨si.re.view,fun H1 s1=>?_⟩
   refine pT ⟨(si.step s1).re,fun q e1 v H2 dO k hq rm rd=>?_⟩
   obtain⟨si2,mv⟩:=(si.step s1).writeA hi e1 k hq rm;have k8:aI X.K H H2 S S:=(aI.same s1).trans mv
   cases d<;>first|exact nomatch (show none=some out from hx)|skip
   rename_i b;unfold Rep at rd;refine⟨b,rd,?_⟩;cases b with
   |true =>
    cases (show some (Out.nx (ρ.set i (.mu o')))=some out from hx)
    exact pT (po S σ H2 si2 k8)
   |false=>exact qZ ⟨_,out,S,hx,si2,po.step k8⟩
  ·cases hx
theorem BH{t r:List Sl→Option D}{i:Nat}{d:D}{ds:List D}{ρ:List Sl}{out:Out}(h:qN t r i (d::ds) ρ=some out):(t (ρ.set i (.im d))=some (.bl true)∧∃v,r (ρ.set i (.im d))=some v∧out=.rt v)∨(t (ρ.set i (.im d))=some (.bl false)∧qN t r i ds (ρ.set i (.im d))=some out):=by
 obtain⟨w,h1,h⟩:=aE (show (t (ρ.set i (.im d))).bind _=some out from h)
 cases w<;>first|exact nomatch (show none=some out from h)|skip
 rename_i k;cases k with
 |true =>
  obtain⟨v,h2,e⟩:=aL h;exact .inl ⟨h1,v,h2,e⟩
 |false=>exact .inr ⟨h1,h⟩
theorem SF(xc:XC CX X c G T lv)(xs:XS CX T X c EX){n:Nat}{y:Str}{py fy rp ip:Pos}{x i:Nat}{z:Str}{t e:Expr}{it ie:IE}(hy:bD c y=some x)(hz:eY c (.Name z fy)=some i)(bu:i≠x)(ht:cT n c t=some it)(he:cE n c e=some ie)(ar:fr=false)(hk:D0 S₀ H₀) :
  PS X (.For (.Name z fy) (.Name y py) [.If t [.Return (some e) rp] [] ip] [] pos) (aT X.K T S₀ H₀ fr EX G (.chkm x i it ie)):=fun pins s σ H D I ⟨ρ,out,S,hx,si,po⟩=>by
 simp only[ex]at hx;split at hx
 ·rename_i ds hi;obtain⟨q,ob,e1,e2,e3,rm⟩:=si.re.at_ x _ hi;obtain⟨jq,rfl,rl⟩:=rm.lst;have cq:bW c (.Name z fy)=some ([i],false):=by simp only[bW,hz,qt]
  have hg:PG X (.Name z fy) (gEx X.K T [i] false):=fun pins s σ H v u Q I r ⟨ρ,S,ρ1,d,gw,h⟩=>UM xc cq gw pins s σ H v u Q I r h
  have pb:PSs X [.If t [.Return (some e) rp] [] ip] (fun D' σ' H'=>∃ρ' S' b,ev G it (view ρ')=some (.bl b)∧SInv X.K T S₀ H₀ S' ρ' σ' H'∧((b=true∧∃d,b0 G ie ρ'=some d∧∀v hX,aG H₀ hX→Rep X.K T hX S₀ d v→D'.rt v hX)∨(b=false∧∀hX,aG H' hX→D'.nx σ' hX))):=
   tN fun pins s σ H D' I ⟨ρ',S',b,h1,h2,h3⟩=>by
    have pt:=(dG n).2.1 X c (fun _=>False) (view ρ') t it xc ht b h1
    rcases h3 with ⟨rfl,d,hd,h3⟩|⟨rfl,h3⟩
    ·refine xJ pt (tN (pJ (lB (S:=S') xc he hd))) (u:=fun _ _ _=>False) (fun _ _ _ _ _ _ h=>h.elim) pins s σ H D' I ⟨h2.re.view,fun H1 s1=>qZ ⟨(h2.step s1).re,fun v H2 s2 r=>h3 v H2 ((h2.step s1).same.trans s2) (Rep.mono h2.sup (fun _ _ _ e=>e) d v r)⟩⟩
    ·refine xJ pt (t:=fun _ _ _=>False) (fun _ _ _ _ _ _ h=>h.elim) (u:=fun D σ H=>D.nx σ H) (fun pins s σ H D I h=>nY pins s σ H D I h) pins s σ H D' I ⟨h2.re.view,fun H1 s1=>pT (h3 H1 s1)⟩
  refine LF xs.pass xc.calm (UK (gB xc hy)) hg pb (fun _=>rfl) pins s σ H D I ⟨.ref q,e1,q,rfl,⟨jq,SqL.of e3⟩,?_⟩
  refine⟨fun k m σ' H'=>∃ρi,m=ds.length-k∧k≤ds.length∧qN (fun ρ=>ev G it (view ρ)) (fun ρ=>b0 G ie ρ) i (ds.drop k) ρi=some out∧SInv X.K T S₀ H₀ S ρi σ' H'∧ρi[x]?=some (.mu (.lst ds))∧σ'[x]?=some (some (.ref q))∧aG H H',⟨ds.length,ρ,by simp,rz _,by simpa using hx,si,hi,e1,aG.refl H⟩,?_⟩
  rintro k m σ' H' ⟨ρi,rfl,hkl,eu,ig,hxi,hqi,sm⟩;have e3':H' q=some (.lst jq):=sm q _ e3
  have rl':aD X.K T H' S ds jq:=rl.same sm
  by_cases fz:k<ds.length
  ·refine .inr ?_;rw[List.drop_eq_getElem_cons fz]at eu;obtain⟨v,hv,rv⟩:=rl'.get (i:=k) (d:=ds[k]) (by simp[fz])
   refine⟨⟨jq,v,SqL.of e3',hv⟩,fun σ2 H2=>∃ρ2,qN (fun ρ=>ev G it (view ρ)) (fun ρ=>b0 G ie ρ) i (ds.drop (k+1)) ρ2=some out∧SInv X.K T S₀ H₀ S ρ2 σ2 H2∧ρ2[x]?=some (.mu (.lst ds))∧σ2[x]?=some (some (.ref q))∧aG H H2,fun σ2 H2 ⟨ρ2,a,b,c,d,e⟩=>⟨ds.length-(k+1),by omega,ρ2,rfl,fz,a,b,c,d,e⟩,fun w H2 lp=>?_⟩
   obtain⟨rfl,ey⟩:=lp;have:=ey jq (SqL.of e3')
   rw[hv]at this;cases this;have gw:bB [i] false ds[k] ρi=some (ρi.set i (.im ds[k])):=rfl
   refine⟨ρi,S,ρi.set i (.im ds[k]),ds[k],gw,ig.re,rv,fun σ3 jw ag=>?_⟩
   have si3:=ig.bind (.inr hk) gw jw ag
   have x3:(ρi.set i (.im ds[k]))[x]?=some (.mu (.lst ds)):=by rw[p7 bu];exact hxi
   have q3:σ3[x]?=some (some (.ref q)):=(ag x (by simpa using Ne.symm bu)).trans hqi
   rcases BH eu with ⟨h1,v,h2,rfl⟩|⟨h1,h2⟩
   ·refine⟨_,S,true,h1,si3,.inl ⟨rfl,v,h2,fun u H4 s4 r4=>po u H4 s4 r4 fun zz=>by rw[ar]at zz;cases zz⟩⟩
   ·exact⟨_,S,false,h1,si3,.inr ⟨rfl,fun H4 s4=>⟨_,h2,si3.step s4,x3,q3,sm.trans s4⟩⟩⟩
  ·have hn:k=ds.length:=by omega
   refine .inl ⟨⟨jq,SqL.of e3',by rw[←rl'.len];omega⟩,?_⟩
   rw[hn,List.drop_length]at eu;cases (show some (Out.nx ρi)=some out from eu)
   exact po S σ' H' ig (aI.same sm)
 ·cases hx
end Z
namespace Z
open PySem PySem.Spec PyProof.Rows L2
variable {CX:ao}{G:GS}{T:Tx}{lv:Nat}{X:Cx}{c:CC}{S₀:Addr→Prop}{H₀:Hp}{fr:Bool}{EX:Str→Hp→Prop}{pos:Pos}
theorem VV(h:XC CX X c G T lv){S:Addr→Prop}{ρ:List Sl}{x:Str}{es:List Expr}{ds:List D}{p:Pos}{k:Str}{C:Addr}{E1:XK}(hg:aS c x=true)(hf:c.fns.contains x=true)(ha:PA X es (b9 X.K T S ρ ds))(hs:starEach es X.env=es.map fun e=>(false,eval e X.env))(hlen:ds.length=es.length)
  (hd:G.fn x ds=some (.er k)) (hT:T.xc k=some C) (hp:gP CX X E1):PE X (.Call (.Name x p) es [] pos) (fun σ H Q=>RE X.K T H S ρ σ∧∀H',aG H H'→E1 (.ref C) none H'):=by
 obtain⟨f,fd,ps,hm,hk,hb,hl,F⟩:=h.go.fn x hf;have key:∀σ H Q,(RE X.K T H S ρ σ∧∀H',aG H H'→E1 (.ref C) none H')→BY (fv X.K T ps.length (G.fn x) (G.ff x)) [] E1 (b9 X.K T S ρ ds) σ H Q:=fun σ H Q ⟨re,q⟩ =>
  ⟨re,fun vs H1 s1 r1=>⟨by rw[q9,←r1.len];exact hl ds _ hd,S,ds,(re.same s1).dom,by rw[q9];exact r1,.inr ⟨k,C,hd,hT,fun H' s2=>q H' (s1.trans s2)⟩⟩⟩
 cases es with
 |nil =>
  refine PE.mono (xN F h.room (h.glob hg) hm hk hb .nil hp (h.gne hg)) fun σ H Q hq=>?_
  obtain⟨re,q⟩:=hq;have a8:ds=[]:=qa.mp hlen
  subst a8;exact(key σ H Q ⟨re,q⟩).2 [] H (aG.refl H) aD.nil
 |cons e es =>
  obtain⟨h1,h2⟩:=nD (pos:=pos) hs;exact PE.mono (tQ F h.room (h.glob hg) hm hk hb .nil hp ha (h.gne hg) h1 h2) key
theorem VT(h:XC CX X c G T lv){S:Addr→Prop}{ρ:List Sl}{ea:Expr}{m cn:Str}{fs:List (Str×D)}{es:List Expr}{ds:List D}{apos:Pos}{k:Str}{C:Addr}{E1:XK}(ht:qV X ea m es apos pos)(ho:PE X ea (tD X.K T S ρ (.obj cn fs)))(hn:fs.lookup m=none)
  (ha:PA X es (b9 X.K T S ρ ds)) (hs:starEach es X.env=es.map fun e=>(false,eval e X.env)) (hlen:ds.length=es.length) (hd:G.me cn m (.obj cn fs::ds)=some (.er k)) (hT:T.xc k=some C) (hp:gP CX X E1) :
  PE X (.Call (.Attribute ea m apos) es [] pos) (fun σ H Q=>RE X.K T H S ρ σ∧∀H',aG H H'→E1 (.ref C) none H'):=by
 obtain⟨pl,ht⟩:=ht;intro pins s σ H Q I ⟨re,q⟩;refine PySem.W.methodCall_KW (pl:=pl) (af (ho pins s σ H (fun v H'=>aG H H'∧Rep X.K T H' S (.obj cn fs) v) I ⟨re,fun v H' a b=>⟨a,b⟩⟩) fun u s1 ⟨x,H1,I1,rx,sm,ro⟩=>?_) ht
 have ro':=ro
 unfold Rep at ro;obtain⟨p,C',dx,gs,ex,_,ec,e,rf⟩:=ro;subst ex;obtain rfl:u=Value.ref p:=rx;obtain⟨f,fd,ps,hm,hb,hl,F⟩:=h.go.me cn C' m _ _ ec hd;refine pZ I1 e (h.go.cls cn C' ec) hm ((cD.look rf).2 hn) ?_;have fin:∀(us:List Value) (vs:List V) (s2:Shared) (H2:Hp),Inv X pins σ H2 s2→aR vs us→aG H1 H2→aD X.K T H2 S ds vs→wpAny (model X.prog X.w) X.A (call (.ref f) (.ref p::us)) (EP X pins σ Q) X.xe s2:=fun us vs s2 H2 I2 r2 dn rl=>by
  refine tK (us:=.ref p::us) (vs:=.ref p::vs) (dvs:=[]) (ds:=[]) (E:=E1) F h.room hb .nil hp I2 (.cons rfl r2) ?_;refine⟨?_,S,.obj cn fs::ds,((re.same sm).same dn).dom,?_,.inr ⟨k,C,hd,hT,fun H' s3=>q H' ((sm.trans dn).trans s3)⟩⟩
  ·have:=hl _ _ hd
   simp only[q9,qy]at this ⊢;rw[←rl.len];exact this
  ·rw[q9];exact aD.cons (ro'.same dn) rl
 cases es with
 |nil =>
  have a8:ds=[]:=qa.mp hlen
  subst a8;exact callWith_K0 (first:=[.ref p]) I1.kIn hm.kp (fin [] [] s1 H1 I1 .nil (aG.refl _) aD.nil)
 |cons e es =>
  obtain⟨h1,h2⟩:=nD (pos:=pos) hs;refine callWith_K (first:=[.ref p]) (h₀:=X.base) I.ok.mod.kin hm.kp (af (ha pos pins s1 σ H1 (fun vs H'=>aG H1 H'∧aD X.K T H' S ds vs) I1 ⟨re.same sm,fun vs H' a b=>⟨a,b⟩⟩) fun us s2 ⟨vs,H2,I2,r,dn,rl⟩=>⟨I2.kIn,?_⟩) h1 h2
  exact fin us vs s2 H2 I2 r dn rl
theorem aHA(xc:XC CX X c G T lv){S:Addr→Prop}{ρ:List Sl}{n:Nat}{f:Expr}{args:List Expr}{kw:List Keyword}{p:Pos}{ir:IE}{k:Str}{C:Addr}{E1:XK}(he:cE n c (.Call f args kw p)=some ir)(hr:nj G ir ρ=some (.er k))(hT:T.xc k=some C)(hp:gP CX X E1) :
  PE X (.Call f args kw p) (fun σ H Q=>RE X.K T H S ρ σ∧∀H',aG H H'→E1 (.ref C) none H'):=by
 cases n with
 |zero=>exact nomatch (show none=some ir from he)
 |succ n =>
  obtain⟨hE,f9,hB,hA,hI⟩:=dG (CX:=CX) (G:=G) (T:=T) (lv:=lv) n;obtain⟨hkw,he⟩:=bE he;obtain rfl:=jG hkw;cases f<;>first|exact nomatch (show none=some ir from he)|skip
  case Attribute o m ap _ =>
   obtain⟨hc,he⟩:=bE he;obtain⟨hc,hc3⟩:=bN hc;obtain⟨hc1,fk⟩:=bN hc;cases hgm:getM c o m with
   |some i =>
    rw[hgm]at he;obtain⟨y,hy,rfl⟩:=aL he;exact nomatch (show (none:Option Rs)=some (.er k) from hr)
   |none =>
   rw[hgm]at he;obtain⟨x,hx,he⟩:=aE he;obtain⟨y,hy,rfl⟩:=aL he;simp only[nj]at hr;split at hr
   ·rename_i cn fs hw;obtain⟨hnone,hr⟩:=bE hr;obtain⟨ds,a8,hd⟩:=aE hr;obtain⟨ds',e1,hl,pa,hs⟩:=hA X _ S ρ args y xc hy _ (bM a8);cases e1;exact VT xc (xW hc1 hs (of_decide_eq_true fk) hc3) (hE X _ S ρ o x xc hx _ hw).1 (Option.isNone_iff_eq_none.mp hnone) pa hs hl hd hT hp
   ·cases hr
  case Name x px _ =>
   obtain⟨hg,he⟩:=bE he;cases hf:c.fns.contains x with
   |true =>
    rw[hf]at he;obtain⟨y,hy,rfl⟩:=aL (show (cA n c args).map (fun y=>IE.call x y)=some ir from he)
    obtain⟨ds,a8,hd⟩:=aE (show (bH (ev G y ρ)).bind (G.fn x)=some (.er k) from hr)
    obtain⟨ds',e1,hl,pa,hs⟩:=hA X _ S ρ args y xc hy _ (bM a8);cases e1;exact VV xc hg hf pa hs hl hd hT hp
   |false =>
    exfalso
    rw[hf]at he;have no:∀{o:Option IE} {g:IE→IE},(∀y,nj G (g y) ρ=none)→o.map g=some ir→False:=fun {o g} hn z=>by
     obtain⟨y,_,rfl⟩:=aL z;rw[hn y]at hr;cases hr
    cases ak:c.cls.contains x with
    |true=>rw[ak]at he;exact no (g:=fun y=>IE.mk x y) (fun _=>rfl) he
    |false =>
     rw[ak]at he;cases hi:x == "isinstance" with
     |true =>
      rw[hi]at he;have he:KU (cE n c) c args=some ir:=he
      match args,he with
      |[a,y],he =>
       obtain⟨y',_,he⟩:=aE he;obtain⟨_,he⟩:=bE he;exact no (g:=fun z=>IE.isi z y'.1) (fun _=>rfl) he
     |false =>
      rw[hi]at he;obtain⟨b,hb,he⟩:=aE (show (qS x).bind (fun b=>HA (cE n c) c b args (cA n c args))=some ir from he)
      unfold HA at he;have nb:∀b:BF,((cA n c args).map fun z=>IE.bcall b z)=some ir→False:=fun b he=>no (g:=fun z=>IE.bcall b z) (fun _=>rfl) he
      split at he
      ·rename_i i _;cases b<;>first|exact nb _ he|(cases (show some _=some ir from he);first|(cases hr;done)|(generalize args.any yE=dv at hr;cases dv<;>cases hr))
      ·cases hra:zS c args with
       |none=>rw[hra]at he;exact nb b (by cases b<;>exact he)
       |some a=>rw[hra]at he;cases b<;>first|exact nb _ he|exact no (g:=fun z=>IE.walk .rev z) (fun _=>rfl) he
theorem SD(xc:XC CX X c G T lv)(xs:XS CX T X c EX){n:Nat}{f:Expr}{args:List Expr}{kw:List Keyword}{p:Pos}{ir:IE}(he:cE n c (.Call f args kw p)=some ir):PS X (.Expr (.Call f args kw p) pos) (aT X.K T S₀ H₀ fr EX G (.drop ir)):=fun pins s σ H D I ⟨ρ,out,S,hx,si,po⟩=>by
 simp only[ex]at hx;split at hx
 ·rename_i d hd;cases hx;exact nZ ((dG n).1 X c (fun _=>False) (view ρ) _ ir xc he d hd).1 rfl pins s σ H D I ⟨si.re.view,fun v H' sm _=>po S σ H' (si.step sm) (aI.same sm)⟩
 ·split at hx
  ·rename_i k hk;split at hx
   ·rename_i hn;cases hx;obtain⟨C,hT⟩:=xc.go.xns k hn;refine nZ (aHA (S:=fun _=>False) (E1:=fun cls _ H'=>∃k C,T.xc k=some C∧cls=.ref C∧EX k H') xc he hk hT (xs.pss _ fun cls H' z=>z)) rfl pins s σ H D I ⟨si.re.view,fun H' sm=>⟨k,C,hT,rfl,po H' (si.same.trans sm)⟩⟩
   ·cases hx
  ·cases hx
theorem XC.re{X':Cx}(xc:XC CX X c G T lv)(h1:X'.prog=X.prog)(h2:X'.w=X.w)(h3:X'.K=X.K)(h4:X'.mg=X.mg)(h5:X'.base=X.base)(h6:X'.N=X.N)(h7:X'.env=X.env)(h8:X'.fn=X.fn)(h9:X'.calm=X.calm)(h10:X'.A=X.A):XC CX X' c G T lv:=by
 obtain⟨pr,w,K,mg,base,A,N,s0,H0,env,outer,stack,ex,fn,calm,pn,xe⟩:=X;obtain⟨pr',w',K',mg',base',A',N',s0',H0',env',outer',stack',ex',fn',calm',pn',xe'⟩:=X';dsimp only at h1 h2 h3 h4 h5 h6 h7 h8 h9 h10;subst h1 h2 h3 h4 h5 h6 h7 h8 h9 h10;exact⟨xc.N,xc.nd,xc.kd,xc.own,xc.dbg,xc.gdb,xc.calm,xc.room,⟨xc.go.fn,xc.go.me,xc.go.cls,xc.go.fld,xc.go.mo,xc.go.cst,xc.go.bi,xc.go.xcl,xc.go.frs,xc.go.cx0,xc.go.cxf,xc.go.xns,xc.go.xk,xc.go.sub,xc.go.wd,xc.go.dk,xc.go.fm⟩⟩
end Z
namespace Z
open PySem PySem.Spec PyProof.Rows L2
variable {CX:ao}{G:GS}{T:Tx}{lv:Nat}{X:Cx}{c:CC}{S₀:Addr→Prop}{H₀:Hp}{fr:Bool}{EX:Str→Hp→Prop}{pos:Pos}
def aDu(CX:ao)(G:GS)(T:Tx)(lv:Nat)(S₀:Addr→Prop)(H₀:Hp)(fr:Bool)(EX:Str→Hp→Prop)(n:Nat):Prop:=∀(X:Cx) (c:CC) (st:Stmt) (is:IS),XC CX X c G T lv→XS CX T X c EX→cS n c st=some is→(fr=true→gY is=true)→K0 S₀ H₀ is→PS X st (aT X.K T S₀ H₀ fr EX G is)
def YI(CX:ao)(G:GS)(T:Tx)(lv:Nat)(S₀:Addr→Prop)(H₀:Hp)(fr:Bool)(EX:Str→Hp→Prop)(n:Nat):Prop:=∀(X:Cx) (c:CC) (st:List Stmt) (is:IS),XC CX X c G T lv→XS CX T X c EX→da n c st=some is→(fr=true→gY is=true)→K0 S₀ H₀ is→PSs X st (aT X.K T S₀ H₀ fr EX G is)
theorem GZ{s:Stmt}{x:Option Expr×Pos}(h:aFr s=some x):s=.Return x.1 x.2:=by
 cases s<;>first|exact nomatch (show none=some x from h)|(cases (show some _=some x from h);rfl)
theorem JP{c:CC}{e:Expr}{q:Nat×Expr}(h:YF c e=some q):∃x p1 p2 p,e=.Call (.Attribute (.Name x p1) "append" p2) [q.2] [] p∧bD c x=some q.1∧(p2.endLine == p.line)=true:=by
 obtain⟨r,h1,h⟩:=aE h;obtain⟨g,h2,h⟩:=aE h;obtain⟨j,h3,h⟩:=aE h;obtain⟨a,h4,h⟩:=aE h;obtain⟨h5,h⟩:=bE h;obtain⟨h5,h7⟩:=bN h5;obtain⟨h5,h6⟩:=bN h5;cases h;obtain⟨x,p1,e3,hs⟩:=cC h3;refine⟨x,p1,g.2.2,r.2.2.2,?_,hs,h7⟩;rw[eM h1,kP h2,cM h4,jG h5,e3,qd.mp h6]
theorem HE{c:CC}{e:Expr}{j:Nat}(h:UE c e=some j):∃x p1 p2 p,e=.Call (.Attribute (.Name x p1) "pop" p2) [] [] p∧bD c x=some j∧(p2.endLine == p.line)=true:=by
 obtain⟨r,h1,h⟩:=aE h;obtain⟨g,h2,h⟩:=aE h;obtain⟨j,h3,h⟩:=aE h;obtain⟨h5,h⟩:=bE h;obtain⟨h5,h7⟩:=bN h5;obtain⟨h5,h6⟩:=bN h5;obtain⟨h4,h5⟩:=bN h5;cases h;obtain⟨x,p1,e3,hs⟩:=cC h3;refine⟨x,p1,g.2.2,r.2.2.2,?_,hs,h7⟩;rw[eM h1,kP h2,jG h4,jG h5,e3,qd.mp h6]
theorem BL{e:Expr}{x:BoolOp×List Expr}(h:ZV e=some x):∃p,e=.BoolOp x.1 x.2 p:=by
 cases e<;>first|exact nomatch (show none=some x from h)|(cases (show some _=some x from h);exact⟨_,rfl⟩)
theorem HS{e x:Expr}(h:aCa e=some x):∃p,e=.UnaryOp .Not x p:=by
 cases e<;>first|exact nomatch (show none=some x from h)|skip
 rename_i o a p;cases o<;>first|exact nomatch (show none=some x from h)|(cases (show some _=some x from h);exact⟨_,rfl⟩)
theorem uL{c:CC}{e:Expr}{r:Str×Nat×List Expr}(h:uM c e=some r):∃p y py cp,e=.Call (.Name r.1 p) (.Name y py::r.2.2) [] cp∧aS c r.1=true∧bD c y=some r.2.1:=by
 obtain⟨q,h1,h2⟩:=aE h;obtain⟨g,h3,h4⟩:=aE h2;obtain⟨h5,h6⟩:=bE h4;obtain⟨h5,h8⟩:=bN h5;obtain⟨h5,h7⟩:=bN h5;obtain⟨fx,as,kw,cp⟩:=q;cases as with
 |nil=>exact nomatch (show none=some r from h6)
 |cons y as =>
  obtain⟨j,h9,e9⟩:=aL (show (cO c y).map (fun j=>(g.1,j,as))=some r from h6)
  subst e9;obtain⟨x,py,e3,hs⟩:=cC h9;refine⟨g.2,x,py,cp,?_,h7,hs⟩;have e4:fx=.Name g.1 g.2:=dH h3
  have e5:kw=[]:=jG h5
  subst e4 e5 e3;exact eM h1
theorem IW{c:CC}{t:Expr}{r:Expr×Str×Nat×List Expr}(h:WU c t=some r):∃t0 f p y py cp np bp,t0=r.1∧f=r.2.1∧t=.BoolOp .Or [r.1,.UnaryOp .Not (.Call (.Name r.2.1 p) (.Name y py::r.2.2.2) [] cp) np] bp∧aS c r.2.1=true∧bD c y=some r.2.2.1:=by
 obtain⟨q,h1,h2⟩:=aE h;obtain⟨bp,e1⟩:=BL h1;obtain⟨o,vs⟩:=q;cases o with
 |And=>exact nomatch (show none=some r from h2)
 |Or =>
  rcases vs with _|⟨a,_|⟨b,_|⟨d,rest⟩⟩⟩
  ·exact nomatch (show none=some r from h2)
  ·exact nomatch (show none=some r from h2)
  ·obtain⟨e,h3,h4⟩:=aE (show (aCa b).bind (fun e=>(uM c e).map fun r=>(a,r))=some r from h2)
   obtain⟨np,e2⟩:=HS h3;obtain⟨s,h5,e5⟩:=aL h4;subst e5;obtain⟨p,y,py,cp,e6,hg,hs⟩:=uL h5;refine⟨a,s.1,p,y,py,cp,np,bp,rfl,rfl,?_,hg,hs⟩;subst e6 e2;exact e1
  ·exact nomatch (show none=some r from h2)
theorem NO{s:Stmt}{x:Expr×List Stmt×List Stmt}(h:ifP s=some x):∃p,s=.If x.1 x.2.1 x.2.2 p:=by
 cases s<;>first|exact nomatch (show none=some x from h)|(cases (show some _=some x from h);exact⟨_,rfl⟩)
theorem JG{c:CC}{tg iter:Expr}{body:List Stmt}{r:Nat×Nat×Expr×Expr}(h:XY c tg iter body=some r):∃z pz y py t e rp ip,tg=.Name z pz∧iter=.Name y py∧body=[.If t [.Return (some e) rp] [] ip]∧bD c y=some r.1∧eY c (.Name z pz)=some r.2.1∧r.2.1≠r.1∧r.2.2.1=t∧r.2.2.2=e:=by
 obtain⟨x,h1,h⟩:=aE h;obtain⟨i,h2,h⟩:=aE h;obtain⟨s,h3,h⟩:=aE h;obtain⟨q,h4,h⟩:=aE h;obtain⟨r1,h5,h⟩:=aE h;obtain⟨r2,h6,h⟩:=aE h;obtain⟨e,h7,h⟩:=aE h;obtain⟨h8,h⟩:=bE h;obtain⟨h8,h9⟩:=bN h8;cases h;obtain⟨y,py,rfl,hs⟩:=cC h1;obtain⟨ip,e4⟩:=NO h4;have hz:∃z pz,tg=.Name z pz:=by
  cases tg<;>first|exact⟨_,_,rfl⟩|exact nomatch (show none=some i from h2)
 obtain⟨z,pz,rfl⟩:=hz;exact⟨z,pz,y,py,q.1,e,r2.2,ip,rfl,rfl,by rw[cM h3,e4,cM h5,GZ h6,h7,jG h8],hs,h2,by simpa using h9,rfl,rfl⟩
theorem KJ{n:Nat}(xc:XC CX X c G T lv)(xs:XS CX T X c EX){e:Expr}{is:IS}(h:zV (cE n c) c e=some is):PS X (.Expr e pos) (aT X.K T S₀ H₀ fr EX G is):=by
 obtain⟨r,hr,h⟩:=aE h;obtain⟨u,hu,rfl⟩:=aL h;obtain rfl:=eM hr;exact SD xc xs hu
theorem aBb{n:Nat}(xc:XC CX X c G T lv)(xs:XS CX T X c EX){t e:Expr}{is:IS}(h:YZ (cE n c) c e t=some is)(hk:K0 S₀ H₀ is):PS X (.Assign [t] e pos) (aT X.K T S₀ H₀ fr EX G is):=by
 cases t<;>first|exact nomatch (show none=some is from h)|skip
 case Name x p =>
  obtain⟨i,hx,h⟩:=aE h;unfold KZ at h;split at h
  ·split at h
   ·rename_i hz;cases h;unfold DA at hz;split at hz
    ·exact RY xc hx hk
    ·cases hz
   ·obtain⟨hf,h⟩:=bE h;obtain⟨y,hy,rfl⟩:=aL h;exact RX xc hx hy hf hk
  ·obtain⟨y,hy,rfl⟩:=aL h;exact aAQ xc hx hy hk
 case Subscript a i p =>
  obtain⟨j,hj,h⟩:=aE h;obtain⟨k,hkk,h⟩:=aE h;obtain⟨y,hy,rfl⟩:=aL h;obtain⟨x,p1,rfl,hs⟩:=cC hj;exact aAV xc hs hkk hy
 case Tuple ts k p =>
  have h:zT (cE n c) c ts e=some is:=h
  unfold zT at h;cases ht:tupP e with
  |some q =>
   rw[ht]at h;exact nomatch (show none=some is from h)
  |none =>
   rw[ht]at h;obtain⟨is',his,h⟩:=aE h;obtain⟨u,hu,rfl⟩:=aL h;refine RW xc his hu (fun vs k p z=>?_) hk
   subst z;exact nomatch (show some _=none from ht)
theorem aAU{n:Nat}(xc:XC CX X c G T lv)(xs:XS CX T X c EX){e:Expr}{is:IS}(h:rdR (cE n c) c e=some is)(ar:fr=true→gY is=true):PS X (.Return (some e) pos) (aT X.K T S₀ H₀ fr EX G is):=by
 obtain⟨y,hy,e0⟩:=aL h;subst e0;exact aAT xc hy (fun z=>z) fun z=>ar z
theorem HL{n:Nat}(hS:YI CX G T lv S₀ H₀ fr EX n):aDu CX G T lv S₀ H₀ fr EX (n+1):=by
 intro X c st is xc xs h ar hk;cases st<;>first|exact nomatch (show none=some is from h)|skip
 case Pass q=>cases (show some IS.nop=some is from h);exact SC
 case Return v q =>
  cases v with
  |none=>cases (show some IS.retn=some is from h);exact SA
  |some e =>
   have h:(if PH c then(cE n c e).map IS.retq else match cO c e with|some i=>some (IS.retm i)|none=>rdR (cE n c) c e)=some is:=h
   cases hq:PH c with
   |true =>
    rw[hq]at h;obtain⟨y,hy,rfl⟩:=aL (show (cE n c e).map IS.retq=some is from h)
    exact RZ xc hy
   |false =>
   rw[hq]at h;have h:(match cO c e with|some i=>some (IS.retm i)|none=>rdR (cE n c) c e)=some is:=h
   cases hm:cO c e with
   |some i =>
    rw[hm]at h;cases h;obtain⟨x,p,rfl,hs⟩:=cC hm;exact SB xc hs hk
   |none =>
    rw[hm]at h;exact aAU xc xs h ar
 case Assign ts e q =>
  obtain⟨t,ht,h⟩:=aE h;obtain rfl:=cM ht;exact aBb xc xs h hk
 case If t a b q =>
  have h:(match WU c t with
   |some q=>if b.isEmpty then(cT n c q.1).bind fun t=>(cA n c q.2.2.2).bind fun es=>(da n c a).map fun a=>IS.fil t q.2.1 q.2.2.1 es a else none
   |none=>(cT n c t).bind fun t=>(da n c a).bind fun a=>(da n c b).map fun b=>IS.iff t a b)=some is:=h
  cases hq:WU c t with
  |some r =>
   rw[hq]at h;obtain⟨hb,h⟩:=bE h;obtain rfl:=jG hb;obtain⟨u,hu,h⟩:=aE h;obtain⟨es,hes,h⟩:=aE h;obtain⟨v,hv,rfl⟩:=aL h;obtain⟨t0,f,p,y,py,cp,np,bp,rfl,e1,e2,hg,hy⟩:=IW hq;rw[e2];exact aBa xc hu hg hy hes (hS X _ a v xc xs hv (fun z=>ar z) hk)
  |none =>
  rw[hq]at h;obtain⟨u,hu,h⟩:=aE h;obtain⟨v,hv,h⟩:=aE h;obtain⟨w,hw,rfl⟩:=aL h;have l8:fr=true→gY v=true∧gY w=true:=fun z=>bN (ar z)
  exact aEF xc hu (hS X _ a v xc xs hv (fun z=>(l8 z).1) (MY hk).1) (hS X _ b w xc xs hw (fun z=>(l8 z).2) (MY hk).2)
 case For tg iter body els q =>
  obtain⟨he,h⟩:=bE h;obtain rfl:=jG he;have h:(match XY c tg iter body with
   |some q=>(cT n c q.2.2.1).bind fun t=>(cE n c q.2.2.2).map fun e=>IS.chkm q.1 q.2.1 t e
   |none=>(bW c tg).bind fun g=>(cI n c iter).bind fun k=>if DH g.2 k.1 then(da n c body).map fun b=>IS.loop g.1 g.2 k.1 k.2 b else none)=some is:=h
  cases hq:XY c tg iter body with
  |some r =>
   rw[hq]at h;obtain⟨u,hu,h⟩:=aE h;obtain⟨v,hv,rfl⟩:=aL h;obtain⟨z,pz,y,py,t,e,rp,ip,rfl,rfl,rfl,hy,hz,bu,e1,e2⟩:=JG hq;rw[e1]at hu;rw[e2]at hv;refine SF xc xs hy hz bu hu hv ?_ (ZN rfl hk);cases hf:fr with
   |false=>rfl
   |true=>exact nomatch (show false=true from ar hf)
  |none =>
  rw[hq]at h;obtain⟨⟨av,tp⟩,cq,h⟩:=aE h;obtain⟨⟨k,src⟩,hsrc,h⟩:=aE h;obtain⟨hen,h⟩:=bE h;have jz:PJ k tg:=RS cq hen
  obtain⟨v,hv,rfl⟩:=aL h;exact aAZ xc xs cq hsrc jz (CW hk).1 (hS X _ body v xc xs hv (fun z=>ar z) (CW hk).2)
 case Expr e q =>
  have h:(match YF c e with|some q=>(cE n c q.2).map fun x=>IS.app q.1 x|none=>match UE c e with|some j=>some (IS.pop j)|none=>zV (cE n c) c e)=some is:=h
  cases ha:YF c e with
  |some r =>
   rw[ha]at h;obtain⟨u,hu,rfl⟩:=aL h;obtain⟨x,p1,p2,p,rfl,hs,hp⟩:=JP ha;exact aBc xc hs hp hu
  |none =>
   rw[ha]at h;cases hp:UE c e with
   |some j =>
    rw[hp]at h;cases h;obtain⟨x,p1,p2,p,rfl,hs,hl⟩:=HE hp;exact aAW xc hs hl
   |none =>
   rw[hp]at h;exact KJ xc xs h
 case Raise e f q =>
  obtain⟨e',he,h⟩:=aE h;obtain⟨r,h1,h⟩:=aE h;obtain⟨x,h2,h⟩:=aE h;obtain⟨a,h3,h⟩:=aE h;obtain⟨m,h4,h⟩:=aE h;obtain⟨h5,h⟩:=bE h;obtain⟨h5,h8⟩:=bN h5;obtain⟨h5,h7⟩:=bN h5;obtain⟨h5,h6⟩:=bN h5;cases h;obtain⟨j,p',ea⟩:=GT h4;rw[he,Option.isNone_iff_eq_none.mp h5,eM h1,dH h2,cM h3,jG h6,ea];exact aAS xs h7 h8
theorem HM{n:Nat}(hS:aDu CX G T lv S₀ H₀ fr EX n)(hR:YI CX G T lv S₀ H₀ fr EX n):YI CX G T lv S₀ H₀ fr EX (n+1):=by
 intro X c st is xc xs h ar hk
 rcases st with _|⟨s,_|⟨s2,r⟩⟩
 ·cases (show some IS.nop=some is from h)
  exact aAX
 ·exact tN (hS X c s is xc xs h ar hk)
 ·obtain⟨u,hu,h⟩:=aE h;obtain⟨v,hv,rfl⟩:=aL h;have l8:fr=true→gY u=true∧gY v=true:=fun z=>(bN (ar z)).imp id fun q=>by
   unfold IK at q;split at q<;>exact q
  have kq:=(MX hk).2
  have kd:(NU c s2).isEmpty=false→D0 S₀ H₀:=fun z=>by
   unfold IK at kq;rw[z]at kq
   rcases kq with q|q
   ·exact nomatch (show false=true from q)
   ·exact q
  have kv:K0 S₀ H₀ v:=by
   cases z:(NU c s2).isEmpty with
   |true=>unfold IK at kq;rw[z]at kq;exact kq
   |false=>exact .inr (kd z)
  exact aAR (hS X c s u xc xs hu (fun z=>(l8 z).1) (MX hk).1) (aAY kd (hR X c (s2::r) v xc xs hv (fun z=>(l8 z).2) kv))
theorem kZ:∀n,aDu CX G T lv S₀ H₀ fr EX n∧YI CX G T lv S₀ H₀ fr EX n
 | 0=>⟨fun X c st is xc xs h=>(nomatch (show none=some is from h)),fun X c st is xc xs h=>(nomatch (show none=some is from h))⟩
 |n+1=>⟨HL (kZ n).2,HM (kZ n).1 (kZ n).2⟩
end Z
namespace Z
open PySem PySem.Spec PyProof.Rows L2
variable {CX:ao}{G:GS}{T:Tx}{lv:Nat}
noncomputable def lX(n:Nat)(ds:List D):List Sl:=ds.map .im++List.replicate (n-ds.length) .un
theorem pB{K:so}{H:Hp}{S:Addr→Prop}{N:List Str}{ds:List D}{vs:List V}(dom:∀a,S a→∃o,H a=some o)(rl:aD K T H S ds vs):SInv K T S H S (lX N.length ds) (L2.start N vs) H:=by
 have hl:=rl.len
 have dz:∀(i:Nat) xs,(lX N.length ds)[i]?≠some (.mu xs):=fun i xs e=>by
  unfold lX at e
  by_cases h:i<(ds.map Sl.im).length
  ·rw[rj h,oe]at e;cases h2:ds[i]? with
   |none=>rw[h2]at e;cases e
   |some d=>rw[h2]at e;cases e
  ·rw[rn (by omega),getElem?_replicate]at e
   split at e<;>cases e
 refine⟨⟨dom,by simp[lX,L2.start,hl],fun i s e=>?_⟩,fun a z=>.inl (dom a z),fun _ z=>z,aG.refl H,fun i j xs ys p h=>absurd h (dz i xs),fun i xs p h=>absurd h (dz i xs)⟩
 unfold lX at e;unfold L2.start
 by_cases h:i<(ds.map Sl.im).length
 ·rw[rj h,oe]at e;cases h2:ds[i]? with
  |none=>rw[h2]at e;cases e
  |some d =>
   rw[h2]at e;cases e;obtain⟨v,h3,r⟩:=rl.get h2;exact⟨v,by rw[rj (by rw[og]at h ⊢;omega),oe,h3];rfl,r⟩
 ·rw[rn (by omega),getElem?_replicate]at e
  split at e
  ·cases e;trivial
  ·cases e
theorem yA(k:Option NameKind):wD k k:=by
 cases k with
 |none=>trivial
 |some k=>cases k<;>first|rfl|trivial|exact .inl rfl
noncomputable def kC(c:CC)(sc:Scope):Bool:=c.N.all (fun x=>!(x == ("__debug__":Str))&&!(x == ("__classdict__":Str)))&&!(aS c "__debug__")
theorem zH{P:sr}{w:World}{K:so}{mg:t5}{base:Heap}{N ps:List Str}{qual:Str}{sc:Scope}{f:Addr}{cd:Value}{A:Around}{outer:List Env}{s:Shared}{H:Hp}{E:XK}{c:CC}(hN:c.N=N)(jb:c.sc=sc)(fs:aa N ps sc)(hk:kC c sc=true)
  (hr:Room lv (A.deeper (envOfC qual sc s.heap.objs.size f cd))) (go:kj CX (kM CX P w K mg base N qual sc f cd A outer s H E).nox c G T lv):XC CX (kM CX P w K mg base N qual sc f cd A outer s H E).nox c G T lv:=by
 unfold kC at hk;rw[ow,all_eq_true]at hk;refine⟨hN.symm,by rw[hN];exact fs.nd,fun x=>?_,fun _ _=>rfl,fun x hx=>?_,?_,rfl,hr,go⟩
 ·rw[jb];exact yA _
 ·have:=hk.1 x hx
  simpa using this
 ·simpa using hk.2
theorem aCH{P:sr}{w:World}{K:so}{mg:t5}{base:Heap}{x qual:Str}{st:Stmt}{f:Addr}{fd:sq}{N ps:List Str}{c:CC}{n:Nat}{ir:IS}{fr:Bool}(F:Fun K x qual st f fd)(fs:aa N ps (aB st))(hN:c.N=N)(jb:c.sc=aB st)(hk:kC c (aB st)=true)
  (dg:da n c (bI st)=some ir) (ar:fr=true→gY ir=true)
  (go:∀(X:Cx),X.prog=P→X.w=w→X.K=K→X.mg=mg→X.base=base→kj (dN P w) X c G T lv):FnOk P w K mg base (dN P w) (lv+1) f fd ps (fv K T ps.length (fun ds=>aO G N.length ir ds) fr):=by
 obtain⟨oc,od,kV,doc,pm,an,ax,ct,ik,rfl,lk,dh⟩:=F.ex;refine DJ lk dh fs (fun vs H Q E h=>h.1) fun A outer s H vs Q E hr bo=>?_
 obtain⟨hlen,S,ds,dom,rl,hcase⟩:=bo;have xc:XC (dN P w) (kM (dN P w) P w K mg base N qual (aB st) f ax A outer s H E) c G T lv:=(zH (CX:=dN P w) (E:=E) (P:=P) (w:=w) (mg:=mg) (base:=base) (outer:=outer) (s:=s) (H:=H) (f:=f) (cd:=ax) (qual:=qual) hN jb fs hk hr (go _ rfl rfl rfl rfl rfl)).re rfl rfl rfl rfl rfl rfl rfl rfl rfl rfl
 have xs:XS (dN P w) T (kM (dN P w) P w K mg base N qual (aB st) f ax A outer s H E) c (fun k H'=>∃C,T.xc k=some C∧E (.ref C) none H'):=by
  refine⟨fs.kind,PassesOwn.leaving,fun y m j p p' q pos hg hc=>?_,fun E1 h1=>CM fun cls H' z=>?_,rfl,rfl⟩
  ·rintro pins s1 σ H1 D I ⟨C,hT,hE⟩;exact xI (W:=fun H'=>E (.ref C) none H') rfl (xc.glob hg) (xc.gne hg) (xc.go.xcl y C hT) (xc.go.xk y C hT) (fun pins σ H s h' e vs I hm hE=>pS I hm hE) pins s1 σ H1 D I hE
  ·obtain⟨k,C,hT,rfl,C',f9,hE⟩:=h1 cls H' z;rw[hT]at f9;cases f9;exact hE
 refine⟨_,(kZ (S₀:=S) (H₀:=H) (fr:=fr) n).2 _ c _ ir xc xs dg ar (.inr dom),?_⟩;have hs:lX N.length ds=ds.map .im++List.replicate (N.length-ds.length) .un:=rfl
 rcases hcase with ⟨d,hd,q⟩|⟨e,C,he,hT,q⟩
 ·dsimp only at hd;unfold aO at hd;rw[←hs]at hd;split at hd
  ·rename_i d' ho;cases hd;exact⟨_,_,S,ho,pB dom rl,fun v H' sm r fr'=>q v H' sm r fr'⟩
  ·rename_i ρ' ho;cases hd;exact⟨_,_,S,ho,pB dom rl,fun S' σ' H' si mv=>q .non H' si.same (by unfold Rep;rfl) fun _ ds' z=>by cases z⟩
  ·cases hd
  ·cases hd
 ·dsimp only at he;unfold aO at he;rw[←hs]at he;split at he
  ·cases he
  ·cases he
  ·rename_i k ho;cases he;exact⟨_,_,S,ho,pB dom rl,fun H' sm=>⟨C,hT,q H' sm⟩⟩
  ·cases he
noncomputable def sY(n:Nat)(o:D)(ds:List D):List Sl:=.mu o::ds.map .im++List.replicate (n-(ds.length+1)) .un
theorem GU{K:so}{H:Hp}{S:Addr→Prop}{N:List Str}{o:D}{ob:HO}{q:Addr}{ds:List D}{vs:List V}(dom:∀a,S a→∃o,H a=some o)(hS:S q)(hq:H q=some ob)(rm:iV K T H S o ob)(rl:aD K T H S ds vs):SInv K T S (er H q) S (sY N.length o ds) (L2.start N (.ref q::vs)) H:=by
 have hl:=rl.len
 have dz:∀(i:Nat) xs,(sY N.length o ds)[i]?=some (.mu xs)→i=0:=fun i xs e=>by
  cases i with
  |zero=>rfl
  |succ i =>
   exfalso
   have e:(ds.map Sl.im++List.replicate (N.length-(ds.length+1)) Sl.un)[i]?=some (.mu xs):=e
   by_cases h:i<(ds.map Sl.im).length
   ·rw[rj h,oe]at e;cases h2:ds[i]? with
    |none=>rw[h2]at e;cases e
    |some d=>rw[h2]at e;cases e
   ·rw[rn (by omega),getElem?_replicate]at e
    split at e<;>cases e
 have er0:er H q q=none:=by unfold er;rw[if_pos rfl]
 have er1:∀a,a≠q→er H q a=H a:=fun a n=>by unfold er;rw[if_neg n]
 refine⟨⟨dom,by simp[sY,L2.start,hl],fun i s e=>?_⟩,fun a z=>?_,fun _ z=>z,fun a b e=>?_,fun i j xs ys p h1 h2 _ _=>(dz i xs h1).trans (dz j ys h2).symm,fun i xs p h h2=>?_⟩
 ·cases i with
  |zero =>
   cases (show some (Sl.mu o)=some s from e)
   exact⟨q,ob,rfl,hS,hq,rm⟩
  |succ i =>
   have e:(ds.map Sl.im++List.replicate (N.length-(ds.length+1)) Sl.un)[i]?=some s:=e
   by_cases h:i<(ds.map Sl.im).length
   ·rw[rj h,oe]at e;cases h2:ds[i]? with
    |none=>rw[h2]at e;cases e
    |some d =>
     rw[h2]at e;cases e;obtain⟨v,h3,r⟩:=rl.get h2;refine⟨v,?_,r⟩;show (vs.map some++List.replicate (N.length-(vs.length+1)) none)[i]?=_
     rw[rj (by rw[og]at h ⊢;omega),oe,h3];rfl
   ·rw[rn (by omega),getElem?_replicate]at e
    split at e
    ·cases e;trivial
    ·cases e
 ·by_cases h:a=q
  ·subst h;exact .inr ⟨o,rfl,rfl⟩
  ·obtain⟨b,h2⟩:=dom a z;exact .inl ⟨b,(er1 a h).trans h2⟩
 ·by_cases h:a=q
  ·rw[h,er0]at e;cases e
  ·rw[er1 a h]at e;exact e
 ·have:=dz i xs h
  subst this;cases (show some (some (V.ref q))=some (some (V.ref p)) from h2)
  exact er0
theorem aLl{P:sr}{w:World}{K:so}{mg:t5}{base:Heap}{x qual:Str}{st:Stmt}{f:Addr}{fd:sq}{N ps:List Str}{c:CC}{n:Nat}{ir:IS}(F:Fun K x qual st f fd)(fs:aa N ps (aB st))(hN:c.N=N)(jb:c.sc=aB st)(hk:kC c (aB st)=true)
  (dg:da n c (bI st)=some ir) (jh:cP ir=true)
  (go:∀(X:Cx),X.prog=P→X.w=w→X.K=K→X.mg=mg→X.base=base→kj (dN P w) X c G T lv):FnOk P w K mg base (dN P w) (lv+1) f fd ps (spA K T ps.length (fun o ds=>runM G N.length ir o ds)):=by
 obtain⟨oc,od,kV,doc,pm,an,ax,ct,ik,rfl,lk,dh⟩:=F.ex;refine DJ lk dh fs (fun vs H Q E h=>h.1) fun A outer s H vs Q E hr bo=>?_
 obtain⟨hlen,S,q,o,ob,rest,ds,d,o',rfl,dom,hS,hq,rm,rl,hd,post⟩:=bo;have xc:XC (dN P w) (kM (dN P w) P w K mg base N qual (aB st) f ax A outer s H E) c G T lv:=(zH (CX:=dN P w) (E:=E) (P:=P) (w:=w) (mg:=mg) (base:=base) (outer:=outer) (s:=s) (H:=H) (f:=f) (cd:=ax) (qual:=qual) hN jb fs hk hr (go _ rfl rfl rfl rfl rfl)).re rfl rfl rfl rfl rfl rfl rfl rfl rfl rfl
 have xs:XS (dN P w) T (kM (dN P w) P w K mg base N qual (aB st) f ax A outer s H E) c (fun k H'=>∃C,T.xc k=some C∧E (.ref C) none H'):=by
  refine⟨fs.kind,PassesOwn.leaving,fun y m j p p' q pos hg hc=>?_,fun E1 h1=>CM fun cls H' z=>?_,rfl,rfl⟩
  ·rintro pins s1 σ H1 D I ⟨C,hT,hE⟩;exact xI (W:=fun H'=>E (.ref C) none H') rfl (xc.glob hg) (xc.gne hg) (xc.go.xcl y C hT) (xc.go.xk y C hT) (fun pins σ H s h' e vs I hm hE=>pS I hm hE) pins s1 σ H1 D I hE
  ·obtain⟨k,C,hT,rfl,C',f9,hE⟩:=h1 cls H' z;rw[hT]at f9;cases f9;exact hE
 refine⟨_,(kZ (S₀:=S) (H₀:=er H q) (fr:=false) n).2 _ c _ ir xc xs dg (fun z=>by cases z) (.inl jh),?_⟩
 have er0:er H q q=none:=by unfold er;rw[if_pos rfl]
 have er1:∀a,a≠q→er H q a=H a:=fun a n=>by unfold er;rw[if_neg n]
 have hd:(match ex G ir (sY N.length o ds) with|some (.rm d ρ)=>(match (ρ[0]?:Option Sl) with|some (.mu o')=>some (d,o')|_=>none)|_=>none)=some (d,o'):=hd
 split at hd
 ·rename_i d1 ρ1 ho;split at hd
  ·rename_i o1 h0;cases hd;refine⟨_,_,S,ho,GU dom hS hq rm rl,fun S' σ' H' v si mv r=>?_⟩
   have e1:σ'[0]?=some (some (.ref q)):=by
    rcases si.dom0 q hS with ⟨b,z⟩|⟨_,_,z⟩
    ·rw[er0]at z;cases z
    ·exact z
   obtain⟨q2,dO,e2,_,e4,rm'⟩:=si.re.at_ 0 _ h0;rw[e1]at e2;cases e2;have mv':aI K H' H' S' S:=fun a n _=>⟨fun z=>n (si.sup a z),fun _ e=>e⟩
   exact post v H' dO (fun a b n e=>si.same a b ((er1 a n).trans e)) e4 (rm'.gen mv') (Rep.gen mv' d v r)
  ·cases hd
 ·cases hd
end Z
namespace Z
open PySem PySem.Spec PyProof.Rows L2
structure Nm where
 fns:List Str
 cls:List Str
 csts:List Str
 fresh:List Str
noncomputable def Nm.cc(m:Nm)(N:List Str)(sc:Scope)(mus:List Str):CC:=⟨N,sc,m.fns,m.cls,m.csts,mus,m.fresh⟩
def MOk(P:sr)(w:World)(K:so)(mg:t5)(base:Heap)(CX:ao)(m:Nm)(G:GS)(T:Tx)(lv:Nat):Prop:=
 ∀(X:Cx) (c:CC),X.prog=P→X.w=w→X.K=K→X.mg=mg→X.base=base→c.fns=m.fns→c.cls=m.cls→c.csts=m.csts→c.fresh=m.fresh→kj CX X c G T lv
noncomputable def Nm.addF(m:Nm)(x:Str)(fr:Bool):Nm:={ m with fns:=x::m.fns,fresh:=if fr then x::m.fresh else m.fresh }
noncomputable def GS.addF(G:GS)(x:Str)(g:List D→Option Rs)(fr:Bool):GS:={ G with fn:=fun y=>if y=x then g else G.fn y,ff:=fun y=>if y=x then fr else G.ff y,mf:=fun cn y=>if y=x then fr else G.mf cn y }
section
variable {P:sr}{w:World}{K:so}{mg:t5}{base:Heap}{CX:ao}{m:Nm}{G:GS}{T:Tx}{lv:Nat}
theorem contains_cons{x y:Str}{l:List Str}:(x::l).contains y=true→y=x∨l.contains y=true:=fun h=>by
 rw[List.contains_cons,or_eq_true,qd]at h;exact h
theorem MOk.addF(h:MOk P w K mg base CX m G T lv){x:Str}{f:Addr}{fd:sq}{ps:List Str}{g:List D→Option Rs}{fr:Bool}(hn:m.fns.contains x=false)(gq:∀cn ds,G.me cn x ds=none)(jf:m.fresh.contains x=false)
  (hm:mg x=some (.ref f)) (hk:keepIn K (.ref f)=true) (hb:Binds K fd ps []) (hl:∀ds r,g ds=some r→ds.length=ps.length) (F:FnOk P w K mg base CX (lv+1) f fd ps (fv K T ps.length g fr)) :
  MOk P w K mg base CX (m.addF x fr) (G.addF x g fr) T (lv+1):=by
 intro X c e1 e2 e3 e4 e5 e6 e7 e8 e9;subst e1 e2 e3 e4 e5;have o:=h X { c with fns:=m.fns,fresh:=m.fresh } rfl rfl rfl rfl rfl rfl e7 e8 rfl
 refine⟨fun y hy=>?_,fun cn C mm ds r hT hr=>?_,o.cls,o.fld,fun y hy ds d hd=>?_,fun y d hd hc=>o.cst y d hd hc,fun y hy h1 h2=>?_,o.xcl,fun y hy=>?_,o.cx0,o.cxf,o.xns,o.xk,o.sub,fun f k x C h1 h2=>let ⟨a,b,c,j,d,e⟩:=o.wd f k x C h1 h2;⟨a,b,c,j,le_succ_of_le d,e⟩,o.dk,fun x o2 ds r h1=>let ⟨f,fd,ps,a,b,c,d,e⟩:=o.fm x o2 ds r h1;⟨f,fd,ps,a,b,c,d,e.mono (qv _)⟩⟩
 ·rw[e6]at hy
  by_cases e:y=x
  ·subst e;refine⟨f,fd,ps,hm,hk,hb,?_,?_⟩
   ·intro ds r hr;simp only[GS.addF,if_true]at hr;exact hl ds r hr
   ·simp only[GS.addF,if_true];exact F
  ·rcases contains_cons hy with z|z
   ·exact absurd z e
   ·obtain⟨f',bc,ba,a1,a2,a3,a4,a5⟩:=o.fn y z;refine⟨f',bc,ba,a1,a2,a3,?_,?_⟩
    ·intro ds r hr;simp only[GS.addF,if_neg e]at hr;exact a4 ds r hr
    ·simp only[GS.addF,if_neg e];exact a5.mono (qv _)
 ·have bu:mm≠x:=by
   rintro rfl;have:G.me cn mm ds=some r:=hr
   rw[gq]at this;cases this
  obtain⟨f',bc,ba,a1,a2,a3,a4⟩:=o.me cn C mm ds r hT hr;refine⟨f',bc,ba,a1,a2,a3,?_⟩;simp only[GS.addF,if_neg bu];exact a4.mono (qv _)
 ·obtain⟨C,f',bc,ba,j,a1,a2⟩:=o.mo y hy ds d hd;exact⟨C,f',bc,ba,j,le_succ_of_le a1,a2⟩
 ·refine o.bi y hy ?_ h2;rw[e6]at h1;rw[Nm.addF,List.contains_cons,Bool.or_eq_false_iff]at h1;exact h1.2
 ·rw[e9]at hy
  by_cases e:y=x
  ·subst e;cases ar:fr with
   |true=>exact⟨by simp[GS.addF],fun cn=>by simp[GS.addF]⟩
   |false =>
    exfalso
    rw[ar]at hy;have:m.fresh.contains y=true:=hy
    rw[jf]at this;cases this
  ·have:m.fresh.contains y=true:=by
    unfold Nm.addF at hy;simp only at hy;split at hy
    ·rcases contains_cons hy with z|z
     ·exact absurd z e
     ·exact z
    ·exact hy
   obtain⟨b1,b2⟩:=o.frs y this;exact⟨by simp only[GS.addF,if_neg e];exact b1,fun cn=>by simp only[GS.addF,if_neg e];exact b2 cn⟩
noncomputable def Nm.addM(m:Nm)(x:Str)(fr:Bool):Nm:={ m with fresh:=if fr then x::m.fresh else m.fresh }
noncomputable def GS.addM(G:GS)(cn x:Str)(g:List D→Option Rs)(fr:Bool):GS:={ G with me:=fun c y=>if c=cn∧y=x then g else G.me c y,ff:=fun y=>if y=x then fr else G.ff y,mf:=fun c y=>if y=x then fr else G.mf c y }
theorem MOk.addM(h:MOk P w K mg base CX m G T lv){cn x:Str}{C:Addr}{f:Addr}{fd:sq}{ps:List Str}{g:List D→Option Rs}{fr:Bool}(hn:m.fns.contains x=false)(gq:∀cn ds,G.me cn x ds=none)(jf:m.fresh.contains x=false)
  (hT:T.cl cn=some C) (hm:fu K C x f) (hb:Binds K fd ps []) (hl:∀ds r,g ds=some r→ds.length=ps.length) (F:FnOk P w K mg base CX (lv+1) f fd ps (fv K T ps.length g fr)) :
  MOk P w K mg base CX (m.addM x fr) (G.addM cn x g fr) T (lv+1):=by
 intro X c e1 e2 e3 e4 e5 e6 e7 e8 e9;subst e1 e2 e3 e4 e5;have o:=h X { c with fresh:=m.fresh } rfl rfl rfl rfl rfl e6 e7 e8 rfl
 have nfn:∀y,c.fns.contains y=true→y≠x:=fun y hy z=>by
  subst z;rw[e6]at hy;have ef:m.fns.contains y=true:=hy
  rw[hn]at ef;cases ef
 refine⟨fun y hy=>?_,fun cn' C' mm ds r f9 hr=>?_,o.cls,o.fld,fun y hy ds d hd=>?_,fun y d hd hc=>o.cst y d hd hc,fun y hy h1 h2=>o.bi y hy h1 h2,o.xcl,fun y hy=>?_,o.cx0,o.cxf,o.xns,o.xk,o.sub,fun f k x C h1 h2=>let ⟨a,b,c,j,d,e⟩:=o.wd f k x C h1 h2;⟨a,b,c,j,le_succ_of_le d,e⟩,o.dk,fun x o2 ds r h1=>let ⟨f,fd,ps,a,b,c,d,e⟩:=o.fm x o2 ds r h1;⟨f,fd,ps,a,b,c,d,e.mono (qv _)⟩⟩
 ·have e:=nfn y hy
  obtain⟨f',bc,ba,a1,a2,a3,a4,a5⟩:=o.fn y hy;refine⟨f',bc,ba,a1,a2,a3,a4,?_⟩;simp only[GS.addM,if_neg e];exact a5.mono (qv _)
 ·by_cases e:mm=x
  ·subst e;have ec:cn'=cn:=by
    by_cases e:cn'=cn
    ·exact e
    ·simp only[GS.addM,e,false_and,if_false]at hr;rw[gq]at hr;cases hr
   subst ec;rw[hT]at f9;cases f9;refine⟨f,fd,ps,hm,hb,?_,?_⟩
   ·intro ds r hr;simp only[GS.addM,and_self,if_true]at hr;exact hl ds r hr
   ·simp only[GS.addM,and_self,if_true];exact F
  ·simp only[GS.addM,e,and_false,if_false]at hr;obtain⟨f',bc,ba,a1,a2,a3,a4⟩:=o.me cn' C' mm ds r f9 hr;refine⟨f',bc,ba,a1,a2,?_,?_⟩
   ·intro ds r hr;simp only[GS.addM,e,and_false,if_false]at hr;exact a3 ds r hr
   ·simp only[GS.addM,e,and_false,if_false];exact a4.mono (qv _)
 ·obtain⟨C,f',bc,ba,j,a1,a2⟩:=o.mo y hy ds d hd;exact⟨C,f',bc,ba,j,le_succ_of_le a1,a2⟩
 ·rw[e9]at hy
  by_cases e:y=x
  ·subst e;cases ar:fr with
   |true=>exact⟨by simp[GS.addM],fun cn=>by simp[GS.addM]⟩
   |false =>
    exfalso
    rw[ar]at hy;have:m.fresh.contains y=true:=hy
    rw[jf]at this;cases this
  ·have:m.fresh.contains y=true:=by
    unfold Nm.addM at hy;simp only at hy;split at hy
    ·rcases contains_cons hy with z|z
     ·exact absurd z e
     ·exact z
    ·exact hy
   obtain⟨b1,b2⟩:=o.frs y this;exact⟨by simp only[GS.addM,if_neg e];exact b1,fun cn=>by simp only[GS.addM,if_neg e];exact b2 cn⟩
theorem MQ{n:Nat}{o:Option Rs}{r:Rs}{ds:List D}(h:(if ds.length=n then o else none)=some r):ds.length=n:=by
 by_cases e:ds.length=n
 ·exact e
 ·rw[if_neg e]at h;cases h
theorem MOk.defF(h:MOk P w K mg base (dN P w) m G T lv){x:Str}{st:Stmt}{f:Addr}{fd:sq}{N ps mus:List Str}{n:Nat}{ir:IS}{fr:Bool}(hn:m.fns.contains x=false)(gq:∀cn ds,G.me cn x ds=none)(jf:m.fresh.contains x=false)(hm:mg x=some (.ref f))(hb:Binds K fd ps [])
  (F:Fun K x x st f fd) (fs:aa N ps (aB st)) (hk:kC (m.cc N (aB st) mus) (aB st)=true) (dg:da n (m.cc N (aB st) mus) (bI st)=some ir) (ar:fr=true→gY ir=true) :
  MOk P w K mg base (dN P w) (m.addF x fr) (G.addF x (fun ds=>if ds.length=ps.length then aO G N.length ir ds else none) fr) T (lv+1):=by
 refine h.addF hn gq jf hm F.kp hb (fun ds r hr=>MQ hr) ?_
 have G1:=aCH (P:=P) (w:=w) (mg:=mg) (base:=base) (T:=T) (lv:=lv) F fs (c:=m.cc N (aB st) mus) rfl rfl hk dg ar (fun X a1 a2 a3 a4 a5=>h X _ a1 a2 a3 a4 a5 rfl rfl rfl rfl)
 refine⟨fun vs H Q E h=>h.1,fun A outer s H args us vs Q E hr e0 ji hv bo=>G1.run A outer s H args us vs Q E hr e0 ji hv ?_⟩
 obtain⟨h1,S,ds,dom,rl,hc⟩:=bo;refine⟨h1,S,ds,dom,rl,?_⟩;have el:ds.length=ps.length:=by rw[rl.len];exact h1
 dsimp only at hc;rw[if_pos el]at hc;exact hc
theorem MOk.defM(h:MOk P w K mg base (dN P w) m G T lv){cn x qual:Str}{C:Addr}{st:Stmt}{f:Addr}{fd:sq}{N ps mus:List Str}{n:Nat}{ir:IS}{fr:Bool}(hn:m.fns.contains x=false)(gq:∀cn ds,G.me cn x ds=none)(jf:m.fresh.contains x=false)(hT:T.cl cn=some C)(hm:fu K C x f)(hb:Binds K fd ps [])
  (F:Fun K x qual st f fd) (fs:aa N ps (aB st)) (hk:kC (m.cc N (aB st) mus) (aB st)=true) (dg:da n (m.cc N (aB st) mus) (bI st)=some ir) (ar:fr=true→gY ir=true) :
  MOk P w K mg base (dN P w) (m.addM x fr) (G.addM cn x (fun ds=>if ds.length=ps.length then aO G N.length ir ds else none) fr) T (lv+1):=by
 refine h.addM hn gq jf hT hm hb (fun ds r hr=>MQ hr) ?_
 have G1:=aCH (P:=P) (w:=w) (mg:=mg) (base:=base) (T:=T) (lv:=lv) F fs (c:=m.cc N (aB st) mus) rfl rfl hk dg ar (fun X a1 a2 a3 a4 a5=>h X _ a1 a2 a3 a4 a5 rfl rfl rfl rfl)
 refine⟨fun vs H Q E h=>h.1,fun A outer s H args us vs Q E hr e0 ji hv bo=>G1.run A outer s H args us vs Q E hr e0 ji hv ?_⟩
 obtain⟨h1,S,ds,dom,rl,hc⟩:=bo;refine⟨h1,S,ds,dom,rl,?_⟩;have el:ds.length=ps.length:=by rw[rl.len];exact h1
 dsimp only at hc;rw[if_pos el]at hc;exact hc
noncomputable def GS.addA(G:GS)(x:Str)(g:D→List D→Option (D×D)):GS:={ G with fm:=fun y=>if y=x then g else G.fm y }
theorem MOk.defA(h:MOk P w K mg base (dN P w) m G T lv){x:Str}{st:Stmt}{f:Addr}{fd:sq}{N ps mus:List Str}{n:Nat}{ir:IS}(hm:mg x=some (.ref f))(hb:Binds K fd ps [])
  (F:Fun K x x st f fd) (fs:aa N ps (aB st)) (hk:kC (m.cc N (aB st) mus) (aB st)=true) (dg:da n (m.cc N (aB st) mus) (bI st)=some ir) (jh:cP ir=true) :
  MOk P w K mg base (dN P w) m (G.addA x (fun o ds=>if ds.length+1=ps.length then runM G N.length ir o ds else none)) T (lv+1):=by
 have G1:=aLl (P:=P) (w:=w) (mg:=mg) (base:=base) (T:=T) (lv:=lv) F fs (c:=m.cc N (aB st) mus) rfl rfl hk dg jh (fun X a1 a2 a3 a4 a5=>h X _ a1 a2 a3 a4 a5 rfl rfl rfl rfl)
 have F1:FnOk P w K mg base (dN P w) (lv+1) f fd ps (spA K T ps.length (fun o ds=>if ds.length+1=ps.length then runM G N.length ir o ds else none)):=by
  refine⟨fun vs H Q E h=>h.1,fun A outer s H args us vs Q E hr e0 ji hv bo=>G1.run A outer s H args us vs Q E hr e0 ji hv ?_⟩
  obtain⟨h1,S,q,o,ob,rest,ds,d,o',e,h2,h3,h4,h5,h6,h7,h8⟩:=bo;refine⟨h1,S,q,o,ob,rest,ds,d,o',e,h2,h3,h4,h5,h6,?_,h8⟩;have el:ds.length+1=ps.length:=by rw[←h1,e,qy,h6.len]
  dsimp only at h7;rw[if_pos el]at h7;exact h7
 intro X c e1 e2 e3 e4 e5 e6 e7 e8 e9;subst e1 e2 e3 e4 e5;have o:=h X c rfl rfl rfl rfl rfl e6 e7 e8 e9
 refine⟨fun y hy=>?_,fun cn C mm ds r hT hr=>?_,o.cls,o.fld,fun y hy ds d hd=>?_,fun y d hd hc=>o.cst y d hd hc,fun y hy h1 h2=>o.bi y hy h1 h2,o.xcl,o.frs,o.cx0,o.cxf,o.xns,o.xk,o.sub,fun f k x C h1 h2=>let ⟨a,b,c,j,d,e⟩:=o.wd f k x C h1 h2;⟨a,b,c,j,le_succ_of_le d,e⟩,o.dk,fun y o2 ds r hr=>?_⟩
 ·obtain⟨f',bc,ba,a1,a2,a3,a4,a5⟩:=o.fn y hy;exact⟨f',bc,ba,a1,a2,a3,a4,a5.mono (qv _)⟩
 ·obtain⟨f',bc,ba,a1,a2,a3,a4⟩:=o.me cn C mm ds r hT hr;exact⟨f',bc,ba,a1,a2,a3,a4.mono (qv _)⟩
 ·obtain⟨C',f',bc,ba,j,a1,a2⟩:=o.mo y hy ds d hd;exact⟨C',f',bc,ba,j,le_succ_of_le a1,a2⟩
 ·by_cases e:y=x
  ·subst e;simp only[GS.addA,if_true]at hr ⊢;refine⟨f,fd,ps,hm,F.kp,hb,?_,F1⟩
   by_cases el:ds.length+1=ps.length
   ·exact el
   ·rw[if_neg el]at hr;cases hr
  ·simp only[GS.addA,if_neg e]at hr ⊢;obtain⟨f',bc,ba,a1,a2,a3,a4,a5⟩:=o.fm y o2 ds r hr;exact⟨f',bc,ba,a1,a2,a3,a4,a5.mono (qv _)⟩
end
variable {CX:ao}{G:GS}{T:Tx}{lv:Nat}{X:Cx}{c:CC}
noncomputable def aIU:Stmt→Option (List Expr×Expr×Pos)
 |.Assign ts e p=>some (ts,e,p)
 |_=>none
theorem JN{s:Stmt}{x:List Expr×Expr×Pos}(h:aIU s=some x):s=.Assign x.1 x.2.1 x.2.2:=by
 cases s<;>first|exact nomatch (show none=some x from h)|(cases (show some _=some x from h);rfl)
noncomputable def nN(n:Nat)(c:CC):List Stmt→Option (List (Str×IE))
 |[]=>some []
 |st::r=>(aIU st).bind fun q=>(one? q.1).bind fun t=>(FN t).bind fun a=>(nameP a.1).bind fun s=>if bD c s.1 == some 0 then(cE n c q.2.1).bind fun y=>(nN n c r).map fun z=>(a.2.1,y)::z else none
noncomputable def ez(G:GS)(ρ:List Sl):List (Str×IE)→Option (List (Str×D))
 |[]=>some []
 | (f,e)::r=>do some ((f,←ev G e ρ)::(←ez G ρ r))
noncomputable def wX(G:GS)(cn:Str)(n:Nat)(fs:List (Str×IE))(ds:List D):Option Rs:=
 (ez G (.un::(ds.map .im++List.replicate (n-1-ds.length) .un)) fs).map fun gs=>.ok (.obj cn gs)
theorem xF{f:Str}{v:V}:∀{gs:List (Str×V)},f∉gs.map (·.1)→iU f v gs=gs++[(f,v)]
 |[],_=>rfl
 | (g,x)::r,h=>by
  simp only[qb,pj,not_or]at h;unfold iU;rw[if_neg (Ne.symm h.1),xF h.2];rfl
theorem cD.names{K:so}{H:Hp}{S:Addr→Prop}:∀{fs:List (Str×D)} {gs:List (Str×V)},cD K T H S fs gs→gs.map (·.1)=fs.map (·.1)
 |[],gs,h=>by unfold cD at h;subst h;rfl
 | (f,d)::fs,gs,h=>by
  unfold cD at h;obtain⟨x,r,rfl,_,q⟩:=h;simp[cD.names q]
theorem cD.app1{K:so}{H:Hp}{S:Addr→Prop}{f:Str}{d:D}{v:V}(rv:Rep K T H S d v):∀{fs:List (Str×D)} {gs:List (Str×V)},cD K T H S fs gs→cD K T H S (fs++[(f,d)]) (gs++[(f,v)])
 |[],gs,h=>by
  unfold cD at h;subst h;show cD K T H S [(f,d)] [(f,v)]
  unfold cD;exact⟨v,[],rfl,rv,by unfold cD;rfl⟩
 | (g,e)::fs,gs,h=>by
  unfold cD at h;obtain⟨x,r,rfl,p,q⟩:=h;show cD K T H S ((g,e)::(fs++[(f,d)])) _
  unfold cD;exact⟨x,r++[(f,v)],rfl,p,cD.app1 rv q⟩
structure IInv (K:so) (T:Tx) (S:Addr→Prop) (H₀:Hp) (C p dx:Addr) (ρ:List Sl) (fs:List (Str×D)) (σ:L2.St) (H:Hp):Prop where
 re:RE K T H S ρ σ
 sp:S p
 self:σ[0]?=some (some (.ref p))
 at_:∃gs,H p=some (.ins C dx gs)∧cD K T H S fs gs
 keep:∀b o,b≠p→H₀ b=some o→H b=some o
theorem sC(xc:XC CX X c G T lv){S:Addr→Prop}{H₀:Hp}{C p dx:Addr}{ρ:List Sl}{n:Nat}(hc:Cls X.K C):∀{body:List Stmt} {is:List (Str×IE)} {gs fs:List (Str×D)},nN n c body=some is→ez G ρ is=some gs→(∀x∈is,cK X.K C x.1)→((fs++gs).map (·.1)).Nodup→(fs++gs).length<1000 →
  PSs X body (fun D σ H=>IInv X.K T S H₀ C p dx ρ fs σ H∧∀σ' H',IInv X.K T S H₀ C p dx ρ (fs++gs) σ' H'→D.nx σ' H')
 |[],is,gs,fs,h1,h2,_,_,_=>by
  simp only[nN,o7]at h1;subst h1;simp only[ez,o7]at h2;subst h2;exact fun pins s σ H D I ⟨iv,q⟩=>nY pins s σ H D I (q σ H (by rw[q9];exact iv))
 |st::body,is,gs,fs,h1,h2,j1,j0,hlen=>by
  obtain⟨q0,a1,h1⟩:=aE h1;obtain⟨t0,a2,h1⟩:=aE h1;obtain⟨a0,a3,h1⟩:=aE h1;obtain⟨s0,a4,h1⟩:=aE h1;obtain⟨hs,h1⟩:=bE h1;obtain⟨ir,dg,h1⟩:=aE h1;obtain⟨is',his,rfl⟩:=aL h1;have e0:st=.Assign [.Attribute (.Name s0.1 s0.2) a0.2.1 a0.2.2] q0.2.1 q0.2.2:=by rw[JN a1,cM a2,kP a3,dH a4]
  subst e0;obtain⟨_,e,pe⟩:=q0;obtain⟨_,f,pf⟩:=a0;obtain⟨s,ps⟩:=s0;clear a1 a2 a3 a4;simp only[ez,oi,o9,o7]at h2;obtain⟨d,hd,gs',iq,rfl⟩:=h2;have bg:bD c s=some 0:=qd.mp hs
  have ih:=sC xc (S:=S) (H₀:=H₀) (p:=p) (dx:=dx) hc (fs:=fs++[(f,d)]) his iq (fun x hx=>j1 x (oq _ hx)) (by simpa using j0) (by simpa using hlen)
  intro pins s1 σ H DD I ⟨iv,q⟩;refine xH (aBy (gB xc bg) ((dG n).1 X c S ρ e ir xc dg d hd).1 ?_) ih pins s1 σ H DD I ⟨iv.re,fun v H' sm r=>⟨.ref p,iv.self,?_⟩⟩
  ·cases e<;>rfl
  ·obtain⟨ys,hy,rf⟩:=iv.at_;have d3:f∉ys.map (·.1):=by
    rw[rf.names];have:=j0
    simp only[qz,qb]at this;rw[List.nodup_append]at this;intro z;exact this.2.2 f z f (by simp) rfl
   have hl:ys.length<1000:=by
    have e1:=congrArg List.length rf.names
    simp only[og]at e1;rw[e1];simp only[pv,qy]at hlen;omega
   refine⟨p,C,dx,ys,rfl,sm _ _ hy,hc,j1 (f,ir) (by simp),hl,?_⟩
   rw[xF d3];have mv:aI X.K H' (upd H' p (.ins C dx (ys++[(f,v)]))) S S:=fun a na _=>⟨na,fun o e=>by rw[aQ (fun z=>na (by rw[z];exact iv.sp))];exact e⟩
   have rf':cD X.K T H' S fs ys:=cD.gen (aI.same sm) _ _ rf
   refine⟨⟨?_,iv.sp,iv.self,⟨_,aV,cD.gen mv _ _ (cD.app1 r rf')⟩,fun b o hb e=>by rw[aQ hb];exact sm _ _ (iv.keep b o hb e)⟩,fun σ' H2 iv2=>q σ' H2 (by simpa using iv2)⟩
   refine(iv.re.same sm).gen mv (fun a xs z e hm=>⟨z,?_⟩) fun a z=>?_
   ·rw[aQ]
    ·exact e
    ·rintro rfl;rw[sm _ _ hy]at e;cases e;obtain⟨d',hm⟩:=hm
     rcases hm with ⟨_,_,_,z,_⟩|⟨_,_,_,z,_⟩<;>cases z
   ·by_cases e:a=p
    ·exact⟨.ins C dx (ys++[(f,v)]),by rw[e];exact aV⟩
    ·obtain⟨o,e2⟩:=(iv.re.same sm).dom a z;exact⟨o,by rw[aQ e];exact e2⟩
end Z
namespace Z
open PySem PySem.Spec PyProof.Rows L2
variable {CX:ao}{G:GS}{T:Tx}{lv:Nat}
theorem sH{ρ:List Sl}:∀{is:List (Str×IE)} {gs:List (Str×D)},ez G ρ is=some gs→gs.map (·.1)=is.map (·.1)
 |[],gs,h=>by simp only[ez,o7]at h;subst h;rfl
 | (f,e)::r,gs,h=>by
  simp only[ez,oi,o9,o7]at h;obtain⟨d,_,gs',h2,rfl⟩:=h;simp[sH h2]
theorem zO{K:so}{H:Hp}{S:Addr→Prop}{N:List Str}{ds:List D}{p:Addr}{ws:List V}(dom:∀a,S a→∃o,H a=some o)(rl:aD K T H S ds ws)(hN:ws.length+1≤N.length):RE K T H S (.un::(ds.map .im++List.replicate (N.length-1-ds.length) .un)) (L2.start N (.ref p::ws)):=by
 have hl:=rl.len
 refine⟨dom,by simp[L2.start,hl];omega,fun i s e=>?_⟩
 cases i with
 |zero=>cases e;trivial
 |succ i =>
  rw[List.getElem?_cons_succ]at e;unfold L2.start;rw[qb,List.cons_append,List.getElem?_cons_succ]
  by_cases h:i<(ds.map Sl.im).length
  ·rw[rj h,oe]at e;cases h2:ds[i]? with
   |none=>rw[h2]at e;cases e
   |some d =>
    rw[h2]at e;cases e;obtain⟨v,h3,r⟩:=rl.get h2;exact⟨v,by rw[rj (by rw[og]at h ⊢;omega),oe,h3];rfl,r⟩
  ·rw[rn (by omega),getElem?_replicate]at e
   split at e
   ·cases e;trivial
   ·cases e
theorem WO{P:sr}{w:World}{K:so}{mg:t5}{base:Heap}{x qual cn:Str}{C:Addr}{st:Stmt}{f:Addr}{fd:sq}{N ps:List Str}{c:CC}{n:Nat}{is:List (Str×IE)}(F:Fun K x qual st f fd)(fs:aa N ps (aB st))(hN:c.N=N)(jb:c.sc=aB st)(hk:kC c (aB st)=true)
  (dg:nN n c (bI st)=some is) (hT:T.cl cn=some C) (ak:Cls K C) (j1:∀x∈is,cK K C x.1) (j0:(is.map (·.1)).Nodup) (hlen:is.length<1000)
  (go:∀(X:Cx),X.prog=P→X.w=w→X.K=K→X.mg=mg→X.base=base→kj CX X c G T lv):FnOk P w K mg base CX (lv+1) f fd ps (aBd K T C ps.length (wX G cn N.length is)):=by
 obtain⟨oc,od,kV,doc,pm,an,ax,ct,ik,rfl,lk,dh⟩:=F.ex;refine DJ lk dh fs (fun vs H Q E h=>h.1) fun A outer s H vs Q E hr bo=>?_
 obtain⟨hl,p,dx,ws,S,ds,d,rfl,hp,sp,dom,rl,hg,q⟩:=bo;have xc:=zH (E:=E) (P:=P) (w:=w) (mg:=mg) (base:=base) (outer:=outer) (s:=s) (H:=H) (f:=f) (cd:=ax) (qual:=qual) hN jb fs hk hr (go _ rfl rfl rfl rfl rfl)
 unfold wX at hg;simp only[oy]at hg;obtain⟨gs,iq,hg⟩:=hg;cases hg;have hnm:=sH iq
 have gp:ps.length≤N.length:=by have:=congrArg List.length fs.pre;rw[qi]at this;omega
 refine⟨_,PSs.nox (sC xc (S:=S) (H₀:=H) (C:=C) (p:=p) (dx:=dx) (fs:=[]) ak dg iq j1 (by rw[List.nil_append,hnm];exact j0) (by rw[List.nil_append];have:=congrArg List.length hnm;simp only[og]at this;omega)),?_,?_⟩
 ·exact⟨zO dom rl (by simp only[qy]at hl;omega),sp,rfl,⟨[],hp,by unfold cD;rfl⟩,fun b o _ e=>e⟩
 ·intro σ' H' iv;obtain⟨ys,hy,rf⟩:=iv.at_;refine q H' iv.keep fun S' j7=>?_
  unfold Rep;exact⟨p,C,dx,ys,rfl,fun z=>(j7 p z).2 rfl,hT,hy,cD.gen (aI.mk (fun a z=>(j7 a z).1) fun b o _ e=>e) _ _ rf⟩
def zG(K:so)(T:Tx)(mg:t5)(x:Str)(d:D):Prop:=∃u v,mg x=some u∧RelV v u∧∀(H:Hp) (S:Addr→Prop),(∀a o,K.lookup a=some o→H a=none)→(∀a,S a→∃o,H a=some o)→Rep K T H S d v
theorem XX{K:so}{mg:t5}{x:Str}{i:Int}{t:Tok}(h:mg x=some (.int i t)):zG K T mg x (.int i):=⟨_,.int i,h,⟨t,rfl⟩,fun H S _ _=>by unfold Rep;rfl⟩
theorem vX{K:so}{mg:t5}{x:Str}{a:Addr}{ds:List D}{xs:List V}(h:mg x=some (.ref a))(hs:∀H,SqT K H a xs)(hk:∃o,K.lookup a=some o)(hd:∀H S,aD K T H S ds xs):zG K T mg x (.tup ds):=⟨_,.ref a,h,rfl,fun H S h1 h2=>by
 unfold Rep;refine⟨a,xs,rfl,fun z=>?_,hs H,hd H S⟩
 obtain⟨o,e⟩:=h2 a z;obtain⟨u,e2⟩:=hk;rw[h1 a u e2]at e;cases e⟩
noncomputable def G0(csts:List (Str×D))(fl:Str→List Str)(sub:Str→Str→Bool)(xn:Str→Bool)(wd:Str→Str→Option Str)(dks:List (Str×List (Str×D)):=[]):GS:={ fn:=fun _ _=>none,ff:=fun _=>false,me:=fun _ _ _=>none,mf:=fun _ _=>false,mo:=fun _ _=>none,cst:=fun x=>csts.lookup x,sub:=sub,fl:=fl,xn:=xn,wd:=wd,dk:=fun x=>dks.lookup x,fm:=fun _ _ _=>none }
theorem aLc{P:sr}{w:World}{K:so}{mg:t5}{base:Heap}{cls:List Str}{csts:List (Str×D)}{fl:Str→List Str}{sub:Str→Str→Bool}{xn:Str→Bool}{wd:Str→Str→Option Str}{dks:List (Str×List (Str×D))}(hc:∀x d,csts.lookup x=some d→zG K T mg x d)(ak:∀cn C,T.cl cn=some C→Cls K C)(cN:∀cn C f,T.cl cn=some C→(fl cn).contains f=true→cK K C f)
  (hbi:∀x,fK.contains x=true→mg x=none) (hx:∀x C,T.xc x=some C→mg x=some (.ref C)) (hxn:∀k,xn k=true→∃C,T.xc k=some C) (hxk:∀k C,T.xc k=some C→excIn K C jn "ValueError.__new__" = true)
  (hsub:∀k k' C C',T.xc k=some C→T.xc k'=some C'→sub k k'=true→pO K C (.ref C')=true)
  (hwd:∀f k x C,T.xc k=some C→wd f k=some x→∃fa fd ps j,j≤lv∧mg f=some (.ref fa)∧keepIn K (.ref fa)=true∧Binds K fd ps []∧FnM P w K mg base j fa fd ps (spW C x)) (hdk:∀x kvs,dks.lookup x=some kvs→∃a,mg x=some (.ref a)∧∀X:Cx,X.prog=P→X.w=w→X.K=K→aJh X T a kvs:=by intro x kvs h;cases h):MOk P w K mg base (dN P w) ⟨[],cls,csts.map (·.1),[]⟩ (G0 csts fl sub xn wd dks) T lv:=by
 intro X c e1 e2 e3 e4 e5 e6 e7 e8 e9;subst e1 e2 e3 e4 e5;refine⟨fun x hx=>?_,fun cn C m ds r _ hr=>(by cases hr),ak,cN,fun x _ ds d hd=>(by cases hd),fun x d hd _=>hc x d hd,fun x hx _ _=>hbi x hx,hx,fun x hx=>?_,ZP,fun _ _ _ _ _ _ z=>z,hxn,hxk,hsub,hwd,fun x kvs h=>let ⟨a,h1,h2⟩:=hdk x kvs h;⟨a,h1,h2 X rfl rfl rfl⟩,fun x o ds r h=>(by cases h)⟩
 ·rw[e6]at hx;simp at hx
 ·rw[e9]at hx;simp at hx
noncomputable def GS.addC(G:GS)(x:Str)(g:List D→Option Rs):GS:={ G with mo:=fun y=>if y=x then g else G.mo y }
theorem MOk.addC{P:sr}{w:World}{K:so}{mg:t5}{base:Heap}{m:Nm}(h:MOk P w K mg base CX m G T lv){x:Str}{C f:Addr}{fd:sq}{ps:List Str}{g:List D→Option Rs}(hm:mg x=some (.ref C))(M:Mk K C f)(hb:Binds K fd ps [])(hl:∀ds d,g ds=some (.ok d)→ds.length+1=ps.length)
  (F:FnOk P w K mg base CX lv f fd ps (aBd K T C ps.length g)):MOk P w K mg base CX m (G.addC x g) T (lv+1):=by
 intro X c e1 e2 e3 e4 e5 e6 e7 e8 e9;subst e1 e2 e3 e4 e5;have o:=h X c rfl rfl rfl rfl rfl e6 e7 e8 e9
 refine⟨fun y hy=>?_,fun cn C mm ds r hT hr=>?_,o.cls,o.fld,fun y hy ds d hd=>?_,fun y d hd hc=>o.cst y d hd hc,fun y hy h1 h2=>o.bi y hy h1 h2,o.xcl,o.frs,o.cx0,o.cxf,o.xns,o.xk,o.sub,fun f k x C h1 h2=>let ⟨a,b,c,j,d,e⟩:=o.wd f k x C h1 h2;⟨a,b,c,j,le_succ_of_le d,e⟩,o.dk,fun x o2 ds r h1=>let ⟨f,fd,ps,a,b,c,d,e⟩:=o.fm x o2 ds r h1;⟨f,fd,ps,a,b,c,d,e.mono (qv _)⟩⟩
 ·obtain⟨f',bc,ba,a1,a2,a3,a4,a5⟩:=o.fn y hy;exact⟨f',bc,ba,a1,a2,a3,a4,a5.mono (qv _)⟩
 ·obtain⟨f',bc,ba,a1,a2,a3,a4⟩:=o.me cn C mm ds r hT hr;exact⟨f',bc,ba,a1,a2,a3,a4.mono (qv _)⟩
 ·by_cases e:y=x
  ·subst e;simp only[GS.addC,if_true]at hd ⊢;exact⟨C,f,fd,ps,lv,oh _,hm,M,hb,hl ds d hd,F⟩
  ·simp only[GS.addC,if_neg e]at hd ⊢;obtain⟨C',f',bc,ba,j,a1,a2⟩:=o.mo y hy ds d hd;exact⟨C',f',bc,ba,j,le_succ_of_le a1,a2⟩
theorem MOk.defC{P:sr}{w:World}{K:so}{mg:t5}{base:Heap}{m:Nm}(h:MOk P w K mg base CX m G T lv){x qual:Str}{C f:Addr}{st:Stmt}{fd:sq}{N ps mus:List Str}{n:Nat}{is:List (Str×IE)}(hm:mg x=some (.ref C))(M:Mk K C f)(hb:Binds K fd ps [])
  (F:Fun K "__init__" qual st f fd) (fs:aa N ps (aB st)) (hk:kC (m.cc N (aB st) mus) (aB st)=true) (dg:nN n (m.cc N (aB st) mus) (bI st)=some is) (hT:T.cl x=some C) (ak:Cls K C) (j1:∀x∈is,cK K C x.1) (j0:(is.map (·.1)).Nodup) (hlen:is.length<1000) :
  MOk P w K mg base CX m (G.addC x fun ds=>if ds.length+1=ps.length then wX G x N.length is ds else none) T (lv+2):=by
 have G1:=WO (CX:=CX) (P:=P) (w:=w) (mg:=mg) (base:=base) (T:=T) (lv:=lv) F fs (c:=m.cc N (aB st) mus) rfl rfl hk dg hT ak j1 j0 hlen (fun X a1 a2 a3 a4 a5=>h X _ a1 a2 a3 a4 a5 rfl rfl rfl rfl)
 have h':MOk P w K mg base CX m G T (lv+1):=by
  intro X c e1 e2 e3 e4 e5 e6 e7 e8 e9;subst e1 e2 e3 e4 e5;have o:=h X c rfl rfl rfl rfl rfl e6 e7 e8 e9
  refine⟨fun y hy=>?_,fun cn C mm ds r hT hr=>?_,o.cls,o.fld,fun y hy ds d hd=>?_,fun y d hd hc=>o.cst y d hd hc,fun y hy h1 h2=>o.bi y hy h1 h2,o.xcl,o.frs,o.cx0,o.cxf,o.xns,o.xk,o.sub,fun f k x C h1 h2=>let ⟨a,b,c,j,d,e⟩:=o.wd f k x C h1 h2;⟨a,b,c,j,le_succ_of_le d,e⟩,o.dk,fun x o2 ds r h1=>let ⟨f,fd,ps,a,b,c,d,e⟩:=o.fm x o2 ds r h1;⟨f,fd,ps,a,b,c,d,e.mono (qv _)⟩⟩
  ·obtain⟨f',bc,ba,a1,a2,a3,a4,a5⟩:=o.fn y hy;exact⟨f',bc,ba,a1,a2,a3,a4,a5.mono (qv _)⟩
  ·obtain⟨f',bc,ba,a1,a2,a3,a4⟩:=o.me cn C mm ds r hT hr;exact⟨f',bc,ba,a1,a2,a3,a4.mono (qv _)⟩
  ·obtain⟨C',f',bc,ba,j,a1,a2⟩:=o.mo y hy ds d hd;exact⟨C',f',bc,ba,j,le_succ_of_le a1,a2⟩
 refine h'.addC hm M hb (fun ds d hd=>?_) ?_
 ·by_cases e:ds.length+1=ps.length
  ·exact e
  ·rw[if_neg e]at hd;cases hd
 ·refine⟨fun vs H Q E h=>h.1,fun A outer s H args us vs Q E hr e0 ji hv bo=>G1.run A outer s H args us vs Q E hr e0 ji hv ?_⟩
  obtain⟨h1,p,dx,ws,S,ds,d,e1,h2,h3,h4,h5,h6,h7⟩:=bo;refine⟨h1,p,dx,ws,S,ds,d,e1,h2,h3,h4,h5,?_,h7⟩;have el:ds.length+1=ps.length:=by
   by_cases e:ds.length+1=ps.length
   ·exact e
   ·dsimp only at h6;rw[if_neg e]at h6;cases h6
  dsimp only at h6;rw[if_pos el]at h6;exact h6
end Z
namespace Z
open PySem PySem.Spec PyProof.Rows L2
section
variable {X:Cx}
theorem BU:∀{bs:List Bool} {its:List Value},aR (bs.map V.bl) its→its=bs.map Value.bool
 |[],its,h=>by cases h;rfl
 |b::bs,its,h=>by
  cases h with
  |cons h1 h2 =>
   obtain rfl:=h1;rw[BU h2];rfl
noncomputable def eqT:Value→Bool
 |.bool a=>a == true
 |_=>false
theorem aIg:∀bs:List Bool,(bs.map Value.bool).countP eqT=bs.count true
 |[]=>rfl
 |b::bs=>by
  rw[qb,List.countP_cons,List.count_cons,aIg bs];cases b<;>rfl
noncomputable def aGh:V→List V→Hp→VK→Prop:=fun x vs H Q=>∃(l:Addr) (bs:List Bool),x=.ref l∧vs=[.bl true]∧H l=some (.lst (bs.map V.bl))∧Q (.int (bs.count true)) H
theorem aCp:MtM X "list.count" aGh:=by
 intro pins s σ H x vs v us Q I rx rv h;obtain⟨l,bs,rfl,rfl,hH,q⟩:=h;cases rx;obtain⟨u,rfl,ru⟩:=rv.one;obtain rfl:u=.bool true:=ru;obtain⟨z,its,n,r,hl,e⟩:=I.lstM hH;have hi:=BU r
 subst hi;refine call_meets PySem.F.slot_list_count ⟨_,e,rfl⟩ PySem.F.entry_list_count (PySem.F.args_list_count_2 _ _) (SeqAt.list_countAt l (bs.map Value.bool).toArray n none #[] (.bool true) eqT) ⟨e,fun y hy=>?_,?_⟩
 ·have ef:y∈bs.map Value.bool:=by simpa using hy
  obtain⟨b,_,rfl⟩:=qe.mp ef;exact SeqAt.EqAt.bool_bool b true
 ·refine⟨.int (bs.count true),H,I.tok _,⟨s.toks,?_⟩,q⟩;rw[←aIg bs]
end
noncomputable def kK(p:Nat→Pos)(k:Nat)(y:Str):Expr:=.Call (.Name "isinstance" (p k)) [.Name "e" (p (k+1)),.Name y (p (k+2))] [] (p (k+3))
noncomputable def gM:List Str:=["NoSheet","NoFold","NoPlace","Ajar","Severed","Bolted","Loose","NoWord"]
section
variable {X:Cx}{p:Nat→Pos}
def aAO(K:so)(c:Value):TE:=fun σ H Q=>∃a C b,σ[0]?=some (some (.ref a))∧H a=some (.ext (isExc a C))∧XcK K C∧kitOne K (.ref C) c=some b∧Q (.bl b) H
theorem yZ{c:Value}{v:V}(rc:∀u,RelV v u→u=c):eF X (.builtin "isinstance") (fun xs H Q=>∃a C b,xs=[.ref a,v]∧H a=some (.ext (isExc a C))∧XcK X.K C∧kitOne X.K (.ref C) c=some b∧Q (.bl b) H):=by
 rintro pins s σ H xs us Q I r ⟨a,C,b,rfl,hx,F,hk,q⟩;cases r with
 |cons r1 r2 =>
  cases r2 with
  |cons r2 r3 =>
   cases r3;obtain rfl:=r1;have ec:=rc _ r2
   subst ec;obtain⟨h1,_,_⟩:=I.hok a _ hx;exact kia_one (MW F) I.kIn h1 hk (fun z=>by cases z) fun tk=>⟨.bl b,H,I.tok tk,rfl,q⟩
theorem sM:bootBuiltins "isinstance" = some (.builtin "isinstance"):=by decide +kernel
theorem aIi:bootBuiltins "ValueError" = some (.type "ValueError"):=by decide +kernel
structure WX (X:Cx) (cs:Str→Addr):Prop where
 N:X.N=(["e","kinds"]:List Str)
 le:X.env.kindOf "e" = some .local
 lk:X.env.kindOf "kinds" = some .local
 gi:Gl X "isinstance"
 gv:Gl X "ValueError"
 gx:∀y∈gM,Gl X y
 mi:X.mg "isinstance" = none
 mv:X.mg "ValueError" = none
 mx:∀y∈gM,X.mg y=some (.ref (cs y))
variable {cs:Str→Addr}
theorem aGn(W:WX X cs){q:Pos}:PE X (.Name "e" q) (GQ 0):=tO (by rw[W.N];rfl) (.inl W.le) (by decide +kernel) (by decide +kernel)
theorem aGm(W:WX X cs){q:Pos}:PE X (.Name "kinds" q) (GQ 1):=tO (by rw[W.N];rfl) (.inl W.lk) (by decide +kernel) (by decide +kernel)
theorem tP(W:WX X cs){k:Nat}{y:Str}(hy:y∈gM):PE X (kK p k y) (aAO X.K (.ref (cs y))):=by
 have hd:(y == ("__debug__":Str))=false:=by
  have:gM.all (fun y=>!(y == ("__debug__":Str)))=true:=by decide +kernel
  have:=all_eq_true.mp this y hy
  simpa using this
 refine PE.mono (eX (yZ (v:=.ref (cs y)) fun u h=>h) W.gi W.mi sM (bX (aGn W) (bX (UN (v:=.ref (cs y)) (W.gx y hy) (W.mx y hy) rfl hd) hV)) (by decide +kernel) (by decide +kernel) rfl rfl) fun σ H Q hh=>?_
 obtain⟨a,C,b,h1,h2,h3,h4,q⟩:=hh;exact⟨.ref a,h1,a,C,b,rfl,h2,h3,h4,q⟩
theorem aBF(W:WX X cs){k:Nat}:PE X (kK p k "ValueError") (aAO X.K (.type "ValueError")):=by
 refine PE.mono (eX (yZ (v:=.ty "ValueError") fun u h=>h) W.gi W.mi sM (bX (aGn W) (bX (CL (v:=.ty "ValueError") W.gv W.mv aIi rfl (by decide +kernel) (by decide +kernel)) hV)) (by decide +kernel) (by decide +kernel) rfl rfl) fun σ H Q hh=>?_
 obtain⟨a,C,b,h1,h2,h3,h4,q⟩:=hh;exact⟨.ref a,h1,a,C,b,rfl,h2,h3,h4,q⟩
def KH(K:so)(c1 c2 c3 c4:Value):TE:=fun σ H Q=>∃a C b1 b2 b3 b4,σ[0]?=some (some (.ref a))∧H a=some (.ext (isExc a C))∧XcK K C∧kitOne K (.ref C) c1=some b1∧kitOne K (.ref C) c2=some b2∧kitOne K (.ref C) c3=some b3∧kitOne K (.ref C) c4=some b4∧∀l,H l=none→Q (.ref l) (upd H l (.lst ([b1,b2,b3,b4].map V.bl)))
theorem CJ(W:WX X cs){k1 k2 k3 k4:Nat}{q:Pos}{y1 y2 y3 y4:Str}(h1:y1∈gM)(h2:y2∈gM)(h3:y3∈gM)(h4:y4∈gM):PE X (.List [kK p k1 y1,kK p k2 y2,kK p k3 y3,kK p k4 y4] q) (KH X.K (.ref (cs y1)) (.ref (cs y2)) (.ref (cs y3)) (.ref (cs y4))):=
 PE.mono (LK (bX (tP W h1) (bX (tP W h2) (bX (tP W h3) (bX (tP W h4) hV))))) fun σ H Q hh=>by
  obtain⟨a,C,b1,b2,b3,b4,e1,e2,e3,f1,f2,f3,f4,q⟩:=hh;exact⟨a,C,b1,e1,e2,e3,f1,a,C,b2,e1,e2,e3,f2,a,C,b3,e1,e2,e3,f3,a,C,b4,e1,e2,e3,f4,by show 4≤sizeLine;rw[sizeLine_eq];decide,q⟩
theorem nF{i:Nat}{y:Str}(h:gM[i]?=some y):y∈gM:=o8 h
section
variable (p)
abbrev wS1:Stmt:=.Assign [.Name "kinds" (p 0)] (.List [kK p 1 "NoSheet",kK p 5 "NoFold",kK p 9 "NoPlace",kK p 13 "Ajar"] (p 17)) (p 18)
abbrev wS2:Stmt:=.Assign [.Name "kinds" (p 19)] (.BinOp (.Name "kinds" (p 20)) .Add (.List [kK p 21 "Severed",kK p 25 "Bolted",kK p 29 "Loose",kK p 33 "NoWord"] (p 37)) (p 38)) (p 39)
abbrev wC1:Expr:=.Call (.Attribute (.Name "kinds" (p 40)) "count" (p 41)) [.Constant (.bool true) 0 (p 42)] [] (p 43)
abbrev wT3:Expr:=.BoolOp .Or [.Compare (wC1 p) [.NotEq] [.Constant (.int 1) 0 (p 44)] (p 45),.UnaryOp .Not (kK p 46 "ValueError") (p 50)] (p 51)
end
theorem w1(W:WX X cs):PS X (wS1 p) (RU (KH X.K (.ref (cs "NoSheet")) (.ref (cs "NoFold")) (.ref (cs "NoPlace")) (.ref (cs "Ajar"))) (sF 1)):=
 pI (i:=1) (by rw[W.N];decide +kernel) (by rw[W.N];rfl) (.inl W.lk) (CJ W (nF (i:=0) rfl) (nF (i:=1) rfl) (nF (i:=2) rfl) (nF (i:=3) rfl)) rfl (.inr W.lk)
theorem w2(W:WX X cs):PS X (wS2 p) (RU (ic aGj (GQ 1) (KH X.K (.ref (cs "Severed")) (.ref (cs "Bolted")) (.ref (cs "Loose")) (.ref (cs "NoWord")))) (sF 1)):=
 pI (i:=1) (by rw[W.N];decide +kernel) (by rw[W.N];rfl) (.inl W.lk) (ZC LV (aGm W) (CJ W (nF (i:=4) rfl) (nF (i:=5) rfl) (nF (i:=6) rfl) (nF (i:=7) rfl))) rfl (.inr W.lk)
theorem w3(W:WX X cs)(hl1:((p 41).endLine == (p 43).line)=true):PT X (wT3 p) (tOr (KG (ic rNe (tBM X.K "list" aGh (GQ 1) (YS (tC (.bl true)) aAN)) (tC (.int 1)))) (aEz (tB (aAO X.K (.type "ValueError"))))):=
 PW.pt (xD (CF aGo (LN plainAttrs_list PySem.F.slot_list_count PySem.F.type_list_count aCp (aGm W) (bX ZE hV) rfl rfl hl1) LL (aCb _)) (tM (zX (LC (aBF W)))))
end
section
variable {X:Cx}{p:Nat→Pos}{cs:Str→Addr}
end
end Z
namespace Toy
open PySem PySem.Spec PyProof.Rows L2 Z
noncomputable def iG:Str→List Str:=fun c=>if c = "Pile" then ["columns","rows","wide","high","table","folds","severed"] else if c = "Spot" then ["place","turned","lane","slanted","depth"] else if c = "Strand" then ["first","second","here","there","track"] else []
noncomputable def ft:List Str:=(["Pile","Spot","Strand"]:List Str)
noncomputable def csts:List (Str×D):=[("MOST_CELLS",.int 64),("UPRIGHT_SIDES",.tup [.str "west",.str "east"]),("LEVEL_SIDES",.tup [.str "north",.str "south"]),("NEAR_SIDES",.tup [.str "west",.str "north"])]
noncomputable def fe:List Str:=([]:List Str)
noncomputable def aED:Str→Str→Bool:=fun k k'=>fe.contains k&&(k' == "LeafError" || k == k')
noncomputable def wdX:Str→Str→Option Str:=fun _ _=>none
noncomputable def m0:Nm:=⟨[],(["Pile","Spot","Strand","LeafError","NoSheet","NoFold","NoPlace","Severed"]:List Str),csts.map (·.1),[]⟩
noncomputable def g0:GS:=G0 csts iG aED (fun k=>fe.contains k) wdX
abbrev Rd(U:List Str)(m:Nm)(N:List Str)(st:Stmt)(i:IS):Prop:=da 60 (m.cc N (aB st) U) (bI st)=some i
abbrev Ok(U:List Str)(m:Nm)(N:List Str)(st:Stmt):Prop:=kC (m.cc N (aB st) U) (aB st)=true
theorem sK{N P:List Str}{sc:Scope}(a:sc.kind=.function:=by rfl)(b:sc.isCoroutine=false:=by rfl)(c:sc.isGenerator=false:=by rfl)(d:N.Nodup:=by decide +kernel)(e:N.take P.length=P:=by rfl)(f:∀x∈P,sc.names.lookup x=some .local∨sc.names.lookup x=some .cell:=by decide +kernel)(h:∀y∈sc.names,y.2≠.free:=by decide +kernel):aa N P sc:=⟨a,b,c,d,e,f,h⟩
noncomputable def fD(k:Nat)(g:GS)(n:Nat)(i:IS)(ds:List D):Option Rs:=if ds.length=k then aO g n i ds else none
theorem bU{k:Nat}{g:GS}{n:Nat}{i:IS}{ds:List D}(h:ds.length=k):fD k g n i ds=aO g n i ds:=if_pos h
noncomputable def yF:List (Str×IE):=[("columns",.var 1),("rows",.var 2),("wide",.bcall .len (.cons (.ix (.var 3) (.lit (.int 0))) .nil)),("high",.bcall .len (.cons (.var 3) .nil)),("table",.var 3),("folds",.var 4),("severed",.var 5)]
theorem aGf:nN 60 (m0.cc (["self","columns","rows","table","folds","severed"]:List Str) (aB (L2.inClass (top 12) 0)) []) (bI (L2.inClass (top 12) 0))=some yF:=by kernel_rfl
noncomputable def OC(ds:List D):Option Rs:=if ds.length+1=6 then wX g0 "Pile" 6 yF ds else none
noncomputable def g1:GS:=g0.addC "Pile" OC
noncomputable def m1:Nm:=m0
noncomputable def FP:List Str:=(["self","x","y"]:List Str)
abbrev PL:List Str:=FP
theorem aFy:Rd ([]:List Str) m1 FP (L2.inClass (top 12) 1) Pg.uG:=by kernel_rfl
theorem aEM:aa FP PL (aB (L2.inClass (top 12) 1)):=sK
theorem aGz:Ok ([]:List Str) m1 FP (L2.inClass (top 12) 1):=by decide +kernel
noncomputable def kB:=fD 3 g1 3 Pg.uG
theorem aDR{ds:List D}:ds.length=3→kB ds=aO g1 3 Pg.uG ds:=bU
noncomputable def g2:GS:=g1.addM "Pile" "heap" kB true
noncomputable def m2:Nm:=m1.addM "heap" true
noncomputable def pX:List (Str×IE):=[("place",.var 1),("turned",.var 2),("lane",.var 3),("slanted",.var 4),("depth",.var 5)]
theorem aBl:nN 60 (m2.cc (["self","place","turned","lane","slanted","depth"]:List Str) (aB (L2.inClass (top 29) 0)) []) (bI (L2.inClass (top 29) 0))=some pX:=by kernel_rfl
noncomputable def BB(ds:List D):Option Rs:=if ds.length+1=6 then wX g2 "Spot" 6 pX ds else none
noncomputable def g3:GS:=g2.addC "Spot" BB
noncomputable def m3:Nm:=m2
noncomputable def iQ:List Str:=(["self"]:List Str)
abbrev kQ:List Str:=iQ
theorem zW:Rd ([]:List Str) m3 iQ (L2.inClass (top 29) 1) K07.DC:=by kernel_rfl
theorem zR:aa iQ kQ (aB (L2.inClass (top 29) 1)):=sK
theorem AD:Ok ([]:List Str) m3 iQ (L2.inClass (top 29) 1):=by decide +kernel
noncomputable def cJ:=fD 1 g3 1 K07.DC
theorem zI{ds:List D}:ds.length=1→cJ ds=aO g3 1 K07.DC ds:=bU
noncomputable def g4:GS:=g3.addM "Spot" "far_line" cJ false
noncomputable def m4:Nm:=m3.addM "far_line" false
noncomputable def gK:List Str:=(["self"]:List Str)
abbrev jJ:List Str:=gK
theorem xC:Rd ([]:List Str) m4 gK (L2.inClass (top 29) 2) K07.oJ:=by kernel_rfl
theorem wW:aa gK jJ (aB (L2.inClass (top 29) 2)):=sK
theorem xR:Ok ([]:List Str) m4 gK (L2.inClass (top 29) 2):=by decide +kernel
noncomputable def cV:=fD 1 g4 1 K07.oJ
theorem wJ{ds:List D}:ds.length=1→cV ds=aO g4 1 K07.oJ ds:=bU
noncomputable def g5:GS:=g4.addM "Spot" "near_line" cV false
noncomputable def m5:Nm:=m4.addM "near_line" false
noncomputable def fU:List (Str×IE):=[("first",.var 1),("second",.var 2),("here",.var 4),("there",.var 5),("track",.tup (.cons (.var 3) (.cons (.meth (.var 4) "far_line" .nil) (.cons (.fld (.var 4) "lane") .nil))))]
theorem LA:nN 60 (m5.cc (["self","first","second","level","here","there"]:List Str) (aB (L2.inClass (top 30) 0)) []) (bI (L2.inClass (top 30) 0))=some fU:=by kernel_rfl
noncomputable def qF(ds:List D):Option Rs:=if ds.length+1=6 then wX g5 "Strand" 6 fU ds else none
noncomputable def g6:GS:=g5.addC "Strand" qF
noncomputable def m6:Nm:=m5
noncomputable def jZ:List Str:=(["self"]:List Str)
abbrev mY:List Str:=jZ
theorem HB:Rd ([]:List Str) m6 jZ (L2.inClass (top 30) 1) K07.uB:=by kernel_rfl
theorem GW:aa jZ mY (aB (L2.inClass (top 30) 1)):=sK
theorem HP:Ok ([]:List Str) m6 jZ (L2.inClass (top 30) 1):=by decide +kernel
noncomputable def fO:=fD 1 g6 1 K07.uB
theorem GN{ds:List D}:ds.length=1→fO ds=aO g6 1 K07.uB ds:=bU
noncomputable def g7:GS:=g6.addM "Strand" "is_torn" fO false
noncomputable def m7:Nm:=m6.addM "is_torn" false
noncomputable def kA:List Str:=(["self"]:List Str)
abbrev mZ:List Str:=kA
theorem HC:Rd ([]:List Str) m7 kA (L2.inClass (top 30) 2) K07.uH:=by kernel_rfl
theorem GX:aa kA mZ (aB (L2.inClass (top 30) 2)):=sK
theorem HQ:Ok ([]:List Str) m7 kA (L2.inClass (top 30) 2):=by decide +kernel
noncomputable def gZ:=fD 1 g7 1 K07.uH
theorem GO{ds:List D}:ds.length=1→gZ ds=aO g7 1 K07.uH ds:=bU
noncomputable def g8:GS:=g7.addM "Strand" "is_bend" gZ false
noncomputable def m8:Nm:=m7.addM "is_bend" false
noncomputable def FS:List Str:=(["columns","y"]:List Str)
abbrev PU:List Str:=FS
theorem aFE:Rd ([]:List Str) m8 FS (top 14) Pg.iD:=by kernel_rfl
theorem aES:aa FS PU (aB (top 14)):=sK
theorem aGF:Ok ([]:List Str) m8 FS (top 14):=by decide +kernel
noncomputable def DZ:=fD 2 g8 2 Pg.iD
theorem aDX{ds:List D}:ds.length=2→DZ ds=aO g8 2 Pg.iD ds:=bU
noncomputable def g9:GS:=g8.addF "laid_row" DZ false
noncomputable def m9:Nm:=m8.addF "laid_row" false
noncomputable def QS:List Str:=(["columns","rows","table"]:List Str)
noncomputable def PM:List Str:=(["columns","rows"]:List Str)
theorem aFz:Rd ([]:List Str) m9 QS (top 13) Pg.uF:=by kernel_rfl
theorem aEN:aa QS PM (aB (top 13)):=sK
theorem aGA:Ok ([]:List Str) m9 QS (top 13):=by decide +kernel
noncomputable def DU:=fD 2 g9 3 Pg.uF
theorem aDS{ds:List D}:ds.length=2→DU ds=aO g9 3 Pg.uF ds:=bU
noncomputable def g10:GS:=g9.addF "laid" DU false
noncomputable def m10:Nm:=m9.addF "laid" false
noncomputable def FR:List Str:=(["part","k"]:List Str)
abbrev PR:List Str:=FR
theorem aFD:Rd ([]:List Str) m10 FR (top 25) Pg.jS:=by kernel_rfl
theorem aER:aa FR PR (aB (top 25)):=sK
theorem aGE:Ok ([]:List Str) m10 FR (top 25):=by decide +kernel
noncomputable def DY:=fD 2 g10 2 Pg.jS
theorem aDW{ds:List D}:ds.length=2→DY ds=aO g10 2 Pg.jS ds:=bU
noncomputable def ni:GS:=g10.addF "heap_at" DY false
noncomputable def m11:Nm:=m10.addF "heap_at" false
noncomputable def aDz:List Str:=(["moving","staying","over","upper","lower","longer"]:List Str)
noncomputable def aDo:List Str:=(["moving","staying","over"]:List Str)
theorem aKC:Rd ([]:List Str) m11 aDz (top 24) Pg.dE:=by kernel_rfl
theorem aKp:aa aDz aDo (aB (top 24)):=sK
theorem aKU:Ok ([]:List Str) m11 aDz (top 24):=by decide +kernel
noncomputable def XB:=fD 3 ni 6 Pg.dE
theorem aJV{ds:List D}:ds.length=3→XB ds=aO ni 6 Pg.dE ds:=bU
noncomputable def g12:GS:=ni.addF "laid_together" XB false
noncomputable def m12:Nm:=m11.addF "laid_together" false
noncomputable def GD:List Str:=(["heap","side"]:List Str)
abbrev QP:List Str:=GD
theorem aFY:Rd ([]:List Str) m12 GD (top 23) Pg.eS:=by kernel_rfl
theorem aFm:aa GD QP (aB (top 23)):=sK
theorem aGZ:Ok ([]:List Str) m12 GD (top 23):=by decide +kernel
noncomputable def EU:=fD 2 g12 2 Pg.eS
theorem aEs{ds:List D}:ds.length=2→EU ds=aO g12 2 Pg.eS ds:=bU
noncomputable def nh:GS:=g12.addF "turned_heap" EU false
noncomputable def m13:Nm:=m12.addF "turned_heap" false
noncomputable def GC:List Str:=(["part","side"]:List Str)
abbrev QN:List Str:=GC
theorem aFW:Rd ([]:List Str) m13 GC (top 22) Pg.eR:=by kernel_rfl
theorem aFk:aa GC QN (aB (top 22)):=sK
theorem aGX:Ok ([]:List Str) m13 GC (top 22):=by decide +kernel
noncomputable def ES:=fD 2 nh 2 Pg.eR
theorem aEq{ds:List D}:ds.length=2→ES ds=aO nh 2 Pg.eR ds:=bU
noncomputable def kb:GS:=nh.addF "turned_part" ES false
noncomputable def m14:Nm:=m13.addF "turned_part" false
noncomputable def aDw:List Str:=(["strip","side","over","crease","before","behind","outward"]:List Str)
noncomputable def aDk:List Str:=(["strip","side","over","crease"]:List Str)
theorem aKy:Rd ([]:List Str) m14 aDw (top 21) Pg.eD:=by kernel_rfl
theorem aKl:aa aDw aDk (aB (top 21)):=sK
theorem aKQ:Ok ([]:List Str) m14 aDw (top 21):=by decide +kernel
noncomputable def WY:=fD 4 kb 7 Pg.eD
theorem aJR{ds:List D}:ds.length=4→WY ds=aO kb 7 Pg.eD ds:=bU
noncomputable def g15:GS:=kb.addF "folded_strip" WY false
noncomputable def m15:Nm:=m14.addF "folded_strip" false
noncomputable def FU:List Str:=(["table","x"]:List Str)
abbrev PX:List Str:=FU
theorem aFG:Rd ([]:List Str) m15 FU (top 20) Pg.gG:=by kernel_rfl
theorem aEU:aa FU PX (aB (top 20)):=sK
theorem aGH:Ok ([]:List Str) m15 FU (top 20):=by decide +kernel
noncomputable def EA:=fD 2 g15 2 Pg.gG
theorem aDZ{ds:List D}:ds.length=2→EA ds=aO g15 2 Pg.gG ds:=bU
noncomputable def ng:GS:=g15.addF "column_of" EA false
noncomputable def m16:Nm:=m15.addF "column_of" false
noncomputable def FX:List Str:=(["table"]:List Str)
abbrev QE:List Str:=FX
theorem aFN:Rd ([]:List Str) m16 FX (top 19) Pg.fE:=by kernel_rfl
theorem aFb:aa FX QE (aB (top 19)):=sK
theorem aGO:Ok ([]:List Str) m16 FX (top 19):=by decide +kernel
noncomputable def EH:=fD 1 ng 1 Pg.fE
theorem aEg{ds:List D}:ds.length=1→EH ds=aO ng 1 Pg.fE ds:=bU
noncomputable def ka:GS:=ng.addF "transposed" EH false
noncomputable def m17:Nm:=m16.addF "transposed" false
noncomputable def aDv:List Str:=(["table","side","over","crease","strips"]:List Str)
noncomputable def aDj:List Str:=(["table","side","over","crease"]:List Str)
theorem aKx:Rd ([]:List Str) m17 aDv (top 18) Pg.eC:=by kernel_rfl
theorem aKk:aa aDv aDj (aB (top 18)):=sK
theorem aKP:Ok ([]:List Str) m17 aDv (top 18):=by decide +kernel
noncomputable def WW:=fD 4 ka 5 Pg.eC
theorem aJQ{ds:List D}:ds.length=4→WW ds=aO ka 5 Pg.eC ds:=bU
noncomputable def g18:GS:=ka.addF "folded_table" WW false
noncomputable def m18:Nm:=m17.addF "folded_table" false
noncomputable def FY:List Str:=(["pile","side","crease"]:List Str)
abbrev QF:List Str:=FY
theorem aFO:Rd ([]:List Str) m18 FY (top 17) Pg.fG:=by kernel_rfl
theorem aFc:aa FY QF (aB (top 17)):=sK
theorem aGP:Ok ([]:List Str) m18 FY (top 17):=by decide +kernel
noncomputable def EI:=fD 3 g18 3 Pg.fG
theorem aEh{ds:List D}:ds.length=3→EI ds=aO g18 3 Pg.fG ds:=bU
noncomputable def g19:GS:=g18.addF "has_crease" EI false
noncomputable def m19:Nm:=m18.addF "has_crease" false
noncomputable def YL:List Str:=(["pile"]:List Str)
abbrev aDr:List Str:=YL
theorem aKF:Rd ([]:List Str) m19 YL (top 16) Pg.cY:=by kernel_rfl
theorem aKs:aa YL aDr (aB (top 16)):=sK
theorem aKX:Ok ([]:List Str) m19 YL (top 16):=by decide +kernel
noncomputable def XF:=fD 1 g19 1 Pg.cY
theorem aJY{ds:List D}:ds.length=1→XF ds=aO g19 1 Pg.cY ds:=bU
noncomputable def jl:GS:=g19.addF "refuse_severed" XF false
noncomputable def m20:Nm:=m19.addF "refuse_severed" false
noncomputable def QU:List Str:=(["pile","side","over","crease","table","folds"]:List Str)
noncomputable def PQ:List Str:=(["pile","side","over","crease"]:List Str)
theorem aFC:Rd ([]:List Str) m20 QU (top 15) Pg.lH:=by kernel_rfl
theorem aEQ:aa QU PQ (aB (top 15)):=sK
theorem aGD:Ok ([]:List Str) m20 QU (top 15):=by decide +kernel
noncomputable def DX:=fD 4 jl 6 Pg.lH
theorem aDV{ds:List D}:ds.length=4→DX ds=aO jl 6 Pg.lH ds:=bU
noncomputable def g21:GS:=jl.addF "folded" DX false
noncomputable def m21:Nm:=m20.addF "folded" false
noncomputable def QZ:List Str:=(["columns","rows","cells","found","cell"]:List Str)
noncomputable def QG:List Str:=(["columns","rows"]:List Str)
theorem aFP:Rd (["found"]:List Str) m21 QZ (top 27) Pg.fF:=by kernel_rfl
theorem aFd:aa QZ QG (aB (top 27)):=sK
theorem aGQ:Ok (["found"]:List Str) m21 QZ (top 27):=by decide +kernel
noncomputable def EJ:=fD 2 g21 5 Pg.fF
theorem aEi{ds:List D}:ds.length=2→EJ ds=aO g21 5 Pg.fF ds:=bU
noncomputable def g22:GS:=g21.addF "neighbours" EJ false
noncomputable def m22:Nm:=m21.addF "neighbours" false
noncomputable def RC:List Str:=(["cells","heaps","times","heap","told","cell"]:List Str)
noncomputable def QM:List Str:=(["cells","heaps"]:List Str)
theorem aFV:Rd (["times"]:List Str) m22 RC (top 32) K07.lI:=by kernel_rfl
theorem aFj:aa RC QM (aB (top 32)):=sK
theorem aGW:Ok (["times"]:List Str) m22 RC (top 32):=by decide +kernel
noncomputable def ER:=fD 2 g22 6 K07.lI
theorem aEp{ds:List D}:ds.length=2→ER ds=aO g22 6 K07.lI ds:=bU
noncomputable def jk:GS:=g22.addF "astray_cell" ER false
noncomputable def m23:Nm:=m22.addF "astray_cell" false
noncomputable def RF:List Str:=(["columns","rows","wide","heaps","across_upright","across_level","number","heap","x","y","depth","told","found","first","second","level","spots"]:List Str)
noncomputable def QQ:List Str:=(["columns","rows","wide","heaps"]:List Str)
theorem aFZ:Rd (["across_upright","across_level","found"]:List Str) m23 RF (top 33) K07.jQ:=by kernel_rfl
theorem aFn:aa RF QQ (aB (top 33)):=sK
theorem aHa:Ok (["across_upright","across_level","found"]:List Str) m23 RF (top 33):=by decide +kernel
noncomputable def EV:=fD 4 jk 17 K07.jQ
theorem aEt{ds:List D}:ds.length=4→EV ds=aO jk 17 K07.jQ ds:=bU
noncomputable def mG:GS:=jk.addF "all_strands" EV false
noncomputable def m24:Nm:=m23.addF "all_strands" false
noncomputable def RA:List Str:=(["strands","strand"]:List Str)
noncomputable def QI:List Str:=(["strands"]:List Str)
theorem aFR:Rd ([]:List Str) m24 RA (top 34) K07.oG:=by kernel_rfl
theorem aFf:aa RA QI (aB (top 34)):=sK
theorem aGS:Ok ([]:List Str) m24 RA (top 34):=by decide +kernel
noncomputable def EL:=fD 1 mG 2 K07.oG
theorem aEk{ds:List D}:ds.length=1→EL ds=aO mG 2 K07.oG ds:=bU
noncomputable def g25:GS:=mG.addF "torn_joint" EL false
noncomputable def m25:Nm:=m24.addF "torn_joint" false
noncomputable def QV:List Str:=(["bend","spot","least","greatest"]:List Str)
noncomputable def PY:List Str:=(["bend","spot"]:List Str)
theorem aFH:Rd ([]:List Str) m25 QV (top 38) K07.lE:=by kernel_rfl
theorem aEV:aa QV PY (aB (top 38)):=sK
theorem aGI:Ok ([]:List Str) m25 QV (top 38):=by decide +kernel
noncomputable def EB:=fD 2 g25 4 K07.lE
theorem aEa{ds:List D}:ds.length=2→EB ds=aO g25 4 K07.lE ds:=bU
noncomputable def mz:GS:=g25.addF "is_within" EB false
noncomputable def m26:Nm:=m25.addF "is_within" false
noncomputable def FZ:List Str:=(["bend","strand"]:List Str)
abbrev QH:List Str:=FZ
theorem aFQ:Rd ([]:List Str) m26 FZ (top 37) K07.jR:=by kernel_rfl
theorem aFe:aa FZ QH (aB (top 37)):=sK
theorem aGR:Ok ([]:List Str) m26 FZ (top 37):=by decide +kernel
noncomputable def EK:=fD 2 mz 2 K07.jR
theorem aEj{ds:List D}:ds.length=2→EK ds=aO mz 2 K07.jR ds:=bU
noncomputable def g27:GS:=mz.addF "is_pierced" EK false
noncomputable def m27:Nm:=m26.addF "is_pierced" false
noncomputable def aDA:List Str:=(["one","other","beside_here","beside_there"]:List Str)
noncomputable def aDp:List Str:=(["one","other"]:List Str)
theorem aKD:Rd ([]:List Str) m27 aDA (top 39) K07.jV:=by kernel_rfl
theorem aKq:aa aDA aDp (aB (top 39)):=sK
theorem aKV:Ok ([]:List Str) m27 aDA (top 39):=by decide +kernel
noncomputable def XD:=fD 2 g27 4 K07.jV
theorem aJW{ds:List D}:ds.length=2→XD ds=aO g27 4 K07.jV ds:=bU
noncomputable def jj:GS:=g27.addF "bridges_cross" XD false
noncomputable def m28:Nm:=m27.addF "bridges_cross" false
noncomputable def FQ:List Str:=(["one","other"]:List Str)
abbrev PP:List Str:=FQ
theorem aFB:Rd ([]:List Str) m28 FQ (top 36) K07.oM:=by kernel_rfl
theorem aEP:aa FQ PP (aB (top 36)):=sK
theorem aGC:Ok ([]:List Str) m28 FQ (top 36):=by decide +kernel
noncomputable def DW:=fD 2 jj 2 K07.oM
theorem aDU{ds:List D}:ds.length=2→DW ds=aO jj 2 K07.oM ds:=bU
noncomputable def my:GS:=jj.addF "cross" DW false
noncomputable def m29:Nm:=m28.addF "cross" false
noncomputable def aDB:List Str:=(["strands","number","one","other"]:List Str)
noncomputable def aDs:List Str:=(["strands"]:List Str)
theorem aKG:Rd ([]:List Str) m29 aDB (top 35) K07.jT:=by kernel_rfl
theorem aKt:aa aDB aDs (aB (top 35)):=sK
theorem aKY:Ok ([]:List Str) m29 aDB (top 35):=by decide +kernel
noncomputable def XG:=fD 1 my 4 K07.jT
theorem aJZ{ds:List D}:ds.length=1→XG ds=aO my 4 K07.jT ds:=bU
noncomputable def i0:GS:=my.addF "crossed_joints" XG false
noncomputable def m30:Nm:=m29.addF "crossed_joints" false
noncomputable def QT:List Str:=(["columns","rows","wide","high","heaps","astray","strands","torn"]:List Str)
noncomputable def PN:List Str:=(["columns","rows","wide","high","heaps"]:List Str)
theorem aFA:Rd ([]:List Str) m30 QT (top 31) K07.oK:=by kernel_rfl
theorem aEO:aa QT PN (aB (top 31)):=sK
theorem aGB:Ok ([]:List Str) m30 QT (top 31):=by decide +kernel
noncomputable def DV:=fD 5 i0 8 K07.oK
theorem aDT{ds:List D}:ds.length=5→DV ds=aO i0 8 K07.oK ds:=bU
noncomputable def g31:GS:=i0.addF "fault" DV false
noncomputable def m31:Nm:=m30.addF "fault" false
noncomputable def YJ:List Str:=(["script","k"]:List Str)
abbrev aDl:List Str:=YJ
theorem aKz:Rd ([]:List Str) m31 YJ (top 41) Pg.jU:=by kernel_rfl
theorem aKm:aa YJ aDl (aB (top 41)):=sK
theorem aKR:Ok ([]:List Str) m31 YJ (top 41):=by decide +kernel
noncomputable def WZ:=fD 2 g31 2 Pg.jU
theorem aJS{ds:List D}:ds.length=2→WZ ds=aO g31 2 Pg.jU ds:=bU
noncomputable def g32:GS:=g31.addF "_law_cell_at" WZ false
noncomputable def m32:Nm:=m31.addF "_law_cell_at" false
noncomputable def GA:List Str:=(["found"]:List Str)
abbrev QJ:List Str:=GA
theorem aFS:Rd ([]:List Str) m32 GA (top 42) Pg.oE:=by kernel_rfl
theorem aFg:aa GA QJ (aB (top 42)):=sK
theorem aGT:Ok ([]:List Str) m32 GA (top 42):=by decide +kernel
noncomputable def yJ:=fD 1 g32 1 Pg.oE
theorem aEm{ds:List D}:ds.length=1→yJ ds=aO g32 1 Pg.oE ds:=bU
noncomputable def g33:GS:=g32.addF "_law_whole" yJ false
noncomputable def m33:Nm:=m32.addF "_law_whole" false
noncomputable def aDy:List Str:=(["cell","way","more"]:List Str)
noncomputable def aDn:List Str:=(["cell"]:List Str)
theorem aKB:Rd ([]:List Str) m33 aDy (top 43) K18.eI:=by kernel_rfl
theorem aKo:aa aDy aDn (aB (top 43)):=sK
theorem aKT:Ok ([]:List Str) m33 aDy (top 43):=by decide +kernel
noncomputable def aCN:=fD 1 g33 3 K18.eI
theorem aJU{ds:List D}:ds.length=1→aCN ds=aO g33 3 K18.eI ds:=bU
noncomputable def mw:GS:=g33.addF "_law_sheet_by" aCN false
noncomputable def m34:Nm:=m33.addF "_law_sheet_by" false
noncomputable def aDx:List Str:=(["cell","wide","high","level","extent","sides"]:List Str)
noncomputable def aDm:List Str:=(["cell","wide","high"]:List Str)
theorem aKA:Rd ([]:List Str) m34 aDx (top 44) Pg.gX:=by kernel_rfl
theorem aKn:aa aDx aDm (aB (top 44)):=sK
theorem aKS:Ok ([]:List Str) m34 aDx (top 44):=by decide +kernel
noncomputable def XA:=fD 3 mw 6 Pg.gX
theorem aJT{ds:List D}:ds.length=3→XA ds=aO mw 6 Pg.gX ds:=bU
noncomputable def jD:GS:=mw.addF "_law_fold_by" XA false
noncomputable def m35:Nm:=m34.addF "_law_fold_by" false
noncomputable def QW:List Str:=(["seats_of","found","x","y","layer","one"]:List Str)
noncomputable def PZ:List Str:=(["seats_of","found","x","y"]:List Str)
theorem aFI:Rd (["seats_of"]:List Str) m35 QW (top 45) K06.pY:=by kernel_rfl
theorem aEW:aa QW PZ (aB (top 45)):=sK
theorem aGJ:Ok (["seats_of"]:List Str) m35 QW (top 45):=by decide +kernel
noncomputable def EC(o:D)(ds:List D):Option (D×D):=if ds.length+1=4 then runM jD 6 K06.pY o ds else none
theorem aEb{o:D}{ds:List D}(h:ds.length+1=4):EC o ds=runM jD 6 K06.pY o ds:=if_pos h
noncomputable def iz:GS:=jD.addA "_law_fill" EC
noncomputable def m36:Nm:=m35
noncomputable def QY:List Str:=(["pile","out","y","x","found","one"]:List Str)
noncomputable def QD:List Str:=(["pile"]:List Str)
theorem aFM:Rd (["out"]:List Str) m36 QY (top 46) K06.oH:=by kernel_rfl
theorem aFa:aa QY QD (aB (top 46)):=sK
theorem aGN:Ok (["out"]:List Str) m36 QY (top 46):=by decide +kernel
noncomputable def EG:=fD 1 iz 6 K06.oH
theorem aEf{ds:List D}:ds.length=1→EG ds=aO iz 6 K06.oH ds:=bU
noncomputable def g37:GS:=iz.addF "_law_seats" EG false
noncomputable def m37:Nm:=m36.addF "_law_seats" false
noncomputable def QX:List Str:=(["columns","rows","out","k"]:List Str)
noncomputable def QB:List Str:=(["columns","rows"]:List Str)
theorem aFK:Rd (["out"]:List Str) m37 QX (top 47) K06.uC:=by kernel_rfl
theorem aEY:aa QX QB (aB (top 47)):=sK
theorem aGL:Ok (["out"]:List Str) m37 QX (top 47):=by decide +kernel
noncomputable def EE:=fD 2 g37 4 K06.uC
theorem aEd{ds:List D}:ds.length=2→EE ds=aO g37 4 K06.uC ds:=bU
noncomputable def g38:GS:=g37.addF "_law_near" EE false
noncomputable def m38:Nm:=m37.addF "_law_near" false
noncomputable def FT:List Str:=(["one","level"]:List Str)
abbrev PV:List Str:=FT
theorem aFF:Rd ([]:List Str) m38 FT (top 48) K06.uE:=by kernel_rfl
theorem aET:aa FT PV (aB (top 48)):=sK
theorem aGG:Ok ([]:List Str) m38 FT (top 48):=by decide +kernel
noncomputable def yI:=fD 2 g38 2 K06.uE
theorem aDY{ds:List D}:ds.length=2→yI ds=aO g38 2 K06.uE ds:=bU
noncomputable def g39:GS:=g38.addF "_law_line" yI false
noncomputable def m39:Nm:=m38.addF "_law_line" false
noncomputable def YK:List Str:=(["one","level"]:List Str)
abbrev aDq:List Str:=YK
theorem aKE:Rd ([]:List Str) m39 YK (top 49) K06.uI:=by kernel_rfl
theorem aKr:aa YK aDq (aB (top 49)):=sK
theorem aKW:Ok ([]:List Str) m39 YK (top 49):=by decide +kernel
noncomputable def XE:=fD 2 g39 2 K06.uI
theorem aJX{ds:List D}:ds.length=2→XE ds=aO g39 2 K06.uI ds:=bU
noncomputable def j9:GS:=g39.addF "_law_back_line" XE false
noncomputable def m40:Nm:=m39.addF "_law_back_line" false
noncomputable def FV:List Str:=(["one","other","level"]:List Str)
abbrev QA:List Str:=FV
theorem aFJ:Rd ([]:List Str) m40 FV (top 50) K06.uD:=by kernel_rfl
theorem aEX:aa FV QA (aB (top 50)):=sK
theorem aGK:Ok ([]:List Str) m40 FV (top 50):=by decide +kernel
noncomputable def ED:=fD 3 j9 3 K06.uD
theorem aEc{ds:List D}:ds.length=3→ED ds=aO j9 3 K06.uD ds:=bU
noncomputable def g41:GS:=j9.addF "_law_meet" ED false
noncomputable def m41:Nm:=m40.addF "_law_meet" false
noncomputable def RB:List Str:=(["one","other","level","line","along","low","high"]:List Str)
noncomputable def QK:List Str:=(["one","other","level","line"]:List Str)
theorem aFT:Rd ([]:List Str) m41 RB (top 51) K07.oI:=by kernel_rfl
theorem aFh:aa RB QK (aB (top 51)):=sK
theorem aGU:Ok ([]:List Str) m41 RB (top 51):=by decide +kernel
noncomputable def EM:=fD 4 g41 7 K07.oI
theorem aEn{ds:List D}:ds.length=4→EM ds=aO g41 7 K07.oI ds:=bU
noncomputable def g42:GS:=g41.addF "_law_parts" EM false
noncomputable def m42:Nm:=m41.addF "_law_parts" false
noncomputable def GB:List Str:=(["layer","bend"]:List Str)
abbrev QL:List Str:=GB
theorem aFU:Rd ([]:List Str) m42 GB (top 52) K07.lG:=by kernel_rfl
theorem aFi:aa GB QL (aB (top 52)):=sK
theorem aGV:Ok ([]:List Str) m42 GB (top 52):=by decide +kernel
noncomputable def EO:=fD 2 g42 2 K07.lG
theorem aEo{ds:List D}:ds.length=2→EO ds=aO g42 2 K07.lG ds:=bU
noncomputable def mr:GS:=g42.addF "_law_inside" EO false
noncomputable def m43:Nm:=m42.addF "_law_inside" false
noncomputable def FW:List Str:=(["low","other"]:List Str)
abbrev QC:List Str:=FW
theorem aFL:Rd ([]:List Str) m43 FW (top 53) K07.oO:=by kernel_rfl
theorem aEZ:aa FW QC (aB (top 53)):=sK
theorem aGM:Ok ([]:List Str) m43 FW (top 53):=by decide +kernel
noncomputable def EF:=fD 2 mr 2 K07.oO
theorem aEe{ds:List D}:ds.length=2→EF ds=aO mr 2 K07.oO ds:=bU
noncomputable def mn:GS:=mr.addF "_law_bends" EF false
noncomputable def m44:Nm:=m43.addF "_law_bends" false
noncomputable def GE:List Str:=(["one","other"]:List Str)
abbrev QR:List Str:=GE
theorem aGa:Rd ([]:List Str) m44 GE (top 54) K07.fM:=by kernel_rfl
theorem aFo:aa GE QR (aB (top 54)):=sK
theorem aHb:Ok ([]:List Str) m44 GE (top 54):=by decide +kernel
noncomputable def EW:=fD 2 mn 2 K07.fM
theorem aEu{ds:List D}:ds.length=2→EW ds=aO mn 2 K07.fM ds:=bU
noncomputable def iy:GS:=mn.addF "_law_through" EW false
noncomputable def m45:Nm:=m44.addF "_law_through" false
noncomputable def RD:List Str:=(["spots","columns","rows","out","first","second","level","line","place"]:List Str)
noncomputable def QO:List Str:=(["spots","columns","rows"]:List Str)
theorem aFX:Rd (["out"]:List Str) m45 RD (top 55) K07.lF:=by kernel_rfl
theorem aFl:aa RD QO (aB (top 55)):=sK
theorem aGY:Ok (["out"]:List Str) m45 RD (top 55):=by decide +kernel
noncomputable def ET:=fD 3 iy 9 K07.lF
theorem aEr{ds:List D}:ds.length=3→ET ds=aO iy 9 K07.lF ds:=bU
noncomputable def di:GS:=iy.addF "_law_places" ET false
noncomputable def ll:Nm:=m45.addF "_law_places" false
noncomputable def FO:List Str:=(["script","columns","rows","pile","cell","fold","spots","places","k","other","heaps"]:List Str)
noncomputable def sS:List Str:=(["script"]:List Str)
theorem aFx:Rd ([]:List Str) ll FO (top 56) K07.DB:=by kernel_rfl
theorem aEL:aa FO sS (aB (top 56)):=sK
theorem aGy:Ok ([]:List Str) ll FO (top 56):=by decide +kernel
noncomputable def yH:=fD 1 di 11 K07.DB
theorem YO{ds:List D}:ds.length=1→yH ds=aO di 11 K07.DB ds:=bU
noncomputable def tx(C cs:Str→Addr):Tx:=⟨fun x=>if ft.contains x=true then some (C x) else none,fun x=>if fe.contains x=true then some (cs x) else none⟩
theorem RP{C cs:Str→Addr}{x:Str}(h:ft.contains x=true):(tx C cs).cl x=some (C x):=if_pos h
theorem YQ{C cs:Str→Addr}{cn:Str}{C':Addr}(h:(tx C cs).cl cn=some C'):ft.contains cn=true∧C'=C cn:=by
 unfold tx at h;dsimp only at h;split at h
 ·rename_i e;cases h;exact⟨e,rfl⟩
 ·cases h
theorem BW{C cs:Str→Addr}{k:Str}{C':Addr}(h:(tx C cs).xc k=some C'):fe.contains k=true∧C'=cs k:=by
 unfold tx at h;dsimp only at h;split at h
 ·rename_i e;cases h;exact⟨e,rfl⟩
 ·cases h
structure Df (K:so) (mg:t5) (x:Str) (st:Stmt) (ps:List Str) (f:Addr) (fd:sq):Prop where
 fn:Fun K x x st f fd
 at_:mg x=some (.ref f)
 bd:Binds K fd ps []
structure Mt (K:so) (C:Addr) (x qual:Str) (st:Stmt) (ps:List Str) (f:Addr) (fd:sq):Prop where
 fn:Fun K x qual st f fd
 at_:fu K C x f
 bd:Binds K fd ps []
section
variable {P:sr}{w:World}{K:so}{mg:t5}{base:Heap}{C cs:Str→Addr}
abbrev MO(P:sr)(w:World)(K:so)(mg:t5)(base:Heap)(C cs:Str→Addr)(m:Nm)(g:GS)(k:Nat):Prop:=MOk P w K mg base (dN P w) m g (tx C cs) k
theorem aJP:∀g k x C',(tx C cs).xc k=some C'→wdX g k=some x→∃fa fd ps j,j≤1∧mg g=some (.ref fa)∧keepIn K (.ref fa)=true∧Binds K fd ps []∧FnM P w K mg base j fa fd ps (spW C' x):=by
 intro g k x C' h1 h2;exact nomatch (show none=some x from h2)
theorem mk0(hc:∀x d,csts.lookup x=some d→zG K (tx C cs) mg x d)(ak:∀cn,ft.contains cn=true→Cls K (C cn))(cN:∀cn f,ft.contains cn=true→(iG cn).contains f=true→cK K (C cn) f)(hbi:∀x,fK.contains x=true→mg x=none)(hx:∀k,fe.contains k=true→mg k=some (.ref (cs k)))(hxk:∀k,fe.contains k=true→excIn K (cs k) jn "ValueError.__new__" = true)
  (hsub:∀k k',fe.contains k=true→fe.contains k'=true→aED k k'=true→pO K (cs k) (.ref (cs k'))=true) (hwd:∀g k x C',(tx C cs).xc k=some C'→wdX g k=some x→∃fa fd ps j,j≤1∧mg g=some (.ref fa)∧keepIn K (.ref fa)=true∧Binds K fd ps []∧FnM P w K mg base j fa fd ps (spW C' x)):MO P w K mg base C cs m0 g0 1:=
 aLc hc (fun cn C' h=>by obtain⟨a,rfl⟩:=YQ h;exact ak cn a) (fun cn C' f h hf=>by obtain⟨a,rfl⟩:=YQ h;exact cN cn f a hf) hbi (fun k C' h=>by obtain⟨h1,rfl⟩:=BW h;exact hx k h1) (fun k h=>⟨cs k,if_pos h⟩) (fun k C' h=>by obtain⟨h1,rfl⟩:=BW h;exact hxk k h1)
  (fun k k' C1 C2 a b h=>by obtain⟨h1,rfl⟩:=BW a;obtain⟨h2,rfl⟩:=BW b;exact hsub k k' h1 h2 h) hwd
theorem aFp:aa (["self","columns","rows","table","folds","severed"]:List Str) (["self","columns","rows","table","folds","severed"]:List Str) (aB (L2.inClass (top 12) 0)):=sK
theorem mk1{f:Addr}{fd:sq}(h:MO P w K mg base C cs m0 g0 1)(hm:mg "Pile" = some (.ref (C "Pile")))(M:Mk K (C "Pile") f)(hb:Binds K fd (["self","columns","rows","table","folds","severed"]:List Str) [])(F:Fun K "__init__" "Pile.__init__" (L2.inClass (top 12) 0) f fd)(ak:Cls K (C "Pile"))(cN:∀f,(iG "Pile").contains f=true→cK K (C "Pile") f):MO P w K mg base C cs m1 g1 3:=
 h.defC hm M hb F aFp (by decide +kernel) aGf (RP (by decide +kernel)) ak (fun x hx=>cN x.1 (by
  have:yF.all (fun x=>(iG "Pile").contains x.1)=true:=by decide +kernel
  exact all_eq_true.mp this x hx)) (by decide +kernel) (by decide)
theorem k9{fr:Bool}{m:Nm}{g:GS}{k:Nat}{x q:Str}{st:Stmt}{N ps U:List Str}{i:IS}{f:Addr}{fd:sq}(e:∀cn ds,g.me cn x ds=none)(s:aa N ps (aB st))(o:Ok U m N st)(r:Rd U m N st i)(h:MO P w K mg base C cs m g k){cn0:Str}(M:Mt K (C cn0) x q st ps f fd)(b1:ft.contains cn0=true:=by decide +kernel)(a1:m.fns.contains x=false:=by decide +kernel)(a3:m.fresh.contains x=false:=by decide +kernel)(a4:fr=true→gY i=true:=by first|(intro z;cases z;done)|decide +kernel):MO P w K mg base C cs (m.addM x fr) (g.addM cn0 x (fD ps.length g N.length i) fr) (k+1):=h.defM a1 e a3 (RP b1) M.at_ M.bd M.fn s o r a4
theorem aHY:∀cn ds,g1.me cn "heap" ds=none:=fun cn ds=>by
 rfl
theorem aBg:aa (["self","place","turned","lane","slanted","depth"]:List Str) (["self","place","turned","lane","slanted","depth"]:List Str) (aB (L2.inClass (top 29) 0)):=sK
theorem VY{f:Addr}{fd:sq}(h:MO P w K mg base C cs m2 g2 4)(hm:mg "Spot" = some (.ref (C "Spot")))(M:Mk K (C "Spot") f)(hb:Binds K fd (["self","place","turned","lane","slanted","depth"]:List Str) [])(F:Fun K "__init__" "Spot.__init__" (L2.inClass (top 29) 0) f fd)(ak:Cls K (C "Spot"))(cN:∀f,(iG "Spot").contains f=true→cK K (C "Spot") f):MO P w K mg base C cs m3 g3 6:=
 h.defC hm M hb F aBg (by decide +kernel) aBl (RP (by decide +kernel)) ak (fun x hx=>cN x.1 (by
  have:pX.all (fun x=>(iG "Spot").contains x.1)=true:=by decide +kernel
  exact all_eq_true.mp this x hx)) (by decide +kernel) (by decide)
theorem BE:∀cn ds,g3.me cn "far_line" ds=none:=fun cn ds=>by
 show (if cn = "Pile"∧("far_line":Str) = "heap" then kB else fun _=>none) ds=none
 rw[if_neg (fun z=>absurd z.2 (by decide +kernel))]
theorem yO:∀cn ds,g4.me cn "near_line" ds=none:=fun cn ds=>by
 show (if cn = "Spot"∧("near_line":Str) = "far_line" then cJ else if cn = "Pile"∧("near_line":Str) = "heap" then kB else fun _=>none) ds=none
 rw[if_neg (fun z=>absurd z.2 (by decide +kernel)),if_neg (fun z=>absurd z.2 (by decide +kernel))]
theorem KR:aa (["self","first","second","level","here","there"]:List Str) (["self","first","second","level","here","there"]:List Str) (aB (L2.inClass (top 30) 0)):=sK
theorem HX{f:Addr}{fd:sq}(h:MO P w K mg base C cs m5 g5 8)(hm:mg "Strand" = some (.ref (C "Strand")))(M:Mk K (C "Strand") f)(hb:Binds K fd (["self","first","second","level","here","there"]:List Str) [])(F:Fun K "__init__" "Strand.__init__" (L2.inClass (top 30) 0) f fd)(ak:Cls K (C "Strand"))(cN:∀f,(iG "Strand").contains f=true→cK K (C "Strand") f):MO P w K mg base C cs m6 g6 10:=
 h.defC hm M hb F KR (by decide +kernel) LA (RP (by decide +kernel)) ak (fun x hx=>cN x.1 (by
  have:fU.all (fun x=>(iG "Strand").contains x.1)=true:=by decide +kernel
  exact all_eq_true.mp this x hx)) (by decide +kernel) (by decide)
theorem JA:∀cn ds,g6.me cn "is_torn" ds=none:=fun cn ds=>by
 show (if cn = "Spot"∧("is_torn":Str) = "near_line" then cV else if cn = "Spot"∧("is_torn":Str) = "far_line" then cJ else if cn = "Pile"∧("is_torn":Str) = "heap" then kB else fun _=>none) ds=none
 rw[if_neg (fun z=>absurd z.2 (by decide +kernel)),if_neg (fun z=>absurd z.2 (by decide +kernel)),if_neg (fun z=>absurd z.2 (by decide +kernel))]
theorem JB:∀cn ds,g7.me cn "is_bend" ds=none:=fun cn ds=>by
 show (if cn = "Strand"∧("is_bend":Str) = "is_torn" then fO else if cn = "Spot"∧("is_bend":Str) = "near_line" then cV else if cn = "Spot"∧("is_bend":Str) = "far_line" then cJ else if cn = "Pile"∧("is_bend":Str) = "heap" then kB else fun _=>none) ds=none
 rw[if_neg (fun z=>absurd z.2 (by decide +kernel)),if_neg (fun z=>absurd z.2 (by decide +kernel)),if_neg (fun z=>absurd z.2 (by decide +kernel)),if_neg (fun z=>absurd z.2 (by decide +kernel))]
theorem aHF{x:Str}(h_heap:¬x = "heap")(h_far_line:¬x = "far_line")(h_near_line:¬x = "near_line")(h_is_torn:¬x = "is_torn")(h_is_bend:¬x = "is_bend"):∀cn ds,g8.me cn x ds=none:=fun cn ds=>by
 show (if cn = "Strand"∧x = "is_bend" then gZ else if cn = "Strand"∧x = "is_torn" then fO else if cn = "Spot"∧x = "near_line" then cV else if cn = "Spot"∧x = "far_line" then cJ else if cn = "Pile"∧x = "heap" then kB else fun _=>none) ds=none
 rw[if_neg fun z=>h_is_bend z.2,if_neg fun z=>h_is_torn z.2,if_neg fun z=>h_near_line z.2,if_neg fun z=>h_far_line z.2,if_neg fun z=>h_heap z.2]
theorem az{m:Nm}{g:GS}{k:Nat}{x:Str}{st:Stmt}{N ps U:List Str}{i:IS}{f:Addr}{fd:sq}(s:aa N ps (aB st))(o:Ok U m N st)(r:Rd U m N st i)(h:MO P w K mg base C cs m g k)(M:Df K mg x st ps f fd)(a1:m.fns.contains x=false:=by decide +kernel)(a2:∀cn ds,g.me cn x ds=none:=by exact aHF (by decide +kernel) (by decide +kernel) (by decide +kernel) (by decide +kernel) (by decide +kernel))(a3:m.fresh.contains x=false:=by decide +kernel)(a4:false=true→gY i=true:=by first|(intro z;cases z;done)|decide +kernel):MO P w K mg base C cs (m.addF x false) (g.addF x (fD ps.length g N.length i) false) (k+1):=h.defF a1 a2 a3 M.at_ M.bd M.fn s o r a4
theorem mkA{m:Nm}{g:GS}{k:Nat}{x:Str}{st:Stmt}{N ps U:List Str}{i:IS}{f:Addr}{fd:sq}(s:aa N ps (aB st))(o:Ok U m N st)(r:Rd U m N st i)(h:MO P w K mg base C cs m g k)(M:Df K mg x st ps f fd)(a1:cP i=true:=by decide +kernel):MO P w K mg base C cs m (g.addA x fun o ds=>if ds.length+1=ps.length then runM g N.length i o ds else none) (k+1):=h.defA M.at_ M.bd M.fn s o r a1
theorem aCq{f:Addr}{fd:sq}(h:MO P w K mg base C cs ll di 50)(M:Df K mg "law" (top 56) sS f fd):FnOk P w K mg base (dN P w) 51 f fd sS (fv K (tx C cs) 1 yH false):=
 ((aCH (fr:=false) (n:=60) (c:=ll.cc FO (aB (top 56)) ([]:List Str)) M.fn aEL rfl rfl aGy aFx (fun z=>by cases z) (fun X a1 a2 a3 a4 a5=>h X _ a1 a2 a3 a4 a5 rfl rfl rfl rfl)).imp fun vs H Q E ⟨h1,S,ds,dom,rl,hc⟩=>⟨h1,S,ds,dom,rl,by rw[YO (by rw[rl.len];exact h1)]at hc;exact hc⟩)
end
theorem xO:g6.me "Spot" "far_line" = cJ:=by kernel_rfl
theorem tR:g6.me "Spot" "near_line" = cV:=by kernel_rfl
theorem aBm:g9.fn "laid_row" = DZ:=by kernel_rfl
theorem TZ:ni.fn "heap_at" = DY:=by kernel_rfl
theorem TY:nh.fn "turned_heap" = EU:=by kernel_rfl
theorem aBw:kb.fn "laid_together" = XB:=by kernel_rfl
theorem TX:kb.fn "turned_part" = ES:=by kernel_rfl
theorem TV:ng.fn "column_of" = EA:=by kernel_rfl
theorem aBv:ka.fn "folded_strip" = WY:=by kernel_rfl
theorem TR:ka.fn "transposed" = EH:=by kernel_rfl
theorem aBt:jl.fn "folded_table" = WW:=by kernel_rfl
theorem TQ:jl.fn "has_crease" = EI:=by kernel_rfl
theorem aBu:jl.fn "refuse_severed" = XF:=by kernel_rfl
theorem TN:jk.fn "neighbours" = EJ:=by kernel_rfl
theorem OV:jk.mo "Spot" = BB:=by kernel_rfl
theorem BJ:jk.mo "Strand" = qF:=by kernel_rfl
theorem xQ:mG.me "Strand" "is_torn" = fO:=by kernel_rfl
theorem TM:mz.fn "is_within" = EB:=by kernel_rfl
theorem aBs:jj.fn "bridges_cross" = XD:=by kernel_rfl
theorem TL:jj.fn "is_pierced" = EK:=by kernel_rfl
theorem xP:jj.me "Strand" "is_bend" = gZ:=by kernel_rfl
theorem TK:my.fn "cross" = DW:=by kernel_rfl
theorem TJ:i0.fn "all_strands" = EV:=by kernel_rfl
theorem TH:i0.fn "astray_cell" = ER:=by kernel_rfl
theorem aBr:i0.fn "crossed_joints" = XG:=by kernel_rfl
theorem TF:i0.fn "torn_joint" = EL:=by kernel_rfl
theorem TC:jD.fn "_law_whole" = yJ:=by kernel_rfl
theorem TB:iz.fn "_law_whole" = yJ:=by kernel_rfl
theorem pH:iz.fm "_law_fill" = EC:=by kernel_rfl
theorem UT:iz.me "Pile" "heap" = kB:=by kernel_rfl
theorem aBq:j9.fn "_law_back_line" = XE:=by kernel_rfl
theorem SZ:j9.fn "_law_line" = yI:=by kernel_rfl
theorem SY:mr.fn "_law_inside" = EO:=by kernel_rfl
theorem SX:mn.fn "_law_bends" = EF:=by kernel_rfl
theorem SS:iy.fn "_law_line" = yI:=by kernel_rfl
theorem SU:iy.fn "_law_meet" = ED:=by kernel_rfl
theorem SV:iy.fn "_law_near" = EE:=by kernel_rfl
theorem SW:iy.fn "_law_parts" = EM:=by kernel_rfl
theorem aBn:di.fn "_law_cell_at" = WZ:=by kernel_rfl
theorem aBo:di.fn "_law_fold_by" = XA:=by kernel_rfl
theorem SQ:di.fn "_law_places" = ET:=by kernel_rfl
theorem SO:di.fn "_law_seats" = EG:=by kernel_rfl
theorem aBp:di.fn "_law_sheet_by" = aCN:=by kernel_rfl
theorem SR:di.fn "_law_through" = EW:=by kernel_rfl
theorem SM:di.fn "fault" = DV:=by kernel_rfl
theorem SN:di.fn "folded" = DX:=by kernel_rfl
theorem SL:di.fn "laid" = DU:=by kernel_rfl
theorem US:di.me "Pile" "heap" = kB:=by kernel_rfl
end Toy
namespace Toy
open PySem Z Z.Pg
theorem kc(G:GS)(h:G.fl=iG):G.fl "Pile" = de:=by rw[h];rfl
theorem mo_(c r:Int)(T row:List D)(F S:List D)(h:T[0]?=some (.lst row)):OC [.int c,.int r,.lst T,.tup F,.tup S]=some (.ok (cG c r row.length T.length T F S)):=by
 show wX g0 "Pile" 6 yF _=_
 unfold wX yF;have e:atI T 0=some (.lst row):=dM (k:=0) h
 show Option.map _ (ez g0 [.un,.im (.int c),.im (.int r),.im (.lst T),.im (.tup F),.im (.tup S)] _)=_
 simp only[ez,oi];simp only[zz,yy,aA,aC,e];rfl
theorem YN{c r w h:Nat}{T:Table}{F S:List D}{x y:Nat}(R:Rect T w h)(hx:x<w)(hy:y<h):kB [bP c r w h T F S,.int x,.int y]=some (.ok (hE ((T.getD y []).getD x []))):=by
 rw[aDR rfl];have ef:y<T.length:=by rw[R.len];exact hy
 have hr:(T.getD y []).length=w:=R.row _ (by rw[o6,oa ef];exact sh ef)
 refine WN (kc _ rfl) (row:=(T.getD y []).map hE) (by omega) (by omega) ?_ ?_
 ·rw[oe,o6,oa ef];rfl
 ·rw[oe,o6 (l:=T.getD y []),oa (by omega)];rfl
theorem mc_:g9.cst "MOST_CELLS" = some (.int 64):=by rfl
theorem aDL{c y:Nat}(h1:c≤64)(h2:y≤64):DZ [.int c,.int y]=some (.ok (.lst (nQ c y))):=(aDX rfl).trans (xZ h1 h2)
theorem aDG{c r:Nat}(h1:1≤c)(h2:1≤r)(h3:c*r≤64):DU [.int c,.int r]=some (.ok (bP c r c r (gH c r) [] [])):=by
 rw[aDS rfl];unfold bP;rw[←wL];exact WE mc_ (fun c y a b=>by rw[aBm];exact aDL a b) (fun c r T row h=>mo_ c r T row [] [] h) h1 h2 h3
theorem aDK(p:bA)(k:Nat):DY [sE p,.int k]=some (.ok (hE (p.getD k []))):=(aDW rfl).trans AU
theorem aJN(mv st:bA)(over:Bool)(l1:mv.length≤1000)(l2:st.length≤1000)(f1:Few 400000 mv)(f2:Few 400000 st):XB [sE mv,sE st,.bl over]=some (.ok (sE (bR mv st over))):=
 (aJV rfl).trans (mQ (fun p k=>by rw[TZ];exact aDK p k) l1 l2 f1 f2)
theorem aDQ(h:dS)(sd:Side):EU [hE h,.str sd.str]=some (.ok (hE (eE sd.up h))):=(aEs rfl).trans (oZ rfl)
theorem aDP(p:bA)(sd:Side):ES [sE p,.str sd.str]=some (.ok (sE (dW sd.up p))):=(aEq rfl).trans (oY fun h sd=>by rw[TY];exact aDQ h sd)
theorem aJM(s:bA)(sd:Side)(over:Bool)(c:Nat)(ls:s.length≤1000)(hf:Few 400000 s):WY [sE s,.str sd.str,.bl over,.int c]=some (.ok (sE (cQ sd over c s))):=
 (aJR rfl).trans (nU rfl (fun p sd=>by rw[TX];exact aDP p sd) (fun mv st over a b c d=>by rw[aBw];exact aJN mv st over a b c d) ls hf)
theorem aDM(T:Table)(x:Nat)(h:∀s∈T,x<s.length):EA [tE T,.int x]=some (.ok (sE (T.map fun s=>s.getD x []))):=(aDZ rfl).trans (vZ h)
theorem aDN(T:Table)(w h:Nat)(R:Rect T w h)(hw:w≤1000):EH [tE T]=some (.ok (tE (transp T))):=(aEg rfl).trans (qW (fun T x h=>by rw[TV];exact aDM T x h) R hw)
theorem aJL(T:Table)(w h:Nat)(sd:Side)(over:Bool)(k:Nat)(R:Rect T w h)(hw:w≤1000)(hh:h≤1000)(hf:rF 400000 T)(h1:1≤k)(h2:k<if sd.up then w else h):WW [tE T,.str sd.str,.bl over,.int k]=some (.ok (tE (foldT sd over k T))):=
 (aJQ rfl).trans (nT rfl (fun T w h R hw=>by rw[TR];exact aDN T w h R hw) (fun s sd over c a b=>by rw[aBv];exact aJM s sd over c a b) R hw hh hf h1 h2)
theorem aDO(c r w h:Nat)(T:Table)(F S:List D)(sd:Side)(i:Int):EI [bP c r w h T F S,.str sd.str,.int i]=some (.ok (.bl (decide (1≤i)&&decide (i<((if sd.up then w else h:Nat):Int))))):=(aEh rfl).trans (rA (kc _ rfl) rfl rfl)
theorem aJO(c r w h:Nat)(T:Table)(F:List D):XF [bP c r w h T F []]=some (.ok .non):=(aJY rfl).trans (kX (kc _ rfl))
theorem aDJ(c r w h:Nat)(T:Table)(F:List D)(sd:Side)(over:Bool)(k:Nat)(R:Rect T w h)(hw:w≤1000)(hh:h≤1000)(hf:rF 400000 T)(h1:1≤k)(h2:k<if sd.up then w else h)(hF:F.length≤1000):DX [bP c r w h T F [],.str sd.str,.bl over,.int k]=some (.ok (bP c r (if sd.up then max k (w-k) else w) (if sd.up then h else max k (h-k)) (foldT sd over k T) (F++[fB sd over k]) [])):=
 (aDV rfl).trans (IM (kc _ rfl) (fun c r w h T F=>by rw[aBu];exact aJO c r w h T F) (fun c r w h T F S sd i=>by rw[TQ];exact aDO c r w h T F S sd i) (fun T w h sd over k a b c d e f=>by rw[aBt];exact aJL T w h sd over k a b c d e f) (fun c r T row F S h=>mo_ c r T row F S h) R hw hh hf h1 h2 hF)
theorem GK(ns:List Int)(k:Nat):WZ [.frz (ns.map .int),.int k]=some (.ok (.int (gb ns k))):=(aJS rfl).trans BI
theorem BR(i:Int):yJ [.int i]=some (.ok (.bl true)):=(aEm rfl).trans JY
theorem GI(w h:Nat)(cell:Int)(hw:1≤w)(hh:1≤h)(hwh:1<w*h):∃(sd:Side) (over:Bool) (k:Nat),1≤k∧(k<if sd.up then w else h)∧XA [.int cell,.int w,.int h]=some (.ok (fB sd over k)):=by
 obtain⟨sd,over,k,a,b,e⟩:=AY (G:=mw) (cell:=cell) hw hh hwh;exact⟨sd,over,k,a,b,(aJT rfl).trans e⟩
theorem aAH(T:Table)(sp:List Spot)(A:Nat→Int→Prop)(x y:Nat)(out:List D)(P:Nat→Spot→Prop)(Lk_:Lk T sp)(h64:sp.length≤64)(hA:∀(k i:Nat) (s:Spot),sp[i]?=some s→s.x=x→s.y=y→(ai T x y)[k]?=some ((i:Int),s.e,s.n)→A i k)(S:K06.Seats A sp out P)(hP:∀i s,sp[i]?=some s→s.x=x→s.y=y→¬P i s):∃ae,EC (.lst out) [hE (ai T x y),.int x,.int y]=some (.bl true,.lst ae)∧K06.Seats A sp ae (fun i s=>P i s∨(s.x=x∧s.y=y)):=by
 obtain⟨ae,e,S'⟩:=K06.WT (G:=jD) (fun i=>by rw[TC];exact BR i) Lk_ h64 hA S hP
 exact⟨ae,(aEb rfl).trans e,S'⟩
theorem RJ(c r:Nat)(fs:List Fold)(sp:List Spot)(S:Stg c r fs sp)(hc:c≤64):∃ds,EG [aX c r fs]=some (.ok (.lst ds))∧K06.Seats (K07.dQ (runs c r fs).1 sp) sp ds (fun _ _=>True):=by
 obtain⟨ds,e,S'⟩:=K06.KP (A:=K07.dQ (runs c r fs).1 sp) (G:=iz) (kc _ rfl) (fun i=>by rw[TB];exact BR i) (fun c r w h T F S x y R hx hy=>by rw[UT];exact YN R hx hy) (fun T' sp' x y out P a b hA c d=>by rw[pH];exact aAH T' sp' _ x y out P a b hA c d) S.sits (fun k i s hs hk=>⟨k,s,rfl,hs,hk⟩) S.len hc
 exact⟨ds,(aEf rfl).trans e,S'⟩
theorem aAF(c r:Nat)(h1:1≤c)(h2:1≤r)(h3:c*r≤64)(h4:c≤64):EE [.int c,.int r]=some (.ok (.lst ((ah c (c*r) (c*r)).map c7))):=(aEd rfl).trans (K06.VM h1 h2 h3 h4)
theorem JU(s:Spot)(d:D)(l:Bool)(h:K06.lV s d):yI [d,.bl l]=some (.ok (.int (if l then lC s else lQ s))):=(aDY rfl).trans (K06.WA h)
theorem aAJ(s:Spot)(d:D)(l:Bool)(h:K06.lV s d):XE [d,.bl l]=some (.ok (.int (if l then K06.lin (!s.n) s.y else K06.lin (!s.e) s.x))):=(aJX rfl).trans (K06.YC h)
theorem aAG(s t:Spot)(d e:D)(l:Bool)(hs:K06.lV s d)(ht:K06.lV t e)(m:K06.Meets s t l):ED [d,e,.bl l]=some (.ok (.bl true)):=(aEc rfl).trans (K06.VZ (fun s d l h=>by rw[SZ];exact JU s d l h) (fun s d l h=>by rw[aBq];exact aAJ s d l h) hs ht m)
theorem RK(s t:Spot)(l m:Int)(lv:Bool)(N:Nat)(a:K07.On (K07.alL lv s) N)(b:K07.On (K07.alL lv t) N):EM [K07.sdD s l,K07.sdD t m,.bl lv,.int N]=some (.ok (.tup [K07.ld (K07.pick false (decide (K07.alL lv s=N)) (decide (K07.alL lv t=N)) l m),K07.ld (K07.pick true (decide (K07.alL lv s=N)) (decide (K07.alL lv t=N)) l m)])):=(aEn rfl).trans (K07.LQ a b)
theorem JV(m a b:Int):EO [.int m,.lst [.int a,.int b]]=some (.ok (.bl (K07.inB m a b))):=(aEo rfl).trans K07.IG
theorem RM(u v:List Int)(h:K07.NB u v):EF [K07.ld u,K07.ld v]=some (.ok (.bl false)):=(aEe rfl).trans (K07.OX (fun m a b=>by rw[SY];exact JV m a b) h)
theorem GF(r1 s1 r2 s2:Bool)(l1 m1 l2 m2:Int)(x:G07.NX r1 s1 l1 m1 r2 s2 l2 m2)(d:G07.Df r1 s1 l1 m1 r2 s2 l2 m2):EW [.tup [K07.ld (K07.pick false r1 s1 l1 m1),K07.ld (K07.pick true r1 s1 l1 m1)],.tup [K07.ld (K07.pick false r2 s2 l2 m2),K07.ld (K07.pick true r2 s2 l2 m2)]]=some (.ok (.bl false)):=(aEu rfl).trans (K07.zL (fun u v h=>by rw[SX];exact RM u v h) x d)
theorem JT(c r:Nat)(T:Table)(sp:List Spot)(ds:List D)(h1:1≤c)(h2:1≤r)(h3:c*r≤64)(h4:c≤64)(Z:K07.Pz c r T sp)(E:K07.SE T sp ds):ET [.lst ds,.int c,.int r]=some (.ok (.lst ((ah c (c*r) (c*r)).map (K07.plD sp ds)))):=
 (aEr rfl).trans (K07.HF Z E h3 (by rw[SV];exact aAF c r h1 h2 h3 h4) (fun s t d e l a b m=>by rw[SU];exact aAG s t d e l a b m) (fun s d l h=>by rw[SS];exact JU s d l h) (fun s t l m lv N a b=>by rw[SW];exact RK s t l m lv N a b))
theorem YM(p q:Nat)(a b:Bool)(l:Int):cJ [K07.oSp p a q b l]=some (.ok (.int ((if a then p else p+1:Nat):Int))):=(zI rfl).trans (K07.aCI rfl)
theorem RL(p q:Nat)(a b:Bool)(l:Int):cV [K07.oSp p a q b l]=some (.ok (.int ((if a then p+1 else p:Nat):Int))):=(wJ rfl).trans (K07.MJ rfl)
theorem aAI(a b:Int)(p q p' q':Nat)(x y x' y':Bool)(l l':Int)(t:D):gZ [K07.oSt a b (K07.oSp p x q y l) (K07.oSp p' x' q' y' l') t]=some (.ok (.bl ((p:Int) == p'))):=(GO rfl).trans (K07.YB rfl rfl)
theorem aAE(s t:Spot)(lv:Bool)(a b l l':Int)(k:D)(m:K06.Meets s t lv):fO [K07.oSt a b (K07.spO lv s l) (K07.spO lv t l') k]=some (.ok (.bl false)):=(GN rfl).trans (K07.RQ rfl rfl (fun p q a b l=>by rw[xO];exact YM p q a b l) (fun p q a b l=>by rw[tR];exact RL p q a b l) m)
theorem aAK(p q:Nat)(a b:Bool)(l:Int):BB [.int p,.bl a,.int q,.bl b,.int l]=some (.ok (K07.oSp p a q b l)):=rfl
theorem JX(a b:Int)(lv:Bool)(s t:Spot)(l l':Int):qF [.int a,.int b,.bl lv,K07.spO lv s l,K07.spO lv t l']=some (.ok (K07.oSt a b (K07.spO lv s l) (K07.spO lv t l') (.tup [.bl lv,.int (K07.lnN lv s:Nat),.int (K07.acL lv s:Nat)]))):=by
 have e:ev g5 (.var 4) [.un,.im (.int a),.im (.int b),.im (.bl lv),.im (K07.spO lv s l),.im (K07.spO lv t l')]=some (K07.spO lv s l):=rfl
 have e1:=K07.tF (G:=g5) (m:="far_line") rfl e (by rw[show g5.me "Spot" "far_line" = cJ by kernel_rfl];exact YM _ _ _ _ _)
 have e2:=K07.tG (G:=g5) rfl e
 show (ez g5 [.un,.im (.int a),.im (.int b),.im (.bl lv),.im (K07.spO lv s l),.im (K07.spO lv t l')] fU).map _=_
 unfold fU;simp only[ez,oi];rw[jE,aJ,aJ,e1,aJ,e2];rfl
theorem JW(T:Table)(w h n:Nat)(sp:List Spot)(S:Sits T w h sp)(hn:sp.length=n):ER [.int n,.lst ((K07.hps T w h).map hE)]=some (.ok .non):=(aEp rfl).trans (K07.JM S hn)
theorem aDF(c r:Nat)(h1:1≤c)(h3:c*r≤64)(h4:c≤64):EJ [.int c,.int r]=some (.ok (.lst ((ah c (c*r) (c*r)).map c7))):=(aEi rfl).trans (qY h1 h3 h4)
theorem GG(c r w h:Nat)(T:Table)(sp:List Spot)(ds:List D)(h1:1≤c)(h3:c*r≤64)(h4:c≤64)(S:Sits T w h sp)(Z:K07.Pz c r T sp)(E:K07.SE T sp ds):EV [.int c,.int r,.int w,.lst ((K07.hps T w h).map hE)]=some (.ok (.lst ((ah c (c*r) (c*r)).map (K07.stO sp (K07.dep ds))))):=
 (aEt rfl).trans (K07.zN S Z E h3 (by rw[TN];exact aDF c r h1 h3 h4) (fun p q a b l=>by rw[OV];exact aAK p q a b l) (fun a b lv s t l l'=>by rw[BJ];exact JX a b lv s t l l'))
theorem RI(c r:Nat)(T:Table)(sp:List Spot)(dp:Nat→Int)(Z:K07.Pz c r T sp):EL [.lst ((ah c (c*r) (c*r)).map (K07.stO sp dp))]=some (.ok .non):=(aEk rfl).trans (K07.KC Z (fun s t lv a b l l' k m=>by rw[xQ];exact aAE s t lv a b l l' k m))
theorem JS(a b:Int)(p q p' q' p2 q2:Nat)(x y x' y' x2 y2:Bool)(l l' l2:Int)(t:D):EB [K07.oSt a b (K07.oSp p x q y l) (K07.oSp p' x' q' y' l') t,K07.oSp p2 x2 q2 y2 l2]=some (.ok (.bl (((p2:Int) == p)&&K07.inB l2 l l'))):=(aEa rfl).trans (K07.GM rfl rfl)
theorem GH(a b a2 b2:Int)(p q p' q' p2 q2 p3 q3:Nat)(x y x' y' x2 y2 x3 y3:Bool)(l l' l2 l3:Int)(t t2:D):EK [K07.oSt a b (K07.oSp p x q y l) (K07.oSp p' x' q' y' l') t,K07.oSt a2 b2 (K07.oSp p2 x2 q2 y2 l2) (K07.oSp p3 x3 q3 y3 l3) t2]=some (.ok (.bl (!((((p2:Int) == p)&&K07.inB l2 l l') == (((p3:Int) == p)&&K07.inB l3 l l'))))):=(aEj rfl).trans (K07.zZ rfl (fun a b p q p' q' p2 q2 x y x' y' x2 y2 l l' l2 t=>by rw[TM];exact JS a b p q p' q' p2 q2 x y x' y' x2 y2 l l' l2 t))
theorem GL(a b a2 b2:Int)(p q p' q' p2 q2 p3 q3:Nat)(x y x' y' x2 y2 x3 y3:Bool)(l l' l2 l3:Int)(t t2:D):XD [K07.oSt a b (K07.oSp p x q y l) (K07.oSp p' x' q' y' l') t,K07.oSt a2 b2 (K07.oSp p2 x2 q2 y2 l2) (K07.oSp p3 x3 q3 y3 l3) t2]=some (.ok (.bl (if (p:Int) == p2 then !(decide (l<l2) == decide (l'<l3)) else !(decide (l<l3) == decide (l'<l2))))):=(aJW rfl).trans (K07.BK rfl rfl)
theorem aDI(c r:Nat)(T:Table)(sp:List Spot)(ds:List D)(Z:K07.Pz c r T sp)(E:K07.SE T sp ds)(j k:Nat×Nat×Bool)(K:K07.Tk c (c*r) sp j k j.2.2 (K07.spG sp j.1) (K07.spG sp j.2.1) (K07.spG sp k.1) (K07.spG sp k.2.1)):DW [K07.stO sp (K07.dep ds) j,K07.stO sp (K07.dep ds) k]=some (.ok (.bl false)):=
 (aDU rfl).trans (K07.OP Z E (fun a b p q p' q' x y x' y' l l' t=>by rw[xP];exact aAI a b p q p' q' x y x' y' l l' t) (fun a b a2 b2 p q p' q' p2 q2 p3 q3 x y x' y' x2 y2 x3 y3 l l' l2 l3 t t2=>by rw[TL];exact GH a b a2 b2 p q p' q' p2 q2 p3 q3 x y x' y' x2 y2 x3 y3 l l' l2 l3 t t2) (fun a b a2 b2 p q p' q' p2 q2 p3 q3 x y x' y' x2 y2 x3 y3 l l' l2 l3 t t2=>by rw[aBs];exact GL a b a2 b2 p q p' q' p2 q2 p3 q3 x y x' y' x2 y2 x3 y3 l l' l2 l3 t t2) K)
theorem GJ(c r:Nat)(T:Table)(sp:List Spot)(ds:List D)(h3:c*r≤64)(Z:K07.Pz c r T sp)(E:K07.SE T sp ds):XG [.lst ((ah c (c*r) (c*r)).map (K07.stO sp (K07.dep ds)))]=some (.ok .non):=(aJZ rfl).trans (K07.BG rfl Z h3 (fun j k K=>by rw[TK];exact aDI c r T sp ds Z E j k K))
theorem aDH(c r w h:Nat)(T:Table)(sp:List Spot)(ds:List D)(h1:1≤c)(h2:1≤r)(h3:c*r≤64)(h4:c≤64)(S:Sits T w h sp)(Z:K07.Pz c r T sp)(E:K07.SE T sp ds):DV [.int c,.int r,.int w,.int h,.lst ((K07.hps T w h).map hE)]=some (.ok .non):=
 (aDT rfl).trans (K07.OB h4 (by rw[TH];exact JW T w h _ sp S Z.len) (by rw[TJ];exact GG c r w h T sp ds h1 h3 h4 S Z E) (by rw[TF];exact RI c r T sp _ Z) (by rw[aBr];exact GJ c r T sp ds h3 Z E))
theorem law_true(ns:List Int)(_:ns.length≤63):yH [.frz (ns.map .int)]=some (.ok (.bl true)):=by
 refine(YO rfl).trans (K07.aCs (G:=di) (kc _ rfl) (ns:=ns) (fun k=>by rw[aBn];exact GK ns k) (fun cell=>?_) (fun c r a b d=>by rw[SL];exact aDG a b d) (fun w h cell a b d=>by rw[aBo];exact GI w h cell a b d)
  (fun c r fs sp f S ok hl=>IP (fun c r w h T F sd over k a1 a2 a3 a4 a5 a6 a7=>by rw[SN];exact aDJ c r w h T F sd over k a1 a2 a3 a4 a5 a6 a7) S ok hl)
  (fun c r fs sp S hc=>by rw[SO];exact RJ c r fs sp S hc) (fun c r T sp ds a b d e Z E=>by rw[SQ];exact JT c r T sp ds a b d e Z E) (fun r1 s1 r2 s2 l1 m1 l2 m2 x d=>by rw[SR];exact GF r1 s1 r2 s2 l1 m1 l2 m2 x d)
  (fun c r w h T F S x y R hx hy=>by rw[US];exact YN R hx hy) (fun c r w h T sp ds a b d e S Z E=>by rw[SM];exact aDH c r w h T sp ds a b d e S Z E))
 rw[aBp,aJU rfl];exact K18.wU
end Toy
namespace Toy
open PySem L2 Z
theorem fc{K:so}{x q:Str}{st:Stmt}{f:Addr}{fd:sq}{ps:List Str}(F:Fun K x q st f fd)(l:ps.length=1)(h:∀(kV doc pm:Value) (an:Option Addr) (ax ct a:Value),bindArgs (PySem.W.fnOf x q (fI st) (bI st) (aB st) .none kV doc pm an ax ct) ⟨[a],[]⟩=pure (ps.zip [a])):Binds K fd ps []:=F.binds fun _ _ _ _ _ _ us hl=>by
 match us,hl.trans l with
 |[a],_=>exact h _ _ _ _ _ _ a
theorem cw{K:so}{x q:Str}{st:Stmt}{f:Addr}{fd:sq}{ps:List Str}(F:Fun K x q st f fd)(l:ps.length=2)(h:∀(kV doc pm:Value) (an:Option Addr) (ax ct a b:Value),bindArgs (PySem.W.fnOf x q (fI st) (bI st) (aB st) .none kV doc pm an ax ct) ⟨[a,b],[]⟩=pure (ps.zip [a,b])):Binds K fd ps []:=F.binds fun _ _ _ _ _ _ us hl=>by
 match us,hl.trans l with
 |[a,b],_=>exact h _ _ _ _ _ _ a b
theorem kf{K:so}{x q:Str}{st:Stmt}{f:Addr}{fd:sq}{ps:List Str}(F:Fun K x q st f fd)(l:ps.length=3)(h:∀(kV doc pm:Value) (an:Option Addr) (ax ct a b c:Value),bindArgs (PySem.W.fnOf x q (fI st) (bI st) (aB st) .none kV doc pm an ax ct) ⟨[a,b,c],[]⟩=pure (ps.zip [a,b,c])):Binds K fd ps []:=F.binds fun _ _ _ _ _ _ us hl=>by
 match us,hl.trans l with
 |[a,b,c],_=>exact h _ _ _ _ _ _ a b c
theorem ke{K:so}{x q:Str}{st:Stmt}{f:Addr}{fd:sq}{ps:List Str}(F:Fun K x q st f fd)(l:ps.length=4)(h:∀(kV doc pm:Value) (an:Option Addr) (ax ct a b c d:Value),bindArgs (PySem.W.fnOf x q (fI st) (bI st) (aB st) .none kV doc pm an ax ct) ⟨[a,b,c,d],[]⟩=pure (ps.zip [a,b,c,d])):Binds K fd ps []:=F.binds fun _ _ _ _ _ _ us hl=>by
 match us,hl.trans l with
 |[a,b,c,d],_=>exact h _ _ _ _ _ _ a b c d
theorem bn5{K:so}{x q:Str}{st:Stmt}{f:Addr}{fd:sq}{ps:List Str}(F:Fun K x q st f fd)(l:ps.length=5)(h:∀(kV doc pm:Value) (an:Option Addr) (ax ct a b c d e:Value),bindArgs (PySem.W.fnOf x q (fI st) (bI st) (aB st) .none kV doc pm an ax ct) ⟨[a,b,c,d,e],[]⟩=pure (ps.zip [a,b,c,d,e])):Binds K fd ps []:=F.binds fun _ _ _ _ _ _ us hl=>by
 match us,hl.trans l with
 |[a,b,c,d,e],_=>exact h _ _ _ _ _ _ a b c d e
theorem bn6{K:so}{x q:Str}{st:Stmt}{f:Addr}{fd:sq}{ps:List Str}(F:Fun K x q st f fd)(l:ps.length=6)(h:∀(kV doc pm:Value) (an:Option Addr) (ax ct a b c d e f:Value),bindArgs (PySem.W.fnOf x q (fI st) (bI st) (aB st) .none kV doc pm an ax ct) ⟨[a,b,c,d,e,f],[]⟩=pure (ps.zip [a,b,c,d,e,f])):Binds K fd ps []:=F.binds fun _ _ _ _ _ _ us hl=>by
 match us,hl.trans l with
 |[a,b,c,d,e,f],_=>exact h _ _ _ _ _ _ a b c d e f
theorem mF{K:so}{n q:Str}{st:Stmt}{a:Addr}{fd:sq}{m:Str}{t c:Nat}(e:fd=dF n q st m t c)(h:K.lookup a=some (oF fd))(h2:codeIn K (.ref c) q=true)(h3:keepIn K (.ref a)=true):Fun K n q st a fd:=⟨⟨_,_,_,_,_,_,_,_,_,e,h,h2⟩,h3⟩
noncomputable def cj:Str→Addr:=fun x=>if x = "Pile" then 116 else if x = "Spot" then 233 else if x = "Strand" then 268 else 0
section
variable (P:Params)
theorem aAa:Fun (KK P) "laid" "laid" (top 13) 125 uO:=mF rfl (by kernel_rfl) (by kernel_rfl) (by kernel_rfl)
theorem aIq:Binds (KK P) uO PM []:=cw (aAa P) rfl fun _ _ _ _ _ _ _ _=>rfl
theorem aAf:Fun (KK P) "laid_row" "laid_row" (top 14) 130 uT:=mF rfl (by kernel_rfl) (by kernel_rfl) (by kernel_rfl)
theorem aIv:Binds (KK P) uT PU []:=cw (aAf P) rfl fun _ _ _ _ _ _ _ _=>rfl
theorem aAd:Fun (KK P) "folded" "folded" (top 15) 137 uR:=mF rfl (by kernel_rfl) (by kernel_rfl) (by kernel_rfl)
theorem aIt:Binds (KK P) uR PQ []:=ke (aAd P) rfl fun _ _ _ _ _ _ _ _ _ _=>rfl
theorem aJf:Fun (KK P) "refuse_severed" "refuse_severed" (top 16) 144 DS:=mF rfl (by kernel_rfl) (by kernel_rfl) (by kernel_rfl)
theorem aLu:Binds (KK P) DS aDr []:=fc (aJf P) rfl fun _ _ _ _ _ _ _=>rfl
theorem aAq:Fun (KK P) "has_crease" "has_crease" (top 17) 151 vD:=mF rfl (by kernel_rfl) (by kernel_rfl) (by kernel_rfl)
theorem aIG:Binds (KK P) vD QF []:=kf (aAq P) rfl fun _ _ _ _ _ _ _ _ _=>rfl
theorem aIX:Fun (KK P) "folded_table" "folded_table" (top 18) 156 DK:=mF rfl (by kernel_rfl) (by kernel_rfl) (by kernel_rfl)
theorem aLm:Binds (KK P) DK aDj []:=ke (aIX P) rfl fun _ _ _ _ _ _ _ _ _ _=>rfl
theorem aAp:Fun (KK P) "transposed" "transposed" (top 19) 161 vC:=mF rfl (by kernel_rfl) (by kernel_rfl) (by kernel_rfl)
theorem aIF:Binds (KK P) vC QE []:=fc (aAp P) rfl fun _ _ _ _ _ _ _=>rfl
theorem aAi:Fun (KK P) "column_of" "column_of" (top 20) 166 uV:=mF rfl (by kernel_rfl) (by kernel_rfl) (by kernel_rfl)
theorem aIy:Binds (KK P) uV PX []:=cw (aAi P) rfl fun _ _ _ _ _ _ _ _=>rfl
theorem aIY:Fun (KK P) "folded_strip" "folded_strip" (top 21) 173 DL:=mF rfl (by kernel_rfl) (by kernel_rfl) (by kernel_rfl)
theorem aLn:Binds (KK P) DL aDk []:=ke (aIY P) rfl fun _ _ _ _ _ _ _ _ _ _=>rfl
theorem aAy:Fun (KK P) "turned_part" "turned_part" (top 22) 178 vL:=mF rfl (by kernel_rfl) (by kernel_rfl) (by kernel_rfl)
theorem aIO:Binds (KK P) vL QN []:=cw (aAy P) rfl fun _ _ _ _ _ _ _ _=>rfl
theorem aAA:Fun (KK P) "turned_heap" "turned_heap" (top 23) 183 vN:=mF rfl (by kernel_rfl) (by kernel_rfl) (by kernel_rfl)
theorem aIQ:Binds (KK P) vN QP []:=cw (aAA P) rfl fun _ _ _ _ _ _ _ _=>rfl
theorem aJc:Fun (KK P) "laid_together" "laid_together" (top 24) 188 DP:=mF rfl (by kernel_rfl) (by kernel_rfl) (by kernel_rfl)
theorem aLr:Binds (KK P) DP aDo []:=kf (aJc P) rfl fun _ _ _ _ _ _ _ _ _=>rfl
theorem aAe:Fun (KK P) "heap_at" "heap_at" (top 25) 195 uS:=mF rfl (by kernel_rfl) (by kernel_rfl) (by kernel_rfl)
theorem aIu:Binds (KK P) uS PR []:=cw (aAe P) rfl fun _ _ _ _ _ _ _ _=>rfl
theorem aAr:Fun (KK P) "neighbours" "neighbours" (top 27) 202 vE:=mF rfl (by kernel_rfl) (by kernel_rfl) (by kernel_rfl)
theorem aIH:Binds (KK P) vE QG []:=cw (aAr P) rfl fun _ _ _ _ _ _ _ _=>rfl
theorem aAb:Fun (KK P) "fault" "fault" (top 31) 279 uP:=mF rfl (by kernel_rfl) (by kernel_rfl) (by kernel_rfl)
theorem aIr:Binds (KK P) uP PN []:=bn5 (aAb P) rfl fun _ _ _ _ _ _ _ _ _ _ _=>rfl
theorem aAx:Fun (KK P) "astray_cell" "astray_cell" (top 32) 286 vK:=mF rfl (by kernel_rfl) (by kernel_rfl) (by kernel_rfl)
theorem aIN:Binds (KK P) vK QM []:=cw (aAx P) rfl fun _ _ _ _ _ _ _ _=>rfl
theorem aAB:Fun (KK P) "all_strands" "all_strands" (top 33) 293 vO:=mF rfl (by kernel_rfl) (by kernel_rfl) (by kernel_rfl)
theorem aIR:Binds (KK P) vO QQ []:=ke (aAB P) rfl fun _ _ _ _ _ _ _ _ _ _=>rfl
theorem aAt:Fun (KK P) "torn_joint" "torn_joint" (top 34) 300 vG:=mF rfl (by kernel_rfl) (by kernel_rfl) (by kernel_rfl)
theorem aIJ:Binds (KK P) vG QI []:=fc (aAt P) rfl fun _ _ _ _ _ _ _=>rfl
theorem aJg:Fun (KK P) "crossed_joints" "crossed_joints" (top 35) 307 DT:=mF rfl (by kernel_rfl) (by kernel_rfl) (by kernel_rfl)
theorem aLv:Binds (KK P) DT aDs []:=fc (aJg P) rfl fun _ _ _ _ _ _ _=>rfl
theorem aAc:Fun (KK P) "cross" "cross" (top 36) 314 uQ:=mF rfl (by kernel_rfl) (by kernel_rfl) (by kernel_rfl)
theorem aIs:Binds (KK P) uQ PP []:=cw (aAc P) rfl fun _ _ _ _ _ _ _ _=>rfl
theorem aAs:Fun (KK P) "is_pierced" "is_pierced" (top 37) 321 vF:=mF rfl (by kernel_rfl) (by kernel_rfl) (by kernel_rfl)
theorem aII:Binds (KK P) vF QH []:=cw (aAs P) rfl fun _ _ _ _ _ _ _ _=>rfl
theorem aAj:Fun (KK P) "is_within" "is_within" (top 38) 328 uW:=mF rfl (by kernel_rfl) (by kernel_rfl) (by kernel_rfl)
theorem aIz:Binds (KK P) uW PY []:=cw (aAj P) rfl fun _ _ _ _ _ _ _ _=>rfl
theorem aJd:Fun (KK P) "bridges_cross" "bridges_cross" (top 39) 335 DQ:=mF rfl (by kernel_rfl) (by kernel_rfl) (by kernel_rfl)
theorem aLs:Binds (KK P) DQ aDp []:=cw (aJd P) rfl fun _ _ _ _ _ _ _ _=>rfl
theorem aIZ:Fun (KK P) "_law_cell_at" "_law_cell_at" (top 41) 342 DM:=mF rfl (by kernel_rfl) (by kernel_rfl) (by kernel_rfl)
theorem aLo:Binds (KK P) DM aDl []:=cw (aIZ P) rfl fun _ _ _ _ _ _ _ _=>rfl
theorem aAu:Fun (KK P) "_law_whole" "_law_whole" (top 42) 349 vH:=mF rfl (by kernel_rfl) (by kernel_rfl) (by kernel_rfl)
theorem aIK:Binds (KK P) vH QJ []:=fc (aAu P) rfl fun _ _ _ _ _ _ _=>rfl
theorem aJb:Fun (KK P) "_law_sheet_by" "_law_sheet_by" (top 43) 356 DO:=mF rfl (by kernel_rfl) (by kernel_rfl) (by kernel_rfl)
theorem aLq:Binds (KK P) DO aDn []:=fc (aJb P) rfl fun _ _ _ _ _ _ _=>rfl
theorem aJa:Fun (KK P) "_law_fold_by" "_law_fold_by" (top 44) 363 DN:=mF rfl (by kernel_rfl) (by kernel_rfl) (by kernel_rfl)
theorem aLp:Binds (KK P) DN aDm []:=kf (aJa P) rfl fun _ _ _ _ _ _ _ _ _=>rfl
theorem aAk:Fun (KK P) "_law_fill" "_law_fill" (top 45) 370 uX:=mF rfl (by kernel_rfl) (by kernel_rfl) (by kernel_rfl)
theorem aIA:Binds (KK P) uX PZ []:=ke (aAk P) rfl fun _ _ _ _ _ _ _ _ _ _=>rfl
theorem aAo:Fun (KK P) "_law_seats" "_law_seats" (top 46) 375 vB:=mF rfl (by kernel_rfl) (by kernel_rfl) (by kernel_rfl)
theorem aIE:Binds (KK P) vB QD []:=fc (aAo P) rfl fun _ _ _ _ _ _ _=>rfl
theorem aAm:Fun (KK P) "_law_near" "_law_near" (top 47) 382 uZ:=mF rfl (by kernel_rfl) (by kernel_rfl) (by kernel_rfl)
theorem aIC:Binds (KK P) uZ QB []:=cw (aAm P) rfl fun _ _ _ _ _ _ _ _=>rfl
theorem aAh:Fun (KK P) "_law_line" "_law_line" (top 48) 389 uU:=mF rfl (by kernel_rfl) (by kernel_rfl) (by kernel_rfl)
theorem aIx:Binds (KK P) uU PV []:=cw (aAh P) rfl fun _ _ _ _ _ _ _ _=>rfl
theorem aJe:Fun (KK P) "_law_back_line" "_law_back_line" (top 49) 396 DR:=mF rfl (by kernel_rfl) (by kernel_rfl) (by kernel_rfl)
theorem aLt:Binds (KK P) DR aDq []:=cw (aJe P) rfl fun _ _ _ _ _ _ _ _=>rfl
theorem aAl:Fun (KK P) "_law_meet" "_law_meet" (top 50) 403 uY:=mF rfl (by kernel_rfl) (by kernel_rfl) (by kernel_rfl)
theorem aIB:Binds (KK P) uY QA []:=kf (aAl P) rfl fun _ _ _ _ _ _ _ _ _=>rfl
theorem aAv:Fun (KK P) "_law_parts" "_law_parts" (top 51) 408 vI:=mF rfl (by kernel_rfl) (by kernel_rfl) (by kernel_rfl)
theorem aIL:Binds (KK P) vI QK []:=ke (aAv P) rfl fun _ _ _ _ _ _ _ _ _ _=>rfl
theorem aAw:Fun (KK P) "_law_inside" "_law_inside" (top 52) 415 vJ:=mF rfl (by kernel_rfl) (by kernel_rfl) (by kernel_rfl)
theorem aIM:Binds (KK P) vJ QL []:=cw (aAw P) rfl fun _ _ _ _ _ _ _ _=>rfl
theorem aAn:Fun (KK P) "_law_bends" "_law_bends" (top 53) 422 vA:=mF rfl (by kernel_rfl) (by kernel_rfl) (by kernel_rfl)
theorem aID:Binds (KK P) vA QC []:=cw (aAn P) rfl fun _ _ _ _ _ _ _ _=>rfl
theorem aAC:Fun (KK P) "_law_through" "_law_through" (top 54) 429 vP:=mF rfl (by kernel_rfl) (by kernel_rfl) (by kernel_rfl)
theorem aIS:Binds (KK P) vP QR []:=cw (aAC P) rfl fun _ _ _ _ _ _ _ _=>rfl
theorem aAz:Fun (KK P) "_law_places" "_law_places" (top 55) 436 vM:=mF rfl (by kernel_rfl) (by kernel_rfl) (by kernel_rfl)
theorem aIP:Binds (KK P) vM QO []:=kf (aAz P) rfl fun _ _ _ _ _ _ _ _ _=>rfl
theorem ZZ:Fun (KK P) "law" "law" (top 56) 441 qD:=mF rfl (by kernel_rfl) (by kernel_rfl) (by kernel_rfl)
theorem aIo:Binds (KK P) qD sS []:=fc (ZZ P) rfl fun _ _ _ _ _ _ _=>rfl
theorem aAg:Fun (KK P) "__init__" "Pile.__init__" (L2.inClass (top 12) 0) 99 BA:=mF rfl (by kernel_rfl) (by kernel_rfl) (by kernel_rfl)
theorem aIw:Binds (KK P) BA (["self","columns","rows","table","folds","severed"]:List Str) []:=bn6 (aAg P) rfl fun _ _ _ _ _ _ _ _ _ _ _ _=>rfl
theorem RG:Fun (KK P) "heap" "Pile.heap" (L2.inClass (top 12) 1) 106 uN:=mF rfl (by kernel_rfl) (by kernel_rfl) (by kernel_rfl)
theorem aIp:Binds (KK P) uN PL []:=kf (RG P) rfl fun _ _ _ _ _ _ _ _ _=>rfl
theorem iS:Fun (KK P) "__init__" "Spot.__init__" (L2.inClass (top 29) 0) 216 eL:=mF rfl (by kernel_rfl) (by kernel_rfl) (by kernel_rfl)
theorem nV:Binds (KK P) eL (["self","place","turned","lane","slanted","depth"]:List Str) []:=bn6 (iS P) rfl fun _ _ _ _ _ _ _ _ _ _ _ _=>rfl
theorem kR:Fun (KK P) "far_line" "Spot.far_line" (L2.inClass (top 29) 1) 223 gI:=mF rfl (by kernel_rfl) (by kernel_rfl) (by kernel_rfl)
theorem BN:Binds (KK P) gI kQ []:=fc (kR P) rfl fun _ _ _ _ _ _ _=>rfl
theorem jK:Fun (KK P) "near_line" "Spot.near_line" (L2.inClass (top 29) 2) 230 fH:=mF rfl (by kernel_rfl) (by kernel_rfl) (by kernel_rfl)
theorem zD:Binds (KK P) fH jJ []:=fc (jK P) rfl fun _ _ _ _ _ _ _=>rfl
theorem gL:Fun (KK P) "__init__" "Strand.__init__" (L2.inClass (top 30) 0) 251 dI:=mF rfl (by kernel_rfl) (by kernel_rfl) (by kernel_rfl)
theorem lU:Binds (KK P) dI (["self","first","second","level","here","there"]:List Str) []:=bn6 (gL P) rfl fun _ _ _ _ _ _ _ _ _ _ _ _=>rfl
theorem nA:Fun (KK P) "is_torn" "Strand.is_torn" (L2.inClass (top 30) 1) 258 iI:=mF rfl (by kernel_rfl) (by kernel_rfl) (by kernel_rfl)
theorem JK:Binds (KK P) iI mY []:=fc (nA P) rfl fun _ _ _ _ _ _ _=>rfl
theorem nB:Fun (KK P) "is_bend" "Strand.is_bend" (L2.inClass (top 30) 2) 265 iJ:=mF rfl (by kernel_rfl) (by kernel_rfl) (by kernel_rfl)
theorem JL:Binds (KK P) iJ mZ []:=fc (nB P) rfl fun _ _ _ _ _ _ _=>rfl
theorem aJi:Mt (KK P) (cj "Pile") "heap" "Pile.heap" (L2.inClass (top 12) 1) PL 106 uN:=⟨RG P,⟨by kernel_rfl,by kernel_rfl,(RG P).kp⟩,aIp P⟩
theorem BP:Mt (KK P) (cj "Spot") "far_line" "Spot.far_line" (L2.inClass (top 29) 1) kQ 223 gI:=⟨kR P,⟨by kernel_rfl,by kernel_rfl,(kR P).kp⟩,BN P⟩
theorem zF:Mt (KK P) (cj "Spot") "near_line" "Spot.near_line" (L2.inClass (top 29) 2) jJ 230 fH:=⟨jK P,⟨by kernel_rfl,by kernel_rfl,(jK P).kp⟩,zD P⟩
theorem JQ:Mt (KK P) (cj "Strand") "is_torn" "Strand.is_torn" (L2.inClass (top 30) 1) mY 258 iI:=⟨nA P,⟨by kernel_rfl,by kernel_rfl,(nA P).kp⟩,JK P⟩
theorem JR:Mt (KK P) (cj "Strand") "is_bend" "Strand.is_bend" (L2.inClass (top 30) 2) mZ 265 iJ:=⟨nB P,⟨by kernel_rfl,by kernel_rfl,(nB P).kp⟩,JL P⟩
theorem oS:cj "Pile" = 116:=by decide +kernel
theorem aCF:Mk (KK P) (cj "Pile") 99:=by rw[oS];exact⟨by kernel_rfl,by kernel_rfl,by kernel_rfl,by kernel_rfl⟩
theorem OU:Cls (KK P) (cj "Pile"):=by rw[oS];exact⟨by kernel_rfl,by kernel_rfl,by kernel_rfl,by kernel_rfl⟩
theorem MN:∀f,(iG "Pile").contains f=true→cK (KK P) (cj "Pile") f:=by
 intro f hf;have c9:f∈iG "Pile":=by simpa using hf
 rw[show iG "Pile" = (["columns","rows","wide","high","table","folds","severed"]:List Str) from by decide +kernel]at c9
 simp only[pj,rg,or_false]at c9;rw[oS]
 rcases c9 with rfl|rfl|rfl|rfl|rfl|rfl|rfl
 ·exact(by kernel_rfl:findIn (KK P) (.ref 116) "columns" = some none)
 ·exact(by kernel_rfl:findIn (KK P) (.ref 116) "rows" = some none)
 ·exact(by kernel_rfl:findIn (KK P) (.ref 116) "wide" = some none)
 ·exact(by kernel_rfl:findIn (KK P) (.ref 116) "high" = some none)
 ·exact(by kernel_rfl:findIn (KK P) (.ref 116) "table" = some none)
 ·exact(by kernel_rfl:findIn (KK P) (.ref 116) "folds" = some none)
 ·exact(by kernel_rfl:findIn (KK P) (.ref 116) "severed" = some none)
theorem oR:cj "Spot" = 233:=by decide +kernel
theorem aCE:Mk (KK P) (cj "Spot") 216:=by rw[oR];exact⟨by kernel_rfl,by kernel_rfl,by kernel_rfl,by kernel_rfl⟩
theorem OT:Cls (KK P) (cj "Spot"):=by rw[oR];exact⟨by kernel_rfl,by kernel_rfl,by kernel_rfl,by kernel_rfl⟩
theorem MM:∀f,(iG "Spot").contains f=true→cK (KK P) (cj "Spot") f:=by
 intro f hf;have c9:f∈iG "Spot":=by simpa using hf
 rw[show iG "Spot" = (["place","turned","lane","slanted","depth"]:List Str) from by decide +kernel]at c9
 simp only[pj,rg,or_false]at c9;rw[oR]
 rcases c9 with rfl|rfl|rfl|rfl|rfl
 ·exact(by kernel_rfl:findIn (KK P) (.ref 233) "place" = some none)
 ·exact(by kernel_rfl:findIn (KK P) (.ref 233) "turned" = some none)
 ·exact(by kernel_rfl:findIn (KK P) (.ref 233) "lane" = some none)
 ·exact(by kernel_rfl:findIn (KK P) (.ref 233) "slanted" = some none)
 ·exact(by kernel_rfl:findIn (KK P) (.ref 233) "depth" = some none)
theorem jW:cj "Strand" = 268:=by decide +kernel
theorem NP:Mk (KK P) (cj "Strand") 251:=by rw[jW];exact⟨by kernel_rfl,by kernel_rfl,by kernel_rfl,by kernel_rfl⟩
theorem zA:Cls (KK P) (cj "Strand"):=by rw[jW];exact⟨by kernel_rfl,by kernel_rfl,by kernel_rfl,by kernel_rfl⟩
theorem xU:∀f,(iG "Strand").contains f=true→cK (KK P) (cj "Strand") f:=by
 intro f hf;have c9:f∈iG "Strand":=by simpa using hf
 rw[show iG "Strand" = (["first","second","here","there","track"]:List Str) from by decide +kernel]at c9
 simp only[pj,rg,or_false]at c9;rw[jW]
 rcases c9 with rfl|rfl|rfl|rfl|rfl
 ·exact(by kernel_rfl:findIn (KK P) (.ref 268) "first" = some none)
 ·exact(by kernel_rfl:findIn (KK P) (.ref 268) "second" = some none)
 ·exact(by kernel_rfl:findIn (KK P) (.ref 268) "here" = some none)
 ·exact(by kernel_rfl:findIn (KK P) (.ref 268) "there" = some none)
 ·exact(by kernel_rfl:findIn (KK P) (.ref 268) "track" = some none)
theorem ZT:∀cn,ft.contains cn=true→cn = "Pile"∨cn = "Spot"∨cn = "Strand":=fun cn h=>by
 have h:cn∈ft:=by simpa using h
 unfold ft at h;simpa only [pj,rg,or_false] using h
theorem aIh:∀cn,ft.contains cn=true→Cls (KK P) (cj cn):=fun cn h=>by
 rcases ZT cn h with rfl|rfl|rfl
 ·exact OU P
 ·exact OT P
 ·exact zA P
theorem aHE:∀cn f,ft.contains cn=true→(iG cn).contains f=true→cK (KK P) (cj cn) f:=fun cn f h hf=>by
 rcases ZT cn h with rfl|rfl|rfl
 ·exact MN P f hf
 ·exact MM P f hf
 ·exact xU P f hf
variable {P}{h:Heap}{mg:t5}(X:(KK P).In h)(G:h.Ns mainGlobals mg)
include X G
theorem aJj:Df (KK P) mg "laid" (top 13) PM 125 uO:=⟨aAa P,mg_of X G (by kernel_rfl),aIq P⟩
theorem aJo:Df (KK P) mg "laid_row" (top 14) PU 130 uT:=⟨aAf P,mg_of X G (by kernel_rfl),aIv P⟩
theorem aJm:Df (KK P) mg "folded" (top 15) PQ 137 uR:=⟨aAd P,mg_of X G (by kernel_rfl),aIt P⟩
theorem aLI:Df (KK P) mg "refuse_severed" (top 16) aDr 144 DS:=⟨aJf P,mg_of X G (by kernel_rfl),aLu P⟩
theorem aJy:Df (KK P) mg "has_crease" (top 17) QF 151 vD:=⟨aAq P,mg_of X G (by kernel_rfl),aIG P⟩
theorem aLA:Df (KK P) mg "folded_table" (top 18) aDj 156 DK:=⟨aIX P,mg_of X G (by kernel_rfl),aLm P⟩
theorem aJx:Df (KK P) mg "transposed" (top 19) QE 161 vC:=⟨aAp P,mg_of X G (by kernel_rfl),aIF P⟩
theorem aJq:Df (KK P) mg "column_of" (top 20) PX 166 uV:=⟨aAi P,mg_of X G (by kernel_rfl),aIy P⟩
theorem aLB:Df (KK P) mg "folded_strip" (top 21) aDk 173 DL:=⟨aIY P,mg_of X G (by kernel_rfl),aLn P⟩
theorem aJG:Df (KK P) mg "turned_part" (top 22) QN 178 vL:=⟨aAy P,mg_of X G (by kernel_rfl),aIO P⟩
theorem aJI:Df (KK P) mg "turned_heap" (top 23) QP 183 vN:=⟨aAA P,mg_of X G (by kernel_rfl),aIQ P⟩
theorem aLF:Df (KK P) mg "laid_together" (top 24) aDo 188 DP:=⟨aJc P,mg_of X G (by kernel_rfl),aLr P⟩
theorem aJn:Df (KK P) mg "heap_at" (top 25) PR 195 uS:=⟨aAe P,mg_of X G (by kernel_rfl),aIu P⟩
theorem aJz:Df (KK P) mg "neighbours" (top 27) QG 202 vE:=⟨aAr P,mg_of X G (by kernel_rfl),aIH P⟩
theorem aJk:Df (KK P) mg "fault" (top 31) PN 279 uP:=⟨aAb P,mg_of X G (by kernel_rfl),aIr P⟩
theorem aJF:Df (KK P) mg "astray_cell" (top 32) QM 286 vK:=⟨aAx P,mg_of X G (by kernel_rfl),aIN P⟩
theorem aJJ:Df (KK P) mg "all_strands" (top 33) QQ 293 vO:=⟨aAB P,mg_of X G (by kernel_rfl),aIR P⟩
theorem aJB:Df (KK P) mg "torn_joint" (top 34) QI 300 vG:=⟨aAt P,mg_of X G (by kernel_rfl),aIJ P⟩
theorem aLJ:Df (KK P) mg "crossed_joints" (top 35) aDs 307 DT:=⟨aJg P,mg_of X G (by kernel_rfl),aLv P⟩
theorem aJl:Df (KK P) mg "cross" (top 36) PP 314 uQ:=⟨aAc P,mg_of X G (by kernel_rfl),aIs P⟩
theorem aJA:Df (KK P) mg "is_pierced" (top 37) QH 321 vF:=⟨aAs P,mg_of X G (by kernel_rfl),aII P⟩
theorem aJr:Df (KK P) mg "is_within" (top 38) PY 328 uW:=⟨aAj P,mg_of X G (by kernel_rfl),aIz P⟩
theorem aLG:Df (KK P) mg "bridges_cross" (top 39) aDp 335 DQ:=⟨aJd P,mg_of X G (by kernel_rfl),aLs P⟩
theorem aLC:Df (KK P) mg "_law_cell_at" (top 41) aDl 342 DM:=⟨aIZ P,mg_of X G (by kernel_rfl),aLo P⟩
theorem aJC:Df (KK P) mg "_law_whole" (top 42) QJ 349 vH:=⟨aAu P,mg_of X G (by kernel_rfl),aIK P⟩
theorem aLE:Df (KK P) mg "_law_sheet_by" (top 43) aDn 356 DO:=⟨aJb P,mg_of X G (by kernel_rfl),aLq P⟩
theorem aLD:Df (KK P) mg "_law_fold_by" (top 44) aDm 363 DN:=⟨aJa P,mg_of X G (by kernel_rfl),aLp P⟩
theorem aJs:Df (KK P) mg "_law_fill" (top 45) PZ 370 uX:=⟨aAk P,mg_of X G (by kernel_rfl),aIA P⟩
theorem aJw:Df (KK P) mg "_law_seats" (top 46) QD 375 vB:=⟨aAo P,mg_of X G (by kernel_rfl),aIE P⟩
theorem aJu:Df (KK P) mg "_law_near" (top 47) QB 382 uZ:=⟨aAm P,mg_of X G (by kernel_rfl),aIC P⟩
theorem aJp:Df (KK P) mg "_law_line" (top 48) PV 389 uU:=⟨aAh P,mg_of X G (by kernel_rfl),aIx P⟩
theorem aLH:Df (KK P) mg "_law_back_line" (top 49) aDq 396 DR:=⟨aJe P,mg_of X G (by kernel_rfl),aLt P⟩
theorem aJt:Df (KK P) mg "_law_meet" (top 50) QA 403 uY:=⟨aAl P,mg_of X G (by kernel_rfl),aIB P⟩
theorem aJD:Df (KK P) mg "_law_parts" (top 51) QK 408 vI:=⟨aAv P,mg_of X G (by kernel_rfl),aIL P⟩
theorem aJE:Df (KK P) mg "_law_inside" (top 52) QL 415 vJ:=⟨aAw P,mg_of X G (by kernel_rfl),aIM P⟩
theorem aJv:Df (KK P) mg "_law_bends" (top 53) QC 422 vA:=⟨aAn P,mg_of X G (by kernel_rfl),aID P⟩
theorem aJK:Df (KK P) mg "_law_through" (top 54) QR 429 vP:=⟨aAC P,mg_of X G (by kernel_rfl),aIS P⟩
theorem aJH:Df (KK P) mg "_law_places" (top 55) QO 436 vM:=⟨aAz P,mg_of X G (by kernel_rfl),aIP P⟩
theorem aAD:Df (KK P) mg "law" (top 56) sS 441 qD:=⟨ZZ P,mg_of X G (by kernel_rfl),aIo P⟩
theorem aLh:∀x,fK.contains x=true→mg x=none:=by
 intro x hx;have ja:x∈fK:=by simpa using hx
 simp only[fK,pj,rg,or_false]at ja
 rcases ja with rfl|rfl|rfl|rfl|rfl|rfl|rfl|rfl|rfl|rfl|rfl|rfl|rfl|rfl|rfl
 ·exact mg_none_of X G (by kernel_rfl)
 ·exact mg_none_of X G (by kernel_rfl)
 ·exact mg_none_of X G (by kernel_rfl)
 ·exact mg_none_of X G (by kernel_rfl)
 ·exact mg_none_of X G (by kernel_rfl)
 ·exact mg_none_of X G (by kernel_rfl)
 ·exact mg_none_of X G (by kernel_rfl)
 ·exact mg_none_of X G (by kernel_rfl)
 ·exact mg_none_of X G (by kernel_rfl)
 ·exact mg_none_of X G (by kernel_rfl)
 ·exact mg_none_of X G (by kernel_rfl)
 ·exact mg_none_of X G (by kernel_rfl)
 ·exact mg_none_of X G (by kernel_rfl)
 ·exact mg_none_of X G (by kernel_rfl)
 ·exact mg_none_of X G (by kernel_rfl)
theorem aHU{T:Tx}:∀x d,csts.lookup x=some d→zG (KK P) T mg x d:=by
 intro x d hx;have ja:(x,d)∈csts:=qf hx
 simp only[csts,pj,rg,or_false,Prod.mk.injEq]at ja
 rcases ja with ⟨rfl,rfl⟩|⟨rfl,rfl⟩|⟨rfl,rfl⟩|⟨rfl,rfl⟩
 ·exact XX (mg_of X G (by kernel_rfl:nsIn (KK P) mainGlobals "MOST_CELLS" = some (some (.int 64 280))))
 ·have u:(KK P).lookup 83=some ⟨(.type "tuple"),none,(.seq #[(.str "west" 282),(.str "east" 283)] 0),#[]⟩:=by kernel_rfl
  exact vX (xs:=[.str "west",.str "east"]) (mg_of X G (by kernel_rfl:nsIn (KK P) mainGlobals "UPRIGHT_SIDES" = some (some (.ref 83)))) (fun H=>.inr ⟨_,_,_,u,rfl,rfl,by show 2≤sizeLine;rw[sizeLine_eq];decide,.cons ⟨_,rfl⟩ (.cons ⟨_,rfl⟩ .nil)⟩) ⟨_,u⟩ fun H S=>aD.cons (by exact rfl) (aD.cons (by exact rfl) aD.nil)
 ·have u:(KK P).lookup 84=some ⟨(.type "tuple"),none,(.seq #[(.str "north" 285),(.str "south" 286)] 0),#[]⟩:=by kernel_rfl
  exact vX (xs:=[.str "north",.str "south"]) (mg_of X G (by kernel_rfl:nsIn (KK P) mainGlobals "LEVEL_SIDES" = some (some (.ref 84)))) (fun H=>.inr ⟨_,_,_,u,rfl,rfl,by show 2≤sizeLine;rw[sizeLine_eq];decide,.cons ⟨_,rfl⟩ (.cons ⟨_,rfl⟩ .nil)⟩) ⟨_,u⟩ fun H S=>aD.cons (by exact rfl) (aD.cons (by exact rfl) aD.nil)
 ·have u:(KK P).lookup 85=some ⟨(.type "tuple"),none,(.seq #[(.str "west" 288),(.str "north" 289)] 0),#[]⟩:=by kernel_rfl
  exact vX (xs:=[.str "west",.str "north"]) (mg_of X G (by kernel_rfl:nsIn (KK P) mainGlobals "NEAR_SIDES" = some (some (.ref 85)))) (fun H=>.inr ⟨_,_,_,u,rfl,rfl,by show 2≤sizeLine;rw[sizeLine_eq];decide,.cons ⟨_,rfl⟩ (.cons ⟨_,rfl⟩ .nil)⟩) ⟨_,u⟩ fun H S=>aD.cons (by exact rfl) (aD.cons (by exact rfl) aD.nil)
end
def wR(K:so):Sp:=fun vs H Q _=>∃(a:Addr) (ns:List Int),vs=[.ref a]∧SqL K H a (ns.map V.int)∧ns.length≤63∧∀H',Q (.bl true) H'
theorem rP{K:so}{T:Tx}{H:Hp}{S:Addr→Prop}:∀ns:List Int,aD K T H S (ns.map D.int) (ns.map V.int)
 |[]=>aD.nil
 |n::ns=>aD.cons (by exact rfl) (rP ns)
theorem aCt{P:sr}{w:World}{K:so}{mg:t5}{base:Heap}{T:Tx}{k:Nat}{f:Addr}{fd:sq}{fr:Bool}(F:FnOk P w K mg base (dN P w) k f fd sS (fv K T 1 yH fr))(hk:k≤60):FnOk P w K mg base jo 60 f fd ["script"] (wR K):=by
 have key:∀vs H Q E,wR K vs H Q E→fv K T 1 yH fr vs H Q E0:=by
  rintro vs H Q E ⟨a,ns,rfl,hS,hl,q⟩;refine⟨rfl,fun _=>False,[.frz (ns.map D.int)],fun _ z=>z.elim,aD.cons (show Exists _ from⟨a,ns.map V.int,rfl,fun z=>z,hS,rP ns⟩) aD.nil,.inl ⟨.bl true,law_true ns hl,fun v H' sm r _=>?_⟩⟩
  obtain rfl:=r;exact q H'
 refine⟨fun vs H Q E hs=>F.len _ _ _ _ (key vs H Q E hs),fun A outer s H args us vs Q E hr e0 hb hv hs=>?_⟩
 refine codeAny_mono (F.run A outer s H args us vs Q E0 (hr.mono hk) e0 hb hv (key vs H Q E hs)) fun r s' hq=>?_
 cases r with
 |error e=>exact(ZP _ _ _ _ _ hq).elim
 |ok fl=>cases fl<;>exact hq
noncomputable def cs(y:Str):Addr:=0
section
variable {P:Params}
variable {h:Heap}{mg:t5}(X:(KK P).In h)(G:h.Ns mainGlobals mg)
include X G
end
set_option maxHeartbeats 0 in
theorem all_mk{l:PySem.W.OpenLaw}{w:World}{h:Heap}{mg:t5}{fa:Addr}(X:(KK w.params).In h)(G:h.Ns mainGlobals mg)(l6:mg "law" = some (.ref fa)) :
  ∃fd:sq,(∀(s:Shared) (v:Value),BindsTo s fd ⟨[v],[]⟩ [("script",v)])∧∀base:Heap,(KK w.params).In base→base.Ns mainGlobals mg→FnOk l.prog w (KK w.params) mg base jo 60 fa fd ["script"] (wR (KK w.params)):=by
 have e:=l6.symm.trans (aAD X G).at_
 cases e;refine⟨qD,fun s v=>.of_eq rfl,fun base _ _=>?_⟩
 have m:=mk1 (mk0 (P:=l.prog) (w:=w) (base:=base) (C:=cj) (cs:=cs) (aHU X G) (aIh _) (aHE _) (aLh X G) (fun k hk=>absurd hk (by unfold fe;simp)) (fun k hk=>absurd hk (by unfold fe;simp)) (fun k _ hk=>absurd hk (by unfold fe;simp)) aJP) (by rw[oS];exact mg_of X G (by kernel_rfl)) (aCF _) (aIw _) (aAg _) (OU _) (MN _)
 replace m:MO _ _ _ _ _ _ _ m2 g2 4:=k9 (fr:=true) aHY aEM aGz aFy m (aJi _);replace m:MO _ _ _ _ _ _ _ m3 g3 6:=VY m (by rw[oR];exact mg_of X G (by kernel_rfl)) (aCE _) (nV _) (iS _) (OT _) (MM _)
 replace m:MO _ _ _ _ _ _ _ m4 g4 7:=k9 (fr:=false) BE zR AD zW m (BP _);replace m:MO _ _ _ _ _ _ _ m5 g5 8:=k9 (fr:=false) yO wW xR xC m (zF _);replace m:MO _ _ _ _ _ _ _ m6 g6 10:=HX m (by rw[jW];exact mg_of X G (by kernel_rfl)) (NP _) (lU _) (gL _) (zA _) (xU _)
 replace m:MO _ _ _ _ _ _ _ m7 g7 11:=k9 (fr:=false) JA GW HP HB m (JQ _);replace m:MO _ _ _ _ _ _ _ m8 g8 12:=k9 (fr:=false) JB GX HQ HC m (JR _);replace m:MO _ _ _ _ _ _ _ m9 g9 13:=az aES aGF aFE m (aJo X G);replace m:MO _ _ _ _ _ _ _ m10 g10 14:=az aEN aGA aFz m (aJj X G);replace m:MO _ _ _ _ _ _ _ m11 ni 15:=az aER aGE aFD m (aJn X G);replace m:MO _ _ _ _ _ _ _ m12 g12 16:=az aKp aKU aKC m (aLF X G);replace m:MO _ _ _ _ _ _ _ m13 nh 17:=az aFm aGZ aFY m (aJI X G);replace m:MO _ _ _ _ _ _ _ m14 kb 18:=az aFk aGX aFW m (aJG X G);replace m:MO _ _ _ _ _ _ _ m15 g15 19:=az aKl aKQ aKy m (aLB X G);replace m:MO _ _ _ _ _ _ _ m16 ng 20:=az aEU aGH aFG m (aJq X G);replace m:MO _ _ _ _ _ _ _ m17 ka 21:=az aFb aGO aFN m (aJx X G);replace m:MO _ _ _ _ _ _ _ m18 g18 22:=az aKk aKP aKx m (aLA X G);replace m:MO _ _ _ _ _ _ _ m19 g19 23:=az aFc aGP aFO m (aJy X G);replace m:MO _ _ _ _ _ _ _ m20 jl 24:=az aKs aKX aKF m (aLI X G);replace m:MO _ _ _ _ _ _ _ m21 g21 25:=az aEQ aGD aFC m (aJm X G);replace m:MO _ _ _ _ _ _ _ m22 g22 26:=az aFd aGQ aFP m (aJz X G);replace m:MO _ _ _ _ _ _ _ m23 jk 27:=az aFj aGW aFV m (aJF X G);replace m:MO _ _ _ _ _ _ _ m24 mG 28:=az aFn aHa aFZ m (aJJ X G);replace m:MO _ _ _ _ _ _ _ m25 g25 29:=az aFf aGS aFR m (aJB X G);replace m:MO _ _ _ _ _ _ _ m26 mz 30:=az aEV aGI aFH m (aJr X G);replace m:MO _ _ _ _ _ _ _ m27 g27 31:=az aFe aGR aFQ m (aJA X G);replace m:MO _ _ _ _ _ _ _ m28 jj 32:=az aKq aKV aKD m (aLG X G);replace m:MO _ _ _ _ _ _ _ m29 my 33:=az aEP aGC aFB m (aJl X G);replace m:MO _ _ _ _ _ _ _ m30 i0 34:=az aKt aKY aKG m (aLJ X G);replace m:MO _ _ _ _ _ _ _ m31 g31 35:=az aEO aGB aFA m (aJk X G);replace m:MO _ _ _ _ _ _ _ m32 g32 36:=az aKm aKR aKz m (aLC X G);replace m:MO _ _ _ _ _ _ _ m33 g33 37:=az aFg aGT aFS m (aJC X G);replace m:MO _ _ _ _ _ _ _ m34 mw 38:=az aKo aKT aKB m (aLE X G);replace m:MO _ _ _ _ _ _ _ m35 jD 39:=az aKn aKS aKA m (aLD X G);replace m:MO _ _ _ _ _ _ _ m36 iz 40:=mkA aEW aGJ aFI m (aJs X G);replace m:MO _ _ _ _ _ _ _ m37 g37 41:=az aFa aGN aFM m (aJw X G);replace m:MO _ _ _ _ _ _ _ m38 g38 42:=az aEY aGL aFK m (aJu X G);replace m:MO _ _ _ _ _ _ _ m39 g39 43:=az aET aGG aFF m (aJp X G);replace m:MO _ _ _ _ _ _ _ m40 j9 44:=az aKr aKW aKE m (aLH X G);replace m:MO _ _ _ _ _ _ _ m41 g41 45:=az aEX aGK aFJ m (aJt X G);replace m:MO _ _ _ _ _ _ _ m42 g42 46:=az aFh aGU aFT m (aJD X G);replace m:MO _ _ _ _ _ _ _ m43 mr 47:=az aFi aGV aFU m (aJE X G);replace m:MO _ _ _ _ _ _ _ m44 mn 48:=az aEZ aGM aFL m (aJv X G);replace m:MO _ _ _ _ _ _ _ m45 iy 49:=az aFo aHb aGa m (aJK X G);replace m:MO _ _ _ _ _ _ _ ll di 50:=az aFl aGY aFX m (aJH X G);exact aCt (aCq m (aAD X G)) (by decide)
theorem walk{l:PySem.W.OpenLaw}{q:sr}{loose:List Str}{XP:(t5)→Heap→Prop}{YP:World→Heap→Prop}{d:DefRec}{K:Params→so}(hn:l.most=some 63)(mh:d.params.defaults=[])
  (hY:∀(w:World) (h:Heap),YP w h→(K w.params).In h)
  (F:∀(w:World) (mg:t5) (fa:Addr) (h:Heap),(K w.params).In h→h.Ns mainGlobals mg→mg d.name=some (.ref fa) →
   ∃fd:sq,(∀(s:Shared) (u:Value),BindsTo s fd ⟨[u],[]⟩ [("script",u)])∧∀base:Heap,(K w.params).In base→base.Ns mainGlobals mg→FnOk l.prog w (K w.params) mg base jo 60 fa fd ["script"] (wR (K w.params))) :
  PySem.W.WalkO q loose XP YP l.row.toRowW d [] (fun f vs=>PySem.call f vs):=
 L2.RN (n:=63) (k:=60) (x:="script") (CX:=fun _=>jo) (sp:=fun w=>wR (K w.params)) hn (by decide) mh ⟨rfl,by decide,by decide⟩ hY F (fun _ _ a ns hl _ hS=>⟨a,ns,rfl,hS,hl,fun _=>rfl⟩) fun _ _ _ _ _ z=>z
end Toy
open PySem PySem.W PyProof.Rows
set_option maxRecDepth 100000 in
set_option maxHeartbeats 0 in
theorem PySem.Challenge.cw_leaffold_k07_whole_no_layer_through_holds : PySem.Challenge.rw_leaffold_k07_whole_no_layer_through.Holds := by
 w_on;refine holds_law (by kernel_rfl) fun said=>?_
 refine holds_open (q:=Toy.vw) (loose:=[]) (Xt:=Toy.Xt) (XP:=XL Toy.vw []) (Yf:=Hook.obs Toy.HH) (Ya:=Hook.val Toy.HH) (YP:=Hook.says Toy.HH) (N:=6574) Toy.left (Hook.of Toy.HH) (Hook.keeps Toy.HH) (fun s e=>xl_of s (Bool.and_eq_true_iff.mp e).1) XL.keeps (by rfl) (by rfl) (by rfl) (fun s e=>recFacts_of (Bool.and_eq_true_iff.mp e).2) (by rfl) (by first|assumption|decide +kernel) (by decide +kernel) ⟨rfl,rfl,rfl,rfl,rfl,by decide +kernel⟩ ?hw ?hc
 case hw=>w_witness2
 case hc=>exact Toy.walk (l:=Toy.lw) (K:=Toy.KK) rfl rfl (fun w h Y=>PySem.W.kIn_of Y) fun w mg fa h KX G lx=>Toy.all_mk KX G lx
