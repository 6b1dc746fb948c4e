import PyProof.Rows.All
import PyProof.Rows.StrJoin2
import PyProof.Rows.StrNews
import KE.KIntText
import PyProof.EnumMake
import PyProof.WalksEnum
import PyProof.LayNew
import KE.KDictList
import KE.KIsAll
import KE.KRevIter
import KE.KSortTup
import KE.LcSums
import PySem.Challenge.RW_leaffold_k16_whole_book
noncomputable section
set_option linter.all false
set_option maxRecDepth 100000
set_option maxHeartbeats 4000000
set_option Elab.async false
set_option genSizeOf false
set_option bootstrap.genMatcherCode false
set_option compiler.extract_closed false
open Array (append_empty getD_eq_getD_getElem? length_toList toList_extract toList_inj)
open Bool (not_eq_true' or_eq_true)
open List (all_cons all_eq_true any_cons any_eq_false any_map contains_iff_mem drop_drop drop_left drop_zero filter_congr find?_cons flatMap_cons flatMap_map flatMap_nil forIn_cons getElem?_drop length_filter_le length_nil lookup_cons map_nil map_take mem_filter mem_flatMap mem_of_mem_drop nil_append nodup_cons nodup_iff_pairwise_ne pairwise_lt_range pairwise_map pairwise_singleton perm_append_comm range' range_succ reverse_cons take_append_drop take_of_length_le take_zero)
open Nat (le_of_lt le_succ_of_le lt_of_le_of_lt min_eq_left min_le_right not_lt toDigits)
open Option (getD_some)
open PySem.F (args_tuple_add_2 entry_tuple_add plainAttrs_list plainAttrs_str slot_tuple_add)
open PySem.W (callWith_K callWith_K0 codeIn emptyDict excIn findIn handedIn hasDictIn hideAll instObj isFn keepIn kia_one kitOne kitx_dict kitx_list lookIn makesIn methodObj mg_of mroIn nsIn plainGet plainGet_of plainOver specialIn takerIn takesIn)
open Option renaming some->O,none->U
open Bool renaming true->Y,false->J
theorem yx{p:Prop}(h:p:=by lia):p:=h
theorem yz{p:Prop}(h:p:=by kernel_rfl):p:=h
theorem y7{p:Prop}(h:p:=by decide +kernel):p:=h
theorem y8{p:Prop}(h:p:=by decide):p:=h
theorem y9{p:Prop}(h:p:=by simp):p:=h
abbrev sj:=@List.getElem?_eq_some_iff
abbrev sk:=@List.getD_eq_getElem?_getD
abbrev so:=@Option.some.injEq
abbrev sq:=@List.mem_of_getElem?
abbrev sr:=@Option.bind_eq_some_iff
abbrev su:=@List.getElem?_eq_getElem
abbrev sv:=@List.getElem?_map
abbrev t8:=@List.length_map
abbrev t9:=@Nat.le_refl
abbrev tf:=@Option.bind_eq_bind
abbrev tj:=@decide_eq_false
abbrev tm:=@PySem.Heap.get?_push_of_some
abbrev tu:=@Bool.false_eq_true
abbrev tw:=@List.mem_cons_of_mem
abbrev u0:=@List.size_toArray
abbrev u3:=@Bool.and_eq_true
abbrev u4:=@Option.some.inj
abbrev u5:=@Option.map_eq_some_iff
abbrev u6:=@List.append_assoc
abbrev u7:=@Nat.lt_of_lt_of_le
abbrev ua:=@Bool.false_ne_true
abbrev ub:=@decide_eq_true_eq
abbrev uc:=@List.length_range
abbrev ud:=@List.getElem?_set_self
abbrev ue:=@List.getElem?_set_ne
abbrev uf:=@PySem.Heap.lt_size
abbrev ug:=@Nat.le_trans
abbrev uh:=@List.mem_singleton
abbrev ui:=@List.mem_cons
abbrev uj:=@PyProof.Rows.callWith_type1
abbrev uk:=@Nat.zero_add
abbrev um:=@List.length_append
abbrev uo:=@Bool.not_true
abbrev uq:=@List.append_nil
abbrev ur:=@List.length_eq_zero_iff
abbrev uu:=@List.map_cons
abbrev uv:=@decide_eq_true
abbrev uw:=@beq_iff_eq
abbrev ux:=@List.mem_map
abbrev uy:=@PySem.mem_of_lookup
abbrev uz:=@beq_eq_false_iff_ne
abbrev v3:=@Nat.ne_of_lt
abbrev v7:=@List.length_take
abbrev v8:=@List.mem_append_right
abbrev v9:=@List.mem_append_left
abbrev va:=@Nat.lt_irrefl
abbrev vb:=@PySem.wpAny_bind
abbrev vc:=@PySem.wpAny_pure
abbrev vd:=@PySem.wpAny_mono
abbrev ve:=@PySem.Heap.get?_push_size
abbrev vf:=@Option.map_some
abbrev vg:=@Option.bind_some
abbrev vh:=@Nat.le_succ
abbrev vi:=@List.mem_cons_self
abbrev vj:=@Nat.lt_succ_self
abbrev vk:=@List.getElem?_range
abbrev vm:=@List.length_cons
abbrev vn:=@List.map_append
abbrev vo:=@List.take_add_one
abbrev vp:=@List.not_mem_nil
abbrev vq:=@List.map_map
abbrev vt:=@List.getElem?_append_left
abbrev vx:=@List.getElem?_append_right
abbrev vy:=@List.mem_range
abbrev vz:=@Nat.zero_le
abbrev w4:=@List.length_reverse
abbrev w5:=@List.take_length
abbrev w6:=@List.drop_length
abbrev w8:=@List.length_drop
abbrev w9:=@List.getElem_mem
abbrev wa:=@List.pairwise_cons
abbrev wb:=@List.mem_append
abbrev wc:=PySem.W.Frag
abbrev we:=PySem.FuncData
abbrev wg:=PySem.Program
abbrev wj:=PySem.Value->PySem.Shared->Prop
abbrev wk:=List (PySem.Addr×PySem.Obj)
abbrev wm:=PySem.Str->Option PySem.Value
abbrev wo:PySem.Str:="threaded_cells"
abbrev wq:PySem.Str:="refuse_unbound"
abbrev wt:PySem.Str:="refuse_severed"
abbrev wu:PySem.Str:="UPRIGHT_SIDES"
abbrev wx:PySem.Str:="hung_together"
abbrev wy:PySem.Str:="upright_pages"
abbrev wz:PySem.Str:="laid_together"
abbrev xa:PySem.Str:="_law_sheet_by"
abbrev xb:PySem.Str:="folded_strip"
abbrev xf:PySem.Str:="_law_fold_by"
abbrev xg:PySem.Str:="_law_cell_at"
abbrev xh:PySem.Str:="folded_table"
abbrev xi:PySem.Str:="read_crease"
abbrev xj:PySem.Str:="SPINE_LINES"
abbrev xo:PySem.Str:="turned_part"
abbrev xp:PySem.Str:="_law_leaves"
abbrev xq:PySem.Str:="turned_heap"
abbrev xr:PySem.Str:="_law_knives"
abbrev xt:PySem.Str:="LEVEL_SIDES"
abbrev xu:PySem.Str:="_law_falls"
abbrev xv:PySem.Str:="_law_loose"
abbrev xw:PySem.Str:="transposed"
abbrev xx:PySem.Str:="neighbours"
abbrev x5:PySem.Str:="_law_again"
abbrev x6:PySem.Str:="shown_fold"
abbrev x8:PySem.Str:="has_crease"
abbrev x9:PySem.Str:="_law_whole"
abbrev ya:PySem.Str:="all_joints"
abbrev yb:PySem.Str:="NEAR_SIDES"
abbrev yc:PySem.Str:="MOST_CELLS"
abbrev yd:PySem.Str:="edge_lines"
abbrev ye:PySem.Str:="_law_ties"
abbrev yf:PySem.Str:="column_of"
abbrev yg:PySem.Str:="read_fold"
abbrev yh:PySem.Str:="_law_book"
abbrev yi:PySem.Str:="_law_near"
abbrev yj:PySem.Str:="_law_shut"
abbrev yk:PySem.Str:="laid_row"
abbrev yo:PySem.Str:="severed"
abbrev yp:PySem.Str:="heap_at"
abbrev yq:PySem.Str:="columns"
abbrev yr:PySem.Str:="joints"
abbrev yt:PySem.Str:="folded"
abbrev yu:PySem.Str:="pieces"
abbrev yv:PySem.Str:="bolts"
namespace L2
open PySem PySem.Spec PyProof.Rows
variable {us:List Value}{x:Str}{u:Value}{a b C:Addr}{P:wg}{w:World}{h base:Heap}{t' i:Nat}{ch:List Addr}{e tg:Expr}{N ps:List Str}{σ:Model}{A:Around}{E Q:wj}{s:Shared}{pins:wk}{pos:Pos}{op:CmpOp}{K:wc}{kw:List (Str×Value)}{mg:wm}{fd:we}{kindOf:Str->Option NameKind}
abbrev Key:=Sum Int Str
noncomputable def sI:Key->Value->Bool
 |.inl k,v=>Value.isInt k v
 |.inr x,v=>Value.isStrOf x v
noncomputable def aHx(w:World):Key->Int
 |.inl k=>hashInt k
 |.inr x=>hashStr w x
theorem cJ:∀{k:Key} {v:Value},sI k v=Y->(∃i t,k=Sum.inl i/\v=Value.int i t)\/(∃x t,k=Sum.inr x/\v=Value.str x t)
 |.inl i,v,h=>by obtain⟨t,e⟩:=Value.isInt_shape (k:=i) (v:=v) h;exact .inl ⟨i,t,rfl,e⟩
 |.inr x,v,h=>by obtain⟨t,e⟩:=Value.isStrOf_shape (x:=x) (v:=v) h;exact .inr ⟨x,t,rfl,e⟩
def HL(i:Int)(t:Tok):sI (.inl i) (.int i t)=Y:=by simp[sI,Value.isInt]
def HK(x:Str)(t:Tok):sI (.inr x) (.str x t)=Y:=by simp[sI,Value.isStrOf]
def aCT(a b:Int):decide ((Sum.inl a:Key)=Sum.inl b)=(a == b):=by by_cases e:a=b;subst e;simp;have h:¬(Sum.inl a:Key)=Sum.inl b:=λq=>e (Sum.inl.inj q);rw[tj h];exact(uz.mpr e).symm
def aCQ(a b:Str):decide ((Sum.inr a:Key)=Sum.inr b)=decide (a=b):=by by_cases e:a=b;subst e;simp;have h:¬(Sum.inr a:Key)=Sum.inr b:=λq=>e (Sum.inr.inj q);rw[tj h,tj e]
def aCS(a:Int)(b:Str):decide ((Sum.inl a:Key)=Sum.inr b)=J:=tj (λq=>nomatch q)
def aCR(a:Str)(b:Int):decide ((Sum.inr a:Key)=Sum.inl b)=J:=tj (λq=>nomatch q)
def bV(prog:wg)(w:World):PySem.KeyKind prog w Key where
 is:=sI
 hash:=aHx w
 inj:=λv a b ha hb=>by
  rcases cJ ha with ⟨i,t,rfl,rfl⟩|⟨x,t,rfl,rfl⟩
  .rcases cJ hb with ⟨j,u,rfl,e⟩|⟨y,u,rfl,e⟩
   .injection e with e1 _;rw[e1]
   .exact nomatch e
  .rcases cJ hb with ⟨j,u,rfl,e⟩|⟨y,u,rfl,e⟩
   .exact nomatch e
   .injection e with e1 _;rw[e1]
 byValue:=λk v h=>by
  rcases cJ h with ⟨i,t,rfl,rfl⟩|⟨x,t,rfl,rfl⟩<;>rfl
 pyHash:=λhv h=>by
  rcases cJ hv with ⟨i,t,rfl,rfl⟩|⟨x,t,rfl,rfl⟩
  .exact wpAny_pyHash_int h
  .exact wpAny_pyHash_str h
 eqBool:=λhu hv h=>by
  rcases cJ hu with ⟨i,t,rfl,rfl⟩|⟨x,t,rfl,rfl⟩
  .rcases cJ hv with ⟨j,u,rfl,rfl⟩|⟨y,u,rfl,rfl⟩
   .rw[aCT]at h;exact wpAny_eqBool_int h
   .rw[aCS]at h;exact SeqAt.EqAt.int_str i t y u _ _ _ _ h
  .rcases cJ hv with ⟨j,u,rfl,rfl⟩|⟨y,u,rfl,rfl⟩
   .rw[aCR]at h;exact SeqAt.EqAt.str_int x t j u _ _ _ _ h
   .rw[aCQ]at h;exact wpAny_eqBool_str h
 «strs»:=λk x t v h=>by
  rcases cJ h with ⟨i,u,rfl,e⟩|⟨y,u,rfl,e⟩
  .exact nomatch e
  .injection e with e1 _
   subst e1;cases v<;>rfl
def xJ(prog:wg)(w:World)(i:Int)(t:Tok):(bV prog w).is (.inl i) (.int i t)=Y:=HL i t
def eA(prog:wg)(w:World)(x:Str)(t:Tok):(bV prog w).is (.inr x) (.str x t)=Y:=HK x t
inductive V where
 |non|bl (b:Bool)|int (i:Int)|str (x:Str)|byt (b:Array UInt8)|flt (b:UInt64)|ref (a:Addr)|ty (n:String)
 deriving DecidableEq
noncomputable def RelV:V->Value->Prop
 |.non,u=>u=Value.none
 |.bl b,u=>u=Value.bool b
 |.int i,u=>∃t,u=Value.int i t
 |.str x,u=>∃t,u=Value.str x t
 |.byt b,u=>∃t,u=Value.bytes b t
 |.flt b,u=>∃t,u=Value.float b t
 |.ref a,u=>u=Value.ref a
 |.ty n,u=>u=Value.type n
abbrev aX:List V->List Value->Prop:=Paired RelV
theorem aX.length{xs:List V}(r:aX xs us):xs.length=us.length:=Paired.length r
theorem aX.get:∀{xs:List V} {us:List Value} {i:Nat} {x:V},aX xs us->xs[i]?=O x->∃u,us[i]?=O u/\RelV x u
 |_,_,_,_,.nil,e=>by simp at e
 |_,_,0,_,.cons r _,e=>by simp at e;subst e;exact⟨_,rfl,r⟩
 |_,_,i+1,x,.cons _ t,e=>by obtain⟨u,h1,h2⟩:=aX.get (i:=i) (x:=x) t (by simpa using e);exact⟨u,by simpa using h1,h2⟩
theorem aX.set{x:V}(r:RelV x u):∀{xs:List V} {us:List Value} (i:Nat),aX xs us->aX (xs.set i x) (us.set i u)
 |_,_,_,.nil=>.nil
 |_,_,0,.cons _ t=>.cons r t
 |_,_,i+1,.cons q t=>.cons q (aX.set r i t)
theorem aX.append:∀{xs ys:List V} {us ws:List Value},aX xs us->aX ys ws->aX (xs++ys) (us++ws)
 |_,_,_,_,.nil,s=>s
 |_,_,_,_,.cons r t,s=>.cons r (aX.append t s)
theorem aX.take:∀{xs:List V} {us:List Value} (n:Nat),aX xs us->aX (xs.take n) (us.take n)
 |_,_,0,_=>.nil
 |_,_,_+1,.nil=>.nil
 |_,_,n+1,.cons r t=>.cons r (aX.take n t)
theorem aX.drop:∀{xs:List V} {us:List Value} (n:Nat),aX xs us->aX (xs.drop n) (us.drop n)
 |_,_,0,r=>r
 |_,_,_+1,.nil=>.nil
 |_,_,n+1,.cons _ t=>aX.drop n t
noncomputable def iX:Option V->Option Value->Prop
 |some v,O u=>RelV v u
 |none,U=>True
 |_,_=>False
def KV{κ:Type}:List (κ×V)->List (κ×Value)->Prop:=Paired λ(p:κ×V) (q:κ×Value)=>p.1=q.1/\RelV p.2 q.2
noncomputable def kV:Key->V
 |.inl i=>.int i
 |.inr x=>.str x
inductive HO where
 |lst (xs:List V)
 |tup (xs:List V)
 |dK (kvs:List (Key×V))|dT (kvs:List (List Key×V))
 |set (S:Int->Bool) (n:Nat)
 |ins (C dx:Addr) (fs:List (Str×V))
 |own (x:Addr)
 |xd (fs:List (Str×V))
 |met (f x:Addr)
 |rng (lo hi:Int)
 |frz (o:Obj) (u:HO)
 |tbl (ps:Array Value)
 |ext (φ:Heap->Prop)
abbrev Hp:=Addr->Option HO
noncomputable def upd(H:Hp)(a:Addr)(o:HO):Hp:=λb=>if b=a then O o else H b
def aS{H:Hp}{o:HO}:upd H a o a=O o:=by unfold upd;rw[if_pos rfl]
def aM{H:Hp}{o:HO}(h:b≠a):upd H a o b=H b:=by unfold upd;rw[if_neg h]
def aQ{H:Hp}{o:HO}(h:H a=O o)(h':H b=U):a≠b:=by intro e;subst e;rw[h]at h';cases h'
section
variable (P:wg)(w:World)
def cP(H:Hp)(h:Heap)(a:Addr):HO->Prop
 |.lst xs=>xs.length<=sizeLine/\∃(its:List Value) (n:Nat),aX xs its/\h.get? a=O {cls:=.type "list",data:=.seq its.toArray n}
 |.tup xs=>xs.length<=sizeLine/\∃its:List Value,aX xs its/\IsTup h a its.toArray
 |.dK kvs=>kvs.length<=sizeLine/\(a == sysModules)=J/\∃vs,KV kvs vs/\h.DictOf (bV P w) a vs
 |.dT kvs=>kvs.length<=sizeLine/\(a == sysModules)=J/\∃xs:List (List Key×Addr×Value),Paired (λ(p:List Key×V) (q:List Key×Addr×Value)=>p.1=q.1/\H q.2.1=O (.tup (p.1.map kV))/\RelV p.2 q.2.2) kvs xs /\∃o es ep,h.get? a=O o/\o.ExactDict/\o.data=.dict es ep/\es.toList=xs.map (entryOfKey (tupleKind (bV P w)))/\(xs.map (·.1)).Nodup
 |.set S n=>h.SetOf (intKind P w) a S n
 |.ins C dx fs=>H dx=O (.own a)/\fs.length<=1000/\dx≠a/\h.get? a=O (instObj C dx) /\∃mA,h.Ns1 dx mA/\(∀f,iX (fs.lookup f) (mA f))/\PySem.Within mA (fs.map (·.1))
 |.own _=>∃o,h.get? a=O o
 |.xd fs=>∃mA,h.Ns1 a mA/\∀f,iX (fs.lookup f) (mA f)
 |.rng lo hi=>∃t u v,h.get? a=O {cls:=.type "range",data:=.fields #[.int lo t,.int hi u,.int 1 v]}
 |.frz o u=>h.get? a=O o/\cP H h a u
 |.tbl ps=>h.get? a=O {cls:=.none,data:=.fields ps}
 |.met f x=>h.get? a=O (methodObj (.ref f) (.ref x))
 |.ext φ=>φ h/\(∃o,h.get? a=O o)/\∀h1 h2:Heap,φ h1->(∀o,h1.get? a=O o->h2.get? a=O o)->φ h2
def HOk(H:Hp)(h:Heap):Prop:=∀a o,H a=O o->cP P w H h a o
end
section
variable {P:wg}{w:World}{H H':Hp}{h h':Heap}{a:Addr}{o:HO}
theorem cP.lt(x:cP P w H h a o):a<h.objs.size:=by
 cases o with
 |lst xs=>obtain⟨_,_,_,_,e⟩:=x;exact uf e
 |tup xs=>obtain⟨_,_,_,p⟩:=x;exact p.lt
 |dK kvs=>obtain⟨_,_,_,_,o,_,_,e,_⟩:=x;exact uf e
 |dT kvs=>obtain⟨_,_,_,_,o,_,_,e,_⟩:=x;exact uf e
 |set S n=>obtain⟨o,_,_,_,e,_⟩:=x;exact uf e
 |ins C dx fs=>obtain⟨_,_,_,e,_⟩:=x;exact uf e
 |own y=>obtain⟨_,e⟩:=x;exact uf e
 |xd fs=>obtain⟨_,⟨_,_,_,e,_⟩,_⟩:=x;exact uf e
 |rng lo hi=>obtain⟨_,_,_,e⟩:=x;exact uf e
 |frz z u=>obtain⟨e,_⟩:=x;exact uf e
 |tbl ps=>exact uf (show h.get? a=O _ from x)
 |met f y=>exact uf (show h.get? a=O _ from x)
 |ext φ=>obtain⟨_,⟨_,e⟩,_⟩:=x;exact uf e
theorem Paired.mapP{R β:Type}{F G:R->β->Prop}:∀{I:List R} {z:List β},Paired F I z->(∀a b,F a b->G a b)->Paired G I z
 |_,_,.nil,_=>.nil
 |_,_,.cons r t,f=>.cons (f _ _ r) (Paired.mapP t f)
def cP.stay(x:cP P w H h a o)(k:∀b u,(b=a\/H b=O (.own a))->h.get? b=O u->h'.get? b=O u) (ho:∀b,H b=O (.own a)->H' b=O (.own a)) (ht:∀b xs,H b=O (.tup xs)->H' b=O (.tup xs)):cP P w H' h' a o:=by
 induction o with
 |lst xs=>obtain⟨z,its,n,r,e⟩:=x;exact⟨z,its,n,r,k _ _ (.inl rfl) e⟩
 |tup xs=>obtain⟨z,its,r,I,e,c⟩:=x;exact⟨z,its,r,I,k _ _ (.inl rfl) e,c⟩
 |dK kvs=>obtain⟨z,y,vs,r,I,es,ep,e,c⟩:=x;exact⟨z,y,vs,r,I,es,ep,k _ _ (.inl rfl) e,c⟩
 |dT kvs=>obtain⟨z,y,xs,r,I,es,ep,e,c⟩:=x;exact⟨z,y,xs,Paired.mapP r λp q z=>⟨z.1,ht _ _ z.2.1,z.2.2⟩,I,es,ep,k _ _ (.inl rfl) e,c⟩
 |set S n=>obtain⟨I,es,ep,t,e,c⟩:=x;exact⟨I,es,ep,t,k _ _ (.inl rfl) e,c⟩
 |ins C dx fs=>obtain⟨d,z,ne,e,mA,⟨od,es,ep,e2,c⟩,r⟩:=x;exact⟨ho _ d,z,ne,k _ _ (.inl rfl) e,mA,⟨od,es,ep,k _ _ (.inr d) e2,c⟩,r⟩
 |own y=>obtain⟨I,e⟩:=x;exact⟨I,k _ _ (.inl rfl) e⟩
 |xd fs=>obtain⟨mA,⟨od,es,ep,e,c⟩,r⟩:=x;exact⟨mA,⟨od,es,ep,k _ _ (.inl rfl) e,c⟩,r⟩
 |rng lo hi=>obtain⟨t,u,v,e⟩:=x;exact⟨t,u,v,k _ _ (.inl rfl) e⟩
 |frz I u ih=>obtain⟨e,q⟩:=x;exact⟨k _ _ (.inl rfl) e,ih q⟩
 |tbl ps=>have e:h.get? a=O {cls:=.none,data:=.fields ps}:=x;show h'.get? a=O {cls:=.none,data:=.fields ps};exact k a _ (.inl rfl) e
 |met f y=>have e:h.get? a=O (methodObj (.ref f) (.ref y)):=x;show h'.get? a=O (methodObj (.ref f) (.ref y));exact k a _ (.inl rfl) e
 |ext φ=>obtain⟨p,⟨o,e⟩,st⟩:=x;exact⟨st _ _ p λo q=>k _ _ (.inl rfl) q,⟨o,k _ _ (.inl rfl) e⟩,st⟩
theorem HOk.lt(x:HOk P w H h)(e:H a=O o):a<h.objs.size:=(x a o e).lt
def HOk.fresh(x:HOk P w H h)(e:h.objs.size<=a):H a=U:=by
 cases q:H a with
 |none=>rfl
 |some u=>exact absurd (u7 (x.lt q) e) (va _)
def HOk.kept(x:HOk P w H h)(k:∀b u,h.get? b=O u->h'.get? b=O u):HOk P w H h':=λa o e=>(x a o e).stay (λb u _ q=>k b u q) (λ_ q=>q) λ_ _ q=>q
def HOk.laid(x:HOk P w H h)(k:∀b u,h.get? b=O u->h'.get? b=O u)(hp:h.objs.size<=a)(new:cP P w (upd H a o) h' a o):HOk P w (upd H a o) h':=λb u e=>by have hn:=x.fresh hp;by_cases hb:b=a;subst hb;rw[aS]at e;cases e;exact new;rw[aM hb]at e;exact(x b u e).stay (λc v _ q=>k c v q) (λc q=>by rw[aM (aQ q hn)];exact q) λc xs q=>by rw[aM (aQ q hn)];exact q
end
def Rd(H:Hp)(a:Addr)(u:HO):Prop:=H a=O u\/∃o,H a=O (.frz o u)
def Rd.ok{H:Hp}{u:HO}(r:Rd H a u)(x:HOk P w H h):cP P w H h a u:=by rcases r with r|⟨o,r⟩;exact x a u r;obtain⟨_,q⟩:=x a _ r;exact q
noncomputable def rn:Option HO->Prop
 |some (.lst _)=>True
 |some (.dK _)=>True
 |some (.dT _)=>True
 |some (.set _ _)=>True
 |some (.ins _ _ _)=>True
 |some (.ext _)=>True
 |_=>False
section
variable {P:wg}{w:World}{H:Hp}{h h':Heap}{x e:Addr}{o':HO}
def HOk.write(ok:HOk P w H h)(mu:rn (H x))(he:e=x\/H e=O (.own x))(k:∀b u,b≠e->h.get? b=O u->h'.get? b=O u)(mG:∃u,h'.get? e=O u) (new:cP P w (upd H x o') h' x o'):HOk P w (upd H x o') h':=λb u q=>by
 have I:∀c y,H c=O (.own y)->c≠x:=λc y r z=>by subst z;rw[r]at mu;exact mu
 have ntup:∀c xs,H c=O (.tup xs)->c≠x:=λc xs r z=>by subst z;rw[r]at mu;exact mu
 by_cases hb:b=x;subst hb;rw[aS]at q;cases q;exact new;rw[aM hb]at q;by_cases lq:b=e;have q':H b=O (.own x):=by rcases he with z|z;exact absurd (lq.trans z) hb;rw[lq];exact z
 rw[q]at q';cases q';obtain⟨v,hv⟩:=mG;exact⟨v,by rw[lq];exact hv⟩;refine(ok b u q).stay (λc v hc r=>k c v ?_ r) (λc r=>by rw[aM (I c b r)];exact r) λc xs r=>by rw[aM (ntup c xs r)];exact r
 rcases hc with rfl|hc;exact lq;rintro rfl;rcases he with z|z;exact I c b hc z;rw[hc]at z;cases z;exact hb rfl
end
structure Un (fs ex:List Addr) (H H':Hp) (h h':Heap):Prop where
 keep:∀b o,h.get? b=O o->H b=U->b∉fs->b∉ex->h'.get? b=O o
 slot:∀b o,h.get? b=O o->H b=U->b∈fs->b∉ex->∃sl,h'.get? b=O {o with slots:=sl}
 free:∀b o,h.get? b=O o->H b=U->b∉ex->H' b=U
 there:∀b o,h.get? b=O o->b∉ex->∃o',h'.get? b=O o'
 tups:∀b xs,H b=O (.tup xs)->H' b=O (.tup xs)
 frzs:∀b o u,H b=O (.frz o u)->H' b=O (.frz o u)
 tbls:∀b ps,H b=O (.tbl ps)->∃more,H' b=O (.tbl (ps++more))
section
variable {fs fs' ex ex':List Addr}{H H1 H2:Hp}{h h1 h2 h':Heap}{a x e:Addr}{o:HO}
def Un.any(u:Un fs ex H H1 h h1){z:Obj}(q:h.get? b=O z)(n:H b=U)(hx:b∉ex):∃sl,h1.get? b=O {z with slots:=sl}:=by by_cases hb:b∈fs;exact u.slot b z q n hb hx;exact⟨z.slots,u.keep b z q n hb hx⟩
def Un.kept(k:∀b u,h.get? b=O u->h'.get? b=O u):Un fs ex H H h h':=⟨λb z q _ _ _=>k b z q,λb z q _ _ _=>⟨z.slots,k b z q⟩,λ_ _ _ n _=>n,λb z q _=>⟨z,k b z q⟩,λ_ _ q=>q,λ_ _ _ q=>q,λ_ ps q=>⟨#[],by rw[q];simp⟩⟩
def Un.refl:Un fs ex H H h h:=Un.kept λ_ _ q=>q
def Un.laid(k:∀b u,h.get? b=O u->h'.get? b=O u)(hp:h.objs.size<=a)(hn:H a=U):Un fs ex H (upd H a o) h h' where
 keep:=λb u q _ _ _=>k b u q
 slot:=λb u q _ _ _=>⟨u.slots,k b u q⟩
 free:=λb u q n _=>by rw[aM (v3 (u7 (uf q) hp))];exact n
 there:=λb u q _=>⟨u,k b u q⟩
 tups:=λb xs q=>by rw[aM (aQ q hn)];exact q
 frzs:=λb u xs q=>by rw[aM (aQ q hn)];exact q
 tbls:=λb ps q=>⟨#[],by rw[aM (aQ q hn),q];simp⟩
def Un.write(mu:rn (H x))(he:e=x\/H e=O (.own x))(k:∀b u,b≠e->h.get? b=O u->h'.get? b=O u)(mG:∃u,h'.get? e=O u):Un fs ex H (upd H x o) h h':=by
 have hx:∀b,H b=U->b≠x:=λb n z=>by subst z;rw[n]at mu;exact mu
 have hb:∀b,H b=U->b≠e:=λb n z=>by subst z;rcases he with r|r;exact hx b n r;rw[n]at r;cases r
 have hm:∀b u,H b=O u->¬rn (O u)->b≠x:=λb u q nm z=>by subst z;rw[q]at mu;exact nm mu
 refine⟨λb u q n _ _=>k b u (hb b n) q,λb u q n _ _=>⟨u.slots,k b u (hb b n) q⟩,λb u q n _=>by rw[aM (hx b n)];exact n,λb u q _=>?_,λb xs q=>by rw[aM (hm b _ q λz=>z)];exact q,λb u xs q=>by rw[aM (hm b _ q λz=>z)];exact q,λb ps q=>⟨#[],by rw[aM (hm b _ q λz=>z),q];simp⟩⟩;by_cases I:b=e;subst I;exact mG;exact⟨u,k b u I q⟩
end
noncomputable def trk(h:Heap)(H:Hp):List Addr:=(List.range h.objs.size).filter λa=>(H a).isSome
def uV(h:Heap)(H:Hp):Heap:=hideAll h (trk h H)
def HV(h:Heap)(H:Hp):(uV h H).objs.size=h.objs.size:=PySem.W.hideAll_size _ _
def MZ{H:Hp}{o:Obj}(e:h.get? b=O o)(n:H b=U):(uV h H).get? b=O o:=PySem.W.hideAll_get _ e λhm=>by have q:(H b).isSome=Y:=(mem_filter.mp hm).2;rw[n]at q;simp at q
def WY{H:Hp}{o:Obj}(e:(uV h H).get? b=O o):h.get? b=O o/\H b=U:=by
 have e':h.get? b=O o:=PySem.W.of_hideAll (trk h H) e;refine⟨e',?_⟩;cases q:H b with
 |none=>rfl
 |some x=>have hm:b∈trk h H:=mem_filter.mpr ⟨vy.mpr (uf e'),by simp[q]⟩;have z:(uV h H).get? b=U:=PySem.W.hideAll_none (trk h H) hm;rw[z]at e;cases e
noncomputable def ZE(g h:Heap)(L:Addr):List (Addr×Obj):=(List.range h.objs.size).filterMap λa=>if a=L\/(g.get? a).isSome=Y then U else(h.get? a).map λo=>(a,o)
def rest(g h:Heap)(L d:Addr):List (Addr×Obj):=(ZE g h L).filter λp=>decide (p.1≠d)
structure Mod (K:wc) (mg:wm) (base:Heap):Prop where
 kin:K.In base
 glob:base.Ns mainGlobals mg
 blt:∃mb,base.Ns builtinsNs mb/\∀x:Str,x≠"__name__"->mb x=bootBuiltins x
 nolimit:base.NoLimit
structure Cx where
 prog:wg
 w:World
 K:wc
 mg:Str->Option Value
 base:Heap
 A:Around
 N:List Str
 s₀:Shared
 H₀:Hp
 env:Env
 outer:List Env
 stack:List Env
 ex:List Addr
 fn:Str->Bool
 calm:Bool
 pn:List (Addr×Obj)
 xe:Value->Shared->Prop
noncomputable def bY(l:List Env):List Addr:=l.filterMap (·.frame)
abbrev Cx.fs(X:Cx):List Addr:=bY X.outer
def Vis(sc:Scope)(x:Str):Prop:=sc.names.lookup x=O .local\/sc.names.lookup x=O .cell\/sc.names.lookup x=O .free
def Loc(sc:Scope)(x:Str):Prop:=sc.names.lookup x=O .local\/sc.names.lookup x=O .cell
def Look(env:Env)(h:Heap)(m:wm)(x:Str)(u:Value):Prop:=(env.kindOf x=O .local/\m x=O u)\/((env.kindOf x=O .cell\/env.kindOf x=O .free)/\∃c,env.cells.lookup x=O c/\h.IsCell c (O u))
structure Cx.Ok (X:Cx):Prop where
 mod:Mod X.K X.mg X.base
 kind:X.env.scope.kind=.function
 glob:X.env.globals=mainGlobals
 blt:X.env.builtins=builtinsNs
 above:X.s₀.heap.objs.size<=X.env.locals
 inj:∀x y c,X.env.cells.lookup x=O c->X.env.cells.lookup y=O c->x=y
 has:∀x,(X.env.kindOf x=O .cell\/X.env.kindOf x=O .free)->∃c,X.env.cells.lookup x=O c
 cab:∀x c,X.fn x=Y->X.env.cells.lookup x=O c->X.s₀.heap.objs.size<=c
 hd:X.calm=Y->X.A.handled=U
 frames:X.A.frames=O X.stack
 stk:X.stack=X.outer\/(X.stack=X.env::X.outer/\X.env.frame=O X.env.locals)
 exf:∀b∈X.ex,b≠X.env.locals/\∀x c,X.env.cells.lookup x=O c->c≠b
 bs:∀b o,X.base.get? b=O o->X.s₀.heap.get? b=O o/\X.H₀ b=U
 bsz:X.base.objs.size<=X.s₀.heap.objs.size
 noex:∀b o,X.base.get? b=O o->b∉X.ex
 exfs:∀b∈X.ex,b∉X.fs
 funs:X.s₀.heap.FunFrames X.base X.outer
 frf:∀b∈X.fs,X.H₀ b=U
structure Inv (X:Cx) (pins:wk) (M:List (Option V)) (H:Hp) (s:Shared):Prop where
 ok:X.Ok
 os:s.os=X.s₀.os
 bare:AllBare s.gens
 base:Un X.fs X.ex X.H₀ H X.s₀.heap s.heap
 loc:∃m,s.heap.Ns X.env.locals m/\∀(i:Nat) (x:Str) (v:V),X.N[i]?=O x->M[i]?=O (O v)->Vis X.env.scope x->∃u,RelV v u/\Look X.env s.heap m x u
 cell:∀x c,X.env.cells.lookup x=O c->∃v,s.heap.IsCell c v
 free:H X.env.locals=U
 freeC:∀x c,X.env.cells.lookup x=O c->H c=U
 pin:∀p∈X.pn++pins,s.heap.get? p.1=O p.2/\H p.1=U/\p.1≠X.env.locals/\p.1∉X.fs/\∀v,p.2.data≠.cell v
 hok:HOk X.prog X.w H s.heap
 len:M.length=X.N.length
section
variable {X:Cx}{pins:wk}{M:List (Option V)}{H H':Hp}{s:Shared}{h':Heap}
def Cx.Ok.nofr(ok:X.Ok){o:Obj}(e:X.base.get? b=O o):b∉X.fs:=λhb=>by have:=(ok.funs.mem hb).1;rw[e]at this;cases this
theorem Inv.bs(I:Inv X pins M H s):∀b o,X.base.get? b=O o->s.heap.get? b=O o/\H b=U:=λb o e=>⟨I.base.keep b o (I.ok.bs b o e).1 (I.ok.bs b o e).2 (I.ok.nofr e) (I.ok.noex b o e),I.base.free b o (I.ok.bs b o e).1 (I.ok.bs b o e).2 (I.ok.noex b o e)⟩
def Inv.bk(I:Inv X pins M H s):∀b o,X.base.get? b=O o->s.heap.get? b=O o:=λb o e=>(I.bs b o e).1
theorem Inv.mod(I:Inv X pins M H s):Mod X.K X.mg X.base:=I.ok.mod
def Inv.kIn(I:Inv X pins M H s):X.K.In s.heap:=I.ok.mod.kin.keeps I.bk
theorem Inv.lt(I:Inv X pins M H s):X.env.locals<s.heap.objs.size:=let ⟨_,hn,_⟩:=I.loc;hn.lt
def Inv.sz(I:Inv X pins M H s):X.s₀.heap.objs.size<=s.heap.objs.size:=ug I.ok.above (le_of_lt I.lt)
def Inv.nofs(I:Inv X pins M H s)(h:s.heap.objs.size<=a):a∉X.fs:=λhb=>by obtain⟨_,o,ho,_⟩:=I.ok.funs.mem hb;exact absurd (u7 (uf ho) (ug I.sz h)) (va _)
def Inv.cne(I:Inv X pins M H s):∀x c,X.env.cells.lookup x=O c->c≠X.env.locals:=λx c e z=>by obtain⟨v,o,ho,hd⟩:=I.cell x c e;obtain⟨m,⟨o',es,ep,iy,hd',_⟩,_⟩:=I.loc;rw[z,iy]at ho;cases ho;rw[hd']at hd;cases hd
theorem Inv.funs(I:Inv X pins M H s):s.heap.FunFrames X.base X.outer:=by
 have all:∀(l:List Env),(∀b∈bY l,b∈X.fs)->X.s₀.heap.FunFrames X.base l->s.heap.FunFrames X.base l:=by
  intro l;induction l with
  |nil=>intro _ _;trivial
  |cons env r ih=>
   intro hs hl;obtain⟨hk,⟨L,o,hf,hn,ho,hd⟩,hr⟩:=hl;have hL:L∈X.fs:=hs L (by unfold bY;rw[List.filterMap_cons,hf];exact vi);obtain⟨sl,e⟩:=I.base.slot L o ho (I.ok.frf L hL) hL λz=>I.ok.exfs L z hL
   exact⟨hk,⟨L,_,hf,hn,e,hd⟩,ih (λb hb=>hs b (by unfold bY;rw[List.filterMap_cons,hf];exact tw _ hb)) hr⟩
 exact all X.outer (λ_ hb=>hb) I.ok.funs
theorem Inv.stack(I:Inv X pins M H s):s.heap.FunFrames X.base X.stack:=by rcases I.ok.stk with e|⟨e,hf⟩;rw[e];exact I.funs;rw[e];obtain⟨m,hn,_⟩:=I.loc;refine .cons (by rw[I.ok.kind];decide) hf hn ?_ I.funs;exact Heap.get?_none_of_le (ug I.ok.bsz I.ok.above)
def Inv.stkSub(I:Inv X pins M H s):∀b∈bY X.stack,b∈X.env.locals::X.fs:=λb hb=>by rcases I.ok.stk with e|⟨e,hf⟩;rw[e]at hb;exact tw _ hb;rw[e]at hb;unfold bY at hb;rw[List.filterMap_cons,hf]at hb;exact hb
def Inv.stkFree(I:Inv X pins M H s):∀b∈bY X.stack,H b=U:=λb hb=>by rcases ui.mp (I.stkSub b hb) with e|hb;rw[e];exact I.free;obtain⟨_,o,ho,_⟩:=I.ok.funs.mem hb;exact I.base.free b o ho (I.ok.frf b hb) λz=>I.ok.exfs b z hb
def Inv.step{g':Array GenState}{d':Drawn}(I:Inv X pins M H s) (ie:∀b∈ch,(b∈X.ex\/X.s₀.heap.objs.size<=b)/\b≠X.env.locals/\(∀x c,X.env.cells.lookup x=O c->c≠b)/\∀p∈X.pn++pins,p.1≠b) (keep:∀b o,b≠X.env.locals->b∉X.fs->b∉ch->s.heap.get? b=O o->H b=U->h'.get? b=O o) (slot:∀b o,b≠X.env.locals->b∈X.fs->b∉ch->s.heap.get? b=O o->H b=U->∃sl,h'.get? b=O {o with slots:=sl}) (free:∀b o,b∉ch->s.heap.get? b=O o->H b=U->H' b=U) (there:∀b o,b∉ch->s.heap.get? b=O o->∃o',h'.get? b=O o') (tups:∀b xs,H b=O (.tup xs)->H' b=O (.tup xs)) (frzs:∀b o u,H b=O (.frz o u)->H' b=O (.frz o u)) (tbls:∀b ps,H b=O (.tbl ps)->∃more,H' b=O (.tbl (ps++more))) (ns:∀m,s.heap.Ns X.env.locals m->h'.Ns X.env.locals m) (hok:HOk X.prog X.w H' h') (hg:AllBare g'):Inv X pins M H' {s with heap:=h',gens:=g',drawn:=d',toks:=t' }:=by
 have neL:∀b o,X.s₀.heap.get? b=O o->b≠X.env.locals:=λb o e=>v3 (u7 (uf e) I.ok.above);have neC:∀b o,X.s₀.heap.get? b=O o->b∉X.ex->b∉ch:=λb o e hx hb=>by rcases (ie b hb).1 with z|z;exact hx z;exact absurd (u7 (uf e) z) (va _)
 have cellK:∀x c,X.env.cells.lookup x=O c->∀v,s.heap.IsCell c v->h'.IsCell c v:=λx c e v ⟨o,ho,hd⟩=>by have o3:c∉ch:=λz=>(ie c z).2.2.1 x c e rfl;by_cases hc:c∈X.fs;obtain⟨sl,q⟩:=slot c o (I.cne x c e) hc o3 ho (I.freeC x c e);exact⟨_,q,hd⟩;exact⟨o,keep c o (I.cne x c e) hc o3 ho (I.freeC x c e),hd⟩
 refine⟨I.ok,I.os,hg,⟨λb o e n hb hx=>?_,λb o e n hb hx=>?_,λb o e n hx=>?_,λb o e hx=>?_,λb xs e=>tups b xs (I.base.tups b xs e),λb o xs e=>frzs b o xs (I.base.frzs b o xs e),λb ps e=>?_⟩,?_,λx c e=>?_,?_,λx c e=>?_,λp hp=>?_,hok,I.len⟩;exact keep b o (neL b o e) hb (neC b o e hx) (I.base.keep b o e n hb hx) (I.base.free b o e n hx);obtain⟨sl,e1⟩:=I.base.slot b o e n hb hx;obtain⟨sl',e2⟩:=slot b _ (neL b o e) hb (neC b o e hx) e1 (I.base.free b o e n hx);exact⟨sl',e2⟩;obtain⟨o',e1⟩:=I.base.there b o e hx;exact free b o' (neC b o e hx) e1 (I.base.free b o e n hx);obtain⟨o',e1⟩:=I.base.there b o e hx;exact there b o' (neC b o e hx) e1;obtain⟨m1,e1⟩:=I.base.tbls b ps e;obtain⟨m2,e2⟩:=tbls b _ e1;exact⟨m1++m2,by rw[e2,Array.append_assoc]⟩;obtain⟨m,hn,hl⟩:=I.loc;refine⟨m,ns m hn,λi x v e1 e2 e3=>?_⟩;obtain⟨u,r,l⟩:=hl i x v e1 e2 e3;refine⟨u,r,?_⟩;rcases l with l|⟨k,c,e,z⟩;exact .inl l;exact .inr ⟨k,c,e,cellK x c e _ z⟩;obtain⟨v,z⟩:=I.cell x c e;exact⟨v,cellK x c e v z⟩;obtain⟨m,⟨o,_,_,ho,_⟩,_⟩:=I.loc;exact free _ o (λz=>(ie _ z).2.1 rfl) ho I.free;obtain⟨v,o,ho,hd⟩:=I.cell x c e;exact free c o (λz=>(ie c z).2.2.1 x c e rfl) ho (I.freeC x c e);obtain⟨e,n,ne,nf,d⟩:=I.pin p hp;have o3:p.1∉ch:=λz=>(ie p.1 z).2.2.2 p hp rfl;exact⟨keep p.1 p.2 ne nf o3 e n,free p.1 p.2 o3 e n,ne,nf,d⟩
def Inv.un(I:Inv X pins M H s)(u:Un X.fs [] H H' s.heap h')(hok:HOk X.prog X.w H' h'):Inv X pins M H' {s with heap:=h',toks:=t' }:=by obtain⟨m,⟨o,es,ep,ho,r⟩,_⟩:=id I.loc;obtain⟨sl,hL⟩:=u.any ho I.free y9;exact I.step (g':=s.gens) (d':=s.drawn) (ch:=[]) (λ_ z=>nomatch z) (λb o _ hb _ e n=>u.keep b o e n hb y9) (λb o _ hb _ e n=>u.slot b o e n hb y9) (λb o _ e n=>u.free b o e n y9) (λb o _ e=>u.there b o e y9) u.tups u.frzs u.tbls (λm' hm=>by obtain⟨o',i6,ep',iy,r'⟩:=hm;rw[ho]at iy;cases iy;exact⟨_,i6,ep',hL,r'⟩) hok I.bare
def Inv.call{g':Array GenState}{d':Drawn}(I:Inv X pins M H s)(u:Un (bY X.stack) ch H H' s.heap h')(hok:HOk X.prog X.w H' h')(hg:AllBare g') (ie:∀b∈ch,(b∈X.ex\/X.s₀.heap.objs.size<=b)/\b≠X.env.locals/\(∀x c,X.env.cells.lookup x=O c->c≠b)/\∀p∈X.pn++pins,p.1≠b):Inv X pins M H' {s with heap:=h',gens:=g',drawn:=d',toks:=t' }:=by
 obtain⟨m,⟨o,es,ep,ho,r⟩,_⟩:=id I.loc;obtain⟨sl,hL⟩:=u.any ho I.free λz=>(ie _ z).2.1 rfl
 exact I.step (ch:=ch) ie (λb o hL hb hc e n=>u.keep b o e n (λz=>(ui.mp (I.stkSub b z)).elim hL hb) hc) (λb o _ _ hc e n=>u.any e n hc) (λb o hc e n=>u.free b o e n hc) (λb o hc e=>u.there b o e hc) u.tups u.frzs u.tbls (λm' hm=>by obtain⟨o',i6,ep',iy,r'⟩:=hm;rw[ho]at iy;cases iy;exact⟨_,i6,ep',hL,r'⟩) hok hg
def Inv.turned{it:Addr}(I:Inv X pins M H s)(k:∀b o,b≠it->s.heap.get? b=O o->h'.get? b=O o)(hn:H it=U)(hL:it≠X.env.locals) (h1:it∈X.ex\/X.s₀.heap.objs.size<=it) (h2:∀x c,X.env.cells.lookup x=O c->c≠it) (h3:∀p∈X.pn++pins,p.1≠it):Inv X pins M H {s with heap:=h',toks:=t' }:=by
 have nit:∀b u,H b=O u->b≠it:=λb u e z=>by rw[z,hn]at e;cases e
 refine I.step (g':=s.gens) (d':=s.drawn) (ch:=[it]) (λb hb=>?_) (λb o _ _ hc e _=>k b o (λz=>hc (by simp[z])) e) (λb o _ _ hc e _=>⟨o.slots,k b o (λz=>hc (by simp[z])) e⟩) (λ_ _ _ _ n=>n) (λb o hc e=>⟨o,k b o (λz=>hc (by simp[z])) e⟩) (λ_ _ e=>e) (λ_ _ _ e=>e) (λb ps e=>⟨#[],by rw[e];simp⟩) (λm hm=>?_) (λb u e=>?_) I.bare;have e:b=it:=by simpa using hb
 subst e;exact⟨h1,hL,h2,h3⟩;obtain⟨o,es,ep,ho,r⟩:=hm;exact⟨o,es,ep,k _ o (Ne.symm hL) ho,r⟩;refine(I.hok b u e).stay (λc v hc q=>k c v ?_ q) (λ_ q=>q) λ_ _ q=>q;rcases hc with z|z;rw[z];exact nit b u e;exact nit c _ z
def Inv.tok(I:Inv X pins M H s)(t:Nat):Inv X pins M H {s with toks:=t}:=I.un (h':=s.heap) (t':=t) Un.refl I.hok
theorem Inv.kept(I:Inv X pins M H s)(k:∀b u,s.heap.get? b=O u->h'.get? b=O u):Inv X pins M H {s with heap:=h',toks:=t' }:=I.un (Un.kept k) (I.hok.kept k)
theorem Inv.laid{o:HO}(I:Inv X pins M H s)(k:∀b u,s.heap.get? b=O u->h'.get? b=O u)(hp:s.heap.objs.size<=a)(new:cP X.prog X.w (upd H a o) h' a o):Inv X pins M (upd H a o) {s with heap:=h',toks:=t' }:=I.un (Un.laid k hp (I.hok.fresh hp)) (I.hok.laid k hp new)
theorem Inv.write{x e:Addr}{o:HO}(I:Inv X pins M H s)(mu:rn (H x))(he:e=x\/H e=O (.own x))(k:∀b u,b≠e->s.heap.get? b=O u->h'.get? b=O u)(z:∃u,h'.get? e=O u) (new:cP X.prog X.w (upd H x o) h' x o):Inv X pins M (upd H x o) {s with heap:=h',toks:=t' }:=I.un (Un.write mu he k z) (I.hok.write mu he k z new)
def Inv.pins_of{dz:wk}(I:Inv X pins M H s)(h:∀p∈dz,s.heap.get? p.1=O p.2/\H p.1=U/\p.1≠X.env.locals/\p.1∉X.fs/\∀v,p.2.data≠.cell v):Inv X dz M H s:=⟨I.ok,I.os,I.bare,I.base,I.loc,I.cell,I.free,I.freeC,λp hp=>(wb.mp hp).elim (λz=>I.pin p (v9 _ z)) (h p),I.hok,I.len⟩
def xG(hN:N.Nodup){j:Nat}(a:N[i]?=O x)(b:N[j]?=O x):i=j:=by obtain⟨h1,e1⟩:=sj.mp a;obtain⟨h2,e2⟩:=sj.mp b;exact(List.getElem_inj hN).mp (e1.trans e2.symm)
def rQ{v:V}{Q:Unit->Shared->Prop}(I:Inv X pins M H s)(hN:X.N.Nodup)(hi:X.N[i]?=O x)(hx:Loc X.env.scope x)(r:RelV v u) (h:∀s',Inv X pins (M.set i (O v)) H s'->(∃a,Heap.SameBut a s.heap s'.heap/\(a=X.env.locals\/X.env.cells.lookup x=O a))->Q () s') (hf:X.fn x=Y\/X.env.scope.names.lookup x=O .local:=by first|exact .inl rfl|exact .inr rfl|assumption):wpAny σ A (storeName X.env x u) Q E s:=by
 obtain⟨m,hn,hl⟩:=id I.loc;have hcls:(X.env.scope.kind == .class || (X.env.scope.kind == .module&&X.env.locals != X.env.globals))=J:=by rw[I.ok.kind];rfl
 have hiσ:i<M.length:=by rw[I.len];exact(sj.mp hi).1
 have cne:=I.cne;have tracked:∀{a:Addr} {h':Heap},(∃o,s.heap.get? a=O o/\H a=U)->Heap.SameBut a s.heap h'->HOk X.prog X.w H h':=λ{a h'} ha hs b ob e=>by obtain⟨_,_,hfree⟩:=ha;refine(I.hok b ob e).stay (λc w' hc q=>(hs.2 c ?_).trans q) (λ_ q=>q) λ_ _ q=>q;rintro rfl;rcases hc with rfl|hc;rw[hfree]at e;cases e;rw[hfree]at hc;cases hc
 rcases hx with hk|hk;refine wpAny_storeName_local hk hn (λh' mw hs=>?_) hcls;obtain⟨oL,_,_,hoL,_⟩:=id hn;refine h _ ⟨I.ok,I.os,I.bare,⟨λb o e n hb hx=>?_,λb o e n hb hx=>?_,I.base.free,λb o e hx=>?_,I.base.tups,I.base.frzs,I.base.tbls⟩,⟨_,mw,λj y v' e1 e2 e3=>?_⟩,λy c e=>?_,I.free,I.freeC,λp hp=>?_,tracked ⟨oL,hoL,I.free⟩ hs,by simpa using I.len⟩ ⟨_,hs,.inl rfl⟩;exact(hs.2 b (v3 (u7 (uf e) I.ok.above))).trans (I.base.keep b o e n hb hx);obtain⟨sl,e1⟩:=I.base.slot b o e n hb hx;exact⟨sl,(hs.2 b (v3 (u7 (uf e) I.ok.above))).trans e1⟩;obtain⟨o',e1⟩:=I.base.there b o e hx;exact⟨o',(hs.2 b (v3 (u7 (uf e) I.ok.above))).trans e1⟩;by_cases hj:j=i;subst hj;rw[hi]at e1;cases e1;rw[ud hiσ]at e2;cases e2;exact⟨u,r,.inl ⟨hk,y9⟩⟩;rw[ue (Ne.symm hj)]at e2;obtain⟨u',r',q⟩:=hl j y v' e1 e2 e3;refine⟨u',r',?_⟩;rcases q with ⟨k,e⟩|⟨k,c,e,z⟩;refine .inl ⟨k,?_⟩;have:y≠x:=λe=>hj (xG hN e1 (e ▸ hi));simp[this,e];exact .inr ⟨k,c,e,z.sameBut hs (cne y c e)⟩;obtain⟨w',z⟩:=I.cell y c e;exact⟨w',z.sameBut hs (cne y c e)⟩;obtain⟨e,n,ne,nf,d⟩:=I.pin p hp;exact⟨(hs.2 p.1 ne).trans e,n,ne,nf,d⟩;have i4:X.fn x=Y:=by rcases hf with z|z;exact z;rw[z]at hk;cases hk
 obtain⟨c,hc⟩:=I.ok.has x (.inl hk);obtain⟨w',z⟩:=I.cell x c hc;refine wpAny_storeName_cell I.ok.kind hk hc z (λh' gu hs=>?_);obtain⟨oc,hoc,hocd⟩:=id z;refine h {s with heap:=h' } ⟨I.ok,I.os,I.bare,⟨λb o e n hb hx=>?_,λb o e n hb hx=>?_,I.base.free,λb o e hx=>?_,I.base.tups,I.base.frzs,I.base.tbls⟩,⟨m,hn.sameBut hs (Ne.symm (cne x c hc)),λj y v' e1 e2 e3=>?_⟩,λy c' e=>?_,I.free,I.freeC,λp hp=>?_,tracked ⟨oc,hoc,I.freeC x c hc⟩ hs,by simpa using I.len⟩ ⟨c,hs,.inr hc⟩;exact(hs.2 b (v3 (u7 (uf e) (I.ok.cab x c i4 hc)))).trans (I.base.keep b o e n hb hx);obtain⟨sl,e1⟩:=I.base.slot b o e n hb hx;exact⟨sl,(hs.2 b (v3 (u7 (uf e) (I.ok.cab x c i4 hc)))).trans e1⟩;obtain⟨o',e1⟩:=I.base.there b o e hx;exact⟨o',(hs.2 b (v3 (u7 (uf e) (I.ok.cab x c i4 hc)))).trans e1⟩;by_cases hj:j=i;subst hj;rw[hi]at e1;cases e1;rw[ud hiσ]at e2;cases e2;exact⟨u,r,.inr ⟨.inl hk,c,hc,gu⟩⟩;rw[ue (Ne.symm hj)]at e2;obtain⟨u',r',q⟩:=hl j y v' e1 e2 e3;refine⟨u',r',?_⟩;rcases q with q|⟨k,c',e,z'⟩;exact .inl q;refine .inr ⟨k,c',e,z'.sameBut hs ?_⟩;rintro rfl;exact hj (xG hN e1 (I.ok.inj _ _ _ e hc ▸ hi));by_cases hcc:c'=c;subst hcc;exact⟨_,gu⟩;obtain⟨w2,z2⟩:=I.cell y c' e;exact⟨w2,z2.sameBut hs hcc⟩;obtain⟨e,n,ne,nf,d⟩:=I.pin p hp;refine⟨(hs.2 p.1 ?_).trans e,n,ne,nf,d⟩;intro q;rw[q,hoc]at e;have q':oc=p.2:=u4 e;exact d w' (by rw[<-q'];exact hocd)
def wD{v:V}{Q:Unit->Shared->Prop}(I:Inv X pins M H s)(hN:X.N.Nodup)(hi:X.N[i]?=O x)(hx:Loc X.env.scope x)(r:RelV v u) (h:∀s',Inv X pins (M.set i (O v)) H s'->Q () s') (hf:X.fn x=Y\/X.env.scope.names.lookup x=O .local:=by first|exact .inl rfl|exact .inr rfl|assumption):wpAny σ A (storeName X.env x u) Q E s:=
 rQ I hN hi hx r (λs' z _=>h s' z) hf
def Inv.call'{s':Shared}(I:Inv X pins M H s)(ho:s'.os=s.os)(u:Un (bY X.stack) ch H H' s.heap s'.heap)(hok:HOk X.prog X.w H' s'.heap)(hg:AllBare s'.gens) (z:∀b∈ch,(b∈X.ex\/X.s₀.heap.objs.size<=b)/\b≠X.env.locals/\(∀x c,X.env.cells.lookup x=O c->c≠b)/\∀p∈X.pn++pins,p.1≠b):Inv X pins M H' s':=by obtain⟨h',g',d',t',o'⟩:=s';have e:o'=s.os:=ho;subst e;exact I.call (g':=g') (t':=t') (d':=d') u hok hg z
end
abbrev XK:=Value->Option Addr->Hp->Prop
abbrev St:=List (Option V)
abbrev VK:=V->Hp->Prop
abbrev TE:=St->Hp->VK->Prop
abbrev TT:=St->Hp->(Bool->Hp->Prop)->Prop
abbrev TA:=St->Hp->(List V->Hp->Prop)->Prop
structure Ends where
 nx:St->Hp->Prop
 rt:VK
 bk:St->Hp->Prop:=λ_ _=>False
 ct:St->Hp->Prop:=λ_ _=>False
abbrev TS:=Ends->St->Hp->Prop
def EP(X:Cx)(pins:wk)(M:St)(Q:VK)(u:Value)(s':Shared):Prop:=∃v H',Inv X pins M H' s'/\RelV v u/\Q v H'
def TP(X:Cx)(pins:wk)(M:St)(Q:Bool->Hp->Prop)(b:Bool)(s':Shared):Prop:=∃H',Inv X pins M H' s'/\Q b H'
def AP(X:Cx)(pins:wk)(M:St)(Q:List V->Hp->Prop)(us:List Value)(s':Shared):Prop:=∃vs H',Inv X pins M H' s'/\aX vs us/\Q vs H'
def SP(X:Cx)(pins:wk)(D:Ends)(f:Flow)(s':Shared):Prop:=
 match f with
 |.next=>∃z H',Inv X pins z H' s'/\D.nx z H'
 |.brk=>∃z H',Inv X pins z H' s'/\D.bk z H'
 |.cont=>∃z H',Inv X pins z H' s'/\D.ct z H'
 |.ret u=>∃v z H',Inv X pins z H' s'/\RelV v u/\D.rt v H'
def PE(X:Cx)(e:Expr)(t:TE):Prop:=∀(pins:wk) (s:Shared) (M:St) (H:Hp) (Q:VK),Inv X pins M H s->t M H Q->wpAny (model X.prog X.w) X.A (eval e X.env) (EP X pins M Q) X.xe s
def PT(X:Cx)(e:Expr)(t:TT):Prop:=∀(pins:wk) (s:Shared) (M:St) (H:Hp) (Q:Bool->Hp->Prop),Inv X pins M H s->t M H Q->wpAny (model X.prog X.w) X.A (isTrue e X.env (eval e X.env)) (TP X pins M Q) X.xe s
def PW(X:Cx)(e:Expr)(t:TT):Prop:=∀(whole:Sem Value) (pins:wk) (s:Shared) (M:St) (H:Hp) (Q:Bool->Hp->Prop),Inv X pins M H s->t M H Q->wpAny (model X.prog X.w) X.A (isTrue e X.env whole) (TP X pins M Q) X.xe s
def PW.pt{X:Cx}{t:TT}(h:PW X e t):PT X e t:=h _
def PA(X:Cx)(es:List Expr)(t:TA):Prop:=∀(pos:Pos) (pins:wk) (s:Shared) (M:St) (H:Hp) (Q:List V->Hp->Prop),Inv X pins M H s->t M H Q->wpAny (model X.prog X.w) X.A (spliced (backTo pos (starEach es X.env))) (AP X pins M Q) X.xe s
def PS(X:Cx)(st:Stmt)(t:TS):Prop:=∀(pins:wk) (s:Shared) (M:St) (H:Hp) (D:Ends),Inv X pins M H s->t D M H->wpAny (model X.prog X.w) X.A (exec st X.env) (SP X pins D) X.xe s
def PSs(X:Cx)(st:List Stmt)(t:TS):Prop:=∀(pins:wk) (s:Shared) (M:St) (H:Hp) (D:Ends),Inv X pins M H s->t D M H->wpAny (model X.prog X.w) X.A (execs st X.env) (SP X pins D) X.xe s
def ah{R:Type}{t:Sem R}{Q z:R->Shared->Prop}(h:wpAny σ A t Q E s)(I:∀a s,Q a s->z a s):wpAny σ A t z E s:=vd h I λ_ _ x=>x
section
variable {X:Cx}
def bin{a b:Expr}{ta tb:TE}(ha:PE X a ta)(hb:PE X b tb){M:St}{H:Hp}{α:V->V->Hp->Prop}(I:Inv X pins M H s)(h:ta M H λx H1=>tb M H1 λy H2=>α x y H2) {R:Type} {Q:R->Shared->Prop} {f:Value->Value->Sem R} (hf:∀v u s2 x y H2,Inv X pins M H2 s2->RelV x v->RelV y u->α x y H2->wpAny (model X.prog X.w) X.A (f v u) Q X.xe s2):wpAny (model X.prog X.w) X.A (eval a X.env) (λv s₁=>wpAny (model X.prog X.w) X.A (eval b X.env) (λu z=>wpAny (model X.prog X.w) X.A (f v u) Q X.xe z) X.xe s₁) X.xe s:=by refine ah (ha pins s M H _ I h) λv s1 ⟨x,H1,I1,r1,q1⟩=>?_;refine ah (hb pins s1 M H1 _ I1 q1) λu s2 ⟨y,H2,I2,r2,q2⟩=>?_;exact hf v u s2 x y H2 I2 r1 r2 q2
def aAQ(i:Nat):TE:=λM H Q=>∃v,M[i]?=O (O v)/\Q v H
def tC(v:V):TE:=λ_ H Q=>Q v H
def KJ(hN:X.N[i]?=O x)(hv:Vis X.env.scope x)(hd:(x == ("__debug__":Str))=J:=by decide)(gq:(x == ("__classdict__":Str))=J:=by decide):PE X (.Name x pos) (aAQ i):=by intro pins s M H Q I h;obtain⟨v,e,h⟩:=h;obtain⟨m,hn,hl⟩:=I.loc;obtain⟨u,r,l⟩:=hl i x v hN e hv;have fin:EP X pins M Q u s:=⟨v,H,I,r,h⟩;rcases l with ⟨hk,hm⟩|⟨hk,c,hc,z⟩;exact wpAny_Name (wpAny_loadName_local I.ok.kind hk hn hm fin) hd;rcases hk with hk|hk;exact wpAny_Name (wpAny_loadName_cell I.ok.kind hk hc z fin) hd;exact wpAny_Name (wpAny_loadName_free I.ok.kind hk hc z fin gq) hd
def aBW{i j pos}:PE X (.Constant (.int i) j pos) (tC (.int i)):=λ_ _ _ H _ I h=>wpAny_Constant_int ⟨.int i,H,I.tok _,⟨_,rfl⟩,h⟩
def ZT{b j pos}:PE X (.Constant (.bool b) j pos) (tC (.bl b)):=λ_ _ _ H _ I h=>Constant_bool ⟨.bl b,H,I,rfl,h⟩
def aBV{j pos}:PE X (.Constant .none j pos) (tC .non):=λ_ _ _ H _ I h=>Constant_none ⟨.non,H,I,rfl,h⟩
def aBT{x j pos}:PE X (.Constant (.str x) j pos) (tC (.str x)):=λ_ _ _ H _ I h=>Calls.Constant_str ⟨.str x,H,I.tok _,⟨_,rfl⟩,h⟩
def Gl(X:Cx)(x:Str):Prop:=X.env.kindOf x=O .globalImplicit
def fQ{M:St}{H:Hp}(I:Inv X pins M H s)(hg:Gl X x)(hm:X.mg x=O u)(h:Q u s) (hd:(x == ("__debug__":Str))=J:=by decide):wpAny (model X.prog X.w) X.A (eval (.Name x pos) X.env) Q E s:=Calls.Name_function_global I.ok.kind hg (Calls.loadGlobal_global (by rw[I.ok.glob];exact I.mod.glob.keeps I.bk) hm h) hd
def fH{M:St}{H:Hp}(I:Inv X pins M H s)(hg:Gl X x)(hm:X.mg x=U)(hv:bootBuiltins x=O u)(h:Q u s) (hn:x≠"__name__":=by decide) (hd:(x == ("__debug__":Str))=J:=by decide):wpAny (model X.prog X.w) X.A (eval (.Name x pos) X.env) Q E s:=by obtain⟨mb,h1,h2⟩:=I.mod.blt;exact Calls.Name_function_global I.ok.kind hg (Calls.loadGlobal_builtin (by rw[I.ok.glob];exact I.mod.glob.keeps I.bk) hm (by rw[I.ok.blt];exact h1.keeps I.bk) ((h2 x hn).trans hv) h) hd
def WB{v:V}(hg:Gl X x)(hm:X.mg x=U)(hv:bootBuiltins x=O u)(r:RelV v u)(hn:x≠"__name__":=by decide)(hd:(x == ("__debug__":Str))=J:=by decide):PE X (.Name x pos) (tC v):=λ_ _ _ H _ I h=>fH I hg hm hv ⟨v,H,I,r,h⟩ hn hd
variable {a b:Expr}{ta tb:TE}{pos:Pos}
def PC(X:Cx)(op:CmpOp)(a b:Expr)(t:TE):Prop:=∀(pins:wk) (s:Shared) (M:St) (H:Hp) (Q:VK),Inv X pins M H s->t M H Q ->wpAny (model X.prog X.w) X.A (eval a X.env) (λv I=>wpAny (model X.prog X.w) X.A (eval b X.env) (λu z=>wpAny (model X.prog X.w) X.A (compareOp op v u) (EP X pins M Q) X.xe z) X.xe I) X.xe s
def xH(b:Expr)(h:op≠.In)(h2:op≠.NotIn):behindInMarks op b=J:=by
 have e1:(op == CmpOp.In)=J:=by cases op<;>first|rfl|exact absurd rfl h
 have e2:(op == CmpOp.NotIn)=J:=by cases op<;>first|rfl|exact absurd rfl h2
 cases b<;>simp[behindInMarks,e1,e2]
noncomputable def tB(t:TE):TT:=λM H Q=>t M H λx H1=>∃c,x=.bl c/\Q c H1
def aBY{t:TE}(h:PC X op a b t)(h1:behindInMarks op b=J:=by first|exact xH _ y8 y8|rfl):PE X (.Compare a [op] [b] pos) t:=λpins s M H Q I hw=>wpAny_Compare1 (h pins s M H Q I hw) h1
def aBN{t:TE}(h:PC X op a b t)(h1:behindInMarks op b=J:=by first|exact xH _ y8 y8|rfl):PT X (.Compare a [op] [b] pos) (tB t):=by intro pins s M H Q I hw;refine wpAny_isTrue_Compare1 (ah (h pins s M H _ I hw) λv s1 h1=>ah h1 λu s2 h2=>ah h2 λc s3 ⟨x,H1,I1,z,q1⟩=>?_) h1;obtain⟨d,rfl,q⟩:=q1;cases z;exact wpAny_truthy_bool ⟨H1,I1,q⟩
variable {tA tB':TT}{rest:List Expr}
noncomputable def aHe(t u:TT):TT:=λM H Q=>t M H λc H1=>if c=Y then u M H1 Q else Q J H1
noncomputable def tOr(t u:TT):TT:=λM H Q=>t M H λc H1=>if c=Y then Q Y H1 else u M H1 Q
noncomputable def aGZ(t:TT):TT:=λM H Q=>t M H λc H1=>Q (!c) H1
def VL(ha:PT X a tA):PW X (.BoolOp .And [a] pos) tA:=by
 intro z pins s M H Q I h;refine isTrue_and (ah (ha pins s M H Q I h) λc s1 e=>?_);cases c with
 |true=>exact isTrue_and_nil e
 |false=>exact e
def aBL(ha:PT X a tA):PW X (.BoolOp .Or [a] pos) tA:=by
 intro z pins s M H Q I h;refine isTrue_or (ah (ha pins s M H Q I h) λc s1 e=>?_);cases c with
 |false=>exact isTrue_or_nil e
 |true=>exact e
def JX(ha:PT X a tA)(hb:PW X (.BoolOp .And (b::rest) pos) tB'):PW X (.BoolOp .And (a::b::rest) pos) (aHe tA tB'):=by
 intro wh pins s M H Q I h;refine isTrue_and (ah (ha pins s M H _ I h) λc s1 ⟨H1,I1,z⟩=>?_);cases c with
 |true=>exact hb wh pins s1 M H1 Q I1 z
 |false=>exact⟨H1,I1,z⟩
def ZQ(ha:PT X a tA)(hb:PW X (.BoolOp .Or (b::rest) pos) tB'):PW X (.BoolOp .Or (a::b::rest) pos) (tOr tA tB'):=by
 intro wh pins s M H Q I h;refine isTrue_or (ah (ha pins s M H _ I h) λc s1 ⟨H1,I1,z⟩=>?_);cases c with
 |true=>exact⟨H1,I1,z⟩
 |false=>exact hb wh pins s1 M H1 Q I1 z
def aBM(ha:PT X a tA):PT X (.UnaryOp .Not a pos) (aGZ tA):=by intro pins s M H Q I h;exact isTrue_not (ha pins s M H (λc H1=>Q (!c) H1) I h)
def aEA(ta tb:TE):TE:=λM H Q=>ta M H λx H1=>∃c,x=.bl c/\if c=Y then tb M H1 Q else Q (.bl J) H1
def aGY(ta tb:TE):TE:=λM H Q=>ta M H λx H1=>∃c,x=.bl c/\if c=Y then Q (.bl Y) H1 else tb M H1 Q
def aBU{op}{t:TE}(h:PE X a t):PE X (.BoolOp op [a] pos) t:=λpins s M H Q I hw=>BoolOp_one (h pins s M H Q I hw)
def KN(ha:PE X a ta)(hb:PE X (.BoolOp .And (b::rest) pos) tb):PE X (.BoolOp .And (a::b::rest) pos) (aEA ta tb):=by
 intro pins s M H Q I h;refine BoolOp_and (ah (ha pins s M H _ I h) λv s1 ⟨x,H1,I1,r1,z⟩=>?_);obtain⟨c,rfl,z⟩:=z;cases r1;refine wpAny_truthy_bool ?_;cases c with
 |true=>exact hb pins s1 M H1 Q I1 z
 |false=>exact⟨.bl J,H1,I1,rfl,z⟩
def ZS(ha:PE X a ta)(hb:PE X (.BoolOp .Or (b::rest) pos) tb):PE X (.BoolOp .Or (a::b::rest) pos) (aGY ta tb):=by
 intro pins s M H Q I h;refine BoolOp_or (ah (ha pins s M H _ I h) λv s1 ⟨x,H1,I1,r1,z⟩=>?_);obtain⟨c,rfl,z⟩:=z;cases r1;refine wpAny_truthy_bool ?_;cases c with
 |false=>exact hb pins s1 M H1 Q I1 z
 |true=>exact⟨.bl Y,H1,I1,rfl,z⟩
def tIf(t:TT)(ta tb:TE):TE:=λM H Q=>t M H λc H1=>if c=Y then ta M H1 Q else tb M H1 Q
def xD{c:Expr}(hc:PT X c tA)(ha:PE X a ta)(hb:PE X b tb):PE X (.IfExp c a b pos) (tIf tA ta tb):=by
 intro pins s M H Q I h;refine wpAny_IfExp (ah (hc pins s M H _ I h) λd s1 ⟨H1,I1,z⟩=>?_);cases d with
 |true=>exact ha pins s1 M H1 Q I1 z
 |false=>exact hb pins s1 M H1 Q I1 z
end
def SqL(K:wc)(H:Hp)(a:Addr)(xs:List V):Prop:=Rd H a (.lst xs) \/∃(o:Obj) (its:Array Value) (n:Nat),K.lookup a=O o/\o.cls=.type "list"/\o.dict=U/\o.data=.seq its n/\its.size<=sizeLine/\aX xs its.toList
def SqT(K:wc)(H:Hp)(a:Addr)(xs:List V):Prop:=Rd H a (.tup xs) \/∃(o:Obj) (its:Array Value) (n:Nat),K.lookup a=O o/\o.cls=.type "tuple"/\o.data=.seq its n/\its.size<=sizeLine/\aX xs its.toList
noncomputable def aHF:Value->Option V
 |.none=>O .non
 |.bool b=>O (.bl b)
 |.int i _=>O (.int i)
 |.str x _=>O (.str x)
 |.bytes b _=>O (.byt b)
 |.float b _=>O (.flt b)
 |.ref a=>O (.ref a)
 |.type n=>O (.ty n)
 |_=>U
def RelV.abs{x:V}(r:RelV x u):aHF u=O x:=by
 cases x with
 |non=>cases r;rfl
 |bl _=>cases r;rfl
 |int _=>obtain⟨t,rfl⟩:=r;rfl
 |str _=>obtain⟨t,rfl⟩:=r;rfl
 |byt _=>obtain⟨t,rfl⟩:=r;rfl
 |flt _=>obtain⟨t,rfl⟩:=r;rfl
 |ref _=>cases r;rfl
 |ty _=>cases r;rfl
def RelV.inj{x y:V}(r:RelV x u)(q:RelV y u):x=y:=u4 (r.abs.symm.trans q.abs)
theorem aX.inj:∀{xs ys:List V} {us:List Value},aX xs us->aX ys us->xs=ys
 |_,_,_,.nil,.nil=>rfl
 |_,_,_,.cons r t,.cons z t'=>by rw[r.inj z,aX.inj t t']
section
variable {X:Cx}{pins:wk}{M:St}{H:Hp}{s:Shared}{a:Addr}{xs ys:List V}
def SqL.of(h:H a=O (.lst xs)):SqL K H a xs:=.inl (.inl h)
def SqT.of(h:H a=O (.tup xs)):SqT K H a xs:=.inl (.inl h)
def Inv.list(I:Inv X pins M H s)(h:SqL X.K H a xs):∃its:List Value,aX xs its/\PlainL s.heap a its.toArray/\xs.length<=sizeLine:=by rcases h with h|⟨o,its,n,hk,hc,hd,hs,hz,r⟩;obtain⟨z,its,n,r,e⟩:=h.ok I.hok;exact⟨its,r,⟨_,n,e,rfl,rfl,rfl⟩,z⟩;refine⟨its.toList,r,⟨o,n,I.kIn a o hk,hc,hd,by simpa using hs⟩,?_⟩;have e:=r.length;simp only[length_toList]at e;lia
def Inv.tuple(I:Inv X pins M H s)(h:SqT X.K H a xs):∃its:List Value,aX xs its/\IsTup s.heap a its.toArray/\xs.length<=sizeLine:=by rcases h with h|⟨o,its,n,hk,hc,hs,hz,r⟩;obtain⟨z,its,r,p⟩:=h.ok I.hok;exact⟨its,r,p,z⟩;refine⟨its.toList,r,⟨o,I.kIn a o hk,hc,n,by simpa using hs⟩,?_⟩;have e:=r.length;simp only[length_toList]at e;lia
def Inv.list_inj(I:Inv X pins M H s)(h:SqL X.K H a xs)(h':SqL X.K H a ys):xs=ys:=by
 obtain⟨its,r,⟨o,n,e,_,_,d⟩,_⟩:=I.list h;obtain⟨its',z,⟨o',n',e',_,_,d'⟩,_⟩:=I.list h';rw[e]at e';cases e';rw[d]at d';injection d' with d1 _
 have:its=its':=by simpa using congrArg Array.toList d1
 subst this;exact r.inj z
def Inv.tuple_inj(I:Inv X pins M H s)(h:SqT X.K H a xs)(h':SqT X.K H a ys):xs=ys:=by
 obtain⟨its,r,⟨o,e,_,n,d⟩,_⟩:=I.tuple h;obtain⟨its',z,⟨o',e',_,n',d'⟩,_⟩:=I.tuple h';rw[e]at e';cases e';rw[d]at d';injection d' with d1 _
 have:its=its':=by simpa using congrArg Array.toList d1
 subst this;exact r.inj z
end
abbrev Cx.wish(X:Cx)(E:wj):Cx:={X with xe:=E}
abbrev Cx.nox(X:Cx):Cx:=X.wish λ_ _=>False
theorem Cx.Ok.wish{X:Cx}(ok:X.Ok)(E:wj):(X.wish E).Ok:=⟨ok.mod,ok.kind,ok.glob,ok.blt,ok.above,ok.inj,ok.has,ok.cab,ok.hd,ok.frames,ok.stk,ok.exf,ok.bs,ok.bsz,ok.noex,ok.exfs,ok.funs,ok.frf⟩
def Cx.Ok.unwish{X:Cx}(ok:(X.wish E).Ok):X.Ok:=⟨ok.mod,ok.kind,ok.glob,ok.blt,ok.above,ok.inj,ok.has,ok.cab,ok.hd,ok.frames,ok.stk,ok.exf,ok.bs,ok.bsz,ok.noex,ok.exfs,ok.funs,ok.frf⟩
section
variable {X:Cx}{pins:wk}{M:St}{H:Hp}{s:Shared}{E:wj}
theorem Inv.wish(I:Inv X pins M H s)(E:wj):Inv (X.wish E) pins M H s:=⟨I.ok.wish E,I.os,I.bare,I.base,I.loc,I.cell,I.free,I.freeC,I.pin,I.hok,I.len⟩
theorem Inv.unwish(I:Inv (X.wish E) pins M H s):Inv X pins M H s:=⟨I.ok.unwish,I.os,I.bare,I.base,I.loc,I.cell,I.free,I.freeC,I.pin,I.hok,I.len⟩
theorem SP.unwish{D:Ends}{f:Flow}{s':Shared}(h:SP (X.wish E) pins D f s'):SP X pins D f s':=by
 cases f with
 |next=>obtain⟨z,H',I,q⟩:=h;exact⟨z,H',I.unwish,q⟩
 |brk=>obtain⟨z,H',I,q⟩:=h;exact⟨z,H',I.unwish,q⟩
 |cont=>obtain⟨z,H',I,q⟩:=h;exact⟨z,H',I.unwish,q⟩
 |ret u=>obtain⟨v,z,H',I,r,q⟩:=h;exact⟨v,z,H',I.unwish,r,q⟩
theorem PSs.nox{st:List Stmt}{t:TS}(h:PSs X.nox st t):PSs X st t:=λpins s M H D I hw=>vd (h pins s M H D (I.wish _) hw) (λ_ _ q=>q.unwish) λ_ _ z=>False.elim z
end
section
variable {X:Cx}{st:Stmt}{rest:List Stmt}{t u:TS}{e:Expr}{te:TE}{pos:Pos}
def ZM:TS:=λD M H=>D.nx M H
def aGW(t u:TS):TS:=λD M H=>t {D with nx:=u D} M H
def DF:PSs X [] ZM:=λ_ _ M H _ I h=>wpAny_execs_nil ⟨M,H,I,h⟩
def gX(h1:PS X st t)(h2:PSs X rest u):PSs X (st::rest) (aGW t u):=by
 intro pins s M H D I h;refine wpAny_execs_cons (ah (h1 pins s M H {D with nx:=u D} I h) λf s1 q=>?_);cases f with
 |next=>obtain⟨z,H',I',q⟩:=q;exact h2 pins s1 z H' D I' q
 |ret v=>exact q
 |brk=>exact q
 |cont=>exact q
def jW(h1:PS X st t):PSs X [st] t:=by
 intro pins s M H D I h;refine wpAny_execs_cons (ah (h1 pins s M H D I h) λf s1 q=>?_);cases f with
 |next=>exact wpAny_execs_nil q
 |ret v=>exact q
 |brk=>exact q
 |cont=>exact q
def VN:PS X (.Pass pos) ZM:=λ_ _ M H _ I h=>wpAny_Pass ⟨M,H,I,h⟩
def Inv.quiet{M:St}{H:Hp}(I:Inv X pins M H s):interactive X.env=J:=by simp[interactive,I.ok.kind]
def ZN(te:TE):TS:=λD M H=>te M H λ_ H1=>D.nx M H1
def jX(he:PE X e te)(hs:swapsWith e U pos.line X.env=pure J:=by rfl):PS X (.Expr e pos) (ZN te):=by intro pins s M H D I h;exact wpAny_Expr_any (ah (he pins s M H _ I h) λv s1 ⟨x,H1,I1,r1,z⟩=>⟨M,H1,I1,z⟩) I.quiet hs
def aGX(te:TE):TS:=λD M H=>te M H D.rt
def tZ(he:PE X e te):PS X (.Return (O e) pos) (aGX te):=by intro pins s M H D I h;exact wpAny_Return_some (ah (he pins s M H _ I h) λv s1 ⟨x,H1,I1,z,q1⟩=>⟨x,M,H1,I1,z,q1⟩)
def aHb(c:TT)(t u:TS):TS:=λD M H=>c M H λb H1=>if b=Y then t D M H1 else u D M H1
def aFh{c:Expr}{a b:List Stmt}{tc:TT}(hc:PT X c tc)(ha:PSs X a t)(hb:PSs X b u):PS X (.If c a b pos) (aHb tc t u):=by
 intro pins s M H D I h;refine wpAny_If (ah (hc pins s M H _ I h) λd s1 ⟨H1,I1,z⟩=>?_);cases d with
 |true=>exact ha pins s1 M H1 D I1 z
 |false=>exact hb pins s1 M H1 D I1 z
end
abbrev TG:=V->St->Hp->(St->Hp->Prop)->Prop
abbrev kc:=List V->St->Hp->(St->Hp->Prop)->Prop
def PG(X:Cx)(target:Expr)(t:TG):Prop:=∀(pins:wk) (s:Shared) (M:St) (H:Hp) (v:V) (u:Value) (Q:St->Hp->Prop),Inv X pins M H s->RelV v u->t v M H Q ->wpAny (model X.prog X.w) X.A (assign target X.env u) (λ_ s'=>∃z H',Inv X pins z H' s'/\Q z H') X.xe s
def rh(X:Cx)(ts:List Expr)(t:kc):Prop:=∀(pins:wk) (s:Shared) (M:St) (H:Hp) (vs:List V) (us:List Value) (Q:St->Hp->Prop),Inv X pins M H s->aX vs us->t vs M H Q ->wpAny (model X.prog X.w) X.A (assignInOrder ((assignEach ts X.env).map (·.2)) us) (λ_ s'=>∃z H',Inv X pins z H' s'/\Q z H') X.xe s
abbrev aDM:=V->V->V->Hp->(Hp->Prop)->Prop
def aGL(X:Cx)(t:aDM):Prop:=∀(pins:wk) (s:Shared) (M:St) (H:Hp) (o i v:V) (z I u:Value) (Q:Hp->Prop),Inv X pins M H s->RelV o z->RelV i I->RelV v u->t o i v H Q ->wpAny (model X.prog X.w) X.A (setItem z I u) (λ_ s'=>∃H',Inv X pins M H' s'/\Q H') X.xe s
section
variable {X:Cx}{pos:Pos}
def EG(i:Nat):TG:=λv M H Q=>Q (M.set i (O v)) H
def DG(hN:X.N.Nodup)(hi:X.N[i]?=O x)(hx:Loc X.env.scope x)(hf:X.fn x=Y\/X.env.scope.names.lookup x=O .local:=by first|exact .inl rfl|exact .inr rfl|assumption):PG X (.Name x pos) (EG i):=by intro pins s M H v u Q I r h;exact wpAny_assign_Name (wD I hN hi hx r (λs' z=>⟨_,H,z,h⟩) hf)
noncomputable def aHC:kc:=λvs M H Q=>vs=[]/\Q M H
noncomputable def aGo(t:TG)(u:kc):kc:=λvs M H Q=>∃v r,vs=v::r/\t v M H λz H'=>u r z H' Q
def VX:rh X [] aHC:=by intro pins s M H vs us Q I r h;obtain⟨e,h⟩:=h;subst e;cases r;exact assignInOrder_nil ⟨M,H,I,h⟩
def KI{es:List Expr}{t:TG}{u:kc}(h1:PG X e t)(h2:rh X es u) (hs:(assignEach (e::es) X.env).map (·.2)=assign e X.env::(assignEach es X.env).map (·.2):=by rfl):rh X (e::es) (aGo t u):=by
 intro pins s M H vs us Q I r h;obtain⟨v,vr,e1,h⟩:=h;subst e1;cases r with
 |cons r z=>rw[hs];refine assignInOrder_cons (ah (h1 pins s M H _ _ _ I r h) λ_ s1 ⟨σ1,H1,I1,q1⟩=>?_);exact h2 pins s1 σ1 H1 _ _ Q I1 z q1
def aHA(K:wc)(n:Nat)(t:kc):TG:=λv M H Q=>∃a xs,v=.ref a/\SqT K H a xs/\xs.length=n/\t xs M H Q
def aBQ{es:List Expr}{k:Nat}{t:kc}{n:Nat}(hc:X.calm=Y)(h:rh X es t) (hn:(assignEach es X.env).length=n:=by rfl) (z:(assignEach es X.env).findIdx? (·.1)=U:=by rfl):PG X (.Tuple es k pos) (aHA X.K n t):=by intro pins s M H v u Q I r hw;obtain⟨a,xs,e1,hq,hl,hw⟩:=hw;subst e1;cases r;obtain⟨its,rv,ht,hz⟩:=I.tuple hq;refine assign_Tuple_tuple (I.ok.hd hc) ht (by simp[hn,<-hl,rv.length]) z λh' hx=>?_;have I1:Inv X pins M H {s with heap:=h' }:=I.kept (t':=s.toks) λb o e=>hx b o (v3 (uf e)) e;exact h pins _ M H xs _ Q I1 (by simpa using rv) hw
def aHB(to z:TE)(t:aDM):TG:=λv M H Q=>to M H λo H1=>z M H1 λi H2=>t o i v H2 λI=>Q M I
def aBR{o i:Expr}{to ti:TE}{t:aDM}(ho:PE X o to)(hi:PE X i ti)(hs:aGL X t)
  (ha:∀v,assign (.Subscript o i pos) X.env v=(do
   let z <-holding [v] (eval o X.env);let iv <-holding [v,z] (eval i X.env)
   standAt pos
   holding [v,z,iv] (setItem z iv v)
   release [v,z,iv] []):=by intro _;rfl):PG X (.Subscript o i pos) (aHB to ti t):=by
 intro pins s M H v u Q I r h;rw[ha];refine vb (wpAny_holding (ah (ho pins s M H _ I h) λz s1 ⟨x,H1,I1,r1,q1⟩=>?_));refine vb (wpAny_holding (ah (hi pins s1 M H1 _ I1 q1) λiv s2 ⟨y,H2,I2,r2,q2⟩=>?_));refine vb (wpAny_standAt (vb (wpAny_holding (ah (hs pins s2 M H2 x y v z iv u _ I2 r1 r2 r q2) λ_ s3 ⟨H3,I3,q3⟩=>?_))));exact wpAny_release ⟨M,H3,I3,q3⟩
def aEz(te:TE)(g:TG):TS:=λD M H=>te M H λx H1=>g x M H1 D.nx
def KD{te:TE}{g:TG}(he:PE X e te)(hg:PG X tg g)(hs:swapsWithSole [tg] e pos.line X.env=pure J:=by rfl)(hw:swappedStores [tg] e X.env=pure U:=by rfl) (h1:(assignEach [tg] X.env).map (·.2)=[assign tg X.env]:=by rfl):PS X (.Assign [tg] e pos) (aEz te g):=by intro pins s M H D I h;refine wpAny_Assign_stores (ah (he pins s M H _ I h) λv s1 ⟨x,H1,I1,z,q1⟩=>?_) hs hw;rw[h1];exact ah (hg pins s1 M H1 x v _ I1 z q1) λ_ s2 q=>q
def zW{te:TE}{pos':Pos}(hN:X.N.Nodup)(hi:X.N[i]?=O x)(hx:Loc X.env.scope x)(he:PE X e te)(hs:swapsWith e (O (.Name x pos')) pos.line X.env=pure J:=by rfl)(hf:X.fn x=Y\/X.env.scope.names.lookup x=O .local:=by first|exact .inl rfl|exact .inr rfl|assumption):
  PS X (.Assign [.Name x pos'] e pos) (aEz te (EG i)):=by
 intro pins s M H D I h;refine wpAny_Assign_Name (ah (he pins s M H _ I h) λv s1 ⟨y,H1,I1,z,q1⟩=>?_) hs;exact wD I1 hN hi hx z (λs2 I2=>⟨_,H1,I2,q1⟩) hf
end
structure It where
 go:Nat->Hp->Prop
 yld:Nat->Hp->V->Hp->Prop
 stop:Nat->Hp->Prop
def lD(X:Cx)(pins:wk)(H:Hp)(b:Addr):Prop:=H b=U/\b≠X.env.locals/\b∉X.fs/\(b∈X.ex\/X.s₀.heap.objs.size<=b)/\(∀x c,X.env.cells.lookup x=O c->c≠b)/\∀p∈X.pn++pins,p.1≠b
def Inv.fpOk{X:Cx}{M:St}{H H':Hp}(I:Inv X pins M H s)(hb:s.heap.objs.size<=b)(hn:H' b=U):lD X pins H' b:=by refine⟨hn,Nat.ne_of_gt (u7 I.lt hb),I.nofs hb,.inr (ug I.sz hb),λx c e z=>?_,λp hp z=>?_⟩;obtain⟨v,q⟩:=I.cell x c e;exact absurd (u7 q.lt (by rw[z];exact hb)) (va _);exact absurd (u7 (uf (I.pin p hp).1) (by rw[z];exact hb)) (va _)
structure Turn (P:wg) (w:World) (K:wc) (tg:Expr) (æ:It) (fp:List Addr) (it:Addr) (tn:Nat->Heap->Prop):Prop where
 mem:it∈fp
 obj:∀i h,tn i h->∀b∈fp,∃o,h.get? b=O o/\∀v,o.data≠.cell v
 keep:∀i h h',tn i h->(∀b∈fp,∀o,h.get? b=O o->h'.get? b=O o)->tn i h'
 item:∀(X:Cx),X.prog=P->X.w=w->X.K=K->X.calm=Y->∀(i:Nat) (pins:wk) (s:Shared) (M:St) (H:Hp) (E:wj),Inv X pins M H s->(∀b∈fp,lD X pins H b)->tn i s.heap->æ.go i H ->
  wpAny (model P w) X.A (pyNext (.ref it)) (λr s1=>∃u,r=O u /\
   wpAny (model P w) X.A (letOwnedTupleGo tg (.ref it) u) (λ_ s2=>∃x H',Inv X pins M H' s2/\RelV x u/\æ.yld i H x H'/\tn (i+1) s2.heap/\∀b∈fp,H' b=U) E s1) E s
 done:∀(X:Cx),X.prog=P->X.w=w->X.K=K->X.calm=Y->∀(i:Nat) (pins:wk) (s:Shared) (M:St) (H:Hp) (E:wj),Inv X pins M H s->(∀b∈fp,lD X pins H b)->tn i s.heap->æ.stop i H ->
  wpAny (model P w) X.A (pyNext (.ref it)) (λr s1=>r=U/\Inv X pins M H s1) E s
 self:∀(A:Around) (i:Nat) (s:Shared) (Q:wj) (E:wj),tn i s.heap->Q (.ref it) s->wpAny (model P w) A (pyIter (.ref it)) Q E s
abbrev TI:=St->Hp->(It->Hp->Prop)->Prop
def PIE(X:Cx)(pins:wk)(M:St)(tg:Expr)(α:It->Hp->Prop)(z:Value)(s2:Shared):Prop:=∃(it:Addr) (fp:List Addr) (tn:Nat->Heap->Prop) (æ:It) (H':Hp),z=.ref it/\Inv X pins M H' s2/\Turn X.prog X.w X.K tg æ fp it tn/\tn 0 s2.heap/\(∀b∈fp,lD X pins H' b)/\α æ H'
def PI(X:Cx)(tg iter:Expr)(z:TI):Prop:=∀(pins:wk) (s:Shared) (M:St) (H:Hp) (α:It->Hp->Prop),Inv X pins M H s->z M H α ->wpAny (model X.prog X.w) X.A (eval iter X.env) (λv s1=>wpAny (model X.prog X.w) X.A (pyIter v) (PIE X pins M tg α) X.xe s1) X.xe s
def EF{it:Addr}{o:Obj}{n:String}{vs:Array Value}{Q:Unit->Shared->Prop}(ho:s.heap.get? it=O o)(hc:o.cls=.type n)(hd:o.data=.fields vs)
  (hn:["enumerate","zip","dict_itemiterator","dict_reverseitemiterator","odict_iterator","itertools.zip_longest","itertools.pairwise"].contains n=J) (z:Q () s):wpAny σ A (letOwnedTupleGo tg (.ref it) u) Q E s:=by
 unfold letOwnedTupleGo;cases tg<;>first
  |exact vc z
  | (cases u<;>first
    |exact vc z
    | (refine vb (wpAny_load ho ?_)
       rw[hc,hd];show wpAny σ A (if (["enumerate","zip","dict_itemiterator","dict_reverseitemiterator","odict_iterator","itertools.zip_longest","itertools.pairwise"].contains n&&vs[0]? == O (rawInt _))=Y then _ else _) Q E s
       rw[if_neg (by intro h;rw[hn,Bool.false_and]at h;cases h)]
       exact vc z))
noncomputable def Itl(K:wc)(a:Addr):It:=⟨λi H=>∃xs x,SqL K H a xs/\xs[i]?=O x,λi H x H'=>H'=H/\∀xs,SqL K H a xs->xs[i]?=O x,λi H=>∃xs,SqL K H a xs/\xs.length<=i⟩
noncomputable def Itt(K:wc)(a:Addr):It:=⟨λi H=>∃xs x,SqT K H a xs/\xs[i]?=O x,λi H x H'=>H'=H/\∀xs,SqT K H a xs->xs[i]?=O x,λi H=>∃xs,SqT K H a xs/\xs.length<=i⟩
noncomputable def oi(lo:Int)(n:Nat):It:=⟨λi _=>i<n,λi H x H'=>H'=H/\x=.int (lo+i),λi _=>n<=i⟩
def FX(a it:Addr):Turn P w K tg (Itl K a) [it] it (λi h=>h.IsListIter it a i) where
 mem:=by simp
 obj:=λi h st b hb=>by
  have e:b=it:=by simpa using hb
  subst e;obtain⟨o,e,c,d⟩:=st;exact⟨o,e,λv z=>by rw[d]at z;cases z⟩
 keep:=λi h h' st k=>st.at λo e=>k it y9 o e
 item:=by
  intro X hP hw hK hc i pins s M H E I hf st hg;subst hP hw hK;obtain⟨xs,x,hq,hx⟩:=hg;obtain⟨its,rv,p,hz⟩:=I.list hq;obtain⟨u,hu,ru⟩:=rv.get hx;obtain⟨f0,f1,f2,f3,f4,f5⟩:=hf it y9
  refine wpAny_pyNext_list_item st p.isList (x:=u) (by simpa using hu) λh' ae sb=>?_
  have I1:Inv X pins M H {s with heap:=h' }:=I.turned (t':=s.toks) (λb o hb e=>(sb.2 b hb).trans e) f0 f1 f3 f4 f5
  obtain⟨o,e,c,d⟩:=id ae;exact⟨u,rfl,EF (s:={s with heap:=h' }) e c d y8 ⟨x,H,I1,ru,⟨rfl,λys hy=>by rw[I.list_inj hy hq];exact hx⟩,ae,λb hb=>(hf b hb).1⟩⟩
 done:=by
  intro X hP hw hK hc i pins s M H E I hf st hg;subst hP hw hK;obtain⟨xs,hq,hx⟩:=hg;obtain⟨its,rv,p,hz⟩:=I.list hq;obtain⟨f0,f1,f2,f3,f4,f5⟩:=hf it y9
  have hl:=rv.length
  exact wpAny_pyNext_list_end (I.ok.hd hc) st p.isList (by simp;lia) λh' eb=>⟨rfl,I.turned (t':=s.toks) (λb o hb e=>eb b o hb e) f0 f1 f3 f4 f5⟩
 self:=λ_ _ _ _ _ st h=>wpAny_pyIter_listiter st h
def zH(a it:Addr):Turn P w K tg (Itt K a) [it] it (λi h=>h.IsTupleIter it a i) where
 mem:=by simp
 obj:=λi h st b hb=>by
  have e:b=it:=by simpa using hb
  subst e;obtain⟨o,e,c,d⟩:=st;exact⟨o,e,λv z=>by rw[d]at z;cases z⟩
 keep:=λi h h' st k=>st.at λo e=>k it y9 o e
 item:=by
  intro X hP hw hK hc i pins s M H E I hf st hg;subst hP hw hK;obtain⟨xs,x,hq,hx⟩:=hg;obtain⟨its,rv,p,hz⟩:=I.tuple hq;obtain⟨u,hu,ru⟩:=rv.get hx;obtain⟨f0,f1,f2,f3,f4,f5⟩:=hf it y9
  refine wpAny_pyNext_tuple_item st (show s.heap.IsTuple a its.toArray from p) (x:=u) (by simpa using hu) λh' ae sb=>?_
  have I1:Inv X pins M H {s with heap:=h' }:=I.turned (t':=s.toks) (λb o hb e=>(sb.2 b hb).trans e) f0 f1 f3 f4 f5
  obtain⟨o,e,c,d⟩:=id ae;exact⟨u,rfl,EF (s:={s with heap:=h' }) e c d y8 ⟨x,H,I1,ru,⟨rfl,λys hy=>by rw[I.tuple_inj hy hq];exact hx⟩,ae,λb hb=>(hf b hb).1⟩⟩
 done:=by
  intro X hP hw hK hc i pins s M H E I hf st hg;subst hP hw hK;obtain⟨xs,hq,hx⟩:=hg;obtain⟨its,rv,p,hz⟩:=I.tuple hq;obtain⟨f0,f1,f2,f3,f4,f5⟩:=hf it y9
  have hl:=rv.length
  exact wpAny_pyNext_tuple_end (I.ok.hd hc) st (show s.heap.IsTuple a its.toArray from p) (by simp;lia) λh' eb=>⟨rfl,I.turned (t':=s.toks) (λb o hb e=>eb b o hb e) f0 f1 f3 f4 f5⟩
 self:=λ_ _ _ _ _ st h=>wpAny_pyIter_tupleiter st h
def zI(it:Addr)(lo:Int)(n:Nat):Turn P w K tg (oi lo n) [it] it (λi h=>IsRangeIter h it (lo+(i:Nat)*1) ((n:Int)-(i:Nat)) 1) where
 mem:=by simp
 obj:=λi h st b hb=>by
  have e:b=it:=by simpa using hb
  subst e;exact⟨_,st,λv z=>by
   have z':Data.fields _=Data.cell v:=z
   cases z'⟩
 keep:=λi h h' st k=>k it y9 _ st
 item:=by
  intro X hP hw hK hc i pins s M H E I hf st hg;subst hP hw hK;obtain⟨f0,f1,f2,f3,f4,f5⟩:=hf it y9
  have W:=Walks.range (prog:=X.prog) (w:=X.w) (I.ok.hd hc) it lo 1 n
  refine W.item i s _ _ hg st λv h' tk hv ae kk=>?_
  obtain⟨t,rfl⟩:=hv;have I1:Inv X pins M H {s with heap:=h',toks:=tk}:=I.turned (λb o hb e=>kk b o (by simpa using hb) e) f0 f1 f3 f4 f5
  refine⟨_,rfl,EF (s:={s with heap:=h',toks:=tk}) (n:="range_iterator") ae rfl rfl y8 ⟨.int (lo+i),H,I1,⟨t,?_⟩,⟨rfl,rfl⟩,ae,λb hb=>(hf b hb).1⟩⟩
  rw[Int.mul_one]
 done:=by
  intro X hP hw hK hc i pins s M H E I hf st hg;subst hP hw hK;obtain⟨f0,f1,f2,f3,f4,f5⟩:=hf it y9
  exact wpAny_pyNext_range_end (I.ok.hd hc) st (by have:n<=i:=hg;lia) λh' eb=>⟨rfl,I.turned (t':=s.toks) (λb o hb e=>eb b o hb e) f0 f1 f3 f4 f5⟩
 self:=λ_ _ _ _ _ st h=>wpAny_pyIter_rangeiter st h
section
variable {X:Cx}{tg:Expr}
def wV{M:St}{H:Hp}{α:It->Hp->Prop}{lo hi:Int}{t u v:Tok}{tk:Nat}(I:Inv X pins M H s)(h1:-(2 ^ 62)<=lo)(h2:lo<2 ^ 62)(h3:-(2 ^ 62)<=hi)(h4:hi<2 ^ 62) (q:α (oi lo (hi-lo).toNat) H):wpAny (model X.prog X.w) X.A (pyIter (.ref s.heap.objs.size)) (PIE X pins M tg α) E {s with heap:=s.heap.push {cls:=.type "range",data:=.fields #[.int lo t,.int hi u,.int 1 v]},toks:=tk}:=by
 refine wpAny_pyIter_range (IsRange.new ..) (small_one h1 h2 h3 h4) ?_;have I1:Inv X pins M H {s with heap:=s.heap.push {cls:=.type "range",data:=.fields #[.int lo t,.int hi u,.int 1 v]},toks:=tk}:=I.kept λb o e=>tm _ e;refine⟨(s.heap.push {cls:=.type "range",data:=.fields #[.int lo t,.int hi u,.int 1 v]}).objs.size,[(s.heap.push {cls:=.type "range",data:=.fields #[.int lo t,.int hi u,.int 1 v]}).objs.size],_,_,H,rfl,I1.kept (t':=tk) λb o e=>tm _ e,zI _ lo (hi-lo).toNat,?_,λb hb=>?_,q⟩;have e1:lo+((0:Nat):Int)*1=lo:=by simp
 have e2:(((hi-lo).toNat:Nat):Int)-((0:Nat):Int)=Builtin.Range.rangeSize lo hi 1:=by rw[rangeSize_one];split<;>lia
 show IsRangeIter _ _ (lo+((0:Nat):Int)*1) ((((hi-lo).toNat:Nat):Int)-((0:Nat):Int)) 1;rw[e1,e2];exact ve _ rfl;have e:b=(s.heap.push {cls:=.type "range",data:=.fields #[.int lo t,.int hi u,.int 1 v]}).objs.size:=by simpa using hb
 subst e;exact I1.fpOk (t9 _) (I1.hok.fresh (t9 _))
def aGi(ta:TA):TI:=λM H α=>ta M H λvs H1=>∃j:Int,vs=[.int j]/\-(2 ^ 62)<=j/\j<2 ^ 62/\α (oi 0 j.toNat) H1
def aGh(ta:TA):TI:=λM H α=>ta M H λvs H1=>∃i j:Int,vs=[.int i,.int j]/\(-(2 ^ 62)<=i/\i<2 ^ 62/\-(2 ^ 62)<=j/\j<2 ^ 62)/\α (oi i (j-i).toNat) H1
def GO{a:Expr}{ta:TA}{p:Pos}(hg:Gl X "range")(hm:X.mg "range"=U)(ha:PA X [a] ta)(hs:starEach [a] X.env=[(J,eval a X.env)]:=by rfl):PI X tg (.Call (.Name "range" p) [a] [] pos) (aGi ta):=by
 intro pins s M H α I h;refine Call_ (fH I hg hm boot_range (uj (ah (ha pos pins s M H _ I h) λus s1 ⟨vs,H1,I1,r1,z⟩=>?_) hs rfl));obtain⟨j,e,z,q2,q⟩:=z;subst e;cases r1 with
 |cons r rr=>cases rr;obtain⟨t,rfl⟩:=r;exact call_range_1 (wV I1 (by lia) (by lia) z q2 (by simpa using q))
def GN{a b:Expr}{ta:TA}{p:Pos}(hg:Gl X "range")(hm:X.mg "range"=U)(ha:PA X [a,b] ta)(hs:starEach [a,b] X.env=[(J,eval a X.env),(J,eval b X.env)]:=by rfl)(gg:starEach [b] X.env=[(J,eval b X.env)]:=by rfl):PI X tg (.Call (.Name "range" p) [a,b] [] pos) (aGh ta):=by
 intro pins s M H α I h;refine Call_ (fH I hg hm boot_range (uj (ah (ha pos pins s M H _ I h) λus s1 ⟨vs,H1,I1,r1,q1⟩=>?_) (by rw[hs,gg]) (by rw[gg];rfl)));obtain⟨i,j,e,⟨q1,q2,q3,q4⟩,q⟩:=q1;subst e;cases r1 with
 |cons r z=>
  cases z with
  |cons r' z=>cases z;obtain⟨t,rfl⟩:=r;obtain⟨t',rfl⟩:=r';exact call_range_2 (wV I1 q1 q2 q3 q4 q)
def aHc(wi:TI)(g:TG)(tb:TS):TS:=λD M H=>wi M H λæ H1=>∃W:Nat->Nat->St->Hp->Prop,(∃m,W 0 m M H1)/\∀i m M H,W i m M H ->(æ.stop i H/\D.nx M H)\/(æ.go i H/\∃N:St->Hp->Prop,(∀M' H',N M' H'->∃I,I<m/\W (i+1) I M' H')/\∀x H',æ.yld i H x H'->g x M H' λz H2=>tb {D with nx:=N,ct:=N,bk:=D.nx} z H2)
noncomputable def mE(fp:List Addr)(h:Heap):List (Addr×Obj):=fp.filterMap λb=>(h.get? b).map λo=>(b,o)
def iG{fp:List Addr}{o:Obj}(hb:b∈fp)(e:h.get? b=O o):(b,o)∈mE fp h:=List.mem_filterMap.mpr ⟨b,hb,by rw[e];rfl⟩
def GW{fp:List Addr}{p:Addr×Obj}(hp:p∈mE fp h):p.1∈fp/\h.get? p.1=O p.2:=by
 obtain⟨b,hb,e⟩:=List.mem_filterMap.mp hp;cases q:h.get? b with
 |none=>rw[q]at e;cases e
 |some o=>rw[q]at e;have e':(b,o)=p:=u4 e;subst e';exact⟨hb,q⟩
def Inv.pinned{M:St}{H:Hp}{fp:List Addr}(I:Inv X pins M H s)(hf:∀b∈fp,lD X pins H b)(ho:∀b∈fp,∃o,s.heap.get? b=O o/\∀v,o.data≠.cell v):Inv X (pins++mE fp s.heap) M H s:=I.pins_of λp hp=>(wb.mp hp).elim (λz=>I.pin p (v8 _ z)) λz=>by obtain⟨hb,e⟩:=GW z;obtain⟨f0,f1,f2,_⟩:=hf p.1 hb;obtain⟨o,e',d⟩:=ho p.1 hb;rw[e]at e';cases e';exact⟨e,f0,f1,f2,d⟩
def Inv.unpinned{pl:wk}{M:St}{H:Hp}(I:Inv X (pins++pl) M H s):Inv X pins M H s:=I.pins_of λp hp=>I.pin p (v8 _ (v9 _ hp))
def KC{iter:Expr}{body:List Stmt}{wi:TI}{g:TG}{tb:TS}(hp:PassesOwn (model X.prog X.w) X.A X.env X.xe)(hc:X.calm=Y)(hi:PI X tg iter wi)(hg:PG X tg g)(hb:PSs X body tb) (hs:∀x,foldedSetIterable iter X.env x=pure x:=by intro _;rfl):PS X (.For tg iter body [] pos) (aHc wi g tb):=by
 intro pins s M H D I h;refine wpAny_For (ah (hi pins s M H _ I h) λv s1 h1=>ah h1 λitv s2 h2=>?_) hs;obtain⟨it,fp,tn,æ,H2,e,I2,T,ig,f2,W,⟨m0,w0⟩,turn⟩:=h2;subst e;have fm:∀{H':Hp},(∀b∈fp,H' b=U)->∀b∈fp,lD X pins H' b:=λhn b hb=>⟨hn b hb,(f2 b hb).2⟩;refine codeAny_forLoop_any (λn s'=>∃i M' H',Inv X pins M' H' s'/\tn i s'.heap/\(∀b∈fp,H' b=U)/\W i n M' H') ?_ m0 ⟨0,M,H2,I2,ig,λb hb=>(f2 b hb).1,w0⟩;rintro n s3 ⟨i,σ3,H3,I3,jw,fr3,w3⟩;rcases turn i n σ3 H3 w3 with ⟨stop,qn⟩|⟨go,N,hN,step⟩;refine wpAny_passesOwn hp (ah (T.done X rfl rfl rfl hc i pins s3 σ3 H3 X.xe I3 (fm fr3) jw stop) λr s4 ⟨hr,I4⟩=>?_);subst hr;exact wpAny_execs_nil ⟨σ3,H3,I4,qn⟩
 .refine wpAny_passesOwn hp (ah (T.item X rfl rfl rfl hc i pins s3 σ3 H3 X.xe I3 (fm fr3) jw go) λr s4 ⟨u,hr,h4⟩=>?_)
  subst hr;refine wpAny_passesOwn hp (ah h4 λ_ s5 ⟨x,H5,I5,r5,y5,st5,fr5⟩=>?_);have I5':=I5.pinned (fm fr5) (T.obj _ _ st5);refine wpAny_passesOwn hp (ah (hg _ s5 σ3 H5 x u _ I5' r5 (step x H5 y5)) λ_ s6 ⟨σ6,H6,I6,q6⟩=>?_);refine wpAny_passesOwn hp (ah (hb _ s6 σ6 H6 _ I6 q6) λf s7 q7=>?_);have again:∀{z:St} {H7:Hp},Inv X (pins++mE fp s5.heap) z H7 s7->N z H7->∃m,m<n/\∃i M' H',Inv X pins M' H' s7/\tn i s7.heap/\(∀b∈fp,H' b=U)/\W i m M' H':=λ{z H7} I7 n7=>by obtain⟨m',hm,w7⟩:=hN z H7 n7;refine⟨m',hm,i+1,z,H7,I7.unpinned,T.keep _ _ _ st5 λb hb o e=>(I7.pin (b,o) (v8 _ (v8 _ (iG hb e)))).1,λb hb=>?_,w7⟩;obtain⟨o,e,d⟩:=T.obj _ _ st5 b hb;exact(I7.pin (b,o) (v8 _ (v8 _ (iG hb e)))).2.1
  cases f with
  |next=>obtain⟨z,H7,I7,n7⟩:=q7;exact again I7 n7
  |cont=>obtain⟨z,H7,I7,n7⟩:=q7;exact again I7 n7
  |brk=>obtain⟨z,H7,I7,q7⟩:=q7;exact⟨z,H7,I7.unpinned,q7⟩
  |ret v=>obtain⟨x7,z,H7,I7,r7,q7⟩:=q7;exact⟨x7,z,H7,I7.unpinned,r7,q7⟩
end
abbrev R2:=V->V->Hp->VK->Prop
def az(X:Cx)(f:Value->Value->Sem Value)(r:R2):Prop:=∀(pins:wk) (s:Shared) (M:St) (H:Hp) (x y:V) (v u:Value) (Q:VK),Inv X pins M H s->RelV x v->RelV y u->r x y H Q ->wpAny (model X.prog X.w) X.A (f v u) (EP X pins M Q) X.xe s
def dE(X:Cx)(f:Value)(r:List V->Hp->VK->Prop):Prop:=∀(pins:wk) (s:Shared) (M:St) (H:Hp) (xs:List V) (us:List Value) (Q:VK),Inv X pins M H s->aX xs us->r xs H Q ->wpAny (model X.prog X.w) X.A (call f us) (EP X pins M Q) X.xe s
def aHG(X:Cx)(r:V->Hp->(Bool->Hp->Prop)->Prop):Prop:=∀(pins:wk) (s:Shared) (M:St) (H:Hp) (x:V) (v:Value) (Q:Bool->Hp->Prop),Inv X pins M H s->RelV x v->r x H Q ->wpAny (model X.prog X.w) X.A (truthy v) (TP X pins M Q) X.xe s
def l7(r:R2)(ta tb:TE):TE:=λM H Q=>ta M H λx H1=>tb M H1 λy H2=>r x y H2 Q
noncomputable def rI(C:Int->Int->Prop)(g:Int->Int->V):R2:=λx y H Q=>∃i j,x=.int i/\y=.int j/\C i j/\Q (g i j) H
noncomputable def jy(g:Int->Int->V):R2:=λx y H Q=>∃i j,x=.int i/\y=.int j/\Q (g i j) H
section
variable {X:Cx}{a b c:Expr}{ta tb tc:TE}{pos:Pos}
def aDH(ha:PE X a ta)(hb:PE X b tb){M:St}{H:Hp}{α:V->V->Hp->Prop}(I:Inv X pins M H s) (h:ta M H λx H1=>tb M H1 λy H2=>α x y H2)  {f:Value->Value->Sem Value} (hf:∀v u s2 x y H2,Inv X pins M H2 s2->RelV x v->RelV y u->α x y H2->wpAny (model X.prog X.w) X.A (f v u) Q X.xe s2):wpAny (model X.prog X.w) X.A (eval a X.env) (λv s₁=>wpAny (model X.prog X.w) X.A (eval b X.env) (λu z=>wpAny (model X.prog X.w) X.A (f v u) Q X.xe z) X.xe s₁) X.xe s:=by refine ah (ha pins s M H _ I h) λv s1 ⟨x,H1,I1,r1,q1⟩=>?_;refine ah (hb pins s1 M H1 _ I1 q1) λu s2 ⟨y,H2,I2,r2,q2⟩=>?_;exact hf v u s2 x y H2 I2 r1 r2 q2
def aFj{op:Operator}{r:R2}(ho:az X (binaryOp op) r)(ha:PE X a ta)(hb:PE X b tb):PE X (.BinOp a op b pos) (l7 r ta tb):=by intro pins s M H Q I h;exact wpAny_BinOp (aDH ha hb I h λv u s2 x y H2 I2 rx z q=>ho pins s2 M H2 x y v u Q I2 rx z q)
def opI{f:Value->Value->Sem Value}{C:Int->Int->Prop}{g:Int->Int->Int} (rule:∀(i j:Int) (t u:Tok) (s:Shared) (Q:wj) (E:wj),C i j->Q (.int (g i j) s.toks) {s with toks:=s.toks+1}->wpAny (model X.prog X.w) X.A (f (.int i t) (.int j u)) Q E s):az X f (rI C λi j=>.int (g i j)):=by intro pins s M H x y v u Q I rx z h;obtain⟨i,j,rfl,rfl,hc,q⟩:=h;obtain⟨t,rfl⟩:=rx;obtain⟨t',rfl⟩:=z;exact rule i j t t' s _ _ hc ⟨.int (g i j),H,I.tok _,⟨_,rfl⟩,q⟩
def aFs{f:Value->Value->Sem Value}{g:Int->Int->Int} (rule:∀(i j:Int) (t u:Tok) (s:Shared) (Q:wj) (E:wj),Q (.int (g i j) s.toks) {s with toks:=s.toks+1}->wpAny (model X.prog X.w) X.A (f (.int i t) (.int j u)) Q E s):az X f (jy λi j=>.int (g i j)):=by intro pins s M H x y v u Q I rx z h;obtain⟨i,j,rfl,rfl,q⟩:=h;obtain⟨t,rfl⟩:=rx;obtain⟨t',rfl⟩:=z;exact rule i j t t' s _ _ ⟨.int (g i j),H,I.tok _,⟨_,rfl⟩,q⟩
def WW{f:Value->Value->Sem Value}{g:Int->Int->Bool} (rule:∀(i j:Int) (t u:Tok) (s:Shared) (Q:wj) (E:wj),Q (.bool (g i j)) s->wpAny (model X.prog X.w) X.A (f (.int i t) (.int j u)) Q E s):az X f (jy λi j=>.bl (g i j)):=by intro pins s M H x y v u Q I rx z h;obtain⟨i,j,rfl,rfl,q⟩:=h;obtain⟨t,rfl⟩:=rx;obtain⟨t',rfl⟩:=z;exact rule i j t t' s _ _ ⟨.bl (g i j),H,I,rfl,q⟩
def aHI(i j:Int):Prop:=0<j/\j<1073741824
def aHH(i j:Int):Prop:=0<=j/\j<=1000000/\i.natAbs<2 ^ 64
def aDQ(i j:Int):Prop:=(-(2 ^ 64)<i/\i<2 ^ 64)\/(-(2 ^ 64)<j/\j<2 ^ 64)
def aDQ.ok{i j:Int}(h:aDQ i j):IntMulOk i j:=by rcases h with ⟨h1,h2⟩|⟨h1,h2⟩;exact .of_left (intBits_le_64 h1 h2);exact .of_right (intBits_le_64 h1 h2)
def aCg:az X (binaryOp .Add) (jy λi j=>.int (i+j)):=aFs λ_ _ _ _ _ _ _ q=>add_int q
def aCa:az X (binaryOp .Sub) (jy λi j=>.int (i-j)):=aFs λ_ _ _ _ _ _ _ q=>sub_int q
def aCc:az X (binaryOp .Mult) (rI aDQ λi j=>.int (i*j)):=opI λ_ _ _ _ _ _ _ hc q=>mul_int q hc.ok
def WM:az X (binaryOp .FloorDiv) (rI aHI λi j=>.int (i / j)):=opI λi j _ _ _ _ _ hc q=>by have h1:(0:Int)<j:=hc.1;have h2:j<1073741824:=hc.2;exact floordiv_int (by lia) (by rw[Int.fdiv_eq_ediv_of_nonneg i (by lia)];exact q) (.inl (PyProof.noPylong_small (by lia)))
def aCd:az X (binaryOp .Mod) (rI (λ_ j=>0<j) λi j=>.int (i % j)):=opI λi j _ _ _ _ _ hc q=>by have h1:(0:Int)<j:=hc;exact mod_int' (by lia) (by rw[Int.fmod_eq_emod_of_nonneg i (by lia)];exact q)
def aCb:az X (binaryOp .Pow) (rI aHH λi j=>.int (i ^ j.toNat)):=opI λ_ _ _ _ _ _ _ hc q=>pow_int_small hc.1 hc.2.1 hc.2.2 q
end
section
variable {X:Cx}{a b c:Expr}{ta tb tc:TE}{pos:Pos}
def BN{M:St}{H:Hp}{Q:VK}{k k':Bool}(I:Inv X pins M H s)(q:Q (.bl k) H)(e:k=k'):EP X pins M Q (.bool k') s:=by subst e;exact⟨.bl k,H,I,rfl,q⟩
def aFo:az X (compareOp .Lt) (jy λi j=>.bl (decide (i<j))):=WW λ_ _ _ _ _ _ _ q=>lt_int q
def aFp:az X (compareOp .LtE) (jy λi j=>.bl (decide (i<=j))):=WW λ_ _ _ _ _ _ _ q=>le_int q
def aFq:az X (compareOp .Gt) (jy λi j=>.bl (decide (j<i))):=WW λ_ _ _ _ _ _ _ q=>gt_int q
def aFr:az X (compareOp .GtE) (jy λi j=>.bl (decide (j<=i))):=WW λ_ _ _ _ _ _ _ q=>ge_int q
def GP:az X (compareOp .In) (λx y H Q=>∃i j,x=.str i/\y=.str j/\Q (.bl (!(Builtin.Str.occurrences j i 0 j.length 1).isEmpty)) H):=by intro pins s M H x y v u Q I rx z h;obtain⟨i,j,rfl,rfl,q⟩:=h;obtain⟨t,rfl⟩:=rx;obtain⟨t',rfl⟩:=z;exact in_str (BN I q rfl)
def aCe:az X (compareOp .Is) (λx y H Q=>y=.non/\Q (.bl (decide (x=.non))) H):=by
 intro pins s M H x y v u Q I z ry h;obtain⟨rfl,q⟩:=h;cases ry;refine is_none_gen (BN I q ?_);cases x<;>first
  | (cases z;rfl)
  | (obtain⟨t,rfl⟩:=z;rfl)
def WL:az X (compareOp .IsNot) (λx y H Q=>y=.non/\Q (.bl (!decide (x=.non))) H):=by
 intro pins s M H x y v u Q I z ry h;obtain⟨rfl,q⟩:=h;cases ry;refine isnot_none_gen (BN I q ?_);cases x<;>first
  | (cases z;rfl)
  | (obtain⟨t,rfl⟩:=z;rfl)
def WA{r:R2}(ho:az X (compareOp op) r)(ha:PE X a ta)(hb:PE X b tb)(hm:behindInMarks op b=J):PE X (.Compare a [op] [b] pos) (l7 r ta tb):=by intro pins s M H Q I h;exact wpAny_Compare1 (aDH ha hb I h λv u s2 x y H2 I2 rx z q=>ho pins s2 M H2 x y v u Q I2 rx z q) hm
noncomputable def ZL(t:TE):TT:=λM H Q=>t M H λx H'=>∃k,x=.bl k/\Q k H'
def VM{r:R2}(ho:az X (compareOp op) r)(ha:PE X a ta)(hb:PE X b tb)(hm:behindInMarks op b=J):PT X (.Compare a [op] [b] pos) (ZL (l7 r ta tb)):=by intro pins s M H Q I h;refine wpAny_isTrue_Compare1 (ah (ha pins s M H _ I h) λv s1 ⟨x,H1,I1,r1,q1⟩=>ah (hb pins s1 M H1 _ I1 q1) λu s2 ⟨y,H2,I2,r2,q2⟩=>ah (ho pins s2 M H2 x y v u _ I2 r1 r2 q2) λc s3 ⟨z,H3,I3,r3,k,e,q3⟩=>?_) hm;subst e;cases r3;exact wpAny_truthy_bool ⟨H3,I3,q3⟩
def zJ(r r':R2)(ta tb tc:TE):TE:=λM H Q=>ta M H λx H1=>tb M H1 λy H2=>r x y H2 λz I=>∃k,z=.bl k /\(if k=Y then tc M I λw' H4=>r' y w' H4 Q else Q (.bl J) I)
def xE{d6:CmpOp}{r r':R2}(ho:az X (compareOp op) r)(iy:az X (compareOp d6) r')(ha:PE X a ta)(hb:PE X b tb)(hc:PE X c tc) (hm:lastMarks [op,d6] [b,c]=J:=by with_unfolding_all rfl):PE X (.Compare a [op,d6] [b,c] pos) (zJ r r' ta tb tc):=by
 intro pins s M H Q I h;refine Compare_chain (ah (ha pins s M H _ I h) λv s1 ⟨x,H1,I1,r1,q1⟩=>chain_link (ah (hb pins s1 M H1 _ I1 q1) λu s2 ⟨y,H2,I2,r2,q2⟩=>ah (ho pins s2 M H2 x y v u _ I2 r1 r2 q2) λd s3 ⟨z,H3,I3,r3,k,e,q3⟩=>?_)) hm;subst e;cases r3;refine wpAny_truthy_bool ?_;cases k with
 |false=>exact ite_ff ⟨.bl J,H3,I3,rfl,q3⟩
 |true=>exact ite_tt (chain_last (ah (hc pins s3 M H3 _ I3 q3) λw' s4 ⟨z',H4,I4,r4,q4⟩=>iy pins s4 M H4 y z' u w' Q I4 r2 r4 q4))
def wY{d6:CmpOp}{r r':R2}(ho:az X (compareOp op) r)(iy:az X (compareOp d6) r')(ha:PE X a ta)(hb:PE X b tb)(hc:PE X c tc) (hm:lastMarks [op,d6] [b,c]=J:=by with_unfolding_all rfl):PT X (.Compare a [op,d6] [b,c] pos) (ZL (zJ r r' ta tb tc)):=by
 intro pins s M H Q I h;refine isTrue_chain (ah (ha pins s M H _ I h) λv s1 ⟨x,H1,I1,r1,q1⟩=>test_link (ah (hb pins s1 M H1 _ I1 q1) λu s2 ⟨y,H2,I2,r2,q2⟩=>ah (ho pins s2 M H2 x y v u _ I2 r1 r2 q2) λd s3 ⟨z,H3,I3,r3,k,e,q3⟩=>?_)) hm;subst e;cases r3;refine wpAny_truthy_bool ?_;cases k with
 |false=>obtain⟨k',e',q'⟩:=q3;cases e';exact ite_ff ⟨H3,I3,q'⟩
 |true=>refine ite_tt (test_last (ah (hc pins s3 M H3 _ I3 q3) λw' s4 ⟨z',H4,I4,r4,q4⟩=>ah (iy pins s4 M H4 y z' u w' _ I4 r2 r4 q4) λd' s5 ⟨z2,H5,I5,r5,k2,e2,q5⟩=>?_));subst e2;cases r5;exact wpAny_truthy_bool ⟨H5,I5,q5⟩
def aDL(K:wc)(x:V)(H:Hp)(k:Bool):Prop:=
 match x with
 |.non=>k=J
 |.bl b=>k=b
 |.int i=>k=(i != 0)
 |.str y=>y.length<=sizeLine/\k=((y.length:Int) != 0)
 |.byt y=>y.size<=sizeLine/\k=((y.size:Int) != 0)
 |.ref p=>(∃xs,SqL K H p xs/\k=!xs.isEmpty)\/(∃xs,SqT K H p xs/\k=!xs.isEmpty)\/∃kvs,H p=O (.dK kvs)/\k=!kvs.isEmpty
 |_=>False
def AS{κ:Type}{kvs:List (κ×V)}{vs:List (κ×Value)}(r:KV kvs vs):(!vs.isEmpty)=!kvs.isEmpty:=by cases r<;>rfl
def pM{xs:List V}{its:List Value}(r:aX xs its):(!its.toArray.isEmpty)=!xs.isEmpty:=by cases r<;>simp
def kU:(sizeLine:Nat)<2 ^ 63:=by rw[sizeLine_eq];decide
def JD:aHG X (λx H Q=>∃k,aDL X.K x H k/\Q k H):=by
 intro pins s M H x v Q I rx h;obtain⟨k,e,q⟩:=h;have hl:=kU;have hs:sizeLine=16777216:=sizeLine_eq;cases x with
 |non=>cases rx;have e':k=J:=e;subst e';exact truthy_none ⟨H,I,q⟩
 |bl b=>cases rx;have e':k=b:=e;subst e';exact wpAny_truthy_bool ⟨H,I,q⟩
 |int i=>obtain⟨t,rfl⟩:=rx;have e':k=(i != 0):=e;subst e';exact PySem.P.truthy_int ⟨H,I,q⟩
 |str y=>obtain⟨t,rfl⟩:=rx;obtain⟨hy,e'⟩:y.length<=sizeLine/\k=((y.length:Int) != 0):=e;subst e';exact PySem.P.truthy_str (by lia) ⟨H,I.tok _,q⟩
 |byt y=>obtain⟨t,rfl⟩:=rx;obtain⟨hy,e'⟩:y.size<=sizeLine/\k=((y.size:Int) != 0):=e;subst e';exact PySem.W.truthy_bytes (by lia) ⟨H,I.tok _,q⟩
 |ref p=>cases rx;have e':(∃xs,SqL X.K H p xs/\k=!xs.isEmpty)\/(∃xs,SqT X.K H p xs/\k=!xs.isEmpty)\/∃kvs,H p=O (.dK kvs)/\k=!kvs.isEmpty:=e;rcases e' with ⟨xs,hx,e'⟩|⟨xs,hx,e'⟩|⟨kvs,hx,e'⟩;subst e';obtain⟨its,r,pl,hz⟩:=I.list hx;have z:=r.length;exact wpAny_truthy_list pl.isList (by simp only[u0];lia) ⟨H,I.tok _,by rw[pM r];exact q⟩;subst e';obtain⟨its,r,pl,hz⟩:=I.tuple hx;have z:=r.length;exact truthy_tuple pl (by simp only[u0];lia) ⟨H,I.tok _,by rw[pM r];exact q⟩;subst e';obtain⟨hz,hS,vs,r,m⟩:kvs.length<=sizeLine/\(p == sysModules)=J/\∃vs,KV kvs vs/\s.heap.DictOf (bV X.prog X.w) p vs:=I.hok p _ hx;have z:kvs.length=vs.length:=Paired.length r;exact wpAny_truthy_dict hS m (by lia) ⟨H,I.tok _,by rw[AS r];exact q⟩
 |_=>exact(show False from e).elim
def KB(ha:PE X a ta)(he:∀z,isTrue a X.env z=(do let v <-z;standAt a.pos;holding [v] (truthy v))):PT X a (λM H Q=>ta M H λx H'=>∃k,aDL X.K x H' k/\Q k H'):=by intro pins s M H Q I h;exact isTrue_plain (ah (ha pins s M H _ I h) λv s1 ⟨x,H1,I1,r1,q1⟩=>JD pins s1 M H1 x v Q I1 r1 q1) (he _)
def AC:az X (binaryOp .Add) (λx y H Q=>∃i j,x=.str i/\y=.str j/\i.length+j.length<=sizeLine/\Q (.str (i++j)) H):=by intro pins s M H x y v u Q I rx z h;obtain⟨i,j,rfl,rfl,hz,q⟩:=h;obtain⟨t,rfl⟩:=rx;obtain⟨t',rfl⟩:=z;exact add_str (λt' tk=>⟨.str (i++j),H,I.tok _,⟨_,rfl⟩,q⟩) hz
def vals1{x:V}(r:aX [x] us):∃u,us=[u]/\RelV x u:=by
 cases r with
 |cons I z=>cases z;exact⟨_,rfl,I⟩
def vals2{x y:V}(r:aX [x,y] us):∃u z,us=[u,z]/\RelV x u/\RelV y z:=by
 cases r with
 |cons r1 r2=>
  cases r2 with
  |cons r3 I=>cases I;exact⟨_,_,rfl,r1,r3⟩
def IQ(hc:X.calm=Y):dE X (.builtin "max") (λxs H Q=>∃i j,xs=[.int i,.int j]/\Q (.int (if j > i then j else i)) H):=by intro pins s M H xs us Q I r h;obtain⟨i,j,rfl,q⟩:=h;obtain⟨u,w',rfl,⟨t,rfl⟩,⟨t',rfl⟩⟩:=vals2 r;refine max_two_ints (I.ok.hd hc) λh' tk k=>⟨_,H,I.kept k,?_,q⟩;by_cases z:j > i;rw[if_pos z,if_pos z];exact⟨_,rfl⟩;rw[if_neg z,if_neg z];exact⟨_,rfl⟩
def IP(hc:X.calm=Y):dE X (.builtin "min") (λxs H Q=>∃i j,xs=[.int i,.int j]/\Q (.int (if j<i then j else i)) H):=by intro pins s M H xs us Q I r h;obtain⟨i,j,rfl,q⟩:=h;obtain⟨u,w',rfl,⟨t,rfl⟩,⟨t',rfl⟩⟩:=vals2 r;refine min_two_ints (I.ok.hd hc) λh' tk k=>⟨_,H,I.kept k,?_,q⟩;by_cases z:j<i;rw[if_pos z,if_pos z];exact⟨_,rfl⟩;rw[if_neg z,if_neg z];exact⟨_,rfl⟩
def tH:dE X (.type "int") (λxs H Q=>(∃i,xs=[.int i]/\Q (.int i) H)\/∃k,xs=[.bl k]/\Q (.int (if k then 1 else 0)) H):=by intro pins s M H xs us Q I r h;rcases h with ⟨i,rfl,q⟩|⟨k,rfl,q⟩;obtain⟨u,rfl,t,rfl⟩:=vals1 r;exact call_int_int ⟨.int i,H,I,⟨_,rfl⟩,q⟩;obtain⟨u,rfl,z⟩:=vals1 r;cases z;exact call_int_bool ⟨.int (if k then 1 else 0),H,I.tok _,⟨_,rfl⟩,q⟩
def vS:dE X (.type "str") (λxs H Q=>∃i,xs=[.int i]/\i.natAbs.log2<1920/\Q (.str (toString i)) H):=by intro pins s M H xs us Q I r h;obtain⟨i,rfl,hz,q⟩:=h;obtain⟨u,rfl,t,rfl⟩:=vals1 r;exact PySem.P.str_of_int hz ⟨.str _,H,I.tok _,⟨_,rfl⟩,q⟩
end
structure ObjM (h:Heap) (x dx C:Addr) (mA:wm):Prop where
 obj:h.get? x=O (instObj C dx)
 ns:h.Ns1 dx mA
 ne:dx≠x
def HG{dx:Addr}{mA:wm}(n:h.Ns1 dx mA):∃od,h.get? dx=O od/\∀name,lookIn name od=O (mA name):=by
 obtain⟨o,es,ep,ho,hd,hk,_,hm⟩:=n;refine⟨o,ho,λname=>?_⟩;have e:=hm name;unfold nsFind findBy at e;rw[<-Array.find?_toList]at e;unfold lookIn;rw[hd];dsimp only;split;rename_i y q;rw[q]at e;exact congrArg O e;rename_i q;rw[q]at e;have a:es.toList.any (·.refKey)=J:=by rw[any_eq_false];intro y hy;obtain⟨z,t,I⟩:=hk y (Array.mem_toList_iff.mp hy);simp[DictEntry.refKey,I]
 have a':¬es.toList.any (·.refKey)=Y:=by rw[a];exact ua
 rw[if_neg a'];exact congrArg O e
def ObjM.look{x dx:Addr}{mA:wm}(I:ObjM h x dx C mA):∃od,PySem.W.InstAt h x (instObj C dx) C (O od)/\∀name,lookIn name od=O (mA name):=
 let ⟨od,ho,hl⟩:=HG I.ns
 ⟨od,⟨I.obj,rfl,rfl,ho⟩,hl⟩
section
variable {prog:wg}{w:World}{A:Around}{E:wj}{s:Shared}{K:wc}{x dx C f:Addr}{mA:wm}{name:Str}{v:Value}
def get_map{z:Bool}(X:K.In s.heap)(I:ObjM s.heap x dx C mA)(hg:plainGet K C name=Y)(hh:hasDictIn K C=Y) (ha:findIn K (.ref C) name=O U) (hv:mA name=O v) (hv':handedIn v=Y) (h:Q v {s with toks:=s.toks+1}):wpAny (model prog w) A (getAttr (.ref x) name z) Q E s:=by obtain⟨od,æ,hl⟩:=I.look;exact PySem.W.get_value X æ (plainGet_of hg).1 (PySem.W.findObj_own hh ha rfl (by rw[hl,hv])) hv' h
def NC{pl:Sem Bool}{Q:Value×List Value->Shared->Prop}(X:K.In s.heap)(I:ObjM s.heap x dx C mA)(hg:plainGet K C name=Y) (hf:findIn K (.ref C) name=O (O (.ref f))) (z:isFn K (.ref f)=Y) (hv:mA name=U) (h:Q (.ref f,[.ref x]) s):wpAny (model prog w) A (getMethod (.ref x) name pl) Q E s:=by obtain⟨od,æ,hl⟩:=I.look;exact PySem.W.method_fn X æ (plainGet_of hg).1 (plainGet_of hg).2 hf (uw.mp z) (by show (lookIn name od).map (·.isSome)=O J;rw[hl,hv];rfl) h
def TB{ns:List Str}{Q:Unit->Shared->Prop}(X:K.In s.heap)(I:ObjM s.heap x dx C mA) (hs:findIn K (.ref C) "__setattr__"=O (O (.builtin "object.__setattr__"))) (hp:plainOver K C=Y) (ht:takerIn K C name=O U) (hh:hasDictIn K C=Y) (hw:PySem.Within mA ns) (hsz:ns.length<=sizeLine) (h:∀h',ObjM h' x dx C (λy=>if y=name then O v else mA y)->Heap.SameBut dx s.heap h'->Q () {s with heap:=h',toks:=s.toks+2}):wpAny (model prog w) A (setAttr (.ref x) name v) Q E s:=by obtain⟨od,æ,hl⟩:=I.look;refine PySem.W.set_plain X æ hs (PySem.W.osa_open (s:={s with toks:=s.toks+1}) (r:=U) X æ hp ht λb=>?_);obtain⟨cd,hc,hd'⟩:=PySem.W.any_some hh;have hx:s.heap.get? x=O ⟨.ref C,O dx,.plain,#[]⟩:=I.obj;refine vb (vc (vb (vb (wpAny_loadPart hx (vb (PySem.W.Looks.here (s:={s with toks:=s.toks+1}) (PySem.W.looks_clsIn X hc) ?_))))));rw[hd'];refine vc (a:=O dx) (vb (vc (vb ?_)));refine wpAny_nsSet1 (s:={s with toks:=s.toks+1}) I.ns λh' mq gg=>?_;obtain⟨oD,esD,epD,z,hdD,hcD⟩:=mq.count (PySem.Within.cons name v hw);refine vb (wpAny_lookBehind z (by rw[hdD];exact pastItsLine_dict (ug hcD (by rw[vm];lia))) ?_);exact vc (h _ ⟨(gg.2 _ (Ne.symm I.ne)).trans I.obj,mq,I.ne⟩ gg)
def LR{α:Result->Shared->Prop}{vs:List Value}(X:K.In s.heap)(hm:makesIn K C=Y) (hi:findIn K (.ref C) "__init__"=O (O (.ref f))) (hf:PySem.W.typeIn K (.ref f)=O (.type "function")) (h:codeAny (model prog w) (A.under (.builtin "type.__call__" ⟨.ref C::vs,kw⟩)) (.call (.ref f) ⟨.ref (s.heap.objs.size+1)::vs,kw⟩) (PySem.W.InitBack (s.heap.objs.size+1) α) {s with heap:=(s.heap.push emptyDict).push (instObj C s.heap.objs.size)}):codeAny (model prog w) A (.call (.ref C) ⟨vs,kw⟩) α s:=by obtain⟨z,g,d,t,os⟩:=s;exact PySem.W.make_core (PySem.W.makes_of X hm) (PySem.W.looks_findIn X hi) (λself=>PySem.W.bind_fn X self hf) (.inl rfl) h
end
noncomputable def iZ(f:Str)(v:V):List (Str×V)->List (Str×V)
 |[]=>[(f,v)]
 | (g,x)::r=>if g=f then(g,v)::r else(g,x)::iZ f v r
theorem nK(f g:Str)(v:V):∀fs:List (Str×V),(iZ f v fs).lookup g=if g=f then O v else fs.lookup g
 |[]=>by show List.lookup g [(f,v)]=_;by_cases h:g=f;have hb:(g == f)=Y:=uw.mpr h;simp only[List.lookup,hb,if_pos h];have hb:(g == f)=J:=uz.mpr h;simp only[List.lookup,hb,if_neg h]
 | (k,x)::r=>by have z:=nK f g v r;rw[show iZ f v ((k,x)::r)=(if k=f then(k,v)::r else(k,x)::iZ f v r) from rfl];by_cases hk:k=f;rw[if_pos hk];by_cases h:g=k;have hb:(g == k)=Y:=uw.mpr h;simp only[List.lookup,hb,if_pos (h.trans hk)];have hb:(g == k)=J:=uz.mpr h;simp only[List.lookup,hb,if_neg (λe:g=f=>h (e.trans hk.symm))];rw[if_neg hk];by_cases h:g=k;have hb:(g == k)=Y:=uw.mpr h;simp only[List.lookup,hb,if_neg (λe:g=f=>hk (h.symm.trans e))];have hb:(g == k)=J:=uz.mpr h;simp only[List.lookup,hb];exact z
theorem mP(f:Str)(v:V):∀fs:List (Str×V),f∈(iZ f v fs).map (·.1)/\∀g,g∈fs.map (·.1)->g∈(iZ f v fs).map (·.1)
 |[]=>⟨by simp[iZ],λg h=>by simp at h⟩
 | (k,x)::r=>by obtain⟨I,z⟩:=mP f v r;rw[show iZ f v ((k,x)::r)=(if k=f then(k,v)::r else(k,x)::iZ f v r) from rfl];by_cases hk:k=f;rw[if_pos hk];subst hk;exact⟨y9,λg h=>by simpa using h⟩;rw[if_neg hk];refine⟨?_,λg h=>?_⟩;rw[uu];exact tw _ I;rw[uu]at h ⊢;rcases ui.mp h with e|e;exact ui.mpr (.inl e);exact tw _ (z g e)
theorem nM(f:Str)(v:V):∀fs:List (Str×V),(iZ f v fs).length<=fs.length+1
 |[]=>by simp[iZ]
 | (k,x)::r=>by have z:=nM f v r;rw[show iZ f v ((k,x)::r)=(if k=f then(k,v)::r else(k,x)::iZ f v r) from rfl];by_cases hk:k=f;rw[if_pos hk,vm,vm];lia;rw[if_neg hk,vm,vm];lia
def iX.some_of{v:V}{o:Option Value}(r:iX (O v) o):∃u,o=O u/\RelV v u:=by
 cases o with
 |none=>exact(show False from r).elim
 |some u=>exact⟨u,rfl,r⟩
def iX.none_of{o:Option Value}(r:iX U o):o=U:=by
 cases o with
 |none=>rfl
 |some u=>exact(show False from r).elim
def HX{v:V}(r:RelV v u):handedIn u=Y:=by
 cases v with
 |non=>cases (show u=Value.none from r);rfl
 |bl b=>cases (show u=Value.bool b from r);rfl
 |int i=>obtain⟨t,e⟩:=(show ∃t,u=Value.int i t from r);cases e;rfl
 |str x=>obtain⟨t,e⟩:=(show ∃t,u=Value.str x t from r);cases e;rfl
 |byt b=>obtain⟨t,e⟩:=(show ∃t,u=Value.bytes b t from r);cases e;rfl
 |flt b=>obtain⟨t,e⟩:=(show ∃t,u=Value.float b t from r);cases e;rfl
 |ref a=>cases (show u=Value.ref a from r);rfl
 |ty n=>cases (show u=Value.type n from r);rfl
section
variable {P:wg}{w:World}{H H':Hp}{h h':Heap}{a C dx:Addr}{fs fs':List (Str×V)}
def oI(hok:HOk P w H h)(e:H a=O (.ins C dx fs)):∃mA,ObjM h a dx C mA/\(∀f,iX (fs.lookup f) (mA f))/\PySem.Within mA (fs.map (·.1))/\fs.length<=1000/\H dx=O (.own a):=by obtain⟨d,z,ne,I,mA,n,r,q⟩:=(show cP P w H h a (.ins C dx fs) from hok a _ e);exact⟨mA,⟨I,n,ne⟩,r,q,z,d⟩
end
structure Cls (K:wc) (C:Addr):Prop where
 pg:plainGet K C Str.empty=Y
 hd:hasDictIn K C=Y
 po:plainOver K C=Y
 sa:findIn K (.ref C) "__setattr__"=O (O (.builtin "object.__setattr__"))
def Cls.get(c:Cls K C)(f:Str):plainGet K C f=Y:=c.pg
def eM(K:wc)(C:Addr)(f:Str):Prop:=findIn K (.ref C) f=O U
def eM.taker{f:Str}(n:eM K C f):takerIn K C f=O U:=by unfold takerIn;rw[show findIn K (.ref C) f=O U from n];rfl
structure Con (K:wc) (C:Addr) (f:Str) (v:V) (u:Value):Prop where
 at_:findIn K (.ref C) f=O (O u)
 rel:RelV v u
 get:specialIn K u "__get__"=O U
 cp:PySem.W.copiedNames.contains f=J
structure iF (K:wc) (C:Addr) (m:Str) (f:Addr):Prop where
 at_:findIn K (.ref C) m=O (O (.ref f))
 fn:isFn K (.ref f)=Y
 kp:keepIn K (.ref f)=Y
section
variable {X:Cx}{pins:wk}{M:St}{H:Hp}{s:Shared}{a C dx:Addr}{fs:List (Str×V)}{f:Str}{v:V}{A:Around}{E:wj}
def BI{b:Bool}(I:Inv X pins M H s)(e:H a=O (.ins C dx fs))(c:Cls X.K C)(n:eM X.K C f)(l:fs.lookup f=O v) (h:∀u s',Inv X pins M H s'->RelV v u->Q u s'):wpAny (model X.prog X.w) A (getAttr (.ref a) f b) Q E s:=by obtain⟨mA,z,r,_,_,_⟩:=oI I.hok e;obtain⟨u,hu,ru⟩:=iX.some_of (v:=v) (o:=mA f) (by rw[<-l];exact r f);exact get_map I.kIn z (c.get f) c.hd n hu (HX ru) (h u _ (I.tok _) ru)
def BH{m:Str}{g:Addr}{pl:Sem Bool}{Q:Value×List Value->Shared->Prop}(I:Inv X pins M H s)(e:H a=O (.ins C dx fs))(c:Cls X.K C)(k:iF X.K C m g)(l:fs.lookup m=U) (h:Q (.ref g,[.ref a]) s):wpAny (model X.prog X.w) A (getMethod (.ref a) m pl) Q E s:=by obtain⟨mA,z,r,_,_,_⟩:=oI I.hok e;have hn:mA m=U:=iX.none_of (by rw[<-l];exact r m);exact NC I.kIn z (c.get m) k.at_ k.fn hn h
def zO{y:V}{Q:Unit->Shared->Prop}(I:Inv X pins M H s)(e:H a=O (.ins C dx fs))(c:Cls X.K C)(n:eM X.K C f)(hl:fs.length<1000)(ry:RelV y u) (h:∀s',Inv X pins M (upd H a (.ins C dx (iZ f y fs))) s'->Q () s'):wpAny (model X.prog X.w) A (setAttr (.ref a) f u) Q E s:=by
 obtain⟨mA,ø,r,wi,_,ho⟩:=oI I.hok e;have hz:(fs.map (·.1)).length<=sizeLine:=by rw[t8,sizeLine_eq];lia
 refine TB I.kIn ø c.sa c.po n.taker c.hd wi hz λh' O' sb=>h _ ?_;have hd:∃o,h'.get? dx=O o:=let ⟨o,_,_,e',_⟩:=O'.ns;⟨o,e'⟩
 refine I.write (x:=a) (e:=dx) (by rw[e];exact True.intro) (.inr ho) (λb q hb z=>(sb.2 b hb).trans z) hd ?_;refine⟨by rw[aM ø.ne];exact ho,?_,ø.ne,O'.obj,_,O'.ns,λg=>?_,λg hg=>?_⟩;have:=nM f y fs;lia;show iX ((iZ f y fs).lookup g) (if g=f then O u else mA g);rw[nK];by_cases q:g=f;rw[if_pos q,if_pos q];exact ry;rw[if_neg q,if_neg q];exact r g;by_cases q:g=f;rw[q];exact(mP f y fs).1;refine(mP f y fs).2 g (wi g λz=>hg ?_);show (if g=f then O u else mA g)=U;rw[if_neg q];exact z
def Inv.made(I:Inv X pins M H s):Inv X pins M (upd (upd H s.heap.objs.size (.own (s.heap.objs.size+1))) (s.heap.objs.size+1) (.ins C s.heap.objs.size [])) {s with heap:=(s.heap.push emptyDict).push (instObj C s.heap.objs.size)}:=by
 have e1:(s.heap.push emptyDict).get? s.heap.objs.size=O emptyDict:=ve s.heap rfl;have e2:((s.heap.push emptyDict).push (instObj C s.heap.objs.size)).get? (s.heap.objs.size+1)=O (instObj C s.heap.objs.size):=by have:=ve (s.heap.push emptyDict) (o:=instObj C s.heap.objs.size) rfl;rwa [Heap.size_push]at this
 have e3:(s.heap.push emptyDict).Ns s.heap.objs.size (λ_=>U):=⟨emptyDict,#[],_,e1,rfl,(λe he=>absurd he y9),λ_=>rfl⟩;have I1:=I.laid (a:=s.heap.objs.size) (o:=.own (s.heap.objs.size+1)) (h':=s.heap.push emptyDict) (t':=s.toks) (λb u q=>tm _ q) (t9 _) ⟨_,e1⟩;refine I1.laid (a:=s.heap.objs.size+1) (o:=.ins C s.heap.objs.size []) (t':=s.toks) (λb u q=>tm _ q) (Nat.le_of_eq (Heap.size_push _ _)) ?_;have ne:s.heap.objs.size≠s.heap.objs.size+1:=v3 (vj _);refine⟨by rw[aM ne,aS],vz _,ne,e2,λ_=>U,(Heap.Ns1.of_empty e3).at λo q=>tm _ q,λ_=>True.intro,λy hy=>absurd rfl hy⟩
def YZ{prog:wg}{env:Env}{f:Str}(hb:attributeBase e f env (eval e env)=eval e env) (h:wpAny (model prog w) A (eval e env) (λo z=>wpAny (model prog w) A (getAttr o f Y) Q E z) E s):wpAny (model prog w) A (eval (.Attribute e f pos) env) Q E s:=Attribute_any_ h (by rw[arm_eval_Attribute,hb])
end
def aHd(K:wc)(ta:TE)(f:Str):TE:=λM H Q=>ta M H λx H1=>∃a C dx fs v,x=.ref a/\H1 a=O (.ins C dx fs)/\Cls K C/\eM K C f/\fs.lookup f=O v/\Q v H1
def aHf(K:wc)(ta tv:TE)(f:Str):TS:=λD M H=>tv M H λy H1=>ta M H1 λx H2=>∃a C dx fs,x=.ref a/\H2 a=O (.ins C dx fs)/\Cls K C/\eM K C f/\fs.length<1000 /\D.nx M (upd H2 a (.ins C dx (iZ f y fs)))
section
variable {X:Cx}{o e value:Expr}{f:Str}{pos pos' tpos:Pos}{ta tv:TE}
def aBX(he:PE X e ta)(hb:attributeBase e f X.env (eval e X.env)=eval e X.env):PE X (.Attribute e f pos) (aHd X.K ta f):=by intro pins s M H Q I h;refine YZ hb (ah (he pins s M H _ I h) λu s1 ⟨x,H1,I1,z,a,C,dx,fs,v,ex,ea,c,n,l,q⟩=>?_);subst ex;obtain rfl:u=Value.ref a:=z;exact BI I1 ea c n l λu' s2 I2 ru=>⟨v,H1,I2,ru,q⟩
def aBO(ha:PE X o ta)(hv:PE X value tv)(hs:swapsWith value (O (.Attribute o f pos')) pos.line X.env=pure J):PS X (.Assign [.Attribute o f pos'] value pos) (aHf X.K ta tv f):=by intro pins s M H D I h;refine plainObj_wpAny_Assign_Attribute (ah (hv pins s M H _ I h) λu s1 ⟨y,H1,I1,z,q⟩=>ah (ha pins s1 M H1 _ I1 q) λov s2 ⟨x,H2,I2,rx,a,C,dx,fs,ex,ea,c,n,l,q2⟩=>?_) hs;subst ex;obtain rfl:ov=Value.ref a:=rx;exact zO I2 ea c n l z λs3 I3=>⟨M,_,I3,q2⟩
end
section
variable {X:Cx}{pins:wk}{M:St}{H:Hp}{s:Shared}{A:Around}{E:wj}{Q:wj}{c:Value}{b:Bool}
inductive cm (K:wc) (H:Hp):V->Value->Prop where
 |non:cm K H .non (.type "NoneType")
 |bl (x:Bool):cm K H (.bl x) (.type "bool")
 |int (i:Int):cm K H (.int i) (.type "int")
 |str (x:Str):cm K H (.str x) (.type "str")
 |flt (x:UInt64):cm K H (.flt x) (.type "float")
 |lst {a:Addr} {xs:List V} (e:H a=O (.lst xs)):cm K H (.ref a) (.type "list")
 |frz {a:Addr} {o:Obj} {xs:List V} (e:H a=O (.frz o (.lst xs))):cm K H (.ref a) (.type "list")
 |tup {a:Addr} {xs:List V} (e:H a=O (.tup xs)):cm K H (.ref a) (.type "tuple")
 |dK {a:Addr} {kvs:List (Key×V)} (e:H a=O (.dK kvs)):cm K H (.ref a) (.type "dict")
 |dT {a:Addr} {kvs:List (List Key×V)} (e:H a=O (.dT kvs)):cm K H (.ref a) (.type "dict")
 |ins {a C dx:Addr} {fs:List (Str×V)} (e:H a=O (.ins C dx fs)) (cl:Cls K C) (ha:findIn K (.ref C) "__class__"=O (O (.builtin "object.__class__")))
   (hn:specialIn K (.builtin "object.__class__") "__get__"=O (O (.builtin "getset_descriptor.__get__"))) (mh:takesIn K (.builtin "object.__class__")=O Y)
   (hm:mroIn K C (.type "object")=O Y):cm K H (.ref a) (.ref C)
def hJ{x:V}{t:Value}(I:Inv X pins M H s)(rx:RelV x u)(ty:cm X.K H x t)(e:kitOne X.K t c=O b)(h:∀tk,Q (.bool b) {s with toks:=tk}):wpAny (model X.prog X.w) A (call (.builtin "isinstance") [u,c]) Q E s:=by
 cases ty with
 |non=>cases (show u=Value.none from rx);exact kia_one PySem.W.kitx_none I.kIn True.intro e (λz=>nomatch z) h
 |bl y=>cases (show u=Value.bool y from rx);exact kia_one PySem.W.kitx_bool I.kIn True.intro e (λz=>nomatch z) h
 |int i=>obtain⟨t,q⟩:=(show ∃t,u=Value.int i t from rx);cases q;exact kia_one PySem.W.kitx_int I.kIn True.intro e (λz=>nomatch z) h
 |str y=>obtain⟨t,q⟩:=(show ∃t,u=Value.str y t from rx);cases q;exact kia_one PySem.W.kitx_str I.kIn True.intro e (λz=>nomatch z) h
 |flt y=>obtain⟨t,q⟩:=(show ∃t,u=Value.float y t from rx);cases q;exact kia_one PySem.W.kitx_float I.kIn True.intro e (λz=>nomatch z) h
 | @lst a xs ea=>cases (show u=Value.ref a from rx);obtain⟨_,_,n,_,h1⟩:=(show cP X.prog X.w H s.heap a (.lst xs) from I.hok a _ ea);exact kia_one kitx_list I.kIn ⟨_,h1,rfl⟩ e (λz=>nomatch z) h
 | @frz a ob xs ea=>cases (show u=Value.ref a from rx);obtain⟨_,_,_,n,_,h1⟩:=(show cP X.prog X.w H s.heap a (.frz ob (.lst xs)) from I.hok a _ ea);exact kia_one kitx_list I.kIn ⟨_,h1,rfl⟩ e (λz=>nomatch z) h
 | @tup a xs ea=>cases (show u=Value.ref a from rx);obtain⟨_,_,_,p⟩:=(show cP X.prog X.w H s.heap a (.tup xs) from I.hok a _ ea);obtain⟨o,h1,h2,_⟩:=p;exact kia_one PySem.W.kitx_tuple I.kIn ⟨o,h1,h2⟩ e (λz=>nomatch z) h
 | @dK a kvs ea=>cases (show u=Value.ref a from rx);obtain⟨_,_,vs,_,p⟩:=(show cP X.prog X.w H s.heap a (.dK kvs) from I.hok a _ ea);obtain⟨o,es,ep,h1,h2,_⟩:=p;exact kia_one kitx_dict I.kIn ⟨o,h1,h2.1⟩ e (λz=>nomatch z) h
 | @dT a kvs ea=>cases (show u=Value.ref a from rx);obtain⟨_,_,xs,_,o,es,ep,h1,h2,_⟩:=(show cP X.prog X.w H s.heap a (.dT kvs) from I.hok a _ ea);exact kia_one kitx_dict I.kIn ⟨o,h1,h2.1⟩ e (λz=>nomatch z) h
 | @ins a C dx fs ea cl ha hn mh hm=>cases (show u=Value.ref a from rx);obtain⟨mA,ø,_⟩:=oI I.hok ea;obtain⟨od,æ,_⟩:=ø.look;exact kia_one (PySem.W.kitx_own (cl.get _) cl.hd ha hn mh hm) I.kIn æ e (λz=>nomatch z) h
end
structure Room (k:Nat) (A:Around):Prop where
 hd:A.handled=U
 dp:A.depth+3*k+5<recursionLimit
 un:A.units+16*k+200<cLine
def Room.mono{j k:Nat}(r:Room k A)(h:j<=k):Room j A:=⟨r.hd,by have:=r.dp;lia,by have:=r.un;lia⟩
theorem Room.deeper{k:Nat}(r:Room (k+1) A)(env:Env):Room k (A.deeper env):=⟨r.hd,by have:=r.dp;show A.depth+1+3*k+5<_;lia,by have:=r.un;show A.units+3+16*k+200<_;lia⟩
def AL:(A.under (.builtin "type.__call__" ⟨.ref C::us,kw⟩)).depth=A.depth+1:=by first|rfl|simp[Around.under,Code.weight,Code.isCreation,Code.isGuard,Code.isCaller,Code.frames,Code.isFrame,guardIds]
def AK:(A.under (.builtin "type.__call__" ⟨.ref C::us,kw⟩)).units=A.units+1:=by first|rfl|simp[Around.under,Code.cUnits,Code.frames,Code.isFrame]
def Room.make{k:Nat}(r:Room (k+1) A)(C:Addr)(us:List Value)(kw:List (Str×Value)):Room k (A.under (.builtin "type.__call__" ⟨.ref C::us,kw⟩)):=⟨r.hd,by have:=r.dp;rw[AL];lia,by have:=r.un;rw[AK];lia⟩
theorem Room.depth{k:Nat}(r:Room k A):A.depth<recursionLimit:=by have:=r.dp;lia
theorem Room.units{k:Nat}(r:Room k A):A.units+64<cLine:=by have:=r.un;lia
def aEw:TA:=λ_ H Q=>Q [] H
def aEy(ta:TE)(tr:TA):TA:=λM H Q=>ta M H λx H1=>tr M H1 λxs H2=>Q (x::xs) H2
section
variable {X:Cx}{e:Expr}{es:List Expr}{te:TE}{t:TA}{pos:Pos}
def gO:PA X [] aEw:=λ_ _ _ _ H Q I h=>Calls.spliced_nil ⟨[],H,I,.nil,h⟩
def eG(ha:PE X e te)(hr:PA X es t)(hs:starEach (e::es) X.env=(J,eval e X.env)::starEach es X.env:=by rfl):PA X (e::es) (aEy te t):=by intro pos pins s M H Q I h;rw[hs];show wpAny _ _ (spliced ((J,eval e X.env)::backTo pos (starEach es X.env))) _ _ s;refine Calls.spliced_cons (ah (ha pins s M H _ I h) λu s1 ⟨x,H1,I1,r1,q1⟩=>?_);exact ah (hr pos pins s1 M H1 _ I1 q1) λus s2 ⟨xs,H2,I2,z,q2⟩=>⟨x::xs,H2,I2,.cons r1 z,q2⟩
def aGV(t:TA):TE:=λM H Q=>t M H λxs H1=>xs.length<=sizeLine/\∀p,H1 p=U->Q (.ref p) (upd H1 p (.tup xs))
def aHa(t:TA):TE:=λM H Q=>t M H λxs H1=>xs.length<=sizeLine/\∀p,H1 p=U->Q (.ref p) (upd H1 p (.lst xs))
def aBS{x1}(h:PA X es t):PE X (.Tuple es x1 pos) (aGV t):=by intro pins s M H Q I hq;refine wpAny_Tuple_spliced (ah (h pos pins s M H _ I hq) λus s1 ⟨xs,H1,I1,r,z,q⟩=>⟨by rw[<-r.length];exact z,?_⟩);have hf:H1 s1.heap.objs.size=U:=I1.hok.fresh (t9 _);refine⟨.ref s1.heap.objs.size,upd H1 s1.heap.objs.size (.tup xs),I1.laid (t':=s1.toks) (λb u e=>tm _ e) (t9 _) ?_,rfl,q _ hf⟩;exact⟨z,us,r,⟨_,ve _ rfl,rfl,_,rfl⟩⟩
def KL(h:PA X es t):PE X (.List es pos) (aHa t):=by intro pins s M H Q I hq;refine wpAny_List_spliced (ah (h pos pins s M H _ I hq) λus s1 ⟨xs,H1,I1,r,z,q⟩=>⟨by rw[<-r.length];exact z,?_⟩);have hf:H1 s1.heap.objs.size=U:=I1.hok.fresh (t9 _);refine⟨.ref s1.heap.objs.size,upd H1 s1.heap.objs.size (.lst xs),I1.laid (t':=s1.toks) (λb u e=>tm _ e) (t9 _) ?_,rfl,q _ hf⟩;exact⟨z,us,0,r,ve _ rfl⟩
end
abbrev Sp:=List V->Hp->VK->XK->Prop
abbrev ar:=List Env->Hp->Shared->XK->Value->Shared->Prop
structure Env0 (P:wg) (w:World) (K:wc) (mg:wm) (base:Heap) (A:Around) (outer:List Env) (s:Shared) (H:Hp):Prop where
 frames:A.frames=O outer
 mod:Mod K mg base
 bs:∀b o,base.get? b=O o->s.heap.get? b=O o/\H b=U
 bsz:base.objs.size<=s.heap.objs.size
 funs:s.heap.FunFrames base outer
 frf:∀b∈bY outer,H b=U
 hok:HOk P w H s.heap
 bare:AllBare s.gens
def CE(outer:List Env)(P:wg)(w:World)(H:Hp)(s:Shared)(Q:VK)(u:Value)(s':Shared):Prop:=∃v H',s'.os=s.os/\AllBare s'.gens/\Un (bY outer) [] H H' s.heap s'.heap/\HOk P w H' s'.heap/\RelV v u/\Q v H'
def CR(CX:ar)(outer:List Env)(P:wg)(w:World)(H:Hp)(s:Shared)(Q:VK)(E:XK)(r:Result)(s':Shared):Prop:=
 match r with
 |.ok (.ret u)=>CE outer P w H s Q u s'
 |.ok _=>False
 |.error e=>CX outer H s E e s'
structure FnOk (P:wg) (w:World) (K:wc) (mg:wm) (base:Heap) (CX:ar) (k:Nat) (f:Addr) (fd:we) (ps:List Str) (sp:Sp):Prop where
 len:∀vs H Q E,sp vs H Q E->vs.length=ps.length
 run:∀(A:Around) (outer:List Env) (s:Shared) (H:Hp) (args:Args) (us:List Value) (vs:List V) (Q:VK) (E:XK),Room k A->Env0 P w K mg base A outer s H->BindsTo s fd args (ps.zip us)->aX vs us->sp vs H Q E ->
  codeAny (model P w) A (.call (.ref f) args) (CR CX outer P w H s Q E) s
theorem FnOk.mono{CX:ar}{j k:Nat}{f:Addr}{sp:Sp}(F:FnOk P w K mg base CX j f fd ps sp)(h:j<=k):FnOk P w K mg base CX k f fd ps sp:=⟨F.len,λA outer s H args us vs Q E hr=>F.run A outer s H args us vs Q E (hr.mono h)⟩
def FnOk.imp{CX:ar}{k:Nat}{f:Addr}{sp z:Sp}(F:FnOk P w K mg base CX k f fd ps sp) (h:∀vs H Q E,z vs H Q E->sp vs H Q E):FnOk P w K mg base CX k f fd ps z:=⟨λvs H Q E q=>F.len vs H Q E (h _ _ _ _ q),λA outer s H args us vs Q E hr he hb hv hs=>F.run A outer s H args us vs Q E hr he hb hv (h _ _ _ _ hs)⟩
def Env0.make{outer:List Env}{H:Hp}(e:Env0 P w K mg base A outer s H)(C:Addr)(us:List Value)(kw:List (Str×Value)):Env0 P w K mg base (A.under (.builtin "type.__call__" ⟨.ref C::us,kw⟩)) outer s H:=⟨by first|exact e.frames|(simpa [Around.under,Code.envs,Code.isFrame,pushEnvs] using e.frames),e.mod,e.bs,e.bsz,e.funs,e.frf,e.hok,e.bare⟩
section
variable {X:Cx}{pins:wk}{M:St}{H:Hp}{s s':Shared}
def Inv.env0(I:Inv X pins M H s):Env0 X.prog X.w X.K X.mg X.base X.A X.stack s H:=⟨I.ok.frames,I.ok.mod,I.bs,ug I.ok.bsz I.sz,I.stack,I.stkFree,I.hok,I.bare⟩
def Inv.after{Q:VK}(I:Inv X pins M H s)(h:CE X.stack X.prog X.w H s Q u s'):EP X pins M Q u s':=by obtain⟨v,H',os,bare,un,hok,r,q⟩:=h;obtain⟨hh,g,d,t,os'⟩:=s';obtain rfl:os'=s.os:=os;exact⟨v,H',I.call (h':=hh) (g':=g) (d':=d) (t':=t) (ch:=[]) un hok bare (λb z=>absurd z y9),r,q⟩
end
def CO(sp:Sp)(dvs:List V)(E:XK)(t:TA):TE:=λM H Q=>t M H λvs H1=>sp (vs++dvs) H1 Q E
def Binds(K:wc)(fd:we)(ps:List Str)(ds:List Value):Prop:=∀(s:Shared) (us:List Value),K.In s.heap->(us++ds).length=ps.length->BindsTo s fd ⟨us,[]⟩ (ps.zip (us++ds))
def Binds.all(h:∀us:List Value,us.length=ps.length->bindArgs fd ⟨us,[]⟩=pure (ps.zip us)):Binds K fd ps []:=λs us _ hl=>by rw[uq]at hl ⊢;exact .of_eq (h us hl)
def jR(CX:ar)(X:Cx)(E:XK):Prop:=∀(pins:wk) (M:St) (H:Hp) (s:Shared) (e:Value) (s':Shared),Inv X pins M H s->CX X.stack H s E e s'->X.xe e s'
section
variable {X:Cx}{CX:ar}{k:Nat}{f C:Addr}{fd:we}{ps:List Str}{sp:Sp}{dvs:List V}{ds:List Value}{E:XK}{x m:Str}{p pos apos:Pos}{e o:Expr}{es:List Expr}{ta:TE}{t:TA}
def zP{M:St}{H:Hp}{Q:VK}{vs:List V}(F:FnOk X.prog X.w X.K X.mg X.base CX k f fd ps sp)(hr:Room k X.A)(hb:Binds X.K fd ps ds)(hd:aX dvs ds)(hx:jR CX X E) (I:Inv X pins M H s) (r:aX vs us) (h:sp (vs++dvs) H Q E):wpAny (model X.prog X.w) X.A (call (.ref f) us) (EP X pins M Q) X.xe s:=by
 have z:aX (vs++dvs) (us++ds):=r.append hd;have hl:(us++ds).length=ps.length:=by rw[<-z.length];exact F.len _ _ _ _ h
 refine wpAny_call (codeAny_mono (F.run X.A X.stack s H ⟨us,[]⟩ (us++ds) (vs++dvs) Q E hr I.env0 (hb s us I.kIn hl) z h) λr s' hq=>?_);cases r with
 |error e=>exact hx pins M H s e s' I hq
 |ok fl=>
  cases fl with
  |ret u=>exact I.after hq
  |next=>exact False.elim hq
  |brk=>exact False.elim hq
  |cont=>exact False.elim hq
def DI(F:FnOk X.prog X.w X.K X.mg X.base CX k f fd ps sp)(hr:Room k X.A)(hg:Gl X x)(hm:X.mg x=O (.ref f))(hk:keepIn X.K (.ref f)=Y)(hb:Binds X.K fd ps ds)(hd:aX dvs ds)(hx:jR CX X E) (ha:PA X (e::es) t) (i5:(x == ("__debug__":Str))=J:=by decide) (he:starEach (e::es) X.env=(J,eval e X.env)::starEach es X.env:=by rfl) (z:(backTo pos (starEach es X.env)).any (·.1)=J:=by rfl):PE X (.Call (.Name x p) (e::es) [] pos) (CO sp dvs E t):=by intro pins s M H Q I h;refine wpAny_Call_Name_kw (fQ I hg hm ?_ i5);refine callWith_K (h₀:=X.base) I.ok.mod.kin hk (ah (ha pos pins s M H _ I h) λus s1 ⟨vs,H1,I1,r,q⟩=>⟨I1.kIn,?_⟩) he z;exact zP F hr hb hd hx I1 r q
def xF(F:FnOk X.prog X.w X.K X.mg X.base CX k f fd ps sp)(hr:Room k X.A)(hg:Gl X x)(hm:X.mg x=O (.ref f))(hk:keepIn X.K (.ref f)=Y)(hb:Binds X.K fd ps ds)(hd:aX dvs ds)(hx:jR CX X E) (z:(x == ("__debug__":Str))=J:=by decide):PE X (.Call (.Name x p) [] [] pos) (CO sp dvs E aEw):=by intro pins s M H Q I h;refine wpAny_Call_Name_kw (fQ I hg hm ?_ z);exact callWith_K0 I.kIn hk (zP (us:=[]) F hr hb hd hx I .nil h)
structure Mk (K:wc) (C f:Addr):Prop where
 makes:makesIn K C=Y
 init:findIn K (.ref C) "__init__"=O (O (.ref f))
 fn:isFn K (.ref f)=Y
 kp:keepIn K (.ref C)=Y
end
section
variable {X:Cx}{CX:ar}{k:Nat}{f C:Addr}{fd:we}{ps ks:List Str}{sp:Sp}{E:XK}{x m:Str}{p pos apos kpos:Pos}{e o:Expr}{es:List Expr}{kws:List Keyword}{te ta:TE}{t tk:TA}{nm:Option Str}
structure KBinds (K:wc) (fd:we) (ps ks:List Str) (g:List Value->List Value->List Value) (gV:List V->List V->List V):Prop where
 to:∀(s:Shared) (us ws:List Value),K.In s.heap->(g us ws).length=ps.length->BindsTo s fd ⟨us,ks.zip ws⟩ (ps.zip (g us ws))
 rel:∀{vs:List V} {us:List Value} {zs:List V} {ws:List Value},aX vs us->aX zs ws->aX (gV vs zs) (g us ws)
variable {g:List Value->List Value->List Value}{gV:List V->List V->List V}
end
structure ai (N P:List Str) (sc:Scope):Prop where
 kind:sc.kind=.function
 co:sc.isCoroutine=J
 gen:sc.isGenerator=J
 nd:N.Nodup
 pre:N.take P.length=P
 par:∀x∈P,sc.names.lookup x=O .local\/sc.names.lookup x=O .cell
 nofree:∀y∈sc.names,y.2≠.free
theorem tL{kindOf:Str->Option NameKind}{x:Str}:∀{binds:List (Str×Value)} {m:wm},(∀v,(x,v)∉binds)->bindL kindOf binds m x=m x
 |[],_,_=>rfl
 | (n,v)::r,m,h=>by
  unfold bindL;rw[tL λw hw=>h w (tw _ hw)];split;have:x≠n:=by rintro rfl;exact h v vi
  simp[this];rfl
theorem tN{kindOf:Str->Option NameKind}{x:Str}:∀{binds:List (Str×Value)} {m:wm},(∀v,(x,v)∉binds)->bindC kindOf binds m x=m x
 |[],_,_=>rfl
 | (n,v)::r,m,h=>by
  unfold bindC;rw[tN λw hw=>h w (tw _ hw)];split;rfl;have:x≠n:=by rintro rfl;exact h v vi
  simp[this]
theorem tM{kindOf:Str->Option NameKind}{x:Str}{v:Value}:∀{P:List Str} {vs:List Value} {i:Nat} {m:wm},P.Nodup->P[i]?=O x->vs[i]?=O v->kindOf x=O .local ->bindL kindOf (P.zip vs) m x=O v
 |[],_,_,_,_,h,_,_=>by simp at h
 |_::_,[],_,_,_,_,h,_=>by simp at h
 |p::P,w::vs,0,m,nd,h1,h2,hk=>by simp at h1 h2;subst h1;subst h2;show bindL kindOf ((p,w)::P.zip vs) m p=_;unfold bindL;rw[tL λv hv=>(nodup_cons.mp nd).1 (List.of_mem_zip hv).1,if_pos hk];simp
 |p::P,w::vs,i+1,m,nd,h1,h2,hk=>by show bindL kindOf ((p,w)::P.zip vs) m x=_;unfold bindL;exact tM (i:=i) (nodup_cons.mp nd).2 (by simpa using h1) (by simpa using h2) hk
theorem tO{kindOf:Str->Option NameKind}{x:Str}{v:Value}:∀{P:List Str} {vs:List Value} {i:Nat} {m:wm},P.Nodup->P[i]?=O x->vs[i]?=O v->kindOf x≠O .local ->bindC kindOf (P.zip vs) m x=O v
 |[],_,_,_,_,h,_,_=>by simp at h
 |_::_,[],_,_,_,_,h,_=>by simp at h
 |p::P,w::vs,0,m,nd,h1,h2,hk=>by simp at h1 h2;subst h1;subst h2;show bindC kindOf ((p,w)::P.zip vs) m p=_;unfold bindC;rw[tN λv hv=>(nodup_cons.mp nd).1 (List.of_mem_zip hv).1,if_neg hk];simp
 |p::P,w::vs,i+1,m,nd,h1,h2,hk=>by show bindC kindOf ((p,w)::P.zip vs) m x=_;unfold bindC;exact tO (i:=i) (nodup_cons.mp nd).2 (by simpa using h1) (by simpa using h2) hk
noncomputable def start(N:List Str)(vs:List V):St:=vs.map O++List.replicate (N.length-vs.length) U
noncomputable def nA(CX:ar)(P:wg)(w:World)(K:wc)(mg:wm)(base:Heap)(N:List Str)(qual:Str)(scope:Scope)(f:Addr)(cd:Value)(A:Around)(outer:List Env)(s:Shared)(H:Hp)(E:XK):Cx where
 prog:=P
 w:=w
 K:=K
 mg:=mg
 base:=base
 A:=A.deeper (envOfC qual scope s.heap.objs.size f cd)
 N:=N
 s₀:=s
 H₀:=H
 env:=envOfC qual scope s.heap.objs.size f cd
 outer:=outer
 stack:=envOfC qual scope s.heap.objs.size f cd::outer
 ex:=[]
 calm:=Y
 fn:=λ_=>Y
 pn:=[]
 xe:=λe s'=>wpAny (model P w) (A.deeper (envOfC qual scope s.heap.objs.size f cd)) (leaving (envOfC qual scope s.heap.objs.size f cd) e) (λ_ ow=>CX outer H s E e ow) (λe' ow=>CX outer H s E e' ow) s'
def yX{sc:Scope}{n:Nat}(h:sc.names.lookup x=O .cell):∃c,(cellsFrom n sc.names []).lookup x=O c:=by have q:=PySem.W.cellsFrom_some sc.names n [] (.inl h);exact Option.isSome_iff_exists.mp q
def HP{CX:ar}{qual:Str}{scope:Scope}{f:Addr}{cd:Value}{outer:List Env}{s1:Shared}{H:Hp}{E:XK}{vs:List V} (S:ai N ps scope) (hd:A.handled=U) (I:Env0 P w K mg base A outer s H) (hl:vs.length=ps.length) (r:aX vs us) (x:InCallC s s.heap.objs.size (bindL (envOfC qual scope s.heap.objs.size f cd).kindOf (ps.zip us) λ_=>U) (cellsFrom (s.heap.objs.size+1) scope.names []) (bindC (envOfC qual scope s.heap.objs.size f cd).kindOf (ps.zip us) λ_=>U) s1):Inv (nA CX P w K mg base N qual scope f cd A outer s H E) [] (start N vs) H s1:=by
 have jr:ps.length<=N.length:=by have:=congrArg List.length S.pre;rw[v7]at this;lia
 obtain⟨h1,tk,rfl,hk⟩:=x.done;have oz:∀b:Addr,b∉(nA CX P w K mg base N qual scope f cd A outer s H E).ex:=λb z=>absurd (show b∈([]:List Addr) from z) y9;refine⟨⟨I.mod,S.kind,rfl,rfl,t9 _,λy z c h1 h2=>?_,λy hy=>?_,λy c _ h=>?_,λ_=>hd,Around.frames_deeper I.frames,.inr ⟨rfl,rfl⟩,λb z=>absurd z (oz b),I.bs,I.bsz,λb _ _=>oz b,λb z=>absurd z (oz b),I.funs,I.frf⟩,
  rfl,I.bare,Un.kept hk,⟨_,x.toInCall.ns,λi y v h1 h2 h3=>?_⟩,λy c h=>⟨_,x.cell y c h⟩,I.hok.fresh (t9 _),λy c h=>?_,λp hp=>absurd (show p∈([]:wk) from hp) y9,I.hok.kept hk,?_⟩
 exact name_of_addr x.apart (uy h1) (uy h2);have hy:scope.names.lookup y=O .cell\/scope.names.lookup y=O .free:=hy;rcases hy with hy|hy;exact yX hy;exact absurd rfl (S.nofree _ (uy hy));exact le_of_lt (x.above y c (uy h));have hi:i<vs.length:=by unfold start at h2;by_cases hi:i<vs.length;exact hi;rw[vx (by simpa using hi)]at h2;rw[List.getElem?_replicate]at h2;split at h2<;>cases h2
 have ha:vs[i]?=O v:=by
  unfold start at h2;rw[vt (by simpa using hi),sv]at h2;cases e:vs[i]? with
  |none=>rw[e]at h2;cases h2
  |some a=>rw[e]at h2;cases h2;rfl
 obtain⟨u,hu,rv⟩:=r.get ha;have hp:ps[i]?=O y:=by rw[<-S.pre,List.getElem?_take_of_lt (by lia)];exact h1
 have ndP:ps.Nodup:=by rw[<-S.pre];exact S.nd.sublist (List.take_sublist _ _)
 refine⟨u,rv,?_⟩;rcases S.par y (sq hp) with k|k;exact .inl ⟨k,tM ndP hp hu k⟩;obtain⟨c,e⟩:=yX (n:=s.heap.objs.size+1) k;refine .inr ⟨.inl k,c,e,?_⟩;have q:=x.cell y c e;rw[tO ndP hp hu (by show scope.names.lookup y≠_;rw[k];decide)]at q;exact q;exact I.hok.fresh (le_of_lt (x.above y c (uy h)));unfold start;show _=N.length;rw[um,t8,List.length_replicate];lia
def NH{CX:ar}{k:Nat}{f:Addr}{name qual:Str}{z:Arguments}{body:List Stmt}{scope:Scope}{dV kV doc pm aT ct oc:Value}{an od:Option Addr} {kl:Array (Option Value)}  {sp:Sp} (lk:K.lookup f=O ⟨oc,od,.func (PySem.W.fnOf name qual z body scope dV kV doc pm an aT ct),kl⟩) (gq:codeIn K aT qual=Y) (S:ai N ps scope) (len:∀vs H Q E,sp vs H Q E->vs.length=ps.length) (hbody:∀(A:Around) (outer:List Env) (s:Shared) (H:Hp) (vs:List V) (Q:VK) (E:XK),Room k (A.deeper (envOfC qual scope s.heap.objs.size f aT))->sp vs H Q E ->∃t,PSs (nA CX P w K mg base N qual scope f aT A outer s H E) body t/\t {nx:=λ_ H'=>Q .non H',rt:=Q} (start N vs) H):FnOk P w K mg base CX (k+1) f (PySem.W.fnOf name qual z body scope dV kV doc pm an aT ct) ps sp:=by
 refine⟨len,λA outer s H args us vs Q E hr e0 hb r bg=>?_⟩;have hl:=len _ _ _ _ bg;have KX:K.In s.heap:=e0.mod.kin.keeps λb o e=>(e0.bs b o e).1;have lim:s.heap.NoLimit:=e0.mod.nolimit.keeps λb o e=>(e0.bs b o e).1;have hkind:∀y∈ps.zip us,scope.names.lookup y.1=O .local\/(scope.names.lookup y.1=O .cell/\((cellsFrom (s.heap.objs.size+1) scope.names []).lookup y.1).isSome=Y):=λ⟨n,v⟩ hy=>by rcases S.par n (List.of_mem_zip hy).1 with q|q;exact .inl q;exact .inr ⟨q,PySem.W.cellsFrom_some _ _ _ (.inl q)⟩
 refine codeAny_call_function hr.depth (KX _ _ lk) rfl S.co S.gen rfl (PySem.W.codeRec_of KX gq) (hb _ _ _ _ ?_);refine wpAny_newFunctionEnv_cells S.kind hkind λenv he s1 x=>?_;subst he;refine⟨lim.keeps x.toInCall.keep,codeAny_func ?_⟩;obtain⟨t,ht,hq⟩:=hbody A outer s H vs Q E (hr.deeper _) bg;have I:Inv (nA CX P w K mg base N qual scope f aT A outer s H E) [] (start N vs) H s1:=HP S hr.hd e0 hl r x;refine vd (ht [] s1 (start N vs) H _ I hq) (λfl s' hs=>?_) λe s' hs=>hs;have fin:∀{M':St} {H':Hp} {v:V} {u:Value},Inv (nA CX P w K mg base N qual scope f aT A outer s H E) [] M' H' s'->RelV v u->Q v H'->CE outer P w H s Q u s':=λ{M' H' v u} æ rv q=>⟨v,H',æ.os,æ.bare,æ.base,æ.hok,rv,q⟩;cases fl with
 |ret u=>obtain⟨v,M',H',æ,rv,q⟩:=hs;exact fin æ rv q
 |next=>obtain⟨M',H',æ,q⟩:=hs;exact fin (v:=V.non) (u:=Value.none) æ rfl q
 |brk=>obtain⟨_,_,_,q⟩:=hs;exact False.elim q
 |cont=>obtain⟨_,_,_,q⟩:=hs;exact False.elim q
section
variable {X:Cx}{x:Str}{p pos:Pos}{e:Expr}{es:List Expr}{t:TA}{id T:String}{r:List V->Hp->VK->Prop}
def tCB(r:List V->Hp->VK->Prop)(t:TA):TE:=λM H Q=>t M H λvs H1=>r vs H1 Q
def eF(hc:dE X (.builtin id) r)(hg:Gl X x)(hm:X.mg x=U)(hv:bootBuiltins x=O (.builtin id))(ha:PA X (e::es) t)(hn:x≠"__name__":=by decide)(i5:(x == ("__debug__":Str))=J:=by decide) (he:starEach (e::es) X.env=(J,eval e X.env)::starEach es X.env:=by rfl) (jr:(backTo pos (starEach es X.env)).any (·.1)=J:=by rfl):PE X (.Call (.Name x p) (e::es) [] pos) (tCB r t):=by intro pins s M H Q I h;refine wpAny_Call_Name_kw (fH I hg hm hv ?_ hn i5);exact PyProof.Rows.callWith_builtin1 (ah (ha pos pins s M H _ I h) λus s1 ⟨vs,H1,I1,z,q1⟩=>hc pins s1 M H1 vs us Q I1 z q1) he jr
def jY(hc:dE X (.type T) r)(hg:Gl X x)(hm:X.mg x=U)(hv:bootBuiltins x=O (.type T))(ha:PA X (e::es) t)(hn:x≠"__name__":=by decide)(i5:(x == ("__debug__":Str))=J:=by decide) (he:starEach (e::es) X.env=(J,eval e X.env)::starEach es X.env:=by rfl) (jr:(backTo pos (starEach es X.env)).any (·.1)=J:=by rfl):PE X (.Call (.Name x p) (e::es) [] pos) (tCB r t):=by intro pins s M H Q I h;refine wpAny_Call_Name_kw (fH I hg hm hv ?_ hn i5);exact uj (ah (ha pos pins s M H _ I h) λus s1 ⟨vs,H1,I1,z,q1⟩=>hc pins s1 M H1 vs us Q I1 z q1) he jr
end
end L2
namespace HT
open PySem PyProof.Rows
section
variable {prog:wg}{w:World}{A:Around}{E:wj}{s:Shared}
def YV{t b:Addr}{vs ws:List Value}{Q:wj}(ht:IsTup s.heap t vs.toArray)(hb:IsTup s.heap b ws.toArray)(hv:vs≠[]) (h1:ws=[]->Q (.ref t) s) (h2:ws≠[]->Q (.ref s.heap.objs.size) {s with heap:=s.heap.push {cls:=.type "tuple",data:=.seq (vs++ws).toArray} }) (hsz:vs.length+ws.length<=sizeLine):wpAny (model prog w) A (binaryOp .Add (.ref t) (.ref b)) Q E s:=by
 obtain⟨⟨cls,dd,data,sl⟩,ho,hc,n,hd⟩:=id ht;obtain⟨⟨cls2,lu,data2,l8⟩,I,fx,n2,z⟩:=id hb;simp only at hc hd fx z;subst hc hd fx z;have e:vs.toArray++ws.toArray=(vs++ws).toArray:=by simp
 by_cases hw:ws=[];exact concat_meets ⟨_,ho,rfl⟩ ⟨_,I,rfl⟩ noFill_tuple_add seq_tuple_add slot_tuple_add entry_tuple_add (args_tuple_add_2 _ _) (tuple_addW1 t b vs.toArray ws.toArray n n2 dd lu sl l8 (by simpa using hv) (by simp[hw])) ⟨ho,I,h1 hw⟩;refine concat_meets ⟨_,ho,rfl⟩ ⟨_,I,rfl⟩ noFill_tuple_add seq_tuple_add slot_tuple_add entry_tuple_add (args_tuple_add_2 _ _) (tuple_addW2 t b vs.toArray ws.toArray n n2 dd lu sl l8 (by simpa using hv) (by simpa using hw) (by rw[u0,u0];exact hsz)) ⟨ho,I,?_⟩;rw[e];exact h2 hw
noncomputable def sIx(n d:Nat):Option Int->Nat
 |none=>d
 |some v=>if v<0 then(v+(n:Int)).toNat else min v.toNat n
def aBo(n d:Nat)(hd:d<=n)(o:Option Int):sIx n d o<=n:=by
 cases o with
 |none=>exact hd
 |some v=>show (if v<0 then(v+(n:Int)).toNat else min v.toNat n)<=n;by_cases hv:v<0;rw[if_pos hv];lia;rw[if_neg hv];exact min_le_right _ _
def FF(v:Int)(n d:Nat):(if v<0 then max (v+(n:Int)) 0 else min v (n:Int))=((sIx n d (O v):Nat):Int):=by show (if v<0 then max (v+(n:Int)) 0 else min v (n:Int))=(((if v<0 then(v+(n:Int)).toNat else min v.toNat n):Nat):Int);by_cases hv:v<0;simp only[if_pos hv];lia;simp only[if_neg hv];lia
def BX(lo hi:Option Int)(n:Nat):Builtin.Slice.sliceAdjust lo hi 1 (n:Int)=(((sIx n 0 lo:Nat):Int),((sIx n n hi:Nat):Int)):=by
 have h1:¬((1:Int)<0):=by lia
 unfold Builtin.Slice.sliceAdjust;simp only[h1,if_false];refine Prod.ext ?_ ?_;cases lo with
 |none=>rfl
 |some v=>exact FF v n 0
 cases hi with
 |none=>rfl
 |some v=>exact FF v n n
def zX(i j:Nat):Builtin.Slice.slicePlaces (i:Int) (j:Int) 1=j-i:=by
 unfold Builtin.Slice.slicePlaces;have h1:(1:Int) > 0:=by lia
 simp only[h1,if_true,Int.ediv_one];split<;>lia
def oU{v:Value}{o:Option Int}{Q:Option Int->Shared->Prop}(p:IsPart v o)(h:Q o s):wpAny (model prog w) A (Builtin.Slice.slicePartIndex v) Q E s:=by
 cases p with
 |none=>exact slicePart_none h
 |int i t=>exact slicePart_int h
def lY{sl:Addr}{I z:Value}{lo hi:Option Int}{n:Nat}{Q:Int×Int×Nat->Shared->Prop}(hs:s.heap.IsSliceOf sl I z .none)(pl:IsPart I lo)(pu:IsPart z hi) (h:Q (((sIx n 0 lo:Nat):Int),1,sIx n n hi-sIx n 0 lo) s):wpAny (model prog w) A (Builtin.Slice.sliceApplied (.ref sl) (pure (n:Int))) Q E s:=by obtain⟨os,k8,hcs,bu⟩:=id hs;unfold Builtin.Slice.sliceApplied Builtin.Slice.sliceFields;refine vb (vb (wpAny_field k8 bu (x:=I) rfl (vb (wpAny_field k8 bu (x:=z) rfl (vb (wpAny_field k8 bu (x:=.none) rfl (vc ?_)))))));refine vb (slicePart_none ?_);show wpAny _ _ (if ((1:Int) == 0)=Y then _ else _) _ _ s;rw[if_neg y8];refine vb (oU pl (vb (oU pu (vb (vc ?_)))));show wpAny _ _ (match Builtin.Slice.sliceAdjust lo hi 1 (n:Int) with|(lo,hi)=>pure (lo,(1:Int),Builtin.Slice.slicePlaces lo hi 1)) _ _ s;rw[BX lo hi n];show wpAny _ _ (pure (((sIx n 0 lo:Nat):Int),(1:Int),Builtin.Slice.slicePlaces ((sIx n 0 lo:Nat):Int) ((sIx n n hi:Nat):Int) 1)) _ _ s;rw[zX];exact vc h
def KH(xs:Array Value)(i k:Nat):((List.range k).filterMap λ(m:Nat)=>xs[((i:Int)+(m:Int)*1).toNat]?).toArray=((xs.toList.drop i).take k).toArray:=by
 have e:(λ(m:Nat)=>xs[((i:Int)+(m:Int)*1).toNat]?)=λm=>xs[i+m]?:=by
  funext m;have:((i:Int)+(m:Int)*1).toNat=i+m:=by lia
  rw[this]
 rw[e];have:=pick_run xs i k;rw[List.filterMap_map]at this;have e2:((λx=>xs[x]?) ∘ λx=>i+x)=λm=>xs[i+m]?:=rfl;rw[e2]at this;rw[this]
def lQ{t sl:Addr}{items:Array Value}{vl vu:Value}{lo hi:Option Int}{Q:wj}(I:IsTup s.heap t items)(hs:s.heap.IsSliceOf sl vl vu .none)(pl:IsPart vl lo)(pu:IsPart vu hi) (hw:¬(sIx items.size 0 lo=0/\sIx items.size items.size hi=items.size)) (h:Q (.ref s.heap.objs.size) {s with heap:=s.heap.push {cls:=.type "tuple",data:=.seq ((items.toList.drop (sIx items.size 0 lo)).take (sIx items.size items.size hi-sIx items.size 0 lo)).toArray} }) (hsz:items.size<=sizeLine):wpAny (model prog w) A (getItem (.ref t) (.ref sl)) Q E s:=by
 have z:sizeOk (.seq ((items.toList.drop (sIx items.size 0 lo)).take (sIx items.size items.size hi-sIx items.size 0 lo)).toArray):=by show ((items.toList.drop (sIx items.size 0 lo)).take (sIx items.size items.size hi-sIx items.size 0 lo)).toArray.size<=sizeLine;rw[u0,v7,w8,length_toList];lia
 have hj:sIx items.size items.size hi<=items.size:=aBo _ _ (t9 _) hi;obtain⟨os,k8,hcs,bu⟩:=id hs;have hTs:s.TypeIs (.ref sl) "slice":=⟨os,k8,hcs⟩;unfold getItem;try with_reducible refine wpAny_holding ?_
 first|refine vb (vc ?_)|skip
 refine vb (wpAny_sequenceKey I.typeIs y8 ?_);refine vb (wpAny_callSpecial?_slot (name:=Str.ofString "__getitem__") I.typeIs PyProof.Rows.slot_tuple_getitem (wpAny_call_entry PyProof.Rows.slot_tuple_getitem I.typeIs entry_tuple_getitem ?_ (args_tuple_getitem _ _)));show wpAny _ _ (Builtin.Tuple.tupleItemsOf (.ref t) >>= _) _ _ s;refine vb (tupleItemsOf_ I ?_);refine vb (wpAny_typeOf hTs ?_);rw[if_pos y8];refine vb (lY hs pl pu ?_);have pz:¬((((sIx items.size 0 lo:Nat):Int) == 0&&(1:Int) == 1&&(sIx items.size items.size hi-sIx items.size 0 lo) == items.size)=Y):=by intro q;rw[u3,u3]at q;have q1:((sIx items.size 0 lo:Nat):Int)=0:=eq_of_beq q.1.1;have q2:sIx items.size items.size hi-sIx items.size 0 lo=items.size:=eq_of_beq q.2;exact hw ⟨by lia,by lia⟩
 show wpAny _ _ (if (((sIx items.size 0 lo:Nat):Int) == 0&&(1:Int) == 1&&(sIx items.size items.size hi-sIx items.size 0 lo) == items.size)=Y then _ else _) _ _ s;rw[if_neg pz,KH];first
  |exact vb (m:=Builtin.Tuple.tupleExact _) (wpAny_newObj_type (vc ⟨_,rfl,vc h⟩) z)
  |exact vb (m:=Builtin.Tuple.tupleExact _) (wpAny_newObj_type (vb (vc (vc ⟨_,rfl,vc h⟩))) z)
  |exact vb (vb (m:=Builtin.Tuple.tupleExact _) (wpAny_newObj_type (vc (vc ⟨_,rfl,vc h⟩)) z))
  |exact vb (vb (m:=Builtin.Tuple.tupleExact _) (wpAny_newObj_type (vc ⟨_,rfl,vc h⟩) z))
end
end HT
namespace L2
open PySem PySem.Spec PyProof.Rows
variable {xs:List V}{n:Nat}{pins:wk}{M:St}{H:Hp}{s:Shared}{its:List Value}
abbrev TO:=St->Hp->(Option Int->Hp->Prop)->Prop
def PO(X:Cx)(e:Option Expr)(t:TO):Prop:=∀(pins:wk) (s:Shared) (M:St) (H:Hp) (Q:Option Int->Hp->Prop),Inv X pins M H s->t M H Q ->wpAny (model X.prog X.w) X.A (evalPart e X.env) (λu s'=>∃o H',Inv X pins M H' s'/\IsPart u o/\Q o H') X.xe s
noncomputable def SH:TO:=λ_ H Q=>Q U H
noncomputable def aEv(t:TE):TO:=λM H Q=>t M H λx H1=>∃i,x=.int i/\Q (O i) H1
section
variable {X:Cx}{e:Expr}{te:TE}{lo hi:Option Expr}{tl th:TO}{pos p2:Pos}
def VR:PO X U SH:=by intro pins s M H Q I h;rw[evalPart_none];exact vc ⟨U,H,I,.none,h⟩
def VQ(h:PE X e te):PO X (O e) (aEv te):=by intro pins s M H Q I hw;rw[evalPart_some];refine ah (h pins s M H _ I hw) λu s1 ⟨x,H1,I1,z,q1⟩=>?_;obtain⟨i,rfl,q⟩:=q1;obtain⟨t,rfl⟩:=z;exact⟨O i,H1,I1,.int i t,q⟩
def SlR(X:Cx)(r:V->Option Int->Option Int->Hp->VK->Prop):Prop:=∀(pins:wk) (s:Shared) (M:St) (H:Hp) (x:V) (v I z:Value) (lo hi:Option Int) (sl:Addr) (Q:VK),Inv X pins M H s->RelV x v->s.heap.IsSliceOf sl I z .none->IsPart I lo->IsPart z hi->r x lo hi H Q ->∃T id,typeLookup (.type T) "__getitem__"=pure (O (.builtin id))/\s.TypeIs v T/\wpAny (model X.prog X.w) X.A (getItem v (.ref sl)) (EP X pins M Q) X.xe s
def tSl(r:V->Option Int->Option Int->Hp->VK->Prop)(te:TE)(tl th:TO):TE:=λM H Q=>te M H λx H1=>tl M H1 λl H2=>th M H2 λu z=>r x l u z Q
def xC{r:V->Option Int->Option Int->Hp->VK->Prop}(hr:SlR X r)(he:PE X e te)(hl:PO X lo tl)(hu:PO X hi th):PE X (.Subscript e (.Slice lo hi U p2) pos) (tSl r te tl th):=by intro pins s M H Q I h;refine Subscript_ (ah (he pins s M H _ I h) λv s1 ⟨x,H1,I1,r1,q1⟩=>?_);refine wpAny_Slice (ah (hl pins s1 M H1 _ I1 q1) λvl s2 ⟨l,H2,I2,pl,q2⟩=>ah (hu pins s2 M H2 _ I2 q2) λz s3 ⟨u,H3,I3,pu,q3⟩=>?_);rw[evalPart_none];refine vc ?_;have I4:Inv X pins M H3 {s3 with heap:=s3.heap.push {cls:=.type "slice",data:=.fields #[vl,z,.none]} }:=I3.kept (t':=s3.toks) λb ob q=>tm _ q;obtain⟨T,id,hT,ht,hg⟩:=hr pins {s3 with heap:=s3.heap.push {cls:=.type "slice",data:=.fields #[vl,z,.none]} } M H3 x v vl z l u s3.heap.objs.size Q I4 r1 (Heap.IsSliceOf.new ..) pl pu q3;show wpAny (model X.prog X.w) X.A (subscriptTail e (.Slice lo hi U p2) v (.ref s3.heap.objs.size)) (EP X pins M Q) X.xe {s3 with heap:=s3.heap.push {cls:=.type "slice",data:=.fields #[vl,z,.none]} };exact tail_any (ops:=[.ref s3.heap.objs.size,v]) ht hT hg (by with_unfolding_all rfl)
def yQ(xs:List V)(lo hi:Option Int):List V:=(xs.drop (HT.sIx xs.length 0 lo)).take (HT.sIx xs.length xs.length hi-HT.sIx xs.length 0 lo)
def nR(xs:List V)(lo hi:Option Int):(yQ xs lo hi).length<=xs.length:=by unfold yQ;rw[v7,w8];lia
def aHh(K:wc):V->Option Int->Option Int->Hp->VK->Prop:=λx lo hi H Q=>∃a xs,x=.ref a/\SqT K H a xs /\¬(HT.sIx xs.length 0 lo=0/\HT.sIx xs.length xs.length hi=xs.length)/\∀p,H p=U->Q (.ref p) (upd H p (.tup (yQ xs lo hi)))
def aBh:SlR X (aHh X.K):=by
 intro pins s M H x v vl vu lo hi sl Q I rx hs pl pu h;obtain⟨a,xs,rfl,hx,hw,q⟩:=h;cases rx;obtain⟨its,r,ht,hz⟩:=I.tuple hx;have z:its.toArray.size=xs.length:=by rw[u0];exact r.length.symm
 refine⟨"tuple",_,PyProof.Rows.slot_tuple_getitem.lookup,ht.typeIs,?_⟩;refine HT.lQ ht hs pl pu (by rw[z];exact hw) ?_ (by rw[z];exact hz);rw[z];refine⟨.ref s.heap.objs.size,_,I.laid (t':=s.toks) (o:=.tup (yQ xs lo hi)) (λb ob q=>tm _ q) (t9 _) ?_,rfl,q _ (I.hok.fresh (t9 _))⟩;exact⟨ug (nR xs lo hi) hz,_,(r.drop (HT.sIx xs.length 0 lo)).take (HT.sIx xs.length xs.length hi-HT.sIx xs.length 0 lo),IsTup.new _ _⟩
def aFf(K:wc):R2:=λx y H Q=>∃a b xs ys,x=.ref a/\y=.ref b/\SqT K H a xs/\SqT K H b ys/\xs≠[]/\xs.length+ys.length<=sizeLine /\(ys=[]->Q (.ref a) H)/\(ys≠[]->∀p,H p=U->Q (.ref p) (upd H p (.tup (xs++ys))))
def aX.nil_iff{us:List Value}(r:aX xs us):us=[]↔xs=[]:=by
 cases r with
 |nil=>simp
 |cons _ _=>simp
def WN:az X (binaryOp .Add) (aFf X.K):=by intro pins s M H x y v u Q I rx ry h;obtain⟨a,b,xs,ys,rfl,rfl,ha,hb,hx,hz,q1,q2⟩:=h;cases rx;cases ry;obtain⟨its,r1,p1,_⟩:=I.tuple ha;obtain⟨dg,r2,p2,_⟩:=I.tuple hb;refine HT.YV p1 p2 (λz=>hx (r1.nil_iff.mp z)) (λz=>⟨.ref a,H,I,rfl,q1 (r2.nil_iff.mp z)⟩) (λz=>?_) (by rw[<-r1.length,<-r2.length];exact hz);refine⟨.ref s.heap.objs.size,_,I.laid (t':=s.toks) (o:=.tup (xs++ys)) (λb ob q=>tm _ q) (t9 _) ?_,rfl,q2 (λw=>z (r2.nil_iff.mpr w)) _ (I.hok.fresh (t9 _))⟩;exact⟨by rw[um];exact hz,_,r1.append r2,IsTup.new _ _⟩
end
noncomputable def ixN(n:Nat)(i:Int):Option Nat:=if 0<=i then(if i<n then O i.toNat else U) else if -(n:Int)<=i then O (i+n).toNat else U
def atI{R:Type}(xs:List R)(i:Int):Option R:=(ixN xs.length i).bind λj=>xs[j]?
def DR{i:Int}{j:Nat}(h:ixN n i=O j):seqIndex? i n=O j/\j<n/\-(n:Int)<=i/\i<n:=by unfold ixN at h;by_cases h0:0<=i;rw[if_pos h0]at h;by_cases h1:i<n;rw[if_pos h1]at h;have e:i.toNat=j:=u4 h;exact⟨by rw[seqIndex_of h0 h1,e],by lia,by lia,h1⟩;rw[if_neg h1]at h;cases h;rw[if_neg h0]at h;by_cases h1:-(n:Int)<=i;rw[if_pos h1]at h;have e:(i+n).toNat=j:=u4 h;exact⟨by rw[seqIndex_neg (by lia) h1,e],by lia,h1,by lia⟩;rw[if_neg h1]at h;cases h
def vW{R:Type}{xs:List R}{i:Int}{v:R}(h:atI xs i=O v):∃j,seqIndex? i xs.length=O j/\xs[j]?=O v/\j<xs.length/\-(xs.length:Int)<=i/\i<xs.length:=by
 unfold atI at h;cases e:ixN xs.length i with
 |none=>rw[e]at h;cases h
 |some j=>rw[e]at h;obtain⟨h1,h2,h3,h4⟩:=DR e;exact⟨j,h1,h,h2,h3,h4⟩
def lX(b:Expr):Prop:=∀o i,subscripted b J o i=operate [o,i] (getItem o i)
def IxR(X:Cx)(r:R2):Prop:=∀(value z:Expr) (pins:wk) (s:Shared) (M:St) (H:Hp) (x y:V) (v u:Value) (Q:VK),Inv X pins M H s->RelV x v->RelV y u->r x y H Q ->subscripted z J v u=operate [v,u] (getItem v u)->wpAny (model X.prog X.w) X.A (subscriptTail value z v u) (EP X pins M Q) X.xe s
def rq(X:Cx)(id:String)(r:V->List V->Hp->VK->Prop):Prop:=∀(pins:wk) (s:Shared) (M:St) (H:Hp) (x:V) (xs:List V) (v:Value) (us:List Value) (Q:VK),Inv X pins M H s->RelV x v->aX xs us->r x xs H Q ->wpAny (model X.prog X.w) X.A (call (.builtin id) (v::us)) (EP X pins M Q) X.xe s
section
variable {X:Cx}{a b:Expr}{ta tb:TE}{pos:Pos}
def IxR.or{r r':R2}(h:IxR X r)(h':IxR X r'):IxR X (λx y H Q=>r x y H Q\/r' x y H Q):=by intro value z pins s M H x y v u Q I rx ry q hs;rcases q with q|q;exact h value z pins s M H x y v u Q I rx ry q hs;exact h' value z pins s M H x y v u Q I rx ry q hs
def aFk{r:R2}(hr:IxR X r)(ha:PE X a ta)(hb:PE X b tb)(hs:lX b):PE X (.Subscript a b pos) (l7 r ta tb):=by intro pins s M H Q I h;exact Subscript_ (aDH ha hb I h λv u s2 x y H2 I2 rx z q=>hr a b pins s2 M H2 x y v u Q I2 rx z q (hs _ _))
def aFd(K:wc):R2:=λx y H Q=>∃p xs i v,x=.ref p/\y=.int i/\SqL K H p xs/\atI xs i=O v/\Q v H
def aFb(K:wc):R2:=λx y H Q=>∃p xs i v,x=.ref p/\y=.int i/\SqT K H p xs/\atI xs i=O v/\Q v H
def aFc:R2:=λx y H Q=>∃z i c,x=.str z/\y=.int i/\z.length<=sizeLine/\atI z.cps.toList i=O c/\Q (.str ⟨#[c]⟩) H
def XZ:IxR X (aFd X.K):=by
 intro value slice pins s M H x y v u Q I rx ry h hs;obtain⟨p,xs,i,z,rfl,rfl,hq,he,q⟩:=h;cases rx;obtain⟨t,rfl⟩:=ry;obtain⟨its,r,pl,hz⟩:=I.list hq;obtain⟨j,h1,h2,h3,h4,h5⟩:=vW he;obtain⟨w,ew,cW⟩:=r.get h2;have hl:=r.length;have hn:=kU;have fin:EP X pins M Q w s:=⟨z,H,I,cW,q⟩;by_cases h0:0<=i;have hj:i.toNat=j:=by rw[seqIndex_of h0 h5]at h1;exact u4 h1
 exact item_listR pl.isList h0 (by lia) (by rw[hj];simpa using ew) fin hs;have hj:(i+(its.toArray.size:Int)).toNat=j:=by rw[seqIndex_neg (by lia) h4]at h1;rw[u0,<-hl];exact u4 h1
 exact subscriptTail_builtinR (x:=w) pl.isList.typeIs slot_list_getitem.lookup (wpAny_getItem_list_neg (Q:=λr s'=>r=w/\EP X pins M Q r s') pl.isList (by lia) (by rw[u0]<;>lia) (by lia) (by rw[hj];simpa using ew) ⟨rfl,fin⟩) hs
def aCU:IxR X (aFb X.K):=by intro value slice pins s M H x y v u Q I rx ry h hs;obtain⟨p,xs,i,z,rfl,rfl,hq,he,q⟩:=h;cases rx;obtain⟨t,rfl⟩:=ry;obtain⟨its,r,pl,hz⟩:=I.tuple hq;obtain⟨j,h1,h2,h3,h4,h5⟩:=vW he;obtain⟨w,ew,cW⟩:=r.get h2;have hl:=r.length;have hn:=kU;have fin:EP X pins M Q w s:=⟨z,H,I,cW,q⟩;exact subscriptTail_builtinR (x:=w) pl.typeIs slot_tuple_getitem.lookup (getItem_tuple (j:=j) (Q:=λr s'=>r=w/\EP X pins M Q r s') pl (by lia) (by lia) (by rw[u0,<-hl];exact h1) (by simpa using ew) ⟨rfl,fin⟩) hs
def aCV:IxR X aFc:=by
 intro value slice pins s M H x y v u Q I rx ry h hs;obtain⟨z,i,c,rfl,rfl,hz,he,q⟩:=h;obtain⟨t,rfl⟩:=rx;obtain⟨t',rfl⟩:=ry;obtain⟨j,h1,h2,h3,h4,h5⟩:=vW he;have hl:z.cps.toList.length=z.length:=by simp[Str.length]
 rw[hl]at h1 h4 h5;have hn:=kU;exact tail_any (typeIs_str s z t) slot_str_getitem.lookup (getItem_str (c:=c) (by have e1:decide (i < -(2 ^ 63:Int))=J:=tj (by lia);have e2:decide (i >= 2 ^ 63)=J:=tj (by lia);rw[e1,e2,Bool.or_false]) (by rw[h1];simpa using h2) ⟨.str ⟨#[c]⟩,H,I.tok _,⟨_,rfl⟩,q⟩) hs
def rIx(K:wc):R2:=λx y H Q=>aFd K x y H Q\/aFb K x y H Q\/aFc x y H Q
def aCW:IxR X (rIx X.K):=XZ.or (aCU.or aCV)
def AJ(its:List Value)(n j:Nat)(u:Value):Obj.mapSeq (·.setIfInBounds j u) {cls:=.type "list",data:=.seq its.toArray n}={cls:=.type "list",data:=.seq (its.set j u).toArray n}:=by simp[Obj.mapSeq]
theorem Inv.lst{p:Addr}(I:Inv X pins M H s)(h:H p=O (.lst xs)):∃(its:List Value) (n:Nat),aX xs its/\s.heap.get? p=O {cls:=.type "list",data:=.seq its.toArray n}/\xs.length<=sizeLine:=by obtain⟨z,its,n,r,e⟩:=I.hok p _ h;exact⟨its,n,r,e,z⟩
def Inv.lstUpd{p:Addr}{ys:List V}{its':List Value}{z:Nat}{f:Obj->Obj}(I:Inv X pins M H s)(h:H p=O (.lst xs)) (ho:s.heap.get? p=O {cls:=.type "list",data:=.seq its.toArray n}) (hf:f {cls:=.type "list",data:=.seq its.toArray n}={cls:=.type "list",data:=.seq its'.toArray z }) (r:aX ys its') (hz:ys.length<=sizeLine) (t:Nat):Inv X pins M (upd H p (.lst ys)) {s with heap:=s.heap.update p f,toks:=t}:=by
 have e:(s.heap.update p f).get? p=O {cls:=.type "list",data:=.seq its'.toArray z }:=by rw[Heap.get?_update_self f ho (by rw[hf]<;>rfl),hf]
 refine I.write (x:=p) (e:=p) (by rw[h];trivial) (.inl rfl) (λb u hb q=>(Heap.get?_update_other _ _ (Ne.symm hb)).trans q) ⟨_,e⟩ ?_;exact⟨hz,its',z,r,e⟩
def aFa:V->V->V->Hp->(Hp->Prop)->Prop:=λo i v H Q=>∃p xs k j,o=.ref p/\i=.int k/\H p=O (.lst xs)/\ixN xs.length k=O j/\Q (upd H p (.lst (xs.set j v)))
def set_list:aGL X aFa:=by
 intro pins s M H o i v ov iv u Q I ro ri rv h;obtain⟨p,xs,k,j,rfl,rfl,hp,hj,q⟩:=h;cases ro;obtain⟨t,rfl⟩:=ri;obtain⟨its,n,r,ho,hz⟩:=I.lst hp;obtain⟨h1,h2,h3,h4⟩:=DR hj;have hl:=r.length;have hn:=kU;have z:Inv X pins M (upd H p (.lst (xs.set j v))) {s with heap:=s.heap.update p (Obj.mapSeq (·.setIfInBounds j u))}:=I.lstUpd hp ho (AJ its n j u) (r.set rv j) (by rw[List.length_set];exact hz) s.toks;by_cases h0:0<=k;have hk:k.toNat=j:=by rw[seqIndex_of h0 h4]at h1;exact u4 h1
 exact PySem.W.ki_setAt ho h0 (by lia) (by rw[u0,<-hl];exact h4) (by rw[hk];exact⟨_,z,q⟩);have hk:(k+(its.toArray.size:Int)).toNat=j:=by rw[seqIndex_neg (by lia) h3]at h1;rw[u0,<-hl];exact u4 h1
 exact PySem.W.ki_setBack ho (by lia) (by rw[u0,<-hl];exact h3) (by lia) (by rw[hk];exact⟨_,z,q⟩)
def tW(lo hi:Option Int)(n:Nat):(sliceBounds lo hi U n).1=((HT.sIx n 0 lo:Nat):Int)/\(sliceBounds lo hi U n).2.1=((HT.sIx n n hi:Nat):Int)/\(sliceBounds lo hi U n).2.2=1:=by
 refine⟨?_,?_,rfl⟩;cases lo with
 |none=>simp[sliceBounds,HT.sIx]
 |some i=>
  simp only[sliceBounds,HT.sIx,Option.getD_none,show (1:Int) > 0 by decide,if_true];by_cases h:i<0;simp only[h,if_true]<;>lia
  simp only[h,if_false]<;>lia
 cases hi with
 |none=>simp[sliceBounds,HT.sIx]
 |some i=>
  simp only[sliceBounds,HT.sIx,Option.getD_none,show (1:Int) > 0 by decide,if_true];by_cases h:i<0;simp only[h,if_true]<;>lia
  simp only[h,if_false]<;>lia
def qW(its:List Value)(lo hi:Option Int):slicePick its.toArray lo hi U=((its.drop (HT.sIx its.length 0 lo)).take (HT.sIx its.length its.length hi-HT.sIx its.length 0 lo)).toArray:=by obtain⟨h1,h2,h3⟩:=tW lo hi its.toArray.size;unfold slicePick;rw[h1,h2,h3];simp only[sliceRange_one,pick_run,u0]<;>rfl
def aHi(K:wc):V->Option Int->Option Int->Hp->VK->Prop:=λx lo hi H Q=>∃a xs,x=.ref a/\SqL K H a xs/\∀p,H p=U->Q (.ref p) (upd H p (.lst (yQ xs lo hi)))
def SR:SlR X (aHi X.K):=by intro pins s M H x v vl vu lo hi sl Q I rx hs pl pu h;obtain⟨a,xs,rfl,hx,q⟩:=h;cases rx;obtain⟨its,r,ht,hz⟩:=I.list hx;have z:=r.length;refine⟨"list",_,slot_list_getitem.lookup,ht.isList.typeIs,?_⟩;refine wpAny_getItem_list_slice ht.isList hs pl pu .none y9 ?_ (by rw[u0]<;>lia);rw[qW,<-z];refine⟨.ref s.heap.objs.size,_,I.laid (t':=s.toks) (o:=.lst (yQ xs lo hi)) (λb ob q=>tm _ q) (t9 _) ?_,rfl,q _ (I.hok.fresh (t9 _))⟩;exact⟨ug (nR xs lo hi) hz,_,0,(r.drop (HT.sIx xs.length 0 lo)).take (HT.sIx xs.length xs.length hi-HT.sIx xs.length 0 lo),ve _ rfl⟩
def iW:dE X (.builtin "len") (λxs H Q=>∃p ys,xs=[.ref p]/\(SqL X.K H p ys\/SqT X.K H p ys)/\Q (.int ys.length) H):=by intro pins s M H xs us Q I r h;obtain⟨p,ys,rfl,hq,q⟩:=h;obtain⟨u,rfl,rx⟩:=vals1 r;cases rx;have hn:=kU;rcases hq with hq|hq;obtain⟨its,r',pl,hz⟩:=I.list hq;have z:=r'.length;exact Calls.call_len_list pl.isList (by simp only[u0]<;>lia) ⟨.int ys.length,H,I.tok _,⟨s.toks+1,by rw[u0,z]⟩,q⟩;obtain⟨its,r',pl,hz⟩:=I.tuple hq;have z:=r'.length;exact len_tuple pl (by simp only[u0]<;>lia) ⟨.int ys.length,H,I.tok _,⟨s.toks+1,by rw[u0,z]⟩,q⟩
def vT:dE X (.builtin "len") (λxs H Q=>∃z,xs=[.str z]/\z.length<=sizeLine/\Q (.int z.length) H):=by intro pins s M H xs us Q I r h;obtain⟨z,rfl,hz,q⟩:=h;obtain⟨u,rfl,t,rfl⟩:=vals1 r;have hn:=kU;exact len_str (by lia) ⟨.int z.length,H,I.tok _,⟨_,rfl⟩,q⟩
def iV:dE X (.type "list") (λxs H Q=>∃p ys,xs=[.ref p]/\(SqL X.K H p ys\/SqT X.K H p ys)/\∀l,H l=U->Q (.ref l) (upd H l (.lst ys))):=by intro pins s M H xs us Q I r h;obtain⟨p,ys,rfl,hq,q⟩:=h;obtain⟨u,rfl,rx⟩:=vals1 r;cases rx;have fin:∀(its:List Value),aX ys its->ys.length<=sizeLine->∀(h':Heap) (c':Nat),(∀b o',s.heap.get? b=O o'->h'.get? b=O o') ->h'.get? s.heap.objs.size=O {cls:=.type "list",dict:=U,data:=.seq its.toArray c',slots:=#[]}->EP X pins M Q (.ref s.heap.objs.size) {s with heap:=h' }:=λits z hz h' c' kp e=>⟨.ref s.heap.objs.size,_,I.laid (t':=s.toks) kp (t9 _) (show cP X.prog X.w _ h' _ (.lst ys) from⟨hz,its,c',z,e⟩),rfl,q _ (I.hok.fresh (t9 _))⟩;rcases hq with hq|hq;obtain⟨its,z,pl,hz⟩:=I.list hq;have hlen:=z.length;obtain⟨o,ho,hc,n,hd⟩:=pl.isList;exact call_list_seq p (.inl rfl) ho hc hd (λh' c' kp e=>fin its z hz h' c' kp e) (by simp only[u0]<;>lia);obtain⟨its,z,pl,hz⟩:=I.tuple hq;have hlen:=z.length;obtain⟨o,ho,hc,n,hd⟩:=pl;exact call_list_seq p (.inr rfl) ho hc hd (λh' c' kp e=>fin its z hz h' c' kp e) (by simp only[u0]<;>lia)
def kP:dE X (.type "tuple") (λxs H Q=>∃p ys,xs=[.ref p]/\((SqL X.K H p ys/\∀l,H l=U->Q (.ref l) (upd H l (.tup ys)))\/(SqT X.K H p ys/\Q (.ref p) H))):=by intro pins s M H xs us Q I r h;obtain⟨p,ys,rfl,h⟩:=h;obtain⟨u,rfl,rx⟩:=vals1 r;cases rx;rcases h with ⟨hq,q⟩|⟨hq,q⟩;obtain⟨its,z,pl,hz⟩:=I.list hq;have hlen:=z.length;refine call_tuple_list pl.isList (λh' kp=>?_) (by simp only[u0]<;>lia);have I1:Inv X pins M H {s with heap:=h' }:=I.kept (t':=s.toks) kp;have I2:Inv X pins M (upd H h'.objs.size (.tup ys)) {s with heap:=h'.push {cls:=.type "tuple",data:=.seq its.toArray} }:=I1.laid (t':=s.toks) (λb o e=>tm _ e) (t9 _) (show cP X.prog X.w _ _ _ (.tup ys) from⟨hz,its,z,IsTup.new _ _⟩);exact⟨.ref h'.objs.size,_,I2,rfl,q _ (I1.hok.fresh (t9 _))⟩;obtain⟨its,z,pl,hz⟩:=I.tuple hq;exact call_tuple_same pl ⟨.ref p,H,I,rfl,q⟩
def tyV(K:wc)(T:String)(x:V)(H:Hp):Prop:=match x with
 |.str _=>T="str"
 |.int _=>T="int"
 |.ref p=>(T="list"/\∃xs,SqL K H p xs)\/(T="tuple"/\∃o,K.lookup p=O o/\o.cls=.type "tuple"/\o.dict=U) \/(T="dict"/\((∃kvs,H p=O (.dK kvs))\/∃kvs,H p=O (.dT kvs)))\/(T="set"/\∃S n,H p=O (.set S n))
 |_=>False
def JB{T:String}{x:V}{v:Value}(I:Inv X pins M H s)(r:RelV x v)(ty:tyV X.K T x H):s.TypeIs v T/\∀a,v=.ref a->∃ob,s.heap.get? a=O ob/\ob.dict=U:=by
 cases x with
 |str z=>obtain⟨t,rfl⟩:=r;cases (show T="str" from ty);exact⟨typeIs_str s z t,λ_ e=>nomatch e⟩
 |int i=>obtain⟨t,rfl⟩:=r;cases (show T="int" from ty);exact⟨typeIs_int s i t,λ_ e=>nomatch e⟩
 |ref p=>
  cases r;rcases ty with ⟨rfl,xs,hq⟩|⟨rfl,o,hk,hc,hd⟩|⟨rfl,hk⟩|⟨rfl,S,n,hk⟩;obtain⟨its,_,pl,_⟩:=I.list hq;refine⟨pl.isList.typeIs,λa e=>?_⟩;cases e;obtain⟨o,n,e,c,hd,_⟩:=pl;exact⟨o,e,hd⟩;refine⟨⟨o,I.kIn p o hk,hc⟩,λa e=>?_⟩;cases e;exact⟨o,I.kIn _ o hk,hd⟩;have z:∃o,s.heap.get? p=O o/\o.ExactDict:=by rcases hk with ⟨kvs,hk⟩|⟨kvs,hk⟩;obtain⟨_,_,_,_,o,_,_,e,ex,_⟩:=I.hok p _ hk;exact⟨o,e,ex⟩;obtain⟨_,_,_,_,o,_,_,e,ex,_⟩:=I.hok p _ hk;exact⟨o,e,ex⟩
  obtain⟨o,e,ex⟩:=z;refine⟨⟨o,e,ex.1⟩,λa e2=>?_⟩;cases e2;exact⟨o,e,ex.2.1⟩;obtain⟨o,_,_,_,e,ex,_⟩:=I.hok p _ hk;refine⟨⟨o,e,ex.1⟩,λa e2=>?_⟩;cases e2;exact⟨o,e,ex.2.1⟩
 |_=>exact False.elim ty
def tBM(K:wc)(T:String)(r:V->List V->Hp->VK->Prop)(to:TE)(t:TA):TE:=λM H Q=>to M H λx H1=>tyV K T x H1/\t M H1 λxs H2=>r x xs H2 Q
variable {o e:Expr}{es:List Expr}{to:TE}{t:TA}{name:Str}{apos br:Pos}{T id:String}{r:V->List V->Hp->VK->Prop}
def oW(pa:PlainAttrs T)(slot:Slot T name id)(hty:typeOf (.builtin id)=pure (.type "method_descriptor"))(hm:rq X id r)(ho:PE X o to)(ha:PA X (e::es) t) (hbase:attributeBase o name X.env (eval o X.env)=eval o X.env:=by rfl) (hfew:((backTo br (starEach (e::es) X.env)).all (λx=>!x.1)&&(backToKw br (keywordEach [] X.env)).all (λx=>x.1.isSome) && decide ((e::es).length+([]:List Keyword).length+(if ([]:List Keyword).isEmpty then 0 else 1)<30))=Y:=by rfl) (hline:(apos.endLine == br.line)=Y:=by rfl) (hs:starEach (e::es) X.env=(J,eval e X.env)::starEach es X.env:=by rfl) (z:(backTo br (starEach es X.env)).any (·.1)=J:=by rfl):PE X (.Call (.Attribute o name apos) (e::es) [] br) (tBM X.K T r to t):=by intro pins s M H Q I h;refine wpAny_Call_method_late hbase hfew hline rfl (ah (ho pins s M H _ I h) λv s1 ⟨x,H1,I1,r1,ty,q1⟩=>?_);obtain⟨h1,h2⟩:=JB I1 r1 ty;refine⟨T,id,pa,slot,hty,h1,h2,?_⟩;have hA:=ha br pins s1 M H1 _ I1 q1;rw[hs]at hA ⊢;refine Calls.callWith_builtin (by show (J || (backTo br (starEach es X.env)).any (·.1))=J;rw[z]<;>rfl) (Calls.evalArgs_plain ?_);exact ah hA λus s2 ⟨vs,H2,I2,r2,q2⟩=>hm pins s2 M H2 x vs v us Q I2 r1 r2 q2
end
def MtM(X:Cx)(id:String)(r:V->List V->Hp->VK->Prop):Prop:=∀(pins:wk) (s:Shared) (M:St) (H:Hp) (x:V) (xs:List V) (v:Value) (us:List Value) (Q:VK),Inv X pins M H s->RelV x v->aX xs us->r x xs H Q ->wpAny (model X.prog X.w) X.A (call (.builtin id) (v::us)) (EP X pins M Q) X.xe s
theorem aX.one:∀{x:V} {us:List Value},aX [x] us->∃u,us=[u]/\RelV x u
 |_,_,.cons r .nil=>⟨_,rfl,r⟩
theorem aX.two:∀{x y:V} {us:List Value},aX [x,y] us->∃u v,us=[u,v]/\RelV x u/\RelV y v
 |_,_,_,.cons r (.cons q .nil)=>⟨_,_,rfl,r,q⟩
theorem aX.reverse{us:List Value}(h:aX xs us):aX xs.reverse us.reverse:=by
 induction h with
 |nil=>exact .nil
 |cons r t z=>rw[reverse_cons,reverse_cons];exact aX.append z (.cons r .nil)
section
variable {X:Cx}{pins:wk}{M:St}{H:Hp}{s:Shared}{l b:Addr}{xs ys zs:List V}
def Inv.lset{its':List Value}{f:Array Value->Array Value}{t':Nat}(I:Inv X pins M H s)(z:H l=O (.lst xs)) (e:s.heap.get? l=O {cls:=.type "list",data:=.seq its.toArray n}) (hf:f its.toArray=its'.toArray) (hv:aX ys its') (hz:ys.length<=sizeLine):Inv X pins M (upd H l (.lst ys)) {s with heap:=s.heap.update l (Obj.mapSeq f),toks:=t' }:=by have q:=PySem.IsL.update e f;rw[hf]at q;refine I.write (x:=l) (e:=l) (by rw[z];exact trivial) (.inl rfl) (λb' u hb hu=>(Heap.get?_update_other s.heap (Obj.mapSeq f) (Ne.symm hb)).trans hu) ⟨_,q⟩ ?_;exact⟨hz,its',_,hv,q⟩
def Inv.lnew{t':Nat}(I:Inv X pins M H s)(hv:aX ys its)(hz:ys.length<=sizeLine):Inv X pins M (upd H s.heap.objs.size (.lst ys)) {s with heap:=s.heap.push {cls:=.type "list",data:=.seq its.toArray},toks:=t' }:=I.laid (λ_ _ q=>tm _ q) (t9 _) ⟨hz,its,0,hv,ve _ rfl⟩
theorem Inv.fresh(I:Inv X pins M H s):H s.heap.objs.size=U:=I.hok.fresh (t9 _)
def Inv.lstM(I:Inv X pins M H s)(hH:H l=O (.lst xs)):xs.length<=sizeLine/\∃(its:List Value) (n:Nat),aX xs its/\xs.length=its.length/\s.heap.get? l=O {cls:=.type "list",data:=.seq its.toArray n}:=by obtain⟨z,its,n,r,e⟩:=I.hok l _ hH;exact⟨z,its,n,r,r.length,e⟩
def LK(h:n<=sizeLine):Builtin.List.listTooLong n=J:=by unfold Builtin.List.listTooLong;exact tj (by lia)
end
section
variable {X:Cx}
def TR:V->List V->Hp->VK->Prop:=λx vs H Q=>∃l xs y,x=.ref l/\vs=[y]/\H l=O (.lst xs)/\xs.length<sizeLine/\Q .non (upd H l (.lst (xs++[y])))
def mK:MtM X "list.append" TR:=by intro pins s M H x vs v us Q I rx rv h;obtain⟨l,xs,y,rfl,rfl,hH,hz,q⟩:=h;cases rx;obtain⟨u,rfl,ru⟩:=rv.one;obtain⟨z,its,n,r,hl,e⟩:=I.lstM hH;refine call_meets F.slot_list_append ⟨_,e,rfl⟩ F.entry_list_append (F.args_list_append_2 _ _) (PySem.list_append l its.toArray n u (by rw[u0];lia)) ⟨e,?_⟩;refine⟨.non,_,I.lset (its':=its++[u]) hH e y9 (r.append (.cons ru .nil)) ?_,rfl,q⟩;rw[um,List.length_singleton];lia
def TQ:V->List V->Hp->VK->Prop:=λx vs H Q=>∃l b xs zs,x=.ref l/\vs=[.ref b]/\H l=O (.lst xs)/\H b=O (.lst zs)/\xs.length+zs.length<=sizeLine/\Q .non (upd H l (.lst (xs++zs)))
def HC:MtM X "list.extend" TQ:=by
 intro pins s M H x vs v us Q I rx rv h;obtain⟨l,b,xs,zs,rfl,rfl,hH,hB,hz,q⟩:=h;cases rx;obtain⟨u,rfl,ru⟩:=rv.one;cases ru;obtain⟨z,its,n,r,hl,e⟩:=I.lstM hH;obtain⟨z2,dg,n2,r2,my,e2⟩:=I.lstM hB;have hsz:its.toArray.size+dg.toArray.size<=sizeLine:=by rw[u0,u0];lia
 have hlong:¬(!its.toArray.isEmpty&&Builtin.List.listTooLong (its.toArray.size+dg.toArray.size))=Y:=by rw[LK hsz,Bool.and_false];exact ua
 refine call_meets F.slot_list_extend ⟨_,e,rfl⟩ F.entry_list_extend (F.args_list_extend_2 _ _) (AutoSeq1.list_extend_list_list_0 l its.toArray n b dg.toArray n2 hlong (by rw[u0];lia) (by lia)) ⟨e,e2,?_⟩;refine⟨.non,_,I.lset (its':=its++dg) hH e y9 (r.append r2) ?_,rfl,q⟩;rw[um];lia
def aHj:R2:=λx y H Q=>∃l b xs zs,x=.ref l/\y=.ref b/\H l=O (.lst xs)/\H b=O (.lst zs)/\xs.length+zs.length<=sizeLine/\∀p,H p=U->Q (.ref p) (upd H p (.lst (xs++zs)))
def aCf:az X (binaryOp .Add) aHj:=by
 intro pins s M H x y v u Q I rx ry h;obtain⟨l,b,xs,zs,rfl,rfl,hH,hB,hz,q⟩:=h;cases rx;cases ry;obtain⟨z,its,n,r,hl,e⟩:=I.lstM hH;obtain⟨z2,dg,n2,r2,my,e2⟩:=I.lstM hB;refine PySem.P.add_list e e2 ?_ (by rw[u0,u0];lia);have ea:its.toArray++dg.toArray=(its++dg).toArray:=by simp
 rw[ea];exact⟨.ref _,_,I.lnew (t':=s.toks) (r.append r2) (by rw[um];lia),rfl,q _ I.fresh⟩
end
end L2
namespace Att
open PySem PySem.W PySem.Calls PyProof.Rows
def nU{P:Params}{h:Heap}:∀(ns:List Int) (vs:List Value),WellAll P h vs (ns.map WData.int)->IntsAre vs ns:=by
 intro ns;induction ns with
 |nil=>intro vs w;rw[map_nil]at w;cases w;exact .nil
 |cons n ns z=>
  intro vs w;rw[uu]at w;cases w with
  |cons a b=>cases a;exact .cons _ _ (z _ b)
def GG{l:OpenLaw}{n:Nat}(hn:l.most=O n){P:Params}{h:Heap}{args:List WData}{vals:List Value} (dm:l.row.toRowW.claim.pre args=Y) (hwl:WellAll P h vals args):∃a vs ns,vals=[Value.ref a]/\args=[WData.list (ns.map WData.int)]/\h.get? a=O {cls:=.type "list",data:=.seq vs.toArray}/\IntsAre vs ns/\ns.length<=n:=by
 have hsh:WShape.hasAll [] args [.list .int]=Y:=(pre_splitW dm).1;have hc:l.pre.holds [] {args:=args}=Y:=(pre_splitW dm).2;obtain⟨d,r,rfl,h1,h2⟩:=hasAllW_cons hsh;obtain rfl:=hasAllW_nil h2;obtain⟨xs,rfl,h3⟩:=hasW_list h1;obtain⟨ns,rfl⟩:=items_int h3;have z:ns.length<=n:=by
  unfold OpenLaw.pre at hc;have h4:(WTm.not (.lt (.lit (.int (n:Int))) (.len (.arg 0)))).holds [] {args:=[.list (ns.map .int)]}=Y:=by have h4:=(holds_andW hc).1;rw[hn]at h4;exact h4
  have h5:=condW_of h4 (w_not (w_lt w_lit (w_len_list (w_arg rfl))));rw[t8]at h5;refine Nat.le_of_not_lt λq=>?_;have q':(n:Int)<((ns.length:Nat):Int):=by lia
  first
   | (rw[uv q']at h5;exact absurd h5 y8)
   | (simp at h5;lia)
 cases hwl with
 |cons w1 w2=>
  cases w2;cases w1 with
  |list ho I=>exact⟨_,_,ns,rfl,rfl,ho,nU ns _ I,z⟩
def GM(l:OpenLaw)(args:List WData):l.row.toRowW.claim.post args (.bool Y) args=Y:=postW_of (r:=l.row.toRowW) (X:=(Y == Y)) (show WShape.has [] (.bool Y) .bool=Y by first|rfl|decide|simp[WShape.has,WShape.arms,WShape.armsAll])
 (show (WTm.eq .res (.lit (.bool Y))).value [] {args:=args,res:=O (.bool Y),after:=args}=O (.bool (Y == Y)) from w_eq_bool (w_res rfl) w_lit) rfl
def zA{l:OpenLaw}{n:Nat}{q:wg}{loose:List Str}{XP:(wm)->Heap->Prop}{YP:World->Heap->Prop}{d:DefRec} (hn:l.most=O n) (qa:d.params.defaults=[]) (call:∀(w:World) (s₀ z:Shared) (mg mb:wm) (fa:Addr) (o:Obj) (pm cd doc:Value) (a:Addr) (vs:List Value) (ns:List Int),Ground q loose [] XP w s₀ mg mb z.heap->YP w z.heap ->z.heap.get? fa=O o->o.data=.func (docDef d.name d.params d.body d.scope pm cd doc)->z.heap.CodeRec cd d.name->mg d.name=O (.ref fa) ->z.heap.get? a=O {cls:=.type "list",data:=.seq vs.toArray}->IntsAre vs ns->ns.length<=n->z.gens=#[] ->codeAny (model l.prog w) callerA (.call (.ref fa) ⟨[.ref a],[]⟩) (λr s'=>r=.ok (.ret (.bool Y))/\OldK z.heap s'.heap/\s'.os=z.os/\AllBare s'.gens) z):WalkO q loose XP YP l.row.toRowW d [] (λf vs=>PySem.call f vs):=by intro w s₀ z mg mb G þ fa o pm cd doc dV kV ho hd gq hD iz hg args vals as dm hlay hrd hwl hlo;obtain rfl:dV=.none:=Dflts.none hD qa;obtain rfl:kV=.none:=Dflts.noKw hD;obtain⟨a,vs,ns,rfl,rfl,hobj,I,hlen⟩:=GG hn dm hwl;refine enter_call (codeAny_mono (call w s₀ z mg mb fa o pm cd doc a vs ns G þ ho (fd_plain hd) gq iz hobj I hlen hg) λr s' hq=>?_);obtain⟨rfl,h2,h3,h4⟩:=hq;exact⟨.inl ⟨.bool Y,.bool Y,[],rfl,λ_=>rfl,.bool Y,GM l _,λ_=>⟨List.Pairwise.nil,λ_ hm=>(nomatch hm)⟩⟩,h2,h3,h4⟩
end Att
namespace L2
open PySem PySem.Spec PyProof.Rows
variable {P:wg}{w:World}{a:Addr}{x:Str}{H H':Hp}{o:Option V}{u:Value}{y:V}{Q:wj}
theorem rL:∀{vs:List Value} {ns:List Int},IntsAre vs ns->aX (ns.map V.int) vs
 |_,_,.nil=>.nil
 |_,_,.cons n t h=>.cons ⟨t,rfl⟩ (rL h)
def aDN(H:Hp):Prop:=∀b,H b=U\/∃o xs,H b=O (.frz o (.lst xs))
def LY{K:wc}{mg mb:wm}{CX:ar}{k:Nat}{fa:Addr}{fd:we}{sp:Sp}{I:Shared}{vs:List Value}{ns:List Int} (KX:K.In I.heap) (gz:I.heap.Ns mainGlobals mg) (hb:I.heap.Ns builtinsNs mb) (hbb:∀x:Str,x≠"__name__"->mb x=bootBuiltins x) (hlim:I.heap.NoLimit) (hg:I.gens=#[]) (ha:I.heap.get? a=O {cls:=.type "list",data:=.seq vs.toArray}) (hi:IntsAre vs ns) (hl:ns.length<=sizeLine) (hr:Room k callerA) (F:∀base:Heap,K.In base->base.Ns mainGlobals mg->FnOk P w K mg base CX k fa fd [x] sp) (hbind:∀(s:Shared) (u:Value),BindsTo s fd ⟨[u],[]⟩ [(x,u)]) (bg:∀H:Hp,aDN H->SqL K H a (ns.map V.int)->sp [.ref a] H (λv _=>v=.bl Y) λ_ _ _=>False) (hCX:∀H e s',CX [] H I (λ_ _ _=>False) e s'->False):codeAny (model P w) callerA (.call (.ref fa) ⟨[.ref a],[]⟩) (λr s'=>r=.ok (.ret (.bool Y))/\OldK I.heap s'.heap/\s'.os=I.os/\AllBare s'.gens) I:=by
 have rv:=rL hi;have lenV:=hi.length;have core:∀H:Hp,aDN H->SqL K H a (ns.map V.int)->HOk P w H I.heap->(∀b,H b≠U->b=a)->(H a≠U->K.lookup a=U) ->codeAny (model P w) callerA (.call (.ref fa) ⟨[.ref a],[]⟩) (λr s'=>r=.ok (.ret (.bool Y))/\OldK I.heap s'.heap/\s'.os=I.os/\AllBare s'.gens) I:=by
  intro H hO hS hok hA hK;have gL:∀{b:Addr} {o:Obj},I.heap.get? b=O o->H b=U->(uV I.heap H).get? b=O o:=λe n=>MZ e n;have oz:∀{b:Addr} {o:Obj} {es:Array DictEntry} {ep:Nat},I.heap.get? b=O o->o.data=.dict es ep->H b=U:=λ{b o es ep} e d=>by
   cases q:H b with
   |none=>rfl
   |some u=>have e':b=a:=hA b (by rw[q];simp);subst e';rw[ha]at e;cases e;have d':Data.seq vs.toArray _=Data.dict es ep:=d;cases d'
  have nsK:∀{b:Addr} {m:wm},I.heap.Ns b m->(uV I.heap H).Ns b m:=λ{b m} ⟨o,es,ep,e,d,r⟩=>⟨o,es,ep,gL e (oz e d),d,r⟩;have hKb:K.In (uV I.heap H):=λb o e=>gL (KX b o e) (by
   cases q:H b with
   |none=>rfl
   |some u=>have e':b=a:=hA b (by rw[q];simp);subst e';rw[hK (by rw[q];simp)]at e;cases e)
  have hM:Mod K mg (uV I.heap H):=⟨hKb,nsK gz,⟨mb,nsK hb,hbb⟩,let ⟨mc,h1,h2⟩:=hlim;⟨mc,nsK h1,h2⟩⟩;have e0:Env0 P w K mg (uV I.heap H) callerA [] I H:=⟨rfl,hM,λb o e=>WY e,Nat.le_of_eq (HV _ _),trivial,λb hb=>absurd (show b∈([]:List Addr) from hb) y9,hok,.of_eq hg⟩;refine codeAny_mono ((F _ hKb (nsK gz)).run callerA [] I H ⟨[.ref a],[]⟩ [.ref a] [.ref a] _ _ hr e0 (hbind I (.ref a)) (.cons rfl .nil) (bg H hO hS)) λr s' h=>?_;cases r with
  |error e=>exact(hCX H e s' h).elim
  |ok fl=>
   cases fl with
   |next=>exact False.elim h
   |brk=>exact False.elim h
   |cont=>exact False.elim h
   |ret u=>
    obtain⟨v,H',os,bare,un,hok',r',q⟩:=h;have q':v=.bl Y:=q;subst q';obtain rfl:u=Value.bool Y:=r';refine⟨rfl,OldK.of_keep λb o e=>?_,os,bare⟩;cases q:H b with
    |none=>exact un.keep b o e q (by intro z;exact absurd (show b∈([]:List Addr) from z) y9) y9
    |some u=>rcases hO b with z|⟨ob,xs,z⟩;rw[q]at z;cases z;have z2:=un.frzs b ob _ z;obtain⟨e1,_⟩:=hok b _ z;obtain⟨e2,_⟩:=hok' b _ z2;rw[e]at e1;cases e1;exact e2
 cases hk:K.lookup a with
 |some o=>have e:=KX a o hk;rw[ha]at e;cases e;refine core (λ_=>U) (λ_=>.inl rfl) (.inr ⟨_,vs.toArray,_,hk,rfl,rfl,rfl,by rw[u0,lenV];exact hl,by simpa using rv⟩) (λb u z=>by have z':(U:Option HO)=O u:=z;cases z') (λb z=>absurd rfl z) λz=>absurd rfl z
 |none=>refine core (λb=>if b=a then O (.frz {cls:=.type "list",data:=.seq vs.toArray} (.lst (ns.map V.int))) else U) (λb=>?_) (.inl (.inr ⟨{cls:=.type "list",data:=.seq vs.toArray},if_pos rfl⟩)) (λb u z=>?_) (λb z=>?_) λ_=>hk;by_cases hb:b=a;exact .inr ⟨_,_,if_pos hb⟩;exact .inl (if_neg hb);by_cases hb:b=a;have z':=(if_pos hb).symm.trans z;cases z';subst hb;exact⟨ha,by rw[t8];exact hl,vs,_,rv,ha⟩;have z':=(if_neg hb).symm.trans z;cases z';by_cases hb:b=a;exact hb;exact absurd (if_neg hb) z
def SB{l:PySem.W.OpenLaw}{n k:Nat}{q:wg}{loose:List Str}{XP:(wm)->Heap->Prop}{YP:World->Heap->Prop}{d:DefRec}{K:Params->wc}{CX:World->ar}{sp:World->Sp} (hn:l.most=O n) (mq:n<=sizeLine) (qa:d.params.defaults=[]) (hr:Room k callerA) (hY:∀(w:World) (h:Heap),YP w h->(K w.params).In h) (F:∀(w:World) (mg:wm) (fa:Addr) (h:Heap),(K w.params).In h->h.Ns mainGlobals mg->mg d.name=O (.ref fa) ->∃fd:we,(∀(s:Shared) (u:Value),BindsTo s fd ⟨[u],[]⟩ [(x,u)]) /\∀base:Heap,(K w.params).In base->base.Ns mainGlobals mg->FnOk l.prog w (K w.params) mg base (CX w) k fa fd [x] (sp w)) (bg:∀(w:World) (H:Hp) (a:Addr) (ns:List Int),ns.length<=n->aDN H->SqL (K w.params) H a (ns.map V.int)->sp w [.ref a] H (λv _=>v=.bl Y) λ_ _ _=>False) (hCX:∀(w:World) (H:Hp) (s:Shared) (e:Value) (s':Shared),CX w [] H s (λ_ _ _=>False) e s'->False):PySem.W.WalkO q loose XP YP l.row.toRowW d [] (λf vs=>PySem.call f vs):=by refine Att.zA hn qa λw s₀ s₁ mg mb fa o pm cd doc a vs ns G þ ho hd gq iz hobj I z hg=>?_;have KX:=hY w _ þ;obtain⟨fd,hb,hF⟩:=F w mg fa _ KX G.T.g iz;exact LY KX G.T.g G.T.b G.T.builtins G.T.nolimit hg hobj I (ug z mq) hr hF hb (λH hO hS=>bg w H a ns z hO hS) λH e s'=>hCX w H s₁ e s'
noncomputable def inClass(s:Stmt)(j:Nat):Stmt:=match s with
 |.ClassDef _ _ _ body _ _ _ _ _ _ _=>body.getD j (.Pass ⟨0,0,0,0⟩)
 |_=>.Pass ⟨0,0,0,0⟩
noncomputable def dU(s:Stmt):Arguments:=match s with
 |.FunctionDef _ a _ _ _ _ _ _ _ _=>a
 |_=>{posonlyargs:=[],args:=[],vararg:=U,kwonlyargs:=[],kw_defaults:=[],kwarg:=U,defaults:=[]}
noncomputable def bD(s:Stmt):List Stmt:=match s with
 |.FunctionDef _ _ b _ _ _ _ _ _ _=>b
 |_=>[]
noncomputable def aF(s:Stmt):Scope:=match s with
 |.FunctionDef _ _ _ _ _ _ sc _ _ _=>sc
 |_=>{kind:=.function,names:=[],isGenerator:=J,isCoroutine:=J}
abbrev sh:ar:=λ_ _ _ _ _ _=>False
abbrev E0:XK:=λ_ _ _=>False
structure Fun (K:wc) (x qual:Str) (st:Stmt) (f:Addr) (fd:we):Prop where
 ex:∃(oc:Value) (od:Option Addr) (kV doc pm:Value) (an:Option Addr) (aT ct:Value) (kl:Array (Option Value)),
  fd=PySem.W.fnOf x qual (dU st) (bD st) (aF st) .none kV doc pm an aT ct/\K.lookup f=O ⟨oc,od,.func fd,kl⟩/\codeIn K aT qual=Y
 kp:keepIn K (.ref f)=Y
section
variable {P:wg}{w:World}{K:wc}{mg:wm}{base:Heap}
def Fun.binds{qual:Str}{st:Stmt}{f:Addr}{fd:we}{ps:List Str}(F:Fun K x qual st f fd) (h:∀(kV doc pm:Value) (an:Option Addr) (aT ct:Value) (us:List Value),us.length=ps.length->bindArgs (PySem.W.fnOf x qual (dU st) (bD st) (aF st) .none kV doc pm an aT ct) ⟨us,[]⟩=pure (ps.zip us)):Binds K fd ps []:=by obtain⟨oc,od,kV,doc,pm,an,aT,ct,kl,rfl,lk,z⟩:=F.ex;exact .all (h kV doc pm an aT ct)
end
def MX{A:Around}{k:Nat}(hr:Room k A):A.units+1<cLine:=lt_of_le_of_lt (Nat.add_le_add_left (by decide:1<=64) _) hr.units
def xP{A ρ:Prop}(h:ρ):if J=Y then A else ρ:=by rw[if_neg ua];exact h
def HN{A ρ:Prop}(h:A):if Y=Y then A else ρ:=by rw[if_pos rfl];exact h
def aJ(H H':Hp):Prop:=∀b o,H b=O o->H' b=O o
def aJ.refl(H:Hp):aJ H H:=λ_ _ h=>h
def aJ.trans{H1 H2:Hp}(a:aJ H H1)(b:aJ H1 H2):aJ H H2:=λc o h=>b c o (a c o h)
def aJ.free(e:aJ H H'){l:Addr}(h:H' l=Option.none):H l=Option.none:=by
 cases q:H l with
 |none=>rfl
 |some o=>rw[e l o q]at h;cases h
def aJ.seq{K:wc}{xs:List V}(e:aJ H H')(h:SqL K H a xs):SqL K H' a xs:=by rcases h with (h|⟨o,h⟩)|h;exact .inl (.inl (e _ _ h));exact .inl (.inr ⟨o,e _ _ h⟩);exact .inr h
section
variable {κ:Type}[DecidableEq κ]
noncomputable def gE(kvs:List (κ×V))(k:κ):Option V:=(kvs.find? λz=>decide (z.1=k)).map (·.2)
noncomputable def putK(kvs:List (κ×V))(k:κ)(v:V):List (κ×V):=
 if (kvs.any λz=>decide (z.1=k))=Y then kvs.map (λz=>if z.1=k then(z.1,v) else z) else kvs++[(k,v)]
def gT{p:κ×V}{r:List (κ×V)}{k:κ}(e:p.1=k):gE (p::r) k=O p.2:=by simp[gE,find?_cons,e]
def gU{p:κ×V}{r:List (κ×V)}{k:κ}(e:¬p.1=k):gE (p::r) k=gE r k:=by simp[gE,find?_cons,e]
theorem vZ(k:κ):∀kvs:List (κ×V),(kvs.any λz=>decide (z.1=k))=(gE kvs k).isSome
 |[]=>rfl
 |p::r=>by rw[any_cons];by_cases e:p.1=k;simp only[gT e,uv e,Bool.true_or,Option.isSome_some];rw[gU e,tj e,Bool.false_or];exact vZ k r
def nL(kvs:List (κ×V))(k:κ)(v:V):(putK kvs k v).length<=kvs.length+1:=by unfold putK;split;rw[t8];lia;rw[um,vm,length_nil];lia
def JZ{kvs:List (κ×V)}{k:κ}(v:V)(h:gE kvs k=U):putK kvs k v=kvs++[(k,v)]:=by unfold putK;rw[vZ,h];exact if_neg y8
def iX.isSome_eq{u:Option Value}(r:iX o u):o.isSome=u.isSome:=by
 cases o with
 |none=>cases u with
  |none=>rfl
  |some _=>exact(show False from r).elim
 |some _=>cases u with
  |none=>exact(show False from r).elim
  |some _=>rfl
theorem iX.getD{u:Option Value}{d:V}{d':Value}(r:iX o u)(z:RelV d d'):RelV (o.getD d) (u.getD d'):=by
 cases o with
 |none=>cases u with
  |none=>exact z
  |some _=>exact(show False from r).elim
 |some _=>cases u with
  |none=>exact(show False from r).elim
  |some _=>exact r
def KV.val{kvs:List (κ×V)}{vs:List (κ×Value)}(r:KV kvs vs)(k:κ):iX (gE kvs k) (valueAt vs k):=by
 unfold KV at r;induction r with
 |nil=>exact True.intro
 | @cons p q ps I h t ih=>
  obtain⟨h1,h2⟩:=h;by_cases e:p.1=k;have e':q.1=k:=h1.symm.trans e;have b:valueAt (q::I) k=O q.2:=by simp[valueAt,find?_cons,e']
  rw[gT e,b];exact h2;have e':¬q.1=k:=λz=>e (h1.trans z);have b:valueAt (q::I) k=valueAt I k:=by simp[valueAt,find?_cons,e']
  rw[gU e,b];exact ih
theorem KV.any{kvs:List (κ×V)}{vs:List (κ×Value)}(r:KV kvs vs)(k:κ):(kvs.any λz=>decide (z.1=k))=vs.any λz=>decide (z.1=k):=by
 unfold KV at r;induction r with
 |nil=>rfl
 |cons h t I=>rw[any_cons,any_cons,I,h.1]
def KV.repl{kvs:List (κ×V)}{vs:List (κ×Value)}(r:KV kvs vs)(k:κ)(ry:RelV y u):KV (kvs.map λI=>if I.1=k then(I.1,y) else I) (vs.map λI=>if I.1=k then(I.1,u) else I):=by
 unfold KV at r ⊢;induction r with
 |nil=>exact .nil
 | @cons p q ps qs h t ih=>rw[uu,uu];refine .cons ?_ ih;obtain⟨h1,h2⟩:=h;by_cases e:p.1=k;rw[if_pos e,if_pos (h1.symm.trans e)];exact⟨h1,ry⟩;rw[if_neg e,if_neg (λz=>e (h1.trans z))];exact⟨h1,h2⟩
def KV.put{kvs:List (κ×V)}{vs:List (κ×Value)}(r:KV kvs vs)(k:κ)(z:RelV y u):KV (putK kvs k y) (stored vs k u):=by unfold putK stored;rw[r.any k];by_cases e:(vs.any λI=>decide (I.1=k))=Y;rw[if_pos e,if_pos e];exact r.repl k z;rw[if_neg e,if_neg e];exact Paired.snoc r ⟨rfl,z⟩
theorem KV.length{kvs:List (κ×V)}{vs:List (κ×Value)}(r:KV kvs vs):kvs.length=vs.length:=Paired.length r
end
def DQ{k:Key}(r:RelV (kV k) u):(bV P w).is k u=Y:=by
 cases k with
 |inl i=>obtain⟨t,e⟩:=(show ∃t,u=Value.int i t from r);subst e;exact xJ P w i t
 |inr x=>obtain⟨t,e⟩:=(show ∃t,u=Value.str x t from r);subst e;exact eA P w x t
section
variable {P:wg}{w:World}{H:Hp}{h:Heap}{a:Addr}
def aEO{u:HO}(ok:HOk P w H h)(e:Rd H a u):cP P w H h a u:=e.ok ok
def yN{kvs:List (Key×V)}(ok:HOk P w H h)(e:Rd H a (.dK kvs)):kvs.length<=sizeLine/\(a == sysModules)=J/\∃vs,KV kvs vs/\h.DictOf (bV P w) a vs:=
 show cP P w H h a (.dK kvs) from aEO ok e
def qG{kvs:List (Key×V)}(ok:HOk P w H h)(e:H a=O (.dK kvs)):kvs.length<=sizeLine/\(a == sysModules)=J/\∃vs,KV kvs vs/\h.DictOf (bV P w) a vs:=yN ok (.inl e)
end
def vY(H:Hp)(a:Addr)(y:V)(r:Option V):Prop:=∃kvs k,Rd H a (.dK kvs)/\y=kV k/\r=gE kvs k
def RY(H:Hp)(a:Addr)(y v:V)(H':Hp):Prop:=∃kvs k,H a=O (.dK kvs)/\y=kV k/\kvs.length<sizeLine/\H'=upd H a (.dK (putK kvs k v))
theorem vY.k{H:Hp}{a:Addr}{kvs:List (Key×V)}{k:Key}(e:H a=O (.dK kvs)):vY H a (kV k) (gE kvs k):=⟨kvs,k,.inl e,rfl,rfl⟩
theorem RY.k{H:Hp}{a:Addr}{kvs:List (Key×V)}{k:Key}{v:V}(e:H a=O (.dK kvs))(hl:kvs.length<sizeLine):RY H a (kV k) v (upd H a (.dK (putK kvs k v))):=⟨kvs,k,e,rfl,hl,rfl⟩
section
variable {X:Cx}{pins:wk}{M:St}{H:Hp}{s:Shared}{a:Addr}{y v:V}{u r:Value}{o:Option V}{A:Around}{E:wj}
def Inv.big(I:Inv X pins M H s):sysModules<s.heap.objs.size:=by have h:mainGlobals<s.heap.objs.size:=(I.mod.glob.keeps I.bk).lt;exact Nat.lt_trans y8 h
def IL(hu:A.units+1<cLine)(I:Inv X pins M H s)(g:vY H a y (O v))(ry:RelV y u)(h:∀w' s',Inv X pins M H s'->RelV v w'->Q w' s'):wpAny (model X.prog X.w) A (getItem (.ref a) u) Q E s:=by obtain⟨kvs,k,e,ey,l⟩:=g;subst ey;obtain⟨z,hd,vs,rel,dd⟩:=yN I.hok e;obtain⟨w',hw,cW⟩:=iX.some_of (v:=v) (o:=valueAt vs k) (by rw[l];exact rel.val k);exact wpAny_getItem_of (DQ ry) dd.mapOf hw (h w' _ (I.tok _) cW)
def aHD(hu:A.units+1<cLine)(I:Inv X pins M H s)(g:vY H a y o)(ry:RelV y u)(h:∀s',Inv X pins M H s'->Q (.bool o.isSome) s'):wpAny (model X.prog X.w) A (compareOp .In u (.ref a)) Q E s:=by obtain⟨kvs,k,e,ey,l⟩:=g;subst ey;obtain⟨z,hd,vs,rel,dd⟩:=yN I.hok e;refine wpAny_in_of (DQ ry) hd dd.mapOf ?_;rw[<-(rel.val k).isSome_eq,<-l];exact h _ (I.tok _)
def FC{h':Heap}{t':Nat}{ob:HO}(I:Inv X pins M H s)(mu:rn (H a))(hs:Heap.SameBut a s.heap h')(he:∃q,h'.get? a=O q)(new:cP X.prog X.w (upd H a ob) h' a ob):Inv X pins M (upd H a ob) {s with heap:=h',toks:=t' }:=I.write (x:=a) (e:=a) mu (.inl rfl) (λb q hb z=>(hs.2 b hb).trans z) he new
def QP{h':Heap}{kvs:List (Key×V)}{vs:List (Key×Value)}(z:kvs.length<=sizeLine)(hd:(a == sysModules)=J)(rel:KV kvs vs)(dd:h'.DictOf (bV P w) a vs):cP P w H' h' a (.dK kvs):=⟨z,hd,vs,rel,dd⟩
def IK{Q:Unit->Shared->Prop}(hu:A.units+1<cLine)(I:Inv X pins M H s)(g:RY H a y v H')(ry:RelV y u)(rv:RelV v r)(h:∀s',Inv X pins M H' s'->Q () s'):wpAny (model X.prog X.w) A (setItem (.ref a) u r) Q E s:=by
 obtain⟨kvs,k,e,ey,l,eH⟩:=g;subst ey eH;obtain⟨z,hd,vs,rel,dd⟩:=qG I.hok e;have hz:vs.length<=sizeLine:=by rw[<-rel.length];exact z
 have hl:(putK kvs k v).length<=sizeLine:=by have:=nL kvs k v;lia
 refine wpAny_setItem_pairs (hsz:=hz) (DQ ry) dd λh' l0 hs=>h _ ?_;have he:∃q,h'.get? a=O q:=let ⟨q,_,_,hq,_⟩:=l0;⟨q,hq⟩
 exact FC I (by rw[e];exact True.intro) hs he (QP hl hd (rel.put k rv) l0)
end
section
variable {X:Cx}{pins:wk}{M:St}{H:Hp}{s:Shared}{a:Addr}{kvs:List (Key×V)}{k:Key}{u:Value}{A:Around}{E:wj}
def aGs(I:Inv X pins M H s)(e:Rd H a (.dK kvs))(h:∀t s',Inv X pins M H s'->Q (.int kvs.length t) s'):wpAny (model X.prog X.w) A (call (.builtin "len") [.ref a]) Q E s:=by obtain⟨z,hd,vs,rel,dd⟩:=yN I.hok e;refine call_len_dict hd dd (by rw[<-rel.length];rw[sizeLine_eq]at z;lia) ?_;rw[<-rel.length];exact h _ _ (I.tok _)
end
def aDP(i:Expr):Prop:=∀z I,subscripted i J z I=operate [z,I] (getItem z I)
def CP{prog:wg}{A:Around}{E:wj}{s:Shared}{env:Env}{value z:Expr}{pos:Pos}{T id:String} (hl:typeLookup (.type T) "__getitem__"=pure (O (.builtin id))) (hs:aDP z) (h:wpAny (model prog w) A (eval value env) (λo s₁=>wpAny (model prog w) A (eval z env) (λi I=>I.TypeIs o T/\wpAny (model prog w) A (getItem o i) Q E I) E s₁) E s):wpAny (model prog w) A (eval (.Subscript value z pos) env) Q E s:=by
 refine Subscript_ (vd h (λo s₁ h₁=>vd h₁ (λi I h₂=>?_) λ_ _ x=>x) λ_ _ x=>x);obtain⟨hT,h₂⟩:=h₂;unfold subscriptTail;refine vb ?_;rw[getitemInPython_of_ne hT.not_modules];refine vb (wpAny_specialOf hT hl ?_);have fin:wpAny (model prog w) A (subscripted z J o i) (λr s₃=>wpAny (model prog w) A (letTemporaryGo value o r >>= λ_=>pure r) Q E s₃) E I:=by rw[hs o i];exact wpAny_operating (vd h₂ (λr s₃ h₃=>vb (wpAny_letTemporaryGo (vc h₃))) λ_ _ x=>x)
 first
  |exact vc (vb fin)
  |exact vb (vc (vb fin))
  |exact vb fin
def yO{X:Cx}{pins:wk}{M:St}{s:Shared}(I:Inv X pins M H s)(g:vY H a y o):s.TypeIs (.ref a) "dict":=by obtain⟨kvs,k,e,_,_⟩:=g;obtain⟨_,_,vs,_,dd⟩:=yN I.hok e;exact dd.typeIs
def aEx(td ty:TE):TE:=λM H Q=>td M H λx H1=>ty M H1 λy H2=>∃a v,x=.ref a/\vY H2 a y (O v)/\Q v H2
def aEL(td ty tv:TE):TS:=λD M H=>tv M H λv H1=>td M H1 λx H2=>ty M H2 λy I=>∃a z,x=.ref a/\RY I a y v z/\D.nx M z
section
variable {X:Cx}{o i e value:Expr}{pos pos' tpos:Pos}{td ty tv:TE}
def DH(hu:X.A.units+1<cLine)(ho:PE X o td)(hi:PE X i ty)(hs:aDP i):PE X (.Subscript o i pos) (aEx td ty):=by intro pins s M H Q I h;refine CP PySem.F.slot_dict_getitem.lookup hs (ah (ho pins s M H _ I h) λu s1 ⟨x,H1,I1,rx,q1⟩=>ah (hi pins s1 M H1 _ I1 q1) λiv s2 ⟨y,H2,I2,z,a,v,ex,g,q2⟩=>?_);subst ex;obtain rfl:u=Value.ref a:=rx;exact⟨yO I2 g,IL hu I2 g z λw' s3 I3 cW=>⟨v,H2,I3,cW,q2⟩⟩
def VO(hu:X.A.units+1<cLine)(ho:PE X o td)(hi:PE X i ty)(hv:PE X value tv)(hs:swapsWith value (O (.Subscript o i pos')) pos.line X.env=pure J):PS X (.Assign [.Subscript o i pos'] value pos) (aEL td ty tv):=by intro pins s M H D I h;refine wpAny_Assign_Subscript (ah (hv pins s M H _ I h) λr s1 ⟨v,H1,I1,rv,q1⟩=>ah (ho pins s1 M H1 _ I1 q1) λu s2 ⟨x,H2,I2,rx,q2⟩=>ah (hi pins s2 M H2 _ I2 q2) λiv s3 ⟨y,H3,I3,z,a,H4,ex,g,q3⟩=>?_) hs;subst ex;obtain rfl:u=Value.ref a:=rx;exact IK hu I3 g z rv λs4 I4=>⟨M,H4,I4,q3⟩
end
def QQ(h:Heap)(hb:sysModules<h.objs.size):cP P w H (h.push {cls:=.type "dict",data:=.dict #[]}) h.objs.size (.dK []):=⟨vz _,uz.mpr (Ne.symm (v3 hb)),[],.nil,Heap.DictOf.new h⟩
def aAR:TE:=λ_ H Q=>∀p,H p=U->Q (.ref p) (upd H p (.dK []))
section
variable {X:Cx}{pos:Pos}
def KM:PE X (.Dict [] [] pos) aAR:=λpins s M H Q I h=>wpAny_Dict_empty ⟨.ref s.heap.objs.size,_,I.laid (a:=s.heap.objs.size) (o:=.dK []) (t':=s.toks) (λ_ _ q=>tm _ q) (t9 _) (QQ s.heap I.big),rfl,h _ (I.hok.fresh (t9 _))⟩
end
structure M1 (X:Cx) (o:Expr) (m:Str) (apos:Pos) (e:Expr) (br:Pos):Prop where
 base:attributeBase o m X.env (eval o X.env)=eval o X.env
 few:((backTo br (starEach [e] X.env)).all (λx=>!x.1)&&(backToKw br (keywordEach [] X.env)).all (λx=>x.1.isSome)
  && decide (([e]:List Expr).length+([]:List Keyword).length+(if ([]:List Keyword).isEmpty then 0 else 1)<30))=Y
 line:(apos.endLine == br.line)=Y
 trees:backTo br (starEach [e] X.env)=[(J,eval e X.env)]
structure M2 (X:Cx) (o:Expr) (m:Str) (apos:Pos) (e f:Expr) (br:Pos):Prop where
 base:attributeBase o m X.env (eval o X.env)=eval o X.env
 few:((backTo br (starEach [e,f] X.env)).all (λx=>!x.1)&&(backToKw br (keywordEach [] X.env)).all (λx=>x.1.isSome)
  && decide (([e,f]:List Expr).length+([]:List Keyword).length+(if ([]:List Keyword).isEmpty then 0 else 1)<30))=Y
 line:(apos.endLine == br.line)=Y
 trees:backTo br (starEach [e,f] X.env)=[(J,eval e X.env),(J,eval f X.env)]
end L2
namespace Att
open PySem PySem.W PySem.Calls PyProof.Rows
end Att
namespace L2
open PySem PySem.Spec PyProof.Rows
section
variable {X:Cx}
def IR:dE X (.builtin "len") (λxs H Q=>∃a kvs,xs=[V.ref a]/\H a=O (.dK kvs)/\Q (.int kvs.length) H):=by intro pins s M H xs us Q I r h;obtain⟨a,kvs,rfl,ha,q⟩:=h;obtain⟨u,rfl,ru⟩:=vals1 r;cases ru;exact aGs I (.inl ha) λt s' z=>⟨.int kvs.length,H,z,⟨t,rfl⟩,q⟩
end
end L2
namespace Toy
open PySem L2
open PySem.W (fnOf)
noncomputable def top(i:Nat):Stmt:=PySem.Challenge.pw_leaffold_k16_whole_book.main.body.getD i (.Pass ⟨0,0,0,0⟩)
def dF(n q:Str)(s:Stmt)(m:Str)(t c:Nat):we:=fnOf n q (L2.dU s) (L2.bD s) (L2.aF s) .none .none .none (.str m t) U (.ref c) .none
def gi(n:Str)(i c:Nat):we:=dF n n (top i) "law_leaffold_k16_whole_book" 698 c
def ka(n:Str)(i c:Nat):we:=dF n n (top i) "leaffold.books" 568 c
def l4(n:Str)(i c:Nat):we:=dF n n (top i) "leaffold.joints" 500 c
def gw(n:Str)(i c:Nat):we:=dF n n (top i) "leaffold.piles" 335 c
def qw(n:Str)(i c:Nat):we:=dF n n (top i) "leaffold.words" 651 c
noncomputable def oF(f:we):Obj:=⟨.type "function",U,.func f,#[]⟩
noncomputable def oC(x:Array Value):Obj:=⟨.type "code",U,.fields x,#[]⟩
noncomputable def en(P:Params)(x:Str)(t:Nat)(v:Value):DictEntry:=⟨PyData.keyHash P x,.str x t,v⟩
noncomputable def j(i:Int):Value:=.int i 0
noncomputable def l(a:Nat):Value:=.ref a
noncomputable def cF(t:Nat):Value:=.str "/claim/cut.py" t
def BP:we:=dF "__init__" "Pile.__init__" (L2.inClass (top 15) 0) "leaffold.piles" 335 139
def vA:we:=dF "heap" "Pile.heap" (L2.inClass (top 15) 1) "leaffold.piles" 335 146
def vB:we:=dF "done" "Pile.done" (L2.inClass (top 15) 2) "leaffold.piles" 335 153
def NM:we:=gw "laid" 16 165
def NW:we:=gw yk 17 170
def NT:we:=gw yt 18 177
def aAo:we:=gw wt 19 184
def OD:we:=gw x8 20 191
def aAi:we:=gw xh 21 196
def OI:we:=gw xw 22 201
def OA:we:=gw yf 23 206
def aAh:we:=gw xb 24 213
def ON:we:=gw xo 25 218
def OQ:we:=gw xq 26 223
def aAn:we:=gw wz 27 228
def NV:we:=gw yp 28 235
def NU:we:=l4 yr 30 240
def OK:we:=l4 ya 31 247
def OJ:we:=l4 xx 32 254
def OL:we:=l4 yd 33 261
def NJ:we:=l4 "cut" 34 266
def NS:we:=l4 yu 35 273
def aAm:we:=l4 wx 36 278
def NR:we:=ka "pages" 39 288
def NK:we:=ka "plan" 40 293
def aAp:we:=ka wq 41 300
def aAk:we:=ka wy 42 307
def NL:we:=ka "held" 43 312
def aAq:we:=ka wo 44 319
def NP:we:=ka yv 45 324
def NN:we:=ka "sewn" 46 331
def NQ:we:=qw "shown" 51 337
def OH:we:=qw x6 52 344
def NO:we:=qw "read" 53 349
def OC:we:=qw yg 54 356
def OR:we:=qw xi 55 361
def aAj:we:=gi xg 57 368
def OM:we:=gi x9 58 375
def aAl:we:=gi xa 59 382
def OS:we:=gi xf 60 389
def NZ:we:=gi yj 61 396
def OO:we:=gi xp 62 401
def NY:we:=gi yi 63 408
def OP:we:=gi xr 64 415
def OB:we:=gi ye 65 422
def OE:we:=gi x5 66 429
def NX:we:=gi yh 67 436
def OF:we:=gi xu 68 441
def OG:we:=gi xv 69 448
def BO:we:=gi "law" 70 455
def oA(c:Nat)(x q:Str)(t n a k:Nat):Obj:=oC #[.str x t,.str q (t+1),cF (t+2),j n,j a,j 0,j 0,j 3,l (c-5),.bool Y,j 181,l (c-4),.none,l (c-3),l (c-2),l (c-1),j k,j n,cF (k+1)]
def oB(c:Nat)(x q:Str)(t n a k:Nat):Obj:=oC #[.str x t,.str q (t+1),cF (t+2),j n,j a,j 0,j 0,j 3,l (c-3),.bool Y,j 181,l (c-2),.none,.none,.none,l (c-1),j k,j n,cF (k+1)]
def pA(f:we)(x:Str)(c t n a k:Nat):wc:=[(c,oA c x x t n a k),(c+1,oF f)]
def pB(f:we)(x:Str)(c t n a k:Nat):wc:=[(c,oB c x x t n a k),(c+1,oF f)]
def KK(P:Params):wc:=List.flatten [[(3,⟨(.type "dict"),U,(.dict #[en P "__name__" 165 (.str "law_leaffold_k16_whole_book" 698),en P "__doc__" 166 .none,en P "__package__" 167 .none,en P "__loader__" 168 (.builtin "__main__.__loader__#opaque"),en P "__spec__" 169 .none,en P "__annotations__" 170 (.ref 6),en P "__builtins__" 171 (.ref 4),en P "__file__" 173 (cF 172),en P "__cached__" 174 .none,en P "LeafError" 206 (.ref 24),en P "NoSheet" 222 (.ref 37),en P "NoFold" 238 (.ref 49),en P "NoPlace" 254 (.ref 61),en P "Ajar" 270 (.ref 73),en P "Severed" 286 (.ref 85),en P "Bolted" 302 (.ref 97),en P "Loose" 318 (.ref 109),en P "NoWord" 334 (.ref 121),en P yc 338 (.int 64 337),en P wu 341 (.ref 124),en P xt 344 (.ref 125),en P yb 347 (.ref 126),en P "Pile" 402 (.ref 157),en P "laid" 408 (.ref 166),en P yk 414 (.ref 171),en P yt 426 (.ref 178),en P wt 433 (.ref 185),en P x8 442 (.ref 192),en P xh 448 (.ref 197),en P xw 454 (.ref 202),en P yf 460 (.ref 207),en P xb 473 (.ref 214),en P xo 479 (.ref 219),en P xq 485 (.ref 224),en P wz 491 (.ref 229),en P yp 499 (.ref 236),en P yr 507 (.ref 241),en P ya 519 (.ref 248),en P xx 530 (.ref 255),en P yd 543 (.ref 262),en P "cut" 549 (.ref 267),en P yu 561 (.ref 274),en P wx 567 (.ref 279),en P xj 582 (.ref 280),en P "pages" 588 (.ref 289),en P "plan" 594 (.ref 294),en P wq 602 (.ref 301),en P wy 616 (.ref 308),en P "held" 622 (.ref 313),en P wo 635 (.ref 320),en P yv 641 (.ref 325),en P "sewn" 650 (.ref 332),en P "WAYS" 657 (.ref 333),en P "FIGURES" 659 (.str "0123456789" 658),en P "MOST_FIGURES" 661 (.int 9 660),en P "shown" 667 (.ref 338),en P x6 677 (.ref 345),en P "read" 683 (.ref 350),en P yg 691 (.ref 357),en P xi 697 (.ref 362),en P xg 707 (.ref 369),en P x9 714 (.ref 376),en P xa 723 (.ref 383),en P xf 735 (.ref 390),en P yj 748 (.ref 397),en P xp 754 (.ref 402),en P yi 764 (.ref 409),en P xr 773 (.ref 416),en P ye 792 (.ref 423),en P x5 805 (.ref 430),en P yh 815 (.ref 437),en P xu 821 (.ref 442),en P xv 830 (.ref 449),en P "law" 848 (.ref 456)] 74),#[]⟩),(23,⟨(.type "dict"),U,(.dict #[en P "__module__" 196 (.str "leaffold.errors" 187),en P "__firstlineno__" 200 (.int 2 199),en P "__static_attributes__" 201 (.ref 22),en P "__weakref__" 203 (.ref 25),en P "__doc__" 204 .none] 3),#[]⟩),(24,⟨(.type "type"),U,(.cls ⟨"LeafError",[(.type "ValueError")],[(.ref 24),(.type "ValueError"),(.type "Exception"),(.type "BaseException"),(.type "object")],23,"LeafError",Y,[],[(.ref 37),(.ref 49),(.ref 61),(.ref 73),(.ref 85),(.ref 97),(.ref 109),(.ref 121)],J,U,J⟩),#[(O (.ref 15)),U,(O (.str "LeafError" 189)),(O (.str "LeafError" 197)),(O (.builtin "ValueError.__new__")),(O (.bool Y))]⟩),(108,⟨(.type "dict"),U,(.dict #[en P "__module__" 310 (.str "leaffold.errors" 187),en P "__firstlineno__" 314 (.int 16 313),en P "__static_attributes__" 315 (.ref 107),en P "__doc__" 316 .none] 2),#[]⟩),(109,⟨(.type "type"),U,(.cls ⟨"Loose",[(.ref 24)],[(.ref 109),(.ref 24),(.type "ValueError"),(.type "Exception"),(.type "BaseException"),(.type "object")],108,"Loose",Y,[],[],J,U,J⟩),#[(O (.ref 100)),U,(O (.str "Loose" 303)),(O (.str "Loose" 311)),(O (.builtin "ValueError.__new__")),(O (.bool Y))]⟩),(124,⟨(.type "tuple"),U,(.seq #[(.str "west" 339),(.str "east" 340)] 0),#[]⟩),(125,⟨(.type "tuple"),U,(.seq #[(.str "north" 342),(.str "south" 343)] 0),#[]⟩),(126,⟨(.type "tuple"),U,(.seq #[(.str "west" 345),(.str "north" 346)] 0),#[]⟩),(139,oA 139 "__init__" "Pile.__init__" 360 27 6 369),(140,oF BP),(146,oA 146 "heap" "Pile.heap" 372 36 3 378),(147,oF vA),(153,oA 153 "done" "Pile.done" 381 41 1 385),(154,oF vB),(156,⟨(.type "dict"),U,(.dict #[en P "__module__" 355 (.str "leaffold.piles" 335),en P "__firstlineno__" 359 (.int 25 358),en P "__init__" 371 (.ref 140),en P "heap" 380 (.ref 147),en P "done" 387 (.ref 154),en P "__static_attributes__" 395 (.ref 155),en P "__dict__" 397 (.ref 158),en P "__weakref__" 399 (.ref 159),en P "__doc__" 400 .none] 4),#[]⟩),(157,⟨(.type "type"),U,(.cls ⟨"Pile",[(.type "object")],[(.ref 157),(.type "object")],156,"Pile",Y,[],[],J,U,J⟩),#[U,U,(O (.str "Pile" 348)),(O (.str "Pile" 356)),(O (.builtin "object.__new__")),(O (.bool Y))]⟩)],pB NM "laid" 165 403 43 2 406,pB NW yk 170 409 48 2 412,pA NT yt 177 415 50 4 424,pA aAo wt 184 427 57 1 431,pA OD x8 191 434 60 3 440,pB aAi xh 196 443 66 4 446,pB OI xw 201 449 71 1 452,pB OA yf 206 455 73 2 458,pA aAh xb 213 461 75 4 471,pB ON xo 218 474 82 2 477,pB OQ xq 223 480 84 2 483,pB aAn wz 228 486 88 3 489,pA NV yp 235 492 93 2 497,pB NU yr 240 502 96 1 505,pA OK ya 247 508 98 1 517,pA OJ xx 254 520 104 2 528,pA OL yd 261 531 113 1 541,pB NJ "cut" 266 544 120 3 547,pA NS yu 273 550 126 1 559,pB aAm wx 278 562 134 3 565,[(280,⟨(.type "dict"),U,(.dict #[en P "west" 570 (.ref 281),en P "east" 572 (.ref 282),en P "north" 574 (.ref 283),en P "south" 576 (.ref 284)] 4),#[]⟩),(281,⟨(.type "tuple"),U,(.seq #[(.bool J),(.int 0 571)] 0),#[]⟩),(282,⟨(.type "tuple"),U,(.seq #[(.bool J),(.int 1 573)] 0),#[]⟩),(283,⟨(.type "tuple"),U,(.seq #[(.bool Y),(.int 0 575)] 0),#[]⟩),(284,⟨(.type "tuple"),U,(.seq #[(.bool Y),(.int 1 577)] 0),#[]⟩)],pB NR "pages" 288 583 140 3 586,pB NK "plan" 293 589 143 2 592,pA aAp wq 300 595 149 2 600,pA aAk wy 307 603 154 2 614,pB NL "held" 312 617 162 2 620,pA aAq wo 319 623 173 2 633,pB NP yv 324 636 180 2 639,pA NN "sewn" 331 642 183 3 648,[(333,⟨(.type "dict"),U,(.dict #[en P "over" 653 (.bool Y),en P "under" 654 (.bool J)] 2),#[]⟩)],pB NQ "shown" 337 662 193 1 665,pA OH x6 344 668 195 3 675,pB NO "read" 349 678 198 1 681,pA OC yg 356 684 202 1 689,pB OR xi 361 692 207 1 695,pA aAj xg 368 700 214 2 705,pA OM x9 375 708 218 1 712,pA aAl xa 382 715 220 1 721,pA OS xf 389 724 232 3 733,pA NZ yj 396 736 237 3 746,pB OO xp 401 749 245 2 752,pA NY yi 408 755 259 2 762,pA OP xr 415 765 267 2 771,pA OB ye 422 774 272 4 790,pA OE x5 429 793 283 3 803,pA NX yh 436 806 288 2 813,pB OF xu 441 816 298 2 819,pA OG xv 448 822 304 3 828,pA BO "law" 455 831 310 1 846]
noncomputable def aas:List Addr:=[3,23,24,108,109,124,125,126,139,140,146,147,153,154,156,157,165,166,170,171,177,178,184,185,191,192,196,197,201,202,206,207,213,214,218,219,223,224,228,229,235,236,240,241,247,248,254,255,261,262,266,267,273,274,278,279,280,281,282,283,284,288,289,293,294,300,301,307,308,312,313,319,320,324,325,331,332,333,337,338,344,345,349,350,356,357,361,362,368,369,375,376,382,383,389,390,396,397,401,402,408,409,415,416,422,423,429,430,436,437,441,442,448,449,455,456]
def aGc:∀P,aas=(KK P).map (·.1):=λ_=>by kernel_rfl
abbrev lw:PySem.W.OpenLaw:=PySem.Challenge.rw_leaffold_k16_whole_book
abbrev HH:PySem.W.Hook:=PySem.W.kHook KK aas aGc
open PySem.W PyProof.Rows
noncomputable def vw:wg:=view lw.prog [1,2,3,4,5,6,7,8,9,11,12,13,14,15,16,17,18,19,20,21,22,23,24,25,26,27,28,30,31,32,33,34,35,36,38,39,40,41,42,43,44,45,46,48,49,50,51,52,53,54,55,57,58,59,60,61,62,63,64,65,66,67,68,69,70]
abbrev Xt(s:Shared):Bool:=xlAt vw [] s&&recOk (RowW.records (OpenRow.toRowW (OpenLaw.row lw))) s
set_option maxHeartbeats 0 in
def uH{p q:wg}{loose:List Str}{Xt:Shared->Bool}{R:Type}{Yf:Shared->R}{Ya:World->R}{N:Nat}{g0:Bool}(z:∀w:World,(fencedOpening treeTable p w N).map (λs=>(s.heap,s.gens,s.drawn,s.toks))=O (boot_heap w.params,Array.mk [],boot_drawn,boot_toks)) (h:∀(w:World) (os:OsState),(topFrom treeTable p w N ⟨boot_heap w.params,Array.mk [],boot_drawn,boot_toks,os⟩).map (λs=>(openSeen q loose (importedModules p.main.body) Xt g0 s,Yf s))=O (openGood q loose,Ya w)):LeftO p q loose Xt Yf Ya N g0:=λw=>by
 obtain⟨⟨hp,gs,d,k,os⟩,e,e'⟩:=u5.mp (z w);obtain⟨rfl,rfl,rfl,rfl⟩:hp=boot_heap w.params/\gs=Array.mk []/\d=boot_drawn/\k=boot_toks:=by simpa using e'
 unfold openEnds;rw[e];exact h w os
def two{R β z:Type}{x:Option R}{f:R->β}{g:R->z}{b:β}{c:z}(h1:x.map f=O b)(h2:x.map g=O c):x.map (λs=>(f s,g s))=O (b,c):=by
 cases x with
 |none=>cases h1
 |some s=>cases h1;cases h2;rfl
noncomputable abbrev tF(w:World)(os:OsState)(b:Bool):Option Shared:=topFrom treeTable lw.prog (w.withFollow "special-get-raises" b) 7784 ⟨boot_heap (w.withFollow "special-get-raises" b).params,Array.mk [],boot_drawn,boot_toks,os⟩
abbrev sF(s:Shared):=openSeen vw ([xj,"WAYS"]:List Str) (importedModules lw.prog.main.body) Xt Y s
abbrev oG:=openGood vw ([xj,"WAYS"]:List Str)
set_option maxHeartbeats 0 in
def aCM(w:World)(os:OsState):(tF w os J).map (λs=>(sF s).1)=O oG.1:=by unfold tF sF topFrom;rewrite[Fast.te14082659384304107361,Fast.te4187177175401517315];kernel_rfl
set_option maxHeartbeats 0 in
def aCL(w:World)(os:OsState):(tF w os J).map (λs=>(sF s).2)=O oG.2:=by unfold tF sF topFrom;rewrite[Fast.te14082659384304107361,Fast.te4187177175401517315];kernel_rfl
set_option maxHeartbeats 0 in
def aCK(w:World)(os:OsState):(tF w os J).map (Hook.obs HH)=O (Hook.val HH (w.withFollow "special-get-raises" J)):=by unfold tF topFrom;rewrite[Fast.te14082659384304107361];kernel_rfl
set_option maxHeartbeats 0 in
def aCJ(w:World)(os:OsState):(tF w os Y).map (λs=>(sF s).1)=O oG.1:=by unfold tF sF topFrom;rewrite[Fast.te14082659384304107361,Fast.te4187177175401517315];kernel_rfl
set_option maxHeartbeats 0 in
def aCI(w:World)(os:OsState):(tF w os Y).map (λs=>(sF s).2)=O oG.2:=by unfold tF sF topFrom;rewrite[Fast.te14082659384304107361,Fast.te4187177175401517315];kernel_rfl
set_option maxHeartbeats 0 in
def aCH(w:World)(os:OsState):(tF w os Y).map (Hook.obs HH)=O (Hook.val HH (w.withFollow "special-get-raises" Y)):=by unfold tF topFrom;rewrite[Fast.te14082659384304107361];kernel_rfl
def left:LeftO lw.prog vw ([xj,"WAYS"]:List Str) Xt (Hook.obs HH) (Hook.val HH) 7784:=by
 refine uH (boot_open rfl rfl λs=>rfl) λw os=>?_;have e:=World.withFollow_self w "special-get-raises";cases hb:w.params.followText "special-get-raises" with
 |false=>rw[hb]at e;have h:=two (two (aCM w os) (aCL w os)) (aCK w os);unfold tF at h;rw[e]at h;exact h
 |true=>rw[hb]at e;have h:=two (two (aCJ w os) (aCI w os)) (aCH w os);unfold tF at h;rw[e]at h;exact h
end Toy
namespace Z
open PySem
variable {x c n r h b w:Nat}{tg:List Nat}{tp y over:Bool}{i:Int}{sd:Side}{aa:List (Nat×Nat)}
inductive D where
 |non
 |bl (b:Bool)
 |int (i:Int)
 |str (x:Str)
 |lst (xs:List D)
 |tup (xs:List D)
 |obj (c:Str) (fs:List (Str×D))
 |exc (c:Str)
 |dct (kvs:List (Int×D))
 |frz (xs:List D)
noncomputable def bL(kvs:List (Int×D))(k:Int):Option D:=(kvs.find? λz=>decide (z.1=k)).map (·.2)
noncomputable def gW(kvs:List (Int×D))(k:Int)(d:D):List (Int×D):=if kvs.any (λz=>decide (z.1=k)) then kvs.map (λz=>if z.1=k then(z.1,d) else z) else kvs++[(k,d)]
set_option genCtorIdx false in
inductive Lit where
 |non|bl (b:Bool)|int (i:Int)|str (x:Str)
noncomputable def Lit.d:Lit->D
 |.non=>.non
 |.bl b=>.bl b
 |.int i=>.int i
 |.str x=>.str x
inductive Rs where
 |ok (d:D)
 |er (c:Str)
mutual
noncomputable def bw:D->D->Bool
 |.non,.non=>Y
 |.bl a,.bl b=>a == b
 |.bl a,.int b=>(if a then 1 else 0) == b
 |.int a,.bl b=>a == (if b then 1 else 0)
 |.int a,.int b=>a == b
 |.str a,.str b=>a == b
 |.lst a,.lst b=>lA a b
 |.tup a,.tup b=>lA a b
 |_,_=>J
noncomputable def lA:List D->List D->Bool
 |[],[]=>Y
 |x::xs,y::ys=>bw x y&&lA xs ys
 |_,_=>J
end
noncomputable def mf(x:Str):Bool:=x.cps.all (· < 0x110000)
noncomputable def flat:Nat->D->Bool
 |_,.non=>Y
 |_,.bl _=>Y
 |_,.int _=>Y
 |_,.str x=>mf x
 |n+1,.lst xs=>xs.all (flat n)
 |n+1,.tup xs=>xs.all (flat n)
 |_,_=>J
def plain(d:D):Bool:=flat 8 d
noncomputable def cv:D->Option Bool
 |.non=>O J
 |.bl b=>O b
 |.int i=>O (i != 0)
 |.lst xs=>O (!xs.isEmpty)
 |.tup xs=>O (!xs.isEmpty)
 |.frz xs=>O (!xs.isEmpty)
 |_=>U
inductive O2 where
 |add|sub|mul|fdiv|mod|pow|eq|ne|lt|le|gt|ge|isin|notin|is|isnot
noncomputable def big:Nat:=1000000
noncomputable def ixN(n:Nat)(i:Int):Option Nat:=if 0<=i then(if i<n then O i.toNat else U) else if -(n:Int)<=i then O (i+n).toNat else U
def atI{R:Type}(xs:List R)(i:Int):Option R:=(ixN xs.length i).bind λj=>xs[j]?
noncomputable def sIx(n d:Nat):Option Int->Nat
 |none=>d
 |some v=>if v<0 then(v+(n:Int)).toNat else min v.toNat n
def cut{R:Type}(xs:List R)(lo hi:Option Int):List R:=(xs.drop (sIx xs.length 0 lo)).take (sIx xs.length xs.length hi-sIx xs.length 0 lo)
noncomputable def isD:D->D->Option Bool
 |.non,.non=>O Y
 |.bl _,.non=>O J
 |.int _,.non=>O J
 |.str _,.non=>O J
 |.lst _,.non=>O J
 |.tup _,.non=>O J
 |.obj _ _,.non=>O J
 |.bl a,.bl b=>O (a == b)
 |_,_=>U
noncomputable def XA:D->D->Option D
 |.int i,.int j=>O (.int (i+j))
 |.str x,.str y=>if x.length+y.length<=big then O (.str (x++y)) else U
 |.lst xs,.lst ys=>if xs.length+ys.length<=big then O (.lst (xs++ys)) else U
 |.tup xs,.tup ys=>if xs.length+ys.length<=big then O (.tup (xs++ys)) else U
 |_,_=>U
noncomputable def aFB:D->D->Option D
 |.int i,.int j=>O (.int (i-j))
 |_,_=>U
noncomputable def aFD:D->D->Option D
 |.int i,.int j=>if (-(2 ^ 64)<i/\i<2 ^ 64)\/(-(2 ^ 64)<j/\j<2 ^ 64) then O (.int (i*j)) else U
 |_,_=>U
noncomputable def oDiv:D->D->Option D
 |.int i,.int j=>if 0<j/\j<1073741824 then O (.int (i / j)) else U
 |_,_=>U
noncomputable def oMod:D->D->Option D
 |.int i,.int j=>if 0<j then O (.int (i % j)) else U
 |_,_=>U
noncomputable def aFC:D->D->Option D
 |.int i,.int j=>if 0<=j/\j<=1000/\i.natAbs<2 ^ 64 then O (.int (i ^ j.toNat)) else U
 |_,_=>U
def oEq(a b:D):Option D:=if plain a&&plain b then O (.bl (bw a b)) else U
def oNe(a b:D):Option D:=if plain a&&plain b then O (.bl (!bw a b)) else U
noncomputable def oLt:D->D->Option D
 |.int i,.int j=>O (.bl (decide (i<j)))
 |_,_=>U
noncomputable def oLe:D->D->Option D
 |.int i,.int j=>O (.bl (decide (i<=j)))
 |_,_=>U
noncomputable def oGt:D->D->Option D
 |.int i,.int j=>O (.bl (decide (j<i)))
 |_,_=>U
noncomputable def oGe:D->D->Option D
 |.int i,.int j=>O (.bl (decide (j<=i)))
 |_,_=>U
noncomputable def oIn(a:D):D->Option D
 |.lst ys=>if plain a&&ys.all plain then O (.bl (ys.any λy=>bw y a)) else U
 |.tup ys=>if plain a&&ys.all plain then O (.bl (ys.any λy=>bw y a)) else U
 |.str y=>match a with | .str x=>O (.bl (!(Builtin.Str.occurrences y x 0 y.length 1).isEmpty))|_=>U
 |.dct kvs=>match a with | .int k=>O (.bl (bL kvs k).isSome)|_=>U
 |_=>U
noncomputable def LD(a:D):D->Option D
 |.lst ys=>if plain a&&ys.all plain then O (.bl (!ys.any λy=>bw y a)) else U
 |.tup ys=>if plain a&&ys.all plain then O (.bl (!ys.any λy=>bw y a)) else U
 |_=>U
def oIs(a b:D):Option D:=(isD a b).map .bl
def LF(a b:D):Option D:=(isD a b).map λk=>.bl (!k)
def af(o:O2)(a b:D):Option D:=match o with
 |.add=>XA a b
 |.sub=>aFB a b
 |.mul=>aFD a b
 |.fdiv=>oDiv a b
 |.mod=>oMod a b
 |.pow=>aFC a b
 |.eq=>oEq a b
 |.ne=>oNe a b
 |.lt=>oLt a b
 |.le=>oLe a b
 |.gt=>oGt a b
 |.ge=>oGe a b
 |.isin=>oIn a b
 |.notin=>LD a b
 |.is=>oIs a b
 |.isnot=>LF a b
noncomputable def jK:List D->Option (List Bool)
 |[]=>O []
 |.bl x::r=>(jK r).map (x :: ·)
 |_::_=>U
noncomputable def YQ:List D->Option D
 |[.lst xs]=>(jK xs).map λbs=>.bl (bs.any id)
 |_=>U
inductive BF where
 |len|int|list|tuple|max|min|str|sorted|any
 |all
noncomputable def dJ:List D->Option (List Int)
 |[]=>O []
 |.int i::r=>(dJ r).map (i :: ·)
 |_::_=>U
noncomputable def mL:Int->List Int->Int
 |m,[]=>m
 |m,x::r=>mL (if x > m then x else m) r
noncomputable def pH:Int->List Int->Int
 |m,[]=>m
 |m,x::r=>pH (if x<m then x else m) r
noncomputable def IG:List D->Option D
 |[.lst xs]=>O (.int xs.length)
 |[.tup xs]=>O (.int xs.length)
 |[.frz xs]=>O (.int xs.length)
 |[.str x]=>if x.length<=big then O (.int x.length) else U
 |_=>U
noncomputable def QA:List D->Option D
 |[.int i]=>O (.int i)
 |[.bl b]=>O (.int (if b then 1 else 0))
 |[.str x]=>if x.length<=640 then(PySem.intText? x).map .int else U
 |_=>U
noncomputable def nH:List D->Option (List Str)
 |[]=>O []
 |.str x::r=>(nH r).map (x :: ·)
 |_::_=>U
noncomputable def jO:List D->Option (List Bool)
 |[]=>O []
 |.bl x::r=>(jO r).map (x :: ·)
 |_::_=>U
noncomputable def IH:List D->Option D
 |[.lst xs]=>(jO xs).map λbs=>.bl (bs.all id)
 |_=>U
noncomputable def zG:D->Option Str
 |.str x=>O x
 |.int i=>if i.natAbs.log2<1920 then O (toString i) else U
 |_=>U
noncomputable def YN:List D->Option D
 |[.int i]=>if i.natAbs.log2<1920 then O (.str (toString i)) else U
 |_=>U
noncomputable def EO:List D->Option D
 |[.str sep,.lst xs]=>(nH xs).bind λys=>if (ys.map (·.length)).sum+ys.length*sep.length<=big then O (.str (Txt.join sep ys)) else U
 |_=>U
noncomputable def BQ:List D->Option D
 |[.str x,.str y]=>if (y.length == 0)=J/\x.length+2<=big then O (.lst ((Txt.split x y).map .str)) else U
 |_=>U
noncomputable def vF:List D->Option D
 |[.str x,.str y]=>O (.bl (Txt.startswith x y))
 |_=>U
def fu(m:Str)(ds:List D):Option D:=if m="join" then EO ds else if m="split" then BQ ds else if m="startswith" then vF ds else U
noncomputable def rC:Str->List D->Option Str
 |out,[]=>O out
 |out,d::r=>(zG d).bind λy=>if (out++y).length<=big then rC (out++y) r else U
noncomputable def yE:List D->Option D
 |[.lst xs]=>O (.lst xs)
 |[.tup xs]=>O (.lst xs)
 |[.frz xs]=>O (.lst xs)
 |_=>U
noncomputable def vE:List D->Option D
 |[.lst xs]=>O (.tup xs)
 |[.tup xs]=>O (.tup xs)
 |_=>U
noncomputable def PZ:List D->Option D
 |[.int i,.int j]=>O (.int (if j > i then j else i))
 |[.lst xs]=>match dJ xs with|some (i::r)=>O (.int (mL i r))|_=>U
 |_=>U
noncomputable def YO:List D->Option D
 |[.int i,.int j]=>O (.int (if j<i then j else i))
 |[.lst xs]=>match dJ xs with|some (i::r)=>O (.int (pH i r))|_=>U
 |_=>U
noncomputable def kS:List D->Option (List (Int×Int))
 |[]=>O []
 |.tup [.int a,.int b]::r=>(kS r).map ((a,b):: ·)
 |_::_=>U
noncomputable def yP(p:Int×Int):D:=.tup [.int p.1,.int p.2]
noncomputable def cH(x y:Int×Int):Bool:=decide (x.1<y.1) || (x.1 == y.1&&decide (x.2<y.2))
noncomputable def AU(x:Int×Int):List (Int×Int)->List (Int×Int)
 |[]=>[x]
 |y::r=>if cH x y then x::y::r else y::AU x r
noncomputable def iY:List (Int×Int)->List (Int×Int)
 |[]=>[]
 |x::r=>AU x (iY r)
noncomputable def dW(ps:List (Int×Int)):Bool:=decide (ps.length<=64)&&decide ps.Nodup
def gG(ds:List D):Option (List D):=match kS ds with
 |some ps=>if dW ps then O ((iY ps).map yP) else U
 |none=>match dJ ds with
  |some is=>if dW (is.map λi=>(i,0)) then O ((iY (is.map λi=>(i,0))).map λp=>.int p.1) else U
  |none=>U
noncomputable def kG:List D->Option D
 |[.lst xs]=>(gG xs).map .lst
 |_=>U
def bf(b:BF)(ds:List D):Option D:=match b with
 |.sorted=>kG ds
 |.len=>IG ds
 |.int=>QA ds
 |.list=>yE ds
 |.tuple=>vE ds
 |.max=>PZ ds
 |.min=>YO ds
 |.str=>YN ds
 |.all=>IH ds
 |.any=>YQ ds
inductive Src where
 |seq|rng|rev|enum|rvr
noncomputable def cQ(lo hi:Int):List D:=(List.range (hi-lo).toNat).map λ(k:Nat)=>D.int (lo+k)
noncomputable def jN:Nat->List D->List D
 |_,[]=>[]
 |k,x::r=>.tup [.int k,x]::jN (k+1) r
noncomputable def eD(i:Int):Bool:=decide (-(2 ^ 62)<=i)&&decide (i<2 ^ 62)
noncomputable def nB(x:Str):List D:=x.cps.toList.map λc=>.str ⟨#[c]⟩
noncomputable def aAe:D->Option (List D)
 |.lst xs=>O xs
 |.str x=>if x.length<=big then O (nB x) else U
 |.tup xs=>O xs
 |.frz xs=>O xs
 |_=>U
noncomputable def DU:List D->Option (List D)
 |[.int j]=>if eD j&&decide (j.toNat<=big) then O (cQ 0 j) else U
 |[.int i,.int j]=>if eD i&&eD j&&decide ((j-i).toNat<=big) then O (cQ i j) else U
 |_=>U
noncomputable def aGd:List D->Option (List D)
 |[.int j]=>if decide (0<=j)&&decide (j.toNat<=big) then O (cQ 0 j).reverse else U
 |_=>U
noncomputable def xQ:D->Option (List D)
 |.lst xs=>O xs.reverse
 |_=>U
noncomputable def AR:D->Option (List D)
 |.lst xs=>O (jN 0 xs)
 |_=>U
def items(k:Src)(d:D):Option (List D):=match k with
 |.seq=>aAe d
 |.rng=>match d with
  |.tup as=>DU as
  |_=>U
 |.rev=>xQ d
 |.enum=>AR d
 |.rvr=>match d with
  |.tup as=>aGd as
  |_=>U
set_option genInjectivity false
set_option genCtorIdx false in
inductive IE where
 |v (i:Nat)
 |L (l:Lit)
 |o (x:Str)
 |b (o:O2) (a b:IE)
 |and (a b:IE)
 |or (a b:IE)
 |not (a:IE)
 |tr (a:IE)
 |q (c a b:IE)
 |h (o o':O2) (a b c:IE)
 |nil
 |cons (e es:IE)
 |tup (es:IE)
 |lst (es:IE)
 |ix (a i:IE)
 |sortm (x:Nat)
 |sl (a:IE) (bl:Bool) (lo:IE) (bh:Bool) (hi:IE)
 |fld (a:IE) (f:Str)
 |call (f:Str) (es:IE)
 |meth (o:IE) (m:Str) (es:IE)
 |mk (c:Str) (es:IE)
 |ρ (b:BF) (es:IE)
 |y (a:IE) (t:Str)
 |walk (k:Src) (a:IE)
 |c (n:Nat) (fr:List (Nat×Nat)) (tg:List Nat) (tp:Bool) (k:Src) (src test elt:IE)
 |inC (neg:Bool) (x:Str) (a:IE)
 |ixC (x:Str) (a:IE)
 |fst (es:IE)
 |ixd (x:Nat) (i:IE)
 |lend (x:Nat)
set_option genInjectivity true
inductive Sl where
 |un
 |im (d:D)
 |mu (d:D)
structure GS where
 fn:Str->List D->Option Rs
 me:Str->Str->List D->Option Rs
 mo:Str->List D->Option Rs
 cst:Str->Option D
 sub:Str->Str->Bool
 fl:Str->List Str
 xn:Str->Bool
 dk:Str->Option (List (Str×D))
noncomputable def jG(G:GS)(t:Str):D->Option Bool
 |.non=>if t="int"\/t="bool"\/t="str"\/t="list"\/t="tuple" then O J else U
 |.bl _=>if t="int"\/t="bool" then O Y else if t="str"\/t="list"\/t="tuple" then O J else U
 |.int _=>if t="int" then O Y else if t="bool"\/t="str"\/t="list"\/t="tuple" then O J else U
 |.str _=>if t="str" then O Y else if t="int"\/t="bool"\/t="list"\/t="tuple" then O J else U
 |.lst _=>if t="list" then O Y else if t="int"\/t="bool"\/t="str"\/t="tuple" then O J else U
 |.tup _=>if t="tuple" then O Y else if t="int"\/t="bool"\/t="str"\/t="list" then O J else U
 |_=>U
def slot(B:List Sl)(i:Nat):Option D:=match B[i]? with
 |some (.im d)=>O d
 |_=>U
noncomputable def wI(B:List Sl)(i:Nat):Option (List D):=match B[i]? with
 |some (.im (.lst ds))=>O ds
 |some (.mu (.lst ds))=>O ds
 |_=>U
noncomputable def nI(B:List Sl)(i:Nat):Option (List (Int×D)):=match B[i]? with
 |some (.im (.dct ds))=>O ds
 |some (.mu (.dct ds))=>O ds
 |_=>U
noncomputable def gF:Option Rs->Option D
 |some (.ok d)=>O d
 |_=>U
noncomputable def bG:Option D->Option (List D)
 |some (.tup ds)=>O ds
 |_=>U
noncomputable def intOf:Option D->Option Int
 |some (.int b)=>O b
 |_=>U
def frame(n:Nat)(fr:List (Nat×Nat))(B:List Sl):List Sl:=(List.range n).map λi=>match fr.lookup i with
 |some j=>B.getD j .un
 |none=>.un
noncomputable def bO:List Nat->List D->List Sl->Option (List Sl)
 |[],[],B=>O B
 |i::is,d::ds,B=>bO is ds (B.set i (.im d))
 |_,_,_=>U
def bB(tg:List Nat)(tp:Bool)(d:D)(B:List Sl):Option (List Sl):=
 if tp then(match d with | .tup ds=>bO tg ds B|_=>U) else bO tg [d] B
noncomputable def cG(f:D->Option (Option D)):List D->Option (List D)
 |[]=>O []
 |d::r=>do
  let o <-f d;let t <-cG f r;match o with
  |some y=>O (y::t)
  |none=>O t
def part(b:Bool)(o:Option D):Option (Option Int):=if b then(intOf o).map O else O U
noncomputable def ev(G:GS):IE->List Sl->Option D
 |.v i,B=>slot B i
 |.L l,_=>O l.d
 |.o x,_=>G.cst x
 |.b o a b,B=>do af o (<-ev G a B) (<-ev G b B)
 |.and a b,B=>do match <-ev G a B with | .bl Y=>(match <-ev G b B with | .bl k=>O (.bl k)|_=>U) | .bl J=>O (.bl J)|_=>U
 |.or a b,B=>do match <-ev G a B with | .bl J=>(match <-ev G b B with | .bl k=>O (.bl k)|_=>U) | .bl Y=>O (.bl Y)|_=>U
 |.not a,B=>do match <-ev G a B with | .bl k=>O (.bl (!k))|_=>U
 |.tr a,B=>do (cv (<-ev G a B)).map .bl
 |.q c a b,B=>do match <-ev G c B with | .bl Y=>ev G a B | .bl J=>ev G b B|_=>U
 |.h o o' a b c,B=>do
  let y <-ev G b B;match <-af o (<-ev G a B) y with
  |.bl Y=>af o' y (<-ev G c B)
  |.bl J=>O (.bl J)
  |_=>U
 |.nil,_=>O (.tup [])
 |.cons e es,B=>do
  let d <-ev G e B;match <-ev G es B with
  |.tup ds=>O (.tup (d::ds))
  |_=>U
 |.tup es,B=>(bG (ev G es B)).map .tup
 |.lst es,B=>(bG (ev G es B)).map .lst
 |.ix a i,B=>do
  match <-ev G a B,<-ev G i B with
  |.lst xs,.int k=>atI xs k
  |.tup xs,.int k=>atI xs k
  |.frz xs,.int k=>atI xs k
  |.dct kvs,.int k=>bL kvs k
  |_,_=>U
 |.sortm x,B=>do kG [.lst (<-wI B x)]
 |.sl a bl lo bh hi,B=>do
  let d <-ev G a B;let l <-part bl (ev G lo B);let h <-part bh (ev G hi B);match d with
  |.lst xs=>O (.lst (cut xs l h))
  |.frz xs=>O (.lst (cut xs l h))
  |.tup xs=>if sIx xs.length 0 l=0/\sIx xs.length xs.length h=xs.length then U else O (.tup (cut xs l h))
  |_=>U
 |.fld a f,B=>do match <-ev G a B with | .obj c fs=>if (G.fl c).contains f then fs.lookup f else U|_=>U
 |.call f es,B=>do gF (G.fn f (<-bG (ev G es B)))
 |.meth o m es,B=>do match <-ev G o B with | .obj c fs=>(if (fs.lookup m).isNone then(bG (ev G es B)).bind λas=>gF (G.me c m (.obj c fs::as)) else U) | .str x=>(bG (ev G es B)).bind λas=>fu m (.str x::as)|_=>U
 |.mk c es,B=>do gF (G.mo c (<-bG (ev G es B)))
 |.ρ b es,B=>do bf b (<-bG (ev G es B))
 |.y a t,B=>do (jG G t (<-ev G a B)).map .bl
 |.walk k a,B=>do (items k (<-ev G a B)).map .lst
 |.c n fr tg tp k src test elt,B=>do
  let ds <-items k (<-ev G src B)
  (cG (λd=>do
   let ρ1 <-bB tg tp d (frame n fr B);match <-ev G test ρ1 with
   |.bl Y=>(ev G elt ρ1).map O
   |.bl J=>O U
   |_=>U) ds).map .lst
 |.ixC x a,B=>do match <-ev G a B with | .str s=>(G.dk x).bind λkvs=>kvs.lookup s|_=>U
 |.fst es,B=>(bG (ev G es B)).bind λds=>(rC Str.empty ds).map .str
 |.inC neg x a,B=>do match <-ev G a B with | .str s=>(G.dk x).map λkvs=>.bl (neg != (kvs.lookup s).isSome)|_=>U
 |.ixd x i,B=>do bL (<-nI B x) (<-intOf (ev G i B))
 |.lend x,B=>do O (.int (<-nI B x).length)
noncomputable def ny(G:GS):IE->List Sl->Option Rs
 |.call f es,B=>(bG (ev G es B)).bind (G.fn f)
 |_,_=>U
set_option genCtorIdx false in
inductive IS where
 |nop
 |seq (a b:IS)
 |ret (e:IE)
 |σ (x:Nat)
 |set (x:Nat) (e:IE)
 |setm (x:Nat)
 |setd (x:Nat)
 |t (tg:List Nat) (e:IE)
 |g (c:IE) (a b:IS)
 |loop (tg:List Nat) (tp:Bool) (k:Src) (src:IE) (body:IS)
 |app (x:Nat) (e:IE)
 |put (x:Nat) (k e:IE)
 |drop (e:IE)
 |rse (c:Str)
 |tryx (ce:IE) (hc:Str) (b:Bool)
 |ext (x:Nat) (e:IE)
inductive Out where
 |nx (B:List Sl)
 |rt (d:D)
 |er (c:Str)
noncomputable def bT(bind:D->List Sl->Option (List Sl))(body:List Sl->Option Out):List D->List Sl->Option Out
 |[],B=>O (.nx B)
 |d::r,B=>do
  let ρ1 <-bind d B;match <-body ρ1 with
  |.nx ρ2=>bT bind body r ρ2
  |o=>O o
noncomputable def dD:Sl->Sl
 |.mu d=>.im d
 |s=>s
def view(B:List Sl):List Sl:=B.map dD
noncomputable def TF:D->Bool
 |.non=>Y
 |.bl _=>Y
 |.int _=>Y
 |.str _=>Y
 |_=>J
def fi(G:GS)(e:IE)(B:List Sl):Option D:=match ev G e B with
 |some d=>O d
 |none=>match ev G e (view B) with
  |some d=>if TF d then O d else U
  |none=>U
def aHk(o:D)(i:Int)(d:D):Option D:=match o with
 |.lst ds=>(ixN ds.length i).map λj=>.lst (ds.set j d)
 |.dct kvs=>if kvs.length<big then O (.dct (gW kvs i d)) else U
 |_=>U
noncomputable def ex(G:GS):IS->List Sl->Option Out
 |.nop,B=>O (.nx B)
 |.seq a b,B=>do
  match <-ex G a B with
  |.nx B'=>ex G b B'
  |o=>O o
 |.ret e,B=>(fi G e B).map .rt
 |.σ x,B=>match B[x]? with|some (.mu d)=>O (.rt d)|_=>U
 |.set x e,B=>(fi G e B).map λd=>.nx (B.set x (.im d))
 |.setm x,B=>O (.nx (B.set x (.mu (.lst []))))
 |.setd x,B=>O (.nx (B.set x (.mu (.dct []))))
 |.t tg e,B=>do (bB tg Y (<-ev G e B) B).map .nx
 |.g c a b,B=>do match <-ev G c (view B) with | .bl Y=>ex G a B | .bl J=>ex G b B|_=>U
 |.loop tg tp k src body,B=>do bT (bB tg tp) (ex G body) (<-items k (<-ev G src B)) B
 |.app x e,B=>do
  let d <-fi G e B;match B[x]? with
  |some (.mu (.lst ds))=>if ds.length<big then O (.nx (B.set x (.mu (.lst (ds++[d]))))) else U
  |_=>U
 |.put x k e,B=>do
  let d <-fi G e B;let i <-intOf (fi G k B);match B[x]? with
  |some (.mu o)=>(aHk o i d).map λo=>.nx (B.set x (.mu o))
  |_=>U
 |.drop e,B=>(ev G e (view B)).map λ_=>.nx B
 |.rse c,_=>if G.xn c then O (.er c) else U
 |.tryx ce hc b,B=>match ny G ce (view B) with
  |some (.ok _)=>O (.nx B)
  |some (.er k)=>if G.xn k&&G.xn hc&&G.sub k hc then O (.rt (.bl b)) else U
  |none=>U
 |.ext x e,B=>(ev G e B).bind λd=>match d,B[x]? with
  |.lst es,O (.mu (.lst ds))=>if ds.length+es.length<big then O (.nx (B.set x (.mu (.lst (ds++es))))) else U
  |_,_=>U
def bC(G:GS)(n:Nat)(b:IS)(args:List D):Option Rs:=
 match ex G b (args.map .im++List.replicate (n-args.length) .un) with
 |some (.rt d)=>O (.ok d)
 |some (.nx _)=>O (.ok .non)
 |some (.er c)=>O (.er c)
 |_=>U
section
variable {G:GS}{B:List Sl}{a b e es src test elt:IE}{i j:Int}
def qB{k:Nat}:ev G (.v k) B=slot B k:=id rfl
def QI{l:Lit}:ev G (.L l) B=O l.d:=id rfl
def qD{x:Str}:ev G (.o x) B=G.cst x:=id rfl
def bA{o:O2}:ev G (.b o a b) B=(ev G a B).bind λx=>(ev G b B).bind λy=>af o x y:=id rfl
def QL:ev G (.and a b) B=(ev G a B).bind λx=>match x with | .bl Y=>((ev G b B).bind λy=>match y with | .bl k=>O (.bl k)|_=>U) | .bl J=>O (.bl J)|_=>U:=id rfl
def aAB:ev G (.or a b) B=(ev G a B).bind λx=>match x with | .bl J=>((ev G b B).bind λy=>match y with | .bl k=>O (.bl k)|_=>U) | .bl Y=>O (.bl Y)|_=>U:=id rfl
def QF:ev G (.not a) B=(ev G a B).bind λx=>match x with | .bl k=>O (.bl (!k))|_=>U:=id rfl
def nQ:ev G (.tr a) B=(ev G a B).bind λx=>(cv x).map .bl:=id rfl
def mY{c:IE}:ev G (.q c a b) B=(ev G c B).bind λx=>match x with | .bl Y=>ev G a B | .bl J=>ev G b B|_=>U:=id rfl
def yJ{o o':O2}{c:IE}:ev G (.h o o' a b c) B=(ev G b B).bind λy=>(ev G a B).bind λx=>(af o x y).bind λw=>match w with | .bl Y=>(ev G c B).bind λz=>af o' y z | .bl J=>O (.bl J)|_=>U:=id rfl
def qC:ev G .nil B=O (.tup []):=id rfl
def aV:ev G (.cons e es) B=(ev G e B).bind λd=>(ev G es B).bind λt=>match t with | .tup ds=>O (.tup (d::ds))|_=>U:=id rfl
def kZ:ev G (.tup es) B=(bG (ev G es B)).map .tup:=id rfl
def QH:ev G (.lst es) B=(bG (ev G es B)).map .lst:=id rfl
theorem aAC:ev G (.ix a b) B=(ev G a B).bind λx=>(ev G b B).bind λy=>(match x,y with
  |.lst xs,.int k=>atI xs k
  |.tup xs,.int k=>atI xs k
  |.frz xs,.int k=>atI xs k
  |.dct kvs,.int k=>bL kvs k
  |_,_=>U):=id rfl
def jM{f:Str}:ev G (.fld a f) B=(ev G a B).bind λx=>match x with | .obj c fs=>if (G.fl c).contains f then fs.lookup f else U|_=>U:=id rfl
def dR{f:Str}:ev G (.call f es) B=(bG (ev G es B)).bind λas=>gF (G.fn f as):=id rfl
def kI{m:Str}:ev G (.meth a m es) B=(ev G a B).bind λx=>match x with | .obj c fs=>(if (fs.lookup m).isNone then(bG (ev G es B)).bind λas=>gF (G.me c m (.obj c fs::as)) else U) | .str x=>(bG (ev G es B)).bind λas=>fu m (.str x::as)|_=>U:=id rfl
def QG{c:Str}:ev G (.mk c es) B=(bG (ev G es B)).bind λas=>gF (G.mo c as):=id rfl
def fC{f:BF}:ev G (.ρ f es) B=(bG (ev G es B)).bind λas=>bf f as:=id rfl
def aDu{t:Str}:ev G (.y a t) B=(ev G a B).bind λx=>(jG G t x).map .bl:=id rfl
def ER{k:Src}:ev G (.walk k a) B=(ev G a B).bind λx=>(items k x).map .lst:=id rfl
def yH:ev G (.sortm x) B=(wI B x).bind λxs=>kG [.lst xs]:=id rfl
theorem ES{bl bh:Bool}{lo hi:IE}:ev G (.sl a bl lo bh hi) B=(ev G a B).bind λd=>(part bl (ev G lo B)).bind λl=>(part bh (ev G hi B)).bind λh=>(match d with
  |.lst xs=>O (.lst (cut xs l h))
  |.frz xs=>O (.lst (cut xs l h))
  |.tup xs=>if sIx xs.length 0 l=0/\sIx xs.length xs.length h=xs.length then U else O (.tup (cut xs l h))
  |_=>U):=id rfl
theorem vH{fr:List (Nat×Nat)}{k:Src}:ev G (.c n fr tg tp k src test elt) B=(ev G src B).bind λs=>(items k s).bind λds=>(cG (λd=>(bB tg tp d (frame n fr B)).bind λρ1=>(ev G test ρ1).bind λw=>match w with
 |.bl Y=>(ev G elt ρ1).map O
 |.bl J=>O U
 |_=>U) ds).map .lst:=id rfl
def tP{ds:List D}:bG (O (.tup ds))=O ds:=id rfl
def DM{d:D}:gF (O (.ok d))=O d:=id rfl
def aFw:af .add (.int i) (.int j)=O (.int (i+j)):=id rfl
def aFu:af .sub (.int i) (.int j)=O (.int (i-j)):=id rfl
def nJ(h0:-1000000<=i)(h1:i<=1000000):af .mul (.int i) (.int j)=O (.int (i*j)):=if_pos (.inl ⟨yx,yx⟩)
def pC(h0:0<j)(h1:j<1000000):af .fdiv (.int i) (.int j)=O (.int (i / j)):=if_pos ⟨h0,yx⟩
def oZ(h0:0<j):af .mod (.int i) (.int j)=O (.int (i % j)):=if_pos h0
def aHm:af .lt (.int i) (.int j)=O (.bl (decide (i<j))):=id rfl
def aHn:af .le (.int i) (.int j)=O (.bl (decide (i<=j))):=id rfl
def aCt:af .gt (.int i) (.int j)=O (.bl (decide (j<i))):=id rfl
def aHo:af .ge (.int i) (.int j)=O (.bl (decide (j<=i))):=id rfl
def WZ:af .eq (.int i) (.int j)=O (.bl (i == j)):=id rfl
def aCr:af .ne (.int i) (.int j)=O (.bl (!(i == j))):=id rfl
def aFv{x:Bool}:af .is (.bl x) (.bl y)=O (.bl (x == y)):=id rfl
def aCs{x:Bool}:af .isnot (.bl x) (.bl y)=O (.bl (!(x == y))):=id rfl
def JN(h0:-1000000<=j)(h1:j<=1000000):eD j=Y:=by unfold eD;rw[u3,ub,ub];lia
def AO(h:n<=1000000):items .rng (.tup [.int (n:Int)])=O (cQ 0 (n:Int)):=by
 have h1:(eD (n:Int)&&decide ((n:Int).toNat<=big))=Y:=by rw[JN yx yx,Bool.true_and,ub];unfold big;lia
 simp only[items,DU];rw[if_pos h1]
def slot0{d:D}{r:List Sl}:slot (.im d::r) 0=O d:=id rfl
def aEE{x:Sl}{r:List Sl}{k:Nat}:slot (x::r) (k+1)=slot r k:=id rfl
end
section
variable {G:GS}{B:List Sl}{a b:IS}{e c:IE}
def aW:ex G .nop B=O (.nx B):=id rfl
def QB:ex G (.seq a b) B=(ex G a B).bind λo=>match o with | .nx B'=>ex G b B'|o=>O o:=id rfl
def QC:ex G (.g c a b) B=(ev G c (view B)).bind λx=>match x with | .bl Y=>ex G a B | .bl J=>ex G b B|_=>U:=id rfl
def qA{d:D}(h:ev G e B=O d):fi G e B=O d:=by unfold fi;rw[h]
def aR{d:D}(h:ev G e B=O d):ex G (.ret e) B=O (.rt d):=by show (fi G e B).map Out.rt=_;rw[qA h];rfl
def aO{d:D}(h:ev G e B=O d):ex G (.set x e) B=O (.nx (B.set x (.im d))):=by show (fi G e B).map _=_;rw[qA h];rfl
def iQ:ex G (.setm x) B=O (.nx (B.set x (.mu (.lst [])))):=id rfl
def bS{k:Src}{d:D}{ds:List D}(h1:ev G e B=O d)(h2:items k d=O ds):ex G (.loop tg tp k e a) B=bT (bB tg tp) (ex G a) ds B:=by show (ev G e B).bind _=_;rw[h1];show ((items k d).bind _)=_;rw[h2];rfl
end
theorem qM{f:D->Option (Option D)}{h:D->D}:∀{ds:List D},(∀d∈ds,f d=O (O (h d)))->cG f ds=O (ds.map h)
 |[],_=>rfl
 |d::r,e=>by unfold cG;rw[e d (vi),qM λx hx=>e x (tw _ hx)];rfl
def pI{lo hi:Int}{d:D}(h:d∈cQ lo hi):∃i:Int,d=.int i/\lo<=i/\i<hi:=by unfold cQ at h;simp only[ux,vy]at h;obtain⟨k,hk,rfl⟩:=h;exact⟨_,rfl,yx,yx⟩
def kR:cQ 0 (n:Int)=(List.range n).map λ(k:Nat)=>D.int k:=by unfold cQ;simp
theorem kF{bind:D->List Sl->Option (List Sl)}{body:List Sl->Option Out}(P:Nat->List Sl->Prop):∀{ds:List D} {k:Nat} {B:List Sl},P k B ->(∀(i:Nat) (d:D) (B:List Sl),ds[i]?=O d->P (k+i) B->∃ρ1,bind d B=O ρ1/\∃z,body ρ1=O (.nx z)/\P (k+i+1) z)->∃B',bT bind body ds B=O (.nx B')/\P (k+ds.length) B'
 |[],k,B,h,_=>⟨B,rfl,h⟩
 |d::r,k,B,h,st=>by
  obtain⟨ρ1,h1,z,h2,h3⟩:=st 0 d B rfl h;obtain⟨B',h4,h5⟩:=kF P (ds:=r) (k:=k+1) h3 λi d' B' e p=>by have:=st (i+1) d' B' (by simpa using e) (by rw[Nat.add_comm i 1,<-Nat.add_assoc];exact p);rw[show k+1+i+1=k+(i+1)+1 by lia];exact this
  refine⟨B',?_,by rw[vm,show k+(r.length+1)=k+1+r.length by lia];exact h5⟩;unfold bT;rw[h1];show ((body ρ1).bind _)=_;rw[h2];exact h4
def sQ{bind:D->List Sl->Option (List Sl)}{body:List Sl->Option Out}(P:List Sl->Prop){ds:List D}{B:List Sl}(h0:P B)(st:∀d∈ds,∀B,P B->∃ρ1,bind d B=O ρ1/\∃z,body ρ1=O (.nx z)/\P z):∃B',bT bind body ds B=O (.nx B')/\P B':=kF (k:=0) (λ_=>P) h0 λi d B e p=>st d (sq e) B p
def aK{G:GS}{b:IS}{args:List D}{B:List Sl}{d:D}(h0:args.map .im++List.replicate (n-args.length) .un=B)(h:ex G b B=O (.rt d)):bC G n b args=O (.ok d):=by unfold bC;rw[h0,h]
def CZ{G:GS}{b:IS}{args:List D}{B B':List Sl}(h0:args.map .im++List.replicate (n-args.length) .un=B)(h:ex G b B=O (.nx B')):bC G n b args=O (.ok .non):=by unfold bC;rw[h0,h]
def TK{G:GS}{b:IS}{args:List D}{B:List Sl}{k:Str}(h0:args.map .im++List.replicate (n-args.length) .un=B)(h:ex G b B=O (.er k)):bC G n b args=O (.er k):=by unfold bC;rw[h0,h]
def yI{G:GS}{B:List Sl}{fr:List (Nat×Nat)}{k:Src}{src test elt:IE}{s:D}{ds:List D}(h:D->D)(h1:ev G src B=O s)(h2:items k s=O ds) (h3:∀d∈ds,∃ρ1,bB tg tp d (frame n fr B)=O ρ1/\ev G test ρ1=O (.bl Y)/\ev G elt ρ1=O (h d)):ev G (.c n fr tg tp k src test elt) B=O (.lst (ds.map h)):=by rw[vH,h1,vg,h2,vg,qM (h:=h)];rfl;intro d hd;obtain⟨ρ1,e1,e2,e3⟩:=h3 d hd;rw[e1,vg,e2,vg];show Option.map O (ev G elt ρ1)=_;rw[e3];rfl
def aY:view []=[]:=id rfl
def eW{d:D}{r:List Sl}:view (.im d::r)=.im d::view r:=id rfl
def CD{r:List Sl}:view (.un::r)=.un::view r:=id rfl
def SD{d:D}{r:List Sl}:view (.mu d::r)=.im d::view r:=id rfl
def aDs{G:GS}{B:List Sl}{c:Str}(h:G.xn c=Y):ex G (.rse c) B=O (.er c):=if_pos h
def yF{G:GS}{B:List Sl}{e:IE}:ex G (.t tg e) B=(ev G e B).bind λd=>(bB tg Y d B).map .nx:=id rfl
def aG{G:GS}{B B':List Sl}{a b:IS}{o:Out}(h1:ex G a B=O (.nx B'))(h2:ex G b B'=O o):ex G (.seq a b) B=O o:=by rw[QB,h1];exact h2
def gC{G:GS}{B:List Sl}{a b:IS}{o:Out}(h1:ex G a B=O o)(h2:∀B',o≠.nx B'):ex G (.seq a b) B=O o:=by rw[QB,h1];cases o<;>first|rfl|exact absurd rfl (h2 _)
def hZ{G:GS}{B:List Sl}{a b:IS}{c:IE}{o:Option Out}(h1:ev G c (view B)=O (.bl Y))(h2:ex G a B=o):ex G (.g c a b) B=o:=by rw[QC,h1];exact h2
def cC{G:GS}{B:List Sl}{a b:IS}{c:IE}{o:Option Out}(h1:ev G c (view B)=O (.bl J))(h2:ex G b B=o):ex G (.g c a b) B=o:=by rw[QC,h1];exact h2
def cD{G:GS}{B:List Sl}{a b:IE}{x:Bool}(ha:ev G a B=O (.bl x))(hb:x=J->ev G b B=O (.bl y)):ev G (.or a b) B=O (.bl (x || y)):=by
 rw[aAB,ha];cases x with
 |true=>rfl
 |false=>show ((ev G b B).bind _)=_;rw[hb rfl];rfl
def EU{G:GS}{B:List Sl}{a b:IE}{x:Bool}(ha:ev G a B=O (.bl x))(hb:x=Y->ev G b B=O (.bl y)):ev G (.and a b) B=O (.bl (x&&y)):=by
 rw[QL,ha];cases x with
 |false=>rfl
 |true=>show ((ev G b B).bind _)=_;rw[hb rfl];rfl
def aGq{xs:List D}:bf .len [.lst xs]=O (.int xs.length):=id rfl
def aDl{xs:List D}:bf .len [.frz xs]=O (.int xs.length):=id rfl
def aDk{xs:List D}:bf .len [.tup xs]=O (.int xs.length):=id rfl
def aDj{xs:List D}:bf .list [.lst xs]=O (.lst xs):=id rfl
def YK{xs:List D}:bf .list [.tup xs]=O (.lst xs):=id rfl
def eL{R:Type}{xs:List R}{k:Nat}{x:R}(h:xs[k]?=O x):atI xs (k:Int)=O x:=by have hl:=(sj.mp h).1;unfold atI ixN;rw[if_pos yx,if_pos yx];simpa using h
def aA{R β:Type}{a:R}{f:R->Option β}:(O a).bind f=f a:=id rfl
def aB{R β:Type}{a:R}{f:R->β}:(O a).map f=O (f a):=id rfl
def aGa:(Lit.int i).d=.int i:=id rfl
def aHw{b:Bool}:(Lit.bl b).d=.bl b:=id rfl
def aFY{x:Str}:(Lit.str x).d=.str x:=id rfl
def aFZ:(Lit.non).d=.non:=id rfl
theorem zz:(∀G B k,ev G (.v k) B=slot B k)/\(∀G B l,ev G (.L l) B=O l.d)/\(∀G B x,ev G (.o x) B=G.cst x)/\(∀G B o a b,ev G (.b o a b) B=(ev G a B).bind λx=>(ev G b B).bind λy=>af o x y) /\
  (∀G B a b,ev G (.and a b) B=(ev G a B).bind λx=>match x with | .bl Y=>((ev G b B).bind λy=>match y with | .bl k=>O (.bl k)|_=>U) | .bl J=>O (.bl J)|_=>U) /\
  (∀G B a b,ev G (.or a b) B=(ev G a B).bind λx=>match x with | .bl J=>((ev G b B).bind λy=>match y with | .bl k=>O (.bl k)|_=>U) | .bl Y=>O (.bl Y)|_=>U) /\
  (∀G B a,ev G (.not a) B=(ev G a B).bind λx=>match x with | .bl k=>O (.bl (!k))|_=>U)/\(∀G B a,ev G (.tr a) B=(ev G a B).bind λx=>(cv x).map .bl) /\
  (∀G B c a b,ev G (.q c a b) B=(ev G c B).bind λx=>match x with | .bl Y=>ev G a B | .bl J=>ev G b B|_=>U) /\
  (∀G B o o' a b c,ev G (.h o o' a b c) B=(ev G b B).bind λy=>(ev G a B).bind λx=>(af o x y).bind λw=>match w with | .bl Y=>(ev G c B).bind λz=>af o' y z | .bl J=>O (.bl J)|_=>U) /\
  (∀G B,ev G .nil B=O (.tup []))/\(∀G B e es,ev G (.cons e es) B=(ev G e B).bind λd=>(ev G es B).bind λt=>match t with | .tup ds=>O (.tup (d::ds))|_=>U) /\
  (∀G B es,ev G (.tup es) B=(bG (ev G es B)).map .tup)/\(∀G B es,ev G (.lst es) B=(bG (ev G es B)).map .lst) /\
  (∀G B a b,ev G (.ix a b) B=(ev G a B).bind λx=>(ev G b B).bind λy=>(match x,y with | .lst xs,.int k=>atI xs k | .tup xs,.int k=>atI xs k | .frz xs,.int k=>atI xs k | .dct kvs,.int k=>bL kvs k|_,_=>U)) /\
  (∀G B a f,ev G (.fld a f) B=(ev G a B).bind λx=>match x with | .obj c fs=>if (G.fl c).contains f then fs.lookup f else U|_=>U) /\
  (∀G B f es,ev G (.call f es) B=(bG (ev G es B)).bind λas=>gF (G.fn f as)) /\
  (∀G B a m es,ev G (.meth a m es) B=(ev G a B).bind λx=>match x with | .obj c fs=>(if (fs.lookup m).isNone then(bG (ev G es B)).bind λas=>gF (G.me c m (.obj c fs::as)) else U) | .str x=>(bG (ev G es B)).bind λas=>fu m (.str x::as)|_=>U) /\
  (∀G B c es,ev G (.mk c es) B=(bG (ev G es B)).bind λas=>gF (G.mo c as))/\(∀G B f es,ev G (.ρ f es) B=(bG (ev G es B)).bind λas=>bf f as) /\
  (∀G B a t,ev G (.y a t) B=(ev G a B).bind λx=>(jG G t x).map .bl)/\(∀G B k a,ev G (.walk k a) B=(ev G a B).bind λx=>(items k x).map .lst) /\
  (∀G B a bl lo bh hi,ev G (.sl a bl lo bh hi) B=(ev G a B).bind λd=>(part bl (ev G lo B)).bind λl=>(part bh (ev G hi B)).bind λh=>(match d with
   |.lst xs=>O (.lst (cut xs l h))
   |.frz xs=>O (.lst (cut xs l h))
   |.tup xs=>if sIx xs.length 0 l=0/\sIx xs.length xs.length h=xs.length then U else O (.tup (cut xs l h))
   |_=>U)):=
 ⟨λ_ _ _=>qB,λ_ _ _=>QI,λ_ _ _=>qD,λ_ _ _ _ _=>bA,λ_ _ _ _=>QL,λ_ _ _ _=>aAB,λ_ _ _=>QF,λ_ _ _=>nQ,λ_ _ _ _ _=>mY,λ_ _ _ _ _ _ _=>yJ,λ_ _=>qC,λ_ _ _ _=>aV,λ_ _ _=>kZ,λ_ _ _=>QH,λ_ _ _ _=>aAC,λ_ _ _ _=>jM,λ_ _ _ _=>dR,λ_ _ _ _ _=>kI,λ_ _ _ _=>QG,λ_ _ _ _=>fC,λ_ _ _ _=>aDu,λ_ _ _ _=>ER,λ_ _ _ _ _ _ _=>ES⟩
def yy:(∀ds,bG (O (.tup ds))=O ds)/\(∀d,gF (O (.ok d))=O d)/\(∀i j,af .add (.int i) (.int j)=O (.int (i+j)))/\(∀i j,af .sub (.int i) (.int j)=O (.int (i-j)))/\(∀i j,af .lt (.int i) (.int j)=O (.bl (decide (i<j))))/\(∀i j,af .le (.int i) (.int j)=O (.bl (decide (i<=j)))) /\(∀i j,af .gt (.int i) (.int j)=O (.bl (decide (j<i))))/\(∀i j,af .ge (.int i) (.int j)=O (.bl (decide (j<=i))))/\(∀i j,af .eq (.int i) (.int j)=O (.bl (i == j)))/\(∀i j,af .ne (.int i) (.int j)=O (.bl (!(i == j))))/\(∀x y,af .is (.bl x) (.bl y)=O (.bl (x == y)))/\(∀x y,af .isnot (.bl x) (.bl y)=O (.bl (!(x == y)))) /\(∀d r,slot (.im d::r) 0=O d)/\(∀x r k,slot (x::r) (k+1)=slot r k)/\(view []=[])/\(∀d r,view (.im d::r)=.im d::view r)/\(∀r,view (.un::r)=.un::view r)/\(∀d r,view (.mu d::r)=.im d::view r) /\(∀xs,bf .len [.lst xs]=O (.int xs.length))/\(∀xs,bf .len [.frz xs]=O (.int xs.length))/\(∀xs,bf .len [.tup xs]=O (.int xs.length))/\(∀xs,bf .list [.lst xs]=O (.lst xs))/\(∀xs,bf .list [.tup xs]=O (.lst xs)) /\(∀i,(Lit.int i).d=.int i)/\(∀b,(Lit.bl b).d=.bl b)/\(∀x,(Lit.str x).d=.str x)/\((Lit.non).d=.non):=⟨λ_=>tP,λ_=>DM,λ_ _=>aFw,λ_ _=>aFu,λ_ _=>aHm,λ_ _=>aHn,λ_ _=>aCt,λ_ _=>aHo,λ_ _=>WZ,λ_ _=>aCr,λ_ _=>aFv,λ_ _=>aCs,λ_ _=>slot0,λ_ _ _=>aEE,aY,λ_ _=>eW,λ_=>CD,λ_ _=>SD,λ_=>aGq,λ_=>aDl,λ_=>aDk,λ_=>aDj,λ_=>YK,λ_=>aGa,λ_=>aHw,λ_=>aFY,aFZ⟩
def yw:=And.intro zz (And.intro yy (And.intro @aA @aB))
namespace Pg
noncomputable def kX:IS:=(.ret (.c 4 [(2,0),(3,1)] [1] J .rng (.tup (.cons (.v 0) .nil)) (.L (.bl Y)) (.lst (.cons (.tup (.cons (.b .add (.b .mul (.v 3) (.v 2)) (.v 1)) (.cons (.L (.bl J)) (.cons (.L (.bl J)) .nil)))) .nil))))
noncomputable def aAD(i:Int)(e n:Bool):D:=.tup [.int i,.bl e,.bl n]
def nT(c y:Nat):List D:=(List.range c).map λx=>.lst [aAD (y*c+x:Nat) J J]
def xN{G:GS}{y:Nat}(hc:c<=64)(hy:y<=64):bC G 2 kX [.int c,.int y]=O (.ok (.lst (nT c y))):=by have e:=yI (G:=G) (B:=[.im (.int c),.im (.int y)]) (n:=4) (fr:=[(2,0),(3,1)]) (tg:=[1]) (tp:=J) (k:=.rng) (src:=.tup (.cons (.v 0) .nil)) (test:=.L (.bl Y)) (elt:=.lst (.cons (.tup (.cons (.b .add (.b .mul (.v 3) (.v 2)) (.v 1)) (.cons (.L (.bl J)) (.cons (.L (.bl J)) .nil)))) .nil)) (λd=>match d with | .int x=>.lst [aAD (y*c+x) J J]|_=>.non) (s:=.tup [.int c]) (by simp only[yw]) (AO yx) (λd hd=>by obtain⟨x,rfl,h1,h2⟩:=pI hd;refine⟨[.un,.im (.int x),.im (.int c),.im (.int y)],rfl,by simp only[yw],?_⟩;simp only[yw,nJ (show (-1000000:Int)<=y by lia) (show (y:Int)<=1000000 by lia)];rfl);refine aK (B:=[.im (.int c),.im (.int y)]) rfl (aR (e.trans ?_));rw[kR];simp[nT]
noncomputable def bM(c r w h:Int)(T F S:List D):D:=.obj "Pile" [(yq,.int c),("rows",.int r),("wide",.int w),("high",.int h),("table",.lst T),("folds",.tup F),(yo,.tup S)]
def fV(c r:Nat):List D:=(List.range r).map λy=>.lst (nT c y)
noncomputable def uQ:IS:=(.seq (.g (.or (.b .lt (.v 0) (.L (.int 1))) (.or (.b .lt (.v 1) (.L (.int 1))) (.b .gt (.b .mul (.v 0) (.v 1)) (.o yc)))) (.rse "NoSheet") .nop) (.seq (.set 2 (.c 3 [(2,0)] [1] J .rng (.tup (.cons (.v 1) .nil)) (.L (.bl Y)) (.call yk (.cons (.v 2) (.cons (.v 1) .nil))))) (.ret (.mk "Pile" (.cons (.v 0) (.cons (.v 1) (.cons (.v 2) (.cons (.tup .nil) (.cons (.tup .nil) .nil)))))))))
section
variable {G:GS}
def HJ(hm:G.cst yc = O (.int 64)){c r:Int}{B:List Sl}(hmul:af .mul (.int c) (.int r)=O (.int (c*r)))(h0:slot B 0=O (.int c))(h1:slot B 1=O (.int r)):ev G (.or (.b .lt (.v 0) (.L (.int 1))) (.or (.b .lt (.v 1) (.L (.int 1))) (.b .gt (.b .mul (.v 0) (.v 1)) (.o yc)))) B=O (.bl (decide (c<1) || (decide (r<1) || decide (64<c*r)))):=by refine cD (by simp only[yw,h0]) λ_=>cD (by simp only[yw,h1]) λ_=>?_;simp only[yw,h0,h1,hmul,hm]
def XU(hm:G.cst yc = O (.int 64))(z:∀c y:Nat,c<=64->y<=64->G.fn yk [.int c,.int y]=O (.ok (.lst (nT c y)))) (p3:∀(c r:Int) (T row:List D),T[0]?=O (.lst row)->G.mo "Pile" [.int c,.int r,.lst T,.tup [],.tup []]=O (.ok (bM c r row.length T.length T [] [])))  (hc:1<=c) (hr:1<=r) (ao:c*r<=64):bC G 3 uQ [.int c,.int r]=O (.ok (bM c r c r (fV c r) [] [])):=by
 have fx:c<=64:=ug (Nat.le_mul_of_pos_right c hr) ao;have hr2:r<=64:=ug (Nat.le_mul_of_pos_left r hc) ao;have e:=yI (G:=G) (B:=[.im (.int c),.im (.int r),.un]) (n:=3) (fr:=[(2,0)]) (tg:=[1]) (tp:=J) (k:=.rng) (src:=.tup (.cons (.v 1) .nil)) (test:=.L (.bl Y)) (elt:=.call yk (.cons (.v 2) (.cons (.v 1) .nil))) (λd=>match d with | .int y=>.lst (nT c y.toNat)|_=>.non) (s:=.tup [.int r]) (by simp only[yw]) (AO yx) (λd hd=>by obtain⟨y,rfl,h1,h2⟩:=pI hd;obtain⟨k,rfl⟩:∃k:Nat,y=k:=⟨y.toNat,yx⟩;refine⟨[.un,.im (.int k),.im (.int c)],rfl,by simp only[yw],?_⟩;simp only[yw,z c k fx yx];rfl);have e2:(cQ 0 (r:Int)).map (λd=>match d with | .int y=>D.lst (nT c y.toNat)|_=>.non)=fV c r:=by rw[kR];simp[fV]
 rw[e2]at e;have I:af .mul (.int (c:Int)) (.int (r:Int))=O (.int (c*r)):=nJ yx yx;have ht:(fV c r)[0]?=O (.lst (nT c 0)):=by unfold fV;rw[sv,vk hr];rfl
 have e3:=p3 c r (fV c r) (nT c 0) ht;have l1:(nT c 0).length=c:=by simp[nT]
 have l2:(fV c r).length=r:=by simp[fV]
 rw[l1,l2]at e3;refine aK (B:=[.im (.int c),.im (.int r),.un]) rfl (aG (cC ?_ aW) (aG (aO e) (aR ?_)));rw[eW,eW,CD,aY,HJ hm I (by simp only[yw]) (by simp only[yw])];have h3:((c:Int)*r)<=64:=by exact_mod_cast ao
 rw[tj (show ¬(c:Int)<1 by lia),tj (show ¬(r:Int)<1 by lia),tj (show ¬64<(c:Int)*r by lia)];rfl;show ev G _ [.im (.int c),.im (.int r),.im (.lst (fV c r))]=_;simp only[yw,e3]
end
noncomputable def cy:List Str:=[yq,"rows","wide","high","table","folds",yo]
section
variable {G:GS}{c r w h:Int}{T F S:List D}{B:List Sl}{a:IE}
def kB(hf:G.fl "Pile"=cy)(e:ev G a B=O (bM c r w h T F S)):ev G (.fld a yq) B=O (.int c):=by rw[jM,e];show (if (G.fl "Pile").contains _ then _ else _)=_;rw[hf];rfl
def uD(hf:G.fl "Pile"=cy)(e:ev G a B=O (bM c r w h T F S)):ev G (.fld a "rows") B=O (.int r):=by rw[jM,e];show (if (G.fl "Pile").contains _ then _ else _)=_;rw[hf];rfl
def jC(hf:G.fl "Pile"=cy)(e:ev G a B=O (bM c r w h T F S)):ev G (.fld a "wide") B=O (.int w):=by rw[jM,e];show (if (G.fl "Pile").contains _ then _ else _)=_;rw[hf];rfl
def jE(hf:G.fl "Pile"=cy)(e:ev G a B=O (bM c r w h T F S)):ev G (.fld a "high") B=O (.int h):=by rw[jM,e];show (if (G.fl "Pile").contains _ then _ else _)=_;rw[hf];rfl
def uC(hf:G.fl "Pile"=cy)(e:ev G a B=O (bM c r w h T F S)):ev G (.fld a "table") B=O (.lst T):=by rw[jM,e];show (if (G.fl "Pile").contains _ then _ else _)=_;rw[hf];rfl
def uE(hf:G.fl "Pile"=cy)(e:ev G a B=O (bM c r w h T F S)):ev G (.fld a "folds") B=O (.tup F):=by rw[jM,e];show (if (G.fl "Pile").contains _ then _ else _)=_;rw[hf];rfl
def kA(hf:G.fl "Pile"=cy)(e:ev G a B=O (bM c r w h T F S)):ev G (.fld a yo) B=O (.tup S):=by rw[jM,e];show (if (G.fl "Pile").contains _ then _ else _)=_;rw[hf];rfl
def oY{m:Str}{es:IE}{ds:List D}{o:Option Rs}(hm:([(yq,D.int c),("rows",.int r),("wide",.int w),("high",.int h),("table",.lst T),("folds",.tup F),(yo,.tup S)]:List (Str×D)).lookup m=U)(e:ev G a B=O (bM c r w h T F S))(ea:ev G es B=O (.tup ds))(z:G.me "Pile" m (bM c r w h T F S::ds)=o):ev G (.meth a m es) B=gF o:=by rw[kI,e];show (if (List.lookup m _).isNone=Y then _ else _)=_;rw[hm,ea];show gF (G.me "Pile" m (bM c r w h T F S::ds))=_;rw[z]
noncomputable def uR:IS:=(.seq (.g (.or (.b .lt (.v 1) (.L (.int 0))) (.or (.b .ge (.v 1) (.fld (.v 0) "wide")) (.or (.b .lt (.v 2) (.L (.int 0))) (.b .ge (.v 2) (.fld (.v 0) "high"))))) (.rse "NoPlace") .nop) (.ret (.ρ .list (.cons (.ix (.ix (.fld (.v 0) "table") (.v 2)) (.v 1)) .nil))))
def HW(hf:G.fl "Pile"=cy){x y:Int}:ev G (.or (.b .lt (.v 1) (.L (.int 0))) (.or (.b .ge (.v 1) (.fld (.v 0) "wide")) (.or (.b .lt (.v 2) (.L (.int 0))) (.b .ge (.v 2) (.fld (.v 0) "high"))))) [.im (bM c r w h T F S),.im (.int x),.im (.int y)] =O (.bl (decide (x<0) || (decide (w<=x) || (decide (y<0) || decide (h<=y))))):=by
 have z:ev G (.v 0) [.im (bM c r w h T F S),.im (.int x),.im (.int y)]=O (bM c r w h T F S):=by simp only[yw]
 refine cD (by simp only[yw]) λ_=>cD ?_ λ_=>cD (by simp only[yw]) λ_=>?_;rw[bA,jC hf z];simp only[yw];rw[bA,jE hf z];simp only[yw]
def YH(hf:G.fl "Pile"=cy){y:Nat}{row hp:List D}(hw:(x:Int)<w)(I:(y:Int)<h)(h1:T[y]?=O (.lst row))(h2:row[x]?=O (.lst hp)):bC G 3 uR [bM c r w h T F S,.int x,.int y]=O (.ok (.lst hp)):=by
 have z:ev G (.v 0) [.im (bM c r w h T F S),.im (.int x),.im (.int y)]=O (bM c r w h T F S):=by simp only[yw]
 refine aK (B:=[.im (bM c r w h T F S),.im (.int x),.im (.int y)]) rfl (aG (cC ?_ aW) (aR ?_));rw[eW,eW,eW,aY,HW hf];rw[tj (show ¬(x:Int)<0 by lia),tj (show ¬w<=(x:Int) by lia),tj (show ¬(y:Int)<0 by lia),tj (show ¬h<=(y:Int) by lia)];rfl;simp only[yw,uC hf z,eL h1,eL h2]
noncomputable def uS:IS:=(.ret (.ρ .list (.cons (.fld (.v 0) "folds") .nil)))
def YT(hf:G.fl "Pile"=cy):bC G 1 uS [bM c r w h T F S]=O (.ok (.lst F)):=by
 have z:ev G (.v 0) [.im (bM c r w h T F S)]=O (bM c r w h T F S):=by simp only[yw]
 refine aK (B:=[.im (bM c r w h T F S)]) rfl (aR ?_);simp only[yw,uE hf z]
noncomputable def mU:IS:=(.seq (.g (.b .lt (.v 1) (.ρ .len (.cons (.v 0) .nil))) (.ret (.ix (.v 0) (.v 1))) .nop) (.ret (.L (.int 0))))
noncomputable def de(ns:List Int)(k:Nat):Int:=ns.getD k 0
def BR{ns:List Int}{k:Nat}:bC G 2 mU [.frz (ns.map .int),.int k]=O (.ok (.int (de ns k))):=by
 have e:ev G (.b .lt (.v 1) (.ρ .len (.cons (.v 0) .nil))) [.im (.frz (ns.map .int)),.im (.int k)]=O (.bl (decide ((k:Int)<ns.length))):=by simp only[yw,t8]
 by_cases hk:k<ns.length;refine aK (B:=[.im (.frz (ns.map .int)),.im (.int k)]) rfl (gC (hZ ?_ (aR (d:=.int (de ns k)) ?_)) (λ_ z=>by cases z));rw[eW,eW,aY,e,uv yx];have:(ns.map D.int)[k]?=O (.int (de ns k)):=by unfold de;rw[sv,sk,su hk];rfl
 simp only[yw,eL this];refine aK (B:=[.im (.frz (ns.map .int)),.im (.int k)]) rfl (aG (cC ?_ aW) (aR ?_));rw[eW,eW,aY,e,tj yx];have:de ns k=0:=by unfold de;rw[sk,List.getElem?_eq_none yx];rfl
 simp only[yw,this]
noncomputable def uM:IS:=(.ret (.and (.y (.v 0) "int") (.not (.tr (.y (.v 0) "bool")))))
def xR:jG G "int" (.int i)=O Y:=by simp only[jG];rw[if_pos trivial]
def uI:jG G "bool" (.int i)=O J:=by simp only[jG];rw[if_neg y7,if_pos (.inl trivial)]
def nN{b:Bool}:jG G "bool" (.bl b)=O Y:=by simp only[jG];rw[if_pos (.inr trivial)]
def DW{xs:List D}:jG G "list" (.lst xs)=O Y:=by simp only[jG];rw[if_pos trivial]
def DV{xs:List D}:jG G "tuple" (.tup xs)=O Y:=by simp only[jG];rw[if_pos trivial]
def IW:bC G 1 uM [.int i]=O (.ok (.bl Y)):=by refine aK (B:=[.im (.int i)]) rfl (aR ?_);simp only[yw,xR,uI,cv];rfl
end
end Pg
theorem yU{R:Type}{f:D->Option (Option D)}{enc:R->D}{g:R->D}:∀{L:List R},(∀a∈L,f (enc a)=O (O (g a)))->cG f (L.map enc)=O (L.map g)
 |[],_=>rfl
 |a::r,e=>by rw[uu];unfold cG;rw[e a (vi),yU λx hx=>e x (tw _ hx)];rfl
def bN{R:Type}{G:GS}{B:List Sl}{fr:List (Nat×Nat)}{k:Src}{src test elt:IE}{s:D}{L:List R}(enc g:R->D)(h1:ev G src B=O s)(h2:items k s=O (L.map enc)) (h3:∀a∈L,∃ρ1,bB tg tp (enc a) (frame n fr B)=O ρ1/\ev G test ρ1=O (.bl Y)/\ev G elt ρ1=O (g a)):ev G (.c n fr tg tp k src test elt) B=O (.lst (L.map g)):=by rw[vH,h1,vg,h2,vg,yU (g:=g)];rfl;intro a ha;obtain⟨ρ1,e1,e2,e3⟩:=h3 a ha;rw[e1,vg,e2,vg];show Option.map O (ev G elt ρ1)=_;rw[e3];rfl
def cY(h:n<=1000000):items .rng (.tup [.int (n:Int)])=O ((List.range n).map λ(k:Nat)=>D.int k):=by rw[AO h,kR]
def cM{xs:List D}:items .seq (.lst xs)=O xs:=id rfl
def AQ{xs:List D}:items .rev (.lst xs)=O xs.reverse:=id rfl
namespace Pg
abbrev Cell:=Int×Bool×Bool
abbrev dP:=List Cell
abbrev bK:=List dP
abbrev Table:=List bK
noncomputable def du(c:Cell):D:=.tup [.int c.1,.bl c.2.1,.bl c.2.2]
def hE(h:dP):D:=.lst (h.map du)
def sE(s:bK):D:=.lst (s.map hE)
def tE(T:Table):D:=.lst (T.map sE)
inductive Side|west|east|north|south deriving DecidableEq
noncomputable def Side.str:Side->Str
 |.west=>"west" | .east=>"east" | .north=>"north" | .south=>"south"
noncomputable def Side.up:Side->Bool
 |.west=>Y | .east=>Y | .north=>J | .south=>J
noncomputable def Side.near:Side->Bool
 |.west=>Y | .east=>J | .north=>Y | .south=>J
def CK(up:Bool)(c:Cell):Cell:=if up then(c.1,!c.2.1,c.2.2) else(c.1,c.2.1,!c.2.2)
def kM(up:Bool)(h:dP):dP:=h.reverse.map (CK up)
def fJ(up:Bool)(p:bK):bK:=p.map (kM up)
def kf(u l:bK):bK:=(List.range (max u.length l.length)).map λk=>u.getD k []++l.getD k []
def cZ(z st:bK)(over:Bool):bK:=kf (if over then z else st) (if over then st else z)
def eO(sd:Side)(over:Bool)(c:Nat)(s:bK):bK:=
 if sd.near then cZ (fJ sd.up (s.take c).reverse) (s.drop c) over else(cZ (fJ sd.up (s.drop c)) (s.take c).reverse over).reverse
noncomputable def width(T:Table):Nat:=(T.getD 0 []).length
def transp(T:Table):Table:=(List.range (width T)).map λx=>T.map λs=>s.getD x []
def foldT(sd:Side)(over:Bool)(c:Nat)(T:Table):Table:=if sd.up then T.map (eO sd over c) else transp ((transp T).map (eO sd over c))
section
variable {G:GS}
noncomputable def l5:D:=.tup [.str "west",.str "east"]
noncomputable def nz:D:=.tup [.str "north",.str "south"]
noncomputable def cNR:D:=.tup [.str "west",.str "north"]
def AD{a:D}{ys:List D}{b:Bool}(hp:(plain a&&ys.all plain)=Y)(hb:(ys.any λy=>bw y a)=b):af .isin a (.tup ys)=O (.bl b):=by simp only[af,oIn];rw[if_pos hp,hb]
def MQ:af .isin (.str sd.str) l5=O (.bl sd.up):=by cases sd<;>exact AD y7 y7
def aAf:af .isin (.str sd.str) nz=O (.bl (!sd.up)):=by cases sd<;>exact AD y7 y7
def aGe:af .isin (.str sd.str) cNR=O (.bl sd.near):=by cases sd<;>exact AD y7 y7
noncomputable def mT:IS:=(.ret (.q (.b .lt (.v 1) (.ρ .len (.cons (.v 0) .nil))) (.ix (.v 0) (.v 1)) (.lst .nil)))
def BG{p:bK}{k:Nat}:bC G 2 mT [sE p,.int k]=O (.ok (hE (p.getD k []))):=by
 refine aK (B:=[.im (sE p),.im (.int k)]) rfl (aR ?_);have e:ev G (.b .lt (.v 1) (.ρ .len (.cons (.v 0) .nil))) [.im (sE p),.im (.int k)]=O (.bl (decide ((k:Int)<p.length))):=by unfold sE;simp only[yw,t8]
 by_cases hk:k<p.length;have h1:(p.map hE)[k]?=O (hE (p.getD k [])):=by rw[sv,sk,su hk];rfl
 rw[mY,e,uv yx];unfold sE;simp only[yw,eL h1];have h1:p.getD k []=[]:=by rw[sk,List.getElem?_eq_none yx];rfl
 rw[mY,e,tj yx,h1];simp only[yw];rfl
noncomputable def gQ:IS:=(.seq (.g (.b .isin (.v 1) (.o wu)) (.ret (.c 4 [] [1,2,3] Y .rev (.v 0) (.L (.bl Y)) (.tup (.cons (.v 1) (.cons (.not (.tr (.v 2))) (.cons (.v 3) .nil)))))) .nop) (.ret (.c 4 [] [1,2,3] Y .rev (.v 0) (.L (.bl Y)) (.tup (.cons (.v 1) (.cons (.v 2) (.cons (.not (.tr (.v 3))) .nil)))))))
def oS(hc:G.cst wu = O l5){h:dP}:bC G 2 gQ [hE h,.str sd.str]=O (.ok (hE (kM sd.up h))):=by
 have I:ev G (.b .isin (.v 1) (.o wu)) (view [.im (hE h),.im (.str sd.str)])=O (.bl sd.up):=by simp only[yw,hc,MQ]
 have er:items .rev (hE h)=O (h.reverse.map du):=by unfold hE;rw[AQ,List.map_reverse]
 cases hs:sd.up with
 |true=>refine aK (B:=[.im (hE h),.im (.str sd.str)]) rfl (gC (hZ (I.trans (by rw[hs])) (aR (d:=hE (kM Y h)) ?_)) (λ_ z=>by cases z));have e:=bN (G:=G) (B:=[.im (hE h),.im (.str sd.str)]) (n:=4) (fr:=[]) (tg:=[1,2,3]) (tp:=Y) (k:=.rev) (src:=.v 0) (test:=.L (.bl Y)) (elt:=.tup (.cons (.v 1) (.cons (.not (.tr (.v 2))) (.cons (.v 3) .nil)))) (L:=h.reverse) du (λc=>du (CK Y c)) (by simp only[yw]) er (λc _=>⟨[.un,.im (.int c.1),.im (.bl c.2.1),.im (.bl c.2.2)],rfl,by simp only[yw],by simp only[yw,cv];rfl⟩);rw[e];unfold hE kM;rw[vq];rfl
 |false=>refine aK (B:=[.im (hE h),.im (.str sd.str)]) rfl (aG (cC (I.trans (by rw[hs])) aW) (aR ?_));have e:=bN (G:=G) (B:=[.im (hE h),.im (.str sd.str)]) (n:=4) (fr:=[]) (tg:=[1,2,3]) (tp:=Y) (k:=.rev) (src:=.v 0) (test:=.L (.bl Y)) (elt:=.tup (.cons (.v 1) (.cons (.v 2) (.cons (.not (.tr (.v 3))) .nil)))) (L:=h.reverse) du (λc=>du (CK J c)) (by simp only[yw]) er (λc _=>⟨[.un,.im (.int c.1),.im (.bl c.2.1),.im (.bl c.2.2)],rfl,by simp only[yw],by simp only[yw,cv];rfl⟩);rw[e];unfold hE kM;rw[vq];rfl
noncomputable def gP:IS:=(.ret (.c 3 [(2,1)] [1] J .seq (.v 0) (.L (.bl Y)) (.call xq (.cons (.v 1) (.cons (.v 2) .nil)))))
def oR(z:∀(h:dP) (sd:Side),G.fn xq [hE h,.str sd.str]=O (.ok (hE (kM sd.up h)))){p:bK}:bC G 2 gP [sE p,.str sd.str]=O (.ok (sE (fJ sd.up p))):=by refine aK (B:=[.im (sE p),.im (.str sd.str)]) rfl (aR ?_);refine(bN (L:=p) hE (λh=>hE (kM sd.up h)) (s:=sE p) (by simp only[yw]) (by unfold sE;exact cM) (λh _=>⟨[.un,.im (hE h),.im (.str sd.str)],rfl,by simp only[yw],by simp only[yw,z]⟩)).trans ?_;unfold sE fJ;rw[vq];rfl
def aHu{a:Nat}:bf .max [.int (a:Int),.int (b:Int)]=O (.int ((max a b:Nat):Int)):=by simp only[bf,PZ];by_cases h:(b:Int) > a;rw[if_pos h];rw[Nat.max_eq_right yx];rw[if_neg h];rw[Nat.max_eq_left yx]
def aHE{a b:dP}(h:a.length+b.length<=1000000):af .add (hE a) (hE b)=O (hE (a++b)):=by unfold hE;simp only[af,XA];rw[if_pos (by simp only[t8];exact h),vn]
noncomputable def fI:IS:=(.seq (.set 3 (.q (.tr (.v 2)) (.v 0) (.v 1))) (.seq (.set 4 (.q (.tr (.v 2)) (.v 1) (.v 0))) (.seq (.set 5 (.ρ .max (.cons (.ρ .len (.cons (.v 3) .nil)) (.cons (.ρ .len (.cons (.v 4) .nil)) .nil)))) (.ret (.c 4 [(2,4),(3,3)] [1] J .rng (.tup (.cons (.v 5) .nil)) (.L (.bl Y)) (.b .add (.call yp (.cons (.v 3) (.cons (.v 1) .nil))) (.call yp (.cons (.v 2) (.cons (.v 1) .nil)))))))))
def Few(b:Nat)(p:bK):Prop:=∀h∈p,h.length<=b
def Few.at_{p:bK}(h:Few b p)(k:Nat):(p.getD k []).length<=b:=by
 rw[sk];cases e:p[k]? with
 |none=>exact vz _
 |some x=>exact h x (sq e)
def mO(hh:∀(p:bK) (k:Nat),G.fn yp [sE p,.int k]=O (.ok (hE (p.getD k [])))){z st:bK}(l1:z.length<=1000)(l2:st.length<=1000)(f1:Few 400000 z)(f2:Few 400000 st):bC G 6 fI [sE z,sE st,.bl over]=O (.ok (sE (cZ z st over))):=by
 have I:∀u l:bK,u.length<=1000->l.length<=1000->Few 400000 u->Few 400000 l->∀s0 s1 s2,ex G (.seq (.set 5 (.ρ .max (.cons (.ρ .len (.cons (.v 3) .nil)) (.cons (.ρ .len (.cons (.v 4) .nil)) .nil)))) (.ret (.c 4 [(2,4),(3,3)] [1] J .rng (.tup (.cons (.v 5) .nil)) (.L (.bl Y)) (.b .add (.call yp (.cons (.v 3) (.cons (.v 1) .nil))) (.call yp (.cons (.v 2) (.cons (.v 1) .nil))))))) [s0,s1,s2,.im (sE u),.im (sE l),.un]=O (.rt (sE (kf u l))):=λu l a1 a2 b1 b2 s0 s1 s2=>by refine aG (aO (d:=.int ((max u.length l.length:Nat):Int)) (by unfold sE;simp only[yw,t8,aHu])) (aR ?_);show ev G _ [s0,s1,s2,.im (sE u),.im (sE l),.im (.int ((max u.length l.length:Nat):Int))]=_;refine(bN (L:=List.range (max u.length l.length)) (λk=>.int (k:Nat)) (λk=>hE (u.getD k []++l.getD k [])) (s:=.tup [.int ((max u.length l.length:Nat):Int)]) (by simp only[yw]) (cY yx) (λk _=>⟨[.un,.im (.int k),.im (sE l),.im (sE u)],rfl,by simp only[yw],?_⟩)).trans ?_;have:=b1.at_ k;have:=b2.at_ k;simp only[yw,hh,aHE (show (u.getD k []).length+(l.getD k []).length<=1000000 by lia)];unfold kf sE;rw[vq];rfl
 cases over with
 |true=>exact aK (B:=[.im (sE z),.im (sE st),.im (.bl Y),.un,.un,.un]) rfl (aG (aO (d:=sE z) (by simp only[yw,cv])) (aG (aO (d:=sE st) (by simp only[List.set];simp only[yw,cv])) (I z st l1 l2 f1 f2 _ _ _)))
 |false=>exact aK (B:=[.im (sE z),.im (sE st),.im (.bl J),.un,.un,.un]) rfl (aG (aO (d:=sE st) (by simp only[yw,cv])) (aG (aO (d:=sE z) (by simp only[List.set];simp only[yw,cv])) (I st z l2 l1 f2 f1 _ _ _)))
end
def QV{R:Type}{xs:List R}:cut xs U (O (c:Int))=xs.take c:=by simp only[cut,sIx];rw[if_neg yx];simp only[drop_zero,Nat.sub_zero,Int.toNat_natCast];by_cases h:c<=xs.length;rw[min_eq_left h];rw[Nat.min_eq_right yx,take_of_length_le yx,take_of_length_le yx]
def QW{R:Type}{xs:List R}:cut xs (O (c:Int)) U=xs.drop c:=by simp only[cut,sIx];rw[if_neg yx];simp only[Int.toNat_natCast];by_cases h:c<=xs.length;rw[min_eq_left h,take_of_length_le (by rw[w8];exact t9 _)];rw[Nat.min_eq_right yx,List.drop_of_length_le yx,List.drop_of_length_le yx,List.take_nil]
def Few.sub{p q:bK}(h:Few b p)(s:∀x∈q,x∈p):Few b q:=λx hx=>h x (s x hx)
def Few.turn{p:bK}{u:Bool}(h:Few b p):Few b (fJ u p):=by intro x hx;unfold fJ at hx;obtain⟨y,hy,rfl⟩:=ux.mp hx;unfold kM;rw[t8,w4];exact h y hy
def CN{u l:bK}:(kf u l).length=max u.length l.length:=by unfold kf;simp
def lE{u l:bK}:(cZ u l over).length=max u.length l.length:=by
 unfold cZ;cases over with
 |true=>exact CN
 |false=>rw[Nat.max_comm];exact CN
def jT{u:Bool}{p:bK}:(fJ u p).length=p.length:=by unfold fJ;simp
def IA{s:bK}(h:c<=s.length):(eO sd over c s).length=max c (s.length-c):=by unfold eO;split;rw[lE,jT,w4,v7,w8,min_eq_left h];rw[w4,lE,jT,w4,v7,w8,min_eq_left h,Nat.max_comm]
section
variable {G:GS}
noncomputable def gB:IS:=(.seq (.set 4 (.walk .rev (.sl (.v 0) J (.L .non) Y (.v 3)))) (.seq (.set 5 (.sl (.v 0) Y (.v 3) J (.L .non))) (.seq (.g (.b .isin (.v 1) (.o yb)) (.ret (.call wz (.cons (.call xo (.cons (.v 4) (.cons (.v 1) .nil))) (.cons (.v 5) (.cons (.v 2) .nil))))) .nop) (.seq (.set 6 (.call wz (.cons (.call xo (.cons (.v 5) (.cons (.v 1) .nil))) (.cons (.v 4) (.cons (.v 2) .nil))))) (.ret (.walk .rev (.v 6)))))))
def nW(hc:G.cst yb = O cNR)(ht:∀(p:bK) (sd:Side),G.fn xo [sE p,.str sd.str]=O (.ok (sE (fJ sd.up p)))) (hl:∀(I st:bK) (over:Bool),I.length<=1000->st.length<=1000->Few 400000 I->Few 400000 st->G.fn wz [sE I,sE st,.bl over]=O (.ok (sE (cZ I st over)))) {s:bK}    (ls:s.length<=1000) (hf:Few 400000 s):bC G 7 gB [sE s,.str sd.str,.bl over,.int c]=O (.ok (sE (eO sd over c s))):=by
 have a1:Few 400000 (s.take c).reverse:=hf.sub λx hx=>List.mem_of_mem_take (List.mem_reverse.mp hx);have a2:Few 400000 (s.drop c):=hf.sub λx hx=>mem_of_mem_drop hx;have l1:(s.take c).reverse.length<=1000:=by rw[w4,v7];lia
 have l2:(s.drop c).length<=1000:=by rw[w8];lia
 have e1:ev G (.walk .rev (.sl (.v 0) J (.L .non) Y (.v 3))) [.im (sE s),.im (.str sd.str),.im (.bl over),.im (.int c),.un,.un,.un]=O (sE (s.take c).reverse):=by unfold sE;simp only[yw,part,intOf];simp only[tu,if_false,if_true];simp only[yw,QV,AQ];rw[<-map_take,<-List.map_reverse]
 have e2:ev G (.sl (.v 0) Y (.v 3) J (.L .non)) [.im (sE s),.im (.str sd.str),.im (.bl over),.im (.int c),.im (sE (s.take c).reverse),.un,.un]=O (sE (s.drop c)):=by unfold sE;simp only[yw,part,intOf];simp only[tu,if_false,if_true];simp only[yw,QW];rw[<-List.map_drop]
 have et:ev G (.b .isin (.v 1) (.o yb)) (view [.im (sE s),.im (.str sd.str),.im (.bl over),.im (.int c),.im (sE (s.take c).reverse),.im (sE (s.drop c)),.un])=O (.bl sd.near):=by simp only[yw,hc,aGe]
 refine aK (B:=[.im (sE s),.im (.str sd.str),.im (.bl over),.im (.int c),.un,.un,.un]) rfl (aG (aO e1) (aG (aO e2) ?_));show ex G _ [.im (sE s),.im (.str sd.str),.im (.bl over),.im (.int c),.im (sE (s.take c).reverse),.im (sE (s.drop c)),.un]=_;cases hn:sd.near with
 |true=>refine gC (hZ (et.trans (by rw[hn])) (aR ?_)) (λ_ z=>by cases z);unfold eO;rw[if_pos hn];simp only[yw,ht,hl (fJ sd.up (s.take c).reverse) (s.drop c) over (by rw[jT];exact l1) l2 a1.turn a2]
 |false=>refine aG (cC (et.trans (by rw[hn])) aW) (aG (aO (d:=sE (cZ (fJ sd.up (s.drop c)) (s.take c).reverse over)) ?_) (aR ?_));simp only[yw,ht,hl (fJ sd.up (s.drop c)) (s.take c).reverse over (by rw[jT];exact l2) l1 a2.turn a1];show ev G _ [.im (sE s),.im (.str sd.str),.im (.bl over),.im (.int c),.im (sE (s.take c).reverse),.im (sE (s.drop c)),.im (sE (cZ (fJ sd.up (s.drop c)) (s.take c).reverse over))]=_;unfold eO;rw[if_neg (by rw[hn];decide)];unfold sE;simp only[yw,AQ];rw[<-List.map_reverse]
noncomputable def jI:IS:=(.ret (.c 3 [(2,1)] [1] J .seq (.v 0) (.L (.bl Y)) (.ix (.v 1) (.v 2))))
def vR{T:Table}(h:∀s∈T,x<s.length):bC G 2 jI [tE T,.int x]=O (.ok (sE (T.map λs=>s.getD x []))):=by
 refine aK (B:=[.im (tE T),.im (.int x)]) rfl (aR ?_);refine(bN (L:=T) sE (λs=>hE (s.getD x [])) (s:=tE T) (by simp only[yw]) (by unfold tE;exact cM) (λs hs=>⟨[.un,.im (sE s),.im (.int x)],rfl,by simp only[yw],?_⟩)).trans ?_;have h1:(s.map hE)[x]?=O (hE (s.getD x [])):=by rw[sv,sk,su (h s hs)];rfl
 unfold sE;simp only[yw,eL h1];unfold sE;rw[vq];rfl
structure Rect (T:Table) (w h:Nat):Prop where
 len:T.length=h
 row:∀s∈T,s.length=w
 h1:1<=h
 w1:1<=w
theorem Rect.width{T:Table}(r:Rect T w h):Pg.width T=w:=by obtain⟨len,row,h1,w1⟩:=r;unfold Pg.width;rw[sk,su yx];exact row _ (w9 _)
theorem Rect.transp{T:Table}{w h:Nat}(r:Rect T w h):Rect (transp T) h w:=by refine⟨?_,λs hs=>?_,r.w1,r.h1⟩;unfold Pg.transp;rw[t8,uc,r.width];unfold Pg.transp at hs;obtain⟨x,_,rfl⟩:=ux.mp hs;rw[t8,r.len]
noncomputable def iI:IS:=(.ret (.c 3 [(2,0)] [1] J .rng (.tup (.cons (.ρ .len (.cons (.ix (.v 0) (.L (.int 0))) .nil)) .nil)) (.L (.bl Y)) (.call yf (.cons (.v 2) (.cons (.v 1) .nil)))))
def qV(hc:∀(T:Table) (x:Nat),(∀s∈T,x<s.length)->G.fn yf [tE T,.int x]=O (.ok (sE (T.map λs=>s.getD x [])))){T:Table}(r:Rect T w h)(hw:w<=1000):bC G 1 iI [tE T]=O (.ok (tE (transp T))):=by
 refine aK (B:=[.im (tE T)]) rfl (aR ?_);have h0:(T.map sE)[0]?=O (sE (T.getD 0 [])):=by have:=r.len;have:=r.h1;rw[sv,sk,su yx];rfl
 have I:atI (T.map sE) 0=O (sE (T.getD 0 [])):=eL (k:=0) h0;refine(bN (L:=List.range (width T)) (λk=>.int (k:Nat)) (λx=>sE (T.map λs=>s.getD x [])) (s:=.tup [.int (width T:Nat)]) ?_ (cY (by rw[r.width];lia)) (λx hx=>⟨[.un,.im (.int x),.im (tE T)],rfl,by simp only[yw],?_⟩)).trans ?_;unfold tE;simp only[yw,I];unfold sE;simp only[yw,t8];rfl;have z:x<w:=by rw[<-r.width];exact vy.mp hx
 simp only[yw,hc T x (λs hs=>by rw[r.row s hs];exact z)];unfold tE transp;rw[vq];rfl
def rH(b:Nat)(T:Table):Prop:=∀s∈T,Few b s
theorem rH.transp{b:Nat}{T:Table}(h:rH b T):rH b (transp T):=by intro s hs;unfold Pg.transp at hs;obtain⟨x,_,rfl⟩:=ux.mp hs;intro y hy;obtain⟨s,hs,rfl⟩:=ux.mp hy;exact(h s hs).at_ x
def Rect.fold{T:Table}(r:Rect T w h)(h1:1<=c)(h2:c<w):Rect (T.map (eO sd over c)) (max c (w-c)) h:=by refine⟨by rw[t8,r.len],λs hs=>?_,r.h1,yx⟩;obtain⟨s',z,rfl⟩:=ux.mp hs;rw[IA (by rw[r.row s' z];lia),r.row s' z]
theorem Rect.foldT{T:Table}{w h:Nat}{sd:Side}{over:Bool}{c:Nat}(r:Rect T w h)(h1:1<=c)(h2:c<if sd.up then w else h):Rect (foldT sd over c T) (if sd.up then max c (w-c) else w) (if sd.up then h else max c (h-c)):=by
 unfold Pg.foldT;cases hs:sd.up with
 |true=>rw[hs]at h2;exact r.fold h1 h2
 |false=>rw[hs]at h2;exact(r.transp.fold h1 h2).transp
noncomputable def gA:IS:=(.seq (.g (.b .isin (.v 1) (.o wu)) (.ret (.c 5 [(2,3),(3,2),(4,1)] [1] J .seq (.v 0) (.L (.bl Y)) (.call xb (.cons (.v 1) (.cons (.v 4) (.cons (.v 3) (.cons (.v 2) .nil))))))) .nop) (.seq (.set 4 (.c 5 [(2,3),(3,2),(4,1)] [1] J .seq (.call xw (.cons (.v 0) .nil)) (.L (.bl Y)) (.call xb (.cons (.v 1) (.cons (.v 4) (.cons (.v 3) (.cons (.v 2) .nil))))))) (.ret (.call xw (.cons (.v 4) .nil)))))
def nV(hc:G.cst wu = O l5)(ht:∀(T:Table) (w h:Nat),Rect T w h->w<=1000->G.fn xw [tE T]=O (.ok (tE (transp T)))) (hs:∀(s:bK) (sd:Side) (over:Bool) (c:Nat),s.length<=1000->Few 400000 s->G.fn xb [sE s,.str sd.str,.bl over,.int c]=O (.ok (sE (eO sd over c s)))) {T:Table}     (r:Rect T w h) (hw:w<=1000) (hh:h<=1000) (hf:rH 400000 T) (h1:1<=c) (h2:c<if sd.up then w else h):bC G 5 gA [tE T,.str sd.str,.bl over,.int c]=O (.ok (tE (foldT sd over c T))):=by
 have et:ev G (.b .isin (.v 1) (.o wu)) (view [.im (tE T),.im (.str sd.str),.im (.bl over),.im (.int c),.un])=O (.bl sd.up):=by simp only[yw,hc,MQ]
 cases hu:sd.up with
 |true=>refine aK (B:=[.im (tE T),.im (.str sd.str),.im (.bl over),.im (.int c),.un]) rfl (gC (hZ (et.trans (by rw[hu])) (aR ?_)) (λ_ z=>by cases z));refine(bN (L:=T) sE (λs=>sE (eO sd over c s)) (s:=tE T) (by simp only[yw]) (by unfold tE;exact cM) (λs I=>⟨[.un,.im (sE s),.im (.int c),.im (.bl over),.im (.str sd.str)],rfl,by simp only[yw],?_⟩)).trans ?_;simp only[yw,hs s sd over c (by rw[r.row s I];exact hw) (hf s I)];unfold tE foldT;rw[if_pos hu,vq];rfl
 |false=>rw[hu]at h2;have h2:c<h:=h2;refine aK (B:=[.im (tE T),.im (.str sd.str),.im (.bl over),.im (.int c),.un]) rfl (aG (cC (et.trans (by rw[hu])) aW) (aG (aO (d:=tE ((transp T).map (eO sd over c))) ?_) (aR ?_)));refine(bN (L:=transp T) sE (λs=>sE (eO sd over c s)) (s:=tE (transp T)) (by simp only[yw,ht T w h r hw]) (by unfold tE;exact cM) (λs I=>⟨[.un,.im (sE s),.im (.int c),.im (.bl over),.im (.str sd.str)],rfl,by simp only[yw],?_⟩)).trans ?_;simp only[yw,hs s sd over c (by rw[r.transp.row s I];exact hh) (hf.transp s I)];unfold tE;rw[vq];rfl;show ev G _ [.im (tE T),.im (.str sd.str),.im (.bl over),.im (.int c),.im (tE ((transp T).map (eO sd over c)))]=_;unfold foldT;rw[if_neg (by rw[hu];decide)];simp only[yw,ht ((transp T).map (eO sd over c)) (max c (h-c)) w (r.transp.fold h1 h2) yx]
end
def aL(c r w h:Nat)(T:Table)(F S:List D):D:=bM c r w h (T.map sE) F S
noncomputable def gJ(c r:Nat):Table:=(List.range r).map λy=>(List.range c).map λx=>[(((y*c+x:Nat):Int),J,J)]
def wC:fV c r=(gJ c r).map sE:=by unfold fV gJ nT;rw[vq];congr 1;funext y;show _=D.lst (((List.range c).map _).map hE);rw[vq];rfl
def ID(hc:1<=c)(hr:1<=r):Rect (gJ c r) c r:=by refine⟨by unfold gJ;simp,λs hs=>?_,hr,hc⟩;unfold gJ at hs;obtain⟨y,_,rfl⟩:=ux.mp hs;simp
section
variable {G:GS}{c r w h:Nat}{T:Table}{F S:List D}
noncomputable def eQ:IS:=(.g (.tr (.fld (.v 0) yo)) (.rse "Severed") .nop)
def lN(hf:G.fl "Pile"=cy):bC G 1 eQ [aL c r w h T F []]=O (.ok .non):=by
 have z:ev G (.v 0) (view [.im (aL c r w h T F [])])=O (bM c r w h (T.map sE) F []):=by simp only[yw];rfl
 refine CZ (B:=[.im (aL c r w h T F [])]) (B':=[.im (aL c r w h T F [])]) rfl (cC ?_ aW);rw[nQ,kA hf z];rfl
noncomputable def iL:IS:=(.seq (.g (.b .isin (.v 1) (.o wu)) (.ret (.h .le .lt (.L (.int 1)) (.v 2) (.fld (.v 0) "wide"))) .nop) (.seq (.g (.b .isin (.v 1) (.o xt)) (.ret (.h .le .lt (.L (.int 1)) (.v 2) (.fld (.v 0) "high"))) .nop) (.ret (.L (.bl J)))))
def yW{B:List Sl}{a:IE}{j:Int}(h1:slot B 2=O (.int i))(h2:ev G a B=O (.int j)):ev G (.h .le .lt (.L (.int 1)) (.v 2) a) B=O (.bl (decide (1<=i)&&decide (i<j))):=by
 rw[yJ,qB,h1];simp only[yw];cases hb:decide (1<=i) with
 |true=>rw[h2];simp only[yw];rfl
 |false=>rfl
def rA(hf:G.fl "Pile"=cy)(h1:G.cst wu = O l5)(h2:G.cst xt = O nz):bC G 3 iL [aL c r w h T F S,.str sd.str,.int i]=O (.ok (.bl (decide (1<=i)&&decide (i<((if sd.up then w else h:Nat):Int))))):=by
 have e0:ev G (.v 0) [.im (aL c r w h T F S),.im (.str sd.str),.im (.int i)]=O (bM c r w h (T.map sE) F S):=by simp only[yw];rfl
 have I:ev G (.b .isin (.v 1) (.o wu)) (view [.im (aL c r w h T F S),.im (.str sd.str),.im (.int i)])=O (.bl sd.up):=by simp only[yw,h1,MQ]
 have el:ev G (.b .isin (.v 1) (.o xt)) (view [.im (aL c r w h T F S),.im (.str sd.str),.im (.int i)])=O (.bl (!sd.up)):=by simp only[yw,h2,aAf]
 cases hu:sd.up with
 |true=>exact aK (B:=[.im (aL c r w h T F S),.im (.str sd.str),.im (.int i)]) rfl (gC (hZ (I.trans (by rw[hu])) (aR (yW (by simp only[yw]) (jC hf e0)))) (λ_ z=>by cases z))
 |false=>exact aK (B:=[.im (aL c r w h T F S),.im (.str sd.str),.im (.int i)]) rfl (aG (cC (I.trans (by rw[hu])) aW) (gC (hZ (el.trans (by rw[hu];rfl)) (aR (yW (by simp only[yw]) (jE hf e0)))) (λ_ z=>by cases z)))
noncomputable def fK(sd:Side)(over:Bool)(k:Nat):D:=.tup [.str sd.str,.bl over,.int k]
noncomputable def pQ:IS:=(.seq (.drop (.call wt (.cons (.v 0) .nil))) (.seq (.g (.not (.tr (.call x8 (.cons (.v 0) (.cons (.v 1) (.cons (.v 3) .nil)))))) (.rse "NoFold") .nop) (.seq (.set 4 (.call xh (.cons (.fld (.v 0) "table") (.cons (.v 1) (.cons (.v 2) (.cons (.v 3) .nil)))))) (.seq (.set 5 (.b .add (.fld (.v 0) "folds") (.tup (.cons (.tup (.cons (.v 1) (.cons (.v 2) (.cons (.v 3) .nil)))) .nil)))) (.ret (.mk "Pile" (.cons (.fld (.v 0) yq) (.cons (.fld (.v 0) "rows") (.cons (.v 4) (.cons (.v 5) (.cons (.fld (.v 0) yo) .nil)))))))))))
def aGJ{a b:List D}(h:a.length+b.length<=1000000):af .add (.tup a) (.tup b)=O (.tup (a++b)):=by simp only[af,XA];rw[if_pos (by unfold big;exact h)]
def lU{B:List Sl}{e:IE}{d:D}(h:ev G e (view B)=O d):ex G (.drop e) B=O (.nx B):=by show (ev G e (view B)).map _=_;rw[h];rfl
def HZ(hf:G.fl "Pile"=cy)(hsv:∀(c r w h:Nat) (T:Table) (F:List D),G.fn wt [aL c r w h T F []]=O (.ok .non)) (ao:∀(c r w h:Nat) (T:Table) (F S:List D) (sd:Side) (i:Int),G.fn x8 [aL c r w h T F S,.str sd.str,.int i]=O (.ok (.bl (decide (1<=i)&&decide (i<((if sd.up then w else h:Nat):Int)))))) (hft:∀(T:Table) (w h:Nat) (sd:Side) (over:Bool) (k:Nat),Rect T w h->w<=1000->h<=1000->rH 400000 T->1<=k->(k<if sd.up then w else h)->G.fn xh [tE T,.str sd.str,.bl over,.int k]=O (.ok (tE (foldT sd over k T)))) (p3:∀(c r:Int) (T row:List D) (F S:List D),T[0]?=O (.lst row)->G.mo "Pile" [.int c,.int r,.lst T,.tup F,.tup S]=O (.ok (bM c r row.length T.length T F S)))   {k:Nat} (α:Rect T w h) (hw:w<=1000) (hh:h<=1000) (I:rH 400000 T) (h1:1<=k) (h2:k<if sd.up then w else h) (hF:F.length<=1000):bC G 6 pQ [aL c r w h T F [],.str sd.str,.bl over,.int k]=O (.ok (aL c r (if sd.up then max k (w-k) else w) (if sd.up then h else max k (h-k)) (foldT sd over k T) (F++[fK sd over k]) [])):=by
 have z:=α.foldT (over:=over) h1 h2;have e0:∀s4 s5,ev G (.v 0) [.im (aL c r w h T F []),.im (.str sd.str),.im (.bl over),.im (.int k),s4,s5]=O (bM c r w h (T.map sE) F []):=λ_ _=>by simp only[yw];rfl
 have ht:=hft T w h sd over k α hw hh I h1 h2;unfold tE at ht;have em:=p3 c r ((foldT sd over k T).map sE) (((foldT sd over k T).getD 0 []).map hE) (F++[fK sd over k]) [] (by have:=z.len;have:=z.h1;rw[sv,sk,su yx];rfl);rw[t8,t8,z.len,show ((foldT sd over k T).getD 0 []).length=_ from z.width]at em;refine aK (B:=[.im (aL c r w h T F []),.im (.str sd.str),.im (.bl over),.im (.int k),.un,.un]) rfl ?_;refine aG (lU (d:=.non) (by simp only[yw,hsv])) (aG (cC ?_ aW) (aG (aO (d:=.lst ((foldT sd over k T).map sE)) ?_) (aG (aO (d:=.tup (F++[fK sd over k])) ?_) (aR ?_))));have hb:(decide ((1:Int)<=(k:Int))&&decide ((k:Int)<((if sd.up then w else h:Nat):Int)))=Y:=by rw[u3,ub,ub];exact⟨yx,by exact_mod_cast h2⟩
 simp only[yw,ao,hb,cv,uo];rw[dR,aV,uC hf (e0 _ _)];simp only[yw,ht];show ev G _ [.im (aL c r w h T F []),.im (.str sd.str),.im (.bl over),.im (.int k),.im (.lst ((foldT sd over k T).map sE)),.un]=_;rw[bA,uE hf (e0 _ _)];simp only[yw,aGJ (show F.length + [D.tup [.str sd.str,.bl over,.int k]].length<=1000000 by simp only[vm,length_nil];lia)];rfl;show ev G _ [.im (aL c r w h T F []),.im (.str sd.str),.im (.bl over),.im (.int k),.im (.lst ((foldT sd over k T).map sE)),.im (.tup (F++[fK sd over k]))]=_;rw[QG,aV,kB hf (e0 _ _),aV,uD hf (e0 _ _)];simp only[yw,kA hf (e0 _ _),em];rfl
noncomputable def kE:IS:=(.seq (.set 3 (.or (.b .eq (.v 1) (.L (.int 1))) (.and (.b .gt (.v 2) (.L (.int 1))) (.b .eq (.b .mod (.v 0) (.L (.int 2))) (.L (.int 1)))))) (.seq (.set 4 (.q (.tr (.v 3)) (.v 2) (.v 1))) (.seq (.set 5 (.q (.tr (.v 3)) (.lst (.cons (.L (.str "north")) (.cons (.L (.str "south")) .nil))) (.lst (.cons (.L (.str "west")) (.cons (.L (.str "east")) .nil))))) (.ret (.tup (.cons (.ix (.v 5) (.b .mod (.b .fdiv (.v 0) (.L (.int 2))) (.L (.int 2)))) (.cons (.b .eq (.b .mod (.b .fdiv (.v 0) (.L (.int 4))) (.L (.int 2))) (.L (.int 1))) (.cons (.b .add (.L (.int 1)) (.b .mod (.b .fdiv (.v 0) (.L (.int 8))) (.b .sub (.v 4) (.L (.int 1))))) .nil))))))))
def mod2(i:Int):i % 2=0\/i % 2=1:=by lia
def BK{cell:Int}(hw:1<=w)(hh:1<=h)(hwh:1<w*h):∃(sd:Side) (over:Bool) (k:Nat),1<=k/\(k<if sd.up then w else h)/\bC G 6 kE [.int cell,.int w,.int h]=O (.ok (fK sd over k)):=by
 have m2:∀i:Int,af .mod (.int i) (.int 2)=O (.int (i % 2)):=λi=>oZ y8;have d2:∀i:Int,af .fdiv (.int i) (.int 2)=O (.int (i / 2)):=λi=>pC y8 y8;have d4:∀i:Int,af .fdiv (.int i) (.int 4)=O (.int (i / 4)):=λi=>pC y8 y8;have d8:∀i:Int,af .fdiv (.int i) (.int 8)=O (.int (i / 8)):=λi=>pC y8 y8;have e3:ev G (.or (.b .eq (.v 1) (.L (.int 1))) (.and (.b .gt (.v 2) (.L (.int 1))) (.b .eq (.b .mod (.v 0) (.L (.int 2))) (.L (.int 1))))) [.im (.int cell),.im (.int w),.im (.int h),.un,.un,.un]=O (.bl (((w:Int) == 1) || (decide (1<(h:Int))&&(cell % 2 == 1)))):=
  cD (by simp only[yw]) λ_=>EU (by simp only[yw]) λ_=>by simp only[yw,m2]
 have s01:∀{a b:D},atI [a,b] 0=O a:=λ{a b}=>eL (k:=0) rfl;have jc:∀{a b:D},atI [a,b] 1=O b:=λ{a b}=>eL (k:=1) rfl;have fin:∀(lv:Bool) (ext:Nat) (a b:Side),(((w:Int) == 1) || (decide (1<(h:Int))&&(cell % 2 == 1)))=lv->ext=(if lv then h else w)->2<=ext->(a=if lv then .north else .west)->(b=if lv then .south else .east) ->
   ∃(sd:Side) (over:Bool) (k:Nat),1<=k/\(k<if sd.up then w else h)/\bC G 6 kE [.int cell,.int w,.int h]=O (.ok (fK sd over k)):=by
  intro lv ext a b h1 h2 h3 ha hb;have mx:af .mod (.int (cell / 8)) (.int ((ext:Int)-1))=O (.int (cell / 8 % ((ext:Int)-1))):=oZ yx;have r0:=Int.emod_nonneg (cell / 8) (show ((ext:Int)-1)≠0 by lia);have r1:=Int.emod_lt_of_pos (cell / 8) (show (0:Int)<(ext:Int)-1 by lia);have hk:(((1+cell / 8 % ((ext:Int)-1)).toNat:Nat):Int)=1+cell / 8 % ((ext:Int)-1):=by lia
  have I:(if a.up then w else h)=ext:=by subst ha h2;cases lv<;>rfl
  have z:(if b.up then w else h)=ext:=by subst hb h2;cases lv<;>rfl
  have e4:ev G (.q (.tr (.v 3)) (.v 2) (.v 1)) [.im (.int cell),.im (.int w),.im (.int h),.im (.bl lv),.un,.un]=O (.int ext):=by subst h2;cases lv<;>simp only[yw,cv]<;>rfl
  have e5:ev G (.q (.tr (.v 3)) (.lst (.cons (.L (.str "north")) (.cons (.L (.str "south")) .nil))) (.lst (.cons (.L (.str "west")) (.cons (.L (.str "east")) .nil)))) [.im (.int cell),.im (.int w),.im (.int h),.im (.bl lv),.im (.int ext),.un]=O (.lst [.str a.str,.str b.str]):=by subst ha hb;cases lv<;>simp only[yw,cv]<;>rfl
  rcases mod2 (cell / 2) with q|q;refine⟨a,(cell / 4 % 2 == 1),(1+cell / 8 % ((ext:Int)-1)).toNat,yx,by rw[I];lia,?_⟩;refine aK (B:=[.im (.int cell),.im (.int w),.im (.int h),.un,.un,.un]) rfl (aG (aO (e3.trans (by rw[h1]))) (aG (aO e4) (aG (aO e5) (aR ?_))));show ev G _ [.im (.int cell),.im (.int w),.im (.int h),.im (.bl lv),.im (.int ext),.im (.lst [.str a.str,.str b.str])]=_;simp only[yw,d2,m2,q,s01,d4,d8,mx];unfold fK;rw[hk];refine⟨b,(cell / 4 % 2 == 1),(1+cell / 8 % ((ext:Int)-1)).toNat,yx,by rw[z];lia,?_⟩;refine aK (B:=[.im (.int cell),.im (.int w),.im (.int h),.un,.un,.un]) rfl (aG (aO (e3.trans (by rw[h1]))) (aG (aO e4) (aG (aO e5) (aR ?_))));show ev G _ [.im (.int cell),.im (.int w),.im (.int h),.im (.bl lv),.im (.int ext),.im (.lst [.str a.str,.str b.str])]=_;simp only[yw,d2,m2,q,jc,d4,d8,mx];unfold fK;rw[hk]
 cases hb:(((w:Int) == 1) || (decide (1<(h:Int))&&(cell % 2 == 1))) with
 |true=>
  refine fin Y h .north .south hb rfl ?_ rfl rfl;rw[or_eq_true,u3,uw,ub]at hb;rcases hb with hb|hb;have:w=1:=by lia
  subst this;lia;lia
 |false=>
  refine fin J w .west .east hb rfl ?_ rfl rfl;rw[Bool.or_eq_false_iff]at hb;have:(w:Int)≠1:=by simpa using hb.1
  lia
end
end Pg
def cO{s:Sl}{r:List Sl}:view (s::r)=dD s::view r:=id rfl
namespace Pg
def Full(s:bK):Prop:=∀h∈s,h≠[]
def getD_mem{s:bK}{k:Nat}(h:k<s.length):s.getD k []∈s:=by rw[sk,su h];exact w9 h
structure Spot where
 x:Nat
 y:Nat
 z:Int
 e:Bool
 n:Bool
noncomputable def aj(T:Table)(x y:Nat):dP:=(T.getD y []).getD x []
noncomputable def zAt(sp:List Spot)(k:Int):Int:=match sp[k.toNat]? with
 |some s=>s.z
 |none=>0
structure Lk (T:Table) (sp:List Spot):Prop where
 mem:∀(x y:Nat) (c:Cell),c∈aj T x y↔∃(i:Nat) (s:Spot),sp[i]?=O s/\s.x=x/\s.y=y/\c=((i:Int),s.e,s.n)
 ord:∀x y:Nat,(aj T x y).Pairwise (λa b=>zAt sp b.1<zAt sp a.1)
def hA(up:Bool)(T:Table)(p q:Nat):dP:=if up then aj T p q else aj T q p
noncomputable def ext(sd:Side)(w h:Nat):Nat:=if sd.up then w else h
end Pg
def eI{x y:Int×Int}:cH x y=Y↔x.1<y.1\/(x.1=y.1/\x.2<y.2):=by unfold cH;simp only[or_eq_true,u3,ub,uw]
def nZ{x y:Int×Int}:cH x y=J↔¬(x.1<y.1\/(x.1=y.1/\x.2<y.2)):=by rw[<-eI,Bool.not_eq_true]
theorem mR(x:Int×Int):∀l:List (Int×Int),(AU x l).Perm (x::l)
 |[]=>List.Perm.refl _
 |y::r=>by unfold AU;split;exact List.Perm.refl _;exact((mR x r).cons y).trans (List.Perm.swap x y r)
theorem kQ:∀l:List (Int×Int),(iY l).Perm l
 |[]=>List.Perm.refl _
 |x::r=>(mR x _).trans ((kQ r).cons x)
theorem nO{x:Int×Int}:∀{l:List (Int×Int)},l.Pairwise (λa b=>cH a b=Y)->x∉l->(AU x l).Pairwise (λa b=>cH a b=Y)
 |[],_,_=>by unfold AU;simp
 |y::r,h,n=>by obtain⟨h1,h2⟩:=wa.mp h;unfold AU;split;rename_i e;refine wa.mpr ⟨λz hz=>?_,h⟩;rcases ui.mp hz with rfl|hz;exact e;have:=h1 z hz;rw[eI]at this e ⊢;lia;rename_i e;rw[Bool.not_eq_true]at e;refine wa.mpr ⟨λz hz=>?_,nO h2 λz=>n (tw _ z)⟩;rcases ui.mp ((mR x r).mem_iff.mp hz) with rfl|hz;have eu:z≠y:=λq=>n (by rw[q];simp);rw[nZ]at e;rw[eI];have:¬(z.1=y.1/\z.2=y.2):=λq=>eu (Prod.ext q.1 q.2);lia;exact h1 z hz
theorem lG:∀{l:List (Int×Int)},l.Nodup->(iY l).Pairwise (λa b=>cH a b=Y)
 |[],_=>List.Pairwise.nil
 |x::r,h=>by obtain⟨h1,h2⟩:=nodup_cons.mp h;exact nO (lG h2) λz=>h1 ((kQ r).mem_iff.mp z)
def oT{l m:List (Int×Int)}(p:m.Perm l)(h:m.Pairwise (λa b=>cH a b=Y)):m=iY l:=by
 have nd:m.Nodup:=h.imp λ{a b} e q=>by subst q;rw[eI]at e;lia
 exact List.Perm.eq_of_pairwise (λa b _ _ e1 e2=>by rw[eI]at e1 e2;lia) h (lG (p.nodup_iff.mp nd)) (p.trans (kQ l).symm)
theorem sG:∀(r:List Int) (m:Int),(mL m r=m\/mL m r∈r)/\m<=mL m r/\∀a∈r,a<=mL m r
 |[],m=>⟨.inl rfl,Int.le_refl _,λa h=>by simp at h⟩
 |x::r,m=>by obtain⟨h1,h2,h3⟩:=sG r (if x > m then x else m);show (mL (if x > m then x else m) r=m\/_)/\m<=mL (if x > m then x else m) r/\_;have e:mL m (x::r)=mL (if x > m then x else m) r:=rfl;rw[e];refine⟨?_,?_,λa ha=>?_⟩;rcases h1 with h|h;split at h;rename_i hx;rw[if_pos hx,h];exact .inr y9;rename_i hx;rw[if_neg hx,h];exact .inl rfl;exact .inr (tw _ h);split at h2;rename_i hx;rw[if_pos hx];lia;rename_i hx;rw[if_neg hx];exact h2;rcases ui.mp ha with rfl|ha;split at h2;rename_i hx;rw[if_pos hx];exact h2;rename_i hx;rw[if_neg hx];lia;exact h3 a ha
theorem sD:∀(r:List Int) (m:Int),(pH m r=m\/pH m r∈r)/\pH m r<=m/\∀a∈r,pH m r<=a
 |[],m=>⟨.inl rfl,Int.le_refl _,λa h=>by simp at h⟩
 |x::r,m=>by obtain⟨h1,h2,h3⟩:=sD r (if x<m then x else m);have e:pH m (x::r)=pH (if x<m then x else m) r:=rfl;rw[e];refine⟨?_,?_,λa ha=>?_⟩;rcases h1 with h|h;split at h;rename_i hx;rw[if_pos hx,h];exact .inr y9;rename_i hx;rw[if_neg hx,h];exact .inl rfl;exact .inr (tw _ h);split at h2;rename_i hx;rw[if_pos hx];lia;rename_i hx;rw[if_neg hx];exact h2;rcases ui.mp ha with rfl|ha;split at h2;rename_i hx;rw[if_pos hx];exact h2;rename_i hx;rw[if_neg hx];lia;exact h3 a ha
namespace Pg
section
variable {G:GS}
def QM{a b:Bool}:af .eq (.bl a) (.bl b)=O (.bl (a == b)):=by cases a<;>cases b<;>rfl
end
section
variable {G:GS}
theorem ints_map{R:Type}{f:R->Int}:∀{l:List R},dJ (l.map λa=>D.int (f a))=O (l.map f)
 |[]=>rfl
 |a::l=>by simp only[uu,dJ];rw[ints_map];rfl
def BW{R:Type}{a b c:R}:atI [a,b,c] 0=O a/\atI [a,b,c] 1=O b/\atI [a,b,c] 2=O c:=⟨rfl,rfl,rfl⟩
def vG{B:List Sl}{e:IE}{d:D}{ds:List D}(h1:ev G e B=O d)(h2:B[x]?=O (.mu (.lst ds)))(h3:ds.length<1000000):ex G (.app x e) B=O (.nx (B.set x (.mu (.lst (ds++[d]))))):=by show (fi G e B).bind _=_;rw[qA h1];show (match B[x]? with|some (.mu (.lst ds))=>_|_=>_)=_;rw[h2];exact if_pos h3
def ne_self{d:D}(h1:plain d=Y)(h2:bw d d=Y):af .ne d d=O (.bl J):=by show oNe d d=_;unfold oNe;rw[h1,h2];rfl
def eC{b:Bool}:cv (.bl b)=O b:=rfl
structure Fold where
 sd:Side
 over:Bool
 k:Nat
def Fold.d(f:Fold):D:=fK f.sd f.over f.k
end
structure LkI (T:Table) (sp:List Spot):Prop where
 mem:∀(x y:Nat) (c:Cell),c∈aj T x y↔∃(i:Nat) (s:Spot),sp[i]?=O s/\s.x=x/\s.y=y/\c=((i:Int),s.e,s.n)
 ord:∀x y:Nat,(aj T x y).Pairwise (λa b=>a.1≠b.1)
 short:∀{x y:Nat},(aj T x y).length<=sp.length
structure aq (T:Table) (w h:Nat) (sp:List Spot):Prop where
 lk:LkI T sp
 rect:Rect T w h
 w64:w<=64
 h64:h<=64
 len:sp.length<=64
 xlt:∀{s:Spot},s∈sp->s.x<w
 ylt:∀{s:Spot},s∈sp->s.y<h
 ne:sp≠[]
noncomputable def cN(h:dP):List Int:=h.map (·.1)
def eN(s:bK):List Int:=s.flatMap cN
def kW(T:Table):List Int:=T.flatMap eN
theorem BL{R β:Type}{f g:R->List β}:∀(L:List R),(L.flatMap λk=>f k++g k).Perm (L.flatMap f++L.flatMap g)
 |[]=>.nil
 |a::L=>by rw[flatMap_cons,flatMap_cons,flatMap_cons];refine((List.Perm.refl (f a++g a)).append (BL L)).trans ?_;rw[u6,u6];refine(List.Perm.refl (f a)).append ?_;rw[<-u6,<-u6];exact perm_append_comm.append (.refl _)
theorem pW{R β:Type}{f g:R->List β}:∀(L:List R),(∀a∈L,(f a).Perm (g a))->(L.flatMap f).Perm (L.flatMap g)
 |[],_=>.nil
 |a::L,h=>by rw[flatMap_cons,flatMap_cons];exact(h a vi).append (pW L λb m=>h b (tw _ m))
theorem BM{R β:Type}:∀(L:List R),(L.flatMap λ_=>([]:List β))=[]
 |[]=>rfl
 |_::L=>BM L
theorem lR:∀(s:bK) {w:Nat},s.length<=w->((List.range w).flatMap λx=>cN (s.getD x []))=eN s
 |[],w,_=>(show ((List.range w).flatMap λ_=>([]:List Int))=[] from BM _)
 |a::s,0,h=>nomatch h
 |a::s,w+1,h=>by rw[List.range_succ_eq_map,flatMap_cons,flatMap_map];exact congrArg (cN a++·) (lR s (Nat.le_of_succ_le_succ h))
def EC{u l:bK}:(eN (kf u l)).Perm (eN u++eN l):=by unfold kf eN;rw[flatMap_map];have e:(λk=>cN (u.getD k []++l.getD k []))=λk=>cN (u.getD k [])++cN (l.getD k []):=funext λk=>vn;rw[e];refine(BL _).trans ?_;rw[lR u (Nat.le_max_left _ _),lR l (Nat.le_max_right _ _)];exact .refl _
def xT{up:Bool}{p:bK}:(eN (fJ up p)).Perm (eN p):=by unfold fJ eN;rw[flatMap_map];refine pW p λh _=>?_;unfold cN kM;rw[vq,show ((λ(c:Cell)=>c.1) ∘ CK up)=λc=>c.1 from funext λc=>by cases up<;>rfl];exact(List.reverse_perm h).map _
def uL{p:bK}:(eN p.reverse).Perm (eN p):=(List.reverse_perm p).flatMap_right cN
def MS{s:bK}:(eN (eO sd over c s)).Perm (eN s):=by
 have two:∀{u l:bK},(eN (cZ u l over)).Perm (eN u++eN l):=λ{u l}=>by unfold cZ;cases over;exact EC.trans perm_append_comm;exact EC
 have sp:eN (s.take c)++eN (s.drop c)=eN s:=by unfold eN;rw[<-List.flatMap_append,take_append_drop]
 rw[<-sp];unfold eO;split;exact two.trans ((xT.trans uL).append (.refl _));exact uL.trans (two.trans ((xT.append uL).trans perm_append_comm))
theorem xU{w:Nat}:∀(T:Table),(∀s∈T,s.length=w)->((List.range w).flatMap λx=>T.flatMap λs=>cN (s.getD x [])).Perm (kW T)
 |[],_=>by rw[show ((List.range w).flatMap λx=>([]:Table).flatMap λs=>cN (s.getD x []))=[] from BM _];exact .nil
 |s::T,h=>by refine(BL (f:=λx=>cN (s.getD x [])) (List.range w)).trans ?_;rw[lR s (Nat.le_of_eq (h s vi))];exact(List.Perm.refl (eN s)).append (xU T λs m=>h s (tw _ m))
def pO{T:Table}(α:Rect T w h):(kW (transp T)).Perm (kW T):=by
 unfold transp;rw[α.width];unfold kW;rw[flatMap_map];have e:(λx=>eN (T.map λs=>s.getD x []))=λx=>T.flatMap λs=>cN (s.getD x []):=funext λx=>by unfold eN;rw[flatMap_map]
 rw[e];exact xU T α.row
def ED{T:Table}:(kW (T.map (eO sd over c))).Perm (kW T):=by unfold kW;rw[flatMap_map];exact pW T λs _=>MS
def HS{T:Table}(α:Rect T w h)(h1:1<=c)(h2:c<if sd.up then w else h):(kW (foldT sd over c T)).Perm (kW T):=by
 unfold foldT;cases hu:sd.up with
 |true=>exact ED
 |false=>rw[hu]at h2;exact(pO (α.transp.fold h1 h2)).trans (ED.trans (pO α))
structure SitI (T:Table) (w h n:Nat):Prop where
 rect:Rect T w h
 w64:w<=64
 h64:h<=64
 n64:n<=64
 ids:(kW T).Perm ((List.range n).map λ(k:Nat)=>(k:Int))
section
variable {T:Table}{w h n:Nat}
def SitI.few(S:SitI T w h n):rH 64 T:=by
 intro s hs hp hm;have e:(kW T).length=n:=by rw[S.ids.length_eq,t8,uc]
 have one:∀{R:Type} {f:R->List Int} {L:List R} {a:R},a∈L->(f a).length<=(L.flatMap f).length:=λ{R f L a} m=>by
  induction L with
  |nil=>cases m
  |cons b L z=>rw[flatMap_cons,um];rcases ui.mp m with rfl|m;exact Nat.le_add_right _ _;exact ug (z m) (Nat.le_add_left _ _)
 have h1:(cN hp).length<=(eN s).length:=one hm;have h2:(eN s).length<=(kW T).length:=one hs;unfold cN at h1;rw[t8]at h1;have:=S.n64;lia
def SitI.fold(S:SitI T w h n)(h1:1<=c)(h2:c<if sd.up then w else h):SitI (foldT sd over c T) (if sd.up then max c (w-c) else w) (if sd.up then h else max c (h-c)) n:=by
 have:=S.w64;have:=S.h64;refine⟨S.rect.foldT h1 h2,?_,?_,S.n64,(HS S.rect h1 h2).trans S.ids⟩
 .split<;>simp_all<;>lia
 .split<;>simp_all<;>lia
theorem xZ{c:Nat}:∀r:Nat,(kW (gJ c r))=(List.range (c*r)).map λ(k:Nat)=>(k:Int)
 | 0=>rfl
 |r+1=>by
  have e:gJ c (r+1)=gJ c r++[(List.range c).map λx=>[(((r*c+x:Nat):Int),J,J)]]:=by unfold gJ;rw[range_succ,vn];rfl
  rw[e];unfold kW;rw[List.flatMap_append];have z:(gJ c r).flatMap eN=_:=xZ r;rw[z,Nat.mul_succ,List.range_add,vn];refine congrArg _ ?_;rw[flatMap_cons,flatMap_nil,uq];unfold eN;rw[flatMap_map,vq,List.flatMap_def,Nat.mul_comm r c];show ((List.range c).map λx=>[((c*r+x:Nat):Int)]).flatten=_;generalize List.range c=L;induction L with
  |nil=>rfl
  |cons a L z=>rw[uu,List.flatten_cons,z];rfl
def IC(hc:1<=c)(hr:1<=r)(z:c*r<=64):SitI (gJ c r) c r (c*r):=⟨ID hc hr,ug (Nat.le_mul_of_pos_right c hr) z,ug (Nat.le_mul_of_pos_left r hc) z,z,by rw[xZ]⟩
noncomputable def zM(h:dP)(n:Nat):List Spot:=(List.range n).map λ(k:Nat)=>match h.find? λc=>c.1 == (k:Int) with
 |some c=>⟨0,0,0,c.2.1,c.2.2⟩
 |none=>⟨0,0,0,J,J⟩
def SitI.sits(S:SitI T 1 1 n)(hn:1<=n):∃sp,aq T 1 1 sp/\sp.length=n:=by
 obtain⟨hp,hT⟩:∃hp,T=[[hp]]:=by
  have r:=S.rect;match T,r with
  |[],r=>exact absurd r.len y8
  |[s],r=>
   have:=r.row s vi;match s,this with
   |[hp],_=>exact⟨hp,rfl⟩
   |[],e=>exact absurd e y8
   |_::_::_,e=>exact absurd e y9
  |_::_::_,r=>exact absurd r.len y9
 subst hT;have ids:(cN hp).Perm ((List.range n).map λ(k:Nat)=>(k:Int)):=by have:=S.ids;unfold kW eN at this;rwa [flatMap_cons,flatMap_nil,uq,flatMap_cons,flatMap_nil,uq]at this
 have nd:(cN hp).Nodup:=ids.nodup_iff.mpr (by rw[nodup_iff_pairwise_ne,pairwise_map];exact pairwise_lt_range.imp λh e=>by lia);have pw:hp.Pairwise (λa b=>a.1≠b.1):=by unfold cN at nd;rwa [nodup_iff_pairwise_ne,pairwise_map]at nd
 have hl:hp.length=n:=by have:=ids.length_eq;unfold cN at this;rwa [t8,t8,uc]at this
 have one:∀{a b:Cell},a∈hp->b∈hp->a.1=b.1->a=b:=λ{a b} ha hb e=>by
  clear hl nd ids S;induction hp with
  |nil=>cases ha
  |cons x l ih=>
   obtain⟨p1,p2⟩:=wa.mp pw;rcases ui.mp ha with e1|h1<;>rcases ui.mp hb with e2|h2
   rw[e1,e2];exact absurd (e1 ▸ e) (p1 b h2);exact absurd (e2 ▸ e.symm) (p1 a h1);exact ih p2 h1 h2
 have I:(zM hp n).length=n:=by unfold zM;rw[t8,uc]
 have at_:∀{i:Nat} {c:Cell},c∈hp->c.1=(i:Int)->(zM hp n)[i]?=O ⟨0,0,0,c.2.1,c.2.2⟩:=λ{i c} hc e=>by
  have hi:i<n:=by have:=ids.mem_iff.mp (ux.mpr ⟨c,hc,e⟩);obtain⟨k,hk,e⟩:=ux.mp this;have:=vy.mp hk;lia
  unfold zM;rw[sv,vk hi];have:hp.find? (λc=>c.1 == (i:Int))=O c:=by
   cases f:hp.find? λc=>c.1 == (i:Int) with
   |none=>exact absurd (List.find?_eq_none.mp f c hc) (by simp[e])
   |some d=>rw[one (List.mem_of_find?_eq_some f) hc (by have:=List.find?_some f;simp at this;rw[this,e])]
  show O (match hp.find? (λc=>c.1 == (i:Int)) with|some c=>(⟨0,0,0,c.2.1,c.2.2⟩:Spot)|none=>⟨0,0,0,J,J⟩)=_;rw[this]
 have xy:∀{s:Spot},s∈zM hp n->s.x=0/\s.y=0:=λ{s} hs=>by unfold zM at hs;obtain⟨k,_,rfl⟩:=ux.mp hs;split<;>exact⟨rfl,rfl⟩
 refine⟨zM hp n,⟨⟨λx y c=>?_,λx y=>?_,λ{x y}=>?_⟩,S.rect,y8,y8,by rw[I];exact S.n64,λ{s} hs=>by rw[(xy hs).1];decide,λ{s} hs=>by rw[(xy hs).2];decide,?_⟩,I⟩;constructor;intro hc;match x,y,hc with
 | 0,0,hc=>have hc:c∈hp:=hc;obtain⟨k,hk,e⟩:=ux.mp (ids.mem_iff.mp (ux.mpr ⟨c,hc,rfl⟩));exact⟨k,_,at_ hc e.symm,rfl,rfl,by rw[show ((k:Nat):Int)=c.1 from e]⟩
 | 0,y+1,hc=>exact nomatch (show c∈([]:dP) from by cases y<;>exact hc)
 |x+1,0,hc=>exact nomatch (show c∈([]:dP) from by cases x<;>exact hc)
 |x+1,y+1,hc=>exact nomatch (show c∈([]:dP) from by cases y<;>exact hc)
 rintro⟨i,s,hs,rfl,rfl,rfl⟩;have hi:i<n:=by rw[<-I];exact(sj.mp hs).1
 obtain⟨e1,e2⟩:=xy (sq hs);rw[e1,e2];show _∈hp;obtain⟨c,hc,e⟩:=ux.mp (ids.mem_iff.mpr (ux.mpr ⟨i,vy.mpr hi,rfl⟩));rw[at_ hc e]at hs;cases hs;rw[<-e];exact hc;match x,y with
 | 0,0=>exact pw
 | 0,y+1=>rw[show aj [[hp]] 0 (y+1)=[] from by cases y<;>rfl];exact .nil
 |x+1,0=>rw[show aj [[hp]] (x+1) 0=[] from by cases x<;>rfl];exact .nil
 |x+1,y+1=>rw[show aj [[hp]] (x+1) (y+1)=[] from by cases y<;>rfl];exact .nil
 rw[I,<-hl];match x,y with
 | 0,0=>exact t9 _
 | 0,y+1=>rw[show aj [[hp]] 0 (y+1)=[] from by cases y<;>rfl];exact vz _
 |x+1,0=>rw[show aj [[hp]] (x+1) 0=[] from by cases x<;>rfl];exact vz _
 |x+1,y+1=>rw[show aj [[hp]] (x+1) (y+1)=[] from by cases y<;>rfl];exact vz _
 intro z;rw[z]at I;have:0=n:=I;lia
end
end Pg
def dZ{k:Int}{d:D}{r:List (Int×D)}:bL ((i,d)::r) k=if i=k then O d else bL r k:=by unfold bL;by_cases e:i=k;rw[List.find?_cons_of_pos (by simpa using e),if_pos e];rfl;rw[List.find?_cons_of_neg (by simpa using e),if_neg e]
theorem wA{k:Int}:∀{kvs:List (Int×D)},(kvs.any λz=>decide (z.1=k))=(bL kvs k).isSome
 |[]=>rfl
 | (i,d)::r=>by rw[any_cons,dZ,wA (kvs:=r)];by_cases e:i=k;rw[if_pos e,uv e];rfl;rw[if_neg e,tj e];rfl
theorem oP{k j:Int}{d:D}:∀{kvs:List (Int×D)},bL (kvs.map λI=>if I.1=k then(I.1,d) else I) j=if j=k then(bL kvs j).map λ_=>d else bL kvs j
 |[]=>by show U=_;split<;>rfl
 | (i,e)::r=>by rw[uu];by_cases h:i=k;rw[if_pos h,dZ,dZ,oP (kvs:=r)];by_cases g:i=j;rw[if_pos g,if_pos g,if_pos (g.symm.trans h)];rfl;rw[if_neg g,if_neg g];rw[if_neg h,dZ,dZ,oP (kvs:=r)];by_cases g:i=j;rw[if_pos g,if_pos g,if_neg (λz=>h (g.trans z))];rw[if_neg g,if_neg g]
theorem rM{k j:Int}{d:D}:∀{kvs:List (Int×D)},bL (kvs++[(k,d)]) j=(bL kvs j).or (if k=j then O d else U)
 |[]=>by rw[nil_append,dZ];split<;>rfl
 | (i,e)::r=>by rw[List.cons_append,dZ,dZ,rM (kvs:=r)];split<;>rfl
def oO{kvs:List (Int×D)}{k j:Int}{d:D}:bL (gW kvs k d) j=if j=k then O d else bL kvs j:=by unfold gW;rw[wA];by_cases h:(bL kvs k).isSome=Y;rw[if_pos h,oP];by_cases e:j=k;subst e;rw[if_pos rfl,if_pos rfl];obtain⟨x,hx⟩:=Option.isSome_iff_exists.mp h;rw[hx];rfl;rw[if_neg e,if_neg e];rw[if_neg h,rM];by_cases e:j=k;subst e;rw[if_pos rfl,if_pos rfl,Option.not_isSome_iff_eq_none.mp h];rfl;rw[if_neg e,if_neg (Ne.symm e)];cases bL kvs j<;>rfl
def oV{kvs:List (Int×D)}{k:Int}{d:D}:(gW kvs k d).length<=kvs.length+1:=by unfold gW;split;rw[t8];lia;rw[um];exact t9 _
def lT{G:GS}{B:List Sl}{k e:IE}{d:D}{kvs:List (Int×D)}(h1:ev G e B=O d)(h2:ev G k B=O (.int i))(h3:B[x]?=O (.mu (.dct kvs)))(h4:kvs.length<1000000):ex G (.put x k e) B=O (.nx (B.set x (.mu (.dct (gW kvs i d))))):=by show (fi G e B).bind (λd=>(intOf (fi G k B)).bind λi=>_)=_;rw[qA h1,qA h2];show (match B[x]? with|some (.mu o)=>_|_=>_)=_;rw[h3];show Option.map _ (if kvs.length<big then O (D.dct (gW kvs i d)) else U)=_;rw[if_pos (by unfold big;exact h4)];rfl
def oJ{G:GS}{B:List Sl}:ex G (.setd x) B=O (.nx (B.set x (.mu (.dct [])))):=id rfl
def iR{G:GS}{B:List Sl}{d:D}(h:B[x]?=O (.mu d)):ex G (.σ x) B=O (.rt d):=by show (match B[x]? with|some (.mu d)=>O (Out.rt d)|_=>U)=_;rw[h]
namespace Pg
section
variable {G:GS}{T:Table}{w h:Nat}{sp:List Spot}
noncomputable def yM(s:Spot):Int:=if s.e then s.x else s.x+1
noncomputable def xI(s:Spot):Int:=if s.n then s.y else s.y+1
def sH(s:Spot):D:=.tup [.int (yM s),.int (xI s)]
noncomputable def RI:IS:=(.put 1 (.v 4) (.tup (.cons (.q (.tr (.v 5)) (.v 3) (.b .add (.v 3) (.L (.int 1)))) (.cons (.q (.tr (.v 6)) (.v 2) (.b .add (.v 2) (.L (.int 1)))) .nil))))
def FK:IS:=(.loop [4,5,6] Y .seq (.meth (.v 0) "heap" (.cons (.v 3) (.cons (.v 2) .nil))) RI)
def FJ:IS:=(.loop [3] J .rng (.tup (.cons (.fld (.v 0) "wide") .nil)) FK)
def iM:IS:=(.seq (.setd 1) (.seq (.loop [2] J .rng (.tup (.cons (.fld (.v 0) "high") .nil)) FJ) (.σ 1)))
def qt(P:D)(kvs:List (Int×D))(a b c d e:Sl):List Sl:=[.im P,.mu (.dct kvs),a,b,c,d,e]
theorem uZ{b:IS}{tg:List Nat}{fr:List (Int×D)->Sl->Sl->Sl->List Sl}{enc:Bool×Bool->D}(hb:∀(x:Cell) kvs s t u,bB tg Y (du x) (fr kvs s t u)=O (fr kvs (.im (.int x.1)) (.im (.bl x.2.1)) (.im (.bl x.2.2)))) (hx:∀(x:Cell) (kvs:List (Int×D)),kvs.length<1000000->ex G b (fr kvs (.im (.int x.1)) (.im (.bl x.2.1)) (.im (.bl x.2.2)))=O (.nx (fr (gW kvs x.1 (enc x.2)) (.im (.int x.1)) (.im (.bl x.2.1)) (.im (.bl x.2.2))))):∀(h:dP) (kvs:List (Int×D)) (s t u:Sl),kvs.length+h.length<=900000->∃I s' t' u',bT (bB tg Y) (ex G b) (h.map du) (fr kvs s t u)=O (.nx (fr I s' t' u')) /\∀(k:Int) (v:Bool×Bool),(∀x∈h,x.1=k->x.2=v)->((∃x∈h,x.1=k)\/bL kvs k=O (enc v))->bL I k=O (enc v)
 |[],kvs,s,t,u,_=>⟨kvs,s,t,u,rfl,λk v _ h=>h.elim (λ⟨x,m,_⟩=>nomatch m) id⟩
 |x::h,kvs,s,t,u,hl=>by rw[vm]at hl;have hl1:=oV (kvs:=kvs) (k:=x.1) (d:=enc x.2);obtain⟨I,s',t',u',e,hv⟩:=uZ hb hx h (gW kvs x.1 (enc x.2)) (.im (.int x.1)) (.im (.bl x.2.1)) (.im (.bl x.2.2)) yx;refine⟨I,s',t',u',?_,λk v h1 h2=>hv k v (λy m=>h1 y (tw _ m)) ?_⟩;rw[uu];unfold bT;rw[hb x kvs s t u];show (ex G b _).bind _=_;rw[hx x kvs yx];exact e;by_cases e:x.1=k;right;rw[oO,if_pos e.symm,h1 x vi e];rcases h2 with ⟨y,m,ey⟩|h2;rcases ui.mp m with rfl|m;exact absurd ey e;exact .inl ⟨y,m,ey⟩;right;rw[oO,if_neg (λz=>e z.symm),h2]
def EH{T:Table}{sp:List Spot}(S:aq T 1 1 sp){kvs:List (Int×D)}{enc:Bool×Bool->D}(hv:∀(k:Int) (v:Bool×Bool),(∀x∈aj T 0 0,x.1=k->x.2=v)->((∃x∈aj T 0 0,x.1=k)\/bL [] k=O (enc v))->bL kvs k=O (enc v)){i:Nat}{s:Spot}(h:sp[i]?=O s):bL kvs i=O (enc (s.e,s.n)):=by
 have hm:=sq h;have:=S.xlt hm;have:=S.ylt hm;refine hv i (s.e,s.n) (λx m ex=>?_) (.inl ⟨((i:Int),s.e,s.n),(S.lk.mem 0 0 _).mpr ⟨i,s,h,yx,yx,rfl⟩,rfl⟩);obtain⟨j,t,h1,_,_,rfl⟩:=(S.lk.mem 0 0 x).mp m;have:j=i:=by dsimp only at ex;lia
 subst this;rw[h1]at h;cases h;rfl
def rB(hf:G.fl "Pile"=cy) (I:∀(c r w h:Nat) (T:Table) (F S:List D) (x y:Nat),Rect T w h->x<w->y<h->G.me "Pile" "heap" [aL c r w h T F S,.int x,.int y]=O (.ok (hE (aj T x y))))  {F C:List D} (S:aq T 1 1 sp):∃kvs,bC G 7 iM [aL c r 1 1 T F C]=O (.ok (.dct kvs))/\∀(i:Nat) (s:Spot),sp[i]?=O s->bL kvs i=O (sH s):=by
 have e0:∀r',ev G (.v 0) (.im (aL c r 1 1 T F C)::r')=O (bM c r 1 1 (T.map sE) F C):=λ_=>by simp only[zz,yy];rfl
 have hl:(aj T 0 0).length<=64:=ug S.lk.short S.len;obtain⟨kvs,s4,s5,s6,e,hv⟩:=uZ (G:=G) (b:=RI) (tg:=[4,5,6]) (fr:=λkvs=>qt (aL c r 1 1 T F C) kvs (.im (.int 0)) (.im (.int 0))) (enc:=λv=>.tup [.int (if v.1 then 0 else 1),.int (if v.2 then 0 else 1)]) (λ_ _ _ _ _=>rfl) (λx kvs h=>(lT (kvs:=kvs) (i:=x.1) (d:=.tup [.int (if x.2.1 then 0 else 1),.int (if x.2.2 then 0 else 1)]) (by cases x.2.1<;>cases x.2.2<;>rfl) rfl rfl h).trans rfl) (aj T 0 0) [] .un .un .un (by rw[length_nil];lia);have one:∀{tg:List Nat} {b:IS} {B ρ1 z:List Sl},bB tg J (.int 0) B=O ρ1->ex G b ρ1=O (.nx z)->bT (bB tg J) (ex G b) [.int 0] B=O (.nx z):=λ{tg b B ρ1 z} h1 h2=>by unfold bT;rw[h1];show (ex G b ρ1).bind _=_;rw[h2];rfl
 have wd:ev G (.tup (.cons (.fld (.v 0) "wide") .nil)) (qt (aL c r 1 1 T F C) [] (.im (.int 0)) .un .un .un .un)=O (.tup [.int ((1:Nat):Int)]):=by unfold qt;rw[kZ,aV,jC hf (e0 _)];simp only[yw];rfl
 have hg:ev G (.tup (.cons (.fld (.v 0) "high") .nil)) (qt (aL c r 1 1 T F C) [] .un .un .un .un .un)=O (.tup [.int ((1:Nat):Int)]):=by unfold qt;rw[kZ,aV,jE hf (e0 _)];simp only[yw];rfl
 refine⟨kvs,aK (B:=[.im (aL c r 1 1 T F C),.un,.un,.un,.un,.un,.un]) rfl (aG oJ (aG ((bS hg (cY y8)).trans (one (b:=FJ) rfl ((bS wd (cY y8)).trans (one (b:=FK) rfl ((bS (d:=hE (aj T 0 0)) ?_ cM).trans e))))) (iR rfl))),λi s hs=>?_⟩;exact oY (c:=c) (r:=r) (w:=1) (h:=1) (T:=T.map sE) (F:=F) (S:=C) (ds:=[.int 0,.int 0]) rfl (e0 _) rfl (I c r 1 1 T F C 0 0 S.rect y8 y8);rw[EH S hv hs];have hm:=sq hs;have h1:=S.xlt hm;have h2:=S.ylt hm;unfold sH yM xI;rw[show s.x=0 by lia,show s.y=0 by lia];cases s.e<;>cases s.n<;>rfl
end
end Pg
def JR{R:Type}{l:List R}{a:R}(h:l[x]?=O a):l.set x a=l:=by apply List.ext_getElem?;intro i;by_cases e:x=i;subst e;rw[ud (sj.mp h).1,h];rw[ue e]
def jL{G:GS}{B:List Sl}{t e:IE}{b:Bool}{d:D}{ds:List D}(z:ev G t (view B)=O (.bl b))(he:ev G e B=O d)(hx:B[x]?=O (.mu (.lst ds)))(hl:ds.length<1000000):ex G (.g t (.app x e) .nop) B=O (.nx (B.set x (.mu (.lst (ds++if b then [d] else []))))):=by
 cases b with
 |true=>exact hZ z (Pg.vG he hx hl)
 |false=>rw[cC z aW,if_neg y8,uq,JR hx]
def mX{bind:D->List Sl->Option (List Sl)}{body:List Sl->Option Out}(P:Nat->List Sl->Prop){B:List Sl}(h0:P 0 B)(st:∀k,k<n->∀B,P k B->∃ρ1,bind (.int (k:Nat)) B=O ρ1/\∃z,body ρ1=O (.nx z)/\P (k+1) z):∃B',bT bind body ((List.range n).map λ(k:Nat)=>D.int k) B=O (.nx B')/\P n B':=by
 obtain⟨B',a,b⟩:=kF (bind:=bind) (body:=body) P (ds:=(List.range n).map λ(k:Nat)=>D.int k) (k:=0) h0 λk d B hd hp=>by
  rw[sv]at hd;obtain⟨k',I,rfl⟩:=u5.mp hd;have hk:k<n:=by have:=(sj.mp I).1;rwa [uc]at this
  obtain rfl:k=k':=by rw[vk hk]at I;exact u4 I
  rw[uk]at hp ⊢;exact st k hk B hp
 exact⟨B',a,by rw[t8,uc,uk]at b;exact b⟩
def hV{R:Type}{enc:R->D}{bind:D->List Sl->Option (List Sl)}{body:List Sl->Option Out}(P:Nat->List Sl->Prop){L:List R}{B:List Sl}(h0:P 0 B)(st:∀k a,L[k]?=O a->∀B,P k B->∃ρ1,bind (enc a) B=O ρ1/\∃z,body ρ1=O (.nx z)/\P (k+1) z):∃B',bT bind body (L.map enc) B=O (.nx B')/\P L.length B':=by
 obtain⟨B',a,b⟩:=kF (bind:=bind) (body:=body) P (ds:=L.map enc) (k:=0) h0 λk d B hd hp=>by rw[sv]at hd;obtain⟨x,hx,rfl⟩:=u5.mp hd;rw[uk]at hp ⊢;exact st k x hx B hp
 exact⟨B',a,by rw[t8,uk]at b;exact b⟩
namespace Pg
section
variable {G:GS}{T:Table}{w h:Nat}{sp:List Spot}
noncomputable def b0(c n k:Nat):List (Nat×Nat×Bool):=(if decide (k % c<c-1) then [(k,k+1,J)] else [])++(if decide (k+c<n) then [(k,k+c,Y)] else [])
def ba(c n k:Nat):List (Nat×Nat×Bool):=(List.range k).flatMap (b0 c n)
def pE{k:Nat}:ba c n (k+1)=ba c n k++b0 c n k:=by unfold ba;rw[range_succ,List.flatMap_append,flatMap_cons,flatMap_nil,uq]
def XG{k:Nat}:(b0 c n k).length<=2:=by unfold b0;rw[um];split<;>split<;>simp
theorem fP{c n:Nat}:∀k,(ba c n k).length<=2*k
 | 0=>vz _
 |k+1=>by rw[pE,um];have:=fP (c:=c) (n:=n) k;have:=XG (c:=c) (n:=n) (k:=k);lia
def aCv{k:Nat}{j:Nat×Nat×Bool}(h:j∈ba c n k):j.1<k:=by unfold ba at h;obtain⟨i,hi,z⟩:=mem_flatMap.mp h;have hi:=vy.mp hi;unfold b0 at z;rcases wb.mp z with q|q<;>(split at q<;>first|(simp only[uh]at q;rw[q];exact hi)|(simp at q))
def nY{R:Type}{a b:R}:atI [a,b] 0=O a/\atI [a,b] 1=O b:=⟨rfl,rfl⟩
def fe(j:Nat×Nat×Bool):D:=.tup [.int j.1,.int j.2.1,.bl j.2.2]
def mM(sp:List Spot)(k:Nat)(l:Bool):Int:=match sp[k]? with
 |some s=>if l then xI s else yM s
 |none=>0
def jD(sp:List Spot)(j:Nat×Nat×Bool):D:=.tup [.int j.1,.int j.2.1,.bl j.2.2,.int (mM sp j.1 j.2.2)]
def jsE(sp:List Spot)(c r:Nat):D:=.lst ((ba c (c*r) (c*r)).map (jD sp))
def DO{k:Nat}{R:Type}{f:Nat×Nat×Bool->R}:(b0 c n k).map f=(if decide (k % c<c-1) then [f (k,k+1,J)] else [])++(if decide (k+c<n) then [f (k,k+c,Y)] else []):=by unfold b0;rw[vn];cases decide (k % c<c-1)<;>cases decide (k+c<n)<;>rfl
noncomputable def iK:IS:=(.seq (.set 2 (.b .mul (.v 0) (.v 1))) (.seq (.setm 3) (.seq (.loop [4] J .rng (.tup (.cons (.v 2) .nil)) (.seq (.g (.b .lt (.b .mod (.v 4) (.v 0)) (.b .sub (.v 0) (.L (.int 1)))) (.app 3 (.tup (.cons (.v 4) (.cons (.b .add (.v 4) (.L (.int 1))) (.cons (.L (.bl J)) .nil))))) .nop) (.g (.b .lt (.b .add (.v 4) (.v 0)) (.v 2)) (.app 3 (.tup (.cons (.v 4) (.cons (.b .add (.v 4) (.v 0)) (.cons (.L (.bl Y)) .nil))))) .nop))) (.σ 3))))
def oH{a:Nat}(h:0<b):af .mod (.int (a:Int)) (.int (b:Int))=O (.int ((a % b:Nat):Int)):=(oZ yx).trans (by rw[Int.natCast_emod])
def EZ{a:Nat}(h:0<b)(h1:b<1000000):af .fdiv (.int (a:Int)) (.int (b:Int))=O (.int ((a / b:Nat):Int)):=(pC yx yx).trans (by rw[Int.natCast_ediv])
def kC{a:Nat}(h:a<=1000000):af .mul (.int (a:Int)) (.int (b:Int))=O (.int ((a*b:Nat):Int)):=(nJ yx yx).trans (by rw[Int.natCast_mul])
def FB{a:Nat}(hb:1<=b):decide ((a:Int)<(b:Int)-1)=decide (a<b-1):=decide_eq_decide.mpr yx
def qZ(hc:1<=c)(I:c*r<=64)(z:c<=64):bC G 5 iK [.int c,.int r]=O (.ok (.lst ((ba c (c*r) (c*r)).map fe))):=by
 refine aK (B:=[.im (.int c),.im (.int r),.un,.un,.un]) rfl ?_;refine aG (aO (d:=.int ((c*r:Nat):Int)) (by simp only[yw,kC (show c<=1000000 by lia)])) (aG (iQ) ?_);simp only[List.set];obtain⟨B',l,s4,rfl⟩:=mX (bind:=bB [4] J) (body:=ex G (.seq (.g (.b .lt (.b .mod (.v 4) (.v 0)) (.b .sub (.v 0) (.L (.int 1)))) (.app 3 (.tup (.cons (.v 4) (.cons (.b .add (.v 4) (.L (.int 1))) (.cons (.L (.bl J)) .nil))))) .nop) (.g (.b .lt (.b .add (.v 4) (.v 0)) (.v 2)) (.app 3 (.tup (.cons (.v 4) (.cons (.b .add (.v 4) (.v 0)) (.cons (.L (.bl Y)) .nil))))) .nop))) (λk B=>∃s4,B=[.im (.int c),.im (.int r),.im (.int ((c*r:Nat):Int)),.mu (.lst ((ba c (c*r) k).map fe)),s4]) (n:=c*r) (B:=[.im (.int c),.im (.int r),.im (.int ((c*r:Nat):Int)),.mu (.lst []),.un]) ⟨_,rfl⟩ (by
  rintro k hk B ⟨s4,rfl⟩;have hl:=fP (c:=c) (n:=c*r) k;refine⟨_,rfl,_,aG (jL (b:=decide (k % c<c-1)) (d:=fe (k,k+1,J)) ?_ ?_ rfl (by rw[t8];lia)) (jL (b:=decide (k+c<c*r)) (d:=fe (k,k+c,Y)) ?_ ?_ rfl ?_),.im (.int k),?_⟩;simp only[List.set];simp only[yw,oH hc,FB hc];simp only[List.set];simp only[yw];rfl;simp only[List.set];simp only[yw];exact congrArg (λb=>O (D.bl b)) (decide_eq_decide.mpr yx);simp only[List.set];simp only[yw];rfl;rw[um,t8];split<;>simp<;>lia
  simp only[List.set,pE,vn,u6,DO])
 exact aG ((bS (d:=.tup [.int ((c*r:Nat):Int)]) (by simp only[yw]) (cY yx)).trans l) (iR rfl)
noncomputable def aGD:IS:=(.app 2 (.tup (.cons (.v 3) (.cons (.v 4) (.cons (.v 5) (.cons (.q (.tr (.v 5)) (.ix (.ix (.v 1) (.v 3)) (.L (.int 1))) (.ix (.ix (.v 1) (.v 3)) (.L (.int 0)))) .nil))))))
def iO:IS:=(.seq (.set 1 (.call yd (.cons (.v 0) .nil))) (.seq (.setm 2) (.seq (.loop [3,4,5] Y .seq (.call xx (.cons (.fld (.v 0) yq) (.cons (.fld (.v 0) "rows") .nil))) aGD) (.σ 2))))
def DP{k:Nat}{s:Spot}{l:Bool}(h:sp[k]?=O s):mM sp k l=if l then xI s else yM s:=by unfold mM;rw[h]
def rG(hf:G.fl "Pile"=cy){F C:List D}{kvs:List (Int×D)}(I:G.fn yd [aL c r w h T F C]=O (.ok (.dct kvs)))(hk:∀(i:Nat) (s:Spot),sp[i]?=O s->bL kvs i=O (sH s)) (z:G.fn xx [.int c,.int r]=O (.ok (.lst ((ba c (c*r) (c*r)).map fe)))) (ao:c*r<=64) (bg:sp.length=c*r):bC G 6 iO [aL c r w h T F C]=O (.ok (jsE sp c r)):=by
 have e0:∀r',ev G (.v 0) (.im (aL c r w h T F C)::r')=O (bM c r w h (T.map sE) F C):=λ_=>by simp only[zz,yy];rfl
 refine aK (B:=[.im (aL c r w h T F C),.un,.un,.un,.un,.un]) rfl ?_;refine aG (aO (d:=.dct kvs) (by simp only[yw,I])) (aG (iQ) ?_);simp only[List.set];have hl:=fP (c:=c) (n:=c*r) (c*r);obtain⟨B',l,s3,s4,s5,rfl⟩:=hV (enc:=fe) (bind:=bB [3,4,5] Y) (body:=ex G aGD) (λk B=>∃s3 s4 s5,B=[.im (aL c r w h T F C),.im (.dct kvs),.mu (.lst (((ba c (c*r) (c*r)).take k).map (jD sp))),s3,s4,s5]) (L:=ba c (c*r) (c*r)) (B:=[.im (aL c r w h T F C),.im (.dct kvs),.mu (.lst []),.un,.un,.un]) ⟨_,_,_,rfl⟩ (by
  rintro k j hj B ⟨s3,s4,s5,rfl⟩;have ha:j.1<sp.length:=by rw[bg];exact aCv (sq hj)
  have hs:=su ha;refine⟨[.im (aL c r w h T F C),.im (.dct kvs),.mu (.lst (((ba c (c*r) (c*r)).take k).map (jD sp))),.im (.int j.1),.im (.int j.2.1),.im (.bl j.2.2)],rfl,_,vG (d:=jD sp j) ?_ rfl (by rw[t8,v7];lia),.im (.int j.1),.im (.int j.2.1),.im (.bl j.2.2),?_⟩;have hv:=hk j.1 _ hs;unfold jD;rw[DP hs];cases hb:j.2.2;simp only[yw,eC,hv,sH,nY.1,nY.2];rfl;simp only[yw,eC,hv,sH,nY.1,nY.2];rfl;rw[vo,hj,vn];rfl)
 rw[w5]at l;refine aG ((bS (d:=.lst ((ba c (c*r) (c*r)).map fe)) ?_ cM).trans l) (iR rfl);rw[dR,aV,kB hf (e0 _),aV,uD hf (e0 _)];simp only[yw,z]
noncomputable def pP:IS:=(.ret (.c 3 [(2,0)] [1] J .seq (.call ya (.cons (.v 0) .nil)) (.b .notin (.sl (.v 1) J (.L .non) Y (.L (.int 2))) (.fld (.v 2) yo)) (.v 1)))
end
end Pg
theorem yV{R:Type}{f:D->Option (Option D)}{enc g:R->D}{p:R->Bool}:∀{L:List R},(∀a∈L,f (enc a)=O (if p a then O (g a) else U))->cG f (L.map enc)=O ((L.filter p).map g)
 |[],_=>rfl
 |a::r,e=>by rw[uu];unfold cG;rw[e a (vi),yV λx hx=>e x (tw _ hx)];cases h:p a;rw[List.filter_cons_of_neg (by simp[h])];rfl;rw[List.filter_cons_of_pos (by simp[h])];rfl
def qE{R:Type}{G:GS}{B:List Sl}{fr:List (Nat×Nat)}{k:Src}{src test elt:IE}{s:D}{L:List R}(enc g:R->D)(p:R->Bool)(h1:ev G src B=O s)(h2:items k s=O (L.map enc)) (h3:∀a∈L,∃ρ1,bB tg tp (enc a) (frame n fr B)=O ρ1/\ev G test ρ1=O (.bl (p a))/\ev G elt ρ1=O (g a)):ev G (.c n fr tg tp k src test elt) B=O (.lst ((L.filter p).map g)):=by rw[vH,h1,vg,h2,vg,yV (g:=g) (p:=p)];rfl;intro a ha;obtain⟨ρ1,e1,e2,e3⟩:=h3 a ha;rw[e1,vg,e2,vg];cases p a;rfl;show Option.map O (ev G elt ρ1)=_;rw[e3];rfl
theorem qH{R:Type}{f:R->D}:∀{L:List R},(∀a,bw (f a) (f a)=Y)->lA (L.map f) (L.map f)=Y
 |[],_=>by rw[map_nil,lA]
 |a::r,h=>by rw[uu,lA,h a,qH (L:=r) h];rfl
def mD{R:Type}{f:R->D}{L:List R}(h:∀a,flat 7 (f a)=Y):plain (.lst (L.map f))=Y:=by show (L.map f).all (flat 7)=Y;rw[List.all_map];exact all_eq_true.mpr λa _=>h a
def vL{xs ys:List D}:bw (.lst xs) (.lst ys)=lA xs ys:=by rw[bw]
namespace Pg
section
variable {G:GS}
noncomputable def MV:IS:=(.seq (.set 3 (.q (.tr (.v 1)) (.fld (.v 0) "high") (.fld (.v 0) "wide"))) (.seq (.g (.or (.b .lt (.v 2) (.L (.int 0))) (.b .gt (.v 2) (.v 3))) (.rse "NoPlace") .nop) (.seq (.set 4 (.c 4 [(2,1),(3,2)] [1] J .seq (.call yr (.cons (.v 0) .nil)) (.b .eq (.sl (.v 1) Y (.L (.int 2)) J (.L .non)) (.tup (.cons (.v 2) (.cons (.v 3) .nil)))) (.sl (.v 1) J (.L .non) Y (.L (.int 2))))) (.ret (.mk "Pile" (.cons (.fld (.v 0) yq) (.cons (.fld (.v 0) "rows") (.cons (.fld (.v 0) "table") (.cons (.fld (.v 0) "folds") (.cons (.b .add (.fld (.v 0) yo) (.ρ .tuple (.cons (.v 4) .nil))) .nil))))))))))
def rO{a b c d:D}:cut [a,b,c,d] (O 2) U=[c,d]:=rfl
def vJ{a b:Bool}{j:Int}:af .eq (.tup [.bl a,.int i]) (.tup [.bl b,.int j])=O (.bl ((a == b)&&(i == j))):=by show oEq _ _=_;unfold oEq;rw[show (plain (.tup [.bl a,.int i])&&plain (.tup [.bl b,.int j]))=Y from rfl];simp[bw,lA]
def JI(p:Table×Nat×Nat)(f:Fold):Table×Nat×Nat:=(foldT f.sd f.over f.k p.1,if f.sd.up then max f.k (p.2.1-f.k) else p.2.1,if f.sd.up then p.2.2 else max f.k (p.2.2-f.k))
def runs(c r:Nat)(fs:List Fold):Table×Nat×Nat:=fs.foldl JI (gJ c r,c,r)
def lZ{fs:List Fold}{f:Fold}:runs c r (fs++[f])=JI (runs c r fs) f:=by unfold runs;rw[List.foldl_append];rfl
def bR(c r:Nat)(fs:List Fold):D:=aL c r (runs c r fs).2.1 (runs c r fs).2.2 (runs c r fs).1 (fs.map Fold.d) []
def Fits(c r:Nat)(fs:List Fold)(f:Fold):Prop:=1<=f.k/\f.k<ext f.sd (runs c r fs).2.1 (runs c r fs).2.2
structure StgI (c r:Nat) (fs:List Fold):Prop where
 sit:SitI (runs c r fs).1 (runs c r fs).2.1 (runs c r fs).2.2 (c*r)
structure q8 (c r:Nat) (fs:List Fold) (sp:List Spot):Prop where
 pre:∀i f,fs[i]?=O f->StgI c r (fs.take i)/\Fits c r (fs.take i) f
 few:fs.length<=128
 sits:aq (runs c r fs).1 (runs c r fs).2.1 (runs c r fs).2.2 sp
 len:sp.length=c*r
def KF{fs:List Fold}(h:∀i f,fs[i]?=O f->StgI c r (fs.take i)/\Fits c r (fs.take i) f)(S:StgI c r fs){f:Fold}(ok:Fits c r fs f):∀i g,(fs++[f])[i]?=O g->StgI c r ((fs++[f]).take i)/\Fits c r ((fs++[f]).take i) g:=λi g e=>by
 by_cases hi:i<fs.length;rw[vt hi]at e;rw[List.take_append_of_le_length (le_of_lt hi)];exact h i g e;have hl:=(sj.mp e).1;rw[um,List.length_singleton]at hl;obtain rfl:i=fs.length:=by lia
 rw[vx (t9 _),Nat.sub_self]at e;cases e;rw[List.take_left'];exact⟨S,ok⟩;rfl
theorem StgI.fold{fs:List Fold}(S:StgI c r fs){f:Fold}(ok:Fits c r fs f):StgI c r (fs++[f]):=⟨by rw[lZ];exact S.sit.fold ok.1 ok.2⟩
def sR(p8:∀(c r w h:Nat) (T:Table) (F:List D) (sd:Side) (over:Bool) (k:Nat),Rect T w h->w<=1000->h<=1000->rH 400000 T->1<=k->(k<if sd.up then w else h)->F.length<=1000 ->G.fn yt [aL c r w h T F [],.str sd.str,.bl over,.int k]=O (.ok (aL c r (if sd.up then max k (w-k) else w) (if sd.up then h else max k (h-k)) (foldT sd over k T) (F++[fK sd over k]) [])))  {fs:List Fold} (S:StgI c r fs) {f:Fold} (ok:Fits c r fs f) (hl:fs.length<=1000):G.fn yt [bR c r fs,.str f.sd.str,.bl f.over,.int f.k]=O (.ok (bR c r (fs++[f]))):=by have a:=S.sit.w64;have b:=S.sit.h64;unfold bR;rw[p8 c r _ _ _ _ f.sd f.over f.k S.sit.rect yx yx (λs hs x hx=>ug (S.sit.few s hs x hx) y8) ok.1 ok.2 (by rw[t8];exact hl),lZ,vn];rfl
end
section
variable {G:GS}
noncomputable def pD(p:Nat×Nat):D:=.tup [.int p.1,.int p.2]
def pairOf(j:Nat×Nat×Bool):Nat×Nat:=(j.1,j.2.1)
def left(c n:Nat)(aa:List (Nat×Nat)):List (Nat×Nat×Bool):=(ba c n n).filter λj=>!aa.contains (pairOf j)
def eJ(sp:List Spot)(l:Bool)(n:Int)(j:Nat×Nat×Bool):Bool:=(j.2.2 == l)&&(mM sp j.1 j.2.2 == n)
def fL(c n:Nat)(sp:List Spot)(aa:List (Nat×Nat))(l:Bool)(k:Int):List (Nat×Nat):=((left c n aa).filter (eJ sp l k)).map pairOf
def LW:left c n []=ba c n n:=List.filter_eq_self.mpr λ_ _=>rfl
def aDx{p q:Nat×Nat}:bw (pD p) (pD q)=(p == q):=by unfold pD;obtain⟨a,b⟩:=p;obtain⟨c,d⟩:=q;simp only[bw,lA,Bool.and_true];rw[Bool.eq_iff_iff];simp;lia
def GX{p:Nat×Nat}:af .notin (pD p) (.tup (aa.map pD))=O (.bl (!aa.contains p)):=by show (if (plain (pD p)&&(aa.map pD).all plain)=Y then O (D.bl (!(aa.map pD).any λy=>bw y (pD p))) else U)=_;rw[if_pos];congr 2;rw[any_map];congr 1;rw[List.contains_eq_any_beq];congr 1;funext q;show bw (pD q) (pD p)=(p == q);rw[aDx,Bool.beq_comm];rw[u3];exact⟨rfl,all_eq_true.mpr λx hx=>by obtain⟨y,_,rfl⟩:=ux.mp hx;rfl⟩
def AN(hf:G.fl "Pile"=cy){T:Table}{F:List D}{sp:List Spot}(z:G.fn ya [aL c r w h T F (aa.map pD)]=O (.ok (jsE sp c r))):bC G 1 pP [aL c r w h T F (aa.map pD)]=O (.ok (.lst ((left c (c*r) aa).map (jD sp)))):=by refine aK (B:=[.im (aL c r w h T F (aa.map pD))]) rfl (aR ?_);refine qE (jD sp) (jD sp) (λj=>!aa.contains (pairOf j)) (s:=jsE sp c r) (by simp only[yw,z]) cM λj _=>⟨[.un,.im (jD sp j),.im (aL c r w h T F (aa.map pD))],rfl,?_,by simp only[zz,yy]⟩;rw[bA,kA (c:=c) (r:=r) (w:=w) (h:=h) (T:=T.map sE) (F:=F) (S:=aa.map pD) hf (by simp only[zz,yy];rfl),ES,qB];unfold jD;simp only[yw,part,intOf];exact GX (p:=pairOf j)
def YU(hf:G.fl "Pile"=cy){T:Table}{F:List D}{sp:List Spot}(α:Rect T w h)(la:G.fn yr [aL c r w h T F (aa.map pD)]=O (.ok (.lst ((left c (c*r) aa).map (jD sp))))) (p3:∀(c r:Int) (T row:List D) (F S:List D),T[0]?=O (.lst row)->G.mo "Pile" [.int c,.int r,.lst T,.tup F,.tup S]=O (.ok (bM c r row.length T.length T F S))) {l:Bool} {n:Int} (h0:0<=n) (h1:n<=((if l then h else w:Nat):Int)) (hlen:aa.length+c*r*2<=1000000):bC G 5 MV [aL c r w h T F (aa.map pD),.bl l,.int n]=O (.ok (aL c r w h T F ((aa++fL c (c*r) sp aa l n).map pD))):=by
 have z:∀r',ev G (.v 0) (.im (aL c r w h T F (aa.map pD))::r')=O (bM c r w h (T.map sE) F (aa.map pD)):=λ_=>by simp only[zz,yy];rfl
 have I:=p3 c r (T.map sE) ((T.getD 0 []).map hE) F ((aa++fL c (c*r) sp aa l n).map pD) (by have:=α.len;have:=α.h1;rw[sv,sk,su yx];rfl);rw[t8,t8,α.len,show (T.getD 0 []).length=_ from α.width]at I;refine aK (B:=[.im (aL c r w h T F (aa.map pD)),.im (.bl l),.im (.int n),.un,.un]) rfl ?_;refine aG (aO (d:=.int ((if l then h else w:Nat):Int)) ?_) (aG (cC ?_ aW) (aG (aO (d:=.lst ((fL c (c*r) sp aa l n).map pD)) ?_) (aR ?_)));rw[mY];cases l;simp only[yw,eC,jC hf (z _)];rfl;simp only[yw,eC,jE hf (z _)];rfl;simp only[List.set];simp only[yw];rw[tj (show ¬n<0 by lia),tj (show ¬((if l then h else w:Nat):Int)<n by lia)];simp only[List.set];have e:=qE (G:=G) (L:=left c (c*r) aa) (jD sp) (λj=>pD (pairOf j)) (eJ sp l n) (n:=4) (fr:=[(2,1),(3,2)]) (tg:=[1]) (tp:=J) (k:=.seq) (src:=.call yr (.cons (.v 0) .nil)) (test:=.b .eq (.sl (.v 1) Y (.L (.int 2)) J (.L .non)) (.tup (.cons (.v 2) (.cons (.v 3) .nil)))) (elt:=.sl (.v 1) J (.L .non) Y (.L (.int 2))) (B:=[.im (aL c r w h T F (aa.map pD)),.im (.bl l),.im (.int n),.im (.int ((if l then h else w:Nat):Int)),.un]) (s:=.lst ((left c (c*r) aa).map (jD sp))) (by simp only[yw,la]) cM λj _=>⟨[.un,.im (jD sp j),.im (.bl l),.im (.int n)],rfl,by
  unfold jD;rw[bA,ES,qB];simp only[yw,part,intOf];exact vJ,by
  unfold jD;rw[ES,qB];simp only[yw,part,intOf];rfl⟩
 rw[e];unfold fL;rw[vq];rfl;simp only[List.set];rw[QG,aV,kB hf (z _),aV,uD hf (z _),aV,uC hf (z _),aV,uE hf (z _),aV,bA,kA hf (z _)];simp only[yw];rw[show bf .tuple [.lst ((fL c (c*r) sp aa l n).map pD)]=O (.tup ((fL c (c*r) sp aa l n).map pD)) from rfl];have bq:(fL c (c*r) sp aa l n).length<=c*r*2:=by unfold fL left;rw[t8];refine ug (length_filter_le _ _) (ug (length_filter_le _ _) ?_);have:=fP (c:=c) (n:=c*r) (c*r);lia
 simp only[aA,aGJ (a:=aa.map pD) (b:=(fL c (c*r) sp aa l n).map pD) (by rw[t8,t8];lia),<-vn,zz,yy,I];rfl
end
section
variable {G:GS}
def md{n:Int}(h:0<n):af .mod (.int i) (.int n)=O (.int (i % n)):=oZ h
def dv{n:Int}(h:0<n)(h':n<1000000):af .fdiv (.int i) (.int n)=O (.int (i / n)):=pC h h'
def LO(i:Int)(n:Nat)(h:0<n):∃k:Nat,k<n/\i % (n:Int)=k:=by have h0:=Int.emod_nonneg i (show (n:Int)≠0 by lia);have h1:=Int.emod_lt_of_pos i (show (0:Int)<n by lia);exact⟨(i % (n:Int)).toNat,yx,yx⟩
end
section
variable {G:GS}
noncomputable def BV:IS:=(.g (.b .gt (.b .mul (.fld (.v 3) "wide") (.fld (.v 3) "high")) (.L (.int 1))) (.seq (.set 5 (.b .add (.call xg (.cons (.v 2) (.cons (.b .add (.L (.int 3)) (.b .mod (.v 4) (.L (.int 12)))) .nil))) (.b .mul (.L (.int 11)) (.b .fdiv (.v 4) (.L (.int 12)))))) (.seq (.set 6 (.call xf (.cons (.v 5) (.cons (.fld (.v 3) "wide") (.cons (.fld (.v 3) "high") .nil))))) (.set 3 (.call yt (.cons (.v 3) (.cons (.ix (.v 6) (.L (.int 0))) (.cons (.ix (.v 6) (.L (.int 1))) (.cons (.ix (.v 6) (.L (.int 2))) .nil)))))))) .nop)
def AW:IS:=(.seq (.set 3 (.call "laid" (.cons (.v 0) (.cons (.v 1) .nil)))) (.seq (.loop [4] J .rng (.tup (.cons (.b .add (.v 0) (.v 1)) .nil)) BV) (.ret (.v 3))))
def ip(ns:List Int)(c r:Nat)(fs:List Fold)(s4 s5 z:Sl):List Sl:=[.im (.int c),.im (.int r),.im (.frz (ns.map .int)),.im (bR c r fs),s4,s5,z]
def SY(hf:G.fl "Pile"=cy){ns:List Int}(hc:1<=c)(hr:1<=r)(ao:c*r<=64)(hca:∀k:Nat,G.fn xg [.frz (ns.map .int),.int k]=O (.ok (.int (de ns k)))) (hla:G.fn "laid" [.int c,.int r]=O (.ok (aL c r c r (gJ c r) [] []))) (hfb:∀(w h:Nat) (cell:Int),1<=w->1<=h->1<w*h->∃(sd:Side) (over:Bool) (k:Nat),1<=k/\(k<if sd.up then w else h)/\G.fn xf [.int cell,.int w,.int h]=O (.ok (fK sd over k))) (hfp:∀(fs:List Fold) (sp:Nat) (f:Fold),StgI c r fs->Fits c r fs f->fs.length<=1000->G.fn yt [bR c r fs,.str f.sd.str,.bl f.over,.int f.k]=O (.ok (bR c r (fs++[f])))):∃fs sp,q8 c r fs sp/\(runs c r fs).2.1=1/\(runs c r fs).2.2=1/\bC G 7 AW [.int c,.int r,.frz (ns.map .int)]=O (.ok (bR c r fs)):=by
 have qx:c<=64:=ug (Nat.le_mul_of_pos_right c hr) ao;have r64:r<=64:=ug (Nat.le_mul_of_pos_left r hc) ao;have S0:StgI c r []:=⟨IC hc hr ao⟩;have go:∀(k:Nat),k<c+r->∀B,(∃fs s4 s5 s6,StgI c r fs/\(∀i f,fs[i]?=O f->StgI c r (fs.take i)/\Fits c r (fs.take i) f)/\fs.length<=k/\(((runs c r fs).2.1=1/\(runs c r fs).2.2=1)\/(runs c r fs).2.1+(runs c r fs).2.2+k<=c+r)/\B=ip ns c r fs s4 s5 s6) ->∃ρ1,bB [4] J (.int (k:Nat)) B=O ρ1/\∃ρ2,ex G BV ρ1=O (.nx ρ2)/\∃fs s4 s5 s6,StgI c r fs/\(∀i f,fs[i]?=O f->StgI c r (fs.take i)/\Fits c r (fs.take i) f)/\fs.length<=k+1/\(((runs c r fs).2.1=1/\(runs c r fs).2.2=1)\/(runs c r fs).2.1+(runs c r fs).2.2+(k+1)<=c+r)/\ρ2=ip ns c r fs s4 s5 s6:=by
  rintro k hk B ⟨fs,s4,s5,s6,S,dm,I,hw,rfl⟩;refine⟨ip ns c r fs (.im (.int (k:Nat))) s5 s6,rfl,?_⟩;have w1:=S.sit.rect.w1;have h1:=S.sit.rect.h1;have w64:=S.sit.w64;have h64:=S.sit.h64;have ew:∀{B:List Sl} {a:IE},ev G a B=O (bR c r fs)->ev G (.fld a "wide") B=O (.int (runs c r fs).2.1):=λe=>jC hf e;have eh:∀{B:List Sl} {a:IE},ev G a B=O (bR c r fs)->ev G (.fld a "high") B=O (.int (runs c r fs).2.2):=λe=>jE hf e;have et:ev G (.b .gt (.b .mul (.fld (.v 3) "wide") (.fld (.v 3) "high")) (.L (.int 1))) (view (ip ns c r fs (.im (.int (k:Nat))) s5 s6))=O (.bl (decide (1<(runs c r fs).2.1*(runs c r fs).2.2))):=by rw[bA,bA,ew rfl,eh rfl];simp only[yw,kC (show (runs c r fs).2.1<=1000000 by lia)];exact congrArg (λb=>O (D.bl b)) (decide_eq_decide.mpr yx)
  by_cases hb:1<(runs c r fs).2.1*(runs c r fs).2.2;obtain⟨cell,hcell⟩:∃cell,cell=de ns (3+k % 12)+11*((k:Int) / 12):=⟨_,rfl⟩;obtain⟨sd,over,kk,k1,k2,efb⟩:=hfb _ _ cell w1 h1 hb;have ok:Fits c r fs ⟨sd,over,kk⟩:=⟨k1,k2⟩;have efp:=hfp fs 0 ⟨sd,over,kk⟩ S ok yx;have S':=S.fold ok;have ec:G.fn xg [.frz (ns.map .int),.int (3+(k:Int) % 12)]=O (.ok (.int (de ns (3+k % 12)))):=hca (3+k % 12);refine⟨ip ns c r (fs++[⟨sd,over,kk⟩]) (.im (.int (k:Nat))) (.im (.int cell)) (.im (fK sd over kk)),hZ (et.trans (by rw[uv hb])) (aG (aO (d:=.int cell) ?_) (aG (aO (d:=fK sd over kk) ?_) ((aO (d:=bR c r (fs++[⟨sd,over,kk⟩])) ?_).trans rfl))),fs++[⟨sd,over,kk⟩],_,_,_,S',KF dm S ok,by rw[um];exact Nat.succ_le_succ I,?_,rfl⟩;unfold ip;rw[hcell];simp only[yw,oZ (i:=(k:Int)) (j:=12) y8,pC (i:=(k:Int)) (j:=12) y8 y8,ec,nJ (i:=11) y8 y8];rw[dR,aV,aV,ew rfl,aV,eh rfl];unfold ip;simp only[List.set];simp only[yw,efb];unfold ip;simp only[List.set];simp only[yw,fK,BW.1,BW.2.1,BW.2.2,efp];rw[lZ];have k9:kk<if sd.up then(runs c r fs).2.1 else(runs c r fs).2.2:=k2
  have hk1:1<=kk:=k1;refine .inr ?_;unfold JI;dsimp only;rcases hw with ⟨e1,e2⟩|hw;rw[e1,e2]at hb;lia;cases hu:sd.up with
  |true=>rw[hu]at k9;simp only[if_true]at k9 ⊢;lia
  |false=>rw[hu]at k9;simp only[tu,if_false]at k9 ⊢;lia
  refine⟨_,cC (et.trans (by rw[tj hb])) aW,fs,_,_,_,S,dm,le_succ_of_le I,.inl ?_,rfl⟩;have a:(runs c r fs).2.1<=(runs c r fs).2.1*(runs c r fs).2.2:=Nat.le_mul_of_pos_right _ h1;have b:(runs c r fs).2.2<=(runs c r fs).2.1*(runs c r fs).2.2:=Nat.le_mul_of_pos_left _ w1;exact⟨yx,yx⟩
 obtain⟨B',l,fs,s4,s5,s6,S,dm,I,hw,rfl⟩:=hV (enc:=λk:Nat=>D.int k) (bind:=bB [4] J) (body:=ex G BV) (λk B=>∃fs s4 s5 s6,StgI c r fs/\(∀i f,fs[i]?=O f->StgI c r (fs.take i)/\Fits c r (fs.take i) f)/\fs.length<=k/\(((runs c r fs).2.1=1/\(runs c r fs).2.2=1)\/(runs c r fs).2.1+(runs c r fs).2.2+k<=c+r)/\B=ip ns c r fs s4 s5 s6) (L:=List.range (c+r)) (B:=ip ns c r [] .un .un .un) ⟨[],_,_,_,S0,λi f e=>(by cases e),t9 _,.inr (t9 _),rfl⟩ (λk a hk B h=>by
  have h1:=(sj.mp hk).1;rw[uc]at h1;have h2:a=k:=by rw[vk h1]at hk;exact(u4 hk).symm
  subst h2;exact go a h1 B h)
 rw[uc]at hw I;have w1:=S.sit.rect.w1;have h1:=S.sit.rect.h1;have jg:(runs c r fs).2.1=1/\(runs c r fs).2.2=1:=hw.elim id λz=>by lia
 obtain⟨sp,Si,hl⟩:∃sp,aq (runs c r fs).1 1 1 sp/\sp.length=c*r:=by have:=S.sit;rw[jg.1,jg.2]at this;exact this.sits (Nat.mul_pos hc hr)
 refine⟨fs,sp,⟨dm,yx,by rw[jg.1,jg.2];exact Si,hl⟩,jg.1,jg.2,aK (B:=[.im (.int c),.im (.int r),.im (.frz (ns.map .int)),.un,.un,.un,.un]) rfl (aG (aO (d:=bR c r []) ?_) (aG ((bS (d:=.tup [.int ((c+r:Nat):Int)]) ?_ (cY yx)).trans l) (aR (by unfold ip;simp only[zz,yy]))))⟩;simp only[yw,hla];rfl;simp only[List.set];simp only[yw];rfl
def iU{T:Table}{sp:List Spot}(S:aq T 1 1 sp):(aj T 0 0).length=sp.length/\gG ((aj T 0 0).map λc=>D.int c.1)=O ((List.range sp.length).map λ(k:Nat)=>D.int k):=by
 have nk:((aj T 0 0).map λc=>(c.1,(0:Int))).Nodup:=by rw[nodup_iff_pairwise_ne,pairwise_map];exact(S.lk.ord 0 0).imp λ{a b} h e=>h (Prod.mk.inj e).1
 have pm:((List.range sp.length).map λ(k:Nat)=>((k:Int),(0:Int))).Pairwise (λa b=>cH a b=Y):=by rw[pairwise_map];refine pairwise_lt_range.imp λ{a b} h=>?_;rw[eI];exact .inl (by dsimp only;lia)
 have nm:((List.range sp.length).map λ(k:Nat)=>((k:Int),(0:Int))).Nodup:=pm.imp λ{a b} e q=>by subst q;rw[eI]at e;lia
 have I:((List.range sp.length).map λ(k:Nat)=>((k:Int),(0:Int))).Perm ((aj T 0 0).map λc=>(c.1,(0:Int))):=by refine(List.perm_ext_iff_of_nodup nm nk).mpr λp=>?_;rw[ux,ux];constructor;rintro⟨k,hk,rfl⟩;have hk:=vy.mp hk;have hs:=su hk;have hm:=w9 hk;have:=S.xlt hm;have:=S.ylt hm;exact⟨((k:Int),(sp[k]).e,(sp[k]).n),(S.lk.mem 0 0 _).mpr ⟨k,sp[k],hs,yx,yx,rfl⟩,rfl⟩;rintro⟨c,hc,rfl⟩;obtain⟨i,s,h1,_,_,rfl⟩:=(S.lk.mem 0 0 c).mp hc;exact⟨i,vy.mpr (sj.mp h1).1,rfl⟩
 have hl:(aj T 0 0).length=sp.length:=by have:=I.length_eq;simpa using this.symm
 refine⟨hl,?_⟩;have h1:1<=sp.length:=Nat.pos_of_ne_zero λz=>S.ne (ur.mp z);have np:kS ((aj T 0 0).map λc=>D.int c.1)=U:=by
  cases hh:aj T 0 0 with
  |nil=>rw[hh]at hl;simp at hl;lia
  |cons c r=>rfl
 have cs:dW (((aj T 0 0).map λc=>c.1).map λi=>(i,(0:Int)))=Y:=by unfold dW;rw[u3,ub,ub,vq];refine⟨?_,nk⟩;rw[t8,hl];exact S.len
 unfold gG;rw[np];show (match dJ ((aj T 0 0).map λc=>D.int c.1) with|some is=>(if dW (is.map λi=>(i,0)) then O ((iY (is.map λi=>(i,0))).map λ(p:Int×Int)=>D.int p.1) else U)|none=>U)=_;rw[ints_map];show (if dW (((aj T 0 0).map λc=>c.1).map λi=>(i,(0:Int))) then O ((iY (((aj T 0 0).map λc=>c.1).map λi=>(i,(0:Int)))).map λp=>D.int p.1) else U)=_;rw[if_pos cs,vq,show ((λi=>(i,(0:Int))) ∘ λ(c:Cell)=>c.1)=λc=>(c.1,(0:Int)) from rfl,<-oT I pm,vq];rfl
noncomputable def RJ:IS:=(.seq (.g (.or (.not (.tr (.y (.v 3) "tuple"))) (.or (.b .ne (.ρ .len (.cons (.v 3) .nil)) (.L (.int 3))) (.not (.tr (.call x9 (.cons (.ix (.v 3) (.L (.int 0))) .nil)))))) (.ret (.L .non)) .nop) (.g (.or (.not (.tr (.y (.ix (.v 3) (.L (.int 1))) "bool"))) (.not (.tr (.y (.ix (.v 3) (.L (.int 2))) "bool")))) (.ret (.L .non)) .nop))
def BA:IS:=(.seq (.g (.or (.b .ne (.fld (.v 0) "wide") (.L (.int 1))) (.b .ne (.fld (.v 0) "high") (.L (.int 1)))) (.ret (.L .non)) .nop) (.seq (.set 2 (.meth (.v 0) "heap" (.cons (.L (.int 0)) (.cons (.L (.int 0)) .nil)))) (.seq (.g (.or (.not (.tr (.y (.v 2) "list"))) (.b .ne (.ρ .len (.cons (.v 2) .nil)) (.v 1))) (.ret (.L .non)) .nop) (.seq (.loop [3] J .seq (.v 2) RJ) (.seq (.g (.b .ne (.ρ .sorted (.cons (.c 2 [] [1] J .seq (.v 2) (.L (.bl Y)) (.ix (.v 1) (.L (.int 0)))) .nil)) (.walk .rng (.tup (.cons (.v 1) .nil)))) (.ret (.L .non)) .nop) (.ret (.v 2)))))))
def XT(hf:G.fl "Pile"=cy)(hw:∀i:Int,G.fn x9 [.int i]=O (.ok (.bl Y))){T:Table}{F S:List D}{sp:List Spot}(St:aq T 1 1 sp)(hs:sp.length=c*r)(hh:G.me "Pile" "heap" [aL c r 1 1 T F S,.int 0,.int 0]=O (.ok (hE (aj T 0 0)))):bC G 4 BA [aL c r 1 1 T F S,.int ((c*r:Nat):Int)]=O (.ok (hE (aj T 0 0))):=by obtain⟨hl,z⟩:=iU St;have n64:=St.len;refine aK (B:=[.im (aL c r 1 1 T F S),.im (.int ((c*r:Nat):Int)),.un,.un]) rfl ?_;have I:∀{s1 s2 s3:Sl},ev G (.v 0) [.im (aL c r 1 1 T F S),s1,s2,s3]=O (bM c r (1:Nat) (1:Nat) (T.map sE) F S):=λ{_ _ _}=>rfl;obtain⟨B',h1,s3,rfl⟩:=sQ (bind:=bB [3] J) (body:=ex G RJ) (λB=>∃s3,B=[.im (aL c r 1 1 T F S),.im (.int ((c*r:Nat):Int)),.im (hE (aj T 0 0)),s3]) (ds:=(aj T 0 0).map du) (B:=[.im (aL c r 1 1 T F S),.im (.int ((c*r:Nat):Int)),.im (hE (aj T 0 0)),.un]) ⟨.un,rfl⟩ (by rintro d hd B ⟨s3,rfl⟩;obtain⟨q,hq,rfl⟩:=ux.mp hd;refine⟨_,rfl,_,aG (cC ?_ aW) (cC ?_ aW),_,rfl⟩;show ev G _ (view [.im (aL c r 1 1 T F S),.im (.int ((c*r:Nat):Int)),.im (hE (aj T 0 0)),.im (du q)])=_;simp only[cO,dD,aY];unfold du;refine cD (x:=J) (y:=J) (by simp only[yw,DV,eC,uo]) λ_=>cD (x:=J) (y:=J) ?_ λ_=>?_;simp only[yw];rfl;simp only[yw,BW.1,hw,eC,uo];show ev G _ (view [.im (aL c r 1 1 T F S),.im (.int ((c*r:Nat):Int)),.im (hE (aj T 0 0)),.im (du q)])=_;simp only[cO,dD,aY];unfold du;exact cD (x:=J) (y:=J) (by simp only[yw,BW.2.1,nN,eC,uo]) λ_=>by simp only[yw,BW.2.2,nN,eC,uo]);refine aG (cC ?_ aW) (aG (aO (d:=hE (aj T 0 0)) ?_) (aG (cC ?_ aW) (aG ((bS (d:=hE (aj T 0 0)) ?_ cM).trans h1) (aG (cC ?_ aW) (aR ?_)))));simp only[cO,dD,aY];refine cD (x:=J) (y:=J) ?_ λ_=>?_;rw[bA,jC hf I];simp only[yw];rfl;rw[bA,jE hf I];simp only[yw];rfl;exact oY rfl I (by simp only[yw]) hh;simp only[List.set,cO,dD,aY];refine cD (x:=J) (y:=J) (by unfold hE;simp only[yw,DW,eC,uo]) λ_=>?_;unfold hE;simp only[yw,t8,hl,hs];simp;simp only[List.set];simp only[zz,yy];simp only[cO,dD,aY];have e1:∀{B:List Sl},ev G (.v 2) B=O (hE (aj T 0 0))->ev G (.c 2 [] [1] J .seq (.v 2) (.L (.bl Y)) (.ix (.v 1) (.L (.int 0)))) B=O (.lst ((aj T 0 0).map λc=>D.int c.1)):=λ{B} h=>bN (L:=aj T 0 0) du (λc=>D.int c.1) (s:=hE (aj T 0 0)) h cM λc _=>⟨[.un,.im (du c)],rfl,by simp only[zz,yy],by unfold du;simp only[yw,BW.1]⟩;rw[bA,fC,aV,e1 rfl];show ((Option.map D.lst (gG ((aj T 0 0).map λc=>D.int c.1))).bind λx=>(ev G (.walk .rng (.tup (.cons (.v 1) .nil))) _).bind λy=>af .ne x y)=_;rw[z];simp only[yw,cY (n:=c*r) yx,hs];exact ne_self (mD λ_=>rfl) (by rw[vL];exact qH λa=>by rw[bw];exact beq_self_eq_true _);simp only[zz,yy]
noncomputable def j9(lv:Bool)(c:Cell):List (Int×Bool):=[(if c.2.1 == c.2.2 then 2*c.1 else 2*c.1+1,c.2.2),(if c.2.1 == c.2.2 then 2*c.1+1 else 2*c.1,if lv then !c.2.2 else c.2.2)]
def b9(lv:Bool)(h:dP):List (Int×Bool):=h.flatMap (j9 lv)
noncomputable def fD(p:Int×Bool):D:=.tup [.int p.1,.bl p.2]
def OT{lv:Bool}{h:dP}{k:Nat}{c:Cell}(e:h[k]?=O c):b9 lv (h.take (k+1))=b9 lv (h.take k)++j9 lv c:=by unfold b9;rw[vo,e,List.flatMap_append];simp
theorem vD{lv:Bool}:∀{h:dP},(b9 lv h).length=2*h.length
 |[]=>rfl
 |c::h=>by show (j9 lv c++b9 lv h).length=_;rw[um,vD];show 2+2*h.length=2*(h.length+1);lia
noncomputable def aGu:IS:=(.seq (.set 6 (.q (.b .eq (.v 4) (.v 5)) (.b .mul (.L (.int 2)) (.v 3)) (.b .add (.b .mul (.L (.int 2)) (.v 3)) (.L (.int 1))))) (.seq (.set 7 (.q (.b .eq (.v 4) (.v 5)) (.b .add (.b .mul (.L (.int 2)) (.v 3)) (.L (.int 1))) (.b .mul (.L (.int 2)) (.v 3)))) (.seq (.app 2 (.tup (.cons (.v 6) (.cons (.v 5) .nil)))) (.app 2 (.tup (.cons (.v 7) (.cons (.q (.b .isin (.v 1) (.o xt)) (.not (.tr (.v 5))) (.v 5)) .nil)))))))
def aDc:IS:=(.seq (.setm 2) (.seq (.loop [3,4,5] Y .seq (.meth (.v 0) "heap" (.cons (.L (.int 0)) (.cons (.L (.int 0)) .nil))) aGu) (.σ 2)))
def aEq(hlv:G.cst xt = O nz){T:Table}{F S:List D}(hh:G.me "Pile" "heap" [aL c r 1 1 T F S,.int 0,.int 0]=O (.ok (hE (aj T 0 0))))(hl:(aj T 0 0).length<=1000):bC G 8 aDc [aL c r 1 1 T F S,.str sd.str]=O (.ok (.lst ((b9 (!sd.up) (aj T 0 0)).map fD))):=by
 generalize aj T 0 0=h at *;have e0:∀{s1 s2 s3 s4 s5 s6 s7:Sl},ev G (.v 0) [.im (aL c r 1 1 T F S),s1,s2,s3,s4,s5,s6,s7]=O (bM c r (1:Nat) (1:Nat) (T.map sE) F S):=λ{_ _ _ _ _ _ _}=>rfl;obtain⟨B',l,s3,s4,s5,s6,s7,rfl⟩:=hV (enc:=du) (bind:=bB [3,4,5] Y) (body:=ex G aGu) (λk B=>∃s3 s4 s5 s6 s7,B=[.im (aL c r 1 1 T F S),.im (.str sd.str),.mu (.lst ((b9 (!sd.up) (h.take k)).map fD)),s3,s4,s5,s6,s7]) (L:=h) (B:=[.im (aL c r 1 1 T F S),.im (.str sd.str),.mu (.lst []),.un,.un,.un,.un,.un]) ⟨_,_,_,_,_,rfl⟩ (by
  rintro k q hk B ⟨s3,s4,s5,s6,s7,rfl⟩;have hkl:=(sj.mp hk).1;obtain⟨z,qe,I⟩:=q;have ll:(b9 (!sd.up) (h.take k)).length<=2000:=by rw[vD,v7];lia
  refine⟨[.im (aL c r 1 1 T F S),.im (.str sd.str),.mu (.lst ((b9 (!sd.up) (h.take k)).map fD)),.im (.int z),.im (.bl qe),.im (.bl I),s6,s7],rfl,_,aG (aO (d:=.int (if qe == I then 2*z else 2*z+1)) ?_) (aG (aO (d:=.int (if qe == I then 2*z+1 else 2*z)) ?_) (aG (vG (d:=fD (if qe == I then 2*z else 2*z+1,I)) (ds:=(b9 (!sd.up) (h.take k)).map fD) ?_ rfl ?_) (vG (d:=fD (if qe == I then 2*z+1 else 2*z,if !sd.up then !I else I)) (ds:=(b9 (!sd.up) (h.take k)).map fD++[fD (if qe == I then 2*z else 2*z+1,I)]) ?_ rfl ?_))),.im (.int z),.im (.bl qe),.im (.bl I),.im (.int (if qe == I then 2*z else 2*z+1)),.im (.int (if qe == I then 2*z+1 else 2*z)),?_⟩;cases hb:(qe == I)<;>simp only[yw,QM,hb,nJ (i:=2) y8 y8,if_true,if_false,tu]
  simp only[List.set];cases hb:(qe == I)<;>simp only[yw,QM,hb,nJ (i:=2) y8 y8,if_true,if_false,tu]
  simp only[List.set];simp only[yw];rfl;rw[t8];lia;simp only[List.set];cases hb:sd.up<;>(have iv:=aAf (sd:=sd);rw[hb]at iv;simp only[yw,hlv,iv,eC,uo,Bool.not_false];rfl)
  rw[um,t8];show _+1<_;lia;rw[OT hk,vn];simp only[List.set,u6];rfl)
 refine aK (B:=[.im (aL c r 1 1 T F S),.im (.str sd.str),.un,.un,.un,.un,.un,.un]) rfl (aG (iQ) (aG ((bS (d:=hE h) ?_ cM).trans l) (iR ?_)));exact oY rfl e0 (by simp only[yw]) hh;show O (Sl.mu (.lst ((b9 (!sd.up) (h.take h.length)).map fD)))=_;rw[w5]
noncomputable def MT:IS:=(.seq (.g (.or (.b .gt (.fld (.v 0) "wide") (.L (.int 1))) (.b .gt (.fld (.v 0) "high") (.L (.int 1)))) (.rse "Ajar") .nop) (.g (.inC Y xj (.v 1)) (.rse "NoPlace") .nop))
noncomputable def kb:List (Str×D):=[("west",.tup [.bl J,.int 0]),("east",.tup [.bl J,.int 1]),("north",.tup [.bl Y,.int 0]),("south",.tup [.bl Y,.int 1])]
def aDv{neg:Bool}{x:Str}{a:IE}{B:List Sl}{s:Str}{kvs:List (Str×D)}(e:ev G a B=O (.str s))(hk:G.dk x=O kvs):ev G (.inC neg x a) B=O (.bl (neg != (kvs.lookup s).isSome)):=by show (ev G a B).bind _=_;rw[e];show (G.dk x).map _=_;rw[hk];rfl
def aAM(hf:G.fl "Pile"=cy)(hk:G.dk xj = O kb){T:Table}{F S:List D}:bC G 2 MT [aL c r 1 1 T F S,.str sd.str]=O (.ok .non):=by have z:ev G (.v 0) [.im (aL c r 1 1 T F S),.im (.str sd.str)]=O (bM c r (1:Nat) (1:Nat) (T.map sE) F S):=rfl;refine CZ (B:=[.im (aL c r 1 1 T F S),.im (.str sd.str)]) rfl (aG (cC ?_ aW) (cC ?_ aW));simp only[cO,dD,aY];refine cD (x:=J) (y:=J) ?_ λ_=>?_;rw[bA,jC hf z];simp only[yw];rfl;rw[bA,jE hf z];simp only[yw];rfl;simp only[cO,dD,aY];rw[aDv (s:=sd.str) rfl hk];cases sd<;>rfl
noncomputable def fZ:IS:=(.seq (.set 1 (.b .mod (.v 0) (.L (.int 8)))) (.seq (.set 2 (.b .fdiv (.v 0) (.L (.int 8)))) (.seq (.g (.b .lt (.v 1) (.L (.int 4))) (.ret (.tup (.cons (.b .add (.L (.int 1)) (.b .mod (.v 2) (.L (.int 5)))) (.cons (.b .add (.L (.int 1)) (.b .mod (.b .fdiv (.v 2) (.L (.int 5))) (.L (.int 4)))) .nil)))) .nop) (.seq (.g (.b .eq (.v 1) (.L (.int 4))) (.ret (.tup (.cons (.b .add (.L (.int 1)) (.b .mod (.v 2) (.L (.int 24)))) (.cons (.L (.int 1)) .nil)))) .nop) (.seq (.g (.b .eq (.v 1) (.L (.int 5))) (.ret (.tup (.cons (.b .add (.L (.int 1)) (.b .mod (.v 2) (.L (.int 2)))) (.cons (.b .add (.L (.int 1)) (.b .mod (.b .fdiv (.v 2) (.L (.int 2))) (.L (.int 12)))) .nil)))) .nop) (.seq (.g (.b .eq (.v 1) (.L (.int 6))) (.ret (.tup (.cons (.b .add (.L (.int 1)) (.b .mod (.v 2) (.L (.int 8)))) (.cons (.b .add (.L (.int 1)) (.b .mod (.b .fdiv (.v 2) (.L (.int 8))) (.L (.int 8)))) .nil)))) .nop) (.ret (.ix (.lst (.cons (.tup (.cons (.L (.int 8)) (.cons (.L (.int 8)) .nil))) (.cons (.tup (.cons (.L (.int 16)) (.cons (.L (.int 4)) .nil))) (.cons (.tup (.cons (.L (.int 3)) (.cons (.L (.int 21)) .nil))) (.cons (.tup (.cons (.L (.int 64)) (.cons (.L (.int 1)) .nil))) .nil))))) (.b .mod (.v 2) (.L (.int 4)))))))))))
def GF{cell:Int}:∃c r:Nat,1<=c/\1<=r/\c*r<=64/\bC G 3 fZ [.int cell]=O (.ok (.tup [.int c,.int r])):=by
 have e1:ev G (.b .mod (.v 0) (.L (.int 8))) [.im (.int cell),.un,.un]=O (.int (cell % 8)):=by simp only[yw,md (show (0:Int)<8 by decide)]
 have e2:ev G (.b .fdiv (.v 0) (.L (.int 8))) [.im (.int cell),.im (.int (cell % 8)),.un]=O (.int (cell / 8)):=by simp only[yw,dv (show (0:Int)<8 by decide) (show (8:Int)<1000000 by decide)]
 have t1:ev G (.b .lt (.v 1) (.L (.int 4))) (view [.im (.int cell),.im (.int (cell % 8)),.im (.int (cell / 8))])=O (.bl (decide (cell % 8<4))):=by simp only[yw]
 have I:∀n:Int,ev G (.b .eq (.v 1) (.L (.int n))) (view [.im (.int cell),.im (.int (cell % 8)),.im (.int (cell / 8))])=O (.bl (cell % 8 == n)):=λn=>by simp only[yw]
 have start:∀{o:D},(∃x,ex G x [.im (.int cell),.im (.int (cell % 8)),.im (.int (cell / 8))]=O (.rt o)/\fZ=(.seq (.set 1 (.b .mod (.v 0) (.L (.int 8)))) (.seq (.set 2 (.b .fdiv (.v 0) (.L (.int 8)))) x)))->bC G 3 fZ [.int cell]=O (.ok o):=by rintro o ⟨x,hx,e⟩;rw[e];exact aK (B:=[.im (.int cell),.un,.un]) rfl (aG (aO e1) (aG (aO e2) hx))
 have nr:∀(d:D) B',Out.rt d≠.nx B':=λ_ _ z=>by cases z
 have f:∀(i:Int) (n:Nat),0<n->∃k:Nat,k<n/\i % (n:Int)=k:=LO;cases h1:decide (cell % 8<4) with
 |true=>
  obtain⟨a,ha,ea⟩:=f (cell / 8) 5 y8;obtain⟨b,hb,eb⟩:=f (cell / 8 / 5) 4 y8;have ea:cell / 8 % 5=a:=ea;have eb:cell / 8 / 5 % 4=b:=eb;refine⟨1+a,1+b,yx,yx,?_,start ⟨_,gC (hZ (t1.trans (by rw[h1])) (aR ?_)) (nr _),rfl⟩⟩;have:(1+a)*(1+b)<=5*4:=Nat.mul_le_mul yx yx;lia;simp only[yw,md (show (0:Int)<5 by decide),dv (show (0:Int)<5 by decide) (show (5:Int)<1000000 by decide),md (show (0:Int)<4 by decide),ea,eb]
  push_cast
  rfl
 |false=>
  have n1:=cC (a:=.ret (.tup (.cons (.b .add (.L (.int 1)) (.b .mod (.v 2) (.L (.int 5)))) (.cons (.b .add (.L (.int 1)) (.b .mod (.b .fdiv (.v 2) (.L (.int 5))) (.L (.int 4)))) .nil)))) (t1.trans (by rw[h1])) (aW (G:=G));cases h2:(cell % 8 == 4) with
  |true=>
   obtain⟨a,ha,ea⟩:=f (cell / 8) 24 y8;have ea:cell / 8 % 24=a:=ea;refine⟨1+a,1,yx,yx,yx,start ⟨_,aG n1 (gC (hZ ((I 4).trans (by rw[h2])) (aR ?_)) (nr _)),rfl⟩⟩;simp only[yw,md (show (0:Int)<24 by decide),ea]
   push_cast
   rfl
  |false=>
   cases h3:(cell % 8 == 5) with
   |true=>
    obtain⟨a,ha,ea⟩:=f (cell / 8) 2 y8;obtain⟨b,hb,eb⟩:=f (cell / 8 / 2) 12 y8;have ea:cell / 8 % 2=a:=ea;have eb:cell / 8 / 2 % 12=b:=eb;refine⟨1+a,1+b,yx,yx,?_,start ⟨_,aG n1 (aG (cC ((I 4).trans (by rw[h2])) aW) (gC (hZ ((I 5).trans (by rw[h3])) (aR ?_)) (nr _))),rfl⟩⟩;have:(1+a)*(1+b)<=2*12:=Nat.mul_le_mul yx yx;lia;simp only[yw,md (show (0:Int)<2 by decide),dv (show (0:Int)<2 by decide) (show (2:Int)<1000000 by decide),md (show (0:Int)<12 by decide),ea,eb]
    push_cast
    rfl
   |false=>
    cases h4:(cell % 8 == 6) with
    |true=>
     obtain⟨a,ha,ea⟩:=f (cell / 8) 8 y8;obtain⟨b,hb,eb⟩:=f (cell / 8 / 8) 8 y8;have ea:cell / 8 % 8=a:=ea;have eb:cell / 8 / 8 % 8=b:=eb;refine⟨1+a,1+b,yx,yx,?_,start ⟨_,aG n1 (aG (cC ((I 4).trans (by rw[h2])) aW) (aG (cC ((I 5).trans (by rw[h3])) aW) (gC (hZ ((I 6).trans (by rw[h4])) (aR ?_)) (nr _)))),rfl⟩⟩;have:(1+a)*(1+b)<=8*8:=Nat.mul_le_mul yx yx;lia;simp only[yw,md (show (0:Int)<8 by decide),dv (show (0:Int)<8 by decide) (show (8:Int)<1000000 by decide),ea,eb]
     push_cast
     rfl
    |false=>
     obtain⟨a4,b4,f4⟩:=f (cell / 8) 4 y8;have f4:cell / 8 % 4=a4:=f4;have key:∀(c r:Nat),1<=c->1<=r->c*r<=64->([.tup [.int 8,.int 8],.tup [.int 16,.int 4],.tup [.int 3,.int 21],.tup [.int 64,.int 1]]:List D)[a4]?=O (.tup [.int c,.int r])->∃c r:Nat,1<=c/\1<=r/\c*r<=64/\bC G 3 fZ [.int cell]=O (.ok (.tup [.int c,.int r])):=by intro c r hc hr ao he;refine⟨c,r,hc,hr,ao,start ⟨_,aG n1 (aG (cC ((I 4).trans (by rw[h2])) aW) (aG (cC ((I 5).trans (by rw[h3])) aW) (aG (cC ((I 6).trans (by rw[h4])) aW) (aR ?_)))),rfl⟩⟩;simp only[yw,md (show (0:Int)<4 by decide),f4];exact eL he
     have:a4=0\/a4=1\/a4=2\/a4=3:=by lia
     rcases this with rfl|rfl|rfl|rfl;exact key 8 8 y8 y8 y8 rfl;exact key 16 4 y8 y8 y8 rfl;exact key 3 21 y8 y8 y8 rfl;exact key 64 1 y8 y8 y8 rfl
def ne_int:af .ne (.int i) (.int i)=O (.bl J):=by rw[aCr,beq_self_eq_true];rfl
noncomputable def bX:Nat->Side
 | 0=>.west
 | 1=>.east
 | 2=>.north
 |_=>.south
def RL{k:Nat}(h:k<4):atI ([.str "west",.str "east",.str "north",.str "south"]:List D) (k:Int)=O (.str (bX k).str):=by
 have:k=0\/k=1\/k=2\/k=3:=by lia
 rcases this with rfl|rfl|rfl|rfl<;>rfl
end
end Pg
end Z
namespace G11
variable {n a b:Nat}
abbrev Nm:=Nat->Nat
structure Good (n:Nat) (dC:List (Nat×Nat)) (l:Nm):Prop where
 le:∀k,k<n->l k<=k
 tie:∀a b,(a,b)∈dC->l a=l b
 hang:∀g:Nm,(∀a b,(a,b)∈dC->g a=g b)->∀k,k<n->g (l k)=g k
def Good.idem{dC:List (Nat×Nat)}{l:Nm}(h:Good n dC l){k:Nat}(hk:k<n):l (l k)=l k:=h.hang l h.tie k hk
structure Half (n:Nat) (dC:List (Nat×Nat)) (l:Nm):Prop where
 le:∀k,k<n->l k<=k
 hang:∀g:Nm,(∀a b,(a,b)∈dC->g a=g b)->∀k,k<n->g (l k)=g k
def Half.start{dC:List (Nat×Nat)}:Half n dC id:=⟨λk _=>t9 k,λ_ _ _ _=>rfl⟩
def hung(l:Nm)(p q:Nat):Nm:=λk=>if l k=max p q then min p q else l k
theorem Half.hung{n:Nat}{dC:List (Nat×Nat)}{l:Nm}{a b:Nat}(h:Half n dC l)(m:(a,b)∈dC)(ha:a<n)(hb:b<n):Half n dC (hung l (l a) (l b)):=by
 refine⟨λk hk=>?_,λg hg k hk=>?_⟩;unfold G11.hung;have:=h.le k hk;split<;>lia
 unfold G11.hung;have e1:=h.hang g hg a ha;have e2:=h.hang g hg b hb;have e3:=hg a b m;have e4:=h.hang g hg k hk;have e5:g (max (l a) (l b))=g (min (l a) (l b)):=by rcases Nat.le_total (l a) (l b) with q|q;rw[Nat.max_eq_right q,min_eq_left q,e1,e2,e3];rw[Nat.max_eq_left q,Nat.min_eq_right q,e1,e2,e3]
 split;rename_i q;rw[<-e5,<-q,e4];exact e4
def MW{l:Nm}{p q:Nat}(h:l a=l b):hung l p q a=hung l p q b:=by unfold hung;rw[h]
def HU{l:Nm}:hung l (l a) (l b) a=hung l (l a) (l b) b:=by unfold hung;rcases Nat.le_total (l a) (l b) with q|q;rw[Nat.max_eq_right q,min_eq_left q,if_pos rfl];split;rfl;rfl;rw[Nat.max_eq_left q,Nat.min_eq_right q,if_pos rfl];split;rfl;rfl
noncomputable def eB:List (Nat×Nat)->Nm->Nm
 |[],l=>l
 | (a,b)::ts,l=>eB ts (hung l (l a) (l b))
theorem pR{a b:Nat}:∀(ts:List (Nat×Nat)) {l:Nm},l a=l b->eB ts l a=eB ts l b
 |[],_,h=>h
 | (_,_)::ts,_,h=>pR ts (MW h)
theorem sM{a b:Nat}:∀(ts:List (Nat×Nat)) {l:Nm},(a,b)∈ts->eB ts l a=eB ts l b
 | (c,d)::ts,l,h=>by rcases ui.mp h with e|h;cases e;exact pR ts HU;exact sM ts h
theorem pS{n:Nat}{dC:List (Nat×Nat)}:∀(ts:List (Nat×Nat)) {l:Nm},(∀a b,(a,b)∈ts->(a,b)∈dC/\a<n/\b<n)->Half n dC l->Half n dC (eB ts l)
 |[],_,_,h=>h
 | (a,b)::ts,_,m,h=>by obtain⟨m1,m2,m3⟩:=m a b vi;exact pS ts (λa b z=>m a b (tw _ z)) (h.hung m1 m2 m3)
def iP{dC:List (Nat×Nat)}(h:∀a b,(a,b)∈dC->a<n/\b<n):Good n dC (eB dC id):=
 let g:=pS dC (λa b z=>⟨z,h a b z⟩) Half.start
 ⟨g.le,λ_ _=>sM dC,g.hang⟩
def upd(l:Nm)(a v:Nat):Nm:=λk=>if k=a then v else l k
def aGU(l:Nm)(a b:Nat):Nm:=upd (upd l a (min (l a) (l b))) b (min (l a) (l b))
noncomputable def go:List (Nat×Nat)->Nm×Bool->Nm×Bool
 |[],s=>s
 | (a,b)::ts,(l,z)=>go ts (if l a=l b then(l,z) else(aGU l a b,Y))
def sum(n:Nat)(l:Nm):Nat:=((List.range n).map l).sum
def heads(n:Nat)(l:Nm):List Nat:=(List.range n).filter λk=>l k == k
def cells(n:Nat)(l:Nm)(h:Nat):List Nat:=(List.range n).filter λk=>l k == h
def told(n:Nat)(l:Nm):List (List Nat):=(heads n l).map (cells n l)
noncomputable def put(k c:Nat):List (Nat×List Nat)->List (Nat×List Nat)
 |[]=>[(k,[c])]
 | (h,cs)::r=>if h=k then(h,cs++[c])::r else(h,cs)::put k c r
def dict(m:Nat)(l:Nm):List (Nat×List Nat):=(heads m l).map λh=>(h,cells m l h)
theorem DC{k c:Nat}:∀{r:List (Nat×List Nat)},(∀h cs,(h,cs)∈r->h≠k)->put k c r=r++[(k,[c])]
 |[],_=>rfl
 | (h,cs)::r,n=>by unfold put;rw[if_neg (n h cs vi),DC λh cs z=>n h cs (tw _ z)];rfl
theorem DE{k c:Nat}{f g:Nat->List Nat}(e1:g k=f k++[c])(e2:∀h,h≠k->g h=f h):∀{hs:List Nat},hs.Nodup->k∈hs->put k c (hs.map λh=>(h,f h))=hs.map λh=>(h,g h)
 |[],_,h=>nomatch h
 |h::hs,nd,m=>by
  have I:=nodup_cons.mp nd;rw[uu,uu];unfold put;by_cases q:h=k;subst q;rw[if_pos rfl,e1];congr 1;exact List.map_congr_left λx z=>by rw[e2 x λw=>I.1 (by rw[<-w];exact z)]
  rw[if_neg q,e2 h q];congr 1;refine DE e1 e2 I.2 ?_;rcases ui.mp m with z|z;exact(q z.symm).elim;exact z
def IJ{m:Nat}{l:Nm}(h1:∀k,k<n->l k<=k)(h2:∀k,k<n->l (l k)=l k)(hm:m<n):dict (m+1) l=put (l m) m (dict m l):=by
 have ec:∀h,cells (m+1) l h=if l m=h then cells m l h++[m] else cells m l h:=λh=>by unfold cells;rw[range_succ,List.filter_append];by_cases q:l m=h;rw[if_pos q];simp[q];rw[if_neg q];simp[q]
 have I:∀x,x∈heads m l↔x<m/\l x=x:=λx=>by unfold heads;simp[mem_filter]
 have eh:heads (m+1) l=if l m=m then heads m l++[m] else heads m l:=by unfold heads;rw[range_succ,List.filter_append];by_cases q:l m=m;rw[if_pos q];simp[q];rw[if_neg q];simp[q]
 unfold dict;by_cases q:l m=m;rw[eh,if_pos q,vn,q,DC];congr 1;exact List.map_congr_left λx z=>by rw[ec,if_neg];rw[q];exactλw=>va x (by have:=((I x).mp z).1;lia)
 show [(m,cells (m+1) l m)]=[(m,[m])];rw[ec,if_pos q];have:cells m l m=[]:=by unfold cells;rw[List.filter_eq_nil_iff];intro x z;have z:=vy.mp z;have:=h1 x (Nat.lt_trans z hm);simp;lia
 rw[this];rfl;intro h cs z;obtain⟨x,z1,z2⟩:=ux.mp z;cases z2;have:=((I h).mp z1).1;lia;rw[eh,if_neg q];refine(DE ?_ ?_ ?_ ?_).symm;rw[ec,if_pos rfl];intro h z;rw[ec,if_neg (Ne.symm z)];exact List.Nodup.sublist List.filter_sublist List.nodup_range;rw[I];have:=h1 m hm;exact⟨yx,h2 m hm⟩
end G11
namespace Z
open PySem Pg G11
variable {n b m i y ia ib na nb:Nat}{a C it:Addr}{p pos p2:Pos}{e tg elt iter:Expr}{x:Str}{o:HO}{xs:List V}{v:V}{H H1:Hp}{K:wc}{S S':Addr->Prop}{s:Shared}{X:Cx}{w:World}{A:Around}{E Q:wj}{op:CmpOp}{P:wg}{h2:Heap}{pins:wk}{M:L2.St}{vs:List Value}{B:List Sl}{tp:Bool}{env:Env}{sc:Scope}{ifs es:List Expr}{cl:List (Str×Addr)}{out:Array Keyed}{bj zs:List Nat}{tn:String}{st:SortSt}
namespace Gp
def nmL(n:Nat)(l:Nm):List D:=(List.range n).map λk=>D.int (l k:Nat)
def ZW{l:Nm}{a:Nat}(h:a<n):atI (nmL n l) (a:Int)=O (.int (l a:Nat)):=eL (by unfold nmL;rw[sv,vk h];rfl)
section
variable {G:GS}{n:Nat}
def fg(n:Nat)(T:List D)(l:Nm)(z:Bool)(k f s:Sl)(out:Sl):List Sl:=[.im (.int (n:Nat)),.im (.lst T),k,.mu (.lst (nmL n l)),.im (.bl z),f,s,out]
def XO{a:Nat}:bf .min [.int (a:Nat),.int (b:Nat)]=O (.int ((min a b:Nat):Int)):=by show O (D.int (if (b:Int)<(a:Int) then(b:Int) else(a:Int)))=_;congr 2;split<;>lia
def vI{a:Nat}:((a:Int) == (b:Int))=(a == b):=by rw[Bool.eq_iff_iff,uw,uw];lia
noncomputable def kL(g:List Nat):D:=.lst (g.map λk=>D.int (k:Nat))
end
noncomputable def BB:IS:=(.seq (.set 3 (.ρ .min (.cons (.v 1) (.cons (.v 2) .nil)))) (.seq (.set 4 (.ρ .max (.cons (.v 1) (.cons (.v 2) .nil)))) (.ret (.c 4 [(2,4),(3,3)] [1] J .seq (.v 0) (.L (.bl Y)) (.q (.b .eq (.v 1) (.v 2)) (.v 3) (.v 1))))))
section
variable {G:GS}{n:Nat}
def XQ{a:Nat}:bf .max [.int (a:Nat),.int (b:Nat)]=O (.int ((max a b:Nat):Int)):=by show O (D.int (if (b:Int) > (a:Int) then(b:Int) else(a:Int)))=_;congr 2;split<;>lia
def YF{l:Nm}{p q:Nat}:bC G 5 BB [.lst (nmL n l),.int (p:Nat),.int (q:Nat)]=O (.ok (.lst (nmL n (hung l p q)))):=by refine aK (B:=[.im (.lst (nmL n l)),.im (.int (p:Nat)),.im (.int (q:Nat)),.un,.un]) rfl (aG (aO (d:=.int ((min p q:Nat):Int)) ?_) (aG (aO (d:=.int ((max p q:Nat):Int)) ?_) (aR ?_)));rw[fC];exact XO;rw[fC];exact XQ;refine bN (L:=List.range n) (λk=>D.int (l k:Nat)) (λk=>D.int (hung l p q k:Nat)) (s:=.lst (nmL n l)) rfl rfl λk _=>⟨[.un,.im (.int (l k:Nat)),.im (.int ((max p q:Nat):Int)),.im (.int ((min p q:Nat):Int))],rfl,rfl,?_⟩;rw[mY,bA];show ((af .eq (.int (l k:Nat)) (.int ((max p q:Nat):Int))).bind _)=_;rw[WZ,vI];unfold hung;by_cases e:l k=max p q;rw[if_pos e,e];show (match D.bl (max p q == max p q) with | .bl Y=>_ | .bl J=>_|_=>_)=_;rw[beq_self_eq_true];rfl;rw[if_neg e];show (match D.bl (l k == max p q) with | .bl Y=>_ | .bl J=>_|_=>_)=_;rw[uz.mpr e];rfl
end
end Gp
structure CC where
 N:List Str
 sc:Scope
 fns:List Str
 cls:List Str
 csts:List Str
 mus:List Str
noncomputable def bJ(c:CC)(x:Str):Option Nat:=match c.sc.names.lookup x with
 |some .local=>c.N.idxOf? x
 |some .cell=>c.N.idxOf? x
 |some .free=>c.N.idxOf? x
 |_=>U
noncomputable def bE(c:CC)(x:Str):Bool:=c.sc.names.lookup x == O .globalImplicit
def aCE(c:CC)(x:Str):Option Nat:=if c.mus.contains x then bJ c x else U
noncomputable def one?{R:Type}:List R->Option R
 |[a]=>O a
 |_=>U
noncomputable def nameP:Expr->Option (Str×Pos)
 |.Name x p=>O (x,p)
 |_=>U
noncomputable def FM:Expr->Option (Expr×Str×Pos)
 |.Attribute o m p=>O (o,m,p)
 |_=>U
noncomputable def qQ:Expr->Option (Expr×List Expr×List Keyword×Pos)
 |.Call f as kw p=>O (f,as,kw,p)
 |_=>U
noncomputable def ot:Expr->Option (Option Expr×Option Expr×Option Expr×Pos)
 |.Slice a b st p=>O (a,b,st,p)
 |_=>U
noncomputable def tupP:Expr->Option (List Expr×Nat×Pos)
 |.Tuple es k p=>O (es,k,p)
 |_=>U
noncomputable def aDy:Expr->Option (Const×Nat×Pos)
 |.Constant v k p=>O (v,k,p)
 |_=>U
def eK(c:CC)(e:Expr):Option Nat:=(nameP e).bind λx=>aCE c x.1
noncomputable def WO:Operator->Option O2
 |.Add=>O .add
 |.Sub=>O .sub
 |.Mult=>O .mul
 |.FloorDiv=>O .fdiv
 |.Mod=>O .mod
 |.Pow=>O .pow
 |_=>U
noncomputable def kO:CmpOp->O2
 |.Eq=>.eq
 |.NotEq=>.ne
 |.Lt=>.lt
 |.LtE=>.le
 |.Gt=>.gt
 |.GtE=>.ge
 |.Is=>.is
 |.IsNot=>.isnot
 |.In=>.isin
 |.NotIn=>.notin
noncomputable def nX(x:Str):Option BF:=
 if x="all" then O .all else
 if x="len" then O .len else if x="int" then O .int else if x="list" then O .list else if x="tuple" then O .tuple else if x="max" then O .max
 else if x="min" then O .min else if x="str" then O .str else if x="sorted" then O .sorted else if x="any" then O .any else U
noncomputable def srcOf(x:Str):Option Src:=
 if x="range" then O .rng else if x="reversed" then O .rev else if x="enumerate" then O .enum else U
noncomputable def aCZ:Src->Bool
 |.enum=>Y
 |_=>J
def NG(tp:Bool)(k:Src):Bool:=tp || !aCZ k
noncomputable def jS:List Str:=["int","bool","str","list","tuple"]
noncomputable def fA(c:CC):Expr->Option Nat
 |.Name x _=>match c.sc.names.lookup x with
  |some .local=>c.N.idxOf? x
  |some .cell=>c.N.idxOf? x
  |_=>U
 |_=>U
noncomputable def fG(c:CC):List Expr->Option (List Nat)
 |[]=>O []
 |e::r=>do O ((<-fA c e)::(<-fG c r))
noncomputable def cX(c:CC):Expr->Option (List Nat×Bool)
 |.Name x p=>(fA c (.Name x p)).map λi=>([i],J)
 |.Tuple es _ _=>(fG c es).map λis=>(is,Y)
 |_=>U
noncomputable def uJ:NameKind->Bool
 |.globalImplicit=>Y
 |.globalExplicit=>Y
 |_=>J
def ownNames(sc:Scope):List Str:=(sc.names.filter λx=>!uJ x.2).map (·.1)
noncomputable def iE:Expr->Bool
 |.Call _ _ _ _=>J
 |_=>Y
def lB(c:CC)(sc:Scope):Bool:=sc.kind == .function&&sc.names.all (λx=>x.2 != .cell)&&sc.names.all (λx=>x.2 != .local || sc.names.lookup x.1 == O .local)&&sc.names.all (λx=>x.2 != .free || sc.names.lookup x.1 == O .free)&&decide (ownNames sc).Nodup &&
 (ownNames sc).all (λx=>!(x == ("__debug__":Str))&&!(x == ("__classdict__":Str)))&&!(sc.names.lookup ("__debug__":Str) == O NameKind.globalImplicit) &&
 sc.names.all (λx=>x.2 != .free || (c.sc.names.lookup x.1 == O .cell || c.sc.names.lookup x.1 == O .free))
noncomputable def freeOf(c:CC)(sc:Scope):List (Str×NameKind)->Option (List (Nat×Nat))
 |[]=>O []
 |x::r=>do O ((<-(ownNames sc).idxOf? x.1,<-bJ c x.1)::(<-freeOf c sc r))
noncomputable def own(c:CC)(x:Str):Bool:=c.fns.contains x || c.cls.contains x
def zU(c:CC)(x:Str):Option IE:=match bJ c x with
 |some i=>O (.v i)
 |none=>if bE c x&&c.csts.contains x then O (.o x) else U
noncomputable def DA:Const->Option IE
 |.int i=>O (.L (.int i))
 |.bool b=>O (.L (.bl b))
 |.str x=>O (.L (.str x))
 |.none=>O (.L .non)
 |_=>U
noncomputable def aEP(a:Option IE):UnaryOp->Option IE
 |.Not=>a.map λx=>.not (.tr x)
 |_=>U
noncomputable def boK:BoolOp->Bool
 |.And=>Y
 |.Or=>J
noncomputable def sY:List Str:=[xj,"WAYS"]
noncomputable def aGf:CmpOp->Option Bool
 |.In=>O J
 |.NotIn=>O Y
 |_=>U
def aGg(c:CC)(o:CmpOp)(b:Expr):Option (Bool×Str):=(aGf o).bind λk=>(nameP b).bind λq=>if bE c q.1&&sY.contains q.1 then O (k,q.1) else U
noncomputable def JV(c:CC)(f:Expr->Option IE)(a:Option IE):List CmpOp->List Expr->Option IE
 |[o],[b]=>a.bind λx=>match aGg c o b with
  |some q=>O (.inC q.1 q.2 x)
  |none=>(f b).map λy=>.b (kO o) x y
 |[o,o'],[b,d]=>a.bind λx=>(f b).bind λy=>(f d).map λz=>.h (kO o) (kO o') x y z
 |_,_=>U
noncomputable def tY(f:Expr->Option IE):Option Expr->Option IE
 |none=>O (.L .non)
 |some e=>f e
def aER(m:Option Nat)(a:Option IE)(bl:Bool)(l:IE)(bh:Bool)(h:IE):Option IE:=match m with
 |some _=>U
 |none=>a.map λx=>.sl x bl l bh h
noncomputable def QR:List Str:=["prints","where"]
def xS(e:Expr):Bool:=match nameP e with
 |some q=>QR.contains q.1
 |none=>J
noncomputable def aEU(dv:Bool)(m:Option Nat)(a:Option IE)(k:IE):Option IE:=match m with
 |some i=>if dv then O (.ixd i k) else U
 |none=>a.map λx=>.ix x k
def wR(f:Expr->Option IE)(dv:Bool)(m:Option Nat)(a:Option IE)(i:Expr):Option IE:=match ot i with
 |some q=>if q.2.2.1.isSome then U else(tY f q.1).bind λl=>(tY f q.2.1).bind λh=>aER m a q.1.isSome l q.2.1.isSome h
 |none=>(f i).bind (aEU dv m a)
def YA(c:CC)(a:Expr):Option Str:=(nameP a).bind λq=>if bE c q.1&&sY.contains q.1 then O q.1 else U
def wU(f:Expr->Option IE)(x:Str)(i:Expr):Option IE:=match ot i with
 |some _=>U
 |none=>(f i).map λk=>.ixC x k
noncomputable def fsP:Expr->Option Expr
 |.FormattedValue v k U _=>if k=-1 then O v else U
 |.Constant (.str s) k p=>O (.Constant (.str s) k p)
 |_=>U
noncomputable def TM(f:Expr->Option IE):List Expr->Option IE
 |[]=>O .nil
 |v::r=>(fsP v).bind λe=>(f e).bind λx=>(TM f r).map λy=>.cons x y
noncomputable def JT(f:Expr->Option IE)(c:CC):List Expr->Option IE
 |[a,y]=>(nameP y).bind λy=>if bE c y.1&&jS.contains y.1&&!own c y.1 then(f a).map λx=>.y x y.1 else U
 |_=>U
def aAb(c:CC)(args:List Expr):Option Nat:=(one? args).bind (eK c)
def nC(c:CC)(e:Expr):Option (Str×List Expr):=(qQ e).bind λq=>(nameP q.1).bind λx=>if q.2.2.1.isEmpty&&bE c x.1&&!own c x.1 then O (x.1,q.2.1) else U
def zS(c:CC)(args:List Expr):Option Expr:=(one? args).bind λe=>(nC c e).bind λq=>if q.1 == "reversed" then one? q.2 else U
noncomputable def aHg(dv:Bool)(b:BF)(as:Option IE)(i:Nat):Option IE:=match b with
 |.len=>if dv then O (.lend i) else U
 |.sorted=>O (.sortm i)
 |_=>as.map λx=>.ρ b x
def zR(c:CC)(e:Expr):Option Expr:=(nC c e).bind λq=>if q.1 == "range" then one? q.2 else U
noncomputable def aBr(b:BF)(as:Option IE)(w z:Option (Option IE)):Option IE:=match b,w,z with
 |.list,O o,_=>o.map λx=>.walk .rev x
 |.list,U,O o=>o.map λx=>.walk .rng (.tup (.cons x .nil))
 |_,_,_=>as.map λx=>.ρ b x
def GK(f:Expr->Option IE)(c:CC)(b:BF)(args:List Expr)(as:Option IE):Option IE:=match aAb c args with
 |some i=>aHg (args.any xS) b as i
 |none=>aBr b as ((zS c args).map f) (((one? args).bind (zR c)).map f)
def DB(f:Expr->Option IE)(c:CC)(x:Str)(args:List Expr)(as:Option IE):Option IE:=
 if bE c x then
  (if c.fns.contains x then as.map λy=>.call x y
   else if c.cls.contains x then as.map λy=>.mk x y
   else if x == "isinstance" then JT f c args
   else(nX x).bind λb=>GK f c b args as)
 else U
def aBs(f:Expr->Option IE)(c:CC)(g:Expr)(args:List Expr)(as:Option IE)(p:Pos):Option IE:=match g with
 |.Name x _=>DB f c x args as
 |.Attribute o m z=>if iE o&&decide (args.length<30)&&(z.endLine == p.line) then(f o).bind λx=>as.map λy=>.meth x m y else U
 |_=>U
noncomputable def aBq(f:Expr->Option IE):List Expr->Option IE
 |[]=>O (.L (.bl Y))
 |[e]=>f e
 |_=>U
def JU(c:CC)(sc:Scope)(g:Comprehension)(it:Option (Src×IE))(ct:Expr->Option IE)(z:Option IE):Option IE:=(cX {c with N:=ownNames sc,sc:=sc} g.target).bind λtg=>it.bind λk=>(aBq ct g.ifs).bind λte=>z.bind λz=>(freeOf c sc (sc.names.filter λx=>x.2 == .free)).bind λfr=>
 if lB c sc&&tg.1.all (λi=>(fr.lookup i).isNone)&&!aCZ k.1 then O (.c (ownNames sc).length fr tg.1 tg.2 k.1 k.2 te z) else U
noncomputable def few(es:List Expr):Bool:=decide (es.length<=100)
mutual
noncomputable def cE:Nat->CC->Expr->Option IE
 | 0,_,_=>U
 |n+1,c,e=>match e with
  |.Name x _=>zU c x
  |.Constant v _ _=>DA v
  |.BinOp a o b _=>(WO o).bind λo=>(cE n c a).bind λx=>(cE n c b).map λy=>.b o x y
  |.UnaryOp o a _=>aEP (cE n c a) o
  |.BoolOp o vs _=>cB n c J (boK o) vs
  |.IfExp d a b _=>(cT n c d).bind λx=>(cE n c a).bind λy=>(cE n c b).map λz=>.q x y z
  |.Compare a os bs _=>JV c (cE n c) (cE n c a) os bs
  |.Tuple es _ _=>if few es then(cA n c es).map .tup else U
  |.List es _=>if few es then(cA n c es).map .lst else U
  |.Subscript a i _=>(match YA c a with|some x=>wU (cE n c) x i|none=>wR (cE n c) (xS a) (eK c a) (cE n c a) i)
  |.JoinedStr vs _=>if decide (2<=vs.length) then(TM (cE n c) vs).map .fst else U
  |.Attribute a f _=>if iE a then(cE n c a).map λx=>.fld x f else U
  |.ListComp elt gs sc _=>(one? gs).bind λg=>if g.is_async=0 then JU c sc g (cI n c g.iter) (cT n {c with N:=ownNames sc,sc:=sc}) (cE n {c with N:=ownNames sc,sc:=sc} elt) else U
  |.Call f args kw p=>if kw.isEmpty then aBs (cE n c) c f args (cA n c args) p else U
  |_=>U
noncomputable def cT:Nat->CC->Expr->Option IE
 | 0,_,_=>U
 |n+1,c,e=>match e with
  |.BoolOp o vs _=>cB n c Y (boK o) vs
  |.UnaryOp .Not a _=>(cT n c a).map .not
  |.Compare a os bs _=>JV c (cE n c) (cE n c a) os bs
  |.IfExp _ _ _ _=>U
  |e=>(cE n c e).map .tr
noncomputable def cB:Nat->CC->Bool->Bool->List Expr->Option IE
 | 0,_,_,_,_=>U
 |n+1,c,t,k,[]=>U
 |n+1,c,t,k,[a]=>if t then cT n c a else cE n c a
 |n+1,c,t,k,a::b::r=>(if t then cT n c a else cE n c a).bind λx=>(cB n c t k (b::r)).map λy=>if k then .and x y else .or x y
noncomputable def cA:Nat->CC->List Expr->Option IE
 | 0,_,_=>U
 |n+1,c,[]=>O .nil
 |n+1,c,e::es=>(cE n c e).bind λx=>(cA n c es).map λy=>.cons x y
noncomputable def cI:Nat->CC->Expr->Option (Src×IE)
 | 0,_,_=>U
 |n+1,c,e=>match (nC c e).bind λq=>(srcOf q.1).map λk=>(k,q.2) with
  |some q=>(match q.1 with
   |.rng=>(cA n c q.2).map λy=>(.rng,.tup y)
   |.enum=>(one? q.2).bind λa=>(cE n c a).map λy=>(.enum,y)
   |k=>(one? q.2).bind λa=>(cE n c a).map λy=>(k,y))
  |none=>(cE n c e).map λy=>(.seq,y)
end
def aEB(e:Expr):Option Str:=(aDy e).bind λv=>match v.1 with
 |.str x=>O x
 |_=>U
noncomputable def rdR(f:Expr->Option IE)(c:CC)(e:Expr):Option IS:=(f e).map .ret
noncomputable def aET(f:Expr->Option IE)(c:CC):Option Expr->Option IS
 |none=>U
 |some e=>match eK c e with
  |some i=>O (.σ i)
  |none=>rdR f c e
noncomputable def DX:Expr->Bool
 |.Dict [] [] _=>Y
 |_=>J
noncomputable def isNil:Expr->Bool
 |.List [] _=>Y
 |_=>J
def JW(f:Expr->Option IE)(c:CC)(x:Str)(e:Expr)(i:Nat):Option IS:=
 if c.mus.contains x then(if DX e then O (.setd i) else if isNil e then O (.setm i) else U) else(f e).map λy=>.set i y
def zT(f:Expr->Option IE)(c:CC)(ts:List Expr)(e:Expr):Option IS:=match tupP e with
 |some _=>U
 |none=>(fG c ts).bind λis=>(f e).map λy=>.t is y
noncomputable def ZP(f:Expr->Option IE)(c:CC)(e:Expr):Expr->Option IS
 |.Name x p=>(fA c (.Name x p)).bind (JW f c x e)
 |.Tuple ts _ _=>zT f c ts e
 |.Subscript a i _=>(eK c a).bind λj=>(f i).bind λk=>(f e).map λy=>.put j k y
 |_=>U
def ZD(c:CC)(e:Expr):Option (Nat×Expr):=(qQ e).bind λq=>(FM q.1).bind λg=>(eK c g.1).bind λj=>(one? q.2.1).bind λa=>if q.2.2.1.isEmpty&&g.2.1 == "append" && g.2.2.endLine == q.2.2.2.line then O (j,a) else U
def zV(f:Expr->Option IE)(_:CC)(e:Expr):Option IS:=(qQ e).bind λ_=>(f e).map .drop
def YR(c:CC)(e:Expr):Option (Nat×Expr):=(qQ e).bind λq=>(FM q.1).bind λg=>(eK c g.1).bind λj=>(one? q.2.1).bind λa=>if q.2.2.1.isEmpty&&g.2.1 == "extend" && g.2.2.endLine == q.2.2.2.line then O (j,a) else U
def aEV(f:Expr->Option IE)(c:CC)(e:Expr)(o:Option IS):Option IS:=match YR c e with
 |some q=>(f q.2).map λx=>.ext q.1 x
 |none=>o
def aEW(f:Expr->Option IE)(c:CC)(e:Expr):Option IS:=match ZD c e with
 |some q=>(f q.2).map λx=>.app q.1 x
 |none=>zV f c e
def aES(c:CC)(e:Option Expr)(h:Option Expr):Option IS:=e.bind λe=>(qQ e).bind λq=>(nameP q.1).bind λx=>(one? q.2.1).bind λa=>(aEB a).bind λ_=>
 if h.isNone&&q.2.2.1.isEmpty&&bE c x.1&&c.cls.contains x.1 then O (.rse x.1) else U
noncomputable def exP:Stmt->Option (Expr×Pos)
 |.Expr e p=>O (e,p)
 |_=>U
noncomputable def aEN:Stmt->Option (Option Expr×Pos)
 |.Return e p=>O (e,p)
 |_=>U
def aAE(e:Expr):Option Bool:=(aDy e).bind λv=>match v.1 with
 |.bool x=>O x
 |_=>U
noncomputable def aEQ(f:Expr->Option IE)(c:CC)(b:List Stmt):List ExceptHandler->Option IS
 |[.ExceptHandler ty U body _]=>(one? b).bind λs=>(exP s).bind λe=>(qQ e.1).bind λ_=>ty.bind λty=>(nameP ty).bind λx=>(one? body).bind λr=>(aEN r).bind λr=>r.1.bind λre=>if bE c x.1 then(aAE re).bind λr=>(f e.1).map λu=>.tryx u x.1 r else U
 |_=>U
mutual
noncomputable def cS:Nat->CC->Stmt->Option IS
 | 0,_,_=>U
 |n+1,c,st=>match st with
  |.Pass _=>O .nop
  |.Return v _=>aET (cE n c) c v
  |.Assign ts e _=>(one? ts).bind (ZP (cE n c) c e)
  |.If t a b _=>(cT n c t).bind λu=>(jv n c a).bind λa=>(jv n c b).map λb=>.g u a b
  |.For tg iter body z _=>if z.isEmpty then(cX c tg).bind λg=>(cI n c iter).bind λk=>if NG g.2 k.1 then(jv n c body).map λb=>.loop g.1 g.2 k.1 k.2 b else U else U
  |.Expr e _=>aEV (cE n c) c e (aEW (cE n c) c e)
  |.Raise e h _=>aES c e h
  |.Try b hs z I _=>if z.isEmpty&&I.isEmpty then aEQ (cE n c) c b hs else U
  |_=>U
noncomputable def jv:Nat->CC->List Stmt->Option IS
 | 0,_,_=>U
 |n+1,c,[]=>O .nop
 |n+1,c,[s]=>cS n c s
 |n+1,c,s::s2::r=>(cS n c s).bind λa=>(jv n c (s2::r)).map λb=>.seq a b
end
def bZ{R:Type}{l:List R}{a:R}(h:one? l=O a):l=[a]:=by
 match l,h with
 |[_],h=>exact congrArg (λx=>[x]) (u4 h)
def dA{x:Str×Pos}(h:nameP e=O x):e=.Name x.1 x.2:=by cases e<;>first|exact nomatch (show U=O x from h)|(cases (show O _=O x from h);rfl)
def lC{x:Expr×Str×Pos}(h:FM e=O x):e=.Attribute x.1 x.2.1 x.2.2:=by cases e<;>first|exact nomatch (show U=O x from h)|(cases (show O _=O x from h);rfl)
def eS{x:Expr×List Expr×List Keyword×Pos}(h:qQ e=O x):e=.Call x.1 x.2.1 x.2.2.1 x.2.2.2:=by cases e<;>first|exact nomatch (show U=O x from h)|(cases (show O _=O x from h);rfl)
def JO{x:Option Expr×Option Expr×Option Expr×Pos}(h:ot e=O x):e=.Slice x.1 x.2.1 x.2.2.1 x.2.2.2:=by cases e<;>first|exact nomatch (show U=O x from h)|(cases (show O _=O x from h);rfl)
def sZ{x:Const×Nat×Pos}(h:aDy e=O x):e=.Constant x.1 x.2.1 x.2.2:=by cases e<;>first|exact nomatch (show U=O x from h)|(cases (show O _=O x from h);rfl)
def aH{R β:Type}{o:Option R}{f:R->Option β}{b:β}(h:o.bind f=O b):∃a,o=O a/\f a=O b:=sr.mp h
def aP{R β:Type}{o:Option R}{f:R->β}{b:β}(h:o.map f=O b):∃a,o=O a/\b=f a:=by obtain⟨a,h1,h2⟩:=u5.mp h;exact⟨a,h1,h2.symm⟩
def bF{R:Type}{k:Bool}{o:Option R}{a:R}(h:(if k then o else U)=O a):k=Y/\o=O a:=by
 cases k with
 |true=>exact⟨rfl,h⟩
 |false=>exact nomatch (show U=O a from h)
def dB{a b:Bool}(h:(a&&b)=Y):a=Y/\b=Y:=(u3 a b) ▸ h
def LJ{a:Bool}(h:(!a)=Y):a=J:=by cases a<;>first|rfl|exact h.symm
def lV{R:Type}{l:List R}(h:l.isEmpty=Y):l=[]:=List.isEmpty_iff.mp h
def DJ{c:CC}(h:own c x=J):c.fns.contains x=J/\c.cls.contains x=J:=by unfold own at h;rw[Bool.or_eq_false_iff]at h;exact h
def jQ{c:CC}{q:Str×List Expr}(h:nC c e=O q):∃p1 p2,e=.Call (.Name q.1 p1) q.2 [] p2/\bE c q.1=Y/\own c q.1=J:=by obtain⟨r,h1,h⟩:=aH h;obtain⟨x,h2,h⟩:=aH h;obtain⟨h3,h⟩:=bF h;obtain⟨h3,h5⟩:=dB h3;obtain⟨h3,h4⟩:=dB h3;cases h;exact⟨x.2,r.2.2.2,by rw[eS h1,dA h2,lV h3],h4,LJ h5⟩
def GA(h:aEB e=O x):∃j p,e=.Constant (.str x) j p:=by obtain⟨v,h1,h⟩:=aH h;obtain⟨v,j,p⟩:=v;have e1:=sZ h1;cases v<;>first|exact nomatch (show U=O x from h)|(cases (show O _=O x from h);exact⟨j,p,e1⟩)
def BS{x:Bool}(h:aAE e=O x):∃j p,e=.Constant (.bool x) j p:=by obtain⟨v,h1,h⟩:=aH h;obtain⟨v,j,p⟩:=v;have e1:=sZ h1;cases v<;>first|exact nomatch (show U=O x from h)|(cases (show O _=O x from h);exact⟨j,p,e1⟩)
open PySem.Spec PyProof.Rows L2
def ExcAt(xc:Str->Option Addr)(H:Hp)(a:Addr)(c:Str):Prop:=∃φ C,H a=O (.ext φ)/\xc c=O C/\∀h:Heap,φ h->∃o,h.get? a=O o/\o.cls=.ref C
structure Tx where
 cl:Str->Option Addr
 xc:Str->Option Addr
section
variable (K:wc)(T:Tx)(H:Hp)(S:Addr->Prop)
mutual
noncomputable def Rep:D->V->Prop
 |.non,v=>v=.non
 |.bl b,v=>v=.bl b
 |.int i,v=>v=.int i
 |.str x,v=>v=.str x
 |.lst ds,v=>∃a xs,v=.ref a/\¬S a/\H a=O (.lst xs)/\aD ds xs
 |.tup ds,v=>∃a xs,v=.ref a/\¬S a/\SqT K H a xs/\aD ds xs
 |.obj c fs,v=>∃a C dx gs,v=.ref a/\¬S a/\T.cl c=O C/\H a=O (.ins C dx gs)/\cR fs gs
 |.exc c,v=>∃a,v=.ref a/\¬S a/\ExcAt T.xc H a c
 |.dct kvs,v=>∃a gs,v=.ref a/\¬S a/\H a=O (.dK gs)/\aZ kvs gs
 |.frz ds,v=>∃a xs,v=.ref a/\¬S a/\SqL K H a xs/\aD ds xs
noncomputable def aD:List D->List V->Prop
 |[],xs=>xs=[]
 |d::ds,xs=>∃x r,xs=x::r/\Rep d x/\aD ds r
noncomputable def cR:List (Str×D)->List (Str×V)->Prop
 |[],gs=>gs=[]
 | (f,d)::fs,gs=>∃x r,gs=(f,x)::r/\Rep d x/\cR fs r
noncomputable def aZ:List (Int×D)->List (Key×V)->Prop
 |[],gs=>gs=[]
 | (i,d)::fs,gs=>∃x r,gs=(Sum.inl i,x)::r/\Rep d x/\aZ fs r
end
end
section
variable {K:wc}{T:Tx}{H H':Hp}{S S':Addr->Prop}
def SqT.keeps(h:SqT K H a xs)(k:∀o,H a=O o->H' a=O o):SqT K H' a xs:=by rcases h with (h|⟨o,h⟩)|h;exact .inl (.inl (k _ h));exact .inl (.inr ⟨o,k _ h⟩);exact .inr h
def SqL.keeps(h:SqL K H a xs)(k:∀o,H a=O o->H' a=O o):SqL K H' a xs:=by rcases h with (h|⟨o,h⟩)|h;exact .inl (.inl (k _ h));exact .inl (.inr ⟨o,k _ h⟩);exact .inr h
def aU(K:wc)(H H':Hp)(S S':Addr->Prop):Prop:=∀a,¬S a->((∃o,H a=O o)\/∃o,K.lookup a=O o)->¬S' a/\∀o,H a=O o->H' a=O o
def SqT.has(h:SqT K H a xs):(∃o,H a=O o)\/∃o,K.lookup a=O o:=by rcases h with (h|⟨o,h⟩)|⟨o,_,_,h,_⟩;exact .inl ⟨_,h⟩;exact .inl ⟨_,h⟩;exact .inr ⟨_,h⟩
def SqL.has(h:SqL K H a xs):(∃o,H a=O o)\/∃o,K.lookup a=O o:=by rcases h with (h|⟨o,h⟩)|⟨o,_,_,h,_⟩;exact .inl ⟨_,h⟩;exact .inl ⟨_,h⟩;exact .inr ⟨_,h⟩
mutual
theorem Rep.gen(hk:aU K H H' S S'):∀(d:D) (v:V),Rep K T H S d v->Rep K T H' S' d v
 |.non,v,h=>by unfold Rep at h ⊢;exact h
 |.bl b,v,h=>by unfold Rep at h ⊢;exact h
 |.int i,v,h=>by unfold Rep at h ⊢;exact h
 |.str x,v,h=>by unfold Rep at h ⊢;exact h
 |.lst ds,v,h=>by unfold Rep at h ⊢;obtain⟨a,xs,e,n,q,r⟩:=h;obtain⟨z,k⟩:=hk a n (.inl ⟨_,q⟩);exact⟨a,xs,e,z,k _ q,aD.gen hk ds xs r⟩
 |.tup ds,v,h=>by unfold Rep at h ⊢;obtain⟨a,xs,e,n,q,r⟩:=h;obtain⟨z,k⟩:=hk a n (SqT.has q);exact⟨a,xs,e,z,SqT.keeps q k,aD.gen hk ds xs r⟩
 |.obj c fs,v,h=>by unfold Rep at h ⊢;obtain⟨a,C,dx,gs,e,n,ec,q,r⟩:=h;obtain⟨z,k⟩:=hk a n (.inl ⟨_,q⟩);exact⟨a,C,dx,gs,e,z,ec,k _ q,cR.gen hk fs gs r⟩
 |.exc c,v,h=>by unfold Rep at h ⊢;obtain⟨a,e,n,φ,C,q,r⟩:=h;obtain⟨z,k⟩:=hk a n (.inl ⟨_,q⟩);exact⟨a,e,z,φ,C,k _ q,r⟩
 |.dct kvs,v,h=>by unfold Rep at h ⊢;obtain⟨a,gs,e,n,q,r⟩:=h;obtain⟨z,k⟩:=hk a n (.inl ⟨_,q⟩);exact⟨a,gs,e,z,k _ q,aZ.gen hk kvs gs r⟩
 |.frz ds,v,h=>by unfold Rep at h ⊢;obtain⟨a,xs,e,n,q,r⟩:=h;obtain⟨z,k⟩:=hk a n (SqL.has q);exact⟨a,xs,e,z,SqL.keeps q k,aD.gen hk ds xs r⟩
theorem aD.gen(hk:aU K H H' S S'):∀(ds:List D) (xs:List V),aD K T H S ds xs->aD K T H' S' ds xs
 |[],xs,h=>by unfold aD at h ⊢;exact h
 |d::ds,xs,h=>by unfold aD at h ⊢;obtain⟨x,r,e,p,q⟩:=h;exact⟨x,r,e,Rep.gen hk d x p,aD.gen hk ds r q⟩
theorem cR.gen(hk:aU K H H' S S'):∀(ds:List (Str×D)) (xs:List (Str×V)),cR K T H S ds xs->cR K T H' S' ds xs
 |[],xs,h=>by unfold cR at h ⊢;exact h
 | (f,d)::ds,xs,h=>by unfold cR at h ⊢;obtain⟨x,r,e,p,q⟩:=h;exact⟨x,r,e,Rep.gen hk d x p,cR.gen hk ds r q⟩
theorem aZ.gen(hk:aU K H H' S S'):∀(ds:List (Int×D)) (xs:List (Key×V)),aZ K T H S ds xs->aZ K T H' S' ds xs
 |[],xs,h=>by unfold aZ at h ⊢;exact h
 | (f,d)::ds,xs,h=>by unfold aZ at h ⊢;obtain⟨x,r,e,p,q⟩:=h;exact⟨x,r,e,Rep.gen hk d x p,aZ.gen hk ds r q⟩
end
def aU.mk(I:∀a,S' a->S a)(hk:∀b o,¬S b->H b=O o->H' b=O o):aU K H H' S S':=λa n _=>⟨λz=>n (I a z),λo=>hk a o n⟩
def aU.add{D:Addr}(I:H D=U)(hK:K.lookup D=U):aU K H (upd H D o) S (λa=>S a\/a=D):=λa n h=>by
 have ne:a≠D:=by rintro rfl;rcases h with ⟨u,e⟩|⟨u,e⟩;rw[I]at e;cases e;rw[hK]at e;cases e
 exact⟨λz=>z.elim n ne,λu e=>by rw[aM ne];exact e⟩
def Rep.mono(z:∀a,S' a->S a)(hk:∀b o,¬S b->H b=O o->H' b=O o)(d:D)(v:V)(h:Rep K T H S d v):Rep K T H' S' d v:=Rep.gen (aU.mk z hk) d v h
def aD.mono(z:∀a,S' a->S a)(hk:∀b o,¬S b->H b=O o->H' b=O o)(d:List D)(v:List V)(h:aD K T H S d v):aD K T H' S' d v:=aD.gen (aU.mk z hk) d v h
def Rep.same(k:aJ H H'){d:D}(h:Rep K T H S d v):Rep K T H' S d v:=Rep.mono (λ_ z=>z) (λb o _=>k b o) d v h
def aD.same(k:aJ H H'){d:List D}{v:List V}(h:aD K T H S d v):aD K T H' S d v:=aD.mono (λ_ z=>z) (λb o _=>k b o) d v h
theorem aD.len:∀{ds:List D} {xs:List V},aD K T H S ds xs->ds.length=xs.length
 |[],xs,h=>by unfold aD at h;subst h;rfl
 |d::ds,xs,h=>by unfold aD at h;obtain⟨x,r,rfl,_,q⟩:=h;simp[aD.len q]
theorem aD.get:∀{ds:List D} {xs:List V} {i:Nat} {d:D},aD K T H S ds xs->ds[i]?=O d->∃x,xs[i]?=O x/\Rep K T H S d x
 |[],_,_,_,_,e=>by simp at e
 |d::ds,xs,0,d',h,e=>by unfold aD at h;obtain⟨x,r,rfl,p,q⟩:=h;simp at e;subst e;exact⟨x,rfl,p⟩
 |d::ds,xs,i+1,d',h,e=>by unfold aD at h;obtain⟨x,r,rfl,p,q⟩:=h;obtain⟨y,h1,h2⟩:=aD.get (i:=i) (d:=d') q (by simpa using e);exact⟨y,by simpa using h1,h2⟩
theorem aD.app:∀{ds es:List D} {xs ys:List V},aD K T H S ds xs->aD K T H S es ys->aD K T H S (ds++es) (xs++ys)
 |[],es,xs,ys,h,g=>by unfold aD at h;subst h;exact g
 |d::ds,es,xs,ys,h,g=>by unfold aD at h;obtain⟨x,r,rfl,p,q⟩:=h;show aD K T H S (d::(ds++es)) _;unfold aD;exact⟨x,r++ys,rfl,p,aD.app q g⟩
def aD.nil:aD K T H S [] []:=by unfold aD;rfl
def aD.cons{d:D}{x:V}{ds:List D}(h:Rep K T H S d x)(g:aD K T H S ds xs):aD K T H S (d::ds) (x::xs):=by unfold aD;exact⟨x,xs,rfl,h,g⟩
theorem aD.drop:∀{ds:List D} {xs:List V} (n:Nat),aD K T H S ds xs->aD K T H S (ds.drop n) (xs.drop n)
 |ds,xs,0,h=>h
 |[],xs,n+1,h=>by unfold aD at h;subst h;exact aD.nil
 |d::ds,xs,n+1,h=>by unfold aD at h;obtain⟨x,r,rfl,p,q⟩:=h;exact aD.drop n q
theorem aD.take:∀{ds:List D} {xs:List V} (n:Nat),aD K T H S ds xs->aD K T H S (ds.take n) (xs.take n)
 |ds,xs,0,h=>by simp;exact aD.nil
 |[],xs,n+1,h=>by unfold aD at h;subst h;exact aD.nil
 |d::ds,xs,n+1,h=>by unfold aD at h;obtain⟨x,r,rfl,p,q⟩:=h;exact aD.cons p (aD.take n q)
theorem aD.set:∀{ds:List D} {xs:List V} (n:Nat) {d:D} {v:V},aD K T H S ds xs->Rep K T H S d v->aD K T H S (ds.set n d) (xs.set n v)
 |[],xs,n,d,v,h,g=>by unfold aD at h;subst h;exact aD.nil
 |_::ds,xs,0,d,v,h,g=>by unfold aD at h;obtain⟨x,r,rfl,p,q⟩:=h;exact aD.cons g q
 |_::ds,xs,n+1,d,v,h,g=>by unfold aD at h;obtain⟨x,r,rfl,p,q⟩:=h;exact aD.cons p (aD.set n q g)
theorem aD.rev:∀{ds:List D} {xs:List V},aD K T H S ds xs->aD K T H S ds.reverse xs.reverse
 |[],xs,h=>by unfold aD at h;subst h;exact aD.nil
 |d::ds,xs,h=>by unfold aD at h;obtain⟨x,r,rfl,p,q⟩:=h;rw[reverse_cons,reverse_cons];exact aD.app (aD.rev q) (aD.cons p aD.nil)
theorem cR.look{f:Str}:∀{ds:List (Str×D)} {xs:List (Str×V)},cR K T H S ds xs->(∀d,ds.lookup f=O d->∃x,xs.lookup f=O x/\Rep K T H S d x)/\(ds.lookup f=U->xs.lookup f=U)
 |[],xs,h=>by unfold cR at h;subst h;exact⟨λd e=>by simp at e,λ_=>rfl⟩
 | (g,d)::ds,xs,h=>by
  unfold cR at h;obtain⟨x,r,rfl,p,q⟩:=h;obtain⟨i1,I⟩:=cR.look (f:=f) q;rw[lookup_cons,lookup_cons];cases e:f == g with
  |true=>exact⟨λd' z=>⟨x,rfl,by cases z;exact p⟩,λz=>by cases z⟩
  |false=>exact⟨i1,I⟩
end
noncomputable def er(H:Hp)(p:Addr):Hp:=λa=>if a=p then U else H a
def EV{p:Addr}:er H p a=O o↔a≠p/\H a=O o:=by unfold er;split<;>simp_all
def iS{p:Addr}(h:H p=U):er (upd H p o) p=H:=by funext a;unfold er;by_cases e:a=p;rw[if_pos e,e,h];rw[if_neg e,aM e]
theorem aD.er{T:Tx}{p:Addr}{ds:List D}(h:aD K T (er H p) S ds xs):aD K T H S ds xs:=aD.mono (λ_ z=>z) (λb o _ e=>(EV.mp e).2) ds xs h
def aD.disown{T:Tx}{p:Addr}{ds:List D}(hp:S p)(hs:∀a,S' a->S a)(h:aD K T H S ds xs):aD K T (Z.er H p) S' ds xs:=aD.gen (λa n _=>⟨λz=>n (hs a z),λo e=>EV.mpr ⟨λz=>n (by rw[z];exact hp),e⟩⟩) ds xs h
def aU.own{p:Addr}(hk:K.lookup p=U):aU K (Z.er H p) H S (λa=>S a\/a=p):=λa n q=>by
 have ne:a≠p:=by rintro rfl;rcases q with ⟨o,e⟩|⟨o,e⟩;exact(EV.mp e).1 rfl;rw[hk]at e;cases e
 exact⟨λz=>z.elim n ne,λo e=>(EV.mp e).2⟩
def nG(K:wc)(T:Tx)(H:Hp)(S:Addr->Prop)(d:D)(o:HO):Prop:=(∃ds xs,d=.lst ds/\o=.lst xs/\aD K T H S ds xs)\/∃kvs gs,d=.dct kvs/\o=.dK gs/\aZ K T H S kvs gs
theorem nG.gen{T:Tx}{H':Hp}{d:D}(z:aU K H H' S S')(h:nG K T H S d o):nG K T H' S' d o:=by rcases h with ⟨ds,xs,e1,e2,r⟩|⟨ds,xs,e1,e2,r⟩;exact .inl ⟨ds,xs,e1,e2,aD.gen z _ _ r⟩;exact .inr ⟨ds,xs,e1,e2,aZ.gen z _ _ r⟩
theorem nG.lst{T:Tx}{ds:List D}(h:nG K T H S (.lst ds) o):∃xs,o=.lst xs/\aD K T H S ds xs:=by rcases h with ⟨ds',xs,e1,e2,r⟩|⟨ds',xs,e1,e2,r⟩;cases e1;exact⟨xs,e2,r⟩;cases e1
theorem nG.dct{T:Tx}{ds:List (Int×D)}(h:nG K T H S (.dct ds) o):∃xs,o=.dK xs/\aZ K T H S ds xs:=by rcases h with ⟨ds',xs,e1,e2,r⟩|⟨ds',xs,e1,e2,r⟩;cases e1;cases e1;exact⟨xs,e2,r⟩
def nG.rep{T:Tx}{d:D}{p:Addr}(h:nG K T H S d o)(hp:H p=O o)(hn:¬S' p)(hs:∀a,S' a->S a):Rep K T H S' d (.ref p):=by rcases h with ⟨ds,xs,rfl,rfl,r⟩|⟨ds,xs,rfl,rfl,r⟩;unfold Rep;exact⟨p,xs,rfl,hn,hp,aD.gen (aU.mk hs λ_ _ _ e=>e) _ _ r⟩;unfold Rep;exact⟨p,xs,rfl,hn,hp,aZ.gen (aU.mk hs λ_ _ _ e=>e) _ _ r⟩
section
variable (K:wc)(T:Tx)(H:Hp)(S:Addr->Prop)
def ZF(s:Sl)(o:Option (Option V)):Prop:=match s with
 |.un=>True
 |.im d=>∃v,o=O (O v)/\Rep K T H S d v
 |.mu d=>∃p z,o=O (O (.ref p))/\S p/\H p=O z/\nG K T H S d z
structure RE (B:List Sl) (M:L2.St):Prop where
 dom:∀a,S a->∃o,H a=O o
 len:B.length=M.length
 at_:∀(i:Nat) s,B[i]?=O s->ZF K T H S s M[i]?
def tD(B:List Sl)(d:D):TE:=λM H Q=>RE K T H S B M/\∀v H',aJ H H'->Rep K T H' S d v->Q v H'
def c9(B:List Sl)(ds:List D):TA:=λM H Q=>RE K T H S B M/\∀vs H',aJ H H'->aD K T H' S ds vs->Q vs H'
noncomputable def gx(B:List Sl)(b:Bool):TT:=λM H Q=>RE K T H S B M/\∀H',aJ H H'->Q b H'
def ja(B:List Sl)(ds:List D):TE:=λM H Q=>RE K T H S B M/\∀p xs H',aJ H H'->H p=U->H' p=O (.lst xs)->aD K T (er H' p) S ds xs->Q (.ref p) H'
end
section
variable {K:wc}{T:Tx}{H H':Hp}{S S':Addr->Prop}{B:List Sl}{M:L2.St}
theorem ZF.same(k:aJ H H'){s:Sl}{o:Option (Option V)}(h:ZF K T H S s o):ZF K T H' S s o:=by
 cases s with
 |un=>trivial
 |im d=>obtain⟨v,e,r⟩:=h;exact⟨v,e,r.same k⟩
 |mu ds=>obtain⟨p,xs,e,n,q,r⟩:=h;exact⟨p,xs,e,n,k _ _ q,r.gen (aU.mk (λ_ z=>z) λb o _=>k b o)⟩
theorem RE.same(k:aJ H H')(h:RE K T H S B M):RE K T H' S B M:=⟨λa z=>let ⟨o,e⟩:=h.dom a z;⟨o,k a o e⟩,h.len,λi s e=>(h.at_ i s e).same k⟩
def RE.nS(h:RE K T H S B M)(e:H a=U):¬S a:=λz=>by obtain⟨o,q⟩:=h.dom a z;rw[e]at q;cases q
end
def PE.mono{t t':TE}(h:PE X e t)(m:∀M H Q,t' M H Q->t M H Q):PE X e t':=λpins s M H Q I hw=>h pins s M H Q I (m M H Q hw)
def PT.mono{t t':TT}(h:PT X e t)(m:∀M H Q,t' M H Q->t M H Q):PT X e t':=λpins s M H Q I hw=>h pins s M H Q I (m M H Q hw)
def PW.mono{t t':TT}(h:PW X e t)(m:∀M H Q,t' M H Q->t M H Q):PW X e t':=λz pins s M H Q I hw=>h z pins s M H Q I (m M H Q hw)
def PA.mono{e:List Expr}{t t':TA}(h:PA X e t)(m:∀M H Q,t' M H Q->t M H Q):PA X e t':=λpos pins s M H Q I hw=>h pos pins s M H Q I (m M H Q hw)
theorem aJ.upd{H:Hp}{p:Addr}{o:HO}(h:H p=U):aJ H (upd H p o):=λb u e=>by rw[aM (aQ e h)];exact e
mutual
noncomputable def py:D->PyData
 |.non=>.none
 |.bl b=>.bool b
 |.int i=>.int i
 |.str x=>.str x
 |.lst xs=>.list (cw xs)
 |.tup xs=>.tuple (cw xs)
 |.obj _ _=>.none
 |.exc _=>.none
 |.dct _=>.none
 |.frz _=>.none
noncomputable def cw:List D->List PyData
 |[]=>[]
 |d::r=>py d::cw r
end
theorem dX{n:Nat}(h:∀d,flat n d=Y->(py d).canLay0=Y):∀ds:List D,ds.all (flat n)=Y->PyData.canLayAll0 (cw ds)=Y
 |[],_=>by simp[cw,PyData.canLayAll0]
 |d::ds,e=>by rw[all_cons,u3]at e;simp only[cw,PyData.canLayAll0,u3];exact⟨h d e.1,dX h ds e.2⟩
theorem canLay:∀(n:Nat) (d:D),flat n d=Y->(py d).canLay0=Y
 |n,.non,_=>by simp[py,PyData.canLay0]
 |n,.bl _,_=>by simp[py,PyData.canLay0]
 |n,.int _,_=>by simp[py,PyData.canLay0]
 |n,.str x,h=>by
  have e:mf x=Y:=by cases n<;>simpa [flat] using h
  simp only[py,PyData.canLay0];exact e
 | 0,.lst _,h=>by simp[flat]at h
 | 0,.tup _,h=>by simp[flat]at h
 |n+1,.lst xs,h=>by simp only[py,PyData.canLay0];exact dX (canLay n) xs (by simpa [flat] using h)
 |n+1,.tup xs,h=>by simp only[py,PyData.canLay0];exact dX (canLay n) xs (by simpa [flat] using h)
 |n,.obj _ _,h=>by cases n<;>simp[flat]at h
 |n,.exc _,h=>by cases n<;>simp[flat]at h
 |n,.dct _,h=>by cases n<;>simp[flat]at h
 |n,.frz _,h=>by cases n<;>simp[flat]at h
theorem mZ{n:Nat}(h:∀d,flat n d=Y->(py d).depth<=n):∀ds:List D,ds.all (flat n)=Y->PyData.depthAll (cw ds)<=n
 |[],_=>by simp[cw,PyData.depthAll]
 |d::ds,e=>by rw[all_cons,u3]at e;simp only[cw,PyData.depthAll];exact Nat.max_le.mpr ⟨h d e.1,mZ h ds e.2⟩
theorem qI:∀(n:Nat) (d:D),flat n d=Y->(py d).depth<=n
 |n,.non,_=>by simp[py,PyData.depth]
 |n,.bl _,_=>by simp[py,PyData.depth]
 |n,.int _,_=>by simp[py,PyData.depth]
 |n,.str x,h=>by simp[py,PyData.depth]
 | 0,.lst _,h=>by simp[flat]at h
 | 0,.tup _,h=>by simp[flat]at h
 |n+1,.lst xs,h=>by simp only[py,PyData.depth];exact Nat.succ_le_succ (mZ (qI n) xs (by simpa [flat] using h))
 |n+1,.tup xs,h=>by simp only[py,PyData.depth];exact Nat.succ_le_succ (mZ (qI n) xs (by simpa [flat] using h))
 |n,.obj _ _,h=>by simp[py,PyData.depth]
 |n,.exc _,h=>by simp[py,PyData.depth]
 |n,.dct _,h=>by simp[py,PyData.depth]
 |n,.frz _,h=>by simp[py,PyData.depth]
theorem FA{n:Nat}(h:∀d e,flat n d=Y->flat n e=Y->bw d e=PyData.eqv (py d) (py e)):∀ds es:List D,ds.all (flat n)=Y->es.all (flat n)=Y->lA ds es=PyData.eqvAll (cw ds) (cw es)
 |[],[],_,_=>by simp[lA,cw,PyData.eqvAll]
 |[],_::_,_,_=>by simp[lA,cw,PyData.eqvAll]
 |_::_,[],_,_=>by simp[lA,cw,PyData.eqvAll]
 |d::ds,e::es,a,b=>by rw[all_cons,u3]at a b;simp only[lA,cw,PyData.eqvAll];rw[h d e a.1 b.1,FA h ds es a.2 b.2]
theorem vK:∀(n:Nat) (d e:D),flat n d=Y->flat n e=Y->bw d e=PyData.eqv (py d) (py e)
 | 0,d,e,a,b=>by cases d<;>cases e<;>first|(simp[flat]at a;done)|(simp[flat]at b;done)|simp[bw,py,PyData.eqv]
 |n+1,d,e,a,b=>by
  cases d<;>cases e<;>first
   | (simp[flat]at a;done)
   | (simp[flat]at b;done)
   | (simp only[bw,py,PyData.eqv];exact FA (vK n) _ _ (by simpa [flat] using a) (by simpa [flat] using b))
   |simp[bw,py,PyData.eqv]
section
variable {X:Cx}{T:Tx}{pins:wk}{M:L2.St}{H:Hp}{s:Shared}{S:Addr->Prop}
theorem mC{n:Nat}(h:∀d v u,flat n d=Y->Rep X.K T H S d v->RelV v u->∃as,Reads s.heap u (py d) as):∀(ds:List D) (xs:List V) (us:List Value),ds.all (flat n)=Y->aD X.K T H S ds xs->aX xs us->∃as,ReadsAll s.heap us (cw ds) as
 |[],xs,us,_,r,v=>by unfold aD at r;subst r;cases v;exact⟨_,.nil⟩
 |d::ds,xs,us,e,r,v=>by
  rw[all_cons,u3]at e;unfold aD at r;obtain⟨x,q,rfl,r1,r2⟩:=r;cases v with
  |cons I z=>obtain⟨as,h1⟩:=h d x _ e.1 r1 I;obtain⟨bs,h2⟩:=mC h ds q _ e.2 r2 z;exact⟨_,.cons h1 h2⟩
theorem eE(I:Inv X pins M H s):∀(n:Nat) (d:D) (v:V) (u:Value),flat n d=Y->Rep X.K T H S d v->RelV v u->∃as,Reads s.heap u (py d) as
 |n,.non,v,u,_,r,q=>by unfold Rep at r;subst r;cases q;exact⟨_,.none⟩
 |n,.bl b,v,u,_,r,q=>by unfold Rep at r;subst r;cases q;exact⟨_,.bool b⟩
 |n,.int i,v,u,_,r,q=>by unfold Rep at r;subst r;obtain⟨t,rfl⟩:=q;exact⟨_,.int i t⟩
 |n,.str x,v,u,_,r,q=>by unfold Rep at r;subst r;obtain⟨t,rfl⟩:=q;exact⟨_,.str x t⟩
 | 0,.lst _,_,_,h,_,_=>by simp[flat]at h
 | 0,.tup _,_,_,h,_,_=>by simp[flat]at h
 |n+1,.lst ds,v,u,h,r,q=>by unfold Rep at r;obtain⟨a,xs,rfl,_,e,r⟩:=r;cases q;obtain⟨its,rv,⟨o,k,ho,hc,hd,hs⟩,_⟩:=I.list (SqL.of e);obtain⟨as,z⟩:=mC (eE I n) ds xs its (by simpa [flat] using h) r rv;simp only[py];exact⟨_,.list ho hc hs (by simpa using z)⟩
 |n+1,.tup ds,v,u,h,r,q=>by unfold Rep at r;obtain⟨a,xs,rfl,_,e,r⟩:=r;cases q;obtain⟨its,rv,⟨o,ho,hc,k,hs⟩,_⟩:=I.tuple e;obtain⟨as,z⟩:=mC (eE I n) ds xs its (by simpa [flat] using h) r rv;simp only[py];exact⟨_,.tuple ho hc hs (by simpa using z)⟩
 |n,.obj _ _,_,_,h,_,_=>by cases n<;>simp[flat]at h
 |n,.exc _,_,_,h,_,_=>by cases n<;>simp[flat]at h
 |n,.dct _,_,_,h,_,_=>by cases n<;>simp[flat]at h
 |n,.frz _,_,_,h,_,_=>by cases n<;>simp[flat]at h
end
def rD(K:wc)(T:Tx)(S:Addr->Prop)(o:O2):R2:=λx y H Q=>∃a b d,(∀a,S a->∃o,H a=O o)/\Rep K T H S a x/\Rep K T H S b y/\af o a b=O d/\∀v H',aJ H H'->Rep K T H' S d v->Q v H'
def eU:big<=sizeLine:=by rw[sizeLine_eq];decide
section
variable {X:Cx}{T:Tx}{S:Addr->Prop}
def wQ{p:Addr}{ds:List D}(dom:∀a,S a->∃o,H a=O o)(hp:H p=U)(r:aD K T H S ds xs):Rep K T (upd H p (.lst xs)) S (.lst ds) (.ref p):=by unfold Rep;exact⟨p,xs,rfl,λz=>(by obtain⟨o,e⟩:=dom p z;rw[hp]at e;cases e),aS,r.same (aJ.upd hp)⟩
def eZ{p:Addr}{ds:List D}(dom:∀a,S a->∃o,H a=O o)(hp:H p=U)(r:aD K T H S ds xs):Rep K T (upd H p (.tup xs)) S (.tup ds) (.ref p):=by unfold Rep;exact⟨p,xs,rfl,λz=>(by obtain⟨o,e⟩:=dom p z;rw[hp]at e;cases e),SqT.of aS,r.same (aJ.upd hp)⟩
def QZ{prog:wg}{t b:Addr}{ws:List Value}(ht:IsTup s.heap t (#[]:Array Value))(hb:IsTup s.heap b ws.toArray) (h1:Q (.ref b) s) (hsz:ws.length<=sizeLine):wpAny (model prog w) A (binaryOp .Add (.ref t) (.ref b)) Q E s:=by obtain⟨⟨cls,dd,data,sl⟩,ho,hc,n,hd⟩:=id ht;obtain⟨⟨cls2,lu,I,l8⟩,dn,fx,n2,z⟩:=id hb;simp only at hc hd fx z;subst hc hd fx z;exact concat_meets ⟨_,ho,rfl⟩ ⟨_,dn,rfl⟩ noFill_tuple_add seq_tuple_add slot_tuple_add entry_tuple_add (args_tuple_add_2 _ _) (tuple_addW0 t b #[] ws.toArray n n2 dd lu sl l8 y9) ⟨ho,dn,h1⟩
def WV:az X (binaryOp .Add) (rD X.K T S .add):=by
 rintro pins s M H x y v u Q I rx ry ⟨a,b,d,dom,ra,z,e,q⟩;simp only[af,XA]at e;split at e;rename_i i j;unfold Rep at ra z;cases e;exact aCg pins s M H x y v u Q I rx ry ⟨i,j,ra,z,q _ H (aJ.refl H) (by unfold Rep;rfl)⟩;rename_i i j;unfold Rep at ra z;split at e;rename_i hz;cases e;exact AC pins s M H x y v u Q I rx ry ⟨i,j,ra,z,ug hz eU,q _ H (aJ.refl H) (by unfold Rep;rfl)⟩;cases e;rename_i as bs;unfold Rep at ra z;obtain⟨l,xs,ex,_,e1,r1⟩:=ra;obtain⟨b,ys,ey,_,e2,r2⟩:=z;split at e;rename_i hz;cases e;refine aCf pins s M H x y v u Q I rx ry ⟨l,b,xs,ys,ex,ey,e1,e2,?_,λp hp=>q _ _ (aJ.upd hp) (wQ dom hp (r1.app r2))⟩;rw[<-r1.len,<-r2.len];exact ug hz eU;cases e;rename_i as bs;have ra':=ra;have rb':=z;unfold Rep at ra z;obtain⟨l,xs,ex,_,e1,r1⟩:=ra;obtain⟨b,ys,ey,_,e2,r2⟩:=z;split at e;rename_i hz;cases e;have d9:xs.length+ys.length<=sizeLine:=by rw[<-r1.len,<-r2.len];exact ug hz eU
 by_cases hx:xs=[];subst hx ex ey;cases rx;cases ry;have ea:as=[]:=ur.mp r1.len;subst ea;obtain⟨its,v1,p1,_⟩:=I.tuple e1;obtain⟨dg,v2,p2,z2⟩:=I.tuple e2;cases v1;exact QZ p1 p2 ⟨.ref b,H,I,rfl,q _ H (aJ.refl H) (by simpa using rb')⟩ (by rw[<-v2.length];exact z2);refine WN pins s M H x y v u Q I rx ry ⟨l,b,xs,ys,ex,ey,e1,e2,hx,d9,λhy=>?_,λhy p hp=>q _ _ (aJ.upd hp) (eZ dom hp (r1.app r2))⟩;subst hy;have eb:bs=[]:=ur.mp r2.len;subst eb;rw[<-ex];exact q _ H (aJ.refl H) (by simpa using ra');cases e;cases e
def WQ:az X (binaryOp .Sub) (rD X.K T S .sub):=by rintro pins s M H x y v u Q I rx ry ⟨a,b,d,dom,ra,z,e,q⟩;simp only[af,aFB]at e;split at e;rename_i i j;unfold Rep at ra z;cases e;exact aCa pins s M H x y v u Q I rx ry ⟨i,j,ra,z,q _ H (aJ.refl H) (by unfold Rep;rfl)⟩;cases e
def WS:az X (binaryOp .Mult) (rD X.K T S .mul):=by rintro pins s M H x y v u Q I rx ry ⟨a,b,d,dom,ra,z,e,q⟩;simp only[af,aFD]at e;split at e;rename_i i j;unfold Rep at ra z;split at e;rename_i hz;cases e;exact aCc pins s M H x y v u Q I rx ry ⟨i,j,ra,z,hz,q _ H (aJ.refl H) (by unfold Rep;rfl)⟩;cases e;cases e
def KR:az X (binaryOp .FloorDiv) (rD X.K T S .fdiv):=by rintro pins s M H x y v u Q I rx ry ⟨a,b,d,dom,ra,z,e,q⟩;simp only[af,oDiv]at e;split at e;rename_i i j;unfold Rep at ra z;split at e;rename_i hz;cases e;exact WM pins s M H x y v u Q I rx ry ⟨i,j,ra,z,hz,q _ H (aJ.refl H) (by unfold Rep;rfl)⟩;cases e;cases e
def WT:az X (binaryOp .Mod) (rD X.K T S .mod):=by rintro pins s M H x y v u Q I rx ry ⟨a,b,d,dom,ra,z,e,q⟩;simp only[af,oMod]at e;split at e;rename_i i j;unfold Rep at ra z;split at e;rename_i hz;cases e;exact aCd pins s M H x y v u Q I rx ry ⟨i,j,ra,z,hz,q _ H (aJ.refl H) (by unfold Rep;rfl)⟩;cases e;cases e
def WR:az X (binaryOp .Pow) (rD X.K T S .pow):=by rintro pins s M H x y v u Q I rx ry ⟨a,b,d,dom,ra,z,e,q⟩;simp only[af,aFC]at e;split at e;rename_i i j;unfold Rep at ra z;split at e;rename_i hz;cases e;exact aCb pins s M H x y v u Q I rx ry ⟨i,j,ra,z,⟨hz.1,yx,hz.2.2⟩,q _ H (aJ.refl H) (by unfold Rep;rfl)⟩;cases e;cases e
def WU{op:Operator}{o:O2}(h:WO op=O o):az X (binaryOp op) (rD X.K T S o):=by cases op<;>simp only[WO]at h<;>first|(cases h;done)|(cases h;first|exact WV|exact WQ|exact WS|exact KR|exact WT|exact WR)
def bQ{b:Bool}:Rep K T H S (.bl b) (.bl b):=by unfold Rep;rfl
def aCi:az X (compareOp .Lt) (rD X.K T S .lt):=by rintro pins s M H x y v u Q I rx ry ⟨a,b,d,dom,ra,z,e,q⟩;simp only[af,oLt]at e;split at e;rename_i i j;unfold Rep at ra z;cases e;exact aFo pins s M H x y v u Q I rx ry ⟨i,j,ra,z,q _ H (aJ.refl H) bQ⟩;cases e
def aCj:az X (compareOp .LtE) (rD X.K T S .le):=by rintro pins s M H x y v u Q I rx ry ⟨a,b,d,dom,ra,z,e,q⟩;simp only[af,oLe]at e;split at e;rename_i i j;unfold Rep at ra z;cases e;exact aFp pins s M H x y v u Q I rx ry ⟨i,j,ra,z,q _ H (aJ.refl H) bQ⟩;cases e
def aCm:az X (compareOp .Gt) (rD X.K T S .gt):=by rintro pins s M H x y v u Q I rx ry ⟨a,b,d,dom,ra,z,e,q⟩;simp only[af,oGt]at e;split at e;rename_i i j;unfold Rep at ra z;cases e;exact aFq pins s M H x y v u Q I rx ry ⟨i,j,ra,z,q _ H (aJ.refl H) bQ⟩;cases e
def aCn:az X (compareOp .GtE) (rD X.K T S .ge):=by rintro pins s M H x y v u Q I rx ry ⟨a,b,d,dom,ra,z,e,q⟩;simp only[af,oGe]at e;split at e;rename_i i j;unfold Rep at ra z;cases e;exact aFr pins s M H x y v u Q I rx ry ⟨i,j,ra,z,q _ H (aJ.refl H) bQ⟩;cases e
def ZO(hu:A.units+64<cLine){d e:D}(hd:plain d=Y):A.units+min (py d).depth (py e).depth<cLine:=by have h1:=qI 8 d hd;have h2:min (py d).depth (py e).depth<=(py d).depth:=Nat.min_le_left _ _;lia
def aCo(hu:X.A.units+64<cLine):az X (compareOp .Eq) (rD X.K T S .eq):=by rintro pins s M H x y v u Q I rx z ⟨a,b,d,dom,ra,rb,e,q⟩;simp only[af,oEq]at e;split at e;rename_i hp;rw[u3]at hp;cases e;obtain⟨as,h1⟩:=eE I 8 a x v hp.1 ra rx;obtain⟨bs,h2⟩:=eE I 8 b y u hp.2 rb z;refine SeqAt.compareEq_reads h1 h2 (canLay 8 a hp.1) (canLay 8 b hp.2) (ZO hu hp.1) ⟨.bl _,H,I,rfl,?_⟩;rw[<-vK 8 a b hp.1 hp.2];exact q _ H (aJ.refl H) bQ;cases e
def aCh(hu:X.A.units+64<cLine):az X (compareOp .NotEq) (rD X.K T S .ne):=by rintro pins s M H x y v u Q I rx z ⟨a,b,d,dom,ra,rb,e,q⟩;simp only[af,oNe]at e;split at e;rename_i hp;rw[u3]at hp;cases e;obtain⟨as,h1⟩:=eE I 8 a x v hp.1 ra rx;obtain⟨bs,h2⟩:=eE I 8 b y u hp.2 rb z;refine SeqAt.compareNe_reads h1 h2 (canLay 8 a hp.1) (canLay 8 b hp.2) (ZO hu hp.1) ⟨.bl _,H,I,rfl,?_⟩;rw[<-vK 8 a b hp.1 hp.2];exact q _ H (aJ.refl H) bQ;cases e
theorem qU(a:D)(ha:plain a=Y):∀ds:List D,ds.all plain=Y->((cw ds).any λy=>PyData.eqv y (py a))=ds.any λy=>bw y a
 |[],_=>by simp[cw]
 |d::ds,h=>by rw[all_cons,u3]at h;simp only[cw,any_cons];rw[qU a ha ds h.2,vK 8 d a h.1 ha]
theorem aZ.has{T:Tx}{k:Int}:∀{kvs:List (Int×D)} {gs:List (Key×V)},aZ K T H S kvs gs->(gE gs (Sum.inl k:Key)).isSome=(bL kvs k).isSome
 |[],gs,h=>by unfold aZ at h;subst h;rfl
 | (i,d)::kvs,gs,h=>by unfold aZ at h;obtain⟨x,r,rfl,p,q⟩:=h;by_cases e:i=k;rw[gT (congrArg Sum.inl e)];unfold bL;rw[List.find?_cons_of_pos (by simpa using e)];rfl;rw[gU (λz=>e (Sum.inl.inj z))];unfold bL;rw[List.find?_cons_of_neg (by simpa using e)];exact aZ.has q
def aCl(hu:X.A.units+64<cLine):az X (compareOp .In) (rD X.K T S .isin):=by
 rintro pins s M H x y v u Q I rx ry ⟨a,b,d,dom,ra,z,e,q⟩;have go:∀(ds:List D),plain a=Y->ds.all plain=Y->X.A.units+1+min (PyData.depthAll (cw ds)) (py a).depth<cLine:=λds h1 h2=>by have h3:=qI 8 a h1;have h4:min (PyData.depthAll (cw ds)) (py a).depth<=(py a).depth:=min_le_right _ _;lia
 simp only[af,oIn]at e;split at e;rename_i ds;split at e;rename_i hp;rw[u3]at hp;cases e;obtain⟨as,h1⟩:=eE I 8 a x v hp.1 ra rx;obtain⟨bs,h2⟩:=eE I 9 (.lst ds) y u (by show ds.all (flat 8)=Y;exact hp.2) z ry;simp only[py]at h2;refine SeqAt.in_list_reads h2 h1 (dX (canLay 8) ds hp.2) (canLay 8 a hp.1) (go ds hp.1 hp.2) ⟨.bl _,H,I,rfl,?_⟩;rw[qU a hp.1 ds hp.2];exact q _ H (aJ.refl H) bQ;cases e;rename_i ds;split at e;rename_i hp;rw[u3]at hp;cases e;obtain⟨as,h1⟩:=eE I 8 a x v hp.1 ra rx;obtain⟨bs,h2⟩:=eE I 9 (.tup ds) y u (by show ds.all (flat 8)=Y;exact hp.2) z ry;simp only[py]at h2;refine SeqAt.in_tuple_reads h2 h1 (dX (canLay 8) ds hp.2) (canLay 8 a hp.1) (go ds hp.1 hp.2) ⟨.bl _,H,I,rfl,?_⟩;rw[qU a hp.1 ds hp.2];exact q _ H (aJ.refl H) bQ;cases e;split at e;cases e;unfold Rep at ra z;subst ra z;exact GP pins s M H _ _ v u Q I rx ry ⟨_,_,rfl,rfl,q _ H (aJ.refl H) bQ⟩;cases e;split at e;cases e;unfold Rep at ra z;subst ra;obtain⟨p,gs,rfl,_,hq,rk⟩:=z;cases ry;refine aHD yx I (vY.k (k:=Sum.inl _) hq) rx λs' I'=>?_;rw[rk.has];exact⟨.bl _,H,I',rfl,q _ H (aJ.refl H) bQ⟩;cases e;cases e
def GQ(hu:X.A.units+64<cLine):az X (compareOp .NotIn) (rD X.K T S .notin):=by
 rintro pins s M H x y v u Q I rx z ⟨a,b,d,dom,ra,rb,e,q⟩;have go:∀(ds:List D),plain a=Y->ds.all plain=Y->X.A.units+1+min (PyData.depthAll (cw ds)) (py a).depth<cLine:=λds h1 h2=>by have h3:=qI 8 a h1;have h4:min (PyData.depthAll (cw ds)) (py a).depth<=(py a).depth:=min_le_right _ _;lia
 simp only[af,LD]at e;split at e;rename_i ds;split at e;rename_i hp;rw[u3]at hp;cases e;obtain⟨as,h1⟩:=eE I 8 a x v hp.1 ra rx;obtain⟨bs,h2⟩:=eE I 9 (.lst ds) y u (by show ds.all (flat 8)=Y;exact hp.2) rb z;simp only[py]at h2;refine SeqAt.notIn_list_reads h2 h1 (dX (canLay 8) ds hp.2) (canLay 8 a hp.1) (go ds hp.1 hp.2) ⟨.bl _,H,I,rfl,?_⟩;rw[qU a hp.1 ds hp.2];exact q _ H (aJ.refl H) bQ;cases e;rename_i ds;split at e;rename_i hp;rw[u3]at hp;cases e;obtain⟨as,h1⟩:=eE I 8 a x v hp.1 ra rx;obtain⟨bs,h2⟩:=eE I 9 (.tup ds) y u (by show ds.all (flat 8)=Y;exact hp.2) rb z;simp only[py]at h2;refine SeqAt.notIn_tuple_reads h2 h1 (dX (canLay 8) ds hp.2) (canLay 8 a hp.1) (go ds hp.1 hp.2) ⟨.bl _,H,I,rfl,?_⟩;rw[qU a hp.1 ds hp.2];exact q _ H (aJ.refl H) bQ;cases e;cases e
def aCk:az X (compareOp .Is) (rD X.K T S .is):=by
 rintro pins s M H x y v u Q I rx ry ⟨a,b,d,dom,z,rb,e,q⟩;have go:∀k,b=.non->k=decide (x=V.non)->d=.bl k->wpAny (model X.prog X.w) X.A (compareOp .Is v u) (EP X pins M Q) X.xe s:=λk hb hk hd=>by
  subst hb hd hk;unfold Rep at rb;exact aCe pins s M H x y v u Q I rx ry ⟨rb,q _ H (aJ.refl H) bQ⟩
 simp only[af,oIs,isD]at e;split at e<;>simp only[vf,Option.map_none,so,reduceCtorEq]at e
 all_goals subst e
 all_goals first
  | (unfold Rep at z;refine go _ rfl ?_ rfl;first|(subst z;rfl)|(obtain⟨_,_,rfl,_⟩:=z;rfl)|(obtain⟨_,_,_,_,rfl,_⟩:=z;rfl))
  | (unfold Rep at z rb
     subst z rb;cases rx;cases ry;exact is_bool ⟨.bl _,H,I,rfl,q _ H (aJ.refl H) bQ⟩)
end
structure Fly (P:wg) (w:World) (l:List Env) (H:Hp) (s:Shared) (ρ:Heap) (a:Addr) (cls a0:Value) (H':Hp) (s':Shared):Prop where
 os:s'.os=s.os
 bare:AllBare s'.gens
 un:Un (bY l) [] H H' s.heap s'.heap
 hok:HOk P w H' s'.heap
 fly:Heap.FlyingW ρ l a cls a0 s'.heap
 new:H' a=U
 old:s.heap.get? a=U
 frf:∀b∈bY l,H' b=U
 cov:∀b o,s'.heap.get? b=O o->b∉bY l->((∃u,H' b=O u)\/∃o',s.heap.get? b=O o')->ρ.get? b=O o
def dY(P:wg)(w:World):ar:=λl H s E e s'=>∃a cls a0 ρ H',e=.ref a/\Fly P w l H s ρ a cls a0 H' s'/\E cls U H'
def aAg:∀outer H s e s',dY P w outer H s E0 e s'->False:=λ_ _ _ _ _ ⟨_,_,_,_,_,_,_,h⟩=>h
section
variable {P:wg}{w:World}{l:List Env}{H H':Hp}{s s':Shared}{ρ:Heap}{a:Addr}{cls a0:Value}
def mI{h:Heap}{b:Addr}:∀{o:HO},cP P w H h b o->∃u,h.get? b=O u:=by
 intro o x;cases o with
 |lst xs=>obtain⟨_,_,_,_,e⟩:=x;exact⟨_,e⟩
 |tup xs=>obtain⟨_,_,_,z,e,_⟩:=x;exact⟨_,e⟩
 |dK kvs=>obtain⟨_,_,_,_,o,_,_,e,_⟩:=x;exact⟨_,e⟩
 |dT kvs=>obtain⟨_,_,_,_,o,_,_,e,_⟩:=x;exact⟨_,e⟩
 |set S n=>obtain⟨o,_,_,_,e,_⟩:=x;exact⟨_,e⟩
 |ins C dx fs=>obtain⟨_,_,_,e,_⟩:=x;exact⟨_,e⟩
 |own y=>obtain⟨_,e⟩:=x;exact⟨_,e⟩
 |xd fs=>obtain⟨_,⟨_,_,_,e,_⟩,_⟩:=x;exact⟨_,e⟩
 |rng lo hi=>obtain⟨_,_,_,e⟩:=x;exact⟨_,e⟩
 |frz z u=>obtain⟨e,_⟩:=x;exact⟨_,e⟩
 |tbl ps=>exact⟨_,(show h.get? b=O _ from x)⟩
 |met f y=>exact⟨_,(show h.get? b=O _ from x)⟩
 |ext φ=>obtain⟨_,⟨_,e⟩,_⟩:=x;exact⟨_,e⟩
def CF{fs:List Addr}{h0 h1:Heap}(u:Un fs [] H H' h0 h1)(keep:∀b o,h1.get? b=O o->(∃o',h0.get? b=O o')->b∉fs->h2.get? b=O o) (slot:∀b o,h1.get? b=O o->b∈fs->∃sl,h2.get? b=O {o with slots:=sl}):Un fs [] H H' h0 h2 where
 keep b o e n hb hx:=keep b o (u.keep b o e n hb hx) ⟨o,e⟩ hb
 slot b o e n hb hx:=by obtain⟨sl,e1⟩:=u.slot b o e n hb hx;obtain⟨l8,e2⟩:=slot b _ e1 hb;exact⟨l8,e2⟩
 free:=u.free
 there b o e hx:=by obtain⟨o',e1⟩:=u.there b o e hx;by_cases hb:b∈fs;obtain⟨sl,e2⟩:=slot b _ e1 hb;exact⟨_,e2⟩;exact⟨_,keep b o' e1 ⟨o,e⟩ hb⟩
 tups:=u.tups
 frzs:=u.frzs
 tbls:=u.tbls
def xW{h1:Heap}(ok:HOk P w H h1)(keep:∀b o u,H b=O u->h1.get? b=O o->h2.get? b=O o):HOk P w H h2:=λb u e=>(ok b u e).stay (λc v hc q=>by rcases hc with rfl|hc;exact keep _ v u e q;exact keep _ v _ hc q) (λ_ q=>q) λ_ _ q=>q
def Fly.move(F:Fly P w l H s ρ a cls a0 H' s')(fl:Heap.FlyingW ρ l a cls a0 h2)(up:s'.heap.UpToSlots h2):Fly P w l H s ρ a cls a0 H' {s' with heap:=h2}:=by
 have keep:∀b o,s'.heap.get? b=O o->((∃u,H' b=O u)\/∃o',s.heap.get? b=O o')->b∉bY l->h2.get? b=O o:=λb o e t nb=>fl.1 b o (F.cov b o e nb t);have tr:∀b u,H' b=O u->b∉bY l:=λb u e z=>by rw[F.frf b z]at e;cases e
 refine⟨F.os,F.bare,CF F.un (λb o e t nb=>keep b o e (.inr t) nb) (λb o e hb=>?_),xW F.hok λb o u e q=>keep b o q (.inl ⟨u,e⟩) (tr b u e),fl,F.new,F.old,F.frf,λb o e nb t=>?_⟩;obtain⟨_,o2,e2,nf⟩:=F.fly.2.2.1.mem hb;rw[e]at e2;cases e2;exact up b o e nf;have:∃I,s'.heap.get? b=O I:=by rcases t with ⟨u,e1⟩|⟨o',e1⟩;exact mI (F.hok b u e1);exact F.un.there b o' e1 y9
 obtain⟨I,e1⟩:=this;have e2:=keep b I e1 t nb;have e:h2.get? b=O o:=e;rw[e2]at e;cases e;exact F.cov b _ e1 nb t
end
section
variable {X:Cx}{pins:wk}{M:L2.St}{H H':Hp}{s s':Shared}{ρ:Heap}{a:Addr}{cls a0:Value}
def Fly.inv(I:Inv X pins M H s)(F:Fly X.prog X.w X.stack H s ρ a cls a0 H' s'):Inv X pins M H' s':=I.call' F.os F.un F.hok F.bare λb z=>absurd z y9
end
noncomputable def jk:List Value:=[.type "ValueError",.type "Exception",.type "BaseException",.type "object"]
noncomputable def kT(K:wc)(C:Addr)(v:Value):Bool:=match K.lookup C with
 |some ⟨_,_,.cls cd,_⟩=>cd.mro.contains v
 |_=>J
def IV(q:excIn K C jk "ValueError.__new__"=Y):∃nm qn N bs bm hdct sn sub ab col dd k0 k1 k2 k3 k5,K.lookup C=O (excClassObj nm qn C N bs bm hdct sn sub ab col dd k0 k1 k2 k3 k5 "ValueError.__new__")/\PySem.W.tailIn K jk bm=Y/\PySem.W.nsOkIn K N=Y/\nsIn K N "__init__"=O U/\∀v,kT K C v=(Value.ref C::bm).contains v:=by
 unfold excIn at q;split at q;rename_i dd cd sl ho;split at q;rename_i C' bm k0 k1 k2 k3 n k5 hm hs;simp only[u3,uw,not_eq_true']at q;obtain⟨⟨⟨⟨⟨rfl,rfl⟩,z⟩,ht⟩,hok⟩,I⟩:=q;obtain⟨nm,bs,mro,ns,qn,hd,sn,sub,ab,col,del⟩:=cd;dsimp only at hm z hok I;subst hm z;have gm:sl=#[k0,k1,k2,k3,O (.builtin "ValueError.__new__"),k5]:=by obtain⟨l⟩:=sl;simp only at hs;rw[hs]
 subst gm;refine⟨nm,qn,ns,bs,bm,hd,sn,sub,ab,col,dd,k0,k1,k2,k3,k5,ho,ht,hok,I,λv=>?_⟩;unfold kT;rw[ho];cases q;cases q
def wZ{m:Str}{j:Nat}{p' q:Pos}{W:Hp->Prop}(hc:X.calm=Y)(hg:Gl X x)(i5:(x == ("__debug__":Str))=J)(hm:X.mg x=O (.ref C))(hx:excIn X.K C jk "ValueError.__new__"=Y) (hw:∀pins M H s h' e vs,Inv X pins M H s->Heap.MadeExcOf s.heap h' e (.ref C) vs->W H->X.xe (.ref e) {s with heap:=h' }):PS X (.Raise (O (.Call (.Name x p) [.Constant (.str m) j p'] [] q)) U pos) (λD M H=>W H):=by intro pins s M H D I hW;obtain⟨nm,qn,N,bs,bm,hdct,sn,sub,ab,col,dd,k0,k1,k2,k3,k5,ho,ht,hok,hni,_⟩:=IV hx;have T:OwnTail s.heap jk bm:=PySem.W.tail_of_in I.kIn ht;have hN:s.heap.Ns N (s.heap.nsMap N):=.of_isNs (PySem.W.isNs_of_in I.kIn hok);have z:(s.heap.nsMap N) "__init__"=U:=PySem.W.nsMap_none_of_in I.kIn hok hni;have hC:=I.kIn _ _ ho;refine wpAny_Raise_call_subT (C:=C) (nm:=nm) (q:=qn) (N:=N) (bs:=bs) (bm:=bm) (hdct:=hdct) (sn:=sn) (sub:=sub) (ab:=ab) (col:=col) (dd:=dd) (k0:=k0) (k1:=k1) (k2:=k2) (k3:=k3) (k5:=k5) PySem.F.excBase_ValueError (mN:=s.heap.nsMap N) (T.hasType PySem.F.excBase_ValueError.hasBase) (I.ok.hd hc) rfl z (fQ I hg hm ⟨rfl,?_⟩ i5);exact Calls.evalArgs_plain (Calls.spliced_cons (Calls.Constant_str (k:=j) (pos:=p') (Calls.spliced_nil ⟨rfl,by show 1<=sizeLine;rw[sizeLine_eq];decide,hC,hN,T,λh' e hm=>hw pins M H {s with toks:=s.toks+1} h' e _ (I.tok _) hm hW⟩)))
section
variable {P:wg}{w:World}{K:wc}{mg:wm}{base:Heap}{N:List Str}{qual:Str}{sc:Scope}{f:Addr}{cd:Value}{A:Around}{outer:List Env}{s:Shared}{H:Hp}{E:XK}
def pK{s1:Shared}{h':Heap}{e:Addr}{cls:Value}(I:Inv (nA (dY P w) P w K mg base N qual sc f cd A outer s H E) pins M H1 s1)(hm:Heap.MadeExcOf s1.heap h' e cls vs)(hE:E cls U H1):(nA (dY P w) P w K mg base N qual sc f cd A outer s H E).xe (.ref e) {s1 with heap:=h' }:=by
 have jq:=I.stack;have cu:∀b∈bY (envOfC qual sc s.heap.objs.size f cd::outer),H1 b=U:=I.stkFree;have fsE:bY (envOfC qual sc s.heap.objs.size f cd::outer)=s.heap.objs.size::bY outer:=rfl;have tr:∀b u,H1 b=O u->b∉bY (envOfC qual sc s.heap.objs.size f cd::outer):=λb u e z=>by rw[cu b z]at e;cases e
 have ns:∀b o,s.heap.get? b=O o->b∉bY outer->b∉bY (envOfC qual sc s.heap.objs.size f cd::outer):=λb o e h1 z=>by rw[fsE]at z;rcases ui.mp z with z|z;exact absurd (uf e) (by rw[z];exact va _);exact h1 z
 have un0:Un (bY outer) [] H H1 s.heap s1.heap:=I.base;refine wpAny_leaves_madeW (base:=hideAll s1.heap (bY (envOfC qual sc s.heap.objs.size f cd::outer))) (L:=s.heap.objs.size) (outer:=outer) I.ok.frames rfl (λb o q=>PySem.W.of_hideAll _ q) (PySem.W.funFrames_hide jq λenv he b hb=>List.mem_filterMap.mpr ⟨env,he,hb⟩) hm λh2 t x1 x2 x3 x4=>⟨e,cls,.ref t,hideAll s1.heap (bY (envOfC qual sc s.heap.objs.size f cd::outer)),H1,rfl,?_,hE⟩;have inB:∀b o,s1.heap.get? b=O o->b∉bY (envOfC qual sc s.heap.objs.size f cd::outer)->(hideAll s1.heap (bY (envOfC qual sc s.heap.objs.size f cd::outer))).get? b=O o:=λb o q n=>PySem.W.hideAll_get _ q n;refine⟨I.os,I.bare,CF un0 (λb o e t nb=>?_) (λb o e hb=>?_),xW I.hok λb o u e q=>x1.1 b o (inB b o q (tr b u e)),x1,?_,?_,λb hb=>cu b (by rw[fsE];exact tw _ hb),λb o e nb t=>?_⟩;obtain⟨o',e'⟩:=t;exact x1.1 b o (inB b o e (ns b o' e' nb));obtain⟨_,o2,e2,nf⟩:=jq.mem (show b∈bY (envOfC qual sc s.heap.objs.size f cd::outer) by rw[fsE];exact tw _ hb);rw[e]at e2;cases e2;exact x4 b o (hm.keeps b o e) nf;cases q:H1 e with
 |none=>rfl
 |some u=>obtain⟨o,q2⟩:=mI (I.hok e u q);rw[hm.new]at q2;cases q2
 cases q:s.heap.get? e with
 |none=>rfl
 |some u=>obtain⟨o,q2⟩:=un0.there e u q y9;rw[hm.new]at q2;cases q2
 have e:h2.get? b=O o:=e;rcases t with ⟨u,e1⟩|⟨o',e1⟩;obtain⟨o1,q⟩:=mI (I.hok b u e1);have c:=inB b o1 q (tr b u e1);have:=x1.1 b o1 c;rw[e]at this;cases this;exact c;obtain⟨o1,q⟩:=un0.there b o' e1 y9;have c:=inB b o1 q (ns b o' e1 nb);have:=x1.1 b o1 c;rw[e]at this;cases this;exact c
end
abbrev sN(X:Cx)(a:Addr):Cx:={X with A:=X.A.mark (O (.ref a)),calm:=J,xe:=λ_ _=>False}
section
variable {X:Cx}{pins:wk}{M:L2.St}{H H':Hp}{s s':Shared}{ρ:Heap}{a:Addr}{cls a0:Value}
def aCq(ok:X.Ok)(a:Addr):(sN X a).Ok:=⟨ok.mod,ok.kind,ok.glob,ok.blt,ok.above,ok.inj,ok.has,ok.cab,(λz=>by cases z),ok.frames,ok.stk,ok.exf,ok.bs,ok.bsz,ok.noex,ok.exfs,ok.funs,ok.frf⟩
def DY(I:Inv X pins M H s)(a:Addr):Inv (sN X a) pins M H s:=⟨aCq I.ok a,I.os,I.bare,I.base,I.loc,I.cell,I.free,I.freeC,I.pin,I.hok,I.len⟩
def HR(ok:X.Ok)(I:Inv (sN X a) pins M H s):Inv X pins M H s:=⟨ok,I.os,I.bare,I.base,I.loc,I.cell,I.free,I.freeC,I.pin,I.hok,I.len⟩
def isExc(a C:Addr)(h:Heap):Prop:=∃o,h.get? a=O o/\o.cls=.ref C
def Fly.track(I:Inv X pins M H s)(F:Fly X.prog X.w X.stack H s ρ a (.ref C) a0 H' s'):Inv X pins M (upd H' a (.ext (isExc a C))) s':=by
 obtain⟨o,ho,hc⟩:=F.fly.there;have ne:∀b u,H' b=O u->b≠a:=λb u e z=>by rw[z,F.new]at e;cases e
 refine I.call' (H':=upd H' a (.ext (isExc a C))) F.os (ch:=[]) ?_ ?_ F.bare λb z=>absurd z y9;refine⟨F.un.keep,F.un.slot,λb o e n hx=>?_,F.un.there,λb xs e=>?_,λb o u e=>?_,λb ps e=>?_⟩;rw[aM λz=>by rw[z,F.old]at e;cases e];exact F.un.free b o e n hx;have:=F.un.tups b xs e;rw[aM (ne b _ this)];exact this;have:=F.un.frzs b o u e;rw[aM (ne b _ this)];exact this;obtain⟨more,this⟩:=F.un.tbls b ps e;exact⟨more,by rw[aM (ne b _ this)];exact this⟩;intro b u e;by_cases hb:b=a;subst hb;rw[aS]at e;cases e;exact⟨⟨o,ho,hc⟩,⟨o,ho⟩,λh1 h2 ⟨o1,e1,c1⟩ k=>⟨o1,k o1 e1,c1⟩⟩;rw[aM hb]at e;refine(F.hok b u e).stay (λ_ _ _ q=>q) (λc q=>?_) λc xs q=>?_;rw[aM (ne c _ q)];exact q;rw[aM (ne c _ q)];exact q
end
section
variable {σ:Model}{A:Around}{E:wj}{h:Heap}{g:Array GenState}{d:Drawn}{t:Nat}{os:OsState}
variable {nm q:Str}{C N:Addr}{bs bm:List Value}{hdct:Bool}{sn:List Str}{sub:List Value}{ab:Bool}{col:Option Bool}{dd:Option Addr}{k0 k1 k2 k3 k5:Option Value}{newId:String}
variable {nm' q':Str}{L N':Addr}{bs' bm':List Value}{hdct':Bool}{sn':List Str}{sub':List Value}{ab':Bool}{col':Option Bool}{l0:Option Addr}{k0' k1' k2' k3' k5':Option Value}{newId':String}
def pZ{e:Addr}{oe:Obj}{Q:Bool->Shared->Prop}(hC:h.get? C=O (excClassObj nm q C N bs bm hdct sn sub ab col dd k0 k1 k2 k3 k5 newId))(hL:h.get? L=O (excClassObj nm' q' L N' bs' bm' hdct' sn' sub' ab' col' l0 k0' k1' k2' k3' k5' newId'))(he:h.get? e=O oe)(I:oe.cls=.ref C)(z:bm'.contains (.type "BaseException")=Y) (hs:(Value.ref C::bm).contains (.ref L)=Y) (hq:Q Y ⟨h,g,d,t,os⟩):wpAny σ A (excMatches (.ref e) (.ref L)) Q E ⟨h,g,d,t,os⟩:=by
 have hcB:(Value.ref L::bm').contains (.type "BaseException")=Y:=by rw[List.contains_cons,z,Bool.or_true]
 have f:=tc_notTuple;unfold excMatches;repeat (first|(with_reducible refine wpAny_loadPart_at he ?_;rw[I])|with_reducible refine wpAny_loadPart_at hL ?_|(with_reducible refine wpAny_isSubtype_exc hL ?_;rw[hcB])|(with_reducible refine wpAny_isSubtype_exc hC ?_;rw[hs])|wp_step)
 exact hq
end
section
variable {X:Cx}{pins:wk}{M:L2.St}{H H':Hp}{s s':Shared}{ρ:Heap}{a C L:Addr}{a0:Value}{x:Str}{np hp:Pos}{b₀:Stmt}{suite:List Stmt}{rest:List ExceptHandler}{rt:VK}
noncomputable def zQ(rt:VK):Ends:={nx:=λ_ _=>False,rt:=rt}
def aBf{D:Ends}{f:Flow}{s1:Shared}(ok:X.Ok)(hD:D.rt=rt)(h:SP (sN X a) pins (zQ rt) f s1):SP X pins D f s1:=by
 cases f with
 |next=>obtain⟨_,_,_,z⟩:=h;exact z.elim
 |brk=>obtain⟨_,_,_,z⟩:=h;exact z.elim
 |cont=>obtain⟨_,_,_,z⟩:=h;exact z.elim
 |ret u=>obtain⟨v,M',H',I,r,q⟩:=h;exact⟨v,M',H',HR ok I,r,by rw[hD];exact q⟩
def aDz{D:Ends}(I:Inv X pins M H s)(F:Fly X.prog X.w X.stack H s ρ a (.ref C) a0 H' s')(jq:X.stack=X.env::X.outer)(hf:X.env.frame=O X.env.locals)(hC:excIn X.K C jk "ValueError.__new__"=Y)(hL:excIn X.K L jk "ValueError.__new__"=Y)(BE:kT X.K C (.ref L)=Y) (hg:Gl X x) (i5:(x == ("__debug__":Str))=J) (hm:X.mg x=O (.ref L)) (hD:D.rt=rt) (hs:PSs (sN X a) (b₀::suite) (λD' M' se=>D'=zQ rt/\M'=M/\se=upd H' a (.ext (isExc a C)))):wpAny (model X.prog X.w) X.A (noteFrame (.ref a) X.env) (λ_ s₂=>wpAny (model X.prog X.w) X.A (setFlight (.ref a) U) (λ_ s₃=>wpAny (model X.prog X.w) X.A (handleBy (.ref a) X.env (.ExceptHandler (O (.Name x np)) U (b₀::suite) hp::rest)) (SP X pins D) X.xe s₃) X.xe s₂) X.xe s':=by refine wpAny_looks_onW (env:=X.env) (outer:=X.outer) (L:=X.env.locals) (by rw[<-jq];exact I.ok.frames) hf (by rw[<-jq];exact F.fly) λh₄ held up4=>?_;refine wpAny_landsW held λh₅ fl5 up5=>?_;have F5:=F.move (h2:=h₅) (by rw[jq];exact fl5) (up4.trans up5);have I5:=F5.inv I;refine wpAny_handleBy_cons (codeAny_handlers_test ?_) (by intro q;cases q);refine fQ (X:=sN X a) (DY I5 a) hg hm ?_ i5;obtain⟨nm1,qn1,N1,bs1,bm1,hdct1,sn1,sub1,ab1,col1,dd1,c0,c1,c2,c3,c5,j3,k6,_,_,mr1⟩:=IV hC;obtain⟨nm2,qn2,N2,bs2,bm2,hdct2,sn2,sub2,ab2,col2,lu,d0,d1,d2,d3,d5,dn,ht2,_,_,mr2⟩:=IV hL;obtain⟨oe,hoe,hoc⟩:=fl5.there;refine pZ (I5.kIn _ _ j3) (I5.kIn _ _ dn) hoe hoc ((PySem.W.tail_of_in I5.kIn ht2).hasType y7) (by rw[<-mr1];exact BE) ?_;refine codeAny_handlers_suite (lands_againW fl5 λh₆ fl6 up6=>?_);have F6:=F5.move (h2:=h₆) (by rw[jq];exact fl6) up6;have I6:=F6.track I;exact vd (hs pins _ M _ (zQ rt) (DY I6 a) ⟨rfl,rfl,rfl⟩) (λf s₇ h₇=>aBf I.ok hD h₇) λ_ _ z=>z.elim
end
structure RoomM (k:Nat) (A:Around):Prop where
 dp:A.depth+3*k+5<recursionLimit
 un:A.units+16*k+200<cLine
structure FnM (P:wg) (w:World) (K:wc) (mg:wm) (base:Heap) (k:Nat) (f:Addr) (fd:we) (ps:List Str) (sp:Sp):Prop where
 len:∀vs H Q,sp vs H Q E0->vs.length=ps.length
 run:∀(A:Around) (outer:List Env) (s:Shared) (H:Hp) (args:Args) (us:List Value) (vs:List V) (Q:VK),RoomM k A->Env0 P w K mg base A outer s H->BindsTo s fd args (ps.zip us)->aX vs us->sp vs H Q E0 ->
  codeAny (model P w) A (.call (.ref f) args) (CR sh outer P w H s Q E0) s
structure XcK (K:wc) (C:Addr):Prop where
 ga:findIn K (.ref C) "__getattribute__"=O (O (.builtin "BaseException.__getattribute__"))
 gn:findIn K (.ref C) "__getattr__"=O U
 ha:findIn K (.ref C) "__class__"=O (O (.builtin "object.__class__"))
 hn:specialIn K (.builtin "object.__class__") "__get__"=O (O (.builtin "getset_descriptor.__get__"))
 tk:takesIn K (.builtin "object.__class__")=O Y
 hm:mroIn K C (.type "object")=O Y
 hb:mroIn K C (.type "BaseException")=O Y
def ik(K:wc)(T:Tx)(n:Nat)(f:List D->Option Rs):Sp:=λvs H Q E=>vs.length=n/\∃(S:Addr->Prop) (ds:List D),(∀a,S a->∃o,H a=O o)/\aD K T H S ds vs /\((∃d,f ds=O (.ok d)/\∀v H',aJ H H'->Rep K T H' S d v->Q v H') \/(∃c C,f ds=O (.er c)/\T.xc c=O C/\∀H',aJ H H'->E (.ref C) U H'))
def aBg(K:wc)(T:Tx)(C:Addr)(n:Nat)(g:List D->Option Rs):Sp:=λvs H Q _=>vs.length=n/\∃(p dx:Addr) (ws:List V) (S:Addr->Prop) (ds:List D) (d:D),vs=.ref p::ws/\H p=O (.ins C dx [])/\S p/\(∀a,S a->∃o,H a=O o) /\aD K T H S ds ws/\g ds=O (.ok d)/\∀H',(∀b o,b≠p->H b=O o->H' b=O o)->(∀S':Addr->Prop,(∀a,S' a->S a/\a≠p)->Rep K T H' S' d (.ref p))->Q .non H'
noncomputable def fR:List Str:=["len","int","list","tuple","max","min","str","sorted","any","range","reversed","enumerate","isinstance","bool","ValueError","all"]
def RX(X:Cx)(T:Tx)(a:Addr)(kvs:List (Str×D)):Prop:=(a == sysModules)=J/\∃o vs,X.K.lookup a=O o/\o.IsDictOf (bV X.prog X.w) vs/\(∀k,(valueAt vs (Sum.inr k)).isSome=(kvs.lookup k).isSome) /\∀k d u,kvs.lookup k=O d->valueAt vs (Sum.inr k)=O u->∃v,RelV v u/\∀(H:Hp) (S:Addr->Prop),(∀a o,X.K.lookup a=O o->H a=U)->(∀a,S a->∃o,H a=O o)->Rep X.K T H S d v
structure om (CX:ar) (X:Cx) (c:CC) (G:GS) (T:Tx) (lv:Nat):Prop where
 fn:∀x,c.fns.contains x=Y->∃f fd ps,X.mg x=O (.ref f)/\keepIn X.K (.ref f)=Y/\Binds X.K fd ps []/\(∀ds r,G.fn x ds=O r->ds.length=ps.length) /\
  FnOk X.prog X.w X.K X.mg X.base CX lv f fd ps (ik X.K T ps.length (G.fn x))
 me:∀cn C m ds r,T.cl cn=O C->G.me cn m ds=O r->∃f fd ps,iF X.K C m f/\Binds X.K fd ps []/\(∀ds r,G.me cn m ds=O r->ds.length=ps.length) /\
  FnOk X.prog X.w X.K X.mg X.base CX lv f fd ps (ik X.K T ps.length (G.me cn m))
 cls:∀cn C,T.cl cn=O C->Cls X.K C
 fld:∀cn C f,T.cl cn=O C->(G.fl cn).contains f=Y->eM X.K C f
 mo:∀x,c.cls.contains x=Y->∀ds d,G.mo x ds=O (.ok d)->∃C f fd ps j,j+1<=lv/\X.mg x=O (.ref C)/\Mk X.K C f/\Binds X.K fd ps []/\ds.length+1=ps.length /\
  FnOk X.prog X.w X.K X.mg X.base CX j f fd ps (aBg X.K T C ps.length (G.mo x))
 cst:∀x d,G.cst x=O d->c.csts.contains x=Y->∃u v,X.mg x=O u/\RelV v u/\∀(H:Hp) (S:Addr->Prop),(∀a o,X.K.lookup a=O o->H a=U)->(∀a,S a->∃o,H a=O o)->Rep X.K T H S d v
 bi:∀x,fR.contains x=Y->c.fns.contains x=J->c.cls.contains x=J->X.mg x=U
 xcl:∀x C,T.xc x=O C->X.mg x=O (.ref C)
 cx0:∀outer H s e s',CX outer H s E0 e s'->False
 cxf:∀outer H s E e s',CX outer H s E e s'->dY X.prog X.w outer H s E e s'
 xns:∀k,G.xn k=Y->∃C,T.xc k=O C
 xk:∀k C,T.xc k=O C->excIn X.K C jk "ValueError.__new__"=Y
 sub:∀k k' C C',T.xc k=O C->T.xc k'=O C'->G.sub k k'=Y->kT X.K C (.ref C')=Y
 dk:∀x kvs,G.dk x=O kvs->∃a,X.mg x=O (.ref a)/\RX X T a kvs
def vX(k:Option NameKind)(k':Option NameKind):Prop:=match k with
 |some .local=>k'=O .local
 |some .cell=>k'=O .cell
 |some .free=>k'=O .free\/k'=O .cell
 |some .globalImplicit=>k'=O .globalImplicit
 |_=>True
structure XC (CX:ar) (X:Cx) (c:CC) (G:GS) (T:Tx) (lv:Nat):Prop where
 N:X.N=c.N
 nd:c.N.Nodup
 kd:∀x,vX (c.sc.names.lookup x) (X.env.kindOf x)
 own:∀x,c.sc.names.lookup x=O .cell->X.fn x=Y
 dbg:∀x∈c.N,(x == ("__debug__":Str))=J/\(x == ("__classdict__":Str))=J
 gdb:bE c "__debug__"=J
 calm:X.calm=Y
 room:Room lv X.A
 go:om CX X c G T lv
section
variable {CX:ar}{X:Cx}{c:CC}{G:GS}{T:Tx}{lv:Nat}
theorem XC.units(h:XC CX X c G T lv):X.A.units+64<cLine:=h.room.units
def XC.glob(h:XC CX X c G T lv)(e:bE c x=Y):Gl X x:=by
 have k:=h.kd x;have e':c.sc.names.lookup x=O .globalImplicit:=by unfold bE at e;exact uw.mp e
 rw[e']at k;exact k
def XC.gne(h:XC CX X c G T lv)(e:bE c x=Y):(x == ("__debug__":Str))=J:=by
 cases q:x == ("__debug__":Str) with
 |false=>rfl
 |true=>have q':x="__debug__":=uw.mp q;subst q';rw[h.gdb]at e;cases e
def kD{R:Type}[DecidableEq R][BEq R][LawfulBEq R]:∀{l:List R} {x:R} {i:Nat},l.idxOf? x=O i->l[i]?=O x:=by intro l x i h;unfold List.idxOf? at h;rw[List.findIdx?_eq_some_iff_getElem]at h;obtain⟨h1,h2,_⟩:=h;rw[su h1];exact congrArg O (uw.mp h2)
def tV(e:bJ c x=O i):c.N[i]?=O x/\(c.sc.names.lookup x=O .local\/c.sc.names.lookup x=O .cell\/c.sc.names.lookup x=O .free):=by unfold bJ at e;split at e;rename_i h;exact⟨kD e,.inl h⟩;rename_i h;exact⟨kD e,.inr (.inl h)⟩;rename_i h;exact⟨kD e,.inr (.inr h)⟩;cases e
def XC.vis(h:XC CX X c G T lv)(e:c.sc.names.lookup x=O .local\/c.sc.names.lookup x=O .cell\/c.sc.names.lookup x=O .free):Vis X.env.scope x:=by have k:=h.kd x;rcases e with e|e|e;rw[e]at k;exact .inl k;rw[e]at k;exact .inr (.inl k);rw[e]at k;rcases k with k|k;exact .inr (.inr k);exact .inr (.inl k)
def gY(e:fA c (.Name x p)=O i):c.N[i]?=O x/\(c.sc.names.lookup x=O .local\/c.sc.names.lookup x=O .cell):=by simp only[fA]at e;split at e;rename_i h;exact⟨kD e,.inl h⟩;rename_i h;exact⟨kD e,.inr h⟩;cases e
def XC.loc(h:XC CX X c G T lv)(e:c.sc.names.lookup x=O .local\/c.sc.names.lookup x=O .cell):Loc X.env.scope x/\(X.fn x=Y\/X.env.scope.names.lookup x=O .local):=by have k:=h.kd x;rcases e with e|e;rw[e]at k;exact⟨.inl k,.inr k⟩;have o:=h.own x e;rw[e]at k;exact⟨.inr k,.inl o⟩
def MA(I:Inv X pins M H s):∀a o,X.K.lookup a=O o->H a=U:=λa o e=>(I.bs a o (I.mod.kin a o e)).2
def gD(K:wc)(T:Tx)(S:Addr->Prop)(is:List Nat)(B ρ1:List Sl)(d:D):TG:=λv M H Q=>RE K T H S B M/\Rep K T H S d v/\∀z,RE K T H S ρ1 z->(∀j,j∉is->z[j]?=M[j]?)->Q z H
theorem RE.set{d:D}(re:RE K T H S B M)(r:Rep K T H S d v):RE K T H S (B.set i (.im d)) (M.set i (O v)):=by
 refine⟨re.dom,by simp[re.len],λj s e=>?_⟩;by_cases z:j=i;subst z;have hl:j<B.length:=by have:=(sj.mp e).1;simpa using this
 rw[ud hl]at e;cases e;rw[ud (by rw[<-re.len];exact hl)];exact⟨v,rfl,r⟩;rw[ue (Ne.symm z)]at e ⊢;exact re.at_ j s e
def gDs(K:wc)(T:Tx)(S:Addr->Prop)(is:List Nat)(B ρ1:List Sl)(ds:List D):kc:=λvs M H Q=>RE K T H S B M/\aD K T H S ds vs/\∀z,RE K T H S ρ1 z->(∀j,j∉is->z[j]?=M[j]?)->Q z H
def eV(env:Env):∀{es:List Expr} {is:List Nat},fG c es=O is->(assignEach es env).map (·.2)=es.map (λe=>assign e env)/\(assignEach es env).length=es.length/\(assignEach es env).findIdx? (·.1)=U:=by
 intro es;induction es with
 |nil=>intro is _;exact⟨rfl,rfl,rfl⟩
 |cons e es z=>
  intro is h;simp only[fG,tf,sr]at h;obtain⟨i,h1,r,h2,_⟩:=h;obtain⟨a1,a2,I⟩:=z h2;cases e<;>simp only[fA,reduceCtorEq]at h1
  rename_i x p;refine⟨?_,?_,?_⟩;show assign (.Name x p) env::(assignEach es env).map (·.2)=_;rw[a1];rfl;show (assignEach es env).length+1=_;rw[a2];rfl;show List.findIdx? (·.1) ((J,assign (.Name x p) env)::assignEach es env)=U;rw[List.findIdx?_cons,I];rfl
def aFi(h:XC CX X c G T lv):∀{es:List Expr} {is:List Nat} {ds:List D} {B ρ1:List Sl},fG c es=O is->bO is ds B=O ρ1->rh X es (gDs X.K T S is B ρ1 ds):=by
 intro es;induction es with
 |nil=>
  intro is ds B ρ1 h1 h2;simp only[fG]at h1;cases h1;cases ds with
  |nil=>simp only[bO]at h2;cases h2;intro pins s M H vs us Q I r ⟨re,rl,q⟩;unfold aD at rl;exact VX pins s M H vs us Q I r ⟨rl,q M re λ_ _=>rfl⟩
  |cons d ds=>simp[bO]at h2
 |cons e es ih=>
  intro is ds B ρ1 h1 h2;simp only[fG,tf,sr]at h1;obtain⟨i,h1,r,h3,h4⟩:=h1;cases h4;cases ds with
  |nil=>simp[bO]at h2
  |cons d ds=>
   simp only[bO]at h2;have hs:=(eV (c:=c) X.env (es:=e::es) (is:=i::r) (by simp[fG,h1,h3])).1;have gg:=(eV (c:=c) X.env h3).1;cases e<;>simp only[fA,reduceCtorEq]at h1
   rename_i x p;have qh:fA c (.Name x p)=O i:=h1;obtain⟨hN,hk⟩:=gY qh;obtain⟨hl,hf⟩:=h.loc hk;have p1:PG X (.Name x p) (EG i):=DG (by rw[h.N];exact h.nd) (by rw[h.N];exact hN) hl hf;have p2:=KI p1 (ih h3 h2) (by rw[hs,gg];rfl);intro pins s M H vs us Q I rv ⟨re,rl,q⟩;unfold aD at rl;obtain⟨y,w,e1,ry,cW⟩:=rl;refine p2 pins s M H vs us Q I rv ⟨y,w,e1,?_⟩;refine⟨re.set ry,cW,λσ2 re2 ag=>q σ2 re2 λj hj=>?_⟩;rw[ag j λz=>hj (tw _ z),ue (λz=>hj (by rw[z];simp))]
def VY(h:XC CX X c G T lv){is:List Nat}{d:D}{ρ1:List Sl}(h1:cX c tg=O (is,tp))(h2:bB is tp d B=O ρ1):PG X tg (gD X.K T S is B ρ1 d):=by
 cases tg<;>simp only[cX,reduceCtorEq,u5,Prod.mk.injEq]at h1
 rename_i x p;obtain⟨i,h3,rfl,rfl⟩:=h1;simp only[bB,tu,if_false,bO]at h2;cases h2;obtain⟨hN,hk⟩:=gY h3;obtain⟨hl,hf⟩:=h.loc hk;have p1:PG X (.Name x p) (EG i):=DG (by rw[h.N];exact h.nd) (by rw[h.N];exact hN) hl hf;intro pins s M H v u Q I rv ⟨re,rd,q⟩;exact p1 pins s M H v u Q I rv (q _ (re.set rd) λj hj=>ue (λz=>hj (by rw[z];simp)))
 .rename_i es k p;obtain⟨is',h3,rfl,rfl⟩:=h1;simp only[bB,if_true]at h2;cases d<;>simp only[reduceCtorEq]at h2
  rename_i ds;obtain⟨a1,a2,a3⟩:=eV (c:=c) X.env h3;have p1:=aBQ (pos:=p) (k:=k) (n:=es.length) h.calm (aFi h (S:=S) h3 h2) a2 a3;intro pins s M H v u Q I rv ⟨re,rd,q⟩;unfold Rep at rd;obtain⟨a,xs,ev,_,e,rl⟩:=rd;refine p1 pins s M H v u Q I rv ⟨a,xs,ev,e,?_,re,rl,q⟩;have l1:=rl.len;have l2:is'.length=es.length:=by
   clear p1 a1 a2 a3 rl h2 q;induction es generalizing is' with
   |nil=>simp only[fG]at h3;cases h3;rfl
   |cons e es ih=>simp only[fG,tf,sr]at h3;obtain⟨i,_,r,h4,h5⟩:=h3;cases h5;simp only[vm,Nat.add_right_cancel_iff];exact ih r h4
  have l3:∀{is:List Nat} {ds:List D} {B ρ1:List Sl},bO is ds B=O ρ1->is.length=ds.length:=by
   intro is;induction is with
   |nil=>intro ds B ρ1 z;cases ds<;>simp_all [bO]
   |cons i is ih=>
    intro ds B ρ1 z;cases ds with
    |nil=>simp[bO]at z
    |cons d ds=>simp only[bO]at z;simp[ih z]
  rw[<-l1,<-l3 h2,l2]
end
def jl(K:wc)(T:Tx)(S:Addr->Prop)(z:Hp)(æ:It)(ds:List D):Prop:=∀(H:Hp) (S':Addr->Prop),aU K z H S S'->(∀a,S' a->∃o,H a=O o) ->(∀i d,ds[i]?=O d->æ.go i H/\∀x H',æ.yld i H x H'->aJ H H'/\Rep K T H' S' d x)/\∀i,ds.length<=i->æ.stop i H
def tI(K:wc)(T:Tx)(S:Addr->Prop)(B:List Sl)(ds:List D):TI:=λM H α=>RE K T H S B M/\∀æ H',aJ H H'->jl K T S H' æ ds->ds.length<=sizeLine->α æ H'
def fX(sc:Scope)(env:Env)(x:Str):(relabel sc env).names.lookup x=(sc.names.lookup x).map λk=>if (k == .free&&env.scope.kind == .function&&env.kindOf x == O .cell)=Y then .cell else k:=by
 show (sc.names.map λ(p:Str×NameKind)=>if (p.2 == .free&&env.scope.kind == .function&&env.kindOf p.1 == O .cell) then(p.1,NameKind.cell) else(p.1,p.2)).lookup x=_;induction sc.names with
 |nil=>rfl
 |cons p r z=>
  obtain⟨n,k⟩:=p;rw[uu];by_cases hx:x=n;subst hx;by_cases hc:(k == .free&&env.scope.kind == .function&&env.kindOf x == O .cell)=Y;show List.lookup x ((if (k == .free&&env.scope.kind == .function&&env.kindOf x == O .cell)=Y then(x,NameKind.cell) else(x,k))::_)=_;rw[if_pos hc,lookup_cons,lookup_cons,beq_self_eq_true];simp only[vf];rw[if_pos hc];show List.lookup x ((if (k == .free&&env.scope.kind == .function&&env.kindOf x == O .cell)=Y then(x,NameKind.cell) else(x,k))::_)=_;rw[if_neg hc,lookup_cons,lookup_cons,beq_self_eq_true];simp only[vf];rw[if_neg hc];have hb:(x == n)=J:=by simpa using hx
  show List.lookup x ((if (k == .free&&env.scope.kind == .function&&env.kindOf n == O .cell)=Y then(n,NameKind.cell) else(n,k))::_)=_;by_cases hc:(k == .free&&env.scope.kind == .function&&env.kindOf n == O .cell)=Y;rw[if_pos hc,lookup_cons,lookup_cons,hb];exact z;rw[if_neg hc,lookup_cons,lookup_cons,hb];exact z
theorem gS{env:Env}:∀(names:List (Str×NameKind)) (I:List (Str×Addr)),(∀x∈names,x.2=.free->∃a,env.cells.lookup x.1=O a) ->∃cl,(forIn names I λ(x:Str×NameKind) (cs:List (Str×Addr))=>if (x.2 == .free)=Y then(do let a <-cellOf env x.1;pure (ForInStep.yield ((x.1,a)::cs))) else pure (ForInStep.yield cs):Sem (List (Str×Addr)))=pure cl /\(∀x a,cl.lookup x=O a->I.lookup x=O a\/env.cells.lookup x=O a)/\(∀x,((x,NameKind.free)∈names\/∃a,I.lookup x=O a)->∃a,cl.lookup x=O a)
 |[],I,_=>⟨I,rfl,λx a h=>.inl h,λx h=>by rcases h with h|h;simp at h;exact h⟩
 | (n,k)::r,I,h=>by
  by_cases hk:k=.free;subst hk;obtain⟨a,ha⟩:=h (n,.free) y9 rfl;obtain⟨cl,e,h1,h2⟩:=gS r ((n,a)::I) λx hx=>h x (tw _ hx)
  refine⟨cl,?_,λx b q=>?_,λx q=>h2 x ?_⟩;rw[forIn_cons];simp only[beq_self_eq_true,if_true,cellOf,ha];exact e;rcases h1 x b q with z|z;rw[lookup_cons]at z;cases hx:x == n with
  |true=>rw[hx]at z;have:x=n:=uw.mp hx;subst this;cases z;exact .inr ha
  |false=>rw[hx]at z;exact .inl z
  exact .inr z;by_cases hx:x=n;subst hx;exact .inr ⟨a,y9⟩;have hb:(x == n)=J:=by simpa using hx
  rcases q with q|⟨b,q⟩;rcases ui.mp q with q|q;exact absurd (Prod.mk.inj q).1 hx;exact .inl q;exact .inr ⟨b,by rw[lookup_cons,hb];exact q⟩;have hb:(k == NameKind.free)=J:=by simpa using hk
  obtain⟨cl,e,h1,h2⟩:=gS r I λx hx=>h x (tw _ hx)
  refine⟨cl,?_,h1,λx q=>h2 x ?_⟩;rw[forIn_cons];simp only[hb,tu,if_false];exact e;rcases q with q|q;rcases ui.mp q with q|q;exact absurd (Prod.mk.inj q).2.symm hk;exact .inl q;exact .inr q
def qN(h:∀x∈sc.names,x.2=.free->∃a,env.cells.lookup x.1=O a):∃cl,closureFor sc env=pure cl/\(∀x a,cl.lookup x=O a->env.cells.lookup x=O a)/\(∀x,(x,NameKind.free)∈sc.names->∃a,cl.lookup x=O a):=by obtain⟨cl,e,h1,h2⟩:=gS (env:=env) sc.names [] h;refine⟨cl,?_,λx a q=>(h1 x a q).elim (λz=>by simp at z) id,λx q=>h2 x (.inl q)⟩;show ((forIn sc.names [] λ(x:Str×NameKind) (cs:List (Str×Addr))=>if (x.2 == .free)=Y then(do let a <-cellOf env x.1;pure (ForInStep.yield ((x.1,a)::cs))) else pure (ForInStep.yield cs):Sem (List (Str×Addr))) >>= λcs=>pure cs)=pure cl;rw[e];rfl
def yS(X:Cx)(N':List Str)(sc:Scope)(cl:List (Str×Addr))(C:Addr)(s:Shared)(H:Hp)(fp:List Addr)(E:wj):Cx:={X with N:=N',s₀:=s,H₀:=H,env:=compEnvC sc cl C X.env,outer:=X.stack,ex:=fp,fn:=λ_=>J,pn:=[],xe:=E}
theorem vQ{prog:wg}{α:Result->Shared->Prop}{z:Expr}{scope:Scope}{it acc:Value}(I:Nat->Shared->Prop)
  (turn:∀n s,I n s->wpAny (model prog w) A (pyNext it) (λr s₁=>match r with
   |none=>α (.ok .next) s₁
   |some v=>wpAny (model prog w) A (letOwnedTupleGo z it v) (λ_ s₁=>wpAny (model prog w) A (assign z env v) (λ_ s₂=>
    wpAny (model prog w) A (forIn ifs Y λc r=>if r=Y then do let ok <-isTrue c env (eval c env);pure (ForInStep.yield ok) else pure (ForInStep.yield r)) (λok s₃=>
     if ok=Y then wpAny (model prog w) A (eval elt env) (λx s₄=>wpAny (model prog w) A (call (.builtin "list.append") [acc,x]) (λ_ s₅=>∃m,m<n/\I m s₅) (notedBy (model prog w) A env λe s'=>α (.error e) s') s₄) (notedBy (model prog w) A env λe s'=>α (.error e) s') s₃
     else ∃m,m<n/\I m s₃) (notedBy (model prog w) A env λe s'=>α (.error e) s') s₂) (notedBy (model prog w) A env λe s'=>α (.error e) s') s₁) (notedBy (model prog w) A env λe s'=>α (.error e) s') s₁) (notedBy (model prog w) A env λe s'=>α (.error e) s') s)
  (n:Nat) (h:I n s):codeAny (model prog w) A (.compLoop (.ListComp elt [⟨z,iter,ifs,0⟩] scope pos) 0 it acc env) α s:=by
 refine codeAny_loop rfl I (λn s hI=>?_) n h;show wpAny _ A ((compTurn (.ListComp elt [⟨z,iter,ifs,0⟩] scope pos) 0 it acc env).onRaise (λx=>do noteFrame x env;theTreesLotGoes x)) _ _ s;refine wpAny_noted ?_;rw[compTurn_list];refine vb (wpAny_standAt (vb (vd (turn n s hI) (λr s₁ h₁=>?_) λ_ _ h'=>h')));cases r with
 |none=>exact vc h₁
 |some v=>
  refine vb (vd h₁ (λ_ s₁' h₁'=>?_) λ_ _ h'=>h');refine vb (vd h₁' (λ_ s₂ h₂=>vb (vd h₂ (λok s₃ h₃=>?_) λ_ _ h'=>h')) λ_ _ h'=>h');cases ok with
  |false=>exact vc ⟨rfl,h₃⟩
  |true=>exact vb (vb (vd h₃ (λx s₄ h₄=>vb (vd h₄ (λ_ s₅ h₅=>vc (vc ⟨rfl,h₅⟩)) λ_ _ h'=>h')) λ_ _ h'=>h'))
section
variable {CX:ar}{X:Cx}{c:CC}{G:GS}{T:Tx}{lv:Nat}{pins:wk}{M:L2.St}{H:Hp}{s:Shared}
def lW(I:Inv X pins M H s){N':List Str}{fp:List Addr}(hk:sc.kind=.function)(hC:s.heap.objs.size<=C) (bq:∀x a,cl.lookup x=O a->X.env.cells.lookup x=O a) (b8:∀x,(x,NameKind.free)∈sc.names->∃a,cl.lookup x=O a) (hnc:∀x∈sc.names,x.2≠.cell) (hf:∀b∈fp,lD X pins H b) (ic:∀b∈fp,b<s.heap.objs.size):(yS X N' sc cl C s H fp E).Ok where
 mod:=I.ok.mod
 kind:=hk
 glob:=I.ok.glob
 blt:=I.ok.blt
 above:=hC
 inj:=λx y c h1 h2=>I.ok.inj x y c (bq _ _ h1) (bq _ _ h2)
 has:=λx hx=>by
  have e:∀k,(relabel sc X.env).names.lookup x=O k->(k=.cell\/k=.free)->(x,NameKind.free)∈sc.names:=λk e hk=>by
   rw[fX]at e;cases q:sc.names.lookup x with
   |none=>rw[q]at e;cases e
   |some k0=>
    rw[q]at e;have hm:=uy q;by_cases ez:k0=.free;subst ez;exact hm;have hb:(k0 == NameKind.free)=J:=by simpa using ez
    simp only[vf,hb,Bool.false_and,tu,if_false,so]at e;subst e;rcases hk with z|z;exact absurd z (hnc _ hm);exact absurd z ez
  rcases hx with hx|hx;exact b8 x (e _ hx (.inl rfl));exact b8 x (e _ hx (.inr rfl))
 cab:=λx c h=>by cases h
 hd:=I.ok.hd
 frames:=I.ok.frames
 stk:=.inl rfl
 exf:=λb hb=>⟨v3 (u7 (ic b hb) hC),λx c e=>(hf b hb).2.2.2.2.1 x c (bq _ _ e)⟩
 bs:=I.bs
 bsz:=ug I.ok.bsz I.sz
 noex:=λb o e hb=>by obtain⟨_,_,_,h1,_⟩:=hf b hb;rcases h1 with h1|h1;exact I.ok.noex b o e h1;exact absurd (u7 (uf e) I.ok.bsz) (not_lt.mpr h1)
 exfs:=λb hb hs=>by obtain⟨_,h1,h2,_⟩:=hf b hb;rcases ui.mp (I.stkSub b hs) with z|z;exact h1 z;exact h2 z
 funs:=I.stack
 frf:=I.stkFree
end
section
variable {CX:ar}{X:Cx}{c:CC}{G:GS}{T:Tx}{lv:Nat}{pins:wk}{M:L2.St}{H:Hp}{s:Shared}
structure bb (c:CC) (sc:Scope):Prop where
 kind:sc.kind=.function
 nocell:∀x∈sc.names,x.2≠.cell
 loc:∀x∈sc.names,x.2=.local->sc.names.lookup x.1=O .local
 fl:∀x∈sc.names,x.2=.free->sc.names.lookup x.1=O .free
 nd:(ownNames sc).Nodup
 dbg:∀x∈ownNames sc,(x == ("__debug__":Str))=J/\(x == ("__classdict__":Str))=J
 gdb:sc.names.lookup ("__debug__":Str)≠O .globalImplicit
 fre:∀x∈sc.names,x.2=.free->c.sc.names.lookup x.1=O .cell\/c.sc.names.lookup x.1=O .free
def tG(h:lB c sc=Y):bb c sc:=by unfold lB at h;simp only[u3]at h;obtain⟨⟨⟨⟨⟨⟨⟨h1,h2⟩,h3⟩,h8⟩,h4⟩,h5⟩,h6⟩,z⟩:=h;rw[all_eq_true]at h2 h3 h5 z h8;refine⟨uw.mp h1,λx hx=>?_,λx hx e=>?_,λx hx e=>?_,of_decide_eq_true h4,λx hx=>?_,λe=>?_,λx hx e=>?_⟩;have:=h2 x hx;simpa using this;have:=h3 x hx;simpa [e] using this;have:=h8 x hx;simpa [e] using this;have:=h5 x hx;simpa [u3] using this;rw[e]at h6;simp at h6;have:=z x hx;simpa [e] using this
def QY(h:XC CX X c G T lv)(cs:bb c sc){fp:List Addr}:XC CX (yS X (ownNames sc) sc cl C s H fp E) {c with N:=ownNames sc,sc:=sc} G T lv where
 N:=rfl
 nd:=cs.nd
 kd:=λx=>by
  show vX (sc.names.lookup x) ((relabel sc X.env).names.lookup x);rw[fX];cases q:sc.names.lookup x with
  |none=>trivial
  |some k=>
   cases k with
   | «local»=>rfl
   |cell=>exact absurd rfl (cs.nocell _ (uy q))
   |free=>simp only[vf,vX];by_cases hc:((NameKind.free == NameKind.free)&&X.env.scope.kind == .function&&X.env.kindOf x == O .cell)=Y;rw[if_pos hc];exact .inr rfl;rw[if_neg hc];exact .inl rfl
   |globalExplicit=>trivial
   |globalImplicit=>rfl
 own:=λx e=>absurd rfl (cs.nocell _ (uy e))
 dbg:=cs.dbg
 gdb:=by unfold bE;exact uz.mpr cs.gdb
 calm:=h.calm
 room:=h.room
 go:=⟨h.go.fn,h.go.me,h.go.cls,h.go.fld,h.go.mo,h.go.cst,h.go.bi,h.go.xcl,h.go.cx0,h.go.cxf,h.go.xns,h.go.xk,h.go.sub,h.go.dk⟩
def HY:∀{l:List (Str×NameKind)} {fr:List (Nat×Nat)} {i j:Nat},freeOf c sc l=O fr->fr.lookup i=O j->∃x∈l,(ownNames sc).idxOf? x.1=O i/\bJ c x.1=O j:=by
 intro l;induction l with
 |nil=>intro fr i j h e;simp only[freeOf]at h;cases h;simp at e
 |cons x r I=>
  intro fr i j h e;simp only[freeOf,tf,sr]at h;obtain⟨a,h1,b,h2,t,h3,h4⟩:=h;cases h4;rw[lookup_cons]at e;cases q:i == a with
  |true=>
   rw[q]at e;cases e;have:i=a:=by simpa using q
   subst this;exact⟨x,y9,h1,h2⟩
  |false=>rw[q]at e;obtain⟨y,hy,z⟩:=I h3 e;exact⟨y,tw _ hy,z⟩
def eR(n:Nat)(fr:List (Nat×Nat))(M:L2.St):L2.St:=(List.range n).map λi=>match fr.lookup i with
 |some j=>M.getD j U
 |none=>U
def ND{fr:List (Nat×Nat)}(re:RE K T H S B M):RE K T H S (frame n fr B) (eR n fr M):=by
 refine⟨re.dom,by simp[frame,eR],λi sl e=>?_⟩;unfold frame at e;unfold eR;rw[sv]at e ⊢;cases hr:(List.range n)[i]? with
 |none=>rw[hr]at e;cases e
 |some k=>
  rw[hr]at e;simp only[vf,so]at e ⊢;subst e;cases q:fr.lookup k with
  |none=>trivial
  |some j=>
   simp only;cases q2:B[j]? with
   |none=>rw[sk,q2];trivial
   |some sl=>
    have h:=re.at_ j sl q2;rw[sk,q2];simp only[getD_some];cases sl with
    |un=>trivial
    |im d=>obtain⟨v,e1,r⟩:=h;exact⟨v,by rw[sk,e1];rfl,r⟩
    |mu ds=>obtain⟨p,xs,e1,r⟩:=h;exact⟨p,xs,by rw[sk,e1];rfl,r⟩
theorem RE.gen{H':Hp}(re:RE K T H S B M)(I:aU K H H' S S')(hm:∀a z,S a->H a=O z->(∃d,nG K T H S d z)->S' a/\H' a=O z)(hd:∀a,S' a->∃o,H' a=O o):RE K T H' S' B M:=by
 refine⟨hd,re.len,λi sl e=>?_⟩;have h:=re.at_ i sl e;cases sl with
 |un=>trivial
 |im d=>obtain⟨v,e1,r⟩:=h;exact⟨v,e1,Rep.gen I d v r⟩
 |mu ds=>obtain⟨p,xs,e1,sp,hp,r⟩:=h;obtain⟨a1,a2⟩:=hm p xs sp hp ⟨ds,r⟩;exact⟨p,xs,e1,a1,a2,r.gen I⟩
def MM(h:XC CX X c G T lv)(I:Inv X pins M H s)(cs:bb c sc){fr:List (Nat×Nat)}{fp:List Addr}{s4:Shared}{m:wm} (cu:freeOf c sc (sc.names.filter λx=>x.2 == .free)=O fr) (bq:∀x a,cl.lookup x=O a->X.env.cells.lookup x=O a) (b8:∀x,(x,NameKind.free)∈sc.names->∃a,cl.lookup x=O a) (hf:∀b∈fp,lD X pins H b) (ic:∀b∈fp,b<s.heap.objs.size) (hC:s.heap.objs.size<=C) (hn:s4.heap.Ns C m) (hk:∀b o,s.heap.get? b=O o->s4.heap.get? b=O o) (k8:s4.os=s.os) (j4:AllBare s4.gens):Inv (yS X (ownNames sc) sc cl C s H fp E) [] (eR (ownNames sc).length fr M) H s4 where
 ok:=lW I cs.kind hC bq b8 cs.nocell hf ic
 os:=k8
 bare:=j4
 base:=Un.kept hk
 loc:=⟨m,hn,λi x v h1 h2 h3=>by
  unfold eR at h2;rw[sv]at h2;cases hr:(List.range (ownNames sc).length)[i]? with
  |none=>rw[hr]at h2;cases h2
  |some k=>
   have ek:k=i:=by obtain⟨_,e⟩:=sj.mp hr;simpa using e.symm
   subst ek;rw[hr]at h2;simp only[vf,so]at h2;cases q:fr.lookup k with
   |none=>rw[q]at h2;cases h2
   |some j=>
    rw[q]at h2;simp only at h2;obtain⟨y,hy,hy1,gf⟩:=HY cu q;have hyx:y.1=x:=by have:=kD hy1;have qh:(ownNames sc)[k]?=O x:=h1;rw[qh]at this;exact(u4 this).symm
    obtain⟨hym,hyf⟩:=mem_filter.mp hy;have hyf':y.2=.free:=by simpa using hyf
    have hxm:(x,NameKind.free)∈sc.names:=by rw[<-hyx,<-hyf'];exact hym
    obtain⟨hN,_⟩:=tV gf;rw[hyx]at hN gf;have hσ:M[j]?=O (O v):=by
     rw[sk]at h2;cases q2:M[j]? with
     |none=>rw[q2]at h2;cases h2
     |some o=>rw[q2]at h2;simp only[getD_some]at h2;rw[h2]
    obtain⟨m0,_,hl⟩:=I.loc;have p8:=cs.fre _ hym hyf';rw[hyx]at p8;obtain⟨u,ru,lk⟩:=hl j x v (by rw[h.N];exact hN) hσ (h.vis (.inr p8));refine⟨u,ru,.inr ?_⟩;have kd:=h.kd x;have notloc:X.env.kindOf x≠O .local:=by rcases p8 with z|z;rw[z]at kd;intro w;rw[kd]at w;cases w;rw[z]at kd;intro w;rcases kd with kd|kd<;>(rw[kd]at w;cases w)
    rcases lk with ⟨z,_⟩|⟨_,cc,e1,e2⟩;exact absurd z notloc;obtain⟨a,ha⟩:=b8 x hxm;have ea:=bq x a ha;rw[e1]at ea;cases ea;refine⟨?_,cc,ha,?_⟩;show (relabel sc X.env).names.lookup x=O .cell\/(relabel sc X.env).names.lookup x=O .free;rw[fX];have hlk:sc.names.lookup x=O .free:=cs.fl _ hxm rfl;rw[hlk];simp only[vf];split;exact .inl rfl;exact .inr rfl;obtain⟨o,h5,h6⟩:=e2;exact⟨o,hk _ _ h5,h6⟩⟩
 cell:=λx a e=>by obtain⟨v,o,h5,h6⟩:=I.cell x a (bq x a e);exact⟨v,o,hk _ _ h5,h6⟩
 free:=I.hok.fresh hC
 freeC:=λx a e=>I.freeC x a (bq x a e)
 pin:=λp hp=>absurd (show p∈([]:wk) from hp) y9
 hok:=I.hok.kept hk
 len:=by simp[eR,yS]
end
section
variable {CX:ar}{X:Cx}{c:CC}{G:GS}{T:Tx}{lv:Nat}{pins:wk}{M:L2.St}{H:Hp}{s:Shared}
def yT{f:D->Option (Option D)}{d:D}{r out:List D}(h:cG f (d::r)=O out):∃o t,f d=O o/\cG f r=O t/\out=(match o with|some y=>y::t|none=>t):=by simp only[cG,tf,sr]at h;obtain⟨o,h1,t,h2,h3⟩:=h;refine⟨o,t,h1,h2,?_⟩;cases o<;>simp at h3<;>exact h3.symm
def TurnOk(CX:ar)(G:GS)(T:Tx)(lv:Nat)(I:CC)(K:wc)(ifs:List Expr)(elt:Expr)(ρ1:List Sl)(o:Option D):Prop:=∀(z:Cx) (S:Addr->Prop),XC CX z I G T lv->z.K=K ->((ifs=[]/\o.isSome=Y)\/∃e,ifs=[e]/\PT z e (gx z.K T S ρ1 o.isSome))/\∀y,o=O y->PE z elt (tD z.K T S ρ1 y)
def qL(h:XC CX X c G T lv)(cs:bb c sc){fr:List (Nat×Nat)}
  {æ:It} {fp:List Addr}  {tn:Nat->Heap->Prop} {ds outs:List D} {f:D->Option (Option D)} {RR:Value->Addr->Result->Shared->Prop} 
  (cu:freeOf c sc (sc.names.filter λx=>x.2 == .free)=O fr) (pq:bj.all (λi=>(fr.lookup i).isNone)=Y) (dO:cX {c with N:=ownNames sc,sc:=sc} tg=O (bj,tp))
  (bq:∀x a,cl.lookup x=O a->X.env.cells.lookup x=O a) (b8:∀x,(x,NameKind.free)∈sc.names->∃a,cl.lookup x=O a)
  (I:Inv X pins M H s) (re:RE X.K T H S B M) (TU:Turn X.prog X.w X.K tg æ fp it tn) (st:tn 0 s.heap) (hf:∀b∈fp,lD X pins H b) (jo:jl X.K T S H æ ds) (hlen:ds.length<=sizeLine)
  (iw:cG f ds=O outs) (ej:∀d o,f d=O o->∃ρ1,bB bj tp d (frame (ownNames sc).length fr B)=O ρ1/\TurnOk CX G T lv {c with N:=ownNames sc,sc:=sc} X.K ifs elt ρ1 o)
  (hRR:∀(D C:Addr) (s':Shared) (H':Hp) (ys:List V) (m:wm),Inv X pins M H' s'->aJ H H'->H D=U->H' D=O (.lst ys)->aD X.K T (er H' D) S outs ys->s'.heap.Ns C m ->
   (H' C=U/\C≠X.env.locals/\X.s₀.heap.objs.size<=C/\(∀x a,X.env.cells.lookup x=O a->a≠C)/\∀p∈X.pn++pins,p.1≠C)->RR (.ref D) C (.ok .next) s'):
  wpAny (model X.prog X.w) X.A (newList []) (λacc s₃=>wpAny (model X.prog X.w) X.A (newFunctionEnv sc X.env.globals cl [] X.env.qual U .none (O X.env)) (λcenv s₄=>
   codeAny (model X.prog X.w) X.A (.compStart (.ListComp elt [⟨tg,iter,ifs,0⟩] sc pos) 0 (.ref it) acc {cenv with scope:=relabel sc X.env}) (RR acc cenv.locals) s₄) E s₃) E s:=by
 refine wpAny_newObj_type (wpAny_newFunctionEnv cs.nocell (by intro y hy;simp at hy) (λh₁ hns₁ hsb₁=>?_) cs.kind)
 dsimp only at hns₁ hsb₁ ⊢;have I3:=I.lnew (t':=s.toks) (its:=[]) (ys:=[]) .nil (vz _)
 have ic:∀b∈fp,b<s.heap.objs.size:=λb hb=>by
  obtain⟨o,e,_⟩:=TU.obj _ _ st b hb;exact uf e
 generalize hD:s.heap.objs.size=D at *;generalize hs3:s.heap.push {cls:=.type "list",dict:=U,data:=.seq ([]:List Value).toArray}=h3 at *;have hC:h3.objs.size=D+1:=by rw[<-hs3,Heap.size_push,hD]
 generalize nj:h3.objs.size=C at *;have j5:H D=U:=by rw[<-hD];exact I.hok.fresh (t9 _)
 have hKD:X.K.lookup D=U:=by
  cases q:X.K.lookup D with
  |none=>rfl
  |some o=>
   have e:=I.kIn D o q
   exact absurd (uf e) (by rw[hD];exact va _)
 have k3:∀b o,s.heap.get? b=O o->h3.get? b=O o:=λb o e=>by rw[<-hs3];exact tm _ e
 have k4:∀b o,h3.get? b=O o->h₁.get? b=O o:=λb o e=>hsb₁.extBut b o (by rw[<-nj];exact v3 (uf e)) (tm _ e)
 have jx:RE X.K T (upd H D (.lst [])) (λa=>S a\/a=D) B M:=re.gen (aU.add j5 hKD) (λa xs hs e _=>⟨.inl hs,by rw[aM (aQ e j5)];exact e⟩) λa hs=>by
  rcases hs with z|z
  .obtain⟨o,e⟩:=re.dom a z;exact⟨o,by rw[aM (aQ e j5)];exact e⟩
  .subst z;exact⟨_,aS⟩
 have p9:∀b∈fp,lD X pins (upd H D (.lst [])) b:=λb hb=>⟨by rw[aM (v3 (ic b hb))];exact(hf b hb).1,(hf b hb).2⟩
 have hfl3:∀b∈fp,b<h3.objs.size:=λb hb=>by rw[nj,hC];exact Nat.lt_succ_of_lt (ic b hb)
 have loop:∀(E':wj) (s4:Shared),s4={s with heap:=h₁,toks:=s.toks+([]:List (Str×Value)).length} ->
   codeAny (model X.prog X.w) X.A (.compLoop (.ListComp elt [⟨tg,iter,ifs,0⟩] sc pos) 0 (.ref it) (.ref D) (compEnvC sc cl C X.env)) (RR (.ref D) C) s4:=by
  rintro E' s4 rfl
  let EN:=notedBy (model X.prog X.w) X.A (compEnvC sc cl C X.env) λe s'=>RR (.ref D) C (.error e) s'
  let þ:=yS X (ownNames sc) sc cl C {s with heap:=h3,toks:=s.toks} (upd H D (.lst [])) fp EN
  have xY:XC CX þ {c with N:=ownNames sc,sc:=sc} G T lv:=QY h cs
  have J0:Inv þ [] (eR (ownNames sc).length fr M) (upd H D (.lst [])) {s with heap:=h₁,toks:=s.toks+([]:List (Str×Value)).length}:=
   MM h I3 cs cu bq b8 p9 hfl3 (by show h3.objs.size<=C;rw[nj];exact t9 _) hns₁ k4 rfl I3.bare
  have fm:∀{H':Hp},(∀b∈fp,H' b=U)->∀b∈fp,lD þ [] H' b:=λhn b hb=>
   ⟨hn b hb,((lW (E:=EN) (N':=ownNames sc) I3 cs.kind (show h3.objs.size<=C by rw[nj];exact t9 _) bq b8 cs.nocell p9 hfl3).exf b hb).1,
    (lW (E:=EN) (N':=ownNames sc) I3 cs.kind (show h3.objs.size<=C by rw[nj];exact t9 _) bq b8 cs.nocell p9 hfl3).exfs b hb,.inl hb,
    ((lW (E:=EN) (N':=ownNames sc) I3 cs.kind (show h3.objs.size<=C by rw[nj];exact t9 _) bq b8 cs.nocell p9 hfl3).exf b hb).2,λp hp=>absurd (show p∈([]:wk) from hp) y9⟩
  have mw:∀(M':L2.St) (H':Hp),aJ H H'->(∃ys,H' D=O (.lst ys))->M'.length=(ownNames sc).length->(∀j,j∉bj->M'[j]?=(eR (ownNames sc).length fr M)[j]?) ->
    RE X.K T H' (λa=>S a\/a=D) (frame (ownNames sc).length fr B) M':=λM' H' sm hys hl ag=>by
   have r0:=ND (n:=(ownNames sc).length) (fr:=fr) re
   have mv:aU X.K H H' S (λa=>S a\/a=D):=λa n hh=>by
    have ne:a≠D:=by
     rintro rfl
     rcases hh with ⟨u,e⟩|⟨u,e⟩
     .rw[j5]at e;cases e
     .rw[hKD]at e;cases e
    exact⟨λz=>z.elim n ne,λo e=>sm a o e⟩
   refine⟨λa hs=>?_,by simp[frame,hl],λj sl e=>?_⟩
   .rcases hs with z|z
    .obtain⟨o,e⟩:=re.dom a z;exact⟨o,sm a o e⟩
    .subst z;obtain⟨ys,e⟩:=hys;exact⟨_,e⟩
   .have h0:=r0.at_ j sl e
    by_cases hj:j∈bj
    .have hu:sl=.un:=by
      unfold frame at e;rw[sv]at e;cases hr:(List.range (ownNames sc).length)[j]? with
      |none=>rw[hr]at e;cases e
      |some k=>
       have ek:k=j:=by
        obtain⟨_,e'⟩:=sj.mp hr;simpa using e'.symm
       subst ek;rw[hr]at e;simp only[vf,so]at e;have:=all_eq_true.mp pq k hj
       cases q:fr.lookup k with
       |none=>
        rw[q]at e;simpa using e.symm
       |some z=>rw[q]at this;simp at this
     subst hu;trivial
    .rw[ag j hj];cases sl with
     |un=>trivial
     |im d=>obtain⟨v,e1,r⟩:=h0;exact⟨v,e1,Rep.gen mv d v r⟩
     |mu ds'=>obtain⟨p,xs,e1,sp,hp,r⟩:=h0;exact⟨p,xs,e1,.inl sp,sm _ _ hp,r.gen mv⟩
  refine vQ (λk s'=>∃(i:Nat) (M':L2.St) (H':Hp) (ys:List V) (pre post:List Z.D),k=ds.length+1-i/\i<=ds.length/\Inv þ [] M' H' s'/\tn i s'.heap/\(∀b∈fp,H' b=U) /\
   aJ H H'/\H' D=O (.lst ys)/\aD X.K T H' (λa=>S a\/a=D) pre ys/\ys.length<=i/\outs=pre++post/\cG f (ds.drop i)=O post /\
   M'.length=(ownNames sc).length/\(∀j,j∉bj->M'[j]?=(eR (ownNames sc).length fr M)[j]?)) ?_ (ds.length+1)
   ⟨0,_,_,[],[],outs,rfl,vz _,J0,TU.keep _ _ _ st λb _ o e=>k4 b o (k3 b o e),λb hb=>(p9 b hb).1,aJ.upd j5,aS,aD.nil,t9 _,rfl,by simpa using iw,by simp[eR],λ_ _=>rfl⟩
  rintro k s' ⟨i,M',H',ys,pre,post,rfl,hi,IY,sti,fri,same,hHD,rp,oN,ho,jt,hlσ,hag⟩;have rei:=mw M' H' same ⟨ys,hHD⟩ hlσ hag
  have mv:aU X.K H H' S (λa=>S a\/a=D):=λa n hh=>by
   have ne:a≠D:=by
    rintro rfl
    rcases hh with ⟨u,e⟩|⟨u,e⟩
    .rw[j5]at e;cases e
    .rw[hKD]at e;cases e
   exact⟨λz=>z.elim n ne,λo e=>same a o e⟩
  obtain⟨o8,o7⟩:=jo H' _ mv rei.dom
  by_cases c6:i<ds.length
  .obtain⟨d,hd⟩:∃d,ds[i]?=O d:=⟨ds[i],by simp[c6]⟩
   have hdr:ds.drop i=d::ds.drop (i+1):=by
    obtain⟨h1,h2⟩:=sj.mp hd;rw[<-h2];exact List.drop_eq_getElem_cons h1
   rw[hdr]at jt;obtain⟨o,t,hfd,ht,hpost⟩:=yT jt;obtain⟨ρ1,hb,hok⟩:=ej d o hfd;obtain⟨go,yl⟩:=o8 i d hd;refine ah (TU.item þ rfl rfl rfl h.calm i [] s' M' H' EN IY (fm fri) sti go) λr s5 ⟨u,hr,h5⟩=>?_
   subst hr;refine ah h5 λ_ s6 ⟨x,H6,I6,r6,y6,st6,fr6⟩=>?_
   obtain⟨oq,rd6⟩:=yl x H6 y6;have I6':=I6.pinned (fm fr6) (TU.obj _ _ st6)
   have hD6:H6 D=O (.lst ys):=oq _ _ hHD
   refine ah (VY xY (S:=λa=>S a\/a=D) dO hb _ s6 M' H6 x u (λσ2 H2=>H2=H6/\RE X.K T H6 (λa=>S a\/a=D) ρ1 σ2/\∀j,j∉bj->σ2[j]?=M'[j]?) I6' r6
    ⟨rei.same oq,rd6,λσ7 ox ag7=>⟨rfl,ox,ag7⟩⟩) λ_ s7 ⟨σ7,H7,I7,e7,ox,ag7⟩=>?_
   subst e7;have next:∀(s9:Shared) (H9:Hp) (iN:List V) (pre':List Z.D),Inv þ ([]++mE fp s6.heap) σ7 H9 s9->aJ H H9->H9 D=O (.lst iN)->aD X.K T H9 (λa=>S a\/a=D) pre' iN->iN.length<=i+1->outs=pre'++t ->
     ∃m,m<ds.length+1-i/\∃(i:Nat) (M':L2.St) (H':Hp) (ys:List V) (pre post:List Z.D),m=ds.length+1-i/\i<=ds.length/\Inv þ [] M' H' s9/\tn i s9.heap/\(∀b∈fp,H' b=U) /\
      aJ H H'/\H' D=O (.lst ys)/\aD X.K T H' (λa=>S a\/a=D) pre ys/\ys.length<=i/\outs=pre++post/\cG f (ds.drop i)=O post /\
      M'.length=(ownNames sc).length/\(∀j,j∉bj->M'[j]?=(eR (ownNames sc).length fr M)[j]?):=λs9 H9 iN pre' I9 kh hD9 rp9 hl9 ho9=>by
    refine⟨ds.length+1-(i+1),yx,i+1,σ7,H9,iN,pre',t,rfl,c6,I9.unpinned,?_,λb hb=>?_,kh,hD9,rp9,hl9,ho9,ht,?_,λj hj=>(ag7 j hj).trans (hag j hj)⟩
    .exact TU.keep _ _ _ st6 λb hb o e=>(I9.pin (b,o) (v8 _ (v8 _ (iG hb e)))).1
    .obtain⟨o,e,_⟩:=TU.obj _ _ st6 b hb;exact(I9.pin (b,o) (v8 _ (v8 _ (iG hb e)))).2.1
    .have l1:=ox.len
     have l2:=I9.len
     exact l2
   obtain⟨cz,helt⟩:=hok þ (λa=>S a\/a=D) xY rfl
   have fin:∀(s8:Shared) (H8:Hp),Inv þ ([]++mE fp s6.heap) σ7 H8 s8->aJ H7 H8 ->
     (if o.isSome=Y then wpAny (model X.prog X.w) X.A (eval elt (compEnvC sc cl C X.env)) (λx s₄=>wpAny (model X.prog X.w) X.A (call (.builtin "list.append") [.ref D,x]) (λ_ s₅=>∃m,m<ds.length+1-i/\∃(i:Nat) (M':L2.St) (H':Hp) (ys:List V) (pre post:List Z.D),m=ds.length+1-i/\i<=ds.length/\Inv þ [] M' H' s₅/\tn i s₅.heap/\(∀b∈fp,H' b=U) /\
      aJ H H'/\H' D=O (.lst ys)/\aD X.K T H' (λa=>S a\/a=D) pre ys/\ys.length<=i/\outs=pre++post/\cG f (ds.drop i)=O post /\
      M'.length=(ownNames sc).length/\(∀j,j∉bj->M'[j]?=(eR (ownNames sc).length fr M)[j]?)) EN s₄) EN s8
     else ∃m,m<ds.length+1-i/\∃(i:Nat) (M':L2.St) (H':Hp) (ys:List V) (pre post:List Z.D),m=ds.length+1-i/\i<=ds.length/\Inv þ [] M' H' s8/\tn i s8.heap/\(∀b∈fp,H' b=U) /\
      aJ H H'/\H' D=O (.lst ys)/\aD X.K T H' (λa=>S a\/a=D) pre ys/\ys.length<=i/\outs=pre++post/\cG f (ds.drop i)=O post /\
      M'.length=(ownNames sc).length/\(∀j,j∉bj->M'[j]?=(eR (ownNames sc).length fr M)[j]?)):=λs8 H8 I8 jb=>by
    have smH8:aJ H H8:=same.trans (oq.trans jb)
    cases o with
    |none=>
     rw[if_neg y9]
     refine next s8 H8 ys pre I8 smH8 (jb _ _ hD6) ((rp.same oq).same jb) (le_succ_of_le oN) ?_
     rw[ho,hpost]
    |some y=>
     rw[if_pos (show (O y).isSome=Y from rfl)]
     refine ah (helt y rfl _ s8 σ7 H8 (λv H9=>aJ H8 H9/\Rep X.K T H9 (λa=>S a\/a=D) y v) I8 ⟨ox.same jb,λv H9 kh rv=>⟨kh,rv⟩⟩) λu9 s9 ⟨v,H9,I9,r9,kh,rv⟩=>?_
     have hD9:H9 D=O (.lst ys):=kh _ _ (jb _ _ hD6)
     refine ah (mK (X:=þ) _ s9 σ7 H9 (.ref D) [v] (.ref D) [u9] (λ_ H10=>H10=upd H9 D (.lst (ys++[v]))) I9 rfl (.cons r9 .nil) ⟨D,ys,v,rfl,rfl,hD9,yx,rfl⟩) λ_ jd ⟨_,H10,I10,_,e10⟩=>?_
     subst e10;have fu:aJ H (upd H9 D (.lst (ys++[v]))):=λb ob e=>by
      rw[aM (aQ e j5)];exact kh _ _ (smH8 _ _ e)
     have mvD:aU X.K H9 (upd H9 D (.lst (ys++[v]))) (λa=>S a\/a=D) (λa=>S a\/a=D):=λa n _=>⟨n,λob e=>by rw[aM (λz=>n (.inr z))];exact e⟩
     refine next jd _ (ys++[v]) (pre++[y]) I10 fu aS ?_ (by rw[um];simp;lia) ?_
     .exact aD.gen mvD _ _ (aD.app (((rp.same oq).same jb).same kh) (aD.cons rv aD.nil))
     .rw[ho,hpost,u6];rfl
   rcases cz with ⟨hifs,hsome⟩|⟨e,hifs,hpt⟩
   .subst hifs;refine wpAny_tests_nil ?_;have z:=fin s7 H7 I7 (aJ.refl _)
    rw[hsome]at z;exact z
   .subst hifs;refine wpAny_tests_one (ah (hpt _ s7 σ7 H7 (λb H8=>b=o.isSome/\aJ H7 H8) I7 ⟨ox,λH8 jb=>⟨rfl,jb⟩⟩) λb s8 ⟨H8,I8,eb,jb⟩=>?_)
    subst eb;exact fin s8 H8 I8 jb
  .have ei:i=ds.length:=by lia
   subst ei;refine ah (TU.done þ rfl rfl rfl h.calm ds.length [] s' M' H' EN IY (fm fri) sti (o7 _ (t9 _))) λr s5 ⟨hr,I5⟩=>?_
   subst hr;have hp0:post=[]:=by
    rw[w6]at jt;simp only[cG,so]at jt;exact jt.symm
   subst hp0;rw[uq]at ho;subst ho;obtain⟨m,hnC,_⟩:=I5.loc;have I9:Inv X pins M H' s5:=I3.call' I5.os I5.base I5.hok I5.bare λb hb=>⟨(hf b hb).2.2.2.1,(hf b hb).2.1,(hf b hb).2.2.2.2.1,(hf b hb).2.2.2.2.2⟩
   have hCs:s.heap.objs.size<=C:=by rw[hD,hC];exact vh _
   refine hRR D C s5 H' ys m I9 same j5 hHD (aD.disown (p:=D) (.inr rfl) (λa z=>.inl z) rp) hnC ⟨I5.free,?_,ug I.sz hCs,λx a e=>?_,λp hp=>?_⟩
   .intro z;have:=I.lt
    rw[<-z]at this;exact absurd this (not_lt.mpr hCs)
   .intro z;obtain⟨v,ob,h5,_⟩:=I.cell x a e;rw[z]at h5;exact absurd (uf h5) (not_lt.mpr hCs)
   .intro z;have:=(I.pin p hp).1
    rw[z]at this;exact absurd (uf this) (not_lt.mpr hCs)
 exact codeAny_compStart_list (loop E _ rfl) (TU.self X.A 0 _ _ _ (TU.keep _ _ _ st λb _ o e=>k4 b o (k3 b o e)) (loop E _ rfl))
end
section
variable {CX:ar}{X:Cx}{c:CC}{G:GS}{T:Tx}{lv:Nat}{B:List Sl}{S:Addr->Prop}{tg:Expr}
def MF{ds:List D}(n:¬S a)(hq:SqL X.K H1 a xs)(r:aD X.K T H1 S ds xs):jl X.K T S H1 (Itl X.K a) ds:=λH S' I dom=>by obtain⟨n',k⟩:=I a n (SqL.has hq);have z:=SqL.keeps hq k;refine⟨λi d e=>?_,λi hi=>⟨xs,z,by rw[<-r.len];exact hi⟩⟩;obtain⟨x,e1,rx⟩:=r.get e;refine⟨⟨xs,x,z,e1⟩,λy H' ⟨eH,ey⟩=>?_⟩;subst eH;have:=ey xs z;rw[e1]at this;cases this;exact⟨aJ.refl _,Rep.gen I d x rx⟩
def YC{ds:List D}(n:¬S a)(hq:SqT X.K H1 a xs)(r:aD X.K T H1 S ds xs):jl X.K T S H1 (Itt X.K a) ds:=λH S' I dom=>by obtain⟨n',k⟩:=I a n (SqT.has hq);have z:=SqT.keeps hq k;refine⟨λi d e=>?_,λi hi=>⟨xs,z,by rw[<-r.len];exact hi⟩⟩;obtain⟨x,e1,rx⟩:=r.get e;refine⟨⟨xs,x,z,e1⟩,λy H' ⟨eH,ey⟩=>?_⟩;subst eH;have:=ey xs z;rw[e1]at this;cases this;exact⟨aJ.refl _,Rep.gen I d x rx⟩
def DT{lo hi:Int}:jl X.K T S H1 (oi lo (hi-lo).toNat) (cQ lo hi):=λH S' mv dom=>by
 refine⟨λi d e=>?_,λi h=>by show (hi-lo).toNat<=i;unfold cQ at h;rw[t8,uc]at h;exact h⟩;unfold cQ at e;rw[sv]at e;cases hr:(List.range (hi-lo).toNat)[i]? with
 |none=>rw[hr]at e;cases e
 |some k=>
  obtain⟨h1,e'⟩:=sj.mp hr;have ek:k=i:=by simpa using e'.symm
  subst ek;rw[hr]at e;simp only[vf,so]at e;subst e;refine⟨by show k<(hi-lo).toNat;simpa using h1,λy H' ⟨I,z⟩=>?_⟩;subst I z;exact⟨aJ.refl _,by unfold Rep;rfl⟩
noncomputable def Its(z:Str):It:=⟨λi _=>i<z.cps.size,λi H v H'=>H'=H/\∃c,z.cps[i]?=O c/\v=.str ⟨#[c]⟩,λi _=>z.cps.size<=i⟩
def aDg{σ:Model}{y:Str}{t:Tok}{Q:Unit->Shared->Prop}(z:Q () s):wpAny σ A (letOwnedTupleGo tg (.ref it) (.str y t)) Q E s:=by unfold letOwnedTupleGo;cases tg<;>exact vc z
def wB{ty:String}{z:Str}{t:Tok}(W:∀A':Around,A'.handled=U->Walks P w A' it [it] [it] z.cps.size (SignAt z) (λi h=>h.IsStrIter it ty z t i))(hs:∀(A:Around) (i:Nat) (s:Shared) (Q:wj) (E:wj),s.heap.IsStrIter it ty z t i->Q (.ref it) s->wpAny (model P w) A (pyIter (.ref it)) Q E s) (hd:∀(A:Around),A.handled=U->∀(i:Nat) (s:Shared) (Q:Option Value->Shared->Prop) (E:wj),s.heap.IsStrIter it ty z t i->z.cps[i]?=U->(∀h',Heap.ExtBut it s.heap h'->Q U {s with heap:=h' })->wpAny (model P w) A (pyNext (.ref it)) Q E s):Turn P w K tg (Its z) [it] it (λi h=>h.IsStrIter it ty z t i) where
 mem:=by simp
 obj:=λi h st b hb=>by
  have e:b=it:=by simpa using hb
  subst e;obtain⟨o,e,c,d⟩:=st;exact⟨o,e,λv z=>by rw[d]at z;cases z⟩
 keep:=λi h h' st k=>let ⟨o,e,r⟩:=st;⟨o,k it y9 o e,r⟩
 item:=by intro X hP hw hK hc i pins s M H E I hf st hg;subst hP hw hK;obtain⟨f0,f1,f2,f3,f4,f5⟩:=hf it y9;refine(W X.A (I.ok.hd hc)).item i s _ _ hg st λv h' tk hv ae kk=>?_;obtain⟨c,u,gu,rfl⟩:=hv;have I1:Inv X pins M H {s with heap:=h',toks:=tk}:=I.turned (λb o hb e=>kk b o (by simpa using hb) e) f0 f1 f3 f4 f5;exact⟨_,rfl,aDg ⟨.str ⟨#[c]⟩,H,I1,⟨u,rfl⟩,⟨rfl,c,gu,rfl⟩,ae,λb hb=>(hf b hb).1⟩⟩
 done:=by intro X hP hw hK hc i pins s M H E I hf st hg;subst hP hw hK;obtain⟨f0,f1,f2,f3,f4,f5⟩:=hf it y9;exact hd X.A (I.ok.hd hc) i s _ _ st (Array.getElem?_eq_none hg) λh' eb=>⟨rfl,I.turned (t':=s.toks) (λb o hb e=>eb b o hb e) f0 f1 f3 f4 f5⟩
 self:=λA i s Q E st h=>hs A i s Q E st h
def DS{z:Str}:jl X.K T S H1 (Its z) (nB z):=λH S' mv dom=>by refine⟨λi d e=>?_,λi h=>?_⟩;unfold nB at e;rw[sv]at e;obtain⟨c,hc,rfl⟩:=u5.mp e;rw[Array.getElem?_toList]at hc;refine⟨(Array.getElem?_eq_some_iff.mp hc).1,λy H' ⟨eH,c',gu,I⟩=>?_⟩;subst eH I;rw[hc]at gu;cases gu;exact⟨aJ.refl _,by unfold Rep;rfl⟩;unfold nB at h;rw[t8,length_toList]at h;exact h
def VU{l:Expr}{d:D}{ds:List D}(hl:PE X l (tD X.K T S B d))(hi:items .seq d=O ds):PI X tg l (tI X.K T S B ds):=by
 intro pins s M H α I ⟨re,q⟩;refine ah (hl pins s M H (λv H'=>aJ H H'/\Rep X.K T H' S d v) I ⟨re,λv H' a b=>⟨a,b⟩⟩) λv s1 ⟨x,H1,I1,r1,sm,rep⟩=>?_;have golist:∀(a:Addr) (xs:List V),x=.ref a->¬S a->SqL X.K H1 a xs->aD X.K T H1 S ds xs->wpAny (model X.prog X.w) X.A (pyIter v) (PIE X pins M tg α) X.xe s1:=λa xs e n hq r=>by
  subst e;cases r1;obtain⟨its,rv,p,hz⟩:=I1.list hq;refine wpAny_pyIter_list p.isList ?_;refine⟨s1.heap.objs.size,[s1.heap.objs.size],_,_,H1,rfl,I1.kept (t':=s1.toks) λb o e=>tm _ e,FX a _,⟨_,ve _ rfl,rfl,rfl⟩,λb hb=>?_,q _ _ sm (MF n hq r) (by rw[r.len];exact hz)⟩;have e:b=s1.heap.objs.size:=by simpa using hb
  subst e;exact I1.fpOk (t9 _) (I1.hok.fresh (t9 _))
 cases d<;>simp only[items,aAe,reduceCtorEq,so]at hi
 rename_i z _;split at hi;rename_i hz;cases hi;unfold Rep at rep;subst rep;obtain⟨t,rfl⟩:=r1;have hl:(nB z).length<=sizeLine:=by unfold nB;rw[t8,length_toList];exact ug hz eU
 have fp:∀b∈[s1.heap.objs.size],lD X pins H1 b:=λb hb=>by
  have e:b=s1.heap.objs.size:=by simpa using hb
  subst e;exact I1.fpOk (t9 _) (I1.hok.fresh (t9 _))
 cases ha:z.cps.all (· < 128);exact wpAny_pyIter_wide ha ⟨s1.heap.objs.size,[s1.heap.objs.size],_,_,H1,rfl,I1.kept (t':=s1.toks) λb o e=>tm _ e,wB (λA' hA=>Walks.strWide hA _ z t) (λA i s Q E st h=>wpAny_pyIter_striter_wide st h) (λA hh i s Q E st hx h=>wpAny_pyNext_wide_end hh st hx h),⟨_,ve _ rfl,rfl,rfl⟩,fp,q _ _ sm DS hl⟩;exact wpAny_pyIter_ascii ha ⟨s1.heap.objs.size,[s1.heap.objs.size],_,_,H1,rfl,I1.kept (t':=s1.toks) λb o e=>tm _ e,wB (λA' hA=>Walks.strAscii hA _ z t) (λA i s Q E st h=>wpAny_pyIter_striter_ascii st h) (λA hh i s Q E st hx h=>wpAny_pyNext_ascii_end hh st hx h),⟨_,ve _ rfl,rfl,rfl⟩,fp,q _ _ sm DS hl⟩;cases hi;subst hi;unfold Rep at rep;obtain⟨a,xs,e,n,hq,r⟩:=rep;exact golist a xs e n (SqL.of hq) r;subst hi;unfold Rep at rep;obtain⟨a,xs,e,n,hq,r⟩:=rep;subst e;cases r1;obtain⟨its,rv,p,hz⟩:=I1.tuple hq;refine wpAny_pyIter_tuple (show s1.heap.IsTuple a its.toArray from p) ?_;refine⟨s1.heap.objs.size,[s1.heap.objs.size],_,_,H1,rfl,I1.kept (t':=s1.toks) λb o e=>tm _ e,zH a _,⟨_,ve _ rfl,rfl,rfl⟩,λb hb=>?_,q _ _ sm (YC n hq r) (by rw[r.len];exact hz)⟩;have e:b=s1.heap.objs.size:=by simpa using hb
 subst e;exact I1.fpOk (t9 _) (I1.hok.fresh (t9 _));subst hi;unfold Rep at rep;obtain⟨a,xs,e,n,hq,r⟩:=rep;exact golist a xs e n hq r
def rZ{lo hi:Int}(h:(hi-lo).toNat<=big):(cQ lo hi).length<=sizeLine:=by unfold cQ;rw[t8,uc];exact ug h eU
def gH{i:Int}(h:eD i=Y):-(2 ^ 62)<=i/\i<2 ^ 62:=by unfold eD at h;rw[u3]at h;exact⟨of_decide_eq_true h.1,of_decide_eq_true h.2⟩
def VV{args:List Expr}{as ds:List D}(hg:Gl X "range")(hm:X.mg "range"=U)(ha:PA X args (c9 X.K T S B as))(hs:starEach args X.env=args.map λe=>(J,eval e X.env))(hi:items .rng (.tup as)=O ds)(hlen:as.length=args.length):PI X tg (.Call (.Name "range" p) args [] pos) (tI X.K T S B ds):=by
 simp only[items]at hi;unfold DU at hi;split at hi;rename_i j;split at hi;rename_i hc;rw[u3]at hc;cases hi;obtain⟨b1,b2⟩:=gH hc.1;match args,hlen with
 |[a],_=>intro pins s M H α I ⟨re,q⟩;refine GO hg hm ha hs pins s M H α I ⟨re,λvs H' sm r=>?_⟩;unfold aD at r;obtain⟨x,r',rfl,rx,z⟩:=r;unfold aD at z;subst z;unfold Rep at rx;subst rx;refine⟨j,rfl,b1,b2,?_⟩;have hz:=rZ (lo:=0) (hi:=j) (by simpa using of_decide_eq_true hc.2);have:=q (oi 0 (j-0).toNat) H' sm DT hz;simpa using this
 cases hi;rename_i i j;split at hi;rename_i hc;rw[u3,u3]at hc;cases hi;obtain⟨b1,b2⟩:=gH hc.1.1;obtain⟨b3,b4⟩:=gH hc.1.2;match args,hlen with
 |[a,b],_=>
  intro pins s M H α I ⟨re,q⟩;refine GN hg hm ha hs (by
   have h2:=congrArg List.tail hs;have e:starEach [a,b] X.env=(J,eval a X.env)::starEach [b] X.env:=by cases a<;>first|rfl|(simp[starEach]at hs)
   rw[e]at h2;exact h2) pins s M H α I ⟨re,λvs H' sm r=>?_⟩
  unfold aD at r;obtain⟨x,r',rfl,rx,z⟩:=r;unfold aD at z;obtain⟨y,r'',rfl,ry,z⟩:=z;unfold aD at z;subst z;unfold Rep at rx ry;subst rx ry;exact⟨i,j,rfl,⟨b1,b2,b3,b4⟩,q _ H' sm DT (rZ (of_decide_eq_true hc.2))⟩
 cases hi;cases hi
def pV(h:XC CX X c G T lv)(I:Inv X pins M H s)(cs:bb c sc):∀x∈sc.names,x.2=.free->∃a,X.env.cells.lookup x.1=O a:=λx hx hf=>by refine I.ok.has x.1 ?_;have k:=h.kd x.1;rcases cs.fre x hx hf with e|e;rw[e]at k;exact .inl k;rw[e]at k;rcases k with k|k;exact .inr k;exact .inl k
def VZ(h:XC CX X c G T lv)(chk:lB c sc=Y){fr:List (Nat×Nat)}{ds outs:List D}{f:D->Option (Option D)} (cu:freeOf c sc (sc.names.filter λx=>x.2 == .free)=O fr) (pq:bj.all (λi=>(fr.lookup i).isNone)=Y) (dO:cX {c with N:=ownNames sc,sc:=sc} tg=O (bj,tp)) (hi:PI X tg iter (tI X.K T S B ds)) (hs:∀x,foldedSetIterable iter X.env x=pure x) (iw:cG f ds=O outs) (ej:∀d o,f d=O o->∃ρ1,bB bj tp d (frame (ownNames sc).length fr B)=O ρ1/\TurnOk CX G T lv {c with N:=ownNames sc,sc:=sc} X.K ifs elt ρ1 o):PE X (.ListComp elt [⟨tg,iter,ifs,0⟩] sc pos) (ja X.K T S B outs):=by intro pins s M H Q I ⟨re,q⟩;have cs:=tG chk;obtain⟨cl,hclos,bq,b8⟩:=qN (pV h I cs);rw[eval_ListComp];refine wpAny_comprehension_free (use:=U) rfl hs hclos cs.kind cs.loc (ah (hi pins s M H (λæ H2=>aJ H H2/\jl X.K T S H2 æ ds/\ds.length<=sizeLine) I ⟨re,λæ H2 a b z=>⟨a,b,z⟩⟩) λv s1 h1=>ah h1 λitv s2 h2=>?_);obtain⟨it,fp,tn,æ,H2,e,I2,TU,ig,f2,sm,jo,hlen⟩:=h2;subst e;refine qL (RR:=λacc C=>compPost (model X.prog X.w) X.A X.xe U (EP X pins M Q) acc C) h cs cu pq dO bq b8 I2 (re.same sm) TU ig f2 jo hlen iw ej ?_;intro D C s' H' ys m I' sm' hD hD' rp hn ⟨c1,c2,c3,c4,c5⟩;refine⟨m,hn,λh' dj=>⟨.ref D,H',I'.turned (t':=s'.toks) (λb o hb e=>dj.extBut b o hb e) c1 c2.symm.symm (.inr c3) c4 c5,rfl,?_⟩⟩;exact q D ys H' (sm.trans sm') (sm.free hD) hD' rp
def VP(h:XC CX X c G T lv)(chk:lB c sc=Y){spos px:Pos}{fr:List (Nat×Nat)}{ds outs:List D}{f:D->Option (Option D)} (cu:freeOf c sc (sc.names.filter λx=>x.2 == .free)=O fr) (pq:bj.all (λi=>(fr.lookup i).isNone)=Y) (dO:cX {c with N:=ownNames sc,sc:=sc} tg=O (bj,tp)) (hi:PI X tg iter (tI X.K T S B ds)) (hs:∀x,foldedSetIterable iter X.env x=pure x) (hx:fA c (.Name x px)=O i) (hsw:swapsWith (.ListComp elt [⟨tg,iter,ifs,0⟩] sc pos) (O (.Name x px)) spos.line X.env=pure Y) (iw:cG f ds=O outs) (ej:∀d o,f d=O o->∃ρ1,bB bj tp d (frame (ownNames sc).length fr B)=O ρ1/\TurnOk CX G T lv {c with N:=ownNames sc,sc:=sc} X.K ifs elt ρ1 o):PS X (.Assign [.Name x px] (.ListComp elt [⟨tg,iter,ifs,0⟩] sc pos) spos) (λD M H=>RE X.K T H S B M/\∀p xs H',aJ H H'->H p=U->H' p=O (.lst xs)->aD X.K T (er H' p) S outs xs->D.nx (M.set i (O (.ref p))) H'):=by
 intro pins s M H DD I ⟨re,q⟩;have cs:=tG chk;obtain⟨cl,hclos,bq,b8⟩:=qN (pV h I cs);rw[exec_Assign_Name_used _ _ _ _ hsw];refine vb (wpAny_standAt (vb ?_));show wpAny _ X.A (do let _ <-comprehension (.ListComp elt [⟨tg,iter,ifs,0⟩] sc pos) sc X.env _ (newList []) J (eval iter X.env) (O (assign (.Name x px) X.env))) _ _ s;refine vb (vd (wpAny_comprehension_free (use:=O (assign (.Name x px) X.env)) (Q:=λ_ s'=>SP X pins DD .next s') rfl hs hclos cs.kind cs.loc (ah (hi pins s M H (λæ H2=>aJ H H2/\jl X.K T S H2 æ ds/\ds.length<=sizeLine) I ⟨re,λæ H2 a b z=>⟨a,b,z⟩⟩) λv s1 h1=>ah h1 λitv s2 h2=>?_)) (λ_ s' hq=>vc (vc hq)) λ_ _ e=>e);obtain⟨it,fp,tn,æ,H2,e,I2,TU,ig,f2,sm,jo,hlen⟩:=h2;subst e;refine qL (RR:=λacc C=>compPost (model X.prog X.w) X.A X.xe (O (assign (.Name x px) X.env)) (λ_ s'=>SP X pins DD .next s') acc C) h cs cu pq dO bq b8 I2 (re.same sm) TU ig f2 jo hlen iw ej ?_;intro D C s' H' ys m I' sm' hD hD' rp hn ⟨c1,c2,c3,c4,c5⟩;obtain⟨hN,hk⟩:=gY hx;obtain⟨hl,hf⟩:=h.loc hk;show wpAny _ X.A (assign (.Name x px) X.env (.ref D)) _ _ _;refine wpAny_assign_Name (rQ I' (by rw[h.N];exact h.nd) (by rw[h.N];exact hN) hl (v:=.ref D) (u:=.ref D) rfl (λow I'' ⟨a,sb,ha⟩=>?_) hf);have hCa:C≠a:=by rcases ha with z|z;rw[z];exact c2;exactλw=>c4 x a z w.symm
 refine⟨m,hn.sameBut sb hCa,λh' dj=>⟨_,H',I''.turned (t':=ow.toks) (λb o hb e=>dj.extBut b o hb e) c1 c2 (.inr c3) c4 c5,q D ys H' (sm.trans sm') (sm.free hD) hD' rp⟩⟩
end
noncomputable def Itv(K:wc)(a:Addr)(n:Nat):It:=⟨λi H=>∃xs x,SqL K H a xs/\xs.length=n/\xs[n-1-i]?=O x/\i<n,λi H x H'=>H'=H/\∀xs,SqL K H a xs->xs[n-1-i]?=O x,λi H=>n<=i⟩
def JC(a it:Addr)(n:Nat):Turn P w K tg (Itv K a n) [it] it (λi h=>i<=n/\h.IsRevIter it a ((n:Int)-1-(i:Int))) where
 mem:=by simp
 obj:=λi h st b hb=>by
  have e:b=it:=by simpa using hb
  subst e;obtain⟨_,o,e,c,d⟩:=st;exact⟨o,e,λv z=>by rw[d]at z;cases z⟩
 keep:=λi h h' st k=>⟨st.1,st.2.at λo e=>k it y9 o e⟩
 item:=by
  intro X hP hw hK hc i pins s M H E I hf st hg;subst hP hw hK;obtain⟨xs,x,hq,hn,hx,hi⟩:=hg;obtain⟨its,rv,p,hz⟩:=I.list hq;obtain⟨u,hu,ru⟩:=rv.get hx;obtain⟨f0,f1,f2,f3,f4,f5⟩:=hf it y9
  have e1:(n:Int)-1-(i:Int)=((n-1-i:Nat):Int):=by lia
  have ij:=st.2
  rw[e1]at ij;refine wpAny_pyNext_rev_item ij p.isList (x:=u) (by simpa using hu) λh' ae sb=>?_
  have I1:Inv X pins M H {s with heap:=h' }:=I.turned (t':=s.toks) (λb o hb e=>(sb.2 b hb).trans e) f0 f1 f3 f4 f5
  obtain⟨o,e,c,d⟩:=id ae;have e2:((n-1-i:Nat):Int)-1=(n:Int)-1-((i+1:Nat):Int):=by lia
  rw[e2]at ae;exact⟨u,rfl,EF (s:={s with heap:=h' }) e c d y8 ⟨x,H,I1,ru,⟨rfl,λys hy=>by rw[I.list_inj hy hq];exact hx⟩,⟨hi,ae⟩,λb hb=>(hf b hb).1⟩⟩
 done:=by
  intro X hP hw hK hc i pins s M H E I hf st hg;subst hP hw hK;have ju:n<=i:=hg
  have ei:i=n:=Nat.le_antisymm st.1 ju
  subst ei;obtain⟨f0,f1,f2,f3,f4,f5⟩:=hf it y9
  have e1:(i:Int)-1-(i:Int)=-1:=by lia
  have ij:=st.2
  rw[e1]at ij;exact wpAny_pyNext_rev_end (I.ok.hd hc) ij λh' eb=>⟨rfl,I.turned (t':=s.toks) (λb o hb e=>eb b o hb e) f0 f1 f3 f4 f5⟩
 self:=λ_ _ _ _ _ st h=>wpAny_pyIter_revIter st.2 h
section
variable {CX:ar}{X:Cx}{c:CC}{G:GS}{T:Tx}{lv:Nat}{B:List Sl}{S:Addr->Prop}{tg:Expr}
def YD{ds:List D}(n:¬S a)(hq:SqL X.K H1 a xs)(r:aD X.K T H1 S ds xs):jl X.K T S H1 (Itv X.K a xs.length) ds.reverse:=λH S' z dom=>by
 obtain⟨n',k⟩:=z a n (SqL.has hq);have I:=SqL.keeps hq k;have hl:=r.len;refine⟨λi d e=>?_,λi hi=>?_⟩;have hi:i<ds.length:=by have:=(sj.mp e).1;simpa using this
 rw[List.getElem?_reverse hi]at e;obtain⟨x,e1,rx⟩:=r.get e;rw[hl]at e1 hi;refine⟨⟨xs,x,I,rfl,e1,hi⟩,λy H' ⟨eH,ey⟩=>?_⟩;subst eH;have:=ey xs I;rw[e1]at this;cases this;exact⟨aJ.refl _,Rep.gen z d x rx⟩;show xs.length<=i;rw[<-hl];simpa using hi
def VW{a:Expr}{d:D}{ds:List D}(hg:Gl X "reversed")(hm:X.mg "reversed"=U)(ha:PA X [a] (c9 X.K T S B [d]))(hs:starEach [a] X.env=[(J,eval a X.env)])(hi:xQ d=O ds):PI X tg (.Call (.Name "reversed" p) [a] [] pos) (tI X.K T S B ds):=by
 intro pins s M H α I ⟨re,q⟩;refine Call_ (fH I hg hm boot_reversed (uj (ah (ha pos pins s M H (λvs H'=>aJ H H'/\aD X.K T H' S [d] vs) I ⟨re,λvs H' a b=>⟨a,b⟩⟩) λus s1 ⟨vs,H1,I1,r1,sm,z⟩=>?_) hs rfl));unfold aD at z;obtain⟨x,r',rfl,rx,rr⟩:=z;unfold aD at rr;subst rr;cases r1 with
 |cons r rr=>
  cases rr;cases d<;>simp only[xQ,reduceCtorEq,so]at hi
  rename_i ds';subst hi;unfold Rep at rx;obtain⟨l,xs,e,n,hq,z⟩:=rx;subst e;cases r;obtain⟨its,rv,pl,hz⟩:=I1.list (SqL.of hq);have hlen:=rv.length;refine call_reversed_list pl.isList ?_;have I2:Inv X pins M H1 {s1 with heap:=s1.heap.push (revObj l ((its.toArray.size:Int)-1))}:=I1.kept (t':=s1.toks) λb o e=>tm _ e;have hri:({s1 with heap:=s1.heap.push (revObj l ((its.toArray.size:Int)-1))}:Shared).heap.IsRevIter s1.heap.objs.size l ((xs.length:Int)-1):=by
   refine⟨_,ve _ rfl,rfl,?_⟩;have:(its.toArray.size:Int)=(xs.length:Int):=by rw[u0,hlen]
   show Data.fields #[.ref l,rawInt ((its.toArray.size:Int)-1)]=_;rw[this]
  refine wpAny_pyIter_revIter hri ?_;refine⟨s1.heap.objs.size,[s1.heap.objs.size],_,_,H1,rfl,I2,JC l _ xs.length,⟨vz _,by simpa using hri⟩,λb hb=>?_,q _ _ sm (YD n (SqL.of hq) z) ?_⟩;have e:b=s1.heap.objs.size:=by simpa using hb
  subst e;exact I1.fpOk (t9 _) (I1.hok.fresh (t9 _));rw[w4,z.len];exact hz
end
def oK:bootBuiltins "list"=O (.type "list"):=y7
def GZ:typeLookup (.type "list_reverseiterator") "__len__"=pure U:=by rw[typeLookup_type,builtinLookup_eq_fast];kernel_rfl
def MY:typeLookup (.type "list_reverseiterator") "__length_hint__"=pure (O (.builtin "list_reverseiterator.__length_hint__")):=by rw[typeLookup_type,builtinLookup_eq_fast];kernel_rfl
section
variable {prog:wg}{w:World}{A:Around}{E:wj}{s:Shared}
def rE{I l:Addr}{items:Array Value}(hh:A.handled=U)(eu:l≠I)(hit:s.heap.IsRevIter I l ((items.size:Int)-1))(hl:s.heap.IsList l items)(hz:items.size<=sizeLine) (hQ:∀h' tk c8 c',(∀b o,b≠I->s.heap.get? b=O o->h'.get? b=O o)->h'.get? s.heap.objs.size=O {cls:=.type "list",dict:=U,data:=.seq c8 c',slots:=#[]} ->c8=items.reverse->Q (.ref s.heap.objs.size) {s with heap:=h',toks:=tk}):wpAny (model prog w) A (call (.type "list") [.ref I]) Q E s:=by
 refine callType_codes (Q₁:=λobj s₁=>obj=.ref s.heap.objs.size/\s₁={s with heap:=s.heap.push {cls:=.type "list",data:=.seq #[]} }) F.called_list (F.typeCall_list_1 _) F.entry_list_init (code_list_new _ ⟨rfl,rfl⟩) λobj s₁ h₁=>?_;obtain⟨rfl,rfl⟩:=h₁;have hIlt:I<s.heap.objs.size:=by obtain⟨o,e,_⟩:=hit;exact uf e
 have hllt:l<s.heap.objs.size:=by obtain⟨o,e,_⟩:=hl;exact uf e
 have hS:(s.heap.push {cls:=.type "list",data:=.seq #[]}).get? s.heap.objs.size=O {cls:=.type "list",data:=.seq #[]}:=ve _ rfl;have kx:∀b o,s.heap.get? b=O o->(s.heap.push {cls:=.type "list",data:=.seq #[]}).get? b=O o:=λb o e=>tm _ e;refine⟨⟨_,hS,rfl⟩,F.args_list_init_2 _ _,?_⟩;generalize hSe:s.heap.objs.size=S at *;generalize hs1:s.heap.push {cls:=.type "list",data:=.seq #[]}=h1 at *;have hSI:S≠I:=Nat.ne_of_gt hIlt;have hSl:S≠l:=Nat.ne_of_gt hllt;show wpAny _ _ (do let old <-Builtin.List.listItems (.ref S);Builtin.List.listUpdate (.ref S) (λ_=>#[]);letGo old.toList.reverse;Builtin.List.listExtendWith (.ref S) (.ref I) .none) _ _ _;refine vb ?_;unfold Builtin.List.listItems;refine vb (wpAny_seqItems hS rfl (vc ?_));show wpAny _ _ (updateSeq S (λ_=>#[]) >>= λ_=>letGo (#[]:Array Value).toList.reverse >>= λ_=>Builtin.List.listExtendWith (.ref S) (.ref I) .none) _ _ _;refine vb (wpAny_updateSeq hS rfl ?_);have hS₂:=Heap.get?_update_self (Obj.mapSeq (λ_=>(#[]:Array Value))) hS rfl;have oth:∀b o,b≠S->h1.get? b=O o->(h1.update S (Obj.mapSeq (λ_=>(#[]:Array Value)))).get? b=O o:=λb o hb e=>(Heap.get?_update_other _ _ (Ne.symm hb)).trans e;refine vb (wpAny_letGo ?_);generalize h1.update S (Obj.mapSeq (λ_=>(#[]:Array Value)))=h2 at *;have W:=(Walks.listRev (prog:=prog) (w:=w) (A:=A.in1.in1) hh I l eu items).toS;have hit2:h2.IsRevIter I l ((items.size:Int)-1-((0:Nat):Int)):=by
  have e0:(items.size:Int)-1-((0:Nat):Int)=(items.size:Int)-1:=by lia
  rw[e0];exact hit.at λo e=>oth I o (Ne.symm hSI) (kx _ _ e)
 have my:h2.IsList l items:=hl.at λo e=>oth l o (Ne.symm hSl) (kx _ _ e);have hT:({s with heap:=h2}:Shared).TypeIs (.ref I) "list_reverseiterator":=hit2.typeIs (s:={s with heap:=h2});have hSf:S∉[I,l]:=by simp[hSI,hSl]
 have hs1':Builtin.List.listSameRef (.ref S) (.ref I)=J:=by simp[Builtin.List.listSameRef,hSI]
 show wpAny _ _ (Builtin.List.listExtendWith (.ref S) (.ref I) .none) _ _ {s with heap:=h2};unfold Builtin.List.listExtendWith;refine vb (wpAny_typeOf hT ?_);rw[if_neg (by rw[hs1'];decide)];refine vb (W.self 0 _ _ _ ⟨vz _,hit2,my⟩ ?_);refine vb (wpAny_holding ?_);unfold Builtin.List.listLengthHint;refine vb (wpAny_specialOf hT GZ ?_);show wpAny _ _ (specialOf (Value.ref I) (Str.ofString "__length_hint__") >>= _) _ _ _;refine vb (wpAny_specialOf hT MY ?_)
 (generalize cN:("list_reverseiterator.__length_hint__":String)=id0;(fail_if_success (clear cN id0));wp_delta;rw[show splitId id0=O ("list_reverseiterator","__length_hint__") from by subst cN;decide +kernel];subst cN)
 refine vb (wpAny_isInstance (b:=Y) hT (by rw[isSubtype_type];kernel_rfl) ?_);refine vc ?_;rw[if_neg y8];refine vc ⟨plainId_quiet F.plain_extend_loop _,codeAny_extend_loopS W hz S hSf _ items.size 0 _ _ _ rfl (vz _) ⟨vz _,hit2,my⟩ hS₂ (ItemsOf.nil _) λs' c8 c' hm jh dr=>?_⟩;refine⟨rfl,?_⟩;rw[Moved.eq_with hm];refine hQ s'.heap s'.toks c8 c' (λb o hb e=>?_) jh ?_;have hbS:b≠S:=λz=>by subst z;exact absurd (uf e) (by rw[hSe];exact va _)
 exact hm.heap b o (by simp[hbS,hb]) (oth b o hbS (kx _ _ e));obtain⟨hl1,my⟩:=dr;apply Array.ext;rw[hl1,Array.size_reverse];intro i h3 h4;have h5:=my i c8[i] (Array.getElem?_eq_getElem h3);rw[Array.getElem_reverse];obtain⟨_,e⟩:=Array.getElem?_eq_some_iff.mp h5;exact e.symm
end
section
variable {CX:ar}{X:Cx}{c:CC}{G:GS}{T:Tx}{lv:Nat}{B:List Sl}{S:Addr->Prop}
def zZ{a:Expr}{iq:Pos}{d:D}{ds:List D}(hc:X.calm=Y)(hg:Gl X "reversed")(hm:X.mg "reversed"=U)(ff:Gl X "list")(p4:X.mg "list"=U)(ha:PA X [a] (c9 X.K T S B [d]))(hs:starEach [a] X.env=[(J,eval a X.env)])(hi:xQ d=O ds):PE X (.Call (.Name "list" p2) [.Call (.Name "reversed" p) [a] [] pos] [] iq) (ja X.K T S B ds):=by
 intro pins s M H Q I ⟨re,q⟩;refine Call_ (fH I ff p4 oK (uj (Calls.spliced_cons (Call_ (fH I hg hm boot_reversed (uj (ah (ha pos pins s M H (λvs H'=>aJ H H'/\aD X.K T H' S [d] vs) I ⟨re,λvs H' a b=>⟨a,b⟩⟩) λus s1 ⟨vs,H1,I1,r1,sm,rl⟩=>?_) hs rfl)))) rfl rfl));unfold aD at rl;obtain⟨x,r',rfl,rx,rr⟩:=rl;unfold aD at rr;subst rr;cases r1 with
 |cons r rr=>
  cases rr;cases d<;>simp only[xQ,reduceCtorEq,so]at hi
  rename_i ds';subst hi;unfold Rep at rx;obtain⟨l,xs,e,n,hq,rl⟩:=rx;subst e;cases r;obtain⟨its,rv,pl,hz⟩:=I1.list (SqL.of hq);have hlen:=rv.length;refine call_reversed_list pl.isList ?_;refine Calls.spliced_nil ?_;have z:l<s1.heap.objs.size:=by obtain⟨o,e,_⟩:=pl.isList;exact uf e
  refine rE (I:=s1.heap.objs.size) (items:=its.toArray) (I1.ok.hd hc) (v3 z) ⟨_,ve _ rfl,rfl,rfl⟩ (pl.isList.at λo e=>tm _ e) (by rw[u0,<-hlen];exact hz) λh' tk c8 c' hk jh dr=>?_;have e1:(s1.heap.push (revObj l ((its.toArray.size:Int)-1))).objs.size=s1.heap.objs.size+1:=Heap.size_push ..;have I3:Inv X pins M (upd H1 (s1.heap.push (revObj l ((its.toArray.size:Int)-1))).objs.size (.lst xs.reverse)) {s1 with heap:=h',toks:=tk}:=by refine I1.laid (λb u e=>hk b u (v3 (uf e)) (tm _ e)) (by rw[e1];exact vh _) ?_;refine⟨by rw[w4];exact hz,its.reverse,c',aX.reverse rv,?_⟩;rw[jh,dr];simp
  have cu:H1 (s1.heap.push (revObj l ((its.toArray.size:Int)-1))).objs.size=U:=I1.hok.fresh (by rw[e1];exact vh _);exact⟨.ref _,_,I3,rfl,q _ xs.reverse _ (sm.trans (aJ.upd cu)) (sm.free cu) aS (by rw[iS cu];exact rl.rev)⟩
end
section
variable {CX:ar}{X:Cx}{c:CC}{G:GS}{T:Tx}{lv:Nat}{B:List Sl}{S:Addr->Prop}{pos:Pos}{ea eb ec:Expr}{a b d:D}
def CS(h:slot B i=O d):B[i]?=O (.im d):=by unfold slot at h;split at h;rename_i e;cases h;exact e;cases h
def ZX(h:XC CX X c G T lv)(e:bJ c x=O i)(hs:slot B i=O d):PE X (.Name x pos) (tD X.K T S B d):=by obtain⟨hN,hk⟩:=tV e;have hm:x∈c.N:=sq hN;refine PE.mono (KJ (by rw[h.N];exact hN) (h.vis hk) (h.dbg x hm).1 (h.dbg x hm).2) λM H Q ⟨re,q⟩=>?_;obtain⟨v,e1,r⟩:=re.at_ i _ (CS hs);exact⟨v,e1,q v H (aJ.refl H) r⟩
def gZ(h:XC CX X c G T lv)(e:bJ c x=O i):PE X (.Name x pos) (aAQ i):=by obtain⟨hN,hk⟩:=tV e;have hm:x∈c.N:=sq hN;exact KJ (by rw[h.N];exact hN) (h.vis hk) (h.dbg x hm).1 (h.dbg x hm).2
def aFQ(h:XC CX X c G T lv)(e:bE c x=Y)(hc:c.csts.contains x=Y)(hd:G.cst x=O d):PE X (.Name x pos) (tD X.K T S B d):=by obtain⟨u,v,e1,r,hr⟩:=h.go.cst x d hd hc;intro pins s M H Q I ⟨re,q⟩;exact fQ I (h.glob e) e1 ⟨v,H,I,r,q v H (aJ.refl H) (hr H S (MA I) re.dom)⟩ (h.gne e)
def aFO{i:Int}{j:Nat}:PE X (.Constant (.int i) j pos) (tD X.K T S B (.int i)):=PE.mono aBW λM H Q ⟨re,q⟩=>q _ H (aJ.refl H) (by unfold Rep;rfl)
def aHs{i:Bool}{j:Nat}:PE X (.Constant (.bool i) j pos) (tD X.K T S B (.bl i)):=PE.mono ZT λM H Q ⟨re,q⟩=>q _ H (aJ.refl H) (by unfold Rep;rfl)
def aFF{i:Str}{j:Nat}:PE X (.Constant (.str i) j pos) (tD X.K T S B (.str i)):=PE.mono aBT λM H Q ⟨re,q⟩=>q _ H (aJ.refl H) (by unfold Rep;rfl)
def aFK{j:Nat}:PE X (.Constant .none j pos) (tD X.K T S B .non):=PE.mono aBV λM H Q ⟨re,q⟩=>q _ H (aJ.refl H) (by unfold Rep;rfl)
def oQ{o:O2}(hd:af o a b=O d):∀M H Q,tD X.K T S B d M H Q->l7 (rD X.K T S o) (tD X.K T S B a) (tD X.K T S B b) M H Q:=λM H Q ⟨re,q⟩=>⟨re,λx H1 s1 r1=>⟨re.same s1,λy H2 s2 I=>⟨a,b,d,((re.same s1).same s2).dom,r1.same s2,I,hd,λv H' s3 z=>q v H' (s1.trans (s2.trans s3)) z⟩⟩⟩
def aFW{op:Operator}{o:O2}(ho:WO op=O o)(ha:PE X ea (tD X.K T S B a))(hb:PE X eb (tD X.K T S B b))(hd:af o a b=O d):PE X (.BinOp ea op eb pos) (tD X.K T S B d):=PE.mono (aFj (WU ho) ha hb) (oQ hd)
def GT:az X (compareOp .IsNot) (rD X.K T S .isnot):=by
 rintro pins s M H x y v u Q I rx ry ⟨a,b,d,dom,z,rb,e,q⟩;have go:∀k,b=.non->k=decide (x=V.non)->d=.bl (!k)->wpAny (model X.prog X.w) X.A (compareOp .IsNot v u) (EP X pins M Q) X.xe s:=λk hb hk hd=>by
  subst hb hd hk;unfold Rep at rb;exact WL pins s M H x y v u Q I rx ry ⟨rb,q _ H (aJ.refl H) bQ⟩
 simp only[af,LF,isD]at e;split at e<;>simp only[vf,Option.map_none,so,reduceCtorEq]at e
 all_goals subst e
 all_goals first
  | (unfold Rep at z;refine go _ rfl ?_ rfl;first|(subst z;rfl)|(obtain⟨_,_,rfl,_⟩:=z;rfl)|(obtain⟨_,_,_,_,rfl,_⟩:=z;rfl))
  | (unfold Rep at z rb
     subst z rb;cases rx;cases ry;exact isnot_bool ⟨.bl _,H,I,rfl,q _ H (aJ.refl H) bQ⟩)
def eY(hu:X.A.units+64<cLine)(op:CmpOp):az X (compareOp op) (rD X.K T S (kO op)):=by cases op;exact aCo hu;exact aCh hu;exact aCi;exact aCj;exact aCm;exact aCn;exact aCk;exact GT;exact aCl hu;exact GQ hu
def aFV(hu:X.A.units+64<cLine)(ha:PE X ea (tD X.K T S B a))(hb:PE X eb (tD X.K T S B b))(hm:behindInMarks op eb=J)(hd:af (kO op) a b=O d):PE X (.Compare ea [op] [eb] pos) (tD X.K T S B d):=PE.mono (WA (eY hu op) ha hb hm) (oQ hd)
def aCC(hu:X.A.units+64<cLine){k:Bool}(ha:PE X ea (tD X.K T S B a))(hb:PE X eb (tD X.K T S B b))(hm:behindInMarks op eb=J)(hd:af (kO op) a b=O (.bl k)):PT X (.Compare ea [op] [eb] pos) (gx X.K T S B k):=PT.mono (VM (eY hu op) ha hb hm) λM H Q ⟨re,q⟩=>oQ hd M H _ ⟨re,λv H' z r=>by unfold Rep at r;exact⟨k,r,q H' z⟩⟩
def qO{o o':O2}{I:D}{k:Bool}(h1:af o a b=O (.bl k))(h2:if k=Y then af o' b I=O d else d=.bl J):∀M H Q,tD X.K T S B d M H Q->zJ (rD X.K T S o) (rD X.K T S o') (tD X.K T S B a) (tD X.K T S B b) (tD X.K T S B I) M H Q:=λM H Q ⟨re,q⟩=>⟨re,λx H1 s1 r1=>⟨re.same s1,λy H2 s2 r2=>⟨a,b,.bl k,((re.same s1).same s2).dom,r1.same s2,r2,h1,λz H3 s3 r3=>by
 unfold Rep at r3;refine⟨k,r3,?_⟩;cases k with
 |true=>rw[if_pos rfl]at h2 ⊢;exact⟨((re.same s1).same s2).same s3,λw' H4 s4 r4=>⟨b,I,d,(((re.same s1).same s2).same s3).same s4 |>.dom,(r2.same s3).same s4,r4,h2,λv H' s5 r5=>q v H' (s1.trans (s2.trans (s3.trans (s4.trans s5)))) r5⟩⟩
 |false=>rw[if_neg ua]at h2 ⊢;subst h2;exact q _ H3 (s1.trans (s2.trans s3)) bQ⟩⟩⟩
def XJ(hu:X.A.units+64<cLine){z:CmpOp}{I:D}{k:Bool}(ha:PE X ea (tD X.K T S B a))(hb:PE X eb (tD X.K T S B b))(hc:PE X ec (tD X.K T S B I))(hm:lastMarks [op,z] [eb,ec]=J) (h1:af (kO op) a b=O (.bl k)) (h2:if k=Y then af (kO z) b I=O d else d=.bl J):PE X (.Compare ea [op,z] [eb,ec] pos) (tD X.K T S B d):=PE.mono (xE (eY hu op) (eY hu z) ha hb hc hm) (qO h1 h2)
def LM(hu:X.A.units+64<cLine){z:CmpOp}{I:D}{k k':Bool}(ha:PE X ea (tD X.K T S B a))(hb:PE X eb (tD X.K T S B b))(hc:PE X ec (tD X.K T S B I))(hm:lastMarks [op,z] [eb,ec]=J) (h1:af (kO op) a b=O (.bl k)) (h2:if k=Y then af (kO z) b I=O (.bl k') else D.bl k'=.bl J):PT X (.Compare ea [op,z] [eb,ec] pos) (gx X.K T S B k'):=PT.mono (wY (eY hu op) (eY hu z) ha hb hc hm) λM H Q ⟨re,q⟩=>qO h1 h2 M H _ ⟨re,λv H' sm r=>by unfold Rep at r;exact⟨k',r,q H' sm⟩⟩
def _root_.Z.aD.emp{ds:List D}(r:aD K T H S ds xs):ds.isEmpty=xs.isEmpty:=by have:=r.len;cases ds<;>cases xs<;>simp_all
def aEt{k:Bool}(r:Rep X.K T H S a v)(h:cv a=O k):aDL X.K v H k:=by
 cases a<;>simp only[cv,reduceCtorEq,so]at h
 unfold Rep at r;subst r;exact h.symm;unfold Rep at r;subst r;exact h.symm;unfold Rep at r;subst r;exact h.symm;unfold Rep at r;obtain⟨p,xs,rfl,_,e,z⟩:=r;refine .inl ⟨xs,SqL.of e,?_⟩;rw[<-h];rw[z.emp];unfold Rep at r;obtain⟨p,xs,rfl,_,e,z⟩:=r;refine .inr (.inl ⟨xs,e,?_⟩);rw[<-h];rw[z.emp];unfold Rep at r;obtain⟨p,xs,rfl,_,e,z⟩:=r;refine .inl ⟨xs,e,?_⟩;rw[<-h];rw[z.emp]
def XH{k:Bool}(ha:PE X ea (tD X.K T S B a))(he:∀z,isTrue ea X.env z=(do let v <-z;standAt ea.pos;holding [v] (truthy v)))(h:cv a=O k):PT X ea (gx X.K T S B k):=PT.mono (KB ha he) λM H Q ⟨re,q⟩=>⟨re,λx H1 s1 I=>⟨k,aEt I h,q H1 s1⟩⟩
def aCx{k:Bool}(ha:PT X ea (gx X.K T S B k)):PT X (.UnaryOp .Not ea pos) (gx X.K T S B (!k)):=PT.mono (aBM ha) λM H Q ⟨re,q⟩=>⟨re,λH1 s1=>q H1 s1⟩
def aFJ{k:Bool}(ha:PE X ea (tD X.K T S B a))(h:cv a=O k):PE X (.UnaryOp .Not ea pos) (tD X.K T S B (.bl (!k))):=by intro pins s M H Q I ⟨re,q⟩;refine UnaryOp_ (ah (ha pins s M H (λv H'=>aJ H H'/\Rep X.K T H' S a v) I ⟨re,λv H' a b=>⟨a,b⟩⟩) λv s1 ⟨x,H1,I1,r1,z,rx⟩=>?_);exact not_of (ah (JD pins s1 M H1 x v (λb H2=>b=k/\H2=H1) I1 r1 ⟨k,aEt rx h,rfl,rfl⟩) λb s2 ⟨H2,I2,eb,eH⟩=>by subst eb eH;exact⟨.bl (!b),H2,I2,rfl,q _ H2 z bQ⟩)
def aAa{k:Bool}(hc:PT X ec (gx X.K T S B k))(ha:k=Y->PE X ea (tD X.K T S B d))(hb:k=J->PE X eb (tD X.K T S B d)):PE X (.IfExp ec ea eb pos) (tD X.K T S B d):=by
 cases k with
 |true=>refine PE.mono (xD hc (ha rfl) (tb:=λ_ _ _=>False) (λ_ _ _ _ _ _ h=>h.elim)) λM H Q ⟨re,q⟩=>⟨re,λH1 s1=>?_⟩;exact HN ⟨re.same s1,λv H' s2 r=>q v H' (s1.trans s2) r⟩
 |false=>refine PE.mono (xD hc (ta:=λ_ _ _=>False) (λ_ _ _ _ _ _ h=>h.elim) (hb rfl)) λM H Q ⟨re,q⟩=>⟨re,λH1 s1=>?_⟩;exact xP ⟨re.same s1,λv H' s2 r=>q v H' (s1.trans s2) r⟩
def sC:PA X [] (c9 X.K T S B []):=PA.mono gO λM H Q ⟨re,q⟩=>q [] H (aJ.refl H) aD.nil
def pG{ds:List D}(ha:PE X ea (tD X.K T S B a))(hr:PA X es (c9 X.K T S B ds))(hs:starEach (ea::es) X.env=(J,eval ea X.env)::starEach es X.env):PA X (ea::es) (c9 X.K T S B (a::ds)):=PA.mono (eG ha hr hs) λM H Q ⟨re,q⟩=>⟨re,λx H1 s1 I=>⟨re.same s1,λxs H2 s2 z=>q _ H2 (s1.trans s2) (aD.cons (I.same s2) z)⟩⟩
def aFE{ds:List D}{I:Nat}(h:PA X es (c9 X.K T S B ds))(hl:ds.length<=sizeLine):PE X (.Tuple es I pos) (tD X.K T S B (.tup ds)):=PE.mono (aBS h) λM H Q ⟨re,q⟩=>⟨re,λxs H1 s1 z=>⟨by rw[<-z.len];exact hl,λp hp=>q _ _ (s1.trans (aJ.upd hp)) (eZ (re.same s1).dom hp z)⟩⟩
def ZZ{ds:List D}(h:PA X es (c9 X.K T S B ds))(hl:ds.length<=sizeLine):PE X (.List es pos) (ja X.K T S B ds):=PE.mono (KL h) λM H Q ⟨re,q⟩=>⟨re,λxs H1 s1 z=>⟨by rw[<-z.len];exact hl,λp hp=>q _ _ _ (s1.trans (aJ.upd hp)) (s1.free hp) aS (by rw[iS hp];exact z)⟩⟩
def lP{ds:List D}(h:PE X e (ja X.K T S B ds)):PE X e (tD X.K T S B (.lst ds)):=PE.mono h λM H Q ⟨re,q⟩=>⟨re,λp xs H' z hp I r=>q _ H' z (by unfold Rep;exact⟨p,xs,rfl,re.nS hp,I,r.er⟩)⟩
def vV{ds:List D}{i:Int}(r:aD K T H S ds xs)(h:atI ds i=O d):∃x,L2.atI xs i=O x/\Rep K T H S d x:=by
 unfold atI at h;unfold L2.atI;rw[sr]at h;obtain⟨j,h1,h2⟩:=h;obtain⟨x,e,z⟩:=r.get h2;have qh:L2.ixN xs.length i=O j:=by rw[<-r.len];exact h1
 exact⟨x,by rw[qh];exact e,z⟩
def XY{i:Int}{ds:List D}(hc:a=.lst ds\/a=.tup ds\/a=.frz ds)(hd:atI ds i=O d):∀M H Q,tD X.K T S B d M H Q->l7 (rIx X.K) (tD X.K T S B a) (tD X.K T S B (.int i)) M H Q:=λM H Q ⟨re,q⟩=>⟨re,λx H1 s1 r1=>⟨re.same s1,λy H2 s2 r2=>by have z:=r1.same s2;unfold Rep at r2;rcases hc with rfl|rfl|rfl;unfold Rep at z;obtain⟨p,xs,ex,_,e,I⟩:=z;obtain⟨v,e1,rv⟩:=vV I hd;exact .inl ⟨p,xs,i,v,ex,r2,SqL.of e,e1,q v H2 (s1.trans s2) rv⟩;unfold Rep at z;obtain⟨p,xs,ex,_,e,I⟩:=z;obtain⟨v,e1,rv⟩:=vV I hd;exact .inr (.inl ⟨p,xs,i,v,ex,r2,e,e1,q v H2 (s1.trans s2) rv⟩);unfold Rep at z;obtain⟨p,xs,ex,_,e,I⟩:=z;obtain⟨v,e1,rv⟩:=vV I hd;exact .inl ⟨p,xs,i,v,ex,r2,e,e1,q v H2 (s1.trans s2) rv⟩⟩⟩
def aCA{i:Int}{ds:List D}(ha:PE X ea (tD X.K T S B a))(hb:PE X eb (tD X.K T S B (.int i)))(hp:lX eb)(hc:a=.lst ds\/a=.tup ds\/a=.frz ds)(hd:atI ds i=O d):PE X (.Subscript ea eb pos) (tD X.K T S B d):=PE.mono (aFk aCW ha hb hp) (XY hc hd)
def GE{ds:List D}(re:RE X.K T H S B M)(h:wI B i=O ds):∃p xs,M[i]?=O (O (.ref p))/\H p=O (.lst xs)/\aD X.K T H S ds xs:=by unfold wI at h;split at h;rename_i e;cases h;obtain⟨v,e1,r⟩:=re.at_ i _ e;unfold Rep at r;obtain⟨p,xs,rfl,_,e2,z⟩:=r;exact⟨p,xs,e1,e2,z⟩;rename_i e;cases h;obtain⟨p,ob,e1,_,e2,I⟩:=re.at_ i _ e;obtain⟨xs,rfl,z⟩:=I.lst;exact⟨p,xs,e1,e2,z⟩;cases h
def vO{ds:List D}{lo hi:Option Int}(r:aD K T H S ds xs):aD K T H S (cut ds lo hi) (yQ xs lo hi):=by unfold cut yQ;rw[r.len];exact(r.drop _).take _
noncomputable def kg(K:wc)(T:Tx)(S:Addr->Prop)(B:List Sl)(o:Option Int):TO:=λM H Q=>RE K T H S B M/\∀H',aJ H H'->Q o H'
def aFI:PO X U (kg X.K T S B U):=λpins s M H Q I ⟨re,q⟩=>VR pins s M H Q I (q H (aJ.refl H))
def aFH{i:Int}(ha:PE X ea (tD X.K T S B (.int i))):PO X (O ea) (kg X.K T S B (O i)):=λpins s M H Q I ⟨re,q⟩=>VQ ha pins s M H Q I ⟨re,λv H' z r=>by unfold Rep at r;exact⟨i,r,q H' z⟩⟩
def ZY{lo hi:Option Expr}{l h:Option Int}{ds:List D}(ha:PE X ea (tD X.K T S B a))(hl:PO X lo (kg X.K T S B l))(hh:PO X hi (kg X.K T S B h))(hc:a=.lst ds\/a=.frz ds):PE X (.Subscript ea (.Slice lo hi U p2) pos) (ja X.K T S B (cut ds l h)):=PE.mono (xC SR ha hl hh) λM H Q ⟨re,q⟩=>⟨re,λx H1 s1 r1=>⟨re.same s1,λH2 s2=>⟨(re.same s1).same s2,λH3 s3=>by have I:=(r1.same s2).same s3;have z:=s1.trans (s2.trans s3);rcases hc with rfl|rfl;unfold Rep at I;obtain⟨p,xs,ex,_,e,rl⟩:=I;exact⟨p,xs,ex,SqL.of e,λp hp=>q _ _ _ (z.trans (aJ.upd hp)) (z.free hp) aS (by rw[iS hp];exact vO rl)⟩;unfold Rep at I;obtain⟨p,xs,ex,_,e,rl⟩:=I;exact⟨p,xs,ex,e,λp hp=>q _ _ _ (z.trans (aJ.upd hp)) (z.free hp) aS (by rw[iS hp];exact vO rl)⟩⟩⟩⟩
def aFG{lo hi:Option Expr}{l h:Option Int}{ds:List D}(ha:PE X ea (tD X.K T S B (.tup ds)))(hl:PO X lo (kg X.K T S B l))(hh:PO X hi (kg X.K T S B h))(hw:¬(sIx ds.length 0 l=0/\sIx ds.length ds.length h=ds.length)):PE X (.Subscript ea (.Slice lo hi U p2) pos) (tD X.K T S B (.tup (cut ds l h))):=PE.mono (xC aBh ha hl hh) λM H Q ⟨re,q⟩=>⟨re,λx H1 s1 r1=>⟨re.same s1,λH2 s2=>⟨(re.same s1).same s2,λH3 s3=>by have I:=(r1.same s2).same s3;have sm:=s1.trans (s2.trans s3);have jx:=((re.same s1).same s2).same s3;unfold Rep at I;obtain⟨p,xs,ex,_,e,z⟩:=I;exact⟨p,xs,ex,e,by rw[<-z.len];exact hw,λp hp=>q _ _ (sm.trans (aJ.upd hp)) (eZ jx.dom hp (vO z))⟩⟩⟩⟩
def aFS(h:XC CX X c G T lv){cn f:Str}{fs:List (Str×D)}(ha:PE X ea (tD X.K T S B (.obj cn fs)))(hb:attributeBase ea f X.env (eval ea X.env)=eval ea X.env)(hf:(G.fl cn).contains f=Y)(hd:fs.lookup f=O d):PE X (.Attribute ea f pos) (tD X.K T S B d):=PE.mono (aBX ha hb) λM H Q ⟨re,q⟩=>⟨re,λx H1 s1 z=>by unfold Rep at z;obtain⟨p,C,dx,gs,ex,_,ec,e,I⟩:=z;obtain⟨v,e1,rv⟩:=(cR.look I).1 d hd;exact⟨p,C,dx,gs,v,ex,e,h.go.cls cn C ec,h.go.fld cn C f ec hf,e1,q v H1 s1 rv⟩⟩
def uB(h:XC CX X c G T lv):jR CX X E0:=λ_ _ H s e s' _ z=>(h.go.cx0 _ H s e s' z).elim
def rS(hs:starEach (e::es) X.env=(e::es).map λe=>(J,eval e X.env)):starEach (e::es) X.env=(J,eval e X.env)::starEach es X.env/\(backTo pos (starEach es X.env)).any (·.1)=J:=by
 have h2:starEach (e::es) X.env=(J,eval e X.env)::starEach es X.env:=by cases e<;>first|rfl|(simp[starEach]at hs)
 have h3:starEach es X.env=es.map λe=>(J,eval e X.env):=by have:=congrArg List.tail (h2.symm.trans hs);simpa using this
 refine⟨h2,?_⟩;rw[h3];clear h2 h3 hs;induction es with
 |nil=>rfl
 |cons a r z=>exact z
def aCD(h:XC CX X c G T lv){ds:List D}(hg:bE c x=Y)(hf:c.fns.contains x=Y)(ha:PA X es (c9 X.K T S B ds))(hs:starEach es X.env=es.map λe=>(J,eval e X.env))(hlen:ds.length=es.length)(hd:G.fn x ds=O (.ok d)):PE X (.Call (.Name x p) es [] pos) (λM H Q=>RE X.K T H S B M/\∀v H',aJ H H'->Rep X.K T H' S d v->Q v H'):=by
 obtain⟨f,fd,ps,hm,hk,hb,hl,F⟩:=h.go.fn x hf;have z:∀M H Q,(RE X.K T H S B M/\∀v H',aJ H H'->Rep X.K T H' S d v->Q v H')->CO (ik X.K T ps.length (G.fn x)) [] E0 (c9 X.K T S B ds) M H Q:=λM H Q ⟨re,q⟩=>⟨re,λvs H1 s1 I=>⟨by rw[uq,<-I.len];exact hl ds _ hd,S,ds,(re.same s1).dom,by rw[uq];exact I,.inl ⟨d,hd,λv H' s2 r2=>q v H' (s1.trans s2) r2⟩⟩⟩;cases es with
 |nil=>refine PE.mono (xF F h.room (h.glob hg) hm hk hb .nil (uB h) (h.gne hg)) λM H Q hq=>?_;obtain⟨re,q⟩:=hq;have bu:ds=[]:=ur.mp hlen;subst bu;exact(z M H Q ⟨re,q⟩).2 [] H (aJ.refl H) aD.nil
 |cons e es=>obtain⟨h1,h2⟩:=rS (pos:=pos) hs;exact PE.mono (DI F h.room (h.glob hg) hm hk hb .nil (uB h) ha (h.gne hg) h1 h2) z
end
section
variable {CX:ar}{X:Cx}{c:CC}{G:GS}{T:Tx}{lv:Nat}{B:List Sl}{S:Addr->Prop}{pos:Pos}{ea eb ec:Expr}{a b d:D}
def zD(X:Cx)(o:Expr)(m:Str)(args:List Expr)(apos pos:Pos):Prop:=∃pl:Sem Bool,eval (.Call (.Attribute o m apos) args [] pos) X.env=(do
 let z <-eval o X.env
 standAt apos.atName
 let (f,first) <-holding [z] (getMethod z m pl)
 callWith pos f first (backTo pos (starEach args X.env)) (backToKw pos (keywordEach [] X.env)))
def aCy(h:XC CX X c G T lv){m cn:Str}{fs:List (Str×D)}{ds:List D}{apos:Pos}(ht:zD X ea m es apos pos)(ho:PE X ea (tD X.K T S B (.obj cn fs)))(hn:fs.lookup m=U) (ha:PA X es (c9 X.K T S B ds)) (hs:starEach es X.env=es.map λe=>(J,eval e X.env)) (hlen:ds.length=es.length) (hd:G.me cn m (.obj cn fs::ds)=O (.ok d)):PE X (.Call (.Attribute ea m apos) es [] pos) (λM H Q=>RE X.K T H S B M/\∀v H',aJ H H'->Rep X.K T H' S d v->Q v H'):=by
 obtain⟨pl,ht⟩:=ht;intro pins s M H Q I ⟨re,q⟩;refine PySem.W.methodCall_KW (pl:=pl) (ah (ho pins s M H (λv H'=>aJ H H'/\Rep X.K T H' S (.obj cn fs) v) I ⟨re,λv H' a b=>⟨a,b⟩⟩) λu s1 ⟨x,H1,I1,rx,sm,ro⟩=>?_) ht;have ro':=ro;unfold Rep at ro;obtain⟨p,C,dx,gs,ex,_,ec,e,rf⟩:=ro;subst ex;obtain rfl:u=Value.ref p:=rx;obtain⟨f,fd,ps,hm,hb,hl,F⟩:=h.go.me cn C m _ _ ec hd;refine BH I1 e (h.go.cls cn C ec) hm ((cR.look rf).2 hn) ?_;have z:∀(us:List Value) (vs:List V) (s2:Shared) (H2:Hp),Inv X pins M H2 s2->aX vs us->aJ H1 H2->aD X.K T H2 S ds vs->wpAny (model X.prog X.w) X.A (call (.ref f) (.ref p::us)) (EP X pins M Q) X.xe s2:=λus vs s2 H2 I2 r2 dw rl=>by refine zP (us:=.ref p::us) (vs:=.ref p::vs) (dvs:=[]) (ds:=[]) (E:=E0) F h.room hb .nil (uB h) I2 (.cons rfl r2) ?_;refine⟨?_,S,.obj cn fs::ds,((re.same sm).same dw).dom,?_,.inl ⟨d,hd,λv H' s3 r3=>q v H' ((sm.trans dw).trans s3) r3⟩⟩;have:=hl _ _ hd;simp only[uq,vm]at this ⊢;rw[<-rl.len];exact this;rw[uq];exact aD.cons (ro'.same dw) rl
 cases es with
 |nil=>have bu:ds=[]:=ur.mp hlen;subst bu;exact callWith_K0 (first:=[.ref p]) I1.kIn hm.kp (z [] [] s1 H1 I1 .nil (aJ.refl _) aD.nil)
 |cons e es=>obtain⟨h1,h2⟩:=rS (pos:=pos) hs;refine callWith_K (first:=[.ref p]) (h₀:=X.base) I.ok.mod.kin hm.kp (ah (ha pos pins s1 M H1 (λvs H'=>aJ H1 H'/\aD X.K T H' S ds vs) I1 ⟨re.same sm,λvs H' a b=>⟨a,b⟩⟩) λus s2 ⟨vs,H2,I2,r,dw,rl⟩=>⟨I2.kIn,?_⟩) h1 h2;exact z us vs s2 H2 I2 r dw rl
def GH{CX:ar}{k:Nat}{f:Addr}{fd:we}{ps:List Str}{sp:Sp}{E:XK}{Q:VK}{us:List Value}{vs:List V}(σ:Mk X.K C f)(F:FnOk X.prog X.w X.K X.mg X.base CX k f fd ps sp)(hr:Room (k+1) X.A)(hb:Binds X.K fd ps []) (hx:jR CX X E) (I:Inv X pins M H s) (r:aX vs us) (h:∀x dx,H x=U->H dx=U->dx≠x->X.K.lookup x=U->X.K.lookup dx=U->sp (.ref x::vs) (upd (upd H dx (.own x)) x (.ins C dx [])) (λv H2=>v=.non/\Q (.ref x) H2) E):wpAny (model X.prog X.w) X.A (call (.ref C) us) (EP X pins M Q) X.xe s:=by
 have nk:∀a,s.heap.objs.size<=a->X.K.lookup a=U:=λa ha=>by
  cases q:X.K.lookup a with
  |none=>rfl
  |some o=>exact absurd (uf (I.kIn a o q)) (not_lt.mpr ha)
 have hq:=h (s.heap.objs.size+1) s.heap.objs.size (I.hok.fresh (vh _)) (I.hok.fresh (t9 _)) (v3 (vj _)) (nk _ (vh _)) (nk _ (t9 _));have I2:=Inv.made (C:=C) I;have r2:aX (V.ref (s.heap.objs.size+1)::vs) (Value.ref (s.heap.objs.size+1)::us):=.cons rfl r;have hl:(Value.ref (s.heap.objs.size+1)::us++[]).length=ps.length:=by have e:=r2.length;rw[F.len _ _ _ _ hq]at e;rw[uq];exact e.symm
 refine wpAny_call (LR (f:=f) I.kIn σ.makes σ.init (uw.mp σ.fn) (codeAny_mono (F.run _ X.stack _ _ ⟨Value.ref (s.heap.objs.size+1)::us,[]⟩ (Value.ref (s.heap.objs.size+1)::us) _ _ E (hr.make C us []) (I2.env0.make C us []) (by have:=hb _ (Value.ref (s.heap.objs.size+1)::us) I2.kIn hl;rw[uq]at this;exact this) r2 hq) λr s' z=>?_));cases r with
 |error e=>exact hx pins M _ _ e s' I2 z
 |ok fl=>
  cases fl with
  |ret u=>obtain⟨v,H',I3,rv,ev,q3⟩:=I2.after z;subst ev;exact⟨rv,⟨V.ref (s.heap.objs.size+1),H',I3,rfl,q3⟩⟩
  |next=>exact False.elim z
  |brk=>exact False.elim z
  |cont=>exact False.elim z
def aHr(h:XC CX X c G T lv){ds:List D}(hg:bE c x=Y)(hf:c.cls.contains x=Y)(ha:PA X es (c9 X.K T S B ds))(hs:starEach es X.env=es.map λe=>(J,eval e X.env))(hlen:ds.length=es.length)(hd:G.mo x ds=O (.ok d)):PE X (.Call (.Name x p) es [] pos) (tD X.K T S B d):=by
 obtain⟨C,f,fd,ps,j,hj,hm,σ,hb,hl,F⟩:=h.go.mo x hf ds d hd;have fin:∀(pins:wk) (M:L2.St) (H:Hp) (Q:VK) (us:List Value) (vs:List V) (s2:Shared) (H2:Hp),RE X.K T H S B M->(∀v H',aJ H H'->Rep X.K T H' S d v->Q v H')->Inv X pins M H2 s2->aX vs us->aJ H H2->aD X.K T H2 S ds vs->wpAny (model X.prog X.w) X.A (call (.ref C) us) (EP X pins M Q) X.xe s2:=λpins M H Q us vs s2 H2 re q I2 r2 dw rl=>by
  refine GH (E:=E0) σ F (h.room.mono hj) hb (uB h) I2 r2 λy dx hy hdx ne ky kdx=>?_;have dom2:=(re.same dw).dom;have m1:aU X.K H2 (upd H2 dx (.own y)) S S:=λa n _=>⟨n,λo e=>by rw[aM (aQ e hdx)];exact e⟩;have hy1:(upd H2 dx (.own y)) y=U:=by rw[aM (Ne.symm ne)];exact hy
  have m2:=aU.add (S:=S) (o:=.ins C dx []) hy1 ky;refine⟨by simp only[vm];rw[<-rl.len];exact hl,y,dx,vs,(λa=>S a\/a=y),ds,d,rfl,aS,.inr rfl,λa hs=>?_,aD.gen m2 _ _ (aD.gen m1 _ _ rl),hd,λH' kp rp=>⟨rfl,q _ H' ?_ (rp S λa ha=>⟨.inl ha,?_⟩)⟩⟩;rcases hs with z|z;obtain⟨o,e⟩:=dom2 a z;exact⟨o,by rw[aM (aQ e hy),aM (aQ e hdx)];exact e⟩;subst z;exact⟨_,aS⟩;intro b o e;have e2:=dw b o e;refine kp b o (aQ e2 hy) ?_;rw[aM (aQ e2 hy),aM (aQ e2 hdx)];exact e2;intro z;subst z;obtain⟨o,e⟩:=dom2 a ha;rw[hy]at e;cases e
 cases es with
 |nil=>have bu:ds=[]:=ur.mp hlen;subst bu;intro pins s M H Q I ⟨re,q⟩;refine wpAny_Call_Name_kw (fQ I (h.glob hg) hm ?_ (h.gne hg));exact callWith_K0 I.kIn σ.kp (fin pins M H Q [] [] s H re q I .nil (aJ.refl _) aD.nil)
 |cons e es=>obtain⟨h1,h2⟩:=rS (pos:=pos) hs;intro pins s M H Q I ⟨re,q⟩;refine wpAny_Call_Name_kw (fQ I (h.glob hg) hm ?_ (h.gne hg));refine callWith_K (h₀:=X.base) I.ok.mod.kin σ.kp (ah (ha pos pins s M H (λvs H'=>aJ H H'/\aD X.K T H' S ds vs) I ⟨re,λvs H' a b=>⟨a,b⟩⟩) λus s1 ⟨vs,H1,I1,r,sm,rl⟩=>⟨I1.kIn,?_⟩) h1 h2;exact fin pins M H Q us vs s1 H1 re q I1 r sm rl
def jn(K:wc)(T:Tx)(S:Addr->Prop)(g:List D->Option D):List V->Hp->VK->Prop:=λxs H Q=>∃ds d,(∀a,S a->∃o,H a=O o)/\aD K T H S ds xs/\g ds=O d/\∀v H',aJ H H'->Rep K T H' S d v->Q v H'
def rep1(r:aD K T H S [a] xs):∃x,xs=[x]/\Rep K T H S a x:=by unfold aD at r;obtain⟨x,r',rfl,I,z⟩:=r;unfold aD at z;subst z;exact⟨x,rfl,I⟩
def rep2(r:aD K T H S [a,b] xs):∃x y,xs=[x,y]/\Rep K T H S a x/\Rep K T H S b y:=by unfold aD at r;obtain⟨x,r',rfl,I,rr⟩:=r;obtain⟨y,rfl,z⟩:=rep1 rr;exact⟨x,y,rfl,I,z⟩
def dQ{i:Int}:Rep K T H S (.int i) (.int i):=by unfold Rep;rfl
def aGy:dE X (.builtin "len") (jn X.K T S IG):=by rintro pins s M H xs us Q I r ⟨ds,d,dom,rl,e,q⟩;unfold IG at e;split at e;obtain⟨x,rfl,z⟩:=rep1 rl;cases e;unfold Rep at z;obtain⟨p,ys,rfl,_,hq,ry⟩:=z;exact iW pins s M H _ us Q I r ⟨p,ys,rfl,.inl (SqL.of hq),by rw[<-ry.len];exact q _ H (aJ.refl H) dQ⟩;obtain⟨x,rfl,z⟩:=rep1 rl;cases e;unfold Rep at z;obtain⟨p,ys,rfl,_,hq,ry⟩:=z;exact iW pins s M H _ us Q I r ⟨p,ys,rfl,.inr hq,by rw[<-ry.len];exact q _ H (aJ.refl H) dQ⟩;obtain⟨x,rfl,z⟩:=rep1 rl;cases e;unfold Rep at z;obtain⟨p,ys,rfl,_,hq,ry⟩:=z;exact iW pins s M H _ us Q I r ⟨p,ys,rfl,.inl hq,by rw[<-ry.len];exact q _ H (aJ.refl H) dQ⟩;obtain⟨x,rfl,z⟩:=rep1 rl;unfold Rep at z;subst z;split at e;rename_i hz;cases e;exact vT pins s M H _ us Q I r ⟨_,rfl,ug hz eU,q _ H (aJ.refl H) dQ⟩;cases e;cases e
def aGA:dE X (.type "int") (jn X.K T S QA):=by rintro pins s M H xs us Q I r ⟨ds,d,dom,rl,e,q⟩;unfold QA at e;split at e;obtain⟨x,rfl,z⟩:=rep1 rl;cases e;unfold Rep at z;subst z;exact tH pins s M H _ us Q I r (.inl ⟨_,rfl,q _ H (aJ.refl H) dQ⟩);obtain⟨x,rfl,z⟩:=rep1 rl;cases e;unfold Rep at z;subst z;exact tH pins s M H _ us Q I r (.inr ⟨_,rfl,q _ H (aJ.refl H) dQ⟩);obtain⟨x,rfl,z⟩:=rep1 rl;unfold Rep at z;subst z;split at e;rename_i hz;obtain⟨n,hn,rfl⟩:=u5.mp e;obtain⟨u,rfl,t,rfl⟩:=vals1 r;exact PySem.W.KIN.call_text hn hz ⟨.int n,H,I.tok _,⟨_,rfl⟩,q _ H (aJ.refl H) dQ⟩;cases e;cases e
def rBl(K:wc)(T:Tx)(S:Addr->Prop):List V->Hp->VK->Prop:=λxs H Q=>∃ds es,aD K T H S ds xs/\yE ds=O (.lst es)/\∀p ys H',aJ H H'->H p=U->H' p=O (.lst ys)->aD K T (er H' p) S es ys->Q (.ref p) H'
def aDI:dE X (.type "list") (rBl X.K T S):=by rintro pins s M H xs us Q I r ⟨ds,es,rl,e,q⟩;unfold yE at e;split at e;obtain⟨x,rfl,z⟩:=rep1 rl;cases e;unfold Rep at z;obtain⟨p,ys,rfl,_,hq,ry⟩:=z;exact iV pins s M H _ us Q I r ⟨p,ys,rfl,.inl (SqL.of hq),λl hl=>q l ys _ (aJ.upd hl) hl aS (by rw[iS hl];exact ry)⟩;obtain⟨x,rfl,z⟩:=rep1 rl;cases e;unfold Rep at z;obtain⟨p,ys,rfl,_,hq,ry⟩:=z;exact iV pins s M H _ us Q I r ⟨p,ys,rfl,.inr hq,λl hl=>q l ys _ (aJ.upd hl) hl aS (by rw[iS hl];exact ry)⟩;obtain⟨x,rfl,z⟩:=rep1 rl;cases e;unfold Rep at z;obtain⟨p,ys,rfl,_,hq,ry⟩:=z;exact iV pins s M H _ us Q I r ⟨p,ys,rfl,.inl hq,λl hl=>q l ys _ (aJ.upd hl) hl aS (by rw[iS hl];exact ry)⟩;cases e
def YY:dE X (.type "tuple") (jn X.K T S vE):=by rintro pins s M H xs us Q I r ⟨ds,d,dom,rl,e,q⟩;unfold vE at e;split at e;obtain⟨x,rfl,z⟩:=rep1 rl;cases e;unfold Rep at z;obtain⟨p,ys,rfl,_,hq,ry⟩:=z;exact kP pins s M H _ us Q I r ⟨p,ys,rfl,.inl ⟨SqL.of hq,λl hl=>q _ _ (aJ.upd hl) (eZ dom hl ry)⟩⟩;obtain⟨x,rfl,z⟩:=rep1 rl;cases e;have rx':=z;unfold Rep at z;obtain⟨p,ys,rfl,_,hq,ry⟩:=z;exact kP pins s M H _ us Q I r ⟨p,ys,rfl,.inr ⟨hq,q _ H (aJ.refl H) rx'⟩⟩;cases e
theorem mQ{K:wc}{H:Hp}:∀{ds:List D} {ns:List Int} {ys:List V} {us:List Value},dJ ds=O ns->aD K T H S ds ys->aX ys us->IntsAre us ns
 |[],ns,ys,us,h,r,v=>by simp only[dJ]at h;cases h;unfold aD at r;subst r;cases v;exact .nil
 |d::ds,ns,ys,us,h,r,v=>by
  cases d<;>simp only[dJ,reduceCtorEq]at h
  rename_i i;rw[u5]at h;obtain⟨r',h1,rfl⟩:=h;unfold aD at r;obtain⟨x,w,rfl,z,rr⟩:=r;unfold Rep at z;subst z;cases v with
  |cons v1 I=>obtain⟨t,rfl⟩:=v1;exact .cons i t (mQ h1 rr I)
section
variable {prog:wg}{w:World}{A:Around}{E:wj}{s:Shared}
def AI{l:Addr}{ns:List Int}(hh:A.handled=U)(hl:s.heap.IsList l vs.toArray)(hi:IntsAre vs ns)(eu:0<ns.length) (h:∀h' σ (t:Tok) tk,(∀b o,s.heap.get? b=O o->h'.get? b=O o)->σ∈ns->(∀a,a∈ns->a<=σ)->Q (.int σ t) {s with heap:=h',toks:=tk}):wpAny (model prog w) A (call (.builtin "max") [.ref l]) Q E s:=by
 obtain⟨xs,e⟩:=hi.allInts.items;have z:ns=xs.toList.map (·.1):=by rw[<-hi.numsOf,<-nums_intItems,<-e]
 have hsz:0<xs.size:=by have h3:=eu;rw[z,t8,length_toList]at h3;exact h3
 rw[e]at hl;refine max_intList hh hl hsz λv h' tk hv hk=>?_;obtain⟨t,rfl⟩:=intItems_at hv;obtain⟨h1,h2⟩:=argBest_gt (numAt xs) (xs.size-1);refine h _ _ t tk hk ?_ λa ha=>?_;rw[z,numAt_eq];exact getD_mem (by rw[t8,length_toList];lia);rw[z]at ha;obtain⟨j,I,rfl⟩:=mem_getD ha;rw[t8,length_toList]at I;rw[<-numAt_eq];exact h2 j yx
def AE{l:Addr}{ns:List Int}(hh:A.handled=U)(hl:s.heap.IsList l vs.toArray)(hi:IntsAre vs ns)(eu:0<ns.length) (h:∀h' σ (t:Tok) tk,(∀b o,s.heap.get? b=O o->h'.get? b=O o)->σ∈ns->(∀a,a∈ns->σ<=a)->Q (.int σ t) {s with heap:=h',toks:=tk}):wpAny (model prog w) A (call (.builtin "min") [.ref l]) Q E s:=by
 obtain⟨xs,e⟩:=hi.allInts.items;have z:ns=xs.toList.map (·.1):=by rw[<-hi.numsOf,<-nums_intItems,<-e]
 have hsz:0<xs.size:=by have h3:=eu;rw[z,t8,length_toList]at h3;exact h3
 rw[e]at hl;refine min_intList hh hl hsz λv h' tk hv hk=>?_;obtain⟨t,rfl⟩:=intItems_at hv;obtain⟨h1,h2⟩:=argBest_lt (numAt xs) (xs.size-1);refine h _ _ t tk hk ?_ λa ha=>?_;rw[z,numAt_eq];exact getD_mem (by rw[t8,length_toList];lia);rw[z]at ha;obtain⟨j,I,rfl⟩:=mem_getD ha;rw[t8,length_toList]at I;rw[<-numAt_eq];exact h2 j yx
end
def aGx(hc:X.calm=Y):dE X (.builtin "max") (jn X.K T S PZ):=by
 rintro pins s M H xs us Q I r ⟨ds,d,dom,rl,e,q⟩;unfold PZ at e;split at e;obtain⟨x,y,rfl,rx,ry⟩:=rep2 rl;cases e;unfold Rep at rx ry;subst rx ry;exact IQ hc pins s M H _ us Q I r ⟨_,_,rfl,q _ H (aJ.refl H) dQ⟩;obtain⟨x,rfl,rx⟩:=rep1 rl;split at e;rename_i i t he;cases e;unfold Rep at rx;obtain⟨p,ys,rfl,_,hq,ry⟩:=rx;obtain⟨u,rfl,ru⟩:=vals1 r;cases ru;obtain⟨its,rv,pl,hz⟩:=I.list (SqL.of hq);have hi:=mQ he ry rv;refine AI (I.ok.hd hc) pl.isList hi y9 λh' σ tt tk hk hM hle=>⟨.int σ,H,I.kept (t':=tk) hk,⟨_,rfl⟩,?_⟩;obtain⟨m1,m2,m3⟩:=sG t i;have e1:mL i t∈i::t:=by rcases m1 with z|z;rw[z];simp;exact tw _ z
 have e2:σ<=mL i t:=by rcases ui.mp hM with z|z;rw[z];exact m2;exact m3 σ z
 have e3:σ=mL i t:=Int.le_antisymm e2 (hle _ e1);rw[e3];exact q _ H (aJ.refl H) dQ;cases e;cases e
def aGw(hc:X.calm=Y):dE X (.builtin "min") (jn X.K T S YO):=by
 rintro pins s M H xs us Q I r ⟨ds,d,dom,rl,e,q⟩;unfold YO at e;split at e;obtain⟨x,y,rfl,rx,ry⟩:=rep2 rl;cases e;unfold Rep at rx ry;subst rx ry;exact IP hc pins s M H _ us Q I r ⟨_,_,rfl,q _ H (aJ.refl H) dQ⟩;obtain⟨x,rfl,rx⟩:=rep1 rl;split at e;rename_i i t he;cases e;unfold Rep at rx;obtain⟨p,ys,rfl,_,hq,ry⟩:=rx;obtain⟨u,rfl,ru⟩:=vals1 r;cases ru;obtain⟨its,rv,pl,hz⟩:=I.list (SqL.of hq);have hi:=mQ he ry rv;refine AE (I.ok.hd hc) pl.isList hi y9 λh' σ tt tk hk hM hle=>⟨.int σ,H,I.kept (t':=tk) hk,⟨_,rfl⟩,?_⟩;obtain⟨m1,m2,m3⟩:=sD t i;have e1:pH i t∈i::t:=by rcases m1 with z|z;rw[z];simp;exact tw _ z
 have e2:pH i t<=σ:=by rcases ui.mp hM with z|z;rw[z];exact m2;exact m3 σ z
 have e3:σ=pH i t:=Int.le_antisymm (hle _ e1) e2;rw[e3];exact q _ H (aJ.refl H) dQ;cases e;cases e
end
section
variable {CX:ar}{X:Cx}{c:CC}{G:GS}{T:Tx}{lv:Nat}{B:List Sl}{S:Addr->Prop}{pos:Pos}{ea eb ec:Expr}{a b d:D}
noncomputable def l6:D->Option String
 |.non=>O "NoneType"
 |.bl _=>O "bool"
 |.int _=>O "int"
 |.str _=>O "str"
 |.lst _=>O "list"
 |.tup _=>O "tuple"
 |_=>U
def MK{x:V}{u c:Value}{k:Bool}(I:Inv X pins M H s)(rx:RelV x u)(rep:Rep X.K T H S d x)(ht:l6 d=O tn) (e:kitOne X.K (.type tn) c=O k) (h:∀tk,Q (.bool k) {s with toks:=tk}):wpAny (model X.prog X.w) A (call (.builtin "isinstance") [u,c]) Q E s:=by
 cases d<;>simp only[l6,reduceCtorEq,so]at ht
 all_goals subst ht
 unfold Rep at rep;subst rep;exact hJ I rx (.non) e h;unfold Rep at rep;subst rep;exact hJ I rx (.bl _) e h;unfold Rep at rep;subst rep;exact hJ I rx (.int _) e h;unfold Rep at rep;subst rep;exact hJ I rx (.str _) e h;unfold Rep at rep;obtain⟨p,xs,rfl,_,hq,_⟩:=rep;exact hJ I rx (.lst hq) e h;unfold Rep at rep;obtain⟨p,xs,rfl,_,hq,_⟩:=rep;obtain rfl:u=Value.ref p:=rx;obtain⟨its,rv,⟨o,h1,h2,_⟩,_⟩:=I.tuple hq;exact kia_one PySem.W.kitx_tuple I.kIn ⟨o,h1,h2⟩ e (λz=>nomatch z) h
def hU(K:wc):∀(t n:String),(t,n)∈([("NoneType","int"),("NoneType","bool"),("NoneType","str"),("NoneType","list"),("NoneType","tuple"),("bool","str"),("bool","list"),("bool","tuple"),("int","bool"),("int","str"),("int","list"),("int","tuple"),("str","int"),("str","bool"),("str","list"),("str","tuple"),("list","int"),("list","bool"),("list","str"),("list","tuple"),("tuple","int"),("tuple","bool"),("tuple","str"),("tuple","list")]:List (String×String))->kitOne K (.type t) (.type n)=O J:=by intro t n h;simp only[ui,Prod.mk.injEq,vp,or_false]at h;rcases h with ⟨rfl,rfl⟩|⟨rfl,rfl⟩|⟨rfl,rfl⟩|⟨rfl,rfl⟩|⟨rfl,rfl⟩|⟨rfl,rfl⟩|⟨rfl,rfl⟩|⟨rfl,rfl⟩|⟨rfl,rfl⟩|⟨rfl,rfl⟩|⟨rfl,rfl⟩|⟨rfl,rfl⟩|⟨rfl,rfl⟩|⟨rfl,rfl⟩|⟨rfl,rfl⟩|⟨rfl,rfl⟩|⟨rfl,rfl⟩|⟨rfl,rfl⟩|⟨rfl,rfl⟩|⟨rfl,rfl⟩|⟨rfl,rfl⟩|⟨rfl,rfl⟩|⟨rfl,rfl⟩|⟨rfl,rfl⟩<;>kernel_rfl
def ML(K:wc):kitOne K (.type "bool") (.type "int")=O Y:=yz
def jF(K:wc)(t:String):kitOne K (.type t) (.type t)=O Y:=by unfold kitOne;rw[if_pos y9]
def aAN:¬(("bool":Str)="int")/\¬(("str":Str)="int")/\¬(("list":Str)="int")/\¬(("tuple":Str)="int")/\¬(("int":Str)="bool")/\¬(("str":Str)="bool")/\¬(("list":Str)="bool")/\¬(("tuple":Str)="bool") /\¬(("int":Str)="str")/\¬(("bool":Str)="str")/\¬(("list":Str)="str")/\¬(("tuple":Str)="str")/\¬(("int":Str)="list")/\¬(("bool":Str)="list")/\¬(("str":Str)="list")/\¬(("tuple":Str)="list") /\¬(("int":Str)="tuple")/\¬(("bool":Str)="tuple")/\¬(("str":Str)="tuple")/\¬(("list":Str)="tuple"):=y7
def aCY{t:Str}{k:Bool}(K:wc)(ht:jS.contains t=Y)(hd:l6 d=O tn)(h:jG G t d=O k):∃n:String,bootBuiltins t=O (.type n)/\kitOne K (.type tn) (.type n)=O k:=by
 obtain⟨n1,n2,n3,n4,n5,n6,n7,n8,n9,n10,n11,n12,n13,n14,n15,n16,n17,n18,I,z⟩:=aAN;have ht':t="int"\/t="bool"\/t="str"\/t="list"\/t="tuple":=by simpa [jS] using ht
 have b1:bootBuiltins "int"=O (.type "int"):=y7
 have b2:bootBuiltins "bool"=O (.type "bool"):=y7
 have b3:bootBuiltins "str"=O (.type "str"):=y7
 have b4:bootBuiltins "list"=O (.type "list"):=y7
 have b5:bootBuiltins "tuple"=O (.type "tuple"):=y7
 rcases ht' with rfl|rfl|rfl|rfl|rfl<;>cases d<;>simp only[l6,reduceCtorEq,so]at hd
 all_goals subst hd
 all_goals simp only[jG,n1,n2,n3,n4,n5,n6,n7,n8,n9,n10,n11,n12,n13,n14,n15,n16,n17,n18,I,z,if_true,if_false,true_or,or_true,or_false,or_self,so]at h
 all_goals subst h
 all_goals first
  |exact⟨_,b1,by first|exact jF K _|exact ML K|exact hU K _ _ y8⟩
  |exact⟨_,b2,by first|exact jF K _|exact hU K _ _ y8⟩
  |exact⟨_,b3,by first|exact jF K _|exact hU K _ _ y8⟩
  |exact⟨_,b4,by first|exact jF K _|exact hU K _ _ y8⟩
  |exact⟨_,b5,by first|exact jF K _|exact hU K _ _ y8⟩
def rF:bootBuiltins "isinstance"=O (.builtin "isinstance"):=y7
def aFN(h:XC CX X c G T lv){t:Str}{k:Bool}(hg:bE c "isinstance"=Y)(hm:X.mg "isinstance"=U)(hgt:bE c t=Y)(hmt:X.mg t=U)(ht:jS.contains t=Y)(ha:PE X ea (tD X.K T S B a))(hs:starEach [ea,.Name t p2] X.env=[(J,eval ea X.env),(J,eval (.Name t p2) X.env)]) (hd:l6 a=O tn) (hi:jG G t a=O k):PE X (.Call (.Name "isinstance" p) [ea,.Name t p2] [] pos) (tD X.K T S B (.bl k)):=by
 obtain⟨n,hb,hk⟩:=aCY X.K ht hd hi;have hnn:t≠"__name__":=by intro z;subst z;revert ht;decide +kernel
 have hp:PE X (.Name t p2) (tC (.ty n)):=WB (h.glob hgt) hmt hb rfl hnn (h.gne hgt);have hc:dE X (.builtin "isinstance") (λxs H Q=>∃x,xs=[x,.ty n]/\Rep X.K T H S a x/\Q (.bl k) H):=by rintro pins s M H xs us Q I r ⟨x,rfl,rep,q⟩;obtain⟨u,w',rfl,r1,r2⟩:=vals2 r;obtain rfl:w'=Value.type n:=r2;exact MK I r1 rep hd hk λtk=>⟨.bl k,H,I.tok tk,rfl,q⟩
 have hs1:starEach [ea,.Name t p2] X.env=(J,eval ea X.env)::starEach [.Name t p2] X.env:=hs;refine PE.mono (eF hc (h.glob hg) hm rF (eG ha (eG hp gO) hs1) y7 ?_ ?_ ?_) λM H Q ⟨re,q⟩=>⟨re,λx H1 s1 r1=>⟨x,rfl,r1,q _ H1 s1 bQ⟩⟩;all_goals first|exact h.gne hg|exact hs1|rfl|decide +kernel
end
def gL{o:Expr}{m:Str}(ho:iE o=Y):attributeBase o m env (eval o env)=eval o env:=by cases o<;>first|rfl|(simp[iE]at ho)
theorem qT{env:Env}{pos:Pos}:∀(l:List Expr),(backTo pos (l.map λe=>(J,eval e env))).all (!·.1)=Y
 |[]=>rfl
 |_::r=>qT r
def LP{o:Expr}{m:Str}{args:List Expr}{apos:Pos}(ho:iE o=Y)(hs:starEach args X.env=args.map λe=>(J,eval e X.env))(hl:args.length<30)(hp:(apos.endLine == pos.line)=Y):zD X o m args apos pos:=by
 refine⟨do return (<-importBound o X.env).getD Y,?_⟩;show (do
  let I <-attributeBase o m X.env (eval o X.env)
  standAt apos.atName
  methodCall o m apos pos X.env I (args.length+0) (backTo pos (starEach args X.env)) (backToKw pos (keywordEach [] X.env)))=_
 rw[gL ho];have hf:methodCallForm (args.length+0) (backTo pos (starEach args X.env)) (backToKw pos (keywordEach [] X.env))=Y:=by unfold methodCallForm;rw[hs,qT];simp[backToKw,keywordEach];first|lia|(refine⟨?_,?_⟩<;>first|rfl|lia)
 have z:methodCallPos Y o X.env apos pos=pure pos:=by unfold methodCallPos;rw[hp];rfl
 unfold methodCall;rw[hf,z];unfold calleeOf;rfl
section
variable {K:wc}{T:Tx}{H:Hp}{S:Addr->Prop}
theorem aZ.len:∀{kvs:List (Int×D)} {gs:List (Key×V)},aZ K T H S kvs gs->kvs.length=gs.length
 |[],gs,h=>by unfold aZ at h;subst h;rfl
 | (i,d)::kvs,gs,h=>by unfold aZ at h;obtain⟨x,r,rfl,_,q⟩:=h;exact congrArg (· + 1) (aZ.len q)
def aZ.nil:aZ K T H S [] []:=by unfold aZ;rfl
def aZ.cons{i:Int}{d:D}{x:V}{kvs:List (Int×D)}{gs:List (Key×V)}(h:Rep K T H S d x)(g:aZ K T H S kvs gs):aZ K T H S ((i,d)::kvs) ((Sum.inl i,x)::gs):=by unfold aZ;exact⟨x,gs,rfl,h,g⟩
def MP{i j:Int}(h:¬i=j):¬(Sum.inl i:Key)=Sum.inl j:=λz=>h (Sum.inl.inj z)
theorem aZ.val{k:Int}:∀{kvs:List (Int×D)} {gs:List (Key×V)},aZ K T H S kvs gs->(∀d,bL kvs k=O d->∃x,gE gs (Sum.inl k)=O x/\Rep K T H S d x)/\(bL kvs k=U->gE gs (Sum.inl k)=U)
 |[],gs,h=>by unfold aZ at h;subst h;exact⟨λd e=>(nomatch (show U=O d from e)),λ_=>rfl⟩
 | (i,d)::kvs,gs,h=>by
  unfold aZ at h;obtain⟨x,r,rfl,p,q⟩:=h;obtain⟨i1,I⟩:=aZ.val (k:=k) q;by_cases e:i=k;have e1:bL ((i,d)::kvs) k=O d:=by unfold bL;rw[List.find?_cons_of_pos (by simpa using e)];rfl
  rw[e1,gT (congrArg Sum.inl e)];exact⟨λd' z=>⟨x,rfl,by cases z;exact p⟩,λz=>by cases z⟩;have e1:bL ((i,d)::kvs) k=bL kvs k:=by unfold bL;rw[List.find?_cons_of_neg (by simpa using e)]
  rw[e1,gU (MP e)];exact⟨i1,I⟩
theorem aZ.any{k:Int}:∀{kvs:List (Int×D)} {gs:List (Key×V)},aZ K T H S kvs gs->(kvs.any λI=>decide (I.1=k))=gs.any λI=>decide (I.1=(Sum.inl k:Key))
 |[],gs,h=>by unfold aZ at h;subst h;rfl
 | (i,d)::kvs,gs,h=>by unfold aZ at h;obtain⟨x,r,rfl,p,q⟩:=h;rw[any_cons,any_cons,aZ.any q];congr 1;exact decide_eq_decide.mpr ⟨λz=>congrArg Sum.inl z,λz=>Sum.inl.inj z⟩
theorem aZ.repl{k:Int}{d:D}(hv:Rep K T H S d v):∀{kvs:List (Int×D)} {gs:List (Key×V)},aZ K T H S kvs gs->aZ K T H S (kvs.map λz=>if z.1=k then(z.1,d) else z) (gs.map λz=>if z.1=(Sum.inl k:Key) then(z.1,v) else z)
 |[],gs,h=>by unfold aZ at h;subst h;exact aZ.nil
 | (i,d')::kvs,gs,h=>by unfold aZ at h;obtain⟨x,r,rfl,p,q⟩:=h;rw[uu,uu];by_cases e:i=k;rw[if_pos e,if_pos (congrArg Sum.inl e)];exact aZ.cons hv (aZ.repl hv q);rw[if_neg e,if_neg (MP e)];exact aZ.cons p (aZ.repl hv q)
theorem aZ.snoc{k:Int}{d:D}(hv:Rep K T H S d v):∀{kvs:List (Int×D)} {gs:List (Key×V)},aZ K T H S kvs gs->aZ K T H S (kvs++[(k,d)]) (gs++[(Sum.inl k,v)])
 |[],gs,h=>by unfold aZ at h;subst h;exact aZ.cons hv aZ.nil
 | (i,d')::kvs,gs,h=>by unfold aZ at h;obtain⟨x,r,rfl,p,q⟩:=h;exact aZ.cons p (aZ.snoc hv q)
def aZ.put{k:Int}{d:D}(hv:Rep K T H S d v){kvs:List (Int×D)}{gs:List (Key×V)}(h:aZ K T H S kvs gs):aZ K T H S (gW kvs k d) (putK gs (Sum.inl k) v):=by unfold gW putK;rw[aZ.any h];split;exact aZ.repl hv h;exact aZ.snoc hv h
end
section
variable {CX:ar}{X:Cx}{c:CC}{G:GS}{T:Tx}{lv:Nat}{B:List Sl}{S:Addr->Prop}{pos:Pos}{ea eb ec:Expr}{a b d:D}
def aFU(hu:X.A.units+1<cLine){i:Int}{kvs:List (Int×D)}(ha:PE X ea (tD X.K T S B (.dct kvs)))(hb:PE X eb (tD X.K T S B (.int i)))(hp:lX eb)(hd:bL kvs i=O d):PE X (.Subscript ea eb pos) (tD X.K T S B d):=PE.mono (DH hu ha hb hp) λM H Q ⟨re,q⟩=>⟨re,λx H1 s1 z=>⟨re.same s1,λy H2 s2 I=>by have z:=z.same s2;unfold Rep at z I;subst I;obtain⟨p,gs,rfl,_,e,rk⟩:=z;obtain⟨v,e1,rv⟩:=(aZ.val (k:=i) rk).1 d hd;refine⟨p,v,rfl,?_,q v H2 (s1.trans s2) rv⟩;rw[<-e1];exact vY.k (k:=Sum.inl i) e⟩⟩
def rU{kvs:List (Int×D)}(re:RE X.K T H S B M)(h:nI B i=O kvs):∃p gs,M[i]?=O (O (.ref p))/\H p=O (.dK gs)/\aZ X.K T H S kvs gs:=by unfold nI at h;split at h;rename_i e;cases h;obtain⟨v,e1,r⟩:=re.at_ i _ e;unfold Rep at r;obtain⟨p,gs,rfl,_,e2,z⟩:=r;exact⟨p,gs,e1,e2,z⟩;rename_i e;cases h;obtain⟨p,ob,e1,_,e2,I⟩:=re.at_ i _ e;obtain⟨gs,rfl,z⟩:=I.dct;exact⟨p,gs,e1,e2,z⟩;cases h
def aFL(h:XC CX X c G T lv)(hu:X.A.units+1<cLine){j:Nat}{i:Int}{kvs:List (Int×D)}(e:bJ c x=O j)(hb:PE X eb (tD X.K T S B (.int i)))(hp:lX eb)(hs:nI B j=O kvs)(hd:bL kvs i=O d):PE X (.Subscript (.Name x p2) eb pos) (tD X.K T S B d):=PE.mono (DH hu (gZ h e) hb hp) λM H Q ⟨re,q⟩=>by obtain⟨p,gs,e1,e2,I⟩:=rU re hs;refine⟨.ref p,e1,re,λy H2 s2 z=>?_⟩;unfold Rep at z;subst z;obtain⟨v,e3,rv⟩:=(aZ.val (k:=i) (aZ.gen (show aU X.K H H2 S S fromλa n _=>⟨n,λo e=>s2 a o e⟩) _ _ I)).1 d hd;refine⟨p,v,rfl,?_,q v H2 s2 rv⟩;rw[<-e3];exact vY.k (k:=Sum.inl i) (s2 _ _ e2)
def aCz(xc:XC CX X c G T lv){y:Str}{py q:Pos}{kvs:List (Int×D)}(hg:bE c "len"=Y)(hm:X.mg "len"=U)(e:bJ c y=O i)(hs:nI B i=O kvs):PE X (.Call (.Name "len" p) [.Name y py] [] q) (tD X.K T S B (.int kvs.length)):=by have st:starEach [.Name y py] X.env=(J,eval (.Name y py) X.env)::starEach [] X.env:=rfl;refine PE.mono (eF IR (xc.glob hg) hm y7 (eG (gZ xc e) gO st) y7 y7 rfl rfl) λM H Q ⟨re,q⟩=>?_;obtain⟨p,gs,e1,e2,z⟩:=rU re hs;exact⟨_,e1,p,gs,rfl,e2,by rw[<-aZ.len z];exact q _ H (aJ.refl H) dQ⟩
end
def YW:bootBuiltins "enumerate"=O (.type "enumerate"):=y7
def CJ{h':Heap}{t':Nat}{b:Addr}(I:Inv X pins M H s)(k:∀c o,c≠a->c≠b->s.heap.get? c=O o->h'.get? c=O o)(fa:lD X pins H a)(fb:lD X pins H b):Inv X pins M H {s with heap:=h',toks:=t' }:=by
 have nv:∀{c:Addr},c∉[a,b]->c≠a/\c≠b:=λ{c} h=>⟨λz=>h (by simp[z]),λz=>h (by simp[z])⟩;have sees:∀c u,H c=O u->c≠a/\c≠b:=λc u e=>⟨λz=>(by rw[z,fa.1]at e;cases e),λz=>(by rw[z,fb.1]at e;cases e)⟩;refine I.step (g':=s.gens) (d':=s.drawn) (ch:=[a,b]) (λc hc=>?_) (λc o _ _ hc e _=>k c o (nv hc).1 (nv hc).2 e) (λc o _ _ hc e _=>⟨o.slots,k c o (nv hc).1 (nv hc).2 e⟩) (λ_ _ _ _ n=>n) (λc o hc e=>⟨o,k c o (nv hc).1 (nv hc).2 e⟩) (λ_ _ e=>e) (λ_ _ _ e=>e) (λc ps e=>⟨#[],by rw[e];simp⟩) (λm hm=>?_) (λc u e=>?_) I.bare;rcases ui.mp hc with rfl|hc;exact⟨fa.2.2.2.1,fa.2.1,fa.2.2.2.2.1,fa.2.2.2.2.2⟩;obtain rfl:=uh.mp hc;exact⟨fb.2.2.2.1,fb.2.1,fb.2.2.2.2.1,fb.2.2.2.2.2⟩;obtain⟨o,es,ep,ho,r⟩:=hm;exact⟨o,es,ep,k _ o (Ne.symm fa.2.1) (Ne.symm fb.2.1) ho,r⟩;refine(I.hok c u e).stay (λd v hd q=>?_) (λ_ q=>q) λ_ _ q=>q;have n:d≠a/\d≠b:=by rcases hd with z|z;rw[z];exact sees c u e;exact sees d _ z
 exact k d v n.1 n.2 q
def Ite(K:wc)(a:Addr):It:=⟨λi H=>∃xs x,SqL K H a xs/\xs[i]?=O x,λi H x H'=>∃p y,x=.ref p/\H p=U/\H'=upd H p (.tup [.int i,y])/\∀xs,SqL K H a xs->xs[i]?=O y,λi H=>∃xs,SqL K H a xs/\xs.length<=i⟩
def FY{j:Nat}{q:Pos}(a e it:Addr)(eu:e≠it):Turn P w K (.Tuple es j q) (Ite K a) [e,it] e (λi h=>(∃old,IsEnum h e it (i:Nat) old)/\h.IsListIter it a i) where
 mem:=by simp
 obj:=λi h st b hb=>by
  obtain⟨⟨old,he⟩,hi⟩:=st
  rcases ui.mp hb with rfl|hb
  .exact⟨_,he,λv z=>by
    have z':Data.fields _=Data.cell v:=z
    cases z'⟩
  .obtain rfl:=uh.mp hb;obtain⟨o,e,c,d⟩:=hi;exact⟨o,e,λv z=>by rw[d]at z;cases z⟩
 keep:=λi h h' st k=>⟨let ⟨old,he⟩:=st.1;⟨old,k e y9 _ he⟩,st.2.at λo x=>k it y9 o x⟩
 item:=by
  intro X hP hw hK hc i pins s M H E I hf st hg;subst hP hw hK;obtain⟨xs,x,hq,hx⟩:=hg;obtain⟨its,rv,p,hz⟩:=I.list hq;obtain⟨u,hu,ru⟩:=rv.get hx;obtain⟨⟨old,he⟩,hi⟩:=st;have hT:=I.hok.fresh (t9 s.heap.objs.size)
  have eT:e≠s.heap.objs.size:=v3 (uf he)
  have iT:it≠s.heap.objs.size:=by obtain⟨o,e',_⟩:=hi;exact v3 (uf e')
  refine wpAny_pyNext_enum_item he hi p.isList (x:=u) (by simpa using hu) eu λh1 ho hi1 hT1 hsz hk=>?_
  refine⟨_,rfl,wpAny_letOwnedTupleGo_enum (s:={s with heap:=h1,toks:=s.toks+1}) ho λh2 he2 hs=>?_⟩
  have I1:Inv X pins M (upd H s.heap.objs.size (.tup [.int i,x])) {s with heap:=s.heap.push {cls:=.type "tuple",data:=.seq #[.int i s.toks,u]},toks:=s.toks}:=
   I.laid (λb o e=>tm _ e) (t9 _) ⟨ug (show 2<=big from by decide) eU,[.int i s.toks,u],.cons ⟨_,rfl⟩ (.cons ru .nil),⟨_,ve _ rfl,rfl,_,rfl⟩⟩
  have fo:∀b,b∈[e,it]->b≠s.heap.objs.size->lD X pins (upd H s.heap.objs.size (.tup [.int i,x])) b:=λb hb hn=>by
   obtain⟨f0,f1⟩:=hf b hb;exact⟨(aM hn).trans f0,f1⟩
  have I2:Inv X pins M (upd H s.heap.objs.size (.tup [.int i,x])) {s with heap:=h2,toks:=s.toks+1}:=by
   have q:=CJ (h':=h2) (t':=s.toks+1) I1 (λb o n1 n2 eb=>by
    rw[hs.2 b n1]
    rcases Heap.get?_push_cases eb with ⟨rfl,rfl⟩|eb
    .exact hT1
    .exact hk b o n1 n2 eb) (fo e y9 eT) (fo it y9 iT)
   exact q
  refine⟨.ref s.heap.objs.size,_,I2,rfl,⟨_,x,rfl,hT,rfl,λys hy=>by rw[I.list_inj hy hq];exact hx⟩,⟨⟨_,by simpa using he2⟩,hi1.at λo y=>(hs.2 it eu.symm).trans y⟩,λb hb=>?_⟩
  rcases ui.mp hb with rfl|hb
  .exact(fo b y9 eT).1
  .obtain rfl:=uh.mp hb;exact(fo b y9 iT).1
 done:=by
  intro X hP hw hK hc i pins s M H E I hf st hg;subst hP hw hK;obtain⟨xs,hq,hx⟩:=hg;obtain⟨its,rv,p,hz⟩:=I.list hq;obtain⟨⟨old,he⟩,hi⟩:=st;have hl:=rv.length
  exact wpAny_pyNext_enum_end (I.ok.hd hc) he hi p.isList (by simp;lia) λh' eb=>⟨rfl,CJ I (t':=s.toks) (λb o n1 n2 y=>eb b o n2 y) (hf e y9) (hf it y9)⟩
 self:=λ_ _ _ _ _ st h=>let ⟨_,he⟩:=st.1;wpAny_pyIter_enum he h
section
variable {CX:ar}{X:Cx}{c:CC}{G:GS}{T:Tx}{lv:Nat}{B:List Sl}{S:Addr->Prop}
theorem sW:∀{ds:List D} {k i:Nat} {d:D},(jN k ds)[i]?=O d->∃d',ds[i]?=O d'/\d=.tup [.int (k+i:Nat),d']
 |[],k,i,d,h=>by cases i<;>cases h
 |x::r,k,0,d,h=>by cases h;exact⟨x,rfl,rfl⟩
 |x::r,k,i+1,d,h=>by obtain⟨d',e1,e2⟩:=sW (ds:=r) (k:=k+1) (i:=i) h;exact⟨d',e1,by rw[e2,show k+1+i=k+(i+1) by lia]⟩
theorem kJ:∀{ds:List D} {k:Nat},(jN k ds).length=ds.length
 |[],_=>rfl
 |x::r,k=>congrArg (· + 1) (kJ (ds:=r) (k:=k+1))
def MJ{ds:List D}(n:¬S a)(hq:SqL X.K H1 a xs)(r:aD X.K T H1 S ds xs):jl X.K T S H1 (Ite X.K a) (jN 0 ds):=λH S' I dom=>by obtain⟨n',k⟩:=I a n (SqL.has hq);have z:=SqL.keeps hq k;refine⟨λi d e=>?_,λi hi=>⟨xs,z,by rw[<-r.len];rw[kJ]at hi;exact hi⟩⟩;obtain⟨d',e1,rfl⟩:=sW e;obtain⟨x,e2,rx⟩:=r.get e1;refine⟨⟨xs,x,z,e2⟩,λv H' hy=>?_⟩;obtain⟨p,y,rfl,hp,rfl,ey⟩:=hy;have:=ey xs z;rw[e2]at this;cases this;rw[uk];exact⟨aJ.upd hp,eZ dom hp (aD.cons (by unfold Rep;rfl) (aD.cons (Rep.gen I d' x rx) aD.nil))⟩
def xB{a:Expr}{q:Pos}{d:D}{ds:List D}{j:Nat}(hg:Gl X "enumerate")(hm:X.mg "enumerate"=U)(ha:PA X [a] (c9 X.K T S B [d]))(hs:starEach [a] X.env=[(J,eval a X.env)])(hi:AR d=O ds):PI X (.Tuple es j q) (.Call (.Name "enumerate" p) [a] [] pos) (tI X.K T S B ds):=by
 intro pins s M H α I ⟨re,q⟩;refine Call_ (fH I hg hm YW (uj (ah (ha pos pins s M H (λvs H'=>aJ H H'/\aD X.K T H' S [d] vs) I ⟨re,λvs H' a b=>⟨a,b⟩⟩) λus s1 ⟨vs,H1,I1,r1,sm,z⟩=>?_) hs rfl));unfold aD at z;obtain⟨x,r',rfl,rx,rr⟩:=z;unfold aD at rr;subst rr;cases r1 with
 |cons r rr=>
  cases rr;cases d<;>simp only[AR,reduceCtorEq,so]at hi
  rename_i ds';subst hi;unfold Rep at rx;obtain⟨l,xs,e,n,hq,z⟩:=rx;subst e;cases r;obtain⟨its,rv,pl,hz⟩:=I1.list (SqL.of hq);refine call_enumerate_list pl.isList λh' hE hI hsz hk=>?_;refine wpAny_pyIter_enum hE ?_;refine⟨s1.heap.objs.size+1,[s1.heap.objs.size+1,s1.heap.objs.size],_,_,H1,rfl,I1.kept (t':=s1.toks) hk,FY l _ _ (Nat.succ_ne_self _),⟨⟨.none,by simpa using hE⟩,hI⟩,λb hb=>?_,q _ _ sm (MJ n (SqL.of hq) z) ?_⟩;have hb:s1.heap.objs.size<=b:=by rcases ui.mp hb with rfl|hb;exact vh _;rw[uh.mp hb];exact t9 _
  exact I1.fpOk hb (I1.hok.fresh hb);rw[kJ,z.len];exact hz
end
structure Plain (e:Expr):Prop where
 star:∀(env:Env) (es:List Expr),starEach (e::es) env=(J,eval e env)::starEach es env
 marks:∀op,behindInMarks op e=J
 set_:∀env x,foldedSetIterable e env x=pure x
 ix:lX e
def cV{c:CC}{ir:IE}(h:cE n c e=O ir):Plain e:=by cases e<;>first|exact⟨λ_ _=>rfl,λ_=>rfl,λ_ _=>rfl,λ_ _=>rfl⟩|(cases n<;>exact nomatch (show U=O ir from h))
section
variable {CX:ar}{G:GS}{T:Tx}{lv:Nat}
def fj(CX:ar)(G:GS)(T:Tx)(lv n:Nat):Prop:=∀(X:Cx) (c:CC) (S:Addr->Prop) (B:List Sl) (e:Expr) (ir:IE),XC CX X c G T lv->cE n c e=O ir->∀d,ev G ir B=O d ->PE X e (tD X.K T S B d)
def oh(CX:ar)(G:GS)(T:Tx)(lv n:Nat):Prop:=∀(X:Cx) (c:CC) (S:Addr->Prop) (B:List Sl) (e:Expr) (ir:IE),XC CX X c G T lv->cT n c e=O ir->∀k,ev G ir B=O (.bl k)->PT X e (gx X.K T S B k)
def rj(CX:ar)(G:GS)(T:Tx)(lv n:Nat):Prop:=∀(X:Cx) (c:CC) (S:Addr->Prop) (B:List Sl) (k:Bool) (vs:List Expr) (ir:IE) (pos:Pos),XC CX X c G T lv ->(cB n c J k vs=O ir->∀d,ev G ir B=O d->PE X (.BoolOp (if k then .And else .Or) vs pos) (tD X.K T S B d)) /\(cB n c Y k vs=O ir->∀b,ev G ir B=O (.bl b)->PW X (.BoolOp (if k then .And else .Or) vs pos) (gx X.K T S B b))
def ke(CX:ar)(G:GS)(T:Tx)(lv n:Nat):Prop:=∀(X:Cx) (c:CC) (S:Addr->Prop) (B:List Sl) (es:List Expr) (ir:IE),XC CX X c G T lv->cA n c es=O ir->∀d,ev G ir B=O d ->∃ds,d=.tup ds/\ds.length=es.length/\PA X es (c9 X.K T S B ds)/\starEach es X.env=es.map λe=>(J,eval e X.env)
def RQ(k:Src)(tg:Expr):Prop:=k=.enum->∃es j p,tg=.Tuple es j p
def SG{c:CC}{k:Src}(z:cX c tg=O (bj,tp))(h:NG tp k=Y):RQ k tg:=λe=>by
 subst e;have I:tp=Y:=by simpa [NG,aCZ] using h
 subst I;cases tg<;>first|exact⟨_,_,_,rfl⟩|exact nomatch (show U=O _ from z)|skip
 obtain⟨i,_,h2⟩:=aP z;cases h2
def OkI(CX:ar)(G:GS)(T:Tx)(lv n:Nat):Prop:=∀(X:Cx) (c:CC) (S:Addr->Prop) (B:List Sl) (e:Expr) (k:Src) (ir:IE),XC CX X c G T lv->cI n c e=O (k,ir)->∀d ds,ev G ir B=O d->items k d=O ds ->(∀tg,RQ k tg->PI X tg e (tI X.K T S B ds))/\∀x,foldedSetIterable e X.env x=pure x
def LB(hE:fj CX G T lv n)(hA:ke CX G T lv n):ke CX G T lv (n+1):=by
 intro X c S B es ir xc h d hd;cases es with
 |nil=>cases (show O IE.nil=O ir from h);simp only[ev,so]at hd;exact⟨[],hd.symm,rfl,sC,rfl⟩
 |cons e es=>obtain⟨x,hx,h⟩:=aH h;obtain⟨y,hy,rfl⟩:=aP h;simp only[ev,tf,sr]at hd;obtain⟨a,ha,w,hw,hd⟩:=hd;obtain⟨ds,rfl,hl,z,hs⟩:=hA X c S B es y xc hy w hw;simp only[so]at hd;have st:=(cV hx).star X.env es;refine⟨a::ds,hd.symm,by simp[hl],pG (hE X c S B e x xc hx a ha) z st,?_⟩;rw[st,hs];rfl
def LA(hE:fj CX G T lv n)(hT:oh CX G T lv n)(hB:rj CX G T lv n):rj CX G T lv (n+1):=by
 intro X c S B k vs ir pos xc;refine⟨λh d hd=>?_,λh b hb=>?_⟩
 .cases vs with
  |nil=>exact nomatch (show U=O ir from h)
  |cons a r=>
   cases r with
   |nil=>exact aBU (hE X c S B a ir xc h d hd)
   |cons b r=>
    obtain⟨x,hx,h⟩:=aH h;obtain⟨y,hy,rfl⟩:=aP h;cases k with
    |true=>
     simp only[if_true,ev,tf,sr]at hd;obtain⟨w,hw,hd⟩:=hd;have p1:=(hE X c S B a x xc hx w hw);cases w<;>first|(simp only[reduceCtorEq]at hd;done)|skip
     rename_i kk;cases kk with
     |true=>
      simp only[sr]at hd;obtain⟨z,hz,hd⟩:=hd;have p2:=(hB X c S B Y (b::r) y pos xc).1 hy z hz;have km:z=d:=by cases z<;>simp_all
      subst km;exact PE.mono (KN p1 p2) λM H Q ⟨re,q⟩=>⟨re,λx H1 s1 I=>by unfold Rep at I;exact⟨Y,I,HN ⟨re.same s1,λv H' s2 r=>q v H' (s1.trans s2) r⟩⟩⟩
     |false=>simp only[so]at hd;subst hd;exact PE.mono (KN p1 (tb:=λ_ _ _=>False) (λ_ _ _ _ _ _ h=>h.elim)) λM H Q ⟨re,q⟩=>⟨re,λx H1 s1 I=>by unfold Rep at I;exact⟨J,I,xP (q _ H1 s1 bQ)⟩⟩
    |false=>
     simp only[tu,if_false,ev,tf,sr]at hd;obtain⟨w,hw,hd⟩:=hd;have p1:=(hE X c S B a x xc hx w hw);cases w<;>first|(simp only[reduceCtorEq]at hd;done)|skip
     rename_i kk;cases kk with
     |false=>
      simp only[sr]at hd;obtain⟨z,hz,hd⟩:=hd;have p2:=(hB X c S B J (b::r) y pos xc).1 hy z hz;have km:z=d:=by cases z<;>simp_all
      subst km;exact PE.mono (ZS p1 p2) λM H Q ⟨re,q⟩=>⟨re,λx H1 s1 I=>by unfold Rep at I;exact⟨J,I,xP ⟨re.same s1,λv H' s2 r=>q v H' (s1.trans s2) r⟩⟩⟩
     |true=>simp only[so]at hd;subst hd;exact PE.mono (ZS p1 (tb:=λ_ _ _=>False) (λ_ _ _ _ _ _ h=>h.elim)) λM H Q ⟨re,q⟩=>⟨re,λx H1 s1 I=>by unfold Rep at I;exact⟨Y,I,HN (q _ H1 s1 bQ)⟩⟩
 .cases vs with
  |nil=>exact nomatch (show U=O ir from h)
  |cons a r=>
   cases r with
   |nil=>
    cases k with
    |true=>exact VL (hT X c S B a ir xc h b hb)
    |false=>exact aBL (hT X c S B a ir xc h b hb)
   |cons b' r=>
    obtain⟨x,hx,h⟩:=aH h;obtain⟨y,hy,rfl⟩:=aP h;cases k with
    |true=>
     simp only[if_true,ev,tf,sr]at hb;obtain⟨w,hw,hb⟩:=hb;cases w<;>first|(simp only[reduceCtorEq]at hb;done)|skip
     rename_i kk;have p1:=hT X c S B a x xc hx kk hw;cases kk with
     |true=>
      simp only[sr]at hb;obtain⟨z,hz,hb⟩:=hb;have km:z=.bl b:=by cases z<;>simp_all
      subst km;have p2:=(hB X c S B Y (b'::r) y pos xc).2 hy b hz;exact PW.mono (JX p1 p2) λM H Q ⟨re,q⟩=>⟨re,λH1 s1=>HN ⟨re.same s1,λH' s2=>q H' (s1.trans s2)⟩⟩
     |false=>simp only[so,D.bl.injEq]at hb;subst hb;exact PW.mono (JX p1 (tB':=λ_ _ _=>False) (λ_ _ _ _ _ _ _ h=>h.elim)) λM H Q ⟨re,q⟩=>⟨re,λH1 s1=>xP (q H1 s1)⟩
    |false=>
     simp only[tu,if_false,ev,tf,sr]at hb;obtain⟨w,hw,hb⟩:=hb;cases w<;>first|(simp only[reduceCtorEq]at hb;done)|skip
     rename_i kk;have p1:=hT X c S B a x xc hx kk hw;cases kk with
     |false=>
      simp only[sr]at hb;obtain⟨z,hz,hb⟩:=hb;have km:z=.bl b:=by cases z<;>simp_all
      subst km;have p2:=(hB X c S B J (b'::r) y pos xc).2 hy b hz;exact PW.mono (ZQ p1 p2) λM H Q ⟨re,q⟩=>⟨re,λH1 s1=>xP ⟨re.same s1,λH' s2=>q H' (s1.trans s2)⟩⟩
     |true=>simp only[so,D.bl.injEq]at hb;subst hb;exact PW.mono (ZQ p1 (tB':=λ_ _ _=>False) (λ_ _ _ _ _ _ _ h=>h.elim)) λM H Q ⟨re,q⟩=>⟨re,λH1 s1=>HN (q H1 s1)⟩
def gK(xc:XC CX X c G T lv)(h1:fR.contains x=Y)(h2:c.fns.contains x=J)(h3:c.cls.contains x=J):X.mg x=U:=xc.go.bi x h1 h2 h3
def KY(hE:fj CX G T lv n)(hA:ke CX G T lv n):OkI CX G T lv (n+1):=by
 intro X c S B e k ir xc h d ds hd hi;have h:(match (nC c e).bind λq=>(srcOf q.1).map λk=>(k,q.2) with
  |some q=>(match q.1 with
   |.rng=>(cA n c q.2).map λy=>(Src.rng,IE.tup y)
   |.enum=>(one? q.2).bind λa=>(cE n c a).map λy=>(Src.enum,y)
   |k=>(one? q.2).bind λa=>(cE n c a).map λy=>(k,y))
  |none=>(cE n c e).map λy=>(Src.seq,y))=O (k,ir):=h
 cases hb:((nC c e).bind λq=>(srcOf q.1).map λk=>(k,q.2)) with
 |none=>
  rw[hb]at h;obtain⟨y,hy,e1⟩:=aP h;cases e1;exact⟨λtg _=>VU (hE X c S B e ir xc hy d hd) hi,(cV hy).set_ X.env⟩
 |some q=>
  rw[hb]at h;obtain⟨r,hr,hq⟩:=aH hb;obtain⟨k',hk,rfl⟩:=aP hq;obtain⟨p1,p2,rfl,hg,ho⟩:=jQ hr;obtain⟨hf,hc⟩:=DJ ho
  by_cases z:k'=Src.enum
  .subst z;have hx:r.1="enumerate":=by
    unfold srcOf at hk;split at hk
    .cases hk
    .split at hk
     .cases hk
     .split at hk
      .assumption
      .cases hk
   obtain⟨x,args⟩:=r;dsimp only at hx;subst hx;obtain⟨a,ha,h⟩:=aH h;obtain rfl:=bZ ha;obtain⟨y,hy,e1⟩:=aP h;cases e1;have st:=(cV hy).star X.env []
   refine⟨λtg ht=>?_,λ_=>rfl⟩
   obtain⟨es,j,p,rfl⟩:=ht rfl;exact xB (xc.glob hg) (gK xc y7 hf hc) (pG (hE X _ S B a ir xc hy d hd) sC st) st hi
  have hx:(r.1="range"/\k'=.rng)\/(r.1="reversed"/\k'=.rev):=by
   unfold srcOf at hk;split at hk
   .rename_i e0;cases hk;exact .inl ⟨e0,rfl⟩
   .split at hk
    .rename_i e0;cases hk;exact .inr ⟨e0,rfl⟩
    .split at hk
     .cases hk;exact absurd rfl z
     .cases hk
  obtain⟨x,args⟩:=r
  rcases hx with ⟨rfl,rfl⟩|⟨rfl,rfl⟩
  .obtain⟨y,hy,e1⟩:=aP h;cases e1;simp only[ev,u5]at hd;obtain⟨as,has,rfl⟩:=hd;have I:ev G y B=O (.tup as):=by
    unfold bG at has;split at has
    .cases has;assumption
    .cases has
   obtain⟨oa,e1,hl,pa,hs⟩:=hA X _ S B args y xc hy _ I;cases e1;exact⟨λtg _=>VV (xc.glob hg) (gK xc y7 hf hc) pa hs hi hl,λ_=>rfl⟩
  .obtain⟨a,ha,h⟩:=aH h;obtain rfl:=bZ ha;obtain⟨y,hy,e1⟩:=aP h;cases e1;have st:=(cV hy).star X.env []
   exact⟨λtg _=>VW (xc.glob hg) (gK xc y7 hf hc) (pG (hE X _ S B a ir xc hy d hd) sC st) st hi,λ_=>rfl⟩
end
section
variable {CX:ar}{X:Cx}{c:CC}{G:GS}{T:Tx}{lv:Nat}{B:List Sl}{S:Addr->Prop}{pos p:Pos}{ea:Expr}
noncomputable def YE:Bool->CmpOp
 |false=>.In
 |true=>.NotIn
def KO(h:XC CX X c G T lv){y:Str}{kvs:List (Str×D)}(e:bE c x=Y)(hk:G.dk x=O kvs)(ha:PE X ea (tD X.K T S B (.str y)))(neg:Bool):PC X (YE neg) ea (.Name x p) (tD X.K T S B (.bl (neg != (kvs.lookup y).isSome))):=by
 obtain⟨a,hm,hs,o,vs,hl,hd,z,_⟩:=h.go.dk x kvs hk;intro pins s M H Q I ⟨re,q⟩;refine ah (ha pins s M H (λv H'=>aJ H H'/\Rep X.K T H' S (.str y) v) I ⟨re,λv H' sm r=>⟨sm,r⟩⟩) λiv s1 ⟨v,H1,I1,ry,sm,r⟩=>?_;refine fQ I1 (h.glob e) hm ?_ (h.gne e);unfold Rep at r;subst r;obtain⟨t,rfl⟩:=ry;have dd:s1.heap.DictOf (bV X.prog X.w) a vs:=Heap.dictOf_iff.mpr ⟨o,I1.kIn a o hl,hd⟩;have fin:∀b,b=(neg != (kvs.lookup y).isSome)->EP X pins M Q (.bool b) {s1 with toks:=s1.toks+1}:=λb hb=>⟨.bl b,H1,I1.tok _,rfl,q _ H1 sm (by rw[hb];unfold Rep;rfl)⟩;cases neg with
 |false=>exact wpAny_in_of (knd:=bV X.prog X.w) (eA X.prog X.w y t) hs dd.mapOf (fin _ (by rw[z];simp))
 |true=>exact wpAny_notIn_of (knd:=bV X.prog X.w) (eA X.prog X.w y t) hs dd.mapOf (fin _ (by rw[z];simp))
def aFP(h:XC CX X c G T lv){y:Str}{kvs:List (Str×D)}(e:bE c x=Y)(hk:G.dk x=O kvs)(ha:PE X ea (tD X.K T S B (.str y)))(neg:Bool):PE X (.Compare ea [YE neg] [.Name x p] pos) (tD X.K T S B (.bl (neg != (kvs.lookup y).isSome))):=aBY (KO h e hk ha neg) (by cases neg<;>rfl)
def aCB(h:XC CX X c G T lv){y:Str}{kvs:List (Str×D)}(e:bE c x=Y)(hk:G.dk x=O kvs)(ha:PE X ea (tD X.K T S B (.str y)))(neg:Bool):PT X (.Compare ea [YE neg] [.Name x p] pos) (gx X.K T S B (neg != (kvs.lookup y).isSome)):=PT.mono (aBN (KO h e hk ha neg) (by cases neg<;>rfl)) λM H Q ⟨re,q⟩=>⟨re,λv H' z r=>by unfold Rep at r;exact⟨_,r,q H' z⟩⟩
def aFM{eb:Expr}(h:XC CX X c G T lv){y:Str}{kvs:List (Str×D)}{d:D}(e:bE c x=Y)(hk:G.dk x=O kvs)(ha:PE X eb (tD X.K T S B (.str y)))(hs:aDP eb)(hd:kvs.lookup y=O d):PE X (.Subscript (.Name x p) eb pos) (tD X.K T S B d):=by
 obtain⟨a,hm,dj,o,vs,hl,hdd,hks,hvs⟩:=h.go.dk x kvs hk;intro pins s M H Q I ⟨re,q⟩;refine CP PySem.F.slot_dict_getitem.lookup hs (fQ I (h.glob e) hm ?_ (h.gne e));refine ah (ha pins s M H (λv H'=>aJ H H'/\Rep X.K T H' S (.str y) v) I ⟨re,λv H' z r=>⟨z,r⟩⟩) λiv s1 ⟨v,H1,I1,ry,z,r⟩=>?_;unfold Rep at r;subst r;obtain⟨t,rfl⟩:=ry;have dd:s1.heap.DictOf (bV X.prog X.w) a vs:=Heap.dictOf_iff.mpr ⟨o,I1.kIn a o hl,hdd⟩;have hv:(valueAt vs (Sum.inr y)).isSome=Y:=by rw[hks,hd];rfl
 obtain⟨u,hu⟩:=Option.isSome_iff_exists.mp hv;obtain⟨w,cW,rep⟩:=hvs y d u hd hu;refine⟨?_,wpAny_getItem_of (knd:=bV X.prog X.w) (eA X.prog X.w y t) dd.mapOf hu ⟨w,H1,I1.tok _,cW,q _ H1 z (rep H1 S (MA I1) (re.same z).dom)⟩⟩;exact dd.typeIs
end
section
variable {X:Cx}{T:Tx}{S:Addr->Prop}
theorem pX{K:wc}{H:Hp}:∀{ds:List D} {ns:List Bool} {ys:List V} {us:List Value},jK ds=O ns->aD K T H S ds ys->aX ys us->us=ns.map .bool
 |[],ns,ys,us,h,r,v=>by simp only[jK]at h;cases h;unfold aD at r;subst r;cases v;rfl
 |d::ds,ns,ys,us,h,r,v=>by
  cases d<;>simp only[jK,reduceCtorEq]at h
  rename_i i;rw[u5]at h;obtain⟨r',h1,rfl⟩:=h;unfold aD at r;obtain⟨x,w,rfl,z,I⟩:=r;unfold Rep at z;subst z;cases v with
  |cons h2 h3=>cases h2;rw[pX h1 I h3];rfl
def aGB(hc:X.calm=Y):dE X (.builtin "any") (jn X.K T S YQ):=by
 rintro pins s M H xs us Q I r ⟨ds,d,dom,rl,e,q⟩;unfold YQ at e;split at e;obtain⟨x,rfl,z⟩:=rep1 rl;obtain⟨bs,he,rfl⟩:=u5.mp e;unfold Rep at z;obtain⟨p,ys,rfl,_,hq,ry⟩:=z;obtain⟨u,rfl,ru⟩:=vals1 r;cases ru;obtain⟨its,rv,pl,hz⟩:=I.list (SqL.of hq);have hb:=pX he ry rv;subst hb;have hl:=pl.isList;have c6:p<s.heap.objs.size:=by obtain⟨_,e,_⟩:=hl;exact uf e
 refine call_any_walk (wpAny_pyIter_list hl ?_);refine⟨s.heap.objs.size,[s.heap.objs.size,p],[s.heap.objs.size],(bs.map Value.bool).toArray.size,_,_,λi=>(bs[i]?).getD J,rfl,Walks.list (A:=X.A.in1) (I.ok.hd hc) _ p (v3 c6) (bs.map Value.bool).toArray,⟨⟨_,ve _ rfl,rfl,rfl⟩,hl.push _⟩,λi v s' Q' E' hP hQ=>?_,λh' tk hk=>?_⟩;have qg:(bs.map Value.bool)[i]?=O v:=by simpa using hP
 rw[sv,u5]at qg;obtain⟨b,e,rfl⟩:=qg;simp only[e,getD_some]at hQ;exact wpAny_truthy_bool hQ;have e:((List.range (bs.map Value.bool).toArray.size).any λi=>(bs[i]?).getD J)=bs.any id:=by rw[u0,t8];exact LSm.range_any bs
 rw[e];exact⟨.bl _,H,I.kept (t':=tk) (LSm.kept_iter hk),rfl,q _ H (aJ.refl H) bQ⟩;cases e
end
section
variable {X:Cx}{T:Tx}{S:Addr->Prop}
def lM:Rep K T H S (.str x) (.str x):=by unfold Rep;rfl
theorem rP{K:wc}{H:Hp}:∀{ds:List D} {ns:List Str} {ys:List V} {us:List Value},nH ds=O ns->aD K T H S ds ys->aX ys us->StrsAre us ns
 |[],ns,ys,us,h,r,v=>by simp only[nH]at h;cases h;unfold aD at r;subst r;cases v;exact .nil
 |d::ds,ns,ys,us,h,r,v=>by
  cases d<;>simp only[nH,reduceCtorEq]at h
  rename_i i;rw[u5]at h;obtain⟨r',h1,rfl⟩:=h;unfold aD at r;obtain⟨x,w,rfl,z,I⟩:=r;unfold Rep at z;subst z;cases v with
  |cons h2 h3=>obtain⟨t,rfl⟩:=h2;exact .cons _ _ (rP h1 I h3)
theorem qR{K:wc}{H:Hp}:∀{ds:List D} {ns:List Bool} {ys:List V} {us:List Value},jO ds=O ns->aD K T H S ds ys->aX ys us->us=ns.map .bool
 |[],ns,ys,us,h,r,v=>by simp only[jO]at h;cases h;unfold aD at r;subst r;cases v;rfl
 |d::ds,ns,ys,us,h,r,v=>by
  cases d<;>simp only[jO,reduceCtorEq]at h
  rename_i i;rw[u5]at h;obtain⟨r',h1,rfl⟩:=h;unfold aD at r;obtain⟨x,w,rfl,z,I⟩:=r;unfold Rep at z;subst z;cases v with
  |cons h2 h3=>cases h2;rw[qR h1 I h3];rfl
def aGC(hc:X.calm=Y):dE X (.builtin "all") (jn X.K T S IH):=by
 rintro pins s M H xs us Q I r ⟨ds,d,dom,rl,e,q⟩;unfold IH at e;split at e;obtain⟨x,rfl,z⟩:=rep1 rl;obtain⟨bs,he,rfl⟩:=u5.mp e;unfold Rep at z;obtain⟨p,ys,rfl,_,hq,ry⟩:=z;obtain⟨u,rfl,ru⟩:=vals1 r;cases ru;obtain⟨its,rv,pl,hz⟩:=I.list (SqL.of hq);have hb:=qR he ry rv;subst hb;have hl:=pl.isList;have c6:p<s.heap.objs.size:=by obtain⟨_,e,_⟩:=hl;exact uf e
 refine call_all_walk (wpAny_pyIter_list hl ?_);refine⟨s.heap.objs.size,[s.heap.objs.size,p],[s.heap.objs.size],(bs.map Value.bool).toArray.size,_,_,λi=>(bs[i]?).getD Y,rfl,Walks.list (A:=X.A.in1) (I.ok.hd hc) _ p (v3 c6) (bs.map Value.bool).toArray,⟨⟨_,ve _ rfl,rfl,rfl⟩,hl.push _⟩,λi v s' Q' E' hP hQ=>?_,λh' tk hk=>?_⟩;have qg:(bs.map Value.bool)[i]?=O v:=by simpa using hP
 rw[sv,u5]at qg;obtain⟨b,e,rfl⟩:=qg;simp only[e,getD_some]at hQ;exact wpAny_truthy_bool hQ;have e:((List.range (bs.map Value.bool).toArray.size).all λi=>(bs[i]?).getD Y)=bs.all id:=by rw[u0,t8];exact LSm.range_all bs
 rw[e];exact⟨.bl _,H,I.kept (t':=tk) (LSm.kept_iter hk),rfl,q _ H (aJ.refl H) bQ⟩;cases e
def aGv:dE X (.type "str") (jn X.K T S YN):=by rintro pins s M H xs us Q I r ⟨ds,d,dom,rl,e,q⟩;unfold YN at e;split at e;obtain⟨x,rfl,z⟩:=rep1 rl;unfold Rep at z;subst z;split at e;rename_i hz;cases e;exact vS pins s M H _ us Q I r ⟨_,rfl,hz,q _ H (aJ.refl H) lM⟩;cases e;cases e
def rSm(K:wc)(T:Tx)(S:Addr->Prop)(g:List D->Option D):V->List V->Hp->VK->Prop:=λx xs H Q=>∃ds d,(∀a,S a->∃o,H a=O o)/\aD K T H S ds (x::xs)/\g ds=O d/\∀v H',aJ H H'->Rep K T H' S d v->Q v H'
def LS:rq X "str.startswith" (rSm X.K T S vF):=by rintro pins s M H x xs v us Q I rx rs ⟨ds,d,dom,rl,e,q⟩;unfold vF at e;split at e;obtain⟨x',y',ee,r1,z⟩:=rep2 rl;cases ee;unfold Rep at r1 z;subst r1 z;cases e;obtain⟨t,rfl⟩:=rx;obtain⟨u,rfl,t',rfl⟩:=vals1 rs;exact SC.startswith ⟨.bl _,H,I,rfl,q _ H (aJ.refl H) bQ⟩;cases e
def aCG:rq X "str.join" (rSm X.K T S EO):=by rintro pins s M H x xs v us Q I rx rs ⟨ds,d,dom,rl,e,q⟩;unfold EO at e;split at e;obtain⟨x',y',ee,r1,z⟩:=rep2 rl;cases ee;obtain⟨ys,hy,e⟩:=sr.mp e;split at e;rename_i hz;cases e;unfold Rep at r1 z;subst r1;obtain⟨p,zs,rfl,_,hq,ry⟩:=z;obtain⟨t,rfl⟩:=rx;obtain⟨u,rfl,ru⟩:=vals1 rs;cases ru;obtain⟨its,rv,pl,_⟩:=I.list (SqL.of hq);exact join_list pl.isList (by simpa using rP hy ry rv) (ug hz y8) λt' k=>⟨.str _,H,I.tok _,⟨_,rfl⟩,q _ H (aJ.refl H) lM⟩;cases e;cases e
theorem rX{K:wc}{H:Hp}:∀{zs:List Str},aD K T H S (zs.map .str) (zs.map .str)
 |[]=>by unfold aD;rfl
 |z::zs=>by show aD K T H S (.str z::zs.map .str) _;unfold aD;exact⟨_,_,rfl,lM,rX⟩
theorem rK:∀{l:List (Str×Tok)},aX ((l.map (·.1)).map .str) (strValues l)
 |[]=>.nil
 | (x,t)::l=>.cons ⟨t,rfl⟩ rK
def m_split:rq X "str.split" (rSm X.K T S BQ):=by
 rintro pins s M H x xs v us Q I rx rs ⟨ds,d,dom,rl,e,q⟩;unfold BQ at e;split at e;rename_i x0 y0;obtain⟨x',y',ee,r1,r2⟩:=rep2 rl;cases ee;split at e;rename_i hz;cases e;unfold Rep at r1 r2;subst r1 r2;obtain⟨t,rfl⟩:=rx;obtain⟨w,rfl,u,rfl⟩:=vals1 rs;have hsz:x0.length+2<=sizeLine:=ug hz.2 eU;have hy:=hz.1;have fin:∀(l:List (Str×Tok)) (k:Nat),l.map (·.1)=Txt.split x0 y0 ->EP X pins M Q (.ref s.heap.objs.size) {s with heap:=s.heap.push {cls:=.type "list",data:=.seq (strValues l).toArray},toks:=k}:=λl k el=>by
  have hp:H s.heap.objs.size=U:=I.hok.fresh (t9 _);have hln:(Txt.split x0 y0).length<=sizeLine:=ug (fact_split x0 y0).2 hsz;have ev:aX ((Txt.split x0 y0).map .str) (strValues l):=by rw[<-el];exact rK
  refine⟨.ref s.heap.objs.size,upd H s.heap.objs.size (.lst ((Txt.split x0 y0).map .str)),I.laid (t':=k) (λb u e=>tm _ e) (t9 _) (show cP X.prog X.w _ _ _ (.lst _) from⟨by rw[t8];exact hln,strValues l,_,ev,ve _ rfl⟩),rfl,q _ _ (aJ.upd hp) ?_⟩;unfold Rep;refine⟨_,_,rfl,λz=>?_,aS,rX⟩;obtain⟨o,e⟩:=dom _ z;rw[hp]at e;cases e
 have hn:(Builtin.Str.partsBetween x0 (Builtin.Str.occurrences x0 y0 0 x0.length (x0.length+1)) y0.length).length<=sizeLine:=by have e1:=StrLaws.occ_length_le x0 y0 0 x0.length (x0.length+1);rw[length_partsBetween];lia
 cases h1:(decide (x0.length<y0.length) || decide (Builtin.Str.strKind x0<Builtin.Str.strKind y0));cases hf:(Builtin.Str.occurrences x0 y0 0 x0.length (x0.length+1)).isEmpty;refine call_meets F.slot_str_split (typeIs_str _ _ _) F.entry_str_split (F.args_str_split_2 _ _) (meets_str_split_sep x0 y0 t u h1 hy hf yx hn) ?_;show wants _ _ _ {s with toks:=_,heap:=s.heap.push {cls:=.type "list",data:=.seq (strsFrom s.toks (Builtin.Str.partsBetween x0 (Builtin.Str.occurrences x0 y0 0 x0.length (x0.length+1)) y0.length)).toArray} };rw[strsFrom_eq];exact fin (numbered s.toks _) _ ((numbered_texts _ _).trans ((if_neg (ne_true_of_eq_false h1)).trans (if_neg (ne_true_of_eq_false hf))).symm);exact call_meets F.slot_str_split (typeIs_str _ _ _) F.entry_str_split (F.args_str_split_2 _ _) (meets_str_split_not_found x0 y0 t u h1 hy hf) (fin [(x0,t)] s.toks ((if_neg (ne_true_of_eq_false h1)).trans (if_pos hf)).symm);exact call_meets F.slot_str_split (typeIs_str _ _ _) F.entry_str_split (F.args_str_split_2 _ _) (meets_str_split_cannot_occur x0 y0 t u h1) (fin [(x0,t)] s.toks (if_pos h1).symm);cases e;cases e
end
section
variable {CX:ar}{X:Cx}{c:CC}{G:GS}{T:Tx}{lv:Nat}{B:List Sl}{S:Addr->Prop}{pos p:Pos}{ea eb:Expr}
def aHp{m:Str}{ds:List D}{d:D}{ap q:Pos}(ho:iE ea=Y)(hl:es.length<30)(hp:(ap.endLine == q.line)=Y)(ha:PE X ea (tD X.K T S B (.str x)))(I:PA X es (c9 X.K T S B ds))(hs:starEach es X.env=es.map λe=>(J,eval e X.env))(hlen:ds.length=es.length)(hd:fu m (.str x::ds)=O d):PE X (.Call (.Attribute ea m ap) es [] q) (tD X.K T S B d):=by
 cases es with
 |nil=>obtain rfl:ds=[]:=ur.mp hlen;unfold fu at hd;split at hd;exact nomatch (show U=O d from hd);split at hd;exact nomatch (show U=O d from hd);split at hd;exact nomatch (show U=O d from hd);cases hd
 |cons e es=>
  obtain⟨h1,h2⟩:=rS (pos:=q) hs;have hf:((backTo q (starEach (e::es) X.env)).all (λx=>!x.1)&&(backToKw q (keywordEach [] X.env)).all (λx=>x.1.isSome)&&decide ((e::es).length+([]:List Keyword).length+(if ([]:List Keyword).isEmpty then 0 else 1)<30))=Y:=by rw[hs,qT];simp[backToKw,keywordEach];simp at hl;lia
  have go:∀{g:List D->Option D},g (.str x::ds)=O d->∀M H Q,tD X.K T S B d M H Q->tBM X.K "str" (rSm X.K T S g) (tD X.K T S B (.str x)) (c9 X.K T S B ds) M H Q:=λ{g} hg M H Q ⟨re,q⟩=>⟨re,λv H1 s1 r1=>by unfold Rep at r1;subst r1;exact⟨rfl,re.same s1,λvs H2 s2 r2=>⟨.str x::ds,d,((re.same s1).same s2).dom,by unfold aD;exact⟨_,_,rfl,lM,r2⟩,hg,λw H3 s3 r3=>q w H3 (s1.trans (s2.trans s3)) r3⟩⟩⟩;unfold fu at hd;split at hd;rename_i z;subst z;exact PE.mono (oW plainAttrs_str PySem.F.slot_str_join PySem.F.type_str_join aCG ha I (gL ho) hf hp h1 h2) (go hd);split at hd;rename_i z;subst z;exact PE.mono (oW plainAttrs_str PySem.F.slot_str_split PySem.F.type_str_split m_split ha I (gL ho) hf hp h1 h2) (go hd);split at hd;rename_i z;subst z;exact PE.mono (oW plainAttrs_str PySem.F.slot_str_startswith PySem.F.type_str_startswith LS ha I (gL ho) hf hp h1 h2) (go hd);cases hd
theorem jB{n:Nat}(hE:fj CX G T lv n)(xc:XC CX X c G T lv):∀(vs:List Expr) (ir:IE) (ds:List D) (out x:Str),TM (cE n c) vs=O ir->ev G ir B=O (.tup ds)->rC out ds=O x->out.length<=sizeLine ->∀(pins:wk) (s:Shared) (M:L2.St) (H:Hp) (Q:VK),Inv X pins M H s->RE X.K T H S B M->(∀H',aJ H H'->Q (.str x) H')->wpAny (model X.prog X.w) X.A (joinParts out (evalEach vs X.env)) (EP X pins M Q) X.xe s
 |[],ir,ds,out,x,h1,h2,h3,hz=>λpins s M H Q I re q=>by cases h1;cases h2;cases h3;exact joinParts_nilE (joinParts_nil ⟨.str out,H,I.tok _,⟨_,rfl⟩,q H (aJ.refl H)⟩ hz)
 |v::r,ir,ds,out,x,h1,h2,h3,hz=>λpins s M H Q I re q=>by
  obtain⟨e,he,h1⟩:=sr.mp h1;obtain⟨x1,hx1,h1⟩:=sr.mp h1;obtain⟨y,hy,rfl⟩:=u5.mp h1;simp only[ev,tf,sr]at h2;obtain⟨d1,hd1,t2,ht2,h2⟩:=h2;cases t2<;>first|exact nomatch (show U=O (D.tup ds) from h2)|skip
  cases h2;obtain⟨t1,k6,h3⟩:=sr.mp h3;split at h3;rename_i hl;have fw:=ug hl eU;have pe:=(hE X c S B e x1 xc hx1 d1 hd1);have nxt:∀(s1:Shared) (H1:Hp),Inv X pins M H1 s1->aJ H H1->wpAny (model X.prog X.w) X.A (joinParts (out++t1) (evalEach r X.env)) (EP X pins M Q) X.xe s1:=λs1 H1 I1 z=>jB hE xc r y _ _ x hy ht2 h3 fw pins s1 M H1 Q I1 (re.same z) λH' s2=>q H' (z.trans s2);have tz:t1.length<=sizeLine:=ug (by rw[PySem.strLen_append];exact Nat.le_add_left _ _) fw;refine joinParts_consE (joinParts_cons ?_);unfold fsP at he;split at he;split at he;rename_i ek;subst ek;cases he;refine FormattedValue_plain (ah (pe pins s M H (λv H'=>aJ H H'/\Rep X.K T H' S d1 v) I ⟨re,λv H' a b=>⟨a,b⟩⟩) λu s1 ⟨vv,H1,I1,ru,z,rp⟩=>?_);cases d1<;>first|exact nomatch (show U=O t1 from k6)|skip
  simp only[zG]at k6;split at k6<;>cases k6
  rename_i hi;unfold Rep at rp;subst rp;obtain⟨t,rfl⟩:=ru;exact formatField_int_small hi ⟨fw,nxt _ _ (I1.tok _) z⟩;cases k6;unfold Rep at rp;subst rp;obtain⟨t,rfl⟩:=ru;exact formatField_str (λt' tk=>⟨fw,nxt _ _ (I1.tok _) z⟩) tz;cases he;cases he;refine ah (pe pins s M H (λv H'=>aJ H H'/\Rep X.K T H' S d1 v) I ⟨re,λv H' a b=>⟨a,b⟩⟩) λu s1 ⟨vv,H1,I1,ru,z,rp⟩=>?_;have hd1':d1=.str t1:=by
   cases n with
   |zero=>exact nomatch (show U=O x1 from hx1)
   |succ n=>cases hx1;cases hd1;cases k6;rfl
  subst hd1';unfold Rep at rp;subst rp;obtain⟨t,rfl⟩:=ru;exact⟨fw,nxt _ _ I1 z⟩;cases he;cases h3
def aFR(hE:fj CX G T lv n)(xc:XC CX X c G T lv){vs:List Expr}{ir:IE}{ds:List D}(hl:2<=vs.length)(h1:TM (cE n c) vs=O ir)(h2:ev G ir B=O (.tup ds))(h3:rC Str.empty ds=O x):PE X (.JoinedStr vs pos) (tD X.K T S B (.str x)):=by
 match vs,hl with
 |v1::z::r,_=>intro pins s M H Q I ⟨re,q⟩;exact JoinedStr_many (jB hE xc (v1::z::r) ir ds Str.empty x h1 h2 h3 (vz _) pins s M H Q I re λH' sm=>q _ H' sm lM)
end
open PySem.W
structure Ord (n:Nat) (lt:Nat->Nat->Bool):Prop where
 tot:∀a b,a<n->b<n->a≠b->lt a b=J->lt b a=Y
 asy:∀a b,a<n->b<n->lt a b=Y->lt b a=J
 tra:∀a b c,a<n->b<n->c<n->lt a b=Y->lt b c=Y->lt a c=Y
noncomputable def fp(p:Array Nat)(i:Nat):Nat:=p.getD i 0
def jJ{p q:Array Nat}{j:Nat}(h:p[i]?=q[j]?):fp p i=fp q j:=by unfold fp;rw[getD_eq_getD_getElem?,getD_eq_getD_getElem?,h]
structure Prm (n:Nat) (p:Array Nat):Prop where
 pm:p.toList.Perm (List.range n)
theorem Prm.size{p:Array Nat}(h:Prm n p):p.size=n:=by have:=h.pm.length_eq;simpa using this
def Prm.lt{p:Array Nat}(h:Prm n p)(hi:i<n):fp p i<n:=by
 have hs:=h.size;have:p[i]∈p.toList:=by simp
 have:=h.pm.mem_iff.mp this;unfold fp;rw[getD_eq_getD_getElem?,Array.getElem?_eq_getElem yx];simpa using this
def Prm.ne{p:Array Nat}(h:Prm n p){j:Nat}(hi:i<n)(I:j<n)(e:i≠j):fp p i≠fp p j:=by
 have hs:=h.size;have nd:p.toList.Nodup:=h.pm.nodup_iff.mpr List.nodup_range;unfold fp;rw[getD_eq_getD_getElem?,Array.getElem?_eq_getElem yx,getD_eq_getD_getElem?,Array.getElem?_eq_getElem yx];simp only[getD_some];intro z;have l1:i<p.toList.length:=by simp;lia
 have l2:j<p.toList.length:=by simp;lia
 exact e ((List.getElem_inj (h₀:=l1) (h₁:=l2) nd).mp (by simpa using z))
def Prm.perm{p q:Array Nat}(h:Prm n p)(k:q.Perm p):Prm n q:=⟨(Array.perm_iff_toList_perm.mp k).trans h.pm⟩
section
variable {n:Nat}{lt:Nat->Nat->Bool}{p:Array Nat}
def oj(lt:Nat->Nat->Bool)(p:Array Nat)(k:Nat):Prop:=∀i j,i<j->j<k->lt (fp p i) (fp p j)=Y
def mW{k d:Nat}(hk:k<p.size)(hd:d<=k)(i:Nat):fp (bubble p k d) i=if i=k-d then fp p k else if k-d<i/\i<=k then fp p (i-1) else fp p i:=by have e:=getElem?_bubble hk d hd i;by_cases h1:i=k-d;rw[if_pos h1]at e ⊢;exact jJ e;rw[if_neg h1]at e ⊢;by_cases h2:k-d<i/\i<=k;rw[if_pos h2]at e ⊢;exact jJ e;rw[if_neg h2]at e ⊢;exact jJ e
end
noncomputable def gI:Bool->Keyed->Array Keyed->Nat->Nat->Nat->StateT SortSt Sem (Option Nat):=sortPriv% PySem.Builtin.gallop
noncomputable def xK:Array Keyed->Array Keyed->StateT SortSt Sem (Array Keyed):=sortPriv% PySem.Builtin.mergeLo
noncomputable def xM:Array Keyed->Array Keyed->StateT SortSt Sem (Array Keyed):=sortPriv% PySem.Builtin.mergeHi
section
variable {prog:wg}{w:World}{A:Around}{E:wj}{κ:SortKind}{it:Array Keyed}{n:Nat}{lt:Nat->Nat->Bool}{s:Shared}{R β:Type}
def SK(prog:wg)(w:World)(A:Around)(E:wj)(s:Shared){R:Type}(m:StateT SortSt Sem R)(Q:R->SortSt->Prop)(st:SortSt):Prop:=kasC (model prog w) A E m (λa ae s'=>s'=s/\Q a ae) st s
def aC{m:StateT SortSt Sem R}{f:R->StateT SortSt Sem β}{Q:β->SortSt->Prop}(h:SK prog w A E s m (λa ae=>SK prog w A E s (f a) Q ae) st):SK prog w A E s (m >>= f) Q st:=by refine kasC_bind (vd h (λr s' hr=>?_) λ_ _ e=>e);obtain⟨rfl,h⟩:=hr;exact h
def bU{m:StateT SortSt Sem R}{Q z:R->SortSt->Prop}(h:SK prog w A E s m Q st)(hq:∀a ae,Q a ae->z a ae):SK prog w A E s m z st:=vd h (λr s' hr=>⟨hr.1,hq _ _ hr.2⟩) λ_ _ e=>e
def aE{a:R}{Q:R->SortSt->Prop}(h:Q a st):SK prog w A E s (pure a) Q st:=kasC_pure ⟨rfl,h⟩
def dG{c:Prop}[Decidable c]{a b:StateT SortSt Sem R}{Q:R->SortSt->Prop}(hc:c)(h:SK prog w A E s a Q st):SK prog w A E s (if c then a else b) Q st:=by rw[if_pos hc];exact h
def dH{c:Prop}[Decidable c]{a b:StateT SortSt Sem R}{Q:R->SortSt->Prop}(hc:¬c)(h:SK prog w A E s b Q st):SK prog w A E s (if c then a else b) Q st:=by rw[if_neg hc];exact h
def eP{Q:SortSt->SortSt->Prop}(h:Q st st):SK prog w A E s get Q st:=kasC_get ⟨rfl,h⟩
def bP{f:SortSt->SortSt}{Q:PUnit->SortSt->Prop}(h:Q ⟨⟩ (f st)):SK prog w A E s (modify f) Q st:=kasC_modify ⟨rfl,h⟩
def aBj{x:SortSt}{Q:PUnit->SortSt->Prop}(h:Q ⟨⟩ x):SK prog w A E s (set x) Q st:=by show SK prog w A E s (modify λ_=>x) Q st;exact bP h
def iA{x:String}{Q:PUnit->SortSt->Prop}(h:Q ⟨⟩ st):SK prog w A E s (liftM (rule x):StateT SortSt Sem PUnit) Q st:=kasC_lift (wpAny_rule ⟨rfl,h⟩)
def bH{z:Array Keyed}{x:Keyed}{Q:Keyed->SortSt->Prop}(e:z[i]?=O x)(h:Q x st):SK prog w A E s (elem' z i) Q st:=by rw[elem'_eq,e];exact aE h
def f6(prog:wg)(w:World)(A:Around)(κ:SortKind)(it:Array Keyed)(n:Nat)(lt:Nat->Nat->Bool)(s:Shared):Prop:=∀i j (C:Bool->Shared->Prop),i<n->j<n->C (lt i j) s->kas_cmp prog w A κ it i j C s
def wJ(hc:f6 prog w A κ it n lt s){j:Nat}{Q:Option Bool->SortSt->Prop}(hk:kindOf st=κ)(hi:i<n)(z:j<n)(h:Q (O (lt i j)) st):SK prog w A E s (lt' (kas_item it i) (kas_item it j)) Q st:=by unfold SK;rw[lt'_eq];refine kasC_bind (kasC_get ?_);rw[hk];exact kasC_bind (kasC_lift (wpAny_attempt (vd (hc i j (λc s'=>s'=s/\c=lt i j) hi z ⟨rfl,rfl⟩) (λc s' hc=>by obtain⟨rfl,rfl⟩:=hc;exact kasC_pure ⟨rfl,h⟩) λ_ _ I=>I.elim)))
abbrev rR(Q I:β->SortSt->Prop)(r:ForInStep β)(st:SortSt):Prop:=match r with
 |.done b=>Q b st
 |.yield b=>I b st
theorem CT{f:Nat->β->StateT SortSt Sem (ForInStep β)}{Q:β->SortSt->Prop}(I:Nat->β->SortSt->Prop)(hf:∀x i b st,I i b st->SK prog w A E s (f x b) (rR Q (I (i+1))) st):∀(m a i:Nat) (b:β) (st:SortSt),I i b st->(∀b st,I (i+m) b st->Q b st)->SK prog w A E s (forIn (range' a m) b f) Q st
 | 0,a,i,b,st,hI,hQ=>by show SK prog w A E s (forIn [] b f) Q st;exact kasC_nil ⟨rfl,hQ b st hI⟩
 |m+1,a,i,b,st,hI,hQ=>by
  show SK prog w A E s (forIn (a::range' (a+1) m) b f) Q st;refine kasC_cons (vd (hf a i b st hI) (λr s' hr=>?_) λ_ _ e=>e);obtain⟨r,ae⟩:=r;obtain⟨e,h⟩:=hr;rw[e];cases r with
  |done b'=>exact⟨rfl,h⟩
  |yield b'=>exact CT I hf m (a+1) (i+1) b' ae h λb st z=>hQ b st (by rwa [Nat.add_assoc,Nat.add_comm 1 m]at z)
def iC{a:Nat}{f:Nat->β->StateT SortSt Sem (ForInStep β)}{Q:β->SortSt->Prop}{b:β}(I:Nat->β->SortSt->Prop)(h0:I 0 b st)(hf:∀x i b st,I i b st->SK prog w A E s (f x b) (rR Q (I (i+1))) st)(z:∀b st,I (m-a) b st->Q b st):SK prog w A E s (forIn [a:m] b f) Q st:=kasC_range (CT I hf (m-a) a 0 b st h0 λb st h=>z b st (by rwa [uk]at h))
def fU(hc:f6 prog w A κ it n lt s){left:Bool}{I base k z:Nat}{q:Nat->Nat}{arr:Array Keyed}{Q:Option Nat->SortSt->Prop}(hk:kindOf st=κ)(hkey:I<n)(hq:∀i,i<k->q i<n)(ha:∀i,i<k->arr[base+i]?=O (kas_item it (q i))) (hb:∀i,i<k->(if left then lt (q i) I else !lt I (q i))=decide (i<m)) (hm:m<=k) (hh:z<k) (h:Q (O m) st):SK prog w A E s (gI left (kas_item it I) arr base k z) Q st:=by
 have bey:∀(i:Nat) (α:Option Bool->SortSt->Prop),i<k->α (O (decide (i<m))) st->SK prog w A E s (do let x <-elem' arr (base+i);if left then lt' x (kas_item it I) else return (<-lt' (kas_item it I) x).map (!·)) α st:=λi α hi hR=>by
  refine aC (bH (ha i hi) ?_);have e:=hb i hi;cases left with
  |true=>rw[if_pos rfl]at e ⊢;exact wJ hc hk (hq i hi) hkey (by rw[e];exact hR)
  |false=>rw[if_neg y8]at e ⊢;exact aC (wJ hc hk hkey (hq i hi) (aE (by show α (O (!lt I (q i))) st;rw[e];exact hR)))
 unfold gI;refine aC (bey z _ hh ?_);dsimp only;have fin:∀(lo hi:Nat),lo<=m->m<=hi->hi<=k->SK prog w A E s (forIn [:k] ((U,lo,hi):Option (Option Nat)×Nat×Nat) λx bp=>
   if bp.snd.fst >= bp.snd.snd then pure (ForInStep.done (U,bp.snd.fst,bp.snd.snd))
   else do
    let qz <-(do let x <-elem' arr (base+(bp.snd.fst+(bp.snd.snd-bp.snd.fst) / 2));if left then lt' x (kas_item it I) else return (<-lt' (kas_item it I) x).map (!·));match qz with
     |some more=>if more=Y then pure (ForInStep.yield (U,bp.snd.fst+(bp.snd.snd-bp.snd.fst) / 2+1,bp.snd.snd)) else pure (ForInStep.yield (U,bp.snd.fst,bp.snd.fst+(bp.snd.snd-bp.snd.fst) / 2))
     |x=>pure (ForInStep.done (O U,bp.snd.fst,bp.snd.snd))) (λb ae=>b=(U,m,m)/\ae=st) st:=λlo hi h1 h2 h3=>by
  refine iC (λi b ae=>ae=st/\∃lo hi,b=(U,lo,hi)/\lo<=m/\m<=hi/\hi<=k/\hi+i<=k+lo) ⟨rfl,lo,hi,rfl,h1,h2,h3,yx⟩ ?_ ?_;rintro x i b ae ⟨rfl,lo,hi,rfl,h1,h2,h3,h4⟩;dsimp only;by_cases hl:lo >= hi;rw[if_pos hl];refine aE ⟨?_,rfl⟩;rw[show lo=m by lia,show hi=m by lia];rw[if_neg hl];refine aC (bey _ _ yx ?_);dsimp only;by_cases hx:lo+(hi-lo) / 2<m;rw[if_pos (by simpa using hx)];exact aE ⟨rfl,_,_,rfl,yx,h2,h3,yx⟩;rw[if_neg (by simpa using hx)];exact aE ⟨rfl,_,_,rfl,h1,yx,yx,yx⟩;rintro b ae ⟨rfl,lo,hi,rfl,h1,h2,h3,h4⟩;refine⟨?_,rfl⟩;rw[show lo=m by lia,show hi=m by lia]
 by_cases hx:z<m;rw[if_pos (by simpa using hx)];refine aC (bU (iC (Q:=λb ae=>ae=st/\∃l o,b=((U,l,o):Option (Option Nat)×Nat×Nat)/\l<o/\z+l<m/\m<=z+min o (k-z)) (λi b ae=>ae=st/\∃l o,b=(U,l,o)/\l<o/\z+l<m/\i+1<=o) ⟨rfl,0,1,rfl,yx,yx,yx⟩ ?_ ?_) λb ae hb=>?_);rintro x i b ae ⟨rfl,l,o,rfl,h1,h2,h3⟩;dsimp only;by_cases ho:o >= k-z;rw[if_pos ho];exact aE ⟨rfl,l,o,rfl,h1,h2,yx⟩;rw[if_neg ho];refine aC (bey _ _ yx ?_);dsimp only;by_cases hy:z+o<m;rw[if_neg (by simpa using hy)];exact aE ⟨rfl,_,_,rfl,yx,hy,yx⟩;rw[if_pos (by simpa using hy)];exact aE ⟨rfl,l,o,rfl,h1,h2,yx⟩;rintro b ae ⟨rfl,l,o,rfl,h1,h2,h3⟩;exact⟨rfl,l,o,rfl,h1,h2,yx⟩;obtain⟨rfl,l,o,rfl,h1,h2,h3⟩:=hb;dsimp only;refine aC (bU (fin (z+l+1) (z+min o (k-z)) yx h3 yx) λb ae hb=>?_);obtain⟨rfl,rfl⟩:=hb;exact aE h;rw[if_neg (by simpa using hx)];refine aC (bU (iC (Q:=λb ae=>ae=st/\∃l o,b=((U,l,o):Option (Option Nat)×Nat×Nat)/\l<o/\m+l<=z/\z+1-min o (z+1)<=m) (λi b ae=>ae=st/\∃l o,b=(U,l,o)/\l<o/\m+l<=z/\i+1<=o) ⟨rfl,0,1,rfl,yx,yx,yx⟩ ?_ ?_) λb ae hb=>?_);rintro x i b ae ⟨rfl,l,o,rfl,h1,h2,h3⟩;dsimp only;by_cases ho:o >= z+1;rw[if_pos ho];exact aE ⟨rfl,l,o,rfl,h1,h2,yx⟩;rw[if_neg ho];refine aC (bey _ _ yx ?_);dsimp only;by_cases hy:z-o<m;rw[if_pos (by simpa using hy)];exact aE ⟨rfl,l,o,rfl,h1,h2,yx⟩;rw[if_neg (by simpa using hy)];exact aE ⟨rfl,_,_,rfl,yx,yx,yx⟩;rintro b ae ⟨rfl,l,o,rfl,h1,h2,h3⟩;exact⟨rfl,l,o,rfl,h1,h2,yx⟩;obtain⟨rfl,l,o,rfl,h1,h2,h3⟩:=hb;dsimp only;refine aC (bU (fin (z+1-min o (z+1)) (z-l) h3 yx yx) λb ae hb=>?_);obtain⟨rfl,rfl⟩:=hb;exact aE h
end
section
variable {lt:Nat->Nat->Bool}{it:Array Keyed}{xs ys:List Nat}
abbrev So(lt:Nat->Nat->Bool)(zs:List Nat):Prop:=zs.Pairwise λi j=>lt i j=Y
noncomputable def aN(it:Array Keyed)(zs:List Nat):Array Keyed:=(zs.map (kas_item it)).toArray
def aI:(aN it zs).size=zs.length:=by unfold aN;simp
def bI{x:Nat}(h:zs[i]?=O x):(aN it zs)[i]?=O (kas_item it x):=by unfold aN;rw[List.getElem?_toArray,sv,h];rfl
def nF{x:Nat}:(aN it zs).push (kas_item it x)=aN it (zs++[x]):=by unfold aN;simp
def cU{us:List Nat}:aN it zs++aN it us=aN it (zs++us):=by unfold aN;simp
def dM{j:Nat}:(aN it zs).extract i j=aN it ((zs.drop i).take (j-i)):=by unfold aN;rw[List.extract_toArray,List.extract_eq_take_drop,<-List.map_drop,<-map_take]
structure MG (lt:Nat->Nat->Bool) (n:Nat) (xs ys:List Nat):Prop where
 o:Ord n lt
 xn:∀x∈xs,x<n
 yn:∀y∈ys,y<n
 sx:So lt xs
 sy:So lt ys
 ne:∀x∈xs,∀y∈ys,x≠y
def MI(lt:Nat->Nat->Bool)(it:Array Keyed)(xs ys:List Nat)(out:Array Keyed)(ia ib:Nat):Prop:=∃zs,out=aN it zs/\zs.Perm (xs.take ia++ys.take ib)/\So lt zs/\∀z∈zs,∀x,x∈xs.drop ia\/x∈ys.drop ib->lt z x=Y
def Res(lt:Nat->Nat->Bool)(it:Array Keyed)(xs ys:List Nat)(r:Array Keyed):Prop:=∃zs,r=aN it zs/\zs.Perm (xs++ys)/\So lt zs
variable {n:Nat}
def dS{l:List Nat}{x:Nat}(h:l[i]?=O x):l.drop i=x::l.drop (i+1):=by obtain⟨hi,e⟩:=sj.mp h;rw[List.drop_eq_getElem_cons hi,e]
def eX{l:List Nat}{x:Nat}(h:l[i]?=O x):l.take (i+1)=l.take i++[x]:=by rw[vo,h];rfl
def jU{l:List Nat}(h:So lt l){x:Nat}(hx:l[i]?=O x):∀y∈l.drop (i+1),lt x y=Y:=by have:=List.Pairwise.drop (i:=i) h;rw[dS hx]at this;exact(wa.mp this).1
def fE{l m:List Nat}(h1:So lt l)(h2:So lt m)(h:∀a∈l,∀b∈m,lt a b=Y):So lt (l++m):=List.pairwise_append.mpr ⟨h1,h2,h⟩
def MI.pushB(g:MG lt n xs ys){x:Nat}(h:MI lt it xs ys out ia ib)(hx:xs[ia]?=O x)(hy:ys[ib]?=O y)(hl:lt y x=Y):MI lt it xs ys (out.push (kas_item it y)) ia (ib+1):=by
 obtain⟨zs,rfl,hp,hs,hz⟩:=h;have I:y∈ys.drop ib:=by rw[dS hy];exact vi
 refine⟨zs++[y],nF,?_,fE hs (pairwise_singleton _ _) λa ha b hb=>?_,λz d9 v hv=>?_⟩;rw[eX hy,<-u6];exact hp.append_right [y];rw[uh.mp hb];exact hz a ha y (.inr I);rcases wb.mp d9 with q|q;exact hz z q v (hv.imp id λw=>by rw[dS hy];exact tw _ w);rw[uh.mp q];rcases hv with hv|hv;rw[dS hx]at hv;rcases ui.mp hv with e|hv;rw[e];exact hl;have xm:=sq hx;exact g.o.tra _ _ _ (g.yn y (sq hy)) (g.xn x xm) (g.xn v (mem_of_mem_drop hv)) hl (jU g.sx hx v hv);exact jU g.sy hy v hv
def MI.pushA(g:MG lt n xs ys){x:Nat}(h:MI lt it xs ys out ia ib)(hx:xs[ia]?=O x)(hy:ys[ib]?=O y)(hl:lt x y=Y):MI lt it xs ys (out.push (kas_item it x)) (ia+1) ib:=by
 obtain⟨zs,rfl,hp,hs,hz⟩:=h;have I:x∈xs.drop ia:=by rw[dS hx];exact vi
 refine⟨zs++[x],nF,?_,fE hs (pairwise_singleton _ _) λa ha b hb=>?_,λz d9 v hv=>?_⟩;rw[eX hx];refine(hp.append_right [x]).trans ?_;rw[u6,u6];exact List.Perm.append_left _ perm_append_comm;rw[uh.mp hb];exact hz a ha x (.inl I);rcases wb.mp d9 with q|q;exact hz z q v (hv.imp (λw=>by rw[dS hx];exact tw _ w) id);rw[uh.mp q];rcases hv with hv|hv;exact jU g.sx hx v hv;rw[dS hy]at hv;rcases ui.mp hv with e|hv;rw[e];exact hl;exact g.o.tra _ _ _ (g.xn x (sq hx)) (g.yn y (sq hy)) (g.yn v (mem_of_mem_drop hv)) hl (jU g.sy hy v hv)
def lS{k x:Nat}(h:zs[i+k]?=O x):(aN it zs).extract i (i+(k+1))=((aN it zs).extract i (i+k)).push (kas_item it x):=by rw[dM,dM,show i+(k+1)-i=k+1 by lia,show i+k-i=k by lia,vo,getElem?_drop,h,nF];rfl
theorem MI.moveA(g:MG lt n xs ys)(hy:ys[ib]?=O y):∀(k:Nat) {out:Array Keyed},MI lt it xs ys out ia ib->(∀i,i<k->∃x,xs[ia+i]?=O x/\lt x y=Y)->MI lt it xs ys (out++(aN it xs).extract ia (ia+k)) (ia+k) ib
 | 0,out,h,_=>by rw[dM,show ia+0-ia=0 by lia,take_zero,show aN it []=#[] from rfl,append_empty];exact h
 |k+1,out,h,hl=>by obtain⟨x,hx,z⟩:=hl k (vj k);rw[lS hx,Array.append_push];exact(MI.moveA g hy k h λi hi=>hl i yx).pushA g hx hy z
theorem MI.moveB(g:MG lt n xs ys){x:Nat}(hx:xs[ia]?=O x):∀(k:Nat) {out:Array Keyed},MI lt it xs ys out ia ib->(∀i,i<k->∃y,ys[ib+i]?=O y/\lt y x=Y)->MI lt it xs ys (out++(aN it ys).extract ib (ib+k)) ia (ib+k)
 | 0,out,h,_=>by rw[dM,show ib+0-ib=0 by lia,take_zero,show aN it []=#[] from rfl,append_empty];exact h
 |k+1,out,h,hl=>by obtain⟨y,hy,z⟩:=hl k (vj k);rw[lS hy,Array.append_push];exact(MI.moveB g hx k h λi hi=>hl i yx).pushB g hx hy z
def kH:(aN it zs).extract i (aN it zs).size=aN it (zs.drop i):=by rw[dM,aI,take_of_length_le (by rw[w8];lia)]
def MI.doneB(g:MG lt n xs ys)(h:MI lt it xs ys out ia ib)(hb:ib=ys.length):Res lt it xs ys (out++(aN it xs).extract ia (aN it xs).size++(aN it ys).extract ib (aN it ys).size):=by obtain⟨zs,rfl,hp,hs,hz⟩:=h;subst hb;refine⟨zs++xs.drop ia,by rw[kH,kH,w6,cU,cU,uq],?_,fE hs (List.Pairwise.drop g.sx) λa ha b hb=>hz a ha b (.inl hb)⟩;rw[w5]at hp;refine(hp.append_right _).trans ?_;rw[u6];refine(List.Perm.append_left _ perm_append_comm).trans ?_;rw[<-u6,take_append_drop]
def MI.doneA(g:MG lt n xs ys)(h:MI lt it xs ys out ia ib)(ha:ia=xs.length):Res lt it xs ys (out++(aN it xs).extract ia (aN it xs).size++(aN it ys).extract ib (aN it ys).size):=by obtain⟨zs,rfl,hp,hs,hz⟩:=h;subst ha;refine⟨zs++ys.drop ib,by rw[kH,kH,w6,cU,cU,uq],?_,fE hs (List.Pairwise.drop g.sy) λa ha b hb=>hz a ha b (.inr hb)⟩;rw[w5]at hp;refine(hp.append_right _).trans ?_;rw[u6,take_append_drop]
def MI.last(g:MG lt n xs ys){x:Nat}(h:MI lt it xs ys out ia ib)(ha:ia+1=xs.length)(hx:xs[ia]?=O x)(hl:∀y∈ys,lt y x=Y):Res lt it xs ys (out++(aN it ys).extract ib (aN it ys).size++(aN it xs).extract ia (aN it xs).size):=by
 obtain⟨zs,rfl,hp,hs,hz⟩:=h;have e:xs.drop ia=[x]:=by rw[dS hx,ha,w6]
 refine⟨zs++ys.drop ib++[x],by rw[kH,kH,e,cU,cU],?_,fE (fE hs (List.Pairwise.drop g.sy) λa ha b hb=>hz a ha b (.inr hb)) (pairwise_singleton _ _) λa ha b hb=>?_⟩;rw[<-e];refine((hp.append_right _).append_right _).trans ?_;rw[u6 (xs.take ia),take_append_drop,u6];refine(List.Perm.append_left _ perm_append_comm).trans ?_;rw[<-u6,take_append_drop];rw[uh.mp hb];rcases wb.mp ha with q|q;exact hz a q x (.inl (by rw[e];exact uh.mpr rfl));exact hl a (mem_of_mem_drop q)
theorem bound:∀(k:Nat) (f:Nat->Bool),(∀i j,i<j->j<k->f j=Y->f i=Y)->∃m,m<=k/\∀i,i<k->f i=decide (i<m)
 | 0,f,_=>⟨0,t9 _,λi hi=>absurd hi (Nat.not_lt_zero _)⟩
 |k+1,f,h=>by
  obtain⟨m,hm,e⟩:=bound k f λi j a b=>h i j a yx
  cases hf:f k with
  |false=>refine⟨m,yx,λi hi=>?_⟩;by_cases q:i=k;rw[q,hf];exact(tj yx).symm;exact e i yx
  |true=>refine⟨k+1,t9 _,λi hi=>?_⟩;rw[uv hi];by_cases q:i=k;rw[q];exact hf;exact h i k yx yx hf
end
section
variable {prog:wg}{w:World}{A:Around}{E:wj}{κ:SortKind}{it:Array Keyed}{n:Nat}{lt:Nat->Nat->Bool}{s:Shared}{xs ys:List Nat}
def SS(st ae:SortSt):Prop:=kindOf ae=kindOf st/\arrOf ae=arrOf st/\pendingOf ae=pendingOf st/\failedOf ae=failedOf st
def SS.refl:SS st st:=⟨rfl,rfl,rfl,rfl⟩
def getD_at{l:List Nat}(h:i<l.length):l[i]?=O (l.getD i 0):=by rw[su h,sk,su h];rfl
def JM{l:List Nat}(h:So lt l){j x:Nat}(hx:l[i]?=O x)(hy:l[j]?=O y)(z:i<j):lt x y=Y:=jU h hx y (sq (i:=j-(i+1)) (by rw[getElem?_drop];rw[show i+1+(j-(i+1))=j by lia];exact hy))
def aGn(g:MG lt n xs ys)(hy:ys[ib]?=O y):∃m,m<=xs.length-ia/\(∀i,i<xs.length-ia->(!lt y (xs.getD (ia+i) 0))=decide (i<m))/\(∀i,i<m->∃x,xs[ia+i]?=O x/\lt x y=Y)/\∀x,xs[ia+m]?=O x->lt y x=Y:=by
 have I:=sq hy;obtain⟨m,hm,e⟩:=bound (xs.length-ia) (λi=>!lt y (xs.getD (ia+i) 0)) λi j dq hj h=>by
  have h1:=getD_at (l:=xs) (i:=ia+i) yx;have h2:=getD_at (l:=xs) (i:=ia+j) yx;have h3:lt y (xs.getD (ia+j) 0)=J:=by simpa using h
  show (!lt y (xs.getD (ia+i) 0))=Y;cases q:lt y (xs.getD (ia+i) 0) with
  |false=>rfl
  |true=>have:=g.o.tra _ _ _ (g.yn y I) (g.xn _ (sq h1)) (g.xn _ (sq h2)) q (JM g.sx h1 h2 yx);rw[h3]at this;cases this
 refine⟨m,hm,e,λi hi=>?_,λx hx=>?_⟩;have h1:=getD_at (l:=xs) (i:=ia+i) yx;refine⟨_,h1,?_⟩;have:=e i yx;rw[uv hi]at this;have xm:=sq h1;exact g.o.tot _ _ (g.yn y I) (g.xn _ xm) (λz=>g.ne _ xm y I z.symm) (by simpa using this);have hl:=(sj.mp hx).1;have:=e m yx;rw[tj (va m),getD_at (l:=xs) (i:=ia+m) hl |>.symm.trans hx |> u4]at this;simpa using this
def aGl(g:MG lt n xs ys){x:Nat}(hx:xs[ia]?=O x):∃m,m<=ys.length-ib/\(∀i,i<ys.length-ib->lt (ys.getD (ib+i) 0) x=decide (i<m))/\(∀i,i<m->∃y,ys[ib+i]?=O y/\lt y x=Y)/\∀y,ys[ib+m]?=O y->lt x y=Y:=by
 have I:=sq hx;obtain⟨m,hm,e⟩:=bound (ys.length-ib) (λi=>lt (ys.getD (ib+i) 0) x) λi j dq hj h=>by have h1:=getD_at (l:=ys) (i:=ib+i) yx;have h2:=getD_at (l:=ys) (i:=ib+j) yx;exact g.o.tra _ _ _ (g.yn _ (sq h1)) (g.yn _ (sq h2)) (g.xn x I) (JM g.sy h1 h2 yx) h
 refine⟨m,hm,e,λi hi=>?_,λy hy=>?_⟩;exact⟨_,getD_at (l:=ys) (i:=ib+i) yx,by rw[e i yx];exact uv hi⟩;have hl:=(sj.mp hy).1;have:=e m yx;rw[tj (va m),getD_at (l:=ys) (i:=ib+m) hl |>.symm.trans hy |> u4]at this;have ym:=sq hy;exact g.o.tot _ _ (g.yn y ym) (g.xn x I) (λz=>g.ne x I y ym z.symm) this
def CU(hc:f6 prog w A κ it n lt s)(g:MG lt n xs ys){Q:Option Nat->SortSt->Prop}(hk:kindOf st=κ)(hy:ys[ib]?=O y)(hi:ia<xs.length)(hm:m<=xs.length-ia)(e:∀i,i<xs.length-ia->(!lt y (xs.getD (ia+i) 0))=decide (i<m))(h:Q (O m) st):SK prog w A E s (gI J (kas_item it y) (aN it xs) ia ((aN it xs).size-ia) 0) Q st:=by rw[aI];exact fU hc (q:=λi=>xs.getD (ia+i) 0) hk (g.yn y (sq hy)) (λi hi=>g.xn _ (sq (getD_at yx))) (λi hi=>bI (getD_at yx)) (λi hi=>e i hi) hm yx h
def SV(hc:f6 prog w A κ it n lt s)(g:MG lt n xs ys){x:Nat}{Q:Option Nat->SortSt->Prop}(hk:kindOf st=κ)(hx:xs[ia]?=O x)(hi:ib<ys.length)(hm:m<=ys.length-ib)(e:∀i,i<ys.length-ib->lt (ys.getD (ib+i) 0) x=decide (i<m))(h:Q (O m) st):SK prog w A E s (gI Y (kas_item it x) (aN it ys) ib ((aN it ys).size-ib) 0) Q st:=by rw[aI];exact fU hc (q:=λi=>ys.getD (ib+i) 0) hk (g.xn x (sq hx)) (λi hi=>g.yn _ (sq (getD_at yx))) (λi hi=>bI (getD_at yx)) (λi hi=>e i hi) hm yx h
def LI(lt:Nat->Nat->Bool)(it:Array Keyed)(xs ys:List Nat)(st:SortSt)(di dh:Nat)(b:Option (Array Keyed)×Array Keyed×Nat×Nat×Nat×Nat×Nat)(ae:SortSt):Prop:=SS st ae/\∃aw z I mg ac bc,b=(U,aw,z,I,mg,ac,bc)/\MI lt it xs ys aw z I/\z+1<xs.length/\I<ys.length/\di+dh<=z+I
def LQ(lt:Nat->Nat->Bool)(it:Array Keyed)(xs ys:List Nat)(st:SortSt)(di dh:Nat)(b:Option (Array Keyed)×Array Keyed×Nat×Nat×Nat×Nat×Nat)(ae:SortSt):Prop:=SS st ae/\((∃r rest,b=(O r,rest)/\Res lt it xs ys r)\/∃aw z I mg ac bc,b=(U,aw,z,I,mg,ac,bc)/\MI lt it xs ys aw z I/\z+1<xs.length/\I<ys.length/\di+dh<=z+I)
def LI.mk{ae:SortSt}{z I mg ac bc:Nat}(s:SS st ae)(m:MI lt it xs ys out ia ib)(ha:ia+1<xs.length)(hb:ib<ys.length)(hr:z+I<=ia+ib):LI lt it xs ys st z I (U,out,ia,ib,mg,ac,bc) ae:=⟨s,_,_,_,_,_,_,rfl,m,ha,hb,hr⟩
def LI.q{ae:SortSt}{z I:Nat}{b:Option (Array Keyed)×Array Keyed×Nat×Nat×Nat×Nat×Nat}(h:LI lt it xs ys st z I b ae):LQ lt it xs ys st z I b ae:=⟨h.1,.inr h.2⟩
abbrev loT(it:Array Keyed)(xs ys:List Nat)(out:Array Keyed)(ia ib mg ac bc:Nat):StateT SortSt Sem (ForInStep (Option (Array Keyed)×Array Keyed×Nat×Nat×Nat×Nat×Nat)):=elem' (aN it xs) ia >>= λv=>if (ia+1+1 == (aN it xs).size)=Y then pure (ForInStep.done (O (out.push v++(aN it ys).extract ib (aN it ys).size++(aN it xs).extract (ia+1) (aN it xs).size),out.push v,ia+1,ib,mg,ac,bc))
 else if (decide (ac<7)&&decide (bc<7))=Y then pure (ForInStep.done (U,out.push v,ia+1,ib,mg,ac,bc)) else pure (ForInStep.yield (U,out.push v,ia+1,ib,mg,ac,bc))
def AF(hc:f6 prog w A κ it n lt s)(g:MG lt n xs ys){x0 y0 xl:Nat}(ku:xs[0]?=O x0)(kn:ys[0]?=O y0)(h1:lt y0 x0=Y)(ph:xs[xs.length-1]?=O xl)(h2:∀y∈ys,lt y xl=Y)(hk:kindOf st=κ){Q:Array Keyed->SortSt->Prop}
  (h:∀r ae,Res lt it xs ys r->SS st ae->Q r ae):SK prog w A E s (xK (aN it xs) (aN it ys)) Q st:=by
 have lx:0<xs.length:=(sj.mp ku).1
 have ly:0<ys.length:=(sj.mp kn).1
 have m1:MI lt it xs ys #[kas_item it y0] 0 1:=MI.pushB g (out:=#[]) (ib:=0) ⟨[],rfl,.refl _,List.Pairwise.nil,λz hz=>by cases hz⟩ ku kn h1
 have d7:∀{out:Array Keyed} {ia ib:Nat},MI lt it xs ys out ia ib->ia+1=xs.length->Res lt it xs ys (out++(aN it ys).extract ib (aN it ys).size++(aN it xs).extract ia (aN it xs).size):=λ{out ia ib} m e=>m.last g e (x:=xl) (by rw[show ia=xs.length-1 by lia];exact ph) h2
 unfold xK;refine aC (iA ?_);refine aC (bH (bI kn) ?_)
 by_cases c1:1=ys.length
 .refine dG (by rw[aI];simpa using c1) ?_
  exact aE (h _ _ (m1.doneB g c1) SS.refl)
 refine dH (by rw[aI];simpa using c1) ?_
 by_cases c2:0+1=xs.length
 .refine dG (by rw[aI];simpa using c2) ?_
  exact aE (h _ _ (d7 m1 c2) SS.refl)
 refine dH (by rw[aI];simpa using c2) ?_
 refine aC (eP ?_);refine aC (bU (iC (Q:=λb ae=>SS st ae/\∃r rest,b=(O r,rest)/\Res lt it xs ys r) (λi b ae=>SS st ae/\∃out ia ib mg,b=(U,out,ia,ib,mg)/\MI lt it xs ys out ia ib/\ia+1<xs.length/\ib<ys.length/\i+1<=ia+ib) ⟨SS.refl,_,_,_,_,rfl,m1,yx,yx,yx⟩ ?_ ?_) ?_)
 .rintro _ i b ij ⟨s1,out,ia,ib,mg,rfl,m,ha,hb,hr⟩;refine aC (bU (iC (Q:=λb ae=>SS st ae/\((∃r rest,b=(O r,rest)/\Res lt it xs ys r)\/∃aw bo I ac bc,b=(U,aw,bo,I,ac,bc)/\MI lt it xs ys aw bo I/\bo+1<xs.length/\I<ys.length/\ia+ib+1<=bo+I))
   (λj b ae=>SS st ae/\∃aw bo I ac bc,b=(U,aw,bo,I,ac,bc)/\MI lt it xs ys aw bo I/\bo+1<xs.length/\I<ys.length/\ia+ib+j<=bo+I) ⟨s1,_,_,_,_,_,rfl,m,ha,hb,by(try dsimp only);lia⟩ ?_ ?_) ?_)
  .rintro _ j b ig ⟨s2,out,bo,I,ac,bc,rfl,m,da,e9,fv⟩;clear lx ly c1 c2 ha hb hr;have hx:=getD_at (l:=xs) (i:=bo) yx
   have hy:=getD_at (l:=ys) (i:=I) e9
   generalize xs.getD bo 0=x at hx;generalize ys.getD I 0=y at hy;have xm:=sq hx
   have ym:=sq hy
   refine aC (bH (bI hy) (aC (bH (bI hx) (aC (wJ hc (s2.1.trans hk) (g.yn y ym) (g.xn x xm) ?_)))))
   by_cases hl:lt y x=Y
   .refine dG hl ?_;refine aC (bH (bI hy) ?_);have m':=m.pushB g hx hy hl
    by_cases e:I+1=ys.length
    .refine dG (by rw[aI];simpa using e) ?_
     exact aE ⟨s2,.inl ⟨_,_,rfl,m'.doneB g e⟩⟩
    .refine dH (by rw[aI];simpa using e) ?_
     split
     .exact aE ⟨s2,.inr ⟨_,_,_,_,_,rfl,m',da,by(try dsimp only);lia,by(try dsimp only);lia⟩⟩
     .exact aE ⟨s2,_,_,_,_,_,rfl,m',da,by(try dsimp only);lia,by(try dsimp only);lia⟩
   .refine dH hl ?_;have fw:lt x y=Y:=g.o.tot _ _ (g.yn y ym) (g.xn x xm) (λz=>g.ne x xm y ym z.symm) (by simpa using hl)
    refine aC (bH (bI hx) ?_);have m':=m.pushA g hx hy fw
    by_cases e:bo+1+1=xs.length
    .refine dG (by rw[aI];simpa using e) ?_
     exact aE ⟨s2,.inl ⟨_,_,rfl,d7 m' e⟩⟩
    .refine dH (by rw[aI];simpa using e) ?_
     split
     .exact aE ⟨s2,.inr ⟨_,_,_,_,_,rfl,m',by(try dsimp only);lia,e9,by(try dsimp only);lia⟩⟩
     .exact aE ⟨s2,_,_,_,_,_,rfl,m',by(try dsimp only);lia,e9,by(try dsimp only);lia⟩
  .rintro b ig ⟨s2,out,bo,I,ac,bc,rfl,m,da,e9,fv⟩;rw[aI,aI]at fv;exact⟨s2,.inr ⟨_,_,_,_,_,rfl,m,da,e9,yx⟩⟩
  .rintro b ig ⟨s2,⟨r,rest,rfl,hR⟩|⟨out,di,dh,ac,bc,rfl,m,qf,qd,hr1⟩⟩
   .exact aE ⟨s2,_,_,rfl,hR⟩
   refine aC (iA ?_);refine aC (bU (iC (Q:=LQ lt it xs ys st di dh) (λ_=>LI lt it xs ys st di dh) ⟨s2,_,_,_,_,_,_,rfl,m,qf,qd,t9 _⟩ ?_ ?_) ?_)
   .rintro _ j b jw ⟨s3,out,bo,I,gc,ac',i9,rfl,m,da,e9,fv⟩;clear lx ly c1 c2 ha hb hr qf qd hr1;have hy:=getD_at (l:=ys) (i:=I) e9
    generalize ys.getD I 0=y at hy;obtain⟨k,k1,k2,k3,k4⟩:=aGn g (ia:=bo) hy;have mA:=m.moveA g hy k k3
    have rO:∀(fq:SortSt) (s4:SS st fq) (out:Array Keyed) (ia ib mg ac bc x y:Nat),MI lt it xs ys out ia ib->ia+1<xs.length->xs[ia]?=O x->ys[ib]?=O y->lt x y=Y->di+dh<=ia+ib ->
      SK prog w A E s (loT it xs ys out ia ib mg ac bc)
       (rR (LQ lt it xs ys st di dh) (LI lt it xs ys st di dh)) fq:=λfq s4 out ia ib mg ac bc x y m hi hx hy hl hr=>by
     unfold loT;refine aC (bH (bI hx) ?_);have m2:=m.pushA g hx hy hl
     have hj:=(sj.mp hy).1
     by_cases e5:ia+1+1=xs.length
     .exact dG (by rw[aI];simpa using e5) (aE ⟨s4,.inl ⟨_,_,rfl,d7 m2 e5⟩⟩)
     refine dH (by rw[aI];simpa using e5) ?_
     have L:=LI.mk (mg:=mg) (ac:=ac) (bc:=bc) s4 m2 yx hj (by lia:di+dh<=ia+1+ib)
     by_cases e6:(decide (ac<7)&&decide (bc<7))=Y
     .exact dG e6 (aE L.q)
     .exact dH e6 (aE L)
    have bz:∀(fq:SortSt) (s4:SS st fq) (out:Array Keyed) (ia mg ac bc x:Nat),MI lt it xs ys out ia I->ia+1<xs.length->xs[ia]?=O x->lt y x=Y->di+dh<=ia+I ->
      SK prog w A E s (elem' (aN it ys) I >>= λv=>if (I+1 == (aN it ys).size)=Y then pure (ForInStep.done (O (out.push v++(aN it xs).extract ia (aN it xs).size++(aN it ys).extract (I+1) (aN it ys).size),out.push v,ia,I+1,mg,ac,bc))
       else elem' (aN it xs) ia >>= λx=>gI Y x (aN it ys) (I+1) ((aN it ys).size-(I+1)) 0 >>= λr=>match r with
        |some k=>if k > 0 then(if (I+1+k == (aN it ys).size)=Y then pure (ForInStep.done (O (out.push v++(aN it ys).extract (I+1) (I+1+k)++(aN it xs).extract ia (aN it xs).size++(aN it ys).extract (I+1+k) (aN it ys).size),out.push v++(aN it ys).extract (I+1) (I+1+k),ia,I+1+k,mg,ac,k))
          else loT it xs ys (out.push v++(aN it ys).extract (I+1) (I+1+k)) ia (I+1+k) mg ac k)
          else loT it xs ys (out.push v) ia (I+1) mg ac k
        |_=>pure (ForInStep.done (O (out.push v++(aN it xs).extract ia (aN it xs).size++(aN it ys).extract (I+1) (aN it ys).size),out.push v,ia,I+1,mg,ac,bc)))
       (rR (LQ lt it xs ys st di dh) (LI lt it xs ys st di dh)) fq:=λfq s4 out ia mg ac bc x m hi hx hl hr=>by
     refine aC (bH (bI hy) ?_);have m':=m.pushB g hx hy hl
     by_cases e3:I+1=ys.length
     .exact dG (by rw[aI];simpa using e3) (aE ⟨s4,.inl ⟨_,_,rfl,m'.doneB g e3⟩⟩)
     refine dH (by rw[aI];simpa using e3) ?_
     refine aC (bH (bI hx) ?_);obtain⟨j2,j1',j2',j3',o6⟩:=aGl g (ib:=I+1) hx;refine aC (SV hc g (s4.1.trans hk) hx yx j1' j2' ?_)
     have mB:=m'.moveB g hx j2 j3'
     by_cases p5:j2 > 0
     .refine dG p5 ?_
      by_cases e4:I+1+j2=ys.length
      .exact dG (by rw[aI];simpa using e4) (aE ⟨s4,.inl ⟨_,_,rfl,mB.doneB g e4⟩⟩)
      refine dH (by rw[aI];simpa using e4) ?_
      have gf:=getD_at (l:=ys) (i:=I+1+j2) yx
      exact rO _ s4 _ _ _ _ _ _ _ _ mB hi hx gf (o6 _ gf) yx
     .refine dH p5 ?_;have j0:j2=0:=by lia
      have gf:=getD_at (l:=ys) (i:=I+1) yx
      exact rO _ s4 _ _ _ _ _ _ _ _ m' hi hx gf (o6 _ (by rw[j0];exact gf)) yx
    by_cases iz:gc > 1
    .refine dG iz ?_;refine aC (bP ?_);refine aC (bH (bI hy) ?_);refine aC (CU hc g (s3.1.trans hk) hy (by(try dsimp only);lia) k1 k2 ?_)
     by_cases ez:k > 0
     .refine dG ez ?_
      by_cases e1:bo+k+1=xs.length
      .exact dG (by rw[aI];simpa using e1) (aE ⟨s3,.inl ⟨_,_,rfl,d7 mA e1⟩⟩)
      refine dH (by rw[aI];simpa using e1) ?_
      by_cases e2:bo+k=xs.length
      .exact dG (by rw[aI];simpa using e2) (aE ⟨s3,.inl ⟨_,_,rfl,mA.doneA g e2⟩⟩)
      refine dH (by rw[aI];simpa using e2) ?_
      have hx:=getD_at (l:=xs) (i:=bo+k) yx
      refine bz _ ?_ _ (bo+k) (gc-1) k i9 _ mA yx hx (k4 _ hx) yx
      exact s3
     .refine dH ez ?_;have kz:k=0:=by lia
      have hx:=getD_at (l:=xs) (i:=bo) yx
      refine bz _ ?_ _ bo (gc-1) k i9 _ m da hx (k4 _ (by rw[kz];exact hx)) fv
      exact s3
    .refine dH iz ?_;refine aC (bP ?_);refine aC (bH (bI hy) ?_);refine aC (CU hc g (s3.1.trans hk) hy (by(try dsimp only);lia) k1 k2 ?_)
     by_cases ez:k > 0
     .refine dG ez ?_
      by_cases e1:bo+k+1=xs.length
      .exact dG (by rw[aI];simpa using e1) (aE ⟨s3,.inl ⟨_,_,rfl,d7 mA e1⟩⟩)
      refine dH (by rw[aI];simpa using e1) ?_
      by_cases e2:bo+k=xs.length
      .exact dG (by rw[aI];simpa using e2) (aE ⟨s3,.inl ⟨_,_,rfl,mA.doneA g e2⟩⟩)
      refine dH (by rw[aI];simpa using e2) ?_
      have hx:=getD_at (l:=xs) (i:=bo+k) yx
      refine bz _ ?_ _ (bo+k) gc k i9 _ mA yx hx (k4 _ hx) yx
      exact s3
     .refine dH ez ?_;have kz:k=0:=by lia
      have hx:=getD_at (l:=xs) (i:=bo) yx
      refine bz _ ?_ _ bo gc k i9 _ m da hx (k4 _ (by rw[kz];exact hx)) fv
      exact s3
   .rintro b jw ⟨s3,out,bo,I,gc,ac',i9,rfl,m,da,e9,fv⟩;exact⟨s3,.inr ⟨_,_,_,_,_,_,rfl,m,da,e9,fv⟩⟩
   .rintro b jw ⟨s3,⟨r,rest,rfl,hR⟩|⟨out,ia2,ib2,mg2,ac2,bc2,rfl,m,ni,nh,hr2⟩⟩
    .exact aE ⟨s3,_,_,rfl,hR⟩
    .dsimp only;refine aC (bP ?_);exact aE ⟨s3,_,_,_,_,rfl,m,ni,nh,yx⟩
 .rintro b ij ⟨s1,out,ia,ib,mg,rfl,m,ha,hb,hr⟩;rw[aI,aI]at hr;lia
 .rintro b ij ⟨s1,r,rest,rfl,hR⟩;exact aE (h _ _ hR s1)
end
section
variable {lt:Nat->Nat->Bool}{it:Array Keyed}{xs ys:List Nat}{n:Nat}
def MH(lt:Nat->Nat->Bool)(it:Array Keyed)(xs ys:List Nat)(out:Array Keyed)(na nb:Nat):Prop:=∃zs,out=(aN it zs).reverse/\zs.Perm (xs.drop na++ys.drop nb)/\So lt zs/\∀z∈zs,∀v,v∈xs.take na\/v∈ys.take nb->lt v z=Y
def wO{x:Nat}:(aN it zs).reverse.push (kas_item it x)=(aN it (x::zs)).reverse:=by unfold aN;simp
def lH{l:List Nat}(h:So lt l){x:Nat}(hx:l[i]?=O x):∀y∈l.take i,lt y x=Y:=by intro y hy;have:=List.Pairwise.take (i:=i+1) h;rw[eX hx]at this;exact(List.pairwise_append.mp this).2.2 y hy x (uh.mpr rfl)
def MH.pushA(g:MG lt n xs ys){x:Nat}(h:MH lt it xs ys out (na+1) (nb+1))(hx:xs[na]?=O x)(hy:ys[nb]?=O y)(hl:lt y x=Y):MH lt it xs ys (out.push (kas_item it x)) na (nb+1):=by obtain⟨zs,rfl,hp,hs,hz⟩:=h;refine⟨x::zs,wO,?_,wa.mpr ⟨λz I=>hz z I x (.inl (by rw[eX hx];simp)),hs⟩,λz I v hv=>?_⟩;rw[dS hx];exact hp.cons x;rcases ui.mp I with e|I;rw[e];rcases hv with hv|hv;exact lH g.sx hx v hv;rw[eX hy]at hv;rcases wb.mp hv with hv|hv;exact g.o.tra _ _ _ (g.yn v (List.mem_of_mem_take hv)) (g.yn y (sq hy)) (g.xn x (sq hx)) (lH g.sy hy v hv) hl;rw[uh.mp hv];exact hl;exact hz z I v (hv.imp (λq=>by rw[eX hx];exact v9 _ q) id)
def MH.pushB(g:MG lt n xs ys){x:Nat}(h:MH lt it xs ys out (na+1) (nb+1))(hx:xs[na]?=O x)(hy:ys[nb]?=O y)(hl:lt x y=Y):MH lt it xs ys (out.push (kas_item it y)) (na+1) nb:=by obtain⟨zs,rfl,hp,hs,hz⟩:=h;refine⟨y::zs,wO,?_,wa.mpr ⟨λz I=>hz z I y (.inr (by rw[eX hy];simp)),hs⟩,λz I v hv=>?_⟩;rw[dS hy];exact(hp.cons y).trans (List.perm_middle).symm;rcases ui.mp I with e|I;rw[e];rcases hv with hv|hv;rw[eX hx]at hv;rcases wb.mp hv with hv|hv;exact g.o.tra _ _ _ (g.xn v (List.mem_of_mem_take hv)) (g.xn x (sq hx)) (g.yn y (sq hy)) (lH g.sx hx v hv) hl;rw[uh.mp hv];exact hl;exact lH g.sy hy v hv;exact hz z I v (hv.imp id λq=>by rw[eX hy];exact v9 _ q)
def FQ{e:Array Keyed}{v:Keyed}:out++(e.push v).reverse=out.push v++e.reverse:=by apply toList_inj.mp;simp
theorem MH.moveA(g:MG lt n xs ys)(hy:ys[nb]?=O y):∀(k:Nat) {out:Array Keyed},MH lt it xs ys out (na+k) (nb+1)->(∀i,i<k->∃x,xs[na+i]?=O x/\lt y x=Y)->MH lt it xs ys (out++((aN it xs).extract na (na+k)).reverse) na (nb+1)
 | 0,out,h,_=>by rw[dM,show na+0-na=0 by lia,take_zero,show (aN it []).reverse=#[] from rfl,append_empty];exact h
 |k+1,out,h,hl=>by obtain⟨x,hx,z⟩:=hl k (vj k);rw[lS hx,FQ];exact MH.moveA g hy k (MH.pushA g h hx hy z) λi hi=>hl i yx
theorem MH.moveB(g:MG lt n xs ys){x:Nat}(hx:xs[na]?=O x):∀(k:Nat) {out:Array Keyed},MH lt it xs ys out (na+1) (nb+k)->(∀i,i<k->∃y,ys[nb+i]?=O y/\lt x y=Y)->MH lt it xs ys (out++((aN it ys).extract nb (nb+k)).reverse) (na+1) nb
 | 0,out,h,_=>by rw[dM,show nb+0-nb=0 by lia,take_zero,show (aN it []).reverse=#[] from rfl,append_empty];exact h
 |k+1,out,h,hl=>by obtain⟨y,hy,z⟩:=hl k (vj k);rw[lS hy,FQ];exact MH.moveB g hx k (MH.pushB g h hx hy z) λi hi=>hl i yx
def sU:(aN it zs).extract 0 i=aN it (zs.take i):=by rw[dM,drop_zero,Nat.sub_zero]
def MH.doneA(g:MG lt n xs ys)(h:MH lt it xs ys out 0 nb):Res lt it xs ys ((aN it xs).extract 0 0++(aN it ys).extract 0 nb++out.reverse):=by obtain⟨zs,rfl,hp,hs,hz⟩:=h;refine⟨ys.take nb++zs,by rw[sU,sU,Array.reverse_reverse,cU,cU,take_zero,nil_append],?_,fE (List.Pairwise.take g.sy) hs λa ha b hb=>hz b hb a (.inr ha)⟩;refine(hp.append_left _).trans ?_;rw[drop_zero];refine perm_append_comm.trans ?_;rw[u6];refine List.Perm.append_left _ (perm_append_comm.trans ?_);rw[take_append_drop]
def MH.doneB(g:MG lt n xs ys)(h:MH lt it xs ys out na 0):Res lt it xs ys ((aN it xs).extract 0 na++(aN it ys).extract 0 0++out.reverse):=by obtain⟨zs,rfl,hp,hs,hz⟩:=h;refine⟨xs.take na++zs,by rw[sU,sU,Array.reverse_reverse,cU,cU,take_zero,uq],?_,fE (List.Pairwise.take g.sx) hs λa ha b hb=>hz b hb a (.inl ha)⟩;refine(hp.append_left _).trans ?_;rw[drop_zero,<-u6,take_append_drop]
def MH.first(g:MG lt n xs ys)(h:MH lt it xs ys out na 1)(hy:ys[0]?=O y)(hl:∀x∈xs,lt y x=Y):Res lt it xs ys ((aN it ys).extract 0 1++(aN it xs).extract 0 na++out.reverse):=by
 obtain⟨zs,rfl,hp,hs,hz⟩:=h;have e:ys.take 1=[y]:=by rw[eX hy];rfl
 refine⟨[y]++xs.take na++zs,by rw[sU,sU,Array.reverse_reverse,cU,cU,e],?_,fE (fE (pairwise_singleton _ _) (List.Pairwise.take g.sx) λa ha b hb=>?_) hs λa ha b hb=>?_⟩;refine(hp.append_left _).trans ?_;rw[u6,<-u6 (xs.take na),take_append_drop];refine perm_append_comm.trans ?_;rw[u6];refine List.Perm.append_left _ (perm_append_comm.trans ?_);rw[<-e,take_append_drop];rw[uh.mp ha];exact hl b (List.mem_of_mem_take hb);rcases wb.mp ha with q|q;exact hz b hb a (.inr (by rw[e];exact q));exact hz b hb a (.inl q)
def aGm(g:MG lt n xs ys)(hn:na<=xs.length)(hy:ys[nb]?=O y):∃m,m<=na/\(∀i,i<na->(!lt y (xs.getD (0+i) 0))=decide (i<m))/\(∀i,i<na-m->∃x,xs[m+i]?=O x/\lt y x=Y)/\∀i x,i+1=m->xs[i]?=O x->lt x y=Y:=by obtain⟨m,m1,m2,m3,m4⟩:=aGn g (ia:=0) hy;have I:=sq hy;refine⟨min m na,min_le_right _ _,λi hi=>?_,λi hi=>?_,λi x hi hx=>?_⟩;rw[m2 i yx];exact decide_eq_decide.mpr yx;have h1:=getD_at (l:=xs) (i:=min m na+i) yx;refine⟨_,h1,?_⟩;have:=m2 (min m na+i) yx;rw[tj yx,uk]at this;simpa using this;obtain⟨x',z,hl⟩:=m3 i yx;rw[uk,hx]at z;cases z;exact hl
def aGk(g:MG lt n xs ys){x:Nat}(hn:nb<=ys.length)(hx:xs[na]?=O x):∃m,m<=nb/\(∀i,i<nb->lt (ys.getD (0+i) 0) x=decide (i<m))/\(∀i,i<nb-m->∃y,ys[m+i]?=O y/\lt x y=Y)/\∀i y,i+1=m->ys[i]?=O y->lt y x=Y:=by obtain⟨m,m1,m2,m3,m4⟩:=aGl g (ib:=0) hx;have xm:=sq hx;refine⟨min m nb,min_le_right _ _,λi hi=>?_,λi hi=>?_,λi y hi hy=>?_⟩;rw[m2 i yx];exact decide_eq_decide.mpr yx;have h1:=getD_at (l:=ys) (i:=min m nb+i) yx;refine⟨_,h1,?_⟩;have:=m2 (min m nb+i) yx;rw[tj yx,uk]at this;have I:=sq h1;exact g.o.tot _ _ (g.yn _ I) (g.xn x xm) (λz=>g.ne x xm _ I z.symm) this;obtain⟨y',iu,hl⟩:=m3 i yx;rw[uk,hy]at iu;cases iu;exact hl
end
section
variable {prog:wg}{w:World}{A:Around}{E:wj}{κ:SortKind}{it:Array Keyed}{n:Nat}{lt:Nat->Nat->Bool}{s:Shared}{xs ys:List Nat}
def wM(hc:f6 prog w A κ it n lt s)(g:MG lt n xs ys){Q:Option Nat->SortSt->Prop}(hk:kindOf st=κ)(hy:ys[nb]?=O y)(hi:0<na)(hn:na<=xs.length)(hm:m<=na)(e:∀i,i<na->(!lt y (xs.getD (0+i) 0))=decide (i<m))(h:Q (O m) st):SK prog w A E s (gI J (kas_item it y) (aN it xs) 0 na (na-1)) Q st:=fU hc (q:=λi=>xs.getD (0+i) 0) hk (g.yn y (sq hy)) (λi hi=>g.xn _ (sq (getD_at yx))) (λi hi=>bI (getD_at yx)) (λi hi=>e i hi) hm yx h
def JP(hc:f6 prog w A κ it n lt s)(g:MG lt n xs ys){x:Nat}{Q:Option Nat->SortSt->Prop}(hk:kindOf st=κ)(hx:xs[na]?=O x)(hi:0<nb)(hn:nb<=ys.length)(hm:m<=nb)(e:∀i,i<nb->lt (ys.getD (0+i) 0) x=decide (i<m))(h:Q (O m) st):SK prog w A E s (gI Y (kas_item it x) (aN it ys) 0 nb (nb-1)) Q st:=fU hc (q:=λi=>ys.getD (0+i) 0) hk (g.xn x (sq hx)) (λi hi=>g.yn _ (sq (getD_at yx))) (λi hi=>bI (getD_at yx)) (λi hi=>e i hi) hm yx h
end
end Z
set_option maxHeartbeats 2000000
namespace Z
open PySem PySem.W PyProof.Rows
variable {out:Array Keyed}{na nb b a m i lo n:Nat}{st:SortSt}{N ps:List Str}{c:CC}{x qual:Str}{vs:List Value}{p p2 px oy p1:Pos}{ks:List (Int×Int)}{h:Heap}{w:World}{A:Around}{s:Shared}{xs:List V}{K:wc}{es args:List Expr}{H:Hp}{X:Cx}{S:Addr->Prop}{B:List Sl}{e elt:Expr}{gs:List Comprehension}{sc:Scope}{is:List Nat}{tp:Bool}{ir:IE}{pins:wk}{M:L2.St}{C:Addr}{kw:List Keyword}{W:wj}{fd:we}
section
variable {prog:wg}{w:World}{A:Around}{E:wj}{κ:SortKind}{it:Array Keyed}{n:Nat}{lt:Nat->Nat->Bool}{s:Shared}{xs ys:List Nat}
def MH.doneA'(g:MG lt n xs ys)(h:MH lt it xs ys out na nb)(e:na=0):Res lt it xs ys ((aN it xs).extract 0 na++(aN it ys).extract 0 nb++out.reverse):=by subst e;exact h.doneA g
def MH.doneB'(g:MG lt n xs ys)(h:MH lt it xs ys out na nb)(e:nb=0):Res lt it xs ys ((aN it xs).extract 0 na++(aN it ys).extract 0 nb++out.reverse):=by subst e;exact h.doneB g
def MH.cast{z I:Nat}(h:MH lt it xs ys out na nb)(e1:na=z)(e2:nb=I):MH lt it xs ys out z I:=by subst e1 e2;exact h
def HI(lt:Nat->Nat->Bool)(it:Array Keyed)(xs ys:List Nat)(st:SortSt)(df b0:Nat)(b:Option (Array Keyed)×Nat×Nat×Array Keyed×Nat×Nat×Nat)(ae:SortSt):Prop:=SS st ae/\∃z I aw mg ac bc,b=(U,z,I,aw,mg,ac,bc)/\MH lt it xs ys aw z I/\0<z/\1<I/\z<=xs.length/\I<=ys.length/\z+I<=df+b0
def HQ(lt:Nat->Nat->Bool)(it:Array Keyed)(xs ys:List Nat)(st:SortSt)(df b0:Nat)(b:Option (Array Keyed)×Nat×Nat×Array Keyed×Nat×Nat×Nat)(ae:SortSt):Prop:=SS st ae/\((∃r rest,b=(O r,rest)/\Res lt it xs ys r)\/∃z I aw mg ac bc,b=(U,z,I,aw,mg,ac,bc)/\MH lt it xs ys aw z I/\0<z/\1<I/\z<=xs.length/\I<=ys.length/\z+I<=df+b0)
def HI.mk{ae:SortSt}{z b0 mg ac bc:Nat}(s:SS st ae)(m:MH lt it xs ys out na nb)(h1:0<na)(h2:1<nb)(h3:na<=xs.length)(h4:nb<=ys.length)(hr:na+nb<=z+b0):HI lt it xs ys st z b0 (U,na,nb,out,mg,ac,bc) ae:=⟨s,_,_,_,_,_,_,rfl,m,h1,h2,h3,h4,hr⟩
def HI.q{ae:SortSt}{z b0:Nat}{b:Option (Array Keyed)×Nat×Nat×Array Keyed×Nat×Nat×Nat}(h:HI lt it xs ys st z b0 b ae):HQ lt it xs ys st z b0 b ae:=⟨h.1,.inr h.2⟩
abbrev hiE(it:Array Keyed)(xs ys:List Nat)(out:Array Keyed)(na nb:Nat):Array Keyed:=(aN it xs).extract 0 na++(aN it ys).extract 0 nb++out.reverse
abbrev hiF(it:Array Keyed)(xs ys:List Nat)(out:Array Keyed)(na nb:Nat):Array Keyed:=(aN it ys).extract 0 nb++(aN it xs).extract 0 na++out.reverse
abbrev hiT(it:Array Keyed)(xs ys:List Nat)(out:Array Keyed)(na nb mg ac bc:Nat):StateT SortSt Sem (ForInStep (Option (Array Keyed)×Nat×Nat×Array Keyed×Nat×Nat×Nat)):=elem' (aN it xs) (na-1) >>= λv=>if (na-1 == 0)=Y then pure (ForInStep.done (O (hiE it xs ys (out.push v) (na-1) nb),na-1,nb,out.push v,mg,ac,bc))
 else if (decide (ac<7)&&decide (bc<7))=Y then pure (ForInStep.done (U,na-1,nb,out.push v,mg,ac,bc)) else pure (ForInStep.yield (U,na-1,nb,out.push v,mg,ac,bc))
def AG(hc:f6 prog w A κ it n lt s)(g:MG lt n xs ys){x0 y0 xl:Nat}(ku:xs[0]?=O x0)(kn:ys[0]?=O y0)(h1:lt y0 x0=Y)(ph:xs[xs.length-1]?=O xl)(h2:∀y∈ys,lt y xl=Y)(hk:kindOf st=κ){Q:Array Keyed->SortSt->Prop}
  (h:∀r ae,Res lt it xs ys r->SS st ae->Q r ae):SK prog w A E s (xM (aN it xs) (aN it ys)) Q st:=by
 have lx:0<xs.length:=(sj.mp ku).1
 have ly:0<ys.length:=(sj.mp kn).1
 have sza:(aN it xs).size=xs.length:=aI
 have szb:(aN it ys).size=ys.length:=aI
 have hy0x:∀x∈xs,lt y0 x=Y:=λx hx=>by
  have:xs=x0::xs.drop 1:=by rw[<-dS ku,drop_zero]
  rw[this]at hx
  rcases ui.mp hx with e|hx
  .rw[e];exact h1
  .exact g.o.tra _ _ _ (g.yn y0 (sq kn)) (g.xn x0 (sq ku)) (g.xn x (mem_of_mem_drop hx)) h1 (jU g.sx ku x hx)
 have m1:MH lt it xs ys #[kas_item it xl] (xs.length-1) ys.length:=by
  refine⟨[xl],rfl,?_,pairwise_singleton _ _,λz hz v hv=>?_⟩
  .rw[dS ph,show xs.length-1+1=xs.length by lia,w6,w6]
   exact List.Perm.refl _
  .rw[uh.mp hz]
   rcases hv with hv|hv
   .exact lH g.sx ph v hv
   .rw[w5]at hv;exact h2 v hv
 have first:∀{out:Array Keyed} {na nb:Nat},MH lt it xs ys out na nb->nb=1->Res lt it xs ys ((aN it ys).extract 0 nb++(aN it xs).extract 0 na++out.reverse):=λ{out na nb} m e=>by
  subst e;exact m.first g kn hy0x
 unfold xM;refine aC (iA ?_);refine aC (bH (bI (by rw[aI];exact ph)) ?_)
 by_cases c1:xs.length-1=0
 .refine dG (by rw[aI];simpa using c1) ?_
  refine aE (h _ _ ?_ SS.refl);rw[aI,aI];exact m1.doneA' g c1
 refine dH (by rw[aI];simpa using c1) ?_
 by_cases c2:ys.length=1
 .refine dG (by rw[aI];simpa using c2) ?_
  refine aE (h _ _ ?_ SS.refl);rw[aI,aI];exact first m1 c2
 refine dH (by rw[aI];simpa using c2) ?_
 refine aC (eP ?_);refine aC (bU (iC (Q:=λb ae=>SS st ae/\∃r rest,b=(O r,rest)/\Res lt it xs ys r) (λi b ae=>SS st ae/\∃na nb out mg,b=(U,na,nb,out,mg)/\MH lt it xs ys out na nb/\0<na/\na<=xs.length/\1<nb/\nb<=ys.length/\na+nb+i+1<=xs.length+ys.length) ⟨SS.refl,_,_,_,_,rfl,m1.cast (by rw[aI]) (by rw[aI]),yx,yx,yx,yx,yx⟩ ?_ ?_) ?_)
 .rintro _ i b ij ⟨s1,na,nb,out,mg,rfl,m,ha,ni,hb,nh,hr⟩;refine aC (bU (iC (Q:=λb ae=>SS st ae/\((∃r rest,b=(O r,rest)/\Res lt it xs ys r)\/∃au I aw ac bc,b=(U,au,I,aw,ac,bc)/\MH lt it xs ys aw au I/\0<au/\1<I/\au<=xs.length/\I<=ys.length/\au+I+1<=na+nb))
   (λj b ae=>SS st ae/\∃au I aw ac bc,b=(U,au,I,aw,ac,bc)/\MH lt it xs ys aw au I/\0<au/\1<I/\au<=xs.length/\I<=ys.length/\au+I+j<=na+nb) ⟨s1,_,_,_,_,_,rfl,m,ha,hb,ni,nh,by(try dsimp only);lia⟩ ?_ ?_) ?_)
  .rintro _ j b ig ⟨s2,au,I,out,ac,bc,rfl,m,da,e9,cj,fz,fv⟩;clear sza szb lx ly c1 c2 ha ni hb nh hr;have hx:=getD_at (l:=xs) (i:=au-1) yx
   have hy:=getD_at (l:=ys) (i:=I-1) yx
   generalize xs.getD (au-1) 0=x at hx;generalize ys.getD (I-1) 0=y at hy;have xm:=sq hx
   have ym:=sq hy
   have mm:=m.cast (show au=au-1+1 by lia) (show I=I-1+1 by lia)
   refine aC (bH (bI hy) (aC (bH (bI hx) (aC (wJ hc (s2.1.trans hk) (g.yn y ym) (g.xn x xm) ?_)))))
   by_cases hl:lt y x=Y
   .refine dG hl ?_;refine aC (bH (bI hx) ?_);have m':=(mm.pushA g hx hy hl).cast rfl (show I-1+1=I by lia)
    by_cases e:au-1=0
    .refine dG (by simpa using e) ?_
     exact aE ⟨s2,.inl ⟨_,_,rfl,m'.doneA' g e⟩⟩
    .refine dH (by simpa using e) ?_
     split
     .exact aE ⟨s2,.inr ⟨_,_,_,_,_,rfl,m',by(try dsimp only);lia,e9,by(try dsimp only);lia,fz,by(try dsimp only);lia⟩⟩
     .exact aE ⟨s2,_,_,_,_,_,rfl,m',by(try dsimp only);lia,e9,by(try dsimp only);lia,fz,by(try dsimp only);lia⟩
   .refine dH hl ?_;have fw:lt x y=Y:=g.o.tot _ _ (g.yn y ym) (g.xn x xm) (λz=>g.ne x xm y ym z.symm) (by simpa using hl)
    refine aC (bH (bI hy) ?_);have m':=(mm.pushB g hx hy fw).cast (show au-1+1=au by lia) rfl
    by_cases e:I-1=1
    .refine dG (by simpa using e) ?_
     exact aE ⟨s2,.inl ⟨_,_,rfl,first m' e⟩⟩
    .refine dH (by simpa using e) ?_
     split
     .exact aE ⟨s2,.inr ⟨_,_,_,_,_,rfl,m',da,by(try dsimp only);lia,cj,by(try dsimp only);lia,by(try dsimp only);lia⟩⟩
     .exact aE ⟨s2,_,_,_,_,_,rfl,m',da,by(try dsimp only);lia,cj,by(try dsimp only);lia,by(try dsimp only);lia⟩
  .rintro b ig ⟨s2,au,I,out,ac,bc,rfl,m,da,e9,cj,fz,fv⟩;rw[aI,aI]at fv;exact⟨s2,.inr ⟨_,_,_,_,_,rfl,m,da,e9,cj,fz,yx⟩⟩
  .rintro b ig ⟨s2,⟨r,rest,rfl,hR⟩|⟨df,b0,out,ac,bc,rfl,m,qf,qd,ha21,hb21,hr1⟩⟩
   .exact aE ⟨s2,_,_,rfl,hR⟩
   refine aC (iA ?_);refine aC (bU (iC (Q:=HQ lt it xs ys st df b0) (λ_=>HI lt it xs ys st df b0) ⟨s2,_,_,_,_,_,_,rfl,m,qf,qd,ha21,hb21,t9 _⟩ ?_ ?_) ?_)
   .rintro _ j b jw ⟨s3,au,I,out,gc,ac',i9,rfl,m,da,e9,cj,fz,fv⟩;clear sza szb lx ly c1 c2 ha ni hb nh hr qf qd ha21 hb21 hr1;have hy:=getD_at (l:=ys) (i:=I-1) yx
    generalize ys.getD (I-1) 0=y at hy;obtain⟨k,k1,k2,k3,k4⟩:=aGm g (na:=au) cj hy;have mA:MH lt it xs ys (out++((aN it xs).extract k au).reverse) k (I-1+1):=by
     have:=MH.moveA g (na:=k) hy (au-k) (m.cast (show au=k+(au-k) by lia) (show I=I-1+1 by lia)) k3
     rw[show k+(au-k)=au by lia]at this
     exact this
    have rO:∀(fq:SortSt) (s4:SS st fq) (out:Array Keyed) (na nb mg ac bc x y:Nat),MH lt it xs ys out na nb->0<na->1<nb->na<=xs.length->nb<=ys.length->xs[na-1]?=O x->ys[nb-1]?=O y->lt y x=Y->na+nb<=df+b0 ->
      SK prog w A E s (hiT it xs ys out na nb mg ac bc) (rR (HQ lt it xs ys st df b0) (HI lt it xs ys st df b0)) fq:=λfq s4 out na nb mg ac bc x y m n1 n2 n3 n4 hx hy hl hr=>by
     unfold hiT;refine aC (bH (bI hx) ?_);have m2:=((m.cast (show na=na-1+1 by lia) (show nb=nb-1+1 by lia)).pushA g hx hy hl).cast rfl (show nb-1+1=nb by lia)
     by_cases e5:na-1=0
     .exact dG (by simpa using e5) (aE ⟨s4,.inl ⟨_,_,rfl,m2.doneA' g e5⟩⟩)
     refine dH (by simpa using e5) ?_
     have L:=HI.mk (mg:=mg) (ac:=ac) (bc:=bc) s4 m2 (Nat.pos_of_ne_zero e5) n2 yx n4 (by lia:na-1+nb<=df+b0)
     by_cases e6:(decide (ac<7)&&decide (bc<7))=Y
     .exact dG e6 (aE L.q)
     .exact dH e6 (aE L)
    have bz:∀(fq:SortSt) (s4:SS st fq) (out:Array Keyed) (na mg ac bc x:Nat),MH lt it xs ys out na I->0<na->na<=xs.length->xs[na-1]?=O x->lt x y=Y->na+I<=df+b0 ->
      SK prog w A E s (elem' (aN it ys) (I-1) >>= λv=>if (I-1 == 1)=Y then pure (ForInStep.done (O (hiF it xs ys (out.push v) na (I-1)),na,I-1,out.push v,mg,ac,bc))
       else elem' (aN it xs) (na-1) >>= λx=>gI Y x (aN it ys) 0 (I-1) (I-1-1) >>= λr=>match r with
        |some k=>if I-1-k > 0 then(if (k == 1)=Y then pure (ForInStep.done (O (hiF it xs ys (out.push v++((aN it ys).extract k (I-1)).reverse) na k),na,k,out.push v++((aN it ys).extract k (I-1)).reverse,mg,ac,I-1-k))
          else if (k == 0)=Y then pure (ForInStep.done (O (hiE it xs ys (out.push v++((aN it ys).extract k (I-1)).reverse) na k),na,k,out.push v++((aN it ys).extract k (I-1)).reverse,mg,ac,I-1-k))
          else hiT it xs ys (out.push v++((aN it ys).extract k (I-1)).reverse) na k mg ac (I-1-k))
          else hiT it xs ys (out.push v) na (I-1) mg ac (I-1-k)
        |_=>pure (ForInStep.done (O (hiE it xs ys (out.push v) na (I-1)),na,I-1,out.push v,mg,ac,bc)))
       (rR (HQ lt it xs ys st df b0) (HI lt it xs ys st df b0)) fq:=λfq s4 out na mg ac bc x m n1 n3 hx hl hr=>by
     refine aC (bH (bI hy) ?_);have m':=((m.cast (show na=na-1+1 by lia) (show I=I-1+1 by lia)).pushB g hx hy hl)
     have mc:=m'.cast (show na-1+1=na by lia) rfl
     by_cases e3:I-1=1
     .exact dG (by simpa using e3) (aE ⟨s4,.inl ⟨_,_,rfl,first mc e3⟩⟩)
     refine dH (by simpa using e3) ?_
     refine aC (bH (bI hx) ?_);obtain⟨j2,j1',j2',j3',o6⟩:=aGk g (nb:=I-1) yx hx
     refine aC (JP hc g (s4.1.trans hk) hx yx yx j1' j2' ?_)
     have mB:=MH.moveB g (nb:=j2) hx (I-1-j2) (m'.cast rfl (show I-1=j2+(I-1-j2) by lia)) j3'
     rw[show j2+(I-1-j2)=I-1 by lia]at mB
     have mb:=mB.cast (show na-1+1=na by lia) rfl
     by_cases p5:I-1-j2 > 0
     .refine dG p5 ?_
      by_cases e4:j2=1
      .exact dG (by simpa using e4) (aE ⟨s4,.inl ⟨_,_,rfl,first mb e4⟩⟩)
      refine dH (by simpa using e4) ?_
      by_cases e6:j2=0
      .exact dG (by simpa using e6) (aE ⟨s4,.inl ⟨_,_,rfl,mb.doneB' g e6⟩⟩)
      refine dH (by simpa using e6) ?_
      have gf:=getD_at (l:=ys) (i:=j2-1) yx
      exact rO _ s4 _ _ _ _ _ _ _ _ mb n1 yx n3 yx hx gf (o6 (j2-1) _ yx gf) yx
     .refine dH p5 ?_;have gf:=getD_at (l:=ys) (i:=I-1-1) yx
      exact rO _ s4 _ _ _ _ _ _ _ _ mc n1 yx n3 yx hx gf (o6 (I-1-1) _ yx gf) yx
    by_cases iz:gc > 1
    .refine dG iz ?_;refine aC (bP ?_);refine aC (bH (bI hy) ?_);refine aC (wM hc g (s3.1.trans hk) hy da cj k1 k2 ?_)
     by_cases ez:au-k > 0
     .refine dG ez ?_
      by_cases e1:k=0
      .exact dG (by simpa using e1) (aE ⟨s3,.inl ⟨_,_,rfl,(mA.cast rfl (show I-1+1=I by lia)).doneA' g e1⟩⟩)
      refine dH (by simpa using e1) ?_
      have hx:=getD_at (l:=xs) (i:=k-1) yx
      refine bz _ ?_ _ k (gc-1) (au-k) i9 _ (mA.cast rfl (show I-1+1=I by lia)) yx yx hx (k4 (k-1) _ yx hx) yx
      exact s3
     .refine dH ez ?_;have hx:=getD_at (l:=xs) (i:=au-1) yx
      refine bz _ ?_ _ au (gc-1) (au-k) i9 _ m da cj hx (k4 (au-1) _ yx hx) fv
      exact s3
    .refine dH iz ?_;refine aC (bP ?_);refine aC (bH (bI hy) ?_);refine aC (wM hc g (s3.1.trans hk) hy da cj k1 k2 ?_)
     by_cases ez:au-k > 0
     .refine dG ez ?_
      by_cases e1:k=0
      .exact dG (by simpa using e1) (aE ⟨s3,.inl ⟨_,_,rfl,(mA.cast rfl (show I-1+1=I by lia)).doneA' g e1⟩⟩)
      refine dH (by simpa using e1) ?_
      have hx:=getD_at (l:=xs) (i:=k-1) yx
      refine bz _ ?_ _ k (gc) (au-k) i9 _ (mA.cast rfl (show I-1+1=I by lia)) yx yx hx (k4 (k-1) _ yx hx) yx
      exact s3
     .refine dH ez ?_;have hx:=getD_at (l:=xs) (i:=au-1) yx
      refine bz _ ?_ _ au (gc) (au-k) i9 _ m da cj hx (k4 (au-1) _ yx hx) fv
      exact s3
   .rintro b jw ⟨s3,au,I,out,gc,ac',i9,rfl,m,da,e9,cj,fz,fv⟩;exact⟨s3,.inr ⟨_,_,_,_,_,_,rfl,m,da,e9,cj,fz,fv⟩⟩
   .rintro b jw ⟨s3,⟨r,rest,rfl,hR⟩|⟨na2,nb2,out,mg2,ac2,bc2,rfl,m,ha3,hb3,ha4,hb4,hr2⟩⟩
    .exact aE ⟨s3,_,_,rfl,hR⟩
    .dsimp only;refine aC (bP ?_);exact aE ⟨s3,_,_,_,_,rfl,m,ha3,ha4,hb3,hb4,yx⟩
 .rintro b ij ⟨s1,na,nb,out,mg,rfl,m,ha,ni,hb,nh,hr⟩;rw[aI,aI]at hr;lia
 .rintro b ij ⟨s1,r,rest,rfl,hR⟩;exact aE (h _ _ hR s1)
end
section
variable {prog:wg}{w:World}{A:Around}{E:wj}{κ:SortKind}{it:Array Keyed}{n:Nat}{lt:Nat->Nat->Bool}{s:Shared}{P:Array (Nat×Nat×Nat)}{p:Array Nat}
theorem wK{β:Type}{f:Nat->β->StateT SortSt Sem (ForInStep β)}{Q:β->SortSt->Prop}{N:Nat}(I:Nat->β->SortSt->Prop)(hf:∀x i b st,i<N->I i b st->SK prog w A E s (f x b) (λr ae=>match r with | .done z=>Q z ae | .yield z=>I (i+1) z ae) st):
  ∀(m a i:Nat) (b:β) (st:SortSt),i+m=N->I i b st->(∀b st,I N b st->Q b st)->SK prog w A E s (forIn (range' a m) b f) Q st
 | 0,a,i,b,st,hN,hI,hQ=>by show SK prog w A E s (forIn [] b f) Q st;exact kasC_nil ⟨rfl,hQ b st (by rw[<-hN];exact hI)⟩
 |m+1,a,i,b,st,hN,hI,hQ=>by
  show SK prog w A E s (forIn (a::range' (a+1) m) b f) Q st;refine kasC_cons (vd (hf a i b st yx hI) (λr s' hr=>?_) λ_ _ e=>e);obtain⟨r,ae⟩:=r;obtain⟨e,h⟩:=hr;rw[e];cases r with
  |done z=>exact⟨rfl,h⟩
  |yield z=>exact wK I hf m (a+1) (i+1) z ae yx h hQ
def iB{β:Type}{f:Nat->β->StateT SortSt Sem (ForInStep β)}{Q:β->SortSt->Prop}{b:β}(I:Nat->β->SortSt->Prop)(h0:I 0 b st)(hf:∀x i b st,i<m-a->I i b st->SK prog w A E s (f x b) (λr ae=>match r with | .done b'=>Q b' ae | .yield b'=>I (i+1) b' ae) st)(z:∀b st,I (m-a) b st->Q b st):SK prog w A E s (forIn [a:m] b f) Q st:=
 kasC_range (wK I hf (m-a) a 0 b st yx h0 z)
theorem wL{β:Type}{f:Nat->β->StateT SortSt Sem (ForInStep β)}{Q:β->SortSt->Prop}{N:Nat}(I:Nat->β->SortSt->Prop)(hf:∀x b st,x<N->I x b st->SK prog w A E s (f x b) (λr ae=>match r with | .done z=>Q z ae | .yield z=>I (x+1) z ae) st):
  ∀(m a:Nat) (b:β) (st:SortSt),a+m=N->I a b st->(∀b st,I N b st->Q b st)->SK prog w A E s (forIn (range' a m) b f) Q st
 | 0,a,b,st,hN,hI,hQ=>by show SK prog w A E s (forIn [] b f) Q st;exact kasC_nil ⟨rfl,hQ b st (by rw[<-hN];exact hI)⟩
 |m+1,a,b,st,hN,hI,hQ=>by
  show SK prog w A E s (forIn (a::range' (a+1) m) b f) Q st;refine kasC_cons (vd (hf a b st yx hI) (λr s' hr=>?_) λ_ _ e=>e);obtain⟨r,ae⟩:=r;obtain⟨e,h⟩:=hr;rw[e];cases r with
  |done z=>exact⟨rfl,h⟩
  |yield z=>exact wL I hf m (a+1) z ae yx h hQ
def SW{β:Type}{f:Nat->β->StateT SortSt Sem (ForInStep β)}{Q:β->SortSt->Prop}{b:β}(I:Nat->β->SortSt->Prop)(h0:I a b st)(hf:∀x b st,x<max a m->I x b st->SK prog w A E s (f x b) (λr ae=>match r with | .done b'=>Q b' ae | .yield b'=>I (x+1) b' ae) st)(z:∀b st,I (max a m) b st->Q b st):SK prog w A E s (forIn [a:m] b f) Q st:=
 kasC_range (wL I hf (m-a) a b st yx h0 z)
noncomputable def ts(κ:SortKind)(it:Array Keyed)(P:Array (Nat×Nat×Nat))(p:Array Nat):SortSt:=SortSt.mk' κ (p.map (kas_item it)) P 7 U
def rN(a:Prm n p)(hi:i<n):(p.map (kas_item it))[i]?=O (kas_item it (fp p i)):=by have hs:=a.size;rw[Array.getElem?_map];unfold fp;rw[getD_eq_getD_getElem?,Array.getElem?_eq_getElem yx];rfl
def lI(hc:f6 prog w A κ it n lt s)(a:Prm n p){j:Nat}{Q:Option Bool->SortSt->Prop}(hi:i<n)(z:j<n)(h:Q (O (lt (fp p i) (fp p j))) (ts κ it P p)):SK prog w A E s (ltAt' i j) Q (ts κ it P p):=by rw[ltAt'_eq];refine aC (eP ?_);show SK prog w A E s (do let x <-elem' (p.map (kas_item it)) i;let y <-elem' (p.map (kas_item it)) j;lt' x y) Q (ts κ it P p);exact aC (bH (rN a hi) (aC (bH (rN a z) (wJ hc rfl (a.lt hi) (a.lt z) h))))
def aBk{j:Nat}{Q:Unit->SortSt->Prop}(h:Q () (ts κ it P (kas_rev p i j))):SK prog w A E s (reverseSlice' i j) Q (ts κ it P p):=by rw[reverseSlice'_eq];refine bP ?_;have e1:mirror (p.map (kas_item it)) i j ((j-i) / 2)=(mirror p i j ((j-i) / 2)).map (kas_item it):=kas_swaps_map (kas_item it) (λk=>i+k) (λk=>j-1-k) _ p;show Q () (SortSt.mk' κ (mirror (p.map (kas_item it)) i j ((j-i) / 2)) P 7 U);rw[e1];exact h
def SU{k l:Nat}{Q:Unit->SortSt->Prop}(h:Q () (ts κ it P (bubble p k (k-l)))):SK prog w A E s (moveDown' k l) Q (ts κ it P p):=by rw[moveDown'_eq];refine bP ?_;have e1:bubble (p.map (kas_item it)) k (k-l)=(bubble p k (k-l)).map (kas_item it):=kas_swaps_map (kas_item it) (λi=>k-i) (λi=>k-i-1) _ p;show Q () (SortSt.mk' κ (bubble (p.map (kas_item it)) k (k-l)) P 7 U);rw[e1];exact h
def bx(lt:Nat->Nat->Bool)(p:Array Nat)(a b:Nat):Prop:=∀i j,a<=i->i<j->j<b->lt (fp p i) (fp p j)=Y
def sf(lt:Nat->Nat->Bool)(p:Array Nat)(a b:Nat):Prop:=∀i j,a<=i->i<j->j<b->lt (fp p j) (fp p i)=Y
def uY{j:Nat}(z:j<=p.size)(k:Nat):fp (kas_rev p i j) k=if i<=k/\k<j then fp p (i+j-1-k) else fp p k:=by have e:=getElem?_mirror_all (i:=i) z k;unfold kas_rev;by_cases h:i<=k/\k<j;rw[if_pos h];rw[if_pos h]at e;exact jJ e;rw[if_neg h];rw[if_neg h]at e;exact jJ e
def MR(o:Ord n lt)(a:Prm n p)(hm:lo+m<n)(h1:1<=m)(h:bx lt p lo (lo+m))(hs:lt (fp p (lo+m-1)) (fp p (lo+m))=Y):bx lt p lo (lo+(m+1)):=λi j hi z I=>by by_cases e:j=lo+m;rw[e];by_cases e':i=lo+m-1;rw[e'];exact hs;exact o.tra _ _ _ (a.lt yx) (a.lt yx) (a.lt yx) (h i (lo+m-1) hi yx yx) hs;exact h i j hi z yx
def QS(o:Ord n lt)(a:Prm n p)(hm:lo+m<n)(h1:1<=m)(h:sf lt p lo (lo+m))(hs:lt (fp p (lo+m)) (fp p (lo+m-1))=Y):sf lt p lo (lo+(m+1)):=λi j hi z I=>by by_cases e:j=lo+m;rw[e];by_cases e':i=lo+m-1;rw[e'];exact hs;exact o.tra _ _ _ (a.lt yx) (a.lt yx) (a.lt yx) hs (h i (lo+m-1) hi yx yx);exact h i j hi z yx
theorem nE(hc:f6 prog w A κ it n lt s)(o:Ord n lt)(a:Prm n p){cf m0:Nat}(h1:1<=m0)(hle:m0<=cf)(hn:lo+cf<=n)(hi:bx lt p lo (lo+m0)):
  SK prog w A E s (forIn [m0:cf] ((U,m0):Option (Option Nat)×Nat) λx bp=>do
   let qz <-ltAt' (lo+bp.snd) (lo+bp.snd-1);match qz with
    |some I=>if I=Y then pure (ForInStep.done (U,bp.snd)) else pure (ForInStep.yield (U,bp.snd+1))
    |x=>pure (ForInStep.done (O U,bp.snd))) (λb st=>st=ts κ it P p/\∃m,b=(U,m)/\m0<=m/\m<=cf/\bx lt p lo (lo+m)/\(m<cf->lt (fp p (lo+m)) (fp p (lo+m-1))=Y)) (ts κ it P p):=by
 refine iB (λi b st=>st=ts κ it P p/\b=(U,m0+i)/\bx lt p lo (lo+(m0+i))) ⟨rfl,rfl,hi⟩ ?_ ?_;rintro x i b st c6 ⟨rfl,rfl,h⟩;dsimp only;have l1:lo+(m0+i)<n:=by lia
 have l2:lo+(m0+i)-1<n:=by lia
 refine aC (lI hc a l1 l2 ?_);dsimp only;by_cases c:lt (fp p (lo+(m0+i))) (fp p (lo+(m0+i)-1))=Y;rw[if_pos c];exact aE ⟨rfl,_,rfl,yx,yx,h,λ_=>c⟩;rw[if_neg c];exact aE ⟨rfl,rfl,MR (m:=m0+i) o a l1 yx h (o.tot _ _ (a.lt l1) (a.lt l2) (a.ne l1 l2 (show lo+(m0+i)≠lo+(m0+i)-1 by lia)) (by simpa using c))⟩;rintro b st ⟨rfl,rfl,h⟩;exact⟨rfl,_,rfl,yx,yx,h,λz=>by lia⟩
def yR(hc:f6 prog w A κ it n lt s)(o:Ord n lt)(a:Prm n p){I:Nat}(h1:1<=I)(hn:lo+I<=n){Q:Option Nat->SortSt->Prop}(h:∀m p',Prm n p'->1<=m->m<=I->(∀i,i<lo->fp p' i=fp p i)->bx lt p' lo (lo+m)->Q (O m) (ts κ it P p')):SK prog w A E s (countRun' lo I) Q (ts κ it P p):=by
 have sz:=a.size;unfold countRun';refine aC (bU (nE hc o a (t9 1) h1 hn λi j _ _ _=>by lia) ?_);rintro b st ⟨rfl,m,rfl,g1,g2,g3,g4⟩;dsimp only;by_cases e1:(m == I)=Y;rw[if_pos e1];exact aE (h m p a g1 g2 (λ_ _=>rfl) g3);rw[if_neg e1];have e1':m≠I:=λz=>e1 (by rw[z];exact beq_self_eq_true _);by_cases e2:m > 1;rw[if_pos e2];refine aC (lI hc a yx yx ?_);dsimp only;rw[if_pos (g3 lo (lo+m-1) (t9 _) yx yx)];exact aE (h m p a g1 g2 (λ_ _=>rfl) g3);rw[if_neg e2];have em:m=1:=by lia
 subst em;refine aC (iA ?_);have d2:sf lt p lo (lo+2):=λi j hi dq hj=>by rw[show i=lo by lia,show j=lo+1 by lia];exact g4 yx
 refine aC (bU (iB (Q:=λb st=>st=ts κ it P p/\∃m,b=((U,m,0):Option (Option Nat)×Nat×Nat)/\2<=m/\m<=I/\sf lt p lo (lo+m)) (λi b st=>st=ts κ it P p/\b=(U,1+1+i,0)/\sf lt p lo (lo+(1+1+i))) ⟨rfl,rfl,d2⟩ ?_ ?_) ?_);rintro x i b st c6 ⟨rfl,rfl,d⟩;dsimp only;have l1:lo+(1+1+i)<n:=by lia
 have l2:lo+(1+1+i)-1<n:=by lia
 refine aC (lI hc a l1 l2 ?_);dsimp only;by_cases c:lt (fp p (lo+(1+1+i))) (fp p (lo+(1+1+i)-1))=Y;rw[if_pos c,if_neg yx];exact aE ⟨rfl,rfl,QS (m:=1+1+i) o a l1 yx d c⟩;rw[if_neg c];refine aC (lI hc a l2 l1 ?_);dsimp only;rw[if_pos (o.tot _ _ (a.lt l1) (a.lt l2) (a.ne l1 l2 yx) (by simpa using c))];exact aE ⟨rfl,_,rfl,yx,yx,d⟩;rintro b st ⟨rfl,rfl,d⟩;exact⟨rfl,_,rfl,yx,yx,d⟩;rintro b st ⟨rfl,m,rfl,k1,k2,d⟩;dsimp only;rw[if_neg yx];refine aC (aBk ?_);have hj:lo+m<=p.size:=by lia
 have a':Prm n (kas_rev p lo (lo+m)):=a.perm (mirror_perm _ _ _ _);have i':bx lt (kas_rev p lo (lo+m)) lo (lo+m):=λi j hi dq p6=>by rw[uY hj,uY hj,if_pos ⟨yx,yx⟩,if_pos ⟨yx,p6⟩];exact d _ _ yx yx yx
 refine aC (bU (nE hc o a' yx k2 hn i') ?_);rintro b st ⟨rfl,m',rfl,q1,q2,q3,q4⟩;exact aE (h m' _ a' yx q2 (λi hi=>by rw[uY hj,if_neg yx]) q3)
theorem KG(hc:f6 prog w A κ it n lt s)(o:Ord n lt)(a:Prm n p){k:Nat}(hk:lo+k<n)(h:bx lt p lo (lo+k)):
  SK prog w A E s (forIn [0:k] ((U,0,k):Option Bool×Nat×Nat) λx z=>
   if z.snd.fst >= z.snd.snd then pure (ForInStep.done (U,z.snd.fst,z.snd.snd))
   else do
    let qz <-ltAt' (lo+k) (lo+(z.snd.fst+z.snd.snd) / 2);match qz with
     |some I=>if I=Y then pure (ForInStep.yield (U,z.snd.fst,(z.snd.fst+z.snd.snd) / 2)) else pure (ForInStep.yield (U,(z.snd.fst+z.snd.snd) / 2+1,z.snd.snd))
     |x=>pure (ForInStep.done (O J,z.snd.fst,z.snd.snd))) (λb st=>st=ts κ it P p/\∃l r,b=(U,l,r)/\l<=k/\(∀i,i<l->lt (fp p (lo+i)) (fp p (lo+k))=Y)/\(∀i,l<=i->i<k->lt (fp p (lo+k)) (fp p (lo+i))=Y)) (ts κ it P p):=by
 refine iB (λt b st=>st=ts κ it P p/\∃l r,b=(U,l,r)/\l<=r/\r<=k/\r+t<=k+l/\(∀i,i<l->lt (fp p (lo+i)) (fp p (lo+k))=Y)/\(∀i,r<=i->i<k->lt (fp p (lo+k)) (fp p (lo+i))=Y)) ⟨rfl,_,_,rfl,yx,yx,yx,λi hi=>by lia,λi h1 h2=>by lia⟩ ?_ ?_;rintro x t b st ht ⟨rfl,l,r,rfl,h1,h2,h3,h4,h5⟩;clear ht;dsimp only;by_cases c:l >= r;rw[if_pos c];exact aE ⟨rfl,_,_,rfl,yx,h4,λi z1 z2=>h5 i yx z2⟩;rw[if_neg c];have l2:lo+(l+r) / 2<n:=by lia
 refine aC (lI hc a hk l2 ?_);dsimp only;by_cases d:lt (fp p (lo+k)) (fp p (lo+(l+r) / 2))=Y;rw[if_pos d];refine aE ⟨rfl,_,_,rfl,yx,yx,yx,h4,λi z1 z2=>?_⟩;by_cases e:i=(l+r) / 2;rw[e];exact d;exact o.tra _ _ _ (a.lt hk) (a.lt l2) (a.lt yx) d (h _ _ yx yx yx);rw[if_neg d];have d':=o.tot _ _ (a.lt hk) (a.lt l2) (a.ne hk l2 yx) (by simpa using d);refine aE ⟨rfl,_,_,rfl,yx,yx,yx,λi z1=>?_,h5⟩;by_cases e:i=(l+r) / 2;rw[e];exact d';exact o.tra _ _ _ (a.lt yx) (a.lt l2) (a.lt hk) (h _ _ yx yx yx) d';rintro b st ⟨rfl,l,r,rfl,h1,h2,h3,h4,h5⟩;exact⟨rfl,_,_,rfl,yx,h4,λi z1 z2=>h5 i yx z2⟩
def RF(hc:f6 prog w A κ it n lt s)(o:Ord n lt)(a:Prm n p){ok:Nat}(h1:1<=ok)(hm:ok<=m)(hn:lo+m<=n)(hi:bx lt p lo (lo+ok)){Q:Bool->SortSt->Prop}(h:∀p',Prm n p'->(∀i,i<lo->fp p' i=fp p i)->bx lt p' lo (lo+m)->Q Y (ts κ it P p')):SK prog w A E s (binarySort' lo m ok) Q (ts κ it P p):=by
 rw[binarySort'_eq,Nat.max_eq_left h1];refine aC (bU (SW (Q:=λb st=>b=((U,()):Option Bool×Unit)/\∃p',st=ts κ it P p'/\Prm n p'/\(∀i,i<lo->fp p' i=fp p i)/\bx lt p' lo (lo+m)) (λk b st=>b=(U,())/\∃p',st=ts κ it P p'/\Prm n p'/\(∀i,i<lo->fp p' i=fp p i)/\bx lt p' lo (lo+k)) ⟨rfl,p,rfl,a,λ_ _=>rfl,hi⟩ ?_ ?_) ?_);rintro k b st hk ⟨rfl,p',rfl,a',f',I⟩;have sz:=a'.size;refine aC (bU (KG hc o a' yx I) ?_);rintro b st ⟨rfl,l,r,rfl,g1,g2,g3⟩;refine aC (SU (aE ⟨rfl,_,rfl,a'.perm (bubble_perm _ _ _),λi z=>?_,λi j z1 z2 z3=>?_⟩));rw[mW yx yx,if_neg yx,if_neg yx,f' i z];have e1:=mW (p:=p') (k:=lo+k) (d:=lo+k-(lo+l)) yx yx i;have e2:=mW (p:=p') (k:=lo+k) (d:=lo+k-(lo+l)) yx yx j;rw[e1,e2];have ek:lo+k-(lo+k-(lo+l))=lo+l:=by lia
 rw[ek];by_cases c1:i=lo+l;rw[if_pos c1,if_neg yx,if_pos yx];rw[show j-1=lo+(j-1-lo) by lia];exact g3 _ yx yx;rw[if_neg c1];by_cases c2:lo+l<i/\i<=lo+k;rw[if_pos c2,if_neg yx,if_pos yx];exact I _ _ yx yx yx;rw[if_neg c2];by_cases c3:j=lo+l;rw[if_pos c3,show i=lo+(i-lo) by lia];exact g2 _ yx;rw[if_neg c3];by_cases c4:lo+l<j/\j<=lo+k;rw[if_pos c4];exact I _ _ yx yx yx;rw[if_neg c4];exact I _ _ yx yx yx;rintro b st ⟨rfl,p',rfl,a',f',I⟩;rw[show max ok m=m by lia]at I;exact⟨rfl,p',rfl,a',f',I⟩;rintro b st ⟨rfl,p',rfl,a',f',I⟩;exact aE (h p' a' f' I)
end
section
variable {prog:wg}{w:World}{A:Around}{E:wj}{κ:SortKind}{it:Array Keyed}{n:Nat}{lt:Nat->Nat->Bool}{s:Shared}{P:Array (Nat×Nat×Nat)}{p:Array Nat}
def NF{l:List Nat}(h:i<l.length):l[i]?=O (fp l.toArray i):=by unfold fp;rw[getD_eq_getD_getElem?,List.getElem?_toArray,su h];rfl
def sl(l:List Nat)(a b:Nat):List Nat:=(l.drop a).take (b-a)
def rV{l:List Nat}(h:a+i<b)(hb:b<=l.length):(sl l a b)[i]?=O (fp l.toArray (a+i)):=by unfold sl;rw[List.getElem?_take,if_pos yx,getElem?_drop,NF yx]
def jV{l:List Nat}(hb:b<=l.length):(sl l a b).length=b-a:=by unfold sl;rw[v7,w8];lia
def zN{l:List Nat}{c:Nat}(h1:a<=b)(h2:b<=c):sl l a b++sl l b c=sl l a c:=by unfold sl;rw[show c-a=(b-a)+(c-b) by lia,List.take_add,drop_drop,show a+(b-a)=b by lia]
def aBi{l:List Nat}:sl l 0 l.length=l:=by unfold sl;rw[drop_zero,Nat.sub_zero,w5]
def fW{l:List Nat}{x:Nat}(hb:b<=l.length)(h:x∈sl l a b):∃i,a<=i/\i<b/\x=fp l.toArray i:=by obtain⟨i,e⟩:=List.getElem?_of_mem h;have hi:=(sj.mp e).1;rw[jV hb]at hi;rw[rV yx hb]at e;exact⟨a+i,yx,yx,(u4 e).symm⟩
def CQ{l:List Nat}(hb:b<=l.length)(h:bx lt l.toArray a b):So lt (sl l a b):=by refine List.pairwise_iff_getElem.mpr λi j hi hj dq=>?_;have z:=hi;have I:=hj;rw[jV hb]at z I;rw[(sj.mp (rV (l:=l) (a:=a) (b:=b) (i:=i) yx hb)).2,(sj.mp (rV (l:=l) (a:=a) (b:=b) (i:=j) yx hb)).2];exact h _ _ yx yx yx
def aDb{l:List Nat}(h:So lt l):bx lt l.toArray 0 l.length:=λi j _ I z=>JM h (NF yx) (NF z) I
def JY{sa:Nat}(zs:List Keyed):∀(k:Nat) (X þ D:List Keyed),þ.length=zs.length->X.length=sa+k->(zs.zipIdx k).foldl (λa (x:Keyed×Nat)=>a.setIfInBounds (sa+x.2) x.1) (X++(þ++D)).toArray=(X++(zs++D)).toArray:=by
 induction zs with
 |nil=>intro k X þ D h hx;rw[ur.mp h];rfl
 |cons z zs ih=>
  intro k X þ D h hx;obtain⟨y,I,rfl⟩:∃y I,þ=y::I:=by
   cases þ with
   |nil=>cases h
   |cons y I=>exact⟨y,I,rfl⟩
  have e:(X++(y::I++D)).toArray.setIfInBounds (sa+k) z=((X++[z])++(I++D)).toArray:=by rw[List.setIfInBounds_toArray,<-hx,List.set_append_right _ _ (t9 _),Nat.sub_self];simp
  show (zs.zipIdx (k+1)).foldl _ ((X++(y::I++D)).toArray.setIfInBounds (sa+k) z)=_;rw[e,ih (k+1) (X++[z]) I D (Nat.succ.inj h) (by rw[um,hx];rfl)];simp
def AH(hc:f6 prog w A κ it n lt s)(o:Ord n lt){l:List Nat}(a:Prm n l.toArray){n1 pw:Nat}(h1:0<n1)(h2:n1<n)(i1:bx lt l.toArray 0 n1)(i2:bx lt l.toArray n1 n){Q:Bool->SortSt->Prop} (h:∀ae p',arrOf ae=p'.map (kas_item it)->failedOf ae=U->pendingOf ae=#[(0,n,pw)]->Prm n p'->bx lt p' 0 n->Q Y ae):SK prog w A E s (mergeAt' 0) Q (ts κ it #[(0,n1,pw),(n1,n-n1,0)] l.toArray):=by
 have sz:l.length=n:=by have:=a.size;simpa using this
 have pm:l.Perm (List.range n):=a.pm;have nd:l.Nodup:=pm.nodup_iff.mpr List.nodup_range;have arr:l.toArray.map (kas_item it)=aN it l:=by unfold aN;simp
 obtain⟨k,hk,ek⟩:=bound n1 (λi=>!lt (fp l.toArray n1) (fp l.toArray i)) λi j dq hj hf=>by have c:=o.tot _ _ (a.lt h2) (a.lt (show j<n by lia)) (a.ne h2 (show j<n by lia) yx) (by simpa using hf);have d:=o.tra _ _ _ (a.lt (show i<n by lia)) (a.lt (show j<n by lia)) (a.lt h2) (i1 i j yx dq hj) c;show (!lt (fp l.toArray n1) (fp l.toArray i))=Y;rw[o.asy _ _ (a.lt (show i<n by lia)) (a.lt h2) d];rfl
 obtain⟨m,hm0,em⟩:=bound (n-n1) (λi=>lt (fp l.toArray (n1+i)) (fp l.toArray (n1-1))) λi j dq hj hf=>o.tra _ _ _ (a.lt (show n1+i<n by lia)) (a.lt (show n1+j<n by lia)) (a.lt (show n1-1<n by lia)) (i2 (n1+i) (n1+j) yx yx yx) hf
 have hm:n1+m<=n:=by lia
 clear hm0;have lo:∀i,i<k->lt (fp l.toArray i) (fp l.toArray n1)=Y:=λi hi=>by have:=ek i yx;rw[uv hi]at this;exact o.tot _ _ (a.lt h2) (a.lt (show i<n by lia)) (a.ne h2 (show i<n by lia) yx) (by simpa using this)
 have hi:∀i,n1+m<=i->i<n->lt (fp l.toArray (n1-1)) (fp l.toArray i)=Y:=λi z1 I=>by have:=em (i-n1) yx;rw[tj yx,show n1+(i-n1)=i by lia]at this;exact o.tot _ _ (a.lt I) (a.lt (show n1-1<n by lia)) (a.ne I (show n1-1<n by lia) yx) this
 have whole:lt (fp l.toArray (n1-1)) (fp l.toArray n1)=Y->bx lt l.toArray 0 n:=λz i j _ dq hj=>by
  by_cases c:j<n1;exact i1 i j yx dq c;by_cases d:n1<=i;exact i2 i j d dq hj;have b1:lt (fp l.toArray i) (fp l.toArray n1)=Y:=by by_cases e:i=n1-1;rw[e];exact z;exact o.tra _ _ _ (a.lt (show i<n by lia)) (a.lt (show n1-1<n by lia)) (a.lt h2) (i1 i (n1-1) yx yx yx) z
  by_cases e:j=n1;rw[e];exact b1;exact o.tra _ _ _ (a.lt (show i<n by lia)) (a.lt h2) (a.lt hj) b1 (i2 n1 j yx yx hj)
 have pend:(((#[(0,n1,pw),(n1,n-n1,0)]:Array (Nat×Nat×Nat)).setIfInBounds 0 (0,n1+(n-n1),pw)).eraseIdxIfInBounds (0+1))=#[(0,n,pw)]:=by rw[show n1+(n-n1)=n by lia];simp[Array.eraseIdxIfInBounds]
 unfold mergeAt';refine aC (eP ?_);refine aC (aBj ?_);refine aC (bH (rN a h2) ?_);refine aC (fU hc (m:=k) (q:=λi=>fp l.toArray i) rfl (a.lt h2) (λi z=>a.lt yx) (λi z=>by rw[uk];exact rN a yx) ek hk h1 ?_);dsimp only;by_cases c1:n1-k=0;rw[if_pos (by rw[c1];rfl)];refine aE (h _ l.toArray rfl rfl pend a (whole (lo _ yx)));rw[if_neg (by simpa using c1)];have ck:k<n1:=by lia
 clear c1;have eb:0+k+(n1-k)-1=n1-1:=by lia
 refine aC (bH (x:=kas_item it (fp l.toArray (n1-1))) (by rw[eb];exact rN a yx) ?_);refine aC (fU hc (m:=m) (q:=λi=>fp l.toArray (n1+i)) rfl (a.lt yx) (λi z=>a.lt yx) (λi z=>rN a yx) em yx yx ?_);dsimp only;by_cases c2:m=0;rw[if_pos (by rw[c2];rfl)];refine aE (h _ l.toArray rfl rfl pend a (whole (hi n1 yx h2)));rw[if_neg (by simpa using c2)];have ex:(arrOf (ts κ it #[(0,n1,pw),(n1,n-n1,0)] l.toArray)).extract (0+k) n1=aN it (sl l k n1):=by show (l.toArray.map (kas_item it)).extract (0+k) n1=_;rw[arr,dM,uk];rfl
 have ey:(arrOf (ts κ it #[(0,n1,pw),(n1,n-n1,0)] l.toArray)).extract n1 (n1+m)=aN it (sl l n1 (n1+m)):=by show (l.toArray.map (kas_item it)).extract n1 (n1+m)=_;rw[arr,dM];rfl
 have hl:sl l 0 k++((sl l k n1++sl l n1 (n1+m))++sl l (n1+m) n)=l:=by rw[zN hk yx,zN yx yx,zN yx yx,<-sz,aBi]
 have mn:∀{x a b},b<=n->x∈sl l a b->x<n:=λ{x a' b} hb hx=>by obtain⟨i,_,z,rfl⟩:=fW yx hx;exact a.lt yx
 have g:MG lt n (sl l k n1) (sl l n1 (n1+m)):=⟨o,λx=>mn yx,λx=>mn yx,CQ yx λi j z1 I z3=>i1 i j yx I z3,CQ yx λi j z1 I z3=>i2 i j z1 I yx,λx hx y hy=>by obtain⟨i,u1,u2,rfl⟩:=fW yx hx;obtain⟨j,v1,v2,rfl⟩:=fW yx hy;exact a.ne yx yx yx⟩;have x0:(sl l k n1)[0]?=O (fp l.toArray k):=rV yx yx;have y0:(sl l n1 (n1+m))[0]?=O (fp l.toArray n1):=rV yx yx;have xl:(sl l k n1)[(sl l k n1).length-1]?=O (fp l.toArray (n1-1)):=by rw[jV yx,rV yx yx,show k+(n1-k-1)=n1-1 by lia]
 have q1:lt (fp l.toArray n1) (fp l.toArray k)=Y:=by have:=ek k yx;rw[tj (va k)]at this;simpa using this
 have q2:∀y∈sl l n1 (n1+m),lt y (fp l.toArray (n1-1))=Y:=λy hy=>by obtain⟨j,v1,v2,rfl⟩:=fW yx hy;have:=em (j-n1) yx;rw[uv yx,show n1+(j-n1)=j by lia]at this;exact this
 have fin:∀r ae,Res lt it (sl l k n1) (sl l n1 (n1+m)) r->SS (SortSt.mk' κ (l.toArray.map (kas_item it)) ((#[(0,n1,pw),(n1,n-n1,0)]:Array (Nat×Nat×Nat)).setIfInBounds 0 (0,n1+(n-n1),pw) |>.eraseIdxIfInBounds (0+1)) 7 U) ae ->
   SK prog w A E s (do modify λs=>setArr s (r.toList.zipIdx.foldl (λa (x:Keyed×Nat)=>a.setIfInBounds (0+k+x.2) x.1) (arrOf s));return (failedOf (<-get)).isNone) Q ae:=λr ae hr hs=>by
  obtain⟨zs,rfl,zp,zo⟩:=hr;refine aC (bP (aC (eP (aE ?_))));have ha:(aN it zs).toList.zipIdx.foldl (λa (x:Keyed×Nat)=>a.setIfInBounds (0+k+x.2) x.1) (arrOf ae)=(sl l 0 k++(zs++sl l (n1+m) n)).toArray.map (kas_item it):=by
   rw[hs.2.1];show (aN it zs).toList.zipIdx.foldl (λa (x:Keyed×Nat)=>a.setIfInBounds (0+k+x.2) x.1) (l.toArray.map (kas_item it))=_;have e1:l.toArray.map (kas_item it)=((sl l 0 k).map (kas_item it)++(((sl l k n1++sl l n1 (n1+m)).map (kas_item it))++(sl l (n1+m) n).map (kas_item it))).toArray:=by rw[<-vn,<-vn,hl];simp
   rw[e1];refine(JY (zs.map (kas_item it)) 0 ((sl l 0 k).map (kas_item it)) ((sl l k n1++sl l n1 (n1+m)).map (kas_item it)) ((sl l (n1+m) n).map (kas_item it)) (by rw[t8,t8,zp.length_eq]) (by rw[t8,jV yx];lia)).trans ?_;simp
  show Q ((failedOf ae).isNone) _;rw[hs.2.2.2];have pm':(sl l 0 k++(zs++sl l (n1+m) n)).Perm l:=by have:=((zp.append_right (sl l (n1+m) n)).append_left (sl l 0 k));rwa [hl]at this
  have so':So lt (sl l 0 k++(zs++sl l (n1+m) n)):=by
   have up:∀i j,i<k->n1<=j->j<n->lt (fp l.toArray i) (fp l.toArray j)=Y:=λi j z1 I z3=>by by_cases e:j=n1;rw[e];exact lo i z1;exact o.tra _ _ _ (a.lt (show i<n by lia)) (a.lt h2) (a.lt z3) (lo i z1) (i2 n1 j yx yx z3)
   refine fE (CQ yx λi j z1 I z3=>i1 i j z1 I yx) (fE zo (CQ yx λi j z1 I z3=>i2 i j yx I z3) λz hz d hd=>?_) λx hx y hy=>?_;obtain⟨j,v1,v2,rfl⟩:=fW yx hd;rcases wb.mp (zp.mem_iff.mp hz) with hz|hz;obtain⟨i,u1,u2,rfl⟩:=fW yx hz;by_cases e:i=n1-1;rw[e];exact hi j v1 v2;exact o.tra _ _ _ (a.lt (show i<n by lia)) (a.lt (show n1-1<n by lia)) (a.lt v2) (i1 i (n1-1) yx yx yx) (hi j v1 v2);obtain⟨i,u1,u2,rfl⟩:=fW yx hz;exact i2 i j u1 yx v2;obtain⟨i,u1,u2,rfl⟩:=fW yx hx;rcases wb.mp hy with hy|hy;rcases wb.mp (zp.mem_iff.mp hy) with hy|hy;obtain⟨j,v1,v2,rfl⟩:=fW yx hy;exact i1 i j yx yx v2;obtain⟨j,v1,v2,rfl⟩:=fW yx hy;exact up i j u2 v1 yx;obtain⟨j,v1,v2,rfl⟩:=fW yx hy;exact up i j u2 yx v2
  have len':(sl l 0 k++(zs++sl l (n1+m) n)).length=n:=pm'.length_eq.trans sz;have in':=aDb so';rw[len']at in';exact h _ _ ha hs.2.2.2 (hs.2.2.1.trans pend) ⟨pm'.trans pm⟩ in'
 rw[ex,ey];by_cases c3:n1-k<=m;rw[if_pos c3];exact aC (AF hc g x0 y0 q1 xl q2 rfl λr ae hr hs=>fin r ae hr hs);rw[if_neg c3];exact aC (AG hc g x0 y0 q1 xl q2 rfl λr ae hr hs=>fin r ae hr hs)
end
section
variable {prog:wg}{w:World}{A:Around}{E:wj}{κ:SortKind}{it:Array Keyed}{n:Nat}{lt:Nat->Nat->Bool}{s:Shared}
def q9(κ:SortKind)(it:Array Keyed)(n:Nat)(lt:Nat->Nat->Bool)(i lo:Nat)(st:SortSt):Prop:=(i=0/\lo=0/\∃p,st=ts κ it #[] p/\Prm n p) \/(1<=i/\0<lo/\lo<=n/\(lo<n->i=1/\n=64/\32<=lo)/\∃p,st=ts κ it #[(0,lo,0)] p/\Prm n p/\bx lt p 0 lo) \/(lo=n/\∃p n1 pw,0<n1/\n1<n/\st=ts κ it #[(0,n1,pw),(n1,n-n1,0)] p/\Prm n p/\bx lt p 0 n1/\bx lt p n1 n)
def HD(h:n<64):minRun' n n 0=n:=by
 cases n with
 |zero=>rfl
 |succ r=>rw[minRun'_succ,if_pos h]
def HE:minRun' 64 64 0=32:=rfl
def TH(hc:f6 prog w A κ it n lt s)(o:Ord n lt)(h2:2<=n)(h64:n<=64){Q:Unit->SortSt->Prop}(h:∀ae p',arrOf ae=p'.map (kas_item it)->failedOf ae=U->Prm n p'->bx lt p' 0 n->Q () ae):SK prog w A E s sortRuns' Q (ts κ it #[] (List.range n).toArray):=by
 have hmr:∃mr,minRun' n n 0=mr/\mr<=n/\(n<64->mr=n)/\(n=64->mr=32):=by
  by_cases e:n<64;exact⟨n,HD e,t9 _,λ_=>rfl,λz=>by lia⟩;obtain rfl:n=64:=by lia
  exact⟨32,HE,yx,λz=>by lia,λ_=>rfl⟩
 obtain⟨mr,hmr,m1,m2,m3⟩:=hmr;rw[sortRuns'_eq];refine aC (eP ?_);have hsz:(arrOf (ts κ it #[] (List.range n).toArray)).size=n:=by show ((List.range n).toArray.map (kas_item it)).size=n;simp
 dsimp only;rw[hsz,hmr];refine aC (bU (iB (Q:=λb st=>∃i lo,b=(U,lo)/\q9 κ it n lt i lo st/\n<=lo) (λi b st=>∃lo,b=(U,lo)/\q9 κ it n lt i lo st) ⟨0,rfl,.inl ⟨rfl,rfl,_,rfl,⟨.refl _⟩⟩⟩ ?_ ?_) ?_);rintro x i b st hi ⟨lo,rfl,hS⟩;dsimp only;by_cases hge:lo >= n;rw[if_pos hge];exact aE ⟨i,lo,rfl,hS,hge⟩;rw[if_neg hge];rcases hS with ⟨rfl,rfl,p,rfl,a⟩|⟨hi1,hX,hln,h64',p,rfl,a,i1⟩|⟨e,_⟩;have I:∀m p',Prm n p'->bx lt p' 0 (0+m)->0<m->m<=n->mr<=m->SK prog w A E s (do
   modify λs=>setPending s ((pendingOf s).push (0,m,0))
   pure (ForInStep.yield ((U,0+m):Option Unit×Nat))) (λr ae=>match r with | .done b'=>∃i lo,b'=(U,lo)/\q9 κ it n lt i lo ae/\n<=lo | .yield b'=>∃lo,b'=(U,lo)/\q9 κ it n lt (0+1) lo ae) (ts κ it #[] p'):=λm p' a' i' z1 z2 z3=>by
  refine aC (bP (aE ⟨_,rfl,.inr (.inl ⟨yx,yx,yx,λz=>?_,p',?_,a',i'⟩)⟩));exact⟨rfl,yx,yx⟩;rw[uk];rfl
 refine aC (yR hc o a yx yx λm p' a' g1 g2 g3 g4=>?_);dsimp only;by_cases c6:m<mr;rw[if_pos c6];refine aC (iA ?_);refine aC (RF hc o a' g1 (m:=min (n-0) mr) yx yx g4 λl9 a'' f'' i''=>?_);simp only[uo,tu,if_false];refine aC (eP ?_);exact I _ l9 a'' i'' yx yx yx;rw[if_neg c6];refine aC (eP ?_);exact I _ p' a' g4 yx yx yx;obtain⟨rfl,e64,h32⟩:=h64' yx;have em:mr=32:=m3 e64;have I:∀m p' pw,m=n-lo->Prm n p'->bx lt p' 0 lo->bx lt p' lo (lo+m)->∃lo',((U,lo+m):Option Unit×Nat)=(U,lo')/\q9 κ it n lt (1+1) lo' (ts κ it #[(0,lo,pw),(lo,m,0)] p'):=λm p' pw z1 a' i1' i2'=>by refine⟨_,rfl,.inr (.inr ⟨yx,p',lo,pw,hX,yx,by rw[z1],a',i1',?_⟩)⟩;rwa [show lo+m=n by lia]at i2'
 refine aC (yR hc o a yx yx λm p' a' g1 g2 g3 g4=>?_);have i1':bx lt p' 0 lo:=λi j y1 y2 y3=>by rw[g3 i yx,g3 j y3];exact i1 i j y1 y2 y3
 dsimp only;by_cases c6:m<mr;rw[if_pos c6];refine aC (iA ?_);refine aC (RF hc o a' g1 (m:=min (n-lo) mr) yx yx g4 λl9 a'' f'' i''=>?_);simp only[uo,tu,if_false];refine aC (eP ?_);rw[show (pendingOf (ts κ it #[(0,lo,0)] l9)).back?=O (0,lo,0) from rfl];dsimp only;refine aC (bU (iB (Q:=λb st=>b=(U,())/\st=ts κ it #[(0,lo,0)] l9) (λ_ b st=>b=(U,())/\st=ts κ it #[(0,lo,0)] l9) ⟨rfl,rfl⟩ ?_ λ_ _ z=>z) ?_);rintro x i b st _ ⟨rfl,rfl⟩;exact aC (eP (aE ⟨rfl,rfl⟩));rintro b st ⟨rfl,rfl⟩;exact aC (bP (aC (bP (aE (I _ l9 _ yx a'' (λi j y1 y2 y3=>by rw[f'' i yx,f'' j y3];exact i1' i j y1 y2 y3) i'')))));rw[if_neg c6];refine aC (eP ?_);rw[show (pendingOf (ts κ it #[(0,lo,0)] p')).back?=O (0,lo,0) from rfl];dsimp only;refine aC (bU (iB (Q:=λb st=>b=(U,())/\st=ts κ it #[(0,lo,0)] p') (λ_ b st=>b=(U,())/\st=ts κ it #[(0,lo,0)] p') ⟨rfl,rfl⟩ ?_ λ_ _ z=>z) ?_);rintro x i b st _ ⟨rfl,rfl⟩;exact aC (eP (aE ⟨rfl,rfl⟩));rintro b st ⟨rfl,rfl⟩;exact aC (bP (aC (bP (aE (I _ p' _ yx a' i1' g4)))));lia;rintro b st ⟨lo,rfl,hS⟩;refine⟨_,lo,rfl,hS,?_⟩;rcases hS with ⟨e,_⟩|⟨_,_,_,e,_⟩|⟨e,_⟩;lia;by_cases z:lo<n;have:=(e z).1;lia;lia;lia;rintro b st ⟨i,lo,rfl,hS,hge⟩;dsimp only;have I:∀st p,arrOf st=p.map (kas_item it)->failedOf st=U->(pendingOf st).size=1->Prm n p->bx lt p 0 n->True:=λ_ _ _ _ _ _ _=>trivial;refine aC (bU (iB (Q:=λb st=>b=(U,())/\∃p,arrOf st=p.map (kas_item it)/\failedOf st=U/\Prm n p/\bx lt p 0 n) (λi b st=>b=(U,())/\((i=0/\∃p n1 pw,0<n1/\n1<n/\st=ts κ it #[(0,n1,pw),(n1,n-n1,0)] p/\Prm n p/\bx lt p 0 n1/\bx lt p n1 n)\/((pendingOf st).size=1/\∃p,arrOf st=p.map (kas_item it)/\failedOf st=U/\Prm n p/\bx lt p 0 n))) ⟨rfl,?_⟩ ?_ ?_) ?_);rcases hS with ⟨_,e,_⟩|⟨_,_,e,_,p,rfl,a,i1⟩|⟨_,p,n1,pw,z⟩;lia;obtain rfl:lo=n:=by lia
 exact .inr ⟨rfl,p,rfl,rfl,a,i1⟩;exact .inl ⟨rfl,p,n1,pw,z⟩;rintro x i b st hi ⟨rfl,hz⟩;refine aC (eP ?_);rcases hz with ⟨rfl,p,n1,pw,z1,z2,rfl,a,i1,i2⟩|⟨e,z⟩;rw[if_neg (by show ¬2<=1;lia)];obtain⟨l⟩:=p;refine aC (AH hc o a z1 z2 i1 i2 λae p' y1 y2 y3 y4 y5=>?_);exact aE ⟨rfl,.inr ⟨by rw[y3];rfl,p',y1,y2,y4,y5⟩⟩;rw[if_pos yx];exact aE ⟨rfl,z⟩;rintro b st ⟨rfl,⟨e,_⟩|⟨_,z⟩⟩;lia;exact⟨rfl,z⟩;rintro b st ⟨rfl,p,y1,y2,y3,y4⟩;exact aE (h st p y1 y2 y3 y4)
def aEM(ask:∀i j C,i<vs.length->j<vs.length->C (lt i j) s->kas_ask prog w A κ vs i j C s)(o:Ord vs.length lt)(h2:2<=vs.length)(h64:vs.length<=64):wpAny (model prog w) A ((sortRuns').run (SortSt.mk' κ (vs.toArray.zip vs.toArray) #[] 7 U)) (λr s'=>s'=s/\∃p:Array Nat,Prm vs.length p/\oj lt p vs.length/\arrOf r.2=p.map (kas_item (vs.toArray.zip vs.toArray))/\failedOf r.2=U) E s:=by
 rw[kat_ask_eq rfl]at ask;have run:=TH (E:=E) (it:=vs.toArray.zip vs.toArray) (Q:=λ_ ae=>∃p:Array Nat,Prm vs.length p/\oj lt p vs.length/\arrOf ae=p.map (kas_item (vs.toArray.zip vs.toArray))/\failedOf ae=U) ask o h2 h64 λae p q1 q2 q3 q4=>⟨p,q3,λi j z1 I=>q4 i j (vz _) z1 I,q1,q2⟩;have z:SortSt.mk' κ (vs.toArray.zip vs.toArray) #[] 7 U=ts κ (vs.toArray.zip vs.toArray) #[] (List.range vs.length).toArray:=by have e:=kas_range (vs.toArray.zip vs.toArray);rw[show (vs.toArray.zip vs.toArray).size=vs.length by simp]at e;show SortSt.mk' κ (vs.toArray.zip vs.toArray) #[] 7 U=SortSt.mk' κ ((List.toArray (List.range vs.length)).map (kas_item (vs.toArray.zip vs.toArray))) #[] 7 U;rw[e]
 rw[z];exact run
end
open PySem.Spec L2 PySem.Calls
def Kept(g g':Heap):Prop:=∀b u,g.get? b=O u->g'.get? b=O u
section
variable {prog:wg}{w:World}{A:Around}{E:wj}{s:Shared}{vs:List Value}{lt:Nat->Nat->Bool}{κ:SortKind}
noncomputable def lO(vs:List Value)(p:Array Nat):List Value:=p.toList.map λi=>vs.getD i Value.none
def KP{p:Array Nat}(a:Prm vs.length p):(lO vs p).length=vs.length:=by unfold lO;rw[t8,length_toList,a.size]
def DK:lO vs (List.toArray (List.range vs.length))=vs:=by unfold lO;apply List.ext_getElem;simp;intro i h1 h2;simp[h2]
structure r8 (prog:wg) (w:World) (A:Around) (κ:SortKind) (vs:List Value) (lt:Nat->Nat->Bool) (s:Shared):Prop where
 kind:2<=vs.length->∀(α:SortKind->Shared->Prop),α κ s->wpAny (model prog w) A (keyKind' vs.toArray) α (λ_ _=>False) s
 ask:∀i j C,i<vs.length->j<vs.length->C (lt i j) s->kas_ask prog w A κ vs i j C s
def SQ{a:Addr}{P:PySem.Fin->Shared->Prop}(ho:s.heap.get? a=O (seqObj "list" vs.toArray n))(o:Ord vs.length lt)(h64:vs.length<=64) (hl:∀g',(∀b u,b≠a->s.heap.get? b=O u->g'.get? b=O u)->r8 prog w A κ vs lt {s with heap:=g' }) (hP:∀g' p c,(∀b u,b≠a->s.heap.get? b=O u->g'.get? b=O u)->Prm vs.length p->oj lt p vs.length->g'.get? a=O (seqObj "list" (lO vs p).toArray c)->P (.done (.ret .none)) {s with heap:=g' }):wpAny (model prog w) A (Builtin.«list.sort» ⟨[.ref a],[]⟩) P E s:=by
 have c6:a<s.heap.objs.size:=uf ho;have I:=Heap.SameBut.update s.heap a (Obj.mapSeq λ_=>(#[]:Array Value));have hz:vs.length<=sizeLine:=by rw[sizeLine_eq];lia
 obtain⟨e1,j3⟩:∃e1,(s.heap.update a (Obj.mapSeq λ_=>(#[]:Array Value))).get? a=O (seqObj "list" #[] e1):=⟨_,get?_update_seq ho λ_=>#[]⟩;rw[list_sort_plain];refine vb (listItems_at ho rfl (vb (listUpdate_at ho rfl (vb (seqEpoch_at j3 rfl (vb (wpAny_newTuple (vb (wpAny_newList (wpAny_holding ?_) (vz _))) hz)))) (by rw[u0];exact hz) (vz _))));show wpAny (model prog w) A _ P E {s with heap:=((s.heap.update a (Obj.mapSeq λ_=>(#[]:Array Value))).push (seqObj "tuple" vs.toArray 0)).push (seqObj "list" #[] 0)};have kp:∀b u,(s.heap.update a (Obj.mapSeq λ_=>(#[]:Array Value))).get? b=O u->(((s.heap.update a (Obj.mapSeq λ_=>(#[]:Array Value))).push (seqObj "tuple" vs.toArray 0)).push (seqObj "list" #[] 0)).get? b=O u:=λb u e=>tm _ (tm _ e);have kq:∀b u,b≠a->s.heap.get? b=O u->(((s.heap.update a (Obj.mapSeq λ_=>(#[]:Array Value))).push (seqObj "tuple" vs.toArray 0)).push (seqObj "list" #[] 0)).get? b=O u:=λb u hb e=>kp b u ((I.2 b hb).trans e);have dn:=kp a _ j3;generalize ((s.heap.update a (Obj.mapSeq λ_=>(#[]:Array Value))).push (seqObj "tuple" vs.toArray 0)).push (seqObj "list" #[] 0)=g1 at *;have L:=hl g1 kq;have fin:∀p:Array Nat,Prm vs.length p->oj lt p vs.length->P (.done (.ret .none)) {s with heap:=g1.update a (Obj.mapSeq λ_=>(lO vs p).toArray)}:=λp pa inc=>by have z:=Heap.SameBut.update g1 a (Obj.mapSeq λ_=>(lO vs p).toArray);obtain⟨c2,fx⟩:∃c2,(g1.update a (Obj.mapSeq λ_=>(lO vs p).toArray)).get? a=O (seqObj "list" (lO vs p).toArray c2):=⟨_,get?_update_seq dn λ_=>(lO vs p).toArray⟩;exact hP _ p c2 (λb u hb e=>(z.2 b hb).trans (kq b u hb e)) pa inc fx
 dsimp only;by_cases h2:vs.toArray.size<2;have h2':vs.length<2:=by simpa using h2
 rw[if_pos h2,if_pos h2];refine vb (vc ?_);rw[StateT.run_pure];refine vb (vc ?_);dsimp only;have e0:(arrOf (SortSt.mk' general' (vs.toArray.zip vs.toArray) #[] 7 U)).map (·.2)=(lO vs (List.toArray (List.range vs.length))).toArray:=by rw[DK];show (vs.toArray.zip vs.toArray).map (·.2)=_;apply toList_inj.mp;simp[List.map_snd_zip]
 rw[e0];refine vb (seqEpoch_at dn rfl (vb (listUpdate_at dn rfl ?_ (vz _) (by rw[DK,u0];exact le_succ_of_le hz))));simp only[bne_self_eq_false,tu,if_false];exact vc (fin _ ⟨y9⟩ λi j q1 q2=>by lia);have h2':2<=vs.length:=by
  have:¬vs.length<2:=by simpa using h2
  lia
 rw[if_neg h2,if_neg h2];refine vb (vd (L.kind h2' (λk u=>k=κ/\u={s with heap:=g1}) ⟨rfl,rfl⟩) (λk s0 hk=>?_) λ_ _ x=>x.elim);obtain⟨rfl,rfl⟩:=hk;refine vb (vd (aEM L.ask o h2' h64) ?_ λ_ _ x=>x);rintro⟨⟨⟩,ae⟩ s' ⟨rfl,p,pa,inc,har,hf⟩;dsimp only;have e0:(arrOf ae).map (·.2)=(lO vs p).toArray:=kat_snds rfl har;rw[e0];refine vb (seqEpoch_at dn rfl (vb (listUpdate_at dn rfl ?_ (vz _) (by rw[u0,KP pa];exact le_succ_of_le hz))));rw[hf];simp only[bne_self_eq_false,tu,if_false];exact vc (fin p pa inc)
def yY{l:Addr}{Q:wj}(hl:s.heap.IsList l vs.toArray)(o:Ord vs.length lt)(h64:vs.length<=64) (hL:∀g',Kept s.heap g'->r8 prog w A.in1.in1 κ vs lt {s with heap:=g' }) (hQ:∀g' p c,Kept s.heap g'->Prm vs.length p->oj lt p vs.length->g'.get? (s.heap.objs.size+1)=O (seqObj "list" (lO vs p).toArray c)->Q (.ref (s.heap.objs.size+1)) {s with heap:=g' }):wpAny (model prog w) A (call (.builtin "sorted") [.ref l]) Q E s:=by
 have hz:vs.length<=sizeLine:=by rw[sizeLine_eq];lia
 refine Calls.call_function_entry kind_sorted plain_sorted entry_sorted (args_sorted1 _) ?_;unfold Builtin.«sorted»;refine vb (m:=checkCount "sorted" 1 1 _) (vc (vb (collect_list hl (vb (wpAny_newList ?_ hz)) hz)));have sz:((s.heap.push (seqObj "list" #[] 0)).update s.heap.objs.size (Obj.mapSeq (·++vs.toArray))).objs.size=s.heap.objs.size+1:=by rw[Heap.size_update,size_push']
 have qy:(((s.heap.push (seqObj "list" #[] 0)).update s.heap.objs.size (Obj.mapSeq (·++vs.toArray))).push (seqObj "list" vs.toArray 0)).get? (s.heap.objs.size+1)=O (seqObj "list" vs.toArray 0):=by have:=ve ((s.heap.push (seqObj "list" #[] 0)).update s.heap.objs.size (Obj.mapSeq (·++vs.toArray))) (o:=seqObj "list" vs.toArray 0) rfl;rw[sz]at this;exact this
 have kp:Kept s.heap (((s.heap.push (seqObj "list" #[] 0)).update s.heap.objs.size (Obj.mapSeq (·++vs.toArray))).push (seqObj "list" vs.toArray 0)):=λb u e=>by have lb:b<s.heap.objs.size:=uf e;have nb:b≠s.heap.objs.size:=v3 lb;rw[Heap.get?_push_ne _ _ _ (by rw[sz];exact v3 (Nat.lt_succ_of_lt lb)),Heap.get?_update_ne _ _ _ _ nb,Heap.get?_push_ne _ _ _ nb];exact e
 show wpAny _ _ _ _ _ {s with heap:=((s.heap.push (seqObj "list" #[] 0)).update s.heap.objs.size (Obj.mapSeq (·++vs.toArray))).push (seqObj "list" vs.toArray 0)};rw[sz];generalize ((s.heap.push (seqObj "list" #[] 0)).update s.heap.objs.size (Obj.mapSeq (·++vs.toArray))).push (seqObj "list" vs.toArray 0)=g1 at *;have nk:∀b u,s.heap.get? b=O u->b≠s.heap.objs.size+1:=λb u e=>v3 (Nat.lt_succ_of_lt (uf e));refine vb (wpAny_holding (wpAny_call_entry slot_list_sort ⟨_,qy,rfl⟩ entry_list_sort (SQ (s:={s with heap:=g1}) (κ:=κ) (lt:=lt) qy o h64 (λg' k=>hL g' λb u e=>k b u (nk b u e) (kp b u e)) λg' p c k pa z I=>?_) (args_list_sort _)));exact⟨_,rfl,vc ⟨_,rfl,hQ g' p c (λb u e=>k b u (nk b u e) (kp b u e)) pa z I⟩⟩
end
noncomputable def ay(ks:List (Int×Int))(i:Nat):Int×Int:=ks.getD i (0,0)
def MD(h:i<ks.length):ay ks i=ks[i]:=by unfold ay;simp[h]
def KQ(nd:ks.Nodup):Ord ks.length λi j=>cH (ay ks i) (ay ks j):=by
 refine⟨λa b ha hb eu e=>?_,λa b ha hb e=>?_,λa b c ha hb hc e1 e2=>?_⟩;have:ay ks a≠ay ks b:=by rw[MD ha,MD hb];exactλz=>eu ((List.getElem_inj nd).mp z)
 rw[nZ]at e;rw[eI];have:¬((ay ks a).1=(ay ks b).1/\(ay ks a).2=(ay ks b).2):=λq=>this (Prod.ext q.1 q.2);lia;rw[eI]at e;rw[nZ];lia;rw[eI]at e1 e2 ⊢;lia
def MB{p:Array Nat}(a:Prm ks.length p)(inc:oj (λi j=>cH (ay ks i) (ay ks j)) p ks.length):p.toList.map (ay ks)=iY ks:=by
 refine oT ?_ ?_;refine(a.pm.map _).trans (List.Perm.of_eq ?_);apply List.ext_getElem;simp;intro i h1 h2;simp[ay,h2];rw[pairwise_map,List.pairwise_iff_getElem];intro i j hi z I;have l1:=a.size;have:=inc i j I (by simpa [l1] using z);have e:∀k (hk:k<p.toList.length),fp p k=p.toList[k]:=λk hk=>by unfold fp;rw[getD_eq_getD_getElem?,Array.getElem?_eq_getElem (by simpa using hk)];simp
 rw[e i hi,e j z]at this;exact this
section
variable {X:Cx}{T:Tx}{pins:wk}{M:L2.St}{H:Hp}{s:Shared}{S:Addr->Prop}
def aGK(h:Heap)(v:Value)(k:Int×Int):Prop:=∃a o n t u,v=.ref a/\h.get? a=O o/\o.cls=.type "tuple"/\o.data=.seq #[.int k.1 t,.int k.2 u] n
noncomputable def gM(h:Heap):List Value->List (Int×Int)->Prop
 |[],ks=>ks=[]
 |v::r,ks=>∃k z,ks=k::z/\aGK h v k/\gM h r z
theorem gM.kept{h':Heap}(hk:Kept h h'):∀{vs:List Value} {ks:List (Int×Int)},gM h vs ks->gM h' vs ks
 |[],ks,e=>e
 |v::r,ks,⟨k,gy,e,⟨a,o,n,t,u,q1,q2,I,z⟩,q⟩=>⟨k,gy,e,⟨a,o,n,t,u,q1,hk _ _ q2,I,z⟩,gM.kept hk q⟩
theorem gM.get:∀{vs:List Value} {ks:List (Int×Int)},gM h vs ks->∀i,i<vs.length->aGK h (vs.getD i Value.none) (ay ks i)
 |[],ks,e,i,hi=>by simp at hi
 |v::r,ks,⟨k,I,e,z,q⟩,0,_=>by subst e;exact z
 |v::r,ks,⟨k,I,e,z,q⟩,i+1,hi=>by subst e;have:=gM.get q i (by simpa using hi);simpa [ay] using this
theorem gM.tups:∀{vs:List Value} {ks:List (Int×Int)},gM h vs ks->∃fs:List Value,KatTups h vs fs/\fs.length=vs.length/\∀v∈fs,∃i t,v=Value.int i t
 |[],ks,e=>⟨[],KatTups.nil,rfl,λv hv=>by simp at hv⟩
 |v::r,ks,⟨k,gy,e,⟨a,o,n,t,u,q1,q2,I,z⟩,q⟩=>by obtain⟨fs,h1,h2,h3⟩:=gM.tups q;refine⟨.int k.1 t::fs,?_,by simp[h2],λv hv=>?_⟩;rw[q1];exact KatTups.cons q2 I z y9 h1;rcases ui.mp hv with rfl|hv;exact⟨_,_,rfl⟩;exact h3 v hv
def HF{prog:wg}(h:gM s.heap vs ks):r8 prog w A (tuples' (Value.type "int" != Value.type "tuple")) vs (λi j=>cH (ay ks i) (ay ks j)) s:=by
 have hb:(Value.type "int" != Value.type "tuple")=Y:=y8
 refine⟨λh2 α hR=>?_,λi j C hi hj hC=>?_⟩;obtain⟨fs,h1,h3,h4⟩:=h.tups;refine kat_kind (T:=Value.type "int") h1 yx (λv hv=>?_) y8 hR;obtain⟨i,t,rfl⟩:=h4 v hv;exact Looks.now;obtain⟨a,o,n,t,u,q1,q2,q3,q4⟩:=h.get i hi;obtain⟨a',o',n',t',u',q1',I,q3',z⟩:=h.get j hj;unfold kas_ask;rw[q1,q1',hb];refine kat_lt q2 q4 I z ?_;show KatLex prog w A Y _ C [((.int (ay ks i).1 t),(.int (ay ks j).1 t')),((.int (ay ks i).2 u),(.int (ay ks j).2 u'))] 0 s;refine kat_cons (wpAny_eqBool_int ?_);refine kat_go (λe=>kat_yes (kat_cons (wpAny_eqBool_int (kat_go (λe'=>kat_yes (kat_nil ?_)) λe'=>kat_no ?_)))) λe=>kat_no ?_;have:cH (ay ks i) (ay ks j)=J:=by rw[nZ];rw[uw]at e e';lia
 rw[this]at hC;exact hC;refine kat_one _ _ (lt_int ?_);have:cH (ay ks i) (ay ks j)=decide ((ay ks i).2<(ay ks j).2):=by rw[uw]at e;unfold cH;rw[e];simp
 rw[this]at hC;exact hC;refine oneLt_int ?_;have:cH (ay ks i) (ay ks j)=decide ((ay ks i).1<(ay ks j).1):=by unfold cH;rw[e];simp
 rw[this]at hC;exact hC
noncomputable def tR:List Value->List (Int×Int)->Prop
 |[],ks=>ks=[]
 |v::r,ks=>∃i t z,ks=(i,0)::z/\v=.int i t/\tR r z
theorem tR.get:∀{vs:List Value} {ks:List (Int×Int)},tR vs ks->∀i,i<vs.length->∃t,vs.getD i Value.none=.int (ay ks i).1 t/\(ay ks i).2=0
 |[],ks,e,i,hi=>by simp at hi
 |v::r,ks,⟨k,t,I,e,z,q⟩,0,_=>by subst e;exact⟨t,z,rfl⟩
 |v::r,ks,⟨k,t,I,e,z,q⟩,i+1,hi=>by subst e;have:=tR.get q i (by simpa using hi);simpa [ay] using this
def LU{prog:wg}(h:tR vs ks):r8 prog w A oneType' vs (λi j=>cH (ay ks i) (ay ks j)) s:=by
 refine⟨λh2 α hR=>?_,λi j C hi I hC=>?_⟩;refine kas_kind (T:=Value.type "int") h2 (λv hv=>?_) y8 y8 hR;obtain⟨i,hi,rfl⟩:=List.getElem_of_mem hv;obtain⟨t,e,_⟩:=h.get i hi;have:vs[i]=.int (ay ks i).1 t:=by rw[<-e];simp[hi]
 rw[this];exact Looks.now;obtain⟨t,e,z⟩:=h.get i hi;obtain⟨t',e',z'⟩:=h.get j I;unfold kas_ask;rw[e,e'];refine kat_lt_int ?_;have:cH (ay ks i) (ay ks j)=decide ((ay ks i).1<(ay ks j).1):=by unfold cH;rw[z,z'];simp
 rw[this]at hC;exact hC
def getD_get{R:Type}{l:List R}{d:R}(h:i<l.length):l[i]?=O (l.getD i d):=by simp[h]
theorem aX.pick{us:List Value}(r:aX xs us):∀{is:List Nat},(∀i∈is,i<xs.length)->aX (is.map λi=>xs.getD i .non) (is.map λi=>us.getD i Value.none)
 |[],_=>.nil
 |i::is,h=>by
  have hi:=h i y9;obtain⟨u,e1,e2⟩:=r.get (getD_get (d:=V.non) hi);have e3:us.getD i Value.none=u:=by simp[e1]
  refine .cons ?_ (aX.pick r λj z=>h j (tw _ z));show L2.RelV (xs.getD i V.non) (us.getD i Value.none);rw[e3];exact e2
theorem aD.pick{ds:List D}(r:aD K T H S ds xs):∀{is:List Nat},(∀i∈is,i<ds.length)->aD K T H S (is.map λi=>ds.getD i .non) (is.map λi=>xs.getD i .non)
 |[],_=>aD.nil
 |i::is,h=>by
  have hi:=h i y9;obtain⟨x,e1,e2⟩:=r.get (getD_get (d:=D.non) hi);have e3:xs.getD i .non=x:=by simp[e1]
  refine aD.cons ?_ (aD.pick r λj z=>h j (tw _ z));show Rep K T H S (ds.getD i D.non) (xs.getD i V.non);rw[e3];exact e2
theorem oX:∀{ds:List D} {ks:List (Int×Int)},kS ds=O ks->ds=ks.map yP
 |[],ks,h=>by simp only[kS]at h;cases h;rfl
 |d::ds,ks,h=>by unfold kS at h;split at h;rename_i e;cases e;rename_i a b r e;cases e;obtain⟨z,h1,rfl⟩:=u5.mp h;rw[oX h1];rfl;cases h
theorem sJ:∀{ds:List D} {is:List Int},dJ ds=O is->ds=is.map .int
 |[],ks,h=>by simp only[dJ]at h;cases h;rfl
 |d::ds,ks,h=>by
  cases d<;>simp only[dJ,reduceCtorEq]at h
  obtain⟨z,h1,rfl⟩:=u5.mp h;rw[sJ h1];rfl
theorem CL(I:Inv X pins M H s):∀{ks:List (Int×Int)} {xs:List V} {us:List Value},aD X.K T H S (ks.map yP) xs->aX xs us->gM s.heap us ks
 |[],xs,us,r,v=>by rw[map_nil]at r;unfold aD at r;subst r;cases v;rfl
 |k::ks,xs,us,r,v=>by
  rw[uu]at r;unfold aD at r;obtain⟨x,w,rfl,rx,rr⟩:=r;cases v with
  |cons v1 v2=>refine⟨k,ks,rfl,?_,CL I rr v2⟩;unfold yP at rx;unfold Rep at rx;obtain⟨a,ys,rfl,_,hq,z⟩:=rx;cases v1;obtain⟨its,rv,⟨o,ho,hc,n,hd⟩,_⟩:=I.tuple hq;unfold aD at z;obtain⟨y,iN,rfl,ry1,z⟩:=z;unfold aD at z;obtain⟨y2,ys2,rfl,ry2,z⟩:=z;unfold aD at z;subst z;unfold Rep at ry1 ry2;subst ry1 ry2;obtain⟨u1,u2,rfl,⟨t,rfl⟩,⟨t',rfl⟩⟩:=rv.two;exact⟨a,o,n,t,t',rfl,ho,hc,hd⟩
theorem EA:∀{is:List Int} {xs:List V} {us:List Value},aD X.K T H S (is.map .int) xs->aX xs us->tR us (is.map λi=>(i,0))
 |[],xs,us,r,v=>by rw[map_nil]at r;unfold aD at r;subst r;cases v;rfl
 |k::ks,xs,us,r,v=>by
  rw[uu]at r;unfold aD at r;obtain⟨x,w,rfl,z,rr⟩:=r;cases v with
  |cons v1 I=>unfold Rep at z;subst z;obtain⟨t,rfl⟩:=v1;exact⟨k,t,_,rfl,rfl,EA rr I⟩
def GC{l:Addr}{ds es:List D}{Q:VK}(I:Inv X pins M H s)(hl:SqL X.K H l xs)(r:aD X.K T H S ds xs)(hs:gG ds=O es) (q:∀p zs,H p=U->aD X.K T H S es zs->Q (.ref p) (upd H p (.lst zs))):wpAny (model X.prog X.w) X.A (call (.builtin "sorted") [.ref l]) (EP X pins M Q) X.xe s:=by
 obtain⟨its,rv,pl,hz⟩:=I.list hl;have l1:=r.len;have l2:=rv.length;have z:∀(ks:List (Int×Int)) (g:Int×Int->D) (κ:SortKind),ds=ks.map g->ks.length=ds.length->dW ks=Y->(∀g',Kept s.heap g'->r8 X.prog X.w X.A.in1.in1 κ its (λi j=>cH (ay ks i) (ay ks j)) {s with heap:=g' })->es=(iY ks).map g ->wpAny (model X.prog X.w) X.A (call (.builtin "sorted") [.ref l]) (EP X pins M Q) X.xe s:=λks g κ hd hk hc hL he=>by
  unfold dW at hc;rw[u3,ub,ub]at hc;have e0:its.length=ks.length:=by lia
  have o:=KQ hc.2;rw[<-e0]at o;refine yY (κ:=κ) pl.isList o yx hL λg' p c kp pa inc qy=>?_;have mem:∀i∈p.toList,i<its.length:=λi hi=>by simpa using pa.pm.mem_iff.mp hi
  have cu:H (s.heap.objs.size+1)=U:=I.hok.fresh (vh _);have I3:Inv X pins M (upd H (s.heap.objs.size+1) (.lst (p.toList.map λi=>xs.getD i .non))) {s with heap:=g',toks:=s.toks}:=by refine I.laid kp (vh _) ⟨?_,lO its p,c,aX.pick rv λi hi=>by rw[l2];exact mem i hi,qy⟩;rw[t8,length_toList,pa.size,<-l2];exact hz
  refine⟨.ref _,_,I3,rfl,q _ _ cu ?_⟩;have e1:es=p.toList.map λi=>ds.getD i .non:=by rw[he,<-MB (by rw[<-e0];exact pa) (by rw[<-e0];exact inc),vq];refine List.map_congr_left λi hi=>?_;have hi':=mem i hi;subst hd;simp[ay,show i<ks.length by lia]
  rw[e1];exact aD.pick r λi hi=>by rw[l1,l2];exact mem i hi
 unfold gG at hs;split at hs;rename_i ks hk;split at hs;rename_i hc;cases hs;have ed:=oX hk;subst ed;exact z ks yP _ rfl y9 hc (λg' kp=>HF (s:={s with heap:=g' }) (gM.kept kp (CL I r rv))) rfl;cases hs;split at hs;rename_i is hk;split at hs;rename_i hc;cases hs;have ed:=sJ hk;subst ed;exact z (is.map λi=>(i,0)) (λp=>.int p.1) _ (by simp[vq,Function.comp_def]) y9 hc (λg' kp=>LU (EA (X:=X) r rv)) rfl;cases hs;cases hs
def rBs(K:wc)(T:Tx)(S:Addr->Prop):List V->Hp->VK->Prop:=λvs H Q=>∃l xs ds es,vs=[.ref l]/\SqL K H l xs/\aD K T H S ds xs/\gG ds=O es/\∀p ys H',aJ H H'->H p=U->H' p=O (.lst ys)->aD K T (er H' p) S es ys->Q (.ref p) H'
def yZ:dE X (.builtin "sorted") (rBs X.K T S):=by rintro pins s M H vs us Q I r ⟨l,xs,ds,es,rfl,hl,rl,hs,q⟩;obtain⟨u,rfl,ru⟩:=r.one;cases ru;exact GC I hl rl hs λp zs hp z=>q p zs _ (aJ.upd hp) hp aS (by rw[iS hp];exact z)
end
theorem tT:∀{xs:List V} {us:List Value},xs.length=us.length->(∀(i:Nat) x u,xs[i]?=O x->us[i]?=O u->RelV x u)->aX xs us
 |[],[],_,_=>.nil
 |x::xs,u::us,h,k=>.cons (k 0 x u rfl rfl) (tT (Nat.succ.inj h) λi y v e f=>k (i+1) y v e f)
section
variable {CX:ar}{X:Cx}{c:CC}{G:GS}{T:Tx}{lv:Nat}{B:List Sl}{S:Addr->Prop}{tg:Expr}
theorem rW{K:wc}{H:Hp}:∀{l:List Int},aD K T H S (l.map D.int) (l.map V.int)
 |[]=>by unfold aD;rfl
 |i::l=>by show aD K T H S (D.int i::l.map D.int) (V.int i::l.map V.int);unfold aD;exact⟨_,_,rfl,by unfold Rep;rfl,rW⟩
def zY{a:Expr}{pos iq:Pos}{j:Int}(hc:X.calm=Y)(hg:Gl X "range")(hm:X.mg "range"=U)(ff:Gl X "list")(p4:X.mg "list"=U)(ha:PA X [a] (c9 X.K T S B [.int j]))(hs:starEach [a] X.env=[(J,eval a X.env)])(h0:eD j=Y)(hn:j.toNat<=big):PE X (.Call (.Name "list" p2) [.Call (.Name "range" p) [a] [] pos] [] iq) (ja X.K T S B (cQ 0 j)):=by
 intro pins s M H Q I ⟨re,q⟩;refine Call_ (fH I ff p4 oK (uj (Calls.spliced_cons (Call_ (fH I hg hm boot_range (uj (ah (ha pos pins s M H (λvs H'=>aJ H H'/\aD X.K T H' S [.int j] vs) I ⟨re,λvs H' a b=>⟨a,b⟩⟩) λus s1 ⟨vs,H1,I1,r1,sm,rl⟩=>?_) hs rfl)))) rfl rfl));unfold aD at rl;obtain⟨x,r',rfl,rx,z⟩:=rl;unfold aD at z;subst z;unfold Rep at rx;subst rx;obtain⟨b1,b2⟩:=gH h0;have hb:j.toNat<=1000000:=hn;cases r1 with
 |cons r z=>
  cases z;obtain⟨t,rfl⟩:=r;refine call_range_1 (Calls.spliced_nil ?_);generalize gg:({s1 with heap:=s1.heap.push {cls:=.type "range",data:=.fields #[.int 0 s1.toks,.int j t,.int 1 (s1.toks+1)]},toks:=s1.toks+1+1}:Shared)=s2;have I2:Inv X pins M H1 s2:=by subst gg;exact I1.kept λb o e=>tm _ e
  have hr:IsRange s2.heap s1.heap.objs.size 0 j 1 s1.toks t (s1.toks+1):=by subst gg;exact IsRange.new ..
  refine call_list_range (n:=j.toNat) (I2.ok.hd hc) hr (small_one y8 y8 b1 b2) (by rw[rangeSize_one];split<;>lia) yx λh' tk c8 c' hk jh dr=>?_;have vs:aX (((List.range j.toNat).map λ(k:Nat)=>(k:Int)).map V.int) c8.toList:=by
   refine tT (by simp[dr.1]) λi y u e f=>?_;obtain⟨t',rfl⟩:=dr.2 i u (by simpa using f);rw[vq,sv]at e;cases hr:(List.range j.toNat)[i]? with
   |none=>rw[hr]at e;cases e
   |some k=>
    rw[hr]at e;have hk:k=i:=by obtain⟨h1,h2⟩:=sj.mp hr;simpa using h2.symm
    subst hk;cases e;exact⟨t',by rw[Int.mul_one,Int.zero_add]⟩
  have cu:H1 s2.heap.objs.size=U:=I2.hok.fresh (t9 _);have I3:Inv X pins M (upd H1 s2.heap.objs.size (.lst (((List.range j.toNat).map λ(k:Nat)=>(k:Int)).map V.int))) {s2 with heap:=h',toks:=tk}:=by refine I2.laid (λb u e=>hk b u e) (t9 _) ?_;refine⟨by simp only[t8,uc];rw[sizeLine_eq];lia,c8.toList,c',vs,?_⟩;rw[jh]
  refine⟨.ref _,_,I3,rfl,q _ _ _ (sm.trans (aJ.upd cu)) (sm.free cu) aS ?_⟩;rw[iS cu];have e:cQ 0 j=((List.range j.toNat).map λ(k:Nat)=>(k:Int)).map D.int:=by unfold cQ;rw[vq];simp
  rw[e];exact rW
end
variable {CX:ar}{G:GS}{T:Tx}{lv:Nat}
def cK{o:Option D}{ds:List D}(h:bG o=O ds):o=O (.tup ds):=by unfold bG at h;split at h;cases h;rfl;cases h
def mH{o:Option Rs}{d:D}(h:gF o=O d):o=O (.ok d):=by unfold gF at h;split at h;cases h;rfl;cases h
def iH{o:Option D}{i:Int}(h:intOf o=O i):o=O (.int i):=by unfold intOf at h;split at h;cases h;rfl;cases h
def jZ(hE:fj CX G T lv n)(xc:XC CX X c G T lv){lo:Option Expr}{l:IE}{o:Option Int}(h:tY (cE n c) lo=O l)(hp:part lo.isSome (ev G l B)=O o):PO X lo (kg X.K T S B o):=by
 cases lo with
 |none=>simp only[part,Option.isSome_none,tu,if_false,so]at hp;subst hp;exact aFI
 |some e=>simp only[part,Option.isSome_some,if_true,u5]at hp;obtain⟨i,hi,rfl⟩:=hp;exact aFH (hE X c S B e l xc h _ (iH hi))
def HA(h:aCE c x=O i):bJ c x=O i:=by unfold aCE at h;exact(bF h).2
def fS(h:eK c e=O i):∃x p,e=.Name x p/\bJ c x=O i:=by obtain⟨x,h1,h⟩:=aH h;exact⟨x.1,x.2,dA h1,HA h⟩
def tK:bootBuiltins "sorted"=O (.builtin "sorted"):=y7
def nP{ds:List D}{d:D}(h:kG ds=O d):∃xs es,ds=[.lst xs]/\gG xs=O es/\d=.lst es:=by unfold kG at h;split at h;obtain⟨es,h1,rfl⟩:=u5.mp h;exact⟨_,es,rfl,h1,rfl⟩;cases h
def XI(xc:XC CX X c G T lv){y:Str}{py q:Pos}{xs es:List D}(hg:bE c "sorted"=Y)(hm:X.mg "sorted"=U)(e:bJ c y=O i)(hs:wI B i=O xs)(hd:gG xs=O es):PE X (.Call (.Name "sorted" p) [.Name y py] [] q) (ja X.K T S B es):=by have st:starEach [.Name y py] X.env=(J,eval (.Name y py) X.env)::starEach [] X.env:=rfl;refine PE.mono (eF (yZ (T:=T) (S:=S)) (xc.glob hg) hm tK (eG (gZ xc e) gO st) y7 y7 rfl rfl) λM H Q ⟨re,q⟩=>?_;obtain⟨p,ys,e1,e2,z⟩:=GE re hs;exact⟨_,e1,p,ys,xs,es,rfl,SqL.of e2,z,hd,q⟩
def aDF:bootBuiltins "any"=O (.builtin "any"):=y7
def aDG:bootBuiltins "all"=O (.builtin "all"):=y7
def aDA:bootBuiltins "str"=O (.type "str"):=y7
def aDD:bootBuiltins "len"=O (.builtin "len"):=y7
def aDE:bootBuiltins "int"=O (.type "int"):=y7
def RB:bootBuiltins "tuple"=O (.type "tuple"):=y7
def aDC:bootBuiltins "max"=O (.builtin "max"):=y7
def aDB:bootBuiltins "min"=O (.builtin "min"):=y7
def XN(xc:XC CX X c G T lv){b:BF}{pos:Pos}{ds:List D}{d:D}(hg:bE c x=Y)(hm:X.mg x=U)(hb:nX x=O b)(ha:PA X es (c9 X.K T S B ds))(hs:starEach es X.env=es.map λe=>(J,eval e X.env))(hlen:ds.length=es.length)(hd:bf b ds=O d):PE X (.Call (.Name x p) es [] pos) (tD X.K T S B d):=by
 cases es with
 |nil=>have:ds=[]:=ur.mp hlen;subst this;cases b<;>simp[bf,IG,QA,yE,vE,PZ,YO,kG,YN,IH,YQ]at hd
 |cons e es=>
  obtain⟨h1,h2⟩:=rS (pos:=pos) hs;have I:=xc.glob hg;have go:∀{g:List D->Option D},g ds=O d->∀M H Q,tD X.K T S B d M H Q->tCB (jn X.K T S g) (c9 X.K T S B ds) M H Q:=λ{g} ju M H Q ⟨re,q⟩=>⟨re,λvs H1 s1 r1=>⟨ds,d,(re.same s1).dom,r1,ju,λv H' s2 r2=>q v H' (s1.trans s2) r2⟩⟩;unfold nX at hb;split at hb;rename_i z;subst z;cases hb;exact PE.mono (eF (aGC xc.calm) I hm aDG ha y7 y7 h1 h2) (go hd);split at hb;rename_i z;subst z;cases hb;exact PE.mono (eF aGy I hm aDD ha y7 y7 h1 h2) (go hd);split at hb;rename_i z;subst z;cases hb;exact PE.mono (jY aGA I hm aDE ha y7 y7 h1 h2) (go hd);split at hb;rename_i z;subst z;cases hb;have hl:∃i6,d=.lst i6:=by simp only[bf]at hd;unfold yE at hd;split at hd<;>first|(cases hd;exact⟨_,rfl⟩)|cases hd
  obtain⟨i6,rfl⟩:=hl;have pn:PE X (.Call (.Name "list" p) (e::es) [] pos) (ja X.K T S B i6):=PE.mono (jY aDI I hm oK ha y7 y7 h1 h2) λM H Q ⟨re,q⟩=>⟨re,λvs H1 s1 r1=>⟨ds,i6,r1,hd,λp ys H' s2 hn dj rl=>by
   refine q p ys H' (s1.trans s2) ?_ dj rl;cases z:H p with
   |none=>rfl
   |some o=>rw[s1 p o z]at hn;cases hn⟩⟩
  exact lP pn;split at hb;rename_i z;subst z;cases hb;exact PE.mono (jY YY I hm RB ha y7 y7 h1 h2) (go hd);split at hb;rename_i z;subst z;cases hb;exact PE.mono (eF (aGx xc.calm) I hm aDC ha y7 y7 h1 h2) (go hd);split at hb;rename_i z;subst z;cases hb;exact PE.mono (eF (aGw xc.calm) I hm aDB ha y7 y7 h1 h2) (go hd);split at hb;rename_i z;subst z;cases hb;exact PE.mono (jY aGv I hm aDA ha y7 y7 h1 h2) (go hd);split at hb;rename_i z;subst z;cases hb;obtain⟨xs,i6,rfl,hso,rfl⟩:=nP hd;have pn:PE X (.Call (.Name "sorted" p) (e::es) [] pos) (ja X.K T S B i6):=PE.mono (eF (yZ (T:=T) (S:=S)) I hm tK ha y7 y7 h1 h2) λM H Q ⟨re,q⟩=>⟨re,λvs H1 s1 r1=>by
   obtain⟨x,rfl,rx⟩:=rep1 r1;unfold Rep at rx;obtain⟨l,ys,rfl,_,hq,ry⟩:=rx;refine⟨l,ys,xs,i6,rfl,SqL.of hq,ry,hso,λp zs H' s2 hn dj rl=>q p zs H' (s1.trans s2) ?_ dj rl⟩;cases z:H p with
   |none=>rfl
   |some o=>rw[s1 p o z]at hn;cases hn⟩
  exact lP pn;split at hb;rename_i z;subst z;cases hb;exact PE.mono (eF (aGB xc.calm) I hm aDF ha y7 y7 h1 h2) (go hd);cases hb
def aGt{b:BF}(h:nX x=O b):fR.contains x=Y:=by
 unfold nX at h
 repeat' split at h
 all_goals first|cases h;done|(rename_i e;subst e;decide +kernel)
def aEr(h:jS.contains x=Y):fR.contains x=Y:=by rw[contains_iff_mem]at h ⊢;unfold jS at h;simp only[ui,vp,or_false]at h;rw[<-contains_iff_mem];rcases h with h|h|h|h|h<;>subst h<;>decide +kernel
section
variable {n:Nat}{X:Cx}{c:CC}{S:Addr->Prop}{B:List Sl}{ir:IE}{d:D}
abbrev Tells(CX:ar)(T:Tx)(X:Cx)(c:CC)(S:Addr->Prop)(B:List Sl)(e:Expr)(d:D):Prop:=PE X e (tD X.K T S B d)
def aBp{G:GS}{z:IE}{d:D}(hd:ev G (.walk .rng (.tup (.cons z .nil))) B=O d):∃j,ev G z B=O (.int j)/\eD j=Y/\j.toNat<=big/\d=.lst (cQ 0 j):=by
 replace hd:(((bG ((ev G z B).bind λd=>O (.tup [d]))).map D.tup).bind λs=>(items .rng s).map D.lst)=O d:=hd;cases hz:ev G z B with
 |none=>rw[hz]at hd;cases hd
 |some v=>
  rw[hz]at hd;replace hd:(DU [v]).map D.lst=O d:=hd;cases v<;>first|exact nomatch (show U=O d from hd)|skip
  rename_i j;replace hd:(if eD j&&decide (j.toNat<=big) then O (cQ 0 j) else U).map D.lst=O d:=hd;split at hd;rename_i hc;rw[u3,ub]at hc;cases hd;exact⟨j,rfl,hc.1,hc.2,rfl⟩;cases hd
def aFt(hE:fj CX G T lv n)(hA:ke CX G T lv n)(xc:XC CX X c G T lv){q:Pos}{b:BF}(hg:bE c x=Y)(hf:c.fns.contains x=J)(hc:c.cls.contains x=J)(hb:nX x=O b)(h:GK (cE n c) c b args (cA n c args)=O ir)(hd:ev G ir B=O d):Tells CX T X c S B (.Call (.Name x p) args [] q) d:=by
 have hm:=gK xc (aGt hb) hf hc;have I:∀{y:IE},cA n c args=O y->ir=.ρ b y->Tells CX T X c S B (.Call (.Name x p) args [] q) d:=λ{y} hy e=>by subst e;simp only[ev,tf,sr]at hd;obtain⟨ds,bu,hd⟩:=hd;obtain⟨ds',e1,hl,pa,hs⟩:=hA X _ S B args y xc hy _ (cK bu);cases e1;have r:=XN (p:=p) (pos:=q) xc hg hm hb pa hs hl hd;exact r
 have mb:(cA n c args).map (λx=>IE.ρ b x)=O ir->Tells CX T X c S B (.Call (.Name x p) args [] q) d:=λh=>by obtain⟨y,hy,e⟩:=aP h;exact I hy e
 unfold GK at h;cases p0:aAb c args with
 |some i=>
  rw[p0]at h;obtain⟨e,h1,h2⟩:=aH p0;obtain⟨y,py,rfl,gm⟩:=fS h2;obtain rfl:=bZ h1;cases b with
  |int=>exact mb h
  |list=>exact mb h
  |tuple=>exact mb h
  |max=>exact mb h
  |min=>exact mb h
  |str=>exact mb h
  |all=>exact mb h
  |any=>exact mb h
  |len=>
   obtain⟨hdv,h⟩:=bF (show (if ([Expr.Name y py].any xS) then O (IE.lend i) else U)=O ir from h);have hx:x="len":=by
    unfold nX at hb
    repeat' split at hb
    all_goals first|assumption|cases hb
   cases h;obtain⟨kvs,jf,hd⟩:=aH hd;cases hd;subst hx;exact aCz xc hg hm gm jf
  |sorted=>
   cases (show O (IE.sortm i)=O ir from h);simp only[ev,tf,sr]at hd;obtain⟨xs,jf,hd⟩:=hd;obtain⟨jm,es,e0,hso,rfl⟩:=nP hd;cases e0;have hx:x="sorted":=by
    unfold nX at hb
    repeat' split at hb
    all_goals first|assumption|cases hb
   subst hx;exact lP (XI xc hg hm gm jf hso)
 |none=>
  rw[p0]at h;cases hr:zS c args with
  |none=>
   rw[hr]at h;cases hq:(one? args).bind (zR c) with
   |none=>rw[hq]at h;exact mb (by cases b<;>exact h)
   |some a=>
    rw[hq]at h;cases b with
    |int=>exact mb h
    |len=>exact mb h
    |tuple=>exact mb h
    |max=>exact mb h
    |min=>exact mb h
    |str=>exact mb h
    |any=>exact mb h
    |all=>exact mb h
    |sorted=>exact mb h
    |list=>
     clear I mb;obtain⟨z,hz,rfl⟩:=aP (show (cE n c a).map (λx=>IE.walk .rng (.tup (.cons x .nil)))=O ir from h);obtain⟨j,hj,h0,hn,rfl⟩:=aBp hd;have hx:x="list":=by
      unfold nX at hb
      repeat' split at hb
      all_goals first|assumption|cases hb
     subst hx;obtain⟨e,h1,r1⟩:=aH hq;obtain⟨r,h2,r2⟩:=aH r1;obtain⟨mw,r3⟩:=bF r2;obtain⟨p1,p2,e5,ju,ho⟩:=jQ h2;obtain⟨y,as⟩:=r;have e6:y="range":=uw.mp mw;have e7:as=[a]:=bZ r3;have e8:=bZ h1;clear hr hq h1 r1 h2 r2 mw r3 p0 h;subst e6 e7;dsimp only at e5 ju ho;subst e5;subst e8;obtain⟨lj,gu⟩:=DJ ho;have st:=(cV hz).star X.env [];exact lP (zY xc.calm (xc.glob ju) (gK xc y7 lj gu) (xc.glob hg) hm (pG (hE X _ S B a z xc hz _ hj) sC st) st h0 hn)
  |some a=>
   rw[hr]at h;cases b with
   |int=>exact mb h
   |len=>exact mb h
   |tuple=>exact mb h
   |max=>exact mb h
   |min=>exact mb h
   |str=>exact mb h
   |any=>exact mb h
   |all=>exact mb h
   |sorted=>exact mb h
   |list=>
   clear I mb;obtain⟨z,hz,rfl⟩:=aP (show (cE n c a).map (λx=>IE.walk .rev x)=O ir from h);simp only[ev,tf,sr,u5]at hd;obtain⟨w,hw,ds,bu,rfl⟩:=hd;have hx:x="list":=by
    unfold nX at hb
    repeat' split at hb
    all_goals first|assumption|cases hb
   subst hx;obtain⟨e,h1,r1⟩:=aH hr;obtain⟨r,h2,r2⟩:=aH r1;obtain⟨hn,r3⟩:=bF r2;obtain⟨p1,p2,e5,ju,ho⟩:=jQ h2;obtain⟨y,as⟩:=r;have e6:y="reversed":=uw.mp hn;have e7:as=[a]:=bZ r3;have e8:=bZ h1;clear hr h1 r1 h2 r2 hn r3 p0 h;subst e6 e7;dsimp only at e5 ju ho;subst e5;subst e8;obtain⟨lj,gu⟩:=DJ ho;have st:=(cV hz).star X.env [];exact lP (zZ xc.calm (xc.glob ju) (gK xc y7 lj gu) (xc.glob hg) hm (pG (hE X _ S B a z xc hz w hw) sC st) st bu)
def KU(hE:fj CX G T lv n)(hA:ke CX G T lv n)(xc:XC CX X c G T lv){q:Pos}(h:DB (cE n c) c x args (cA n c args)=O ir)(hd:ev G ir B=O d):Tells CX T X c S B (.Call (.Name x p) args [] q) d:=by
 obtain⟨hg,h⟩:=bF h;cases I:c.fns.contains x with
 |true=>rw[I]at h;obtain⟨y,hy,rfl⟩:=aP (show (cA n c args).map (λy=>IE.call x y)=O ir from h);simp only[ev,tf,sr]at hd;obtain⟨ds,bu,hd⟩:=hd;obtain⟨ds',e1,hl,pa,hs⟩:=hA X _ S B args y xc hy _ (cK bu);cases e1;have r:=aCD (p:=p) (pos:=q) xc hg I pa hs hl (mH hd);exact r
 |false=>
  rw[I]at h;cases bq:c.cls.contains x with
  |true=>rw[bq]at h;obtain⟨y,hy,rfl⟩:=aP (show (cA n c args).map (λy=>IE.mk x y)=O ir from h);simp only[ev,tf,sr]at hd;obtain⟨ds,bu,hd⟩:=hd;obtain⟨ds',e1,hl,pa,hs⟩:=hA X _ S B args y xc hy _ (cK bu);cases e1;exact aHr xc hg bq pa hs hl (mH hd)
  |false=>
   rw[bq]at h;cases hi:x == "isinstance" with
   |false=>rw[hi]at h;obtain⟨b,hb,h⟩:=aH (show (nX x).bind (λb=>GK (cE n c) c b args (cA n c args))=O ir from h);exact aFt hE hA xc hg I bq hb h hd
   |true=>
    rw[hi]at h;obtain rfl:=uw.mp hi;have h:JT (cE n c) c args=O ir:=h;match args,h with
    |[a,y],h=>
     obtain⟨y',iu,h⟩:=aH h;obtain⟨hk,h⟩:=bF h;obtain⟨hk,hk3⟩:=dB hk;obtain⟨hk1,k9⟩:=dB hk;obtain⟨z,hz,rfl⟩:=aP h;obtain rfl:=dA iu;obtain⟨j3,dn⟩:=DJ (LJ hk3);simp only[ev,tf,sr,u5]at hd;obtain⟨w,hw,k,hk,rfl⟩:=hd;have ht:∃tn,l6 w=O tn:=by cases w<;>first|exact⟨_,rfl⟩|(simp only[jG,reduceCtorEq]at hk)
     obtain⟨tn,ht⟩:=ht;have st:=(cV hz).star X.env [.Name y'.1 y'.2];exact aFN xc hg (gK xc y7 I bq) hk1 (gK xc (aEr k9) j3 dn) k9 (hE X _ S B a z xc hz w hw) (by rw[st];rfl) ht hk
def WX(hE:fj CX G T lv n)(hA:ke CX G T lv n)(xc:XC CX X c G T lv){o:Expr}{m:Str}{ap q:Pos}(h:(if iE o&&decide (args.length<30)&&(ap.endLine == q.line) then(cE n c o).bind λx=>(cA n c args).map λy=>IE.meth x m y else U)=O ir)(hd:ev G ir B=O d):Tells CX T X c S B (.Call (.Attribute o m ap) args [] q) d:=by
 obtain⟨hc,h⟩:=bF h;obtain⟨hc,I⟩:=dB hc;obtain⟨hc1,fx⟩:=dB hc;obtain⟨x,hx,h⟩:=aH h;obtain⟨y,hy,rfl⟩:=aP h;simp only[ev,tf,sr]at hd;obtain⟨w,hw,hd⟩:=hd;cases w<;>first|exact nomatch (show U=O d from hd)|skip
 obtain⟨ds,bu,hd⟩:=aH hd;obtain⟨ds',e1,hl,pa,hs⟩:=hA X _ S B args y xc hy _ (cK bu);cases e1;exact aHp hc1 (of_decide_eq_true fx) I (hE X _ S B o x xc hx _ hw) pa hs hl hd;rename_i cn fs;obtain⟨z,hd⟩:=bF hd;obtain⟨ds,bu,hd⟩:=aH hd;obtain⟨ds',e1,hl,pa,hs⟩:=hA X _ S B args y xc hy _ (cK bu);cases e1;exact aCy (pos:=q) xc (LP hc1 hs (of_decide_eq_true fx) I) (hE X _ S B o x xc hx _ hw) (Option.isNone_iff_eq_none.mp z) pa hs hl (mH hd)
def NI(h:few es=Y):es.length<=sizeLine:=ug (of_decide_eq_true h) (ug y8 eU)
def aCp(hE:fj CX G T lv n)(xc:XC CX X c G T lv){a i:Expr}(h:wR (cE n c) (xS a) (eK c a) (cE n c a) i=O ir)(hd:ev G ir B=O d):Tells CX T X c S B (.Subscript a i p) d:=by
 unfold wR at h;cases gm:ot i with
 |some q=>
  rw[gm]at h;obtain⟨lo,hi,st,pp⟩:=q;obtain rfl:=JO gm;cases st with
  |some _=>exact nomatch (show U=O ir from h)
  |none=>
   obtain⟨l,hl,h⟩:=aH (show (tY (cE n c) lo).bind _=O ir from h);obtain⟨u,hu,h⟩:=aH h;unfold aER at h;cases hm:eK c a with
   |some j=>rw[hm]at h;exact nomatch (show U=O ir from h)
   |none=>
    rw[hm]at h;obtain⟨x,hx,rfl⟩:=aP h;simp only[ev,tf,sr]at hd;obtain⟨w,hw,ol,hol,ou,I,hd⟩:=hd;have z:=(hE X _ S B a x xc hx w hw);cases w<;>first|exact nomatch (show U=O d from hd)|skip
    cases hd;exact lP (ZY z (jZ hE xc hl hol) (jZ hE xc hu I) (.inl rfl));simp only at hd;split at hd;cases hd;rename_i jg;cases hd;exact aFG z (jZ hE xc hl hol) (jZ hE xc hu I) jg;cases hd;exact lP (ZY z (jZ hE xc hl hol) (jZ hE xc hu I) (.inr rfl))
 |none=>
  rw[gm]at h;obtain⟨k,hk,h⟩:=aH h;unfold aEU at h;cases hm:eK c a with
  |some j=>rw[hm]at h;obtain⟨hdv,h⟩:=bF (show (if xS a then O (IE.ixd j k) else U)=O ir from h);cases h;obtain⟨x,px,rfl,gm⟩:=fS hm;obtain⟨kvs,jf,hd⟩:=aH hd;obtain⟨ii,hii,hd⟩:=aH hd;exact aFL xc (MX xc.room) gm (hE X _ S B i k xc hk _ (iH hii)) (cV hk).ix jf hd
  |none=>
   rw[hm]at h;obtain⟨x,hx,rfl⟩:=aP h;simp only[ev,tf,sr]at hd;obtain⟨u,hu,v,hv,hd⟩:=hd;have z:=(hE X _ S B a x xc hx u hu);have pi:=(hE X _ S B i k xc hk v hv);cases v<;>first|(cases u<;>exact nomatch (show U=O d from hd))|skip
   cases u<;>first|exact nomatch (show U=O d from hd)|skip
   exact aCA z pi (cV hk).ix (.inl rfl) hd;exact aCA z pi (cV hk).ix (.inr (.inl rfl)) hd;exact aFU (MX xc.room) z pi (cV hk).ix hd;exact aCA z pi (cV hk).ix (.inr (.inr rfl)) hd
def FE(hE:fj CX G T lv n)(hT:oh CX G T lv n)(hI:OkI CX G T lv n)(xc:XC CX X c G T lv)(h:cE (n+1) c (.ListComp elt gs sc p)=O ir)(hd:ev G ir B=O d):∃tg iter ifs fr bj tp ds I f,gs=[⟨tg,iter,ifs,0⟩]/\d=.lst I/\lB c sc=Y/\freeOf c sc (sc.names.filter λx=>x.2 == .free)=O fr/\bj.all (λi=>(fr.lookup i).isNone)=Y/\cX {c with N:=ownNames sc,sc:=sc} tg=O (bj,tp) /\PI X tg iter (tI X.K T S B ds)/\(∀x,foldedSetIterable iter X.env x=pure x)/\cG f ds=O I /\(∀d o,f d=O o->∃ρ1,bB bj tp d (frame (ownNames sc).length fr B)=O ρ1/\TurnOk CX G T lv {c with N:=ownNames sc,sc:=sc} X.K ifs elt ρ1 o):=by
 obtain⟨g,j4,h⟩:=aH h;obtain⟨tg,iter,ifs,as⟩:=g;by_cases ha:as=0;subst ha;obtain⟨⟨bj,tp⟩,dO,h⟩:=aH (show JU c sc ⟨tg,iter,ifs,0⟩ (cI n c iter) (cT n {c with N:=ownNames sc,sc:=sc}) (cE n {c with N:=ownNames sc,sc:=sc} elt)=O ir from h);obtain⟨⟨k,src⟩,hk,h⟩:=aH h;obtain⟨test,cz,h⟩:=aH h;obtain⟨el,hel,h⟩:=aH h;obtain⟨fr,cu,h⟩:=aH h;obtain⟨hok,h⟩:=bF h;obtain⟨hok,eu⟩:=dB hok;have tgk:RQ k tg:=λe=>by rw[e]at eu;exact nomatch eu
 obtain⟨j3,dn⟩:=dB hok;cases h;obtain⟨s,hs,hd⟩:=aH hd;obtain⟨ds,bu,hd⟩:=aH hd;obtain⟨I,houts,rfl⟩:=aP hd;obtain⟨hi,hset⟩:=hI X _ S B iter k src xc hk s ds hs bu;refine⟨tg,iter,ifs,fr,bj,tp,ds,I,_,bZ j4,rfl,j3,cu,dn,dO,hi tg tgk,hset,houts,?_⟩;intro d o hf;obtain⟨ρ1,h1,hf⟩:=aH hf;obtain⟨w,hw,hf⟩:=aH hf;refine⟨ρ1,h1,λX' S' xc' hK=>?_⟩;cases w<;>first|exact nomatch (show U=O o from hf)|skip
 rename_i kk;have ho:kk=o.isSome/\∀y,o=O y->ev G el ρ1=O y:=by
  cases kk with
  |true=>obtain⟨y,hy,rfl⟩:=aP hf;exact⟨rfl,λz e=>by cases e;exact hy⟩
  |false=>cases hf;exact⟨rfl,λz e=>by cases e⟩
 obtain⟨rfl,hy⟩:=ho;refine⟨?_,λy e=>(hE X' _ S' ρ1 elt el xc' hel y (hy y e))⟩;match ifs,cz with
 |[],cz=>cases cz;simp only[ev,Lit.d,so,D.bl.injEq]at hw;exact .inl ⟨rfl,hw.symm⟩
 |[e],cz=>exact .inr ⟨e,rfl,hT X' _ S' ρ1 e test xc' cz _ hw⟩
 exact nomatch (show U=O ir from(if_neg ha).symm.trans h)
def KS(hE:fj CX G T lv n)(xc:XC CX X c G T lv){a:Expr}{os:List CmpOp}{bs:List Expr}(h:JV c (cE n c) (cE n c a) os bs=O ir)(hd:ev G ir B=O d):PE X (.Compare a os bs p) (tD X.K T S B d)/\∀k,d=.bl k->PT X (.Compare a os bs p) (gx X.K T S B k):=by
 match os,bs,h with
 |[o],[b],h=>
  obtain⟨x,hx,h⟩:=aH h;cases hi:aGg c o b with
  |some q=>
   rw[hi]at h;cases h;obtain⟨k,hk,hi⟩:=aH hi;obtain⟨r,hr,hi⟩:=aH hi;obtain⟨hg,hi⟩:=bF hi;cases hi;obtain rfl:=dA hr;obtain rfl:o=YE k:=by cases o<;>first|exact nomatch (show U=O k from hk)|(cases hk;rfl)
   cases hu:ev G x B with
   |none=>simp only[ev,hu]at hd;cases hd
   |some u=>
    simp only[ev,hu,tf,vg]at hd;cases u<;>first|exact nomatch (show U=O d from hd)|skip
    rename_i s;obtain⟨kvs,mz,rfl⟩:=aP hd;have I:=(hE X _ S B a x xc hx _ hu);exact⟨aFP xc (dB hg).1 mz I k,λk' e=>by cases e;exact aCB xc (dB hg).1 mz I k⟩
  |none=>
  rw[hi]at h;obtain⟨y,hy,rfl⟩:=aP h;simp only[ev,tf,sr]at hd;obtain⟨u,hu,v,hv,hd⟩:=hd;have I:=(hE X _ S B a x xc hx u hu);have pb:=(hE X _ S B b y xc hy v hv);exact⟨aFV xc.units I pb ((cV hy).marks o) hd,λk e=>by subst e;exact aCC xc.units I pb ((cV hy).marks o) hd⟩
 |[o,o'],[b,b'],h=>
  obtain⟨x,hx,h⟩:=aH h;obtain⟨y,hy,h⟩:=aH h;obtain⟨z,hz,rfl⟩:=aP h;simp only[ev,tf,sr]at hd;obtain⟨v,hv,u,hu,w,hw,hd⟩:=hd;have I:=(hE X _ S B a x xc hx u hu);have pb:=(hE X _ S B b y xc hy v hv);have lm:lastMarks [o,o'] [b,b']=J:=(cV hz).marks o';cases w<;>first|exact nomatch (show U=O d from hd)|skip
  rename_i kk;cases kk with
  |true=>obtain⟨w,jg,hd⟩:=aH hd;have pc:=(hE X _ S B b' z xc hz w jg);exact⟨XJ xc.units I pb pc lm hw (by rw[if_pos rfl];exact hd),λk e=>by subst e;exact LM xc.units I pb pc lm hw (by rw[if_pos rfl];exact hd)⟩
  |false=>cases hd;refine⟨PE.mono (xE (eY (T:=T) (S:=S) xc.units o) (eY (T:=T) (S:=S) xc.units o') I pb (tc:=λ_ _ _=>False) (λ_ _ _ _ _ _ h=>h.elim) lm) λM H Q ⟨re,q⟩=>⟨re,λx H1 s1 r1=>⟨re.same s1,λy H2 s2 r2=>⟨u,v,.bl J,((re.same s1).same s2).dom,r1.same s2,r2,hw,λz H3 s3 r3=>?_⟩⟩⟩,λk e=>?_⟩;unfold Rep at r3;exact⟨J,r3,xP (q _ H3 (s1.trans (s2.trans s3)) bQ)⟩;cases e;refine PT.mono (wY (eY (T:=T) (S:=S) xc.units o) (eY (T:=T) (S:=S) xc.units o') I pb (tc:=λ_ _ _=>False) (λ_ _ _ _ _ _ h=>h.elim) lm) λM H Q ⟨re,q⟩=>⟨re,λx H1 s1 r1=>⟨re.same s1,λy H2 s2 r2=>⟨u,v,.bl J,((re.same s1).same s2).dom,r1.same s2,r2,hw,λz H3 s3 r3=>?_⟩⟩⟩;unfold Rep at r3;exact⟨J,r3,xP ⟨_,rfl,q H3 (s1.trans (s2.trans s3))⟩⟩
end
def KZ(hE:fj CX G T lv n)(hT:oh CX G T lv n)(hB:rj CX G T lv n)(hA:ke CX G T lv n)(hI:OkI CX G T lv n):fj CX G T lv (n+1):=by
 intro X c S B e ir xc h d hd;cases e<;>first|exact nomatch (show U=O ir from h)|skip
 case Name x p=>
  have h:zU c x=O ir:=h;unfold zU at h;cases hs:bJ c x with
  |some i=>rw[hs]at h;cases h;simp only[ev]at hd;exact ZX xc hs hd
  |none=>rw[hs]at h;obtain⟨hg,h⟩:=bF h;cases h;simp only[ev]at hd;exact aFQ xc (dB hg).1 (dB hg).2 hd
 case Constant v k p=>
  have h:DA v=O ir:=h;cases v<;>first|exact nomatch (show U=O ir from h)|skip
  all_goals
   cases h;simp only[ev,Lit.d,so]at hd;subst hd
  exact aFK;exact aHs;exact aFO;exact aFF
 case BinOp a o b p=>
  obtain⟨o',ho,h⟩:=aH h;obtain⟨x,hx,h⟩:=aH h;obtain⟨y,hy,rfl⟩:=aP h;simp only[ev,tf,sr]at hd;obtain⟨u,hu,v,hv,hd⟩:=hd;exact aFW ho (hE X _ S B a x xc hx u hu) (hE X _ S B b y xc hy v hv) hd
 case UnaryOp o a p=>
  have h:aEP (cE n c a) o=O ir:=h;cases o<;>first|exact nomatch (show U=O ir from h)|skip
  obtain⟨x,hx,rfl⟩:=aP h;simp only[ev,tf,sr,u5]at hd;obtain⟨u,⟨w,hw,k,hk,rfl⟩,hd⟩:=hd;cases hd;exact aFJ (hE X _ S B a x xc hx w hw) hk
 case BoolOp o vs p=>
  cases o with
  |And=>exact(hB X _ S B Y vs ir p xc).1 h d hd
  |Or=>exact(hB X _ S B J vs ir p xc).1 h d hd
 case IfExp t a b p=>
  obtain⟨x,hx,h⟩:=aH h;obtain⟨y,hy,h⟩:=aH h;obtain⟨z,hz,rfl⟩:=aP h;simp only[ev,tf,sr]at hd;obtain⟨u,hu,hd⟩:=hd;cases u<;>first|exact nomatch (show U=O d from hd)|skip
  rename_i k;have pt:=hT X _ S B t x xc hx k hu;cases k with
  |true=>exact aAa pt (λ_=>(hE X _ S B a y xc hy d hd)) (λz=>by cases z)
  |false=>exact aAa pt (λz=>by cases z) (λ_=>(hE X _ S B b z xc hz d hd))
 case Compare a os bs p=>exact(KS hE xc h hd).1
 case Tuple es k p=>
  obtain⟨hX,h⟩:=bF h;obtain⟨x,hx,rfl⟩:=aP h;simp only[ev,u5]at hd;obtain⟨ds,bu,rfl⟩:=hd;obtain⟨ds',e1,hl,I,hs⟩:=hA X _ S B es x xc hx _ (cK bu);cases e1;exact aFE I (by rw[hl];exact NI hX)
 case List es p=>
  obtain⟨hX,h⟩:=bF h;obtain⟨x,hx,rfl⟩:=aP h;simp only[ev,u5]at hd;obtain⟨ds,bu,rfl⟩:=hd;obtain⟨ds',e1,hl,I,hs⟩:=hA X _ S B es x xc hx _ (cK bu);cases e1;exact lP (ZZ I (by rw[hl];exact NI hX))
 case Subscript a i p=>
  cases hk:YA c a with
  |some x=>
   have h:(match YA c a with|some x=>wU (cE n c) x i|none=>wR (cE n c) (xS a) (eK c a) (cE n c a) i)=O ir:=h;rw[hk]at h;obtain⟨q,hq,hk⟩:=aH hk;obtain⟨hg,hk⟩:=bF hk;cases hk;obtain rfl:=dA hq;replace h:wU (cE n c) q.1 i=O ir:=h;unfold wU at h;cases gm:ot i with
   |some _=>rw[gm]at h;cases h
   |none=>
    rw[gm]at h;obtain⟨k,hk,rfl⟩:=aP h;simp only[ev,tf,sr]at hd;obtain⟨u,hu,hd⟩:=hd;cases u<;>first|exact nomatch (show U=O d from hd)|skip
    obtain⟨kvs,mz,hd⟩:=aH hd;exact aFM xc (dB hg).1 mz (hE X _ S B i k xc hk _ hu) (cV hk).ix hd
  |none=>have h:(match YA c a with|some x=>wU (cE n c) x i|none=>wR (cE n c) (xS a) (eK c a) (cE n c a) i)=O ir:=h;rw[hk]at h;exact aCp hE xc h hd
 case JoinedStr vs p=>
  obtain⟨hl,h⟩:=bF h;obtain⟨x,hx,rfl⟩:=aP h;simp only[ev,tf,sr,u5]at hd;obtain⟨ds,bu,y,hy,rfl⟩:=hd;exact aFR hE xc (of_decide_eq_true hl) hx (cK bu) hy
 case Attribute a f p=>
  obtain⟨gz,h⟩:=bF h;obtain⟨x,hx,rfl⟩:=aP h;simp only[ev,tf,sr]at hd;obtain⟨u,hu,hd⟩:=hd;have I:=(hE X _ S B a x xc hx u hu);cases u<;>first|exact nomatch (show U=O d from hd)|skip
  obtain⟨hf,hd⟩:=bF hd;exact aFS xc I (gL gz) hf hd
 case ListComp elt gs sc p=>
  obtain⟨tg,iter,ifs,fr,bj,tp,ds,outs,f,rfl,rfl,h1,h2,h3,h4,h5,h6,h7,h8⟩:=FE (S:=S) hE hT hI xc h hd;exact lP (VZ xc h1 h2 h3 h4 h5 h6 h7 h8)
 case Call f args kw p=>
  obtain⟨hkw,h⟩:=bF h;obtain rfl:=lV hkw;cases f<;>first|exact nomatch (show U=O ir from h)|skip
  exact WX hE hA xc h hd;exact KU hE hA xc h hd
variable {CX:ar}{G:GS}{T:Tx}{lv:Nat}
def KW(hE:fj CX G T lv n)(hT:oh CX G T lv n)(I:rj CX G T lv n):oh CX G T lv (n+1):=by
 intro X c S B e ir xc h k hk;have tr:(cE n c e).map .tr=O ir->(∀z,isTrue e X.env z=(do let v <-z;standAt e.pos;holding [v] (truthy v)))->PT X e (gx X.K T S B k):=λh he=>by obtain⟨x,hx,rfl⟩:=aP h;simp only[ev,tf,sr,u5,D.bl.injEq]at hk;obtain⟨w,hw,k',gp,rfl⟩:=hk;exact XH (hE X c S B e x xc hx w hw) he gp
 cases e<;>first|exact tr h λ_=>rfl|skip
 case BoolOp o vs p=>
  cases o with
  |And=>exact PW.pt ((I X c S B Y vs ir p xc).2 h k hk)
  |Or=>exact PW.pt ((I X c S B J vs ir p xc).2 h k hk)
 case UnaryOp o a p=>
  cases o<;>first|exact tr h λ_=>rfl|skip
  obtain⟨x,hx,rfl⟩:=aP h;simp only[ev,tf,sr]at hk;obtain⟨w,hw,hk⟩:=hk;cases w<;>first|exact nomatch (show U=O (D.bl k) from hk)|skip
  cases hk;exact aCx (hT X c S B a x xc hx _ hw)
 case IfExp _ _ _ _=>exact nomatch (show U=O ir from h)
 case Compare a os bs p=>exact(KS hE xc h hk).2 k rfl
theorem fF:∀n,fj CX G T lv n/\oh CX G T lv n/\rj CX G T lv n/\ke CX G T lv n/\OkI CX G T lv n
 | 0=>⟨λX c S B e ir xc h=>(nomatch (show U=O ir from h)),λX c S B e ir xc h=>(nomatch (show U=O ir from h)),λX c S B k vs ir pos xc=>⟨λh=>(nomatch (show U=O ir from h)),λh=>(nomatch (show U=O ir from h))⟩,λX c S B es ir xc h=>(nomatch (show U=O ir from h)),λX c S B e k ir xc h=>(nomatch (show U=O (k,ir) from h))⟩
 |n+1=>by obtain⟨hE,hT,z,hA,I⟩:=fF n;exact⟨KZ hE hT z hA I,KW hE hT z,LA hE hT z,LB hE hA,KY hE hA⟩
abbrev Dm(S₀:Addr->Prop)(H₀:Hp)(_:List Sl)(_:L2.St):Prop:=∀a,S₀ a->∃o,H₀ a=O o
structure SInv (K:wc) (T:Tx) (S₀:Addr->Prop) (H₀:Hp) (S:Addr->Prop) (B:List Sl) (M:L2.St) (H:Hp):Prop where
 re:RE K T H S B M
 dom0:Dm S₀ H₀ B M
 sup:∀a,S₀ a->S a
 same:aJ H₀ H
 dist:∀(i j:Nat) xs ys p,B[i]?=O (.mu xs)->B[j]?=O (.mu ys)->M[i]?=O (O (.ref p))->M[j]?=O (O (.ref p))->i=j
 own:∀(i:Nat) xs p,B[i]?=O (.mu xs)->M[i]?=O (O (.ref p))->H₀ p=U
section
variable {K:wc}{T:Tx}{S₀ S S':Addr->Prop}{H₀ H H' se:Hp}{B ρ1:List Sl}{M σ1:L2.St}
def aU.refl:aU K H H S S:=λa n _=>⟨n,λ_ e=>e⟩
def aU.same(h:aJ H H'):aU K H H' S S:=λa n _=>⟨n,λo e=>h a o e⟩
def aU.trans{z:Addr->Prop}(h:aU K H H' S S')(g:aU K H' se S' z):aU K H se S z:=λa n q=>by obtain⟨n1,k1⟩:=h a n q;obtain⟨n2,k2⟩:=g a n1 (q.elim (λ⟨o,e⟩=>.inl ⟨o,k1 o e⟩) .inr);exact⟨n2,λo e=>k2 o (k1 o e)⟩
def SInv.step(z:SInv K T S₀ H₀ S B M H)(h:aJ H H'):SInv K T S₀ H₀ S B M H':=⟨z.re.same h,z.dom0,z.sup,z.same.trans h,z.dist,z.own⟩
theorem SInv.set(z:SInv K T S₀ H₀ S B M H){d:D}{v:V}(r:Rep K T H S d v):SInv K T S₀ H₀ S (B.set i (.im d)) (M.set i (O v)) H:=by
 have old:∀(j:Nat) xs p,(B.set i (.im d))[j]?=O (.mu xs)->(M.set i (O v))[j]?=O (O (.ref p))->j≠i/\B[j]?=O (.mu xs)/\M[j]?=O (O (.ref p)):=λj xs p h1 h2=>by
  have ne:j≠i:=by
   rintro rfl;have hl:j<B.length:=by simpa using (sj.mp h1).1
   rw[ud hl]at h1;cases h1
  rw[ue (Ne.symm ne)]at h1 h2;exact⟨ne,h1,h2⟩
 refine⟨z.re.set r,z.dom0,z.sup,z.same,λa b xs ys p h1 h2 h3 h4=>?_,λa xs p h1 h2=>?_⟩;obtain⟨_,I,q2⟩:=old a xs p h1 h3;obtain⟨_,q3,q4⟩:=old b ys p h2 h4;exact z.dist a b xs ys p I q3 q2 q4;obtain⟨_,I,q2⟩:=old a xs p h1 h2;exact z.own a xs p I q2
def SInv.setm(I:SInv K T S₀ H₀ S B M H){ds:D}{p:Addr}{xs:HO}(sm:aJ H H')(hp:H p=U)(hk:K.lookup p=U)(j1:H' p=O xs)(rl:nG K T (er H' p) S ds xs):SInv K T S₀ H₀ (λa=>S a\/a=p) (B.set i (.mu ds)) (M.set i (O (.ref p))) H'/\aU K H H' S (λa=>S a\/a=p):=by
 have mv:aU K H H' S (λa=>S a\/a=p):=λa n q=>by
  have ne:a≠p:=by rintro rfl;rcases q with ⟨o,e⟩|⟨o,e⟩;rw[hp]at e;cases e;rw[hk]at e;cases e
  exact⟨λz=>z.elim n ne,λo e=>sm a o e⟩
 have dom:∀a,(S a\/a=p)->∃o,H' a=O o:=λa z=>z.elim (λz=>let ⟨o,e⟩:=I.re.dom a z;⟨o,sm a o e⟩) λz=>⟨xs,by rw[z];exact j1⟩;have re':RE K T H' (λa=>S a\/a=p) B M:=I.re.gen mv (λa ys z e _=>⟨.inl z,sm a _ e⟩) dom;have slotp:∀(j:Nat) ys,B[j]?=O (.mu ys)->M[j]?=O (O (.ref p))->False:=λj ys h1 h2=>by obtain⟨q,zs,e1,e2,e3,_⟩:=I.re.at_ j _ h1;rw[h2]at e1;cases e1;rw[hp]at e3;cases e3
 have at_:∀(j:Nat) ys q,(B.set i (.mu ds))[j]?=O (.mu ys)->(M.set i (O (.ref p)))[j]?=O (O (.ref q))->(j=i/\q=p)\/(j≠i/\B[j]?=O (.mu ys)/\M[j]?=O (O (.ref q))):=λj ys q h1 h2=>by
  by_cases e:j=i;subst e;have hl:j<B.length:=by simpa using (sj.mp h1).1
  rw[ud (by rw[<-I.re.len];exact hl)]at h2;cases h2;exact .inl ⟨rfl,rfl⟩;rw[ue (Ne.symm e)]at h1 h2;exact .inr ⟨e,h1,h2⟩
 refine⟨⟨⟨dom,by simp[I.re.len],λj s e=>?_⟩,I.dom0,λa z=>.inl (I.sup a z),I.same.trans sm,λa b ys zs q h1 h2 h3 h4=>?_,λa ys q h1 h2=>?_⟩,mv⟩;by_cases hj:j=i;subst hj;have hl:j<B.length:=by simpa using (sj.mp e).1
 rw[ud hl]at e;cases e;rw[ud (by rw[<-I.re.len];exact hl)];exact⟨p,xs,rfl,.inr rfl,j1,rl.gen (aU.own hk)⟩;rw[ue (Ne.symm hj)]at e ⊢;exact re'.at_ j s e;rcases at_ a ys q h1 h3 with ⟨ea,eq⟩|⟨na,q1,q2⟩;rcases at_ b zs q h2 h4 with ⟨eb,_⟩|⟨nb,q3,q4⟩;rw[ea,eb];subst eq;exact(slotp b zs q3 q4).elim;rcases at_ b zs q h2 h4 with ⟨eb,eq⟩|⟨nb,q3,q4⟩;subst eq;exact(slotp a ys q1 q2).elim;exact I.dist a b ys zs q q1 q3 q2 q4;rcases at_ a ys q h1 h2 with ⟨ea,eq⟩|⟨na,q1,q2⟩;subst eq;exact I.same.free hp;exact I.own a ys q q1 q2
def SInv.write(I:SInv K T S₀ H₀ S B M H){ds ds':D}{p:Addr}{jm:HO}(hi:B[i]?=O (.mu ds))(hp:M[i]?=O (O (.ref p)))(rl:nG K T H S ds' jm):SInv K T S₀ H₀ S (B.set i (.mu ds')) M (upd H p jm)/\aU K H (upd H p jm) S S:=by
 obtain⟨q,zs,e1,e2,e3,_⟩:=I.re.at_ i _ hi;rw[hp]at e1;cases e1;have mv:aU K H (upd H p jm) S S:=λa n _=>⟨n,λo e=>by rw[aM (λz=>n (by rw[z];exact e2))];exact e⟩;have dom:∀a,S a->∃o,upd H p jm a=O o:=λa z=>by by_cases e:a=p;exact⟨jm,by rw[e];exact aS⟩;obtain⟨o,q⟩:=I.re.dom a z;exact⟨o,by rw[aM e];exact q⟩
 have hl:i<B.length:=(sj.mp hi).1;have old:∀(j:Nat) ys,(B.set i (.mu ds'))[j]?=O (.mu ys)->∃zs,B[j]?=O (.mu zs):=λj ys h=>by by_cases e:j=i;exact⟨ds,by rw[e];exact hi⟩;rw[ue (Ne.symm e)]at h;exact⟨ys,h⟩
 refine⟨⟨⟨dom,by simp[I.re.len],λj s e=>?_⟩,I.dom0,I.sup,λb o e=>?_,λa b ys zs q h1 h2 h3 h4=>?_,λa ys q h1 h2=>?_⟩,mv⟩;by_cases hj:j=i;subst hj;rw[ud hl]at e;cases e;exact⟨p,jm,hp,e2,aS,rl.gen mv⟩;rw[ue (Ne.symm hj)]at e;have h:=I.re.at_ j s e;cases s with
 |un=>trivial
 |im d=>obtain⟨v,e4,r⟩:=h;exact⟨v,e4,Rep.gen mv d v r⟩
 |mu ys=>obtain⟨q,ws,e4,e5,e6,r⟩:=h;refine⟨q,ws,e4,e5,?_,r.gen mv⟩;rw[aM];exact e6;rintro rfl;exact hj (I.dist j i ys ds q e hi e4 hp)
 have ne:b≠p:=by rintro rfl;rw[I.own i ds b hi hp]at e;cases e
 rw[aM ne];exact I.same b o e;obtain⟨iN,q1⟩:=old a ys h1;obtain⟨zs',q2⟩:=old b zs h2;exact I.dist a b iN zs' q q1 q2 h3 h4;obtain⟨iN,q1⟩:=old a ys h1;exact I.own a iN q q1 h2
theorem jP:∀{is:List Nat} {ds:List D} {B ρ1:List Sl} {j:Nat} {xs:D},bO is ds B=O ρ1->ρ1[j]?=O (.mu xs)->j∉is/\B[j]?=O (.mu xs)
 |[],[],B,ρ1,j,xs,h,e=>by simp only[bO,so]at h;subst h;exact⟨y9,e⟩
 |i::is,d::ds,B,ρ1,j,xs,h,e=>by
  simp only[bO]at h;obtain⟨n,q⟩:=jP h e;have ne:j≠i:=by
   rintro rfl;have hl:j<B.length:=by simpa using (sj.mp q).1
   rw[ud hl]at q;cases q
  rw[ue (Ne.symm ne)]at q;exact⟨by simp[n,ne],q⟩
 |[],_::_,_,_,_,_,h,_=>by simp[bO]at h
 |_::_,[],_,_,_,_,h,_=>by simp[bO]at h
def qS{d:D}{j:Nat}{xs:D}(h:bB is tp d B=O ρ1)(e:ρ1[j]?=O (.mu xs)):j∉is/\B[j]?=O (.mu xs):=by unfold bB at h;split at h;split at h;exact jP h e;cases h;exact jP h e
def SInv.bind(z:SInv K T S₀ H₀ S B M H){d:D}(h:bB is tp d B=O ρ1)(re:RE K T H S ρ1 σ1)(ag:∀j,j∉is->σ1[j]?=M[j]?):SInv K T S₀ H₀ S ρ1 σ1 H:=by refine⟨re,z.dom0,z.sup,z.same,λa b xs ys p h1 h2 h3 h4=>?_,λa xs p h1 h2=>?_⟩;obtain⟨n1,I⟩:=qS h h1;obtain⟨n2,q2⟩:=qS h h2;rw[ag a n1]at h3;rw[ag b n2]at h4;exact z.dist a b xs ys p I q2 h3 h4;obtain⟨n1,I⟩:=qS h h1;rw[ag a n1]at h2;exact z.own a xs p I h2
theorem RE.view(re:RE K T H S B M):RE K T H (λ_=>False) (view B) M:=by
 refine⟨λa z=>z.elim,by simp[Z.view,re.len],λi s e=>?_⟩;unfold Z.view at e;rw[sv]at e;cases h:B[i]? with
 |none=>rw[h]at e;cases e
 |some s'=>
  rw[h]at e;cases e;have r:=re.at_ i s' h;cases s' with
  |un=>trivial
  |im d=>obtain⟨v,e1,r⟩:=r;exact⟨v,e1,Rep.mono (λ_ z=>z.elim) (λ_ _ _ e=>e) d v r⟩
  |mu ds=>obtain⟨p,xs,e1,_,e3,r⟩:=r;exact⟨.ref p,e1,r.rep e3 (λz=>z) λ_ z=>z.elim⟩
def JS{d:D}{v:V}(h:TF d=Y)(r:Rep K T H S d v):Rep K T H S' d v:=by cases d<;>first|(simp only[TF,tu]at h;done)|(unfold Rep at r ⊢;exact r)
end
variable {CX:ar}{G:GS}{T:Tx}{lv:Nat}{X:Cx}{c:CC}{S₀:Addr->Prop}{H₀:Hp}{EX:Str->Hp->Prop}{pos:Pos}
noncomputable def RS(K:wc)(T:Tx)(S₀:Addr->Prop)(H₀:Hp)(EX:Str->Hp->Prop)(H:Hp)(S:Addr->Prop)(D:Ends):Out->Prop
 |.nx B=>∀S' z H',SInv K T S₀ H₀ S' B z H'->aU K H H' S S'->D.nx z H'
 |.rt d=>∀v H',aJ H₀ H'->Rep K T H' S₀ d v->D.rt v H'
 |.er c=>∀H',aJ H₀ H'->EX c H'
def cb(K:wc)(T:Tx)(S₀:Addr->Prop)(H₀:Hp)(EX:Str->Hp->Prop)(G:GS)(is:IS):TS:=λD M H=>∃B out S,ex G is B=O out/\SInv K T S₀ H₀ S B M H/\RS K T S₀ H₀ EX H S D out
structure XS (CX:ar) (T:Tx) (X:Cx) (c:CC) (EX:Str->Hp->Prop):Prop where
 pass:PassesOwn (model X.prog X.w) X.A X.env X.xe
 rse:∀x m j p p' q pos,bE c x=Y->c.cls.contains x=Y->PS X (.Raise (O (.Call (.Name x p) [.Constant (.str m) j p'] [] q)) U pos) (λD M H=>EX x H)
 stk:X.stack=X.env::X.outer
 frm:X.env.frame=O X.env.locals
def RS.step{H':Hp}{S':Addr->Prop}{D:Ends}{o:Out}(mv:aU K H H' S S')(h:RS K T S₀ H₀ EX H S D o):RS K T S₀ H₀ EX H' S' D o:=by
 cases o with
 |nx B=>exactλS2 z H2 I m=>h S2 z H2 I (mv.trans m)
 |rt d=>exact h
 |er c=>exact h
def yG{e:IE}{d:D}(h:fi G e B=O d):ev G e B=O d\/(ev G e (view B)=O d/\TF d=Y):=by unfold fi at h;split at h;rename_i h1;cases h;exact .inl h1;split at h;rename_i h2;split at h;rename_i h3;cases h;exact .inr ⟨h2,h3⟩;cases h;cases h
def pF(xc:XC CX X c G T lv){d:D}(he:cE n c e=O ir)(h:fi G ir B=O d):PE X e (tD X.K T S B d):=by rcases yG h with h|⟨h,hs⟩;exact((fF n).1 X c S B e ir xc he d h);exact PE.mono ((fF n).1 X c (λ_=>False) (view B) e ir xc he d h) λM H Q ⟨re,q⟩=>⟨re.view,λv H' z r=>q v H' z (JS hs r)⟩
def SN:PS X (.Pass pos) (cb X.K T S₀ H₀ EX G .nop):=λpins s M H D I ⟨B,out,S,hx,z,po⟩=>by simp only[ex,so]at hx;subst hx;exact VN pins s M H D I (po S M H z aU.refl)
def SM(xc:XC CX X c G T lv)(e:bJ c x=O i):PS X (.Return (O (.Name x p)) pos) (cb X.K T S₀ H₀ EX G (.σ i)):=λpins s M H D I ⟨B,out,S,hx,si,po⟩=>by
 simp only[ex]at hx;split at hx;rename_i ds hi;cases hx;obtain⟨q,xs,e1,e2,e3,rl⟩:=si.re.at_ i _ hi;have hn:=si.own i ds q hi e1;have n0:¬S₀ q:=λz=>by obtain⟨o,z⟩:=si.dom0 q z;rw[hn]at z;cases z
 exact tZ (gZ xc e) pins s M H D I ⟨_,e1,po (.ref q) H si.same (rl.rep e3 n0 si.sup)⟩;cases hx
def aAX(xc:XC CX X c G T lv)(he:cE n c e=O ir):PS X (.Return (O e) pos) (cb X.K T S₀ H₀ EX G (.ret ir)):=λpins s M H D I ⟨B,out,S,hx,z,po⟩=>by obtain⟨d,hd,rfl⟩:=aP (show (fi G ir B).map Out.rt=O out from hx);exact tZ (pF (S:=S) xc he hd) pins s M H D I ⟨z.re,λv H' sm r=>po v H' (z.same.trans sm) (Rep.mono z.sup (λ_ _ _ e=>e) d v r)⟩
def aEC(xc:XC CX X c G T lv){t:Expr}{a b:List Stmt}{ia ib:IS}(ht:cT n c t=O ir)(ha:PSs X a (cb X.K T S₀ H₀ EX G ia))(hb:PSs X b (cb X.K T S₀ H₀ EX G ib)):PS X (.If t a b pos) (cb X.K T S₀ H₀ EX G (.g ir ia ib)):=λpins s M H D I ⟨B,out,S,hx,si,po⟩=>by
 simp only[ex,tf,sr]at hx;obtain⟨w,hw,hx⟩:=hx;cases w<;>first|(simp only[reduceCtorEq]at hx;done)|skip
 rename_i k;refine aFh ((fF n).2.1 X c (λ_=>False) (view B) t ir xc ht k hw) ha hb pins s M H D I ⟨si.re.view,λH' z=>?_⟩;cases k with
 |true=>exact HN ⟨B,out,S,hx,si.step z,po.step (aU.same z)⟩
 |false=>exact xP ⟨B,out,S,hx,si.step z,po.step (aU.same z)⟩
def aBa:PSs X [] (cb X.K T S₀ H₀ EX G .nop):=λpins s M H D I ⟨B,out,S,hx,z,po⟩=>by simp only[ex,so]at hx;subst hx;exact DF pins s M H D I (po S M H z aU.refl)
def aAV{st:Stmt}{rest:List Stmt}{a b:IS}(ha:PS X st (cb X.K T S₀ H₀ EX G a))(hb:PSs X rest (cb X.K T S₀ H₀ EX G b)):PSs X (st::rest) (cb X.K T S₀ H₀ EX G (.seq a b)):=λpins s M H D I ⟨B,out,S,hx,z,po⟩=>by
 simp only[ex,tf,sr]at hx;obtain⟨o,ho,hx⟩:=hx;refine gX ha hb pins s M H D I ⟨B,o,S,ho,z,?_⟩;cases o with
 |nx B'=>exactλS' M' H' gj mv=>⟨B',out,S',hx,gj,po.step mv⟩
 |rt d=>simp only[so]at hx;subst hx;exact po
 |er d=>simp only[so]at hx;subst hx;exact po
def aAW(xs:XS CX T X c EX){m:Str}{j:Nat}{p' q:Pos}(hg:bE c x=Y)(hc:c.cls.contains x=Y):PS X (.Raise (O (.Call (.Name x p) [.Constant (.str m) j p'] [] q)) U pos) (cb X.K T S₀ H₀ EX G (.rse x)):=λpins s M H D I ⟨B,out,S,hx,z,po⟩=>by simp only[ex]at hx;split at hx;cases hx;exact xs.rse x m j p p' q pos hg hc pins s M H D I (po H z.same);cases hx
def SI(xc:XC CX X c G T lv){k:Nat}(hn:fG c es=O is)(he:cE n c e=O ir)(hnt:∀vs k p,e≠.Tuple vs k p):PS X (.Assign [.Tuple es k p] e pos) (cb X.K T S₀ H₀ EX G (.t is ir)):=λpins s M H D I ⟨B,out,S,hx,si,po⟩=>by
 simp only[ex,tf,sr,u5]at hx;obtain⟨d,hd,ρ1,hb,rfl⟩:=hx;have dO:cX c (.Tuple es k p)=O (is,Y):=by simp only[cX,hn,vf]
 refine KD ((fF n).1 X c S B e ir xc he d hd) (VY xc (S:=S) dO hb) ?_ ?_ rfl pins s M H D I ⟨si.re,λv H' z r=>⟨si.re.same z,r,λM' re' ag=>po S M' H' ((si.step z).bind hb re' ag) (aU.same z)⟩⟩;cases e<;>rfl
 cases e<;>first|rfl|exact absurd rfl (hnt _ _ _)
variable {CX:ar}{G:GS}{T:Tx}{lv:Nat}{X:Cx}{c:CC}{S₀:Addr->Prop}{H₀:Hp}{EX:Str->Hp->Prop}{pos:Pos}
noncomputable def uK:Expr->Bool
 |.ListComp _ _ _ _=>Y
 |_=>J
def JG(h:cE n c e=O ir)(hc:uK e=J)(t:Expr)(l:Nat)(env:Env):swapsWith e (O t) l env=pure J:=by cases e<;>first|rfl|exact nomatch (show Y=J from hc)|(cases n<;>exact nomatch (show U=O ir from h))
def zK{l:Nat}{env:Env}:∃b,swapsWith (.ListComp elt gs sc p) (O (.Name x px)) l env=pure b:=⟨_,rfl⟩
def qK{d:D}(xc:XC CX X c G T lv)(h:cE n c (.ListComp elt gs sc p)=O ir)(hd:ev G ir B=O d)(S:Addr->Prop):∃tg iter ifs fr bj tp ds z f,gs=[⟨tg,iter,ifs,0⟩]/\d=.lst z/\lB c sc=Y/\freeOf c sc (sc.names.filter λx=>x.2 == .free)=O fr/\bj.all (λi=>(fr.lookup i).isNone)=Y/\cX {c with N:=ownNames sc,sc:=sc} tg=O (bj,tp) /\PI X tg iter (tI X.K T S B ds)/\(∀x,foldedSetIterable iter X.env x=pure x)/\cG f ds=O z /\(∀d o,f d=O o->∃ρ1,bB bj tp d (frame (ownNames sc).length fr B)=O ρ1/\TurnOk CX G T lv {c with N:=ownNames sc,sc:=sc} X.K ifs elt ρ1 o):=by
 cases n with
 |zero=>exact nomatch (show U=O ir from h)
 |succ n=>obtain⟨hE,hT,hB,hA,I⟩:=fF (CX:=CX) (G:=G) (T:=T) (lv:=lv) n;exact FE hE hT I xc h hd
def aAd{p:Addr}{o:HO}(I:Inv X pins M H s)(h:H p=O o):X.K.lookup p=U:=by
 cases e:X.K.lookup p with
 |none=>rfl
 |some u=>rw[MA I p u e]at h;cases h
def tNk(K:wc)(T:Tx)(S:Addr->Prop)(B:List Sl)(ds:List D):TE:=λM H Q=>RE K T H S B M/\∀p xs H',aJ H H'->H p=U->K.lookup p=U->H' p=O (.lst xs)->aD K T (er H' p) S ds xs->Q (.ref p) H'
def aHq{ds:List D}(h:PE X e (ja X.K T S B ds)):PE X e (tNk X.K T S B ds):=λpins s M H Q I ⟨re,q⟩=>ah (h pins s M H (λv H'=>∃p xs,v=.ref p/\aJ H H'/\H p=U/\H' p=O (.lst xs)/\aD X.K T (er H' p) S ds xs) I ⟨re,λp xs H' a b c d=>⟨p,xs,rfl,a,b,c,d⟩⟩) λu s1 ⟨v,H',z,r,p,xs,e,a,b,c,d⟩=>⟨v,H',z,r,by rw[e];exact q p xs H' a b (aAd z c) c d⟩
def SL(xc:XC CX X c G T lv){pd:Pos}(hx:fA c (.Name x oy)=O i):PS X (.Assign [.Name x px] (.Dict [] [] pd) pos) (cb X.K T S₀ H₀ EX G (.setd i)):=λpins s M H D I ⟨B,out,S,hex,si,po⟩=>by cases hex;obtain⟨hN,hk⟩:=gY hx;obtain⟨hl,hf⟩:=xc.loc hk;have pn:PE X (.Dict [] [] pd) (λM H Q=>∀p,H p=U->X.K.lookup p=U->Q (.ref p) (upd H p (.dK []))):=λpins s M H Q I q=>ah (KM pins s M H (λv H'=>∃p,v=.ref p/\H p=U/\H'=upd H p (.dK [])) I λp hp=>⟨p,rfl,hp,rfl⟩) λu s1 ⟨v,H',I',r,p,e1,hp,e2⟩=>⟨v,H',I',r,by subst e1 e2;exact q p hp (aAd I' (aS))⟩;refine zW (by rw[xc.N];exact xc.nd) (by rw[xc.N];exact hN) hl pn rfl hf pins s M H D I λp hp z=>?_;obtain⟨gj,mv⟩:=si.setm (i:=i) (ds:=.dct []) (xs:=.dK []) (aJ.upd hp) hp z aS (.inr ⟨_,_,rfl,rfl,aZ.nil⟩);exact po _ _ _ gj mv
def aAU(xc:XC CX X c G T lv)(hx:fA c (.Name x oy)=O i)(he:cE n c e=O ir):PS X (.Assign [.Name x px] e pos) (cb X.K T S₀ H₀ EX G (.set i ir)):=λpins s M H D I ⟨B,out,S,hex,si,po⟩=>by
 simp only[ex,u5]at hex;obtain⟨d,hd,rfl⟩:=hex;obtain⟨hN,hk⟩:=gY hx;obtain⟨hl,hf⟩:=xc.loc hk;have plain:swapsWith e (O (.Name x px)) pos.line X.env=pure J->wpAny (model X.prog X.w) X.A (exec (.Assign [.Name x px] e pos) X.env) (SP X pins D) X.xe s:=λhs=>zW (by rw[xc.N];exact xc.nd) (by rw[xc.N];exact hN) hl (pF (S:=S) xc he hd) hs hf pins s M H D I ⟨si.re,λv H' z r=>po S _ H' ((si.step z).set r) (aU.same z)⟩;cases hc:uK e with
 |false=>exact plain (JG he hc _ _ _)
 |true=>
  cases e<;>simp only[uK,tu]at hc
  rename_i elt gs sc p;obtain⟨b,hb⟩:=zK (elt:=elt) (gs:=gs) (sc:=sc) (p:=p) (px:=px) (x:=x) (l:=pos.line) (env:=X.env);cases b with
  |false=>exact plain hb
  |true=>
   have hev:ev G ir B=O d:=by rcases yG hd with h|⟨h,hs⟩;exact h;obtain⟨_,_,_,_,_,_,_,outs,_,_,rfl,_⟩:=qK xc he h (λ_=>False);cases hs
   obtain⟨tg,iter,ifs,fr',bj,tp,ds,outs,f,rfl,rfl,h1,h2,h3,h4,h5,h6,h7,h8⟩:=qK xc he hev S;exact VP xc h1 h2 h3 h4 h5 h6 (px:=px) (by simp only[fA]at hx ⊢;exact hx) hb h7 h8 pins s M H D I ⟨si.re,λp xs H' z hp j1 rl=>po S _ H' ((si.step z).set (by unfold Rep;exact⟨p,xs,rfl,si.re.nS hp,j1,rl.er⟩)) (aU.same z)⟩
def SJ(xc:XC CX X c G T lv){pl:Pos}(hx:fA c (.Name x oy)=O i):PS X (.Assign [.Name x px] (.List [] pl) pos) (cb X.K T S₀ H₀ EX G (.setm i)):=λpins s M H D I ⟨B,out,S,hex,si,po⟩=>by cases hex;obtain⟨hN,hk⟩:=gY hx;obtain⟨hl,hf⟩:=xc.loc hk;exact zW (by rw[xc.N];exact xc.nd) (by rw[xc.N];exact hN) hl (aHq (ZZ (S:=S) (B:=B) sC (vz _))) rfl hf pins s M H D I ⟨si.re,λp xs H' sm hp z j1 rl=>by obtain⟨gj,mv⟩:=si.setm (i:=i) (ds:=.lst []) sm hp z j1 (.inl ⟨_,_,rfl,rfl,rl⟩);exact po _ _ H' gj mv⟩
variable {CX:ar}{G:GS}{T:Tx}{lv:Nat}{X:Cx}{c:CC}{S₀:Addr->Prop}{H₀:Hp}{EX:Str->Hp->Prop}{pos:Pos}
def aBe(xc:XC CX X c G T lv)(hx:bJ c x=O i)(hl:(p2.endLine == p.line)=Y)(he:cE n c e=O ir):PS X (.Expr (.Call (.Attribute (.Name x p1) "append" p2) [e] [] p) pos) (cb X.K T S₀ H₀ EX G (.app i ir)):=λpins s M H D I ⟨B,out,S,z,si,po⟩=>by simp only[ex,tf,sr]at z;obtain⟨d,hd,z⟩:=z;split at z;rename_i ds hi;split at z;rename_i hz;cases z;obtain⟨q,ob,e1,e2,e3,rm⟩:=si.re.at_ i _ hi;obtain⟨xs,rfl,rl⟩:=rm.lst;have st:=(cV he).star X.env [];refine jX (oW plainAttrs_list PySem.F.slot_list_append PySem.F.type_list_append mK (gZ xc hx) (eG (pF (S:=S) xc he hd) gO st) rfl ?_ hl st rfl) rfl pins s M H D I ⟨.ref q,e1,.inl ⟨rfl,xs,SqL.of e3⟩,si.re,λv H' sm r=>⟨q,xs,v,rfl,rfl,sm _ _ e3,?_,?_⟩⟩;rw[st];rfl;rw[<-rl.len];exact u7 hz eU;obtain⟨gj,mv⟩:=(si.step sm).write (ds':=.lst (ds++[d])) hi e1 (.inl ⟨_,_,rfl,rfl,(rl.same sm).app (aD.cons r aD.nil)⟩);exact po S M _ gj ((aU.same sm).trans mv);cases z;cases z
def aBc(xc:XC CX X c G T lv)(hx:bJ c x=O i)(hl:(p2.endLine == p.line)=Y)(he:cE n c e=O ir):PS X (.Expr (.Call (.Attribute (.Name x p1) "extend" p2) [e] [] p) pos) (cb X.K T S₀ H₀ EX G (.ext i ir)):=λpins s M H D I ⟨B,out,S,z,si,po⟩=>by obtain⟨d,hd,z⟩:=aH (show (ev G ir B).bind _=O out from z);split at z;rename_i es ds hi;split at z;rename_i hz;cases z;obtain⟨q,ob,e1,e2,e3,rm⟩:=si.re.at_ i _ hi;obtain⟨xs,rfl,rl⟩:=rm.lst;have st:=(cV he).star X.env [];refine jX (oW plainAttrs_list PySem.F.slot_list_extend PySem.F.type_list_extend HC (gZ xc hx) (eG (((fF n).1 X c S B e ir xc he _ hd)) gO st) rfl ?_ hl st rfl) rfl pins s M H D I ⟨.ref q,e1,.inl ⟨rfl,xs,SqL.of e3⟩,si.re,λv H' sm r=>?_⟩;rw[st];rfl;have r0:=r;unfold Rep at r0;obtain⟨b,ys,rfl,_,hb,ry⟩:=r0;refine⟨q,b,xs,ys,rfl,rfl,sm _ _ e3,hb,?_,?_⟩;rw[<-rl.len,<-ry.len];exact le_of_lt (u7 hz eU);obtain⟨gj,mv⟩:=(si.step sm).write (ds':=.lst (ds++es)) hi e1 (.inl ⟨_,_,rfl,rfl,(rl.same sm).app ry⟩);exact po S M _ gj ((aU.same sm).trans mv);cases z;cases z
def aCX(n:Nat)(i:Int):Z.ixN n i=L2.ixN n i:=by unfold Z.ixN L2.ixN;rfl
def FZ(h:cE n c e=O ir){o i:Expr}{l:Nat}{env:Env}:swapsWith e (O (.Subscript o i p)) l env=pure J:=by cases e<;>first|rfl|(cases n<;>exact nomatch (show U=O ir from h))
def aAZ(xc:XC CX X c G T lv){k:Expr}{kr:IE}(hx:bJ c x=O i)(hk:cE n c k=O kr)(he:cE n c e=O ir):PS X (.Assign [.Subscript (.Name x p1) k p2] e pos) (cb X.K T S₀ H₀ EX G (.put i kr ir)):=λpins s M H D I ⟨B,out,S,z,si,po⟩=>by
 simp only[ex,tf,sr]at z;obtain⟨d,hd,ki,hki,z⟩:=z;split at z;rename_i o hi;obtain⟨o',ho,rfl⟩:=u5.mp z;obtain⟨q,ob,e1,e2,e3,rm⟩:=si.re.at_ i _ hi;cases o<;>first|exact nomatch (show U=O o' from ho)|skip
 rename_i ds;obtain⟨j,hj,rfl⟩:=u5.mp ho;obtain⟨xs,rfl,rl⟩:=rm.lst;refine KD (pF (S:=S) xc he hd) (aBR (gZ xc hx) (pF (S:=S) xc hk (iH hki)) set_list ?_) ?_ ?_ rfl pins s M H D I ⟨si.re,λv H' sm r=>⟨.ref q,e1,(si.step sm).re,λw H2 il r2=>?_⟩⟩;intro v;cases k<;>first|rfl|(cases n<;>exact nomatch (show U=O kr from hk))
 cases e<;>rfl
 cases e<;>rfl
 unfold Rep at r2;subst r2;refine⟨q,xs,ki,j,rfl,rfl,il _ _ (sm _ _ e3),by rw[<-rl.len,<-aCX];exact hj,?_⟩;obtain⟨gj,mv⟩:=(si.step (sm.trans il)).write (ds':=.lst (ds.set j d)) hi e1 (.inl ⟨_,_,rfl,rfl,aD.set j (rl.same (sm.trans il)) (r.same il)⟩);exact po S M _ gj ((aU.same (sm.trans il)).trans mv);rename_i kvs;have ho:(if kvs.length<big then O (Z.D.dct (gW kvs ki d)) else U)=O o':=ho;split at ho;rename_i hz;cases ho;obtain⟨gs,rfl,rk⟩:=rm.dct;refine VO (MX xc.room) (gZ xc hx) (pF (S:=S) xc hk (iH hki)) (pF (S:=S) xc he hd) (FZ he) pins s M H D I ⟨si.re,λv H' sm r=>⟨.ref q,e1,(si.step sm).re,λw H2 il r2=>?_⟩⟩;unfold Rep at r2;subst r2;refine⟨q,_,rfl,RY.k (k:=Sum.inl ki) (il _ _ (sm _ _ e3)) (by rw[<-aZ.len rk];exact u7 hz eU),?_⟩;obtain⟨gj,mv⟩:=(si.step (sm.trans il)).write (ds':=.dct (gW kvs ki d)) hi e1 (.inr ⟨_,_,rfl,rfl,aZ.put (r.same il) (aZ.gen (aU.same (S:=S) (sm.trans il)) _ _ rk)⟩);exact po S M _ gj ((aU.same (sm.trans il)).trans mv);cases ho;cases z
def BJ{bind:D->List Sl->Option (List Sl)}{body:List Sl->Option Out}{d:D}{r:List D}{out:Out}(h:bT bind body (d::r) B=O out):∃ρ1 o,bind d B=O ρ1/\body ρ1=O o /\((∃z,o=.nx z/\bT bind body r z=O out)\/(∃d,o=.rt d/\out=o)\/∃x,o=.er x/\out=o):=by
 simp only[bT,tf,sr]at h;obtain⟨ρ1,h1,o,h2,h3⟩:=h;refine⟨ρ1,o,h1,h2,?_⟩;cases o<;>simp only[so]at h3
 exact .inl ⟨_,rfl,h3⟩;exact .inr (.inl ⟨_,rfl,h3.symm⟩);exact .inr (.inr ⟨_,rfl,h3.symm⟩)
def gEx(K:wc)(T:Tx)(is:List Nat)(tp:Bool):TG:=λv M H Q=>∃B S ρ1 d,bB is tp d B=O ρ1/\gD K T S is B ρ1 d v M H Q
def aBb(xc:XC CX X c G T lv)(xs:XS CX T X c EX){tg iter:Expr}{body:List Stmt}{bj:List Nat}{k:Src}{src:IE}{ib:IS}(dO:cX c tg=O (bj,tp))(hi:cI n c iter=O (k,src))(mh:RQ k tg)(hb:PSs X body (cb X.K T S₀ H₀ EX G ib)):PS X (.For tg iter body [] pos) (cb X.K T S₀ H₀ EX G (.loop bj tp k src ib)):=λpins s M H D I ⟨B,out,S,hex,si,po⟩=>by
 simp only[ex,tf,sr]at hex;obtain⟨d,hd,ds,bu,jt⟩:=hex;obtain⟨hit,hset⟩:=(fF n).2.2.2.2 X c S B iter k src xc hi d ds hd bu;have hg:PG X tg (gEx X.K T bj tp):=λpins s M H v u Q I r ⟨B,S,ρ1,d,nc,h⟩=>VY xc dO nc pins s M H v u Q I r h;refine KC xs.pass xc.calm (hit tg mh) hg hb hset pins s M H D I ⟨si.re,λæ H1 sm jo hlen=>?_⟩;refine⟨λi m M H=>∃ρi Si,m=ds.length-i/\i<=ds.length/\bT (bB bj tp) (ex G ib) (ds.drop i) ρi=O out/\SInv X.K T S₀ H₀ Si ρi M H/\aU X.K H1 H S Si,⟨ds.length,B,S,y9,vz _,by simpa using jt,si.step sm,aU.refl⟩,?_⟩;rintro i m M' H' ⟨ρi,Si,rfl,hile,p7,sii,mv⟩;obtain⟨o8,o7⟩:=jo H' Si mv sii.re.dom;have po':RS X.K T S₀ H₀ EX H' Si D out:=po.step ((aU.same sm).trans mv);by_cases c6:i<ds.length;refine .inr ?_;have hdr:ds.drop i=ds[i]::ds.drop (i+1):=List.drop_eq_getElem_cons c6;rw[hdr]at p7;obtain⟨ρ1,o,nc,hbo,hcase⟩:=BJ p7;obtain⟨hgo',hy⟩:=o8 i ds[i] (by simp[c6]);refine⟨hgo',λσ2 H2=>∃z S2,bT (bB bj tp) (ex G ib) (ds.drop (i+1)) z=O out/\SInv X.K T S₀ H₀ S2 z σ2 H2/\aU X.K H1 H2 S S2,λσ2 H2 ⟨z,S2,a,b,c⟩=>⟨ds.length-(i+1),yx,z,S2,rfl,c6,a,b,c⟩,λx H2 oN=>?_⟩;obtain⟨s2,rx⟩:=hy x H2 oN;refine⟨ρi,Si,ρ1,ds[i],nc,(sii.step s2).re,rx,λσ3 jx ag=>⟨ρ1,o,Si,hbo,(sii.step s2).bind nc jx ag,?_⟩⟩;have mv2:aU X.K H1 H2 S Si:=mv.trans (aU.same s2);rcases hcase with ⟨z,rfl,hr⟩|⟨d',rfl,rfl⟩|⟨x',rfl,rfl⟩;exactλS3 σ4 H4 si4 mv4=>⟨z,S3,hr,si4,mv2.trans mv4⟩;exact po';exact po';have hn:i=ds.length:=by lia
 refine .inl ⟨o7 i yx,?_⟩;rw[hn,w6]at p7;simp only[bT,so]at p7;subst p7;exact po' Si M' H' sii aU.refl
variable {CX:ar}{G:GS}{T:Tx}{lv:Nat}{X:Cx}{c:CC}{S₀:Addr->Prop}{H₀:Hp}{EX:Str->Hp->Prop}{pos:Pos}
def XM(h:XC CX X c G T lv){ds:List D}{k:Str}{I:XK}(hg:bE c x=Y)(hf:c.fns.contains x=Y)(ha:PA X es (c9 X.K T S B ds))(hs:starEach es X.env=es.map λe=>(J,eval e X.env))(hlen:ds.length=es.length) (hd:G.fn x ds=O (.er k)) (hT:T.xc k=O C) (hp:jR CX X I):PE X (.Call (.Name x p) es [] pos) (λM H Q=>RE X.K T H S B M/\∀H',aJ H H'->I (.ref C) U H'):=by
 obtain⟨f,fd,ps,hm,hk,hb,hl,F⟩:=h.go.fn x hf;have z:∀M H Q,(RE X.K T H S B M/\∀H',aJ H H'->I (.ref C) U H')->CO (ik X.K T ps.length (G.fn x)) [] I (c9 X.K T S B ds) M H Q:=λM H Q ⟨re,q⟩=>⟨re,λvs H1 s1 r1=>⟨by rw[uq,<-r1.len];exact hl ds _ hd,S,ds,(re.same s1).dom,by rw[uq];exact r1,.inr ⟨k,C,hd,hT,λH' s2=>q H' (s1.trans s2)⟩⟩⟩;cases es with
 |nil=>refine PE.mono (xF F h.room (h.glob hg) hm hk hb .nil hp (h.gne hg)) λM H Q hq=>?_;obtain⟨re,q⟩:=hq;have bu:ds=[]:=ur.mp hlen;subst bu;exact(z M H Q ⟨re,q⟩).2 [] H (aJ.refl H) aD.nil
 |cons e es=>obtain⟨h1,h2⟩:=rS (pos:=pos) hs;exact PE.mono (DI F h.room (h.glob hg) hm hk hb .nil hp ha (h.gne hg) h1 h2) z
def aFT(xc:XC CX X c G T lv){f:Expr}{k:Str}{E1:XK}(he:cE n c (.Call f args kw p)=O ir)(hr:ny G ir B=O (.er k))(hT:T.xc k=O C)(hp:jR CX X E1):PE X (.Call f args kw p) (λM H Q=>RE X.K T H S B M/\∀H',aJ H H'->E1 (.ref C) U H'):=by
 cases n with
 |zero=>exact nomatch (show U=O ir from he)
 |succ n=>
  obtain⟨hE,hT',hB,hA,hI⟩:=fF (CX:=CX) (G:=G) (T:=T) (lv:=lv) n;obtain⟨hkw,he⟩:=bF he;obtain rfl:=lV hkw;cases f<;>first|exact nomatch (show U=O ir from he)|skip
  case Attribute o m ap _=>
   obtain⟨hc,he⟩:=bF he;obtain⟨hc,hc3⟩:=dB hc;obtain⟨hc1,fx⟩:=dB hc;obtain⟨x,hx,he⟩:=aH he;obtain⟨y,hy,rfl⟩:=aP he;cases hr
  case Name x px _=>
   obtain⟨hg,he⟩:=bF he;cases hf:c.fns.contains x with
   |true=>rw[hf]at he;obtain⟨y,hy,rfl⟩:=aP (show (cA n c args).map (λy=>IE.call x y)=O ir from he);obtain⟨ds,bu,hd⟩:=aH (show (bG (ev G y B)).bind (G.fn x)=O (.er k) from hr);obtain⟨ds',e1,hl,pa,hs⟩:=hA X _ S B args y xc hy _ (cK bu);cases e1;exact XM xc hg hf pa hs hl hd hT hp
   |false=>
    exfalso;rw[hf]at he;have I:∀{o:Option IE} {g:IE->IE},(∀y,ny G (g y) B=U)->o.map g=O ir->False:=λ{o g} hn z=>by obtain⟨y,_,rfl⟩:=aP z;rw[hn y]at hr;cases hr
    cases bq:c.cls.contains x with
    |true=>rw[bq]at he;exact I (g:=λy=>IE.mk x y) (λ_=>rfl) he
    |false=>
     rw[bq]at he;cases hi:x == "isinstance" with
     |true=>
      rw[hi]at he;have he:JT (cE n c) c args=O ir:=he;match args,he with
      |[a,y],he=>obtain⟨y',_,he⟩:=aH he;obtain⟨_,he⟩:=bF he;exact I (g:=λz=>IE.y z y'.1) (λ_=>rfl) he
     |false=>
      rw[hi]at he;obtain⟨b,hb,he⟩:=aH (show (nX x).bind (λb=>GK (cE n c) c b args (cA n c args))=O ir from he);unfold GK at he;have nb:∀b:BF,((cA n c args).map λz=>IE.ρ b z)=O ir->False:=λb he=>I (g:=λz=>IE.ρ b z) (λ_=>rfl) he;split at he
      .rename_i i _;cases b<;>first|exact nb _ he|(cases (show O _=O ir from he);cases hr;done)|(cases (bF (show (if args.any xS then O (IE.lend i) else U)=O ir from he)).2;cases hr)
      cases hra:zS c args with
      |none=>
       rw[hra]at he;cases hq:(one? args).bind (zR c) with
       |none=>rw[hq]at he;exact nb b (by cases b<;>exact he)
       |some a=>rw[hq]at he;cases b<;>first|exact nb _ he|exact I (g:=λz=>IE.walk .rng (.tup (.cons z .nil))) (λ_=>rfl) he
      |some a=>rw[hra]at he;cases b<;>first|exact nb _ he|exact I (g:=λz=>IE.walk .rev z) (λ_=>rfl) he
def SO(xc:XC CX X c G T lv){f:Expr}(he:cE n c (.Call f args kw p)=O ir):PS X (.Expr (.Call f args kw p) pos) (cb X.K T S₀ H₀ EX G (.drop ir)):=λpins s M H D I ⟨B,out,S,hx,si,po⟩=>by obtain⟨d,hd,rfl⟩:=aP (show (ev G ir (view B)).map _=O out from hx);exact jX ((fF n).1 X c (λ_=>False) (view B) _ ir xc he d hd) rfl pins s M H D I ⟨si.re.view,λv H' z _=>po S M H' (si.step z) (aU.same z)⟩
def XC.re{z:Cx}(xc:XC CX X c G T lv)(h1:z.prog=X.prog)(h2:z.w=X.w)(h3:z.K=X.K)(h4:z.mg=X.mg)(h5:z.base=X.base)(h6:z.N=X.N)(h7:z.env=X.env)(h8:z.fn=X.fn)(h9:z.calm=X.calm)(I:z.A=X.A):XC CX z c G T lv:=by obtain⟨pr,w,K,mg,base,A,N,s0,H0,env,outer,stack,ex,fn,calm,pn,xe⟩:=X;obtain⟨pr',w',K',gc,base',A',N',s0',H0',env',outer',stack',ex',fn',calm',pn',xe'⟩:=z;dsimp only at h1 h2 h3 h4 h5 h6 h7 h8 h9 I;subst h1 h2 h3 h4 h5 h6 h7 h8 h9 I;exact⟨xc.N,xc.nd,xc.kd,xc.own,xc.dbg,xc.gdb,xc.calm,xc.room,⟨xc.go.fn,xc.go.me,xc.go.cls,xc.go.fld,xc.go.mo,xc.go.cst,xc.go.bi,xc.go.xcl,xc.go.cx0,xc.go.cxf,xc.go.xns,xc.go.xk,xc.go.sub,xc.go.dk⟩⟩
abbrev VT(X:Cx)(pins:wk)(W:wj):Cx:={X with pn:=X.pn++pins,xe:=W}
def aDa(I:Inv X pins M H s):Inv (VT X pins W) [] M H s:=⟨⟨I.ok.mod,I.ok.kind,I.ok.glob,I.ok.blt,I.ok.above,I.ok.inj,I.ok.has,I.ok.cab,I.ok.hd,I.ok.frames,I.ok.stk,I.ok.exf,I.ok.bs,I.ok.bsz,I.ok.noex,I.ok.exfs,I.ok.funs,I.ok.frf⟩,I.os,I.bare,I.base,I.loc,I.cell,I.free,I.freeC,λp hp=>I.pin p (by simpa using hp),I.hok,I.len⟩
def MN{z:wk}(ok:X.Ok)(I:Inv (VT X pins W) z M H s):Inv X pins M H s:=⟨ok,I.os,I.bare,I.base,I.loc,I.cell,I.free,I.freeC,λp hp=>I.pin p (v9 _ hp),I.hok,I.len⟩
def aDw{d:D}(h:ny G ir B=O (.ok d)):ev G ir B=O d:=by
 cases ir<;>first|exact nomatch (show U=O (Rs.ok d) from h)|skip
 obtain⟨as,q,h⟩:=aH (show (bG (ev G _ B)).bind (G.fn _)=_ from h);show (bG (ev G _ B)).bind (λas=>gF (G.fn _ as))=_;rw[q];show gF (G.fn _ as)=_;rw[h];rfl
def aEs(xc:XC CX X c G T lv){f:Expr}{ep:Pos}{k:Str}{QX:Flow->Shared->Prop}(he:cE n c (.Call f args kw p)=O ir)(hk:ny G ir (view B)=O (.er k))(hT:T.xc k=O C)(I:Inv X pins M H s)(re:RE X.K T H (λ_=>False) (view B) M) (hp1:jR CX (VT X pins W) (λcls _ H'=>cls=.ref C/\aJ H H')):wpAny (model X.prog X.w) X.A (execs [.Expr (.Call f args kw p) ep] X.env) QX W s:=by
 have xc1:XC CX (VT X pins W) c G T lv:=xc.re rfl rfl rfl rfl rfl rfl rfl rfl rfl rfl;refine vd (jW (jX (pos:=ep) (aFT (S:=λ_=>False) xc1 he hk hT hp1) rfl) [] s M H {nx:=λ_ _=>False,rt:=λ_ _=>False} (aDa I) ⟨re,λH' sm=>⟨rfl,sm⟩⟩) (λfl s1 h1=>?_) λ_ _ z=>z;cases fl with
 |next=>obtain⟨_,_,_,z⟩:=h1;exact z.elim
 |brk=>obtain⟨_,_,_,z⟩:=h1;exact z.elim
 |cont=>obtain⟨_,_,_,z⟩:=h1;exact z.elim
 |ret u=>obtain⟨_,_,_,_,_,z⟩:=h1;exact z.elim
def aAT(xc:XC CX X c G T lv)(xs:XS CX T X c EX){f:Expr}{ep np rp hp q:Pos}{b:Bool}{j:Nat}(hg:bE c x=Y)(he:cE n c (.Call f args kw p)=O ir):PS X (.Try [.Expr (.Call f args kw p) ep] [.ExceptHandler (O (.Name x np)) U [.Return (O (.Constant (.bool b) j q)) rp] hp] [] [] pos) (cb X.K T S₀ H₀ EX G (.tryx ir x b)):=λpins s M H D I ⟨B,out,S,hx,si,po⟩=>by
 refine wpAny_Try_except ?_;simp only[ex]at hx;split at hx
 .rename_i d hd;cases hx;have pn:PSs X.nox [.Expr (.Call f args kw p) ep] (ZN (tD X.K T (λ_=>False) (view B) d)):=jW (jX ((fF n).1 X.nox c (λ_=>False) (view B) _ ir (xc.re rfl rfl rfl rfl rfl rfl rfl rfl rfl rfl) he d (aDw hd)) rfl)
  refine vd (pn pins s M H {nx:=λM' H'=>D.nx M' H',rt:=λ_ _=>False} (I.wish _) ⟨si.re.view,λv H' sm _=>po S M H' (si.step sm) (aU.same sm)⟩) (λfl s1 h1=>?_) λ_ _ z=>z.elim;cases fl with
  |next=>obtain⟨M',H',I',q⟩:=h1;exact wpAny_execs_nil ⟨M',H',I'.unwish,q⟩
  |brk=>obtain⟨_,_,_,z⟩:=h1;exact z.elim
  |cont=>obtain⟨_,_,_,z⟩:=h1;exact z.elim
  |ret u=>obtain⟨_,_,_,_,_,z⟩:=h1;exact z.elim
 rename_i k hk;split at hx;rename_i hb;cases hx;rw[u3,u3]at hb;obtain⟨C,hT⟩:=xc.go.xns k hb.1.1;obtain⟨L,hL⟩:=xc.go.xns x hb.1.2;refine aEs xc he hk hT I si.re.view λdz σ1 H1 s1 v s2 I1 hcx=>?_;obtain⟨a,cls,a0,ρ,H',rfl,F,rfl,sm⟩:=xc.go.cxf _ _ _ _ _ _ hcx;refine aDz (rt:=D.rt) (MN I.ok I1) F xs.stk xs.frm (xc.go.xk k C hT) (xc.go.xk x L hL) (xc.go.sub k x C L hT hL hb.2) (xc.glob hg) (xc.gne hg) (xc.go.xcl x L hL) rfl (jW λpins s M' se D' I hh=>?_);obtain⟨rfl,rfl,rfl⟩:=hh;exact tZ ZT pins s _ _ _ I (po _ _ (si.same.trans (sm.trans (aJ.upd F.new))) bQ);cases hx;cases hx
variable {CX:ar}{G:GS}{T:Tx}{lv:Nat}{X:Cx}{c:CC}{S₀:Addr->Prop}{H₀:Hp}{EX:Str->Hp->Prop}{pos:Pos}
def aDO(CX:ar)(G:GS)(T:Tx)(lv:Nat)(S₀:Addr->Prop)(H₀:Hp)(EX:Str->Hp->Prop)(n:Nat):Prop:=∀(X:Cx) (c:CC) (st:Stmt) (is:IS),XC CX X c G T lv->XS CX T X c EX->cS n c st=O is->PS X st (cb X.K T S₀ H₀ EX G is)
def ZG(CX:ar)(G:GS)(T:Tx)(lv:Nat)(S₀:Addr->Prop)(H₀:Hp)(EX:Str->Hp->Prop)(n:Nat):Prop:=∀(X:Cx) (c:CC) (st:List Stmt) (is:IS),XC CX X c G T lv->XS CX T X c EX->jv n c st=O is->PSs X st (cb X.K T S₀ H₀ EX G is)
def GJ{s:Stmt}{x:Option Expr×Pos}(h:aEN s=O x):s=.Return x.1 x.2:=by cases s<;>first|exact nomatch (show U=O x from h)|(cases (show O _=O x from h);rfl)
def QE{s:Stmt}{x:Expr×Pos}(h:exP s=O x):s=.Expr x.1 x.2:=by cases s<;>first|exact nomatch (show U=O x from h)|(cases (show O _=O x from h);rfl)
def II{q:Nat×Expr}(h:YR c e=O q):∃x p1 p2 p,e=.Call (.Attribute (.Name x p1) "extend" p2) [q.2] [] p/\bJ c x=O q.1/\(p2.endLine == p.line)=Y:=by obtain⟨r,h1,h⟩:=aH h;obtain⟨g,h2,h⟩:=aH h;obtain⟨j,h3,h⟩:=aH h;obtain⟨a,h4,h⟩:=aH h;obtain⟨h5,h⟩:=bF h;obtain⟨h5,z⟩:=dB h5;obtain⟨h5,h6⟩:=dB h5;cases h;obtain⟨x,p1,e3,hs⟩:=fS h3;refine⟨x,p1,g.2.2,r.2.2.2,?_,hs,z⟩;rw[eS h1,lC h2,bZ h4,lV h5,e3,uw.mp h6]
def IU{q:Nat×Expr}(h:ZD c e=O q):∃x p1 p2 p,e=.Call (.Attribute (.Name x p1) "append" p2) [q.2] [] p/\bJ c x=O q.1/\(p2.endLine == p.line)=Y:=by obtain⟨r,h1,h⟩:=aH h;obtain⟨g,h2,h⟩:=aH h;obtain⟨j,h3,h⟩:=aH h;obtain⟨a,h4,h⟩:=aH h;obtain⟨h5,h⟩:=bF h;obtain⟨h5,z⟩:=dB h5;obtain⟨h5,h6⟩:=dB h5;cases h;obtain⟨x,p1,e3,hs⟩:=fS h3;refine⟨x,p1,g.2.2,r.2.2.2,?_,hs,z⟩;rw[eS h1,lC h2,bZ h4,lV h5,e3,uw.mp h6]
def JJ(xc:XC CX X c G T lv){is:IS}(h:zV (cE n c) c e=O is):PS X (.Expr e pos) (cb X.K T S₀ H₀ EX G is):=by obtain⟨r,hr,h⟩:=aH h;obtain⟨u,hu,rfl⟩:=aP h;obtain rfl:=eS hr;exact SO xc hu
def aBd(xc:XC CX X c G T lv)(xs:XS CX T X c EX){t:Expr}{is:IS}(h:ZP (cE n c) c e t=O is):PS X (.Assign [t] e pos) (cb X.K T S₀ H₀ EX G is):=by
 cases t<;>first|exact nomatch (show U=O is from h)|skip
 case Name x p=>
  obtain⟨i,hx,h⟩:=aH h;unfold JW at h;split at h;split at h;rename_i hz;cases h;unfold DX at hz;split at hz;exact SL xc hx;cases hz;obtain⟨hz,h⟩:=bF h;cases h;unfold isNil at hz;split at hz;exact SJ xc hx;cases hz;obtain⟨y,hy,rfl⟩:=aP h;exact aAU xc hx hy
 case Subscript a i p=>
  obtain⟨j,hj,h⟩:=aH h;obtain⟨k,hkk,h⟩:=aH h;obtain⟨y,hy,rfl⟩:=aP h;obtain⟨x,p1,rfl,hs⟩:=fS hj;exact aAZ xc hs hkk hy
 case Tuple ts k p=>
  have h:zT (cE n c) c ts e=O is:=h;unfold zT at h;cases I:tupP e with
  |some q=>rw[I]at h;exact nomatch (show U=O is from h)
  |none=>rw[I]at h;obtain⟨is',his,h⟩:=aH h;obtain⟨u,hu,rfl⟩:=aP h;refine SI xc his hu λvs k p z=>?_;subst z;exact nomatch (show O _=U from I)
def aAY(xc:XC CX X c G T lv)(xs:XS CX T X c EX){is:IS}(h:rdR (cE n c) c e=O is):PS X (.Return (O e) pos) (cb X.K T S₀ H₀ EX G is):=by obtain⟨y,hy,rfl⟩:=aP h;exact aAX xc hy
def GU(I:ZG CX G T lv S₀ H₀ EX n):aDO CX G T lv S₀ H₀ EX (n+1):=by
 intro X c st is xc xs h;cases st<;>first|exact nomatch (show U=O is from h)|skip
 case Pass q=>cases (show O IS.nop=O is from h);exact SN
 case Return v q=>
  cases v with
  |none=>exact nomatch (show U=O is from h)
  |some e=>
   have h:(match eK c e with|some i=>O (IS.σ i)|none=>rdR (cE n c) c e)=O is:=h;cases hm:eK c e with
   |some i=>rw[hm]at h;cases h;obtain⟨x,p,rfl,hs⟩:=fS hm;exact SM xc hs
   |none=>rw[hm]at h;exact aAY xc xs h
 case Assign ts e q=>
  obtain⟨t,ht,h⟩:=aH h;obtain rfl:=bZ ht;exact aBd xc xs h
 case If t a b q=>
  obtain⟨u,hu,h⟩:=aH h;obtain⟨v,hv,h⟩:=aH h;obtain⟨w,hw,rfl⟩:=aP h;exact aEC xc hu (I X _ a v xc xs hv) (I X _ b w xc xs hw)
 case For tg iter body qu q=>
  obtain⟨he,h⟩:=bF h;obtain rfl:=lV he;obtain⟨⟨bj,tp⟩,dO,h⟩:=aH h;obtain⟨⟨k,src⟩,hk,h⟩:=aH h;obtain⟨z,h⟩:=bF h;have mh:RQ k tg:=SG dO z;obtain⟨v,hv,rfl⟩:=aP h;exact aBb xc xs dO hk mh (I X _ body v xc xs hv)
 case Expr e q=>
  have h:(match YR c e with|some q=>(cE n c q.2).map λx=>IS.ext q.1 x|none=>aEW (cE n c) c e)=O is:=h;cases hx:YR c e with
  |some r=>rw[hx]at h;obtain⟨u,hu,rfl⟩:=aP h;obtain⟨x,p1,p2,p,rfl,hs,hp⟩:=II hx;exact aBc xc hs hp hu
  |none=>
  rw[hx]at h;have h:(match ZD c e with|some q=>(cE n c q.2).map λx=>IS.app q.1 x|none=>zV (cE n c) c e)=O is:=h;cases ha:ZD c e with
  |some r=>rw[ha]at h;obtain⟨u,hu,rfl⟩:=aP h;obtain⟨x,p1,p2,p,rfl,hs,hp⟩:=IU ha;exact aBe xc hs hp hu
  |none=>rw[ha]at h;exact JJ xc h
 case Raise e f q=>
  obtain⟨e',he,h⟩:=aH h;obtain⟨r,h1,h⟩:=aH h;obtain⟨x,h2,h⟩:=aH h;obtain⟨a,h3,h⟩:=aH h;obtain⟨m,h4,h⟩:=aH h;obtain⟨h5,h⟩:=bF h;obtain⟨h5,h8⟩:=dB h5;obtain⟨h5,h7⟩:=dB h5;obtain⟨h5,h6⟩:=dB h5;cases h;obtain⟨j,p',ea⟩:=GA h4;rw[he,Option.isNone_iff_eq_none.mp h5,eS h1,dA h2,bZ h3,lV h6,ea];exact aAW xs h7 h8
 case Try b hs qu fin q=>
  obtain⟨h0,h⟩:=bF h;obtain⟨h1,h2⟩:=dB h0;obtain rfl:=lV h1;obtain rfl:=lV h2;match hs,h with
  |[.ExceptHandler ty U body hp],h=>obtain⟨s,a1,h⟩:=aH h;obtain⟨e,a2,h⟩:=aH h;obtain⟨r,a3,h⟩:=aH h;obtain⟨ty',a4,h⟩:=aH h;obtain⟨x,a5,h⟩:=aH h;obtain⟨s',a6,h⟩:=aH h;obtain⟨re,a7,h⟩:=aH h;obtain⟨re',a8,h⟩:=aH h;obtain⟨hg,h⟩:=bF h;obtain⟨rr,hr,h⟩:=aH h;obtain⟨u,hu,rfl⟩:=aP h;obtain⟨j,p,er⟩:=BS hr;have e3:=eS a3;rw[e3]at hu;rw[bZ a1,QE a2,a4,dA a5,bZ a6,GJ a7,a8,e3,er];exact aAT xc xs hg hu
def GV(z:aDO CX G T lv S₀ H₀ EX n)(I:ZG CX G T lv S₀ H₀ EX n):ZG CX G T lv S₀ H₀ EX (n+1):=by intro X c st is xc xs h;rcases st with _|⟨s,_|⟨s2,r⟩⟩;cases (show O IS.nop=O is from h);exact aBa;exact jW (z X c s is xc xs h);obtain⟨u,hu,h⟩:=aH h;obtain⟨v,hv,rfl⟩:=aP h;exact aAV (z X c s u xc xs hu) (I X c (s2::r) v xc xs hv)
theorem iD:∀n,aDO CX G T lv S₀ H₀ EX n/\ZG CX G T lv S₀ H₀ EX n
 | 0=>⟨λX c st is xc xs h=>(nomatch (show U=O is from h)),λX c st is xc xs h=>(nomatch (show U=O is from h))⟩
 |n+1=>⟨GU (iD n).2,GV (iD n).1 (iD n).2⟩
variable {CX:ar}{G:GS}{T:Tx}{lv:Nat}
noncomputable def gN(n:Nat)(ds:List D):List Sl:=ds.map .im++List.replicate (n-ds.length) .un
def lF{ds:List D}{vs:List V}(dom:∀a,S a->∃o,H a=O o)(rl:aD K T H S ds vs):SInv K T S H S (gN N.length ds) (L2.start N vs) H:=by
 have hl:=rl.len;have I:∀(i:Nat) xs,(gN N.length ds)[i]?≠O (.mu xs):=λi xs e=>by
  unfold gN at e;by_cases h:i<(ds.map Sl.im).length;rw[vt h,sv]at e;cases h2:ds[i]? with
  |none=>rw[h2]at e;cases e
  |some d=>rw[h2]at e;cases e
  rw[vx yx,List.getElem?_replicate]at e;split at e<;>cases e
 refine⟨⟨dom,by simp[gN,L2.start,hl],λi s e=>?_⟩,dom,λ_ z=>z,aJ.refl H,λi j xs ys p h=>absurd h (I i xs),λi xs p h=>absurd h (I i xs)⟩;unfold gN at e;unfold L2.start;by_cases h:i<(ds.map Sl.im).length;rw[vt h,sv]at e;cases h2:ds[i]? with
 |none=>rw[h2]at e;cases e
 |some d=>rw[h2]at e;cases e;obtain⟨v,h3,r⟩:=rl.get h2;exact⟨v,by rw[vt (by rw[t8]at h ⊢;lia),sv,h3];rfl,r⟩
 rw[vx yx,List.getElem?_replicate]at e;split at e;cases e;trivial;cases e
def xO(k:Option NameKind):vX k k:=by
 cases k with
 |none=>trivial
 |some k=>cases k<;>first|rfl|trivial|exact .inl rfl
def kN(c:CC)(sc:Scope):Bool:=c.N.all (λx=>!(x == ("__debug__":Str))&&!(x == ("__classdict__":Str)))&&!(bE c "__debug__")
def zF{P:wg}{mg:wm}{base:Heap}{f:Addr}{cd:Value}{outer:List Env}{E:XK}(hN:c.N=N)(z:c.sc=sc)(fs:ai N ps sc)(hk:kN c sc=Y) (hr:Room lv (A.deeper (envOfC qual sc s.heap.objs.size f cd))) (go:om CX (nA CX P w K mg base N qual sc f cd A outer s H E).nox c G T lv):XC CX (nA CX P w K mg base N qual sc f cd A outer s H E).nox c G T lv:=by unfold kN at hk;rw[u3,all_eq_true]at hk;refine⟨hN.symm,by rw[hN];exact fs.nd,λx=>?_,λ_ _=>rfl,λx hx=>?_,?_,rfl,hr,go⟩;rw[z];exact xO _;have:=hk.1 x hx;simpa using this;simpa using hk.2
def aDh{P:wg}{mg:wm}{base:Heap}{st:Stmt}{f:Addr}{ir:IS}(F:Fun K x qual st f fd)(fs:ai N ps (aF st))(hN:c.N=N)(k7:c.sc=aF st)(hk:kN c (aF st)=Y) (i3:jv n c (bD st)=O ir) (go:∀(X:Cx),X.prog=P->X.w=w->X.K=K->X.mg=mg->X.base=base->om (dY P w) X c G T lv):FnOk P w K mg base (dY P w) (lv+1) f fd ps (ik K T ps.length (λds=>bC G N.length ir ds)):=by
 obtain⟨oc,od,kV,doc,pm,an,aT,ct,kl,rfl,lk,gq⟩:=F.ex;refine NH lk gq fs (λvs H Q E h=>h.1) λA outer s H vs Q E hr bg=>?_;obtain⟨hlen,S,ds,dom,rl,z⟩:=bg;have xc:XC (dY P w) (nA (dY P w) P w K mg base N qual (aF st) f aT A outer s H E) c G T lv:=(zF (CX:=dY P w) (E:=E) (P:=P) (w:=w) (mg:=mg) (base:=base) (outer:=outer) (s:=s) (H:=H) (f:=f) (cd:=aT) (qual:=qual) hN k7 fs hk hr (go _ rfl rfl rfl rfl rfl)).re rfl rfl rfl rfl rfl rfl rfl rfl rfl rfl;have xs:XS (dY P w) T (nA (dY P w) P w K mg base N qual (aF st) f aT A outer s H E) c (λk H'=>∃C,T.xc k=O C/\E (.ref C) U H'):=by refine⟨PassesOwn.leaving,λy m j p p' q pos hg hc=>?_,rfl,rfl⟩;rintro pins s1 M H1 D I ⟨C,hT,hE⟩;exact wZ (W:=λH'=>E (.ref C) U H') rfl (xc.glob hg) (xc.gne hg) (xc.go.xcl y C hT) (xc.go.xk y C hT) (λpins M H s h' e vs I hm hE=>pK I hm hE) pins s1 M H1 D I hE
 refine⟨_,(iD (S₀:=S) (H₀:=H) n).2 _ c _ ir xc xs i3,?_⟩;have hs:gN N.length ds=ds.map .im++List.replicate (N.length-ds.length) .un:=rfl;rcases z with ⟨d,hd,q⟩|⟨e,C,he,hT,q⟩;dsimp only at hd;unfold bC at hd;rw[<-hs]at hd;split at hd;rename_i d' ho;cases hd;exact⟨_,_,S,ho,lF dom rl,q⟩;rename_i B' ho;cases hd;exact⟨_,_,S,ho,lF dom rl,λS' M' H' si mv=>q .non H' si.same (by unfold Rep;rfl)⟩;cases hd;cases hd;dsimp only at he;unfold bC at he;rw[<-hs]at he;split at he;cases he;cases he;rename_i k ho;cases he;exact⟨_,_,S,ho,lF dom rl,λH' sm=>⟨C,hT,q H' sm⟩⟩;cases he
structure Nm where
 fns:List Str
 cls:List Str
 csts:List Str
noncomputable def Nm.cc(m:Nm)(N:List Str)(sc:Scope)(mus:List Str):CC:=⟨N,sc,m.fns,m.cls,m.csts,mus⟩
def MOk(P:wg)(w:World)(K:wc)(mg:wm)(base:Heap)(CX:ar)(m:Nm)(G:GS)(T:Tx)(lv:Nat):Prop:=∀(X:Cx) (c:CC),X.prog=P->X.w=w->X.K=K->X.mg=mg->X.base=base->c.fns=m.fns->c.cls=m.cls->c.csts=m.csts->om CX X c G T lv
noncomputable def Nm.addF(m:Nm)(x:Str):Nm:={m with fns:=x::m.fns}
noncomputable def GS.addF(G:GS)(x:Str)(g:List D->Option Rs):GS:={G with fn:=λy=>if y=x then g else G.fn y}
section
variable {P:wg}{w:World}{K:wc}{mg:wm}{base:Heap}{CX:ar}{m:Nm}{G:GS}{T:Tx}{lv:Nat}
theorem contains_cons{y:Str}{l:List Str}:(x::l).contains y=Y->y=x\/l.contains y=Y:=λh=>by rw[List.contains_cons,or_eq_true,uw]at h;exact h
theorem MOk.addF(h:MOk P w K mg base CX m G T lv){f:Addr}{g:List D->Option Rs} (hm:mg x=O (.ref f)) (hk:keepIn K (.ref f)=Y) (hb:Binds K fd ps []) (hl:∀ds r,g ds=O r->ds.length=ps.length) (F:FnOk P w K mg base CX (lv+1) f fd ps (ik K T ps.length g)):MOk P w K mg base CX (m.addF x) (G.addF x g) T (lv+1):=by intro X c e1 e2 e3 e4 e5 e6 e7 e8;subst e1 e2 e3 e4 e5;have o:=h X {c with fns:=m.fns} rfl rfl rfl rfl rfl rfl e7 e8;refine⟨λy hy=>?_,λcn C mm ds r hT hr=>?_,o.cls,o.fld,λy hy ds d hd=>?_,λy d hd hc=>o.cst y d hd hc,λy hy h1 h2=>?_,o.xcl,o.cx0,o.cxf,o.xns,o.xk,o.sub,o.dk⟩;rw[e6]at hy;by_cases e:y=x;subst e;simp only[GS.addF,if_true];exact⟨f,fd,ps,hm,hk,hb,hl,F⟩;rcases contains_cons hy with z|z;exact absurd z e;obtain⟨I,c7,cx,a1,a2,a3,a4,a5⟩:=o.fn y z;simp only[GS.addF,if_neg e];exact⟨I,c7,cx,a1,a2,a3,a4,a5.mono (vh _)⟩;obtain⟨I,c7,cx,a1,a2,a3,a4⟩:=o.me cn C mm ds r hT hr;exact⟨I,c7,cx,a1,a2,a3,a4.mono (vh _)⟩;obtain⟨C,I,c7,cx,j,a1,a2⟩:=o.mo y hy ds d hd;exact⟨C,I,c7,cx,j,le_succ_of_le a1,a2⟩;refine o.bi y hy ?_ h2;rw[e6]at h1;rw[Nm.addF,List.contains_cons,Bool.or_eq_false_iff]at h1;exact h1.2
noncomputable def GS.addM(G:GS)(cn x:Str)(g:List D->Option Rs):GS:={G with me:=λc y=>if c=cn/\y=x then g else G.me c y}
theorem MOk.addM(h:MOk P w K mg base CX m G T lv){cn:Str}{f:Addr}{g:List D->Option Rs} (hT:T.cl cn=O C) (hm:iF K C x f) (hb:Binds K fd ps []) (hl:∀ds r,g ds=O r->ds.length=ps.length) (F:FnOk P w K mg base CX (lv+1) f fd ps (ik K T ps.length g)):MOk P w K mg base CX m (G.addM cn x g) T (lv+1):=by intro X c e1 e2 e3 e4 e5 e6 e7 e8;subst e1 e2 e3 e4 e5;have o:=h X c rfl rfl rfl rfl rfl e6 e7 e8;refine⟨λy hy=>?_,λcn' C' mm ds r z hr=>?_,o.cls,o.fld,λy hy ds d hd=>?_,λy d hd hc=>o.cst y d hd hc,λy hy h1 h2=>o.bi y hy h1 h2,o.xcl,o.cx0,o.cxf,o.xns,o.xk,o.sub,o.dk⟩;obtain⟨I,c7,cx,a1,a2,a3,a4,a5⟩:=o.fn y hy;exact⟨I,c7,cx,a1,a2,a3,a4,a5.mono (vh _)⟩;by_cases e:cn'=cn/\mm=x;obtain⟨rfl,rfl⟩:=e;rw[hT]at z;cases z;simp only[GS.addM,and_self,if_true];exact⟨f,fd,ps,hm,hb,hl,F⟩;simp only[GS.addM,e,if_false]at hr ⊢;obtain⟨I,c7,cx,a1,a2,a3,a4⟩:=o.me cn' C' mm ds r z hr;exact⟨I,c7,cx,a1,a2,a3,a4.mono (vh _)⟩;obtain⟨C,I,c7,cx,j,a1,a2⟩:=o.mo y hy ds d hd;exact⟨C,I,c7,cx,j,le_succ_of_le a1,a2⟩
def AM{o:Option Rs}{r:Rs}{ds:List D}(h:(if ds.length=n then o else U)=O r):ds.length=n:=by by_cases e:ds.length=n;exact e;rw[if_neg e]at h;cases h
def MOk.defF(h:MOk P w K mg base (dY P w) m G T lv){st:Stmt}{f:Addr}{mus:List Str}{ir:IS}(hm:mg x=O (.ref f))(hb:Binds K fd ps []) (F:Fun K x x st f fd) (fs:ai N ps (aF st)) (hk:kN (m.cc N (aF st) mus) (aF st)=Y) (i3:jv n (m.cc N (aF st) mus) (bD st)=O ir):MOk P w K mg base (dY P w) (m.addF x) (G.addF x λds=>if ds.length=ps.length then bC G N.length ir ds else U) T (lv+1):=by
 refine h.addF hm F.kp hb (λds r hr=>AM hr) ?_;have G1:=aDh (P:=P) (w:=w) (mg:=mg) (base:=base) (T:=T) (lv:=lv) F fs (c:=m.cc N (aF st) mus) rfl rfl hk i3 (λX a1 a2 a3 a4 a5=>h X _ a1 a2 a3 a4 a5 rfl rfl rfl);refine⟨λvs H Q E h=>h.1,λA outer s H args us vs Q E hr e0 I hv bg=>G1.run A outer s H args us vs Q E hr e0 I hv ?_⟩;obtain⟨h1,S,ds,dom,z,hc⟩:=bg;refine⟨h1,S,ds,dom,z,?_⟩;have el:ds.length=ps.length:=by rw[z.len];exact h1
 dsimp only at hc;rw[if_pos el]at hc;exact hc
def MOk.defM(h:MOk P w K mg base (dY P w) m G T lv){cn:Str}{st:Stmt}{f:Addr}{mus:List Str}{ir:IS}(hT:T.cl cn=O C)(hm:iF K C x f)(hb:Binds K fd ps []) (F:Fun K x qual st f fd) (fs:ai N ps (aF st)) (hk:kN (m.cc N (aF st) mus) (aF st)=Y) (i3:jv n (m.cc N (aF st) mus) (bD st)=O ir):MOk P w K mg base (dY P w) m (G.addM cn x λds=>if ds.length=ps.length then bC G N.length ir ds else U) T (lv+1):=by
 refine h.addM hT hm hb (λds r hr=>AM hr) ?_;have G1:=aDh (P:=P) (w:=w) (mg:=mg) (base:=base) (T:=T) (lv:=lv) F fs (c:=m.cc N (aF st) mus) rfl rfl hk i3 (λX a1 a2 a3 a4 a5=>h X _ a1 a2 a3 a4 a5 rfl rfl rfl);refine⟨λvs H Q E h=>h.1,λA outer s H args us vs Q E hr e0 I hv bg=>G1.run A outer s H args us vs Q E hr e0 I hv ?_⟩;obtain⟨h1,S,ds,dom,z,hc⟩:=bg;refine⟨h1,S,ds,dom,z,?_⟩;have el:ds.length=ps.length:=by rw[z.len];exact h1
 dsimp only at hc;rw[if_pos el]at hc;exact hc
end
end Z
namespace L2
open PySem PySem.Spec PyProof.Rows
section
variable {X:Cx}{pins:wk}{M:St}{H:Hp}{s:Shared}{A:Around}{E:wj}{a:Addr}{kvs:List (Key×V)}{k:Key}{u:Value}
def QT{v:V}{r:Value}{Q:wj}(I:Inv X pins M H s)(e:H a=O (.dK kvs))(hl:kvs.length<sizeLine)(ry:RelV (kV k) u)(rv:RelV v r) (h1:∀w w' s',gE kvs k=O w->Inv X pins M H s'->RelV w w'->Q w' s') (h2:gE kvs k=U->∀s',Inv X pins M (upd H a (.dK (putK kvs k v))) s'->Q r s'):wpAny (model X.prog X.w) A (call (.builtin "dict.setdefault") [.ref a,u,r]) Q E s:=by
 obtain⟨z,hd,vs,rel,dd⟩:=qG I.hok e;have hz:vs.length<=sizeLine:=by rw[<-rel.length];exact z
 have fw:(putK kvs k v).length<=sizeLine:=by have:=nL kvs k v;lia
 refine call_meetsIn PySem.F.slot_dict_setdefault dd.typeIs PySem.F.entry_dict_setdefault (PySem.F.args_dict_setdefault_3 _ _ _) (PySem.kt_meets_setdefault (bV X.prog X.w) a (DQ ry) hd r) ⟨vs,dd,hz,λw' hw=>?_,λhn h' l0 hs=>?_⟩;cases l:gE kvs k with
 |some w=>obtain⟨w2,pk,cW⟩:=iX.some_of (v:=w) (o:=valueAt vs k) (by rw[<-l];exact rel.val k);rw[hw]at pk;cases pk;exact h1 w w' _ l (I.tok _) cW
 |none=>have:=iX.none_of (o:=valueAt vs k) (by rw[<-l];exact rel.val k);rw[hw]at this;cases this
 have he:∃q,h'.get? a=O q:=let ⟨q,_,_,hq,_⟩:=l0;⟨q,hq⟩
 have l:gE kvs k=U:=by
  cases l:gE kvs k with
  |none=>rfl
  |some w=>obtain⟨w2,pk,_⟩:=iX.some_of (v:=w) (o:=valueAt vs k) (by rw[<-l];exact rel.val k);rw[hn]at pk;cases pk
 exact h2 l _ (FC I (by rw[e];exact True.intro) hs he (QP fw hd (rel.put k rv) l0))
end
section
variable {X:Cx}{pins:wk}{M:St}{H:Hp}{s:Shared}{A:Around}{E:wj}{a:Addr}{kvs:List (Key×V)}
def XW:∀{kvs:List (Key×V)} {vs:List (Key×Value)},KV kvs vs->∀(i:Nat) (y:V) (k:Key) (u:Value),(kvs.map (·.2))[i]?=O y->vs[i]?=O (k,u)->RelV y u:=by
 intro kvs vs h;induction h with
 |nil=>intro i y k u e;simp at e
 |cons a b z=>
  intro i y k u e f;cases i with
  |zero=>simp at e f;obtain⟨rfl,rfl⟩:=f;subst e;exact a.2
  |succ i=>exact z i y k u (by simpa using e) (by simpa using f)
def vM{Q:wj}(I:Inv X pins M H s)(hh:A.handled=U)(e:H a=O (.dK kvs))(h:∀(s':Shared) (p:Addr),H p=U->Inv X pins M (upd H p (.lst (kvs.map (·.2)))) s'->Q (.ref p) s'):wpAny (model X.prog X.w) A (call (.builtin "dict.values") [.ref a]) (λu s1=>wpAny (model X.prog X.w) A (call (.type "list") [u]) Q E s1) E s:=by
 obtain⟨z,hd,vs,rel,dd⟩:=qG I.hok e;refine call_meetsIn PySem.F.slot_dict_values dd.typeIs PySem.F.entry_dict_values (PySem.F.args_dict_values_1 _) (meets_dict_values (bV X.prog X.w) a hd) ⟨⟨vs,dd⟩,?_⟩;generalize gg:({s with heap:=s.heap.push {cls:=.type "dict_values",data:=.fields #[.ref a]} }:Shared)=s2;have I2:Inv X pins M H s2:=by subst gg;exact I.kept (t':=s.toks) λb o e=>tm _ e
 obtain⟨z2,hd2,vs2,rel2,lu⟩:=qG I2.hok e;obtain⟨ep,hat⟩:=lu.dictAt;have hv:s2.heap.IsValuesView s.heap.objs.size a:=by subst gg;exact⟨_,ve _ rfl,rfl,rfl⟩
 show wpAny _ _ (call (.type "list") [.ref s.heap.objs.size]) Q E _;first|rw[gg]|skip
 refine PySem.W.kdl_call (PySem.W.kdl_values (knd:=bV X.prog X.w) (kvs:=vs2) (ep:=ep)) hh ⟨hv,hat⟩ (by rw[<-rel2.length];exact z2) λh' tk c8 c' hk jh dr=>?_;have cu:H s2.heap.objs.size=U:=I2.hok.fresh (t9 _);refine h _ _ cu (I2.laid (λb u e=>hk b u e) (t9 _) ⟨by rw[t8];exact z2,c8.toList,c',?_,by rw[jh]⟩);refine Z.tT (by rw[t8,rel2.length];simp[dr.1]) λi y u e f=>?_;obtain⟨k,hk⟩:=dr.2 i u (by simpa using f);exact XW rel2 i y k u e hk
def qY{i:Nat}{x:Str}{p ap pos p2 iq:Pos}(hc:X.calm=Y)(hx:PE X (.Name x p) (aAQ i))(ff:Gl X "list")(p4:X.mg "list"=U)(hline:(ap.endLine == pos.line)=Y):PE X (.Call (.Name "list" p2) [.Call (.Attribute (.Name x p) "values" ap) [] [] pos] [] iq) (λM H Q=>∃a kvs,M[i]?=O (O (.ref a))/\H a=O (.dK kvs)/\∀q,H q=U->Q (.ref q) (upd H q (.lst (kvs.map (·.2))))):=by intro pins s M H Q I ⟨a,kvs,e1,e2,q⟩;refine Call_ (fH I ff p4 Z.oK (uj (Calls.spliced_cons (wpAny_Call_method0_late rfl hline (ah (hx pins s M H (λv H'=>v=.ref a/\H'=H) I ⟨.ref a,e1,rfl,rfl⟩) λu s1 ⟨v,H1,I1,rv,ev,eH⟩=>?_))) rfl rfl));subst ev eH;obtain rfl:u=Value.ref a:=rv;obtain⟨h1,h2⟩:=JB (T:="dict") (x:=.ref a) (v:=.ref a) I1 rfl (.inr (.inr (.inl ⟨rfl,.inl ⟨kvs,e2⟩⟩)));exact⟨"dict","dict.values",PySem.F.plainAttrs_dict,PySem.F.slot_dict_values,PySem.F.type_dict_values,h1,h2,Calls.callWith_builtin rfl (PySem.evalArgs_none (vd (vM I1 (I1.ok.hd hc) e2 λs' p hp I'=>⟨.ref p,_,I',rfl,q p hp⟩) (λu s1 h=>Calls.spliced_nil h) λ_ _ z=>z))⟩
def TN:V->List V->Hp->VK->Prop:=λx xs H Q=>∃a kvs k v,x=.ref a/\xs=[kV k,v]/\H a=O (.dK kvs)/\kvs.length<sizeLine/\(∀w,gE kvs k=O w->Q w H)/\(gE kvs k=U->Q v (upd H a (.dK (putK kvs k v))))
def HB:rq X "dict.setdefault" TN:=by
 rintro pins s M H x xs v us Q I rx z ⟨a,kvs,k,w,rfl,rfl,e,hl,h1,h2⟩;obtain rfl:v=Value.ref a:=rx;cases z with
 |cons r1 z=>
  cases z with
  |cons r2 z=>cases z;exact QT I e hl r1 r2 (λw w' s' l I' cW=>⟨w,H,I',cW,h1 w l⟩) λl s' I'=>⟨_,_,I',r2,h2 l⟩
end
end L2
namespace Z
open PySem PySem.Spec PyProof.Rows L2
variable {as:List Addr}{h:Int}{c m n r:Nat}{is:List Int}{H:Hp}{gs:List (Int×List Int)}{kvs:List (Key×V)}{p:D}{K:wc}{S:Addr->Prop}{lv:Bool}{x:Str}{B:List Sl}
noncomputable def dI(h c:Int):List (Int×List Int)->List (Int×List Int)
 |[]=>[(h,[c])]
 |g::r=>if g.1=h then(g.1,g.2++[c])::r else g::dI h c r
noncomputable def mV(is:List Int):Nat->List (Int×List Int)
 | 0=>[]
 |i+1=>match is[i]? with
  |some h=>dI h i (mV is i)
  |none=>mV is i
def mJ{a b:Addr}(m:b∈as)(n:a∉as):b≠a:=λz=>n (by rw[<-z];exact m)
theorem pT{h c:Int}:∀{gs:List (Int×List Int)},(dI h c gs).length<=gs.length+1
 |[]=>t9 _
 |g::r=>by unfold dI;split;simp;have:=pT (h:=h) (c:=c) (gs:=r);simp only[vm];lia
theorem pU{is:List Int}:∀i,(mV is i).length<=i
 | 0=>t9 _
 |i+1=>by unfold mV;split;have:=pU (is:=is) i;exact ug pT yx;have:=pU (is:=is) i;lia
inductive GR (H:Hp):List (Int×List Int)->List (Key×V)->List Addr->Prop
 |nil:GR H [] [] []
 |cons {k:Int} {cs:List Int} {gs:List (Int×List Int)} {kvs:List (Key×V)} {a:Addr} {as:List Addr} (h:H a=O (.lst (cs.map .int))) (n:a∉as) (r:GR H gs kvs as):GR H ((k,cs)::gs) ((Sum.inl k,.ref a)::kvs) (a::as)
def GR.frame{H':Hp}:∀{gs kvs as},GR H gs kvs as->(∀a∈as,∀o,H a=O o->H' a=O o)->GR H' gs kvs as:=by
 intro gs kvs as h;induction h with
 |nil=>intro _;exact .nil
 |cons h n r z=>exactλf=>.cons (f _ vi _ h) n (z λa m=>f a (tw _ m))
def GR.len(h:GR H gs kvs as):kvs.length=gs.length:=by
 induction h with
 |nil=>rfl
 |cons _ _ _ z=>simp[z]
def GR.vals(h:GR H gs kvs as):kvs.map (·.2)=as.map .ref:=by
 induction h with
 |nil=>rfl
 |cons _ _ _ z=>simp[z]
def GR.mem(h:GR H gs kvs as):∀a∈as,∃o,H a=O o:=by
 induction h with
 |nil=>intro a m;cases m
 |cons h _ _ z=>intro a m;rcases ui.mp m with rfl|m;exact⟨_,h⟩;exact z a m
def GR.hit{w:V}(g:GR H gs kvs as)(e:gE kvs (Sum.inl h)=O w):∃(a:Addr) (cs:List Int),w=.ref a/\a∈as/\H a=O (.lst (cs.map .int))/\cs∈gs.map (·.2)/\∀c,GR (upd H a (.lst ((cs.map .int)++[.int c]))) (dI h c gs) kvs as:=by
 induction g with
 |nil=>cases e
 |cons hh n r ih=>rename_i k cs gs kvs a as;by_cases ek:k=h;subst ek;rw[gT (p:=((Sum.inl k:Key),V.ref a)) rfl]at e;cases e;refine⟨a,cs,rfl,vi,hh,vi,λc=>?_⟩;unfold dI;rw[if_pos rfl];refine .cons (by rw[aS,vn];rfl) n (r.frame λb m o q=>?_);rw[aM (mJ m n)];exact q;rw[gU (p:=((Sum.inl k:Key),V.ref a)) (λz=>ek (Sum.inl.inj z))]at e;obtain⟨b,I,e1,m,q,mc,f⟩:=ih e;refine⟨b,I,e1,tw _ m,q,tw _ mc,λc=>?_⟩;unfold dI;rw[if_neg ek];exact .cons (by rw[aM (mJ m n).symm];exact hh) n (f c)
def GR.miss{c:Int}{p:Addr}(g:GR H gs kvs as)(e:gE kvs (Sum.inl h)=U)(hp:H p=O (.lst [.int c]))(np:p∉as):GR H (dI h c gs) (kvs++[(Sum.inl h,.ref p)]) (as++[p]):=by
 induction g with
 |nil=>exact .cons hp y9 .nil
 |cons hh n r I=>
  rename_i k cs gs kvs a as;have ek:¬k=h:=λz=>by subst z;rw[gT (p:=((Sum.inl k:Key),V.ref a)) rfl]at e;cases e
  rw[gU (p:=((Sum.inl k:Key),V.ref a)) (λz=>ek (Sum.inl.inj z))]at e;unfold dI;rw[if_neg ek];refine .cons hh (λm=>?_) (I e λm=>np (tw _ m));rcases wb.mp m with m|m;exact n m;exact np (by rw[<-uh.mp m];exact vi)
inductive GL (H:Hp):List (List Int)->List Addr->Prop
 |nil:GL H [] []
 |cons {cs:List Int} {gs:List (List Int)} {a:Addr} {as:List Addr} (h:H a=O (.lst (cs.map .int))) (n:a∉as) (r:GL H gs as):GL H (cs::gs) (a::as)
def GR.gl(h:GR H gs kvs as):GL H (gs.map (·.2)) as:=by
 induction h with
 |nil=>exact .nil
 |cons h n _ z=>exact .cons h n z
noncomputable def j6(g:List Int):D:=.lst (g.map .int)
theorem tX{K:wc}{T:Tx}{H:Hp}{S:Addr->Prop}:∀is:List Int,aD K T H S (is.map D.int) (is.map V.int)
 |[]=>aD.nil
 |i::is=>aD.cons (by unfold Rep;rfl) (tX is)
theorem DZ{K:wc}{T:Tx}{H:Hp}{S:Addr->Prop}:∀{is:List Int} {xs:List V},aD K T H S (is.map D.int) xs->xs=is.map V.int
 |[],xs,h=>by unfold aD at h;exact h
 |i::is,xs,h=>by rw[uu]at h;unfold aD at h;obtain⟨x,r,rfl,h1,h2⟩:=h;unfold Rep at h1;rw[h1,DZ h2];rfl
def GL.rep{T:Tx}{gs:List (List Int)}(h:GL H gs as):(∀a∈as,¬S a)->aD K T H S (gs.map j6) (as.map .ref):=by
 induction h with
 |nil=>intro _;exact aD.nil
 |cons h _ _ z=>intro f;refine aD.cons ?_ (z λa m=>f a (tw _ m));unfold j6 Rep;exact⟨_,_,rfl,f _ vi,h,tX _⟩
noncomputable def uA(p:Nat->Pos):List Stmt:=[.For (.Tuple [.Name "cell" (p 0),.Name "head" (p 1)] 0 (p 2)) (.Call (.Name "enumerate" (p 3)) [.Name "least" (p 4)] [] (p 5)) [.Expr (.Call (.Attribute (.Call (.Attribute (.Name "groups" (p 6)) "setdefault" (p 7)) [.Name "head" (p 8),.List [] (p 9)] [] (p 10)) "append" (p 11)) [.Name "cell" (p 12)] [] (p 13)) (p 14)] [] (p 15),.Return (O (.Call (.Name "list" (p 16)) [.Call (.Attribute (.Name "groups" (p 17)) "values" (p 18)) [] [] (p 19)] [] (p 20))) (p 21)]
structure rg (c:CC) (p:Nat->Pos):Prop where
 least:bJ c "least"=O 1
 groups:bJ c "groups"=O 3
 cell:bJ c "cell"=O 4
 head:bJ c "head"=O 5
 tg:cX c (.Tuple [.Name "cell" (p 0),.Name "head" (p 1)] 0 (p 2))=O ([4,5],Y)
 en:bE c "enumerate"=Y
 li:bE c "list"=Y
 en1:c.fns.contains "enumerate"=J
 en2:c.cls.contains "enumerate"=J
 li1:c.fns.contains "list"=J
 li2:c.cls.contains "list"=J
 l1:((p 7).endLine == (p 10).line)=Y
 l2:((p 11).endLine == (p 13).line)=Y
 l3:((p 18).endLine == (p 19).line)=Y
section
variable {CX:ar}{G:GS}{T:Tx}{lv:Nat}{X:Cx}{c:CC}{p:Nat->Pos}
def aEu:TS:=λD M H=>∃(g:Addr) (gs:List (Int×List Int)) (kvs:List (Key×V)) (as:List Addr) (i:Nat) (h:Int),M[3]?=O (O (.ref g))/\M[4]?=O (O (.int i))/\M[5]?=O (O (.int h))/\H g=O (.dK kvs)/\GR H gs kvs as/\g∉as/\gs.length<=big/\(∀cs∈gs.map (·.2),cs.length<big) /\∀H' I z,(∀b o,b≠g->b∉as->H b=O o->H' b=O o)->(∀b∈z,b∈as\/H b=U)->H' g=O (.dK I)->GR H' (dI h i gs) I z->g∉z->D.nx M H'
def WC(xc:XC CX X c G T lv)(P:rg c p):PSs X [.Expr (.Call (.Attribute (.Call (.Attribute (.Name "groups" (p 6)) "setdefault" (p 7)) [.Name "head" (p 8),.List [] (p 9)] [] (p 10)) "append" (p 11)) [.Name "cell" (p 12)] [] (p 13)) (p 14)] aEu:=by
 refine jW λpins s M H D I ⟨g,gs,kvs,as,i,h,e3,e4,e5,eg,gr,ng,hl,hcs,q⟩=>?_;have b1:big<sizeLine:=by rw[sizeLine_eq];decide
 refine jX (oW plainAttrs_list PySem.F.slot_list_append PySem.F.type_list_append mK (oW PySem.F.plainAttrs_dict PySem.F.slot_dict_setdefault PySem.F.type_dict_setdefault HB (gZ xc P.groups) (eG (gZ xc P.head) (eG (KL gO) gO rfl) rfl) rfl rfl P.l1 rfl rfl) (eG (gZ xc P.cell) gO rfl) rfl rfl P.l2 rfl rfl) rfl pins s M H D I ?_;refine⟨.ref g,e3,.inr (.inr (.inl ⟨rfl,.inl ⟨kvs,eg⟩⟩)),.int h,e5,⟨vz _,λn hn=>?_⟩⟩;have gn:g≠n:=aQ eg hn;have na:n∉as:=λm=>by obtain⟨o,z⟩:=gr.mem n m;rw[hn]at z;cases z
 refine⟨g,kvs,Sum.inl h,.ref n,rfl,rfl,by rw[aM gn];exact eg,by rw[gr.len];exact lt_of_le_of_lt hl b1,λw hw=>?_,λhw=>?_⟩;obtain⟨a,cs,rfl,ma,ha,mc,f⟩:=gr.hit hw;have an:a≠n:=aQ ha hn;have ga:g≠a:=(mJ ma ng).symm;refine⟨.inl ⟨rfl,_,SqL.of (by rw[aM an];exact ha)⟩,.int i,e4,a,cs.map .int,.int i,rfl,rfl,by rw[aM an];exact ha,?_,?_⟩;rw[t8];exact Nat.lt_trans (hcs cs mc) b1;refine q _ kvs as (λb o n1 n2 hb=>?_) (λb m=>.inl m) (by rw[aM ga,aM gn];exact eg) ?_ ng;rw[aM (mJ ma n2).symm,aM (aQ hb hn)];exact hb;refine(f i).frame λb m o hb=>?_;by_cases e:b=a;subst e;rw[aS]at hb ⊢;exact hb;rw[aM e]at hb ⊢;rw[aM (aQ hb hn)];exact hb;have np:upd (upd H n (.lst [])) g (.dK (putK kvs (Sum.inl h) (.ref n))) n=O (.lst []):=by rw[aM (Ne.symm gn),aS]
 refine⟨.inl ⟨rfl,_,SqL.of np⟩,.int i,e4,n,[],.int i,rfl,rfl,np,lt_of_le_of_lt (vz _) b1,?_⟩;rw[JZ _ hw];refine q _ (kvs++[(Sum.inl h,.ref n)]) (as++[n]) (λb o n1 n2 hb=>?_) (λb m=>?_) (by rw[aM gn,aS]) ?_ (λm=>?_);rw[aM (aQ hb hn),aM n1,aM (aQ hb hn)];exact hb;rcases wb.mp m with m|m;exact .inl m;rw[uh.mp m];exact .inr hn;refine GR.miss (gr.frame λb m o hb=>?_) hw (by rw[aS];rfl) na;rw[aM (aQ hb hn),aM (mJ m ng),aM (aQ hb hn)];exact hb;rcases wb.mp m with m|m;exact ng m;exact gn (uh.mp m)
end
theorem sO{h c:Int}{m:Nat}:∀{gs:List (Int×List Int)},(∀cs∈gs.map (·.2),cs.length<=m)->∀cs∈(dI h c gs).map (·.2),cs.length<=m+1
 |[],_,cs,k=>by
  have:cs=[c]:=by simpa [dI] using k
  rw[this];exact Nat.succ_le_succ (vz _)
 |g::r,f,cs,k=>by unfold dI at k;split at k;rcases ui.mp k with rfl|k;have:=f g.2 vi;simp only[um,vm,length_nil];lia;exact le_succ_of_le (f cs (tw _ k));rcases ui.mp k with rfl|k;exact le_succ_of_le (f _ vi);exact sO (λcs k=>f cs (tw _ k)) cs k
theorem uX{is:List Int}:∀i,∀cs∈(mV is i).map (·.2),cs.length<=i
 | 0,cs,k=>by cases k
 |i+1,cs,k=>by unfold mV at k;split at k;exact sO (uX i) cs k;exact le_succ_of_le (uX i cs k)
theorem yL:∀{ds:List D} {k i:Nat} {d:D},ds[i]?=O d->(jN k ds)[i]?=O (.tup [.int ((k+i:Nat):Int),d])
 |[],k,i,d,h=>by cases i<;>cases h
 |x::r,k,0,d,h=>by cases h;rfl
 |x::r,k,i+1,d,h=>by have:=yL (ds:=r) (k:=k+1) (i:=i) h;show (jN (k+1) r)[i]?=_;rw[this,show k+1+i=k+(i+1) by lia]
section
variable {CX:ar}{G:GS}{T:Tx}{lv:Nat}{X:Cx}{c:CC}{p:Nat->Pos}{EX:Str->Hp->Prop}
noncomputable def pcR(is:List Int):List Sl:=[.un,.im (.lst (is.map .int)),.un,.un,.un,.un]
def ZU{g a:Addr}{M:L2.St}(hl:M.length=6)(e1:M[1]?=O (O (.ref a)))(I:∃o,H g=O o)(ea:H a=O (.lst (is.map .int)))(ne:a≠g):RE K T H (λb=>b=g) (pcR is) M:=by
 refine⟨λb z=>by rw[z];exact I,hl.symm,λi s e=>?_⟩;match i,e with
 | 0,e=>cases e;trivial
 | 1,e=>cases e;refine⟨_,e1,?_⟩;unfold Rep;exact⟨a,_,rfl,ne,ea,tX is⟩
 | 2,e=>cases e;trivial
 | 3,e=>cases e;trivial
 | 4,e=>cases e;trivial
 | 5,e=>cases e;trivial
 |i+6,e=>cases e
def tPc:TS:=λD M H=>∃(g a:Addr) (is:List Int),M.length=6/\M[1]?=O (O (.ref a))/\M[3]?=O (O (.ref g))/\H a=O (.lst (is.map .int))/\H g=O (.dK [])/\is.length<big /\∀q as H',(∀b o,b≠g->H b=O o->H' b=O o)->H q=U->H' q=O (.lst (as.map .ref))->GL H' ((mV is is.length).map (·.2)) as->(∀x∈as,H x=U/\x≠q)->D.rt (.ref q) H'
def WD(xc:XC CX X c G T lv)(xs:XS CX T X c EX)(P:rg c p):PSs X (uA p) tPc:=by
 intro pins s M H Dn I ⟨g,a,is,hl,e1,e3,ea,eg,hb,q⟩;have nag:a≠g:=λz=>by rw[z,eg]at ea;cases ea
 have me:X.mg "enumerate"=U:=xc.go.bi _ y7 P.en1 P.en2;have ml:X.mg "list"=U:=xc.go.bi _ y7 P.li1 P.li2;have hg:PG X (.Tuple [.Name "cell" (p 0),.Name "head" (p 1)] 0 (p 2)) (gEx X.K T [4,5] Y):=λpins s M H v u Q I r ⟨B,S,ρ1,d,nc,h⟩=>VY xc P.tg nc pins s M H v u Q I r h;have hpa:PA X [.Name "least" (p 4)] (c9 X.K T (λb=>b=g) (pcR is) [.lst (is.map .int)]):=λpos pins s M H Q I ⟨re,q⟩=>eG (ZX (S:=λb=>b=g) (B:=pcR is) xc P.least rfl) gO rfl pos pins s M H Q I ⟨re,λv H' sm r=>q [v] H' sm (aD.cons r aD.nil)⟩;refine gX (KC xs.pass xc.calm (xB (xc.glob P.en) me hpa rfl (ds:=jN 0 (is.map .int)) rfl) hg (WC xc P)) (jW (tZ (qY xc.calm (gZ xc P.groups) (xc.glob P.li) ml P.l3))) pins s M H Dn I ?_;refine⟨ZU hl e1 ⟨_,eg⟩ ea nag,λæ H1 sm jo hlen=>?_⟩;have k1:∀b o,b≠g->H b=O o->H1 b=O o:=λb o _ e=>sm b o e;refine⟨λi m M' H'=>m=is.length-i/\i<=is.length/\M'.length=6/\M'[1]?=O (O (.ref a))/\M'[3]?=O (O (.ref g))/\∃kvs as,H' g=O (.dK kvs)/\GR H' (mV is i) kvs as/\g∉as/\(∀b o,b≠g->H1 b=O o->H' b=O o)/\∀b∈as,H1 b=U,⟨is.length,rfl,vz _,hl,e1,e3,[],[],sm _ _ eg,.nil,y9,λb o _ e=>e,y9⟩,?_⟩;rintro i m M' H' ⟨rfl,hi,fw,e1',e3',kvs,as,qv,gr,ng,kp,fr⟩;have ea':H' a=O (.lst (is.map .int)):=kp a _ nag (sm _ _ ea);obtain⟨o8,o7⟩:=jo H' (λb=>b=g) (λb n _=>⟨n,λo e=>kp b o n e⟩) (λb z=>⟨.dK kvs,by rw[z];exact qv⟩);by_cases c6:i<is.length;refine .inr ?_;have hat:is[i]?=O is[i]:=su c6;have hd:(jN 0 (is.map D.int))[i]?=O (.tup [.int (i:Nat),.int is[i]]):=by have:=yL (k:=0) (i:=i) (ds:=is.map D.int) (d:=.int is[i]) (by rw[sv,hat];rfl);rw[uk]at this;exact this
 obtain⟨jt,hy⟩:=o8 i _ hd;refine⟨jt,λσ2 H2=>σ2.length=6/\σ2[1]?=O (O (.ref a))/\σ2[3]?=O (O (.ref g))/\∃kvs as,H2 g=O (.dK kvs)/\GR H2 (mV is (i+1)) kvs as/\g∉as/\(∀b o,b≠g->H1 b=O o->H2 b=O o)/\∀b∈as,H1 b=U,λσ2 H2 h=>⟨is.length-(i+1),yx,rfl,c6,h⟩,λx H2 oN=>?_⟩;obtain⟨s2,rx⟩:=hy x H2 oN;refine⟨pcR is,λb=>b=g,[.un,.im (.lst (is.map .int)),.un,.un,.im (.int (i:Nat)),.im (.int is[i])],.tup [.int (i:Nat),.int is[i]],rfl,ZU fw e1' ⟨_,s2 _ _ qv⟩ (s2 _ _ ea') nag,rx,λσ3 jx ag=>?_⟩;obtain⟨v4,f4,r4⟩:=jx.at_ 4 _ rfl;obtain⟨v5,f5,r5⟩:=jx.at_ 5 _ rfl;unfold Rep at r4 r5;subst r4 r5;have g1:σ3[1]?=O (O (.ref a)):=(ag 1 y8).trans e1';have g3:σ3[3]?=O (O (.ref g)):=(ag 3 y8).trans e3';refine⟨g,mV is i,kvs,as,i,is[i],g3,f4,f5,s2 _ _ qv,gr.frame λb _ o e=>s2 b o e,ng,?_,λcs k=>?_,λH3 b7 oa kp' new eg3 gr3 ng3=>⟨jx.len.symm,g1,g3,b7,oa,eg3,?_,ng3,λb o n e=>kp' b o n (λm=>by rw[fr b m]at e;cases e) (s2 b o (kp b o n e)),λb m=>?_⟩⟩;have:=pU (is:=is) i;lia;have:=uX i cs k;lia;unfold mV;rw[hat];exact gr3;rcases new b m with m|hn;exact fr b m;cases e:H1 b with
 |none=>rfl
 |some o=>have:H2 b=O o:=s2 b o (kp b o (mJ m ng3) e);rw[hn]at this;cases this
 have hn:i=is.length:=by lia
 subst hn;refine .inl ⟨o7 is.length (by rw[kJ,t8];exact t9 _),g,kvs,e3',qv,λl hX=>?_⟩;rw[gr.vals];have nl:∀b∈as,b≠l:=λb m z=>by obtain⟨o,hb⟩:=gr.mem b m;rw[z,hX]at hb;cases hb
 have hH:∀b,b≠g->H' b=U->H b=U:=λb n e=>by
  cases z:H b with
  |none=>rfl
  |some o=>have:=kp b o n (sm _ _ z);rw[e]at this;cases this
 have lg:l≠g:=λz=>by rw[z,qv]at hX;cases hX
 refine q l as _ (λb o n e=>?_) (hH l lg hX) aS ((gr.frame λb m o e=>by rw[aM (nl b m)];exact e).gl) λx m=>⟨?_,nl x m⟩;rw[aM (aQ (kp b o n (sm _ _ e)) hX)];exact kp b o n (sm _ _ e);exact sm.free (fr x m)
end
def je(G:GS)(i1 i2:IS)(ds:List D):Option (List (List Int)):=match ex G i1 (gN 6 ds) with
 |some (.nx ρ1)=>(match ex G i2 ρ1 with
  |some (.nx z)=>(match slot z 1 with
   |some (.lst I)=>(match dJ I with
    |some is=>if is.length<big/\z.length=6 then O ((mV is is.length).map (·.2)) else U
    |none=>U)
   |_=>U)
  |_=>U)
 |_=>U
def oo(K:wc)(T:Tx)(f:List D->Option (List (List Int))):Sp:=λvs H Q _=>vs.length=1/\∃(S:Addr->Prop) (ds:List D) (gs:List (List Int)),(∀a,S a->∃o,H a=O o)/\aD K T H S ds vs/\f ds=O gs /\∀q as H',aJ H H'->H q=U->H' q=O (.lst (as.map .ref))->GL H' gs as->(∀x∈as,H x=U/\x≠q)->Q (.ref q) H'
theorem pN:∀{z:List D} {is:List Int},dJ z=O is->z=is.map .int
 |[],is,h=>by cases h;rfl
 |d::z,is,h=>by
  cases d<;>first|exact nomatch (show U=O is from h)|skip
  rename_i i;obtain⟨I,h1,rfl⟩:=aP (show (dJ z).map (i :: ·)=O is from h);rw[pN h1];rfl
def IB{G:GS}{T:Tx}{lv:Nat}{P:wg}{w:World}{mg:wm}{base:Heap}{qual:Str}{st:Stmt}{f:Addr}{fd:we}{N:List Str}{c:CC}{s1 s2 s3:Stmt}{i1 i2:IS}{p:Nat->Pos}{a0:Str}(F:Fun K x qual st f fd)(fs:ai N [a0] (aF st))(hN:c.N=N)(hN6:N.length=6)(k7:c.sc=aF st)(hk:kN c (aF st)=Y) (hb:bD st=s1::s2::s3::uA p) (h1:cS n c s1=O i1) (h2:cS n c s2=O i2) (h3:cS n c s3=O (.setd 3)) (hP:rg c p) (go:∀(X:Cx),X.prog=P->X.w=w->X.K=K->X.mg=mg->X.base=base->om (dY P w) X c G T lv):FnOk P w K mg base (dY P w) (lv+1) f fd [a0] (oo K T (je G i1 i2)):=by
 obtain⟨oc,od,kV,doc,pm,an,aT,ct,kl,rfl,lk,gq⟩:=F.ex;refine NH lk gq fs (λvs H Q E h=>h.1) λA outer s H vs Q E hr bg=>?_;obtain⟨hlen,S,ds,gs,dom,rl,hd,q⟩:=bg;have xc:XC (dY P w) (nA (dY P w) P w K mg base N qual (aF st) f aT A outer s H E) c G T lv:=(zF (CX:=dY P w) (E:=E) (P:=P) (w:=w) (mg:=mg) (base:=base) (outer:=outer) (s:=s) (H:=H) (f:=f) (cd:=aT) (qual:=qual) hN k7 fs hk hr (go _ rfl rfl rfl rfl rfl)).re rfl rfl rfl rfl rfl rfl rfl rfl rfl rfl;have xs:XS (dY P w) T (nA (dY P w) P w K mg base N qual (aF st) f aT A outer s H E) c (λk H'=>∃C,T.xc k=O C/\E (.ref C) U H'):=by refine⟨PassesOwn.leaving,λy m j p p' q pos hg hc=>?_,rfl,rfl⟩;rintro pins s1 M H1 D I ⟨C,hT,hE⟩;exact wZ (W:=λH'=>E (.ref C) U H') rfl (xc.glob hg) (xc.gne hg) (xc.go.xcl y C hT) (xc.go.xk y C hT) (λpins M H s h' e vs I hm hE=>pK I hm hE) pins s1 M H1 D I hE
 refine⟨_,by rw[hb];exact gX ((iD (S₀:=S) (H₀:=H) n).1 _ c _ i1 xc xs h1) (gX ((iD (S₀:=S) (H₀:=H) n).1 _ c _ i2 xc xs h2) (gX ((iD (S₀:=S) (H₀:=H) n).1 _ c _ (.setd 3) xc xs h3) (WD xc xs hP))),?_⟩;unfold je at hd;split at hd;rename_i ρ1 x1;split at hd;rename_i z x2;split at hd;rename_i ls x3;split at hd;rename_i is x4;split at hd;rename_i hbig;cases hd;obtain rfl:=pN x4;refine⟨gN N.length ds,.nx ρ1,S,by rw[<-hN6]at x1;exact x1,lF dom rl,?_⟩;show ∀S' M' H',SInv K T S H S' ρ1 M' H'->_->_;intro S1 σ1 H1 si1 mv1;refine⟨ρ1,.nx z,S1,x2,si1,?_⟩;show ∀S' M' H',SInv K T S H S' z M' H'->_->_;intro S2 σ2 H2 si2 mv2;refine⟨z,.nx (z.set 3 (.mu (.dct []))),S2,rfl,si2,?_⟩;show ∀S' M' H',SInv K T S H S' (z.set 3 (.mu (.dct []))) M' H'->_->_;intro S3 σ3 H3 kj mv3;have l2:3<z.length:=by rw[hbig.2];decide
 obtain⟨v1,e1,r1⟩:=kj.re.at_ 1 (.im (.lst (is.map .int))) (by rw[ue y8];exact CS x3);obtain⟨g,ob,e3,sg,eg,rm⟩:=kj.re.at_ 3 (.mu (.dct [])) (ud l2);obtain⟨ys,rfl,rk⟩:=rm.dct;unfold aZ at rk;subst rk;unfold Rep at r1;obtain⟨a,jm,rfl,na,ea,rl1⟩:=r1;obtain rfl:=DZ rl1;refine⟨g,a,is,by rw[<-kj.re.len,List.length_set,hbig.2],e1,e3,ea,eg,hbig.1,λq' as H' kp hq cq gl nw=>?_⟩;have og:H g=U:=kj.own 3 _ g (ud l2) e3;refine q q' as H' (λb o e=>kp b o (aQ e og) (kj.same b o e)) (kj.same.free hq) cq gl λx m=>⟨kj.same.free (nw x m).1,(nw x m).2⟩;cases hd;cases hd;cases hd;cases hd;cases hd
def aED{T:Tx}{f:List D->Option (List (List Int))}{vs:List V}{Q:VK}{E:XK}(h:ik K T 1 (λds=>(f ds).map λgs=>.ok (.lst (gs.map j6))) vs H Q E):oo K T f vs H Q E:=by
 obtain⟨h1,S,ds,dom,rl,hc⟩:=h;rcases hc with ⟨d,hd,q⟩|⟨c,C,hd,_⟩;obtain⟨gs,hg,e⟩:=aP hd;cases e;refine⟨h1,S,ds,gs,dom,rl,hg,λq' as H' I hq cq gl nw=>q (.ref q') H' I ?_⟩;have nS:∀b,H b=U->¬S b:=λb e z=>by obtain⟨o,z⟩:=dom b z;rw[e]at z;cases z
 unfold Rep;exact⟨q',_,rfl,nS q' hq,cq,gl.rep λa m=>nS a (nw a m).1⟩;obtain⟨gs,hg,e⟩:=aP hd;cases e
noncomputable def ir2:IE:=.not (.tr (.y (.v 3) "list"))
noncomputable def ir3:IE:=.not (.tr (.y (.v 4) "list"))
noncomputable def ir4:IE:=.not (.tr (.call x9 (.cons (.v 5) .nil)))
noncomputable def ir5:IE:=.call "_law_groups" (.cons (.v 2) (.cons (.c 2 [] [1] J .seq (.v 1) (.L (.bl Y)) (.tup (.cons (.ix (.v 1) (.L (.int 0))) (.cons (.ix (.v 1) (.L (.int 1))) .nil)))) .nil))
noncomputable def ir6:IE:=.b .ne (.v 3) (.v 6)
noncomputable def ir8:IE:=.b .eq (.call yu (.cons (.v 0) .nil)) (.v 6)
structure GtC (c:CC) (n:Nat) (e2 e3 e4 e5 e6 e8:Expr) (p:Nat->Pos):Prop where
 aL:bJ c "pile"=O 0
 count:bJ c "count"=O 2
 found:bJ c "found"=O 3
 one:bJ c "one"=O 4
 tfound:fA c (.Name "found" (p 0))=O 3
 tone:fA c (.Name "one" (p 5))=O 4
 tpart:fA c (.Name "part" (p 7))=O 5
 tdue:fA c (.Name "due" (p 9))=O 6
 pc:bE c yu = Y
 h2:cT n c e2=O ir2
 h3:cT n c e3=O ir3
 h4:cT n c e4=O ir4
 h5:cE n c e5=O ir5
 h6:cT n c e6=O ir6
 h8:cE n c e8=O ir8
 c5:uK e5=J
 l1:((p 18).endLine == (p 20).line)=Y
 l2:((p 23).endLine == (p 25).line)=Y
section
variable {CX:ar}{G:GS}{T:Tx}{lv:Nat}{X:Cx}{c:CC}{p:Nat->Pos}{EX:Str->Hp->Prop}{n:Nat}{e2 e3 e4 e5 e6 e8:Expr}{b2 b3 b4 b6:List Stmt}
def qy(i:Nat)(d:D):List Sl:=(List.replicate 7 Sl.un).set i (.im d)
end
open Pg G11 Gp
namespace K11
noncomputable def pc1:IS:=(.set 1 (.walk .rng (.tup (.cons (.b .mul (.fld (.v 0) yq) (.fld (.v 0) "rows")) .nil))))
noncomputable def pcB:IS:=(.set 1 (.call wx (.cons (.v 1) (.cons (.ix (.v 1) (.ix (.v 2) (.L (.int 0)))) (.cons (.ix (.v 1) (.ix (.v 2) (.L (.int 1)))) .nil)))))
def pc2:IS:=(.loop [2] J .seq (.call yr (.cons (.v 0) .nil)) pcB)
noncomputable def qP(g:List Nat):List Int:=g.map λ(k:Nat)=>(k:Int)
theorem wW{k c:Nat}:∀{gs:List (Nat×List Nat)},dI (k:Int) (c:Int) (gs.map λg=>((g.1:Int),qP g.2))=(put k c gs).map λg=>((g.1:Int),qP g.2)
 |[]=>rfl
 | (h,cs)::r=>by rw[uu];unfold dI put;by_cases e:h=k;rw[if_pos e,if_pos (by show (h:Int)=k;lia)];simp[qP];rw[if_neg e,if_neg (by show ¬(h:Int)=k;lia),wW];rfl
theorem sP{n:Nat}{l:G11.Nm}(h1:∀k,k<n->l k<=k)(h2:∀k,k<n->l (l k)=l k):∀m,m<=n->mV ((List.range n).map λk=>(l k:Int)) m=(dict m l).map λg=>((g.1:Int),qP g.2)
 | 0,_=>rfl
 |m+1,hm=>by
  have e:((List.range n).map λk=>(l k:Int))[m]?=O (l m:Int):=by rw[sv,vk yx];rfl
  rw[IJ h1 h2 (show m<n by lia),<-wW,<-sP h1 h2 m yx];show (match ((List.range n).map λk=>(l k:Int))[m]? with|some h=>dI h m _|none=>_)=_;rw[e]
theorem EB{R:Type}{f:R->Int}:∀{L:List R},dJ (L.map λk=>D.int (f k))=O (L.map f)
 |[]=>rfl
 |a::L=>by show (dJ (L.map λk=>D.int (f k))).map (f a :: ·)=_;rw[EB];rfl
section
variable {G:GS}{c r w h:Nat}{T:Table}{F:List D}{sp:List Spot}{aa:List (Nat×Nat)}
def dC(c n:Nat)(aa:List (Nat×Nat)):List (Nat×Nat):=(left c n aa).map pairOf
def aCw{k:Nat}{j:Nat×Nat×Bool}(h:j∈b0 c n k):(j=(k,k+1,J)/\k % c<c-1)\/(j=(k,k+c,Y)/\k+c<n):=by unfold b0 at h;rcases wb.mp h with h|h;by_cases e:k % c<c-1;rw[uv e]at h;exact .inl ⟨uh.mp h,e⟩;rw[tj e]at h;cases h;by_cases e:k+c<n;rw[uv e]at h;exact .inr ⟨uh.mp h,e⟩;rw[tj e]at h;cases h
def uG{j:Nat×Nat×Bool}(h:j∈ba c n m):∃k,k<m/\((j=(k,k+1,J)/\k % c<c-1)\/(j=(k,k+c,Y)/\k+c<n)):=by obtain⟨k,hk,h⟩:=mem_flatMap.mp h;exact⟨k,vy.mp hk,aCw h⟩
def XF{j z:Nat×Nat×Bool}(h:j∈ba c n m)(h':z∈ba c n m)(e:pairOf j=pairOf z):j=z:=by
 obtain⟨k,_,hk⟩:=uG h;obtain⟨k',_,I⟩:=uG h';rcases hk with ⟨rfl,a⟩|⟨rfl,a⟩<;>rcases I with ⟨rfl,a'⟩|⟨rfl,a'⟩<;>simp only[pairOf,Prod.mk.injEq]at e<;>obtain⟨rfl,e⟩:=e
 rfl;exfalso;have:c=1:=by lia
 subst this;lia;exfalso;have:c=1:=by lia
 subst this;lia;rfl
def fO{j:Nat×Nat×Bool}(hc:1<=c)(h:j∈ba c (c*r) (c*r)):j.1<c*r/\j.2.1<c*r:=by
 obtain⟨k,hk,h⟩:=uG h;rcases h with ⟨rfl,a⟩|⟨rfl,a⟩;refine⟨hk,?_⟩;show k+1<c*r;have h1:k / c<r:=by rw[Nat.div_lt_iff_lt_mul yx,Nat.mul_comm];exact hk
 have h2:c*(k / c)+k % c=k:=Nat.div_add_mod k c;have h3:c*(k / c+1)<=c*r:=Nat.mul_le_mul_left c h1;rw[Nat.mul_add]at h3;lia;exact⟨hk,a⟩
def tU(hc:1<=c){a b:Nat}(h:(a,b)∈dC c (c*r) aa):a<c*r/\b<c*r:=by obtain⟨j,z,e⟩:=ux.mp h;have:=fO hc ((mem_filter.mp z).1);unfold pairOf at e;cases e;exact this
def LX{l:Bool}{k:Int}:left c n (aa++fL c n sp aa l k)=(left c n aa).filter λj=>!eJ sp l k j:=by
 unfold left;rw[List.filter_filter];refine filter_congr λj I=>?_;rw[Bool.eq_iff_iff,not_eq_true',u3,not_eq_true',not_eq_true',List.contains_eq_any_beq,List.contains_eq_any_beq,List.any_append,Bool.or_eq_false_iff];constructor;rintro⟨h1,h2⟩;refine⟨?_,h1⟩;cases e:eJ sp l k j with
 |false=>rfl
 |true=>exfalso;have hm:pairOf j∈fL c n sp aa l k:=ux.mpr ⟨j,mem_filter.mpr ⟨mem_filter.mpr ⟨I,by rw[List.contains_eq_any_beq,h1];rfl⟩,e⟩,rfl⟩;have:=any_eq_false.mp h2 _ hm;simp at this
 rintro⟨h1,h2⟩;refine⟨h2,any_eq_false.mpr λq hq=>?_⟩;obtain⟨j',p6,rfl⟩:=ux.mp hq;obtain⟨fw,e⟩:=mem_filter.mp p6;intro z;have:j=j':=XF I ((mem_filter.mp fw).1) (uw.mp z);subst this;rw[h1]at e;cases e
def aAG{R:Type}{a b c d:R}:atI [a,b,c,d] 0=O a/\atI [a,b,c,d] 1=O b/\atI [a,b,c,d] 2=O c/\atI [a,b,c,d] 3=O d:=⟨rfl,rfl,rfl,rfl⟩
def aBZ(hf:G.fl "Pile"=cy)(hc:1<=c)(cg:c<=64)(ao:c*r<=64)(la:G.fn yr [aL c r w h T F (aa.map pD)]=O (.ok (.lst ((left c (c*r) aa).map (jD sp))))) (hhu:∀(l:G11.Nm) (p q:Nat),G.fn wx [.lst (nmL (c*r) l),.int (p:Nat),.int (q:Nat)]=O (.ok (.lst (nmL (c*r) (hung l p q))))):je G pc1 pc2 [aL c r w h T F (aa.map pD)]=O ((told (c*r) (eB (dC c (c*r) aa) id)).map qP):=by
 have x1:ex G pc1 (gN 6 [aL c r w h T F (aa.map pD)])=O (.nx [.im (aL c r w h T F (aa.map pD)),.im (.lst (nmL (c*r) id)),.un,.un,.un,.un]):=by refine(aO (d:=.lst (nmL (c*r) id)) ?_).trans rfl;have e0:ev G (.v 0) (gN 6 [aL c r w h T F (aa.map pD)])=O (bM c r w h (T.map sE) F (aa.map pD)):=rfl;rw[ER,kZ,aV,bA,kB hf e0,uD hf e0];simp only[aA,kC (show c<=1000000 by lia),qC,tP,aB];rw[cY yx];rfl
 have lp:∀(L:List (Nat×Nat×Bool)) (l:G11.Nm) (s2:Sl),(∀j∈L,j.1<c*r/\j.2.1<c*r)->∃s,bT (bB [2] J) (ex G pcB) (L.map (jD sp)) [.im (aL c r w h T F (aa.map pD)),.im (.lst (nmL (c*r) l)),s2,.un,.un,.un]=O (.nx [.im (aL c r w h T F (aa.map pD)),.im (.lst (nmL (c*r) (eB (L.map pairOf) l))),s,.un,.un,.un]):=by
  intro L;induction L with
  |nil=>intro l s2 _;exact⟨s2,rfl⟩
  |cons j L ih=>
   intro l s2 hb;obtain⟨h1,h2⟩:=hb j vi;obtain⟨s,e⟩:=ih (hung l (l j.1) (l j.2.1)) (.im (jD sp j)) λj m=>hb j (tw _ m)
   refine⟨s,?_⟩;have eb:ex G pcB [.im (aL c r w h T F (aa.map pD)),.im (.lst (nmL (c*r) l)),.im (jD sp j),.un,.un,.un]=O (.nx [.im (aL c r w h T F (aa.map pD)),.im (.lst (nmL (c*r) (hung l (l j.1) (l j.2.1)))),.im (jD sp j),.un,.un,.un]):=by refine(aO (d:=.lst (nmL (c*r) (hung l (l j.1) (l j.2.1)))) ?_).trans rfl;simp only[yw,jD,aAG.1,aAG.2.1,ZW h1,ZW h2,hhu]
   rw[uu];unfold bT;rw[show bB [2] J (jD sp j) [.im (aL c r w h T F (aa.map pD)),.im (.lst (nmL (c*r) l)),s2,.un,.un,.un]=O [.im (aL c r w h T F (aa.map pD)),.im (.lst (nmL (c*r) l)),.im (jD sp j),.un,.un,.un] from rfl];show ((ex G pcB [.im (aL c r w h T F (aa.map pD)),.im (.lst (nmL (c*r) l)),.im (jD sp j),.un,.un,.un]).bind _)=_;rw[eb];exact e
 obtain⟨s,x2⟩:=lp (left c (c*r) aa) id .un λj m=>fO hc ((mem_filter.mp m).1)
 have I:ex G pc2 [.im (aL c r w h T F (aa.map pD)),.im (.lst (nmL (c*r) id)),.un,.un,.un,.un]=O (.nx [.im (aL c r w h T F (aa.map pD)),.im (.lst (nmL (c*r) (eB (dC c (c*r) aa) id))),s,.un,.un,.un]):=(bS (d:=.lst ((left c (c*r) aa).map (jD sp))) (by simp only[yw,la]) cM).trans x2;have gd:=iP (n:=c*r) (dC:=dC c (c*r) aa) λa b z=>tU hc z;have ei:dJ (nmL (c*r) (eB (dC c (c*r) aa) id))=O ((List.range (c*r)).map λk=>(eB (dC c (c*r) aa) id k:Int)):=EB;unfold je;rw[x1];dsimp only;rw[I];dsimp only;show (match dJ (nmL (c*r) (eB (dC c (c*r) aa) id)) with|some is=>_|none=>_)=_;rw[ei];dsimp only;have el:((List.range (c*r)).map λk=>(eB (dC c (c*r) aa) id k:Int)).length=c*r:=by rw[t8,uc]
 rw[if_pos ⟨by rw[el];unfold big;lia,rfl⟩,el,sP (λk hk=>gd.le k hk) (λk hk=>gd.idem hk) _ (t9 _)];unfold dict told;rw[vq,vq,vq];rfl
def NB{g:List Nat}:j6 (qP g)=kL g:=by unfold j6 qP kL;rw[vq];rfl
end
end K11
open K11
namespace K13
section
variable {G:GS}
noncomputable def dN(k:Nat):D:=.int (k:Int)
def JL{K:List Nat}(hn:n<=64)(nd:K.Nodup)(lt:∀k∈K,k<n):gG (K.map dN)=O (((List.range n).filter λk=>K.contains k).map dN):=by
 obtain⟨α,hR⟩:∃α,α=(List.range n).filter λk=>K.contains k:=⟨_,rfl⟩
 rw[<-hR];have pr:α.Pairwise (· < ·):=by rw[hR];exact pairwise_lt_range.filter _
 have inj:∀{a b:Nat},((a:Int),(0:Int))=((b:Int),(0:Int))->a=b:=λ{a b} e=>by have:=(Prod.mk.inj e).1;lia
 have z:α.Perm K:=by refine(List.perm_ext_iff_of_nodup (pr.imp λh=>v3 h) nd).mpr λk=>?_;rw[hR,mem_filter,vy,contains_iff_mem];exact⟨λh=>h.2,λh=>⟨lt k h,h⟩⟩
 cases K with
 |nil=>
  have:α=[]:=by rw[hR];exact List.filter_eq_nil_iff.mpr λa _=>by simp
  rw[this];rfl
 |cons k0 I=>
  obtain⟨K,hK⟩:∃K,K=k0::I:=⟨_,rfl⟩;have np:kS ((k0::I).map dN)=U:=rfl;rw[<-hK]at nd z np ⊢;have pe:(α.map λ(k:Nat)=>((k:Int),(0:Int))).Perm (K.map λ(k:Nat)=>((k:Int),(0:Int))):=z.map _;have pm:(α.map λ(k:Nat)=>((k:Int),(0:Int))).Pairwise (λa b=>cH a b=Y):=by rw[pairwise_map];refine pr.imp λ{a b} h=>?_;rw[eI];exact .inl (by dsimp only;lia)
  have nk:(K.map λ(k:Nat)=>((k:Int),(0:Int))).Nodup:=by rw[nodup_iff_pairwise_ne,pairwise_map];exact nd.imp λ{a b} h e=>h (inj e)
  have hl:K.length<=64:=by rw[<-z.length_eq,hR];have:=length_filter_le (λk=>(k0::I).contains k) (List.range n);rw[uc]at this;lia
  have cs:dW ((K.map λ(k:Nat)=>(k:Int)).map λi=>(i,(0:Int)))=Y:=by unfold dW;rw[u3,ub,ub,vq];refine⟨?_,nk⟩;rw[t8];exact hl
  unfold gG;rw[np];show (match dJ (K.map λ(k:Nat)=>D.int (k:Int)) with|some is=>(if dW (is.map λi=>(i,0)) then O ((iY (is.map λi=>(i,0))).map λ(p:Int×Int)=>D.int p.1) else U)|none=>U)=_;rw[Pg.ints_map];show (if dW ((K.map λ(k:Nat)=>(k:Int)).map λi=>(i,(0:Int))) then O ((iY ((K.map λ(k:Nat)=>(k:Int)).map λi=>(i,(0:Int)))).map λp=>D.int p.1) else U)=_;rw[if_pos cs,vq,show ((λi=>(i,(0:Int))) ∘ λ(k:Nat)=>(k:Int))=λ(k:Nat)=>((k:Int),(0:Int)) from rfl,<-oT pe pm,vq];rfl
noncomputable def FI:IS:=(.g (.b .eq (.tup (.cons (.v 5) (.cons (.v 6) .nil))) (.ixC xj (.v 1))) (.seq (.put 2 (.v 3) (.L (.bl Y))) (.put 2 (.v 4) (.L (.bl Y)))) .nop)
def MU:IS:=(.seq (.setd 2) (.seq (.loop [3,4,5,6] Y .seq (.call yr (.cons (.v 0) .nil)) FI) (.σ 2)))
def QJ{a:IE}{s:Str}{kvs:List (Str×D)}{d:D}(e:ev G a B=O (.str s))(hk:G.dk x=O kvs)(hd:kvs.lookup s=O d):ev G (.ixC x a) B=O d:=by show (ev G a B).bind _=_;rw[e];show (G.dk x).bind _=_;rw[hk];exact hd
def thr(sp:List Spot)(l:Bool)(n:Int)(L:List (Nat×Nat×Bool))(k:Nat):Bool:=L.any λj=>eJ sp l n j&&(j.1 == k || j.2.1 == k)
noncomputable def ft(p:D)(x:Str)(kvs:List (Int×D))(s3 s4 s5 z:Sl):List Sl:=[.im p,.im (.str x),.mu (.dct kvs),s3,s4,s5,z]
def wG{kvs:List (Int×D)}{a k:Nat}{d:D}:(bL (gW kvs (a:Int) d) (k:Int)).isSome=((bL kvs (k:Int)).isSome || a == k):=by rw[oO];by_cases e:a=k;subst e;rw[if_pos rfl];simp;rw[if_neg yx,beq_false_of_ne e,Bool.or_false]
theorem JF(hk:G.dk xj = O kb){x:Str}{l:Bool}{n:Int}(hs:kb.lookup x=O (.tup [.bl l,.int n])){p:D}{sp:List Spot}:∀(L:List (Nat×Nat×Bool)) (kvs:List (Int×D)) (s3 s4 s5 I:Sl),kvs.length+2*L.length<=900000 ->∃b7 s3' s4' s5' s6',bT (bB [3,4,5,6] Y) (ex G FI) (L.map (jD sp)) (ft p x kvs s3 s4 s5 I)=O (.nx (ft p x b7 s3' s4' s5' s6'))/\∀k:Nat,(bL b7 k).isSome=((bL kvs k).isSome || thr sp l n L k)
 |[],kvs,s3,s4,s5,I,_=>⟨kvs,s3,s4,s5,I,rfl,λk=>(Bool.or_false _).symm⟩
 |j::L,kvs,s3,s4,s5,I,hl=>by
  rw[vm]at hl;have f7:∀kvs,ev G (.b .eq (.tup (.cons (.v 5) (.cons (.v 6) .nil))) (.ixC xj (.v 1))) (view (ft p x kvs (.im (.int j.1)) (.im (.int j.2.1)) (.im (.bl j.2.2)) (.im (.int (mM sp j.1 j.2.2)))))=O (.bl (eJ sp l n j)):=λkvs=>by rw[bA,QJ (s:=x) rfl hk hs];exact vJ
  have step:∃z,ex G FI (ft p x kvs (.im (.int j.1)) (.im (.int j.2.1)) (.im (.bl j.2.2)) (.im (.int (mM sp j.1 j.2.2))))=O (.nx (ft p x z (.im (.int j.1)) (.im (.int j.2.1)) (.im (.bl j.2.2)) (.im (.int (mM sp j.1 j.2.2)))))/\z.length<=kvs.length+2/\∀k:Nat,(bL z k).isSome=((bL kvs k).isSome || (eJ sp l n j&&(j.1 == k || j.2.1 == k))):=by
   cases q:eJ sp l n j with
   |false=>exact⟨kvs,cC (by rw[f7,q]) aW,yx,λk=>by rw[Bool.false_and,Bool.or_false]⟩
   |true=>have l1:=oV (kvs:=kvs) (k:=(j.1:Int)) (d:=.bl Y);have l2:=oV (kvs:=gW kvs (j.1:Int) (.bl Y)) (k:=(j.2.1:Int)) (d:=.bl Y);refine⟨gW (gW kvs j.1 (.bl Y)) j.2.1 (.bl Y),hZ (by rw[f7,q]) (aG (lT (d:=.bl Y) (i:=(j.1:Nat)) rfl rfl rfl yx) ((lT (d:=.bl Y) (i:=(j.2.1:Nat)) (kvs:=gW kvs j.1 (.bl Y)) rfl rfl rfl yx).trans rfl)),yx,λk=>?_⟩;rw[wG,wG,Bool.true_and,Bool.or_assoc]
  obtain⟨z,e1,hl1,h1⟩:=step;obtain⟨b7,t3,t4,t5,t6,e,h2⟩:=JF hk hs (p:=p) (sp:=sp) L z (.im (.int j.1)) (.im (.int j.2.1)) (.im (.bl j.2.2)) (.im (.int (mM sp j.1 j.2.2))) yx;refine⟨b7,t3,t4,t5,t6,?_,λk=>?_⟩;rw[uu];unfold bT;show (ex G FI (ft p x kvs (.im (.int j.1)) (.im (.int j.2.1)) (.im (.bl j.2.2)) (.im (.int (mM sp j.1 j.2.2))))).bind _=_;rw[e1];exact e;rw[h2,h1,Bool.or_assoc];rfl
def aAP(hk:G.dk xj = O kb){l:Bool}{n:Int}(hs:kb.lookup x=O (.tup [.bl l,.int n])){sp:List Spot}{L:List (Nat×Nat×Bool)}(hL:L.length<=1000)(z:G.fn yr [p]=O (.ok (.lst (L.map (jD sp))))):∃kvs,bC G 7 MU [p,.str x]=O (.ok (.dct kvs))/\∀k:Nat,(bL kvs k).isSome=thr sp l n L k:=by obtain⟨kvs,s3,s4,s5,I,e,h⟩:=JF hk hs (p:=p) (sp:=sp) L [] .un .un .un .un (by rw[length_nil];lia);refine⟨kvs,aK (B:=[.im p,.im (.str x),.un,.un,.un,.un,.un]) rfl (aG oJ (aG ((bS (d:=.lst (L.map (jD sp))) (by simp only[List.set];simp only[yw,z]) cM).trans e) (iR rfl))),λk=>?_⟩;rw[h];rfl
noncomputable def uT:IS:=(.seq (.drop (.call wq (.cons (.v 0) (.cons (.v 1) .nil)))) (.ret (.c 3 [(2,1)] [1] J .seq (.call yr (.cons (.v 0) .nil)) (.b .ne (.sl (.v 1) Y (.L (.int 2)) J (.L .non)) (.ixC xj (.v 2))) (.sl (.v 1) J (.L .non) Y (.L (.int 2))))))
def XD{a b:Bool}{i j:Int}:af .ne (.tup [.bl a,.int i]) (.tup [.bl b,.int j])=O (.bl (!((a == b)&&(i == j)))):=by have e:=vJ (a:=a) (b:=b) (i:=i) (j:=j);have p1:(plain (.tup [.bl a,.int i])&&plain (.tup [.bl b,.int j]))=Y:=rfl;have e:(if (plain (.tup [.bl a,.int i])&&plain (.tup [.bl b,.int j]))=Y then O (D.bl (bw (.tup [.bl a,.int i]) (.tup [.bl b,.int j]))) else U)=O (.bl ((a == b)&&(i == j))):=e;show (if (plain (.tup [.bl a,.int i])&&plain (.tup [.bl b,.int j]))=Y then O (D.bl (!bw (.tup [.bl a,.int i]) (.tup [.bl b,.int j]))) else U)=_;rw[if_pos p1]at e ⊢;rw[D.bl.inj (u4 e)]
def RC(hk:G.dk xj = O kb){l:Bool}{n:Int}(hs:kb.lookup x=O (.tup [.bl l,.int n])){sp:List Spot}{L:List (Nat×Nat×Bool)}(hu:G.fn wq [p,.str x]=O (.ok .non))(z:G.fn yr [p]=O (.ok (.lst (L.map (jD sp))))):bC G 2 uT [p,.str x]=O (.ok (.lst ((L.filter λj=>!eJ sp l n j).map λj=>pD (pairOf j)))):=by refine aK (B:=[.im p,.im (.str x)]) rfl (aG (lU (d:=.non) ?_) (aR ?_));simp only[cO,dD,aY];simp only[yw,hu];refine qE (jD sp) (λj=>pD (pairOf j)) (λj=>!eJ sp l n j) (s:=.lst (L.map (jD sp))) (by simp only[yw,z]) cM λj _=>⟨[.un,.im (jD sp j),.im (.str x)],rfl,?_,?_⟩;rw[bA,QJ (s:=x) rfl hk hs];unfold jD;simp only[yw,part,intOf];exact XD;unfold jD;simp only[yw,part,intOf];rfl
noncomputable def nD:IS:=(.g (.tr (.ρ .any (.cons (.c 3 [(2,2)] [1] J .seq (.v 5) (.L (.bl Y)) (.b .isin (.v 1) (.v 2))) .nil))) (.ext 3 (.v 5)) (.ext 4 (.v 5)))
def BC:IS:=(.seq (.drop (.call wq (.cons (.v 0) (.cons (.v 1) .nil)))) (.seq (.set 2 (.call wo (.cons (.v 0) (.cons (.v 1) .nil)))) (.seq (.setm 3) (.seq (.setm 4) (.seq (.loop [5] J .seq (.call yu (.cons (.v 0) .nil)) nD) (.ret (.tup (.cons (.sortm 3) (.cons (.sortm 4) .nil)))))))))
theorem sS{R:Type}{f:R->Bool}:∀{L:List R},jK (L.map λa=>D.bl (f a))=O (L.map f)
 |[]=>rfl
 |a::L=>by show (jK (L.map λa=>D.bl (f a))).map _=_;rw[sS];rfl
def aDK{R:Type}{f:R->Bool}{L:List R}:bf .any [.lst (L.map λa=>D.bl (f a))]=O (.bl (L.any f)):=by show (jK _).map _=_;rw[sS];show O (D.bl ((L.map f).any id))=_;rw[any_map];rfl
def QD{x:Nat}{e:IE}{es ds:List D}(h1:ev G e B=O (.lst es))(h2:B[x]?=O (.mu (.lst ds)))(h3:ds.length+es.length<1000000):ex G (.ext x e) B=O (.nx (B.set x (.mu (.lst (ds++es))))):=by show (ev G e B).bind _=_;rw[h1];show (match D.lst es,B[x]? with | .lst es,O (.mu (.lst ds))=>(if ds.length+es.length<big then O (Out.nx (B.set x (.mu (.lst (ds++es))))) else U)|_,_=>U)=_;rw[h2];exact if_pos h3
def fh(p:D)(x:Str)(kvs:List (Int×D))(A ρ:List Nat)(s5:Sl):List Sl:=[.im p,.im (.str x),.im (.dct kvs),.mu (.lst (A.map dN)),.mu (.lst (ρ.map dN)),s5]
theorem uW{p:D}{x:Str}{kvs:List (Int×D)}{th:Nat->Bool}(z:∀k:Nat,(bL kvs k).isSome=th k):∀(gs:List (List Nat)) (A ρ:List Nat) (s5:Sl),(∀g∈gs,g.length<=64)->A.length+ρ.length+64*gs.length<=900000 ->∃s,bT (bB [5] J) (ex G nD) (gs.map kL) (fh p x kvs A ρ s5)=O (.nx (fh p x kvs (A++(gs.filter λg=>g.any th).flatten) (ρ++(gs.filter λg=>!g.any th).flatten) s))
 |[],A,ρ,s5,_,_=>⟨s5,by rw[List.filter_nil,List.filter_nil,List.flatten_nil,uq,uq];rfl⟩
 |g::gs,A,ρ,s5,h64,hl=>by
  rw[vm]at hl;have hg:=h64 g vi;have I:ev G (.tr (.ρ .any (.cons (.c 3 [(2,2)] [1] J .seq (.v 5) (.L (.bl Y)) (.b .isin (.v 1) (.v 2))) .nil))) (view (fh p x kvs A ρ (.im (kL g))))=O (.bl (g.any th)):=by rw[nQ,fC,aV,bN (L:=g) dN (λk=>D.bl (th k)) (s:=kL g) rfl cM (λk _=>⟨[.un,.im (dN k),.im (.dct kvs)],rfl,rfl,by show O (D.bl (bL kvs (k:Int)).isSome)=_;rw[z k]⟩),qC];show ((bf .any [.lst (g.map λk=>D.bl (th k))]).bind λx=>(cv x).map D.bl)=_;rw[aDK];rfl
  have hA:((A.map dN).length+(g.map dN).length)<1000000:=by rw[t8,t8];lia
  have hB:((ρ.map dN).length+(g.map dN).length)<1000000:=by rw[t8,t8];lia
  cases q:g.any th with
  |true=>
   obtain⟨s,e⟩:=uW z gs (A++g) ρ (.im (kL g)) (λg' m=>h64 g' (tw _ m)) (by rw[um];lia);refine⟨s,?_⟩;rw[List.filter_cons_of_pos (by rw[q]),List.filter_cons_of_neg (by rw[q];decide),List.flatten_cons,<-u6,uu];unfold bT;show (ex G nD (fh p x kvs A ρ (.im (kL g)))).bind _=_;have e1:ex G nD (fh p x kvs A ρ (.im (kL g)))=O (.nx (fh p x kvs (A++g) ρ (.im (kL g)))):=by refine(hZ (by rw[I,q]) (QD (es:=g.map dN) (ds:=A.map dN) rfl rfl hA)).trans ?_;unfold fh;rw[vn];rfl
   rw[e1];exact e
  |false=>
   obtain⟨s,e⟩:=uW z gs A (ρ++g) (.im (kL g)) (λg' m=>h64 g' (tw _ m)) (by rw[um];lia);refine⟨s,?_⟩;rw[List.filter_cons_of_neg (by rw[q];decide),List.filter_cons_of_pos (by rw[q];rfl),List.flatten_cons,<-u6,uu];unfold bT;show (ex G nD (fh p x kvs A ρ (.im (kL g)))).bind _=_;have e1:ex G nD (fh p x kvs A ρ (.im (kL g)))=O (.nx (fh p x kvs A (ρ++g) (.im (kL g)))):=by refine(cC (by rw[I,q]) (QD (es:=g.map dN) (ds:=ρ.map dN) rfl rfl hB)).trans ?_;unfold fh;rw[vn];rfl
   rw[e1];exact e
structure Nam (n:Nat) (l:G11.Nm):Prop where
 le:∀k,k<n->l k<=k
 id:∀k,k<n->l (l k)=l k
def fT{l:G11.Nm}{h k:Nat}:k∈cells n l h↔k<n/\l k=h:=by unfold cells;rw[mem_filter,vy,uw]
def hG{l:G11.Nm}{h:Nat}:h∈heads n l↔h<n/\l h=h:=by unfold heads;rw[mem_filter,vy,uw]
def pJ{l:G11.Nm}(N:Nam n l){q:List Nat->Bool}{k:Nat}:k∈((told n l).filter q).flatten↔k<n/\q (cells n l (l k))=Y:=by unfold told;rw[List.mem_flatten];constructor;rintro⟨g,hg,hk⟩;obtain⟨hg,hq⟩:=mem_filter.mp hg;obtain⟨h,_,rfl⟩:=ux.mp hg;obtain⟨hk,e⟩:=fT.mp hk;rw[e];exact⟨hk,hq⟩;rintro⟨hk,hq⟩;exact⟨cells n l (l k),mem_filter.mpr ⟨ux.mpr ⟨l k,hG.mpr ⟨lt_of_le_of_lt (N.le k hk) hk,N.id k hk⟩,rfl⟩,hq⟩,fT.mpr ⟨hk,rfl⟩⟩
def AA{l:G11.Nm}{q:List Nat->Bool}:(((told n l).filter q).flatten).Nodup:=by rw[nodup_iff_pairwise_ne,List.pairwise_flatten];constructor;intro g hg;obtain⟨h,_,rfl⟩:=ux.mp (mem_filter.mp hg).1;unfold cells;exact(pairwise_lt_range.filter _).imp λh=>v3 h;refine List.Pairwise.filter _ ?_;unfold told;rw[pairwise_map];unfold heads;refine(pairwise_lt_range.filter _).imp λ{a b} z x hx y hy e=>?_;have h1:=(fT.mp hx).2;have h2:=(fT.mp hy).2;subst e;lia
def pick(n:Nat)(l:G11.Nm)(q:List Nat->Bool):List Nat:=(List.range n).filter λk=>q (cells n l (l k))
def sA{l:G11.Nm}(N:Nam n l)(hn:n<=64){q:List Nat->Bool}:gG ((((told n l).filter q).flatten).map dN)=O ((pick n l q).map dN):=by
 rw[JL hn AA λk hk=>((pJ N).mp hk).1];congr 2;unfold pick;refine filter_congr λk hk=>?_;have hk:=vy.mp hk;cases e:q (cells n l (l k)) with
 |true=>rw[contains_iff_mem];exact(pJ N).mpr ⟨hk,e⟩
 |false=>
  cases e2:(((told n l).filter q).flatten).contains k with
  |false=>rfl
  |true=>have:=((pJ N).mp (contains_iff_mem.mp e2)).2;rw[e]at this;cases this
def JE{l:G11.Nm}(hn:n<=64):(told n l).length<=64/\∀g∈told n l,g.length<=64:=by unfold told;rw[t8];constructor;unfold heads;have:=length_filter_le (λk=>l k == k) (List.range n);rw[uc]at this;lia;intro g hg;obtain⟨h,_,rfl⟩:=ux.mp hg;unfold cells;have:=length_filter_le (λk=>l k == h) (List.range n);rw[uc]at this;lia
def YG{kvs:List (Int×D)}{th:Nat->Bool}{l:G11.Nm}(N:Nam n l)(hn:n<=64)(hu:G.fn wq [p,.str x]=O (.ok .non))(ht:G.fn wo [p,.str x]=O (.ok (.dct kvs)))(I:∀k:Nat,(bL kvs k).isSome=th k)(hp:G.fn yu [p]=O (.ok (.lst ((told n l).map kL)))):bC G 6 BC [p,.str x]=O (.ok (.tup [.lst ((pick n l λg=>g.any th).map dN),.lst ((pick n l λg=>!g.any th).map dN)])):=by obtain⟨t1,z⟩:=JE (l:=l) hn;obtain⟨s,e⟩:=uW (G:=G) (p:=p) (x:=x) I (told n l) [] [] .un z (by rw[length_nil];lia);rw[nil_append,nil_append]at e;refine aK (B:=[.im p,.im (.str x),.un,.un,.un,.un]) rfl (aG (lU (d:=.non) ?_) (aG (aO (d:=.dct kvs) ?_) (aG iQ (aG iQ (aG ((bS (d:=.lst ((told n l).map kL)) ?_ cM).trans e) (aR ?_))))));simp only[cO,dD,aY];simp only[yw,hu];simp only[yw,ht];simp only[List.set];simp only[yw,hp];rw[kZ,aV,aV,yH,yH,qC];show (bG ((((gG ((((told n l).filter λg=>g.any th).flatten).map dN)).map D.lst).bind λd=>((((gG ((((told n l).filter λg=>!g.any th).flatten).map dN)).map D.lst).bind λd=>O (D.tup [d])).bind λt=>match t with | .tup ds=>O (D.tup (d::ds))|_=>U)))).map D.tup=_;rw[sA N hn,sA N hn];rfl
def xA{l:G11.Nm}(N:Nam n l){q:List Nat->Bool}:pick n l q=[]↔∀g∈told n l,q g=J:=by unfold pick;rw[List.filter_eq_nil_iff];constructor;intro h g hg;unfold told at hg;obtain⟨a,ha,rfl⟩:=ux.mp hg;obtain⟨h1,h2⟩:=hG.mp ha;have:=h a (vy.mpr h1);rw[h2]at this;simpa using this;intro h k hk;have hk:=vy.mp hk;have:=h (cells n l (l k)) (ux.mpr ⟨l k,hG.mpr ⟨lt_of_le_of_lt (N.le k hk) hk,N.id k hk⟩,rfl⟩);rw[this];decide
noncomputable def mS:IS:=(.seq (.g (.tr (.call yv (.cons (.v 0) (.cons (.v 1) .nil)))) (.rse "Bolted") .nop) (.seq (.g (.tr (.ix (.call "held" (.cons (.v 0) (.cons (.v 1) .nil))) (.L (.int 1)))) (.rse "Loose") .nop) (.ret (.call "pages" (.cons (.v 0) (.cons (.v 1) (.cons (.v 2) .nil)))))))
def CM{xs:List D}:cv (.lst xs)=O (!xs.isEmpty):=by cases xs<;>rfl
def yK{q:D}{bs:List D}(hb:G.fn yv [p,.str x]=O (.ok (.lst bs))):ev G (.tr (.call yv (.cons (.v 0) (.cons (.v 1) .nil)))) (view [.im p,.im (.str x),.im q])=O (.bl (!bs.isEmpty)):=by rw[nQ];show (gF (G.fn yv [p,.str x])).bind _=_;rw[hb];show (cv (.lst bs)).map D.bl=_;rw[CM];rfl
def ET{q:D}{d:D}{fs:List D}(z:G.fn "held" [p,.str x]=O (.ok (.tup [d,.lst fs]))):ev G (.tr (.ix (.call "held" (.cons (.v 0) (.cons (.v 1) .nil))) (.L (.int 1)))) (view [.im p,.im (.str x),.im q])=O (.bl (!fs.isEmpty)):=by simp only[cO,dD,aY];simp only[yw,z,nY.2,CM]
def aBm{q:D}{d:D}{fs:List D}(hb:G.fn yv [p,.str x]=O (.ok (.lst [])))(I:G.fn "held" [p,.str x]=O (.ok (.tup [d,.lst fs])))(eu:fs.isEmpty=J)(hx:G.xn "Loose"=Y):bC G 3 mS [p,.str x,q]=O (.er "Loose"):=by refine TK (B:=[.im p,.im (.str x),.im q]) rfl (aG (cC (yK hb) aW) (gC (hZ ((ET I).trans (by rw[eu];rfl)) (aDs hx)) λ_ z=>by cases z))
def SZ{q:D}{d e:D}(hb:G.fn yv [p,.str x]=O (.ok (.lst [])))(z:G.fn "held" [p,.str x]=O (.ok (.tup [d,.lst []])))(hp:G.fn "pages" [p,.str x,q]=O (.ok e)):bC G 3 mS [p,.str x,q]=O (.ok e):=by refine aK (B:=[.im p,.im (.str x),.im q]) rfl (aG (cC (yK hb) aW) (aG (cC (ET z) aW) (aR ?_)));simp only[yw,hp]
end
end K13
namespace K10
section
variable {G:GS}
noncomputable def uO:IS:=(.seq (.drop (.call wq (.cons (.v 0) (.cons (.v 1) .nil)))) (.ret (.c 4 [(3,2)] [1,2] Y .seq (.call wy (.cons (.v 0) (.cons (.v 1) .nil))) (.L (.bl Y)) (.tup (.cons (.ix (.ix (.v 3) (.v 1)) (.L (.int 0))) (.cons (.b .eq (.ix (.ix (.v 3) (.v 1)) (.L (.int 1))) (.v 2)) .nil))))))
end
end K10
namespace K13
section
variable {G:GS}
def sdO(sp:List Spot)(j:Nat×Nat×Bool):Nat:=(if j.2.2 then 2 else 0)+(mM sp j.1 j.2.2).toNat
noncomputable def bt(b k:Nat):Bool:=b / 2 ^ k % 2 == 1
def aFX{T:Table}{sp:List Spot}(S:aq T 1 1 sp){k:Nat}{l:Bool}(hk:k<sp.length):∃s,sp[k]?=O s/\mM sp k l=if (if l then s.n else s.e) then 0 else 1:=by
 have hs:=su hk;have hm:=w9 hk;have h1:=S.xlt hm;have h2:=S.ylt hm;refine⟨sp[k],hs,?_⟩;rw[DP hs];unfold xI yM;have e1:(sp[k]).x=0:=by lia
 have e2:(sp[k]).y=0:=by lia
 rw[e1,e2];cases l;cases (sp[k]).e<;>rfl
 cases (sp[k]).n<;>rfl
def aAc{T:Table}{sp:List Spot}(S:aq T 1 1 sp){k:Nat}{l:Bool}(hk:k<sp.length):mM sp k l=0\/mM sp k l=1:=by obtain⟨s,_,e⟩:=aFX S (l:=l) hk;rw[e];generalize (if l then s.n else s.e)=q;cases q;exact .inr rfl;exact .inl rfl
def CY{T:Table}{sp:List Spot}(S:aq T 1 1 sp){j:Nat×Nat×Bool}(hk:j.1<sp.length):sdO sp j<4:=by unfold sdO;rcases aAc S (l:=j.2.2) hk with e|e<;>rw[e]<;>split<;>decide
def DL{T:Table}{sp:List Spot}(S:aq T 1 1 sp){j:Nat×Nat×Bool}(z:j.1<sp.length){k:Nat}(hk:k<4):eJ sp (decide (1<k)) ((k % 2:Nat):Int) j=(sdO sp j == k):=by
 unfold eJ sdO;have:k=0\/k=1\/k=2\/k=3:=by lia
 rcases aAc S (l:=j.2.2) z with e|e<;>rw[e]<;>(generalize j.2.2=b;rcases this with rfl|rfl|rfl|rfl<;>cases b<;>rfl)
def pw{k:Nat}(h:k<4):atI ([.int 1,.int 2,.int 4,.int 8]:List D) (k:Int)=O (.int ((2 ^ k:Nat):Int)):=by
 have:k=0\/k=1\/k=2\/k=3:=by lia
 rcases this with rfl|rfl|rfl|rfl<;>rfl
def ZR{k:Nat}(h:k<4):0<2 ^ k/\2 ^ k<16:=by
 have:k=0\/k=1\/k=2\/k=3:=by lia
 rcases this with rfl|rfl|rfl|rfl<;>decide
def QK{x y:IE}{b k:Nat}(hk:k<4)(h1:ev G x B=O (.int (b:Nat)))(h2:ev G y B=O (.int (k:Nat))):ev G (.b .mod (.b .fdiv x (.ix (.lst (.cons (.L (.int 1)) (.cons (.L (.int 2)) (.cons (.L (.int 4)) (.cons (.L (.int 8)) .nil))))) y)) (.L (.int 2))) B=O (.int ((b / 2 ^ k % 2:Nat):Int)):=by obtain⟨p1,p2⟩:=ZR hk;have m2:af .mod (.int ((b / 2 ^ k:Nat):Int)) (.int 2)=O (.int ((b / 2 ^ k % 2:Nat):Int)):=oH (b:=2) y8;rw[bA,bA,h1,aAC,QH,h2];simp only[yw,pw hk,EZ p1 (show 2 ^ k<1000000 by lia),m2]
noncomputable def aGz:IS:=(.g (.b .eq (.b .mod (.b .fdiv (.v 1) (.ix (.lst (.cons (.L (.int 1)) (.cons (.L (.int 2)) (.cons (.L (.int 4)) (.cons (.L (.int 8)) .nil))))) (.v 2))) (.L (.int 2))) (.L (.int 1))) (.set 0 (.call "cut" (.cons (.v 0) (.cons (.b .gt (.v 2) (.L (.int 1))) (.cons (.b .mod (.v 2) (.L (.int 2))) .nil))))) .nop)
def aDd:IS:=(.seq (.loop [2] J .rng (.tup (.cons (.L (.int 4)) .nil)) aGz) (.ret (.v 0)))
def lef(sp:List Spot)(c n b:Nat):List (Nat×Nat×Bool):=(ba c n n).filter λj=>!bt b (sdO sp j)
def aGb{T:Table}{F:List D}{sp:List Spot}(hc:1<=c)(ao:c*r<=64)(S:aq T 1 1 sp)(hs:sp.length=c*r) (hct:∀(aa:List (Nat×Nat)) (l:Bool) (n:Int),0<=n->n<=1->aa.length<=900000->G.fn "cut" [aL c r 1 1 T F (aa.map pD),.bl l,.int n]=O (.ok (aL c r 1 1 T F ((aa++fL c (c*r) sp aa l n).map pD)))) (b:Nat):∃aa:List (Nat×Nat),bC G 3 aDd [aL c r 1 1 T F [],.int (b:Nat)]=O (.ok (aL c r 1 1 T F (aa.map pD)))/\Pg.left c (c*r) aa=lef sp c (c*r) b:=by
 obtain⟨B',e,aa,s2,_,hl,rfl⟩:=mX (bind:=bB [2] J) (body:=ex G aGz) (λk B=>∃(aa:List (Nat×Nat)) (s2:Sl),aa.length<=1000*k/\Pg.left c (c*r) aa=(ba c (c*r) (c*r)).filter (λj=>!(decide (sdO sp j<k)&&bt b (sdO sp j)))/\B=[.im (aL c r 1 1 T F (aa.map pD)),.im (.int (b:Nat)),s2]) (n:=4) (B:=[.im (aL c r 1 1 T F []),.im (.int (b:Nat)),.un]) ⟨[],.un,t9 _,by rw[LW];exact(List.filter_eq_self.mpr λj _=>rfl).symm,rfl⟩ (by
  rintro k hk B ⟨aa,s2,hsv,hl,rfl⟩;refine⟨[.im (aL c r 1 1 T F (aa.map pD)),.im (.int (b:Nat)),.im (.int (k:Nat))],rfl,?_⟩;have f7:ev G (.b .eq (.b .mod (.b .fdiv (.v 1) (.ix (.lst (.cons (.L (.int 1)) (.cons (.L (.int 2)) (.cons (.L (.int 4)) (.cons (.L (.int 8)) .nil))))) (.v 2))) (.L (.int 2))) (.L (.int 1))) (view [.im (aL c r 1 1 T F (aa.map pD)),.im (.int (b:Nat)),.im (.int (k:Nat))])=O (.bl (bt b k)):=by rw[bA,QK (b:=b) (k:=k) hk rfl rfl];show af .eq (.int _) (.int ((1:Nat):Int))=_;rw[WZ,vI];rfl
  cases q:bt b k with
  |false=>refine⟨_,cC (by rw[f7,q]) aW,aa,_,yx,?_,rfl⟩;rw[hl];refine filter_congr λj I=>?_;by_cases e:sdO sp j=k;rw[e,q,Bool.and_false,Bool.and_false];rw[decide_eq_decide.mpr (show sdO sp j<k+1↔sdO sp j<k by lia)]
  |true=>
   have z:=hct aa (decide (1<k)) ((k % 2:Nat):Int) yx yx yx;refine⟨_,hZ (by rw[f7,q]) (aO (d:=aL c r 1 1 T F ((aa++fL c (c*r) sp aa (decide (1<k)) ((k % 2:Nat):Int)).map pD)) ?_),_,_,?_,?_,rfl⟩;have m2:af .mod (.int ((k:Nat):Int)) (.int 2)=O (.int ((k % 2:Nat):Int)):=oH (b:=2) y8;have g1:af .gt (.int ((k:Nat):Int)) (.int 1)=O (.bl (decide (1<k))):=by rw[aCt];exact congrArg (λb=>O (D.bl b)) (decide_eq_decide.mpr yx)
   rw[dR,aV,aV,aV,bA,bA];simp only[yw];simp only[aCt]at g1;rw[m2];simp only[aA,zz,yy,g1,z];rw[D.bl.inj (u4 g1),z];rfl;rw[um];have:(fL c (c*r) sp aa (decide (1<k)) ((k % 2:Nat):Int)).length<=1000:=by unfold fL;rw[t8];refine ug (length_filter_le _ _) (ug (length_filter_le _ _) ?_);exact ug (fP (c*r)) yx
   lia;rw[LX,hl,List.filter_filter];refine filter_congr λj I=>?_;rw[DL S (by rw[hs];exact(fO hc I).1) hk];by_cases e:sdO sp j=k;rw[e,q,beq_self_eq_true,uv (show k<k+1 by lia)];rfl;rw[beq_false_of_ne e,decide_eq_decide.mpr (show sdO sp j<k+1↔sdO sp j<k by lia)];rfl)
 refine⟨aa,aK (B:=[.im (aL c r 1 1 T F []),.im (.int (b:Nat)),.un]) rfl (aG ((bS (d:=.tup [.int ((4:Nat):Int)]) rfl (cY y8)).trans e) (aR rfl)),?_⟩;rw[hl];refine filter_congr λj I=>?_;rw[uv (CY S (by rw[hs];exact(fO hc I).1)),Bool.true_and]
noncomputable def RH:IS:=(.seq (.g (.b .lt (.b .mod (.v 3) (.v 0)) (.b .sub (.v 0) (.L (.int 1)))) (.app 2 (.tup (.cons (.v 3) (.cons (.b .add (.v 3) (.L (.int 1))) (.cons (.L (.bl J)) .nil))))) .nop) (.g (.b .lt (.b .fdiv (.v 3) (.v 0)) (.b .sub (.v 1) (.L (.int 1)))) (.app 2 (.tup (.cons (.v 3) (.cons (.b .add (.v 3) (.v 0)) (.cons (.L (.bl Y)) .nil))))) .nop))
def AZ:IS:=(.seq (.setm 2) (.seq (.loop [3] J .rng (.tup (.cons (.b .mul (.v 0) (.v 1)) .nil)) RH) (.σ 2)))
def LL{k:Nat}(hc:1<=c)(hr:1<=r):decide (((k / c:Nat):Int)<(r:Int)-1)=decide (k+c<c*r):=by refine decide_eq_decide.mpr ?_;have:=Nat.div_lt_iff_lt_mul (x:=k+c) (k:=c) (y:=r) hc;rw[Nat.add_div_right _ hc,Nat.mul_comm r c]at this;lia
def XB(hc:1<=c)(hr:1<=r)(I:c*r<=64)(z:c<=64):bC G 4 AZ [.int c,.int r]=O (.ok (.lst ((ba c (c*r) (c*r)).map fe))):=by
 obtain⟨B',l,s3,rfl⟩:=mX (bind:=bB [3] J) (body:=ex G RH) (λk B=>∃s3,B=[.im (.int c),.im (.int r),.mu (.lst ((ba c (c*r) k).map fe)),s3]) (n:=c*r) (B:=[.im (.int c),.im (.int r),.mu (.lst []),.un]) ⟨_,rfl⟩ (by
  rintro k hk B ⟨s3,rfl⟩;have hl:=fP (c:=c) (n:=c*r) k;refine⟨[.im (.int c),.im (.int r),.mu (.lst ((ba c (c*r) k).map fe)),.im (.int (k:Nat))],rfl,_,aG (jL (b:=decide (k % c<c-1)) (d:=fe (k,k+1,J)) ?_ ?_ rfl (by rw[t8];lia)) (jL (b:=decide (k+c<c*r)) (d:=fe (k,k+c,Y)) ?_ ?_ rfl ?_),.im (.int k),?_⟩;simp only[yw,oH hc,FB hc];simp only[yw];rfl;simp only[List.set];simp only[yw,EZ hc (show c<1000000 by lia),LL hc hr];simp only[List.set];simp only[yw];rfl;rw[um,t8];split<;>simp<;>lia
  simp only[List.set,pE,vn,u6,DO])
 refine aK (B:=[.im (.int c),.im (.int r),.un,.un]) rfl (aG iQ (aG ((bS (d:=.tup [.int ((c*r:Nat):Int)]) ?_ (cY yx)).trans l) (iR rfl)));simp only[List.set];simp only[yw,kC (show c<=1000000 by lia)]
noncomputable def aAF:IS:=(.put 4 (.v 5) (.tup (.cons (.v 6) (.cons (.v 7) .nil))))
noncomputable def FH:IS:=(.seq (.t [6,7] (.ixd 4 (.v 9))) (.seq (.set 12 (.q (.tr (.v 11)) (.b .add (.ρ .int (.cons (.not (.tr (.v 7))) .nil)) (.L (.int 2))) (.ρ .int (.cons (.not (.tr (.v 6))) .nil)))) (.g (.b .eq (.b .mod (.b .fdiv (.v 3) (.ix (.lst (.cons (.L (.int 1)) (.cons (.L (.int 2)) (.cons (.L (.int 4)) (.cons (.L (.int 8)) .nil))))) (.v 12))) (.L (.int 2))) (.L (.int 0))) (.app 8 (.tup (.cons (.v 9) (.cons (.v 10) (.cons (.v 12) .nil))))) .nop)))
def AV:IS:=(.seq (.setd 4) (.seq (.loop [5,6,7] Y .seq (.v 0) aAF) (.seq (.setm 8) (.seq (.loop [9,10,11] Y .seq (.call yi (.cons (.v 1) (.cons (.v 2) .nil))) FH) (.σ 8)))))
noncomputable def enD(v:Bool×Bool):D:=.tup [.bl v.1,.bl v.2]
def tyD(sp:List Spot)(j:Nat×Nat×Bool):D:=.tup [.int j.1,.int j.2.1,.int (sdO sp j:Nat)]
noncomputable def fy(h:D)(c r b:Nat)(kvs:List (Int×D))(s5 s6 I s8 z jd jc dw:Sl):List Sl:=[.im h,.im (.int c),.im (.int r),.im (.int (b:Nat)),.mu (.dct kvs),s5,s6,I,s8,z,jd,jc,dw]
def SE{T:Table}{sp:List Spot}(hc:1<=c)(ao:c*r<=64)(S:aq T 1 1 sp)(hs:sp.length=c*r)(hnr:G.fn yi [.int c,.int r]=O (.ok (.lst ((ba c (c*r) (c*r)).map fe))))(b:Nat):bC G 13 AV [hE (aj T 0 0),.int c,.int r,.int (b:Nat)]=O (.ok (.lst ((lef sp c (c*r) b).map (tyD sp)))):=by
 have lh:(aj T 0 0).length<=64:=by rw[(iU S).1];exact S.len
 obtain⟨kvs,t5,t6,t7,e,hv⟩:=uZ (G:=G) (b:=aAF) (tg:=[5,6,7]) (fr:=λkvs s5 I z=>fy (hE (aj T 0 0)) c r b kvs s5 I z .un .un .un .un .un) (enc:=enD) (λ_ _ _ _ _=>rfl) (λx kvs h=>lT (d:=enD x.2) (i:=x.1) rfl rfl rfl h) (aj T 0 0) [] .un .un .un (by rw[length_nil];lia);have at_:∀(k:Nat) (s:Spot),sp[k]?=O s->bL kvs k=O (enD (s.e,s.n)):=λk s h=>EH S hv h;have hX:=fP (c:=c) (n:=c*r) (c*r);have go:∀(L:List (Nat×Nat×Bool)) (out:List (Nat×Nat×Bool)) (I z s9 jd jc dw:Sl),(∀j∈L,j.1<sp.length)->out.length+L.length<=900000->∃s6' s7' s9' s10' s11' s12',bT (bB [9,10,11] Y) (ex G FH) (L.map fe) (fy (hE (aj T 0 0)) c r b kvs t5 I z (.mu (.lst (out.map (tyD sp)))) s9 jd jc dw)=O (.nx (fy (hE (aj T 0 0)) c r b kvs t5 s6' s7' (.mu (.lst ((out++L.filter λj=>!bt b (sdO sp j)).map (tyD sp)))) s9' s10' s11' s12')):=by
  intro L;induction L with
  |nil=>intro out I z s9 jd jc dw _ _;exact⟨I,z,s9,jd,jc,dw,by rw[List.filter_nil,uq];rfl⟩
  |cons j L ih=>
   intro out I z s9 jd jc dw hb hl;rw[vm]at hl;have hj:=hb j vi;obtain⟨s,h1,h2⟩:=aFX S (l:=j.2.2) hj;have h4:=CY S hj;have hsd:((sdO sp j:Nat):Int)=if j.2.2 then(if s.n then 0 else 1)+2 else if s.e then 0 else 1:=by
    unfold sdO;rw[h2];cases j.2.2;cases s.e<;>rfl
    cases s.n<;>rfl
   have st:ex G FH (fy (hE (aj T 0 0)) c r b kvs t5 I z (.mu (.lst (out.map (tyD sp)))) (.im (.int j.1)) (.im (.int j.2.1)) (.im (.bl j.2.2)) dw)=O (.nx (fy (hE (aj T 0 0)) c r b kvs t5 (.im (.bl s.e)) (.im (.bl s.n)) (.mu (.lst ((out++if !bt b (sdO sp j) then [j] else []).map (tyD sp)))) (.im (.int j.1)) (.im (.int j.2.1)) (.im (.bl j.2.2)) (.im (.int (sdO sp j:Nat))))):=by
    refine aG (B':=fy (hE (aj T 0 0)) c r b kvs t5 (.im (.bl s.e)) (.im (.bl s.n)) (.mu (.lst (out.map (tyD sp)))) (.im (.int j.1)) (.im (.int j.2.1)) (.im (.bl j.2.2)) dw) (yF.trans ?_) (aG (B':=fy (hE (aj T 0 0)) c r b kvs t5 (.im (.bl s.e)) (.im (.bl s.n)) (.mu (.lst (out.map (tyD sp)))) (.im (.int j.1)) (.im (.int j.2.1)) (.im (.bl j.2.2)) (.im (.int (sdO sp j:Nat)))) ((aO (d:=.int (sdO sp j:Nat)) ?_).trans rfl) ((jL (b:=!bt b (sdO sp j)) (d:=tyD sp j) (ds:=out.map (tyD sp)) ?_ rfl rfl (by rw[t8];lia)).trans ?_));show ((bL kvs (j.1:Int)).bind λd=>(bB [6,7] Y d _).map Out.nx)=_;rw[at_ _ s h1];rfl;rw[hsd];cases j.2.2;cases s.e<;>rfl
    cases s.n<;>rfl
    rw[bA,QK (b:=b) (k:=sdO sp j) h4 rfl rfl];show af .eq (.int _) (.int ((0:Nat):Int))=_;rw[WZ,vI];unfold bt;have:b / 2 ^ sdO sp j % 2=0\/b / 2 ^ sdO sp j % 2=1:=by lia
    rcases this with e|e<;>rw[e]<;>rfl
    unfold fy;simp only[List.set];cases !bt b (sdO sp j)<;>simp
   obtain⟨a6,a7,a9,a10,a11,a12,e⟩:=ih (out++if !bt b (sdO sp j) then [j] else []) (.im (.bl s.e)) (.im (.bl s.n)) (.im (.int j.1)) (.im (.int j.2.1)) (.im (.bl j.2.2)) (.im (.int (sdO sp j:Nat))) (λj m=>hb j (tw _ m)) (by rw[um];split<;>simp<;>lia);refine⟨a6,a7,a9,a10,a11,a12,?_⟩;have ef:out++(j::L).filter (λj=>!bt b (sdO sp j))=(out++if !bt b (sdO sp j) then [j] else [])++L.filter λj=>!bt b (sdO sp j):=by cases q:!bt b (sdO sp j);rw[List.filter_cons_of_neg (by rw[q];decide)];simp;rw[List.filter_cons_of_pos (by rw[q])];simp
   rw[ef,uu];unfold bT;show (ex G FH (fy (hE (aj T 0 0)) c r b kvs t5 I z (.mu (.lst (out.map (tyD sp)))) (.im (.int j.1)) (.im (.int j.2.1)) (.im (.bl j.2.2)) dw)).bind _=_;rw[st];exact e
 obtain⟨a6,a7,a9,a10,a11,a12,e2⟩:=go (ba c (c*r) (c*r)) [] t6 t7 .un .un .un .un (λj m=>by rw[hs];exact(fO hc m).1) (by rw[length_nil];lia);refine aK (B:=[.im (hE (aj T 0 0)),.im (.int c),.im (.int r),.im (.int (b:Nat)),.un,.un,.un,.un,.un,.un,.un,.un,.un]) rfl (aG oJ (aG ((bS (d:=hE (aj T 0 0)) rfl (show items .seq (hE (aj T 0 0))=O ((aj T 0 0).map du) from rfl)).trans e) (aG iQ (aG ((bS (d:=.lst ((ba c (c*r) (c*r)).map fe)) ?_ cM).trans e2) (iR rfl)))));unfold fy;simp only[List.set];simp only[yw,hnr]
end
end K13
namespace K09
section
variable {G:GS}
def aDt{x:Nat}{b:IE}:ev G (.ixd x b) B=(nI B x).bind λkvs=>(intOf (ev G b B)).bind λk=>bL kvs k:=id rfl
def YS{x:Nat}:ev G (.lend x) B=(nI B x).bind λkvs=>O (.int kvs.length):=id rfl
theorem enum_zip:∀(fs:List (Int×Bool)) (k:Nat),jN k (fs.map fD)=(fs.zipIdx k).map λq=>D.tup [.int (q.2:Nat),fD q.1]
 |[],_=>rfl
 |f::r,k=>by rw[uu,List.zipIdx_cons,uu,<-enum_zip r (k+1)];rfl
noncomputable def en(q:(Int×Bool)×Nat):Int×D:=(q.1.1,.tup [.int (q.2:Nat),.bl q.1.2])
def KA{kvs:List (Int×D)}{k:Int}{d:D}(h:∀I∈kvs,I.1≠k):gW kvs k d=kvs++[(k,d)]:=by unfold gW;refine if_neg λz=>?_;obtain⟨I,h1,h2⟩:=List.any_eq_true.mp z;exact h I h1 (of_decide_eq_true h2)
theorem JA:∀{kvs:List (Int×D)} {m:Nat} {k:Int} {d:D},(kvs.map (·.1)).Nodup->kvs[m]?=O (k,d)->bL kvs k=O d
 | (i,e)::r,0,k,d,_,h=>by cases h;unfold bL;rw[List.find?_cons_of_pos y9];rfl
 | (i,e)::r,m+1,k,d,nd,h=>by have h':r[m]?=O (k,d):=h;have nd:=nodup_cons.mp nd;have ne:i≠k:=λz=>nd.1 (by rw[z];exact ux.mpr ⟨(k,d),sq h',rfl⟩);unfold bL;rw[List.find?_cons_of_neg (by simpa using ne)];exact JA nd.2 h'
def XE{l:List Int}(nd:l.Nodup){k:Nat}{a:Int}(h:l[k]?=O a):∀b∈l.take k,b≠a:=λb hb z=>by
 have e:l=l.take k++a::l.drop (k+1):=by obtain⟨hi,ea⟩:=sj.mp h;rw[<-ea,<-List.drop_eq_getElem_cons hi,take_append_drop]
 rw[e]at nd;exact(List.nodup_append.mp nd).2.2 b hb a vi z
structure Full (fs:List (Int×Bool)):Prop where
 nd:(fs.map (·.1)).Nodup
 inn:∀f∈fs,0<=f.1/\f.1.toNat<fs.length
 all:∀j:Nat,j<fs.length->∃f∈fs,f.1=(j:Int)
def i7(fs:List (Int×Bool)):List (Int×D):=fs.zipIdx.map en
def prs(fs:List (Int×Bool)):List D:=(List.range fs.length).map λ(k:Nat)=>(bL (i7 fs) (k:Int)).getD .non
def qF{fs:List (Int×Bool)}:(i7 fs).map (·.1)=fs.map (·.1):=by unfold i7;rw[vq,show ((λx:Int×D=>x.1) ∘ en)=(λf:Int×Bool=>f.1) ∘ Prod.fst from rfl,<-vq,List.zipIdx_map_fst]
def EW{fs:List (Int×Bool)}(z:Full fs){f:Int×Bool}(h:fs[m]?=O f):bL (i7 fs) f.1=O (.tup [.int (m:Nat),.bl f.2]):=by refine JA (m:=m) (by rw[qF];exact z.nd) ?_;unfold i7;rw[sv,List.getElem?_zipIdx,h];simp[en]
def aBP{fs:List (Int×Bool)}(z:Full fs){f:Int×Bool}(h:fs[m]?=O f):atI (prs fs) f.1=O (.tup [.int (m:Nat),.bl f.2]):=by obtain⟨h0,h1⟩:=z.inn f (sq h);have e:(f.1.toNat:Int)=f.1:=Int.toNat_of_nonneg h0;have:=eL (xs:=prs fs) (k:=f.1.toNat) (x:=(bL (i7 fs) (f.1.toNat:Int)).getD .non) (by unfold prs;rw[sv,vk h1];rfl);rw[e,EW z h]at this;exact this
noncomputable def RG:IS:=(.put 2 (.ix (.v 4) (.L (.int 0))) (.tup (.cons (.v 3) (.cons (.ix (.v 4) (.L (.int 1))) .nil))))
def AY:IS:=(.seq (.drop (.call wq (.cons (.v 0) (.cons (.v 1) .nil)))) (.seq (.setd 2) (.seq (.loop [3,4] Y .enum (.call wy (.cons (.v 0) (.cons (.v 1) .nil))) RG) (.ret (.c 3 [(2,2)] [1] J .rng (.tup (.cons (.lend 2) .nil)) (.L (.bl Y)) (.ixd 2 (.v 1)))))))
def VS{fs:List (Int×Bool)}(hu:G.fn wq [p,.str x]=O (.ok .non))(kx:G.fn wy [p,.str x]=O (.ok (.lst (fs.map fD))))(I:Full fs)(hl:fs.length<=1000):bC G 5 AY [p,.str x]=O (.ok (.lst (prs fs))):=by
 have lz:fs.zipIdx.length=fs.length:=List.length_zipIdx;obtain⟨B',l,s3,s4,rfl⟩:=hV (enc:=λq:(Int×Bool)×Nat=>D.tup [.int (q.2:Nat),fD q.1]) (bind:=bB [3,4] Y) (body:=ex G RG) (λk B=>∃s3 s4,B=[.im p,.im (.str x),.mu (.dct ((fs.zipIdx.take k).map en)),s3,s4]) (L:=fs.zipIdx) (B:=[.im p,.im (.str x),.mu (.dct []),.un,.un]) ⟨_,_,rfl⟩ (by
  rintro k q hk B ⟨s3,s4,rfl⟩;have gp:(fs.map (·.1))[k]?=O q.1.1:=by rw[<-qF];unfold i7;rw[vq,sv,hk];rfl
  have hn:=XE I.nd gp;have mq:∀z∈(fs.zipIdx.take k).map en,z.1≠q.1.1:=λz mz=>by refine hn z.1 ?_;rw[<-qF];unfold i7;rw[<-map_take,<-map_take];exact ux.mpr ⟨z,mz,rfl⟩
  refine⟨[.im p,.im (.str x),.mu (.dct ((fs.zipIdx.take k).map en)),.im (.int (q.2:Nat)),.im (fD q.1)],rfl,_,lT (d:=.tup [.int (q.2:Nat),.bl q.1.2]) (i:=q.1.1) ?_ ?_ rfl ?_,.im (.int (q.2:Nat)),.im (fD q.1),?_⟩;unfold fD;simp only[yw,nY.2];unfold fD;simp only[yw,nY.1];rw[t8,v7];lia;rw[KA mq,vo,hk,vn];rfl)
 rw[w5]at l;refine aK (B:=[.im p,.im (.str x),.un,.un,.un]) rfl (aG (lU (d:=.non) ?_) (aG oJ (aG ((bS (d:=.lst (fs.map fD)) ?_ (ds:=fs.zipIdx.map λq=>D.tup [.int (q.2:Nat),fD q.1]) ?_).trans l) (aR ?_))));simp only[cO,dD,aY];simp only[yw,hu];simp only[List.set];simp only[yw,kx];show O (jN 0 (fs.map fD))=_;rw[enum_zip];refine bN (L:=List.range fs.length) (λ(k:Nat)=>D.int k) (λ(k:Nat)=>(bL (i7 fs) (k:Int)).getD .non) (s:=.tup [.int (fs.length:Nat)]) ?_ (cY yx) λk hk=>?_;rw[kZ,aV,YS];show O (D.tup [.int ((fs.zipIdx.map en).length:Nat)])=_;rw[t8,lz];obtain⟨f,hf,e⟩:=I.all k (vy.mp hk);obtain⟨m,hm⟩:=List.mem_iff_getElem?.mp hf;refine⟨[.un,.im (.int (k:Nat)),.mu (.dct (i7 fs))],rfl,by simp only[zz,yy],?_⟩;rw[aDt];show bL (i7 fs) (k:Int)=_;rw[<-e,EW I hm];rfl
def vC{h:dP}{f:Int×Bool}(hf:f∈b9 lv h):∃c∈h,f.1=2*c.1\/f.1=2*c.1+1:=by obtain⟨c,hc,hf⟩:=mem_flatMap.mp hf;refine⟨c,hc,?_⟩;unfold j9 at hf;rcases ui.mp hf with rfl|hf;dsimp only;split;exact .inl rfl;exact .inr rfl;rw[uh.mp hf];dsimp only;split;exact .inr rfl;exact .inl rfl
theorem OU{lv:Bool}:∀{h:dP},h.Pairwise (λa b=>a.1≠b.1)->((b9 lv h).map (·.1)).Nodup
 |[],_=>List.nodup_nil
 |c::h,hp=>by
  obtain⟨h1,h2⟩:=wa.mp hp;show ((j9 lv c++b9 lv h).map (·.1)).Nodup;rw[vn];refine List.nodup_append.mpr ⟨?_,OU h2,λa ha b hb z=>?_⟩;unfold j9;rw[uu,uu,map_nil];refine nodup_cons.mpr ⟨λz=>?_,nodup_cons.mpr ⟨λz=>(nomatch z),List.nodup_nil⟩⟩;have z:=uh.mp z;dsimp only at z;split at z<;>lia
  obtain⟨f,hf,rfl⟩:=ux.mp hb;obtain⟨c',gu,e⟩:=vC hf;obtain⟨g,hg,rfl⟩:=ux.mp ha;obtain⟨c2,I,e2⟩:=vC (h:=[c]) (lv:=lv) (f:=g) (by show g∈j9 lv c++[];rw[uq];exact hg);rw[uh.mp I]at e2;have:=h1 c' gu;lia
def kY{T:Table}{sp:List Spot}(S:aq T 1 1 sp)(hs:sp.length=n):Full (b9 lv (aj T 0 0))/\(b9 lv (aj T 0 0)).length=2*n:=by
 have z:(b9 lv (aj T 0 0)).length=2*n:=by rw[vD,(iU S).1,hs]
 refine⟨⟨OU ((S.lk.ord 0 0).imp λ{a b} h e=>?_),λf hf=>?_,λj hj=>?_⟩,z⟩;rw[e]at h;lia;rw[z];obtain⟨c,hc,e⟩:=vC hf;obtain⟨i,s,h1,_,_,rfl⟩:=(S.lk.mem 0 0 c).mp hc;have hi:=(sj.mp h1).1;dsimp only at e;lia;rw[z]at hj;have hk:j / 2<sp.length:=by lia
 have hm:=w9 hk;have:=S.xlt hm;have:=S.ylt hm;have hc:(((j / 2:Nat):Int),(sp[j / 2]).e,(sp[j / 2]).n)∈aj T 0 0:=(S.lk.mem 0 0 _).mpr ⟨j / 2,sp[j / 2],su hk,yx,yx,rfl⟩;have I:∀a b:Int×Bool,j9 lv (((j / 2:Nat):Int),(sp[j / 2]).e,(sp[j / 2]).n)=[a,b]->(a.1=j\/b.1=j)->∃f∈b9 lv (aj T 0 0),f.1=(j:Int):=λa b e h=>by rcases h with h|h;exact⟨a,mem_flatMap.mpr ⟨_,hc,by rw[e];simp⟩,h⟩;exact⟨b,mem_flatMap.mpr ⟨_,hc,by rw[e];simp⟩,h⟩
 refine I _ _ rfl ?_;dsimp only;split<;>lia
end
end K09
end Z
namespace T15
open PySem PySem.StrLaws PySem.Builtin PySem.Builtin.Str
variable {y x:Str}{limit c0:Nat}
noncomputable def fY(y:List Nat):List (List Nat)->List Nat
 |[]=>[]
 |[p]=>p
 |p::q::r=>p++(y++fY y (q::r))
def fB{y p q:List Nat}{r:List (List Nat)}:fY y (p::q::r)=p++(y++fY y (q::r)):=rfl
noncomputable def qJ(w:Nat):Nat->List (List Nat)->List Nat
 |_,[]=>[]
 |_,[_]=>[]
 |a,p::q::r=>(a+p.length)::qJ w (a+p.length+w) (q::r)
abbrev Run(x y:Str)(limit:Nat)(l:List Nat)(st:Array Nat×Nat):Array Nat×Nat:=(forIn l st (occBody x y x.length limit)).run
theorem lK{x y:Str}{limit:Nat}:∀(l m:List Nat) (st:Array Nat×Nat),Run x y limit (l++m) st=Run x y limit m (Run x y limit l st)
 |[],_,_=>rfl
 |a::l,m,st=>by show (forIn (a::(l++m)) st (occBody x y x.length limit)).run=_;unfold Run;rw[forIn_cons,forIn_cons];unfold occBody;split;exact lK l m _;exact lK l m _
theorem lJ{x y:Str}{limit:Nat}:∀(l:List Nat) (st:Array Nat×Nat),(∀i∈l,¬(st.2<=i/\At x y x.length i))->Run x y limit l st=st
 |[],_,_=>rfl
 |a::l,st,h=>by unfold Run;rw[forIn_cons];unfold occBody;split;rename_i hc;exact(h a vi ⟨hc.1.1.2,hc.1.2,hc.2⟩).elim;exact lJ l st λi z=>h i (tw _ z)
def TJ{a:Nat}{st:Array Nat×Nat}(h1:st.1.size<limit)(h2:st.2<=a)(h3:At x y x.length a):Run x y limit [a] st=(st.1.push a,a+y.length):=by unfold Run;rw[forIn_cons];unfold occBody;rw[if_pos ⟨⟨⟨h1,h2⟩,h3.1⟩,h3.2⟩];rfl
def RM{i:Nat}:At x y x.length i↔i+y.length<=x.length/\(x.cps.toList.drop i).take y.length=y.cps.toList:=by unfold At subAt;refine and_congr_right λh=>?_;rw[uw,<-toList_inj,toList_extract,List.extract_eq_take_drop];rw[Nat.add_sub_cancel_left]
def FN{i:Nat}{q:List Nat}(hy:y.cps.toList=c0::q)(h:At x y x.length i):x.cps.toList[i]?=O c0:=by
 have e:=(RM.mp h).2;rw[hy]at e;have:((x.cps.toList.drop i).take y.length)[0]?=O c0:=by rw[e];rfl
 rw[List.getElem?_take]at this;split at this;rw[getElem?_drop]at this;simpa using this;cases this
def len_list:x.length=x.cps.toList.length:=by rw[length_toList];rfl
theorem LC{x y:Str}{limit c0:Nat}{q:List Nat}(hy:y.cps.toList=c0::q):∀(parts:List (List Nat)) (a:Nat) (st:Array Nat×Nat),parts≠[]->(∀p∈parts,c0∉p)->a<=x.length->x.cps.toList.drop a=fY y.cps.toList parts->st.2<=a->st.1.size+parts.length<=limit ->(Run x y limit (range' a (x.length+1-a)) st).1.toList=st.1.toList++qJ y.length a parts
 |[],_,_,h,_,_,_,_,_=>(h rfl).elim
 |[p],a,st,_,hp,ha,hx,hs,hl=>by
  rw[lJ];unfold qJ;rw[uq];rintro i hi ⟨_,hA⟩;have hi:=List.mem_range'_1.mp hi;have e:=FN hy hA;have e2:(x.cps.toList.drop a)[i-a]?=O c0:=by rw[getElem?_drop,show a+(i-a)=i by lia];exact e
  rw[hx]at e2;exact hp p vi (sq e2)
 |p::p2::r,a,st,_,hp,ha,hx,hs,hl=>by
  have hw:1<=y.length:=by rw[len_list,hy,vm];lia
  have hlen:x.length-a=p.length+(y.length+(fY y.cps.toList (p2::r)).length):=by have:=congrArg List.length hx;rw[w8,<-len_list]at this;rw[fB,um,um,<-len_list]at this;exact this
  have e:range' a (x.length+1-a)=range' a p.length++([a+p.length]++(range' (a+p.length+1) (y.length-1)++range' (a+p.length+y.length) (x.length+1-(a+p.length+y.length)))):=by
   have e1:range' (a+p.length+1) (y.length-1)++range' (a+p.length+y.length) (x.length+1-(a+p.length+y.length))=range' (a+p.length+1) (x.length-a-p.length):=by rw[show a+p.length+y.length=a+p.length+1+1*(y.length-1) by lia,List.range'_append];congr 1;lia
   have e2:[a+p.length]++range' (a+p.length+1) (x.length-a-p.length)=range' (a+p.length) (x.length-a-p.length+1):=by rw[List.range'_succ];rfl
   rw[e1,e2,show a+p.length=a+1*p.length by lia,List.range'_append];congr 1;lia
  have hd:x.cps.toList.drop (a+p.length)=y.cps.toList++fY y.cps.toList (p2::r):=by rw[<-drop_drop,hx,fB,drop_left]
  have I:x.cps.toList.drop (a+p.length+y.length)=fY y.cps.toList (p2::r):=by rw[<-drop_drop,hd,len_list,drop_left]
  have hA:At x y x.length (a+p.length):=RM.mpr ⟨yx,by rw[hd,len_list,List.take_left]⟩;have hsz:st.1.size<limit:=by simp only[vm]at hl;lia
  have n1:Run x y limit (range' a p.length) st=st:=lJ _ _ (by
   rintro i hi ⟨_,hB⟩;have hi:=List.mem_range'_1.mp hi;have e:=FN hy hB;have e2:(x.cps.toList.drop a)[i-a]?=O c0:=by rw[getElem?_drop,show a+(i-a)=i by lia];exact e
   rw[hx,fB,vt yx]at e2;exact hp p vi (sq e2))
  have n2:Run x y limit (range' (a+p.length+1) (y.length-1)) (st.1.push (a+p.length),a+p.length+y.length)=(st.1.push (a+p.length),a+p.length+y.length):=lJ _ _ (by rintro i hi ⟨hf,_⟩;have hi:=List.mem_range'_1.mp hi;have hf:a+p.length+y.length<=i:=hf;lia);rw[e,lK,n1,lK,TJ hsz yx hA,lK,n2,LC hy (p2::r) (a+p.length+y.length) _ (List.cons_ne_nil _ _) (λz hz=>hp z (tw _ hz)) yx I (t9 _) (by simp only[vm,Array.size_push]at hl ⊢;lia),Array.toList_push,u6];rfl
theorem jB{x y:Str}:∀(parts:List (List Nat)) (a:Nat),parts≠[]->a<=x.length->x.cps.toList.drop a=fY y.cps.toList parts->(partsFrom x y.length a (qJ y.length a parts)).map (λz=>z.cps.toList)=parts
 |[],_,h,_,_=>(h rfl).elim
 |[p],a,_,ha,hx=>by show [(strSub x a x.length).cps.toList]=[p];unfold strSub;rw[toList_extract,List.extract_eq_take_drop,hx];show [List.take _ p]=[p];have:=congrArg List.length hx;rw[w8,<-len_list]at this;unfold fY at this;rw[take_of_length_le yx]
 |p::p2::r,a,_,ha,hx=>by
  have hd:x.cps.toList.drop (a+p.length)=y.cps.toList++fY y.cps.toList (p2::r):=by rw[<-drop_drop,hx,fB,drop_left]
  have I:x.cps.toList.drop (a+p.length+y.length)=fY y.cps.toList (p2::r):=by rw[<-drop_drop,hd,len_list,drop_left]
  have hlen:x.length-a=p.length+(y.length+(fY y.cps.toList (p2::r)).length):=by have:=congrArg List.length hx;rw[w8,<-len_list]at this;rw[fB,um,um,<-len_list]at this;exact this
  show (strSub x a (a+p.length)).cps.toList::(partsFrom x y.length (a+p.length+y.length) (qJ y.length (a+p.length+y.length) (p2::r))).map (λz=>z.cps.toList)=_;rw[jB (p2::r) (a+p.length+y.length) (List.cons_ne_nil _ _) yx I];congr 1;unfold strSub;rw[toList_extract,List.extract_eq_take_drop,hx,fB,show a+p.length-a=p.length by lia,List.take_left]
theorem join_list(y:Str):∀(parts:List Str),(Str.join y parts).cps.toList=fY y.cps.toList (parts.map λz=>z.cps.toList)
 |[]=>rfl
 |[p]=>by rw[PyProof.Rows.join_one];rfl
 |p::q::r=>by rw[PyProof.Rows.join_cons_cons,PySem.W.KT.app_list,PySem.W.KT.app_list,join_list y (q::r),u6];rfl
def str_ext(h:x.cps.toList=y.cps.toList):x=y:=by cases x;cases y;exact congrArg Str.mk (toList_inj.mp h)
theorem HM{y:List Nat}:∀(parts:List (List Nat)),2<=parts.length->y.length<=(fY y parts).length
 |[],h=>absurd h y8
 |[_],h=>absurd h y9
 |p::q::r,_=>by rw[fB,um,um];lia
theorem QU{w:Nat}:∀(parts:List (List Nat)) (a:Nat),2<=parts.length->qJ w a parts≠[]
 |[],_,h=>absurd h y8
 |[_],_,h=>absurd h y9
 |_::_::_,_,_=>List.cons_ne_nil _ _
theorem pL{y:List Nat}(h:1<=y.length):∀(parts:List (List Nat)),parts.length<=(fY y parts).length+1
 |[]=>vz _
 |[_]=>Nat.le_add_left _ _
 |p::q::r=>by have:=pL h (q::r);rw[fB,um,um];simp only[vm]at this ⊢;lia
def LZ(x:Str):1<=Builtin.Str.strKind x:=by unfold Builtin.Str.strKind;split;exact t9 _;split<;>decide
theorem map_inj:∀(l m:List Str),l.map (λz=>z.cps.toList)=m.map (λz=>z.cps.toList)->l=m
 |[],[],_=>rfl
 |[],_::_,h=>nomatch h
 |_::_,[],h=>nomatch h
 |a::l,b::m,h=>by obtain⟨h1,h2⟩:=List.cons.inj h;rw[str_ext h1,map_inj l m h2]
def split_join{q:List Nat}(hy:y.cps.toList=c0::q)(hk:Builtin.Str.strKind y=1){I:List Str}(hn:I≠[])(hp:∀p∈I,c0∉p.cps.toList):Txt.split (Str.join y I) y=I:=by
 have hx:=join_list y I
 have hw:1<=y.length:=by rw[len_list,hy,vm];lia
 have hocc:occurrences (Str.join y I) y 0 (Str.join y I).length ((Str.join y I).length+1)=qJ y.length 0 (I.map λz=>z.cps.toList):=by
  rw[occ_eq];refine(LC hy (I.map λz=>z.cps.toList) 0 (#[],0) (by simpa using hn) (λp hpp=>?_) (vz _) (by rw[drop_zero];exact hx) (t9 _) ?_).trans rfl
  .obtain⟨z,hz,rfl⟩:=ux.mp hpp;exact hp z hz
  .have:=pL (y:=y.cps.toList) (by rw[<-len_list];exact hw) (I.map λz=>z.cps.toList)
   rw[<-hx,<-len_list]at this;rw[t8]at this ⊢;show 0+I.length<=_
   lia
 have hone:I.length=1->[Str.join y I]=I:=λh=>by
  match I,h with
  |[p],_=>rw[PyProof.Rows.join_one]
 unfold Txt.split
 by_cases h2:2<=I.length
 .rw[if_neg,hocc,if_neg,partsBetween_eq]
  .have e:=jB (x:=Str.join y I) (y:=y) (I.map λz=>z.cps.toList) 0 (by simpa using hn) (vz _) (by rw[drop_zero];exact hx)
   have inj:∀(l m:List Str),l.map (λz=>z.cps.toList)=m.map (λz=>z.cps.toList)->l=m:=map_inj
   exact inj _ _ e
  .intro h;exact QU (w:=y.length) (I.map λz=>z.cps.toList) 0 (by rw[t8];exact h2) (List.isEmpty_iff.mp h)
  .intro h;rw[or_eq_true,ub,ub,hk]at h;have k:=LZ (Str.join y I)
   have l:=HM (y:=y.cps.toList) (I.map λz=>z.cps.toList) (by rw[t8];exact h2)
   rw[<-hx,<-len_list,<-len_list]at l;lia
 .have h1:I.length=1:=by
   have:0<I.length:=List.length_pos_iff.mpr hn
   lia
  split
  .exact hone h1
  split
  .exact hone h1
  .rename_i h;exact absurd (show (occurrences (Str.join y I) y 0 (Str.join y I).length ((Str.join y I).length+1)).isEmpty=Y by
    rw[hocc]
    match I,h1 with
    |[p],_=>rfl) h
end T15
namespace Z
open PySem Pg
variable {x a b y:Str}{c r n:Nat}{sd:Side}{B:List Sl}{L:List (Nat×Nat×Bool)}{K:wc}{sp:List Spot}{p:D}{T:Tx}{H:Hp}{S:Addr->Prop}{C:Addr}{N ps:List Str}{ds:List D}{P:wg}{w:World}{mg:wm}{base:Heap}{st:Stmt}{fd:we}
namespace K15
abbrev jA:Str:=", "
abbrev f9:Str:=" "
noncomputable def fN(over:Bool):Str:=if over then "over" else "under"
noncomputable def cL(k:Nat):Str:=toString (k:Int)
def wr(f:Fold):Str:=f.sd.str++f9++fN f.over++f9++cL f.k
def Ok9(f:Fold):Prop:=1<=f.k/\f.k<=999999999
def dy(x:Str):Prop:=∀c∈x.cps.toList,c<128
def nE(h:dy x):mf x=Y:=by unfold mf;rw[<-Array.all_toList,all_eq_true];exactλc hc=>uv (u7 (h c hc) y8)
def oM(a b:Str):(a++b).cps.toList=a.cps.toList++b.cps.toList:=PySem.W.KT.app_list a b
def kK(ha:dy a)(hb:dy b):dy (a++b):=λc hc=>by rw[oM]at hc;exact(wb.mp hc).elim (ha c) (hb c)
def DN(k:Nat):(cL k).cps.toList=(toDigits 10 k).map Char.toNat:=PySem.W.KIN.signs_num k
def oE{k:Nat}(h:c∈(cL k).cps.toList):48<=c/\c<=57:=by rw[DN]at h;obtain⟨ch,z,rfl⟩:=ux.mp h;exact PyProof.Rows.digit_range (Nat.isDigit_of_mem_toDigits y8 y8 z)
def FP(k:Nat):dy (cL k):=λc hc=>by have:=oE hc;lia
def RN(sd:Side):dy sd.str:=by cases sd<;>(unfold dy;decide +kernel)
def ZA(b:Bool):dy (fN b):=by cases b<;>(unfold dy;decide +kernel)
def RO:dy f9:=by unfold dy;decide +kernel
def ZC:dy jA:=by unfold dy;decide +kernel
def aDJ(f:Fold):dy (wr f):=kK (kK (kK (kK (RN _) RO) (ZA _)) RO) (FP _)
theorem zB{y:Str}(hy:dy y):∀{ps:List Str},(∀p∈ps,dy p)->dy (Str.join y ps)
 |[],_=>λc hc=>nomatch (show c∈([]:List Nat) from hc)
 |[p],h=>by rw[PyProof.Rows.join_one];exact h p vi
 |p::q::r,h=>by rw[PyProof.Rows.join_cons_cons];exact kK (kK (h p vi) hy) (zB hy λz hz=>h z (tw _ hz))
def CW:32∉sd.str.cps.toList/\44∉sd.str.cps.toList:=by cases sd<;>decide +kernel
def IX{b:Bool}:32∉(fN b).cps.toList/\44∉(fN b).cps.toList:=by cases b<;>decide +kernel
def LG{k:Nat}:32∉(cL k).cps.toList/\44∉(cL k).cps.toList:=⟨λh=>by have:=oE h;lia,λh=>by have:=oE h;lia⟩
def BU:f9.cps.toList=32::[]:=y7
def TC:jA.cps.toList=44::[32]:=y7
def aEk{f:Fold}:44∉(wr f).cps.toList:=by unfold wr;simp only[oM,BU,wb,not_or];exact⟨⟨⟨⟨CW.2,y8⟩,IX.2⟩,y8⟩,LG.2⟩
def rT{F:List Fold}(h:F≠[]):Txt.split (Str.join jA (F.map wr)) jA=F.map wr:=T15.split_join TC y7 (by simpa using h) λp hp=>by obtain⟨f,_,rfl⟩:=ux.mp hp;exact aEk
def SA(f:Fold):wr f=Str.join f9 [f.sd.str,fN f.over,cL f.k]:=by rw[PyProof.Rows.join_cons_cons,PyProof.Rows.join_cons_cons,PyProof.Rows.join_one];refine T15.str_ext ?_;unfold wr;simp only[oM,u6]
def JK(f:Fold):Txt.split (wr f) f9=[f.sd.str,fN f.over,cL f.k]:=by rw[SA];refine T15.split_join BU y7 y9 λp hp=>?_;simp only[ui,vp,or_false]at hp;rcases hp with rfl|rfl|rfl;exact CW.1;exact IX.1;exact LG.1
def uF{k:Nat}(h:k<=999999999):(cL k).length<=9:=PyProof.Rows.toString_length_le (v:=(k:Int)) yx (k:=9) y8 yx
def NA(m:Nat):0<m->∃c r,toDigits 10 m=c::r/\c≠'0':=by
 induction m using Nat.strongRecOn with
 |_ m z=>
  intro hm;by_cases h:m<10;rw[Nat.toDigits_of_lt_base h];exact⟨_,[],rfl,by
   have:∀d:Nat,d<10->0<d->Nat.digitChar d≠'0':=y8
   exact this m h hm⟩
  have hr:m % 10<10:=Nat.mod_lt m y8;have t:toDigits 10 (m / 10)++toDigits 10 (m % 10)=toDigits 10 (10*(m / 10)+m % 10):=Nat.toDigits_append_toDigits y8 yx hr;rw[Nat.div_add_mod]at t;obtain⟨c,r,e,hc⟩:=z (m / 10) yx yx;exact⟨c,_,by rw[<-t,e];rfl,hc⟩
def LH{k:Nat}(h:0<k):∃c r,(cL k).cps.toList=c::r/\c≠48:=by obtain⟨c,r,e,hc⟩:=NA k h;refine⟨c.toNat,r.map Char.toNat,by rw[DN,e];rfl,λz=>hc ?_⟩;exact Char.ext (UInt32.toNat_inj.mp z)
noncomputable def uN:IS:=(.ret (.meth (.L (.str ", ")) "join" (.cons (.c 4 [] [1,2,3] Y .seq (.v 0) (.L (.bl Y)) (.call x6 (.cons (.v 1) (.cons (.v 2) (.cons (.v 3) .nil))))) .nil)))
noncomputable def iJ:IS:=(.seq (.set 3 (.q (.tr (.v 1)) (.L (.str "over")) (.L (.str "under")))) (.ret (.fst (.cons (.v 0) (.cons (.L (.str " ")) (.cons (.v 3) (.cons (.L (.str " ")) (.cons (.v 2) .nil))))))))
noncomputable def AX:IS:=(.seq (.g (.b .eq (.v 0) (.L (.str ""))) (.ret (.lst .nil)) .nop) (.ret (.c 2 [] [1] J .seq (.meth (.v 0) "split" (.cons (.L (.str ", ")) .nil)) (.L (.bl Y)) (.call yg (.cons (.v 1) .nil)))))
noncomputable def jH:IS:=(.seq (.set 1 (.meth (.v 0) "split" (.cons (.L (.str " ")) .nil))) (.seq (.g (.or (.b .ne (.ρ .len (.cons (.v 1) .nil)) (.L (.int 3))) (.or (.b .notin (.ix (.v 1) (.L (.int 0))) (.b .add (.o wu) (.o xt))) (.inC Y "WAYS" (.ix (.v 1) (.L (.int 1)))))) (.rse "NoWord") .nop) (.ret (.tup (.cons (.ix (.v 1) (.L (.int 0))) (.cons (.ixC "WAYS" (.ix (.v 1) (.L (.int 1)))) (.cons (.call xi (.cons (.ix (.v 1) (.L (.int 2))) .nil)) .nil)))))))
noncomputable def gR:IS:=(.seq (.g (.or (.not (.tr (.ρ .all (.cons (.c 2 [] [1] J .seq (.v 0) (.L (.bl Y)) (.b .isin (.v 1) (.o "FIGURES"))) .nil)))) (.b .gt (.ρ .len (.cons (.v 0) .nil)) (.o "MOST_FIGURES"))) (.rse "NoWord") .nop) (.seq (.g (.or (.b .eq (.v 0) (.L (.str ""))) (.tr (.meth (.v 0) "startswith" (.cons (.L (.str "0")) .nil)))) (.rse "NoWord") .nop) (.ret (.ρ .int (.cons (.v 0) .nil)))))
section
variable {G:GS}
def add_str(h:a.length+b.length<=1000000):af .add (.str a) (.str b)=O (.str (a++b)):=if_pos h
def wN:sd.str.length<=5:=by cases sd<;>decide +kernel
def CB{b:Bool}:(fN b).length<=5:=by cases b<;>decide +kernel
def RD:f9.length=1:=y7
def len_app:(a++b).length=a.length+b.length:=PySem.strLen_append a b
def XR{k:Nat}(h:k<=999999999):((k:Int)).natAbs.log2<1920:=by
 have e:((k:Int)).natAbs=k:=by lia
 rw[e];by_cases z:k=0;subst z;decide;exact u7 ((Nat.log2_lt z).mpr (lt_of_le_of_lt h (by decide:999999999<2 ^ 30))) y8
def tS{f:Fold}(h:Ok9 f):(wr f).length<=30:=by have h1:=wN (sd:=f.sd);have h2:=CB (b:=f.over);have h3:=uF h.2;have h4:=RD;unfold wr;simp only[len_app];lia
def YB{t:IE}{over:Bool}(h:ev G t B=O (.bl over)):ev G (.q (.tr t) (.L (.str "over")) (.L (.str "under"))) B=O (.str (fN over)):=by rw[mY,nQ,h];cases over<;>rfl
theorem empty_app(a:Str):Str.empty++a=a:=PySem.W.KT.empty_app a
def qX{f:Fold}(h:Ok9 f):bC G 4 iJ [.str f.sd.str,.bl f.over,.int f.k]=O (.ok (.str (wr f))):=by refine aK (B:=[.im (.str f.sd.str),.im (.bl f.over),.im (.int f.k),.un]) rfl (aG (aO (YB rfl)) (aR ?_));show ((rC Str.empty [.str f.sd.str,.str f9,.str (fN f.over),.str f9,.int f.k]).map D.str)=_;have h1:=wN (sd:=f.sd);have h2:=CB (b:=f.over);have h3:=uF h.2;have h4:=RD;have hb:big=1000000:=rfl;have e1:zG (.int f.k)=O (cL f.k):=if_pos (XR h.2);unfold rC;rw[show zG (.str f.sd.str)=O f.sd.str from rfl,vg,empty_app,if_pos yx];unfold rC;rw[show zG (.str f9)=O f9 from rfl,vg,if_pos (by rw[len_app];lia)];unfold rC;rw[show zG (.str (fN f.over))=O (fN f.over) from rfl,vg,if_pos (by rw[len_app,len_app];lia)];unfold rC;rw[show zG (.str f9)=O f9 from rfl,vg,if_pos (by rw[len_app,len_app,len_app];lia)];unfold rC;rw[e1,vg,if_pos (by rw[len_app,len_app,len_app,len_app];lia)];rfl
theorem strs_map{R:Type}{g:R->Str}:∀{L:List R},nH (L.map λa=>D.str (g a))=O (L.map g)
 |[]=>rfl
 |a::r=>by show (nH (r.map λa=>D.str (g a))).map (g a :: ·)=_;rw[strs_map];rfl
theorem JH:∀{F:List Fold},(∀f∈F,Ok9 f)->((F.map wr).map (·.length)).sum<=30*F.length
 |[],_=>t9 _
 |f::r,h=>by have h1:=tS (h f vi);have h2:=JH λz hz=>h z (tw _ hz);simp only[uu,List.sum_cons,vm];simp only[vq]at h2 ⊢;lia
def txt(F:List Fold):Str:=Str.join jA (F.map wr)
def ME{F:List Fold}(h:∀f∈F,Ok9 f)(hl:F.length<=1000):EO [.str jA,.lst (F.map λf=>D.str (wr f))]=O (.str (txt F)):=by
 show (nH _).bind _=_;rw[strs_map,vg,if_pos];rw[show Txt.join jA (F.map wr)=txt F from StrLaws.glued_eq_join jA (F.map wr)];have:=JH h;have e:jA.length=2:=y7
 have hb:big=1000000:=rfl;rw[t8,e];lia
def XX{e:IE}{F:List Fold}(h:∀f∈F,Ok9 f)(hl:F.length<=1000)(he:ev G e B=O (.lst (F.map λf=>D.str (wr f)))):ev G (.meth (.L (.str ", ")) "join" (.cons e .nil)) B=O (.str (txt F)):=by rw[kI,QI,vg];show (bG (ev G (.cons e .nil) B)).bind _=_;rw[aV,he,vg,qC,vg];exact ME h hl
def JQ(hs:∀f,Ok9 f->G.fn x6 [.str f.sd.str,.bl f.over,.int f.k]=O (.ok (.str (wr f)))){F:List Fold}(h:∀f∈F,Ok9 f)(hl:F.length<=1000):bC G 1 uN [.lst (F.map Fold.d)]=O (.ok (.str (txt F))):=by refine aK (B:=[.im (.lst (F.map Fold.d))]) rfl (aR (XX h hl ?_));refine bN (L:=F) Fold.d (λf=>D.str (wr f)) (s:=.lst (F.map Fold.d)) rfl rfl λf hf=>⟨[.un,.im (.str f.sd.str),.im (.bl f.over),.im (.int f.k)],rfl,rfl,?_⟩;rw[dR];show gF (G.fn x6 [.str f.sd.str,.bl f.over,.int f.k])=_;rw[hs f (h f hf)];rfl
def aDi(h0:48<=c)(h1:c<=57):af .isin (.str ⟨#[c]⟩) (.str "0123456789")=O (.bl Y):=by
 have:∀d:Nat,d<10->(Builtin.Str.occurrences ("0123456789":Str) ⟨#[48+d]⟩ 0 ("0123456789":Str).length 1).isEmpty=J:=y7
 have e:=this (c-48) yx;rw[show 48+(c-48)=c by lia]at e;show O (D.bl (!(Builtin.Str.occurrences ("0123456789":Str) ⟨#[c]⟩ 0 ("0123456789":Str).length 1).isEmpty))=_;rw[e];rfl
theorem FG{R:Type}:∀{L:List R},jO (L.map λ_=>D.bl Y)=O (L.map λ_=>Y)
 |[]=>rfl
 |a::r=>by show (jO (r.map λ_=>D.bl Y)).map (Y :: ·)=_;rw[FG];rfl
def aGI{R:Type}{L:List R}:IH [.lst (L.map λ_=>D.bl Y)]=O (.bl Y):=by show (jO _).map _=_;rw[FG];show O (D.bl ((L.map λ_=>Y).all id))=_;rw[all_eq_true.mpr (λb hb=>by obtain⟨_,_,rfl⟩:=ux.mp hb;rfl)]
def GD:fu "startswith" [.str x,.str y]=O (.bl (Txt.startswith x y)):=by unfold fu;rw[if_neg y7,if_neg y7,if_pos rfl];rfl
def wH(h:(y.length == 0)=J)(h2:x.length+2<=1000000):fu "split" [.str x,.str y]=O (.lst ((Txt.split x y).map .str)):=by unfold fu;rw[if_neg y7,if_pos rfl];exact if_pos ⟨h,h2⟩
def eq_str(h1:mf x=Y)(h2:mf y=Y):af .eq (.str x) (.str y)=O (.bl (x == y)):=by show oEq _ _=_;unfold oEq;rw[show plain (.str x)=Y from h1,show plain (.str y)=Y from h2];rfl
def GB{r:List Nat}(h:x.cps.toList=c::r)(hc:c≠48):Txt.startswith x "0"=J:=by
 unfold Txt.startswith Builtin.Str.subAt;rw[Bool.and_eq_false_iff];right;rw[Bool.eq_false_iff];intro z;rw[uw,<-toList_inj,toList_extract,h]at z;have e:("0":Str).cps.toList=[48]:=y7
 have l:("0":Str).length=1:=y7
 rw[e,l]at z;have z:[c]=[48]:=z;exact hc (List.cons.inj z).1
def IM(hf:G.cst "FIGURES"=O (.str "0123456789"))(hm:G.cst "MOST_FIGURES"=O (.int 9)){k:Nat}(h1:1<=k)(I:k<=999999999):bC G 1 gR [.str (cL k)]=O (.ok (.int k)):=by
 have hl:=uF I;have hb:big=1000000:=rfl;obtain⟨c,r,ec,hc⟩:=LH h1;refine aK (B:=[.im (.str (cL k))]) rfl (aG (cC ?_ aW) (aG (cC ?_ aW) (aR ?_)));show ev G _ [.im (.str (cL k))]=_;refine cD (x:=J) (y:=J) ?_ λ_=>?_;have e:ev G (.c 2 [] [1] J .seq (.v 0) (.L (.bl Y)) (.b .isin (.v 1) (.o "FIGURES"))) [.im (.str (cL k))]=O (.lst ((cL k).cps.toList.map λ_=>D.bl Y)):=by refine bN (L:=(cL k).cps.toList) (λc=>D.str ⟨#[c]⟩) (λ_=>D.bl Y) (s:=.str (cL k)) rfl (if_pos yx) λc hc=>⟨[.un,.im (.str ⟨#[c]⟩)],rfl,rfl,?_⟩;have:=oE hc;rw[bA,qD,hf];exact aDi this.1 this.2
 rw[QF,nQ,fC,aV,e];show ((((IH [.lst ((cL k).cps.toList.map λ_=>D.bl Y)]).bind λx=>(cv x).map D.bl).bind _):Option D)=_;rw[aGI];rfl;rw[bA,fC,qD,hm];show (IG [.str (cL k)]).bind _=_;rw[show IG [.str (cL k)]=O (.int (cL k).length) from if_pos yx];show O (D.bl (decide ((9:Int)<((cL k).length:Nat))))=_;rw[tj yx];show ev G _ [.im (.str (cL k))]=_;refine cD (x:=J) (y:=J) ?_ λ_=>?_;rw[bA];show af .eq (.str (cL k)) (.str "")=_;rw[eq_str (nE (FP k)) y7];have:(cL k == ("":Str))=J:=by rw[uz];intro z;rw[z]at ec;exact nomatch (show ([]:List Nat)=c::r from ec)
 rw[this];rw[nQ,kI];show ((fu "startswith" [.str (cL k),.str "0"]).bind λx=>(cv x).map D.bl)=_;rw[GD,GB ec hc];rfl;rw[fC];show QA [.str (cL k)]=_;have e:PySem.intText? (cL k)=O (k:Int):=PySem.W.KIN.num_reads (n:=(k:Int)) yx yx;show (if (cL k).length<=640 then(PySem.intText? (cL k)).map D.int else U)=_;rw[if_pos yx,e];rfl
noncomputable def MC:List (Str×D):=[("over",.bl Y),("under",.bl J)]
def aCu:af .notin (.str sd.str) (.tup [.str "west",.str "east",.str "north",.str "south"])=O (.bl J):=by
 show (if plain (.str sd.str) && [D.str "west",.str "east",.str "north",.str "south"].all plain then O (D.bl (![D.str "west",.str "east",.str "north",.str "south"].any λy=>bw y (.str sd.str))) else U)=_;rw[if_pos (by cases sd<;>decide +kernel)];have:([D.str "west",.str "east",.str "north",.str "south"].any λy=>bw y (.str sd.str))=Y:=by cases sd<;>decide +kernel
 rw[this];rfl
def aBl:af .add l5 nz=O (.tup [.str "west",.str "east",.str "north",.str "south"]):=rfl
def IZ{b:Bool}:MC.lookup (fN b)=O (.bl b):=by cases b<;>rfl
def YI(h1:G.cst wu = O l5)(h2:G.cst xt = O nz)(hw:G.dk "WAYS"=O MC)(hc:∀k:Nat,1<=k->k<=999999999->G.fn xi [.str (cL k)]=O (.ok (.int k))){f:Fold}(h:Ok9 f):bC G 2 jH [.str (wr f)]=O (.ok f.d):=by
 have hl:=tS h;have e0:ev G (.meth (.v 0) "split" (.cons (.L (.str " ")) .nil)) [.im (.str (wr f)),.un]=O (.lst [.str f.sd.str,.str (fN f.over),.str (cL f.k)]):=by rw[kI];show fu "split" [.str (wr f),.str f9]=_;rw[wH y7 yx,JK];rfl
 have z:∀s,ev G (.ix (.v 1) (.L (.int 0))) [s,.im (.lst [.str f.sd.str,.str (fN f.over),.str (cL f.k)])]=O (.str f.sd.str):=λ_=>rfl;have i1:∀s,ev G (.ix (.v 1) (.L (.int 1))) [s,.im (.lst [.str f.sd.str,.str (fN f.over),.str (cL f.k)])]=O (.str (fN f.over)):=λ_=>rfl;have i2:∀s,ev G (.ix (.v 1) (.L (.int 2))) [s,.im (.lst [.str f.sd.str,.str (fN f.over),.str (cL f.k)])]=O (.str (cL f.k)):=λ_=>rfl;refine aK (B:=[.im (.str (wr f)),.un]) rfl (aG (aO e0) (aG (cC ?_ aW) (aR ?_)));show ev G _ [.im (.str (wr f)),.im (.lst [.str f.sd.str,.str (fN f.over),.str (cL f.k)])]=_;refine cD (x:=J) (y:=J) rfl λ_=>cD (x:=J) (y:=J) ?_ λ_=>?_;rw[bA,z,bA,qD,qD,h1,h2];show ((af .add l5 nz).bind λy=>af .notin (.str f.sd.str) y)=_;rw[aBl];exact aCu;show (G.dk "WAYS").map (λkvs=>D.bl (Y != (kvs.lookup (fN f.over)).isSome))=_;rw[hw];show O (D.bl (Y != (MC.lookup (fN f.over)).isSome))=_;rw[IZ];rfl;show ev G _ [.im (.str (wr f)),.im (.lst [.str f.sd.str,.str (fN f.over),.str (cL f.k)])]=_;have w1:ev G (.ixC "WAYS" (.ix (.v 1) (.L (.int 1)))) [.im (.str (wr f)),.im (.lst [.str f.sd.str,.str (fN f.over),.str (cL f.k)])]=O (.bl f.over):=by show (G.dk "WAYS").bind (λkvs=>kvs.lookup (fN f.over))=_;rw[hw];exact IZ
 have I:ev G (.call xi (.cons (.ix (.v 1) (.L (.int 2))) .nil)) [.im (.str (wr f)),.im (.lst [.str f.sd.str,.str (fN f.over),.str (cL f.k)])]=O (.int f.k):=by rw[dR];show gF (G.fn xi [.str (cL f.k)])=_;rw[hc f.k h.1 h.2];rfl
 rw[kZ,aV,aV,aV,z,w1,I];rfl
theorem CG:∀{F:List Fold},(∀f∈F,Ok9 f)->(txt F).length<=32*F.length
 |[],_=>t9 _
 |[f],h=>by have:=tS (h f vi);show (Str.join jA [wr f]).length<=32;rw[PyProof.Rows.join_one];lia
 |f::g::r,h=>by
  have h1:=tS (h f vi);have h2:=CG (F:=g::r) λz hz=>h z (tw _ hz);have e:jA.length=2:=y7
  show (Str.join jA (wr f::wr g::r.map wr)).length<=_;rw[PyProof.Rows.join_cons_cons,len_app,len_app,e];simp only[vm]at h2 ⊢;have h2:(Str.join jA (wr g::r.map wr)).length<=32*(r.length+1):=h2;lia
def FO{F:List Fold}:dy (txt F):=zB ZC λp hp=>by obtain⟨f,_,rfl⟩:=ux.mp hp;exact aDJ f
def aAO{F:List Fold}(h:F≠[]):(txt F == ("":Str))=J:=by
 rw[uz];intro z;have e:=rT h;rw[show Str.join jA (F.map wr)=txt F from rfl,z]at e;have e2:Txt.split ("":Str) jA=[("":Str)]:=y7
 rw[e2]at e;match F,h with
 |f::r,_=>have e3:=(List.cons.inj e).1;have e4:=congrArg (λx:Str=>x.cps.toList) e3;unfold wr at e4;simp only[oM,BU]at e4;exact nomatch (List.append_eq_nil_iff.mp (List.append_eq_nil_iff.mp (List.append_eq_nil_iff.mp (List.append_eq_nil_iff.mp e4.symm).1).1).1).2
def TL(hr:∀f,Ok9 f->G.fn yg [.str (wr f)]=O (.ok f.d)){F:List Fold}(h:∀f∈F,Ok9 f)(hl:F.length<=1000):bC G 1 AX [.str (txt F)]=O (.ok (.lst (F.map Fold.d))):=by
 by_cases hn:F=[];subst hn;refine aK (B:=[.im (.str (txt []))]) rfl (gC (hZ ?_ (aR rfl)) λ_ z=>nomatch z);show af .eq (.str (txt [])) (.str "")=_;rw[eq_str (nE FO) y7];rfl;have tl:=CG h;refine aK (B:=[.im (.str (txt F))]) rfl (aG (cC ?_ aW) (aR ?_));show af .eq (.str (txt F)) (.str "")=_;rw[eq_str (nE FO) y7,aAO hn];have e:ev G (.meth (.v 0) "split" (.cons (.L (.str ", ")) .nil)) [.im (.str (txt F))]=O (.lst (F.map λf=>D.str (wr f))):=by rw[kI];show fu "split" [.str (txt F),.str jA]=_;rw[wH y7 yx,show Txt.split (txt F) jA=F.map wr from rT hn,vq];rfl
 refine bN (L:=F) (λf=>D.str (wr f)) Fold.d (s:=.lst (F.map λf=>D.str (wr f))) e rfl λf hf=>⟨[.un,.im (.str (wr f))],rfl,rfl,?_⟩;rw[dR];show gF (G.fn yg [.str (wr f)])=_;rw[hr f (h f hf)];rfl
end
end K15
open G11 Gp K11
namespace K16
section
variable {G:GS}
noncomputable def FL:IS:=(.set 3 (.call yt (.cons (.v 3) (.cons (.v 4) (.cons (.v 5) (.cons (.v 6) .nil))))))
def uU:IS:=(.seq (.set 3 (.call "laid" (.cons (.v 0) (.cons (.v 1) .nil)))) (.seq (.loop [4,5,6] Y .seq (.call "read" (.cons (.v 2) .nil)) FL) (.ret (.v 3))))
def RP{fs:List Fold}(hla:G.fn "laid" [.int c,.int r]=O (.ok (bR c r [])))(I:G.fn "read" [.str x]=O (.ok (.lst (fs.map Fold.d)))) (hfp:∀i f,fs[i]?=O f->G.fn yt [bR c r (fs.take i),.str f.sd.str,.bl f.over,.int f.k]=O (.ok (bR c r (fs.take i++[f])))):bC G 7 uU [.int c,.int r,.str x]=O (.ok (bR c r fs)):=by obtain⟨B',l,s4,s5,z,rfl⟩:=hV (enc:=Fold.d) (bind:=bB [4,5,6] Y) (body:=ex G FL) (λk B=>∃s4 s5 z,B=[.im (.int c),.im (.int r),.im (.str x),.im (bR c r (fs.take k)),s4,s5,z]) (L:=fs) (B:=[.im (.int c),.im (.int r),.im (.str x),.im (bR c r []),.un,.un,.un]) ⟨_,_,_,rfl⟩ (λk f hk B h=>by obtain⟨s4,s5,z,rfl⟩:=h;refine⟨[.im (.int c),.im (.int r),.im (.str x),.im (bR c r (fs.take k)),.im (.str f.sd.str),.im (.bl f.over),.im (.int f.k)],rfl,_,aO (d:=bR c r (fs.take (k+1))) ?_,_,_,_,rfl⟩;simp only[yw,hfp k f hk];rw[vo,hk];rfl);rw[w5]at l;refine aK (B:=[.im (.int c),.im (.int r),.im (.str x),.un,.un,.un,.un]) rfl (aG (aO (d:=bR c r []) ?_) (aG ((bS (d:=.lst (fs.map Fold.d)) ?_ cM).trans l) (aR rfl)));simp only[yw,hla];simp only[List.set];simp only[yw,I]
noncomputable def bkD(k:Nat):D:=.tup [.int (k:Nat),.bl Y]
noncomputable def RK:IS:=(.seq (.set 3 (.ix (.v 0) (.v 2))) (.seq (.g (.or (.not (.tr (.y (.v 3) "tuple"))) (.or (.b .ne (.ρ .len (.cons (.v 3) .nil)) (.L (.int 2))) (.not (.tr (.call x9 (.cons (.ix (.v 3) (.L (.int 0))) .nil)))))) (.ret (.L (.bl J))) .nop) (.g (.or (.b .ne (.ix (.v 3) (.L (.int 0))) (.v 2)) (.b .isnot (.ix (.v 3) (.L (.int 1))) (.L (.bl Y)))) (.ret (.L (.bl J))) .nop)))
def BD:IS:=(.seq (.g (.or (.not (.tr (.y (.v 0) "list"))) (.b .ne (.ρ .len (.cons (.v 0) .nil)) (.v 1))) (.ret (.L (.bl J))) .nop) (.seq (.loop [2] J .rng (.tup (.cons (.v 1) .nil)) RK) (.ret (.L (.bl Y)))))
def YX(hw:∀i:Int,G.fn x9 [.int i]=O (.ok (.bl Y)))(hn:n<=1000):bC G 4 BD [.lst ((List.range n).map bkD),.int n]=O (.ok (.bl Y)):=by obtain⟨B',h1,s,s3,rfl⟩:=sQ (bind:=bB [2] J) (body:=ex G RK) (λB=>∃s s3,B=[.im (.lst ((List.range n).map bkD)),.im (.int n),s,s3]) (ds:=(List.range n).map λ(k:Nat)=>D.int k) (B:=[.im (.lst ((List.range n).map bkD)),.im (.int n),.un,.un]) ⟨_,_,rfl⟩ (by rintro d hd B ⟨s,s3,rfl⟩;obtain⟨k,hk,rfl⟩:=ux.mp hd;have hk:=vy.mp hk;have e1:atI ((List.range n).map bkD) (k:Int)=O (bkD k):=eL (by rw[sv,vk hk];rfl);refine⟨[.im (.lst ((List.range n).map bkD)),.im (.int n),.im (.int (k:Nat)),s3],rfl,_,aG (aO (d:=bkD k) ?_) (aG (cC ?_ aW) (cC ?_ aW)),_,_,rfl⟩;simp only[yw,e1];simp only[List.set,cO,dD,aY];unfold bkD;refine cD (x:=J) (y:=J) (by simp only[yw,DV,eC,uo]) λ_=>cD (x:=J) (y:=J) ?_ λ_=>?_;simp only[yw];rfl;simp only[yw,nY.1,hw,eC,uo];simp only[List.set,cO,dD,aY];unfold bkD;refine cD (x:=J) (y:=J) ?_ λ_=>?_;simp only[yw,nY.1];exact ne_int;simp only[yw,nY.2];rfl);refine aK (B:=[.im (.lst ((List.range n).map bkD)),.im (.int n),.un,.un]) rfl (aG (cC ?_ aW) (aG ((bS (d:=.tup [.int (n:Int)]) (by simp only[yw]) (cY yx)).trans h1) (aR (by simp only[zz,yy]))));simp only[cO,dD,aY];refine cD (x:=J) (y:=J) (by simp only[yw,DW,eC,uo]) λ_=>?_;simp only[yw,t8,uc];exact ne_int
def alone{ts:List (Nat×Nat)}{l:G11.Nm}(gd:Good n ts l){k:Nat}(hk:k<n)(z:∀a b,(a,b)∈ts->a≠k/\b≠k):l k=k/\∀j,j<n->l j=k->j=k:=by
 have h:=gd.hang (λa=>if a=k then 1 else 0) λa b m=>by obtain⟨h1,h2⟩:=z a b m;rw[if_neg h1,if_neg h2]
 constructor;have:=h k hk;rw[if_pos rfl]at this;by_cases e:l k=k;exact e;rw[if_neg e]at this;cases this;intro j I e;have:=h j I;rw[if_pos e]at this;by_cases e':j=k;exact e';rw[if_neg e']at this;cases this
noncomputable def tds(L:List (Nat×Nat×Bool)):List Nat:=L.map (·.1)++L.map (·.2.1)
def yA(hb:∀j∈L,j.1<n/\j.2.1<n):(∃k,k<n/\(tds L).any (· == k)=J)↔∃g∈told n (eB (L.map pairOf) id),(g.any λa=>(tds L).any (· == a))=J:=by
 have gd:Good n (L.map pairOf) (eB (L.map pairOf) id):=iP λa b z=>by obtain⟨j,m,e⟩:=ux.mp z;cases e;exact hb j m
 constructor;rintro⟨k,hk,h⟩;have pz:∀a b,(a,b)∈L.map pairOf->a≠k/\b≠k:=λa b z=>by obtain⟨j,m,e⟩:=ux.mp z;cases e;rw[any_eq_false]at h;refine⟨λe=>h j.1 (wb.mpr (.inl (ux.mpr ⟨j,m,rfl⟩))) (uw.mpr e),λe=>h j.2.1 (wb.mpr (.inr (ux.mpr ⟨j,m,rfl⟩))) (uw.mpr e)⟩
 obtain⟨h1,h2⟩:=alone gd hk pz;refine⟨cells n (eB (L.map pairOf) id) k,ux.mpr ⟨k,K13.hG.mpr ⟨hk,h1⟩,rfl⟩,?_⟩;rw[any_eq_false];intro j hj;obtain⟨I,q2⟩:=K13.fT.mp hj;rw[h2 j I q2,h];decide;rintro⟨g,hg,h⟩;obtain⟨k,hk,rfl⟩:=ux.mp hg;obtain⟨h1,h2⟩:=K13.hG.mp hk;rw[any_eq_false]at h;refine⟨k,h1,?_⟩;have:=h k (K13.fT.mpr ⟨h1,h2⟩);cases e:(tds L).any (· == k) with
 |false=>rfl
 |true=>exact absurd e this
noncomputable def vU:IS:=(.g (.b .notin (.v 3) (.v 2)) (.ret (.L (.bl Y))) .nop)
def aDe:IS:=(.seq (.set 2 (.b .add (.c 2 [] [1] J .seq (.v 0) (.L (.bl Y)) (.ix (.v 1) (.L (.int 0)))) (.c 2 [] [1] J .seq (.v 0) (.L (.bl Y)) (.ix (.v 1) (.L (.int 1)))))) (.seq (.loop [3] J .rng (.tup (.cons (.v 1) .nil)) vU) (.ret (.L (.bl J)))))
def GY{a:Nat}{K:List Nat}:af .notin (K13.dN a) (.lst (K.map K13.dN))=O (.bl (!K.any (· == a))):=by show (if (plain (K13.dN a)&&(K.map K13.dN).all plain)=Y then O (D.bl (!(K.map K13.dN).any λy=>bw y (K13.dN a))) else U)=_;rw[if_pos];rw[any_map];congr 4;funext k;show bw (.int (k:Int)) (.int (a:Int))=_;rw[bw];exact vI;rw[u3];exact⟨rfl,all_eq_true.mpr λx hx=>by obtain⟨y,_,rfl⟩:=ux.mp hx;rfl⟩
theorem aAr{d0 d1:D}{K:List Nat}:∀(ks:List Nat) (s:Sl),((ks.any λk=>!K.any (· == k))=Y->bT (bB [3] J) (ex G vU) (ks.map K13.dN) [.im d0,.im d1,.im (.lst (K.map K13.dN)),s]=O (.rt (.bl Y))) /\((ks.any λk=>!K.any (· == k))=J->∃s',bT (bB [3] J) (ex G vU) (ks.map K13.dN) [.im d0,.im d1,.im (.lst (K.map K13.dN)),s]=O (.nx [.im d0,.im d1,.im (.lst (K.map K13.dN)),s']))
 |[],s=>⟨λh=>(by cases h),λ_=>⟨s,rfl⟩⟩
 |k::ks,s=>by
  obtain⟨i1,I⟩:=aAr (d0:=d0) (d1:=d1) (K:=K) ks (.im (K13.dN k));have z:ev G (.b .notin (.v 3) (.v 2)) (view [.im d0,.im d1,.im (.lst (K.map K13.dN)),.im (K13.dN k)])=O (.bl (!K.any (· == k))):=GY;rw[any_cons];cases e:(!K.any (· == k)) with
  |true=>refine⟨λ_=>?_,λh=>(by cases h)⟩;rw[uu];unfold bT;show (ex G vU [.im d0,.im d1,.im (.lst (K.map K13.dN)),.im (K13.dN k)]).bind _=_;rw[show ex G vU [.im d0,.im d1,.im (.lst (K.map K13.dN)),.im (K13.dN k)]=O (.rt (.bl Y)) from hZ (by rw[z,e]) (aR rfl)];rfl
  |false=>
   have st:bT (bB [3] J) (ex G vU) ((k::ks).map K13.dN) [.im d0,.im d1,.im (.lst (K.map K13.dN)),s]=bT (bB [3] J) (ex G vU) (ks.map K13.dN) [.im d0,.im d1,.im (.lst (K.map K13.dN)),.im (K13.dN k)]:=by
    rw[uu];conv=>lhs;unfold bT
    show (ex G vU [.im d0,.im d1,.im (.lst (K.map K13.dN)),.im (K13.dN k)]).bind _=_;rw[show ex G vU [.im d0,.im d1,.im (.lst (K.map K13.dN)),.im (K13.dN k)]=O (.nx _) from cC (by rw[z,e]) aW];rfl
   rw[st,Bool.false_or];exact⟨i1,I⟩
def aGp(I:L.length<=1000)(hn:n<=1000):bC G 4 aDe [.lst (L.map (K13.tyD sp)),.int n]=O (.ok (.bl ((List.range n).any λk=>!(tds L).any (· == k)))):=by
 have c0:∀{B:List Sl},ev G (.v 0) B=O (.lst (L.map (K13.tyD sp)))->ev G (.b .add (.c 2 [] [1] J .seq (.v 0) (.L (.bl Y)) (.ix (.v 1) (.L (.int 0)))) (.c 2 [] [1] J .seq (.v 0) (.L (.bl Y)) (.ix (.v 1) (.L (.int 1))))) B=O (.lst ((tds L).map K13.dN)):=λ{B} a=>by rw[bA,bN (L:=L) (K13.tyD sp) (λj=>K13.dN j.1) a cM λj _=>⟨[.un,.im (K13.tyD sp j)],rfl,rfl,rfl⟩,bN (L:=L) (K13.tyD sp) (λj=>K13.dN j.2.1) a cM λj _=>⟨[.un,.im (K13.tyD sp j)],rfl,rfl,rfl⟩];unfold tds;rw[vn,vq,vq];exact if_pos (by simp only[t8];unfold big;lia)
 obtain⟨g1,g2⟩:=aAr (G:=G) (d0:=.lst (L.map (K13.tyD sp))) (d1:=.int n) (K:=tds L) (List.range n) .un;cases e:(List.range n).any λk=>!(tds L).any (· == k) with
 |true=>exact aK (B:=[.im (.lst (L.map (K13.tyD sp))),.im (.int n),.un,.un]) rfl (aG (aO (c0 rfl)) (gC ((bS (d:=.tup [.int (n:Int)]) rfl (cY yx)).trans (g1 e)) λ_ z=>by cases z))
 |false=>obtain⟨s',l⟩:=g2 e;exact aK (B:=[.im (.lst (L.map (K13.tyD sp))),.im (.int n),.un,.un]) rfl (aG (aO (c0 rfl)) (aG ((bS (d:=.tup [.int (n:Int)]) rfl (cY yx)).trans l) (aR rfl)))
def AB{fs:List (Int×Bool)}(hu:G.fn wq [p,.str x]=O (.ok .non))(I:G.fn wy [p,.str x]=O (.ok (.lst (fs.map fD))))(hF:K09.Full fs):bC G 3 K10.uO [p,.str x,.lst (K09.prs fs)]=O (.ok (.lst ((List.range fs.length).map bkD))):=by
 have ef:fs.map fD=(List.range fs.length).map λk=>fD (fs.getD k (0,J)):=by refine List.ext_getElem? λi=>?_;rw[sv,sv];by_cases h:i<fs.length;rw[vk h,su h];show O (fD fs[i])=O (fD (fs.getD i (0,J)));rw[sk,su h];rfl;rw[List.getElem?_eq_none yx,List.getElem?_eq_none (by rw[uc];lia)];rfl
 refine aK (B:=[.im p,.im (.str x),.im (.lst (K09.prs fs))]) rfl (aG (lU (d:=.non) ?_) (aR ?_));simp only[cO,dD,aY];simp only[yw,hu];refine bN (L:=List.range fs.length) (λk=>fD (fs.getD k (0,J))) bkD (s:=.lst (fs.map fD)) ?_ (by rw[ef];exact cM) λk hk=>?_;simp only[yw,I];have hk:=vy.mp hk;have z:fs[k]?=O (fs.getD k (0,J)):=by rw[sk,su hk];rfl
 obtain⟨f,hf⟩:∃f,f=fs.getD k (0,J):=⟨_,rfl⟩;rw[<-hf]at z ⊢;have e1:=K09.aBP hF z;obtain⟨f1,f2⟩:=f;refine⟨[.un,.im (.int f1),.im (.bl f2),.im (.lst (K09.prs fs))],rfl,by simp only[zz,yy],?_⟩;simp only[yw,e1,nY.1,nY.2,QM];unfold bkD;rw[beq_self_eq_true]
noncomputable def uP:IS:=(.seq (.tryx (.call "sewn" (.cons (.v 0) (.cons (.v 1) (.cons (.v 2) .nil)))) "Loose" Y) (.ret (.L (.bl J))))
def LV{d:D}(h:G.fn "sewn" [p,.str x,d]=O (.er "Loose"))(h1:G.xn "Loose"=Y)(h2:G.sub "Loose" "Loose"=Y):bC G 3 uP [p,.str x,d]=O (.ok (.bl Y)):=by refine aK (B:=[.im p,.im (.str x),.im d]) rfl (gC (o:=.rt (.bl Y)) ?_ λ_ z=>by cases z);have e:ny G (.call "sewn" (.cons (.v 0) (.cons (.v 1) (.cons (.v 2) .nil)))) (view [.im p,.im (.str x),.im d])=O (.er "Loose"):=h;simp only[ex];rw[e];simp only[h1,h2,Bool.and_self,if_true]
def aBn{q e:D}{m:Nat}{nm:G11.Nm}{th:Nat->Bool}(N:K13.Nam m nm)(hb:G.fn yv [p,.str x]=O (.ok (.lst [])))(z:G.fn "held" [p,.str x]=O (.ok (.tup [.lst ((K13.pick m nm λg=>g.any th).map K13.dN),.lst ((K13.pick m nm λg=>!g.any th).map K13.dN)])))(hp:G.fn "pages" [p,.str x,q]=O (.ok e))(hx:G.xn "Loose"=Y):((∃g∈told m nm,g.any th=J)->bC G 3 K13.mS [p,.str x,q]=O (.er "Loose"))/\((∀g∈told m nm,g.any th=Y)->bC G 3 K13.mS [p,.str x,q]=O (.ok e)):=by
 refine⟨λ⟨g,mg,hg⟩=>?_,λh=>?_⟩;refine K13.aBm hb z ?_ hx;cases hf:K13.pick m nm λg=>!g.any th with
 |nil=>have:=(K13.xA N).mp hf g mg;rw[hg]at this;cases this
 |cons _ _=>rfl
 have:(K13.pick m nm λg=>!g.any th)=[]:=(K13.xA N).mpr λg mg=>by rw[h g mg];rfl
 rw[this]at z;exact K13.SZ hb z hp
def SF{l:Bool}{n:Int}{a:Nat}(h:∀j∈L,eJ sp l n j=Y):K13.thr sp l n L a=(tds L).any (· == a):=by rw[Bool.eq_iff_iff];unfold K13.thr tds;simp only[List.any_eq_true,u3,or_eq_true,wb,ux];constructor;rintro⟨j,m,_,h2⟩;rcases h2 with h2|h2;exact⟨j.1,.inl ⟨j,m,rfl⟩,h2⟩;exact⟨j.2.1,.inr ⟨j,m,rfl⟩,h2⟩;rintro⟨x,⟨j,m,rfl⟩|⟨j,m,rfl⟩,h2⟩;exact⟨j,m,h j m,.inl h2⟩;exact⟨j,m,h j m,.inr h2⟩
def aCN{T:Table}{k:Nat}(S:aq T 1 1 sp)(hk:k<4)(hc:1<=c)(hn:sp.length=c*r){j:Nat×Nat×Bool}(h:j∈K13.lef sp c (c*r) (15-2 ^ k)):K13.sdO sp j=k:=by
 obtain⟨m,h⟩:=mem_filter.mp h;have z:=K13.CY S (j:=j) (by rw[hn];exact(fO hc m).1);have:k=0\/k=1\/k=2\/k=3:=by lia
 have h':K13.sdO sp j=0\/K13.sdO sp j=1\/K13.sdO sp j=2\/K13.sdO sp j=3:=by lia
 unfold K13.bt at h;rcases this with rfl|rfl|rfl|rfl<;>rcases h' with e|e|e|e<;>rw[e]at h ⊢<;>first|rfl|exact absurd h y8
end
section
variable {G:GS}
noncomputable def b_6:IS:=(.g (.and (.b .ne (.v 7) (.lst .nil)) (.b .ne (.b .mod (.b .fdiv (.call xg (.cons (.v 0) (.cons (.L (.int 1)) .nil))) (.L (.int 4))) (.L (.int 4))) (.L (.int 1)))) (.set 6 (.ix (.ix (.v 7) (.L (.int 0))) (.L (.int 2)))) .nop)
def EE:IS:=(.seq (.t [1,2] (.call xa (.cons (.call xg (.cons (.v 0) (.cons (.L (.int 0)) .nil))) .nil))) (.seq (.set 3 (.call yj (.cons (.v 1) (.cons (.v 2) (.cons (.v 0) .nil))))) (.seq (.set 4 (.call xp (.cons (.v 3) (.cons (.b .mul (.v 1) (.v 2)) .nil)))) (.seq (.g (.b .is (.v 4) (.L .non)) (.ret (.L (.bl J))) .nop) (.seq (.set 5 (.call x5 (.cons (.v 1) (.cons (.v 2) (.cons (.call "shown" (.cons (.meth (.v 3) "done" .nil) .nil)) .nil))))) (.seq (.g (.or (.b .ne (.fld (.v 5) "wide") (.L (.int 1))) (.or (.b .ne (.fld (.v 5) "high") (.L (.int 1))) (.b .ne (.meth (.v 5) "heap" (.cons (.L (.int 0)) (.cons (.L (.int 0)) .nil))) (.v 4)))) (.ret (.L (.bl J))) .nop) (.seq (.set 6 (.b .mod (.call xg (.cons (.v 0) (.cons (.L (.int 1)) .nil))) (.L (.int 4)))) (.seq (.set 7 (.call ye (.cons (.v 4) (.cons (.v 1) (.cons (.v 2) (.cons (.L (.int 0)) .nil)))))) (.seq b_6 (.seq (.set 8 (.ix (.lst (.cons (.L (.str "west")) (.cons (.L (.str "east")) (.cons (.L (.str "north")) (.cons (.L (.str "south")) .nil))))) (.v 6))) (.seq (.set 9 (.call "plan" (.cons (.v 5) (.cons (.v 8) .nil)))) (.seq (.set 10 (.b .sub (.L (.int 15)) (.ix (.lst (.cons (.L (.int 1)) (.cons (.L (.int 2)) (.cons (.L (.int 4)) (.cons (.L (.int 8)) .nil))))) (.v 6)))) (.seq (.set 11 (.call xr (.cons (.v 5) (.cons (.v 10) .nil)))) (.seq (.g (.b .ne (.call yv (.cons (.v 11) (.cons (.v 8) .nil))) (.lst .nil)) (.ret (.L (.bl J))) .nop) (.seq (.g (.tr (.call xu (.cons (.call ye (.cons (.v 4) (.cons (.v 1) (.cons (.v 2) (.cons (.v 10) .nil))))) (.cons (.b .mul (.v 1) (.v 2)) .nil)))) (.ret (.call xv (.cons (.v 11) (.cons (.v 8) (.cons (.v 9) .nil))))) .nop) (.ret (.call yh (.cons (.call "sewn" (.cons (.v 11) (.cons (.v 8) (.cons (.v 9) .nil)))) (.cons (.b .mul (.b .mul (.L (.int 2)) (.v 1)) (.v 2)) .nil)))))))))))))))))))
noncomputable def fr(ns:List Int)(c r:Nat)(s3 s4 s5 s6 I s8 z jd jc:Sl):List Sl:=[.im (.frz (ns.map .int)),.im (.int c),.im (.int r),s3,s4,s5,s6,I,s8,z,jd,jc]
def ne_nil{xs:List D}(h:plain (.lst xs)=Y):af .ne (.lst xs) (.lst [])=O (.bl (!xs.isEmpty)):=by show (if (plain (.lst xs)&&plain (.lst []))=Y then O (D.bl (!bw (.lst xs) (.lst []))) else U)=_;rw[if_pos (by rw[h];rfl),vL];cases xs<;>rfl
def aHv:K13.lef sp c n 0=ba c n n:=List.filter_eq_self.mpr λj _=>by unfold K13.bt;rw[Nat.zero_div];rfl
def SX{ns:List Int}{T:Table}(S:aq T 1 1 sp)(hs:sp.length=c*r)(hc:1<=c)(c1:G.fn xg [.frz (ns.map .int),.int 1]=O (.ok (.int (de ns 1)))){k0:Nat}(h0:k0<4){s3 s4 s5:Sl}:∃k:Nat,k<4/\ex G b_6 (fr ns c r s3 s4 s5 (.im (.int (k0:Nat))) (.im (.lst ((ba c (c*r) (c*r)).map (K13.tyD sp)))) .un .un .un .un)=O (.nx (fr ns c r s3 s4 s5 (.im (.int (k:Nat))) (.im (.lst ((ba c (c*r) (c*r)).map (K13.tyD sp)))) .un .un .un .un)):=by
 have a1:ev G (.b .ne (.v 7) (.lst .nil)) (view (fr ns c r s3 s4 s5 (.im (.int (k0:Nat))) (.im (.lst ((ba c (c*r) (c*r)).map (K13.tyD sp)))) .un .un .un .un))=O (.bl (!((ba c (c*r) (c*r)).map (K13.tyD sp)).isEmpty)):=by show af .ne (.lst _) (.lst [])=_;exact ne_nil (mD λ_=>rfl)
 have a2:ev G (.b .ne (.b .mod (.b .fdiv (.call xg (.cons (.v 0) (.cons (.L (.int 1)) .nil))) (.L (.int 4))) (.L (.int 4))) (.L (.int 1))) (view (fr ns c r s3 s4 s5 (.im (.int (k0:Nat))) (.im (.lst ((ba c (c*r) (c*r)).map (K13.tyD sp)))) .un .un .un .un))=O (.bl (!(de ns 1 / 4 % 4 == 1))):=by rw[bA,bA,bA,dR];show (((gF (G.fn xg [.frz (ns.map .int),.int 1])).bind λx=>af .fdiv x (.int 4)).bind λx=>af .mod x (.int 4)).bind (λx=>af .ne x (.int 1))=_;rw[c1,DM,aA,pC y8 y8,aA,oZ y8,aA,aCr]
 have z:=EU a1 λ_=>a2;cases q:(!((ba c (c*r) (c*r)).map (K13.tyD sp)).isEmpty&&!(de ns 1 / 4 % 4 == 1)) with
 |false=>exact⟨k0,h0,cC (by rw[z,q]) aW⟩
 |true=>
  rw[u3]at q;cases hn:ba c (c*r) (c*r) with
  |nil=>rw[hn]at q;exact nomatch (show J=Y from q.1)
  |cons j L=>
   rw[hn]at z;have I:j.1<sp.length:=by rw[hs];exact(fO hc (by rw[hn];exact vi)).1
   refine⟨K13.sdO sp j,K13.CY S I,(hZ (z.trans (by rw[q.2];rfl)) (aO (d:=.int (K13.sdO sp j:Nat)) ?_)).trans rfl⟩;have a0:atI ((j::L).map (K13.tyD sp)) 0=O (K13.tyD sp j):=eL (k:=0) rfl;unfold fr;simp only[yw,a0];rfl
def aEF{k:Nat}(h:k<4):kb.lookup (bX k).str=O (.tup [.bl (decide (1<k)),.int ((k % 2:Nat):Int)]):=by
 have:k=0\/k=1\/k=2\/k=3:=by lia
 rcases this with rfl|rfl|rfl|rfl<;>rfl
def aCO(hf:G.fl "Pile"=cy){ns:List Int}(hca:∀k:Nat,G.fn xg [.frz (ns.map .int),.int k]=O (.ok (.int (de ns k)))) (hsb:∀cell:Int,∃c r:Nat,1<=c/\1<=r/\c*r<=64/\G.fn xa [.int cell]=O (.ok (.tup [.int c,.int r]))) (hsh:∀c r:Nat,1<=c->1<=r->c*r<=64->∃fs sp,q8 c r fs sp/\(runs c r fs).2.1=1/\(runs c r fs).2.2=1/\G.fn yj [.int c,.int r,.frz (ns.map .int)]=O (.ok (bR c r fs))) (hle:∀(c r:Nat) (T:Table) (F S:List D) (sp:List Spot),aq T 1 1 sp->sp.length=c*r->G.fn xp [aL c r 1 1 T F S,.int ((c*r:Nat):Int)]=O (.ok (hE (aj T 0 0)))) (hdn:∀(c r:Nat) (T:Table) (F:List D),G.me "Pile" "done" [aL c r 1 1 T F []]=O (.ok (.lst F))) (hsn:∀F:List Fold,(∀f∈F,K15.Ok9 f)->F.length<=1000->G.fn "shown" [.lst (F.map Fold.d)]=O (.ok (.str (K15.txt F)))) (hag:∀(c r:Nat) (fs:List Fold) (sp:List Spot),1<=c->1<=r->c*r<=64->q8 c r fs sp->(∀f∈fs,K15.Ok9 f)->G.fn x5 [.int c,.int r,.str (K15.txt fs)]=O (.ok (bR c r fs))) (hhp:∀(c r:Nat) (T:Table) (F:List D) (sp:List Spot),aq T 1 1 sp->G.me "Pile" "heap" [aL c r 1 1 T F [],.int 0,.int 0]=O (.ok (hE (aj T 0 0)))) (hti:∀(c r:Nat) (T:Table) (sp:List Spot) (b:Nat),1<=c->1<=r->c*r<=64->c<=64->aq T 1 1 sp->sp.length=c*r->G.fn ye [hE (aj T 0 0),.int c,.int r,.int (b:Nat)]=O (.ok (.lst ((K13.lef sp c (c*r) b).map (K13.tyD sp))))) (jr:∀(c r:Nat) (T:Table) (F:List D) (sp:List Spot) (k:Nat),aq T 1 1 sp->G.fn "plan" [aL c r 1 1 T F [],.str (bX k).str]=O (.ok (.lst (K09.prs (b9 (!(bX k).up) (aj T 0 0)))))) (hkn:∀(c r:Nat) (T:Table) (F:List D) (sp:List Spot) (b:Nat),1<=c->c*r<=64->c<=64->aq T 1 1 sp->sp.length=c*r->∃aa:List (Nat×Nat),G.fn xr [aL c r 1 1 T F [],.int (b:Nat)]=O (.ok (aL c r 1 1 T F (aa.map pD)))/\Pg.left c (c*r) aa=K13.lef sp c (c*r) b) (hfa:∀(sp:List Spot) (L:List (Nat×Nat×Bool)) (n:Nat),L.length<=1000->n<=1000->G.fn xu [.lst (L.map (K13.tyD sp)),.int n]=O (.ok (.bl ((List.range n).any λk=>!(tds L).any (· == k))))) (hse:∀(c r:Nat) (T:Table) (F:List D) (sp:List Spot) (aa:List (Nat×Nat)) (k:Nat),1<=c->c*r<=64->c<=64->aq T 1 1 sp->sp.length=c*r->k<4->(∀j∈Pg.left c (c*r) aa,K13.sdO sp j=k) ->G.fn yv [aL c r 1 1 T F (aa.map pD),.str (bX k).str]=O (.ok (.lst []))/\(((List.range (c*r)).any λk=>!(tds (Pg.left c (c*r) aa)).any (· == k))=Y->G.fn xv [aL c r 1 1 T F (aa.map pD),.str (bX k).str,.lst (K09.prs (b9 (!(bX k).up) (aj T 0 0)))]=O (.ok (.bl Y))) /\(((List.range (c*r)).any λk=>!(tds (Pg.left c (c*r) aa)).any (· == k))=J->G.fn "sewn" [aL c r 1 1 T F (aa.map pD),.str (bX k).str,.lst (K09.prs (b9 (!(bX k).up) (aj T 0 0)))]=O (.ok (.lst ((List.range (2*(c*r))).map bkD))))) (hbk:∀n:Nat,n<=1000->G.fn yh [.lst ((List.range n).map bkD),.int n]=O (.ok (.bl Y))):bC G 12 EE [.frz (ns.map .int)]=O (.ok (.bl Y)):=by
 have c0:G.fn xg [.frz (ns.map .int),.int 0]=O (.ok (.int (de ns 0))):=hca 0;have c1:G.fn xg [.frz (ns.map .int),.int 1]=O (.ok (.int (de ns 1))):=hca 1;obtain⟨c,r,hc,hr,ao,esb⟩:=hsb (de ns 0);have qx:c<=64:=ug (Nat.le_mul_of_pos_right c hr) ao;obtain⟨fs,sp,S,w1,h1,esh⟩:=hsh c r hc hr ao;have o9:∀f∈fs,K15.Ok9 f:=λf m=>by obtain⟨i,e⟩:=List.mem_iff_getElem?.mp m;obtain⟨Q,q1,q2⟩:=S.pre i f e;refine⟨q1,?_⟩;have a:=Q.sit.w64;have b:=Q.sit.h64;unfold ext at q2;split at q2<;>lia
 have eag:=hag c r fs sp hc hr ao S o9;have esn:=hsn fs o9 (ug S.few y8);obtain⟨T,hT⟩:∃T,T=(runs c r fs).1:=⟨_,rfl⟩;obtain⟨F,hF⟩:∃F,F=fs.map Fold.d:=⟨_,rfl⟩;have ep:bR c r fs=aL c r 1 1 T F []:=by unfold bR;rw[w1,h1,hT,hF]
 have I:aq T 1 1 sp:=by have:=S.sits;rw[w1,h1,<-hT]at this;exact this
 rw[ep]at esh eag;rw[<-hF]at esn;have ele:=hle c r T F [] sp I S.len;obtain⟨k0,ez,ek0⟩:=LO (de ns 1) 4 y8;have ek0:de ns 1 % 4=(k0:Int):=ek0;have et0:G.fn ye [hE (aj T 0 0),.int c,.int r,.int 0]=O (.ok (.lst ((ba c (c*r) (c*r)).map (K13.tyD sp)))):=by have:=hti c r T sp 0 hc hr ao qx I S.len;rw[aHv]at this;exact this
 obtain⟨k,hk,e6⟩:=SX (G:=G) (ns:=ns) (s3:=.im (aL c r 1 1 T F [])) (s4:=.im (hE (aj T 0 0))) (s5:=.im (aL c r 1 1 T F [])) I S.len hc c1 ez;have etb:=hti c r T sp (15-2 ^ k) hc hr ao qx I S.len;obtain⟨aa,ekn,hlf⟩:=hkn c r T F sp (15-2 ^ k) hc ao qx I S.len;obtain⟨ebo,elo,ese⟩:=hse c r T F sp aa k hc ao qx I S.len hk (by rw[hlf];exactλj m=>aCN I hk hc S.len m);have epl:=jr c r T F sp k I;have lL:(K13.lef sp c (c*r) (15-2 ^ k)).length<=1000:=ug (length_filter_le _ _) (ug (fP (c*r)) yx);have efa:=hfa sp (K13.lef sp c (c*r) (15-2 ^ k)) (c*r) lL yx;have ebk:=hbk (2*(c*r)) yx;rw[hlf]at elo ese;have e0:∀{a:IE} {B:List Sl},ev G a B=O (aL c r 1 1 T F [])->ev G a B=O (bM c r (1:Nat) (1:Nat) (T.map sE) F []):=λh=>h;have e15:atI ([.int 1,.int 2,.int 4,.int 8]:List D) (k:Int)=_:=K13.pw hk;have eb:(15:Int)-((2 ^ k:Nat):Int)=((15-2 ^ k:Nat):Int):=by obtain⟨p1,p2⟩:=K13.ZR hk;lia
 have em:ev G (.b .mul (.v 1) (.v 2)) (view (fr ns c r (.im (aL c r 1 1 T F [])) (.im (hE (aj T 0 0))) (.im (aL c r 1 1 T F [])) (.im (.int (k:Nat))) (.im (.lst ((ba c (c*r) (c*r)).map (K13.tyD sp)))) (.im (.str (bX k).str)) (.im (.lst (K09.prs (b9 (!(bX k).up) (aj T 0 0))))) (.im (.int ((15-2 ^ k:Nat):Int))) (.im (aL c r 1 1 T F (aa.map pD)))))=O (.int ((c*r:Nat):Int)):=by unfold fr;simp only[cO,dD,aY];simp only[yw,kC (show c<=1000000 by lia)]
 refine aK (B:=[.im (.frz (ns.map .int)),.un,.un,.un,.un,.un,.un,.un,.un,.un,.un,.un]) rfl ?_;refine aG (B':=fr ns c r .un .un .un .un .un .un .un .un .un) (yF.trans ?_) (aG (aO (d:=aL c r 1 1 T F []) ?_) (aG (aO (d:=hE (aj T 0 0)) ?_) (aG (cC ?_ aW) (aG (aO (d:=aL c r 1 1 T F []) ?_) (aG (cC ?_ aW) (aG (aO (d:=.int (k0:Nat)) ?_) (aG (aO (d:=.lst ((ba c (c*r) (c*r)).map (K13.tyD sp))) ?_) (aG e6 (aG (aO (d:=.str (bX k).str) ?_) (aG (aO (d:=.lst (K09.prs (b9 (!(bX k).up) (aj T 0 0)))) ?_) (aG (aO (d:=.int ((15-2 ^ k:Nat):Int)) ?_) (aG (aO (d:=aL c r 1 1 T F (aa.map pD)) ?_) (aG (cC ?_ aW) ?_)))))))))))));simp only[yw,c0,esb];rfl;unfold fr;simp only[yw,esh];unfold fr;simp only[List.set];simp only[yw,kC (show c<=1000000 by lia),ele];unfold fr hE;simp only[List.set,cO,dD,aY];simp only[yw];rfl;have ed:∀{B:List Sl},ev G (.v 3) B=O (aL c r 1 1 T F [])->ev G (.meth (.v 3) "done" .nil) B=O (.lst F):=λh=>oY rfl (e0 h) (ds:=[]) rfl (hdn c r T F);rw[dR,aV,aV,aV,dR,aV,ed rfl];unfold fr;simp only[List.set];simp only[yw,esn,eag];unfold fr;simp only[List.set,cO,dD,aY];refine cD (x:=J) (y:=J) ?_ λ_=>cD (x:=J) (y:=J) ?_ λ_=>?_;rw[bA,jC hf (e0 rfl)];simp only[yw];rfl;rw[bA,jE hf (e0 rfl)];simp only[yw];rfl;rw[bA,oY rfl (e0 rfl) (ds:=[.int 0,.int 0]) (by simp only[yw]) (hhp c r T F sp I)];simp only[yw];exact ne_self (mD λ_=>rfl) (by unfold hE;rw[vL];exact qH λa=>by unfold du;simp[bw,lA]);unfold fr;simp only[List.set];simp only[yw,c1,oZ (i:=de ns 1) (j:=4) y8,ek0];unfold fr;simp only[List.set];simp only[yw,et0];unfold fr;simp only[yw,RL hk];unfold fr;simp only[List.set];simp only[yw,epl];unfold fr;simp only[List.set];simp only[yw,e15,eb];unfold fr;simp only[List.set];simp only[yw,ekn];unfold fr;simp only[List.set,cO,dD,aY];simp only[yw,ebo];exact ne_nil (xs:=[]) rfl;have f7:ev G (.tr (.call xu (.cons (.call ye (.cons (.v 4) (.cons (.v 1) (.cons (.v 2) (.cons (.v 10) .nil))))) (.cons (.b .mul (.v 1) (.v 2)) .nil)))) (view (fr ns c r (.im (aL c r 1 1 T F [])) (.im (hE (aj T 0 0))) (.im (aL c r 1 1 T F [])) (.im (.int (k:Nat))) (.im (.lst ((ba c (c*r) (c*r)).map (K13.tyD sp)))) (.im (.str (bX k).str)) (.im (.lst (K09.prs (b9 (!(bX k).up) (aj T 0 0))))) (.im (.int ((15-2 ^ k:Nat):Int))) (.im (aL c r 1 1 T F (aa.map pD)))))=O (.bl ((List.range (c*r)).any λk_1=>!(tds (K13.lef sp c (c*r) (15-2 ^ k))).any (· == k_1))):=by rw[nQ,dR,aV,aV,em];unfold fr;simp only[cO,dD,aY];simp only[yw,etb,efa,eC]
 cases q:(List.range (c*r)).any λk_1=>!(tds (K13.lef sp c (c*r) (15-2 ^ k))).any (· == k_1) with
 |true=>
  refine gC (o:=.rt (.bl Y)) (hZ (f7.trans (by rw[q])) (aR ?_)) λ_ z=>by cases z
  unfold fr;simp only[List.set];simp only[yw,elo q]
 |false=>refine aG (cC (f7.trans (by rw[q])) aW) (aR ?_);unfold fr;simp only[List.set];simp only[yw,ese q,nJ (i:=2) y8 y8,nJ (i:=2*(c:Int)) (j:=(r:Int)) yx yx];rw[show (2*(c:Int)*(r:Int))=((2*(c*r):Nat):Int) by push_cast;rw[Int.mul_assoc],ebk];rfl
end
end K16
open PySem.Spec PyProof.Rows L2
variable {CX:ar}{G:GS}{T:Tx}{lv:Nat}{X:Cx}{c:CC}
noncomputable def aGH:Stmt->Option (List Expr×Expr×Pos)
 |.Assign ts e p=>O (ts,e,p)
 |_=>U
def IT{s:Stmt}{x:List Expr×Expr×Pos}(h:aGH s=O x):s=.Assign x.1 x.2.1 x.2.2:=by cases s<;>first|exact nomatch (show U=O x from h)|(cases (show O _=O x from h);rfl)
noncomputable def tJ(n:Nat)(c:CC):List Stmt->Option (List (Str×IE))
 |[]=>O []
 |st::r=>(aGH st).bind λq=>(one? q.1).bind λt=>(FM t).bind λa=>(nameP a.1).bind λs=>if bJ c s.1 == O 0 then(cE n c q.2.1).bind λy=>(tJ n c r).map λz=>(a.2.1,y)::z else U
noncomputable def ji(G:GS)(B:List Sl):List (Str×IE)->Option (List (Str×D))
 |[]=>O []
 | (f,e)::r=>do O ((f,<-ev G e B)::(<-ji G B r))
def GI(G:GS)(cn:Str)(n:Nat)(fs:List (Str×IE))(ds:List D):Option Rs:=(ji G (.un::(ds.map .im++List.replicate (n-1-ds.length) .un)) fs).map λgs=>.ok (.obj cn gs)
theorem wX{f:Str}{v:V}:∀{gs:List (Str×V)},f∉gs.map (·.1)->iZ f v gs=gs++[(f,v)]
 |[],_=>rfl
 | (g,x)::r,h=>by simp only[uu,ui,not_or]at h;unfold iZ;rw[if_neg (Ne.symm h.1),wX h.2];rfl
theorem cR.names:∀{fs:List (Str×D)} {gs:List (Str×V)},cR K T H S fs gs->gs.map (·.1)=fs.map (·.1)
 |[],gs,h=>by unfold cR at h;subst h;rfl
 | (f,d)::fs,gs,h=>by unfold cR at h;obtain⟨x,r,rfl,_,q⟩:=h;simp[cR.names q]
theorem cR.app1{f:Str}{d:D}{v:V}(rv:Rep K T H S d v):∀{fs:List (Str×D)} {gs:List (Str×V)},cR K T H S fs gs->cR K T H S (fs++[(f,d)]) (gs++[(f,v)])
 |[],gs,h=>by unfold cR at h;subst h;show cR K T H S [(f,d)] [(f,v)];unfold cR;exact⟨v,[],rfl,rv,by unfold cR;rfl⟩
 | (g,e)::fs,gs,h=>by unfold cR at h;obtain⟨x,r,rfl,p,q⟩:=h;show cR K T H S ((g,e)::(fs++[(f,d)])) _;unfold cR;exact⟨x,r++[(f,v)],rfl,p,cR.app1 rv q⟩
structure IInv (K:wc) (T:Tx) (S:Addr->Prop) (H₀:Hp) (C p dx:Addr) (B:List Sl) (fs:List (Str×D)) (M:L2.St) (H:Hp):Prop where
 re:RE K T H S B M
 sp:S p
 self:M[0]?=O (O (.ref p))
 at_:∃gs,H p=O (.ins C dx gs)/\cR K T H S fs gs
 keep:∀b o,b≠p->H₀ b=O o->H b=O o
theorem sL(xc:XC CX X c G T lv){S:Addr->Prop}{H₀:Hp}{C p dx:Addr}{B:List Sl}{n:Nat}(hc:Cls X.K C):∀{body:List Stmt} {is:List (Str×IE)} {gs fs:List (Str×D)},tJ n c body=O is->ji G B is=O gs->(∀x∈is,eM X.K C x.1)->((fs++gs).map (·.1)).Nodup->(fs++gs).length<1000 ->PSs X body (λD M H=>IInv X.K T S H₀ C p dx B fs M H/\∀M' H',IInv X.K T S H₀ C p dx B (fs++gs) M' H'->D.nx M' H')
 |[],is,gs,fs,h1,h2,_,_,_=>by simp only[tJ,so]at h1;subst h1;simp only[ji,so]at h2;subst h2;exactλpins s M H D I ⟨iv,q⟩=>DF pins s M H D I (q M H (by rw[uq];exact iv))
 |st::body,is,gs,fs,h1,h2,mj,mi,hlen=>by
  obtain⟨q0,a1,h1⟩:=aH h1;obtain⟨t0,a2,h1⟩:=aH h1;obtain⟨a0,a3,h1⟩:=aH h1;obtain⟨s0,a4,h1⟩:=aH h1;obtain⟨hs,h1⟩:=bF h1;obtain⟨ir,i3,h1⟩:=aH h1;obtain⟨is',his,rfl⟩:=aP h1;have e0:st=.Assign [.Attribute (.Name s0.1 s0.2) a0.2.1 a0.2.2] q0.2.1 q0.2.2:=by rw[IT a1,bZ a2,lC a3,dA a4]
  subst e0;obtain⟨_,e,pe⟩:=q0;obtain⟨_,f,pf⟩:=a0;obtain⟨s,ps⟩:=s0;clear a1 a2 a3 a4;simp only[ji,tf,sr,so]at h2;obtain⟨d,hd,gs',j4,rfl⟩:=h2;have dj:bJ c s=O 0:=uw.mp hs;have ih:=sL xc (S:=S) (H₀:=H₀) (p:=p) (dx:=dx) hc (fs:=fs++[(f,d)]) his j4 (λx hx=>mj x (tw _ hx)) (by simpa using mi) (by simpa using hlen);intro pins s1 M H DD I ⟨iv,q⟩;refine gX (aBO (gZ xc dj) ((fF n).1 X c S B e ir xc i3 d hd) ?_) ih pins s1 M H DD I ⟨iv.re,λv H' sm r=>⟨.ref p,iv.self,?_⟩⟩;cases e<;>rfl
  obtain⟨ys,hy,rf⟩:=iv.at_;have i4:f∉ys.map (·.1):=by rw[rf.names];have:=mi;simp only[vn,uu]at this;rw[List.nodup_append]at this;intro z;exact this.2.2 f z f y9 rfl
  have hl:ys.length<1000:=by have e1:=congrArg List.length rf.names;simp only[t8]at e1;rw[e1];simp only[um,vm]at hlen;lia
  refine⟨p,C,dx,ys,rfl,sm _ _ hy,hc,mj (f,ir) y9,hl,?_⟩;rw[wX i4];have mv:aU X.K H' (upd H' p (.ins C dx (ys++[(f,v)]))) S S:=λa na _=>⟨na,λo e=>by rw[aM (λz=>na (by rw[z];exact iv.sp))];exact e⟩;have rf':cR X.K T H' S fs ys:=cR.gen (aU.same sm) _ _ rf;refine⟨⟨?_,iv.sp,iv.self,⟨_,aS,cR.gen mv _ _ (cR.app1 r rf')⟩,λb o hb e=>by rw[aM hb];exact sm _ _ (iv.keep b o hb e)⟩,λM' H2 iv2=>q M' H2 (by simpa using iv2)⟩;refine(iv.re.same sm).gen mv (λa xs z e hm=>⟨z,?_⟩) λa z=>?_;rw[aM];exact e;rintro rfl;rw[sm _ _ hy]at e;cases e;obtain⟨d',hm⟩:=hm;rcases hm with ⟨_,_,_,z,_⟩|⟨_,_,_,z,_⟩<;>cases z
  by_cases e:a=p;exact⟨.ins C dx (ys++[(f,v)]),by rw[e];exact aS⟩;obtain⟨o,e2⟩:=(iv.re.same sm).dom a z;exact⟨o,by rw[aM e];exact e2⟩
variable {CX:ar}{G:GS}{T:Tx}{lv:Nat}
theorem sV{B:List Sl}:∀{is:List (Str×IE)} {gs:List (Str×D)},ji G B is=O gs->gs.map (·.1)=is.map (·.1)
 |[],gs,h=>by simp only[ji,so]at h;subst h;rfl
 | (f,e)::r,gs,h=>by simp only[ji,tf,sr,so]at h;obtain⟨d,_,z,h2,rfl⟩:=h;simp[sV h2]
def zL{p:Addr}{ws:List V}(dom:∀a,S a->∃o,H a=O o)(z:aD K T H S ds ws)(hN:ws.length+1<=N.length):RE K T H S (.un::(ds.map .im++List.replicate (N.length-1-ds.length) .un)) (L2.start N (.ref p::ws)):=by
 have hl:=z.len;refine⟨dom,by simp[L2.start,hl];lia,λi s e=>?_⟩;cases i with
 |zero=>cases e;trivial
 |succ i=>
  rw[List.getElem?_cons_succ]at e;unfold L2.start;rw[uu,List.cons_append,List.getElem?_cons_succ];by_cases h:i<(ds.map Sl.im).length;rw[vt h,sv]at e;cases h2:ds[i]? with
  |none=>rw[h2]at e;cases e
  |some d=>rw[h2]at e;cases e;obtain⟨v,h3,r⟩:=z.get h2;exact⟨v,by rw[vt (by rw[t8]at h ⊢;lia),sv,h3];rfl,r⟩
  rw[vx yx,List.getElem?_replicate]at e;split at e;cases e;trivial;cases e
def YJ{qual cn:Str}{f:Addr}{c:CC}{is:List (Str×IE)}(F:Fun K x qual st f fd)(fs:ai N ps (aF st))(hN:c.N=N)(k7:c.sc=aF st)(hk:kN c (aF st)=Y) (i3:tJ n c (bD st)=O is) (hT:T.cl cn=O C) (bq:Cls K C) (mj:∀x∈is,eM K C x.1) (mi:(is.map (·.1)).Nodup) (hlen:is.length<1000) (go:∀(X:Cx),X.prog=P->X.w=w->X.K=K->X.mg=mg->X.base=base->om CX X c G T lv):FnOk P w K mg base CX (lv+1) f fd ps (aBg K T C ps.length (GI G cn N.length is)):=by
 obtain⟨oc,od,kV,doc,pm,an,aT,ct,kl,rfl,lk,gq⟩:=F.ex;refine NH lk gq fs (λvs H Q E h=>h.1) λA outer s H vs Q E hr bg=>?_;obtain⟨hl,p,dx,ws,S,ds,d,rfl,hp,sp,dom,rl,hg,q⟩:=bg;have xc:=zF (E:=E) (P:=P) (w:=w) (mg:=mg) (base:=base) (outer:=outer) (s:=s) (H:=H) (f:=f) (cd:=aT) (qual:=qual) hN k7 fs hk hr (go _ rfl rfl rfl rfl rfl);unfold GI at hg;simp only[u5]at hg;obtain⟨gs,j4,hg⟩:=hg;cases hg;have I:=sV j4;have jr:ps.length<=N.length:=by have:=congrArg List.length fs.pre;rw[v7]at this;lia
 refine⟨_,PSs.nox (sL xc (S:=S) (H₀:=H) (C:=C) (p:=p) (dx:=dx) (fs:=[]) bq i3 j4 mj (by rw[nil_append,I];exact mi) (by rw[nil_append];have:=congrArg List.length I;simp only[t8]at this;lia)),?_,?_⟩;exact⟨zL dom rl (by simp only[vm]at hl;lia),sp,rfl,⟨[],hp,by unfold cR;rfl⟩,λb o _ e=>e⟩;intro M' H' iv;obtain⟨ys,hy,rf⟩:=iv.at_;refine q H' iv.keep λS' jh=>?_;unfold Rep;exact⟨p,C,dx,ys,rfl,λz=>(jh p z).2 rfl,hT,hy,cR.gen (aU.mk (λa z=>(jh a z).1) λb o _ e=>e) _ _ rf⟩
def zE(K:wc)(T:Tx)(mg:wm)(x:Str)(d:D):Prop:=∃u v,mg x=O u/\RelV v u/\∀(H:Hp) (S:Addr->Prop),(∀a o,K.lookup a=O o->H a=U)->(∀a,S a->∃o,H a=O o)->Rep K T H S d v
def FD{i:Int}{t:Tok}(h:mg x=O (.int i t)):zE K T mg x (.int i):=⟨_,.int i,h,⟨t,rfl⟩,λH S _ _=>by unfold Rep;rfl⟩
def vP{a:Addr}{xs:List V}(h:mg x=O (.ref a))(hs:∀H,SqT K H a xs)(hk:∃o,K.lookup a=O o)(hd:∀H S,aD K T H S ds xs):zE K T mg x (.tup ds):=⟨_,.ref a,h,rfl,λH S h1 h2=>by unfold Rep;refine⟨a,xs,rfl,λz=>?_,hs H,hd H S⟩;obtain⟨o,e⟩:=h2 a z;obtain⟨u,e2⟩:=hk;rw[h1 a u e2]at e;cases e⟩
noncomputable def G0(csts:List (Str×D))(fl:Str->List Str)(sub:Str->Str->Bool)(xn:Str->Bool)(jj:List (Str×List (Str×D)):=[]):GS:={fn:=λ_ _=>U,me:=λ_ _ _=>U,mo:=λ_ _=>U,cst:=λx=>csts.lookup x,sub:=sub,fl:=fl,xn:=xn,dk:=λx=>jj.lookup x}
def aHt{cls:List Str}{csts:List (Str×D)}{fl:Str->List Str}{sub:Str->Str->Bool}{xn:Str->Bool}{jj:List (Str×List (Str×D))}(hc:∀x d,csts.lookup x=O d->zE K T mg x d)(bq:∀cn C,T.cl cn=O C->Cls K C)(ic:∀cn C f,T.cl cn=O C->(fl cn).contains f=Y->eM K C f) (hbi:∀x,fR.contains x=Y->mg x=U) (hx:∀x C,T.xc x=O C->mg x=O (.ref C)) (I:∀k,xn k=Y->∃C,T.xc k=O C) (pj:∀k C,T.xc k=O C->excIn K C jk "ValueError.__new__"=Y) (BE:∀k k' C C',T.xc k=O C->T.xc k'=O C'->sub k k'=Y->kT K C (.ref C')=Y) (hdk:∀x kvs,jj.lookup x=O kvs->∃a,mg x=O (.ref a)/\∀X:Cx,X.prog=P->X.w=w->X.K=K->RX X T a kvs:=by intro x kvs h;cases h):MOk P w K mg base (dY P w) ⟨[],cls,csts.map (·.1)⟩ (G0 csts fl sub xn jj) T lv:=by intro X c e1 e2 e3 e4 e5 e6 e7 e8;subst e1 e2 e3 e4 e5;refine⟨λx hx=>?_,λcn C m ds r _ hr=>(by cases hr),bq,ic,λx _ ds d hd=>(by cases hd),λx d hd _=>hc x d hd,λx hx _ _=>hbi x hx,hx,aAg,λ_ _ _ _ _ _ z=>z,I,pj,BE,λx kvs h=>let ⟨a,h1,h2⟩:=hdk x kvs h;⟨a,h1,h2 X rfl rfl rfl⟩⟩;rw[e6]at hx;simp at hx
noncomputable def GS.addC(G:GS)(x:Str)(g:List D->Option Rs):GS:={G with mo:=λy=>if y=x then g else G.mo y}
theorem MOk.addC{m:Nm}(h:MOk P w K mg base CX m G T lv){f:Addr}{g:List D->Option Rs}(hm:mg x=O (.ref C))(σ:Mk K C f)(hb:Binds K fd ps [])(hl:∀ds d,g ds=O (.ok d)->ds.length+1=ps.length) (F:FnOk P w K mg base CX lv f fd ps (aBg K T C ps.length g)):MOk P w K mg base CX m (G.addC x g) T (lv+1):=by intro X c e1 e2 e3 e4 e5 e6 e7 e8;subst e1 e2 e3 e4 e5;have o:=h X c rfl rfl rfl rfl rfl e6 e7 e8;refine⟨λy hy=>?_,λcn C mm ds r hT hr=>?_,o.cls,o.fld,λy hy ds d hd=>?_,λy d hd hc=>o.cst y d hd hc,λy hy h1 h2=>o.bi y hy h1 h2,o.xcl,o.cx0,o.cxf,o.xns,o.xk,o.sub,o.dk⟩;obtain⟨z,c7,I,a1,a2,a3,a4,a5⟩:=o.fn y hy;exact⟨z,c7,I,a1,a2,a3,a4,a5.mono (vh _)⟩;obtain⟨z,c7,I,a1,a2,a3,a4⟩:=o.me cn C mm ds r hT hr;exact⟨z,c7,I,a1,a2,a3,a4.mono (vh _)⟩;by_cases e:y=x;subst e;simp only[GS.addC,if_true]at hd ⊢;exact⟨C,f,fd,ps,lv,t9 _,hm,σ,hb,hl ds d hd,F⟩;simp only[GS.addC,if_neg e]at hd ⊢;obtain⟨C',z,c7,I,j,a1,a2⟩:=o.mo y hy ds d hd;exact⟨C',z,c7,I,j,le_succ_of_le a1,a2⟩
def MOk.defC{m:Nm}(h:MOk P w K mg base CX m G T lv){qual:Str}{f:Addr}{mus:List Str}{is:List (Str×IE)}(hm:mg x=O (.ref C))(σ:Mk K C f)(hb:Binds K fd ps []) (F:Fun K "__init__" qual st f fd) (fs:ai N ps (aF st)) (hk:kN (m.cc N (aF st) mus) (aF st)=Y) (i3:tJ n (m.cc N (aF st) mus) (bD st)=O is) (hT:T.cl x=O C) (bq:Cls K C) (mj:∀x∈is,eM K C x.1) (mi:(is.map (·.1)).Nodup) (hlen:is.length<1000):MOk P w K mg base CX m (G.addC x λds=>if ds.length+1=ps.length then GI G x N.length is ds else U) T (lv+2):=by
 have G1:=YJ (CX:=CX) (P:=P) (w:=w) (mg:=mg) (base:=base) (T:=T) (lv:=lv) F fs (c:=m.cc N (aF st) mus) rfl rfl hk i3 hT bq mj mi hlen (λX I z a3 a4 a5=>h X _ I z a3 a4 a5 rfl rfl rfl);have h':MOk P w K mg base CX m G T (lv+1):=by intro X c e1 e2 e3 e4 e5 e6 e7 e8;subst e1 e2 e3 e4 e5;have o:=h X c rfl rfl rfl rfl rfl e6 e7 e8;refine⟨λy hy=>?_,λcn C mm ds r hT hr=>?_,o.cls,o.fld,λy hy ds d hd=>?_,λy d hd hc=>o.cst y d hd hc,λy hy h1 h2=>o.bi y hy h1 h2,o.xcl,o.cx0,o.cxf,o.xns,o.xk,o.sub,o.dk⟩;obtain⟨f',c7,cx,I,z,a3,a4,a5⟩:=o.fn y hy;exact⟨f',c7,cx,I,z,a3,a4,a5.mono (vh _)⟩;obtain⟨f',c7,cx,I,z,a3,a4⟩:=o.me cn C mm ds r hT hr;exact⟨f',c7,cx,I,z,a3,a4.mono (vh _)⟩;obtain⟨C',f',c7,cx,j,I,z⟩:=o.mo y hy ds d hd;exact⟨C',f',c7,cx,j,le_succ_of_le I,z⟩
 refine h'.addC hm σ hb (λds d hd=>?_) ?_;by_cases e:ds.length+1=ps.length;exact e;rw[if_neg e]at hd;cases hd;refine⟨λvs H Q E h=>h.1,λA outer s H args us vs Q E hr e0 qb hv bg=>G1.run A outer s H args us vs Q E hr e0 qb hv ?_⟩;obtain⟨h1,p,dx,ws,S,ds,d,e1,h2,h3,h4,h5,h6,h7⟩:=bg;refine⟨h1,p,dx,ws,S,ds,d,e1,h2,h3,h4,h5,?_,h7⟩;have el:ds.length+1=ps.length:=by by_cases e:ds.length+1=ps.length;exact e;dsimp only at h6;rw[if_neg e]at h6;cases h6
 dsimp only at h6;rw[if_pos el]at h6;exact h6
def CV(K:wc)(T:Tx)(d:D)(u:Value):Prop:=∃v,RelV v u/\∀(H:Hp) (S:Addr->Prop),(∀a o,K.lookup a=O o->H a=U)->(∀a,S a->∃o,H a=O o)->Rep K T H S d v
def vN{a:Addr}{xs:List V}(hs:∀H,SqT K H a xs)(hk:∃o,K.lookup a=O o)(hd:∀H S,aD K T H S ds xs):CV K T (.tup ds) (.ref a):=⟨.ref a,rfl,λH S h1 h2=>by unfold Rep;refine⟨a,xs,rfl,λz=>?_,hs H,hd H S⟩;obtain⟨o,e⟩:=h2 a z;obtain⟨u,e2⟩:=hk;rw[h1 a u e2]at e;cases e⟩
noncomputable def enW(w:World)(p:Str×Tok×Value):DictEntry:=⟨hashStr w p.1,.str p.1 p.2.1,p.2.2⟩
def dvs(ts:List (Str×Tok×Value)):List (Key×Value):=ts.map λp=>(Sum.inr p.1,p.2.2)
def QN:∀{ts:List (Str×Tok×Value)},(ts.map (·.1)).Nodup->((dvs ts).map (·.1)).Nodup:=λ{ts} h=>by
 unfold dvs;rw[vq];have e:ts.map ((λx=>x.1) ∘ λp:Str×Tok×Value=>((Sum.inr p.1,p.2.2):Key×Value))=(ts.map (·.1)).map Sum.inr:=by rw[vq];rfl
 rw[e];rw[nodup_iff_pairwise_ne,pairwise_map];exact(nodup_iff_pairwise_ne.mp h).imp λ{a b} I z=>I (Sum.inr.inj z)
theorem sX{P:wg}{w:World}:∀{ts:List (Str×Tok×Value)},Pairs (bV P w) (ts.map (enW w)) (dvs ts)
 |[]=>.nil
 |p::ts=>.cons (eA P w p.1 p.2.1) rfl sX
theorem QO:∀{kvs:List (Str×D)} {ts:List (Str×Tok×Value)},kvs.map (·.1)=ts.map (·.1)->∀k,(valueAt (dvs ts) (Sum.inr k)).isSome=(kvs.lookup k).isSome
 |[],[],_,k=>rfl
 | (x,d)::kvs,(y,t,u)::ts,h,k=>by simp only[uu,List.cons.injEq]at h;obtain⟨rfl,h⟩:=h;have I:=QO h k;show (valueAt ((Sum.inr x,u)::dvs ts) (Sum.inr k)).isSome=_;unfold valueAt at I ⊢;rw[find?_cons,lookup_cons];by_cases e:k=x;subst e;simp;have e1:(k == x)=J:=uz.mpr e;have e2:decide ((Sum.inr x:Key)=Sum.inr k)=J:=tj λz=>e (Sum.inr.inj z).symm;rw[e1,e2];exact I
theorem EY{K:wc}{T:Tx}:∀{kvs:List (Str×D)} {ts:List (Str×Tok×Value)},kvs.map (·.1)=ts.map (·.1)->(∀(i:Nat) p q,kvs[i]?=O p->ts[i]?=O q->CV K T p.2 q.2.2)->∀k d u,kvs.lookup k=O d->valueAt (dvs ts) (Sum.inr k)=O u->CV K T d u
 |[],[],_,_,k,d,u,h,_=>by cases h
 | (x,d')::kvs,(y,t,I)::ts,h,hv,k,d,u,h1,h2=>by simp only[uu,List.cons.injEq]at h;obtain⟨rfl,h⟩:=h;have ih:=EY h (λi p q a b=>hv (i+1) p q a b) k d u;unfold valueAt at ih h2;rw[show dvs ((x,t,I)::ts)=(Sum.inr x,I)::dvs ts from rfl,find?_cons]at h2;rw[lookup_cons]at h1;by_cases e:k=x;subst e;simp at h1 h2;subst h1 h2;exact hv 0 _ _ rfl rfl;have e1:(k == x)=J:=uz.mpr e;have e2:decide ((Sum.inr x:Key)=Sum.inr k)=J:=tj λz=>e (Sum.inr.inj z).symm;rw[e1]at h1;rw[e2]at h2;exact ih h1 h2
def qG{X:Cx}{a:Addr}{o:Obj}{ep:Nat}{kvs:List (Str×D)}{ts:List (Str×Tok×Value)}(hs:(a == sysModules)=J)(hl:X.K.lookup a=O o)(he:o.ExactDict)(hd:o.data=.dict (ts.map (enW X.w)).toArray ep)(hk:kvs.map (·.1)=ts.map (·.1))(hn:(ts.map (·.1)).Nodup) (hv:∀(i:Nat) p q,kvs[i]?=O p->ts[i]?=O q->CV X.K T p.2 q.2.2):RX X T a kvs:=by
 refine⟨hs,o,dvs ts,hl,⟨_,ep,he,hd,λe h=>?_,?_,QN hn⟩,QO hk,λk d u h1 h2=>EY hk hv k d u h1 h2⟩;have h:e∈ts.map (enW X.w):=by simpa using h
 obtain⟨p,_,rfl⟩:=ux.mp h;exact⟨Sum.inr p.1,eA X.prog X.w p.1 p.2.1,rfl⟩;exact sX
noncomputable def stN(b:List Stmt)(i:Nat):Stmt:=b.getD i (.Pass ⟨0,0,0,0⟩)
def pcD(G:GS)(I z:IS)(ds:List D):Option Rs:=if ds.length=1 then(je G I z ds).map λgs=>.ok (.lst (gs.map j6)) else U
section
variable {P:wg}{w:World}{K:wc}{mg:wm}{base:Heap}{m:Nm}{G:GS}{T:Tx}{lv:Nat}
def MOk.pieces(h:MOk P w K mg base (dY P w) m G T lv){f:Addr}{mus:List Str}{a0:Str}{s1 s2 s3:Stmt}{I z:IS}{p:Nat->Pos}(hm:mg x=O (.ref f))(hb:Binds K fd [a0] []) (F:Fun K x x st f fd) (fs:ai N [a0] (aF st)) (hN6:N.length=6) (hk:kN (m.cc N (aF st) mus) (aF st)=Y) (hbd:bD st=s1::s2::s3::uA p) (h1:cS n (m.cc N (aF st) mus) s1=O I) (h2:cS n (m.cc N (aF st) mus) s2=O z) (h3:cS n (m.cc N (aF st) mus) s3=O (.setd 3)) (hP:rg (m.cc N (aF st) mus) p):MOk P w K mg base (dY P w) (m.addF x) (G.addF x (pcD G I z)) T (lv+1)/\FnOk P w K mg base (dY P w) (lv+1) f fd [a0] (oo K T (je G I z)):=by
 have G1:FnOk P w K mg base (dY P w) (lv+1) f fd [a0] (oo K T (je G I z)):=IB (P:=P) (w:=w) (mg:=mg) (base:=base) (T:=T) (lv:=lv) F fs (c:=m.cc N (aF st) mus) rfl hN6 rfl hk hbd h1 h2 h3 hP (λX a1 a2 a3 a4 a5=>h X _ a1 a2 a3 a4 a5 rfl rfl rfl);refine⟨h.addF hm F.kp hb (λds r hr=>AM hr) (G1.imp λvs H Q E bg=>aED ?_),G1⟩;obtain⟨h1,S,ds,dom,rl,hc⟩:=bg;refine⟨h1,S,ds,dom,rl,?_⟩;have el:ds.length=1:=by rw[rl.len];exact h1
 have e:pcD G I z ds=(je G I z ds).map λgs=>.ok (.lst (gs.map j6)):=if_pos el;rw[e]at hc;exact hc
end
end Z
namespace Toy
open PySem PySem.Spec PyProof.Rows L2 Z
variable {g:GS}{ds:List D}{fd:we}{m x:Str}{st:Stmt}{ps:List Str}{c r t:Nat}{w:World}{h:Heap}{T:Tx}{K:wc}{mg:wm}
noncomputable def xX:Str->List Str:=λc=>if c="Pile" then [yq,"rows","wide","high","table","folds",yo] else []
noncomputable def csts:List (Str×D):=[(yc,.int 64),(wu,.tup [.str "west",.str "east"]),(xt,.tup [.str "north",.str "south"]),(yb,.tup [.str "west",.str "north"]),("FIGURES",.str "0123456789"),("MOST_FIGURES",.int 9)]
noncomputable def jj:List (Str×List (Str×D)):=[(xj,[("west",.tup [.bl J,.int 0]),("east",.tup [.bl J,.int 1]),("north",.tup [.bl Y,.int 0]),("south",.tup [.bl Y,.int 1])]),("WAYS",[("over",.bl Y),("under",.bl J)])]
noncomputable def fk:List Str:=["Loose"]
def aAS:Str->Str->Bool:=λk k'=>fk.contains k&&(k' == "LeafError" || k == k')
def m0:Nm:=⟨[],(["Pile","LeafError","NoSheet","NoFold","NoPlace","Ajar","Severed","Bolted","Loose","NoWord"]:List Str),csts.map (·.1)⟩
def g0:GS:=G0 csts xX aAS (λk=>fk.contains k) jj
abbrev Rd(z:List Str)(m:Nm)(N:List Str)(st:Stmt)(i:IS):Prop:=jv 60 (m.cc N (aF st) z) (bD st)=O i
abbrev Ok(z:List Str)(m:Nm)(N:List Str)(st:Stmt):Prop:=kN (m.cc N (aF st) z) (aF st)=Y
def sK{N P:List Str}{sc:Scope}(a:sc.kind=.function:=by rfl)(b:sc.isCoroutine=J:=by rfl)(c:sc.isGenerator=J:=by rfl)(d:N.Nodup:=by decide +kernel)(e:N.take P.length=P:=by rfl)(f:∀x∈P,sc.names.lookup x=O .local\/sc.names.lookup x=O .cell:=by decide +kernel)(h:∀y∈sc.names,y.2≠.free:=by decide +kernel):ai N P sc:=⟨a,b,c,d,e,f,h⟩
def fD(k:Nat)(g:GS)(n:Nat)(i:IS)(ds:List D):Option Rs:=if ds.length=k then bC g n i ds else U
def bW{k:Nat}{n:Nat}{i:IS}(h:ds.length=k):fD k g n i ds=bC g n i ds:=if_pos h
noncomputable def xV:List (Str×IE):=[(yq,.v 1),("rows",.v 2),("wide",.ρ .len (.cons (.ix (.v 3) (.L (.int 0))) .nil)),("high",.ρ .len (.cons (.v 3) .nil)),("table",.v 3),("folds",.v 4),(yo,.v 5)]
def aFe:tJ 60 (m0.cc (["self",yq,"rows","table","folds",yo]:List Str) (aF (L2.inClass (top 15) 0)) []) (bD (L2.inClass (top 15) 0))=O xV:=yz
def OV(ds:List D):Option Rs:=if ds.length+1=6 then GI g0 "Pile" 6 xV ds else U
def g1:GS:=g0.addC "Pile" OV
def m1:Nm:=m0
noncomputable def FT:List Str:=["self","x","y"]
abbrev RT:List Str:=FT
def aEY:Rd [] m1 FT (L2.inClass (top 15) 1) Pg.uR:=yz
def aEH:ai FT RT (aF (L2.inClass (top 15) 1)):=sK
def aFy:Ok [] m1 FT (L2.inClass (top 15) 1):=y7
def pY:=fD 3 g1 3 Pg.uR
def aEm:ds.length=3->pY ds=bC g1 3 Pg.uR ds:=bW
def g2:GS:=g1.addM "Pile" "heap" pY
def m2:Nm:=m1
noncomputable def FU:List Str:=["self"]
abbrev RU:List Str:=FU
def aEZ:Rd [] m2 FU (L2.inClass (top 15) 2) Pg.uS:=yz
def aEI:ai FU RU (aF (L2.inClass (top 15) 2)):=sK
def aFz:Ok [] m2 FU (L2.inClass (top 15) 2):=y7
def EI:=fD 1 g2 1 Pg.uS
def aEo:ds.length=1->EI ds=bC g2 1 Pg.uS ds:=bW
def g3:GS:=g2.addM "Pile" "done" EI
def m3:Nm:=m2
def OZ:=fD 2 g3 2 Pg.kX
def g4:GS:=g3.addF yk OZ
def m4:Nm:=m3.addF yk
def yC:=fD 2 g4 3 Pg.uQ
def aEn:ds.length=2->yC ds=bC g4 3 Pg.uQ ds:=bW
def g5:GS:=g4.addF "laid" yC
def m5:Nm:=m4.addF "laid"
def OY:=fD 2 g5 2 Pg.mT
def g6:GS:=g5.addF yp OY
def m6:Nm:=m5.addF yp
def aDq:=fD 3 g6 6 Pg.fI
def g7:GS:=g6.addF wz aDq
def m7:Nm:=m6.addF wz
def PV:=fD 2 g7 2 Pg.gQ
def g8:GS:=g7.addF xq PV
def m8:Nm:=m7.addF xq
def PR:=fD 2 g8 2 Pg.gP
def g9:GS:=g8.addF xo PR
def m9:Nm:=m8.addF xo
def aDm:=fD 4 g9 7 Pg.gB
def g10:GS:=g9.addF xb aDm
def m10:Nm:=m9.addF xb
def PD:=fD 2 g10 2 Pg.jI
def g11:GS:=g10.addF yf PD
def m11:Nm:=m10.addF yf
def PM:=fD 1 g11 1 Pg.iI
def qr:GS:=g11.addF xw PM
def m12:Nm:=m11.addF xw
def aDn:=fD 4 qr 5 Pg.gA
def g13:GS:=qr.addF xh aDn
def m13:Nm:=m12.addF xh
def PH:=fD 3 g13 3 Pg.iL
def g14:GS:=g13.addF x8 PH
def m14:Nm:=m13.addF x8
def aDr:=fD 1 g14 1 Pg.eQ
def nu:GS:=g14.addF wt aDr
def m15:Nm:=m14.addF wt
def EL:=fD 4 nu 6 Pg.pQ
def qq:GS:=nu.addF yt EL
def m16:Nm:=m15.addF yt
def PQ:=fD 1 qq 7 Pg.iM
def g17:GS:=qq.addF yd PQ
def m17:Nm:=m16.addF yd
def PN:=fD 2 g17 5 Pg.iK
def qp:GS:=g17.addF xx PN
def m18:Nm:=m17.addF xx
def PP:=fD 1 qp 6 Pg.iO
def g19:GS:=qp.addF ya PP
def m19:Nm:=m18.addF ya
def sT:=fD 1 g19 1 Pg.pP
def g20:GS:=g19.addF yr sT
def m20:Nm:=m19.addF yr
def OW:=fD 3 g20 5 Pg.MV
def g21:GS:=g20.addF "cut" OW
def m21:Nm:=m20.addF "cut"
def aDp:=fD 3 g21 5 Gp.BB
def j8:GS:=g21.addF wx aDp
def jz:Nm:=m21.addF wx
noncomputable def tQ:List Str:=["pile","least","joint","groups","cell","head"]
abbrev FR:List Str:=["pile"]
def aEJ:ai tQ FR (aF (top 35)):=sK
def aFA:Ok ["groups"] jz tQ (top 35):=y7
noncomputable def ZV:Nat->Pos:=λi=>([⟨131,8,131,12⟩,⟨131,14,131,18⟩,⟨131,8,131,18⟩,⟨131,22,131,31⟩,⟨131,32,131,37⟩,⟨131,22,131,38⟩,⟨132,8,132,14⟩,⟨132,8,132,25⟩,⟨132,26,132,30⟩,⟨132,32,132,34⟩,⟨132,8,132,35⟩,⟨132,8,132,42⟩,⟨132,43,132,47⟩,⟨132,8,132,48⟩,⟨132,8,132,48⟩,⟨131,4,132,48⟩,⟨133,11,133,15⟩,⟨133,16,133,22⟩,⟨133,16,133,29⟩,⟨133,16,133,31⟩,⟨133,11,133,32⟩,⟨133,4,133,32⟩]:List Pos).getD i ⟨0,0,0,0⟩
def WE:bD (top 35)=stN (bD (top 35)) 0::stN (bD (top 35)) 1::stN (bD (top 35)) 2::uA ZV:=by rfl
def aFn:cS 60 (jz.cc tQ (aF (top 35)) (["groups"]:List Str)) (stN (bD (top 35)) 0)=O K11.pc1:=yz
def aFm:cS 60 (jz.cc tQ (aF (top 35)) (["groups"]:List Str)) (stN (bD (top 35)) 1)=O K11.pc2:=yz
def aFl:cS 60 (jz.cc tQ (aF (top 35)) (["groups"]:List Str)) (stN (bD (top 35)) 2)=O (.setd 3):=yz
def aHl:rg (jz.cc tQ (aF (top 35)) (["groups"]:List Str)) ZV:=⟨yz,yz,yz,yz,yz,y7,y7,y7,y7,y7,y7,y7,y7,y7⟩
def EK:=pcD j8 K11.pc1 K11.pc2
def aEp{d:D}:EK [d]=(je j8 K11.pc1 K11.pc2 [d]).map λgs=>.ok (.lst (gs.map j6)):=rfl
def g23:GS:=j8.addF yu EK
def m23:Nm:=jz.addF yu
def IF:=fD 2 g23 2 Pg.MT
def g24:GS:=g23.addF wq IF
def m24:Nm:=m23.addF wq
def YM:=fD 2 g24 8 Pg.aDc
def qo:GS:=g24.addF wy YM
def m25:Nm:=m24.addF wy
def aAv:=fD 3 qo 3 K10.uO
def qm:GS:=qo.addF "pages" aAv
def m26:Nm:=m25.addF "pages"
def aAs:=fD 2 qm 5 K09.AY
def ql:GS:=qm.addF "plan" aAs
def m27:Nm:=m26.addF "plan"
def aGr:=fD 2 ql 7 K13.MU
def nt:GS:=ql.addF wo aGr
def m28:Nm:=m27.addF wo
def OX:=fD 2 nt 6 K13.BC
def qk:GS:=nt.addF "held" OX
def m29:Nm:=m28.addF "held"
def yD:=fD 2 qk 2 K13.uT
def lr:GS:=qk.addF yv yD
def m30:Nm:=m29.addF yv
def EJ:=fD 3 lr 3 K13.mS
def g31:GS:=lr.addF "sewn" EJ
def m31:Nm:=m30.addF "sewn"
def PL:=fD 3 g31 4 K15.iJ
def g32:GS:=g31.addF x6 PL
def m32:Nm:=m31.addF x6
def aAu:=fD 1 g32 1 K15.uN
def g33:GS:=g32.addF "shown" aAu
def m33:Nm:=m32.addF "shown"
def PX:=fD 1 g33 1 K15.gR
def g34:GS:=g33.addF xi PX
def m34:Nm:=m33.addF xi
def PF:=fD 1 g34 2 K15.jH
def g35:GS:=g34.addF yg PF
def m35:Nm:=m34.addF yg
def aAt:=fD 1 g35 1 K15.AX
def g36:GS:=g35.addF "read" aAt
def m36:Nm:=m35.addF "read"
def YL:=fD 2 g36 2 Pg.mU
def g37:GS:=g36.addF xg YL
def m37:Nm:=m36.addF xg
def EM:=fD 1 g37 1 Pg.uM
def g38:GS:=g37.addF x9 EM
def m38:Nm:=m37.addF x9
def aDo:=fD 1 g38 3 Pg.fZ
def aGT:ds.length=1->aDo ds=bC g38 3 Pg.fZ ds:=bW
def g39:GS:=g38.addF xa aDo
def m39:Nm:=m38.addF xa
def PY:=fD 3 g39 6 Pg.kE
def j7:GS:=g39.addF xf PY
def m40:Nm:=m39.addF xf
def PB:=fD 3 j7 7 Pg.AW
def qj:GS:=j7.addF yj PB
def m41:Nm:=m40.addF yj
def PU:=fD 2 qj 4 Pg.BA
def g42:GS:=qj.addF xp PU
def m42:Nm:=m41.addF xp
def aAx:=fD 2 g42 4 K13.AZ
def qi:GS:=g42.addF yi aAx
def m43:Nm:=m42.addF yi
def aAA:=fD 2 qi 3 K13.aDd
def g44:GS:=qi.addF xr aAA
def m44:Nm:=m43.addF xr
def aAy:=fD 4 g44 13 K13.AV
def nq:GS:=g44.addF ye aAy
def m45:Nm:=m44.addF ye
def PJ:=fD 3 nq 7 K16.uU
def g46:GS:=nq.addF x5 PJ
def m46:Nm:=m45.addF x5
def aAw:=fD 2 g46 4 K16.BD
def g47:GS:=g46.addF yh aAw
def m47:Nm:=m46.addF yh
def aAz:=fD 2 g47 4 K16.aDe
def g48:GS:=g47.addF xu aAz
def m48:Nm:=m47.addF xu
def PK:=fD 3 g48 3 K16.uP
def dc:GS:=g48.addF xv PK
def o4:Nm:=m48.addF xv
noncomputable def FS:List Str:=["script",yq,"rows","pile","leafs","again","side","near","spine","prints","bits","ready"]
noncomputable def zC:List Str:=["script"]
def aEX:Rd [] o4 FS (top 70) K16.EE:=yz
def aEG:ai FS zC (aF (top 70)):=sK
def aFx:Ok [] o4 FS (top 70):=y7
def yB:=fD 1 dc 12 K16.EE
def ZJ:ds.length=1->yB ds=bC dc 12 K16.EE ds:=bW
def tx(C:Addr)(cs:Str->Addr):Tx:=⟨λx=>if x="Pile" then O C else U,λx=>if fk.contains x=Y then O (cs x) else U⟩
def CI(C:Addr)(cs:Str->Addr):(tx C cs).cl "Pile"=O C:=by unfold tx;simp only[if_true]
def ZK{C:Addr}{cs:Str->Addr}{cn:Str}{C':Addr}(h:(tx C cs).cl cn=O C'):cn="Pile"/\C'=C:=by unfold tx at h;dsimp only at h;split at h;rename_i e;cases h;exact⟨e,rfl⟩;cases h
def CH{C:Addr}{cs:Str->Addr}{k:Str}{C':Addr}(h:(tx C cs).xc k=O C'):fk.contains k=Y/\C'=cs k:=by unfold tx at h;dsimp only at h;split at h;rename_i e;cases h;exact⟨e,rfl⟩;cases h
structure Df (K:wc) (mg:wm) (x:Str) (st:Stmt) (ps:List Str) (f:Addr) (fd:we):Prop where
 fn:Fun K x x st f fd
 at_:mg x=O (.ref f)
 bd:Binds K fd ps []
structure Mt (K:wc) (C:Addr) (x qual:Str) (st:Stmt) (ps:List Str) (f:Addr) (fd:we):Prop where
 fn:Fun K x qual st f fd
 at_:iF K C x f
 bd:Binds K fd ps []
section
variable {P:wg}{w:World}{K:wc}{mg:wm}{base:Heap}{C:Addr}{cs:Str->Addr}
abbrev MO(P:wg)(w:World)(K:wc)(mg:wm)(base:Heap)(C:Addr)(cs:Str->Addr)(m:Nm)(g:GS)(k:Nat):Prop:=MOk P w K mg base (dY P w) m g (tx C cs) k
def mk0(hc:∀x d,csts.lookup x=O d->zE K (tx C cs) mg x d)(bq:Cls K C)(ic:∀f,(xX "Pile").contains f=Y->eM K C f)(I:∀x,fR.contains x=Y->mg x=U)(hx:∀k,fk.contains k=Y->mg k=O (.ref (cs k)))(pj:∀k,fk.contains k=Y->excIn K (cs k) jk "ValueError.__new__"=Y) (BE:∀k k',fk.contains k=Y->fk.contains k'=Y->aAS k k'=Y->kT K (cs k) (.ref (cs k'))=Y) (z:∀x kvs,jj.lookup x=O kvs->∃a,mg x=O (.ref a)/\∀X:Cx,X.prog=P->X.w=w->X.K=K->RX X (tx C cs) a kvs):MO P w K mg base C cs m0 g0 1:=aHt hc (λcn C' h=>by obtain⟨_,rfl⟩:=ZK h;exact bq) (λcn C' f h hf=>by obtain⟨rfl,rfl⟩:=ZK h;exact ic f hf) I (λk C' h=>by obtain⟨h1,rfl⟩:=CH h;exact hx k h1) (λk h=>⟨cs k,if_pos h⟩) (λk C' h=>by obtain⟨h1,rfl⟩:=CH h;exact pj k h1) (λk k' C1 C2 a b h=>by obtain⟨h1,rfl⟩:=CH a;obtain⟨h2,rfl⟩:=CH b;exact BE k k' h1 h2 h) z
def aEK:ai (["self",yq,"rows","table","folds",yo]:List Str) (["self",yq,"rows","table","folds",yo]:List Str) (aF (L2.inClass (top 15) 0)):=sK
def mk1{f:Addr}(h:MO P w K mg base C cs m0 g0 1)(hm:mg "Pile"=O (.ref C))(σ:Mk K C f)(hb:Binds K fd (["self",yq,"rows","table","folds",yo]:List Str) [])(F:Fun K "__init__" "Pile.__init__" (L2.inClass (top 15) 0) f fd)(bq:Cls K C)(ic:∀f,(xX "Pile").contains f=Y->eM K C f):MO P w K mg base C cs m1 g1 3:=h.defC hm σ hb F aEK y7 aFe (CI C cs) bq (λx hx=>ic x.1 (by
 have:xV.all (λx=>(xX "Pile").contains x.1)=Y:=y7
 exact all_eq_true.mp this x hx)) y7 y8
def mkM{m:Nm}{k:Nat}{q:Str}{N z:List Str}{i:IS}{f:Addr}(s:ai N ps (aF st))(o:Ok z m N st)(r:Rd z m N st i)(h:MO P w K mg base C cs m g k)(σ:Mt K C x q st ps f fd):MO P w K mg base C cs m (g.addM "Pile" x (fD ps.length g N.length i)) (k+1):=h.defM (CI C cs) σ.at_ σ.bd σ.fn s o r
def ax(N z:List Str)(i:IS){m:Nm}{k:Nat}{f:Addr}(h:MO P w K mg base C cs m g k)(σ:Df K mg x st ps f fd)(s:ai N ps (aF st):=by exact sK)(o:Ok z m N st:=by decide +kernel)(r:Rd z m N st i:=by kernel_rfl):MO P w K mg base C cs (m.addF x) (g.addF x (fD ps.length g N.length i)) (k+1):=h.defF σ.at_ σ.bd σ.fn s o r
def mkP{f:Addr}(h:MO P w K mg base C cs jz j8 24)(σ:Df K mg yu (top 35) FR f fd):MO P w K mg base C cs m23 g23 25/\FnOk P w K mg base (dY P w) 25 f fd FR (oo K (tx C cs) (je j8 K11.pc1 K11.pc2)):=h.pieces σ.at_ σ.bd σ.fn aEJ rfl aFA WE aFn aFm aFl aHl
def aCF{f:Addr}(h:MO P w K mg base C cs o4 dc 51)(σ:Df K mg "law" (top 70) zC f fd):FnOk P w K mg base (dY P w) 52 f fd zC (ik K (tx C cs) 1 yB):=((aDh (n:=60) (c:=o4.cc FS (aF (top 70)) ([]:List Str)) σ.fn aEG rfl rfl aFx aEX (λX a1 a2 a3 a4 I=>h X _ a1 a2 a3 a4 I rfl rfl rfl)).imp λvs H Q E ⟨h1,S,ds,dom,z,hc⟩=>⟨h1,S,ds,dom,z,by rw[ZJ (by rw[z.len];exact h1)]at hc;exact hc⟩)
end
def aBw:g4.fn yk = OZ:=yz
def aBv:g6.fn yp = OY:=yz
def aBu:g8.fn xq = PV:=yz
def aFg:g9.fn wz = aDq:=yz
def aBt:g9.fn xo = PR:=yz
def VJ:g11.fn yf = PD:=yz
def aBK:qr.fn xb = aDm:=yz
def VI:qr.fn xw = PM:=yz
def aBI:nu.fn xh = aDn:=yz
def VH:nu.fn x8 = PH:=yz
def aBJ:nu.fn wt = aDr:=yz
def WK:qq.me "Pile" "heap"=pY:=yz
def VG:qp.fn yd = PQ:=yz
def VF:qp.fn xx = PN:=yz
def VE:g19.fn ya = PP:=yz
def VD:g20.fn yr = sT:=yz
def aBH:j8.fn wx = aDp:=yz
def VC:j8.fn yr = sT:=yz
def WJ:g24.me "Pile" "heap"=pY:=yz
def aBG:qo.fn wq = IF:=yz
def aBF:qo.fn wy = YM:=yz
def aBE:qm.fn wq = IF:=yz
def aBD:qm.fn wy = YM:=yz
def VB:ql.fn yr = sT:=yz
def VA:nt.fn yu = EK:=yz
def aBB:nt.fn wq = IF:=yz
def aBC:nt.fn wo = aGr:=yz
def UZ:qk.fn yr = sT:=yz
def aBA:qk.fn wq = IF:=yz
def UX:lr.fn yv = yD:=yz
def UW:lr.fn "held"=OX:=yz
def UY:lr.fn "pages"=aAv:=yz
def UV:g32.fn x6 = PL:=yz
def UU:g34.fn xi = PX:=yz
def UT:g35.fn yg = PF:=yz
def aBz:j7.fn xg = YL:=yz
def US:j7.fn xf = PY:=yz
def UR:j7.fn yt = EL:=yz
def UQ:j7.fn "laid"=yC:=yz
def UP:qj.fn x9 = EM:=yz
def WI:qj.me "Pile" "heap"=pY:=yz
def UO:qi.fn "cut"=OW:=yz
def UN:g44.fn yi = aAx:=yz
def UM:nq.fn yt = EL:=yz
def UK:nq.fn "laid"=yC:=yz
def UL:nq.fn "read"=aAt:=yz
def UJ:g46.fn x9 = EM:=yz
def UI:g48.fn "sewn"=EJ:=yz
def UD:dc.fn x5 = PJ:=yz
def UA:dc.fn yh = aAw:=yz
def aBx:dc.fn xg = YL:=yz
def UE:dc.fn xu = aAz:=yz
def UH:dc.fn xr = aAA:=yz
def UG:dc.fn xp = PU:=yz
def UF:dc.fn xv = PK:=yz
def aBy:dc.fn xa = aDo:=yz
def UB:dc.fn yj = PB:=yz
def UC:dc.fn ye = aAy:=yz
def TY:dc.fn yv = yD:=yz
def TV:dc.fn "plan"=aAs:=yz
def TX:dc.fn "sewn"=EJ:=yz
def TZ:dc.fn "shown"=aAu:=yz
def WH:dc.me "Pile" "done"=EI:=yz
def WG:dc.me "Pile" "heap"=pY:=yz
open Z.Pg
def gh(G:GS)(h:G.fl=xX):G.fl "Pile"=cy:=by rw[h];rfl
def mo_(c r:Int)(T row:List D)(F S:List D)(h:T[0]?=O (.lst row)):OV [.int c,.int r,.lst T,.tup F,.tup S]=O (.ok (bM c r row.length T.length T F S)):=by show GI g0 "Pile" 6 xV _=_;unfold GI xV;have e:Z.atI T 0=O (.lst row):=eL (k:=0) h;show Option.map _ (ji g0 [.un,.im (.int c),.im (.int r),.im (.lst T),.im (.tup F),.im (.tup S)] _)=_;simp only[ji,tf];simp only[yw,e];rfl
def CA{w h:Nat}{T:Table}{F S:List D}{x y:Nat}(α:Rect T w h)(hx:x<w)(hy:y<h):pY [aL c r w h T F S,.int x,.int y]=O (.ok (hE ((T.getD y []).getD x []))):=by
 rw[aEm rfl];have z:y<T.length:=by rw[α.len];exact hy
 have hr:(T.getD y []).length=w:=α.row _ (by rw[sk,su z];exact w9 z);refine YH (gh _ rfl) (row:=(T.getD y []).map hE) (by lia) (by lia) ?_ ?_;rw[sv,sk,su z];rfl;rw[sv,sk (l:=T.getD y []),su (by lia)];rfl
def aDU{w h:Nat}{T:Table}{F S:List D}:EI [aL c r w h T F S]=O (.ok (.lst F)):=by rw[aEo rfl];exact YT (gh _ rfl)
def mc_:g4.cst yc = O (.int 64):=by rfl
def aDY{y:Nat}(h1:c<=64)(h2:y<=64):OZ [.int c,.int y]=O (.ok (.lst (nT c y))):=(bW rfl).trans (xN h1 h2)
def ZH(h1:1<=c)(h2:1<=r)(h3:c*r<=64):yC [.int c,.int r]=O (.ok (aL c r c r (gJ c r) [] [])):=by rw[aEn rfl];unfold aL;rw[<-wC];exact XU mc_ (λc y a b=>by rw[aBw];exact aDY a b) (λc r T row h=>mo_ c r T row [] [] h) h1 h2 h3
def aDX(p:bK)(k:Nat):OY [sE p,.int k]=O (.ok (hE (p.getD k []))):=(bW rfl).trans BG
def aGR(z st:bK)(over:Bool)(l1:z.length<=1000)(l2:st.length<=1000)(f1:Few 400000 z)(f2:Few 400000 st):aDq [sE z,sE st,.bl over]=O (.ok (sE (cZ z st over))):=(bW rfl).trans (mO (λp k=>by rw[aBv];exact aDX p k) l1 l2 f1 f2)
def aEi(h:dP)(sd:Side):PV [hE h,.str sd.str]=O (.ok (hE (kM sd.up h))):=(bW rfl).trans (oS rfl)
def aEh(p:bK)(sd:Side):PR [sE p,.str sd.str]=O (.ok (sE (fJ sd.up p))):=(bW rfl).trans (oR λh sd=>by rw[aBu];exact aEi h sd)
def aGP(s:bK)(sd:Side)(over:Bool)(c:Nat)(ls:s.length<=1000)(hf:Few 400000 s):aDm [sE s,.str sd.str,.bl over,.int c]=O (.ok (sE (eO sd over c s))):=(bW rfl).trans (nW rfl (λp sd=>by rw[aBt];exact aEh p sd) (λz st over a b c d=>by rw[aFg];exact aGR z st over a b c d) ls hf)
def aDZ(T:Table)(x:Nat)(h:∀s∈T,x<s.length):PD [tE T,.int x]=O (.ok (sE (T.map λs=>s.getD x []))):=(bW rfl).trans (vR h)
def aEd(T:Table)(w h:Nat)(α:Rect T w h)(hw:w<=1000):PM [tE T]=O (.ok (tE (transp T))):=(bW rfl).trans (qV (λT x h=>by rw[VJ];exact aDZ T x h) α hw)
def aGQ(T:Table)(w h:Nat)(sd:Side)(over:Bool)(k:Nat)(α:Rect T w h)(hw:w<=1000)(z:h<=1000)(hf:rH 400000 T)(h1:1<=k)(h2:k<if sd.up then w else h):aDn [tE T,.str sd.str,.bl over,.int k]=O (.ok (tE (foldT sd over k T))):=(bW rfl).trans (nV rfl (λT w h α hw=>by rw[VI];exact aEd T w h α hw) (λs sd over c a b=>by rw[aBK];exact aGP s sd over c a b) α hw z hf h1 h2)
def aEb(c r w h:Nat)(T:Table)(F S:List D)(sd:Side)(i:Int):PH [aL c r w h T F S,.str sd.str,.int i]=O (.ok (.bl (decide (1<=i)&&decide (i<((if sd.up then w else h:Nat):Int))))):=(bW rfl).trans (rA (gh _ rfl) rfl rfl)
def aGS(c r w h:Nat)(T:Table)(F:List D):aDr [aL c r w h T F []]=O (.ok .non):=(bW rfl).trans (lN (gh _ rfl))
def ZI(c r w h:Nat)(T:Table)(F:List D)(sd:Side)(over:Bool)(k:Nat)(α:Rect T w h)(hw:w<=1000)(z:h<=1000)(hf:rH 400000 T)(h1:1<=k)(h2:k<if sd.up then w else h)(I:F.length<=1000):EL [aL c r w h T F [],.str sd.str,.bl over,.int k]=O (.ok (aL c r (if sd.up then max k (w-k) else w) (if sd.up then h else max k (h-k)) (foldT sd over k T) (F++[fK sd over k]) [])):=(bW rfl).trans (HZ (gh _ rfl) (λc r w h T F=>by rw[aBJ];exact aGS c r w h T F) (λc r w h T F S sd i=>by rw[VH];exact aEb c r w h T F S sd i) (λT w h sd over k a b c d e f=>by rw[aBI];exact aGQ T w h sd over k a b c d e f) (λc r T row F S h=>mo_ c r T row F S h) α hw z hf h1 h2 I)
def rJ(ns:List Int)(k:Nat):YL [.frz (ns.map .int),.int k]=O (.ok (.int (de ns k))):=(bW rfl).trans BR
def BY(i:Int):EM [.int i]=O (.ok (.bl Y)):=(bW rfl).trans IW
def FV(w h:Nat)(cell:Int)(hw:1<=w)(I:1<=h)(z:1<w*h):∃(sd:Side) (over:Bool) (k:Nat),1<=k/\(k<if sd.up then w else h)/\PY [.int cell,.int w,.int h]=O (.ok (fK sd over k)):=by obtain⟨sd,over,k,a,b,e⟩:=BK (G:=g39) (cell:=cell) hw I z;exact⟨sd,over,k,a,b,(bW rfl).trans e⟩
def aEg(c r:Nat)(T:Table)(F C:List D)(sp:List Spot)(S:aq T 1 1 sp):∃kvs,PQ [aL c r 1 1 T F C]=O (.ok (.dct kvs))/\∀(i:Nat) (s:Spot),sp[i]?=O s->bL kvs i=O (sH s):=by obtain⟨kvs,e,h⟩:=rB (G:=qq) (c:=c) (r:=r) (F:=F) (C:=C) (gh _ rfl) (λc r w h T F S x y a b d=>by rw[WK];exact CA a b d) S;exact⟨kvs,(bW rfl).trans e,h⟩
def aEe(c r:Nat)(hc:1<=c)(I:c*r<=64)(z:c<=64):PN [.int c,.int r]=O (.ok (.lst ((ba c (c*r) (c*r)).map fe))):=(bW rfl).trans (qZ hc I z)
def aEf(c r:Nat)(T:Table)(F C:List D)(sp:List Spot)(S:aq T 1 1 sp)(hc:1<=c)(z:c*r<=64)(I:c<=64)(bg:sp.length=c*r):PP [aL c r 1 1 T F C]=O (.ok (jsE sp c r)):=by obtain⟨kvs,e,hk⟩:=aEg c r T F C sp S;exact(bW rfl).trans (rG (gh _ rfl) (by rw[VG];exact e) hk (by rw[VF];exact aEe c r hc z I) z bg)
def fM(c r:Nat)(T:Table)(F:List D)(sp:List Spot)(aa:List (Nat×Nat))(S:aq T 1 1 sp)(hc:1<=c)(ao:c*r<=64)(z:c<=64)(I:sp.length=c*r):sT [aL c r 1 1 T F (aa.map pD)]=O (.ok (.lst ((Pg.left c (c*r) aa).map (jD sp)))):=(bW rfl).trans (AN (gh _ rfl) (by rw[VE];exact aEf c r T F _ sp S hc ao z I))
def FW(c r:Nat)(T:Table)(F:List D)(sp:List Spot)(aa:List (Nat×Nat))(S:aq T 1 1 sp)(hc:1<=c)(ao:c*r<=64)(z:c<=64)(I:sp.length=c*r)(l:Bool)(n:Int)(h0:0<=n)(h1:n<=((if l then 1 else 1:Nat):Int))(hs:aa.length<=900000):OW [aL c r 1 1 T F (aa.map pD),.bl l,.int n]=O (.ok (aL c r 1 1 T F ((aa++fL c (c*r) sp aa l n).map pD))):=(bW rfl).trans (YU (gh _ rfl) S.rect (by rw[VD];exact fM c r T F sp aa S hc ao z I) (λc r T row F S h=>mo_ c r T row F S h) h0 h1 (by lia))
def BZ(c r:Nat)(T:Table)(F S:List D)(sd:Side):IF [aL c r 1 1 T F S,.str sd.str]=O (.ok .non):=(bW rfl).trans (aAM (gh _ rfl) rfl)
def aAJ(ns:List Int)(c r:Nat)(hc:1<=c)(hr:1<=r)(z:c*r<=64):∃fs sp,q8 c r fs sp/\(runs c r fs).2.1=1/\(runs c r fs).2.2=1/\PB [.int c,.int r,.frz (ns.map .int)]=O (.ok (bR c r fs)):=by obtain⟨fs,sp,S,w1,h1,e⟩:=SY (G:=j7) (ns:=ns) (gh _ rfl) hc hr z (λk=>by rw[aBz];exact rJ ns k) (by rw[UQ];exact ZH hc hr z) (λw h cell a b d=>by rw[US];exact FV w h cell a b d) (λfs sp f S ok hl=>sR (λc r w h T F sd over k a1 a2 a3 a4 a5 a6 I=>by rw[UR];exact ZI c r w h T F sd over k a1 a2 a3 a4 a5 a6 I) S ok hl);exact⟨fs,sp,S,w1,h1,(bW rfl).trans e⟩
def aAK(c r:Nat)(T:Table)(F S:List D)(sp:List Spot)(z:aq T 1 1 sp)(hs:sp.length=c*r):PU [aL c r 1 1 T F S,.int ((c*r:Nat):Int)]=O (.ok (hE (aj T 0 0))):=(bW rfl).trans (XT (gh _ rfl) (λi=>by rw[UP];exact BY i) z hs (by rw[WI];exact CA (x:=0) (y:=0) z.rect y8 y8))
def aDR(c r:Nat)(T:Table)(F S:List D)(sp:List Spot)(sd:Side)(z:aq T 1 1 sp):YM [aL c r 1 1 T F S,.str sd.str]=O (.ok (.lst ((b9 (!sd.up) (aj T 0 0)).map Pg.fD))):=(bW rfl).trans (aEq rfl (by rw[WJ];exact CA (x:=0) (y:=0) z.rect y8 y8) (by rw[(iU z).1];exact ug z.len y8))
def aEc(f:Fold)(h:K15.Ok9 f):PL [.str f.sd.str,.bl f.over,.int f.k]=O (.ok (.str (K15.wr f))):=(bW rfl).trans (K15.qX h)
def aEj(k:Nat)(h1:1<=k)(h2:k<=999999999):PX [.str (K15.cL k)]=O (.ok (.int k)):=(bW rfl).trans (K15.IM rfl rfl h1 h2)
def aEa(f:Fold)(h:K15.Ok9 f):PF [.str (K15.wr f)]=O (.ok f.d):=(bW rfl).trans (K15.YI rfl rfl rfl (λk h1 h2=>by rw[UU];exact aEj k h1 h2) h)
def RZ(c r:Nat)(fs:List Fold)(sp:List Spot)(hc:1<=c)(hr:1<=r)(I:c*r<=64)(S:q8 c r fs sp)(z:∀f∈fs,K15.Ok9 f):PJ [.int c,.int r,.str (K15.txt fs)]=O (.ok (bR c r fs)):=(bW rfl).trans (K16.RP (by rw[UK];exact ZH hc hr I) (by rw[UL];exact(bW rfl).trans (K15.TL (λf h=>by rw[UT];exact aEa f h) z (ug S.few y8))) λi f e=>sR (λc r w h T F sd over k a1 a2 a3 a4 a5 a6 a7=>by rw[UM];exact ZI c r w h T F sd over k a1 a2 a3 a4 a5 a6 a7) (S.pre i f e).1 (S.pre i f e).2 (by rw[v7];have:=S.few;lia))
def aAL(n:Nat)(l:G11.Nm)(p q:Nat):aDp [.lst (Gp.nmL n l),.int (p:Nat),.int (q:Nat)]=O (.ok (.lst (Gp.nmL n (G11.hung l p q)))):=(bW rfl).trans Gp.YF
def aDW(c r:Nat)(T:Table)(F:List D)(sp:List Spot)(aa:List (Nat×Nat))(S:aq T 1 1 sp)(hc:1<=c)(I:c*r<=64)(z:c<=64)(bg:sp.length=c*r):EK [aL c r 1 1 T F (aa.map pD)]=O (.ok (.lst ((G11.told (c*r) (G11.eB ((Pg.left c (c*r) aa).map Pg.pairOf) id)).map Gp.kL))):=by rw[aEp,K11.aBZ (gh _ rfl) hc z I (by rw[VC];exact fM c r T F sp aa S hc I z bg) (λl p q=>by rw[aBH];exact aAL _ l p q)];refine congrArg (λx=>O (Rs.ok (D.lst x))) ?_;rw[vq];exact List.map_congr_left λg _=>K11.NB
def aDS(c r:Nat)(aa:List (Nat×Nat))(z:c*r<=64):(Pg.left c (c*r) aa).length<=1000:=ug (length_filter_le _ _) (ug (fP (c*r)) (by lia))
def aDT(c r:Nat)(T:Table)(F:List D)(sp:List Spot)(aa:List (Nat×Nat))(S:aq T 1 1 sp)(hc:1<=c)(I:c*r<=64)(cg:c<=64)(bg:sp.length=c*r){k:Nat}(hk:k<4):OX [aL c r 1 1 T F (aa.map pD),.str (bX k).str]=O (.ok (.tup [.lst ((K13.pick (c*r) (G11.eB ((Pg.left c (c*r) aa).map Pg.pairOf) id) λg=>g.any (K13.thr sp (decide (1<k)) ((k % 2:Nat):Int) (Pg.left c (c*r) aa))).map K13.dN),.lst ((K13.pick (c*r) (G11.eB ((Pg.left c (c*r) aa).map Pg.pairOf) id) λg=>!g.any (K13.thr sp (decide (1<k)) ((k % 2:Nat):Int) (Pg.left c (c*r) aa))).map K13.dN)])):=by obtain⟨kvs,e,h⟩:=K13.aAP (G:=ql) (p:=aL c r 1 1 T F (aa.map pD)) rfl (K16.aEF hk) (aDS c r aa I) (by rw[VB];exact fM c r T F sp aa S hc I cg bg);have gd:=G11.iP (n:=c*r) (dC:=(Pg.left c (c*r) aa).map Pg.pairOf) λa b z=>K11.tU hc z;exact(bW rfl).trans (K13.YG ⟨gd.le,λk h=>gd.idem h⟩ I (by rw[aBB];exact BZ c r T F _ (bX k)) (by rw[aBC];exact(bW rfl).trans e) h (by rw[VA];exact aDW c r T F sp aa S hc I cg bg))
def aDV(c r:Nat)(T:Table)(F:List D)(sp:List Spot)(aa:List (Nat×Nat))(S:aq T 1 1 sp)(hc:1<=c)(ao:c*r<=64)(cg:c<=64)(I:sp.length=c*r){k:Nat}(hk:k<4)(hon:∀j∈(Pg.left c (c*r) aa),K13.sdO sp j=k):yD [aL c r 1 1 T F (aa.map pD),.str (bX k).str]=O (.ok (.lst []))/\(((List.range (c*r)).any λk=>!(K16.tds (Pg.left c (c*r) aa)).any (· == k))=Y->PK [aL c r 1 1 T F (aa.map pD),.str (bX k).str,.lst (K09.prs (b9 (!(bX k).up) (aj T 0 0)))]=O (.ok (.bl Y)))/\(((List.range (c*r)).any λk=>!(K16.tds (Pg.left c (c*r) aa)).any (· == k))=J->EJ [aL c r 1 1 T F (aa.map pD),.str (bX k).str,.lst (K09.prs (b9 (!(bX k).up) (aj T 0 0)))]=O (.ok (.lst ((List.range (2*(c*r))).map K16.bkD)))):=by
 have on:∀j∈(Pg.left c (c*r) aa),Pg.eJ sp (decide (1<k)) ((k % 2:Nat):Int) j=Y:=λj m=>by rw[K13.DL S (by rw[I];exact(K11.fO hc (mem_filter.mp m).1).1) hk,hon j m];exact beq_self_eq_true _
 have hb:yD [aL c r 1 1 T F (aa.map pD),.str (bX k).str]=O (.ok (.lst [])):=by refine(bW rfl).trans ((K13.RC rfl (K16.aEF hk) (by rw[aBA];exact BZ c r T F _ (bX k)) (by rw[UZ];exact fM c r T F sp aa S hc ao cg I)).trans ?_);rw[List.filter_eq_nil_iff.mpr λj m=>by rw[on j m];decide];rfl
 have hh:=aDT c r T F sp aa S hc ao cg I hk;rw[show K13.thr sp (decide (1<k)) ((k % 2:Nat):Int) (Pg.left c (c*r) aa)=λa=>(K16.tds (Pg.left c (c*r) aa)).any (· == a) from funext λa=>K16.SF on]at hh;have gd:=G11.iP (n:=c*r) (dC:=(Pg.left c (c*r) aa).map Pg.pairOf) λa b z=>K11.tU hc z;have fg:=K16.yA (n:=c*r) (L:=(Pg.left c (c*r) aa)) λj m=>K11.fO hc (mem_filter.mp m).1;have fc:=K09.kY S I (lv:=!(bX k).up);obtain⟨s1,s2⟩:=K16.aBn (G:=lr) (p:=aL c r 1 1 T F (aa.map pD)) (q:=.lst (K09.prs (b9 (!(bX k).up) (aj T 0 0)))) (x:=(bX k).str) (m:=c*r) ⟨gd.le,λk h=>gd.idem h⟩ (by rw[UX];exact hb) (by rw[UW];exact hh) (by rw[UY];exact(bW rfl).trans (K16.AB (by rw[aBG];exact BZ c r T F _ (bX k)) (by rw[aBF];exact aDR c r T F _ sp (bX k) S) fc.1)) rfl;rw[fc.2]at s2;refine⟨hb,λe=>(bW rfl).trans (K16.LV (by rw[UI];exact(bW rfl).trans (s1 (fg.mp (let ⟨k,m,h⟩:=List.any_eq_true.mp e;⟨k,vy.mp m,LJ h⟩)))) rfl rfl),λe=>(bW rfl).trans (s2 λg m=>?_)⟩;cases z:g.any λa=>(K16.tds (Pg.left c (c*r) aa)).any (· == a) with
 |true=>rfl
 |false=>obtain⟨k,hk,h⟩:=fg.mpr ⟨g,m,z⟩;exact absurd (by rw[h];rfl) (any_eq_false.mp e k (vy.mpr hk))
def law_true(ns:List Int)(_:ns.length<=63):yB [.frz (ns.map .int)]=O (.ok (.bl Y)):=by refine(ZJ rfl).trans (K16.aCO (G:=dc) (ns:=ns) (gh _ rfl) (λk=>by rw[aBx];exact rJ ns k) (λcell=>?_) (λc r hc hr z=>by rw[UB];exact aAJ ns c r hc hr z) (λc r T F S sp Si hs=>by rw[UG];exact aAK c r T F S sp Si hs) (λc r T F=>by rw[WH];exact aDU) (λF h hl=>by rw[TZ];exact(bW rfl).trans (K15.JQ (λf h=>by rw[UV];exact aEc f h) h hl)) (λc r fs sp hc hr z S o9=>by rw[UD];exact RZ c r fs sp hc hr z S o9) (λc r T F sp S=>by rw[WG];exact CA (x:=0) (y:=0) S.rect y8 y8) (λc r T sp b hc hr z I S hs=>by rw[UC];exact(bW rfl).trans (K13.SE hc z S hs (by rw[UN];exact(bW rfl).trans (K13.XB hc hr z I)) b)) (λc r T F sp k S=>by rw[TV];exact(bW rfl).trans (K09.VS (by rw[aBE];exact BZ c r T F [] (bX k)) (by rw[aBD];exact aDR c r T F [] sp (bX k) S) (K09.kY S rfl).1 (by rw[(K09.kY S rfl).2];have:=S.len;lia))) (λc r T F sp b hc z I S hs=>?_) (λsp L n hL hn=>by rw[UE];exact(bW rfl).trans (K16.aGp hL hn)) (λc r T F sp aa k hc z I S bg hk hon=>?_) (λn hn=>by rw[UA];exact(bW rfl).trans (K16.YX (λi=>by rw[UJ];exact BY i) hn)));rw[aBy,aGT rfl];exact GF;obtain⟨aa,e,h⟩:=K13.aGb (G:=qi) (F:=F) hc z S hs (λaa l n h0 h1 hsv=>by rw[UO];exact FW c r T F sp aa S hc z I hs l n h0 (by cases l<;>exact h1) hsv) b;exact⟨aa,by rw[UH];exact(bW rfl).trans e,h⟩;obtain⟨b1,b2,b3⟩:=aDV c r T F sp aa S hc z I bg hk hon;exact⟨by rw[TY];exact b1,λe=>by rw[UF];exact b2 e,λe=>by rw[TX];exact b3 e⟩
def bn1{q:Str}{f:Addr}(F:Fun K x q st f fd)(l:ps.length=1)(h:∀(kV doc pm:Value) (an:Option Addr) (aT ct a:Value),bindArgs (PySem.W.fnOf x q (dU st) (bD st) (aF st) .none kV doc pm an aT ct) ⟨[a],[]⟩=pure (ps.zip [a])):Binds K fd ps []:=F.binds λ_ _ _ _ _ _ us hl=>by
 match us,hl.trans l with
 |[a],_=>exact h _ _ _ _ _ _ a
def bn2{q:Str}{f:Addr}(F:Fun K x q st f fd)(l:ps.length=2)(h:∀(kV doc pm:Value) (an:Option Addr) (aT ct a b:Value),bindArgs (PySem.W.fnOf x q (dU st) (bD st) (aF st) .none kV doc pm an aT ct) ⟨[a,b],[]⟩=pure (ps.zip [a,b])):Binds K fd ps []:=F.binds λ_ _ _ _ _ _ us hl=>by
 match us,hl.trans l with
 |[a,b],_=>exact h _ _ _ _ _ _ a b
def bn3{q:Str}{f:Addr}(F:Fun K x q st f fd)(l:ps.length=3)(h:∀(kV doc pm:Value) (an:Option Addr) (aT ct a b c:Value),bindArgs (PySem.W.fnOf x q (dU st) (bD st) (aF st) .none kV doc pm an aT ct) ⟨[a,b,c],[]⟩=pure (ps.zip [a,b,c])):Binds K fd ps []:=F.binds λ_ _ _ _ _ _ us hl=>by
 match us,hl.trans l with
 |[a,b,c],_=>exact h _ _ _ _ _ _ a b c
def bn4{q:Str}{f:Addr}(F:Fun K x q st f fd)(l:ps.length=4)(h:∀(kV doc pm:Value) (an:Option Addr) (aT ct a b c d:Value),bindArgs (PySem.W.fnOf x q (dU st) (bD st) (aF st) .none kV doc pm an aT ct) ⟨[a,b,c,d],[]⟩=pure (ps.zip [a,b,c,d])):Binds K fd ps []:=F.binds λ_ _ _ _ _ _ us hl=>by
 match us,hl.trans l with
 |[a,b,c,d],_=>exact h _ _ _ _ _ _ a b c d
def bn6{q:Str}{f:Addr}(F:Fun K x q st f fd)(l:ps.length=6)(h:∀(kV doc pm:Value) (an:Option Addr) (aT ct a b c d e f:Value),bindArgs (PySem.W.fnOf x q (dU st) (bD st) (aF st) .none kV doc pm an aT ct) ⟨[a,b,c,d,e,f],[]⟩=pure (ps.zip [a,b,c,d,e,f])):Binds K fd ps []:=F.binds λ_ _ _ _ _ _ us hl=>by
 match us,hl.trans l with
 |[a,b,c,d,e,f],_=>exact h _ _ _ _ _ _ a b c d e f
def mF{n q:Str}{a:Addr}(e:fd=dF n q st m t c)(h:K.lookup a=O (oF fd))(h2:codeIn K (.ref c) q=Y)(h3:keepIn K (.ref a)=Y):Fun K n q st a fd:=⟨⟨_,_,_,_,_,_,_,_,_,e,h,h2⟩,h3⟩
def gv{f:Addr}(X:K.In h)(G:h.Ns mainGlobals mg)(e:fd=dF x x st m t c)(h1:K.lookup f=O (oF fd):=by kernel_rfl)(h2:codeIn K (.ref c) x=Y:=by kernel_rfl)(h3:keepIn K (.ref f)=Y:=by kernel_rfl)(h4:nsIn K mainGlobals x=O (O (.ref f)):=by kernel_rfl)(l:ps.length=1:=by rfl)(hb:∀(kV doc pm:Value) (an:Option Addr) (aT ct a:Value),bindArgs (PySem.W.fnOf x x (dU st) (bD st) (aF st) .none kV doc pm an aT ct) ⟨[a],[]⟩=pure (ps.zip [a]):=by intros;rfl):Df K mg x st ps f fd:=⟨mF e h1 h2 h3,mg_of X G h4,bn1 (mF e h1 h2 h3) l hb⟩
def dt{f:Addr}(X:K.In h)(G:h.Ns mainGlobals mg)(e:fd=dF x x st m t c)(h1:K.lookup f=O (oF fd):=by kernel_rfl)(h2:codeIn K (.ref c) x=Y:=by kernel_rfl)(h3:keepIn K (.ref f)=Y:=by kernel_rfl)(h4:nsIn K mainGlobals x=O (O (.ref f)):=by kernel_rfl)(l:ps.length=2:=by rfl)(hb:∀(kV doc pm:Value) (an:Option Addr) (aT ct a b:Value),bindArgs (PySem.W.fnOf x x (dU st) (bD st) (aF st) .none kV doc pm an aT ct) ⟨[a,b],[]⟩=pure (ps.zip [a,b]):=by intros;rfl):Df K mg x st ps f fd:=⟨mF e h1 h2 h3,mg_of X G h4,bn2 (mF e h1 h2 h3) l hb⟩
def i8{f:Addr}(X:K.In h)(G:h.Ns mainGlobals mg)(e:fd=dF x x st m t c)(h1:K.lookup f=O (oF fd):=by kernel_rfl)(h2:codeIn K (.ref c) x=Y:=by kernel_rfl)(h3:keepIn K (.ref f)=Y:=by kernel_rfl)(h4:nsIn K mainGlobals x=O (O (.ref f)):=by kernel_rfl)(l:ps.length=3:=by rfl)(hb:∀(kV doc pm:Value) (an:Option Addr) (aT ct a b c:Value),bindArgs (PySem.W.fnOf x x (dU st) (bD st) (aF st) .none kV doc pm an aT ct) ⟨[a,b,c],[]⟩=pure (ps.zip [a,b,c]):=by intros;rfl):Df K mg x st ps f fd:=⟨mF e h1 h2 h3,mg_of X G h4,bn3 (mF e h1 h2 h3) l hb⟩
def dn4{f:Addr}(X:K.In h)(G:h.Ns mainGlobals mg)(e:fd=dF x x st m t c)(h1:K.lookup f=O (oF fd):=by kernel_rfl)(h2:codeIn K (.ref c) x=Y:=by kernel_rfl)(h3:keepIn K (.ref f)=Y:=by kernel_rfl)(h4:nsIn K mainGlobals x=O (O (.ref f)):=by kernel_rfl)(l:ps.length=4:=by rfl)(hb:∀(kV doc pm:Value) (an:Option Addr) (aT ct a b c d:Value),bindArgs (PySem.W.fnOf x x (dU st) (bD st) (aF st) .none kV doc pm an aT ct) ⟨[a,b,c,d],[]⟩=pure (ps.zip [a,b,c,d]):=by intros;rfl):Df K mg x st ps f fd:=⟨mF e h1 h2 h3,mg_of X G h4,bn4 (mF e h1 h2 h3) l hb⟩
section
variable (P:Params)
def aAH:Fun (KK P) "__init__" "Pile.__init__" (L2.inClass (top 15) 0) 140 BP:=mF rfl yz yz yz
def aGG:Binds (KK P) BP (["self",yq,"rows","table","folds",yo]:List Str) []:=bn6 (aAH P) rfl λ_ _ _ _ _ _ _ _ _ _ _ _=>rfl
def RV:Fun (KK P) "heap" "Pile.heap" (L2.inClass (top 15) 1) 147 vA:=mF rfl yz yz yz
def aGE:Binds (KK P) vA RT []:=bn3 (RV P) rfl λ_ _ _ _ _ _ _ _ _=>rfl
def RW:Fun (KK P) "done" "Pile.done" (L2.inClass (top 15) 2) 154 vB:=mF rfl yz yz yz
def aGF:Binds (KK P) vB RU []:=bn1 (RW P) rfl λ_ _ _ _ _ _ _=>rfl
def aGM:Mt (KK P) 157 "heap" "Pile.heap" (L2.inClass (top 15) 1) RT 147 vA:=⟨RV P,⟨yz,yz,(RV P).kp⟩,aGE P⟩
def aGN:Mt (KK P) 157 "done" "Pile.done" (L2.inClass (top 15) 2) RU 154 vB:=⟨RW P,⟨yz,yz,(RW P).kp⟩,aGF P⟩
def aDf:Mk (KK P) 157 140:=⟨yz,yz,yz,yz⟩
def RA:Cls (KK P) 157:=⟨yz,yz,yz,yz⟩
def LN:∀f,(xX "Pile").contains f=Y->eM (KK P) 157 f:=by
 intro f hf;have z:f∈xX "Pile":=by simpa using hf
 rw[show xX "Pile"=([yq,"rows","wide","high","table","folds",yo]:List Str) from by decide +kernel]at z;simp only[ui,vp,or_false]at z;rcases z with rfl|rfl|rfl|rfl|rfl|rfl|rfl<;>exact(by kernel_rfl:findIn (KK P) (.ref 157) _=O U)
variable {P}{h:Heap}{mg:wm}(X:(KK P).In h)(G:h.Ns mainGlobals mg)
include X G
def aGO:Df (KK P) mg yu (top 35) FR 274 NS:=gv X G rfl
def aAI:Df (KK P) mg "law" (top 70) zC 456 BO:=gv X G rfl
def aHz:∀x,fR.contains x=Y->mg x=U:=by
 intro x hx;have z:x∈fR:=by simpa using hx
 simp only[fR,ui,vp,or_false]at z;rcases z with rfl|rfl|rfl|rfl|rfl|rfl|rfl|rfl|rfl|rfl|rfl|rfl|rfl|rfl|rfl|rfl<;>exact PySem.W.mg_none_of X G yz
def aGj:∀x d,csts.lookup x=O d->zE (KK P) T mg x d:=by
 intro x d hx;have z:(x,d)∈csts:=uy hx;simp only[csts,ui,vp,or_false,Prod.mk.injEq]at z;rcases z with ⟨rfl,rfl⟩|⟨rfl,rfl⟩|⟨rfl,rfl⟩|⟨rfl,rfl⟩|⟨rfl,rfl⟩|⟨rfl,rfl⟩;exact FD (mg_of X G (by kernel_rfl:nsIn (KK P) mainGlobals yc = O (O (.int 64 337))));have u:(KK P).lookup 124=O ⟨(.type "tuple"),U,(.seq #[(.str "west" 339),(.str "east" 340)] 0),#[]⟩:=yz
 exact vP (xs:=[.str "west",.str "east"]) (mg_of X G (by kernel_rfl:nsIn (KK P) mainGlobals wu = O (O (.ref 124)))) (λH=>.inr ⟨_,_,_,u,rfl,rfl,by show 2<=sizeLine;rw[sizeLine_eq];decide,.cons ⟨_,rfl⟩ (.cons ⟨_,rfl⟩ .nil)⟩) ⟨_,u⟩ λH S=>aD.cons (by exact rfl) (aD.cons (by exact rfl) aD.nil);have u:(KK P).lookup 125=O ⟨(.type "tuple"),U,(.seq #[(.str "north" 342),(.str "south" 343)] 0),#[]⟩:=yz
 exact vP (xs:=[.str "north",.str "south"]) (mg_of X G (by kernel_rfl:nsIn (KK P) mainGlobals xt = O (O (.ref 125)))) (λH=>.inr ⟨_,_,_,u,rfl,rfl,by show 2<=sizeLine;rw[sizeLine_eq];decide,.cons ⟨_,rfl⟩ (.cons ⟨_,rfl⟩ .nil)⟩) ⟨_,u⟩ λH S=>aD.cons (by exact rfl) (aD.cons (by exact rfl) aD.nil);have u:(KK P).lookup 126=O ⟨(.type "tuple"),U,(.seq #[(.str "west" 345),(.str "north" 346)] 0),#[]⟩:=yz
 exact vP (xs:=[.str "west",.str "north"]) (mg_of X G (by kernel_rfl:nsIn (KK P) mainGlobals yb = O (O (.ref 126)))) (λH=>.inr ⟨_,_,_,u,rfl,rfl,by show 2<=sizeLine;rw[sizeLine_eq];decide,.cons ⟨_,rfl⟩ (.cons ⟨_,rfl⟩ .nil)⟩) ⟨_,u⟩ λH S=>aD.cons (by exact rfl) (aD.cons (by exact rfl) aD.nil);exact⟨_,.str "0123456789",mg_of X G (by kernel_rfl:nsIn (KK P) mainGlobals "FIGURES"=O (O (.str "0123456789" 658))),⟨_,rfl⟩,λH S _ _=>by unfold Rep;rfl⟩;exact FD (mg_of X G (by kernel_rfl:nsIn (KK P) mainGlobals "MOST_FIGURES"=O (O (.int 9 660))))
end
def aHy(X:(KK w.params).In h)(G:h.Ns mainGlobals mg){Pr:wg}:∀x kvs,jj.lookup x=O kvs->∃a,mg x=O (.ref a)/\∀z:Cx,z.prog=Pr->z.w=w->z.K=KK w.params->RX z T a kvs:=by
 intro x kvs hx;have gk:(x,kvs)∈jj:=uy hx;simp only[jj,ui,vp,or_false,Prod.mk.injEq]at gk;rcases gk with ⟨rfl,rfl⟩|⟨rfl,rfl⟩;refine⟨280,mg_of X G (by kernel_rfl:nsIn (KK w.params) mainGlobals xj = O (O (.ref 280))),λz _ e2 e3=>?_⟩;refine qG (ts:=[("west",570,.ref 281),("east",572,.ref 282),("north",574,.ref 283),("south",576,.ref 284)]) (o:=⟨(.type "dict"),U,(.dict #[en z.w.params "west" 570 (.ref 281),en z.w.params "east" 572 (.ref 282),en z.w.params "north" 574 (.ref 283),en z.w.params "south" 576 (.ref 284)] 4),#[]⟩) y7 (by rw[e3,<-e2];kernel_rfl) ⟨rfl,rfl,rfl⟩ rfl y7 y7 ?_;rw[e3];have u281:CV (KK w.params) T (.tup [.bl J,.int 0]) (.ref 281):=by
  have u:(KK w.params).lookup 281=O ⟨(.type "tuple"),U,(.seq #[(.bool J),(.int 0 571)] 0),#[]⟩:=yz
  exact vN (xs:=[.bl J,.int 0]) (λH=>.inr ⟨_,_,_,u,rfl,rfl,by show 2<=sizeLine;rw[sizeLine_eq];decide,.cons rfl (.cons ⟨_,rfl⟩ .nil)⟩) ⟨_,u⟩ λH S=>aD.cons (by exact rfl) (aD.cons (by exact rfl) aD.nil)
 have u282:CV (KK w.params) T (.tup [.bl J,.int 1]) (.ref 282):=by
  have u:(KK w.params).lookup 282=O ⟨(.type "tuple"),U,(.seq #[(.bool J),(.int 1 573)] 0),#[]⟩:=yz
  exact vN (xs:=[.bl J,.int 1]) (λH=>.inr ⟨_,_,_,u,rfl,rfl,by show 2<=sizeLine;rw[sizeLine_eq];decide,.cons rfl (.cons ⟨_,rfl⟩ .nil)⟩) ⟨_,u⟩ λH S=>aD.cons (by exact rfl) (aD.cons (by exact rfl) aD.nil)
 have u283:CV (KK w.params) T (.tup [.bl Y,.int 0]) (.ref 283):=by
  have u:(KK w.params).lookup 283=O ⟨(.type "tuple"),U,(.seq #[(.bool Y),(.int 0 575)] 0),#[]⟩:=yz
  exact vN (xs:=[.bl Y,.int 0]) (λH=>.inr ⟨_,_,_,u,rfl,rfl,by show 2<=sizeLine;rw[sizeLine_eq];decide,.cons rfl (.cons ⟨_,rfl⟩ .nil)⟩) ⟨_,u⟩ λH S=>aD.cons (by exact rfl) (aD.cons (by exact rfl) aD.nil)
 have u284:CV (KK w.params) T (.tup [.bl Y,.int 1]) (.ref 284):=by
  have u:(KK w.params).lookup 284=O ⟨(.type "tuple"),U,(.seq #[(.bool Y),(.int 1 577)] 0),#[]⟩:=yz
  exact vN (xs:=[.bl Y,.int 1]) (λH=>.inr ⟨_,_,_,u,rfl,rfl,by show 2<=sizeLine;rw[sizeLine_eq];decide,.cons rfl (.cons ⟨_,rfl⟩ .nil)⟩) ⟨_,u⟩ λH S=>aD.cons (by exact rfl) (aD.cons (by exact rfl) aD.nil)
 intro i p q h1 h2;match i with
 | 0=>cases h1;cases h2;exact u281
 | 1=>cases h1;cases h2;exact u282
 | 2=>cases h1;cases h2;exact u283
 | 3=>cases h1;cases h2;exact u284
 |i+4=>cases h1
 refine⟨333,mg_of X G (by kernel_rfl:nsIn (KK w.params) mainGlobals "WAYS"=O (O (.ref 333))),λz _ e2 e3=>?_⟩;refine qG (ts:=[("over",653,.bool Y),("under",654,.bool J)]) (o:=⟨(.type "dict"),U,(.dict #[en z.w.params "over" 653 (.bool Y),en z.w.params "under" 654 (.bool J)] 2),#[]⟩) y7 (by rw[e3,<-e2];kernel_rfl) ⟨rfl,rfl,rfl⟩ rfl y7 y7 ?_;rw[e3];have utrue:CV (KK w.params) T (.bl Y) (.bool Y):=⟨.bl Y,rfl,λH S _ _=>by unfold Rep;rfl⟩;have I:CV (KK w.params) T (.bl J) (.bool J):=⟨.bl J,rfl,λH S _ _=>by unfold Rep;rfl⟩;intro i p q h1 h2;match i with
 | 0=>cases h1;cases h2;exact utrue
 | 1=>cases h1;cases h2;exact I
 |i+2=>cases h1
def wF(K:wc):Sp:=λvs H Q _=>∃(a:Addr) (ns:List Int),vs=[.ref a]/\SqL K H a (ns.map V.int)/\ns.length<=63/\∀H',Q (.bl Y) H'
theorem rY{K:wc}{T:Tx}{H:Hp}{S:Addr->Prop}:∀ns:List Int,aD K T H S (ns.map D.int) (ns.map V.int)
 |[]=>aD.nil
 |n::ns=>aD.cons (by exact rfl) (rY ns)
def aCP{P:wg}{base:Heap}{k:Nat}{f:Addr}(F:FnOk P w K mg base (dY P w) k f fd zC (ik K T 1 yB))(hk:k<=60):FnOk P w K mg base sh 60 f fd ["script"] (wF K):=by
 have I:∀vs H Q E,wF K vs H Q E->ik K T 1 yB vs H Q E0:=by rintro vs H Q E ⟨a,ns,rfl,hS,hl,q⟩;refine⟨rfl,λ_=>False,[.frz (ns.map D.int)],λ_ z=>z.elim,aD.cons (show Exists _ from⟨a,ns.map V.int,rfl,λz=>z,hS,rY ns⟩) aD.nil,.inl ⟨.bl Y,law_true ns hl,λv H' sm r=>?_⟩⟩;obtain rfl:=r;exact q H'
 refine⟨λvs H Q E hs=>F.len _ _ _ _ (I vs H Q E hs),λA outer s H args us vs Q E hr e0 hb hv hs=>?_⟩;refine codeAny_mono (F.run A outer s H args us vs Q E0 (hr.mono hk) e0 hb hv (I vs H Q E hs)) λr s' hq=>?_;cases r with
 |error e=>exact(aAg _ _ _ _ _ hq).elim
 |ok fl=>cases fl<;>exact hq
noncomputable def cs(y:Str):Addr:=if y="Loose" then 109 else 0
section
variable {P:Params}
def jf:∀k,fk.contains k=Y->k="Loose":=by
 intro k hk;have z:k∈fk:=by simpa using hk
 simpa only [fk,ui,vp,or_false] using z
def pj:∀k,fk.contains k=Y->excIn (KK P) (cs k) jk "ValueError.__new__"=Y:=by intro k hk;rcases jf k hk with rfl<;>kernel_rfl
def BE:∀k k',fk.contains k=Y->fk.contains k'=Y->aAS k k'=Y->kT (KK P) (cs k) (.ref (cs k'))=Y:=by intro k k' hk z hs;rcases jf k hk with rfl<;>rcases jf k' z with rfl<;>first|exact nomatch (show J=Y from hs)|kernel_rfl
variable {h:Heap}{mg:wm}(X:(KK P).In h)(G:h.Ns mainGlobals mg)
include X G
def mx:∀y,(["Loose"]:List Str).contains y=Y->mg y=O (.ref (cs y)):=by
 intro y hy;have z:y∈(["Loose"]:List Str):=by simpa using hy
 simp only[ui,vp,or_false]at z;rcases z with rfl<;>exact mg_of X G yz
def hxg:∀k,fk.contains k=Y->mg k=O (.ref (cs k)):=λk hk=>mx X G k (by rcases jf k hk with rfl<;>decide +kernel)
end
set_option maxHeartbeats 0 in
def all_mk{l:PySem.W.OpenLaw}{fa:Addr}(X:(KK w.params).In h)(G:h.Ns mainGlobals mg)(hfa:mg "law"=O (.ref fa)):∃fd:we,(∀(s:Shared) (v:Value),BindsTo s fd ⟨[v],[]⟩ [("script",v)])/\∀base:Heap,(KK w.params).In base->base.Ns mainGlobals mg->FnOk l.prog w (KK w.params) mg base sh 60 fa fd ["script"] (wF (KK w.params)):=by have e:=hfa.symm.trans (aAI X G).at_;cases e;refine⟨BO,λs v=>.of_eq rfl,λbase _ _=>?_⟩;have m:=mk1 (mk0 (P:=l.prog) (w:=w) (base:=base) (cs:=cs) (aGj X G) (RA _) (LN _) (aHz X G) (hxg X G) pj BE (aHy X G)) (mg_of X G yz) (aDf _) (aGG _) (aAH _) (RA _) (LN _);replace m:MO _ _ _ _ _ _ _ m2 g2 4:=mkM aEH aFy aEY m (aGM _);replace m:MO _ _ _ _ _ _ _ m3 g3 5:=mkM aEI aFz aEZ m (aGN _);replace m:MO _ _ _ _ _ _ _ m4 g4 6:=ax [yq,"y"] [] Pg.kX m (dt (f:=171) (fd:=NW) (ps:=[yq,"y"]) X G rfl);replace m:MO _ _ _ _ _ _ _ m5 g5 7:=ax [yq,"rows","table"] [] Pg.uQ m (dt (f:=166) (fd:=NM) (ps:=[yq,"rows"]) X G rfl);replace m:MO _ _ _ _ _ _ _ m6 g6 8:=ax ["part","k"] [] Pg.mT m (dt (f:=236) (fd:=NV) (ps:=["part","k"]) X G rfl);replace m:MO _ _ _ _ _ _ _ m7 g7 9:=ax ["moving","staying","over","upper","lower","longer"] [] Pg.fI m (i8 (f:=229) (fd:=aAn) (ps:=["moving","staying","over"]) X G rfl);replace m:MO _ _ _ _ _ _ _ m8 g8 10:=ax ["heap","side"] [] Pg.gQ m (dt (f:=224) (fd:=OQ) (ps:=["heap","side"]) X G rfl);replace m:MO _ _ _ _ _ _ _ m9 g9 11:=ax ["part","side"] [] Pg.gP m (dt (f:=219) (fd:=ON) (ps:=["part","side"]) X G rfl);replace m:MO _ _ _ _ _ _ _ m10 g10 12:=ax ["strip","side","over","crease","before","behind","outward"] [] Pg.gB m (dn4 (f:=214) (fd:=aAh) (ps:=["strip","side","over","crease"]) X G rfl);replace m:MO _ _ _ _ _ _ _ m11 g11 13:=ax ["table","x"] [] Pg.jI m (dt (f:=207) (fd:=OA) (ps:=["table","x"]) X G rfl);replace m:MO _ _ _ _ _ _ _ m12 qr 14:=ax ["table"] [] Pg.iI m (gv (f:=202) (fd:=OI) (ps:=["table"]) X G rfl);replace m:MO _ _ _ _ _ _ _ m13 g13 15:=ax ["table","side","over","crease","strips"] [] Pg.gA m (dn4 (f:=197) (fd:=aAi) (ps:=["table","side","over","crease"]) X G rfl);replace m:MO _ _ _ _ _ _ _ m14 g14 16:=ax ["pile","side","crease"] [] Pg.iL m (i8 (f:=192) (fd:=OD) (ps:=["pile","side","crease"]) X G rfl);replace m:MO _ _ _ _ _ _ _ m15 nu 17:=ax ["pile"] [] Pg.eQ m (gv (f:=185) (fd:=aAo) (ps:=["pile"]) X G rfl);replace m:MO _ _ _ _ _ _ _ m16 qq 18:=ax ["pile","side","over","crease","table","folds"] [] Pg.pQ m (dn4 (f:=178) (fd:=NT) (ps:=["pile","side","over","crease"]) X G rfl);replace m:MO _ _ _ _ _ _ _ m17 g17 19:=ax ["pile","lines","y","x","cell","east","north"] ["lines"] Pg.iM m (gv (f:=262) (fd:=OL) (ps:=["pile"]) X G rfl);replace m:MO _ _ _ _ _ _ _ m18 qp 20:=ax [yq,"rows","cells","found","cell"] ["found"] Pg.iK m (dt (f:=255) (fd:=OJ) (ps:=[yq,"rows"]) X G rfl);replace m:MO _ _ _ _ _ _ _ m19 g19 21:=ax ["pile","lines","found","first","second","level"] ["found"] Pg.iO m (gv (f:=248) (fd:=OK) (ps:=["pile"]) X G rfl);replace m:MO _ _ _ _ _ _ _ m20 g20 22:=ax ["pile"] [] Pg.pP m (gv (f:=241) (fd:=NU) (ps:=["pile"]) X G rfl);replace m:MO _ _ _ _ _ _ _ m21 g21 23:=ax ["pile","level","number","last","parted"] [] Pg.MV m (i8 (f:=267) (fd:=NJ) (ps:=["pile","level","number"]) X G rfl);replace m:MO _ _ _ _ _ _ _ jz j8 24:=ax ["least","one","other","lesser","greater"] [] Gp.BB m (i8 (f:=279) (fd:=aAm) (ps:=["least","one","other"]) X G rfl);obtain⟨m',Fp⟩:=mkP m (aGO X G);replace m:MO _ _ _ _ _ _ _ m23 g23 25:=m';replace m:MO _ _ _ _ _ _ _ m24 g24 26:=ax ["pile","spine"] [] Pg.MT m (dt (f:=301) (fd:=aAp) (ps:=["pile","spine"]) X G rfl);replace m:MO _ _ _ _ _ _ _ m25 qo 27:=ax ["pile","spine","found","cell","east","north","upward","downward"] ["found"] Pg.aDc m (dt (f:=308) (fd:=aAk) (ps:=["pile","spine"]) X G rfl);replace m:MO _ _ _ _ _ _ _ m26 qm 28:=ax ["pile","spine","prints"] [] K10.uO m (i8 (f:=289) (fd:=NR) (ps:=["pile","spine","prints"]) X G rfl);replace m:MO _ _ _ _ _ _ _ m27 ql 29:=ax ["pile","spine","prints","mark","page"] ["prints"] K09.AY m (dt (f:=294) (fd:=NK) (ps:=["pile","spine"]) X G rfl);replace m:MO _ _ _ _ _ _ _ m28 nt 30:=ax ["pile","spine","threaded","first","second","level","number"] ["threaded"] K13.MU m (dt (f:=320) (fd:=aAq) (ps:=["pile","spine"]) X G rfl);replace m:MO _ _ _ _ _ _ _ m29 qk 31:=ax ["pile","spine","threaded","kept","fallen","piece"] ["kept","fallen"] K13.BC m (dt (f:=313) (fd:=NL) (ps:=["pile","spine"]) X G rfl);replace m:MO _ _ _ _ _ _ _ m30 lr 32:=ax ["pile","spine"] [] K13.uT m (dt (f:=325) (fd:=NP) (ps:=["pile","spine"]) X G rfl);replace m:MO _ _ _ _ _ _ _ m31 g31 33:=ax ["pile","spine","prints"] [] K13.mS m (i8 (f:=332) (fd:=NN) (ps:=["pile","spine","prints"]) X G rfl);replace m:MO _ _ _ _ _ _ _ m32 g32 34:=ax ["side","over","crease","way"] [] K15.iJ m (i8 (f:=345) (fd:=OH) (ps:=["side","over","crease"]) X G rfl);replace m:MO _ _ _ _ _ _ _ m33 g33 35:=ax ["folds"] [] K15.uN m (gv (f:=338) (fd:=NQ) (ps:=["folds"]) X G rfl);replace m:MO _ _ _ _ _ _ _ m34 g34 36:=ax ["text"] [] K15.gR m (gv (f:=362) (fd:=OR) (ps:=["text"]) X G rfl);replace m:MO _ _ _ _ _ _ _ m35 g35 37:=ax ["text","words"] [] K15.jH m (gv (f:=357) (fd:=OC) (ps:=["text"]) X G rfl);replace m:MO _ _ _ _ _ _ _ m36 g36 38:=ax ["text"] [] K15.AX m (gv (f:=350) (fd:=NO) (ps:=["text"]) X G rfl);replace m:MO _ _ _ _ _ _ _ m37 g37 39:=ax ["script","k"] [] Pg.mU m (dt (f:=369) (fd:=aAj) (ps:=["script","k"]) X G rfl);replace m:MO _ _ _ _ _ _ _ m38 g38 40:=ax ["found"] [] Pg.uM m (gv (f:=376) (fd:=OM) (ps:=["found"]) X G rfl);replace m:MO _ _ _ _ _ _ _ m39 g39 41:=ax ["cell","way","more"] [] Pg.fZ m (gv (f:=383) (fd:=aAl) (ps:=["cell"]) X G rfl);replace m:MO _ _ _ _ _ _ _ m40 j7 42:=ax ["cell","wide","high","level","extent","sides"] [] Pg.kE m (i8 (f:=390) (fd:=OS) (ps:=["cell","wide","high"]) X G rfl);replace m:MO _ _ _ _ _ _ _ m41 qj 43:=ax [yq,"rows","script","pile","k","cell","fold"] [] Pg.AW m (i8 (f:=397) (fd:=NZ) (ps:=[yq,"rows","script"]) X G rfl);replace m:MO _ _ _ _ _ _ _ m42 g42 44:=ax ["pile","count","found","one"] [] Pg.BA m (dt (f:=402) (fd:=OO) (ps:=["pile","count"]) X G rfl);replace m:MO _ _ _ _ _ _ _ m43 qi 45:=ax [yq,"rows","out","k"] ["out"] K13.AZ m (dt (f:=409) (fd:=NY) (ps:=[yq,"rows"]) X G rfl);replace m:MO _ _ _ _ _ _ _ m44 g44 46:=ax ["pile","bits","k"] [] K13.aDd m (dt (f:=416) (fd:=OP) (ps:=["pile","bits"]) X G rfl);replace m:MO _ _ _ _ _ _ _ m45 nq 47:=ax ["found",yq,"rows","bits","where","cell","east","north","out","first","second","level","side"] ["where","out"] K13.AV m (dn4 (f:=423) (fd:=OB) (ps:=["found",yq,"rows","bits"]) X G rfl);replace m:MO _ _ _ _ _ _ _ m46 g46 48:=ax [yq,"rows","text","pile","side","over","crease"] [] K16.uU m (i8 (f:=430) (fd:=OE) (ps:=[yq,"rows","text"]) X G rfl);replace m:MO _ _ _ _ _ _ _ m47 g47 49:=ax ["found","count","k","one"] [] K16.BD m (dt (f:=437) (fd:=NX) (ps:=["found","count"]) X G rfl);replace m:MO _ _ _ _ _ _ _ m48 g48 50:=ax ["ties","count","tied","k"] [] K16.aDe m (dt (f:=442) (fd:=OF) (ps:=["ties","count"]) X G rfl);replace m:MO _ _ _ _ _ _ _ o4 dc 51:=ax ["pile","spine","prints"] [] K16.uP m (i8 (f:=449) (fd:=OG) (ps:=["pile","spine","prints"]) X G rfl);exact aCP (aCF m (aAI X G)) y8
def walk{l:PySem.W.OpenLaw}{q:wg}{loose:List Str}{XP:(wm)->Heap->Prop}{YP:World->Heap->Prop}{d:DefRec}{K:Params->wc}(hn:l.most=O 63)(I:d.params.defaults=[]) (hY:∀(w:World) (h:Heap),YP w h->(K w.params).In h) (F:∀(w:World) (mg:wm) (fa:Addr) (h:Heap),(K w.params).In h->h.Ns mainGlobals mg->mg d.name=O (.ref fa) ->∃fd:we,(∀(s:Shared) (u:Value),BindsTo s fd ⟨[u],[]⟩ [("script",u)])/\∀base:Heap,(K w.params).In base->base.Ns mainGlobals mg->FnOk l.prog w (K w.params) mg base sh 60 fa fd ["script"] (wF (K w.params))):PySem.W.WalkO q loose XP YP l.row.toRowW d [] (λf vs=>PySem.call f vs):=L2.SB (n:=63) (k:=60) (x:="script") (CX:=λ_=>sh) (sp:=λw=>wF (K w.params)) hn y8 I ⟨rfl,y8,y8⟩ hY F (λ_ _ a ns hl _ hS=>⟨a,ns,rfl,hS,hl,λ_=>rfl⟩) λ_ _ _ _ _ z=>z
end Toy
open PySem PySem.W PyProof.Rows
set_option maxRecDepth 100000 in
set_option maxHeartbeats 0 in
theorem PySem.Challenge.cw_leaffold_k16_whole_book_holds : PySem.Challenge.rw_leaffold_k16_whole_book.Holds := by
 w_on;refine holds_law (by kernel_rfl) fun said=>?_
 refine holds_open (q:=Toy.vw) (loose:=(["SPINE_LINES","WAYS"]:List Str)) (Xt:=Toy.Xt) (XP:=XL Toy.vw []) (Yf:=Hook.obs Toy.HH) (Ya:=Hook.val Toy.HH) (YP:=Hook.says Toy.HH) (N:=7784) Toy.left (Hook.of Toy.HH) (Hook.keeps Toy.HH) (fun s e=>xl_of s (Bool.and_eq_true_iff.mp e).1) XL.keeps (by rfl) (by rfl) (by rfl) (fun s e=>recFacts_of (Bool.and_eq_true_iff.mp e).2) (by rfl) (by first|assumption|decide +kernel) (by decide +kernel) ⟨rfl,rfl,rfl,rfl,rfl,by decide +kernel⟩ ?hw ?hc
 case hw=>w_witness2
 case hc=>exact Toy.walk (l:=Toy.lw) (K:=Toy.KK) rfl rfl (fun w h Y=>PySem.W.kIn_of Y) fun w mg fa h KX G iz=>Toy.all_mk KX G iz
