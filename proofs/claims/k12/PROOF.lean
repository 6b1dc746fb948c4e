import PyProof.Rows.All
import KE.KDictList
import KE.KIsAll
import KE.KRevIter
import KE.KSortTup
import KE.LcSums
import PySem.Challenge.RW_leaffold_k12_held_bolts
noncomputable section
set_option linter.all false
set_option maxRecDepth 100000
set_option maxHeartbeats 4000000
set_option Elab.async false
set_option genSizeOf false
set_option bootstrap.genMatcherCode false
set_option compiler.extract_closed false
open Array (append_empty getD_eq_getD_getElem? length_toList)
open Bool (not_eq_true')
open List (all_cons all_eq_true any_cons any_map contains_iff_mem drop_zero filter_congr filter_cons_of_neg filter_cons_of_pos filter_nil find?_cons flatMap_cons flatMap_map flatMap_nil flatten_cons getElem?_eq_none getElem?_replicate getElem_mem length_filter_le length_nil lookup_cons map_congr_left map_nil mem_filter mem_of_mem_drop nil_append nodup_cons nodup_iff_pairwise_ne of_mem_zip pairwise_lt_range pairwise_map pairwise_singleton perm_append_comm range' range_succ reverse_cons take_append_drop take_length take_zero)
open Nat (le_of_lt le_succ_of_le lt_of_le_of_lt lt_succ_of_lt min_eq_left min_eq_right min_le_right not_lt)
open Option (getD_some isSome_some)
open PySem.F (args_tuple_add_2 entry_tuple_add plainAttrs_list slot_tuple_add)
open PySem.Heap (size_push)
open PySem.W (callWith_K callWith_K0 cellsFrom_some codeIn emptyDict excIn findIn handedIn hasDictIn hideAll instObj isFn keepIn kia_one kitOne kitx_dict kitx_list lookIn makesIn methodObj mg_of mroIn nsIn plainGet plainGet_of plainOver specialIn takerIn takesIn)
open Option renaming some->O,none->U
open Bool renaming true->Y,false->J
theorem z7{p:Prop}(h:p:=by lia):p:=h
theorem z8{p:Prop}(h:p:=by kernel_rfl):p:=h
theorem z9{p:Prop}(h:p:=by decide +kernel):p:=h
theorem Aa{p:Prop}(h:p:=by decide):p:=h
theorem Ab{p:Prop}(h:p:=by simp):p:=h
abbrev u0:=@List.getElem?_eq_some_iff
abbrev u3:=@List.getD_eq_getElem?_getD
abbrev u4:=@Option.some.injEq
abbrev u5:=@List.mem_of_getElem?
abbrev u6:=@Option.bind_eq_some_iff
abbrev u7:=@List.getElem?_eq_getElem
abbrev uv:=@List.getElem?_map
abbrev uw:=@List.length_map
abbrev ux:=@Nat.le_refl
abbrev uy:=@Option.bind_eq_bind
abbrev uz:=@decide_eq_false
abbrev v3:=@PySem.Heap.get?_push_of_some
abbrev v7:=@Bool.false_eq_true
abbrev v8:=@List.mem_cons_of_mem
abbrev v9:=@List.size_toArray
abbrev va:=@Bool.and_eq_true
abbrev vb:=@Option.some.inj
abbrev vc:=@Option.map_eq_some_iff
abbrev vd:=@List.append_assoc
abbrev ve:=@Nat.lt_of_lt_of_le
abbrev vf:=@Bool.false_ne_true
abbrev vg:=@decide_eq_true_eq
abbrev vh:=@List.length_range
abbrev vi:=@List.getElem?_set_self
abbrev vj:=@List.getElem?_set_ne
abbrev vk:=@PySem.Heap.lt_size
abbrev vm:=@Nat.le_trans
abbrev vn:=@List.mem_singleton
abbrev vo:=@List.mem_cons
abbrev vp:=@PyProof.Rows.callWith_type1
abbrev vq:=@Nat.zero_add
abbrev vt:=@List.length_append
abbrev vv:=@Bool.not_true
abbrev vx:=@List.append_nil
abbrev vy:=@List.length_eq_zero_iff
abbrev vz:=@List.map_cons
abbrev wa:=@decide_eq_true
abbrev wb:=@beq_iff_eq
abbrev wc:=@List.mem_map
abbrev we:=@PySem.mem_of_lookup
abbrev wg:=@beq_eq_false_iff_ne
abbrev wj:=@Nat.ne_of_lt
abbrev wk:=@List.length_take
abbrev wm:=@List.mem_append_right
abbrev wo:=@List.mem_append_left
abbrev wq:=@Nat.lt_irrefl
abbrev wt:=@PySem.wpAny_bind
abbrev wu:=@PySem.wpAny_pure
abbrev wx:=@PySem.wpAny_mono
abbrev wy:=@PySem.Heap.get?_push_size
abbrev wz:=@Option.map_some
abbrev x5:=@Option.bind_some
abbrev x6:=@Nat.le_succ
abbrev x8:=@List.mem_cons_self
abbrev x9:=@Nat.lt_succ_self
abbrev xa:=@List.getElem?_range
abbrev xb:=@List.length_cons
abbrev xf:=@List.map_append
abbrev xg:=@Bool.or_eq_true
abbrev xh:=@List.not_mem_nil
abbrev xi:=@List.map_map
abbrev xj:=@List.getElem?_append_left
abbrev xo:=@List.getElem?_append_right
abbrev xp:=@List.mem_range
abbrev xq:=@Nat.zero_le
abbrev xr:=@List.length_reverse
abbrev xt:=@List.drop_length
abbrev xu:=@List.length_drop
abbrev xv:=@List.pairwise_cons
abbrev xw:=@List.mem_append
abbrev xx:=PySem.W.Frag
abbrev y7:=PySem.FuncData
abbrev y8:=PySem.Program
abbrev y9:=PySem.Value->PySem.Shared->Prop
abbrev ya:=List (PySem.Addr×PySem.Obj)
abbrev yb:=PySem.Str->Option PySem.Value
abbrev yc:PySem.Str:="_law_bolts_told"
abbrev yd:PySem.Str:="refuse_severed"
abbrev ye:PySem.Str:="refuse_unbound"
abbrev yf:PySem.Str:="threaded_cells"
abbrev yg:PySem.Str:="hung_together"
abbrev yh:PySem.Str:="laid_together"
abbrev yi:PySem.Str:="UPRIGHT_SIDES"
abbrev yj:PySem.Str:="_law_sheet_by"
abbrev yk:PySem.Str:="_law_refused"
abbrev yo:PySem.Str:="_law_cell_at"
abbrev yp:PySem.Str:="_law_numbers"
abbrev yq:PySem.Str:="_law_word_of"
abbrev yr:PySem.Str:="folded_strip"
abbrev yt:PySem.Str:="folded_table"
abbrev yu:PySem.Str:="_law_fold_by"
abbrev yv:PySem.Str:="turned_heap"
abbrev yw:PySem.Str:="_law_leaves"
abbrev yx:PySem.Str:="turned_part"
abbrev yz:PySem.Str:="_law_groups"
abbrev za:PySem.Str:="_law_knives"
abbrev zb:PySem.Str:="SPINE_LINES"
abbrev zc:PySem.Str:="LEVEL_SIDES"
abbrev zd:PySem.Str:="MOST_CELLS"
abbrev ze:PySem.Str:="NEAR_SIDES"
abbrev zf:PySem.Str:="edge_lines"
abbrev zg:PySem.Str:="all_joints"
abbrev zh:PySem.Str:="_law_whole"
abbrev zi:PySem.Str:="neighbours"
abbrev zj:PySem.Str:="transposed"
abbrev zk:PySem.Str:="has_crease"
abbrev zl:PySem.Str:="_law_ties"
abbrev zm:PySem.Str:="column_of"
abbrev zq:PySem.Str:="_law_near"
abbrev zr:PySem.Str:="_law_shut"
abbrev zt:PySem.Str:="laid_row"
abbrev zu:PySem.Str:="columns"
abbrev zv:PySem.Str:="heap_at"
abbrev zw:PySem.Str:="severed"
abbrev zx:PySem.Str:="joints"
abbrev zy:PySem.Str:="folded"
abbrev z0:PySem.Str:="pieces"
abbrev z4:PySem.Str:="bolts"
abbrev z5:PySem.Str:="held"
namespace L2
open PySem PySem.Spec PyProof.Rows
variable {us:List Value}{x:Str}{u:Value}{a b C:Addr}{P:y8}{w:World}{h base:Heap}{t' i:Nat}{ch:List Addr}{e c tg:Expr}{N ps:List Str}{M:Model}{A:Around}{E Q:y9}{s:Shared}{pins:ya}{f:Value->Value->Sem Value}{pos:Pos}{op:CmpOp}{K:xx}{body:List Stmt}{kw:List (Str×Value)}{mg:yb}{fd:y7}{kindOf:Str->Option NameKind}
abbrev Key:=Sum Int Str
noncomputable def sY:Key->Value->Bool
 |.inl k,v=>Value.isInt k v
 |.inr x,v=>Value.isStrOf x v
noncomputable def aGR(w:World):Key->Int
 |.inl k=>hashInt k
 |.inr x=>hashStr w x
theorem cL:∀{k:Key} {v:Value},sY k v=Y->(∃i t,k=Sum.inl i/\v=Value.int i t)\/(∃x t,k=Sum.inr x/\v=Value.str x t)
 |.inl i,v,h=>by obtain⟨t,e⟩:=Value.isInt_shape (k:=i) (v:=v) h;exact .inl ⟨i,t,rfl,e⟩
 |.inr x,v,h=>by obtain⟨t,e⟩:=Value.isStrOf_shape (x:=x) (v:=v) h;exact .inr ⟨x,t,rfl,e⟩
def HN(i:Int)(t:Tok):sY (.inl i) (.int i t)=Y:=by simp[sY,Value.isInt]
def HM(x:Str)(t:Tok):sY (.inr x) (.str x t)=Y:=by simp[sY,Value.isStrOf]
def aCA(a b:Int):decide ((Sum.inl a:Key)=Sum.inl b)=(a == b):=by by_cases e:a=b;subst e;simp;have h:¬(Sum.inl a:Key)=Sum.inl b:=λq=>e (Sum.inl.inj q);rw[uz h];exact(wg.mpr e).symm
def aCx(a b:Str):decide ((Sum.inr a:Key)=Sum.inr b)=decide (a=b):=by by_cases e:a=b;subst e;simp;have h:¬(Sum.inr a:Key)=Sum.inr b:=λq=>e (Sum.inr.inj q);rw[uz h,uz e]
def aCz(a:Int)(b:Str):decide ((Sum.inl a:Key)=Sum.inr b)=J:=uz (λq=>nomatch q)
def aCy(a:Str)(b:Int):decide ((Sum.inr a:Key)=Sum.inl b)=J:=uz (λq=>nomatch q)
def bX(prog:y8)(w:World):PySem.KeyKind prog w Key where
 is:=sY
 hash:=aGR w
 inj:=λv a b ha hb=>by
  rcases cL ha with ⟨i,t,rfl,rfl⟩|⟨x,t,rfl,rfl⟩
  .rcases cL hb with ⟨j,u,rfl,e⟩|⟨y,u,rfl,e⟩
   .injection e with e1 _;rw[e1]
   .exact nomatch e
  .rcases cL hb with ⟨j,u,rfl,e⟩|⟨y,u,rfl,e⟩
   .exact nomatch e
   .injection e with e1 _;rw[e1]
 byValue:=λk v h=>by
  rcases cL h with ⟨i,t,rfl,rfl⟩|⟨x,t,rfl,rfl⟩<;>rfl
 pyHash:=λhv h=>by
  rcases cL hv with ⟨i,t,rfl,rfl⟩|⟨x,t,rfl,rfl⟩
  .exact wpAny_pyHash_int h
  .exact wpAny_pyHash_str h
 eqBool:=λhu hv h=>by
  rcases cL hu with ⟨i,t,rfl,rfl⟩|⟨x,t,rfl,rfl⟩
  .rcases cL hv with ⟨j,u,rfl,rfl⟩|⟨y,u,rfl,rfl⟩
   .rw[aCA]at h;exact wpAny_eqBool_int h
   .rw[aCz]at h;exact SeqAt.EqAt.int_str i t y u _ _ _ _ h
  .rcases cL hv with ⟨j,u,rfl,rfl⟩|⟨y,u,rfl,rfl⟩
   .rw[aCy]at h;exact SeqAt.EqAt.str_int x t j u _ _ _ _ h
   .rw[aCx]at h;exact wpAny_eqBool_str h
 «strs»:=λk x t v h=>by
  rcases cL h with ⟨i,u,rfl,e⟩|⟨y,u,rfl,e⟩
  .exact nomatch e
  .injection e with e1 _
   subst e1;cases v<;>rfl
def yJ(prog:y8)(w:World)(i:Int)(t:Tok):(bX prog w).is (.inl i) (.int i t)=Y:=HN i t
def eL(prog:y8)(w:World)(x:Str)(t:Tok):(bX prog w).is (.inr x) (.str x t)=Y:=HM x t
inductive σ where
 |non|bl (b:Bool)|int (i:Int)|str (x:Str)|byt (b:Array UInt8)|flt (b:UInt64)|ref (a:Addr)|ty (n:String)
 deriving DecidableEq
noncomputable def RelV:σ->Value->Prop
 |.non,u=>u=Value.none
 |.bl b,u=>u=Value.bool b
 |.int i,u=>∃t,u=Value.int i t
 |.str x,u=>∃t,u=Value.str x t
 |.byt b,u=>∃t,u=Value.bytes b t
 |.flt b,u=>∃t,u=Value.float b t
 |.ref a,u=>u=Value.ref a
 |.ty n,u=>u=Value.type n
abbrev aX:List σ->List Value->Prop:=Paired RelV
theorem aX.length{xs:List σ}(r:aX xs us):xs.length=us.length:=Paired.length r
theorem aX.get:∀{xs:List σ} {us:List Value} {i:Nat} {x:σ},aX xs us->xs[i]?=O x->∃u,us[i]?=O u/\RelV x u
 |_,_,_,_,.nil,e=>by simp at e
 |_,_,0,_,.cons r _,e=>by simp at e;subst e;exact⟨_,rfl,r⟩
 |_,_,i+1,x,.cons _ t,e=>by obtain⟨u,h1,h2⟩:=aX.get (i:=i) (x:=x) t (by simpa using e);exact⟨u,by simpa using h1,h2⟩
theorem aX.set{x:σ}(r:RelV x u):∀{xs:List σ} {us:List Value} (i:Nat),aX xs us->aX (xs.set i x) (us.set i u)
 |_,_,_,.nil=>.nil
 |_,_,0,.cons _ t=>.cons r t
 |_,_,i+1,.cons q t=>.cons q (aX.set r i t)
theorem aX.append:∀{xs ys:List σ} {us ws:List Value},aX xs us->aX ys ws->aX (xs++ys) (us++ws)
 |_,_,_,_,.nil,s=>s
 |_,_,_,_,.cons r t,s=>.cons r (aX.append t s)
theorem aX.take:∀{xs:List σ} {us:List Value} (n:Nat),aX xs us->aX (xs.take n) (us.take n)
 |_,_,0,_=>.nil
 |_,_,_+1,.nil=>.nil
 |_,_,n+1,.cons r t=>.cons r (aX.take n t)
theorem aX.drop:∀{xs:List σ} {us:List Value} (n:Nat),aX xs us->aX (xs.drop n) (us.drop n)
 |_,_,0,r=>r
 |_,_,_+1,.nil=>.nil
 |_,_,n+1,.cons _ t=>aX.drop n t
noncomputable def jM:Option σ->Option Value->Prop
 |some v,O u=>RelV v u
 |none,U=>True
 |_,_=>False
def KV{κ:Type}:List (κ×σ)->List (κ×Value)->Prop:=Paired λ(p:κ×σ) (q:κ×Value)=>p.1=q.1/\RelV p.2 q.2
noncomputable def kV:Key->σ
 |.inl i=>.int i
 |.inr x=>.str x
inductive HO where
 |lst (xs:List σ)
 |tup (xs:List σ)
 |dK (kvs:List (Key×σ))|dT (kvs:List (List Key×σ))
 |set (S:Int->Bool) (n:Nat)
 |ins (C dx:Addr) (fs:List (Str×σ))
 |own (x:Addr)
 |xd (fs:List (Str×σ))
 |met (f x:Addr)
 |rng (lo hi:Int)
 |frz (o:Obj) (u:HO)
 |tbl (ps:Array Value)
 |ext (φ:Heap->Prop)
abbrev Hp:=Addr->Option HO
noncomputable def upd(H:Hp)(a:Addr)(o:HO):Hp:=λb=>if b=a then O o else H b
def aL{H:Hp}{o:HO}:upd H a o a=O o:=by unfold upd;rw[if_pos rfl]
def aK{H:Hp}{o:HO}(h:b≠a):upd H a o b=H b:=by unfold upd;rw[if_neg h]
def aS{H:Hp}{o:HO}(h:H a=O o)(h':H b=U):a≠b:=by intro e;subst e;rw[h]at h';cases h'
section
variable (P:y8)(w:World)
def cY(H:Hp)(h:Heap)(a:Addr):HO->Prop
 |.lst xs=>xs.length<=sizeLine/\∃(its:List Value) (n:Nat),aX xs its/\h.get? a=O {cls:=.type "list",data:=.seq its.toArray n}
 |.tup xs=>xs.length<=sizeLine/\∃its:List Value,aX xs its/\IsTup h a its.toArray
 |.dK kvs=>kvs.length<=sizeLine/\(a == sysModules)=J/\∃vs,KV kvs vs/\h.DictOf (bX P w) a vs
 |.dT kvs=>kvs.length<=sizeLine/\(a == sysModules)=J/\∃xs:List (List Key×Addr×Value),Paired (λ(p:List Key×σ) (q:List Key×Addr×Value)=>p.1=q.1/\H q.2.1=O (.tup (p.1.map kV))/\RelV p.2 q.2.2) kvs xs /\∃o es ep,h.get? a=O o/\o.ExactDict/\o.data=.dict es ep/\es.toList=xs.map (entryOfKey (tupleKind (bX P w)))/\(xs.map (·.1)).Nodup
 |.set S n=>h.SetOf (intKind P w) a S n
 |.ins C dx fs=>H dx=O (.own a)/\fs.length<=1000/\dx≠a/\h.get? a=O (instObj C dx) /\∃mA,h.Ns1 dx mA/\(∀f,jM (fs.lookup f) (mA f))/\PySem.Within mA (fs.map (·.1))
 |.own _=>∃o,h.get? a=O o
 |.xd fs=>∃mA,h.Ns1 a mA/\∀f,jM (fs.lookup f) (mA f)
 |.rng lo hi=>∃t u v,h.get? a=O {cls:=.type "range",data:=.fields #[.int lo t,.int hi u,.int 1 v]}
 |.frz o u=>h.get? a=O o/\cY H h a u
 |.tbl ps=>h.get? a=O {cls:=.none,data:=.fields ps}
 |.met f x=>h.get? a=O (methodObj (.ref f) (.ref x))
 |.ext φ=>φ h/\(∃o,h.get? a=O o)/\∀h1 h2:Heap,φ h1->(∀o,h1.get? a=O o->h2.get? a=O o)->φ h2
def HOk(H:Hp)(h:Heap):Prop:=∀a o,H a=O o->cY P w H h a o
end
section
variable {P:y8}{w:World}{H H':Hp}{h h':Heap}{a:Addr}{o:HO}
theorem cY.lt(x:cY P w H h a o):a<h.objs.size:=by
 cases o with
 |lst xs=>obtain⟨_,_,_,_,e⟩:=x;exact vk e
 |tup xs=>obtain⟨_,_,_,p⟩:=x;exact p.lt
 |dK kvs=>obtain⟨_,_,_,_,o,_,_,e,_⟩:=x;exact vk e
 |dT kvs=>obtain⟨_,_,_,_,o,_,_,e,_⟩:=x;exact vk e
 |set S n=>obtain⟨o,_,_,_,e,_⟩:=x;exact vk e
 |ins C dx fs=>obtain⟨_,_,_,e,_⟩:=x;exact vk e
 |own y=>obtain⟨_,e⟩:=x;exact vk e
 |xd fs=>obtain⟨_,⟨_,_,_,e,_⟩,_⟩:=x;exact vk e
 |rng lo hi=>obtain⟨_,_,_,e⟩:=x;exact vk e
 |frz z u=>obtain⟨e,_⟩:=x;exact vk e
 |tbl ps=>exact vk (show h.get? a=O _ from x)
 |met f y=>exact vk (show h.get? a=O _ from x)
 |ext φ=>obtain⟨_,⟨_,e⟩,_⟩:=x;exact vk e
theorem Paired.mapP{α β:Type}{F G:α->β->Prop}:∀{I:List α} {z:List β},Paired F I z->(∀a b,F a b->G a b)->Paired G I z
 |_,_,.nil,_=>.nil
 |_,_,.cons r t,f=>.cons (f _ _ r) (Paired.mapP t f)
def cY.stay(x:cY P w H h a o)(k:∀b u,(b=a\/H b=O (.own a))->h.get? b=O u->h'.get? b=O u) (ho:∀b,H b=O (.own a)->H' b=O (.own a)) (W:∀b xs,H b=O (.tup xs)->H' b=O (.tup xs)):cY P w H' h' a o:=by
 induction o with
 |lst xs=>obtain⟨z,its,n,r,e⟩:=x;exact⟨z,its,n,r,k _ _ (.inl rfl) e⟩
 |tup xs=>obtain⟨z,its,r,I,e,c⟩:=x;exact⟨z,its,r,I,k _ _ (.inl rfl) e,c⟩
 |dK kvs=>obtain⟨z,y,vs,r,I,es,ep,e,c⟩:=x;exact⟨z,y,vs,r,I,es,ep,k _ _ (.inl rfl) e,c⟩
 |dT kvs=>obtain⟨z,y,xs,r,I,es,ep,e,c⟩:=x;exact⟨z,y,xs,Paired.mapP r λp q z=>⟨z.1,W _ _ z.2.1,z.2.2⟩,I,es,ep,k _ _ (.inl rfl) e,c⟩
 |set S n=>obtain⟨I,es,ep,t,e,c⟩:=x;exact⟨I,es,ep,t,k _ _ (.inl rfl) e,c⟩
 |ins C dx fs=>obtain⟨d,z,ne,e,mA,⟨od,es,ep,e2,c⟩,r⟩:=x;exact⟨ho _ d,z,ne,k _ _ (.inl rfl) e,mA,⟨od,es,ep,k _ _ (.inr d) e2,c⟩,r⟩
 |own y=>obtain⟨I,e⟩:=x;exact⟨I,k _ _ (.inl rfl) e⟩
 |xd fs=>obtain⟨mA,⟨od,es,ep,e,c⟩,r⟩:=x;exact⟨mA,⟨od,es,ep,k _ _ (.inl rfl) e,c⟩,r⟩
 |rng lo hi=>obtain⟨t,u,v,e⟩:=x;exact⟨t,u,v,k _ _ (.inl rfl) e⟩
 |frz I u R=>obtain⟨e,q⟩:=x;exact⟨k _ _ (.inl rfl) e,R q⟩
 |tbl ps=>have e:h.get? a=O {cls:=.none,data:=.fields ps}:=x;show h'.get? a=O {cls:=.none,data:=.fields ps};exact k a _ (.inl rfl) e
 |met f y=>have e:h.get? a=O (methodObj (.ref f) (.ref y)):=x;show h'.get? a=O (methodObj (.ref f) (.ref y));exact k a _ (.inl rfl) e
 |ext φ=>obtain⟨p,⟨o,e⟩,st⟩:=x;exact⟨st _ _ p λo q=>k _ _ (.inl rfl) q,⟨o,k _ _ (.inl rfl) e⟩,st⟩
theorem HOk.lt(x:HOk P w H h)(e:H a=O o):a<h.objs.size:=(x a o e).lt
def HOk.fresh(x:HOk P w H h)(e:h.objs.size<=a):H a=U:=by
 cases q:H a with
 |none=>rfl
 |some u=>exact absurd (ve (x.lt q) e) (wq _)
def HOk.kept(x:HOk P w H h)(k:∀b u,h.get? b=O u->h'.get? b=O u):HOk P w H h':=λa o e=>(x a o e).stay (λb u _ q=>k b u q) (λ_ q=>q) λ_ _ q=>q
def HOk.laid(x:HOk P w H h)(k:∀b u,h.get? b=O u->h'.get? b=O u)(hp:h.objs.size<=a)(new:cY P w (upd H a o) h' a o):HOk P w (upd H a o) h':=λb u e=>by have hn:=x.fresh hp;by_cases hb:b=a;subst hb;rw[aL]at e;cases e;exact new;rw[aK hb]at e;exact(x b u e).stay (λc v _ q=>k c v q) (λc q=>by rw[aK (aS q hn)];exact q) λc xs q=>by rw[aK (aS q hn)];exact q
end
def Rd(H:Hp)(a:Addr)(u:HO):Prop:=H a=O u\/∃o,H a=O (.frz o u)
def Rd.ok{H:Hp}{u:HO}(r:Rd H a u)(x:HOk P w H h):cY P w H h a u:=by rcases r with r|⟨o,r⟩;exact x a u r;obtain⟨_,q⟩:=x a _ r;exact q
noncomputable def uq:Option HO->Prop
 |some (.lst _)=>True
 |some (.dK _)=>True
 |some (.dT _)=>True
 |some (.set _ _)=>True
 |some (.ins _ _ _)=>True
 |some (.ext _)=>True
 |_=>False
section
variable {P:y8}{w:World}{H:Hp}{h h':Heap}{x e:Addr}{o':HO}
def HOk.write(ok:HOk P w H h)(mu:uq (H x))(he:e=x\/H e=O (.own x))(k:∀b u,b≠e->h.get? b=O u->h'.get? b=O u)(pj:∃u,h'.get? e=O u) (new:cY P w (upd H x o') h' x o'):HOk P w (upd H x o') h':=λb u q=>by
 have I:∀c y,H c=O (.own y)->c≠x:=λc y r z=>by subst z;rw[r]at mu;exact mu
 have R:∀c xs,H c=O (.tup xs)->c≠x:=λc xs r z=>by subst z;rw[r]at mu;exact mu
 by_cases hb:b=x;subst hb;rw[aL]at q;cases q;exact new;rw[aK hb]at q;by_cases W:b=e;have q':H b=O (.own x):=by rcases he with z|z;exact absurd (W.trans z) hb;rw[W];exact z
 rw[q]at q';cases q';obtain⟨v,hv⟩:=pj;exact⟨v,by rw[W];exact hv⟩;refine(ok b u q).stay (λc v hc r=>k c v ?_ r) (λc r=>by rw[aK (I c b r)];exact r) λc xs r=>by rw[aK (R c xs r)];exact r
 rcases hc with rfl|hc;exact W;rintro rfl;rcases he with z|z;exact I c b hc z;rw[hc]at z;cases z;exact hb rfl
end
structure Un (fs ex:List Addr) (H H':Hp) (h h':Heap):Prop where
 keep:∀b o,h.get? b=O o->H b=U->b∉fs->b∉ex->h'.get? b=O o
 slot:∀b o,h.get? b=O o->H b=U->b∈fs->b∉ex->∃sl,h'.get? b=O {o with slots:=sl}
 free:∀b o,h.get? b=O o->H b=U->b∉ex->H' b=U
 there:∀b o,h.get? b=O o->b∉ex->∃o',h'.get? b=O o'
 tups:∀b xs,H b=O (.tup xs)->H' b=O (.tup xs)
 frzs:∀b o u,H b=O (.frz o u)->H' b=O (.frz o u)
 tbls:∀b ps,H b=O (.tbl ps)->∃more,H' b=O (.tbl (ps++more))
section
variable {fs fs' ex ex':List Addr}{H H1 H2:Hp}{h h1 h2 h':Heap}{a x e:Addr}{o:HO}
def Un.any(u:Un fs ex H H1 h h1){z:Obj}(q:h.get? b=O z)(n:H b=U)(hx:b∉ex):∃sl,h1.get? b=O {z with slots:=sl}:=by by_cases hb:b∈fs;exact u.slot b z q n hb hx;exact⟨z.slots,u.keep b z q n hb hx⟩
def Un.kept(k:∀b u,h.get? b=O u->h'.get? b=O u):Un fs ex H H h h':=⟨λb z q _ _ _=>k b z q,λb z q _ _ _=>⟨z.slots,k b z q⟩,λ_ _ _ n _=>n,λb z q _=>⟨z,k b z q⟩,λ_ _ q=>q,λ_ _ _ q=>q,λ_ ps q=>⟨#[],by rw[q];simp⟩⟩
def Un.refl:Un fs ex H H h h:=Un.kept λ_ _ q=>q
def Un.laid(k:∀b u,h.get? b=O u->h'.get? b=O u)(hp:h.objs.size<=a)(hn:H a=U):Un fs ex H (upd H a o) h h' where
 keep:=λb u q _ _ _=>k b u q
 slot:=λb u q _ _ _=>⟨u.slots,k b u q⟩
 free:=λb u q n _=>by rw[aK (wj (ve (vk q) hp))];exact n
 there:=λb u q _=>⟨u,k b u q⟩
 tups:=λb xs q=>by rw[aK (aS q hn)];exact q
 frzs:=λb u xs q=>by rw[aK (aS q hn)];exact q
 tbls:=λb ps q=>⟨#[],by rw[aK (aS q hn),q];simp⟩
def Un.write(mu:uq (H x))(he:e=x\/H e=O (.own x))(k:∀b u,b≠e->h.get? b=O u->h'.get? b=O u)(R:∃u,h'.get? e=O u):Un fs ex H (upd H x o) h h':=by
 have hx:∀b,H b=U->b≠x:=λb n z=>by subst z;rw[n]at mu;exact mu
 have hb:∀b,H b=U->b≠e:=λb n z=>by subst z;rcases he with r|r;exact hx b n r;rw[n]at r;cases r
 have hm:∀b u,H b=O u->¬uq (O u)->b≠x:=λb u q nm z=>by subst z;rw[q]at mu;exact nm mu
 refine⟨λb u q n _ _=>k b u (hb b n) q,λb u q n _ _=>⟨u.slots,k b u (hb b n) q⟩,λb u q n _=>by rw[aK (hx b n)];exact n,λb u q _=>?_,λb xs q=>by rw[aK (hm b _ q λz=>z)];exact q,λb u xs q=>by rw[aK (hm b _ q λz=>z)];exact q,λb ps q=>⟨#[],by rw[aK (hm b _ q λz=>z),q];simp⟩⟩;by_cases I:b=e;subst I;exact R;exact⟨u,k b u I q⟩
end
noncomputable def trk(h:Heap)(H:Hp):List Addr:=(List.range h.objs.size).filter λa=>(H a).isSome
def vY(h:Heap)(H:Hp):Heap:=hideAll h (trk h H)
def HV(h:Heap)(H:Hp):(vY h H).objs.size=h.objs.size:=PySem.W.hideAll_size _ _
def NO{H:Hp}{o:Obj}(e:h.get? b=O o)(n:H b=U):(vY h H).get? b=O o:=PySem.W.hideAll_get _ e λhm=>by have q:(H b).isSome=Y:=(mem_filter.mp hm).2;rw[n]at q;simp at q
def WA{H:Hp}{o:Obj}(e:(vY h H).get? b=O o):h.get? b=O o/\H b=U:=by
 have e':h.get? b=O o:=PySem.W.of_hideAll (trk h H) e;refine⟨e',?_⟩;cases q:H b with
 |none=>rfl
 |some x=>have hm:b∈trk h H:=mem_filter.mpr ⟨xp.mpr (vk e'),by simp[q]⟩;have z:(vY h H).get? b=U:=PySem.W.hideAll_none (trk h H) hm;rw[z]at e;cases e
noncomputable def YS(g h:Heap)(L:Addr):List (Addr×Obj):=(List.range h.objs.size).filterMap λa=>if a=L\/(g.get? a).isSome=Y then U else(h.get? a).map λo=>(a,o)
def rest(g h:Heap)(L d:Addr):List (Addr×Obj):=(YS g h L).filter λp=>decide (p.1≠d)
structure Mod (K:xx) (mg:yb) (base:Heap):Prop where
 kin:K.In base
 glob:base.Ns mainGlobals mg
 blt:∃mb,base.Ns builtinsNs mb/\∀x:Str,x≠"__name__"->mb x=bootBuiltins x
 nolimit:base.NoLimit
structure Cx where
 prog:y8
 w:World
 K:xx
 mg:Str->Option Value
 base:Heap
 A:Around
 N:List Str
 s₀:Shared
 H₀:Hp
 env:Env
 outer:List Env
 stack:List Env
 ex:List Addr
 fn:Str->Bool
 calm:Bool
 pn:List (Addr×Obj)
 xe:Value->Shared->Prop
noncomputable def frs(l:List Env):List Addr:=l.filterMap (·.frame)
abbrev Cx.fs(X:Cx):List Addr:=frs X.outer
def uh(sc:Scope)(x:Str):Prop:=sc.names.lookup x=O .local\/sc.names.lookup x=O .cell\/sc.names.lookup x=O .free
def Loc(sc:Scope)(x:Str):Prop:=sc.names.lookup x=O .local\/sc.names.lookup x=O .cell
def Look(env:Env)(h:Heap)(m:yb)(x:Str)(u:Value):Prop:=(env.kindOf x=O .local/\m x=O u)\/((env.kindOf x=O .cell\/env.kindOf x=O .free)/\∃c,env.cells.lookup x=O c/\h.IsCell c (O u))
structure Cx.Ok (X:Cx):Prop where
 mod:Mod X.K X.mg X.base
 kind:X.env.scope.kind=.function
 glob:X.env.globals=mainGlobals
 blt:X.env.builtins=builtinsNs
 above:X.s₀.heap.objs.size<=X.env.locals
 inj:∀x y c,X.env.cells.lookup x=O c->X.env.cells.lookup y=O c->x=y
 has:∀x,(X.env.kindOf x=O .cell\/X.env.kindOf x=O .free)->∃c,X.env.cells.lookup x=O c
 cab:∀x c,X.fn x=Y->X.env.cells.lookup x=O c->X.s₀.heap.objs.size<=c
 hd:X.calm=Y->X.A.handled=U
 frames:X.A.frames=O X.stack
 stk:X.stack=X.outer\/(X.stack=X.env::X.outer/\X.env.frame=O X.env.locals)
 exf:∀b∈X.ex,b≠X.env.locals/\∀x c,X.env.cells.lookup x=O c->c≠b
 bs:∀b o,X.base.get? b=O o->X.s₀.heap.get? b=O o/\X.H₀ b=U
 bsz:X.base.objs.size<=X.s₀.heap.objs.size
 noex:∀b o,X.base.get? b=O o->b∉X.ex
 exfs:∀b∈X.ex,b∉X.fs
 funs:X.s₀.heap.FunFrames X.base X.outer
 frf:∀b∈X.fs,X.H₀ b=U
structure Inv (X:Cx) (pins:ya) (V:List (Option σ)) (H:Hp) (s:Shared):Prop where
 ok:X.Ok
 os:s.os=X.s₀.os
 bare:AllBare s.gens
 base:Un X.fs X.ex X.H₀ H X.s₀.heap s.heap
 loc:∃m,s.heap.Ns X.env.locals m/\∀(i:Nat) (x:Str) (v:σ),X.N[i]?=O x->V[i]?=O (O v)->uh X.env.scope x->∃u,RelV v u/\Look X.env s.heap m x u
 cell:∀x c,X.env.cells.lookup x=O c->∃v,s.heap.IsCell c v
 free:H X.env.locals=U
 freeC:∀x c,X.env.cells.lookup x=O c->H c=U
 pin:∀p∈X.pn++pins,s.heap.get? p.1=O p.2/\H p.1=U/\p.1≠X.env.locals/\p.1∉X.fs/\∀v,p.2.data≠.cell v
 hok:HOk X.prog X.w H s.heap
 len:V.length=X.N.length
section
variable {X:Cx}{pins:ya}{V:List (Option σ)}{H H':Hp}{s:Shared}{h':Heap}
def Cx.Ok.nofr(ok:X.Ok){o:Obj}(e:X.base.get? b=O o):b∉X.fs:=λhb=>by have:=(ok.funs.mem hb).1;rw[e]at this;cases this
theorem Inv.bs(I:Inv X pins V H s):∀b o,X.base.get? b=O o->s.heap.get? b=O o/\H b=U:=λb o e=>⟨I.base.keep b o (I.ok.bs b o e).1 (I.ok.bs b o e).2 (I.ok.nofr e) (I.ok.noex b o e),I.base.free b o (I.ok.bs b o e).1 (I.ok.bs b o e).2 (I.ok.noex b o e)⟩
def Inv.bk(I:Inv X pins V H s):∀b o,X.base.get? b=O o->s.heap.get? b=O o:=λb o e=>(I.bs b o e).1
theorem Inv.mod(I:Inv X pins V H s):Mod X.K X.mg X.base:=I.ok.mod
def Inv.kIn(I:Inv X pins V H s):X.K.In s.heap:=I.ok.mod.kin.keeps I.bk
theorem Inv.lt(I:Inv X pins V H s):X.env.locals<s.heap.objs.size:=let ⟨_,hn,_⟩:=I.loc;hn.lt
def Inv.sz(I:Inv X pins V H s):X.s₀.heap.objs.size<=s.heap.objs.size:=vm I.ok.above (le_of_lt I.lt)
def Inv.nofs(I:Inv X pins V H s)(h:s.heap.objs.size<=a):a∉X.fs:=λhb=>by obtain⟨_,o,ho,_⟩:=I.ok.funs.mem hb;exact absurd (ve (vk ho) (vm I.sz h)) (wq _)
def Inv.cne(I:Inv X pins V H s):∀x c,X.env.cells.lookup x=O c->c≠X.env.locals:=λx c e z=>by obtain⟨v,o,ho,hd⟩:=I.cell x c e;obtain⟨m,⟨o',es,ep,W,R,_⟩,_⟩:=I.loc;rw[z,W]at ho;cases ho;rw[R]at hd;cases hd
theorem Inv.funs(I:Inv X pins V H s):s.heap.FunFrames X.base X.outer:=by
 have all:∀(l:List Env),(∀b∈frs l,b∈X.fs)->X.s₀.heap.FunFrames X.base l->s.heap.FunFrames X.base l:=by
  intro l;induction l with
  |nil=>intro _ _;trivial
  |cons env r W=>
   intro hs hl;obtain⟨hk,⟨L,o,hf,hn,ho,hd⟩,hr⟩:=hl;have R:L∈X.fs:=hs L (by unfold frs;rw[List.filterMap_cons,hf];exact x8);obtain⟨sl,e⟩:=I.base.slot L o ho (I.ok.frf L R) R λz=>I.ok.exfs L z R
   exact⟨hk,⟨L,_,hf,hn,e,hd⟩,W (λb hb=>hs b (by unfold frs;rw[List.filterMap_cons,hf];exact v8 _ hb)) hr⟩
 exact all X.outer (λ_ hb=>hb) I.ok.funs
theorem Inv.stack(I:Inv X pins V H s):s.heap.FunFrames X.base X.stack:=by rcases I.ok.stk with e|⟨e,hf⟩;rw[e];exact I.funs;rw[e];obtain⟨m,hn,_⟩:=I.loc;refine .cons (by rw[I.ok.kind];decide) hf hn ?_ I.funs;exact Heap.get?_none_of_le (vm I.ok.bsz I.ok.above)
def Inv.stkSub(I:Inv X pins V H s):∀b∈frs X.stack,b∈X.env.locals::X.fs:=λb hb=>by rcases I.ok.stk with e|⟨e,hf⟩;rw[e]at hb;exact v8 _ hb;rw[e]at hb;unfold frs at hb;rw[List.filterMap_cons,hf]at hb;exact hb
def Inv.stkFree(I:Inv X pins V H s):∀b∈frs X.stack,H b=U:=λb hb=>by rcases vo.mp (I.stkSub b hb) with e|hb;rw[e];exact I.free;obtain⟨_,o,ho,_⟩:=I.ok.funs.mem hb;exact I.base.free b o ho (I.ok.frf b hb) λz=>I.ok.exfs b z hb
def Inv.step{g':Array GenState}{d':Drawn}(I:Inv X pins V H s) (jz:∀b∈ch,(b∈X.ex\/X.s₀.heap.objs.size<=b)/\b≠X.env.locals/\(∀x c,X.env.cells.lookup x=O c->c≠b)/\∀p∈X.pn++pins,p.1≠b) (keep:∀b o,b≠X.env.locals->b∉X.fs->b∉ch->s.heap.get? b=O o->H b=U->h'.get? b=O o) (slot:∀b o,b≠X.env.locals->b∈X.fs->b∉ch->s.heap.get? b=O o->H b=U->∃sl,h'.get? b=O {o with slots:=sl}) (free:∀b o,b∉ch->s.heap.get? b=O o->H b=U->H' b=U) (there:∀b o,b∉ch->s.heap.get? b=O o->∃o',h'.get? b=O o') (tups:∀b xs,H b=O (.tup xs)->H' b=O (.tup xs)) (frzs:∀b o u,H b=O (.frz o u)->H' b=O (.frz o u)) (tbls:∀b ps,H b=O (.tbl ps)->∃more,H' b=O (.tbl (ps++more))) (ns:∀m,s.heap.Ns X.env.locals m->h'.Ns X.env.locals m) (hok:HOk X.prog X.w H' h') (hg:AllBare g'):Inv X pins V H' {s with heap:=h',gens:=g',drawn:=d',toks:=t' }:=by
 have neL:∀b o,X.s₀.heap.get? b=O o->b≠X.env.locals:=λb o e=>wj (ve (vk e) I.ok.above);have W:∀b o,X.s₀.heap.get? b=O o->b∉X.ex->b∉ch:=λb o e hx hb=>by rcases (jz b hb).1 with z|z;exact hx z;exact absurd (ve (vk e) z) (wq _)
 have R:∀x c,X.env.cells.lookup x=O c->∀v,s.heap.IsCell c v->h'.IsCell c v:=λx c e v ⟨o,ho,hd⟩=>by have qq:c∉ch:=λz=>(jz c z).2.2.1 x c e rfl;by_cases hc:c∈X.fs;obtain⟨sl,q⟩:=slot c o (I.cne x c e) hc qq ho (I.freeC x c e);exact⟨_,q,hd⟩;exact⟨o,keep c o (I.cne x c e) hc qq ho (I.freeC x c e),hd⟩
 refine⟨I.ok,I.os,hg,⟨λb o e n hb hx=>?_,λb o e n hb hx=>?_,λb o e n hx=>?_,λb o e hx=>?_,λb xs e=>tups b xs (I.base.tups b xs e),λb o xs e=>frzs b o xs (I.base.frzs b o xs e),λb ps e=>?_⟩,?_,λx c e=>?_,?_,λx c e=>?_,λp hp=>?_,hok,I.len⟩;exact keep b o (neL b o e) hb (W b o e hx) (I.base.keep b o e n hb hx) (I.base.free b o e n hx);obtain⟨sl,e1⟩:=I.base.slot b o e n hb hx;obtain⟨sl',e2⟩:=slot b _ (neL b o e) hb (W b o e hx) e1 (I.base.free b o e n hx);exact⟨sl',e2⟩;obtain⟨o',e1⟩:=I.base.there b o e hx;exact free b o' (W b o e hx) e1 (I.base.free b o e n hx);obtain⟨o',e1⟩:=I.base.there b o e hx;exact there b o' (W b o e hx) e1;obtain⟨m1,e1⟩:=I.base.tbls b ps e;obtain⟨m2,e2⟩:=tbls b _ e1;exact⟨m1++m2,by rw[e2,Array.append_assoc]⟩;obtain⟨m,hn,hl⟩:=I.loc;refine⟨m,ns m hn,λi x v e1 e2 e3=>?_⟩;obtain⟨u,r,l⟩:=hl i x v e1 e2 e3;refine⟨u,r,?_⟩;rcases l with l|⟨k,c,e,z⟩;exact .inl l;exact .inr ⟨k,c,e,R x c e _ z⟩;obtain⟨v,z⟩:=I.cell x c e;exact⟨v,R x c e v z⟩;obtain⟨m,⟨o,_,_,ho,_⟩,_⟩:=I.loc;exact free _ o (λz=>(jz _ z).2.1 rfl) ho I.free;obtain⟨v,o,ho,hd⟩:=I.cell x c e;exact free c o (λz=>(jz c z).2.2.1 x c e rfl) ho (I.freeC x c e);obtain⟨e,n,ne,nf,d⟩:=I.pin p hp;have qq:p.1∉ch:=λz=>(jz p.1 z).2.2.2 p hp rfl;exact⟨keep p.1 p.2 ne nf qq e n,free p.1 p.2 qq e n,ne,nf,d⟩
def Inv.un(I:Inv X pins V H s)(u:Un X.fs [] H H' s.heap h')(hok:HOk X.prog X.w H' h'):Inv X pins V H' {s with heap:=h',toks:=t' }:=by obtain⟨m,⟨o,es,ep,ho,r⟩,_⟩:=id I.loc;obtain⟨sl,hL⟩:=u.any ho I.free Ab;exact I.step (g':=s.gens) (d':=s.drawn) (ch:=[]) (λ_ z=>nomatch z) (λb o _ hb _ e n=>u.keep b o e n hb Ab) (λb o _ hb _ e n=>u.slot b o e n hb Ab) (λb o _ e n=>u.free b o e n Ab) (λb o _ e=>u.there b o e Ab) u.tups u.frzs u.tbls (λm' hm=>by obtain⟨o',iq,R,W,r'⟩:=hm;rw[ho]at W;cases W;exact⟨_,iq,R,hL,r'⟩) hok I.bare
def Inv.call{g':Array GenState}{d':Drawn}(I:Inv X pins V H s)(u:Un (frs X.stack) ch H H' s.heap h')(hok:HOk X.prog X.w H' h')(hg:AllBare g') (jz:∀b∈ch,(b∈X.ex\/X.s₀.heap.objs.size<=b)/\b≠X.env.locals/\(∀x c,X.env.cells.lookup x=O c->c≠b)/\∀p∈X.pn++pins,p.1≠b):Inv X pins V H' {s with heap:=h',gens:=g',drawn:=d',toks:=t' }:=by
 obtain⟨m,⟨o,es,ep,ho,r⟩,_⟩:=id I.loc;obtain⟨sl,R⟩:=u.any ho I.free λz=>(jz _ z).2.1 rfl
 exact I.step (ch:=ch) jz (λb o R hb hc e n=>u.keep b o e n (λz=>(vo.mp (I.stkSub b z)).elim R hb) hc) (λb o _ _ hc e n=>u.any e n hc) (λb o hc e n=>u.free b o e n hc) (λb o hc e=>u.there b o e hc) u.tups u.frzs u.tbls (λm' hm=>by obtain⟨o',iq,W,ji,r'⟩:=hm;rw[ho]at ji;cases ji;exact⟨_,iq,W,R,r'⟩) hok hg
def Inv.turned{it:Addr}(I:Inv X pins V H s)(k:∀b o,b≠it->s.heap.get? b=O o->h'.get? b=O o)(hn:H it=U)(W:it≠X.env.locals) (h1:it∈X.ex\/X.s₀.heap.objs.size<=it) (h2:∀x c,X.env.cells.lookup x=O c->c≠it) (h3:∀p∈X.pn++pins,p.1≠it):Inv X pins V H {s with heap:=h',toks:=t' }:=by
 have R:∀b u,H b=O u->b≠it:=λb u e z=>by rw[z,hn]at e;cases e
 refine I.step (g':=s.gens) (d':=s.drawn) (ch:=[it]) (λb hb=>?_) (λb o _ _ hc e _=>k b o (λz=>hc (by simp[z])) e) (λb o _ _ hc e _=>⟨o.slots,k b o (λz=>hc (by simp[z])) e⟩) (λ_ _ _ _ n=>n) (λb o hc e=>⟨o,k b o (λz=>hc (by simp[z])) e⟩) (λ_ _ e=>e) (λ_ _ _ e=>e) (λb ps e=>⟨#[],by rw[e];simp⟩) (λm hm=>?_) (λb u e=>?_) I.bare;have e:b=it:=by simpa using hb
 subst e;exact⟨h1,W,h2,h3⟩;obtain⟨o,es,ep,ho,r⟩:=hm;exact⟨o,es,ep,k _ o (Ne.symm W) ho,r⟩;refine(I.hok b u e).stay (λc v hc q=>k c v ?_ q) (λ_ q=>q) λ_ _ q=>q;rcases hc with z|z;rw[z];exact R b u e;exact R c _ z
def Inv.tok(I:Inv X pins V H s)(t:Nat):Inv X pins V H {s with toks:=t}:=I.un (h':=s.heap) (t':=t) Un.refl I.hok
theorem Inv.kept(I:Inv X pins V H s)(k:∀b u,s.heap.get? b=O u->h'.get? b=O u):Inv X pins V H {s with heap:=h',toks:=t' }:=I.un (Un.kept k) (I.hok.kept k)
theorem Inv.laid{o:HO}(I:Inv X pins V H s)(k:∀b u,s.heap.get? b=O u->h'.get? b=O u)(hp:s.heap.objs.size<=a)(new:cY X.prog X.w (upd H a o) h' a o):Inv X pins V (upd H a o) {s with heap:=h',toks:=t' }:=I.un (Un.laid k hp (I.hok.fresh hp)) (I.hok.laid k hp new)
theorem Inv.write{x e:Addr}{o:HO}(I:Inv X pins V H s)(mu:uq (H x))(he:e=x\/H e=O (.own x))(k:∀b u,b≠e->s.heap.get? b=O u->h'.get? b=O u)(z:∃u,h'.get? e=O u) (new:cY X.prog X.w (upd H x o) h' x o):Inv X pins V (upd H x o) {s with heap:=h',toks:=t' }:=I.un (Un.write mu he k z) (I.hok.write mu he k z new)
def Inv.pins_of{R:ya}(I:Inv X pins V H s)(h:∀p∈R,s.heap.get? p.1=O p.2/\H p.1=U/\p.1≠X.env.locals/\p.1∉X.fs/\∀v,p.2.data≠.cell v):Inv X R V H s:=⟨I.ok,I.os,I.bare,I.base,I.loc,I.cell,I.free,I.freeC,λp hp=>(xw.mp hp).elim (λz=>I.pin p (wo _ z)) (h p),I.hok,I.len⟩
def yF(hN:N.Nodup){j:Nat}(a:N[i]?=O x)(b:N[j]?=O x):i=j:=by obtain⟨h1,e1⟩:=u0.mp a;obtain⟨h2,e2⟩:=u0.mp b;exact(List.getElem_inj hN).mp (e1.trans e2.symm)
def sP{v:σ}{Q:Unit->Shared->Prop}(I:Inv X pins V H s)(hN:X.N.Nodup)(hi:X.N[i]?=O x)(hx:Loc X.env.scope x)(r:RelV v u) (h:∀s',Inv X pins (V.set i (O v)) H s'->(∃a,Heap.SameBut a s.heap s'.heap/\(a=X.env.locals\/X.env.cells.lookup x=O a))->Q () s') (hf:X.fn x=Y\/X.env.scope.names.lookup x=O .local:=by first|exact .inl rfl|exact .inr rfl|assumption):wpAny M A (storeName X.env x u) Q E s:=by
 obtain⟨m,hn,hl⟩:=id I.loc;have gm:(X.env.scope.kind == .class || (X.env.scope.kind == .module&&X.env.locals != X.env.globals))=J:=by rw[I.ok.kind];rfl
 have hiσ:i<V.length:=by rw[I.len];exact(u0.mp hi).1
 have cne:=I.cne;have R:∀{a:Addr} {h':Heap},(∃o,s.heap.get? a=O o/\H a=U)->Heap.SameBut a s.heap h'->HOk X.prog X.w H h':=λ{a h'} ha hs b ob e=>by obtain⟨_,_,W⟩:=ha;refine(I.hok b ob e).stay (λc w' hc q=>(hs.2 c ?_).trans q) (λ_ q=>q) λ_ _ q=>q;rintro rfl;rcases hc with rfl|hc;rw[W]at e;cases e;rw[W]at hc;cases hc
 rcases hx with hk|hk;refine wpAny_storeName_local hk hn (λh' ll hs=>?_) gm;obtain⟨oL,_,_,hoL,_⟩:=id hn;refine h _ ⟨I.ok,I.os,I.bare,⟨λb o e n hb hx=>?_,λb o e n hb hx=>?_,I.base.free,λb o e hx=>?_,I.base.tups,I.base.frzs,I.base.tbls⟩,⟨_,ll,λj y v' e1 e2 e3=>?_⟩,λy c e=>?_,I.free,I.freeC,λp hp=>?_,R ⟨oL,hoL,I.free⟩ hs,by simpa using I.len⟩ ⟨_,hs,.inl rfl⟩;exact(hs.2 b (wj (ve (vk e) I.ok.above))).trans (I.base.keep b o e n hb hx);obtain⟨sl,e1⟩:=I.base.slot b o e n hb hx;exact⟨sl,(hs.2 b (wj (ve (vk e) I.ok.above))).trans e1⟩;obtain⟨o',e1⟩:=I.base.there b o e hx;exact⟨o',(hs.2 b (wj (ve (vk e) I.ok.above))).trans e1⟩;by_cases hj:j=i;subst hj;rw[hi]at e1;cases e1;rw[vi hiσ]at e2;cases e2;exact⟨u,r,.inl ⟨hk,Ab⟩⟩;rw[vj (Ne.symm hj)]at e2;obtain⟨u',r',q⟩:=hl j y v' e1 e2 e3;refine⟨u',r',?_⟩;rcases q with ⟨k,e⟩|⟨k,c,e,z⟩;refine .inl ⟨k,?_⟩;have:y≠x:=λe=>hj (yF hN e1 (e ▸ hi));simp[this,e];exact .inr ⟨k,c,e,z.sameBut hs (cne y c e)⟩;obtain⟨w',z⟩:=I.cell y c e;exact⟨w',z.sameBut hs (cne y c e)⟩;obtain⟨e,n,ne,nf,d⟩:=I.pin p hp;exact⟨(hs.2 p.1 ne).trans e,n,ne,nf,d⟩;have gb:X.fn x=Y:=by rcases hf with z|z;exact z;rw[z]at hk;cases hk
 obtain⟨c,hc⟩:=I.ok.has x (.inl hk);obtain⟨w',z⟩:=I.cell x c hc;refine wpAny_storeName_cell I.ok.kind hk hc z (λh' pk hs=>?_);obtain⟨oc,hoc,hocd⟩:=id z;refine h {s with heap:=h' } ⟨I.ok,I.os,I.bare,⟨λb o e n hb hx=>?_,λb o e n hb hx=>?_,I.base.free,λb o e hx=>?_,I.base.tups,I.base.frzs,I.base.tbls⟩,⟨m,hn.sameBut hs (Ne.symm (cne x c hc)),λj y v' e1 e2 e3=>?_⟩,λy c' e=>?_,I.free,I.freeC,λp hp=>?_,R ⟨oc,hoc,I.freeC x c hc⟩ hs,by simpa using I.len⟩ ⟨c,hs,.inr hc⟩;exact(hs.2 b (wj (ve (vk e) (I.ok.cab x c gb hc)))).trans (I.base.keep b o e n hb hx);obtain⟨sl,e1⟩:=I.base.slot b o e n hb hx;exact⟨sl,(hs.2 b (wj (ve (vk e) (I.ok.cab x c gb hc)))).trans e1⟩;obtain⟨o',e1⟩:=I.base.there b o e hx;exact⟨o',(hs.2 b (wj (ve (vk e) (I.ok.cab x c gb hc)))).trans e1⟩;by_cases hj:j=i;subst hj;rw[hi]at e1;cases e1;rw[vi hiσ]at e2;cases e2;exact⟨u,r,.inr ⟨.inl hk,c,hc,pk⟩⟩;rw[vj (Ne.symm hj)]at e2;obtain⟨u',r',q⟩:=hl j y v' e1 e2 e3;refine⟨u',r',?_⟩;rcases q with q|⟨k,c',e,z'⟩;exact .inl q;refine .inr ⟨k,c',e,z'.sameBut hs ?_⟩;rintro rfl;exact hj (yF hN e1 (I.ok.inj _ _ _ e hc ▸ hi));by_cases hcc:c'=c;subst hcc;exact⟨_,pk⟩;obtain⟨w2,z2⟩:=I.cell y c' e;exact⟨w2,z2.sameBut hs hcc⟩;obtain⟨e,n,ne,nf,d⟩:=I.pin p hp;refine⟨(hs.2 p.1 ?_).trans e,n,ne,nf,d⟩;intro q;rw[q,hoc]at e;have q':oc=p.2:=vb e;exact d w' (by rw[<-q'];exact hocd)
def mC{v:σ}{Q:Unit->Shared->Prop}(I:Inv X pins V H s)(hN:X.N.Nodup)(hi:X.N[i]?=O x)(hx:Loc X.env.scope x)(r:RelV v u) (h:∀s',Inv X pins (V.set i (O v)) H s'->Q () s') (hf:X.fn x=Y\/X.env.scope.names.lookup x=O .local:=by first|exact .inl rfl|exact .inr rfl|assumption):wpAny M A (storeName X.env x u) Q E s:=
 sP I hN hi hx r (λs' z _=>h s' z) hf
def Inv.call'{s':Shared}(I:Inv X pins V H s)(ho:s'.os=s.os)(u:Un (frs X.stack) ch H H' s.heap s'.heap)(hok:HOk X.prog X.w H' s'.heap)(hg:AllBare s'.gens) (z:∀b∈ch,(b∈X.ex\/X.s₀.heap.objs.size<=b)/\b≠X.env.locals/\(∀x c,X.env.cells.lookup x=O c->c≠b)/\∀p∈X.pn++pins,p.1≠b):Inv X pins V H' s':=by obtain⟨h',g',d',t',o'⟩:=s';have e:o'=s.os:=ho;subst e;exact I.call (g':=g') (t':=t') (d':=d') u hok hg z
end
abbrev XK:=Value->Option Addr->Hp->Prop
abbrev St:=List (Option σ)
abbrev VK:=σ->Hp->Prop
abbrev TE:=St->Hp->VK->Prop
abbrev TT:=St->Hp->(Bool->Hp->Prop)->Prop
abbrev TA:=St->Hp->(List σ->Hp->Prop)->Prop
structure Ends where
 nx:St->Hp->Prop
 rt:VK
 bk:St->Hp->Prop:=λ_ _=>False
 ct:St->Hp->Prop:=λ_ _=>False
abbrev TS:=Ends->St->Hp->Prop
def EP(X:Cx)(pins:ya)(V:St)(Q:VK)(u:Value)(s':Shared):Prop:=∃v H',Inv X pins V H' s'/\RelV v u/\Q v H'
def TP(X:Cx)(pins:ya)(V:St)(Q:Bool->Hp->Prop)(b:Bool)(s':Shared):Prop:=∃H',Inv X pins V H' s'/\Q b H'
def AP(X:Cx)(pins:ya)(V:St)(Q:List σ->Hp->Prop)(us:List Value)(s':Shared):Prop:=∃vs H',Inv X pins V H' s'/\aX vs us/\Q vs H'
def SP(X:Cx)(pins:ya)(D:Ends)(f:Flow)(s':Shared):Prop:=
 match f with
 |.next=>∃z H',Inv X pins z H' s'/\D.nx z H'
 |.brk=>∃z H',Inv X pins z H' s'/\D.bk z H'
 |.cont=>∃z H',Inv X pins z H' s'/\D.ct z H'
 |.ret u=>∃v z H',Inv X pins z H' s'/\RelV v u/\D.rt v H'
def PE(X:Cx)(e:Expr)(t:TE):Prop:=∀(pins:ya) (s:Shared) (V:St) (H:Hp) (Q:VK),Inv X pins V H s->t V H Q->wpAny (model X.prog X.w) X.A (eval e X.env) (EP X pins V Q) X.xe s
def PT(X:Cx)(e:Expr)(t:TT):Prop:=∀(pins:ya) (s:Shared) (V:St) (H:Hp) (Q:Bool->Hp->Prop),Inv X pins V H s->t V H Q->wpAny (model X.prog X.w) X.A (isTrue e X.env (eval e X.env)) (TP X pins V Q) X.xe s
def PW(X:Cx)(e:Expr)(t:TT):Prop:=∀(whole:Sem Value) (pins:ya) (s:Shared) (V:St) (H:Hp) (Q:Bool->Hp->Prop),Inv X pins V H s->t V H Q->wpAny (model X.prog X.w) X.A (isTrue e X.env whole) (TP X pins V Q) X.xe s
def PW.pt{X:Cx}{t:TT}(h:PW X e t):PT X e t:=h _
def PA(X:Cx)(es:List Expr)(t:TA):Prop:=∀(pos:Pos) (pins:ya) (s:Shared) (V:St) (H:Hp) (Q:List σ->Hp->Prop),Inv X pins V H s->t V H Q->wpAny (model X.prog X.w) X.A (spliced (backTo pos (starEach es X.env))) (AP X pins V Q) X.xe s
def PS(X:Cx)(st:Stmt)(t:TS):Prop:=∀(pins:ya) (s:Shared) (V:St) (H:Hp) (D:Ends),Inv X pins V H s->t D V H->wpAny (model X.prog X.w) X.A (exec st X.env) (SP X pins D) X.xe s
def PSs(X:Cx)(st:List Stmt)(t:TS):Prop:=∀(pins:ya) (s:Shared) (V:St) (H:Hp) (D:Ends),Inv X pins V H s->t D V H->wpAny (model X.prog X.w) X.A (execs st X.env) (SP X pins D) X.xe s
def ai{α:Type}{t:Sem α}{Q z:α->Shared->Prop}(h:wpAny M A t Q E s)(I:∀a s,Q a s->z a s):wpAny M A t z E s:=wx h I λ_ _ x=>x
section
variable {X:Cx}
def bin{a b:Expr}{ta tb:TE}(ha:PE X a ta)(hb:PE X b tb){V:St}{H:Hp}{R:σ->σ->Hp->Prop}(I:Inv X pins V H s)(h:ta V H λx H1=>tb V H1 λy H2=>R x y H2) {α:Type} {Q:α->Shared->Prop} {f:Value->Value->Sem α} (hf:∀v u s2 x y H2,Inv X pins V H2 s2->RelV x v->RelV y u->R x y H2->wpAny (model X.prog X.w) X.A (f v u) Q X.xe s2):wpAny (model X.prog X.w) X.A (eval a X.env) (λv W=>wpAny (model X.prog X.w) X.A (eval b X.env) (λu z=>wpAny (model X.prog X.w) X.A (f v u) Q X.xe z) X.xe W) X.xe s:=by refine ai (ha pins s V H _ I h) λv s1 ⟨x,H1,I1,r1,q1⟩=>?_;refine ai (hb pins s1 V H1 _ I1 q1) λu s2 ⟨y,H2,I2,r2,q2⟩=>?_;exact hf v u s2 x y H2 I2 r1 r2 q2
def pV(i:Nat):TE:=λV H Q=>∃v,V[i]?=O (O v)/\Q v H
def tC(v:σ):TE:=λ_ H Q=>Q v H
def lN(hN:X.N[i]?=O x)(hv:uh X.env.scope x)(hd:(x == ("__debug__":Str))=J:=by decide)(W:(x == ("__classdict__":Str))=J:=by decide):PE X (.Name x pos) (pV i):=by intro pins s V H Q I h;obtain⟨v,e,h⟩:=h;obtain⟨m,hn,hl⟩:=I.loc;obtain⟨u,r,l⟩:=hl i x v hN e hv;have R:EP X pins V Q u s:=⟨v,H,I,r,h⟩;rcases l with ⟨hk,hm⟩|⟨hk,c,hc,z⟩;exact wpAny_Name (wpAny_loadName_local I.ok.kind hk hn hm R) hd;rcases hk with hk|hk;exact wpAny_Name (wpAny_loadName_cell I.ok.kind hk hc z R) hd;exact wpAny_Name (wpAny_loadName_free I.ok.kind hk hc z R W) hd
def nG{i j pos}:PE X (.Constant (.int i) j pos) (tC (.int i)):=λ_ _ _ H _ I h=>wpAny_Constant_int ⟨.int i,H,I.tok _,⟨_,rfl⟩,h⟩
def LD{b j pos}:PE X (.Constant (.bool b) j pos) (tC (.bl b)):=λ_ _ _ H _ I h=>Constant_bool ⟨.bl b,H,I,rfl,h⟩
def aBA{j pos}:PE X (.Constant .none j pos) (tC .non):=λ_ _ _ H _ I h=>Constant_none ⟨.non,H,I,rfl,h⟩
def iA{x j pos}:PE X (.Constant (.str x) j pos) (tC (.str x)):=λ_ _ _ H _ I h=>Calls.Constant_str ⟨.str x,H,I.tok _,⟨_,rfl⟩,h⟩
def Gl(X:Cx)(x:Str):Prop:=X.env.kindOf x=O .globalImplicit
def dZ{V:St}{H:Hp}(I:Inv X pins V H s)(hg:Gl X x)(hm:X.mg x=O u)(h:Q u s) (hd:(x == ("__debug__":Str))=J:=by decide):wpAny (model X.prog X.w) X.A (eval (.Name x pos) X.env) Q E s:=Calls.Name_function_global I.ok.kind hg (Calls.loadGlobal_global (by rw[I.ok.glob];exact I.mod.glob.keeps I.bk) hm h) hd
def fT{V:St}{H:Hp}(I:Inv X pins V H s)(hg:Gl X x)(hm:X.mg x=U)(hv:bootBuiltins x=O u)(h:Q u s) (hn:x≠"__name__":=by decide) (hd:(x == ("__debug__":Str))=J:=by decide):wpAny (model X.prog X.w) X.A (eval (.Name x pos) X.env) Q E s:=by obtain⟨mb,h1,h2⟩:=I.mod.blt;exact Calls.Name_function_global I.ok.kind hg (Calls.loadGlobal_builtin (by rw[I.ok.glob];exact I.mod.glob.keeps I.bk) hm (by rw[I.ok.blt];exact h1.keeps I.bk) ((h2 x hn).trans hv) h) hd
def VE{v:σ}(hg:Gl X x)(hm:X.mg x=O u)(r:RelV v u)(hd:(x == ("__debug__":Str))=J:=by decide):PE X (.Name x pos) (tC v):=λ_ _ _ H _ I h=>dZ I hg hm ⟨v,H,I,r,h⟩ hd
def DU{v:σ}(hg:Gl X x)(hm:X.mg x=U)(hv:bootBuiltins x=O u)(r:RelV v u)(hn:x≠"__name__":=by decide)(hd:(x == ("__debug__":Str))=J:=by decide):PE X (.Name x pos) (tC v):=λ_ _ _ H _ I h=>fT I hg hm hv ⟨v,H,I,r,h⟩ hn hd
variable {a b:Expr}{ta tb:TE}{pos:Pos}
def PC(X:Cx)(op:CmpOp)(a b:Expr)(t:TE):Prop:=∀(pins:ya) (s:Shared) (V:St) (H:Hp) (Q:VK),Inv X pins V H s->t V H Q ->wpAny (model X.prog X.w) X.A (eval a X.env) (λv I=>wpAny (model X.prog X.w) X.A (eval b X.env) (λu z=>wpAny (model X.prog X.w) X.A (compareOp op v u) (EP X pins V Q) X.xe z) X.xe I) X.xe s
def yG(b:Expr)(h:op≠.In)(h2:op≠.NotIn):behindInMarks op b=J:=by
 have e1:(op == CmpOp.In)=J:=by cases op<;>first|rfl|exact absurd rfl h
 have e2:(op == CmpOp.NotIn)=J:=by cases op<;>first|rfl|exact absurd rfl h2
 cases b<;>simp[behindInMarks,e1,e2]
noncomputable def tB(t:TE):TT:=λV H Q=>t V H λx H1=>∃c,x=.bl c/\Q c H1
def aBE{t:TE}(h:PC X op a b t)(h1:behindInMarks op b=J:=by first|exact yG _ Aa Aa|rfl):PE X (.Compare a [op] [b] pos) t:=λpins s V H Q I hw=>wpAny_Compare1 (h pins s V H Q I hw) h1
def aBv{t:TE}(h:PC X op a b t)(h1:behindInMarks op b=J:=by first|exact yG _ Aa Aa|rfl):PT X (.Compare a [op] [b] pos) (tB t):=by intro pins s V H Q I hw;refine wpAny_isTrue_Compare1 (ai (h pins s V H _ I hw) λv s1 h1=>ai h1 λu s2 h2=>ai h2 λc W ⟨x,H1,I1,z,R⟩=>?_) h1;obtain⟨d,rfl,q⟩:=R;cases z;exact wpAny_truthy_bool ⟨H1,I1,q⟩
def aBu{t:TE}(h:PE X e t)(he:∀z,isTrue e X.env z=(do let v <-z;standAt e.pos;holding [v] (truthy v)):=by intro _;rfl):PT X e (tB t):=by intro pins s V H Q I hw;refine isTrue_plain (ai (h pins s V H _ I hw) λv s1 ⟨x,H1,I1,R,W⟩=>?_) (he _);obtain⟨d,rfl,q⟩:=W;cases R;exact wpAny_truthy_bool ⟨H1,I1,q⟩
variable {tA tB':TT}{rest:List Expr}
noncomputable def aGC(t u:TT):TT:=λV H Q=>t V H λc H1=>if c=Y then u V H1 Q else Q J H1
noncomputable def tOr(t u:TT):TT:=λV H Q=>t V H λc H1=>if c=Y then Q Y H1 else u V H1 Q
noncomputable def aDV(t:TT):TT:=λV H Q=>t V H λc H1=>Q (!c) H1
def US(ha:PT X a tA):PW X (.BoolOp .And [a] pos) tA:=by
 intro z pins s V H Q I h;refine isTrue_and (ai (ha pins s V H Q I h) λc s1 e=>?_);cases c with
 |true=>exact isTrue_and_nil e
 |false=>exact e
def KH(ha:PT X a tA):PW X (.BoolOp .Or [a] pos) tA:=by
 intro z pins s V H Q I h;refine isTrue_or (ai (ha pins s V H Q I h) λc s1 e=>?_);cases c with
 |false=>exact isTrue_or_nil e
 |true=>exact e
def KJ(ha:PT X a tA)(hb:PW X (.BoolOp .And (b::rest) pos) tB'):PW X (.BoolOp .And (a::b::rest) pos) (aGC tA tB'):=by
 intro R pins s V H Q I h;refine isTrue_and (ai (ha pins s V H _ I h) λc s1 ⟨H1,I1,z⟩=>?_);cases c with
 |true=>exact hb R pins s1 V H1 Q I1 z
 |false=>exact⟨H1,I1,z⟩
def KI(ha:PT X a tA)(hb:PW X (.BoolOp .Or (b::rest) pos) tB'):PW X (.BoolOp .Or (a::b::rest) pos) (tOr tA tB'):=by
 intro R pins s V H Q I h;refine isTrue_or (ai (ha pins s V H _ I h) λc s1 ⟨H1,I1,z⟩=>?_);cases c with
 |true=>exact⟨H1,I1,z⟩
 |false=>exact hb R pins s1 V H1 Q I1 z
def KO(ha:PT X a tA):PT X (.UnaryOp .Not a pos) (aDV tA):=by intro pins s V H Q I h;exact isTrue_not (ha pins s V H (λc H1=>Q (!c) H1) I h)
def aDY(ta tb:TE):TE:=λV H Q=>ta V H λx H1=>∃c,x=.bl c/\if c=Y then tb V H1 Q else Q (.bl J) H1
def aGy(ta tb:TE):TE:=λV H Q=>ta V H λx H1=>∃c,x=.bl c/\if c=Y then Q (.bl Y) H1 else tb V H1 Q
def aBz{op}{t:TE}(h:PE X a t):PE X (.BoolOp op [a] pos) t:=λpins s V H Q I hw=>BoolOp_one (h pins s V H Q I hw)
def LF(ha:PE X a ta)(hb:PE X (.BoolOp .And (b::rest) pos) tb):PE X (.BoolOp .And (a::b::rest) pos) (aDY ta tb):=by
 intro pins s V H Q I h;refine BoolOp_and (ai (ha pins s V H _ I h) λv s1 ⟨x,H1,I1,R,z⟩=>?_);obtain⟨c,rfl,z⟩:=z;cases R;refine wpAny_truthy_bool ?_;cases c with
 |true=>exact hb pins s1 V H1 Q I1 z
 |false=>exact⟨.bl J,H1,I1,rfl,z⟩
def ZJ(ha:PE X a ta)(hb:PE X (.BoolOp .Or (b::rest) pos) tb):PE X (.BoolOp .Or (a::b::rest) pos) (aGy ta tb):=by
 intro pins s V H Q I h;refine BoolOp_or (ai (ha pins s V H _ I h) λv s1 ⟨x,H1,I1,R,z⟩=>?_);obtain⟨c,rfl,z⟩:=z;cases R;refine wpAny_truthy_bool ?_;cases c with
 |false=>exact hb pins s1 V H1 Q I1 z
 |true=>exact⟨.bl Y,H1,I1,rfl,z⟩
def tIf(t:TT)(ta tb:TE):TE:=λV H Q=>t V H λc H1=>if c=Y then ta V H1 Q else tb V H1 Q
def yC(hc:PT X c tA)(ha:PE X a ta)(hb:PE X b tb):PE X (.IfExp c a b pos) (tIf tA ta tb):=by
 intro pins s V H Q I h;refine wpAny_IfExp (ai (hc pins s V H _ I h) λd s1 ⟨H1,I1,z⟩=>?_);cases d with
 |true=>exact ha pins s1 V H1 Q I1 z
 |false=>exact hb pins s1 V H1 Q I1 z
end
def SqL(K:xx)(H:Hp)(a:Addr)(xs:List σ):Prop:=Rd H a (.lst xs) \/∃(o:Obj) (its:Array Value) (n:Nat),K.lookup a=O o/\o.cls=.type "list"/\o.dict=U/\o.data=.seq its n/\its.size<=sizeLine/\aX xs its.toList
def SqT(K:xx)(H:Hp)(a:Addr)(xs:List σ):Prop:=Rd H a (.tup xs) \/∃(o:Obj) (its:Array Value) (n:Nat),K.lookup a=O o/\o.cls=.type "tuple"/\o.data=.seq its n/\its.size<=sizeLine/\aX xs its.toList
noncomputable def aHc:Value->Option σ
 |.none=>O .non
 |.bool b=>O (.bl b)
 |.int i _=>O (.int i)
 |.str x _=>O (.str x)
 |.bytes b _=>O (.byt b)
 |.float b _=>O (.flt b)
 |.ref a=>O (.ref a)
 |.type n=>O (.ty n)
 |_=>U
def RelV.abs{x:σ}(r:RelV x u):aHc u=O x:=by
 cases x with
 |non=>cases r;rfl
 |bl _=>cases r;rfl
 |int _=>obtain⟨t,rfl⟩:=r;rfl
 |str _=>obtain⟨t,rfl⟩:=r;rfl
 |byt _=>obtain⟨t,rfl⟩:=r;rfl
 |flt _=>obtain⟨t,rfl⟩:=r;rfl
 |ref _=>cases r;rfl
 |ty _=>cases r;rfl
def RelV.inj{x y:σ}(r:RelV x u)(q:RelV y u):x=y:=vb (r.abs.symm.trans q.abs)
theorem aX.inj:∀{xs ys:List σ} {us:List Value},aX xs us->aX ys us->xs=ys
 |_,_,_,.nil,.nil=>rfl
 |_,_,_,.cons r t,.cons z t'=>by rw[r.inj z,aX.inj t t']
section
variable {X:Cx}{pins:ya}{V:St}{H:Hp}{s:Shared}{a:Addr}{xs ys:List σ}
def SqL.of(h:H a=O (.lst xs)):SqL K H a xs:=.inl (.inl h)
def SqT.of(h:H a=O (.tup xs)):SqT K H a xs:=.inl (.inl h)
def Inv.list(I:Inv X pins V H s)(h:SqL X.K H a xs):∃its:List Value,aX xs its/\PlainL s.heap a its.toArray/\xs.length<=sizeLine:=by rcases h with h|⟨o,its,n,hk,hc,hd,hs,hz,r⟩;obtain⟨z,its,n,r,e⟩:=h.ok I.hok;exact⟨its,r,⟨_,n,e,rfl,rfl,rfl⟩,z⟩;refine⟨its.toList,r,⟨o,n,I.kIn a o hk,hc,hd,by simpa using hs⟩,?_⟩;have e:=r.length;simp only[length_toList]at e;lia
def Inv.tuple(I:Inv X pins V H s)(h:SqT X.K H a xs):∃its:List Value,aX xs its/\IsTup s.heap a its.toArray/\xs.length<=sizeLine:=by rcases h with h|⟨o,its,n,hk,hc,hs,hz,r⟩;obtain⟨z,its,r,p⟩:=h.ok I.hok;exact⟨its,r,p,z⟩;refine⟨its.toList,r,⟨o,I.kIn a o hk,hc,n,by simpa using hs⟩,?_⟩;have e:=r.length;simp only[length_toList]at e;lia
def Inv.list_inj(I:Inv X pins V H s)(h:SqL X.K H a xs)(h':SqL X.K H a ys):xs=ys:=by
 obtain⟨its,r,⟨o,n,e,_,_,d⟩,_⟩:=I.list h;obtain⟨its',z,⟨o',R,e',_,_,d'⟩,_⟩:=I.list h';rw[e]at e';cases e';rw[d]at d';injection d' with d1 _
 have:its=its':=by simpa using congrArg Array.toList d1
 subst this;exact r.inj z
def Inv.tuple_inj(I:Inv X pins V H s)(h:SqT X.K H a xs)(h':SqT X.K H a ys):xs=ys:=by
 obtain⟨its,r,⟨o,e,_,n,d⟩,_⟩:=I.tuple h;obtain⟨its',z,⟨o',e',_,R,d'⟩,_⟩:=I.tuple h';rw[e]at e';cases e';rw[d]at d';injection d' with d1 _
 have:its=its':=by simpa using congrArg Array.toList d1
 subst this;exact r.inj z
end
abbrev Cx.wish(X:Cx)(E:y9):Cx:={X with xe:=E}
abbrev Cx.nox(X:Cx):Cx:=X.wish λ_ _=>False
theorem Cx.Ok.wish{X:Cx}(ok:X.Ok)(E:y9):(X.wish E).Ok:=⟨ok.mod,ok.kind,ok.glob,ok.blt,ok.above,ok.inj,ok.has,ok.cab,ok.hd,ok.frames,ok.stk,ok.exf,ok.bs,ok.bsz,ok.noex,ok.exfs,ok.funs,ok.frf⟩
def Cx.Ok.unwish{X:Cx}(ok:(X.wish E).Ok):X.Ok:=⟨ok.mod,ok.kind,ok.glob,ok.blt,ok.above,ok.inj,ok.has,ok.cab,ok.hd,ok.frames,ok.stk,ok.exf,ok.bs,ok.bsz,ok.noex,ok.exfs,ok.funs,ok.frf⟩
section
variable {X:Cx}{pins:ya}{V:St}{H:Hp}{s:Shared}{E:y9}
theorem Inv.wish(I:Inv X pins V H s)(E:y9):Inv (X.wish E) pins V H s:=⟨I.ok.wish E,I.os,I.bare,I.base,I.loc,I.cell,I.free,I.freeC,I.pin,I.hok,I.len⟩
theorem Inv.unwish(I:Inv (X.wish E) pins V H s):Inv X pins V H s:=⟨I.ok.unwish,I.os,I.bare,I.base,I.loc,I.cell,I.free,I.freeC,I.pin,I.hok,I.len⟩
theorem SP.unwish{D:Ends}{f:Flow}{s':Shared}(h:SP (X.wish E) pins D f s'):SP X pins D f s':=by
 cases f with
 |next=>obtain⟨z,H',I,q⟩:=h;exact⟨z,H',I.unwish,q⟩
 |brk=>obtain⟨z,H',I,q⟩:=h;exact⟨z,H',I.unwish,q⟩
 |cont=>obtain⟨z,H',I,q⟩:=h;exact⟨z,H',I.unwish,q⟩
 |ret u=>obtain⟨v,z,H',I,r,q⟩:=h;exact⟨v,z,H',I.unwish,r,q⟩
theorem PSs.nox{st:List Stmt}{t:TS}(h:PSs X.nox st t):PSs X st t:=λpins s V H D I hw=>wx (h pins s V H D (I.wish _) hw) (λ_ _ q=>q.unwish) λ_ _ z=>False.elim z
end
section
variable {X:Cx}{st:Stmt}{rest:List Stmt}{t u:TS}{e:Expr}{te:TE}{pos:Pos}
def ZC:TS:=λD V H=>D.nx V H
def aGx(t u:TS):TS:=λD V H=>t {D with nx:=u D} V H
def vC:PSs X [] ZC:=λ_ _ V H _ I h=>wpAny_execs_nil ⟨V,H,I,h⟩
def eQ(h1:PS X st t)(h2:PSs X rest u):PSs X (st::rest) (aGx t u):=by
 intro pins s V H D I h;refine wpAny_execs_cons (ai (h1 pins s V H {D with nx:=u D} I h) λf s1 q=>?_);cases f with
 |next=>obtain⟨z,H',R,q⟩:=q;exact h2 pins s1 z H' D R q
 |ret v=>exact q
 |brk=>exact q
 |cont=>exact q
def gZ(h1:PS X st t):PSs X [st] t:=by
 intro pins s V H D I h;refine wpAny_execs_cons (ai (h1 pins s V H D I h) λf s1 q=>?_);cases f with
 |next=>exact wpAny_execs_nil q
 |ret v=>exact q
 |brk=>exact q
 |cont=>exact q
def UU:PS X (.Pass pos) ZC:=λ_ _ V H _ I h=>wpAny_Pass ⟨V,H,I,h⟩
def Inv.quiet{V:St}{H:Hp}(I:Inv X pins V H s):interactive X.env=J:=by simp[interactive,I.ok.kind]
def ZD(te:TE):TS:=λD V H=>te V H λ_ H1=>D.nx V H1
def fI(he:PE X e te)(hs:swapsWith e U pos.line X.env=pure J:=by rfl):PS X (.Expr e pos) (ZD te):=by intro pins s V H D I h;exact wpAny_Expr_any (ai (he pins s V H _ I h) λv s1 ⟨x,H1,I1,R,z⟩=>⟨V,H1,I1,z⟩) I.quiet hs
def aDT(te:TE):TS:=λD V H=>te V H D.rt
def lM(he:PE X e te):PS X (.Return (O e) pos) (aDT te):=by intro pins s V H D I h;exact wpAny_Return_some (ai (he pins s V H _ I h) λv s1 ⟨x,H1,I1,z,R⟩=>⟨x,V,H1,I1,z,R⟩)
def aDS:TS:=λD _ H=>D.rt .non H
def UT:PS X (.Return U pos) aDS:=λ_ _ V H _ I h=>wpAny_Return_none ⟨.non,V,H,I,rfl,h⟩
def aGz(c:TT)(t u:TS):TS:=λD V H=>c V H λb H1=>if b=Y then t D V H1 else u D V H1
def KQ{a b:List Stmt}{tc:TT}(hc:PT X c tc)(ha:PSs X a t)(hb:PSs X b u):PS X (.If c a b pos) (aGz tc t u):=by
 intro pins s V H D I h;refine wpAny_If (ai (hc pins s V H _ I h) λd s1 ⟨H1,I1,z⟩=>?_);cases d with
 |true=>exact ha pins s1 V H1 D I1 z
 |false=>exact hb pins s1 V H1 D I1 z
end
abbrev TG:=σ->St->Hp->(St->Hp->Prop)->Prop
abbrev l8:=List σ->St->Hp->(St->Hp->Prop)->Prop
def PG(X:Cx)(target:Expr)(t:TG):Prop:=∀(pins:ya) (s:Shared) (V:St) (H:Hp) (v:σ) (u:Value) (Q:St->Hp->Prop),Inv X pins V H s->RelV v u->t v V H Q ->wpAny (model X.prog X.w) X.A (assign target X.env u) (λ_ s'=>∃z H',Inv X pins z H' s'/\Q z H') X.xe s
def uk(X:Cx)(ts:List Expr)(t:l8):Prop:=∀(pins:ya) (s:Shared) (V:St) (H:Hp) (vs:List σ) (us:List Value) (Q:St->Hp->Prop),Inv X pins V H s->aX vs us->t vs V H Q ->wpAny (model X.prog X.w) X.A (assignInOrder ((assignEach ts X.env).map (·.2)) us) (λ_ s'=>∃z H',Inv X pins z H' s'/\Q z H') X.xe s
abbrev aDp:=σ->σ->σ->Hp->(Hp->Prop)->Prop
def aGn(X:Cx)(t:aDp):Prop:=∀(pins:ya) (s:Shared) (V:St) (H:Hp) (o i v:σ) (z I u:Value) (Q:Hp->Prop),Inv X pins V H s->RelV o z->RelV i I->RelV v u->t o i v H Q ->wpAny (model X.prog X.w) X.A (setItem z I u) (λ_ s'=>∃H',Inv X pins V H' s'/\Q H') X.xe s
section
variable {X:Cx}{pos:Pos}
def tO(i:Nat):TG:=λv V H Q=>Q (V.set i (O v)) H
def DQ(hN:X.N.Nodup)(hi:X.N[i]?=O x)(hx:Loc X.env.scope x)(hf:X.fn x=Y\/X.env.scope.names.lookup x=O .local:=by first|exact .inl rfl|exact .inr rfl|assumption):PG X (.Name x pos) (tO i):=by intro pins s V H v u Q I r h;exact wpAny_assign_Name (mC I hN hi hx r (λs' z=>⟨_,H,z,h⟩) hf)
noncomputable def aGX:l8:=λvs V H Q=>vs=[]/\Q V H
noncomputable def aFP(t:TG)(u:l8):l8:=λvs V H Q=>∃v r,vs=v::r/\t v V H λz H'=>u r z H' Q
def VC:uk X [] aGX:=by intro pins s V H vs us Q I r h;obtain⟨e,h⟩:=h;subst e;cases r;exact assignInOrder_nil ⟨V,H,I,h⟩
def KZ{es:List Expr}{t:TG}{u:l8}(h1:PG X e t)(h2:uk X es u) (hs:(assignEach (e::es) X.env).map (·.2)=assign e X.env::(assignEach es X.env).map (·.2):=by rfl):uk X (e::es) (aFP t u):=by
 intro pins s V H vs us Q I r h;obtain⟨v,W,e1,h⟩:=h;subst e1;cases r with
 |cons r z=>rw[hs];refine assignInOrder_cons (ai (h1 pins s V H _ _ _ I r h) λ_ s1 ⟨σ1,H1,I1,R⟩=>?_);exact h2 pins s1 σ1 H1 _ _ Q I1 z R
def aGV(K:xx)(n:Nat)(t:l8):TG:=λv V H Q=>∃a xs,v=.ref a/\SqT K H a xs/\xs.length=n/\t xs V H Q
def aBx{es:List Expr}{k:Nat}{t:l8}{n:Nat}(hc:X.calm=Y)(h:uk X es t) (hn:(assignEach es X.env).length=n:=by rfl) (z:(assignEach es X.env).findIdx? (·.1)=U:=by rfl):PG X (.Tuple es k pos) (aGV X.K n t):=by intro pins s V H v u Q I r hw;obtain⟨a,xs,e1,hq,hl,hw⟩:=hw;subst e1;cases r;obtain⟨its,rv,R,hz⟩:=I.tuple hq;refine assign_Tuple_tuple (I.ok.hd hc) R (by simp[hn,<-hl,rv.length]) z λh' hx=>?_;have I1:Inv X pins V H {s with heap:=h' }:=I.kept (t':=s.toks) λb o e=>hx b o (wj (vk e)) e;exact h pins _ V H xs _ Q I1 (by simpa using rv) hw
def aGW(to z:TE)(t:aDp):TG:=λv V H Q=>to V H λo H1=>z V H1 λi H2=>t o i v H2 λI=>Q V I
def aBy{o i:Expr}{to W:TE}{t:aDp}(ho:PE X o to)(hi:PE X i W)(hs:aGn X t)
  (ha:∀v,assign (.Subscript o i pos) X.env v=(do
   let z <-holding [v] (eval o X.env);let R <-holding [v,z] (eval i X.env)
   standAt pos
   holding [v,z,R] (setItem z R v)
   release [v,z,R] []):=by intro _;rfl):PG X (.Subscript o i pos) (aGW to W t):=by
 intro pins s V H v u Q I r h;rw[ha];refine wt (wpAny_holding (ai (ho pins s V H _ I h) λz s1 ⟨x,H1,I1,r1,q1⟩=>?_));refine wt (wpAny_holding (ai (hi pins s1 V H1 _ I1 q1) λR s2 ⟨y,H2,I2,r2,q2⟩=>?_));refine wt (wpAny_standAt (wt (wpAny_holding (ai (hs pins s2 V H2 x y v z R u _ I2 r1 r2 r q2) λ_ s3 ⟨H3,I3,q3⟩=>?_))));exact wpAny_release ⟨V,H3,I3,q3⟩
def SA(te:TE)(g:TG):TS:=λD V H=>te V H λx H1=>g x V H1 D.nx
def KS{te:TE}{g:TG}(he:PE X e te)(hg:PG X tg g)(hs:swapsWithSole [tg] e pos.line X.env=pure J:=by rfl)(hw:swappedStores [tg] e X.env=pure U:=by rfl) (h1:(assignEach [tg] X.env).map (·.2)=[assign tg X.env]:=by rfl):PS X (.Assign [tg] e pos) (SA te g):=by intro pins s V H D I h;refine wpAny_Assign_stores (ai (he pins s V H _ I h) λv s1 ⟨x,H1,I1,z,R⟩=>?_) hs hw;rw[h1];exact ai (hg pins s1 V H1 x v _ I1 z R) λ_ s2 q=>q
def nD{te:TE}{pos':Pos}(hN:X.N.Nodup)(hi:X.N[i]?=O x)(hx:Loc X.env.scope x)(he:PE X e te)(hs:swapsWith e (O (.Name x pos')) pos.line X.env=pure J:=by rfl)(hf:X.fn x=Y\/X.env.scope.names.lookup x=O .local:=by first|exact .inl rfl|exact .inr rfl|assumption):
  PS X (.Assign [.Name x pos'] e pos) (SA te (tO i)):=by
 intro pins s V H D I h;refine wpAny_Assign_Name (ai (he pins s V H _ I h) λv s1 ⟨y,H1,I1,z,R⟩=>?_) hs;exact mC I1 hN hi hx z (λs2 I2=>⟨_,H1,I2,R⟩) hf
end
section
variable {X:Cx}{pos:Pos}
def aAH(c:TT)(tb:TS):TS:=λD V H=>∃W:Nat->St->Hp->Prop,(∃m,W m V H)/\∀m V H,W m V H ->c V H λb H1=>if b=Y then ∃N:St->Hp->Prop,(∀I H',N I H'->∃z,z<m/\W z I H')/\tb {D with nx:=N,ct:=N,bk:=D.nx} V H1 else D.nx V H1
def KP{tc:TT}{tb:TS}(hp:PassesOwn (model X.prog X.w) X.A X.env X.xe)(hc:PT X c tc)(hb:PSs X body tb):PS X (.While c body [] pos) (aAH tc tb):=by
 intro pins s V H D I h;obtain⟨W,⟨m0,w0⟩,turn⟩:=h;refine wpAny_While (codeAny_whileLoop (λn s'=>∃V' H',Inv X pins V' H' s'/\W n V' H') ?_ m0 ⟨V,H,I,w0⟩);rintro n s1 ⟨σ1,H1,I1,w1⟩;refine wpAny_passesOwn hp (ai (hc pins s1 σ1 H1 _ I1 (turn n σ1 H1 w1)) λb s2 ⟨H2,I2,q2⟩=>?_);cases b with
 |true=>
  obtain⟨N,hN,q2⟩:=q2;rw[if_pos rfl];refine wpAny_passesOwn hp (ai (hb pins s2 σ1 H2 _ I2 q2) λf s3 q3=>?_);cases f with
  |next=>obtain⟨z,R,I3,n3⟩:=q3;obtain⟨m',hm,w3⟩:=hN z R n3;exact⟨m',hm,z,R,I3,w3⟩
  |cont=>obtain⟨z,R,I3,n3⟩:=q3;obtain⟨m',hm,w3⟩:=hN z R n3;exact⟨m',hm,z,R,I3,w3⟩
  |brk=>exact q3
  |ret v=>exact q3
 |false=>rw[if_neg vf];exact wpAny_execs_nil ⟨σ1,H2,I2,q2⟩
end
structure It where
 go:Nat->Hp->Prop
 yld:Nat->Hp->σ->Hp->Prop
 stop:Nat->Hp->Prop
def mX(X:Cx)(pins:ya)(H:Hp)(b:Addr):Prop:=H b=U/\b≠X.env.locals/\b∉X.fs/\(b∈X.ex\/X.s₀.heap.objs.size<=b)/\(∀x c,X.env.cells.lookup x=O c->c≠b)/\∀p∈X.pn++pins,p.1≠b
def Inv.fpOk{X:Cx}{V:St}{H H':Hp}(I:Inv X pins V H s)(hb:s.heap.objs.size<=b)(hn:H' b=U):mX X pins H' b:=by refine⟨hn,Nat.ne_of_gt (ve I.lt hb),I.nofs hb,.inr (vm I.sz hb),λx c e z=>?_,λp hp z=>?_⟩;obtain⟨v,q⟩:=I.cell x c e;exact absurd (ve q.lt (by rw[z];exact hb)) (wq _);exact absurd (ve (vk (I.pin p hp).1) (by rw[z];exact hb)) (wq _)
structure Turn (P:y8) (w:World) (K:xx) (tg:Expr) (æ:It) (fp:List Addr) (it:Addr) (tn:Nat->Heap->Prop):Prop where
 mem:it∈fp
 obj:∀i h,tn i h->∀b∈fp,∃o,h.get? b=O o/\∀v,o.data≠.cell v
 keep:∀i h h',tn i h->(∀b∈fp,∀o,h.get? b=O o->h'.get? b=O o)->tn i h'
 item:∀(X:Cx),X.prog=P->X.w=w->X.K=K->X.calm=Y->∀(i:Nat) (pins:ya) (s:Shared) (V:St) (H:Hp) (E:y9),Inv X pins V H s->(∀b∈fp,mX X pins H b)->tn i s.heap->æ.go i H ->
  wpAny (model P w) X.A (pyNext (.ref it)) (λr s1=>∃u,r=O u /\
   wpAny (model P w) X.A (letOwnedTupleGo tg (.ref it) u) (λ_ s2=>∃x H',Inv X pins V H' s2/\RelV x u/\æ.yld i H x H'/\tn (i+1) s2.heap/\∀b∈fp,H' b=U) E s1) E s
 done:∀(X:Cx),X.prog=P->X.w=w->X.K=K->X.calm=Y->∀(i:Nat) (pins:ya) (s:Shared) (V:St) (H:Hp) (E:y9),Inv X pins V H s->(∀b∈fp,mX X pins H b)->tn i s.heap->æ.stop i H ->
  wpAny (model P w) X.A (pyNext (.ref it)) (λr s1=>r=U/\Inv X pins V H s1) E s
 self:∀(A:Around) (i:Nat) (s:Shared) (Q:y9) (E:y9),tn i s.heap->Q (.ref it) s->wpAny (model P w) A (pyIter (.ref it)) Q E s
abbrev TI:=St->Hp->(It->Hp->Prop)->Prop
def PIE(X:Cx)(pins:ya)(V:St)(tg:Expr)(R:It->Hp->Prop)(z:Value)(s2:Shared):Prop:=∃(it:Addr) (fp:List Addr) (tn:Nat->Heap->Prop) (æ:It) (H':Hp),z=.ref it/\Inv X pins V H' s2/\Turn X.prog X.w X.K tg æ fp it tn/\tn 0 s2.heap/\(∀b∈fp,mX X pins H' b)/\R æ H'
def PI(X:Cx)(tg iter:Expr)(z:TI):Prop:=∀(pins:ya) (s:Shared) (V:St) (H:Hp) (R:It->Hp->Prop),Inv X pins V H s->z V H R ->wpAny (model X.prog X.w) X.A (eval iter X.env) (λv s1=>wpAny (model X.prog X.w) X.A (pyIter v) (PIE X pins V tg R) X.xe s1) X.xe s
def EV{it:Addr}{o:Obj}{n:String}{vs:Array Value}{Q:Unit->Shared->Prop}(ho:s.heap.get? it=O o)(hc:o.cls=.type n)(hd:o.data=.fields vs)
  (hn:["enumerate","zip","dict_itemiterator","dict_reverseitemiterator","odict_iterator","itertools.zip_longest","itertools.pairwise"].contains n=J) (z:Q () s):wpAny M A (letOwnedTupleGo tg (.ref it) u) Q E s:=by
 unfold letOwnedTupleGo;cases tg<;>first
  |exact wu z
  | (cases u<;>first
    |exact wu z
    | (refine wt (wpAny_load ho ?_)
       rw[hc,hd];show wpAny M A (if (["enumerate","zip","dict_itemiterator","dict_reverseitemiterator","odict_iterator","itertools.zip_longest","itertools.pairwise"].contains n&&vs[0]? == O (rawInt _))=Y then _ else _) Q E s
       rw[if_neg (by intro h;rw[hn,Bool.false_and]at h;cases h)]
       exact wu z))
noncomputable def Itl(K:xx)(a:Addr):It:=⟨λi H=>∃xs x,SqL K H a xs/\xs[i]?=O x,λi H x H'=>H'=H/\∀xs,SqL K H a xs->xs[i]?=O x,λi H=>∃xs,SqL K H a xs/\xs.length<=i⟩
noncomputable def Itt(K:xx)(a:Addr):It:=⟨λi H=>∃xs x,SqT K H a xs/\xs[i]?=O x,λi H x H'=>H'=H/\∀xs,SqT K H a xs->xs[i]?=O x,λi H=>∃xs,SqT K H a xs/\xs.length<=i⟩
noncomputable def qe(lo:Int)(n:Nat):It:=⟨λi _=>i<n,λi H x H'=>H'=H/\x=.int (lo+i),λi _=>n<=i⟩
def FZ(a it:Addr):Turn P w K tg (Itl K a) [it] it (λi h=>h.IsListIter it a i) where
 mem:=by simp
 obj:=λi h st b hb=>by
  have e:b=it:=by simpa using hb
  subst e;obtain⟨o,e,c,d⟩:=st;exact⟨o,e,λv z=>by rw[d]at z;cases z⟩
 keep:=λi h h' st k=>st.at λo e=>k it Ab o e
 item:=by
  intro X hP hw hK hc i pins s V H E I hf st hg;subst hP hw hK;obtain⟨xs,x,hq,hx⟩:=hg;obtain⟨its,rv,p,hz⟩:=I.list hq;obtain⟨u,hu,ru⟩:=rv.get hx;obtain⟨f0,f1,f2,f3,f4,f5⟩:=hf it Ab
  refine wpAny_pyNext_list_item st p.isList (x:=u) (by simpa using hu) λh' ae sb=>?_
  have I1:Inv X pins V H {s with heap:=h' }:=I.turned (t':=s.toks) (λb o hb e=>(sb.2 b hb).trans e) f0 f1 f3 f4 f5
  obtain⟨o,e,c,d⟩:=id ae;exact⟨u,rfl,EV (s:={s with heap:=h' }) e c d Aa ⟨x,H,I1,ru,⟨rfl,λys hy=>by rw[I.list_inj hy hq];exact hx⟩,ae,λb hb=>(hf b hb).1⟩⟩
 done:=by
  intro X hP hw hK hc i pins s V H E I hf st hg;subst hP hw hK;obtain⟨xs,hq,hx⟩:=hg;obtain⟨its,rv,p,hz⟩:=I.list hq;obtain⟨f0,f1,f2,f3,f4,f5⟩:=hf it Ab
  have hl:=rv.length
  exact wpAny_pyNext_list_end (I.ok.hd hc) st p.isList (by simp;lia) λh' eb=>⟨rfl,I.turned (t':=s.toks) (λb o hb e=>eb b o hb e) f0 f1 f3 f4 f5⟩
 self:=λ_ _ _ _ _ st h=>wpAny_pyIter_listiter st h
def AG(a it:Addr):Turn P w K tg (Itt K a) [it] it (λi h=>h.IsTupleIter it a i) where
 mem:=by simp
 obj:=λi h st b hb=>by
  have e:b=it:=by simpa using hb
  subst e;obtain⟨o,e,c,d⟩:=st;exact⟨o,e,λv z=>by rw[d]at z;cases z⟩
 keep:=λi h h' st k=>st.at λo e=>k it Ab o e
 item:=by
  intro X hP hw hK hc i pins s V H E I hf st hg;subst hP hw hK;obtain⟨xs,x,hq,hx⟩:=hg;obtain⟨its,rv,p,hz⟩:=I.tuple hq;obtain⟨u,hu,ru⟩:=rv.get hx;obtain⟨f0,f1,f2,f3,f4,f5⟩:=hf it Ab
  refine wpAny_pyNext_tuple_item st (show s.heap.IsTuple a its.toArray from p) (x:=u) (by simpa using hu) λh' ae sb=>?_
  have I1:Inv X pins V H {s with heap:=h' }:=I.turned (t':=s.toks) (λb o hb e=>(sb.2 b hb).trans e) f0 f1 f3 f4 f5
  obtain⟨o,e,c,d⟩:=id ae;exact⟨u,rfl,EV (s:={s with heap:=h' }) e c d Aa ⟨x,H,I1,ru,⟨rfl,λys hy=>by rw[I.tuple_inj hy hq];exact hx⟩,ae,λb hb=>(hf b hb).1⟩⟩
 done:=by
  intro X hP hw hK hc i pins s V H E I hf st hg;subst hP hw hK;obtain⟨xs,hq,hx⟩:=hg;obtain⟨its,rv,p,hz⟩:=I.tuple hq;obtain⟨f0,f1,f2,f3,f4,f5⟩:=hf it Ab
  have hl:=rv.length
  exact wpAny_pyNext_tuple_end (I.ok.hd hc) st (show s.heap.IsTuple a its.toArray from p) (by simp;lia) λh' eb=>⟨rfl,I.turned (t':=s.toks) (λb o hb e=>eb b o hb e) f0 f1 f3 f4 f5⟩
 self:=λ_ _ _ _ _ st h=>wpAny_pyIter_tupleiter st h
def AH(it:Addr)(lo:Int)(n:Nat):Turn P w K tg (qe lo n) [it] it (λi h=>IsRangeIter h it (lo+(i:Nat)*1) ((n:Int)-(i:Nat)) 1) where
 mem:=by simp
 obj:=λi h st b hb=>by
  have e:b=it:=by simpa using hb
  subst e;exact⟨_,st,λv z=>by
   have z':Data.fields _=Data.cell v:=z
   cases z'⟩
 keep:=λi h h' st k=>k it Ab _ st
 item:=by
  intro X hP hw hK hc i pins s V H E I hf st hg;subst hP hw hK;obtain⟨f0,f1,f2,f3,f4,f5⟩:=hf it Ab
  have W:=Walks.range (prog:=X.prog) (w:=X.w) (I.ok.hd hc) it lo 1 n
  refine W.item i s _ _ hg st λv h' tk hv ae kk=>?_
  obtain⟨t,rfl⟩:=hv;have I1:Inv X pins V H {s with heap:=h',toks:=tk}:=I.turned (λb o hb e=>kk b o (by simpa using hb) e) f0 f1 f3 f4 f5
  refine⟨_,rfl,EV (s:={s with heap:=h',toks:=tk}) (n:="range_iterator") ae rfl rfl Aa ⟨.int (lo+i),H,I1,⟨t,?_⟩,⟨rfl,rfl⟩,ae,λb hb=>(hf b hb).1⟩⟩
  rw[Int.mul_one]
 done:=by
  intro X hP hw hK hc i pins s V H E I hf st hg;subst hP hw hK;obtain⟨f0,f1,f2,f3,f4,f5⟩:=hf it Ab
  exact wpAny_pyNext_range_end (I.ok.hd hc) st (by have:n<=i:=hg;lia) λh' eb=>⟨rfl,I.turned (t':=s.toks) (λb o hb e=>eb b o hb e) f0 f1 f3 f4 f5⟩
 self:=λ_ _ _ _ _ st h=>wpAny_pyIter_rangeiter st h
section
variable {X:Cx}{tg:Expr}
def xV{V:St}{H:Hp}{R:It->Hp->Prop}{lo hi:Int}{t u v:Tok}{tk:Nat}(I:Inv X pins V H s)(h1:-(2 ^ 62)<=lo)(h2:lo<2 ^ 62)(h3:-(2 ^ 62)<=hi)(h4:hi<2 ^ 62) (q:R (qe lo (hi-lo).toNat) H):wpAny (model X.prog X.w) X.A (pyIter (.ref s.heap.objs.size)) (PIE X pins V tg R) E {s with heap:=s.heap.push {cls:=.type "range",data:=.fields #[.int lo t,.int hi u,.int 1 v]},toks:=tk}:=by
 refine wpAny_pyIter_range (IsRange.new ..) (small_one h1 h2 h3 h4) ?_;have I1:Inv X pins V H {s with heap:=s.heap.push {cls:=.type "range",data:=.fields #[.int lo t,.int hi u,.int 1 v]},toks:=tk}:=I.kept λb o e=>v3 _ e;refine⟨(s.heap.push {cls:=.type "range",data:=.fields #[.int lo t,.int hi u,.int 1 v]}).objs.size,[(s.heap.push {cls:=.type "range",data:=.fields #[.int lo t,.int hi u,.int 1 v]}).objs.size],_,_,H,rfl,I1.kept (t':=tk) λb o e=>v3 _ e,AH _ lo (hi-lo).toNat,?_,λb hb=>?_,q⟩;have e1:lo+((0:Nat):Int)*1=lo:=by simp
 have e2:(((hi-lo).toNat:Nat):Int)-((0:Nat):Int)=Builtin.Range.rangeSize lo hi 1:=by rw[rangeSize_one];split<;>lia
 show IsRangeIter _ _ (lo+((0:Nat):Int)*1) ((((hi-lo).toNat:Nat):Int)-((0:Nat):Int)) 1;rw[e1,e2];exact wy _ rfl;have e:b=(s.heap.push {cls:=.type "range",data:=.fields #[.int lo t,.int hi u,.int 1 v]}).objs.size:=by simpa using hb
 subst e;exact I1.fpOk (ux _) (I1.hok.fresh (ux _))
def aFJ(ta:TA):TI:=λV H R=>ta V H λvs H1=>∃j:Int,vs=[.int j]/\-(2 ^ 62)<=j/\j<2 ^ 62/\R (qe 0 j.toNat) H1
def aFI(ta:TA):TI:=λV H R=>ta V H λvs H1=>∃i j:Int,vs=[.int i,.int j]/\(-(2 ^ 62)<=i/\i<2 ^ 62/\-(2 ^ 62)<=j/\j<2 ^ 62)/\R (qe i (j-i).toNat) H1
def GT{a:Expr}{ta:TA}{p:Pos}(hg:Gl X "range")(hm:X.mg "range"=U)(ha:PA X [a] ta)(hs:starEach [a] X.env=[(J,eval a X.env)]:=by rfl):PI X tg (.Call (.Name "range" p) [a] [] pos) (aFJ ta):=by
 intro pins s V H R I h;refine Call_ (fT I hg hm boot_range (vp (ai (ha pos pins s V H _ I h) λus s1 ⟨vs,H1,I1,r1,z⟩=>?_) hs rfl));obtain⟨j,e,z,q2,q⟩:=z;subst e;cases r1 with
 |cons r W=>cases W;obtain⟨t,rfl⟩:=r;exact call_range_1 (xV I1 (by lia) (by lia) z q2 (by simpa using q))
def GQ{a b:Expr}{ta:TA}{p:Pos}(hg:Gl X "range")(hm:X.mg "range"=U)(ha:PA X [a,b] ta)(hs:starEach [a,b] X.env=[(J,eval a X.env),(J,eval b X.env)]:=by rfl)(ij:starEach [b] X.env=[(J,eval b X.env)]:=by rfl):PI X tg (.Call (.Name "range" p) [a,b] [] pos) (aFI ta):=by
 intro pins s V H R I h;refine Call_ (fT I hg hm boot_range (vp (ai (ha pos pins s V H _ I h) λus s1 ⟨vs,H1,I1,r1,W⟩=>?_) (by rw[hs,ij]) (by rw[ij];rfl)));obtain⟨i,j,e,⟨W,q2,q3,q4⟩,q⟩:=W;subst e;cases r1 with
 |cons r z=>
  cases z with
  |cons r' z=>cases z;obtain⟨t,rfl⟩:=r;obtain⟨t',rfl⟩:=r';exact call_range_2 (xV I1 W q2 q3 q4 q)
def aGA(wi:TI)(g:TG)(tb:TS):TS:=λD V H=>wi V H λæ H1=>∃W:Nat->Nat->St->Hp->Prop,(∃m,W 0 m V H1)/\∀i m V H,W i m V H ->(æ.stop i H/\D.nx V H)\/(æ.go i H/\∃N:St->Hp->Prop,(∀R H',N R H'->∃I,I<m/\W (i+1) I R H')/\∀x H',æ.yld i H x H'->g x V H' λz H2=>tb {D with nx:=N,ct:=N,bk:=D.nx} z H2)
noncomputable def nE(fp:List Addr)(h:Heap):List (Addr×Obj):=fp.filterMap λb=>(h.get? b).map λo=>(b,o)
def iY{fp:List Addr}{o:Obj}(hb:b∈fp)(e:h.get? b=O o):(b,o)∈nE fp h:=List.mem_filterMap.mpr ⟨b,hb,by rw[e];rfl⟩
def GY{fp:List Addr}{p:Addr×Obj}(hp:p∈nE fp h):p.1∈fp/\h.get? p.1=O p.2:=by
 obtain⟨b,hb,e⟩:=List.mem_filterMap.mp hp;cases q:h.get? b with
 |none=>rw[q]at e;cases e
 |some o=>rw[q]at e;have e':(b,o)=p:=vb e;subst e';exact⟨hb,q⟩
def Inv.pinned{V:St}{H:Hp}{fp:List Addr}(I:Inv X pins V H s)(hf:∀b∈fp,mX X pins H b)(ho:∀b∈fp,∃o,s.heap.get? b=O o/\∀v,o.data≠.cell v):Inv X (pins++nE fp s.heap) V H s:=I.pins_of λp hp=>(xw.mp hp).elim (λz=>I.pin p (wm _ z)) λz=>by obtain⟨hb,e⟩:=GY z;obtain⟨f0,f1,f2,_⟩:=hf p.1 hb;obtain⟨o,e',d⟩:=ho p.1 hb;rw[e]at e';cases e';exact⟨e,f0,f1,f2,d⟩
def Inv.unpinned{pl:ya}{V:St}{H:Hp}(I:Inv X (pins++pl) V H s):Inv X pins V H s:=I.pins_of λp hp=>I.pin p (wm _ (wo _ hp))
def KR{iter:Expr}{wi:TI}{g:TG}{tb:TS}(hp:PassesOwn (model X.prog X.w) X.A X.env X.xe)(hc:X.calm=Y)(hi:PI X tg iter wi)(hg:PG X tg g)(hb:PSs X body tb) (hs:∀x,foldedSetIterable iter X.env x=pure x:=by intro _;rfl):PS X (.For tg iter body [] pos) (aGA wi g tb):=by
 intro pins s V H D I h;refine wpAny_For (ai (hi pins s V H _ I h) λv s1 h1=>ai h1 λitv s2 h2=>?_) hs;obtain⟨it,fp,tn,æ,H2,e,I2,T,jb,f2,W,⟨m0,w0⟩,turn⟩:=h2;subst e;have gc:∀{H':Hp},(∀b∈fp,H' b=U)->∀b∈fp,mX X pins H' b:=λhn b hb=>⟨hn b hb,(f2 b hb).2⟩;refine codeAny_forLoop_any (λn s'=>∃i V' H',Inv X pins V' H' s'/\tn i s'.heap/\(∀b∈fp,H' b=U)/\W i n V' H') ?_ m0 ⟨0,V,H2,I2,jb,λb hb=>(f2 b hb).1,w0⟩;rintro n s3 ⟨i,R,H3,I3,ko,fr3,w3⟩;rcases turn i n R H3 w3 with ⟨stop,qn⟩|⟨go,N,hN,step⟩;refine wpAny_passesOwn hp (ai (T.done X rfl rfl rfl hc i pins s3 R H3 X.xe I3 (gc fr3) ko stop) λr s4 ⟨hr,I4⟩=>?_);subst hr;exact wpAny_execs_nil ⟨R,H3,I4,qn⟩
 .refine wpAny_passesOwn hp (ai (T.item X rfl rfl rfl hc i pins s3 R H3 X.xe I3 (gc fr3) ko go) λr s4 ⟨u,hr,h4⟩=>?_)
  subst hr;refine wpAny_passesOwn hp (ai h4 λ_ s5 ⟨x,H5,I5,r5,y5,st5,fr5⟩=>?_);have I5':=I5.pinned (gc fr5) (T.obj _ _ st5);refine wpAny_passesOwn hp (ai (hg _ s5 R H5 x u _ I5' r5 (step x H5 y5)) λ_ s6 ⟨σ6,H6,I6,q6⟩=>?_);refine wpAny_passesOwn hp (ai (hb _ s6 σ6 H6 _ I6 q6) λf s7 q7=>?_);have again:∀{z:St} {H7:Hp},Inv X (pins++nE fp s5.heap) z H7 s7->N z H7->∃m,m<n/\∃i V' H',Inv X pins V' H' s7/\tn i s7.heap/\(∀b∈fp,H' b=U)/\W i m V' H':=λ{z H7} I7 n7=>by obtain⟨m',hm,w7⟩:=hN z H7 n7;refine⟨m',hm,i+1,z,H7,I7.unpinned,T.keep _ _ _ st5 λb hb o e=>(I7.pin (b,o) (wm _ (wm _ (iY hb e)))).1,λb hb=>?_,w7⟩;obtain⟨o,e,d⟩:=T.obj _ _ st5 b hb;exact(I7.pin (b,o) (wm _ (wm _ (iY hb e)))).2.1
  cases f with
  |next=>obtain⟨z,H7,I7,n7⟩:=q7;exact again I7 n7
  |cont=>obtain⟨z,H7,I7,n7⟩:=q7;exact again I7 n7
  |brk=>obtain⟨z,H7,I7,q7⟩:=q7;exact⟨z,H7,I7.unpinned,q7⟩
  |ret v=>obtain⟨x7,z,H7,I7,r7,q7⟩:=q7;exact⟨x7,z,H7,I7.unpinned,r7,q7⟩
end
abbrev R2:=σ->σ->Hp->VK->Prop
def ba(X:Cx)(f:Value->Value->Sem Value)(r:R2):Prop:=∀(pins:ya) (s:Shared) (V:St) (H:Hp) (x y:σ) (v u:Value) (Q:VK),Inv X pins V H s->RelV x v->RelV y u->r x y H Q ->wpAny (model X.prog X.w) X.A (f v u) (EP X pins V Q) X.xe s
def UnR(X:Cx)(f:Value->Sem Value)(r:σ->Hp->VK->Prop):Prop:=∀(pins:ya) (s:Shared) (V:St) (H:Hp) (x:σ) (v:Value) (Q:VK),Inv X pins V H s->RelV x v->r x H Q ->wpAny (model X.prog X.w) X.A (f v) (EP X pins V Q) X.xe s
def eW(X:Cx)(f:Value)(r:List σ->Hp->VK->Prop):Prop:=∀(pins:ya) (s:Shared) (V:St) (H:Hp) (xs:List σ) (us:List Value) (Q:VK),Inv X pins V H s->aX xs us->r xs H Q ->wpAny (model X.prog X.w) X.A (call f us) (EP X pins V Q) X.xe s
def aHd(X:Cx)(r:σ->Hp->(Bool->Hp->Prop)->Prop):Prop:=∀(pins:ya) (s:Shared) (V:St) (H:Hp) (x:σ) (v:Value) (Q:Bool->Hp->Prop),Inv X pins V H s->RelV x v->r x H Q ->wpAny (model X.prog X.w) X.A (truthy v) (TP X pins V Q) X.xe s
def ka(r:R2)(ta tb:TE):TE:=λV H Q=>ta V H λx H1=>tb V H1 λy H2=>r x y H2 Q
def tUn(r:σ->Hp->VK->Prop)(ta:TE):TE:=λV H Q=>ta V H λx H1=>r x H1 Q
noncomputable def rI(C:Int->Int->Prop)(g:Int->Int->σ):R2:=λx y H Q=>∃i j,x=.int i/\y=.int j/\C i j/\Q (g i j) H
noncomputable def k7(g:Int->Int->σ):R2:=λx y H Q=>∃i j,x=.int i/\y=.int j/\Q (g i j) H
noncomputable def rU(g:Int->σ):σ->Hp->VK->Prop:=λx H Q=>∃i,x=.int i/\Q (g i) H
section
variable {X:Cx}{a b c:Expr}{ta tb tc:TE}{pos:Pos}
def aDm(ha:PE X a ta)(hb:PE X b tb){V:St}{H:Hp}{R:σ->σ->Hp->Prop}(I:Inv X pins V H s) (h:ta V H λx H1=>tb V H1 λy H2=>R x y H2)   (hf:∀v u s2 x y H2,Inv X pins V H2 s2->RelV x v->RelV y u->R x y H2->wpAny (model X.prog X.w) X.A (f v u) Q X.xe s2):wpAny (model X.prog X.w) X.A (eval a X.env) (λv W=>wpAny (model X.prog X.w) X.A (eval b X.env) (λu z=>wpAny (model X.prog X.w) X.A (f v u) Q X.xe z) X.xe W) X.xe s:=by refine ai (ha pins s V H _ I h) λv s1 ⟨x,H1,I1,r1,q1⟩=>?_;refine ai (hb pins s1 V H1 _ I1 q1) λu s2 ⟨y,H2,I2,r2,q2⟩=>?_;exact hf v u s2 x y H2 I2 r1 r2 q2
def ZK{op:Operator}{r:R2}(ho:ba X (binaryOp op) r)(ha:PE X a ta)(hb:PE X b tb):PE X (.BinOp a op b pos) (ka r ta tb):=by intro pins s V H Q I h;exact wpAny_BinOp (aDm ha hb I h λv u s2 x y H2 I2 R z q=>ho pins s2 V H2 x y v u Q I2 R z q)
def aEF{op:UnaryOp}{r:σ->Hp->VK->Prop}(ho:UnR X (unaryOp op) r)(ha:PE X a ta):PE X (.UnaryOp op a pos) (tUn r ta):=by intro pins s V H Q I h;exact UnaryOp_ (ai (ha pins s V H _ I h) λv s1 ⟨x,H1,I1,z,R⟩=>ho pins s1 V H1 x v Q I1 z R)
def opI{C:Int->Int->Prop}{g:Int->Int->Int} (rule:∀(i j:Int) (t u:Tok) (s:Shared) (Q:y9) (E:y9),C i j->Q (.int (g i j) s.toks) {s with toks:=s.toks+1}->wpAny (model X.prog X.w) X.A (f (.int i t) (.int j u)) Q E s):ba X f (rI C λi j=>.int (g i j)):=by intro pins s V H x y v u Q I R z h;obtain⟨i,j,rfl,rfl,hc,q⟩:=h;obtain⟨t,rfl⟩:=R;obtain⟨t',rfl⟩:=z;exact rule i j t t' s _ _ hc ⟨.int (g i j),H,I.tok _,⟨_,rfl⟩,q⟩
def aEP{g:Int->Int->Int} (rule:∀(i j:Int) (t u:Tok) (s:Shared) (Q:y9) (E:y9),Q (.int (g i j) s.toks) {s with toks:=s.toks+1}->wpAny (model X.prog X.w) X.A (f (.int i t) (.int j u)) Q E s):ba X f (k7 λi j=>.int (g i j)):=by intro pins s V H x y v u Q I R z h;obtain⟨i,j,rfl,rfl,q⟩:=h;obtain⟨t,rfl⟩:=R;obtain⟨t',rfl⟩:=z;exact rule i j t t' s _ _ ⟨.int (g i j),H,I.tok _,⟨_,rfl⟩,q⟩
def VX{g:Int->Int->Bool} (rule:∀(i j:Int) (t u:Tok) (s:Shared) (Q:y9) (E:y9),Q (.bool (g i j)) s->wpAny (model X.prog X.w) X.A (f (.int i t) (.int j u)) Q E s):ba X f (k7 λi j=>.bl (g i j)):=by intro pins s V H x y v u Q I R z h;obtain⟨i,j,rfl,rfl,q⟩:=h;obtain⟨t,rfl⟩:=R;obtain⟨t',rfl⟩:=z;exact rule i j t t' s _ _ ⟨.bl (g i j),H,I,rfl,q⟩
def aHg(i j:Int):Prop:=0<j/\j<1073741824
def aHf(i j:Int):Prop:=0<=j/\j<=1000000/\i.natAbs<2 ^ 64
def aDt(i j:Int):Prop:=(-(2 ^ 64)<i/\i<2 ^ 64)\/(-(2 ^ 64)<j/\j<2 ^ 64)
def aDt.ok{i j:Int}(h:aDt i j):IntMulOk i j:=by rcases h with ⟨h1,h2⟩|⟨h1,h2⟩;exact .of_left (intBits_le_64 h1 h2);exact .of_right (intBits_le_64 h1 h2)
def aBL:ba X (binaryOp .Add) (k7 λi j=>.int (i+j)):=aEP λ_ _ _ _ _ _ _ q=>add_int q
def aBG:ba X (binaryOp .Sub) (k7 λi j=>.int (i-j)):=aEP λ_ _ _ _ _ _ _ q=>sub_int q
def aBI:ba X (binaryOp .Mult) (rI aDt λi j=>.int (i*j)):=opI λ_ _ _ _ _ _ _ hc q=>mul_int q hc.ok
def VO:ba X (binaryOp .FloorDiv) (rI aHg λi j=>.int (i / j)):=opI λi j _ _ _ _ _ hc q=>by have h1:(0:Int)<j:=hc.1;have h2:j<1073741824:=hc.2;exact floordiv_int (by lia) (by rw[Int.fdiv_eq_ediv_of_nonneg i (by lia)];exact q) (.inl (PyProof.noPylong_small (by lia)))
def aBJ:ba X (binaryOp .Mod) (rI (λ_ j=>0<j) λi j=>.int (i % j)):=opI λi j _ _ _ _ _ hc q=>by have h1:(0:Int)<j:=hc;exact mod_int' (by lia) (by rw[Int.fmod_eq_emod_of_nonneg i (by lia)];exact q)
def aBH:ba X (binaryOp .Pow) (rI aHf λi j=>.int (i ^ j.toNat)):=opI λ_ _ _ _ _ _ _ hc q=>pow_int_small hc.1 hc.2.1 hc.2.2 q
def unI{f:Value->Sem Value}{g:Int->Int} (rule:∀(i:Int) (t:Tok) (s:Shared) (Q:y9) (E:y9),Q (.int (g i) s.toks) {s with toks:=s.toks+1}->wpAny (model X.prog X.w) X.A (f (.int i t)) Q E s):UnR X f (rU λi=>.int (g i)):=by intro pins s V H x v Q I z h;obtain⟨i,rfl,q⟩:=h;obtain⟨t,rfl⟩:=z;exact rule i t s _ _ ⟨.int (g i),H,I.tok _,⟨_,rfl⟩,q⟩
def aAA:UnR X (unaryOp .USub) (rU λi=>.int (-i)):=unI λ_ _ _ _ _ q=>neg_int q
end
noncomputable def GJ:σ->σ->Bool
 |.non,.non=>Y | .non,.int _=>Y | .int _,.non=>Y | .non,.bl _=>Y | .bl _,.non=>Y | .non,.str _=>Y | .str _,.non=>Y
 |.int _,.int _=>Y | .bl _,.bl _=>Y | .str _,.str _=>Y | .byt _,.byt _=>Y
 |.int _,.str _=>Y | .str _,.int _=>Y | .bl _,.str _=>Y | .str _,.bl _=>Y
 |_,_=>J
def rNe:R2:=λx y H Q=>GJ x y=Y/\Q (.bl (!decide (x=y))) H
def YF{i j:Int}:decide (σ.int i=σ.int j)=(i == j):=by rw[Bool.eq_iff_iff];simp
def aDf{i j:Bool}:decide (σ.bl i=σ.bl j)=(i == j):=by rw[Bool.eq_iff_iff];simp
def YE{i j:Str}:decide (σ.str i=σ.str j)=(i == j):=by rw[Bool.eq_iff_iff];simp
def YG{i j:Array UInt8}:decide (σ.byt i=σ.byt j)=(i.toList == j.toList):=by rw[Bool.eq_iff_iff];cases i;cases j;simp
section
variable {X:Cx}{a b c:Expr}{ta tb tc:TE}{pos:Pos}
def dM{V:St}{H:Hp}{Q:VK}{k k':Bool}(I:Inv X pins V H s)(q:Q (.bl k) H)(e:k=k'):EP X pins V Q (.bool k') s:=by subst e;exact⟨.bl k,H,I,rfl,q⟩
def aEK:ba X (compareOp .NotEq) rNe:=by
 intro pins s V H x y v u Q I R z h;obtain⟨hs,q⟩:=h;cases x with
 |non=>
  cases R;cases y with
  |non=>cases z;exact PySem.EqNone.ne_none_none (dM I q Ab)
  |bl j=>cases z;exact PySem.EqNone.ne_none_bool (dM I q Ab)
  |int j=>obtain⟨t',rfl⟩:=z;exact PySem.EqNone.ne_none_int (dM I q Ab)
  |str j=>obtain⟨t',rfl⟩:=z;exact PySem.EqNone.ne_none_str (dM I q Ab)
  |_=>exact absurd (show J=Y from hs) vf
 |bl i=>
  cases R;cases y with
  |non=>cases z;exact PySem.EqNone.ne_bool_none (dM I q Ab)
  |bl j=>cases z;exact ne_bool (dM I q (congrArg not aDf))
  |str j=>obtain⟨t',rfl⟩:=z;exact PySem.EqMixed.ne_bool_str (dM I q Ab)
  |_=>exact absurd (show J=Y from hs) vf
 |int i=>
  obtain⟨t,rfl⟩:=R;cases y with
  |non=>cases z;exact PySem.EqNone.ne_int_none (dM I q Ab)
  |int j=>obtain⟨t',rfl⟩:=z;exact ne_int (dM I q (congrArg not YF))
  |str j=>obtain⟨t',rfl⟩:=z;exact PySem.EqMixed.ne_int_str (dM I q Ab)
  |_=>exact absurd (show J=Y from hs) vf
 |str i=>
  obtain⟨t,rfl⟩:=R;cases y with
  |non=>cases z;exact PySem.EqNone.ne_str_none (dM I q Ab)
  |bl j=>cases z;exact PySem.EqMixed.ne_str_bool (dM I q Ab)
  |int j=>obtain⟨t',rfl⟩:=z;exact PySem.EqMixed.ne_str_int (dM I q Ab)
  |str j=>obtain⟨t',rfl⟩:=z;exact ne_str (dM I q (congrArg not YE))
  |_=>exact absurd (show J=Y from hs) vf
 |byt i=>
  obtain⟨t,rfl⟩:=R;cases y with
  |byt j=>obtain⟨t',rfl⟩:=z;exact PySem.W.ne_bytes (dM I q (congrArg not YG))
  |_=>exact absurd (show J=Y from hs) vf
 |_=>cases y<;>exact absurd (show J=Y from hs) vf
def aEL:ba X (compareOp .Lt) (k7 λi j=>.bl (decide (i<j))):=VX λ_ _ _ _ _ _ _ q=>lt_int q
def aEM:ba X (compareOp .LtE) (k7 λi j=>.bl (decide (i<=j))):=VX λ_ _ _ _ _ _ _ q=>le_int q
def aEN:ba X (compareOp .Gt) (k7 λi j=>.bl (decide (j<i))):=VX λ_ _ _ _ _ _ _ q=>gt_int q
def aEO:ba X (compareOp .GtE) (k7 λi j=>.bl (decide (j<=i))):=VX λ_ _ _ _ _ _ _ q=>ge_int q
def aBK:ba X (compareOp .Is) (λx y H Q=>y=.non/\Q (.bl (decide (x=.non))) H):=by
 intro pins s V H x y v u Q I z R h;obtain⟨rfl,q⟩:=h;cases R;refine is_none_gen (dM I q ?_);cases x<;>first
  | (cases z;rfl)
  | (obtain⟨t,rfl⟩:=z;rfl)
def VN:ba X (compareOp .IsNot) (λx y H Q=>y=.non/\Q (.bl (!decide (x=.non))) H):=by
 intro pins s V H x y v u Q I z R h;obtain⟨rfl,q⟩:=h;cases R;refine isnot_none_gen (dM I q ?_);cases x<;>first
  | (cases z;rfl)
  | (obtain⟨t,rfl⟩:=z;rfl)
def aCa(b:Expr)(h:op≠.In:=by decide)(h2:op≠.NotIn:=by decide):behindInMarks op b=J:=by
 have e1:(op == CmpOp.In)=J:=by cases op<;>first|rfl|exact absurd rfl h
 have e2:(op == CmpOp.NotIn)=J:=by cases op<;>first|rfl|exact absurd rfl h2
 cases b<;>simp[behindInMarks,e1,e2]
def VG{r:R2}(ho:ba X (compareOp op) r)(ha:PE X a ta)(hb:PE X b tb)(hm:behindInMarks op b=J):PE X (.Compare a [op] [b] pos) (ka r ta tb):=by intro pins s V H Q I h;exact wpAny_Compare1 (aDm ha hb I h λv u s2 x y H2 I2 R z q=>ho pins s2 V H2 x y v u Q I2 R z q) hm
noncomputable def JI(t:TE):TT:=λV H Q=>t V H λx H'=>∃k,x=.bl k/\Q k H'
def DO{r:R2}(ho:ba X (compareOp op) r)(ha:PE X a ta)(hb:PE X b tb)(hm:behindInMarks op b=J):PT X (.Compare a [op] [b] pos) (JI (ka r ta tb)):=by intro pins s V H Q I h;refine wpAny_isTrue_Compare1 (ai (ha pins s V H _ I h) λv s1 ⟨x,H1,I1,r1,q1⟩=>ai (hb pins s1 V H1 _ I1 q1) λu s2 ⟨y,H2,I2,W,q2⟩=>ai (ho pins s2 V H2 x y v u _ I2 r1 W q2) λc s3 ⟨z,H3,I3,R,k,e,q3⟩=>?_) hm;subst e;cases R;exact wpAny_truthy_bool ⟨H3,I3,q3⟩
def AJ(r W:R2)(ta tb tc:TE):TE:=λV H Q=>ta V H λx H1=>tb V H1 λy H2=>r x y H2 λz I=>∃k,z=.bl k /\(if k=Y then tc V I λR H4=>W y R H4 Q else Q (.bl J) I)
def yD{R:CmpOp}{r r':R2}(ho:ba X (compareOp op) r)(ji:ba X (compareOp R) r')(ha:PE X a ta)(hb:PE X b tb)(hc:PE X c tc) (hm:lastMarks [op,R] [b,c]=J:=by with_unfolding_all rfl):PE X (.Compare a [op,R] [b,c] pos) (AJ r r' ta tb tc):=by
 intro pins s V H Q I h;refine Compare_chain (ai (ha pins s V H _ I h) λv s1 ⟨x,H1,I1,r1,q1⟩=>chain_link (ai (hb pins s1 V H1 _ I1 q1) λu s2 ⟨y,H2,I2,W,q2⟩=>ai (ho pins s2 V H2 x y v u _ I2 r1 W q2) λd s3 ⟨z,H3,I3,r3,k,e,q3⟩=>?_)) hm;subst e;cases r3;refine wpAny_truthy_bool ?_;cases k with
 |false=>exact ite_ff ⟨.bl J,H3,I3,rfl,q3⟩
 |true=>exact ite_tt (chain_last (ai (hc pins s3 V H3 _ I3 q3) λw' s4 ⟨z',H4,I4,r4,q4⟩=>ji pins s4 V H4 y z' u w' Q I4 W r4 q4))
def xZ{R:CmpOp}{r r':R2}(ho:ba X (compareOp op) r)(ji:ba X (compareOp R) r')(ha:PE X a ta)(hb:PE X b tb)(hc:PE X c tc) (hm:lastMarks [op,R] [b,c]=J:=by with_unfolding_all rfl):PT X (.Compare a [op,R] [b,c] pos) (JI (AJ r r' ta tb tc)):=by
 intro pins s V H Q I h;refine isTrue_chain (ai (ha pins s V H _ I h) λv s1 ⟨x,H1,I1,r1,q1⟩=>test_link (ai (hb pins s1 V H1 _ I1 q1) λu s2 ⟨y,H2,I2,W,q2⟩=>ai (ho pins s2 V H2 x y v u _ I2 r1 W q2) λd s3 ⟨z,H3,I3,r3,k,e,q3⟩=>?_)) hm;subst e;cases r3;refine wpAny_truthy_bool ?_;cases k with
 |false=>obtain⟨k',e',q'⟩:=q3;cases e';exact ite_ff ⟨H3,I3,q'⟩
 |true=>refine ite_tt (test_last (ai (hc pins s3 V H3 _ I3 q3) λw' s4 ⟨z',H4,I4,r4,q4⟩=>ai (ji pins s4 V H4 y z' u w' _ I4 W r4 q4) λd' s5 ⟨z2,H5,I5,r5,k2,e2,q5⟩=>?_));subst e2;cases r5;exact wpAny_truthy_bool ⟨H5,I5,q5⟩
def aDo(K:xx)(x:σ)(H:Hp)(k:Bool):Prop:=
 match x with
 |.non=>k=J
 |.bl b=>k=b
 |.int i=>k=(i != 0)
 |.str y=>y.length<=sizeLine/\k=((y.length:Int) != 0)
 |.byt y=>y.size<=sizeLine/\k=((y.size:Int) != 0)
 |.ref p=>(∃xs,SqL K H p xs/\k=!xs.isEmpty)\/(∃xs,SqT K H p xs/\k=!xs.isEmpty)\/∃kvs,H p=O (.dK kvs)/\k=!kvs.isEmpty
 |_=>False
def BR{κ:Type}{kvs:List (κ×σ)}{vs:List (κ×Value)}(r:KV kvs vs):(!vs.isEmpty)=!kvs.isEmpty:=by cases r<;>rfl
def qK{xs:List σ}{its:List Value}(r:aX xs its):(!its.toArray.isEmpty)=!xs.isEmpty:=by cases r<;>simp
def lR:(sizeLine:Nat)<2 ^ 63:=by rw[sizeLine_eq];decide
def JG:aHd X (λx H Q=>∃k,aDo X.K x H k/\Q k H):=by
 intro pins s V H x v Q I R h;obtain⟨k,e,q⟩:=h;have hl:=lR;have hs:sizeLine=16777216:=sizeLine_eq;cases x with
 |non=>cases R;have e':k=J:=e;subst e';exact truthy_none ⟨H,I,q⟩
 |bl b=>cases R;have e':k=b:=e;subst e';exact wpAny_truthy_bool ⟨H,I,q⟩
 |int i=>obtain⟨t,rfl⟩:=R;have e':k=(i != 0):=e;subst e';exact PySem.P.truthy_int ⟨H,I,q⟩
 |str y=>obtain⟨t,rfl⟩:=R;obtain⟨hy,e'⟩:y.length<=sizeLine/\k=((y.length:Int) != 0):=e;subst e';exact PySem.P.truthy_str (by lia) ⟨H,I.tok _,q⟩
 |byt y=>obtain⟨t,rfl⟩:=R;obtain⟨hy,e'⟩:y.size<=sizeLine/\k=((y.size:Int) != 0):=e;subst e';exact PySem.W.truthy_bytes (by lia) ⟨H,I.tok _,q⟩
 |ref p=>cases R;have e':(∃xs,SqL X.K H p xs/\k=!xs.isEmpty)\/(∃xs,SqT X.K H p xs/\k=!xs.isEmpty)\/∃kvs,H p=O (.dK kvs)/\k=!kvs.isEmpty:=e;rcases e' with ⟨xs,hx,e'⟩|⟨xs,hx,e'⟩|⟨kvs,hx,e'⟩;subst e';obtain⟨its,r,pl,hz⟩:=I.list hx;have z:=r.length;exact wpAny_truthy_list pl.isList (by simp only[v9];lia) ⟨H,I.tok _,by rw[qK r];exact q⟩;subst e';obtain⟨its,r,pl,hz⟩:=I.tuple hx;have z:=r.length;exact truthy_tuple pl (by simp only[v9];lia) ⟨H,I.tok _,by rw[qK r];exact q⟩;subst e';obtain⟨hz,hS,vs,r,m⟩:kvs.length<=sizeLine/\(p == sysModules)=J/\∃vs,KV kvs vs/\s.heap.DictOf (bX X.prog X.w) p vs:=I.hok p _ hx;have z:kvs.length=vs.length:=Paired.length r;exact wpAny_truthy_dict hS m (by lia) ⟨H,I.tok _,by rw[BR r];exact q⟩
 |_=>exact(show False from e).elim
def KN(ha:PE X a ta)(he:∀z,isTrue a X.env z=(do let v <-z;standAt a.pos;holding [v] (truthy v))):PT X a (λV H Q=>ta V H λx H'=>∃k,aDo X.K x H' k/\Q k H'):=by intro pins s V H Q I h;exact isTrue_plain (ai (ha pins s V H _ I h) λv s1 ⟨x,H1,I1,R,W⟩=>JG pins s1 V H1 x v Q I1 R W) (he _)
def BA:ba X (binaryOp .Add) (λx y H Q=>∃i j,x=.str i/\y=.str j/\i.length+j.length<=sizeLine/\Q (.str (i++j)) H):=by intro pins s V H x y v u Q I R z h;obtain⟨i,j,rfl,rfl,hz,q⟩:=h;obtain⟨t,rfl⟩:=R;obtain⟨t',rfl⟩:=z;exact add_str (λt' tk=>⟨.str (i++j),H,I.tok _,⟨_,rfl⟩,q⟩) hz
def vals1{x:σ}(r:aX [x] us):∃u,us=[u]/\RelV x u:=by
 cases r with
 |cons I z=>cases z;exact⟨_,rfl,I⟩
def vals2{x y:σ}(r:aX [x,y] us):∃u z,us=[u,z]/\RelV x u/\RelV y z:=by
 cases r with
 |cons r1 W=>
  cases W with
  |cons R I=>cases I;exact⟨_,_,rfl,r1,R⟩
def IR(hc:X.calm=Y):eW X (.builtin "max") (λxs H Q=>∃i j,xs=[.int i,.int j]/\Q (.int (if j > i then j else i)) H):=by intro pins s V H xs us Q I r h;obtain⟨i,j,rfl,q⟩:=h;obtain⟨u,R,rfl,⟨t,rfl⟩,⟨t',rfl⟩⟩:=vals2 r;refine max_two_ints (I.ok.hd hc) λh' tk k=>⟨_,H,I.kept k,?_,q⟩;by_cases z:j > i;rw[if_pos z,if_pos z];exact⟨_,rfl⟩;rw[if_neg z,if_neg z];exact⟨_,rfl⟩
def IQ(hc:X.calm=Y):eW X (.builtin "min") (λxs H Q=>∃i j,xs=[.int i,.int j]/\Q (.int (if j<i then j else i)) H):=by intro pins s V H xs us Q I r h;obtain⟨i,j,rfl,q⟩:=h;obtain⟨u,R,rfl,⟨t,rfl⟩,⟨t',rfl⟩⟩:=vals2 r;refine min_two_ints (I.ok.hd hc) λh' tk k=>⟨_,H,I.kept k,?_,q⟩;by_cases z:j<i;rw[if_pos z,if_pos z];exact⟨_,rfl⟩;rw[if_neg z,if_neg z];exact⟨_,rfl⟩
def uE:eW X (.type "int") (λxs H Q=>(∃i,xs=[.int i]/\Q (.int i) H)\/∃k,xs=[.bl k]/\Q (.int (if k then 1 else 0)) H):=by intro pins s V H xs us Q I r h;rcases h with ⟨i,rfl,q⟩|⟨k,rfl,q⟩;obtain⟨u,rfl,t,rfl⟩:=vals1 r;exact call_int_int ⟨.int i,H,I,⟨_,rfl⟩,q⟩;obtain⟨u,rfl,z⟩:=vals1 r;cases z;exact call_int_bool ⟨.int (if k then 1 else 0),H,I.tok _,⟨_,rfl⟩,q⟩
end
structure ObjM (h:Heap) (x dx C:Addr) (mA:yb):Prop where
 obj:h.get? x=O (instObj C dx)
 ns:h.Ns1 dx mA
 ne:dx≠x
def HK{dx:Addr}{mA:yb}(n:h.Ns1 dx mA):∃od,h.get? dx=O od/\∀name,lookIn name od=O (mA name):=by
 obtain⟨o,es,ep,ho,hd,hk,_,hm⟩:=n;refine⟨o,ho,λname=>?_⟩;have e:=hm name;unfold nsFind findBy at e;rw[<-Array.find?_toList]at e;unfold lookIn;rw[hd];dsimp only;split;rename_i y q;rw[q]at e;exact congrArg O e;rename_i q;rw[q]at e;have a:es.toList.any (·.refKey)=J:=by rw[List.any_eq_false];intro y hy;obtain⟨z,t,I⟩:=hk y (Array.mem_toList_iff.mp hy);simp[DictEntry.refKey,I]
 have a':¬es.toList.any (·.refKey)=Y:=by rw[a];exact vf
 rw[if_neg a'];exact congrArg O e
def ObjM.look{x dx:Addr}{mA:yb}(I:ObjM h x dx C mA):∃od,PySem.W.InstAt h x (instObj C dx) C (O od)/\∀name,lookIn name od=O (mA name):=
 let ⟨od,ho,hl⟩:=HK I.ns
 ⟨od,⟨I.obj,rfl,rfl,ho⟩,hl⟩
section
variable {prog:y8}{w:World}{A:Around}{E:y9}{s:Shared}{K:xx}{x dx C f:Addr}{mA:yb}{name:Str}{v:Value}
def get_map{z:Bool}(X:K.In s.heap)(I:ObjM s.heap x dx C mA)(hg:plainGet K C name=Y)(hh:hasDictIn K C=Y) (ha:findIn K (.ref C) name=O U) (hv:mA name=O v) (R:handedIn v=Y) (h:Q v {s with toks:=s.toks+1}):wpAny (model prog w) A (getAttr (.ref x) name z) Q E s:=by obtain⟨od,æ,hl⟩:=I.look;exact PySem.W.get_value X æ (plainGet_of hg).1 (PySem.W.findObj_own hh ha rfl (by rw[hl,hv])) R h
def NQ{pl:Sem Bool}{Q:Value×List Value->Shared->Prop}(X:K.In s.heap)(I:ObjM s.heap x dx C mA)(hg:plainGet K C name=Y) (hf:findIn K (.ref C) name=O (O (.ref f))) (z:isFn K (.ref f)=Y) (hv:mA name=U) (h:Q (.ref f,[.ref x]) s):wpAny (model prog w) A (getMethod (.ref x) name pl) Q E s:=by obtain⟨od,æ,hl⟩:=I.look;exact PySem.W.method_fn X æ (plainGet_of hg).1 (plainGet_of hg).2 hf (wb.mp z) (by show (lookIn name od).map (·.isSome)=O J;rw[hl,hv];rfl) h
def SW{ns:List Str}{Q:Unit->Shared->Prop}(X:K.In s.heap)(I:ObjM s.heap x dx C mA) (hs:findIn K (.ref C) "__setattr__"=O (O (.builtin "object.__setattr__"))) (hp:plainOver K C=Y) (ht:takerIn K C name=O U) (hh:hasDictIn K C=Y) (hw:PySem.Within mA ns) (hsz:ns.length<=sizeLine) (h:∀h',ObjM h' x dx C (λy=>if y=name then O v else mA y)->Heap.SameBut dx s.heap h'->Q () {s with heap:=h',toks:=s.toks+2}):wpAny (model prog w) A (setAttr (.ref x) name v) Q E s:=by obtain⟨od,æ,hl⟩:=I.look;refine PySem.W.set_plain X æ hs (PySem.W.osa_open (s:={s with toks:=s.toks+1}) (r:=U) X æ hp ht λb=>?_);obtain⟨cd,hc,hd'⟩:=PySem.W.any_some hh;have hx:s.heap.get? x=O ⟨.ref C,O dx,.plain,#[]⟩:=I.obj;refine wt (wu (wt (wt (wpAny_loadPart hx (wt (PySem.W.Looks.here (s:={s with toks:=s.toks+1}) (PySem.W.looks_clsIn X hc) ?_))))));rw[hd'];refine wu (a:=O dx) (wt (wu (wt ?_)));refine wpAny_nsSet1 (s:={s with toks:=s.toks+1}) I.ns λh' lj ij=>?_;obtain⟨oD,esD,epD,z,R,hcD⟩:=lj.count (PySem.Within.cons name v hw);refine wt (wpAny_lookBehind z (by rw[R];exact pastItsLine_dict (vm hcD (by rw[xb];lia))) ?_);exact wu (h _ ⟨(ij.2 _ (Ne.symm I.ne)).trans I.obj,lj,I.ne⟩ ij)
def MJ{R:Result->Shared->Prop}{vs:List Value}(X:K.In s.heap)(hm:makesIn K C=Y) (hi:findIn K (.ref C) "__init__"=O (O (.ref f))) (hf:PySem.W.typeIn K (.ref f)=O (.type "function")) (h:codeAny (model prog w) (A.under (.builtin "type.__call__" ⟨.ref C::vs,kw⟩)) (.call (.ref f) ⟨.ref (s.heap.objs.size+1)::vs,kw⟩) (PySem.W.InitBack (s.heap.objs.size+1) R) {s with heap:=(s.heap.push emptyDict).push (instObj C s.heap.objs.size)}):codeAny (model prog w) A (.call (.ref C) ⟨vs,kw⟩) R s:=by obtain⟨z,g,d,t,os⟩:=s;exact PySem.W.make_core (PySem.W.makes_of X hm) (PySem.W.looks_findIn X hi) (λself=>PySem.W.bind_fn X self hf) (.inl rfl) h
end
noncomputable def jQ(f:Str)(v:σ):List (Str×σ)->List (Str×σ)
 |[]=>[(f,v)]
 | (g,x)::r=>if g=f then(g,v)::r else(g,x)::jQ f v r
theorem oO(f g:Str)(v:σ):∀fs:List (Str×σ),(jQ f v fs).lookup g=if g=f then O v else fs.lookup g
 |[]=>by show List.lookup g [(f,v)]=_;by_cases h:g=f;have hb:(g == f)=Y:=wb.mpr h;simp only[List.lookup,hb,if_pos h];have hb:(g == f)=J:=wg.mpr h;simp only[List.lookup,hb,if_neg h]
 | (k,x)::r=>by have z:=oO f g v r;rw[show jQ f v ((k,x)::r)=(if k=f then(k,v)::r else(k,x)::jQ f v r) from rfl];by_cases hk:k=f;rw[if_pos hk];by_cases h:g=k;have hb:(g == k)=Y:=wb.mpr h;simp only[List.lookup,hb,if_pos (h.trans hk)];have hb:(g == k)=J:=wg.mpr h;simp only[List.lookup,hb,if_neg (λe:g=f=>h (e.trans hk.symm))];rw[if_neg hk];by_cases h:g=k;have hb:(g == k)=Y:=wb.mpr h;simp only[List.lookup,hb,if_neg (λe:g=f=>hk (h.symm.trans e))];have hb:(g == k)=J:=wg.mpr h;simp only[List.lookup,hb];exact z
theorem nM(f:Str)(v:σ):∀fs:List (Str×σ),f∈(jQ f v fs).map (·.1)/\∀g,g∈fs.map (·.1)->g∈(jQ f v fs).map (·.1)
 |[]=>⟨by simp[jQ],λg h=>by simp at h⟩
 | (k,x)::r=>by obtain⟨I,z⟩:=nM f v r;rw[show jQ f v ((k,x)::r)=(if k=f then(k,v)::r else(k,x)::jQ f v r) from rfl];by_cases hk:k=f;rw[if_pos hk];subst hk;exact⟨Ab,λg h=>by simpa using h⟩;rw[if_neg hk];refine⟨?_,λg h=>?_⟩;rw[vz];exact v8 _ I;rw[vz]at h ⊢;rcases vo.mp h with e|e;exact vo.mpr (.inl e);exact v8 _ (z g e)
theorem oQ(f:Str)(v:σ):∀fs:List (Str×σ),(jQ f v fs).length<=fs.length+1
 |[]=>by simp[jQ]
 | (k,x)::r=>by have z:=oQ f v r;rw[show jQ f v ((k,x)::r)=(if k=f then(k,v)::r else(k,x)::jQ f v r) from rfl];by_cases hk:k=f;rw[if_pos hk,xb,xb];lia;rw[if_neg hk,xb,xb];lia
def jM.some_of{v:σ}{o:Option Value}(r:jM (O v) o):∃u,o=O u/\RelV v u:=by
 cases o with
 |none=>exact(show False from r).elim
 |some u=>exact⟨u,rfl,r⟩
def jM.none_of{o:Option Value}(r:jM U o):o=U:=by
 cases o with
 |none=>rfl
 |some u=>exact(show False from r).elim
def HX{v:σ}(r:RelV v u):handedIn u=Y:=by
 cases v with
 |non=>cases (show u=Value.none from r);rfl
 |bl b=>cases (show u=Value.bool b from r);rfl
 |int i=>obtain⟨t,e⟩:=(show ∃t,u=Value.int i t from r);cases e;rfl
 |str x=>obtain⟨t,e⟩:=(show ∃t,u=Value.str x t from r);cases e;rfl
 |byt b=>obtain⟨t,e⟩:=(show ∃t,u=Value.bytes b t from r);cases e;rfl
 |flt b=>obtain⟨t,e⟩:=(show ∃t,u=Value.float b t from r);cases e;rfl
 |ref a=>cases (show u=Value.ref a from r);rfl
 |ty n=>cases (show u=Value.type n from r);rfl
section
variable {P:y8}{w:World}{H H':Hp}{h h':Heap}{a C dx:Addr}{fs fs':List (Str×σ)}
def pJ(hok:HOk P w H h)(e:H a=O (.ins C dx fs)):∃mA,ObjM h a dx C mA/\(∀f,jM (fs.lookup f) (mA f))/\PySem.Within mA (fs.map (·.1))/\fs.length<=1000/\H dx=O (.own a):=by obtain⟨d,z,ne,I,mA,n,r,q⟩:=(show cY P w H h a (.ins C dx fs) from hok a _ e);exact⟨mA,⟨I,n,ne⟩,r,q,z,d⟩
end
structure Cls (K:xx) (C:Addr):Prop where
 pg:plainGet K C Str.empty=Y
 hd:hasDictIn K C=Y
 po:plainOver K C=Y
 sa:findIn K (.ref C) "__setattr__"=O (O (.builtin "object.__setattr__"))
def Cls.get(c:Cls K C)(f:Str):plainGet K C f=Y:=c.pg
def eV(K:xx)(C:Addr)(f:Str):Prop:=findIn K (.ref C) f=O U
def eV.taker{f:Str}(n:eV K C f):takerIn K C f=O U:=by unfold takerIn;rw[show findIn K (.ref C) f=O U from n];rfl
structure Con (K:xx) (C:Addr) (f:Str) (v:σ) (u:Value):Prop where
 at_:findIn K (.ref C) f=O (O u)
 rel:RelV v u
 get:specialIn K u "__get__"=O U
 cp:PySem.W.copiedNames.contains f=J
structure jr (K:xx) (C:Addr) (m:Str) (f:Addr):Prop where
 at_:findIn K (.ref C) m=O (O (.ref f))
 fn:isFn K (.ref f)=Y
 kp:keepIn K (.ref f)=Y
section
variable {X:Cx}{pins:ya}{V:St}{H:Hp}{s:Shared}{a C dx:Addr}{fs:List (Str×σ)}{f:Str}{v:σ}{A:Around}{E:y9}
def CA{b:Bool}(I:Inv X pins V H s)(e:H a=O (.ins C dx fs))(c:Cls X.K C)(n:eV X.K C f)(l:fs.lookup f=O v) (h:∀u s',Inv X pins V H s'->RelV v u->Q u s'):wpAny (model X.prog X.w) A (getAttr (.ref a) f b) Q E s:=by obtain⟨mA,z,r,_,_,_⟩:=pJ I.hok e;obtain⟨u,hu,ru⟩:=jM.some_of (v:=v) (o:=mA f) (by rw[<-l];exact r f);exact get_map I.kIn z (c.get f) c.hd n hu (HX ru) (h u _ (I.tok _) ru)
def qW{m:Str}{g:Addr}{pl:Sem Bool}{Q:Value×List Value->Shared->Prop}(I:Inv X pins V H s)(e:H a=O (.ins C dx fs))(c:Cls X.K C)(k:jr X.K C m g)(l:fs.lookup m=U) (h:Q (.ref g,[.ref a]) s):wpAny (model X.prog X.w) A (getMethod (.ref a) m pl) Q E s:=by obtain⟨mA,z,r,_,_,_⟩:=pJ I.hok e;have hn:mA m=U:=jM.none_of (by rw[<-l];exact r m);exact NQ I.kIn z (c.get m) k.at_ k.fn hn h
def AN{y:σ}{Q:Unit->Shared->Prop}(I:Inv X pins V H s)(e:H a=O (.ins C dx fs))(c:Cls X.K C)(n:eV X.K C f)(hl:fs.length<1000)(ry:RelV y u) (h:∀s',Inv X pins V (upd H a (.ins C dx (jQ f y fs))) s'->Q () s'):wpAny (model X.prog X.w) A (setAttr (.ref a) f u) Q E s:=by
 obtain⟨mA,R,r,wi,_,ho⟩:=pJ I.hok e;have hz:(fs.map (·.1)).length<=sizeLine:=by rw[uw,sizeLine_eq];lia
 refine SW I.kIn R c.sa c.po n.taker c.hd wi hz λh' W sb=>h _ ?_;have hd:∃o,h'.get? dx=O o:=let ⟨o,_,_,e',_⟩:=W.ns;⟨o,e'⟩
 refine I.write (x:=a) (e:=dx) (by rw[e];exact True.intro) (.inr ho) (λb q hb z=>(sb.2 b hb).trans z) hd ?_;refine⟨by rw[aK R.ne];exact ho,?_,R.ne,W.obj,_,W.ns,λg=>?_,λg hg=>?_⟩;have:=oQ f y fs;lia;show jM ((jQ f y fs).lookup g) (if g=f then O u else mA g);rw[oO];by_cases q:g=f;rw[if_pos q,if_pos q];exact ry;rw[if_neg q,if_neg q];exact r g;by_cases q:g=f;rw[q];exact(nM f y fs).1;refine(nM f y fs).2 g (wi g λz=>hg ?_);show (if g=f then O u else mA g)=U;rw[if_neg q];exact z
def Inv.made(I:Inv X pins V H s):Inv X pins V (upd (upd H s.heap.objs.size (.own (s.heap.objs.size+1))) (s.heap.objs.size+1) (.ins C s.heap.objs.size [])) {s with heap:=(s.heap.push emptyDict).push (instObj C s.heap.objs.size)}:=by
 have e1:(s.heap.push emptyDict).get? s.heap.objs.size=O emptyDict:=wy s.heap rfl;have e2:((s.heap.push emptyDict).push (instObj C s.heap.objs.size)).get? (s.heap.objs.size+1)=O (instObj C s.heap.objs.size):=by have:=wy (s.heap.push emptyDict) (o:=instObj C s.heap.objs.size) rfl;rwa [size_push]at this
 have e3:(s.heap.push emptyDict).Ns s.heap.objs.size (λ_=>U):=⟨emptyDict,#[],_,e1,rfl,(λe he=>absurd he Ab),λ_=>rfl⟩;have I1:=I.laid (a:=s.heap.objs.size) (o:=.own (s.heap.objs.size+1)) (h':=s.heap.push emptyDict) (t':=s.toks) (λb u q=>v3 _ q) (ux _) ⟨_,e1⟩;refine I1.laid (a:=s.heap.objs.size+1) (o:=.ins C s.heap.objs.size []) (t':=s.toks) (λb u q=>v3 _ q) (Nat.le_of_eq (size_push _ _)) ?_;have ne:s.heap.objs.size≠s.heap.objs.size+1:=wj (x9 _);refine⟨by rw[aK ne,aL],xq _,ne,e2,λ_=>U,(Heap.Ns1.of_empty e3).at λo q=>v3 _ q,λ_=>True.intro,λy hy=>absurd rfl hy⟩
def YO{prog:y8}{env:Env}{f:Str}(hb:attributeBase e f env (eval e env)=eval e env) (h:wpAny (model prog w) A (eval e env) (λo z=>wpAny (model prog w) A (getAttr o f Y) Q E z) E s):wpAny (model prog w) A (eval (.Attribute e f pos) env) Q E s:=Attribute_any_ h (by rw[arm_eval_Attribute,hb])
end
def aGB(K:xx)(ta:TE)(f:Str):TE:=λV H Q=>ta V H λx H1=>∃a C dx fs v,x=.ref a/\H1 a=O (.ins C dx fs)/\Cls K C/\eV K C f/\fs.lookup f=O v/\Q v H1
def aGD(K:xx)(ta tv:TE)(f:Str):TS:=λD V H=>tv V H λy H1=>ta V H1 λx H2=>∃a C dx fs,x=.ref a/\H2 a=O (.ins C dx fs)/\Cls K C/\eV K C f/\fs.length<1000 /\D.nx V (upd H2 a (.ins C dx (jQ f y fs)))
section
variable {X:Cx}{o e value:Expr}{f:Str}{pos pos' tpos:Pos}{ta tv:TE}
def aBD(he:PE X e ta)(hb:attributeBase e f X.env (eval e X.env)=eval e X.env):PE X (.Attribute e f pos) (aGB X.K ta f):=by intro pins s V H Q I h;refine YO hb (ai (he pins s V H _ I h) λu s1 ⟨x,H1,I1,z,a,C,dx,fs,v,ex,ea,c,n,l,q⟩=>?_);subst ex;obtain rfl:u=Value.ref a:=z;exact CA I1 ea c n l λR s2 I2 ru=>⟨v,H1,I2,ru,q⟩
def aBw(ha:PE X o ta)(hv:PE X value tv)(hs:swapsWith value (O (.Attribute o f pos')) pos.line X.env=pure J):PS X (.Assign [.Attribute o f pos'] value pos) (aGD X.K ta tv f):=by intro pins s V H D I h;refine plainObj_wpAny_Assign_Attribute (ai (hv pins s V H _ I h) λu s1 ⟨y,H1,I1,z,q⟩=>ai (ha pins s1 V H1 _ I1 q) λW s2 ⟨x,H2,I2,R,a,C,dx,fs,ex,ea,c,n,l,q2⟩=>?_) hs;subst ex;obtain rfl:W=Value.ref a:=R;exact AN I2 ea c n l z λs3 I3=>⟨V,_,I3,q2⟩
end
section
variable {X:Cx}{pins:ya}{V:St}{H:Hp}{s:Shared}{A:Around}{E:y9}{Q:y9}{c:Value}{b:Bool}
inductive cq (K:xx) (H:Hp):σ->Value->Prop where
 |non:cq K H .non (.type "NoneType")
 |bl (x:Bool):cq K H (.bl x) (.type "bool")
 |int (i:Int):cq K H (.int i) (.type "int")
 |str (x:Str):cq K H (.str x) (.type "str")
 |flt (x:UInt64):cq K H (.flt x) (.type "float")
 |lst {a:Addr} {xs:List σ} (e:H a=O (.lst xs)):cq K H (.ref a) (.type "list")
 |frz {a:Addr} {o:Obj} {xs:List σ} (e:H a=O (.frz o (.lst xs))):cq K H (.ref a) (.type "list")
 |tup {a:Addr} {xs:List σ} (e:H a=O (.tup xs)):cq K H (.ref a) (.type "tuple")
 |dK {a:Addr} {kvs:List (Key×σ)} (e:H a=O (.dK kvs)):cq K H (.ref a) (.type "dict")
 |dT {a:Addr} {kvs:List (List Key×σ)} (e:H a=O (.dT kvs)):cq K H (.ref a) (.type "dict")
 |ins {a C dx:Addr} {fs:List (Str×σ)} (e:H a=O (.ins C dx fs)) (cl:Cls K C) (ha:findIn K (.ref C) "__class__"=O (O (.builtin "object.__class__")))
   (hn:specialIn K (.builtin "object.__class__") "__get__"=O (O (.builtin "getset_descriptor.__get__"))) (o8:takesIn K (.builtin "object.__class__")=O Y)
   (hm:mroIn K C (.type "object")=O Y):cq K H (.ref a) (.ref C)
def iK{x:σ}{t:Value}(I:Inv X pins V H s)(R:RelV x u)(ty:cq X.K H x t)(e:kitOne X.K t c=O b)(h:∀tk,Q (.bool b) {s with toks:=tk}):wpAny (model X.prog X.w) A (call (.builtin "isinstance") [u,c]) Q E s:=by
 cases ty with
 |non=>cases (show u=Value.none from R);exact kia_one PySem.W.kitx_none I.kIn True.intro e (λz=>nomatch z) h
 |bl y=>cases (show u=Value.bool y from R);exact kia_one PySem.W.kitx_bool I.kIn True.intro e (λz=>nomatch z) h
 |int i=>obtain⟨t,q⟩:=(show ∃t,u=Value.int i t from R);cases q;exact kia_one PySem.W.kitx_int I.kIn True.intro e (λz=>nomatch z) h
 |str y=>obtain⟨t,q⟩:=(show ∃t,u=Value.str y t from R);cases q;exact kia_one PySem.W.kitx_str I.kIn True.intro e (λz=>nomatch z) h
 |flt y=>obtain⟨t,q⟩:=(show ∃t,u=Value.float y t from R);cases q;exact kia_one PySem.W.kitx_float I.kIn True.intro e (λz=>nomatch z) h
 | @lst a xs ea=>cases (show u=Value.ref a from R);obtain⟨_,_,n,_,h1⟩:=(show cY X.prog X.w H s.heap a (.lst xs) from I.hok a _ ea);exact kia_one kitx_list I.kIn ⟨_,h1,rfl⟩ e (λz=>nomatch z) h
 | @frz a ob xs ea=>cases (show u=Value.ref a from R);obtain⟨_,_,_,n,_,h1⟩:=(show cY X.prog X.w H s.heap a (.frz ob (.lst xs)) from I.hok a _ ea);exact kia_one kitx_list I.kIn ⟨_,h1,rfl⟩ e (λz=>nomatch z) h
 | @tup a xs ea=>cases (show u=Value.ref a from R);obtain⟨_,_,_,p⟩:=(show cY X.prog X.w H s.heap a (.tup xs) from I.hok a _ ea);obtain⟨o,h1,h2,_⟩:=p;exact kia_one PySem.W.kitx_tuple I.kIn ⟨o,h1,h2⟩ e (λz=>nomatch z) h
 | @dK a kvs ea=>cases (show u=Value.ref a from R);obtain⟨_,_,vs,_,p⟩:=(show cY X.prog X.w H s.heap a (.dK kvs) from I.hok a _ ea);obtain⟨o,es,ep,h1,h2,_⟩:=p;exact kia_one kitx_dict I.kIn ⟨o,h1,h2.1⟩ e (λz=>nomatch z) h
 | @dT a kvs ea=>cases (show u=Value.ref a from R);obtain⟨_,_,xs,_,o,es,ep,h1,h2,_⟩:=(show cY X.prog X.w H s.heap a (.dT kvs) from I.hok a _ ea);exact kia_one kitx_dict I.kIn ⟨o,h1,h2.1⟩ e (λz=>nomatch z) h
 | @ins a C dx fs ea cl ha hn o8 hm=>cases (show u=Value.ref a from R);obtain⟨mA,ø,_⟩:=pJ I.hok ea;obtain⟨od,æ,_⟩:=ø.look;exact kia_one (PySem.W.kitx_own (cl.get _) cl.hd ha hn o8 hm) I.kIn æ e (λz=>nomatch z) h
end
structure Room (k:Nat) (A:Around):Prop where
 hd:A.handled=U
 dp:A.depth+3*k+5<recursionLimit
 un:A.units+16*k+200<cLine
def Room.mono{j k:Nat}(r:Room k A)(h:j<=k):Room j A:=⟨r.hd,by have:=r.dp;lia,by have:=r.un;lia⟩
theorem Room.deeper{k:Nat}(r:Room (k+1) A)(env:Env):Room k (A.deeper env):=⟨r.hd,by have:=r.dp;show A.depth+1+3*k+5<_;lia,by have:=r.un;show A.units+3+16*k+200<_;lia⟩
def BL:(A.under (.builtin "type.__call__" ⟨.ref C::us,kw⟩)).depth=A.depth+1:=by first|rfl|simp[Around.under,Code.weight,Code.isCreation,Code.isGuard,Code.isCaller,Code.frames,Code.isFrame,guardIds]
def BK:(A.under (.builtin "type.__call__" ⟨.ref C::us,kw⟩)).units=A.units+1:=by first|rfl|simp[Around.under,Code.cUnits,Code.frames,Code.isFrame]
def Room.make{k:Nat}(r:Room (k+1) A)(C:Addr)(us:List Value)(kw:List (Str×Value)):Room k (A.under (.builtin "type.__call__" ⟨.ref C::us,kw⟩)):=⟨r.hd,by have:=r.dp;rw[BL];lia,by have:=r.un;rw[BK];lia⟩
theorem Room.depth{k:Nat}(r:Room k A):A.depth<recursionLimit:=by have:=r.dp;lia
theorem Room.units{k:Nat}(r:Room k A):A.units+64<cLine:=by have:=r.un;lia
def JJ:TA:=λ_ H Q=>Q [] H
def jT(ta:TE)(tr:TA):TA:=λV H Q=>ta V H λx H1=>tr V H1 λxs H2=>Q (x::xs) H2
section
variable {X:Cx}{e:Expr}{es:List Expr}{te:TE}{t:TA}{pos:Pos}
def cP:PA X [] JJ:=λ_ _ _ _ H Q I h=>Calls.spliced_nil ⟨[],H,I,.nil,h⟩
def aW(ha:PE X e te)(hr:PA X es t)(hs:starEach (e::es) X.env=(J,eval e X.env)::starEach es X.env:=by rfl):PA X (e::es) (jT te t):=by intro pos pins s V H Q I h;rw[hs];show wpAny _ _ (spliced ((J,eval e X.env)::backTo pos (starEach es X.env))) _ _ s;refine Calls.spliced_cons (ai (ha pins s V H _ I h) λu s1 ⟨x,H1,I1,R,W⟩=>?_);exact ai (hr pos pins s1 V H1 _ I1 W) λus s2 ⟨xs,H2,I2,z,q2⟩=>⟨x::xs,H2,I2,.cons R z,q2⟩
def aGw(t:TA):TE:=λV H Q=>t V H λxs H1=>xs.length<=sizeLine/\∀p,H1 p=U->Q (.ref p) (upd H1 p (.tup xs))
def aDW(t:TA):TE:=λV H Q=>t V H λxs H1=>xs.length<=sizeLine/\∀p,H1 p=U->Q (.ref p) (upd H1 p (.lst xs))
def LA{x1}(h:PA X es t):PE X (.Tuple es x1 pos) (aGw t):=by intro pins s V H Q I hq;refine wpAny_Tuple_spliced (ai (h pos pins s V H _ I hq) λus s1 ⟨xs,H1,I1,r,z,q⟩=>⟨by rw[<-r.length];exact z,?_⟩);have hf:H1 s1.heap.objs.size=U:=I1.hok.fresh (ux _);refine⟨.ref s1.heap.objs.size,upd H1 s1.heap.objs.size (.tup xs),I1.laid (t':=s1.toks) (λb u e=>v3 _ e) (ux _) ?_,rfl,q _ hf⟩;exact⟨z,us,r,⟨_,wy _ rfl,rfl,_,rfl⟩⟩
def vD(h:PA X es t):PE X (.List es pos) (aDW t):=by intro pins s V H Q I hq;refine wpAny_List_spliced (ai (h pos pins s V H _ I hq) λus s1 ⟨xs,H1,I1,r,z,q⟩=>⟨by rw[<-r.length];exact z,?_⟩);have hf:H1 s1.heap.objs.size=U:=I1.hok.fresh (ux _);refine⟨.ref s1.heap.objs.size,upd H1 s1.heap.objs.size (.lst xs),I1.laid (t':=s1.toks) (λb u e=>v3 _ e) (ux _) ?_,rfl,q _ hf⟩;exact⟨z,us,0,r,wy _ rfl⟩
end
abbrev Sp:=List σ->Hp->VK->XK->Prop
abbrev aq:=List Env->Hp->Shared->XK->Value->Shared->Prop
structure Env0 (P:y8) (w:World) (K:xx) (mg:yb) (base:Heap) (A:Around) (outer:List Env) (s:Shared) (H:Hp):Prop where
 frames:A.frames=O outer
 mod:Mod K mg base
 bs:∀b o,base.get? b=O o->s.heap.get? b=O o/\H b=U
 bsz:base.objs.size<=s.heap.objs.size
 funs:s.heap.FunFrames base outer
 frf:∀b∈frs outer,H b=U
 hok:HOk P w H s.heap
 bare:AllBare s.gens
def CE(outer:List Env)(P:y8)(w:World)(H:Hp)(s:Shared)(Q:VK)(u:Value)(s':Shared):Prop:=∃v H',s'.os=s.os/\AllBare s'.gens/\Un (frs outer) [] H H' s.heap s'.heap/\HOk P w H' s'.heap/\RelV v u/\Q v H'
def CR(CX:aq)(outer:List Env)(P:y8)(w:World)(H:Hp)(s:Shared)(Q:VK)(E:XK)(r:Result)(s':Shared):Prop:=
 match r with
 |.ok (.ret u)=>CE outer P w H s Q u s'
 |.ok _=>False
 |.error e=>CX outer H s E e s'
structure FnOk (P:y8) (w:World) (K:xx) (mg:yb) (base:Heap) (CX:aq) (k:Nat) (f:Addr) (fd:y7) (ps:List Str) (sp:Sp):Prop where
 len:∀vs H Q E,sp vs H Q E->vs.length=ps.length
 run:∀(A:Around) (outer:List Env) (s:Shared) (H:Hp) (args:Args) (us:List Value) (vs:List σ) (Q:VK) (E:XK),Room k A->Env0 P w K mg base A outer s H->BindsTo s fd args (ps.zip us)->aX vs us->sp vs H Q E ->
  codeAny (model P w) A (.call (.ref f) args) (CR CX outer P w H s Q E) s
theorem FnOk.mono{CX:aq}{j k:Nat}{f:Addr}{sp:Sp}(F:FnOk P w K mg base CX j f fd ps sp)(h:j<=k):FnOk P w K mg base CX k f fd ps sp:=⟨F.len,λA outer s H args us vs Q E hr=>F.run A outer s H args us vs Q E (hr.mono h)⟩
def FnOk.imp{CX:aq}{k:Nat}{f:Addr}{sp z:Sp}(F:FnOk P w K mg base CX k f fd ps sp) (h:∀vs H Q E,z vs H Q E->sp vs H Q E):FnOk P w K mg base CX k f fd ps z:=⟨λvs H Q E q=>F.len vs H Q E (h _ _ _ _ q),λA outer s H args us vs Q E hr he hb hv hs=>F.run A outer s H args us vs Q E hr he hb hv (h _ _ _ _ hs)⟩
def Env0.make{outer:List Env}{H:Hp}(e:Env0 P w K mg base A outer s H)(C:Addr)(us:List Value)(kw:List (Str×Value)):Env0 P w K mg base (A.under (.builtin "type.__call__" ⟨.ref C::us,kw⟩)) outer s H:=⟨by first|exact e.frames|(simpa [Around.under,Code.envs,Code.isFrame,pushEnvs] using e.frames),e.mod,e.bs,e.bsz,e.funs,e.frf,e.hok,e.bare⟩
section
variable {X:Cx}{pins:ya}{V:St}{H:Hp}{s s':Shared}
def Inv.env0(I:Inv X pins V H s):Env0 X.prog X.w X.K X.mg X.base X.A X.stack s H:=⟨I.ok.frames,I.ok.mod,I.bs,vm I.ok.bsz I.sz,I.stack,I.stkFree,I.hok,I.bare⟩
def Inv.after{Q:VK}(I:Inv X pins V H s)(h:CE X.stack X.prog X.w H s Q u s'):EP X pins V Q u s':=by obtain⟨v,H',os,bare,un,hok,r,q⟩:=h;obtain⟨W,g,d,t,R⟩:=s';obtain rfl:R=s.os:=os;exact⟨v,H',I.call (h':=W) (g':=g) (d':=d) (t':=t) (ch:=[]) un hok bare (λb z=>absurd z Ab),r,q⟩
end
def xJ(sp:Sp)(dvs:List σ)(E:XK)(t:TA):TE:=λV H Q=>t V H λvs H1=>sp (vs++dvs) H1 Q E
def Binds(K:xx)(fd:y7)(ps:List Str)(ds:List Value):Prop:=∀(s:Shared) (us:List Value),K.In s.heap->(us++ds).length=ps.length->BindsTo s fd ⟨us,[]⟩ (ps.zip (us++ds))
def Binds.all(h:∀us:List Value,us.length=ps.length->bindArgs fd ⟨us,[]⟩=pure (ps.zip us)):Binds K fd ps []:=λs us _ hl=>by rw[vx]at hl ⊢;exact .of_eq (h us hl)
def iG(CX:aq)(X:Cx)(E:XK):Prop:=∀(pins:ya) (V:St) (H:Hp) (s:Shared) (e:Value) (s':Shared),Inv X pins V H s->CX X.stack H s E e s'->X.xe e s'
section
variable {X:Cx}{CX:aq}{k:Nat}{f C:Addr}{fd:y7}{ps:List Str}{sp:Sp}{dvs:List σ}{ds:List Value}{E:XK}{x m:Str}{p pos apos:Pos}{e o:Expr}{es:List Expr}{ta:TE}{t:TA}
def uX{V:St}{H:Hp}{Q:VK}{vs:List σ}(F:FnOk X.prog X.w X.K X.mg X.base CX k f fd ps sp)(hr:Room k X.A)(hb:Binds X.K fd ps ds)(hd:aX dvs ds)(hx:iG CX X E) (I:Inv X pins V H s) (r:aX vs us) (h:sp (vs++dvs) H Q E):wpAny (model X.prog X.w) X.A (call (.ref f) us) (EP X pins V Q) X.xe s:=by
 have z:aX (vs++dvs) (us++ds):=r.append hd;have hl:(us++ds).length=ps.length:=by rw[<-z.length];exact F.len _ _ _ _ h
 refine wpAny_call (codeAny_mono (F.run X.A X.stack s H ⟨us,[]⟩ (us++ds) (vs++dvs) Q E hr I.env0 (hb s us I.kIn hl) z h) λr s' hq=>?_);cases r with
 |error e=>exact hx pins V H s e s' I hq
 |ok fl=>
  cases fl with
  |ret u=>exact I.after hq
  |next=>exact False.elim hq
  |brk=>exact False.elim hq
  |cont=>exact False.elim hq
def DT(F:FnOk X.prog X.w X.K X.mg X.base CX k f fd ps sp)(hr:Room k X.A)(hg:Gl X x)(hm:X.mg x=O (.ref f))(hk:keepIn X.K (.ref f)=Y)(hb:Binds X.K fd ps ds)(hd:aX dvs ds)(hx:iG CX X E) (ha:PA X (e::es) t) (R:(x == ("__debug__":Str))=J:=by decide) (he:starEach (e::es) X.env=(J,eval e X.env)::starEach es X.env:=by rfl) (z:(backTo pos (starEach es X.env)).any (·.1)=J:=by rfl):PE X (.Call (.Name x p) (e::es) [] pos) (xJ sp dvs E t):=by intro pins s V H Q I h;refine wpAny_Call_Name_kw (dZ I hg hm ?_ R);refine callWith_K (h₀:=X.base) I.ok.mod.kin hk (ai (ha pos pins s V H _ I h) λus s1 ⟨vs,H1,I1,r,q⟩=>⟨I1.kIn,?_⟩) he z;exact uX F hr hb hd hx I1 r q
def yE(F:FnOk X.prog X.w X.K X.mg X.base CX k f fd ps sp)(hr:Room k X.A)(hg:Gl X x)(hm:X.mg x=O (.ref f))(hk:keepIn X.K (.ref f)=Y)(hb:Binds X.K fd ps ds)(hd:aX dvs ds)(hx:iG CX X E) (z:(x == ("__debug__":Str))=J:=by decide):PE X (.Call (.Name x p) [] [] pos) (xJ sp dvs E JJ):=by intro pins s V H Q I h;refine wpAny_Call_Name_kw (dZ I hg hm ?_ z);exact callWith_K0 I.kIn hk (uX (us:=[]) F hr hb hd hx I .nil h)
structure Mk (K:xx) (C f:Addr):Prop where
 makes:makesIn K C=Y
 init:findIn K (.ref C) "__init__"=O (O (.ref f))
 fn:isFn K (.ref f)=Y
 kp:keepIn K (.ref C)=Y
end
section
variable {X:Cx}{CX:aq}{k:Nat}{f C:Addr}{fd:y7}{ps ks:List Str}{sp:Sp}{E:XK}{x m:Str}{p pos apos kpos:Pos}{e o:Expr}{es:List Expr}{kws:List Keyword}{te ta:TE}{t tk:TA}{nm:Option Str}
structure KBinds (K:xx) (fd:y7) (ps ks:List Str) (g:List Value->List Value->List Value) (gV:List σ->List σ->List σ):Prop where
 to:∀(s:Shared) (us ws:List Value),K.In s.heap->(g us ws).length=ps.length->BindsTo s fd ⟨us,ks.zip ws⟩ (ps.zip (g us ws))
 rel:∀{vs:List σ} {us:List Value} {zs:List σ} {ws:List Value},aX vs us->aX zs ws->aX (gV vs zs) (g us ws)
variable {g:List Value->List Value->List Value}{gV:List σ->List σ->List σ}
end
structure af (N P:List Str) (sc:Scope):Prop where
 kind:sc.kind=.function
 co:sc.isCoroutine=J
 gen:sc.isGenerator=J
 nd:N.Nodup
 pre:N.take P.length=P
 par:∀x∈P,sc.names.lookup x=O .local\/sc.names.lookup x=O .cell
 nofree:∀y∈sc.names,y.2≠.free
theorem uI{kindOf:Str->Option NameKind}{x:Str}:∀{binds:List (Str×Value)} {m:yb},(∀v,(x,v)∉binds)->bindL kindOf binds m x=m x
 |[],_,_=>rfl
 | (n,v)::r,m,h=>by
  unfold bindL;rw[uI λw hw=>h w (v8 _ hw)];split;have:x≠n:=by rintro rfl;exact h v x8
  simp[this];rfl
theorem uK{kindOf:Str->Option NameKind}{x:Str}:∀{binds:List (Str×Value)} {m:yb},(∀v,(x,v)∉binds)->bindC kindOf binds m x=m x
 |[],_,_=>rfl
 | (n,v)::r,m,h=>by
  unfold bindC;rw[uK λw hw=>h w (v8 _ hw)];split;rfl;have:x≠n:=by rintro rfl;exact h v x8
  simp[this]
theorem uJ{kindOf:Str->Option NameKind}{x:Str}{v:Value}:∀{P:List Str} {vs:List Value} {i:Nat} {m:yb},P.Nodup->P[i]?=O x->vs[i]?=O v->kindOf x=O .local ->bindL kindOf (P.zip vs) m x=O v
 |[],_,_,_,_,h,_,_=>by simp at h
 |_::_,[],_,_,_,_,h,_=>by simp at h
 |p::P,w::vs,0,m,nd,h1,h2,hk=>by simp at h1 h2;subst h1;subst h2;show bindL kindOf ((p,w)::P.zip vs) m p=_;unfold bindL;rw[uI λv hv=>(nodup_cons.mp nd).1 (of_mem_zip hv).1,if_pos hk];simp
 |p::P,w::vs,i+1,m,nd,h1,h2,hk=>by show bindL kindOf ((p,w)::P.zip vs) m x=_;unfold bindL;exact uJ (i:=i) (nodup_cons.mp nd).2 (by simpa using h1) (by simpa using h2) hk
theorem uL{kindOf:Str->Option NameKind}{x:Str}{v:Value}:∀{P:List Str} {vs:List Value} {i:Nat} {m:yb},P.Nodup->P[i]?=O x->vs[i]?=O v->kindOf x≠O .local ->bindC kindOf (P.zip vs) m x=O v
 |[],_,_,_,_,h,_,_=>by simp at h
 |_::_,[],_,_,_,_,h,_=>by simp at h
 |p::P,w::vs,0,m,nd,h1,h2,hk=>by simp at h1 h2;subst h1;subst h2;show bindC kindOf ((p,w)::P.zip vs) m p=_;unfold bindC;rw[uK λv hv=>(nodup_cons.mp nd).1 (of_mem_zip hv).1,if_neg hk];simp
 |p::P,w::vs,i+1,m,nd,h1,h2,hk=>by show bindC kindOf ((p,w)::P.zip vs) m x=_;unfold bindC;exact uL (i:=i) (nodup_cons.mp nd).2 (by simpa using h1) (by simpa using h2) hk
noncomputable def start(N:List Str)(vs:List σ):St:=vs.map O++List.replicate (N.length-vs.length) U
noncomputable def lC(CX:aq)(P:y8)(w:World)(K:xx)(mg:yb)(base:Heap)(N:List Str)(qual:Str)(scope:Scope)(f:Addr)(cd:Value)(A:Around)(outer:List Env)(s:Shared)(H:Hp)(E:XK):Cx where
 prog:=P
 w:=w
 K:=K
 mg:=mg
 base:=base
 A:=A.deeper (envOfC qual scope s.heap.objs.size f cd)
 N:=N
 s₀:=s
 H₀:=H
 env:=envOfC qual scope s.heap.objs.size f cd
 outer:=outer
 stack:=envOfC qual scope s.heap.objs.size f cd::outer
 ex:=[]
 calm:=Y
 fn:=λ_=>Y
 pn:=[]
 xe:=λe s'=>wpAny (model P w) (A.deeper (envOfC qual scope s.heap.objs.size f cd)) (leaving (envOfC qual scope s.heap.objs.size f cd) e) (λ_ qk=>CX outer H s E e qk) (λe' qk=>CX outer H s E e' qk) s'
def zV{sc:Scope}{n:Nat}(h:sc.names.lookup x=O .cell):∃c,(cellsFrom n sc.names []).lookup x=O c:=by have q:=cellsFrom_some sc.names n [] (.inl h);exact Option.isSome_iff_exists.mp q
def sZ{CX:aq}{qual:Str}{scope:Scope}{f:Addr}{cd:Value}{outer:List Env}{s1:Shared}{H:Hp}{E:XK}{vs:List σ} (S:af N ps scope) (hd:A.handled=U) (I:Env0 P w K mg base A outer s H) (hl:vs.length=ps.length) (r:aX vs us) (x:InCallC s s.heap.objs.size (bindL (envOfC qual scope s.heap.objs.size f cd).kindOf (ps.zip us) λ_=>U) (cellsFrom (s.heap.objs.size+1) scope.names []) (bindC (envOfC qual scope s.heap.objs.size f cd).kindOf (ps.zip us) λ_=>U) s1):Inv (lC CX P w K mg base N qual scope f cd A outer s H E) [] (start N vs) H s1:=by
 have kf:ps.length<=N.length:=by have:=congrArg List.length S.pre;rw[wk]at this;lia
 obtain⟨h1,tk,rfl,hk⟩:=x.done;have W:∀b:Addr,b∉(lC CX P w K mg base N qual scope f cd A outer s H E).ex:=λb z=>absurd (show b∈([]:List Addr) from z) Ab;refine⟨⟨I.mod,S.kind,rfl,rfl,ux _,λy z c h1 h2=>?_,λy hy=>?_,λy c _ h=>?_,λ_=>hd,Around.frames_deeper I.frames,.inr ⟨rfl,rfl⟩,λb z=>absurd z (W b),I.bs,I.bsz,λb _ _=>W b,λb z=>absurd z (W b),I.funs,I.frf⟩,
  rfl,I.bare,Un.kept hk,⟨_,x.toInCall.ns,λi y v h1 h2 h3=>?_⟩,λy c h=>⟨_,x.cell y c h⟩,I.hok.fresh (ux _),λy c h=>?_,λp hp=>absurd (show p∈([]:ya) from hp) Ab,I.hok.kept hk,?_⟩
 exact name_of_addr x.apart (we h1) (we h2);have hy:scope.names.lookup y=O .cell\/scope.names.lookup y=O .free:=hy;rcases hy with hy|hy;exact zV hy;exact absurd rfl (S.nofree _ (we hy));exact le_of_lt (x.above y c (we h));have hi:i<vs.length:=by unfold start at h2;by_cases hi:i<vs.length;exact hi;rw[xo (by simpa using hi)]at h2;rw[getElem?_replicate]at h2;split at h2<;>cases h2
 have ha:vs[i]?=O v:=by
  unfold start at h2;rw[xj (by simpa using hi),uv]at h2;cases e:vs[i]? with
  |none=>rw[e]at h2;cases h2
  |some a=>rw[e]at h2;cases h2;rfl
 obtain⟨u,hu,rv⟩:=r.get ha;have hp:ps[i]?=O y:=by rw[<-S.pre,List.getElem?_take_of_lt (by lia)];exact h1
 have R:ps.Nodup:=by rw[<-S.pre];exact S.nd.sublist (List.take_sublist _ _)
 refine⟨u,rv,?_⟩;rcases S.par y (u5 hp) with k|k;exact .inl ⟨k,uJ R hp hu k⟩;obtain⟨c,e⟩:=zV (n:=s.heap.objs.size+1) k;refine .inr ⟨.inl k,c,e,?_⟩;have q:=x.cell y c e;rw[uL R hp hu (by show scope.names.lookup y≠_;rw[k];decide)]at q;exact q;exact I.hok.fresh (le_of_lt (x.above y c (we h)));unfold start;show _=N.length;rw[vt,uw,List.length_replicate];lia
def NT{CX:aq}{k:Nat}{f:Addr}{name qual:Str}{z:Arguments}{scope:Scope}{dV kV doc pm aT ct oc:Value}{an od:Option Addr} {k8:Array (Option Value)}  {sp:Sp} (lk:K.lookup f=O ⟨oc,od,.func (PySem.W.fnOf name qual z body scope dV kV doc pm an aT ct),k8⟩) (fw:codeIn K aT qual=Y) (S:af N ps scope) (len:∀vs H Q E,sp vs H Q E->vs.length=ps.length) (hbody:∀(A:Around) (outer:List Env) (s:Shared) (H:Hp) (vs:List σ) (Q:VK) (E:XK),Room k (A.deeper (envOfC qual scope s.heap.objs.size f aT))->sp vs H Q E ->∃t,PSs (lC CX P w K mg base N qual scope f aT A outer s H E) body t/\t {nx:=λ_ H'=>Q .non H',rt:=Q} (start N vs) H):FnOk P w K mg base CX (k+1) f (PySem.W.fnOf name qual z body scope dV kV doc pm an aT ct) ps sp:=by
 refine⟨len,λA outer s H args us vs Q E hr e0 hb r ax=>?_⟩;have hl:=len _ _ _ _ ax;have KX:K.In s.heap:=e0.mod.kin.keeps λb o e=>(e0.bs b o e).1;have lim:s.heap.NoLimit:=e0.mod.nolimit.keeps λb o e=>(e0.bs b o e).1;have R:∀y∈ps.zip us,scope.names.lookup y.1=O .local\/(scope.names.lookup y.1=O .cell/\((cellsFrom (s.heap.objs.size+1) scope.names []).lookup y.1).isSome=Y):=λ⟨n,v⟩ hy=>by rcases S.par n (of_mem_zip hy).1 with q|q;exact .inl q;exact .inr ⟨q,cellsFrom_some _ _ _ (.inl q)⟩
 refine codeAny_call_function hr.depth (KX _ _ lk) rfl S.co S.gen rfl (PySem.W.codeRec_of KX fw) (hb _ _ _ _ ?_);refine wpAny_newFunctionEnv_cells S.kind R λenv he s1 x=>?_;subst he;refine⟨lim.keeps x.toInCall.keep,codeAny_func ?_⟩;obtain⟨t,ht,hq⟩:=hbody A outer s H vs Q E (hr.deeper _) ax;have I:Inv (lC CX P w K mg base N qual scope f aT A outer s H E) [] (start N vs) H s1:=sZ S hr.hd e0 hl r x;refine wx (ht [] s1 (start N vs) H _ I hq) (λfl s' hs=>?_) λe s' hs=>hs;have fin:∀{V':St} {H':Hp} {v:σ} {u:Value},Inv (lC CX P w K mg base N qual scope f aT A outer s H E) [] V' H' s'->RelV v u->Q v H'->CE outer P w H s Q u s':=λ{V' H' v u} æ rv q=>⟨v,H',æ.os,æ.bare,æ.base,æ.hok,rv,q⟩;cases fl with
 |ret u=>obtain⟨v,V',H',æ,rv,q⟩:=hs;exact fin æ rv q
 |next=>obtain⟨V',H',æ,q⟩:=hs;exact fin (v:=σ.non) (u:=Value.none) æ rfl q
 |brk=>obtain⟨_,_,_,q⟩:=hs;exact False.elim q
 |cont=>obtain⟨_,_,_,q⟩:=hs;exact False.elim q
section
variable {X:Cx}{x:Str}{p pos:Pos}{e:Expr}{es:List Expr}{t:TA}{id T:String}{r:List σ->Hp->VK->Prop}
def tCB(r:List σ->Hp->VK->Prop)(t:TA):TE:=λV H Q=>t V H λvs H1=>r vs H1 Q
def dU(hc:eW X (.builtin id) r)(hg:Gl X x)(hm:X.mg x=U)(hv:bootBuiltins x=O (.builtin id))(ha:PA X (e::es) t)(hn:x≠"__name__":=by decide)(iz:(x == ("__debug__":Str))=J:=by decide) (he:starEach (e::es) X.env=(J,eval e X.env)::starEach es X.env:=by rfl) (W:(backTo pos (starEach es X.env)).any (·.1)=J:=by rfl):PE X (.Call (.Name x p) (e::es) [] pos) (tCB r t):=by intro pins s V H Q I h;refine wpAny_Call_Name_kw (fT I hg hm hv ?_ hn iz);exact PyProof.Rows.callWith_builtin1 (ai (ha pos pins s V H _ I h) λus s1 ⟨vs,H1,I1,z,R⟩=>hc pins s1 V H1 vs us Q I1 z R) he W
def nH(hc:eW X (.type T) r)(hg:Gl X x)(hm:X.mg x=U)(hv:bootBuiltins x=O (.type T))(ha:PA X (e::es) t)(hn:x≠"__name__":=by decide)(iz:(x == ("__debug__":Str))=J:=by decide) (he:starEach (e::es) X.env=(J,eval e X.env)::starEach es X.env:=by rfl) (W:(backTo pos (starEach es X.env)).any (·.1)=J:=by rfl):PE X (.Call (.Name x p) (e::es) [] pos) (tCB r t):=by intro pins s V H Q I h;refine wpAny_Call_Name_kw (fT I hg hm hv ?_ hn iz);exact vp (ai (ha pos pins s V H _ I h) λus s1 ⟨vs,H1,I1,z,R⟩=>hc pins s1 V H1 vs us Q I1 z R) he W
end
end L2
namespace HT
open PySem PyProof.Rows
section
variable {prog:y8}{w:World}{A:Around}{E:y9}{s:Shared}
def YK{t b:Addr}{vs ws:List Value}{Q:y9}(ht:IsTup s.heap t vs.toArray)(hb:IsTup s.heap b ws.toArray)(hv:vs≠[]) (h1:ws=[]->Q (.ref t) s) (h2:ws≠[]->Q (.ref s.heap.objs.size) {s with heap:=s.heap.push {cls:=.type "tuple",data:=.seq (vs++ws).toArray} }) (hsz:vs.length+ws.length<=sizeLine):wpAny (model prog w) A (binaryOp .Add (.ref t) (.ref b)) Q E s:=by
 obtain⟨⟨cls,dd,data,sl⟩,ho,hc,n,hd⟩:=id ht;obtain⟨⟨cls2,W,R,o5⟩,I,i0,n2,z⟩:=id hb;simp only at hc hd i0 z;subst hc hd i0 z;have e:vs.toArray++ws.toArray=(vs++ws).toArray:=by simp
 by_cases hw:ws=[];exact concat_meets ⟨_,ho,rfl⟩ ⟨_,I,rfl⟩ noFill_tuple_add seq_tuple_add slot_tuple_add entry_tuple_add (args_tuple_add_2 _ _) (tuple_addW1 t b vs.toArray ws.toArray n n2 dd W sl o5 (by simpa using hv) (by simp[hw])) ⟨ho,I,h1 hw⟩;refine concat_meets ⟨_,ho,rfl⟩ ⟨_,I,rfl⟩ noFill_tuple_add seq_tuple_add slot_tuple_add entry_tuple_add (args_tuple_add_2 _ _) (tuple_addW2 t b vs.toArray ws.toArray n n2 dd W sl o5 (by simpa using hv) (by simpa using hw) (by rw[v9,v9];exact hsz)) ⟨ho,I,?_⟩;rw[e];exact h2 hw
noncomputable def sIx(n d:Nat):Option Int->Nat
 |none=>d
 |some v=>if v<0 then(v+(n:Int)).toNat else min v.toNat n
def aBb(n d:Nat)(hd:d<=n)(o:Option Int):sIx n d o<=n:=by
 cases o with
 |none=>exact hd
 |some v=>show (if v<0 then(v+(n:Int)).toNat else min v.toNat n)<=n;by_cases hv:v<0;rw[if_pos hv];lia;rw[if_neg hv];exact min_le_right _ _
def FO(v:Int)(n d:Nat):(if v<0 then max (v+(n:Int)) 0 else min v (n:Int))=((sIx n d (O v):Nat):Int):=by show (if v<0 then max (v+(n:Int)) 0 else min v (n:Int))=(((if v<0 then(v+(n:Int)).toNat else min v.toNat n):Nat):Int);by_cases hv:v<0;simp only[if_pos hv];lia;simp only[if_neg hv];lia
def CP(lo hi:Option Int)(n:Nat):Builtin.Slice.sliceAdjust lo hi 1 (n:Int)=(((sIx n 0 lo:Nat):Int),((sIx n n hi:Nat):Int)):=by
 have h1:¬((1:Int)<0):=by lia
 unfold Builtin.Slice.sliceAdjust;simp only[h1,if_false];refine Prod.ext ?_ ?_;cases lo with
 |none=>rfl
 |some v=>exact FO v n 0
 cases hi with
 |none=>rfl
 |some v=>exact FO v n n
def AV(i j:Nat):Builtin.Slice.slicePlaces (i:Int) (j:Int) 1=j-i:=by
 unfold Builtin.Slice.slicePlaces;have h1:(1:Int) > 0:=by lia
 simp only[h1,if_true,Int.ediv_one];split<;>lia
def qA{v:Value}{o:Option Int}{Q:Option Int->Shared->Prop}(p:IsPart v o)(h:Q o s):wpAny (model prog w) A (Builtin.Slice.slicePartIndex v) Q E s:=by
 cases p with
 |none=>exact slicePart_none h
 |int i t=>exact slicePart_int h
def mY{sl:Addr}{I z:Value}{lo hi:Option Int}{n:Nat}{Q:Int×Int×Nat->Shared->Prop}(hs:s.heap.IsSliceOf sl I z .none)(pl:IsPart I lo)(pu:IsPart z hi) (h:Q (((sIx n 0 lo:Nat):Int),1,sIx n n hi-sIx n 0 lo) s):wpAny (model prog w) A (Builtin.Slice.sliceApplied (.ref sl) (pure (n:Int))) Q E s:=by obtain⟨os,nu,W,R⟩:=id hs;unfold Builtin.Slice.sliceApplied Builtin.Slice.sliceFields;refine wt (wt (wpAny_field nu R (x:=I) rfl (wt (wpAny_field nu R (x:=z) rfl (wt (wpAny_field nu R (x:=.none) rfl (wu ?_)))))));refine wt (slicePart_none ?_);show wpAny _ _ (if ((1:Int) == 0)=Y then _ else _) _ _ s;rw[if_neg Aa];refine wt (qA pl (wt (qA pu (wt (wu ?_)))));show wpAny _ _ (match Builtin.Slice.sliceAdjust lo hi 1 (n:Int) with|(lo,hi)=>pure (lo,(1:Int),Builtin.Slice.slicePlaces lo hi 1)) _ _ s;rw[CP lo hi n];show wpAny _ _ (pure (((sIx n 0 lo:Nat):Int),(1:Int),Builtin.Slice.slicePlaces ((sIx n 0 lo:Nat):Int) ((sIx n n hi:Nat):Int) 1)) _ _ s;rw[AV];exact wu h
def KW(xs:Array Value)(i k:Nat):((List.range k).filterMap λ(m:Nat)=>xs[((i:Int)+(m:Int)*1).toNat]?).toArray=((xs.toList.drop i).take k).toArray:=by
 have e:(λ(m:Nat)=>xs[((i:Int)+(m:Int)*1).toNat]?)=λm=>xs[i+m]?:=by
  funext m;have:((i:Int)+(m:Int)*1).toNat=i+m:=by lia
  rw[this]
 rw[e];have:=pick_run xs i k;rw[List.filterMap_map]at this;have e2:((λx=>xs[x]?) ∘ λx=>i+x)=λm=>xs[i+m]?:=rfl;rw[e2]at this;rw[this]
def mO{t sl:Addr}{items:Array Value}{vl vu:Value}{lo hi:Option Int}{Q:y9}(I:IsTup s.heap t items)(hs:s.heap.IsSliceOf sl vl vu .none)(pl:IsPart vl lo)(pu:IsPart vu hi) (hw:¬(sIx items.size 0 lo=0/\sIx items.size items.size hi=items.size)) (h:Q (.ref s.heap.objs.size) {s with heap:=s.heap.push {cls:=.type "tuple",data:=.seq ((items.toList.drop (sIx items.size 0 lo)).take (sIx items.size items.size hi-sIx items.size 0 lo)).toArray} }) (hsz:items.size<=sizeLine):wpAny (model prog w) A (getItem (.ref t) (.ref sl)) Q E s:=by
 have z:sizeOk (.seq ((items.toList.drop (sIx items.size 0 lo)).take (sIx items.size items.size hi-sIx items.size 0 lo)).toArray):=by show ((items.toList.drop (sIx items.size 0 lo)).take (sIx items.size items.size hi-sIx items.size 0 lo)).toArray.size<=sizeLine;rw[v9,wk,xu,length_toList];lia
 have hj:sIx items.size items.size hi<=items.size:=aBb _ _ (ux _) hi;obtain⟨os,nu,W,bj⟩:=id hs;have hTs:s.TypeIs (.ref sl) "slice":=⟨os,nu,W⟩;unfold getItem;try with_reducible refine wpAny_holding ?_
 first|refine wt (wu ?_)|skip
 refine wt (wpAny_sequenceKey I.typeIs Aa ?_);refine wt (wpAny_callSpecial?_slot (name:=Str.ofString "__getitem__") I.typeIs PyProof.Rows.slot_tuple_getitem (wpAny_call_entry PyProof.Rows.slot_tuple_getitem I.typeIs entry_tuple_getitem ?_ (args_tuple_getitem _ _)));show wpAny _ _ (Builtin.Tuple.tupleItemsOf (.ref t) >>= _) _ _ s;refine wt (tupleItemsOf_ I ?_);refine wt (wpAny_typeOf hTs ?_);rw[if_pos Aa];refine wt (mY hs pl pu ?_);have R:¬((((sIx items.size 0 lo:Nat):Int) == 0&&(1:Int) == 1&&(sIx items.size items.size hi-sIx items.size 0 lo) == items.size)=Y):=by intro q;rw[va,va]at q;have q1:((sIx items.size 0 lo:Nat):Int)=0:=eq_of_beq q.1.1;have q2:sIx items.size items.size hi-sIx items.size 0 lo=items.size:=eq_of_beq q.2;exact hw ⟨by lia,by lia⟩
 show wpAny _ _ (if (((sIx items.size 0 lo:Nat):Int) == 0&&(1:Int) == 1&&(sIx items.size items.size hi-sIx items.size 0 lo) == items.size)=Y then _ else _) _ _ s;rw[if_neg R,KW];first
  |exact wt (m:=Builtin.Tuple.tupleExact _) (wpAny_newObj_type (wu ⟨_,rfl,wu h⟩) z)
  |exact wt (m:=Builtin.Tuple.tupleExact _) (wpAny_newObj_type (wt (wu (wu ⟨_,rfl,wu h⟩))) z)
  |exact wt (wt (m:=Builtin.Tuple.tupleExact _) (wpAny_newObj_type (wu (wu ⟨_,rfl,wu h⟩)) z))
  |exact wt (wt (m:=Builtin.Tuple.tupleExact _) (wpAny_newObj_type (wu ⟨_,rfl,wu h⟩) z))
end
end HT
namespace L2
open PySem PySem.Spec PyProof.Rows
variable {xs:List σ}{n:Nat}{pins:ya}{V:St}{H:Hp}{s:Shared}{its:List Value}
abbrev TO:=St->Hp->(Option Int->Hp->Prop)->Prop
def PO(X:Cx)(e:Option Expr)(t:TO):Prop:=∀(pins:ya) (s:Shared) (V:St) (H:Hp) (Q:Option Int->Hp->Prop),Inv X pins V H s->t V H Q ->wpAny (model X.prog X.w) X.A (evalPart e X.env) (λu s'=>∃o H',Inv X pins V H' s'/\IsPart u o/\Q o H') X.xe s
noncomputable def RZ:TO:=λ_ H Q=>Q U H
noncomputable def aDU(t:TE):TO:=λV H Q=>t V H λx H1=>∃i,x=.int i/\Q (O i) H1
section
variable {X:Cx}{e:Expr}{te:TE}{lo hi:Option Expr}{tl th:TO}{pos p2:Pos}
def UX:PO X U RZ:=by intro pins s V H Q I h;rw[evalPart_none];exact wu ⟨U,H,I,.none,h⟩
def UW(h:PE X e te):PO X (O e) (aDU te):=by intro pins s V H Q I hw;rw[evalPart_some];refine ai (h pins s V H _ I hw) λu s1 ⟨x,H1,I1,z,R⟩=>?_;obtain⟨i,rfl,q⟩:=R;obtain⟨t,rfl⟩:=z;exact⟨O i,H1,I1,.int i t,q⟩
def SlR(X:Cx)(r:σ->Option Int->Option Int->Hp->VK->Prop):Prop:=∀(pins:ya) (s:Shared) (V:St) (H:Hp) (x:σ) (v I z:Value) (lo hi:Option Int) (sl:Addr) (Q:VK),Inv X pins V H s->RelV x v->s.heap.IsSliceOf sl I z .none->IsPart I lo->IsPart z hi->r x lo hi H Q ->∃T id,typeLookup (.type T) "__getitem__"=pure (O (.builtin id))/\s.TypeIs v T/\wpAny (model X.prog X.w) X.A (getItem v (.ref sl)) (EP X pins V Q) X.xe s
def tSl(r:σ->Option Int->Option Int->Hp->VK->Prop)(te:TE)(tl th:TO):TE:=λV H Q=>te V H λx H1=>tl V H1 λl H2=>th V H2 λu z=>r x l u z Q
def qC{r:σ->Option Int->Option Int->Hp->VK->Prop}(hr:SlR X r)(he:PE X e te)(hl:PO X lo tl)(hu:PO X hi th):PE X (.Subscript e (.Slice lo hi U p2) pos) (tSl r te tl th):=by intro pins s V H Q I h;refine Subscript_ (ai (he pins s V H _ I h) λv s1 ⟨x,H1,I1,r1,q1⟩=>?_);refine wpAny_Slice (ai (hl pins s1 V H1 _ I1 q1) λW s2 ⟨l,H2,I2,pl,q2⟩=>ai (hu pins s2 V H2 _ I2 q2) λR z ⟨u,H3,I3,pu,q3⟩=>?_);rw[evalPart_none];refine wu ?_;have I4:Inv X pins V H3 {z with heap:=z.heap.push {cls:=.type "slice",data:=.fields #[W,R,.none]} }:=I3.kept (t':=z.toks) λb ob q=>v3 _ q;obtain⟨T,id,hT,ht,hg⟩:=hr pins {z with heap:=z.heap.push {cls:=.type "slice",data:=.fields #[W,R,.none]} } V H3 x v W R l u z.heap.objs.size Q I4 r1 (Heap.IsSliceOf.new ..) pl pu q3;show wpAny (model X.prog X.w) X.A (subscriptTail e (.Slice lo hi U p2) v (.ref z.heap.objs.size)) (EP X pins V Q) X.xe {z with heap:=z.heap.push {cls:=.type "slice",data:=.fields #[W,R,.none]} };exact tail_any (ops:=[.ref z.heap.objs.size,v]) ht hT hg (by with_unfolding_all rfl)
def zO(xs:List σ)(lo hi:Option Int):List σ:=(xs.drop (HT.sIx xs.length 0 lo)).take (HT.sIx xs.length xs.length hi-HT.sIx xs.length 0 lo)
def oU(xs:List σ)(lo hi:Option Int):(zO xs lo hi).length<=xs.length:=by unfold zO;rw[wk,xu];lia
def aGF(K:xx):σ->Option Int->Option Int->Hp->VK->Prop:=λx lo hi H Q=>∃a xs,x=.ref a/\SqT K H a xs /\¬(HT.sIx xs.length 0 lo=0/\HT.sIx xs.length xs.length hi=xs.length)/\∀p,H p=U->Q (.ref p) (upd H p (.tup (zO xs lo hi)))
def aAX:SlR X (aGF X.K):=by
 intro pins s V H x v vl vu lo hi sl Q I W hs pl pu h;obtain⟨a,xs,rfl,hx,hw,q⟩:=h;cases W;obtain⟨its,r,R,hz⟩:=I.tuple hx;have z:its.toArray.size=xs.length:=by rw[v9];exact r.length.symm
 refine⟨"tuple",_,PyProof.Rows.slot_tuple_getitem.lookup,R.typeIs,?_⟩;refine HT.mO R hs pl pu (by rw[z];exact hw) ?_ (by rw[z];exact hz);rw[z];refine⟨.ref s.heap.objs.size,_,I.laid (t':=s.toks) (o:=.tup (zO xs lo hi)) (λb ob q=>v3 _ q) (ux _) ?_,rfl,q _ (I.hok.fresh (ux _))⟩;exact⟨vm (oU xs lo hi) hz,_,(r.drop (HT.sIx xs.length 0 lo)).take (HT.sIx xs.length xs.length hi-HT.sIx xs.length 0 lo),IsTup.new _ _⟩
def aEA(K:xx):R2:=λx y H Q=>∃a b xs ys,x=.ref a/\y=.ref b/\SqT K H a xs/\SqT K H b ys/\xs≠[]/\xs.length+ys.length<=sizeLine /\(ys=[]->Q (.ref a) H)/\(ys≠[]->∀p,H p=U->Q (.ref p) (upd H p (.tup (xs++ys))))
def aX.nil_iff{us:List Value}(r:aX xs us):us=[]↔xs=[]:=by
 cases r with
 |nil=>simp
 |cons _ _=>simp
def VP:ba X (binaryOp .Add) (aEA X.K):=by intro pins s V H x y v u Q I rx ry h;obtain⟨a,b,xs,ys,rfl,rfl,ha,hb,hx,hz,q1,q2⟩:=h;cases rx;cases ry;obtain⟨its,W,p1,_⟩:=I.tuple ha;obtain⟨dj,R,p2,_⟩:=I.tuple hb;refine HT.YK p1 p2 (λz=>hx (W.nil_iff.mp z)) (λz=>⟨.ref a,H,I,rfl,q1 (R.nil_iff.mp z)⟩) (λz=>?_) (by rw[<-W.length,<-R.length];exact hz);refine⟨.ref s.heap.objs.size,_,I.laid (t':=s.toks) (o:=.tup (xs++ys)) (λb ob q=>v3 _ q) (ux _) ?_,rfl,q2 (λw=>z (R.nil_iff.mpr w)) _ (I.hok.fresh (ux _))⟩;exact⟨by rw[vt];exact hz,_,W.append R,IsTup.new _ _⟩
end
noncomputable def ixN(n:Nat)(i:Int):Option Nat:=if 0<=i then(if i<n then O i.toNat else U) else if -(n:Int)<=i then O (i+n).toNat else U
def atI{α:Type}(xs:List α)(i:Int):Option α:=(ixN xs.length i).bind λj=>xs[j]?
def EH{i:Int}{j:Nat}(h:ixN n i=O j):seqIndex? i n=O j/\j<n/\-(n:Int)<=i/\i<n:=by unfold ixN at h;by_cases h0:0<=i;rw[if_pos h0]at h;by_cases h1:i<n;rw[if_pos h1]at h;have e:i.toNat=j:=vb h;exact⟨by rw[seqIndex_of h0 h1,e],by lia,by lia,h1⟩;rw[if_neg h1]at h;cases h;rw[if_neg h0]at h;by_cases h1:-(n:Int)<=i;rw[if_pos h1]at h;have e:(i+n).toNat=j:=vb h;exact⟨by rw[seqIndex_neg (by lia) h1,e],by lia,h1,by lia⟩;rw[if_neg h1]at h;cases h
def wZ{α:Type}{xs:List α}{i:Int}{v:α}(h:atI xs i=O v):∃j,seqIndex? i xs.length=O j/\xs[j]?=O v/\j<xs.length/\-(xs.length:Int)<=i/\i<xs.length:=by
 unfold atI at h;cases e:ixN xs.length i with
 |none=>rw[e]at h;cases h
 |some j=>rw[e]at h;obtain⟨h1,h2,h3,h4⟩:=EH e;exact⟨j,h1,h,h2,h3,h4⟩
def YQ{α:Type}{xs:List α}{j:Nat}{v:α}(h:xs[j]?=O v):atI xs (j:Int)=O v:=by
 have z:j<xs.length:=(u0.mp h).1;have e:ixN xs.length (j:Int)=O j:=by unfold ixN;rw[if_pos (by lia),if_pos (by lia)];simp
 unfold atI;rw[e];exact h
def jN(b:Expr):Prop:=∀o i,subscripted b J o i=operate [o,i] (getItem o i)
def IxR(X:Cx)(r:R2):Prop:=∀(value z:Expr) (pins:ya) (s:Shared) (V:St) (H:Hp) (x y:σ) (v u:Value) (Q:VK),Inv X pins V H s->RelV x v->RelV y u->r x y H Q ->subscripted z J v u=operate [v,u] (getItem v u)->wpAny (model X.prog X.w) X.A (subscriptTail value z v u) (EP X pins V Q) X.xe s
def MtR(X:Cx)(id:String)(r:σ->List σ->Hp->VK->Prop):Prop:=∀(pins:ya) (s:Shared) (V:St) (H:Hp) (x:σ) (xs:List σ) (v:Value) (us:List Value) (Q:VK),Inv X pins V H s->RelV x v->aX xs us->r x xs H Q ->wpAny (model X.prog X.w) X.A (call (.builtin id) (v::us)) (EP X pins V Q) X.xe s
section
variable {X:Cx}{a b:Expr}{ta tb:TE}{pos:Pos}
def IxR.or{r r':R2}(h:IxR X r)(h':IxR X r'):IxR X (λx y H Q=>r x y H Q\/r' x y H Q):=by intro value z pins s V H x y v u Q I W R q hs;rcases q with q|q;exact h value z pins s V H x y v u Q I W R q hs;exact h' value z pins s V H x y v u Q I W R q hs
def yB{r:R2}(hr:IxR X r)(ha:PE X a ta)(hb:PE X b tb)(hs:jN b):PE X (.Subscript a b pos) (ka r ta tb):=by intro pins s V H Q I h;exact Subscript_ (aDm ha hb I h λv u s2 x y H2 I2 R z q=>hr a b pins s2 V H2 x y v u Q I2 R z q (hs _ _))
def aBi(K:xx):R2:=λx y H Q=>∃p xs i v,x=.ref p/\y=.int i/\SqL K H p xs/\atI xs i=O v/\Q v H
def aEv(K:xx):R2:=λx y H Q=>∃p xs i v,x=.ref p/\y=.int i/\SqT K H p xs/\atI xs i=O v/\Q v H
def aEw:R2:=λx y H Q=>∃z i c,x=.str z/\y=.int i/\z.length<=sizeLine/\atI z.cps.toList i=O c/\Q (.str ⟨#[c]⟩) H
def EG:IxR X (aBi X.K):=by
 intro value W pins s V H x y v u Q I rx ry h hs;obtain⟨p,xs,i,z,rfl,rfl,hq,he,q⟩:=h;cases rx;obtain⟨t,rfl⟩:=ry;obtain⟨its,r,pl,hz⟩:=I.list hq;obtain⟨j,h1,h2,h3,h4,h5⟩:=wZ he;obtain⟨w,ew,fe⟩:=r.get h2;have hl:=r.length;have hn:=lR;have R:EP X pins V Q w s:=⟨z,H,I,fe,q⟩;by_cases h0:0<=i;have hj:i.toNat=j:=by rw[seqIndex_of h0 h5]at h1;exact vb h1
 exact item_listR pl.isList h0 (by lia) (by rw[hj];simpa using ew) R hs;have hj:(i+(its.toArray.size:Int)).toNat=j:=by rw[seqIndex_neg (by lia) h4]at h1;rw[v9,<-hl];exact vb h1
 exact subscriptTail_builtinR (x:=w) pl.isList.typeIs slot_list_getitem.lookup (wpAny_getItem_list_neg (Q:=λr s'=>r=w/\EP X pins V Q r s') pl.isList (by lia) (by rw[v9]<;>lia) (by lia) (by rw[hj];simpa using ew) ⟨rfl,R⟩) hs
def aCB:IxR X (aEv X.K):=by intro value R pins s V H x y v u Q I rx ry h hs;obtain⟨p,xs,i,z,rfl,rfl,hq,he,q⟩:=h;cases rx;obtain⟨t,rfl⟩:=ry;obtain⟨its,r,pl,hz⟩:=I.tuple hq;obtain⟨j,h1,h2,h3,h4,h5⟩:=wZ he;obtain⟨w,ew,fe⟩:=r.get h2;have hl:=r.length;have hn:=lR;have W:EP X pins V Q w s:=⟨z,H,I,fe,q⟩;exact subscriptTail_builtinR (x:=w) pl.typeIs slot_tuple_getitem.lookup (getItem_tuple (j:=j) (Q:=λr s'=>r=w/\EP X pins V Q r s') pl (by lia) (by lia) (by rw[v9,<-hl];exact h1) (by simpa using ew) ⟨rfl,W⟩) hs
def aCC:IxR X aEw:=by
 intro value R pins s V H x y v u Q I rx W h hs;obtain⟨z,i,c,rfl,rfl,hz,he,q⟩:=h;obtain⟨t,rfl⟩:=rx;obtain⟨t',rfl⟩:=W;obtain⟨j,h1,h2,h3,h4,h5⟩:=wZ he;have hl:z.cps.toList.length=z.length:=by simp[Str.length]
 rw[hl]at h1 h4 h5;have hn:=lR;exact tail_any (typeIs_str s z t) slot_str_getitem.lookup (getItem_str (c:=c) (by have e1:decide (i < -(2 ^ 63:Int))=J:=uz (by lia);have e2:decide (i >= 2 ^ 63)=J:=uz (by lia);rw[e1,e2,Bool.or_false]) (by rw[h1];simpa using h2) ⟨.str ⟨#[c]⟩,H,I.tok _,⟨_,rfl⟩,q⟩) hs
def rIx(K:xx):R2:=λx y H Q=>aBi K x y H Q\/aEv K x y H Q\/aEw x y H Q
def vN:IxR X (rIx X.K):=EG.or (aCB.or aCC)
def BJ(its:List Value)(n j:Nat)(u:Value):Obj.mapSeq (·.setIfInBounds j u) {cls:=.type "list",data:=.seq its.toArray n}={cls:=.type "list",data:=.seq (its.set j u).toArray n}:=by simp[Obj.mapSeq]
theorem Inv.lst{p:Addr}(I:Inv X pins V H s)(h:H p=O (.lst xs)):∃(its:List Value) (n:Nat),aX xs its/\s.heap.get? p=O {cls:=.type "list",data:=.seq its.toArray n}/\xs.length<=sizeLine:=by obtain⟨z,its,n,r,e⟩:=I.hok p _ h;exact⟨its,n,r,e,z⟩
def Inv.lstUpd{p:Addr}{ys:List σ}{its':List Value}{z:Nat}{f:Obj->Obj}(I:Inv X pins V H s)(h:H p=O (.lst xs)) (ho:s.heap.get? p=O {cls:=.type "list",data:=.seq its.toArray n}) (hf:f {cls:=.type "list",data:=.seq its.toArray n}={cls:=.type "list",data:=.seq its'.toArray z }) (r:aX ys its') (hz:ys.length<=sizeLine) (t:Nat):Inv X pins V (upd H p (.lst ys)) {s with heap:=s.heap.update p f,toks:=t}:=by
 have e:(s.heap.update p f).get? p=O {cls:=.type "list",data:=.seq its'.toArray z }:=by rw[Heap.get?_update_self f ho (by rw[hf]<;>rfl),hf]
 refine I.write (x:=p) (e:=p) (by rw[h];trivial) (.inl rfl) (λb u hb q=>(Heap.get?_update_other _ _ (Ne.symm hb)).trans q) ⟨_,e⟩ ?_;exact⟨hz,its',z,r,e⟩
def aEu:σ->σ->σ->Hp->(Hp->Prop)->Prop:=λo i v H Q=>∃p xs k j,o=.ref p/\i=.int k/\H p=O (.lst xs)/\ixN xs.length k=O j/\Q (upd H p (.lst (xs.set j v)))
def set_list:aGn X aEu:=by
 intro pins s V H o i v ov iv u Q I R ri rv h;obtain⟨p,xs,k,j,rfl,rfl,hp,hj,q⟩:=h;cases R;obtain⟨t,rfl⟩:=ri;obtain⟨its,n,r,ho,hz⟩:=I.lst hp;obtain⟨h1,h2,h3,h4⟩:=EH hj;have hl:=r.length;have hn:=lR;have z:Inv X pins V (upd H p (.lst (xs.set j v))) {s with heap:=s.heap.update p (Obj.mapSeq (·.setIfInBounds j u))}:=I.lstUpd hp ho (BJ its n j u) (r.set rv j) (by rw[List.length_set];exact hz) s.toks;by_cases h0:0<=k;have hk:k.toNat=j:=by rw[seqIndex_of h0 h4]at h1;exact vb h1
 exact PySem.W.ki_setAt ho h0 (by lia) (by rw[v9,<-hl];exact h4) (by rw[hk];exact⟨_,z,q⟩);have hk:(k+(its.toArray.size:Int)).toNat=j:=by rw[seqIndex_neg (by lia) h3]at h1;rw[v9,<-hl];exact vb h1
 exact PySem.W.ki_setBack ho (by lia) (by rw[v9,<-hl];exact h3) (by lia) (by rw[hk];exact⟨_,z,q⟩)
def uW(lo hi:Option Int)(n:Nat):(sliceBounds lo hi U n).1=((HT.sIx n 0 lo:Nat):Int)/\(sliceBounds lo hi U n).2.1=((HT.sIx n n hi:Nat):Int)/\(sliceBounds lo hi U n).2.2=1:=by
 refine⟨?_,?_,rfl⟩;cases lo with
 |none=>simp[sliceBounds,HT.sIx]
 |some i=>
  simp only[sliceBounds,HT.sIx,Option.getD_none,show (1:Int) > 0 by decide,if_true];by_cases h:i<0;simp only[h,if_true]<;>lia
  simp only[h,if_false]<;>lia
 cases hi with
 |none=>simp[sliceBounds,HT.sIx]
 |some i=>
  simp only[sliceBounds,HT.sIx,Option.getD_none,show (1:Int) > 0 by decide,if_true];by_cases h:i<0;simp only[h,if_true]<;>lia
  simp only[h,if_false]<;>lia
def rV(its:List Value)(lo hi:Option Int):slicePick its.toArray lo hi U=((its.drop (HT.sIx its.length 0 lo)).take (HT.sIx its.length its.length hi-HT.sIx its.length 0 lo)).toArray:=by obtain⟨h1,h2,h3⟩:=uW lo hi its.toArray.size;unfold slicePick;rw[h1,h2,h3];simp only[sliceRange_one,pick_run,v9]<;>rfl
def aGG(K:xx):σ->Option Int->Option Int->Hp->VK->Prop:=λx lo hi H Q=>∃a xs,x=.ref a/\SqL K H a xs/\∀p,H p=U->Q (.ref p) (upd H p (.lst (zO xs lo hi)))
def DG:SlR X (aGG X.K):=by intro pins s V H x v vl vu lo hi sl Q I W hs pl pu h;obtain⟨a,xs,rfl,hx,q⟩:=h;cases W;obtain⟨its,r,R,hz⟩:=I.list hx;have z:=r.length;refine⟨"list",_,slot_list_getitem.lookup,R.isList.typeIs,?_⟩;refine wpAny_getItem_list_slice R.isList hs pl pu .none Ab ?_ (by rw[v9]<;>lia);rw[rV,<-z];refine⟨.ref s.heap.objs.size,_,I.laid (t':=s.toks) (o:=.lst (zO xs lo hi)) (λb ob q=>v3 _ q) (ux _) ?_,rfl,q _ (I.hok.fresh (ux _))⟩;exact⟨vm (oU xs lo hi) hz,_,0,(r.drop (HT.sIx xs.length 0 lo)).take (HT.sIx xs.length xs.length hi-HT.sIx xs.length 0 lo),wy _ rfl⟩
def gG:eW X (.builtin "len") (λxs H Q=>∃p ys,xs=[.ref p]/\(SqL X.K H p ys\/SqT X.K H p ys)/\Q (.int ys.length) H):=by intro pins s V H xs us Q I r h;obtain⟨p,ys,rfl,hq,q⟩:=h;obtain⟨u,rfl,W⟩:=vals1 r;cases W;have hn:=lR;rcases hq with hq|hq;obtain⟨its,R,pl,hz⟩:=I.list hq;have z:=R.length;exact Calls.call_len_list pl.isList (by simp only[v9]<;>lia) ⟨.int ys.length,H,I.tok _,⟨s.toks+1,by rw[v9,z]⟩,q⟩;obtain⟨its,R,pl,hz⟩:=I.tuple hq;have z:=R.length;exact len_tuple pl (by simp only[v9]<;>lia) ⟨.int ys.length,H,I.tok _,⟨s.toks+1,by rw[v9,z]⟩,q⟩
def wY:eW X (.builtin "len") (λxs H Q=>∃z,xs=[.str z]/\z.length<=sizeLine/\Q (.int z.length) H):=by intro pins s V H xs us Q I r h;obtain⟨z,rfl,hz,q⟩:=h;obtain⟨u,rfl,t,rfl⟩:=vals1 r;have hn:=lR;exact len_str (by lia) ⟨.int z.length,H,I.tok _,⟨_,rfl⟩,q⟩
def jJ:eW X (.type "list") (λxs H Q=>∃p ys,xs=[.ref p]/\(SqL X.K H p ys\/SqT X.K H p ys)/\∀l,H l=U->Q (.ref l) (upd H l (.lst ys))):=by intro pins s V H xs us Q I r h;obtain⟨p,ys,rfl,hq,q⟩:=h;obtain⟨u,rfl,rx⟩:=vals1 r;cases rx;have fin:∀(its:List Value),aX ys its->ys.length<=sizeLine->∀(h':Heap) (R:Nat),(∀b o',s.heap.get? b=O o'->h'.get? b=O o') ->h'.get? s.heap.objs.size=O {cls:=.type "list",dict:=U,data:=.seq its.toArray R,slots:=#[]}->EP X pins V Q (.ref s.heap.objs.size) {s with heap:=h' }:=λits z hz h' R kp e=>⟨.ref s.heap.objs.size,_,I.laid (t':=s.toks) kp (ux _) (show cY X.prog X.w _ h' _ (.lst ys) from⟨hz,its,R,z,e⟩),rfl,q _ (I.hok.fresh (ux _))⟩;rcases hq with hq|hq;obtain⟨its,z,pl,hz⟩:=I.list hq;have W:=z.length;obtain⟨o,ho,hc,n,hd⟩:=pl.isList;exact call_list_seq p (.inl rfl) ho hc hd (λh' R kp e=>fin its z hz h' R kp e) (by simp only[v9]<;>lia);obtain⟨its,z,pl,hz⟩:=I.tuple hq;have W:=z.length;obtain⟨o,ho,hc,n,hd⟩:=pl;exact call_list_seq p (.inr rfl) ho hc hd (λh' R kp e=>fin its z hz h' R kp e) (by simp only[v9]<;>lia)
def lH:eW X (.type "tuple") (λxs H Q=>∃p ys,xs=[.ref p]/\((SqL X.K H p ys/\∀l,H l=U->Q (.ref l) (upd H l (.tup ys)))\/(SqT X.K H p ys/\Q (.ref p) H))):=by intro pins s V H xs us Q I r h;obtain⟨p,ys,rfl,h⟩:=h;obtain⟨u,rfl,W⟩:=vals1 r;cases W;rcases h with ⟨hq,q⟩|⟨hq,q⟩;obtain⟨its,z,pl,hz⟩:=I.list hq;have R:=z.length;refine call_tuple_list pl.isList (λh' kp=>?_) (by simp only[v9]<;>lia);have I1:Inv X pins V H {s with heap:=h' }:=I.kept (t':=s.toks) kp;have I2:Inv X pins V (upd H h'.objs.size (.tup ys)) {s with heap:=h'.push {cls:=.type "tuple",data:=.seq its.toArray} }:=I1.laid (t':=s.toks) (λb o e=>v3 _ e) (ux _) (show cY X.prog X.w _ _ _ (.tup ys) from⟨hz,its,z,IsTup.new _ _⟩);exact⟨.ref h'.objs.size,_,I2,rfl,q _ (I1.hok.fresh (ux _))⟩;obtain⟨its,z,pl,hz⟩:=I.tuple hq;exact call_tuple_same pl ⟨.ref p,H,I,rfl,q⟩
def tyV(K:xx)(T:String)(x:σ)(H:Hp):Prop:=match x with
 |.str _=>T="str"
 |.int _=>T="int"
 |.ref p=>(T="list"/\∃xs,SqL K H p xs)\/(T="tuple"/\∃o,K.lookup p=O o/\o.cls=.type "tuple"/\o.dict=U) \/(T="dict"/\((∃kvs,H p=O (.dK kvs))\/∃kvs,H p=O (.dT kvs)))\/(T="set"/\∃S n,H p=O (.set S n))
 |_=>False
def JE{T:String}{x:σ}{v:Value}(I:Inv X pins V H s)(r:RelV x v)(ty:tyV X.K T x H):s.TypeIs v T/\∀a,v=.ref a->∃R,s.heap.get? a=O R/\R.dict=U:=by
 cases x with
 |str z=>obtain⟨t,rfl⟩:=r;cases (show T="str" from ty);exact⟨typeIs_str s z t,λ_ e=>nomatch e⟩
 |int i=>obtain⟨t,rfl⟩:=r;cases (show T="int" from ty);exact⟨typeIs_int s i t,λ_ e=>nomatch e⟩
 |ref p=>
  cases r;rcases ty with ⟨rfl,xs,hq⟩|⟨rfl,o,hk,hc,hd⟩|⟨rfl,hk⟩|⟨rfl,S,n,hk⟩;obtain⟨its,_,pl,_⟩:=I.list hq;refine⟨pl.isList.typeIs,λa e=>?_⟩;cases e;obtain⟨o,n,e,c,hd,_⟩:=pl;exact⟨o,e,hd⟩;refine⟨⟨o,I.kIn p o hk,hc⟩,λa e=>?_⟩;cases e;exact⟨o,I.kIn _ o hk,hd⟩;have z:∃o,s.heap.get? p=O o/\o.ExactDict:=by rcases hk with ⟨kvs,hk⟩|⟨kvs,hk⟩;obtain⟨_,_,_,_,o,_,_,e,ex,_⟩:=I.hok p _ hk;exact⟨o,e,ex⟩;obtain⟨_,_,_,_,o,_,_,e,ex,_⟩:=I.hok p _ hk;exact⟨o,e,ex⟩
  obtain⟨o,e,ex⟩:=z;refine⟨⟨o,e,ex.1⟩,λa e2=>?_⟩;cases e2;exact⟨o,e,ex.2.1⟩;obtain⟨o,_,_,_,e,ex,_⟩:=I.hok p _ hk;refine⟨⟨o,e,ex.1⟩,λa e2=>?_⟩;cases e2;exact⟨o,e,ex.2.1⟩
 |_=>exact False.elim ty
def tBM(K:xx)(T:String)(r:σ->List σ->Hp->VK->Prop)(to:TE)(t:TA):TE:=λV H Q=>to V H λx H1=>tyV K T x H1/\t V H1 λxs H2=>r x xs H2 Q
variable {o e:Expr}{es:List Expr}{to:TE}{t:TA}{name:Str}{apos br:Pos}{T id:String}{r:σ->List σ->Hp->VK->Prop}
def mK(pa:PlainAttrs T)(slot:Slot T name id)(hty:typeOf (.builtin id)=pure (.type "method_descriptor"))(hm:MtR X id r)(ho:PE X o to)(ha:PA X (e::es) t) (W:attributeBase o name X.env (eval o X.env)=eval o X.env:=by rfl) (hfew:((backTo br (starEach (e::es) X.env)).all (λx=>!x.1)&&(backToKw br (keywordEach [] X.env)).all (λx=>x.1.isSome) && decide ((e::es).length+([]:List Keyword).length+(if ([]:List Keyword).isEmpty then 0 else 1)<30))=Y:=by rfl) (R:(apos.endLine == br.line)=Y:=by rfl) (hs:starEach (e::es) X.env=(J,eval e X.env)::starEach es X.env:=by rfl) (z:(backTo br (starEach es X.env)).any (·.1)=J:=by rfl):PE X (.Call (.Attribute o name apos) (e::es) [] br) (tBM X.K T r to t):=by intro pins s V H Q I h;refine wpAny_Call_method_late W hfew R rfl (ai (ho pins s V H _ I h) λv s1 ⟨x,H1,I1,r1,ty,q1⟩=>?_);obtain⟨h1,h2⟩:=JE I1 r1 ty;refine⟨T,id,pa,slot,hty,h1,h2,?_⟩;have hA:=ha br pins s1 V H1 _ I1 q1;rw[hs]at hA ⊢;refine Calls.callWith_builtin (by show (J || (backTo br (starEach es X.env)).any (·.1))=J;rw[z]<;>rfl) (Calls.evalArgs_plain ?_);exact ai hA λus s2 ⟨vs,H2,I2,r2,q2⟩=>hm pins s2 V H2 x vs v us Q I2 r1 r2 q2
end
def MtM(X:Cx)(id:String)(r:σ->List σ->Hp->VK->Prop):Prop:=∀(pins:ya) (s:Shared) (V:St) (H:Hp) (x:σ) (xs:List σ) (v:Value) (us:List Value) (Q:VK),Inv X pins V H s->RelV x v->aX xs us->r x xs H Q ->wpAny (model X.prog X.w) X.A (call (.builtin id) (v::us)) (EP X pins V Q) X.xe s
theorem aX.one:∀{x:σ} {us:List Value},aX [x] us->∃u,us=[u]/\RelV x u
 |_,_,.cons r .nil=>⟨_,rfl,r⟩
theorem aX.two:∀{x y:σ} {us:List Value},aX [x,y] us->∃u v,us=[u,v]/\RelV x u/\RelV y v
 |_,_,_,.cons r (.cons q .nil)=>⟨_,_,rfl,r,q⟩
theorem aX.reverse{us:List Value}(h:aX xs us):aX xs.reverse us.reverse:=by
 induction h with
 |nil=>exact .nil
 |cons r t z=>rw[reverse_cons,reverse_cons];exact aX.append z (.cons r .nil)
section
variable {X:Cx}{pins:ya}{V:St}{H:Hp}{s:Shared}{l b:Addr}{xs ys zs:List σ}
def Inv.lset{its':List Value}{f:Array Value->Array Value}{t':Nat}(I:Inv X pins V H s)(z:H l=O (.lst xs)) (e:s.heap.get? l=O {cls:=.type "list",data:=.seq its.toArray n}) (hf:f its.toArray=its'.toArray) (hv:aX ys its') (hz:ys.length<=sizeLine):Inv X pins V (upd H l (.lst ys)) {s with heap:=s.heap.update l (Obj.mapSeq f),toks:=t' }:=by have q:=PySem.IsL.update e f;rw[hf]at q;refine I.write (x:=l) (e:=l) (by rw[z];exact trivial) (.inl rfl) (λb' u hb hu=>(Heap.get?_update_other s.heap (Obj.mapSeq f) (Ne.symm hb)).trans hu) ⟨_,q⟩ ?_;exact⟨hz,its',_,hv,q⟩
def Inv.lnew{t':Nat}(I:Inv X pins V H s)(hv:aX ys its)(hz:ys.length<=sizeLine):Inv X pins V (upd H s.heap.objs.size (.lst ys)) {s with heap:=s.heap.push {cls:=.type "list",data:=.seq its.toArray},toks:=t' }:=I.laid (λ_ _ q=>v3 _ q) (ux _) ⟨hz,its,0,hv,wy _ rfl⟩
theorem Inv.fresh(I:Inv X pins V H s):H s.heap.objs.size=U:=I.hok.fresh (ux _)
def Inv.lstM(I:Inv X pins V H s)(R:H l=O (.lst xs)):xs.length<=sizeLine/\∃(its:List Value) (n:Nat),aX xs its/\xs.length=its.length/\s.heap.get? l=O {cls:=.type "list",data:=.seq its.toArray n}:=by obtain⟨z,its,n,r,e⟩:=I.hok l _ R;exact⟨z,its,n,r,r.length,e⟩
def LY(h:n<=sizeLine):Builtin.List.listTooLong n=J:=by unfold Builtin.List.listTooLong;exact uz (by lia)
end
section
variable {X:Cx}
def TB:σ->List σ->Hp->VK->Prop:=λx vs H Q=>∃l xs y,x=.ref l/\vs=[y]/\H l=O (.lst xs)/\xs.length<sizeLine/\Q .non (upd H l (.lst (xs++[y])))
def gJ:MtM X "list.append" TB:=by intro pins s V H x vs v us Q I W rv h;obtain⟨l,xs,y,rfl,rfl,R,hz,q⟩:=h;cases W;obtain⟨u,rfl,ru⟩:=rv.one;obtain⟨z,its,n,r,hl,e⟩:=I.lstM R;refine call_meets F.slot_list_append ⟨_,e,rfl⟩ F.entry_list_append (F.args_list_append_2 _ _) (PySem.list_append l its.toArray n u (by rw[v9];lia)) ⟨e,?_⟩;refine⟨.non,_,I.lset (its':=its++[u]) R e Ab (r.append (.cons ru .nil)) ?_,rfl,q⟩;rw[vt,List.length_singleton];lia
def SZ:σ->List σ->Hp->VK->Prop:=λx vs H Q=>∃l b xs zs,x=.ref l/\vs=[.ref b]/\H l=O (.lst xs)/\H b=O (.lst zs)/\xs.length+zs.length<=sizeLine/\Q .non (upd H l (.lst (xs++zs)))
def HD:MtM X "list.extend" SZ:=by
 intro pins s V H x vs v us Q I rx rv h;obtain⟨l,b,xs,zs,rfl,rfl,hH,hB,hz,q⟩:=h;cases rx;obtain⟨u,rfl,ru⟩:=rv.one;cases ru;obtain⟨z,its,n,r,hl,e⟩:=I.lstM hH;obtain⟨z2,W,n2,r2,ik,e2⟩:=I.lstM hB;have hsz:its.toArray.size+W.toArray.size<=sizeLine:=by rw[v9,v9];lia
 have R:¬(!its.toArray.isEmpty&&Builtin.List.listTooLong (its.toArray.size+W.toArray.size))=Y:=by rw[LY hsz,Bool.and_false];exact vf
 refine call_meets F.slot_list_extend ⟨_,e,rfl⟩ F.entry_list_extend (F.args_list_extend_2 _ _) (AutoSeq1.list_extend_list_list_0 l its.toArray n b W.toArray n2 R (by rw[v9];lia) (by lia)) ⟨e,e2,?_⟩;refine⟨.non,_,I.lset (its':=its++W) hH e Ab (r.append r2) ?_,rfl,q⟩;rw[vt];lia
def aEB:R2:=λx y H Q=>∃l b xs zs,x=.ref l/\y=.ref b/\H l=O (.lst xs)/\H b=O (.lst zs)/\xs.length+zs.length<=sizeLine/\∀p,H p=U->Q (.ref p) (upd H p (.lst (xs++zs)))
def LL:ba X (binaryOp .Add) aEB:=by
 intro pins s V H x y v u Q I rx W h;obtain⟨l,b,xs,zs,rfl,rfl,hH,hB,hz,q⟩:=h;cases rx;cases W;obtain⟨z,its,n,r,hl,e⟩:=I.lstM hH;obtain⟨z2,R,n2,r2,ik,e2⟩:=I.lstM hB;refine PySem.P.add_list e e2 ?_ (by rw[v9,v9];lia);have ea:its.toArray++R.toArray=(its++R).toArray:=by simp
 rw[ea];exact⟨.ref _,_,I.lnew (t':=s.toks) (r.append r2) (by rw[vt];lia),rfl,q _ I.fresh⟩
end
end L2
namespace Att
open PySem PySem.W PySem.Calls PyProof.Rows
def oX{P:Params}{h:Heap}:∀(ns:List Int) (vs:List Value),WellAll P h vs (ns.map WData.int)->IntsAre vs ns:=by
 intro ns;induction ns with
 |nil=>intro vs w;rw[map_nil]at w;cases w;exact .nil
 |cons n ns z=>
  intro vs w;rw[vz]at w;cases w with
  |cons a b=>cases a;exact .cons _ _ (z _ b)
def GI{l:OpenLaw}{n:Nat}(hn:l.most=O n){P:Params}{h:Heap}{args:List WData}{vals:List Value} (z:l.row.toRowW.claim.pre args=Y) (W:WellAll P h vals args):∃a vs ns,vals=[Value.ref a]/\args=[WData.list (ns.map WData.int)]/\h.get? a=O {cls:=.type "list",data:=.seq vs.toArray}/\IntsAre vs ns/\ns.length<=n:=by
 have hsh:WShape.hasAll [] args [.list .int]=Y:=(pre_splitW z).1;have hc:l.pre.holds [] {args:=args}=Y:=(pre_splitW z).2;obtain⟨d,r,rfl,h1,h2⟩:=hasAllW_cons hsh;obtain rfl:=hasAllW_nil h2;obtain⟨xs,rfl,h3⟩:=hasW_list h1;obtain⟨ns,rfl⟩:=items_int h3;have I:ns.length<=n:=by
  unfold OpenLaw.pre at hc;have h4:(WTm.not (.lt (.lit (.int (n:Int))) (.len (.arg 0)))).holds [] {args:=[.list (ns.map .int)]}=Y:=by have h4:=(holds_andW hc).1;rw[hn]at h4;exact h4
  have h5:=condW_of h4 (w_not (w_lt w_lit (w_len_list (w_arg rfl))));rw[uw]at h5;refine Nat.le_of_not_lt λq=>?_;have q':(n:Int)<((ns.length:Nat):Int):=by lia
  first
   | (rw[wa q']at h5;exact absurd h5 Aa)
   | (simp at h5;lia)
 cases W with
 |cons w1 w2=>
  cases w2;cases w1 with
  |list ho R=>exact⟨_,_,ns,rfl,rfl,ho,oX ns _ R,I⟩
def GO(l:OpenLaw)(args:List WData):l.row.toRowW.claim.post args (.bool Y) args=Y:=postW_of (r:=l.row.toRowW) (X:=(Y == Y)) (show WShape.has [] (.bool Y) .bool=Y by first|rfl|decide|simp[WShape.has,WShape.arms,WShape.armsAll])
 (show (WTm.eq .res (.lit (.bool Y))).value [] {args:=args,res:=O (.bool Y),after:=args}=O (.bool (Y == Y)) from w_eq_bool (w_res rfl) w_lit) rfl
def AB{l:OpenLaw}{n:Nat}{q:y8}{loose:List Str}{XP:(yb)->Heap->Prop}{YP:World->Heap->Prop}{d:DefRec} (hn:l.most=O n) (su:d.params.defaults=[]) (call:∀(w:World) (s₀ z:Shared) (mg mb:yb) (fa:Addr) (o:Obj) (pm cd doc:Value) (a:Addr) (vs:List Value) (ns:List Int),Ground q loose [] XP w s₀ mg mb z.heap->YP w z.heap ->z.heap.get? fa=O o->o.data=.func (docDef d.name d.params d.body d.scope pm cd doc)->z.heap.CodeRec cd d.name->mg d.name=O (.ref fa) ->z.heap.get? a=O {cls:=.type "list",data:=.seq vs.toArray}->IntsAre vs ns->ns.length<=n->z.gens=#[] ->codeAny (model l.prog w) callerA (.call (.ref fa) ⟨[.ref a],[]⟩) (λr s'=>r=.ok (.ret (.bool Y))/\OldK z.heap s'.heap/\s'.os=z.os/\AllBare s'.gens) z):WalkO q loose XP YP l.row.toRowW d [] (λf vs=>PySem.call f vs):=by intro w s₀ z mg mb G þ fa o pm cd doc dV kV ho hd fw hD jj hg args vals as R hlay hrd hwl jx;obtain rfl:dV=.none:=Dflts.none hD su;obtain rfl:kV=.none:=Dflts.noKw hD;obtain⟨a,vs,ns,rfl,rfl,W,I,hlen⟩:=GI hn R hwl;refine enter_call (codeAny_mono (call w s₀ z mg mb fa o pm cd doc a vs ns G þ ho (fd_plain hd) fw jj W I hlen hg) λr s' hq=>?_);obtain⟨rfl,h2,h3,h4⟩:=hq;exact⟨.inl ⟨.bool Y,.bool Y,[],rfl,λ_=>rfl,.bool Y,GO l _,λ_=>⟨List.Pairwise.nil,λ_ hm=>(nomatch hm)⟩⟩,h2,h3,h4⟩
end Att
namespace L2
open PySem PySem.Spec PyProof.Rows
variable {P:y8}{w:World}{a:Addr}{x:Str}{A ρ:Prop}{H H':Hp}{o:Option σ}{u:Value}{y:σ}{Q:y9}
theorem sL:∀{vs:List Value} {ns:List Int},IntsAre vs ns->aX (ns.map σ.int) vs
 |_,_,.nil=>.nil
 |_,_,.cons n t h=>.cons ⟨t,rfl⟩ (sL h)
def aDq(H:Hp):Prop:=∀b,H b=U\/∃o xs,H b=O (.frz o (.lst xs))
def MN{K:xx}{mg mb:yb}{CX:aq}{k:Nat}{fa:Addr}{fd:y7}{sp:Sp}{I:Shared}{vs:List Value}{ns:List Int} (KX:K.In I.heap) (i9:I.heap.Ns mainGlobals mg) (hb:I.heap.Ns builtinsNs mb) (hbb:∀x:Str,x≠"__name__"->mb x=bootBuiltins x) (hlim:I.heap.NoLimit) (hg:I.gens=#[]) (ha:I.heap.get? a=O {cls:=.type "list",data:=.seq vs.toArray}) (hi:IntsAre vs ns) (hl:ns.length<=sizeLine) (hr:Room k callerA) (F:∀base:Heap,K.In base->base.Ns mainGlobals mg->FnOk P w K mg base CX k fa fd [x] sp) (hbind:∀(s:Shared) (u:Value),BindsTo s fd ⟨[u],[]⟩ [(x,u)]) (ax:∀H:Hp,aDq H->SqL K H a (ns.map σ.int)->sp [.ref a] H (λv _=>v=.bl Y) λ_ _ _=>False) (hCX:∀H e s',CX [] H I (λ_ _ _=>False) e s'->False):codeAny (model P w) callerA (.call (.ref fa) ⟨[.ref a],[]⟩) (λr s'=>r=.ok (.ret (.bool Y))/\OldK I.heap s'.heap/\s'.os=I.os/\AllBare s'.gens) I:=by
 have rv:=sL hi;have lenV:=hi.length;have W:∀H:Hp,aDq H->SqL K H a (ns.map σ.int)->HOk P w H I.heap->(∀b,H b≠U->b=a)->(H a≠U->K.lookup a=U) ->codeAny (model P w) callerA (.call (.ref fa) ⟨[.ref a],[]⟩) (λr s'=>r=.ok (.ret (.bool Y))/\OldK I.heap s'.heap/\s'.os=I.os/\AllBare s'.gens) I:=by
  intro H hO hS hok hA hK;have mV:∀{b:Addr} {o:Obj},I.heap.get? b=O o->H b=U->(vY I.heap H).get? b=O o:=λe n=>NO e n;have qp:∀{b:Addr} {o:Obj} {es:Array DictEntry} {ep:Nat},I.heap.get? b=O o->o.data=.dict es ep->H b=U:=λ{b o es ep} e d=>by
   cases q:H b with
   |none=>rfl
   |some u=>have e':b=a:=hA b (by rw[q];simp);subst e';rw[ha]at e;cases e;have d':Data.seq vs.toArray _=Data.dict es ep:=d;cases d'
  have R:∀{b:Addr} {m:yb},I.heap.Ns b m->(vY I.heap H).Ns b m:=λ{b m} ⟨o,es,ep,e,d,r⟩=>⟨o,es,ep,mV e (qp e d),d,r⟩;have hKb:K.In (vY I.heap H):=λb o e=>mV (KX b o e) (by
   cases q:H b with
   |none=>rfl
   |some u=>have e':b=a:=hA b (by rw[q];simp);subst e';rw[hK (by rw[q];simp)]at e;cases e)
  have hM:Mod K mg (vY I.heap H):=⟨hKb,R i9,⟨mb,R hb,hbb⟩,let ⟨mc,h1,h2⟩:=hlim;⟨mc,R h1,h2⟩⟩;have e0:Env0 P w K mg (vY I.heap H) callerA [] I H:=⟨rfl,hM,λb o e=>WA e,Nat.le_of_eq (HV _ _),trivial,λb hb=>absurd (show b∈([]:List Addr) from hb) Ab,hok,.of_eq hg⟩;refine codeAny_mono ((F _ hKb (R i9)).run callerA [] I H ⟨[.ref a],[]⟩ [.ref a] [.ref a] _ _ hr e0 (hbind I (.ref a)) (.cons rfl .nil) (ax H hO hS)) λr s' h=>?_;cases r with
  |error e=>exact(hCX H e s' h).elim
  |ok fl=>
   cases fl with
   |next=>exact False.elim h
   |brk=>exact False.elim h
   |cont=>exact False.elim h
   |ret u=>
    obtain⟨v,H',os,bare,un,hok',r',q⟩:=h;have q':v=.bl Y:=q;subst q';obtain rfl:u=Value.bool Y:=r';refine⟨rfl,OldK.of_keep λb o e=>?_,os,bare⟩;cases q:H b with
    |none=>exact un.keep b o e q (by intro z;exact absurd (show b∈([]:List Addr) from z) Ab) Ab
    |some u=>rcases hO b with z|⟨ob,xs,z⟩;rw[q]at z;cases z;have z2:=un.frzs b ob _ z;obtain⟨e1,_⟩:=hok b _ z;obtain⟨e2,_⟩:=hok' b _ z2;rw[e]at e1;cases e1;exact e2
 cases hk:K.lookup a with
 |some o=>have e:=KX a o hk;rw[ha]at e;cases e;refine W (λ_=>U) (λ_=>.inl rfl) (.inr ⟨_,vs.toArray,_,hk,rfl,rfl,rfl,by rw[v9,lenV];exact hl,by simpa using rv⟩) (λb u z=>by have z':(U:Option HO)=O u:=z;cases z') (λb z=>absurd rfl z) λz=>absurd rfl z
 |none=>refine W (λb=>if b=a then O (.frz {cls:=.type "list",data:=.seq vs.toArray} (.lst (ns.map σ.int))) else U) (λb=>?_) (.inl (.inr ⟨{cls:=.type "list",data:=.seq vs.toArray},if_pos rfl⟩)) (λb u z=>?_) (λb z=>?_) λ_=>hk;by_cases hb:b=a;exact .inr ⟨_,_,if_pos hb⟩;exact .inl (if_neg hb);by_cases hb:b=a;have z':=(if_pos hb).symm.trans z;cases z';subst hb;exact⟨ha,by rw[uw];exact hl,vs,_,rv,ha⟩;have z':=(if_neg hb).symm.trans z;cases z';by_cases hb:b=a;exact hb;exact absurd (if_neg hb) z
def RT{l:PySem.W.OpenLaw}{n k:Nat}{q:y8}{loose:List Str}{XP:(yb)->Heap->Prop}{YP:World->Heap->Prop}{d:DefRec}{K:Params->xx}{CX:World->aq}{sp:World->Sp} (hn:l.most=O n) (lj:n<=sizeLine) (su:d.params.defaults=[]) (hr:Room k callerA) (hY:∀(w:World) (h:Heap),YP w h->(K w.params).In h) (F:∀(w:World) (mg:yb) (fa:Addr) (h:Heap),(K w.params).In h->h.Ns mainGlobals mg->mg d.name=O (.ref fa) ->∃fd:y7,(∀(s:Shared) (u:Value),BindsTo s fd ⟨[u],[]⟩ [(x,u)]) /\∀base:Heap,(K w.params).In base->base.Ns mainGlobals mg->FnOk l.prog w (K w.params) mg base (CX w) k fa fd [x] (sp w)) (ax:∀(w:World) (H:Hp) (a:Addr) (ns:List Int),ns.length<=n->aDq H->SqL (K w.params) H a (ns.map σ.int)->sp w [.ref a] H (λv _=>v=.bl Y) λ_ _ _=>False) (hCX:∀(w:World) (H:Hp) (s:Shared) (e:Value) (s':Shared),CX w [] H s (λ_ _ _=>False) e s'->False):PySem.W.WalkO q loose XP YP l.row.toRowW d [] (λf vs=>PySem.call f vs):=by refine Att.AB hn su λw s₀ R mg mb fa o pm cd doc a vs ns G þ ho hd fw jj hobj I z hg=>?_;have KX:=hY w _ þ;obtain⟨fd,hb,hF⟩:=F w mg fa _ KX G.T.g jj;exact MN KX G.T.g G.T.b G.T.builtins G.T.nolimit hg hobj I (vm z lj) hr hF hb (λH hO hS=>ax w H a ns z hO hS) λH e s'=>hCX w H R e s'
noncomputable def inClass(s:Stmt)(j:Nat):Stmt:=match s with
 |.ClassDef _ _ _ body _ _ _ _ _ _ _=>body.getD j (.Pass ⟨0,0,0,0⟩)
 |_=>.Pass ⟨0,0,0,0⟩
noncomputable def eB(s:Stmt):Arguments:=match s with
 |.FunctionDef _ a _ _ _ _ _ _ _ _=>a
 |_=>{posonlyargs:=[],args:=[],vararg:=U,kwonlyargs:=[],kw_defaults:=[],kwarg:=U,defaults:=[]}
noncomputable def bA(s:Stmt):List Stmt:=match s with
 |.FunctionDef _ _ b _ _ _ _ _ _ _=>b
 |_=>[]
noncomputable def aE(s:Stmt):Scope:=match s with
 |.FunctionDef _ _ _ _ _ _ sc _ _ _=>sc
 |_=>{kind:=.function,names:=[],isGenerator:=J,isCoroutine:=J}
abbrev oz:aq:=λ_ _ _ _ _ _=>False
abbrev E0:XK:=λ_ _ _=>False
structure Fun (K:xx) (x qual:Str) (st:Stmt) (f:Addr) (fd:y7):Prop where
 ex:∃(oc:Value) (od:Option Addr) (kV doc pm:Value) (an:Option Addr) (aT ct:Value) (k8:Array (Option Value)),
  fd=PySem.W.fnOf x qual (eB st) (bA st) (aE st) .none kV doc pm an aT ct/\K.lookup f=O ⟨oc,od,.func fd,k8⟩/\codeIn K aT qual=Y
 kp:keepIn K (.ref f)=Y
section
variable {P:y8}{w:World}{K:xx}{mg:yb}{base:Heap}
def Fun.binds{qual:Str}{st:Stmt}{f:Addr}{fd:y7}{ps:List Str}(F:Fun K x qual st f fd) (h:∀(kV doc pm:Value) (an:Option Addr) (aT ct:Value) (us:List Value),us.length=ps.length->bindArgs (PySem.W.fnOf x qual (eB st) (bA st) (aE st) .none kV doc pm an aT ct) ⟨us,[]⟩=pure (ps.zip us)):Binds K fd ps []:=by obtain⟨oc,od,kV,doc,pm,an,aT,ct,k8,rfl,lk,z⟩:=F.ex;exact .all (h kV doc pm an aT ct)
end
def NM{A:Around}{k:Nat}(hr:Room k A):A.units+1<cLine:=lt_of_le_of_lt (Nat.add_le_add_left (by decide:1<=64) _) hr.units
section
variable {X:Cx}
def pv(i:Nat){pos:Pos}(hN:X.N[i]?=O x:=by rfl)(hv:uh X.env.scope x:=by first|exact Or.inl rfl|exact Or.inr (Or.inl rfl)|exact Or.inr (Or.inr rfl))(hd:(x == ("__debug__":Str))=J:=by decide)
 (z:(x == ("__classdict__":Str))=J:=by decide):PE X (.Name x pos) (pV i):=lN hN hv hd z
end
def oW(h:ρ):if J=Y then A else ρ:=by rw[if_neg vf];exact h
def yQ(h:A):if Y=Y then A else ρ:=by rw[if_pos rfl];exact h
def aFC{c:Prop}[Decidable c](hc:c)(h:ρ):if (!decide c)=Y then A else ρ:=by rw[wa hc];exact oW h
def aI(H H':Hp):Prop:=∀b o,H b=O o->H' b=O o
def aI.refl(H:Hp):aI H H:=λ_ _ h=>h
def aI.trans{H1 H2:Hp}(a:aI H H1)(b:aI H1 H2):aI H H2:=λc o h=>b c o (a c o h)
def aI.free(e:aI H H'){l:Addr}(h:H' l=Option.none):H l=Option.none:=by
 cases q:H l with
 |none=>rfl
 |some o=>rw[e l o q]at h;cases h
def aI.seq{K:xx}{xs:List σ}(e:aI H H')(h:SqL K H a xs):SqL K H' a xs:=by rcases h with (h|⟨o,h⟩)|h;exact .inl (.inl (e _ _ h));exact .inl (.inr ⟨o,e _ _ h⟩);exact .inr h
section
variable {κ:Type}[DecidableEq κ]
noncomputable def gW(kvs:List (κ×σ))(k:κ):Option σ:=(kvs.find? λz=>decide (z.1=k)).map (·.2)
noncomputable def putK(kvs:List (κ×σ))(k:κ)(v:σ):List (κ×σ):=
 if (kvs.any λz=>decide (z.1=k))=Y then kvs.map (λz=>if z.1=k then(z.1,v) else z) else kvs++[(k,v)]
def iH{p:κ×σ}{r:List (κ×σ)}{k:κ}(e:p.1=k):gW (p::r) k=O p.2:=by simp[gW,find?_cons,e]
def iI{p:κ×σ}{r:List (κ×σ)}{k:κ}(e:¬p.1=k):gW (p::r) k=gW r k:=by simp[gW,find?_cons,e]
theorem xE(k:κ):∀kvs:List (κ×σ),(kvs.any λz=>decide (z.1=k))=(gW kvs k).isSome
 |[]=>rfl
 |p::r=>by rw[any_cons];by_cases e:p.1=k;simp only[iH e,wa e,Bool.true_or,isSome_some];rw[iI e,uz e,Bool.false_or];exact xE k r
def oP(kvs:List (κ×σ))(k:κ)(v:σ):(putK kvs k v).length<=kvs.length+1:=by unfold putK;split;rw[uw];lia;rw[vt,xb,length_nil];lia
def KM{kvs:List (κ×σ)}{k:κ}(v:σ)(h:gW kvs k=U):putK kvs k v=kvs++[(k,v)]:=by unfold putK;rw[xE,h];exact if_neg Aa
def jM.isSome_eq{u:Option Value}(r:jM o u):o.isSome=u.isSome:=by
 cases o with
 |none=>cases u with
  |none=>rfl
  |some _=>exact(show False from r).elim
 |some _=>cases u with
  |none=>exact(show False from r).elim
  |some _=>rfl
theorem jM.getD{u:Option Value}{d:σ}{d':Value}(r:jM o u)(z:RelV d d'):RelV (o.getD d) (u.getD d'):=by
 cases o with
 |none=>cases u with
  |none=>exact z
  |some _=>exact(show False from r).elim
 |some _=>cases u with
  |none=>exact(show False from r).elim
  |some _=>exact r
def KV.val{kvs:List (κ×σ)}{vs:List (κ×Value)}(r:KV kvs vs)(k:κ):jM (gW kvs k) (valueAt vs k):=by
 unfold KV at r;induction r with
 |nil=>exact True.intro
 | @cons p q ps I h t R=>
  obtain⟨h1,h2⟩:=h;by_cases e:p.1=k;have e':q.1=k:=h1.symm.trans e;have b:valueAt (q::I) k=O q.2:=by simp[valueAt,find?_cons,e']
  rw[iH e,b];exact h2;have e':¬q.1=k:=λz=>e (h1.trans z);have b:valueAt (q::I) k=valueAt I k:=by simp[valueAt,find?_cons,e']
  rw[iI e,b];exact R
theorem KV.any{kvs:List (κ×σ)}{vs:List (κ×Value)}(r:KV kvs vs)(k:κ):(kvs.any λz=>decide (z.1=k))=vs.any λz=>decide (z.1=k):=by
 unfold KV at r;induction r with
 |nil=>rfl
 |cons h t I=>rw[any_cons,any_cons,I,h.1]
def KV.repl{kvs:List (κ×σ)}{vs:List (κ×Value)}(r:KV kvs vs)(k:κ)(R:RelV y u):KV (kvs.map λI=>if I.1=k then(I.1,y) else I) (vs.map λI=>if I.1=k then(I.1,u) else I):=by
 unfold KV at r ⊢;induction r with
 |nil=>exact .nil
 | @cons p q ps qs h t W=>rw[vz,vz];refine .cons ?_ W;obtain⟨h1,h2⟩:=h;by_cases e:p.1=k;rw[if_pos e,if_pos (h1.symm.trans e)];exact⟨h1,R⟩;rw[if_neg e,if_neg (λz=>e (h1.trans z))];exact⟨h1,h2⟩
def KV.put{kvs:List (κ×σ)}{vs:List (κ×Value)}(r:KV kvs vs)(k:κ)(z:RelV y u):KV (putK kvs k y) (stored vs k u):=by unfold putK stored;rw[r.any k];by_cases e:(vs.any λI=>decide (I.1=k))=Y;rw[if_pos e,if_pos e];exact r.repl k z;rw[if_neg e,if_neg e];exact Paired.snoc r ⟨rfl,z⟩
theorem KV.length{kvs:List (κ×σ)}{vs:List (κ×Value)}(r:KV kvs vs):kvs.length=vs.length:=Paired.length r
end
def EF{k:Key}(r:RelV (kV k) u):(bX P w).is k u=Y:=by
 cases k with
 |inl i=>obtain⟨t,e⟩:=(show ∃t,u=Value.int i t from r);subst e;exact yJ P w i t
 |inr x=>obtain⟨t,e⟩:=(show ∃t,u=Value.str x t from r);subst e;exact eL P w x t
section
variable {P:y8}{w:World}{H:Hp}{h:Heap}{a:Addr}
def aEm{u:HO}(ok:HOk P w H h)(e:Rd H a u):cY P w H h a u:=e.ok ok
def FI{kvs:List (Key×σ)}(ok:HOk P w H h)(e:Rd H a (.dK kvs)):kvs.length<=sizeLine/\(a == sysModules)=J/\∃vs,KV kvs vs/\h.DictOf (bX P w) a vs:=
 show cY P w H h a (.dK kvs) from aEm ok e
def uA{kvs:List (Key×σ)}(ok:HOk P w H h)(e:H a=O (.dK kvs)):kvs.length<=sizeLine/\(a == sysModules)=J/\∃vs,KV kvs vs/\h.DictOf (bX P w) a vs:=FI ok (.inl e)
end
def xB(H:Hp)(a:Addr)(y:σ)(r:Option σ):Prop:=∃kvs k,Rd H a (.dK kvs)/\y=kV k/\r=gW kvs k
def RQ(H:Hp)(a:Addr)(y v:σ)(H':Hp):Prop:=∃kvs k,H a=O (.dK kvs)/\y=kV k/\kvs.length<sizeLine/\H'=upd H a (.dK (putK kvs k v))
theorem xB.k{H:Hp}{a:Addr}{kvs:List (Key×σ)}{k:Key}(e:H a=O (.dK kvs)):xB H a (kV k) (gW kvs k):=⟨kvs,k,.inl e,rfl,rfl⟩
theorem RQ.k{H:Hp}{a:Addr}{kvs:List (Key×σ)}{k:Key}{v:σ}(e:H a=O (.dK kvs))(hl:kvs.length<sizeLine):RQ H a (kV k) v (upd H a (.dK (putK kvs k v))):=⟨kvs,k,e,rfl,hl,rfl⟩
section
variable {X:Cx}{pins:ya}{V:St}{H:Hp}{s:Shared}{a:Addr}{y v:σ}{u r:Value}{o:Option σ}{A:Around}{E:y9}
def Inv.big(I:Inv X pins V H s):sysModules<s.heap.objs.size:=by have h:mainGlobals<s.heap.objs.size:=(I.mod.glob.keeps I.bk).lt;exact Nat.lt_trans Aa h
def IP(hu:A.units+1<cLine)(I:Inv X pins V H s)(g:xB H a y (O v))(W:RelV y u)(h:∀R s',Inv X pins V H s'->RelV v R->Q R s'):wpAny (model X.prog X.w) A (getItem (.ref a) u) Q E s:=by obtain⟨kvs,k,e,ey,l⟩:=g;subst ey;obtain⟨z,hd,vs,rel,dd⟩:=FI I.hok e;obtain⟨R,hw,fe⟩:=jM.some_of (v:=v) (o:=valueAt vs k) (by rw[l];exact rel.val k);exact wpAny_getItem_of (EF W) dd.mapOf hw (h R _ (I.tok _) fe)
def aGY(hu:A.units+1<cLine)(I:Inv X pins V H s)(g:xB H a y o)(R:RelV y u)(h:∀s',Inv X pins V H s'->Q (.bool o.isSome) s'):wpAny (model X.prog X.w) A (compareOp .In u (.ref a)) Q E s:=by obtain⟨kvs,k,e,W,l⟩:=g;subst W;obtain⟨z,hd,vs,rel,dd⟩:=FI I.hok e;refine wpAny_in_of (EF R) hd dd.mapOf ?_;rw[<-(rel.val k).isSome_eq,<-l];exact h _ (I.tok _)
def FM{h':Heap}{t':Nat}{R:HO}(I:Inv X pins V H s)(mu:uq (H a))(hs:Heap.SameBut a s.heap h')(he:∃q,h'.get? a=O q)(new:cY X.prog X.w (upd H a R) h' a R):Inv X pins V (upd H a R) {s with heap:=h',toks:=t' }:=I.write (x:=a) (e:=a) mu (.inl rfl) (λb q hb z=>(hs.2 b hb).trans z) he new
def QN{h':Heap}{kvs:List (Key×σ)}{vs:List (Key×Value)}(z:kvs.length<=sizeLine)(hd:(a == sysModules)=J)(rel:KV kvs vs)(dd:h'.DictOf (bX P w) a vs):cY P w H' h' a (.dK kvs):=⟨z,hd,vs,rel,dd⟩
def IM{Q:Unit->Shared->Prop}(hu:A.units+1<cLine)(I:Inv X pins V H s)(g:RQ H a y v H')(R:RelV y u)(rv:RelV v r)(h:∀s',Inv X pins V H' s'->Q () s'):wpAny (model X.prog X.w) A (setItem (.ref a) u r) Q E s:=by
 obtain⟨kvs,k,e,W,l,eH⟩:=g;subst W eH;obtain⟨z,hd,vs,rel,dd⟩:=uA I.hok e;have hz:vs.length<=sizeLine:=by rw[<-rel.length];exact z
 have hl:(putK kvs k v).length<=sizeLine:=by have:=oP kvs k v;lia
 refine wpAny_setItem_pairs (hsz:=hz) (EF R) dd λh' ot hs=>h _ ?_;have he:∃q,h'.get? a=O q:=let ⟨q,_,_,hq,_⟩:=ot;⟨q,hq⟩
 exact FM I (by rw[e];exact True.intro) hs he (QN hl hd (rel.put k rv) ot)
end
def aDs(i:Expr):Prop:=∀z I,subscripted i J z I=operate [z,I] (getItem z I)
def DB{prog:y8}{A:Around}{E:y9}{s:Shared}{env:Env}{value z:Expr}{pos:Pos}{T id:String} (hl:typeLookup (.type T) "__getitem__"=pure (O (.builtin id))) (hs:aDs z) (h:wpAny (model prog w) A (eval value env) (λo s₁=>wpAny (model prog w) A (eval z env) (λi I=>I.TypeIs o T/\wpAny (model prog w) A (getItem o i) Q E I) E s₁) E s):wpAny (model prog w) A (eval (.Subscript value z pos) env) Q E s:=by
 refine Subscript_ (wx h (λo s₁ h₁=>wx h₁ (λi I R=>?_) λ_ _ x=>x) λ_ _ x=>x);obtain⟨hT,R⟩:=R;unfold subscriptTail;refine wt ?_;rw[getitemInPython_of_ne hT.not_modules];refine wt (wpAny_specialOf hT hl ?_);have fin:wpAny (model prog w) A (subscripted z J o i) (λr W=>wpAny (model prog w) A (letTemporaryGo value o r >>= λ_=>pure r) Q E W) E I:=by rw[hs o i];exact wpAny_operating (wx R (λr W h₃=>wt (wpAny_letTemporaryGo (wu h₃))) λ_ _ x=>x)
 first
  |exact wu (wt fin)
  |exact wt (wu (wt fin))
  |exact wt fin
def zL{X:Cx}{pins:ya}{V:St}{s:Shared}(I:Inv X pins V H s)(g:xB H a y o):s.TypeIs (.ref a) "dict":=by obtain⟨kvs,k,e,_,_⟩:=g;obtain⟨_,_,vs,_,dd⟩:=FI I.hok e;exact dd.typeIs
def aDX(td ty:TE):TE:=λV H Q=>td V H λx H1=>ty V H1 λy H2=>∃a v,x=.ref a/\xB H2 a y (O v)/\Q v H2
def aEj(td ty tv:TE):TS:=λD V H=>tv V H λv H1=>td V H1 λx H2=>ty V H2 λy I=>∃a z,x=.ref a/\RQ I a y v z/\D.nx V z
section
variable {X:Cx}{o i e value:Expr}{pos pos' tpos:Pos}{td ty tv:TE}
def DS(hu:X.A.units+1<cLine)(ho:PE X o td)(hi:PE X i ty)(hs:aDs i):PE X (.Subscript o i pos) (aDX td ty):=by intro pins s V H Q I h;refine DB PySem.F.slot_dict_getitem.lookup hs (ai (ho pins s V H _ I h) λu s1 ⟨x,H1,I1,R,W⟩=>ai (hi pins s1 V H1 _ I1 W) λiv s2 ⟨y,H2,I2,z,a,v,ex,g,q2⟩=>?_);subst ex;obtain rfl:u=Value.ref a:=R;exact⟨zL I2 g,IP hu I2 g z λw' s3 I3 fe=>⟨v,H2,I3,fe,q2⟩⟩
def UV(hu:X.A.units+1<cLine)(ho:PE X o td)(hi:PE X i ty)(hv:PE X value tv)(hs:swapsWith value (O (.Subscript o i pos')) pos.line X.env=pure J):PS X (.Assign [.Subscript o i pos'] value pos) (aEj td ty tv):=by intro pins s V H D I h;refine wpAny_Assign_Subscript (ai (hv pins s V H _ I h) λr s1 ⟨v,H1,I1,rv,q1⟩=>ai (ho pins s1 V H1 _ I1 q1) λu s2 ⟨x,H2,I2,R,q2⟩=>ai (hi pins s2 V H2 _ I2 q2) λiv s3 ⟨y,H3,I3,z,a,H4,ex,g,W⟩=>?_) hs;subst ex;obtain rfl:u=Value.ref a:=R;exact IM hu I3 g z rv λs4 I4=>⟨V,H4,I4,W⟩
end
def QO(h:Heap)(hb:sysModules<h.objs.size):cY P w H (h.push {cls:=.type "dict",data:=.dict #[]}) h.objs.size (.dK []):=⟨xq _,wg.mpr (Ne.symm (wj hb)),[],.nil,Heap.DictOf.new h⟩
def aAJ:TE:=λ_ H Q=>∀p,H p=U->Q (.ref p) (upd H p (.dK []))
section
variable {X:Cx}{pos:Pos}
def LB:PE X (.Dict [] [] pos) aAJ:=λpins s V H Q I h=>wpAny_Dict_empty ⟨.ref s.heap.objs.size,_,I.laid (a:=s.heap.objs.size) (o:=.dK []) (t':=s.toks) (λ_ _ q=>v3 _ q) (ux _) (QO s.heap I.big),rfl,h _ (I.hok.fresh (ux _))⟩
end
structure M1 (X:Cx) (o:Expr) (m:Str) (apos:Pos) (e:Expr) (br:Pos):Prop where
 base:attributeBase o m X.env (eval o X.env)=eval o X.env
 few:((backTo br (starEach [e] X.env)).all (λx=>!x.1)&&(backToKw br (keywordEach [] X.env)).all (λx=>x.1.isSome)
  && decide (([e]:List Expr).length+([]:List Keyword).length+(if ([]:List Keyword).isEmpty then 0 else 1)<30))=Y
 line:(apos.endLine == br.line)=Y
 trees:backTo br (starEach [e] X.env)=[(J,eval e X.env)]
structure M2 (X:Cx) (o:Expr) (m:Str) (apos:Pos) (e f:Expr) (br:Pos):Prop where
 base:attributeBase o m X.env (eval o X.env)=eval o X.env
 few:((backTo br (starEach [e,f] X.env)).all (λx=>!x.1)&&(backToKw br (keywordEach [] X.env)).all (λx=>x.1.isSome)
  && decide (([e,f]:List Expr).length+([]:List Keyword).length+(if ([]:List Keyword).isEmpty then 0 else 1)<30))=Y
 line:(apos.endLine == br.line)=Y
 trees:backTo br (starEach [e,f] X.env)=[(J,eval e X.env),(J,eval f X.env)]
end L2
namespace Att
open PySem PySem.W PySem.Calls PyProof.Rows
end Att
namespace L2
open PySem PySem.Spec PyProof.Rows
end L2
namespace Toy
open PySem L2
open PySem.W (fnOf)
noncomputable def top(i:Nat):Stmt:=PySem.Challenge.pw_leaffold_k12_held_bolts.main.body.getD i (.Pass ⟨0,0,0,0⟩)
def dF(n q:Str)(s:Stmt)(m:Str)(t c:Nat):y7:=fnOf n q (L2.eB s) (L2.bA s) (L2.aE s) .none .none .none (.str m t) U (.ref c) .none
def gq(n:Str)(i c:Nat):y7:=dF n n (top i) "law_leaffold_k12_held_bolts" 623 c
def dM1(n:Str)(i c:Nat):y7:=dF n n (top i) "leaffold.books" 575 c
def ox(n:Str)(i c:Nat):y7:=dF n n (top i) "leaffold.joints" 507 c
def i3(n:Str)(i c:Nat):y7:=dF n n (top i) "leaffold.piles" 342 c
noncomputable def oF(f:y7):Obj:=⟨.type "function",U,.func f,#[]⟩
noncomputable def oC(x:Array Value):Obj:=⟨.type "code",U,.fields x,#[]⟩
noncomputable def en(P:Params)(x:Str)(t:Nat)(v:Value):DictEntry:=⟨PyData.keyHash P x,.str x t,v⟩
noncomputable def j(i:Int):Value:=.int i 0
noncomputable def l(a:Nat):Value:=.ref a
noncomputable def cF(t:Nat):Value:=.str "/claim/cut.py" t
def CI:y7:=dF "__init__" "Pile.__init__" (L2.inClass (top 16) 0) "leaffold.piles" 342 146
def wH:y7:=dF "heap" "Pile.heap" (L2.inClass (top 16) 1) "leaffold.piles" 342 153
def NW:y7:=i3 "laid" 17 172
def OD:y7:=i3 zt 18 177
def OB:y7:=i3 zy 19 184
def aAg:y7:=i3 yd 20 191
def OK:y7:=i3 zk 21 198
def OT:y7:=i3 yt 22 203
def OM:y7:=i3 zj 23 208
def OF:y7:=i3 zm 24 213
def ZZ:y7:=i3 yr 25 220
def OP:y7:=i3 yx 26 225
def OQ:y7:=i3 yv 27 230
def aAd:y7:=i3 yh 28 235
def OC:y7:=i3 zv 29 242
def OA:y7:=ox zx 31 247
def OL:y7:=ox zg 32 254
def OI:y7:=ox zi 33 261
def ON:y7:=ox zf 34 268
def NV:y7:=ox "cut" 35 273
def NZ:y7:=ox z0 36 280
def aAb:y7:=ox yg 37 285
def aAf:y7:=dM1 ye 40 297
def NX:y7:=dM1 z5 41 302
def aAe:y7:=dM1 yf 42 309
def NY:y7:=dM1 z4 43 314
def OV:y7:=gq yo 45 321
def OJ:y7:=gq zh 46 328
def aAc:y7:=gq yj 47 335
def ZY:y7:=gq yu 48 342
def OE:y7:=gq zr 49 349
def OO:y7:=gq yw 50 354
def OG:y7:=gq zq 51 361
def OS:y7:=gq za 52 368
def OH:y7:=gq zl 53 375
def OR:y7:=gq yz 54 380
def OW:y7:=gq yp 55 387
def aAh:y7:=gq yc 56 394
def aAa:y7:=gq yq 57 401
def OU:y7:=gq yk 58 408
def CH:y7:=gq "law" 59 413
def oA(c:Nat)(x q:Str)(t n a k:Nat):Obj:=oC #[.str x t,.str q (t+1),cF (t+2),j n,j a,j 0,j 0,j 3,l (c-5),.bool Y,j 181,l (c-4),.none,l (c-3),l (c-2),l (c-1),j k,j n,cF (k+1)]
def oB(c:Nat)(x q:Str)(t n a k:Nat):Obj:=oC #[.str x t,.str q (t+1),cF (t+2),j n,j a,j 0,j 0,j 3,l (c-3),.bool Y,j 181,l (c-2),.none,.none,.none,l (c-1),j k,j n,cF (k+1)]
def pA(f:y7)(x:Str)(c t n a k:Nat):xx:=[(c,oA c x x t n a k),(c+1,oF f)]
def pB(f:y7)(x:Str)(c t n a k:Nat):xx:=[(c,oB c x x t n a k),(c+1,oF f)]
def pE(P:Params)(x:Str)(a t n:Nat):xx:=[(a-1,⟨.type "dict",U,.dict #[en P "__module__" t (.str "leaffold.errors" 194),en P "__firstlineno__" (t+4) (.int n (t+3)),en P "__static_attributes__" (t+5) (.ref (a-2)),en P "__doc__" (t+6) .none] 2,#[]⟩),(a,⟨.type "type",U,.cls ⟨x,[.ref 31],[.ref a,.ref 31,.type "ValueError",.type "Exception",.type "BaseException",.type "object"],a-1,x,Y,[],[],J,U,J⟩,#[O (.ref (a-9)),U,O (.str x (t-7)),O (.str x (t+1)),O (.builtin "ValueError.__new__"),O (.bool Y)]⟩)]
def KK(P:Params):xx:=List.flatten [[(3,⟨(.type "dict"),U,(.dict #[en P "__name__" 165 (.str "law_leaffold_k12_held_bolts" 623),en P "__doc__" 166 .none,en P "__package__" 167 .none,en P "__loader__" 168 (.builtin "__main__.__loader__#opaque"),en P "__spec__" 169 .none,en P "__annotations__" 170 (.ref 6),en P "__builtins__" 171 (.ref 4),en P "__file__" 173 (cF 172),en P "__cached__" 174 .none,en P "_wall" 193 (.ref 21),en P "LeafError" 213 (.ref 31),en P "NoSheet" 229 (.ref 44),en P "NoFold" 245 (.ref 56),en P "NoPlace" 261 (.ref 68),en P "Ajar" 277 (.ref 80),en P "Severed" 293 (.ref 92),en P "Bolted" 309 (.ref 104),en P "Loose" 325 (.ref 116),en P "NoWord" 341 (.ref 128),en P zd 345 (.int 64 344),en P yi 348 (.ref 131),en P zc 351 (.ref 132),en P ze 354 (.ref 133),en P "Pile" 409 (.ref 164),en P "laid" 415 (.ref 173),en P zt 421 (.ref 178),en P zy 433 (.ref 185),en P yd 440 (.ref 192),en P zk 449 (.ref 199),en P yt 455 (.ref 204),en P zj 461 (.ref 209),en P zm 467 (.ref 214),en P yr 480 (.ref 221),en P yx 486 (.ref 226),en P yv 492 (.ref 231),en P yh 498 (.ref 236),en P zv 506 (.ref 243),en P zx 514 (.ref 248),en P zg 526 (.ref 255),en P zi 537 (.ref 262),en P zf 550 (.ref 269),en P "cut" 556 (.ref 274),en P z0 568 (.ref 281),en P yg 574 (.ref 286),en P zb 589 (.ref 287),en P ye 597 (.ref 298),en P z5 603 (.ref 303),en P yf 616 (.ref 310),en P z4 622 (.ref 315),en P yo 632 (.ref 322),en P zh 639 (.ref 329),en P yj 648 (.ref 336),en P yu 660 (.ref 343),en P zr 673 (.ref 350),en P yw 679 (.ref 355),en P zq 689 (.ref 362),en P za 698 (.ref 369),en P zl 717 (.ref 376),en P yz 723 (.ref 381),en P yp 732 (.ref 388),en P yc 742 (.ref 395),en P yq 750 (.ref 402),en P yk 760 (.ref 409),en P "law" 766 (.ref 414)] 64),#[]⟩),(30,⟨(.type "dict"),U,(.dict #[en P "__module__" 203 (.str "leaffold.errors" 194),en P "__firstlineno__" 207 (.int 5 206),en P "__static_attributes__" 208 (.ref 29),en P "__weakref__" 210 (.ref 32),en P "__doc__" 211 .none] 3),#[]⟩),(31,⟨(.type "type"),U,(.cls ⟨"LeafError",[(.type "ValueError")],[(.ref 31),(.type "ValueError"),(.type "Exception"),(.type "BaseException"),(.type "object")],30,"LeafError",Y,[],[(.ref 44),(.ref 56),(.ref 68),(.ref 80),(.ref 92),(.ref 104),(.ref 116),(.ref 128)],J,U,J⟩),#[(O (.ref 22)),U,(O (.str "LeafError" 196)),(O (.str "LeafError" 204)),(O (.builtin "ValueError.__new__")),(O (.bool Y))]⟩)],pE P "NoSheet" 44 221 7,pE P "NoFold" 56 237 9,pE P "NoPlace" 68 253 11,pE P "Ajar" 80 269 13,pE P "Severed" 92 285 15,pE P "Bolted" 104 301 17,pE P "Loose" 116 317 19,pE P "NoWord" 128 333 21,[(131,⟨(.type "tuple"),U,(.seq #[(.str "west" 346),(.str "east" 347)] 0),#[]⟩),(132,⟨(.type "tuple"),U,(.seq #[(.str "north" 349),(.str "south" 350)] 0),#[]⟩),(133,⟨(.type "tuple"),U,(.seq #[(.str "west" 352),(.str "north" 353)] 0),#[]⟩),(146,oA 146 "__init__" "Pile.__init__" 367 30 6 376),(147,oF CI),(153,oA 153 "heap" "Pile.heap" 379 39 3 385),(154,oF wH),(163,⟨(.type "dict"),U,(.dict #[en P "__module__" 362 (.str "leaffold.piles" 342),en P "__firstlineno__" 366 (.int 28 365),en P "__init__" 378 (.ref 147),en P "heap" 387 (.ref 154),en P "done" 394 (.ref 161),en P "__static_attributes__" 402 (.ref 162),en P "__dict__" 404 (.ref 165),en P "__weakref__" 406 (.ref 166),en P "__doc__" 407 .none] 4),#[]⟩),(164,⟨(.type "type"),U,(.cls ⟨"Pile",[(.type "object")],[(.ref 164),(.type "object")],163,"Pile",Y,[],[],J,U,J⟩),#[U,U,(O (.str "Pile" 355)),(O (.str "Pile" 363)),(O (.builtin "object.__new__")),(O (.bool Y))]⟩)],pB NW "laid" 172 410 46 2 413,pB OD zt 177 416 51 2 419,pA OB zy 184 422 53 4 431,pA aAg yd 191 434 60 1 438,pA OK zk 198 441 63 3 447,pB OT yt 203 450 69 4 453,pB OM zj 208 456 74 1 459,pB OF zm 213 462 76 2 465,pA ZZ yr 220 468 78 4 478,pB OP yx 225 481 85 2 484,pB OQ yv 230 487 87 2 490,pB aAd yh 235 493 91 3 496,pA OC zv 242 499 96 2 504,pB OA zx 247 509 99 1 512,pA OL zg 254 515 101 1 524,pA OI zi 261 527 107 2 535,pA ON zf 268 538 116 1 548,pB NV "cut" 273 551 123 3 554,pA NZ z0 280 557 129 1 566,pB aAb yg 285 569 137 3 572,[(287,⟨(.type "dict"),U,(.dict #[en P "west" 577 (.ref 288),en P "east" 579 (.ref 289),en P "north" 581 (.ref 290),en P "south" 583 (.ref 291)] 4),#[]⟩),(288,⟨(.type "tuple"),U,(.seq #[(.bool J),(.int 0 578)] 0),#[]⟩),(289,⟨(.type "tuple"),U,(.seq #[(.bool J),(.int 1 580)] 0),#[]⟩),(290,⟨(.type "tuple"),U,(.seq #[(.bool Y),(.int 0 582)] 0),#[]⟩),(291,⟨(.type "tuple"),U,(.seq #[(.bool Y),(.int 1 584)] 0),#[]⟩)],pA aAf ye 297 590 143 2 595,pB NX z5 302 598 148 2 601,pA aAe yf 309 604 159 2 614,pB NY z4 314 617 166 2 620,pA OV yo 321 625 170 2 630,pA OJ zh 328 633 174 1 637,pA aAc yj 335 640 176 1 646,pA ZY yu 342 649 188 3 658,pA OE zr 349 661 193 3 671,pB OO yw 354 674 201 2 677,pA OG zq 361 680 215 2 687,pA OS za 368 690 223 2 696,pA OH zl 375 699 228 4 715,pB OR yz 380 718 239 2 721,pA OW yp 387 724 254 2 730,pA aAh yc 394 733 261 2 740,pA aAa yq 401 743 271 1 748,pA OU yk 408 751 277 2 758,pB CH "law" 413 761 288 1 764]
noncomputable def aas:List Addr:=[3,30,31,43,44,55,56,67,68,79,80,91,92,103,104,115,116,127,128,131,132,133,146,147,153,154,163,164,172,173,177,178,184,185,191,192,198,199,203,204,208,209,213,214,220,221,225,226,230,231,235,236,242,243,247,248,254,255,261,262,268,269,273,274,280,281,285,286,287,288,289,290,291,297,298,302,303,309,310,314,315,321,322,328,329,335,336,342,343,349,350,354,355,361,362,368,369,375,376,380,381,387,388,394,395,401,402,408,409,413,414]
def aFB:∀P,aas=(KK P).map (·.1):=λ_=>by kernel_rfl
abbrev lw:PySem.W.OpenLaw:=PySem.Challenge.rw_leaffold_k12_held_bolts
abbrev HH:PySem.W.Hook:=PySem.W.kHook KK aas aFB
open PySem.W PyProof.Rows
noncomputable def vw:y8:=view lw.prog [0,2,3,4,5,6,7,8,9,10,12,13,14,15,16,17,18,19,20,21,22,23,24,25,26,27,28,29,31,32,33,34,35,36,37,39,40,41,42,43,45,46,47,48,49,50,51,52,53,54,55,56,57,58,59]
abbrev Xt(s:Shared):Bool:=xlAt vw [] s&&recOk (RowW.records (OpenRow.toRowW (OpenLaw.row lw))) s
set_option maxHeartbeats 0 in
def vL{p q:y8}{loose:List Str}{Xt:Shared->Bool}{α:Type}{Yf:Shared->α}{Ya:World->α}{N:Nat}{g0:Bool}(z:∀w:World,(fencedOpening treeTable p w N).map (λs=>(s.heap,s.gens,s.drawn,s.toks))=O (boot_heap w.params,Array.mk [],boot_drawn,boot_toks)) (h:∀(w:World) (os:OsState),(topFrom treeTable p w N ⟨boot_heap w.params,Array.mk [],boot_drawn,boot_toks,os⟩).map (λs=>(openSeen q loose (importedModules p.main.body) Xt g0 s,Yf s))=O (openGood q loose,Ya w)):LeftO p q loose Xt Yf Ya N g0:=λw=>by
 obtain⟨⟨hp,gs,d,k,os⟩,e,e'⟩:=vc.mp (z w);obtain⟨rfl,rfl,rfl,rfl⟩:hp=boot_heap w.params/\gs=Array.mk []/\d=boot_drawn/\k=boot_toks:=by simpa using e'
 unfold openEnds;rw[e];exact h w os
def two{α β z:Type}{x:Option α}{f:α->β}{g:α->z}{b:β}{c:z}(h1:x.map f=O b)(h2:x.map g=O c):x.map (λs=>(f s,g s))=O (b,c):=by
 cases x with
 |none=>cases h1
 |some s=>cases h1;cases h2;rfl
noncomputable abbrev tF(w:World)(os:OsState)(b:Bool):Option Shared:=topFrom treeTable lw.prog (w.withFollow "special-get-raises" b) 7220 ⟨boot_heap (w.withFollow "special-get-raises" b).params,Array.mk [],boot_drawn,boot_toks,os⟩
abbrev sF(s:Shared):=openSeen vw ([zb]:List Str) (importedModules lw.prog.main.body) Xt Y s
abbrev oG:=openGood vw ([zb]:List Str)
set_option maxHeartbeats 0 in
def aCu(w:World)(os:OsState):(tF w os J).map (λs=>(sF s).1)=O oG.1:=by unfold tF sF topFrom;rewrite[Fast.te14082659384304107361,Fast.te4187177175401517315];kernel_rfl
set_option maxHeartbeats 0 in
def aCt(w:World)(os:OsState):(tF w os J).map (λs=>(sF s).2)=O oG.2:=by unfold tF sF topFrom;rewrite[Fast.te14082659384304107361,Fast.te4187177175401517315];kernel_rfl
set_option maxHeartbeats 0 in
def aCs(w:World)(os:OsState):(tF w os J).map (Hook.obs HH)=O (Hook.val HH (w.withFollow "special-get-raises" J)):=by unfold tF topFrom;rewrite[Fast.te14082659384304107361];kernel_rfl
set_option maxHeartbeats 0 in
def aCr(w:World)(os:OsState):(tF w os Y).map (λs=>(sF s).1)=O oG.1:=by unfold tF sF topFrom;rewrite[Fast.te14082659384304107361,Fast.te4187177175401517315];kernel_rfl
set_option maxHeartbeats 0 in
def aCq(w:World)(os:OsState):(tF w os Y).map (λs=>(sF s).2)=O oG.2:=by unfold tF sF topFrom;rewrite[Fast.te14082659384304107361,Fast.te4187177175401517315];kernel_rfl
set_option maxHeartbeats 0 in
def aCp(w:World)(os:OsState):(tF w os Y).map (Hook.obs HH)=O (Hook.val HH (w.withFollow "special-get-raises" Y)):=by unfold tF topFrom;rewrite[Fast.te14082659384304107361];kernel_rfl
def left:LeftO lw.prog vw ([zb]:List Str) Xt (Hook.obs HH) (Hook.val HH) 7220:=by
 refine vL (boot_open rfl rfl λs=>rfl) λw os=>?_;have e:=World.withFollow_self w "special-get-raises";cases hb:w.params.followText "special-get-raises" with
 |false=>rw[hb]at e;have h:=two (two (aCu w os) (aCt w os)) (aCs w os);unfold tF at h;rw[e]at h;exact h
 |true=>rw[hb]at e;have h:=two (two (aCr w os) (aCq w os)) (aCp w os);unfold tF at h;rw[e]at h;exact h
end Toy
namespace Z
open PySem
variable {x c n r h b w:Nat}{tg:List Nat}{tp y over:Bool}{i:Int}{sd:Side}{aa:List (Nat×Nat)}
inductive D where
 |non
 |bl (b:Bool)
 |int (i:Int)
 |str (x:Str)
 |lst (xs:List D)
 |tup (xs:List D)
 |obj (c:Str) (fs:List (Str×D))
 |exc (c:Str)
 |dct (kvs:List (Int×D))
 |frz (xs:List D)
noncomputable def bU(kvs:List (Int×D))(k:Int):Option D:=(kvs.find? λz=>decide (z.1=k)).map (·.2)
noncomputable def jP(kvs:List (Int×D))(k:Int)(d:D):List (Int×D):=if kvs.any (λz=>decide (z.1=k)) then kvs.map (λz=>if z.1=k then(z.1,d) else z) else kvs++[(k,d)]
set_option genCtorIdx false in
inductive Lit where
 |non|bl (b:Bool)|int (i:Int)|str (x:Str)
noncomputable def Lit.d:Lit->D
 |.non=>.non
 |.bl b=>.bl b
 |.int i=>.int i
 |.str x=>.str x
inductive Rs where
 |ok (d:D)
 |er (c:Str)
mutual
noncomputable def bx:D->D->Bool
 |.non,.non=>Y
 |.bl a,.bl b=>a == b
 |.bl a,.int b=>(if a then 1 else 0) == b
 |.int a,.bl b=>a == (if b then 1 else 0)
 |.int a,.int b=>a == b
 |.str a,.str b=>a == b
 |.lst a,.lst b=>lW a b
 |.tup a,.tup b=>lW a b
 |_,_=>J
noncomputable def lW:List D->List D->Bool
 |[],[]=>Y
 |x::xs,y::ys=>bx x y&&lW xs ys
 |_,_=>J
end
noncomputable def qo(x:Str):Bool:=x.cps.all (· < 0x110000)
noncomputable def flat:Nat->D->Bool
 |_,.non=>Y
 |_,.bl _=>Y
 |_,.int _=>Y
 |_,.str x=>qo x
 |n+1,.lst xs=>xs.all (flat n)
 |n+1,.tup xs=>xs.all (flat n)
 |_,_=>J
def plain(d:D):Bool:=flat 8 d
noncomputable def dh:D->Option Bool
 |.non=>O J
 |.bl b=>O b
 |.int i=>O (i != 0)
 |.lst xs=>O (!xs.isEmpty)
 |.tup xs=>O (!xs.isEmpty)
 |.frz xs=>O (!xs.isEmpty)
 |_=>U
inductive O2 where
 |add|sub|mul|fdiv|mod|pow|eq|ne|lt|le|gt|ge|isin|notin|is|isnot
noncomputable def big:Nat:=1000000
noncomputable def ixN(n:Nat)(i:Int):Option Nat:=if 0<=i then(if i<n then O i.toNat else U) else if -(n:Int)<=i then O (i+n).toNat else U
def atI{α:Type}(xs:List α)(i:Int):Option α:=(ixN xs.length i).bind λj=>xs[j]?
noncomputable def sIx(n d:Nat):Option Int->Nat
 |none=>d
 |some v=>if v<0 then(v+(n:Int)).toNat else min v.toNat n
def cut{α:Type}(xs:List α)(lo hi:Option Int):List α:=(xs.drop (sIx xs.length 0 lo)).take (sIx xs.length xs.length hi-sIx xs.length 0 lo)
noncomputable def isD:D->D->Option Bool
 |.non,.non=>O Y
 |.bl _,.non=>O J
 |.int _,.non=>O J
 |.str _,.non=>O J
 |.lst _,.non=>O J
 |.tup _,.non=>O J
 |.obj _ _,.non=>O J
 |.bl a,.bl b=>O (a == b)
 |_,_=>U
noncomputable def WC:D->D->Option D
 |.int i,.int j=>O (.int (i+j))
 |.str x,.str y=>if x.length+y.length<=big then O (.str (x++y)) else U
 |.lst xs,.lst ys=>if xs.length+ys.length<=big then O (.lst (xs++ys)) else U
 |.tup xs,.tup ys=>if xs.length+ys.length<=big then O (.tup (xs++ys)) else U
 |_,_=>U
noncomputable def aEX:D->D->Option D
 |.int i,.int j=>O (.int (i-j))
 |_,_=>U
noncomputable def aEY:D->D->Option D
 |.int i,.int j=>if (-(2 ^ 64)<i/\i<2 ^ 64)\/(-(2 ^ 64)<j/\j<2 ^ 64) then O (.int (i*j)) else U
 |_,_=>U
noncomputable def oDiv:D->D->Option D
 |.int i,.int j=>if 0<j/\j<1073741824 then O (.int (i / j)) else U
 |_,_=>U
noncomputable def oMod:D->D->Option D
 |.int i,.int j=>if 0<j then O (.int (i % j)) else U
 |_,_=>U
noncomputable def aBY:D->D->Option D
 |.int i,.int j=>if 0<=j/\j<=1000/\i.natAbs<2 ^ 64 then O (.int (i ^ j.toNat)) else U
 |_,_=>U
def oEq(a b:D):Option D:=if plain a&&plain b then O (.bl (bx a b)) else U
def oNe(a b:D):Option D:=if plain a&&plain b then O (.bl (!bx a b)) else U
noncomputable def oLt:D->D->Option D
 |.int i,.int j=>O (.bl (decide (i<j)))
 |_,_=>U
noncomputable def oLe:D->D->Option D
 |.int i,.int j=>O (.bl (decide (i<=j)))
 |_,_=>U
noncomputable def oGt:D->D->Option D
 |.int i,.int j=>O (.bl (decide (j<i)))
 |_,_=>U
noncomputable def oGe:D->D->Option D
 |.int i,.int j=>O (.bl (decide (j<=i)))
 |_,_=>U
noncomputable def oIn(a:D):D->Option D
 |.lst ys=>if plain a&&ys.all plain then O (.bl (ys.any λy=>bx y a)) else U
 |.tup ys=>if plain a&&ys.all plain then O (.bl (ys.any λy=>bx y a)) else U
 |.dct kvs=>match a with | .int k=>O (.bl (bU kvs k).isSome)|_=>U
 |_=>U
noncomputable def LW(a:D):D->Option D
 |.lst ys=>if plain a&&ys.all plain then O (.bl (!ys.any λy=>bx y a)) else U
 |.tup ys=>if plain a&&ys.all plain then O (.bl (!ys.any λy=>bx y a)) else U
 |_=>U
def oIs(a b:D):Option D:=(isD a b).map .bl
def LX(a b:D):Option D:=(isD a b).map λk=>.bl (!k)
def ah(o:O2)(a b:D):Option D:=match o with
 |.add=>WC a b
 |.sub=>aEX a b
 |.mul=>aEY a b
 |.fdiv=>oDiv a b
 |.mod=>oMod a b
 |.pow=>aBY a b
 |.eq=>oEq a b
 |.ne=>oNe a b
 |.lt=>oLt a b
 |.le=>oLe a b
 |.gt=>oGt a b
 |.ge=>oGe a b
 |.isin=>oIn a b
 |.notin=>LW a b
 |.is=>oIs a b
 |.isnot=>LX a b
noncomputable def kB:List D->Option (List Bool)
 |[]=>O []
 |.bl x::r=>(kB r).map (x :: ·)
 |_::_=>U
noncomputable def XU:List D->Option D
 |[.lst xs]=>(kB xs).map λbs=>.bl (bs.any id)
 |_=>U
inductive BF where
 |len|int|list|tuple|max|min|str|sorted|any
noncomputable def dW:List D->Option (List Int)
 |[]=>O []
 |.int i::r=>(dW r).map (i :: ·)
 |_::_=>U
noncomputable def nJ:Int->List Int->Int
 |m,[]=>m
 |m,x::r=>nJ (if x > m then x else m) r
noncomputable def qH:Int->List Int->Int
 |m,[]=>m
 |m,x::r=>qH (if x<m then x else m) r
noncomputable def XR:List D->Option D
 |[.lst xs]=>O (.int xs.length)
 |[.tup xs]=>O (.int xs.length)
 |[.frz xs]=>O (.int xs.length)
 |[.str x]=>if x.length<=big then O (.int x.length) else U
 |_=>U
noncomputable def XT:List D->Option D
 |[.int i]=>O (.int i)
 |[.bl b]=>O (.int (if b then 1 else 0))
 |_=>U
noncomputable def zD:List D->Option D
 |[.lst xs]=>O (.lst xs)
 |[.tup xs]=>O (.lst xs)
 |[.frz xs]=>O (.lst xs)
 |_=>U
noncomputable def wI:List D->Option D
 |[.lst xs]=>O (.tup xs)
 |[.tup xs]=>O (.tup xs)
 |_=>U
noncomputable def PZ:List D->Option D
 |[.int i,.int j]=>O (.int (if j > i then j else i))
 |[.lst xs]=>match dW xs with|some (i::r)=>O (.int (nJ i r))|_=>U
 |_=>U
noncomputable def XQ:List D->Option D
 |[.int i,.int j]=>O (.int (if j<i then j else i))
 |[.lst xs]=>match dW xs with|some (i::r)=>O (.int (qH i r))|_=>U
 |_=>U
noncomputable def lP:List D->Option (List (Int×Int))
 |[]=>O []
 |.tup [.int a,.int b]::r=>(lP r).map ((a,b):: ·)
 |_::_=>U
noncomputable def zN(p:Int×Int):D:=.tup [.int p.1,.int p.2]
noncomputable def dc(x y:Int×Int):Bool:=decide (x.1<y.1) || (x.1 == y.1&&decide (x.2<y.2))
noncomputable def BS(x:Int×Int):List (Int×Int)->List (Int×Int)
 |[]=>[x]
 |y::r=>if dc x y then x::y::r else y::BS x r
noncomputable def jO:List (Int×Int)->List (Int×Int)
 |[]=>[]
 |x::r=>BS x (jO r)
noncomputable def eC(ps:List (Int×Int)):Bool:=decide (ps.length<=64)&&decide ps.Nodup
def fW(ds:List D):Option (List D):=match lP ds with
 |some ps=>if eC ps then O ((jO ps).map zN) else U
 |none=>match dW ds with
  |some is=>if eC (is.map λi=>(i,0)) then O ((jO (is.map λi=>(i,0))).map λp=>.int p.1) else U
  |none=>U
noncomputable def kX:List D->Option D
 |[.lst xs]=>(fW xs).map .lst
 |_=>U
def bf(b:BF)(ds:List D):Option D:=match b with
 |.sorted=>kX ds
 |.len=>XR ds
 |.int=>XT ds
 |.list=>zD ds
 |.tuple=>wI ds
 |.max=>PZ ds
 |.min=>XQ ds
 |.any=>XU ds
 |_=>U
inductive Src where
 |seq|rng|rev|enum|rvr
noncomputable def cZ(lo hi:Int):List D:=(List.range (hi-lo).toNat).map λ(k:Nat)=>D.int (lo+k)
noncomputable def mS:Nat->List D->List D
 |_,[]=>[]
 |k,x::r=>.tup [.int k,x]::mS (k+1) r
noncomputable def eN(i:Int):Bool:=decide (-(2 ^ 62)<=i)&&decide (i<2 ^ 62)
noncomputable def ZV:D->Option (List D)
 |.lst xs=>O xs
 |.tup xs=>O xs
 |.frz xs=>O xs
 |_=>U
noncomputable def EJ:List D->Option (List D)
 |[.int j]=>if eN j&&decide (j.toNat<=big) then O (cZ 0 j) else U
 |[.int i,.int j]=>if eN i&&eN j&&decide ((j-i).toNat<=big) then O (cZ i j) else U
 |_=>U
noncomputable def aFD:List D->Option (List D)
 |[.int j]=>if decide (0<=j)&&decide (j.toNat<=big) then O (cZ 0 j).reverse else U
 |_=>U
noncomputable def yR:D->Option (List D)
 |.lst xs=>O xs.reverse
 |_=>U
noncomputable def BQ:D->Option (List D)
 |.lst xs=>O (mS 0 xs)
 |_=>U
def items(k:Src)(d:D):Option (List D):=match k with
 |.seq=>ZV d
 |.rng=>match d with
  |.tup as=>EJ as
  |_=>U
 |.rev=>yR d
 |.enum=>BQ d
 |.rvr=>match d with
  |.tup as=>aFD as
  |_=>U
set_option genInjectivity false
set_option genCtorIdx false in
inductive IE where
 |v (i:Nat)
 |L (l:Lit)
 |o (x:Str)
 |b (o:O2) (a b:IE)
 |neg (a:IE)
 |and (a b:IE)
 |or (a b:IE)
 |not (a:IE)
 |tr (a:IE)
 |q (c a b:IE)
 |h (o o':O2) (a b c:IE)
 |nil
 |cons (e es:IE)
 |tup (es:IE)
 |lst (es:IE)
 |ix (a i:IE)
 |ixm (x:Nat) (i:IE)
 |lenm (x:Nat)
 |sortm (x:Nat)
 |sl (a:IE) (bl:Bool) (lo:IE) (bh:Bool) (hi:IE)
 |slm (x:Nat) (bl:Bool) (lo:IE) (bh:Bool) (hi:IE)
 |fld (a:IE) (f:Str)
 |call (f:Str) (es:IE)
 |meth (o:IE) (m:Str) (es:IE)
 |mk (c:Str) (es:IE)
 |ρ (b:BF) (es:IE)
 |y (a:IE) (t:Str)
 |walk (k:Src) (a:IE)
 |c (n:Nat) (fr:List (Nat×Nat)) (tg:List Nat) (tp:Bool) (k:Src) (src test elt:IE)
 |inC (neg:Bool) (x:Str) (a:IE)
 |ixC (x:Str) (a:IE)
 |ixd (x:Nat) (i:IE)
set_option genInjectivity true
inductive Sl where
 |un
 |im (d:D)
 |mu (d:D)
 |ow (a b:List D)
structure GS where
 fn:Str->List D->Option Rs
 ff:Str->Bool
 me:Str->Str->List D->Option Rs
 mf:Str->Str->Bool
 mo:Str->List D->Option Rs
 cst:Str->Option D
 sub:Str->Str->Bool
 fl:Str->List Str
 xn:Str->Bool
 wd:Str->Str->Option Str
 dk:Str->Option (List (Str×D))
noncomputable def jY(G:GS)(t:Str):D->Option Bool
 |.non=>if t="int"\/t="bool"\/t="str"\/t="list"\/t="tuple" then O J else U
 |.bl _=>if t="int"\/t="bool" then O Y else if t="str"\/t="list"\/t="tuple" then O J else U
 |.int _=>if t="int" then O Y else if t="bool"\/t="str"\/t="list"\/t="tuple" then O J else U
 |.str _=>if t="str" then O Y else if t="int"\/t="bool"\/t="list"\/t="tuple" then O J else U
 |.lst _=>if t="list" then O Y else if t="int"\/t="bool"\/t="str"\/t="tuple" then O J else U
 |.tup _=>if t="tuple" then O Y else if t="int"\/t="bool"\/t="str"\/t="list" then O J else U
 |_=>U
def slot(B:List Sl)(i:Nat):Option D:=match B[i]? with
 |some (.im d)=>O d
 |_=>U
noncomputable def gM(B:List Sl)(i:Nat):Option (List D):=match B[i]? with
 |some (.im (.lst ds))=>O ds
 |some (.mu (.lst ds))=>O ds
 |_=>U
noncomputable def DF(B:List Sl)(i:Nat):Option (List (Int×D)):=match B[i]? with
 |some (.im (.dct ds))=>O ds
 |some (.mu (.dct ds))=>O ds
 |_=>U
noncomputable def iJ:Option Rs->Option D
 |some (.ok d)=>O d
 |_=>U
noncomputable def bN:Option D->Option (List D)
 |some (.tup ds)=>O ds
 |_=>U
noncomputable def intOf:Option D->Option Int
 |some (.int b)=>O b
 |_=>U
def frame(n:Nat)(fr:List (Nat×Nat))(B:List Sl):List Sl:=(List.range n).map λi=>match fr.lookup i with
 |some j=>B.getD j .un
 |none=>.un
noncomputable def bH:List Nat->List D->List Sl->Option (List Sl)
 |[],[],B=>O B
 |i::is,d::ds,B=>bH is ds (B.set i (.im d))
 |_,_,_=>U
def bB(tg:List Nat)(tp:Bool)(d:D)(B:List Sl):Option (List Sl):=
 if tp then(match d with | .tup ds=>bH tg ds B|_=>U) else bH tg [d] B
noncomputable def cK(f:D->Option (Option D)):List D->Option (List D)
 |[]=>O []
 |d::r=>do
  let o <-f d;let t <-cK f r;match o with
  |some y=>O (y::t)
  |none=>O t
def part(b:Bool)(o:Option D):Option (Option Int):=if b then(intOf o).map O else O U
noncomputable def ev(G:GS):IE->List Sl->Option D
 |.v i,B=>slot B i
 |.L l,_=>O l.d
 |.o x,_=>G.cst x
 |.b o a b,B=>do ah o (<-ev G a B) (<-ev G b B)
 |.neg a,B=>do match <-ev G a B with | .int i=>O (.int (-i))|_=>U
 |.and a b,B=>do match <-ev G a B with | .bl Y=>(match <-ev G b B with | .bl k=>O (.bl k)|_=>U) | .bl J=>O (.bl J)|_=>U
 |.or a b,B=>do match <-ev G a B with | .bl J=>(match <-ev G b B with | .bl k=>O (.bl k)|_=>U) | .bl Y=>O (.bl Y)|_=>U
 |.not a,B=>do match <-ev G a B with | .bl k=>O (.bl (!k))|_=>U
 |.tr a,B=>do (dh (<-ev G a B)).map .bl
 |.q c a b,B=>do match <-ev G c B with | .bl Y=>ev G a B | .bl J=>ev G b B|_=>U
 |.h o o' a b c,B=>do
  let y <-ev G b B;match <-ah o (<-ev G a B) y with
  |.bl Y=>ah o' y (<-ev G c B)
  |.bl J=>O (.bl J)
  |_=>U
 |.nil,_=>O (.tup [])
 |.cons e es,B=>do
  let d <-ev G e B;match <-ev G es B with
  |.tup ds=>O (.tup (d::ds))
  |_=>U
 |.tup es,B=>(bN (ev G es B)).map .tup
 |.lst es,B=>(bN (ev G es B)).map .lst
 |.ix a i,B=>do
  match <-ev G a B,<-ev G i B with
  |.lst xs,.int k=>atI xs k
  |.tup xs,.int k=>atI xs k
  |.frz xs,.int k=>atI xs k
  |.dct kvs,.int k=>bU kvs k
  |_,_=>U
 |.ixm x i,B=>do atI (<-gM B x) (<-intOf (ev G i B))
 |.lenm x,B=>do O (.int (<-gM B x).length)
 |.sortm x,B=>do kX [.lst (<-gM B x)]
 |.sl a bl lo bh hi,B=>do
  let d <-ev G a B;let l <-part bl (ev G lo B);let h <-part bh (ev G hi B);match d with
  |.lst xs=>O (.lst (cut xs l h))
  |.frz xs=>O (.lst (cut xs l h))
  |.tup xs=>if sIx xs.length 0 l=0/\sIx xs.length xs.length h=xs.length then U else O (.tup (cut xs l h))
  |_=>U
 |.slm x bl lo bh hi,B=>do
  let xs <-gM B x;let l <-part bl (ev G lo B);let h <-part bh (ev G hi B)
  O (.lst (cut xs l h))
 |.fld a f,B=>do match <-ev G a B with | .obj c fs=>if (G.fl c).contains f then fs.lookup f else U|_=>U
 |.call f es,B=>do iJ (G.fn f (<-bN (ev G es B)))
 |.meth o m es,B=>do match <-ev G o B with | .obj c fs=>(if (fs.lookup m).isNone then(bN (ev G es B)).bind λas=>iJ (G.me c m (.obj c fs::as)) else U)|_=>U
 |.mk c es,B=>do iJ (G.mo c (<-bN (ev G es B)))
 |.ρ b es,B=>do bf b (<-bN (ev G es B))
 |.y a t,B=>do (jY G t (<-ev G a B)).map .bl
 |.walk k a,B=>do (items k (<-ev G a B)).map .lst
 |.c n fr tg tp k src test elt,B=>do
  let ds <-items k (<-ev G src B)
  (cK (λd=>do
   let ρ1 <-bB tg tp d (frame n fr B);match <-ev G test ρ1 with
   |.bl Y=>(ev G elt ρ1).map O
   |.bl J=>O U
   |_=>U) ds).map .lst
 |.ixC x a,B=>do match <-ev G a B with | .str s=>(G.dk x).bind λkvs=>kvs.lookup s|_=>U
 |.inC neg x a,B=>do match <-ev G a B with | .str s=>(G.dk x).map λkvs=>.bl (neg != (kvs.lookup s).isSome)|_=>U
 |.ixd x i,B=>do bU (<-DF B x) (<-intOf (ev G i B))
noncomputable def ja(G:GS):IE->List Sl->Option Rs
 |.call f es,B=>(bN (ev G es B)).bind (G.fn f)
 |.meth o m es,B=>match ev G o B with
  |some (.obj c fs)=>if (fs.lookup m).isNone then(bN (ev G es B)).bind λas=>G.me c m (.obj c fs::as) else U
  |_=>U
 |_,_=>U
set_option genCtorIdx false in
inductive IS where
 |nop
 |seq (a b:IS)
 |ret (fr:Bool) (e:IE)
 |M (x:Nat)
 |retn
 |set (x:Nat) (e:IE)
 |setm (x:Nat) (e:IE)
 |setd (x:Nat)
 |t (tg:List Nat) (e:IE)
 |par (x y:Nat) (a b:IE)
 |g (c:IE) (a b:IS)
 |loop (tg:List Nat) (tp:Bool) (k:Src) (src:IE) (body:IS)
 |whl (c:IE) (body:IS)
 |app (x:Nat) (e:IE)
 |put (x:Nat) (k e:IE)
 |drop (e:IE)
 |frz (xs:List Nat) (st:IS)
 |rse (c:Str)
 |ext (x:Nat) (e:IE)
 |setp (x:Nat) (e:IE)
 |ifw (c:IE) (a b:IS)
 |appw (x:Nat) (k:Bool) (l:Lit)
 |retp (a b:IE)
 |tryp (ce:IE) (hc:Str) (i:Nat) (f:Str) (x:Nat)
inductive Out where
 |nx (B:List Sl)
 |rt (d:D)
 |bk (B:List Sl)
 |ct (B:List Sl)
 |er (c:Str)
noncomputable def bS(bind:D->List Sl->Option (List Sl))(body:List Sl->Option Out):List D->List Sl->Option Out
 |[],B=>O (.nx B)
 |d::r,B=>do
  let ρ1 <-bind d B;match <-body ρ1 with
  |.nx ρ2=>bS bind body r ρ2
  |.ct ρ2=>bS bind body r ρ2
  |.bk ρ2=>O (.nx ρ2)
  |o=>O o
noncomputable def eM(test:List Sl->Option D)(body:List Sl->Option Out):Nat->List Sl->Option Out
 | 0,_=>U
 |n+1,B=>do
  match <-test B with
  |.bl Y=>(match <-body B with
   |.nx ρ2=>eM test body n ρ2
   |.ct ρ2=>eM test body n ρ2
   |.bk ρ2=>O (.nx ρ2)
   |o=>O o)
  |.bl J=>O (.nx B)
  |_=>U
def XI(i:Nat)(B:List Sl):List Sl:=match B[i]? with
 |some (.mu d)=>B.set i (.im d)
 |_=>B
noncomputable def freeze:List Nat->List Sl->List Sl
 |[],B=>B
 |i::r,B=>freeze r (XI i B)
noncomputable def eI:Sl->Sl
 |.mu d=>.im d
 |s=>s
def view(B:List Sl):List Sl:=B.map eI
noncomputable def rS:Sl->Sl
 |.ow _ _=>.un
 |s=>s
noncomputable def jS:Sl->Sl
 |.mu d=>.im d
 |.ow a b=>.im (.tup [.lst a,.lst b])
 |s=>s
def viewW(B:List Sl):List Sl:=B.map jS
noncomputable def GJ:D->Bool
 |.non=>Y
 |.bl _=>Y
 |.int _=>Y
 |.str _=>Y
 |_=>J
def eu(G:GS)(e:IE)(B:List Sl):Option D:=match ev G e B with
 |some d=>O d
 |none=>match ev G e (view B) with
  |some d=>if GJ d then O d else U
  |none=>U
def aGH(o:D)(i:Int)(d:D):Option D:=match o with
 |.lst ds=>(ixN ds.length i).map λj=>.lst (ds.set j d)
 |.dct kvs=>if kvs.length<big then O (.dct (jP kvs i d)) else U
 |_=>U
noncomputable def ex(G:GS):IS->List Sl->Option Out
 |.nop,B=>O (.nx B)
 |.seq a b,B=>do
  match <-ex G a B with
  |.nx B'=>ex G b B'
  |o=>O o
 |.ret _ e,B=>(eu G e B).map .rt
 |.M x,B=>match B[x]? with|some (.mu d)=>O (.rt d)|_=>U
 |.retn,_=>O (.rt .non)
 |.set x e,B=>(eu G e B).map λd=>.nx (B.set x (.im d))
 |.setm x e,B=>do match <-ev G e B with | .lst ds=>O (.nx (B.set x (.mu (.lst ds))))|_=>U
 |.setd x,B=>O (.nx (B.set x (.mu (.dct []))))
 |.t tg e,B=>do (bB tg Y (<-ev G e B) B).map .nx
 |.par x y a b,B=>do
  let u <-ev G a B
  let v <-ev G b B
  O (.nx ((B.set x (.im u)).set y (.im v)))
 |.g c a b,B=>do match <-ev G c (view B) with | .bl Y=>ex G a B | .bl J=>ex G b B|_=>U
 |.loop tg tp k src body,B=>do bS (bB tg tp) (ex G body) (<-items k (<-ev G src B)) B
 |.whl c body,B=>eM (λB=>ev G c (view B)) (ex G body) 5000 B
 |.app x e,B=>do
  let d <-eu G e B
  match B[x]? with
  |some (.mu (.lst ds))=>if ds.length<big then O (.nx (B.set x (.mu (.lst (ds++[d]))))) else U
  |_=>U
 |.put x k e,B=>do
  let d <-eu G e B
  let i <-intOf (eu G k B)
  match B[x]? with
  |some (.mu o)=>(aGH o i d).map λo=>.nx (B.set x (.mu o))
  |_=>U
 |.drop e,B=>match ev G e (view B) with
  |some _=>O (.nx B)
  |none=>match ja G e (view B) with
   |some (.er k)=>if G.xn k then O (.er k) else U
   |_=>U
 |.frz xs st,B=>ex G st (freeze xs B)
 |.rse c,_=>if G.xn c then O (.er c) else U
 |.ext x e,B=>(ev G e B).bind λd=>match d,B[x]? with
  |.lst es,O (.mu (.lst ds))=>if ds.length+es.length<big then O (.nx (B.set x (.mu (.lst (ds++es))))) else U
  |_,_=>U
 |.setp x e,B=>match ev G e B with
  |some (.tup [.lst a,.lst b])=>O (.nx (B.set x (.ow a b)))
  |_=>U
 |.ifw c a b,B=>match ev G c (viewW B) with
  |some (.bl Y)=>ex G a B
  |some (.bl J)=>ex G b B
  |_=>U
 |.appw x k l,B=>match B[x]? with
  |some (.ow a b)=>if a.length<big/\b.length<big then O (.nx ((B.map rS).set x (if k then .ow a (b++[l.d]) else .ow (a++[l.d]) b))) else U
  |_=>U
 |.retp a b,B=>match ev G a B,ev G b B with
  |some (.lst x),O (.lst y)=>O (.rt (.tup [.lst x,.lst y]))
  |_,_=>U
 |.tryp ce hc i f x,B=>(ja G ce (view B)).bind λq=>match q with
  |.ok _=>O (.nx B)
  |.er k=>if G.xn k&&G.xn hc&&G.sub k hc then(G.wd f k).bind λy=>(match (B.set i .un)[x]? with
   |some (.mu (.lst ds))=>if ds.length<big then O (.nx ((B.set i .un).set x (.mu (.lst (ds++[.str y]))))) else U
   |_=>U) else U
noncomputable def aCc:IE->Bool
 |.c ..=>Y
 |_=>J
noncomputable def gF:IS->Bool
 |.seq a b=>gF a&&gF b
 |.ret fr e=>fr&&aCc e
 |.g _ a b=>gF a&&gF b
 |.ifw _ a b=>gF a&&gF b
 |.loop _ _ _ _ b=>gF b
 |.whl _ b=>gF b
 |.frz _ b=>gF b
 |_=>Y
def bK(G:GS)(n:Nat)(b:IS)(args:List D):Option Rs:=
 match ex G b (args.map .im++List.replicate (n-args.length) .un) with
 |some (.rt d)=>O (.ok d)
 |some (.nx _)=>O (.ok .non)
 |some (.er c)=>O (.er c)
 |_=>U
section
variable {G:GS}{B:List Sl}{a b e es src test elt:IE}{i j:Int}
def rE{k:Nat}:ev G (.v k) B=slot B k:=id rfl
def aDb{l:Lit}:ev G (.L l) B=O l.d:=id rfl
def aDd{x:Str}:ev G (.o x) B=G.cst x:=id rfl
def bF{o:O2}:ev G (.b o a b) B=(ev G a B).bind λx=>(ev G b B).bind λy=>ah o x y:=id rfl
def aDa:ev G (.neg a) B=(ev G a B).bind λx=>match x with | .int i=>O (.int (-i))|_=>U:=id rfl
def QK:ev G (.and a b) B=(ev G a B).bind λx=>match x with | .bl Y=>((ev G b B).bind λy=>match y with | .bl k=>O (.bl k)|_=>U) | .bl J=>O (.bl J)|_=>U:=id rfl
def aAl:ev G (.or a b) B=(ev G a B).bind λx=>match x with | .bl J=>((ev G b B).bind λy=>match y with | .bl k=>O (.bl k)|_=>U) | .bl Y=>O (.bl Y)|_=>U:=id rfl
def wK:ev G (.not a) B=(ev G a B).bind λx=>match x with | .bl k=>O (.bl (!k))|_=>U:=id rfl
def rG:ev G (.tr a) B=(ev G a B).bind λx=>(dh x).map .bl:=id rfl
def rH{c:IE}:ev G (.q c a b) B=(ev G c B).bind λx=>match x with | .bl Y=>ev G a B | .bl J=>ev G b B|_=>U:=id rfl
def zI{o o':O2}{c:IE}:ev G (.h o o' a b c) B=(ev G b B).bind λy=>(ev G a B).bind λx=>(ah o x y).bind λw=>match w with | .bl Y=>(ev G c B).bind λz=>ah o' y z | .bl J=>O (.bl J)|_=>U:=id rfl
def kC:ev G .nil B=O (.tup []):=id rfl
def aU:ev G (.cons e es) B=(ev G e B).bind λd=>(ev G es B).bind λt=>match t with | .tup ds=>O (.tup (d::ds))|_=>U:=id rfl
def rF:ev G (.tup es) B=(bN (ev G es B)).map .tup:=id rfl
def QG:ev G (.lst es) B=(bN (ev G es B)).map .lst:=id rfl
theorem aAm:ev G (.ix a b) B=(ev G a B).bind λx=>(ev G b B).bind λy=>(match x,y with
  |.lst xs,.int k=>atI xs k
  |.tup xs,.int k=>atI xs k
  |.frz xs,.int k=>atI xs k
  |.dct kvs,.int k=>bU kvs k
  |_,_=>U):=id rfl
def kD{f:Str}:ev G (.fld a f) B=(ev G a B).bind λx=>match x with | .obj c fs=>if (G.fl c).contains f then fs.lookup f else U|_=>U:=id rfl
def fL{f:Str}:ev G (.call f es) B=(bN (ev G es B)).bind λas=>iJ (G.fn f as):=id rfl
def FG{m:Str}:ev G (.meth a m es) B=(ev G a B).bind λx=>match x with | .obj c fs=>(if (fs.lookup m).isNone then(bN (ev G es B)).bind λas=>iJ (G.me c m (.obj c fs::as)) else U)|_=>U:=id rfl
def QF{c:Str}:ev G (.mk c es) B=(bN (ev G es B)).bind λas=>iJ (G.mo c as):=id rfl
def fP{f:BF}:ev G (.ρ f es) B=(bN (ev G es B)).bind λas=>bf f as:=id rfl
def aDc{t:Str}:ev G (.y a t) B=(ev G a B).bind λx=>(jY G t x).map .bl:=id rfl
def FE{k:Src}:ev G (.walk k a) B=(ev G a B).bind λx=>(items k x).map .lst:=id rfl
def lV:ev G (.ixm x b) B=(gM B x).bind λxs=>(intOf (ev G b B)).bind λk=>atI xs k:=id rfl
def YC:ev G (.lenm x) B=(gM B x).bind λxs=>O (.int xs.length):=id rfl
def zG:ev G (.sortm x) B=(gM B x).bind λxs=>kX [.lst xs]:=id rfl
theorem FF{bl bh:Bool}{lo hi:IE}:ev G (.sl a bl lo bh hi) B=(ev G a B).bind λd=>(part bl (ev G lo B)).bind λl=>(part bh (ev G hi B)).bind λh=>(match d with
  |.lst xs=>O (.lst (cut xs l h))
  |.frz xs=>O (.lst (cut xs l h))
  |.tup xs=>if sIx xs.length 0 l=0/\sIx xs.length xs.length h=xs.length then U else O (.tup (cut xs l h))
  |_=>U):=id rfl
theorem wM{fr:List (Nat×Nat)}{k:Src}:ev G (.c n fr tg tp k src test elt) B=(ev G src B).bind λs=>(items k s).bind λds=>(cK (λd=>(bB tg tp d (frame n fr B)).bind λρ1=>(ev G test ρ1).bind λw=>match w with
 |.bl Y=>(ev G elt ρ1).map O
 |.bl J=>O U
 |_=>U) ds).map .lst:=id rfl
def uM{ds:List D}:bN (O (.tup ds))=O ds:=id rfl
def VZ{d:D}:iJ (O (.ok d))=O d:=id rfl
def aET:ah .add (.int i) (.int j)=O (.int (i+j)):=id rfl
def aER:ah .sub (.int i) (.int j)=O (.int (i-j)):=id rfl
def EA(h0:-1000000<=i)(h1:i<=1000000):ah .mul (.int i) (.int j)=O (.int (i*j)):=if_pos (.inl ⟨z7,z7⟩)
def oJ(h0:0<j)(h1:j<1000000):ah .fdiv (.int i) (.int j)=O (.int (i / j)):=if_pos ⟨h0,z7⟩
def mM(h0:0<j):ah .mod (.int i) (.int j)=O (.int (i % j)):=if_pos h0
def aGJ:ah .lt (.int i) (.int j)=O (.bl (decide (i<j))):=id rfl
def aGK:ah .le (.int i) (.int j)=O (.bl (decide (i<=j))):=id rfl
def aBX:ah .gt (.int i) (.int j)=O (.bl (decide (j<i))):=id rfl
def aGL:ah .ge (.int i) (.int j)=O (.bl (decide (j<=i))):=id rfl
def BB:ah .eq (.int i) (.int j)=O (.bl (i == j)):=id rfl
def WB:ah .ne (.int i) (.int j)=O (.bl (!(i == j))):=id rfl
def aES{x:Bool}:ah .is (.bl x) (.bl y)=O (.bl (x == y)):=id rfl
def aBW{x:Bool}:ah .isnot (.bl x) (.bl y)=O (.bl (!(x == y))):=id rfl
def JT(h0:-1000000<=j)(h1:j<=1000000):eN j=Y:=by unfold eN;rw[va,vg,vg];lia
def BO(h:n<=1000000):items .rng (.tup [.int (n:Int)])=O (cZ 0 (n:Int)):=by
 have h1:(eN (n:Int)&&decide ((n:Int).toNat<=big))=Y:=by rw[JT z7 z7,Bool.true_and,vg];unfold big;lia
 simp only[items,EJ];rw[if_pos h1]
def slot0{d:D}{r:List Sl}:slot (.im d::r) 0=O d:=id rfl
def aEd{x:Sl}{r:List Sl}{k:Nat}:slot (x::r) (k+1)=slot r k:=id rfl
end
section
variable {G:GS}{B:List Sl}{a b:IS}{e c:IE}
def aY:ex G .nop B=O (.nx B):=id rfl
def QA:ex G (.seq a b) B=(ex G a B).bind λo=>match o with | .nx B'=>ex G b B'|o=>O o:=id rfl
def QD:ex G (.g c a b) B=(ev G c (view B)).bind λx=>match x with | .bl Y=>ex G a B | .bl J=>ex G b B|_=>U:=id rfl
def lU{d:D}(h:ev G e B=O d):eu G e B=O d:=by unfold eu;rw[h]
def bC{d:D}{f:Bool}(h:ev G e B=O d):ex G (.ret f e) B=O (.rt d):=by show (eu G e B).map Out.rt=_;rw[lU h];rfl
def aQ{d:D}(h:ev G e B=O d):ex G (.set x e) B=O (.nx (B.set x (.im d))):=by show (eu G e B).map _=_;rw[lU h];rfl
def fK{ds:List D}(h:ev G e B=O (.lst ds)):ex G (.setm x e) B=O (.nx (B.set x (.mu (.lst ds)))):=by show (ev G e B).bind _=_;rw[h];rfl
def bZ{k:Src}{d:D}{ds:List D}(h1:ev G e B=O d)(h2:items k d=O ds):ex G (.loop tg tp k e a) B=bS (bB tg tp) (ex G a) ds B:=by show (ev G e B).bind _=_;rw[h1];show ((items k d).bind _)=_;rw[h2];rfl
end
theorem rL{f:D->Option (Option D)}{h:D->D}:∀{ds:List D},(∀d∈ds,f d=O (O (h d)))->cK f ds=O (ds.map h)
 |[],_=>rfl
 |d::r,e=>by unfold cK;rw[e d (x8),rL λx hx=>e x (v8 _ hx)];rfl
def qI{lo hi:Int}{d:D}(h:d∈cZ lo hi):∃i:Int,d=.int i/\lo<=i/\i<hi:=by unfold cZ at h;simp only[wc,xp]at h;obtain⟨k,hk,rfl⟩:=h;exact⟨_,rfl,z7,z7⟩
def lK:cZ 0 (n:Int)=(List.range n).map λ(k:Nat)=>D.int k:=by unfold cZ;simp
theorem kW{bind:D->List Sl->Option (List Sl)}{body:List Sl->Option Out}(P:Nat->List Sl->Prop):∀{ds:List D} {k:Nat} {B:List Sl},P k B ->(∀(i:Nat) (d:D) (B:List Sl),ds[i]?=O d->P (k+i) B->∃ρ1,bind d B=O ρ1/\∃z,body ρ1=O (.nx z)/\P (k+i+1) z)->∃B',bS bind body ds B=O (.nx B')/\P (k+ds.length) B'
 |[],k,B,h,_=>⟨B,rfl,h⟩
 |d::r,k,B,h,st=>by
  obtain⟨ρ1,h1,z,h2,h3⟩:=st 0 d B rfl h;obtain⟨B',h4,h5⟩:=kW P (ds:=r) (k:=k+1) h3 λi d' B' e p=>by have:=st (i+1) d' B' (by simpa using e) (by rw[Nat.add_comm i 1,<-Nat.add_assoc];exact p);rw[show k+1+i+1=k+(i+1)+1 by lia];exact this
  refine⟨B',?_,by rw[xb,show k+(r.length+1)=k+1+r.length by lia];exact h5⟩;unfold bS;rw[h1];show ((body ρ1).bind _)=_;rw[h2];exact h4
def nW{bind:D->List Sl->Option (List Sl)}{body:List Sl->Option Out}(P:List Sl->Prop){ds:List D}{B:List Sl}(h0:P B)(st:∀d∈ds,∀B,P B->∃ρ1,bind d B=O ρ1/\∃z,body ρ1=O (.nx z)/\P z):∃B',bS bind body ds B=O (.nx B')/\P B':=kW (k:=0) (λ_=>P) h0 λi d B e p=>st d (u5 e) B p
def aR{G:GS}{b:IS}{args:List D}{B:List Sl}{d:D}(h0:args.map .im++List.replicate (n-args.length) .un=B)(h:ex G b B=O (.rt d)):bK G n b args=O (.ok d):=by unfold bK;rw[h0,h]
def DJ{G:GS}{b:IS}{args:List D}{B B':List Sl}(h0:args.map .im++List.replicate (n-args.length) .un=B)(h:ex G b B=O (.nx B')):bK G n b args=O (.ok .non):=by unfold bK;rw[h0,h]
def uY{G:GS}{b:IS}{args:List D}{B:List Sl}{k:Str}(h0:args.map .im++List.replicate (n-args.length) .un=B)(h:ex G b B=O (.er k)):bK G n b args=O (.er k):=by unfold bK;rw[h0,h]
def zH{G:GS}{B:List Sl}{fr:List (Nat×Nat)}{k:Src}{src test elt:IE}{s:D}{ds:List D}(h:D->D)(h1:ev G src B=O s)(h2:items k s=O ds) (h3:∀d∈ds,∃ρ1,bB tg tp d (frame n fr B)=O ρ1/\ev G test ρ1=O (.bl Y)/\ev G elt ρ1=O (h d)):ev G (.c n fr tg tp k src test elt) B=O (.lst (ds.map h)):=by rw[wM,h1,x5,h2,x5,rL (h:=h)];rfl;intro d hd;obtain⟨ρ1,e1,e2,e3⟩:=h3 d hd;rw[e1,x5,e2,x5];show Option.map O (ev G elt ρ1)=_;rw[e3];rfl
def bG:view []=[]:=id rfl
def fG{d:D}{r:List Sl}:view (.im d::r)=.im d::view r:=id rfl
def CQ{r:List Sl}:view (.un::r)=.un::view r:=id rfl
def RV{d:D}{r:List Sl}:view (.mu d::r)=.im d::view r:=id rfl
def QB{G:GS}{B:List Sl}{c:Str}(h:G.xn c=Y):ex G (.rse c) B=O (.er c):=if_pos h
def zE{G:GS}{B:List Sl}{e:IE}:ex G (.t tg e) B=(ev G e B).bind λd=>(bB tg Y d B).map .nx:=id rfl
def aH{G:GS}{B B':List Sl}{a b:IS}{o:Out}(h1:ex G a B=O (.nx B'))(h2:ex G b B'=O o):ex G (.seq a b) B=O o:=by rw[QA,h1];exact h2
def iO{G:GS}{B:List Sl}{a b:IS}{o:Out}(h1:ex G a B=O o)(h2:∀B',o≠.nx B'):ex G (.seq a b) B=O o:=by rw[QA,h1];cases o<;>first|rfl|exact absurd rfl (h2 _)
def jR{G:GS}{B:List Sl}{a b:IS}{c:IE}{o:Option Out}(h1:ev G c (view B)=O (.bl Y))(h2:ex G a B=o):ex G (.g c a b) B=o:=by rw[QD,h1];exact h2
def dG{G:GS}{B:List Sl}{a b:IS}{c:IE}{o:Option Out}(h1:ev G c (view B)=O (.bl J))(h2:ex G b B=o):ex G (.g c a b) B=o:=by rw[QD,h1];exact h2
def cD{G:GS}{B:List Sl}{a b:IE}{x:Bool}(ha:ev G a B=O (.bl x))(hb:x=J->ev G b B=O (.bl y)):ev G (.or a b) B=O (.bl (x || y)):=by
 rw[aAl,ha];cases x with
 |true=>rfl
 |false=>show ((ev G b B).bind _)=_;rw[hb rfl];rfl
def wN{G:GS}{B:List Sl}{a b:IE}{x:Bool}(ha:ev G a B=O (.bl x))(hb:x=Y->ev G b B=O (.bl y)):ev G (.and a b) B=O (.bl (x&&y)):=by
 rw[QK,ha];cases x with
 |false=>rfl
 |true=>show ((ev G b B).bind _)=_;rw[hb rfl];rfl
def aFQ{xs:List D}:bf .len [.lst xs]=O (.int xs.length):=id rfl
def aCT{xs:List D}:bf .len [.frz xs]=O (.int xs.length):=id rfl
def aCS{xs:List D}:bf .len [.tup xs]=O (.int xs.length):=id rfl
def aCR{xs:List D}:bf .list [.lst xs]=O (.lst xs):=id rfl
def XO{xs:List D}:bf .list [.tup xs]=O (.lst xs):=id rfl
def fE{α:Type}{xs:List α}{k:Nat}{x:α}(h:xs[k]?=O x):atI xs (k:Int)=O x:=by have hl:=(u0.mp h).1;unfold atI ixN;rw[if_pos z7,if_pos z7];simpa using h
def aA{α β:Type}{a:α}{f:α->Option β}:(O a).bind f=f a:=id rfl
def aB{α β:Type}{a:α}{f:α->β}:(O a).map f=O (f a):=id rfl
def aFz:(Lit.int i).d=.int i:=id rfl
def aGQ{b:Bool}:(Lit.bl b).d=.bl b:=id rfl
def aFx{x:Str}:(Lit.str x).d=.str x:=id rfl
def aFy:(Lit.non).d=.non:=id rfl
theorem zz:(∀G B k,ev G (.v k) B=slot B k)/\(∀G B l,ev G (.L l) B=O l.d)/\(∀G B x,ev G (.o x) B=G.cst x)/\(∀G B o a b,ev G (.b o a b) B=(ev G a B).bind λx=>(ev G b B).bind λy=>ah o x y) /\
  (∀G B a,ev G (.neg a) B=(ev G a B).bind λx=>match x with | .int i=>O (.int (-i))|_=>U) /\
  (∀G B a b,ev G (.and a b) B=(ev G a B).bind λx=>match x with | .bl Y=>((ev G b B).bind λy=>match y with | .bl k=>O (.bl k)|_=>U) | .bl J=>O (.bl J)|_=>U) /\
  (∀G B a b,ev G (.or a b) B=(ev G a B).bind λx=>match x with | .bl J=>((ev G b B).bind λy=>match y with | .bl k=>O (.bl k)|_=>U) | .bl Y=>O (.bl Y)|_=>U) /\
  (∀G B a,ev G (.not a) B=(ev G a B).bind λx=>match x with | .bl k=>O (.bl (!k))|_=>U)/\(∀G B a,ev G (.tr a) B=(ev G a B).bind λx=>(dh x).map .bl) /\
  (∀G B c a b,ev G (.q c a b) B=(ev G c B).bind λx=>match x with | .bl Y=>ev G a B | .bl J=>ev G b B|_=>U) /\
  (∀G B o o' a b c,ev G (.h o o' a b c) B=(ev G b B).bind λy=>(ev G a B).bind λx=>(ah o x y).bind λw=>match w with | .bl Y=>(ev G c B).bind λz=>ah o' y z | .bl J=>O (.bl J)|_=>U) /\
  (∀G B,ev G .nil B=O (.tup []))/\(∀G B e es,ev G (.cons e es) B=(ev G e B).bind λd=>(ev G es B).bind λt=>match t with | .tup ds=>O (.tup (d::ds))|_=>U) /\
  (∀G B es,ev G (.tup es) B=(bN (ev G es B)).map .tup)/\(∀G B es,ev G (.lst es) B=(bN (ev G es B)).map .lst) /\
  (∀G B a b,ev G (.ix a b) B=(ev G a B).bind λx=>(ev G b B).bind λy=>(match x,y with | .lst xs,.int k=>atI xs k | .tup xs,.int k=>atI xs k | .frz xs,.int k=>atI xs k | .dct kvs,.int k=>bU kvs k|_,_=>U)) /\
  (∀G B a f,ev G (.fld a f) B=(ev G a B).bind λx=>match x with | .obj c fs=>if (G.fl c).contains f then fs.lookup f else U|_=>U) /\
  (∀G B f es,ev G (.call f es) B=(bN (ev G es B)).bind λas=>iJ (G.fn f as)) /\
  (∀G B a m es,ev G (.meth a m es) B=(ev G a B).bind λx=>match x with | .obj c fs=>(if (fs.lookup m).isNone then(bN (ev G es B)).bind λas=>iJ (G.me c m (.obj c fs::as)) else U)|_=>U) /\
  (∀G B c es,ev G (.mk c es) B=(bN (ev G es B)).bind λas=>iJ (G.mo c as))/\(∀G B f es,ev G (.ρ f es) B=(bN (ev G es B)).bind λas=>bf f as) /\
  (∀G B a t,ev G (.y a t) B=(ev G a B).bind λx=>(jY G t x).map .bl)/\(∀G B k a,ev G (.walk k a) B=(ev G a B).bind λx=>(items k x).map .lst) /\
  (∀G B x b,ev G (.ixm x b) B=(gM B x).bind λxs=>(intOf (ev G b B)).bind λk=>atI xs k)/\(∀G B x,ev G (.lenm x) B=(gM B x).bind λxs=>O (.int xs.length)) /\
  (∀G B a bl lo bh hi,ev G (.sl a bl lo bh hi) B=(ev G a B).bind λd=>(part bl (ev G lo B)).bind λl=>(part bh (ev G hi B)).bind λh=>(match d with
   |.lst xs=>O (.lst (cut xs l h))
   |.frz xs=>O (.lst (cut xs l h))
   |.tup xs=>if sIx xs.length 0 l=0/\sIx xs.length xs.length h=xs.length then U else O (.tup (cut xs l h))
   |_=>U)):=
 ⟨λ_ _ _=>rE,λ_ _ _=>aDb,λ_ _ _=>aDd,λ_ _ _ _ _=>bF,λ_ _ _=>aDa,λ_ _ _ _=>QK,λ_ _ _ _=>aAl,λ_ _ _=>wK,λ_ _ _=>rG,λ_ _ _ _ _=>rH,λ_ _ _ _ _ _ _=>zI,λ_ _=>kC,λ_ _ _ _=>aU,λ_ _ _=>rF,λ_ _ _=>QG,λ_ _ _ _=>aAm,λ_ _ _ _=>kD,λ_ _ _ _=>fL,λ_ _ _ _ _=>FG,λ_ _ _ _=>QF,λ_ _ _ _=>fP,λ_ _ _ _=>aDc,λ_ _ _ _=>FE,λ_ _ _ _=>lV,λ_ _ _=>YC,λ_ _ _ _ _ _ _=>FF⟩
def yy:(∀ds,bN (O (.tup ds))=O ds)/\(∀d,iJ (O (.ok d))=O d)/\(∀i j,ah .add (.int i) (.int j)=O (.int (i+j)))/\(∀i j,ah .sub (.int i) (.int j)=O (.int (i-j)))/\(∀i j,ah .lt (.int i) (.int j)=O (.bl (decide (i<j))))/\(∀i j,ah .le (.int i) (.int j)=O (.bl (decide (i<=j)))) /\(∀i j,ah .gt (.int i) (.int j)=O (.bl (decide (j<i))))/\(∀i j,ah .ge (.int i) (.int j)=O (.bl (decide (j<=i))))/\(∀i j,ah .eq (.int i) (.int j)=O (.bl (i == j)))/\(∀i j,ah .ne (.int i) (.int j)=O (.bl (!(i == j))))/\(∀x y,ah .is (.bl x) (.bl y)=O (.bl (x == y)))/\(∀x y,ah .isnot (.bl x) (.bl y)=O (.bl (!(x == y)))) /\(∀d r,slot (.im d::r) 0=O d)/\(∀x r k,slot (x::r) (k+1)=slot r k)/\(view []=[])/\(∀d r,view (.im d::r)=.im d::view r)/\(∀r,view (.un::r)=.un::view r)/\(∀d r,view (.mu d::r)=.im d::view r) /\(∀xs,bf .len [.lst xs]=O (.int xs.length))/\(∀xs,bf .len [.frz xs]=O (.int xs.length))/\(∀xs,bf .len [.tup xs]=O (.int xs.length))/\(∀xs,bf .list [.lst xs]=O (.lst xs))/\(∀xs,bf .list [.tup xs]=O (.lst xs)) /\(∀i,(Lit.int i).d=.int i)/\(∀b,(Lit.bl b).d=.bl b)/\(∀x,(Lit.str x).d=.str x)/\((Lit.non).d=.non):=⟨λ_=>uM,λ_=>VZ,λ_ _=>aET,λ_ _=>aER,λ_ _=>aGJ,λ_ _=>aGK,λ_ _=>aBX,λ_ _=>aGL,λ_ _=>BB,λ_ _=>WB,λ_ _=>aES,λ_ _=>aBW,λ_ _=>slot0,λ_ _ _=>aEd,bG,λ_ _=>fG,λ_=>CQ,λ_ _=>RV,λ_=>aFQ,λ_=>aCT,λ_=>aCS,λ_=>aCR,λ_=>XO,λ_=>aFz,λ_=>aGQ,λ_=>aFx,aFy⟩
def z6:=And.intro zz (And.intro yy (And.intro @aA @aB))
namespace Pg
noncomputable def lT:IS:=(.ret Y (.c 4 [(2,0),(3,1)] [1] J .rng (.tup (.cons (.v 0) .nil)) (.L (.bl Y)) (.lst (.cons (.tup (.cons (.b .add (.b .mul (.v 3) (.v 2)) (.v 1)) (.cons (.L (.bl J)) (.cons (.L (.bl J)) .nil)))) .nil))))
noncomputable def aAn(i:Int)(e n:Bool):D:=.tup [.int i,.bl e,.bl n]
def oV(c y:Nat):List D:=(List.range c).map λx=>.lst [aAn (y*c+x:Nat) J J]
def yN{G:GS}{y:Nat}(hc:c<=64)(hy:y<=64):bK G 2 lT [.int c,.int y]=O (.ok (.lst (oV c y))):=by have e:=zH (G:=G) (B:=[.im (.int c),.im (.int y)]) (n:=4) (fr:=[(2,0),(3,1)]) (tg:=[1]) (tp:=J) (k:=.rng) (src:=.tup (.cons (.v 0) .nil)) (test:=.L (.bl Y)) (elt:=.lst (.cons (.tup (.cons (.b .add (.b .mul (.v 3) (.v 2)) (.v 1)) (.cons (.L (.bl J)) (.cons (.L (.bl J)) .nil)))) .nil)) (λd=>match d with | .int x=>.lst [aAn (y*c+x) J J]|_=>.non) (s:=.tup [.int c]) (by simp only[z6]) (BO z7) (λd hd=>by obtain⟨x,rfl,h1,h2⟩:=qI hd;refine⟨[.un,.im (.int x),.im (.int c),.im (.int y)],rfl,by simp only[z6],?_⟩;simp only[z6,EA (show (-1000000:Int)<=y by lia) (show (y:Int)<=1000000 by lia)];rfl);refine aR (B:=[.im (.int c),.im (.int y)]) rfl (bC (e.trans ?_));rw[lK];simp[oV]
noncomputable def bT(c r w h:Int)(T F S:List D):D:=.obj "Pile" [(zu,.int c),("rows",.int r),("wide",.int w),("high",.int h),("table",.lst T),("folds",.tup F),(zw,.tup S)]
def gL(c r:Nat):List D:=(List.range r).map λy=>.lst (oV c y)
noncomputable def vV:IS:=(.seq (.g (.or (.b .lt (.v 0) (.L (.int 1))) (.or (.b .lt (.v 1) (.L (.int 1))) (.b .gt (.b .mul (.v 0) (.v 1)) (.o zd)))) (.rse "NoSheet") .nop) (.seq (.set 2 (.c 3 [(2,0)] [1] J .rng (.tup (.cons (.v 1) .nil)) (.L (.bl Y)) (.call zt (.cons (.v 2) (.cons (.v 1) .nil))))) (.ret J (.mk "Pile" (.cons (.v 0) (.cons (.v 1) (.cons (.v 2) (.cons (.tup .nil) (.cons (.tup .nil) .nil)))))))))
section
variable {G:GS}
def HL(hm:G.cst zd = O (.int 64)){c r:Int}{B:List Sl}(hmul:ah .mul (.int c) (.int r)=O (.int (c*r)))(h0:slot B 0=O (.int c))(h1:slot B 1=O (.int r)):ev G (.or (.b .lt (.v 0) (.L (.int 1))) (.or (.b .lt (.v 1) (.L (.int 1))) (.b .gt (.b .mul (.v 0) (.v 1)) (.o zd)))) B=O (.bl (decide (c<1) || (decide (r<1) || decide (64<c*r)))):=by refine cD (by simp only[z6,h0]) λ_=>cD (by simp only[z6,h1]) λ_=>?_;simp only[z6,h0,h1,hmul,hm]
def WT(hm:G.cst zd = O (.int 64))(z:∀c y:Nat,c<=64->y<=64->G.fn zt [.int c,.int y]=O (.ok (.lst (oV c y)))) (W:∀(c r:Int) (T row:List D),T[0]?=O (.lst row)->G.mo "Pile" [.int c,.int r,.lst T,.tup [],.tup []]=O (.ok (bT c r row.length T.length T [] [])))  (hc:1<=c) (hr:1<=r) (R:c*r<=64):bK G 3 vV [.int c,.int r]=O (.ok (bT c r c r (gL c r) [] [])):=by
 have i0:c<=64:=vm (Nat.le_mul_of_pos_right c hr) R;have hr2:r<=64:=vm (Nat.le_mul_of_pos_left r hc) R;have e:=zH (G:=G) (B:=[.im (.int c),.im (.int r),.un]) (n:=3) (fr:=[(2,0)]) (tg:=[1]) (tp:=J) (k:=.rng) (src:=.tup (.cons (.v 1) .nil)) (test:=.L (.bl Y)) (elt:=.call zt (.cons (.v 2) (.cons (.v 1) .nil))) (λd=>match d with | .int y=>.lst (oV c y.toNat)|_=>.non) (s:=.tup [.int r]) (by simp only[z6]) (BO z7) (λd hd=>by obtain⟨y,rfl,h1,h2⟩:=qI hd;obtain⟨k,rfl⟩:∃k:Nat,y=k:=⟨y.toNat,z7⟩;refine⟨[.un,.im (.int k),.im (.int c)],rfl,by simp only[z6],?_⟩;simp only[z6,z c k i0 z7];rfl);have e2:(cZ 0 (r:Int)).map (λd=>match d with | .int y=>D.lst (oV c y.toNat)|_=>.non)=gL c r:=by rw[lK];simp[gL]
 rw[e2]at e;have I:ah .mul (.int (c:Int)) (.int (r:Int))=O (.int (c*r)):=EA z7 z7;have ht:(gL c r)[0]?=O (.lst (oV c 0)):=by unfold gL;rw[uv,xa hr];rfl
 have e3:=W c r (gL c r) (oV c 0) ht;have l1:(oV c 0).length=c:=by simp[oV]
 have l2:(gL c r).length=r:=by simp[gL]
 rw[l1,l2]at e3;refine aR (B:=[.im (.int c),.im (.int r),.un]) rfl (aH (dG ?_ aY) (aH (aQ e) (bC ?_)));rw[fG,fG,CQ,bG,HL hm I (by simp only[z6]) (by simp only[z6])];have h3:((c:Int)*r)<=64:=by exact_mod_cast R
 rw[uz (show ¬(c:Int)<1 by lia),uz (show ¬(r:Int)<1 by lia),uz (show ¬64<(c:Int)*r by lia)];rfl;show ev G _ [.im (.int c),.im (.int r),.im (.lst (gL c r))]=_;simp only[z6,e3]
end
noncomputable def cz:List Str:=[zu,"rows","wide","high","table","folds",zw]
section
variable {G:GS}{c r w h:Int}{T F S:List D}{B:List Sl}{a:IE}
def kO(hf:G.fl "Pile"=cz)(e:ev G a B=O (bT c r w h T F S)):ev G (.fld a zu) B=O (.int c):=by rw[kD,e];show (if (G.fl "Pile").contains _ then _ else _)=_;rw[hf];rfl
def vI(hf:G.fl "Pile"=cz)(e:ev G a B=O (bT c r w h T F S)):ev G (.fld a "rows") B=O (.int r):=by rw[kD,e];show (if (G.fl "Pile").contains _ then _ else _)=_;rw[hf];rfl
def iU(hf:G.fl "Pile"=cz)(e:ev G a B=O (bT c r w h T F S)):ev G (.fld a "wide") B=O (.int w):=by rw[kD,e];show (if (G.fl "Pile").contains _ then _ else _)=_;rw[hf];rfl
def iV(hf:G.fl "Pile"=cz)(e:ev G a B=O (bT c r w h T F S)):ev G (.fld a "high") B=O (.int h):=by rw[kD,e];show (if (G.fl "Pile").contains _ then _ else _)=_;rw[hf];rfl
def vH(hf:G.fl "Pile"=cz)(e:ev G a B=O (bT c r w h T F S)):ev G (.fld a "table") B=O (.lst T):=by rw[kD,e];show (if (G.fl "Pile").contains _ then _ else _)=_;rw[hf];rfl
def DW(hf:G.fl "Pile"=cz)(e:ev G a B=O (bT c r w h T F S)):ev G (.fld a "folds") B=O (.tup F):=by rw[kD,e];show (if (G.fl "Pile").contains _ then _ else _)=_;rw[hf];rfl
def kN(hf:G.fl "Pile"=cz)(e:ev G a B=O (bT c r w h T F S)):ev G (.fld a zw) B=O (.tup S):=by rw[kD,e];show (if (G.fl "Pile").contains _ then _ else _)=_;rw[hf];rfl
def LH{m:Str}{es:IE}{ds:List D}{o:Option Rs}(hm:([(zu,D.int c),("rows",.int r),("wide",.int w),("high",.int h),("table",.lst T),("folds",.tup F),(zw,.tup S)]:List (Str×D)).lookup m=U)(e:ev G a B=O (bT c r w h T F S))(ea:ev G es B=O (.tup ds))(z:G.me "Pile" m (bT c r w h T F S::ds)=o):ev G (.meth a m es) B=iJ o:=by rw[FG,e];show (if (List.lookup m _).isNone=Y then _ else _)=_;rw[hm,ea];show iJ (G.me "Pile" m (bT c r w h T F S::ds))=_;rw[z]
noncomputable def vW:IS:=(.seq (.g (.or (.b .lt (.v 1) (.L (.int 0))) (.or (.b .ge (.v 1) (.fld (.v 0) "wide")) (.or (.b .lt (.v 2) (.L (.int 0))) (.b .ge (.v 2) (.fld (.v 0) "high"))))) (.rse "NoPlace") .nop) (.ret Y (.ρ .list (.cons (.ix (.ix (.fld (.v 0) "table") (.v 2)) (.v 1)) .nil))))
def HW(hf:G.fl "Pile"=cz){x y:Int}:ev G (.or (.b .lt (.v 1) (.L (.int 0))) (.or (.b .ge (.v 1) (.fld (.v 0) "wide")) (.or (.b .lt (.v 2) (.L (.int 0))) (.b .ge (.v 2) (.fld (.v 0) "high"))))) [.im (bT c r w h T F S),.im (.int x),.im (.int y)] =O (.bl (decide (x<0) || (decide (w<=x) || (decide (y<0) || decide (h<=y))))):=by
 have z:ev G (.v 0) [.im (bT c r w h T F S),.im (.int x),.im (.int y)]=O (bT c r w h T F S):=by simp only[z6]
 refine cD (by simp only[z6]) λ_=>cD ?_ λ_=>cD (by simp only[z6]) λ_=>?_;rw[bF,iU hf z];simp only[z6];rw[bF,iV hf z];simp only[z6]
def XH(hf:G.fl "Pile"=cz){y:Nat}{row hp:List D}(hw:(x:Int)<w)(I:(y:Int)<h)(h1:T[y]?=O (.lst row))(h2:row[x]?=O (.lst hp)):bK G 3 vW [bT c r w h T F S,.int x,.int y]=O (.ok (.lst hp)):=by
 have z:ev G (.v 0) [.im (bT c r w h T F S),.im (.int x),.im (.int y)]=O (bT c r w h T F S):=by simp only[z6]
 refine aR (B:=[.im (bT c r w h T F S),.im (.int x),.im (.int y)]) rfl (aH (dG ?_ aY) (bC ?_));rw[fG,fG,fG,bG,HW hf];rw[uz (show ¬(x:Int)<0 by lia),uz (show ¬w<=(x:Int) by lia),uz (show ¬(y:Int)<0 by lia),uz (show ¬h<=(y:Int) by lia)];rfl;simp only[z6,vH hf z,fE h1,fE h2]
noncomputable def nR:IS:=(.seq (.g (.b .lt (.v 1) (.ρ .len (.cons (.v 0) .nil))) (.ret J (.ix (.v 0) (.v 1))) .nop) (.ret J (.L (.int 0))))
noncomputable def cf(ns:List Int)(k:Nat):Int:=ns.getD k 0
def CL{ns:List Int}{k:Nat}:bK G 2 nR [.frz (ns.map .int),.int k]=O (.ok (.int (cf ns k))):=by
 have e:ev G (.b .lt (.v 1) (.ρ .len (.cons (.v 0) .nil))) [.im (.frz (ns.map .int)),.im (.int k)]=O (.bl (decide ((k:Int)<ns.length))):=by simp only[z6,uw]
 by_cases hk:k<ns.length;refine aR (B:=[.im (.frz (ns.map .int)),.im (.int k)]) rfl (iO (jR ?_ (bC (d:=.int (cf ns k)) ?_)) (λ_ z=>by cases z));rw[fG,fG,bG,e,wa z7];have:(ns.map D.int)[k]?=O (.int (cf ns k)):=by unfold cf;rw[uv,u3,u7 hk];rfl
 simp only[z6,fE this];refine aR (B:=[.im (.frz (ns.map .int)),.im (.int k)]) rfl (aH (dG ?_ aY) (bC ?_));rw[fG,fG,bG,e,uz z7];have:cf ns k=0:=by unfold cf;rw[u3,getElem?_eq_none z7];rfl
 simp only[z6,this]
noncomputable def vU:IS:=(.ret J (.and (.y (.v 0) "int") (.not (.tr (.y (.v 0) "bool")))))
def yS:jY G "int" (.int i)=O Y:=by simp only[jY];rw[if_pos trivial]
def vQ:jY G "bool" (.int i)=O J:=by simp only[jY];rw[if_neg z9,if_pos (.inl trivial)]
def oR{b:Bool}:jY G "bool" (.bl b)=O Y:=by simp only[jY];rw[if_pos (.inr trivial)]
def vP{xs:List D}:jY G "list" (.lst xs)=O Y:=by simp only[jY];rw[if_pos trivial]
def vO{xs:List D}:jY G "tuple" (.tup xs)=O Y:=by simp only[jY];rw[if_pos trivial]
def JB:bK G 1 vU [.int i]=O (.ok (.bl Y)):=by refine aR (B:=[.im (.int i)]) rfl (bC ?_);simp only[z6,yS,vQ,dh];rfl
end
end Pg
theorem zS{α:Type}{f:D->Option (Option D)}{enc:α->D}{g:α->D}:∀{L:List α},(∀a∈L,f (enc a)=O (O (g a)))->cK f (L.map enc)=O (L.map g)
 |[],_=>rfl
 |a::r,e=>by rw[vz];unfold cK;rw[e a (x8),zS λx hx=>e x (v8 _ hx)];rfl
def cM{α:Type}{G:GS}{B:List Sl}{fr:List (Nat×Nat)}{k:Src}{src test elt:IE}{s:D}{L:List α}(enc g:α->D)(h1:ev G src B=O s)(h2:items k s=O (L.map enc)) (h3:∀a∈L,∃ρ1,bB tg tp (enc a) (frame n fr B)=O ρ1/\ev G test ρ1=O (.bl Y)/\ev G elt ρ1=O (g a)):ev G (.c n fr tg tp k src test elt) B=O (.lst (L.map g)):=by rw[wM,h1,x5,h2,x5,zS (g:=g)];rfl;intro a ha;obtain⟨ρ1,e1,e2,e3⟩:=h3 a ha;rw[e1,x5,e2,x5];show Option.map O (ev G elt ρ1)=_;rw[e3];rfl
def cR(h:n<=1000000):items .rng (.tup [.int (n:Int)])=O ((List.range n).map λ(k:Nat)=>D.int k):=by rw[BO h,lK]
def cJ{xs:List D}:items .seq (.lst xs)=O xs:=id rfl
def BP{xs:List D}:items .rev (.lst xs)=O xs.reverse:=id rfl
namespace Pg
abbrev Cell:=Int×Bool×Bool
abbrev gA:=List Cell
abbrev bO:=List gA
abbrev Table:=List bO
noncomputable def f6(c:Cell):D:=.tup [.int c.1,.bl c.2.1,.bl c.2.2]
def hE(h:gA):D:=.lst (h.map f6)
def sE(s:bO):D:=.lst (s.map hE)
def tE(T:Table):D:=.lst (T.map sE)
inductive Side|west|east|north|south deriving DecidableEq
noncomputable def Side.str:Side->Str
 |.west=>"west" | .east=>"east" | .north=>"north" | .south=>"south"
noncomputable def Side.up:Side->Bool
 |.west=>Y | .east=>Y | .north=>J | .south=>J
noncomputable def Side.near:Side->Bool
 |.west=>Y | .east=>J | .north=>Y | .south=>J
def CU(up:Bool)(c:Cell):Cell:=if up then(c.1,!c.2.1,c.2.2) else(c.1,c.2.1,!c.2.2)
def lD(up:Bool)(h:gA):gA:=h.reverse.map (CU up)
def fV(up:Bool)(p:bO):bO:=p.map (lD up)
def mq(u l:bO):bO:=(List.range (max u.length l.length)).map λk=>u.getD k []++l.getD k []
def dH(mv st:bO)(over:Bool):bO:=mq (if over then mv else st) (if over then st else mv)
def eY(sd:Side)(over:Bool)(c:Nat)(s:bO):bO:=
 if sd.near then dH (fV sd.up (s.take c).reverse) (s.drop c) over else(dH (fV sd.up (s.drop c)) (s.take c).reverse over).reverse
noncomputable def width(T:Table):Nat:=(T.getD 0 []).length
def transp(T:Table):Table:=(List.range (width T)).map λx=>T.map λs=>s.getD x []
def foldT(sd:Side)(over:Bool)(c:Nat)(T:Table):Table:=if sd.up then T.map (eY sd over c) else transp ((transp T).map (eY sd over c))
section
variable {G:GS}
noncomputable def cUP:D:=.tup [.str "west",.str "east"]
noncomputable def cLV:D:=.tup [.str "north",.str "south"]
noncomputable def cNR:D:=.tup [.str "west",.str "north"]
def BC{a:D}{ys:List D}{b:Bool}(hp:(plain a&&ys.all plain)=Y)(hb:(ys.any λy=>bx y a)=b):ah .isin a (.tup ys)=O (.bl b):=by simp only[ah,oIn];rw[if_pos hp,hb]
def NC:ah .isin (.str sd.str) cUP=O (.bl sd.up):=by cases sd<;>exact BC z9 z9
def aFF:ah .isin (.str sd.str) cLV=O (.bl (!sd.up)):=by cases sd<;>exact BC z9 z9
def aFE:ah .isin (.str sd.str) cNR=O (.bl sd.near):=by cases sd<;>exact BC z9 z9
noncomputable def nQ:IS:=(.ret J (.q (.b .lt (.v 1) (.ρ .len (.cons (.v 0) .nil))) (.ix (.v 0) (.v 1)) (.lst .nil)))
def BZ{p:bO}{k:Nat}:bK G 2 nQ [sE p,.int k]=O (.ok (hE (p.getD k []))):=by
 refine aR (B:=[.im (sE p),.im (.int k)]) rfl (bC ?_);have e:ev G (.b .lt (.v 1) (.ρ .len (.cons (.v 0) .nil))) [.im (sE p),.im (.int k)]=O (.bl (decide ((k:Int)<p.length))):=by unfold sE;simp only[z6,uw]
 by_cases hk:k<p.length;have h1:(p.map hE)[k]?=O (hE (p.getD k [])):=by rw[uv,u3,u7 hk];rfl
 rw[rH,e,wa z7];unfold sE;simp only[z6,fE h1];have h1:p.getD k []=[]:=by rw[u3,getElem?_eq_none z7];rfl
 rw[rH,e,uz z7,h1];simp only[z6];rfl
noncomputable def iC:IS:=(.seq (.g (.b .isin (.v 1) (.o yi)) (.ret Y (.c 4 [] [1,2,3] Y .rev (.v 0) (.L (.bl Y)) (.tup (.cons (.v 1) (.cons (.not (.tr (.v 2))) (.cons (.v 3) .nil)))))) .nop) (.ret Y (.c 4 [] [1,2,3] Y .rev (.v 0) (.L (.bl Y)) (.tup (.cons (.v 1) (.cons (.v 2) (.cons (.not (.tr (.v 3))) .nil)))))))
def pU(hc:G.cst yi = O cUP){h:gA}:bK G 2 iC [hE h,.str sd.str]=O (.ok (hE (lD sd.up h))):=by
 have I:ev G (.b .isin (.v 1) (.o yi)) (view [.im (hE h),.im (.str sd.str)])=O (.bl sd.up):=by simp only[z6,hc,NC]
 have er:items .rev (hE h)=O (h.reverse.map f6):=by unfold hE;rw[BP,List.map_reverse]
 cases hs:sd.up with
 |true=>refine aR (B:=[.im (hE h),.im (.str sd.str)]) rfl (iO (jR (I.trans (by rw[hs])) (bC (d:=hE (lD Y h)) ?_)) (λ_ z=>by cases z));have e:=cM (G:=G) (B:=[.im (hE h),.im (.str sd.str)]) (n:=4) (fr:=[]) (tg:=[1,2,3]) (tp:=Y) (k:=.rev) (src:=.v 0) (test:=.L (.bl Y)) (elt:=.tup (.cons (.v 1) (.cons (.not (.tr (.v 2))) (.cons (.v 3) .nil)))) (L:=h.reverse) f6 (λc=>f6 (CU Y c)) (by simp only[z6]) er (λc _=>⟨[.un,.im (.int c.1),.im (.bl c.2.1),.im (.bl c.2.2)],rfl,by simp only[z6],by simp only[z6,dh];rfl⟩);rw[e];unfold hE lD;rw[xi];rfl
 |false=>refine aR (B:=[.im (hE h),.im (.str sd.str)]) rfl (aH (dG (I.trans (by rw[hs])) aY) (bC ?_));have e:=cM (G:=G) (B:=[.im (hE h),.im (.str sd.str)]) (n:=4) (fr:=[]) (tg:=[1,2,3]) (tp:=Y) (k:=.rev) (src:=.v 0) (test:=.L (.bl Y)) (elt:=.tup (.cons (.v 1) (.cons (.v 2) (.cons (.not (.tr (.v 3))) .nil)))) (L:=h.reverse) f6 (λc=>f6 (CU J c)) (by simp only[z6]) er (λc _=>⟨[.un,.im (.int c.1),.im (.bl c.2.1),.im (.bl c.2.2)],rfl,by simp only[z6],by simp only[z6,dh];rfl⟩);rw[e];unfold hE lD;rw[xi];rfl
noncomputable def iB:IS:=(.ret Y (.c 3 [(2,1)] [1] J .seq (.v 0) (.L (.bl Y)) (.call yv (.cons (.v 1) (.cons (.v 2) .nil)))))
def pT(z:∀(h:gA) (sd:Side),G.fn yv [hE h,.str sd.str]=O (.ok (hE (lD sd.up h)))){p:bO}:bK G 2 iB [sE p,.str sd.str]=O (.ok (sE (fV sd.up p))):=by refine aR (B:=[.im (sE p),.im (.str sd.str)]) rfl (bC ?_);refine(cM (L:=p) hE (λh=>hE (lD sd.up h)) (s:=sE p) (by simp only[z6]) (by unfold sE;exact cJ) (λh _=>⟨[.un,.im (hE h),.im (.str sd.str)],rfl,by simp only[z6],by simp only[z6,z]⟩)).trans ?_;unfold sE fV;rw[xi];rfl
def aGP{a:Nat}:bf .max [.int (a:Int),.int (b:Int)]=O (.int ((max a b:Nat):Int)):=by simp only[bf,PZ];by_cases h:(b:Int) > a;rw[if_pos h];rw[Nat.max_eq_right z7];rw[if_neg h];rw[Nat.max_eq_left z7]
def aHb{a b:gA}(h:a.length+b.length<=1000000):ah .add (hE a) (hE b)=O (hE (a++b)):=by unfold hE;simp only[ah,WC];rw[if_pos (by simp only[uw];exact h),xf]
noncomputable def fU:IS:=(.seq (.set 3 (.q (.tr (.v 2)) (.v 0) (.v 1))) (.seq (.set 4 (.q (.tr (.v 2)) (.v 1) (.v 0))) (.seq (.set 5 (.ρ .max (.cons (.ρ .len (.cons (.v 3) .nil)) (.cons (.ρ .len (.cons (.v 4) .nil)) .nil)))) (.ret Y (.c 4 [(2,4),(3,3)] [1] J .rng (.tup (.cons (.v 5) .nil)) (.L (.bl Y)) (.b .add (.call zv (.cons (.v 3) (.cons (.v 1) .nil))) (.call zv (.cons (.v 2) (.cons (.v 1) .nil)))))))))
def Few(b:Nat)(p:bO):Prop:=∀h∈p,h.length<=b
def Few.at_{p:bO}(h:Few b p)(k:Nat):(p.getD k []).length<=b:=by
 rw[u3];cases e:p[k]? with
 |none=>exact xq _
 |some x=>exact h x (u5 e)
def nL(R:∀(p:bO) (k:Nat),G.fn zv [sE p,.int k]=O (.ok (hE (p.getD k [])))){mv st:bO}(l1:mv.length<=1000)(l2:st.length<=1000)(f1:Few 400000 mv)(f2:Few 400000 st):bK G 6 fU [sE mv,sE st,.bl over]=O (.ok (sE (dH mv st over))):=by
 have z:∀u l:bO,u.length<=1000->l.length<=1000->Few 400000 u->Few 400000 l->∀I s1 s2,ex G (.seq (.set 5 (.ρ .max (.cons (.ρ .len (.cons (.v 3) .nil)) (.cons (.ρ .len (.cons (.v 4) .nil)) .nil)))) (.ret Y (.c 4 [(2,4),(3,3)] [1] J .rng (.tup (.cons (.v 5) .nil)) (.L (.bl Y)) (.b .add (.call zv (.cons (.v 3) (.cons (.v 1) .nil))) (.call zv (.cons (.v 2) (.cons (.v 1) .nil))))))) [I,s1,s2,.im (sE u),.im (sE l),.un]=O (.rt (sE (mq u l))):=λu l a1 a2 W b2 I s1 s2=>by refine aH (aQ (d:=.int ((max u.length l.length:Nat):Int)) (by unfold sE;simp only[z6,uw,aGP])) (bC ?_);show ev G _ [I,s1,s2,.im (sE u),.im (sE l),.im (.int ((max u.length l.length:Nat):Int))]=_;refine(cM (L:=List.range (max u.length l.length)) (λk=>.int (k:Nat)) (λk=>hE (u.getD k []++l.getD k [])) (s:=.tup [.int ((max u.length l.length:Nat):Int)]) (by simp only[z6]) (cR z7) (λk _=>⟨[.un,.im (.int k),.im (sE l),.im (sE u)],rfl,by simp only[z6],?_⟩)).trans ?_;have:=W.at_ k;have:=b2.at_ k;simp only[z6,R,aHb (show (u.getD k []).length+(l.getD k []).length<=1000000 by lia)];unfold mq sE;rw[xi];rfl
 cases over with
 |true=>exact aR (B:=[.im (sE mv),.im (sE st),.im (.bl Y),.un,.un,.un]) rfl (aH (aQ (d:=sE mv) (by simp only[z6,dh])) (aH (aQ (d:=sE st) (by simp only[List.set];simp only[z6,dh])) (z mv st l1 l2 f1 f2 _ _ _)))
 |false=>exact aR (B:=[.im (sE mv),.im (sE st),.im (.bl J),.un,.un,.un]) rfl (aH (aQ (d:=sE st) (by simp only[z6,dh])) (aH (aQ (d:=sE mv) (by simp only[List.set];simp only[z6,dh])) (z st mv l2 l1 f2 f1 _ _ _)))
end
def QT{α:Type}{xs:List α}:cut xs U (O (c:Int))=xs.take c:=by simp only[cut,sIx];rw[if_neg z7];simp only[drop_zero,Nat.sub_zero,Int.toNat_natCast];by_cases h:c<=xs.length;rw[min_eq_left h];rw[min_eq_right z7,List.take_of_length_le z7,List.take_of_length_le z7]
def QU{α:Type}{xs:List α}:cut xs (O (c:Int)) U=xs.drop c:=by simp only[cut,sIx];rw[if_neg z7];simp only[Int.toNat_natCast];by_cases h:c<=xs.length;rw[min_eq_left h,List.take_of_length_le (by rw[xu];exact ux _)];rw[min_eq_right z7,List.drop_of_length_le z7,List.drop_of_length_le z7,List.take_nil]
def Few.sub{p q:bO}(h:Few b p)(s:∀x∈q,x∈p):Few b q:=λx hx=>h x (s x hx)
def Few.turn{p:bO}{u:Bool}(h:Few b p):Few b (fV u p):=by intro x hx;unfold fV at hx;obtain⟨y,hy,rfl⟩:=wc.mp hx;unfold lD;rw[uw,xr];exact h y hy
def CY{u l:bO}:(mq u l).length=max u.length l.length:=by unfold mq;simp
def lZ{u l:bO}:(dH u l over).length=max u.length l.length:=by
 unfold dH;cases over with
 |true=>exact CY
 |false=>rw[Nat.max_comm];exact CY
def kJ{u:Bool}{p:bO}:(fV u p).length=p.length:=by unfold fV;simp
def IC{s:bO}(h:c<=s.length):(eY sd over c s).length=max c (s.length-c):=by unfold eY;split;rw[lZ,kJ,xr,wk,xu,min_eq_left h];rw[xr,lZ,kJ,xr,wk,xu,min_eq_left h,Nat.max_comm]
section
variable {G:GS}
noncomputable def gT:IS:=(.seq (.set 4 (.walk .rev (.sl (.v 0) J (.L .non) Y (.v 3)))) (.seq (.set 5 (.sl (.v 0) Y (.v 3) J (.L .non))) (.seq (.g (.b .isin (.v 1) (.o ze)) (.ret J (.call yh (.cons (.call yx (.cons (.v 4) (.cons (.v 1) .nil))) (.cons (.v 5) (.cons (.v 2) .nil))))) .nop) (.seq (.set 6 (.call yh (.cons (.call yx (.cons (.v 5) (.cons (.v 1) .nil))) (.cons (.v 4) (.cons (.v 2) .nil))))) (.ret Y (.walk .rev (.v 6)))))))
def oZ(hc:G.cst ze = O cNR)(I:∀(p:bO) (sd:Side),G.fn yx [sE p,.str sd.str]=O (.ok (sE (fV sd.up p)))) (hl:∀(mv st:bO) (over:Bool),mv.length<=1000->st.length<=1000->Few 400000 mv->Few 400000 st->G.fn yh [sE mv,sE st,.bl over]=O (.ok (sE (dH mv st over)))) {s:bO}    (ls:s.length<=1000) (hf:Few 400000 s):bK G 7 gT [sE s,.str sd.str,.bl over,.int c]=O (.ok (sE (eY sd over c s))):=by
 have a1:Few 400000 (s.take c).reverse:=hf.sub λx hx=>List.mem_of_mem_take (List.mem_reverse.mp hx);have W:Few 400000 (s.drop c):=hf.sub λx hx=>mem_of_mem_drop hx;have l1:(s.take c).reverse.length<=1000:=by rw[xr,wk];lia
 have l2:(s.drop c).length<=1000:=by rw[xu];lia
 have e1:ev G (.walk .rev (.sl (.v 0) J (.L .non) Y (.v 3))) [.im (sE s),.im (.str sd.str),.im (.bl over),.im (.int c),.un,.un,.un]=O (sE (s.take c).reverse):=by unfold sE;simp only[z6,part,intOf];simp only[v7,if_false,if_true];simp only[z6,QT,BP];rw[<-List.map_take,<-List.map_reverse]
 have e2:ev G (.sl (.v 0) Y (.v 3) J (.L .non)) [.im (sE s),.im (.str sd.str),.im (.bl over),.im (.int c),.im (sE (s.take c).reverse),.un,.un]=O (sE (s.drop c)):=by unfold sE;simp only[z6,part,intOf];simp only[v7,if_false,if_true];simp only[z6,QU];rw[<-List.map_drop]
 have R:ev G (.b .isin (.v 1) (.o ze)) (view [.im (sE s),.im (.str sd.str),.im (.bl over),.im (.int c),.im (sE (s.take c).reverse),.im (sE (s.drop c)),.un])=O (.bl sd.near):=by simp only[z6,hc,aFE]
 refine aR (B:=[.im (sE s),.im (.str sd.str),.im (.bl over),.im (.int c),.un,.un,.un]) rfl (aH (aQ e1) (aH (aQ e2) ?_));show ex G _ [.im (sE s),.im (.str sd.str),.im (.bl over),.im (.int c),.im (sE (s.take c).reverse),.im (sE (s.drop c)),.un]=_;cases hn:sd.near with
 |true=>refine iO (jR (R.trans (by rw[hn])) (bC ?_)) (λ_ z=>by cases z);unfold eY;rw[if_pos hn];simp only[z6,I,hl (fV sd.up (s.take c).reverse) (s.drop c) over (by rw[kJ];exact l1) l2 a1.turn W]
 |false=>refine aH (dG (R.trans (by rw[hn])) aY) (aH (aQ (d:=sE (dH (fV sd.up (s.drop c)) (s.take c).reverse over)) ?_) (bC ?_));simp only[z6,I,hl (fV sd.up (s.drop c)) (s.take c).reverse over (by rw[kJ];exact l2) l1 W.turn a1];show ev G _ [.im (sE s),.im (.str sd.str),.im (.bl over),.im (.int c),.im (sE (s.take c).reverse),.im (sE (s.drop c)),.im (sE (dH (fV sd.up (s.drop c)) (s.take c).reverse over))]=_;unfold eY;rw[if_neg (by rw[hn];decide)];unfold sE;simp only[z6,BP];rw[<-List.map_reverse]
noncomputable def jZ:IS:=(.ret Y (.c 3 [(2,1)] [1] J .seq (.v 0) (.L (.bl Y)) (.ix (.v 1) (.v 2))))
def wX{T:Table}(h:∀s∈T,x<s.length):bK G 2 jZ [tE T,.int x]=O (.ok (sE (T.map λs=>s.getD x []))):=by
 refine aR (B:=[.im (tE T),.im (.int x)]) rfl (bC ?_);refine(cM (L:=T) sE (λs=>hE (s.getD x [])) (s:=tE T) (by simp only[z6]) (by unfold tE;exact cJ) (λs hs=>⟨[.un,.im (sE s),.im (.int x)],rfl,by simp only[z6],?_⟩)).trans ?_;have h1:(s.map hE)[x]?=O (hE (s.getD x [])):=by rw[uv,u3,u7 (h s hs)];rfl
 unfold sE;simp only[z6,fE h1];unfold sE;rw[xi];rfl
structure Rect (T:Table) (w h:Nat):Prop where
 len:T.length=h
 row:∀s∈T,s.length=w
 h1:1<=h
 w1:1<=w
theorem Rect.width{T:Table}(r:Rect T w h):Pg.width T=w:=by obtain⟨len,row,h1,w1⟩:=r;unfold Pg.width;rw[u3,u7 z7];exact row _ (getElem_mem _)
theorem Rect.transp{T:Table}{w h:Nat}(r:Rect T w h):Rect (transp T) h w:=by refine⟨?_,λs hs=>?_,r.w1,r.h1⟩;unfold Pg.transp;rw[uw,vh,r.width];unfold Pg.transp at hs;obtain⟨x,_,rfl⟩:=wc.mp hs;rw[uw,r.len]
noncomputable def jA:IS:=(.ret Y (.c 3 [(2,0)] [1] J .rng (.tup (.cons (.ρ .len (.cons (.ix (.v 0) (.L (.int 0))) .nil)) .nil)) (.L (.bl Y)) (.call zm (.cons (.v 2) (.cons (.v 1) .nil)))))
def rT(hc:∀(T:Table) (x:Nat),(∀s∈T,x<s.length)->G.fn zm [tE T,.int x]=O (.ok (sE (T.map λs=>s.getD x [])))){T:Table}(r:Rect T w h)(hw:w<=1000):bK G 1 jA [tE T]=O (.ok (tE (transp T))):=by
 refine aR (B:=[.im (tE T)]) rfl (bC ?_);have h0:(T.map sE)[0]?=O (sE (T.getD 0 [])):=by have:=r.len;have:=r.h1;rw[uv,u3,u7 z7];rfl
 have I:atI (T.map sE) 0=O (sE (T.getD 0 [])):=fE (k:=0) h0;refine(cM (L:=List.range (width T)) (λk=>.int (k:Nat)) (λx=>sE (T.map λs=>s.getD x [])) (s:=.tup [.int (width T:Nat)]) ?_ (cR (by rw[r.width];lia)) (λx hx=>⟨[.un,.im (.int x),.im (tE T)],rfl,by simp only[z6],?_⟩)).trans ?_;unfold tE;simp only[z6,I];unfold sE;simp only[z6,uw];rfl;have z:x<w:=by rw[<-r.width];exact xp.mp hx
 simp only[z6,hc T x (λs hs=>by rw[r.row s hs];exact z)];unfold tE transp;rw[xi];rfl
def sI(b:Nat)(T:Table):Prop:=∀s∈T,Few b s
theorem sI.transp{b:Nat}{T:Table}(h:sI b T):sI b (transp T):=by intro s hs;unfold Pg.transp at hs;obtain⟨x,_,rfl⟩:=wc.mp hs;intro y hy;obtain⟨s,hs,rfl⟩:=wc.mp hy;exact(h s hs).at_ x
def Rect.fold{T:Table}(r:Rect T w h)(h1:1<=c)(h2:c<w):Rect (T.map (eY sd over c)) (max c (w-c)) h:=by refine⟨by rw[uw,r.len],λs hs=>?_,r.h1,z7⟩;obtain⟨s',z,rfl⟩:=wc.mp hs;rw[IC (by rw[r.row s' z];lia),r.row s' z]
theorem Rect.foldT{T:Table}{w h:Nat}{sd:Side}{over:Bool}{c:Nat}(r:Rect T w h)(h1:1<=c)(h2:c<if sd.up then w else h):Rect (foldT sd over c T) (if sd.up then max c (w-c) else w) (if sd.up then h else max c (h-c)):=by
 unfold Pg.foldT;cases hs:sd.up with
 |true=>rw[hs]at h2;exact r.fold h1 h2
 |false=>rw[hs]at h2;exact(r.transp.fold h1 h2).transp
noncomputable def gS:IS:=(.seq (.g (.b .isin (.v 1) (.o yi)) (.ret Y (.c 5 [(2,3),(3,2),(4,1)] [1] J .seq (.v 0) (.L (.bl Y)) (.call yr (.cons (.v 1) (.cons (.v 4) (.cons (.v 3) (.cons (.v 2) .nil))))))) .nop) (.seq (.set 4 (.c 5 [(2,3),(3,2),(4,1)] [1] J .seq (.call zj (.cons (.v 0) .nil)) (.L (.bl Y)) (.call yr (.cons (.v 1) (.cons (.v 4) (.cons (.v 3) (.cons (.v 2) .nil))))))) (.ret J (.call zj (.cons (.v 4) .nil)))))
def oY(hc:G.cst yi = O cUP)(R:∀(T:Table) (w h:Nat),Rect T w h->w<=1000->G.fn zj [tE T]=O (.ok (tE (transp T)))) (hs:∀(s:bO) (sd:Side) (over:Bool) (c:Nat),s.length<=1000->Few 400000 s->G.fn yr [sE s,.str sd.str,.bl over,.int c]=O (.ok (sE (eY sd over c s)))) {T:Table}     (r:Rect T w h) (hw:w<=1000) (hh:h<=1000) (hf:sI 400000 T) (h1:1<=c) (h2:c<if sd.up then w else h):bK G 5 gS [tE T,.str sd.str,.bl over,.int c]=O (.ok (tE (foldT sd over c T))):=by
 have W:ev G (.b .isin (.v 1) (.o yi)) (view [.im (tE T),.im (.str sd.str),.im (.bl over),.im (.int c),.un])=O (.bl sd.up):=by simp only[z6,hc,NC]
 cases hu:sd.up with
 |true=>refine aR (B:=[.im (tE T),.im (.str sd.str),.im (.bl over),.im (.int c),.un]) rfl (iO (jR (W.trans (by rw[hu])) (bC ?_)) (λ_ z=>by cases z));refine(cM (L:=T) sE (λs=>sE (eY sd over c s)) (s:=tE T) (by simp only[z6]) (by unfold tE;exact cJ) (λs I=>⟨[.un,.im (sE s),.im (.int c),.im (.bl over),.im (.str sd.str)],rfl,by simp only[z6],?_⟩)).trans ?_;simp only[z6,hs s sd over c (by rw[r.row s I];exact hw) (hf s I)];unfold tE foldT;rw[if_pos hu,xi];rfl
 |false=>rw[hu]at h2;have h2:c<h:=h2;refine aR (B:=[.im (tE T),.im (.str sd.str),.im (.bl over),.im (.int c),.un]) rfl (aH (dG (W.trans (by rw[hu])) aY) (aH (aQ (d:=tE ((transp T).map (eY sd over c))) ?_) (bC ?_)));refine(cM (L:=transp T) sE (λs=>sE (eY sd over c s)) (s:=tE (transp T)) (by simp only[z6,R T w h r hw]) (by unfold tE;exact cJ) (λs I=>⟨[.un,.im (sE s),.im (.int c),.im (.bl over),.im (.str sd.str)],rfl,by simp only[z6],?_⟩)).trans ?_;simp only[z6,hs s sd over c (by rw[r.transp.row s I];exact hh) (hf.transp s I)];unfold tE;rw[xi];rfl;show ev G _ [.im (tE T),.im (.str sd.str),.im (.bl over),.im (.int c),.im (tE ((transp T).map (eY sd over c)))]=_;unfold foldT;rw[if_neg (by rw[hu];decide)];simp only[z6,R ((transp T).map (eY sd over c)) (max c (h-c)) w (r.transp.fold h1 h2) z7]
end
def aN(c r w h:Nat)(T:Table)(F S:List D):D:=bT c r w h (T.map sE) F S
noncomputable def fY(c r:Nat):Table:=(List.range r).map λy=>(List.range c).map λx=>[(((y*c+x:Nat):Int),J,J)]
def xI:gL c r=(fY c r).map sE:=by unfold gL fY oV;rw[xi];congr 1;funext y;show _=D.lst (((List.range c).map _).map hE);rw[xi];rfl
def IG(hc:1<=c)(hr:1<=r):Rect (fY c r) c r:=by refine⟨by unfold fY;simp,λs hs=>?_,hr,hc⟩;unfold fY at hs;obtain⟨y,_,rfl⟩:=wc.mp hs;simp
section
variable {G:GS}{c r w h:Nat}{T:Table}{F S:List D}
noncomputable def fA:IS:=(.g (.tr (.fld (.v 0) zw)) (.rse "Severed") .nop)
def mJ(hf:G.fl "Pile"=cz):bK G 1 fA [aN c r w h T F []]=O (.ok .non):=by
 have z:ev G (.v 0) (view [.im (aN c r w h T F [])])=O (bT c r w h (T.map sE) F []):=by simp only[z6];rfl
 refine DJ (B:=[.im (aN c r w h T F [])]) (B':=[.im (aN c r w h T F [])]) rfl (dG ?_ aY);rw[rG,kN hf z];rfl
noncomputable def jC:IS:=(.seq (.g (.b .isin (.v 1) (.o yi)) (.ret J (.h .le .lt (.L (.int 1)) (.v 2) (.fld (.v 0) "wide"))) .nop) (.seq (.g (.b .isin (.v 1) (.o zc)) (.ret J (.h .le .lt (.L (.int 1)) (.v 2) (.fld (.v 0) "high"))) .nop) (.ret J (.L (.bl J)))))
def zU{B:List Sl}{a:IE}{j:Int}(h1:slot B 2=O (.int i))(h2:ev G a B=O (.int j)):ev G (.h .le .lt (.L (.int 1)) (.v 2) a) B=O (.bl (decide (1<=i)&&decide (i<j))):=by
 rw[zI,rE,h1];simp only[z6];cases hb:decide (1<=i) with
 |true=>rw[h2];simp only[z6];rfl
 |false=>rfl
def rZ(hf:G.fl "Pile"=cz)(h1:G.cst yi = O cUP)(h2:G.cst zc = O cLV):bK G 3 jC [aN c r w h T F S,.str sd.str,.int i]=O (.ok (.bl (decide (1<=i)&&decide (i<((if sd.up then w else h:Nat):Int))))):=by
 have R:ev G (.v 0) [.im (aN c r w h T F S),.im (.str sd.str),.im (.int i)]=O (bT c r w h (T.map sE) F S):=by simp only[z6];rfl
 have I:ev G (.b .isin (.v 1) (.o yi)) (view [.im (aN c r w h T F S),.im (.str sd.str),.im (.int i)])=O (.bl sd.up):=by simp only[z6,h1,NC]
 have W:ev G (.b .isin (.v 1) (.o zc)) (view [.im (aN c r w h T F S),.im (.str sd.str),.im (.int i)])=O (.bl (!sd.up)):=by simp only[z6,h2,aFF]
 cases hu:sd.up with
 |true=>exact aR (B:=[.im (aN c r w h T F S),.im (.str sd.str),.im (.int i)]) rfl (iO (jR (I.trans (by rw[hu])) (bC (zU (by simp only[z6]) (iU hf R)))) (λ_ z=>by cases z))
 |false=>exact aR (B:=[.im (aN c r w h T F S),.im (.str sd.str),.im (.int i)]) rfl (aH (dG (I.trans (by rw[hu])) aY) (iO (jR (W.trans (by rw[hu];rfl)) (bC (zU (by simp only[z6]) (iV hf R)))) (λ_ z=>by cases z)))
noncomputable def fX(sd:Side)(over:Bool)(k:Nat):D:=.tup [.str sd.str,.bl over,.int k]
noncomputable def qQ:IS:=(.seq (.drop (.call yd (.cons (.v 0) .nil))) (.seq (.g (.not (.tr (.call zk (.cons (.v 0) (.cons (.v 1) (.cons (.v 3) .nil)))))) (.rse "NoFold") .nop) (.seq (.set 4 (.call yt (.cons (.fld (.v 0) "table") (.cons (.v 1) (.cons (.v 2) (.cons (.v 3) .nil)))))) (.seq (.set 5 (.b .add (.fld (.v 0) "folds") (.tup (.cons (.tup (.cons (.v 1) (.cons (.v 2) (.cons (.v 3) .nil)))) .nil)))) (.ret J (.mk "Pile" (.cons (.fld (.v 0) zu) (.cons (.fld (.v 0) "rows") (.cons (.v 4) (.cons (.v 5) (.cons (.fld (.v 0) zw) .nil)))))))))))
def aGl{a b:List D}(h:a.length+b.length<=1000000):ah .add (.tup a) (.tup b)=O (.tup (a++b)):=by simp only[ah,WC];rw[if_pos (by unfold big;exact h)]
def YB{B:List Sl}{e:IE}{d:D}(h:ev G e (view B)=O d):ex G (.drop e) B=O (.nx B):=by show (match ev G e (view B) with|some _=>O (Out.nx B)|none=>_)=_;rw[h]
def IA(hf:G.fl "Pile"=cz)(hsv:∀(c r w h:Nat) (T:Table) (F:List D),G.fn yd [aN c r w h T F []]=O (.ok .non)) (ak:∀(c r w h:Nat) (T:Table) (F S:List D) (sd:Side) (i:Int),G.fn zk [aN c r w h T F S,.str sd.str,.int i]=O (.ok (.bl (decide (1<=i)&&decide (i<((if sd.up then w else h:Nat):Int)))))) (hft:∀(T:Table) (w h:Nat) (sd:Side) (over:Bool) (k:Nat),Rect T w h->w<=1000->h<=1000->sI 400000 T->1<=k->(k<if sd.up then w else h)->G.fn yt [tE T,.str sd.str,.bl over,.int k]=O (.ok (tE (foldT sd over k T)))) (r8:∀(c r:Int) (T row:List D) (F S:List D),T[0]?=O (.lst row)->G.mo "Pile" [.int c,.int r,.lst T,.tup F,.tup S]=O (.ok (bT c r row.length T.length T F S)))   {k:Nat} (R:Rect T w h) (hw:w<=1000) (hh:h<=1000) (z:sI 400000 T) (h1:1<=k) (h2:k<if sd.up then w else h) (hF:F.length<=1000):bK G 6 qQ [aN c r w h T F [],.str sd.str,.bl over,.int k]=O (.ok (aN c r (if sd.up then max k (w-k) else w) (if sd.up then h else max k (h-k)) (foldT sd over k T) (F++[fX sd over k]) [])):=by
 have W:=R.foldT (over:=over) h1 h2;have I:∀s4 s5,ev G (.v 0) [.im (aN c r w h T F []),.im (.str sd.str),.im (.bl over),.im (.int k),s4,s5]=O (bT c r w h (T.map sE) F []):=λ_ _=>by simp only[z6];rfl
 have ht:=hft T w h sd over k R hw hh z h1 h2;unfold tE at ht;have em:=r8 c r ((foldT sd over k T).map sE) (((foldT sd over k T).getD 0 []).map hE) (F++[fX sd over k]) [] (by have:=W.len;have:=W.h1;rw[uv,u3,u7 z7];rfl);rw[uw,uw,W.len,show ((foldT sd over k T).getD 0 []).length=_ from W.width]at em;refine aR (B:=[.im (aN c r w h T F []),.im (.str sd.str),.im (.bl over),.im (.int k),.un,.un]) rfl ?_;refine aH (YB (d:=.non) (by simp only[z6,hsv])) (aH (dG ?_ aY) (aH (aQ (d:=.lst ((foldT sd over k T).map sE)) ?_) (aH (aQ (d:=.tup (F++[fX sd over k])) ?_) (bC ?_))));have hb:(decide ((1:Int)<=(k:Int))&&decide ((k:Int)<((if sd.up then w else h:Nat):Int)))=Y:=by rw[va,vg,vg];exact⟨z7,by exact_mod_cast h2⟩
 simp only[z6,ak,hb,dh,vv];rw[fL,aU,vH hf (I _ _)];simp only[z6,ht];show ev G _ [.im (aN c r w h T F []),.im (.str sd.str),.im (.bl over),.im (.int k),.im (.lst ((foldT sd over k T).map sE)),.un]=_;rw[bF,DW hf (I _ _)];simp only[z6,aGl (show F.length + [D.tup [.str sd.str,.bl over,.int k]].length<=1000000 by simp only[xb,length_nil];lia)];rfl;show ev G _ [.im (aN c r w h T F []),.im (.str sd.str),.im (.bl over),.im (.int k),.im (.lst ((foldT sd over k T).map sE)),.im (.tup (F++[fX sd over k]))]=_;rw[QF,aU,kO hf (I _ _),aU,vI hf (I _ _)];simp only[z6,kN hf (I _ _),em];rfl
noncomputable def kT:IS:=(.seq (.set 3 (.or (.b .eq (.v 1) (.L (.int 1))) (.and (.b .gt (.v 2) (.L (.int 1))) (.b .eq (.b .mod (.v 0) (.L (.int 2))) (.L (.int 1)))))) (.seq (.set 4 (.q (.tr (.v 3)) (.v 2) (.v 1))) (.seq (.set 5 (.q (.tr (.v 3)) (.lst (.cons (.L (.str "north")) (.cons (.L (.str "south")) .nil))) (.lst (.cons (.L (.str "west")) (.cons (.L (.str "east")) .nil))))) (.ret J (.tup (.cons (.ix (.v 5) (.b .mod (.b .fdiv (.v 0) (.L (.int 2))) (.L (.int 2)))) (.cons (.b .eq (.b .mod (.b .fdiv (.v 0) (.L (.int 4))) (.L (.int 2))) (.L (.int 1))) (.cons (.b .add (.L (.int 1)) (.b .mod (.b .fdiv (.v 0) (.L (.int 8))) (.b .sub (.v 4) (.L (.int 1))))) .nil))))))))
def mod2(i:Int):i % 2=0\/i % 2=1:=by lia
def CD{cell:Int}(hw:1<=w)(hh:1<=h)(hwh:1<w*h):∃(sd:Side) (over:Bool) (k:Nat),1<=k/\(k<if sd.up then w else h)/\bK G 6 kT [.int cell,.int w,.int h]=O (.ok (fX sd over k)):=by
 have m2:∀i:Int,ah .mod (.int i) (.int 2)=O (.int (i % 2)):=λi=>mM Aa;have d2:∀i:Int,ah .fdiv (.int i) (.int 2)=O (.int (i / 2)):=λi=>oJ Aa Aa;have d4:∀i:Int,ah .fdiv (.int i) (.int 4)=O (.int (i / 4)):=λi=>oJ Aa Aa;have d8:∀i:Int,ah .fdiv (.int i) (.int 8)=O (.int (i / 8)):=λi=>oJ Aa Aa;have e3:ev G (.or (.b .eq (.v 1) (.L (.int 1))) (.and (.b .gt (.v 2) (.L (.int 1))) (.b .eq (.b .mod (.v 0) (.L (.int 2))) (.L (.int 1))))) [.im (.int cell),.im (.int w),.im (.int h),.un,.un,.un]=O (.bl (((w:Int) == 1) || (decide (1<(h:Int))&&(cell % 2 == 1)))):=
  cD (by simp only[z6]) λ_=>wN (by simp only[z6]) λ_=>by simp only[z6,m2]
 have W:∀{a b:D},atI [a,b] 0=O a:=λ{a b}=>fE (k:=0) rfl;have ju:∀{a b:D},atI [a,b] 1=O b:=λ{a b}=>fE (k:=1) rfl;have R:∀(lv:Bool) (ext:Nat) (a b:Side),(((w:Int) == 1) || (decide (1<(h:Int))&&(cell % 2 == 1)))=lv->ext=(if lv then h else w)->2<=ext->(a=if lv then .north else .west)->(b=if lv then .south else .east) ->
   ∃(sd:Side) (over:Bool) (k:Nat),1<=k/\(k<if sd.up then w else h)/\bK G 6 kT [.int cell,.int w,.int h]=O (.ok (fX sd over k)):=by
  intro lv ext a b h1 h2 h3 ha hb;have mx:ah .mod (.int (cell / 8)) (.int ((ext:Int)-1))=O (.int (cell / 8 % ((ext:Int)-1))):=mM z7;have r0:=Int.emod_nonneg (cell / 8) (show ((ext:Int)-1)≠0 by lia);have r1:=Int.emod_lt_of_pos (cell / 8) (show (0:Int)<(ext:Int)-1 by lia);have hk:(((1+cell / 8 % ((ext:Int)-1)).toNat:Nat):Int)=1+cell / 8 % ((ext:Int)-1):=by lia
  have I:(if a.up then w else h)=ext:=by subst ha h2;cases lv<;>rfl
  have z:(if b.up then w else h)=ext:=by subst hb h2;cases lv<;>rfl
  have e4:ev G (.q (.tr (.v 3)) (.v 2) (.v 1)) [.im (.int cell),.im (.int w),.im (.int h),.im (.bl lv),.un,.un]=O (.int ext):=by subst h2;cases lv<;>simp only[z6,dh]<;>rfl
  have e5:ev G (.q (.tr (.v 3)) (.lst (.cons (.L (.str "north")) (.cons (.L (.str "south")) .nil))) (.lst (.cons (.L (.str "west")) (.cons (.L (.str "east")) .nil)))) [.im (.int cell),.im (.int w),.im (.int h),.im (.bl lv),.im (.int ext),.un]=O (.lst [.str a.str,.str b.str]):=by subst ha hb;cases lv<;>simp only[z6,dh]<;>rfl
  rcases mod2 (cell / 2) with q|q;refine⟨a,(cell / 4 % 2 == 1),(1+cell / 8 % ((ext:Int)-1)).toNat,z7,by rw[I];lia,?_⟩;refine aR (B:=[.im (.int cell),.im (.int w),.im (.int h),.un,.un,.un]) rfl (aH (aQ (e3.trans (by rw[h1]))) (aH (aQ e4) (aH (aQ e5) (bC ?_))));show ev G _ [.im (.int cell),.im (.int w),.im (.int h),.im (.bl lv),.im (.int ext),.im (.lst [.str a.str,.str b.str])]=_;simp only[z6,d2,m2,q,W,d4,d8,mx];unfold fX;rw[hk];refine⟨b,(cell / 4 % 2 == 1),(1+cell / 8 % ((ext:Int)-1)).toNat,z7,by rw[z];lia,?_⟩;refine aR (B:=[.im (.int cell),.im (.int w),.im (.int h),.un,.un,.un]) rfl (aH (aQ (e3.trans (by rw[h1]))) (aH (aQ e4) (aH (aQ e5) (bC ?_))));show ev G _ [.im (.int cell),.im (.int w),.im (.int h),.im (.bl lv),.im (.int ext),.im (.lst [.str a.str,.str b.str])]=_;simp only[z6,d2,m2,q,ju,d4,d8,mx];unfold fX;rw[hk]
 cases hb:(((w:Int) == 1) || (decide (1<(h:Int))&&(cell % 2 == 1))) with
 |true=>
  refine R Y h .north .south hb rfl ?_ rfl rfl;rw[xg,va,wb,vg]at hb;rcases hb with hb|hb;have:w=1:=by lia
  subst this;lia;lia
 |false=>
  refine R J w .west .east hb rfl ?_ rfl rfl;rw[Bool.or_eq_false_iff]at hb;have:(w:Int)≠1:=by simpa using hb.1
  lia
end
end Pg
def dC{s:Sl}{r:List Sl}:view (s::r)=eI s::view r:=id rfl
namespace Pg
def getD_mem{s:bO}{k:Nat}(h:k<s.length):s.getD k []∈s:=by rw[u3,u7 h];exact getElem_mem h
structure Spot where
 x:Nat
 y:Nat
 z:Int
 e:Bool
 n:Bool
noncomputable def ao(T:Table)(x y:Nat):gA:=(T.getD y []).getD x []
noncomputable def zAt(sp:List Spot)(k:Int):Int:=match sp[k.toNat]? with
 |some s=>s.z
 |none=>0
structure Lk (T:Table) (sp:List Spot):Prop where
 mem:∀(x y:Nat) (c:Cell),c∈ao T x y↔∃(i:Nat) (s:Spot),sp[i]?=O s/\s.x=x/\s.y=y/\c=((i:Int),s.e,s.n)
 ord:∀x y:Nat,(ao T x y).Pairwise (λa b=>zAt sp b.1<zAt sp a.1)
def hA(up:Bool)(T:Table)(p q:Nat):gA:=if up then ao T p q else ao T q p
noncomputable def ext(sd:Side)(w h:Nat):Nat:=if sd.up then w else h
end Pg
def eR{x y:Int×Int}:dc x y=Y↔x.1<y.1\/(x.1=y.1/\x.2<y.2):=by unfold dc;simp only[xg,va,vg,wb]
def pH{x y:Int×Int}:dc x y=J↔¬(x.1<y.1\/(x.1=y.1/\x.2<y.2)):=by rw[<-eR,Bool.not_eq_true]
theorem nP(x:Int×Int):∀l:List (Int×Int),(BS x l).Perm (x::l)
 |[]=>List.Perm.refl _
 |y::r=>by unfold BS;split;exact List.Perm.refl _;exact((nP x r).cons y).trans (List.Perm.swap x y r)
theorem lJ:∀l:List (Int×Int),(jO l).Perm l
 |[]=>List.Perm.refl _
 |x::r=>(nP x _).trans ((lJ r).cons x)
theorem oS{x:Int×Int}:∀{l:List (Int×Int)},l.Pairwise (λa b=>dc a b=Y)->x∉l->(BS x l).Pairwise (λa b=>dc a b=Y)
 |[],_,_=>by unfold BS;simp
 |y::r,h,n=>by obtain⟨h1,h2⟩:=xv.mp h;unfold BS;split;rename_i e;refine xv.mpr ⟨λz hz=>?_,h⟩;rcases vo.mp hz with rfl|hz;exact e;have:=h1 z hz;rw[eR]at this e ⊢;lia;rename_i e;rw[Bool.not_eq_true]at e;refine xv.mpr ⟨λz hz=>?_,oS h2 λz=>n (v8 _ z)⟩;rcases vo.mp ((nP x r).mem_iff.mp hz) with rfl|hz;have f9:z≠y:=λq=>n (by rw[q];simp);rw[pH]at e;rw[eR];have:¬(z.1=y.1/\z.2=y.2):=λq=>f9 (Prod.ext q.1 q.2);lia;exact h1 z hz
theorem mE:∀{l:List (Int×Int)},l.Nodup->(jO l).Pairwise (λa b=>dc a b=Y)
 |[],_=>List.Pairwise.nil
 |x::r,h=>by obtain⟨h1,h2⟩:=nodup_cons.mp h;exact oS (mE h2) λz=>h1 ((lJ r).mem_iff.mp z)
def pZ{l m:List (Int×Int)}(p:m.Perm l)(h:m.Pairwise (λa b=>dc a b=Y)):m=jO l:=by
 have nd:m.Nodup:=h.imp λ{a b} e q=>by subst q;rw[eR]at e;lia
 exact List.Perm.eq_of_pairwise (λa b _ _ e1 e2=>by rw[eR]at e1 e2;lia) h (mE (p.nodup_iff.mp nd)) (p.trans (lJ l).symm)
theorem sW:∀(r:List Int) (m:Int),(nJ m r=m\/nJ m r∈r)/\m<=nJ m r/\∀a∈r,a<=nJ m r
 |[],m=>⟨.inl rfl,Int.le_refl _,λa h=>by simp at h⟩
 |x::r,m=>by obtain⟨h1,h2,h3⟩:=sW r (if x > m then x else m);show (nJ (if x > m then x else m) r=m\/_)/\m<=nJ (if x > m then x else m) r/\_;have e:nJ m (x::r)=nJ (if x > m then x else m) r:=rfl;rw[e];refine⟨?_,?_,λa ha=>?_⟩;rcases h1 with h|h;split at h;rename_i hx;rw[if_pos hx,h];exact .inr Ab;rename_i hx;rw[if_neg hx,h];exact .inl rfl;exact .inr (v8 _ h);split at h2;rename_i hx;rw[if_pos hx];lia;rename_i hx;rw[if_neg hx];exact h2;rcases vo.mp ha with rfl|ha;split at h2;rename_i hx;rw[if_pos hx];exact h2;rename_i hx;rw[if_neg hx];lia;exact h3 a ha
theorem sV:∀(r:List Int) (m:Int),(qH m r=m\/qH m r∈r)/\qH m r<=m/\∀a∈r,qH m r<=a
 |[],m=>⟨.inl rfl,Int.le_refl _,λa h=>by simp at h⟩
 |x::r,m=>by obtain⟨h1,h2,h3⟩:=sV r (if x<m then x else m);have e:qH m (x::r)=qH (if x<m then x else m) r:=rfl;rw[e];refine⟨?_,?_,λa ha=>?_⟩;rcases h1 with h|h;split at h;rename_i hx;rw[if_pos hx,h];exact .inr Ab;rename_i hx;rw[if_neg hx,h];exact .inl rfl;exact .inr (v8 _ h);split at h2;rename_i hx;rw[if_pos hx];lia;rename_i hx;rw[if_neg hx];exact h2;rcases vo.mp ha with rfl|ha;split at h2;rename_i hx;rw[if_pos hx];exact h2;rename_i hx;rw[if_neg hx];lia;exact h3 a ha
namespace Pg
section
variable {G:GS}
def QC{B:List Sl}{k e:IE}{d:D}{ds:List D}{j:Nat}(h1:ev G e B=O d)(h2:ev G k B=O (.int i))(h3:B[x]?=O (.mu (.lst ds)))(h4:ixN ds.length i=O j):ex G (.put x k e) B=O (.nx (B.set x (.mu (.lst (ds.set j d))))):=by show (eu G e B).bind (λd=>(intOf (eu G k B)).bind λi=>_)=_;rw[lU h1,lU h2];show (match B[x]? with|some (.mu o)=>_|_=>_)=_;rw[h3];show Option.map _ (Option.map _ (ixN ds.length i))=_;rw[h4];rfl
end
section
variable {G:GS}
theorem ints_map{α:Type}{f:α->Int}:∀{l:List α},dW (l.map λa=>D.int (f a))=O (l.map f)
 |[]=>rfl
 |a::l=>by simp only[vz,dW];rw[ints_map];rfl
def CO{α:Type}{a b c:α}:atI [a,b,c] 0=O a/\atI [a,b,c] 1=O b/\atI [a,b,c] 2=O c:=⟨rfl,rfl,rfl⟩
def CK{B:List Sl}{e:IE}{d:D}{ds:List D}(h1:ev G e B=O d)(h2:B[x]?=O (.mu (.lst ds)))(h3:ds.length<1000000):ex G (.app x e) B=O (.nx (B.set x (.mu (.lst (ds++[d]))))):=by show (eu G e B).bind _=_;rw[lU h1];show (match B[x]? with|some (.mu (.lst ds))=>_|_=>_)=_;rw[h2];exact if_pos h3
def ne_self{d:D}(h1:plain d=Y)(h2:bx d d=Y):ah .ne d d=O (.bl J):=by show oNe d d=_;unfold oNe;rw[h1,h2];rfl
def cU{b:Bool}:dh (.bl b)=O b:=rfl
structure Fold where
 sd:Side
 over:Bool
 k:Nat
def Fold.d(f:Fold):D:=fX f.sd f.over f.k
end
structure LkI (T:Table) (sp:List Spot):Prop where
 mem:∀(x y:Nat) (c:Cell),c∈ao T x y↔∃(i:Nat) (s:Spot),sp[i]?=O s/\s.x=x/\s.y=y/\c=((i:Int),s.e,s.n)
 ord:∀x y:Nat,(ao T x y).Pairwise (λa b=>a.1≠b.1)
 short:∀{x y:Nat},(ao T x y).length<=sp.length
structure av (T:Table) (w h:Nat) (sp:List Spot):Prop where
 lk:LkI T sp
 rect:Rect T w h
 w64:w<=64
 h64:h<=64
 len:sp.length<=64
 xlt:∀{s:Spot},s∈sp->s.x<w
 ylt:∀{s:Spot},s∈sp->s.y<h
 ne:sp≠[]
noncomputable def de(h:gA):List Int:=h.map (·.1)
def eX(s:bO):List Int:=s.flatMap de
def lS(T:Table):List Int:=T.flatMap eX
theorem CF{α β:Type}{f g:α->List β}:∀(L:List α),(L.flatMap λk=>f k++g k).Perm (L.flatMap f++L.flatMap g)
 |[]=>.nil
 |a::L=>by rw[flatMap_cons,flatMap_cons,flatMap_cons];refine((List.Perm.refl (f a++g a)).append (CF L)).trans ?_;rw[vd,vd];refine(List.Perm.refl (f a)).append ?_;rw[<-vd,<-vd];exact perm_append_comm.append (.refl _)
theorem qY{α β:Type}{f g:α->List β}:∀(L:List α),(∀a∈L,(f a).Perm (g a))->(L.flatMap f).Perm (L.flatMap g)
 |[],_=>.nil
 |a::L,h=>by rw[flatMap_cons,flatMap_cons];exact(h a x8).append (qY L λb m=>h b (v8 _ m))
theorem CG{α β:Type}:∀(L:List α),(L.flatMap λ_=>([]:List β))=[]
 |[]=>rfl
 |_::L=>CG L
theorem mP:∀(s:bO) {w:Nat},s.length<=w->((List.range w).flatMap λx=>de (s.getD x []))=eX s
 |[],w,_=>(show ((List.range w).flatMap λ_=>([]:List Int))=[] from CG _)
 |a::s,0,h=>nomatch h
 |a::s,w+1,h=>by rw[List.range_succ_eq_map,flatMap_cons,flatMap_map];exact congrArg (de a++·) (mP s (Nat.le_of_succ_le_succ h))
def ES{u l:bO}:(eX (mq u l)).Perm (eX u++eX l):=by unfold mq eX;rw[flatMap_map];have e:(λk=>de (u.getD k []++l.getD k []))=λk=>de (u.getD k [])++de (l.getD k []):=funext λk=>xf;rw[e];refine(CF _).trans ?_;rw[mP u (Nat.le_max_left _ _),mP l (Nat.le_max_right _ _)];exact .refl _
def yT{up:Bool}{p:bO}:(eX (fV up p)).Perm (eX p):=by unfold fV eX;rw[flatMap_map];refine qY p λh _=>?_;unfold de lD;rw[xi,show ((λ(c:Cell)=>c.1) ∘ CU up)=λc=>c.1 from funext λc=>by cases up<;>rfl];exact(List.reverse_perm h).map _
def vT{p:bO}:(eX p.reverse).Perm (eX p):=(List.reverse_perm p).flatMap_right de
def NG{s:bO}:(eX (eY sd over c s)).Perm (eX s):=by
 have two:∀{u l:bO},(eX (dH u l over)).Perm (eX u++eX l):=λ{u l}=>by unfold dH;cases over;exact ES.trans perm_append_comm;exact ES
 have sp:eX (s.take c)++eX (s.drop c)=eX s:=by unfold eX;rw[<-List.flatMap_append,take_append_drop]
 rw[<-sp];unfold eY;split;exact two.trans ((yT.trans vT).append (.refl _));exact vT.trans (two.trans ((yT.append vT).trans perm_append_comm))
theorem yU{w:Nat}:∀(T:Table),(∀s∈T,s.length=w)->((List.range w).flatMap λx=>T.flatMap λs=>de (s.getD x [])).Perm (lS T)
 |[],_=>by rw[show ((List.range w).flatMap λx=>([]:Table).flatMap λs=>de (s.getD x []))=[] from CG _];exact .nil
 |s::T,h=>by refine(CF (f:=λx=>de (s.getD x [])) (List.range w)).trans ?_;rw[mP s (Nat.le_of_eq (h s x8))];exact(List.Perm.refl (eX s)).append (yU T λs m=>h s (v8 _ m))
def qM{T:Table}(R:Rect T w h):(lS (transp T)).Perm (lS T):=by
 unfold transp;rw[R.width];unfold lS;rw[flatMap_map];have e:(λx=>eX (T.map λs=>s.getD x []))=λx=>T.flatMap λs=>de (s.getD x []):=funext λx=>by unfold eX;rw[flatMap_map]
 rw[e];exact yU T R.row
def ET{T:Table}:(lS (T.map (eY sd over c))).Perm (lS T):=by unfold lS;rw[flatMap_map];exact qY T λs _=>NG
def HS{T:Table}(R:Rect T w h)(h1:1<=c)(h2:c<if sd.up then w else h):(lS (foldT sd over c T)).Perm (lS T):=by
 unfold foldT;cases hu:sd.up with
 |true=>exact ET
 |false=>rw[hu]at h2;exact(qM (R.transp.fold h1 h2)).trans (ET.trans (qM R))
structure SitI (T:Table) (w h n:Nat):Prop where
 rect:Rect T w h
 w64:w<=64
 h64:h<=64
 n64:n<=64
 ids:(lS T).Perm ((List.range n).map λ(k:Nat)=>(k:Int))
section
variable {T:Table}{w h n:Nat}
def SitI.few(S:SitI T w h n):sI 64 T:=by
 intro s hs hp hm;have e:(lS T).length=n:=by rw[S.ids.length_eq,uw,vh]
 have one:∀{α:Type} {f:α->List Int} {L:List α} {a:α},a∈L->(f a).length<=(L.flatMap f).length:=λ{α f L a} m=>by
  induction L with
  |nil=>cases m
  |cons b L z=>rw[flatMap_cons,vt];rcases vo.mp m with rfl|m;exact Nat.le_add_right _ _;exact vm (z m) (Nat.le_add_left _ _)
 have h1:(de hp).length<=(eX s).length:=one hm;have h2:(eX s).length<=(lS T).length:=one hs;unfold de at h1;rw[uw]at h1;have:=S.n64;lia
def SitI.fold(S:SitI T w h n)(h1:1<=c)(h2:c<if sd.up then w else h):SitI (foldT sd over c T) (if sd.up then max c (w-c) else w) (if sd.up then h else max c (h-c)) n:=by
 have:=S.w64;have:=S.h64;refine⟨S.rect.foldT h1 h2,?_,?_,S.n64,(HS S.rect h1 h2).trans S.ids⟩
 .split<;>simp_all<;>lia
 .split<;>simp_all<;>lia
theorem yZ{c:Nat}:∀r:Nat,(lS (fY c r))=(List.range (c*r)).map λ(k:Nat)=>(k:Int)
 | 0=>rfl
 |r+1=>by
  have e:fY c (r+1)=fY c r++[(List.range c).map λx=>[(((r*c+x:Nat):Int),J,J)]]:=by unfold fY;rw[range_succ,xf];rfl
  rw[e];unfold lS;rw[List.flatMap_append];have z:(fY c r).flatMap eX=_:=yZ r;rw[z,Nat.mul_succ,List.range_add,xf];refine congrArg _ ?_;rw[flatMap_cons,flatMap_nil,vx];unfold eX;rw[flatMap_map,xi,List.flatMap_def,Nat.mul_comm r c];show ((List.range c).map λx=>[((c*r+x:Nat):Int)]).flatten=_;generalize List.range c=L;induction L with
  |nil=>rfl
  |cons a L z=>rw[vz,flatten_cons,z];rfl
def IF(hc:1<=c)(hr:1<=r)(z:c*r<=64):SitI (fY c r) c r (c*r):=⟨IG hc hr,vm (Nat.le_mul_of_pos_right c hr) z,vm (Nat.le_mul_of_pos_left r hc) z,z,by rw[yZ]⟩
noncomputable def AL(h:gA)(n:Nat):List Spot:=(List.range n).map λ(k:Nat)=>match h.find? λc=>c.1 == (k:Int) with
 |some c=>⟨0,0,0,c.2.1,c.2.2⟩
 |none=>⟨0,0,0,J,J⟩
def SitI.sits(S:SitI T 1 1 n)(hn:1<=n):∃sp,av T 1 1 sp/\sp.length=n:=by
 obtain⟨hp,hT⟩:∃hp,T=[[hp]]:=by
  have r:=S.rect;match T,r with
  |[],r=>exact absurd r.len Aa
  |[s],r=>
   have:=r.row s x8;match s,this with
   |[hp],_=>exact⟨hp,rfl⟩
   |[],e=>exact absurd e Aa
   |_::_::_,e=>exact absurd e Ab
  |_::_::_,r=>exact absurd r.len Ab
 subst hT;have ids:(de hp).Perm ((List.range n).map λ(k:Nat)=>(k:Int)):=by have:=S.ids;unfold lS eX at this;rwa [flatMap_cons,flatMap_nil,vx,flatMap_cons,flatMap_nil,vx]at this
 have nd:(de hp).Nodup:=ids.nodup_iff.mpr (by rw[nodup_iff_pairwise_ne,pairwise_map];exact pairwise_lt_range.imp λh e=>by lia);have pw:hp.Pairwise (λa b=>a.1≠b.1):=by unfold de at nd;rwa [nodup_iff_pairwise_ne,pairwise_map]at nd
 have hl:hp.length=n:=by have:=ids.length_eq;unfold de at this;rwa [uw,uw,vh]at this
 have one:∀{a b:Cell},a∈hp->b∈hp->a.1=b.1->a=b:=λ{a b} ha hb e=>by
  clear hl nd ids S;induction hp with
  |nil=>cases ha
  |cons x l W=>
   obtain⟨p1,p2⟩:=xv.mp pw;rcases vo.mp ha with e1|h1<;>rcases vo.mp hb with e2|h2
   rw[e1,e2];exact absurd (e1 ▸ e) (p1 b h2);exact absurd (e2 ▸ e.symm) (p1 a h1);exact W p2 h1 h2
 have I:(AL hp n).length=n:=by unfold AL;rw[uw,vh]
 have at_:∀{i:Nat} {c:Cell},c∈hp->c.1=(i:Int)->(AL hp n)[i]?=O ⟨0,0,0,c.2.1,c.2.2⟩:=λ{i c} hc e=>by
  have hi:i<n:=by have:=ids.mem_iff.mp (wc.mpr ⟨c,hc,e⟩);obtain⟨k,hk,e⟩:=wc.mp this;have:=xp.mp hk;lia
  unfold AL;rw[uv,xa hi];have:hp.find? (λc=>c.1 == (i:Int))=O c:=by
   cases f:hp.find? λc=>c.1 == (i:Int) with
   |none=>exact absurd (List.find?_eq_none.mp f c hc) (by simp[e])
   |some d=>rw[one (List.mem_of_find?_eq_some f) hc (by have:=List.find?_some f;simp at this;rw[this,e])]
  show O (match hp.find? (λc=>c.1 == (i:Int)) with|some c=>(⟨0,0,0,c.2.1,c.2.2⟩:Spot)|none=>⟨0,0,0,J,J⟩)=_;rw[this]
 have R:∀{s:Spot},s∈AL hp n->s.x=0/\s.y=0:=λ{s} hs=>by unfold AL at hs;obtain⟨k,_,rfl⟩:=wc.mp hs;split<;>exact⟨rfl,rfl⟩
 refine⟨AL hp n,⟨⟨λx y c=>?_,λx y=>?_,λ{x y}=>?_⟩,S.rect,Aa,Aa,by rw[I];exact S.n64,λ{s} hs=>by rw[(R hs).1];decide,λ{s} hs=>by rw[(R hs).2];decide,?_⟩,I⟩;constructor;intro hc;match x,y,hc with
 | 0,0,hc=>have hc:c∈hp:=hc;obtain⟨k,hk,e⟩:=wc.mp (ids.mem_iff.mp (wc.mpr ⟨c,hc,rfl⟩));exact⟨k,_,at_ hc e.symm,rfl,rfl,by rw[show ((k:Nat):Int)=c.1 from e]⟩
 | 0,y+1,hc=>exact nomatch (show c∈([]:gA) from by cases y<;>exact hc)
 |x+1,0,hc=>exact nomatch (show c∈([]:gA) from by cases x<;>exact hc)
 |x+1,y+1,hc=>exact nomatch (show c∈([]:gA) from by cases y<;>exact hc)
 rintro⟨i,s,hs,rfl,rfl,rfl⟩;have hi:i<n:=by rw[<-I];exact(u0.mp hs).1
 obtain⟨e1,e2⟩:=R (u5 hs);rw[e1,e2];show _∈hp;obtain⟨c,hc,e⟩:=wc.mp (ids.mem_iff.mpr (wc.mpr ⟨i,xp.mpr hi,rfl⟩));rw[at_ hc e]at hs;cases hs;rw[<-e];exact hc;match x,y with
 | 0,0=>exact pw
 | 0,y+1=>rw[show ao [[hp]] 0 (y+1)=[] from by cases y<;>rfl];exact .nil
 |x+1,0=>rw[show ao [[hp]] (x+1) 0=[] from by cases x<;>rfl];exact .nil
 |x+1,y+1=>rw[show ao [[hp]] (x+1) (y+1)=[] from by cases y<;>rfl];exact .nil
 rw[I,<-hl];match x,y with
 | 0,0=>exact ux _
 | 0,y+1=>rw[show ao [[hp]] 0 (y+1)=[] from by cases y<;>rfl];exact xq _
 |x+1,0=>rw[show ao [[hp]] (x+1) 0=[] from by cases x<;>rfl];exact xq _
 |x+1,y+1=>rw[show ao [[hp]] (x+1) (y+1)=[] from by cases y<;>rfl];exact xq _
 intro z;rw[z]at I;have:0=n:=I;lia
end
end Pg
def eJ{k:Int}{d:D}{r:List (Int×D)}:bU ((i,d)::r) k=if i=k then O d else bU r k:=by unfold bU;by_cases e:i=k;rw[List.find?_cons_of_pos (by simpa using e),if_pos e];rfl;rw[List.find?_cons_of_neg (by simpa using e),if_neg e]
theorem xF{k:Int}:∀{kvs:List (Int×D)},(kvs.any λz=>decide (z.1=k))=(bU kvs k).isSome
 |[]=>rfl
 | (i,d)::r=>by rw[any_cons,eJ,xF (kvs:=r)];by_cases e:i=k;rw[if_pos e,wa e];rfl;rw[if_neg e,uz e];rfl
theorem pR{k j:Int}{d:D}:∀{kvs:List (Int×D)},bU (kvs.map λI=>if I.1=k then(I.1,d) else I) j=if j=k then(bU kvs j).map λ_=>d else bU kvs j
 |[]=>by show U=_;split<;>rfl
 | (i,e)::r=>by rw[vz];by_cases h:i=k;rw[if_pos h,eJ,eJ,pR (kvs:=r)];by_cases g:i=j;rw[if_pos g,if_pos g,if_pos (g.symm.trans h)];rfl;rw[if_neg g,if_neg g];rw[if_neg h,eJ,eJ,pR (kvs:=r)];by_cases g:i=j;rw[if_pos g,if_pos g,if_neg (λz=>h (g.trans z))];rw[if_neg g,if_neg g]
theorem sM{k j:Int}{d:D}:∀{kvs:List (Int×D)},bU (kvs++[(k,d)]) j=(bU kvs j).or (if k=j then O d else U)
 |[]=>by rw[nil_append,eJ];split<;>rfl
 | (i,e)::r=>by rw[List.cons_append,eJ,eJ,sM (kvs:=r)];split<;>rfl
def pQ{kvs:List (Int×D)}{k j:Int}{d:D}:bU (jP kvs k d) j=if j=k then O d else bU kvs j:=by unfold jP;rw[xF];by_cases h:(bU kvs k).isSome=Y;rw[if_pos h,pR];by_cases e:j=k;subst e;rw[if_pos rfl,if_pos rfl];obtain⟨x,hx⟩:=Option.isSome_iff_exists.mp h;rw[hx];rfl;rw[if_neg e,if_neg e];rw[if_neg h,sM];by_cases e:j=k;subst e;rw[if_pos rfl,if_pos rfl,Option.not_isSome_iff_eq_none.mp h];rfl;rw[if_neg e,if_neg (Ne.symm e)];cases bU kvs j<;>rfl
def qB{kvs:List (Int×D)}{k:Int}{d:D}:(jP kvs k d).length<=kvs.length+1:=by unfold jP;split;rw[uw];lia;rw[vt];exact ux _
def pL{G:GS}{B:List Sl}{k e:IE}{d:D}{kvs:List (Int×D)}(h1:ev G e B=O d)(h2:ev G k B=O (.int i))(h3:B[x]?=O (.mu (.dct kvs)))(h4:kvs.length<1000000):ex G (.put x k e) B=O (.nx (B.set x (.mu (.dct (jP kvs i d))))):=by show (eu G e B).bind (λd=>(intOf (eu G k B)).bind λi=>_)=_;rw[lU h1,lU h2];show (match B[x]? with|some (.mu o)=>_|_=>_)=_;rw[h3];show Option.map _ (if kvs.length<big then O (D.dct (jP kvs i d)) else U)=_;rw[if_pos (by unfold big;exact h4)];rfl
def wJ{G:GS}{B:List Sl}:ex G (.setd x) B=O (.nx (B.set x (.mu (.dct [])))):=id rfl
def jH{G:GS}{B:List Sl}{d:D}(h:B[x]?=O (.mu d)):ex G (.M x) B=O (.rt d):=by show (match B[x]? with|some (.mu d)=>O (Out.rt d)|_=>U)=_;rw[h]
namespace Pg
section
variable {G:GS}{T:Table}{w h:Nat}{sp:List Spot}
noncomputable def zK(s:Spot):Int:=if s.e then s.x else s.x+1
noncomputable def yI(s:Spot):Int:=if s.n then s.y else s.y+1
def sX(s:Spot):D:=.tup [.int (zK s),.int (yI s)]
noncomputable def RG:IS:=(.put 1 (.v 4) (.tup (.cons (.q (.tr (.v 5)) (.v 3) (.b .add (.v 3) (.L (.int 1)))) (.cons (.q (.tr (.v 6)) (.v 2) (.b .add (.v 2) (.L (.int 1)))) .nil))))
def FR:IS:=(.loop [4,5,6] Y .seq (.meth (.v 0) "heap" (.cons (.v 3) (.cons (.v 2) .nil))) RG)
def FQ:IS:=(.loop [3] J .rng (.tup (.cons (.fld (.v 0) "wide") .nil)) FR)
def jE:IS:=(.seq (.setd 1) (.seq (.loop [2] J .rng (.tup (.cons (.fld (.v 0) "high") .nil)) FQ) (.M 1)))
def ud(P:D)(kvs:List (Int×D))(a b c d e:Sl):List Sl:=[.im P,.mu (.dct kvs),a,b,c,d,e]
theorem wG{b:IS}{tg:List Nat}{fr:List (Int×D)->Sl->Sl->Sl->List Sl}{enc:Bool×Bool->D}(hb:∀(x:Cell) kvs s t u,bB tg Y (f6 x) (fr kvs s t u)=O (fr kvs (.im (.int x.1)) (.im (.bl x.2.1)) (.im (.bl x.2.2)))) (hx:∀(x:Cell) (kvs:List (Int×D)),kvs.length<1000000->ex G b (fr kvs (.im (.int x.1)) (.im (.bl x.2.1)) (.im (.bl x.2.2)))=O (.nx (fr (jP kvs x.1 (enc x.2)) (.im (.int x.1)) (.im (.bl x.2.1)) (.im (.bl x.2.2))))):∀(h:gA) (kvs:List (Int×D)) (s t u:Sl),kvs.length+h.length<=900000->∃I s' t' R,bS (bB tg Y) (ex G b) (h.map f6) (fr kvs s t u)=O (.nx (fr I s' t' R)) /\∀(k:Int) (v:Bool×Bool),(∀x∈h,x.1=k->x.2=v)->((∃x∈h,x.1=k)\/bU kvs k=O (enc v))->bU I k=O (enc v)
 |[],kvs,s,t,u,_=>⟨kvs,s,t,u,rfl,λk v _ h=>h.elim (λ⟨x,m,_⟩=>nomatch m) id⟩
 |x::h,kvs,s,t,u,hl=>by rw[xb]at hl;have kj:=qB (kvs:=kvs) (k:=x.1) (d:=enc x.2);obtain⟨I,s',t',R,e,hv⟩:=wG hb hx h (jP kvs x.1 (enc x.2)) (.im (.int x.1)) (.im (.bl x.2.1)) (.im (.bl x.2.2)) z7;refine⟨I,s',t',R,?_,λk v h1 h2=>hv k v (λy m=>h1 y (v8 _ m)) ?_⟩;rw[vz];unfold bS;rw[hb x kvs s t u];show (ex G b _).bind _=_;rw[hx x kvs z7];exact e;by_cases e:x.1=k;right;rw[pQ,if_pos e.symm,h1 x x8 e];rcases h2 with ⟨y,m,W⟩|h2;rcases vo.mp m with rfl|m;exact absurd W e;exact .inl ⟨y,m,W⟩;right;rw[pQ,if_neg (λz=>e z.symm),h2]
def EW{T:Table}{sp:List Spot}(S:av T 1 1 sp){kvs:List (Int×D)}{enc:Bool×Bool->D}(hv:∀(k:Int) (v:Bool×Bool),(∀x∈ao T 0 0,x.1=k->x.2=v)->((∃x∈ao T 0 0,x.1=k)\/bU [] k=O (enc v))->bU kvs k=O (enc v)){i:Nat}{s:Spot}(h:sp[i]?=O s):bU kvs i=O (enc (s.e,s.n)):=by
 have hm:=u5 h;have:=S.xlt hm;have:=S.ylt hm;refine hv i (s.e,s.n) (λx m ex=>?_) (.inl ⟨((i:Int),s.e,s.n),(S.lk.mem 0 0 _).mpr ⟨i,s,h,z7,z7,rfl⟩,rfl⟩);obtain⟨j,t,h1,_,_,rfl⟩:=(S.lk.mem 0 0 x).mp m;have:j=i:=by dsimp only at ex;lia
 subst this;rw[h1]at h;cases h;rfl
def sA(hf:G.fl "Pile"=cz) (I:∀(c r w h:Nat) (T:Table) (F S:List D) (x y:Nat),Rect T w h->x<w->y<h->G.me "Pile" "heap" [aN c r w h T F S,.int x,.int y]=O (.ok (hE (ao T x y))))  {F C:List D} (S:av T 1 1 sp):∃kvs,bK G 7 jE [aN c r 1 1 T F C]=O (.ok (.dct kvs))/\∀(i:Nat) (s:Spot),sp[i]?=O s->bU kvs i=O (sX s):=by
 have R:∀W,ev G (.v 0) (.im (aN c r 1 1 T F C)::W)=O (bT c r 1 1 (T.map sE) F C):=λ_=>by simp only[zz,yy];rfl
 have hl:(ao T 0 0).length<=64:=vm S.lk.short S.len;obtain⟨kvs,s4,s5,s6,e,hv⟩:=wG (G:=G) (b:=RG) (tg:=[4,5,6]) (fr:=λkvs=>ud (aN c r 1 1 T F C) kvs (.im (.int 0)) (.im (.int 0))) (enc:=λv=>.tup [.int (if v.1 then 0 else 1),.int (if v.2 then 0 else 1)]) (λ_ _ _ _ _=>rfl) (λx kvs h=>(pL (kvs:=kvs) (i:=x.1) (d:=.tup [.int (if x.2.1 then 0 else 1),.int (if x.2.2 then 0 else 1)]) (by cases x.2.1<;>cases x.2.2<;>rfl) rfl rfl h).trans rfl) (ao T 0 0) [] .un .un .un (by rw[length_nil];lia);have one:∀{tg:List Nat} {b:IS} {B ρ1 z:List Sl},bB tg J (.int 0) B=O ρ1->ex G b ρ1=O (.nx z)->bS (bB tg J) (ex G b) [.int 0] B=O (.nx z):=λ{tg b B ρ1 z} h1 h2=>by unfold bS;rw[h1];show (ex G b ρ1).bind _=_;rw[h2];rfl
 have wd:ev G (.tup (.cons (.fld (.v 0) "wide") .nil)) (ud (aN c r 1 1 T F C) [] (.im (.int 0)) .un .un .un .un)=O (.tup [.int ((1:Nat):Int)]):=by unfold ud;rw[rF,aU,iU hf (R _)];simp only[z6];rfl
 have hg:ev G (.tup (.cons (.fld (.v 0) "high") .nil)) (ud (aN c r 1 1 T F C) [] .un .un .un .un .un)=O (.tup [.int ((1:Nat):Int)]):=by unfold ud;rw[rF,aU,iV hf (R _)];simp only[z6];rfl
 refine⟨kvs,aR (B:=[.im (aN c r 1 1 T F C),.un,.un,.un,.un,.un,.un]) rfl (aH wJ (aH ((bZ hg (cR Aa)).trans (one (b:=FQ) rfl ((bZ wd (cR Aa)).trans (one (b:=FR) rfl ((bZ (d:=hE (ao T 0 0)) ?_ cJ).trans e))))) (jH rfl))),λi s hs=>?_⟩;exact LH (c:=c) (r:=r) (w:=1) (h:=1) (T:=T.map sE) (F:=F) (S:=C) (ds:=[.int 0,.int 0]) rfl (R _) rfl (I c r 1 1 T F C 0 0 S.rect Aa Aa);rw[EW S hv hs];have hm:=u5 hs;have h1:=S.xlt hm;have h2:=S.ylt hm;unfold sX zK yI;rw[show s.x=0 by lia,show s.y=0 by lia];cases s.e<;>cases s.n<;>rfl
end
end Pg
def JW{α:Type}{l:List α}{a:α}(h:l[x]?=O a):l.set x a=l:=by apply List.ext_getElem?;intro i;by_cases e:x=i;subst e;rw[vi (u0.mp h).1,h];rw[vj e]
def iP{G:GS}{B:List Sl}{t e:IE}{b:Bool}{d:D}{ds:List D}(z:ev G t (view B)=O (.bl b))(he:ev G e B=O d)(hx:B[x]?=O (.mu (.lst ds)))(hl:ds.length<1000000):ex G (.g t (.app x e) .nop) B=O (.nx (B.set x (.mu (.lst (ds++if b then [d] else []))))):=by
 cases b with
 |true=>exact jR z (Pg.CK he hx hl)
 |false=>rw[dG z aY,if_neg Aa,vx,JW hx]
def kU{bind:D->List Sl->Option (List Sl)}{body:List Sl->Option Out}(P:Nat->List Sl->Prop){B:List Sl}(h0:P 0 B)(st:∀k,k<n->∀B,P k B->∃ρ1,bind (.int (k:Nat)) B=O ρ1/\∃z,body ρ1=O (.nx z)/\P (k+1) z):∃B',bS bind body ((List.range n).map λ(k:Nat)=>D.int k) B=O (.nx B')/\P n B':=by
 obtain⟨B',a,b⟩:=kW (bind:=bind) (body:=body) P (ds:=(List.range n).map λ(k:Nat)=>D.int k) (k:=0) h0 λk d B hd hp=>by
  rw[uv]at hd;obtain⟨k',I,rfl⟩:=vc.mp hd;have hk:k<n:=by have:=(u0.mp I).1;rwa [vh]at this
  obtain rfl:k=k':=by rw[xa hk]at I;exact vb I
  rw[vq]at hp ⊢;exact st k hk B hp
 exact⟨B',a,by rw[uw,vh,vq]at b;exact b⟩
def tQ{α:Type}{enc:α->D}{bind:D->List Sl->Option (List Sl)}{body:List Sl->Option Out}(P:Nat->List Sl->Prop){L:List α}{B:List Sl}(h0:P 0 B)(st:∀k a,L[k]?=O a->∀B,P k B->∃ρ1,bind (enc a) B=O ρ1/\∃z,body ρ1=O (.nx z)/\P (k+1) z):∃B',bS bind body (L.map enc) B=O (.nx B')/\P L.length B':=by
 obtain⟨B',a,b⟩:=kW (bind:=bind) (body:=body) P (ds:=L.map enc) (k:=0) h0 λk d B hd hp=>by rw[uv]at hd;obtain⟨x,hx,rfl⟩:=vc.mp hd;rw[vq]at hp ⊢;exact st k x hx B hp
 exact⟨B',a,by rw[uw,vq]at b;exact b⟩
namespace Pg
section
variable {G:GS}{T:Table}{w h:Nat}{sp:List Spot}
noncomputable def b9(c n k:Nat):List (Nat×Nat×Bool):=(if decide (k % c<c-1) then [(k,k+1,J)] else [])++(if decide (k+c<n) then [(k,k+c,Y)] else [])
def b0(c n k:Nat):List (Nat×Nat×Bool):=(List.range k).flatMap (b9 c n)
def qE{k:Nat}:b0 c n (k+1)=b0 c n k++b9 c n k:=by unfold b0;rw[range_succ,List.flatMap_append,flatMap_cons,flatMap_nil,vx]
def WI{k:Nat}:(b9 c n k).length<=2:=by unfold b9;rw[vt];split<;>split<;>simp
theorem gC{c n:Nat}:∀k,(b0 c n k).length<=2*k
 | 0=>xq _
 |k+1=>by rw[qE,vt];have:=gC (c:=c) (n:=n) k;have:=WI (c:=c) (n:=n) (k:=k);lia
def aCd{k:Nat}{j:Nat×Nat×Bool}(h:j∈b0 c n k):j.1<k:=by unfold b0 at h;obtain⟨i,hi,z⟩:=List.mem_flatMap.mp h;have hi:=xp.mp hi;unfold b9 at z;rcases xw.mp z with q|q<;>(split at q<;>first|(simp only[vn]at q;rw[q];exact hi)|(simp at q))
def sG{α:Type}{a b:α}:atI [a,b] 0=O a/\atI [a,b] 1=O b:=⟨rfl,rfl⟩
def fm(j:Nat×Nat×Bool):D:=.tup [.int j.1,.int j.2.1,.bl j.2.2]
def nK(sp:List Spot)(k:Nat)(l:Bool):Int:=match sp[k]? with
 |some s=>if l then yI s else zK s
 |none=>0
def jD(sp:List Spot)(j:Nat×Nat×Bool):D:=.tup [.int j.1,.int j.2.1,.bl j.2.2,.int (nK sp j.1 j.2.2)]
def jsE(sp:List Spot)(c r:Nat):D:=.lst ((b0 c (c*r) (c*r)).map (jD sp))
def EB{k:Nat}{α:Type}{f:Nat×Nat×Bool->α}:(b9 c n k).map f=(if decide (k % c<c-1) then [f (k,k+1,J)] else [])++(if decide (k+c<n) then [f (k,k+c,Y)] else []):=by unfold b9;rw[xf];cases decide (k % c<c-1)<;>cases decide (k+c<n)<;>rfl
noncomputable def jB:IS:=(.seq (.set 2 (.b .mul (.v 0) (.v 1))) (.seq (.setm 3 (.lst .nil)) (.seq (.loop [4] J .rng (.tup (.cons (.v 2) .nil)) (.seq (.g (.b .lt (.b .mod (.v 4) (.v 0)) (.b .sub (.v 0) (.L (.int 1)))) (.app 3 (.tup (.cons (.v 4) (.cons (.b .add (.v 4) (.L (.int 1))) (.cons (.L (.bl J)) .nil))))) .nop) (.g (.b .lt (.b .add (.v 4) (.v 0)) (.v 2)) (.app 3 (.tup (.cons (.v 4) (.cons (.b .add (.v 4) (.v 0)) (.cons (.L (.bl Y)) .nil))))) .nop))) (.M 3))))
def pI{a:Nat}(h:0<b):ah .mod (.int (a:Int)) (.int (b:Int))=O (.int ((a % b:Nat):Int)):=(mM z7).trans (by rw[Int.natCast_emod])
def FJ{a:Nat}(h:0<b)(h1:b<1000000):ah .fdiv (.int (a:Int)) (.int (b:Int))=O (.int ((a / b:Nat):Int)):=(oJ z7 z7).trans (by rw[Int.natCast_ediv])
def hJ{a:Nat}(h:a<=1000000):ah .mul (.int (a:Int)) (.int (b:Int))=O (.int ((a*b:Nat):Int)):=(EA z7 z7).trans (by rw[Int.natCast_mul])
def FL{a:Nat}(hb:1<=b):decide ((a:Int)<(b:Int)-1)=decide (a<b-1):=decide_eq_decide.mpr z7
def rY(hc:1<=c)(I:c*r<=64)(z:c<=64):bK G 5 jB [.int c,.int r]=O (.ok (.lst ((b0 c (c*r) (c*r)).map fm))):=by
 refine aR (B:=[.im (.int c),.im (.int r),.un,.un,.un]) rfl ?_;refine aH (aQ (d:=.int ((c*r:Nat):Int)) (by simp only[z6,hJ (show c<=1000000 by lia)])) (aH (fK (ds:=[]) (by simp only[zz,yy,aB])) ?_);simp only[List.set];obtain⟨B',l,s4,rfl⟩:=kU (bind:=bB [4] J) (body:=ex G (.seq (.g (.b .lt (.b .mod (.v 4) (.v 0)) (.b .sub (.v 0) (.L (.int 1)))) (.app 3 (.tup (.cons (.v 4) (.cons (.b .add (.v 4) (.L (.int 1))) (.cons (.L (.bl J)) .nil))))) .nop) (.g (.b .lt (.b .add (.v 4) (.v 0)) (.v 2)) (.app 3 (.tup (.cons (.v 4) (.cons (.b .add (.v 4) (.v 0)) (.cons (.L (.bl Y)) .nil))))) .nop))) (λk B=>∃s4,B=[.im (.int c),.im (.int r),.im (.int ((c*r:Nat):Int)),.mu (.lst ((b0 c (c*r) k).map fm)),s4]) (n:=c*r) (B:=[.im (.int c),.im (.int r),.im (.int ((c*r:Nat):Int)),.mu (.lst []),.un]) ⟨_,rfl⟩ (by
  rintro k hk B ⟨s4,rfl⟩;have hl:=gC (c:=c) (n:=c*r) k;refine⟨_,rfl,_,aH (iP (b:=decide (k % c<c-1)) (d:=fm (k,k+1,J)) ?_ ?_ rfl (by rw[uw];lia)) (iP (b:=decide (k+c<c*r)) (d:=fm (k,k+c,Y)) ?_ ?_ rfl ?_),.im (.int k),?_⟩;simp only[List.set];simp only[z6,pI hc,FL hc];simp only[List.set];simp only[z6];rfl;simp only[List.set];simp only[z6];exact congrArg (λb=>O (D.bl b)) (decide_eq_decide.mpr z7);simp only[List.set];simp only[z6];rfl;rw[vt,uw];split<;>simp<;>lia
  simp only[List.set,qE,xf,vd,EB])
 exact aH ((bZ (d:=.tup [.int ((c*r:Nat):Int)]) (by simp only[z6]) (cR z7)).trans l) (jH rfl)
noncomputable def aGg:IS:=(.app 2 (.tup (.cons (.v 3) (.cons (.v 4) (.cons (.v 5) (.cons (.q (.tr (.v 5)) (.ix (.ix (.v 1) (.v 3)) (.L (.int 1))) (.ix (.ix (.v 1) (.v 3)) (.L (.int 0)))) .nil))))))
def jF:IS:=(.seq (.set 1 (.call zf (.cons (.v 0) .nil))) (.seq (.setm 2 (.lst .nil)) (.seq (.loop [3,4,5] Y .seq (.call zi (.cons (.fld (.v 0) zu) (.cons (.fld (.v 0) "rows") .nil))) aGg) (.M 2))))
def EE{k:Nat}{s:Spot}{l:Bool}(h:sp[k]?=O s):nK sp k l=if l then yI s else zK s:=by unfold nK;rw[h]
def sH(hf:G.fl "Pile"=cz){F C:List D}{kvs:List (Int×D)}(W:G.fn zf [aN c r w h T F C]=O (.ok (.dct kvs)))(hk:∀(i:Nat) (s:Spot),sp[i]?=O s->bU kvs i=O (sX s)) (R:G.fn zi [.int c,.int r]=O (.ok (.lst ((b0 c (c*r) (c*r)).map fm)))) (ak:c*r<=64) (ax:sp.length=c*r):bK G 6 jF [aN c r w h T F C]=O (.ok (jsE sp c r)):=by
 have e0:∀r',ev G (.v 0) (.im (aN c r w h T F C)::r')=O (bT c r w h (T.map sE) F C):=λ_=>by simp only[zz,yy];rfl
 refine aR (B:=[.im (aN c r w h T F C),.un,.un,.un,.un,.un]) rfl ?_;refine aH (aQ (d:=.dct kvs) (by simp only[z6,W])) (aH (fK (ds:=[]) (by simp only[zz,yy,aB])) ?_);simp only[List.set];have hl:=gC (c:=c) (n:=c*r) (c*r);obtain⟨B',l,I,s4,z,rfl⟩:=tQ (enc:=fm) (bind:=bB [3,4,5] Y) (body:=ex G aGg) (λk B=>∃I s4 z,B=[.im (aN c r w h T F C),.im (.dct kvs),.mu (.lst (((b0 c (c*r) (c*r)).take k).map (jD sp))),I,s4,z]) (L:=b0 c (c*r) (c*r)) (B:=[.im (aN c r w h T F C),.im (.dct kvs),.mu (.lst []),.un,.un,.un]) ⟨_,_,_,rfl⟩ (by
  rintro k j hj B ⟨I,s4,z,rfl⟩;have ha:j.1<sp.length:=by rw[ax];exact aCd (u5 hj)
  have hs:=u7 ha;refine⟨[.im (aN c r w h T F C),.im (.dct kvs),.mu (.lst (((b0 c (c*r) (c*r)).take k).map (jD sp))),.im (.int j.1),.im (.int j.2.1),.im (.bl j.2.2)],rfl,_,CK (d:=jD sp j) ?_ rfl (by rw[uw,wk];lia),.im (.int j.1),.im (.int j.2.1),.im (.bl j.2.2),?_⟩;have hv:=hk j.1 _ hs;unfold jD;rw[EE hs];cases hb:j.2.2;simp only[z6,cU,hv,sX,sG.1,sG.2];rfl;simp only[z6,cU,hv,sX,sG.1,sG.2];rfl;rw[List.take_add_one,hj,xf];rfl)
 rw[take_length]at l;refine aH ((bZ (d:=.lst ((b0 c (c*r) (c*r)).map fm)) ?_ cJ).trans l) (jH rfl);rw[fL,aU,kO hf (e0 _),aU,vI hf (e0 _)];simp only[z6,R]
noncomputable def qN:IS:=(.ret Y (.c 3 [(2,0)] [1] J .seq (.call zg (.cons (.v 0) .nil)) (.b .notin (.sl (.v 1) J (.L .non) Y (.L (.int 2))) (.fld (.v 2) zw)) (.v 1)))
end
end Pg
theorem zT{α:Type}{f:D->Option (Option D)}{enc g:α->D}{p:α->Bool}:∀{L:List α},(∀a∈L,f (enc a)=O (if p a then O (g a) else U))->cK f (L.map enc)=O ((L.filter p).map g)
 |[],_=>rfl
 |a::r,e=>by rw[vz];unfold cK;rw[e a (x8),zT λx hx=>e x (v8 _ hx)];cases h:p a;rw[filter_cons_of_neg (by simp[h])];rfl;rw[filter_cons_of_pos (by simp[h])];rfl
def fO{α:Type}{G:GS}{B:List Sl}{fr:List (Nat×Nat)}{k:Src}{src test elt:IE}{s:D}{L:List α}(enc g:α->D)(p:α->Bool)(h1:ev G src B=O s)(h2:items k s=O (L.map enc)) (h3:∀a∈L,∃ρ1,bB tg tp (enc a) (frame n fr B)=O ρ1/\ev G test ρ1=O (.bl (p a))/\ev G elt ρ1=O (g a)):ev G (.c n fr tg tp k src test elt) B=O (.lst ((L.filter p).map g)):=by rw[wM,h1,x5,h2,x5,zT (g:=g) (p:=p)];rfl;intro a ha;obtain⟨ρ1,e1,e2,e3⟩:=h3 a ha;rw[e1,x5,e2,x5];cases p a;rfl;show Option.map O (ev G elt ρ1)=_;rw[e3];rfl
theorem zM{α:Type}{f:α->D}:∀{L:List α},(∀a,bx (f a) (f a)=Y)->lW (L.map f) (L.map f)=Y
 |[],_=>by rw[map_nil,lW]
 |a::r,h=>by rw[vz,lW,h a,zM (L:=r) h];rfl
def GP{α:Type}{f:α->D}{L:List α}(h:∀a,flat 7 (f a)=Y):plain (.lst (L.map f))=Y:=by show (L.map f).all (flat 7)=Y;rw[List.all_map];exact all_eq_true.mpr λa _=>h a
def YD{xs ys:List D}:bx (.lst xs) (.lst ys)=lW xs ys:=by rw[bx]
namespace Pg
section
variable {G:GS}
noncomputable def NK:IS:=(.seq (.set 3 (.q (.tr (.v 1)) (.fld (.v 0) "high") (.fld (.v 0) "wide"))) (.seq (.g (.or (.b .lt (.v 2) (.L (.int 0))) (.b .gt (.v 2) (.v 3))) (.rse "NoPlace") .nop) (.seq (.set 4 (.c 4 [(2,1),(3,2)] [1] J .seq (.call zx (.cons (.v 0) .nil)) (.b .eq (.sl (.v 1) Y (.L (.int 2)) J (.L .non)) (.tup (.cons (.v 2) (.cons (.v 3) .nil)))) (.sl (.v 1) J (.L .non) Y (.L (.int 2))))) (.ret J (.mk "Pile" (.cons (.fld (.v 0) zu) (.cons (.fld (.v 0) "rows") (.cons (.fld (.v 0) "table") (.cons (.fld (.v 0) "folds") (.cons (.b .add (.fld (.v 0) zw) (.ρ .tuple (.cons (.v 4) .nil))) .nil))))))))))
def sO{a b c d:D}:cut [a,b,c,d] (O 2) U=[c,d]:=rfl
def wO{a b:Bool}{j:Int}:ah .eq (.tup [.bl a,.int i]) (.tup [.bl b,.int j])=O (.bl ((a == b)&&(i == j))):=by show oEq _ _=_;unfold oEq;rw[show (plain (.tup [.bl a,.int i])&&plain (.tup [.bl b,.int j]))=Y from rfl];simp[bx,lW]
def JO(p:Table×Nat×Nat)(f:Fold):Table×Nat×Nat:=(foldT f.sd f.over f.k p.1,if f.sd.up then max f.k (p.2.1-f.k) else p.2.1,if f.sd.up then p.2.2 else max f.k (p.2.2-f.k))
def runs(c r:Nat)(fs:List Fold):Table×Nat×Nat:=fs.foldl JO (fY c r,c,r)
def mZ{fs:List Fold}{f:Fold}:runs c r (fs++[f])=JO (runs c r fs) f:=by unfold runs;rw[List.foldl_append];rfl
def eD(c r:Nat)(fs:List Fold):D:=aN c r (runs c r fs).2.1 (runs c r fs).2.2 (runs c r fs).1 (fs.map Fold.d) []
structure Stg (c r:Nat) (fs:List Fold) (sp:List Spot):Prop where
 sits:av (runs c r fs).1 (runs c r fs).2.1 (runs c r fs).2.2 sp
 len:sp.length=c*r
def Fits(c r:Nat)(fs:List Fold)(f:Fold):Prop:=1<=f.k/\f.k<ext f.sd (runs c r fs).2.1 (runs c r fs).2.2
structure StgI (c r:Nat) (fs:List Fold):Prop where
 sit:SitI (runs c r fs).1 (runs c r fs).2.1 (runs c r fs).2.2 (c*r)
theorem StgI.fold{fs:List Fold}(S:StgI c r fs){f:Fold}(ok:Fits c r fs f):StgI c r (fs++[f]):=⟨by rw[mZ];exact S.sit.fold ok.1 ok.2⟩
def IB(so:∀(c r w h:Nat) (T:Table) (F:List D) (sd:Side) (over:Bool) (k:Nat),Rect T w h->w<=1000->h<=1000->sI 400000 T->1<=k->(k<if sd.up then w else h)->F.length<=1000 ->G.fn zy [aN c r w h T F [],.str sd.str,.bl over,.int k]=O (.ok (aN c r (if sd.up then max k (w-k) else w) (if sd.up then h else max k (h-k)) (foldT sd over k T) (F++[fX sd over k]) [])))  {fs:List Fold} (S:StgI c r fs) {f:Fold} (ok:Fits c r fs f) (hl:fs.length<=1000):G.fn zy [eD c r fs,.str f.sd.str,.bl f.over,.int f.k]=O (.ok (eD c r (fs++[f]))):=by have a:=S.sit.w64;have b:=S.sit.h64;unfold eD;rw[so c r _ _ _ _ f.sd f.over f.k S.sit.rect z7 z7 (λs hs x hx=>vm (S.sit.few s hs x hx) Aa) ok.1 ok.2 (by rw[uw];exact hl),mZ,xf];rfl
end
section
variable {G:GS}
noncomputable def pD(p:Nat×Nat):D:=.tup [.int p.1,.int p.2]
def pairOf(j:Nat×Nat×Bool):Nat×Nat:=(j.1,j.2.1)
def left(c n:Nat)(aa:List (Nat×Nat)):List (Nat×Nat×Bool):=(b0 c n n).filter λj=>!aa.contains (pairOf j)
def eE(sp:List Spot)(l:Bool)(n:Int)(j:Nat×Nat×Bool):Bool:=(j.2.2 == l)&&(nK sp j.1 j.2.2 == n)
def fZ(c n:Nat)(sp:List Spot)(aa:List (Nat×Nat))(l:Bool)(k:Int):List (Nat×Nat):=((left c n aa).filter (eE sp l k)).map pairOf
def ML:left c n []=b0 c n n:=List.filter_eq_self.mpr λ_ _=>rfl
def QQ{p q:Nat×Nat}:bx (pD p) (pD q)=(p == q):=by unfold pD;obtain⟨a,b⟩:=p;obtain⟨c,d⟩:=q;simp only[bx,lW,Bool.and_true];rw[Bool.eq_iff_iff];simp;lia
def GZ{p:Nat×Nat}:ah .notin (pD p) (.tup (aa.map pD))=O (.bl (!aa.contains p)):=by show (if (plain (pD p)&&(aa.map pD).all plain)=Y then O (D.bl (!(aa.map pD).any λy=>bx y (pD p))) else U)=_;rw[if_pos];congr 2;rw[any_map];congr 1;rw[List.contains_eq_any_beq];congr 1;funext q;show bx (pD q) (pD p)=(p == q);rw[QQ,Bool.beq_comm];rw[va];exact⟨rfl,all_eq_true.mpr λx hx=>by obtain⟨y,_,rfl⟩:=wc.mp hx;rfl⟩
def BN(hf:G.fl "Pile"=cz){T:Table}{F:List D}{sp:List Spot}(z:G.fn zg [aN c r w h T F (aa.map pD)]=O (.ok (jsE sp c r))):bK G 1 qN [aN c r w h T F (aa.map pD)]=O (.ok (.lst ((left c (c*r) aa).map (jD sp)))):=by refine aR (B:=[.im (aN c r w h T F (aa.map pD))]) rfl (bC ?_);refine fO (jD sp) (jD sp) (λj=>!aa.contains (pairOf j)) (s:=jsE sp c r) (by simp only[z6,z]) cJ λj _=>⟨[.un,.im (jD sp j),.im (aN c r w h T F (aa.map pD))],rfl,?_,by simp only[zz,yy]⟩;rw[bF,kN (c:=c) (r:=r) (w:=w) (h:=h) (T:=T.map sE) (F:=F) (S:=aa.map pD) hf (by simp only[zz,yy];rfl),FF,rE];unfold jD;simp only[z6,part,intOf];exact GZ (p:=pairOf j)
def YH(hf:G.fl "Pile"=cz){T:Table}{F:List D}{sp:List Spot}(R:Rect T w h)(oa:G.fn zx [aN c r w h T F (aa.map pD)]=O (.ok (.lst ((left c (c*r) aa).map (jD sp))))) (W:∀(c r:Int) (T row:List D) (F S:List D),T[0]?=O (.lst row)->G.mo "Pile" [.int c,.int r,.lst T,.tup F,.tup S]=O (.ok (bT c r row.length T.length T F S))) {l:Bool} {n:Int} (h0:0<=n) (h1:n<=((if l then h else w:Nat):Int)) (hlen:aa.length+c*r*2<=1000000):bK G 5 NK [aN c r w h T F (aa.map pD),.bl l,.int n]=O (.ok (aN c r w h T F ((aa++fZ c (c*r) sp aa l n).map pD))):=by
 have z:∀r',ev G (.v 0) (.im (aN c r w h T F (aa.map pD))::r')=O (bT c r w h (T.map sE) F (aa.map pD)):=λ_=>by simp only[zz,yy];rfl
 have I:=W c r (T.map sE) ((T.getD 0 []).map hE) F ((aa++fZ c (c*r) sp aa l n).map pD) (by have:=R.len;have:=R.h1;rw[uv,u3,u7 z7];rfl);rw[uw,uw,R.len,show (T.getD 0 []).length=_ from R.width]at I;refine aR (B:=[.im (aN c r w h T F (aa.map pD)),.im (.bl l),.im (.int n),.un,.un]) rfl ?_;refine aH (aQ (d:=.int ((if l then h else w:Nat):Int)) ?_) (aH (dG ?_ aY) (aH (aQ (d:=.lst ((fZ c (c*r) sp aa l n).map pD)) ?_) (bC ?_)));rw[rH];cases l;simp only[z6,cU,iU hf (z _)];rfl;simp only[z6,cU,iV hf (z _)];rfl;simp only[List.set];simp only[z6];rw[uz (show ¬n<0 by lia),uz (show ¬((if l then h else w:Nat):Int)<n by lia)];simp only[List.set];have e:=fO (G:=G) (L:=left c (c*r) aa) (jD sp) (λj=>pD (pairOf j)) (eE sp l n) (n:=4) (fr:=[(2,1),(3,2)]) (tg:=[1]) (tp:=J) (k:=.seq) (src:=.call zx (.cons (.v 0) .nil)) (test:=.b .eq (.sl (.v 1) Y (.L (.int 2)) J (.L .non)) (.tup (.cons (.v 2) (.cons (.v 3) .nil)))) (elt:=.sl (.v 1) J (.L .non) Y (.L (.int 2))) (B:=[.im (aN c r w h T F (aa.map pD)),.im (.bl l),.im (.int n),.im (.int ((if l then h else w:Nat):Int)),.un]) (s:=.lst ((left c (c*r) aa).map (jD sp))) (by simp only[z6,oa]) cJ λj _=>⟨[.un,.im (jD sp j),.im (.bl l),.im (.int n)],rfl,by
  unfold jD;rw[bF,FF,rE];simp only[z6,part,intOf];exact wO,by
  unfold jD;rw[FF,rE];simp only[z6,part,intOf];rfl⟩
 rw[e];unfold fZ;rw[xi];rfl;simp only[List.set];rw[QF,aU,kO hf (z _),aU,vI hf (z _),aU,vH hf (z _),aU,DW hf (z _),aU,bF,kN hf (z _)];simp only[z6];rw[show bf .tuple [.lst ((fZ c (c*r) sp aa l n).map pD)]=O (.tup ((fZ c (c*r) sp aa l n).map pD)) from rfl];have bp:(fZ c (c*r) sp aa l n).length<=c*r*2:=by unfold fZ left;rw[uw];refine vm (length_filter_le _ _) (vm (length_filter_le _ _) ?_);have:=gC (c:=c) (n:=c*r) (c*r);lia
 simp only[aA,aGl (a:=aa.map pD) (b:=(fZ c (c*r) sp aa l n).map pD) (by rw[uw,uw];lia),<-xf,zz,yy,I];rfl
end
section
variable {G:GS}
def md{n:Int}(h:0<n):ah .mod (.int i) (.int n)=O (.int (i % n)):=mM h
def dv{n:Int}(h:0<n)(h':n<1000000):ah .fdiv (.int i) (.int n)=O (.int (i / n)):=oJ h h'
def qG(i:Int)(n:Nat)(h:0<n):∃k:Nat,k<n/\i % (n:Int)=k:=by have h0:=Int.emod_nonneg i (show (n:Int)≠0 by lia);have h1:=Int.emod_lt_of_pos i (show (0:Int)<n by lia);exact⟨(i % (n:Int)).toNat,z7,z7⟩
end
section
variable {G:GS}
noncomputable def CN:IS:=(.g (.b .gt (.b .mul (.fld (.v 3) "wide") (.fld (.v 3) "high")) (.L (.int 1))) (.seq (.set 5 (.b .add (.call yo (.cons (.v 2) (.cons (.b .add (.L (.int 3)) (.b .mod (.v 4) (.L (.int 12)))) .nil))) (.b .mul (.L (.int 11)) (.b .fdiv (.v 4) (.L (.int 12)))))) (.seq (.set 6 (.call yu (.cons (.v 5) (.cons (.fld (.v 3) "wide") (.cons (.fld (.v 3) "high") .nil))))) (.set 3 (.call zy (.cons (.v 3) (.cons (.ix (.v 6) (.L (.int 0))) (.cons (.ix (.v 6) (.L (.int 1))) (.cons (.ix (.v 6) (.L (.int 2))) .nil)))))))) .nop)
def BV:IS:=(.seq (.set 3 (.call "laid" (.cons (.v 0) (.cons (.v 1) .nil)))) (.seq (.loop [4] J .rng (.tup (.cons (.b .add (.v 0) (.v 1)) .nil)) CN) (.ret J (.v 3))))
def jd(ns:List Int)(c r:Nat)(fs:List Fold)(s4 I z:Sl):List Sl:=[.im (.int c),.im (.int r),.im (.frz (ns.map .int)),.im (eD c r fs),s4,I,z]
def SV(hf:G.fl "Pile"=cz){ns:List Int}(hc:1<=c)(hr:1<=r)(ak:c*r<=64)(sv:∀k:Nat,G.fn yo [.frz (ns.map .int),.int k]=O (.ok (.int (cf ns k)))) (hla:G.fn "laid" [.int c,.int r]=O (.ok (aN c r c r (fY c r) [] []))) (hfb:∀(w h:Nat) (cell:Int),1<=w->1<=h->1<w*h->∃(sd:Side) (over:Bool) (k:Nat),1<=k/\(k<if sd.up then w else h)/\G.fn yu [.int cell,.int w,.int h]=O (.ok (fX sd over k))) (hfp:∀(fs:List Fold) (sp:Nat) (f:Fold),StgI c r fs->Fits c r fs f->fs.length<=1000->G.fn zy [eD c r fs,.str f.sd.str,.bl f.over,.int f.k]=O (.ok (eD c r (fs++[f])))):∃fs sp,Stg c r fs sp/\(runs c r fs).2.1=1/\(runs c r fs).2.2=1/\bK G 7 BV [.int c,.int r,.frz (ns.map .int)]=O (.ok (eD c r fs)):=by
 have c64:c<=64:=vm (Nat.le_mul_of_pos_right c hr) ak;have r64:r<=64:=vm (Nat.le_mul_of_pos_left r hc) ak;have S0:StgI c r []:=⟨IF hc hr ak⟩;have go:∀(k:Nat),k<c+r->∀B,(∃fs s4 W R,StgI c r fs/\fs.length<=k/\(((runs c r fs).2.1=1/\(runs c r fs).2.2=1)\/(runs c r fs).2.1+(runs c r fs).2.2+k<=c+r)/\B=jd ns c r fs s4 W R) ->∃ρ1,bB [4] J (.int (k:Nat)) B=O ρ1/\∃ρ2,ex G CN ρ1=O (.nx ρ2)/\∃fs s4 W R,StgI c r fs/\fs.length<=k+1/\(((runs c r fs).2.1=1/\(runs c r fs).2.2=1)\/(runs c r fs).2.1+(runs c r fs).2.2+(k+1)<=c+r)/\ρ2=jd ns c r fs s4 W R:=by
  rintro k hk B ⟨fs,s4,W,R,S,I,hw,rfl⟩;refine⟨jd ns c r fs (.im (.int (k:Nat))) W R,rfl,?_⟩;have w1:=S.sit.rect.w1;have h1:=S.sit.rect.h1;have w64:=S.sit.w64;have h64:=S.sit.h64;have ew:∀{B:List Sl} {a:IE},ev G a B=O (eD c r fs)->ev G (.fld a "wide") B=O (.int (runs c r fs).2.1):=λe=>iU hf e;have eh:∀{B:List Sl} {a:IE},ev G a B=O (eD c r fs)->ev G (.fld a "high") B=O (.int (runs c r fs).2.2):=λe=>iV hf e;have et:ev G (.b .gt (.b .mul (.fld (.v 3) "wide") (.fld (.v 3) "high")) (.L (.int 1))) (view (jd ns c r fs (.im (.int (k:Nat))) W R))=O (.bl (decide (1<(runs c r fs).2.1*(runs c r fs).2.2))):=by rw[bF,bF,ew rfl,eh rfl];simp only[z6,hJ (show (runs c r fs).2.1<=1000000 by lia)];exact congrArg (λb=>O (D.bl b)) (decide_eq_decide.mpr z7)
  by_cases hb:1<(runs c r fs).2.1*(runs c r fs).2.2;obtain⟨cell,hcell⟩:∃cell,cell=cf ns (3+k % 12)+11*((k:Int) / 12):=⟨_,rfl⟩;obtain⟨sd,over,kk,k1,k2,efb⟩:=hfb _ _ cell w1 h1 hb;have ok:Fits c r fs ⟨sd,over,kk⟩:=⟨k1,k2⟩;have efp:=hfp fs 0 ⟨sd,over,kk⟩ S ok z7;have S':=S.fold ok;have ec:G.fn yo [.frz (ns.map .int),.int (3+(k:Int) % 12)]=O (.ok (.int (cf ns (3+k % 12)))):=sv (3+k % 12);refine⟨jd ns c r (fs++[⟨sd,over,kk⟩]) (.im (.int (k:Nat))) (.im (.int cell)) (.im (fX sd over kk)),jR (et.trans (by rw[wa hb])) (aH (aQ (d:=.int cell) ?_) (aH (aQ (d:=fX sd over kk) ?_) ((aQ (d:=eD c r (fs++[⟨sd,over,kk⟩])) ?_).trans rfl))),fs++[⟨sd,over,kk⟩],_,_,_,S',by rw[vt];exact Nat.succ_le_succ I,?_,rfl⟩;unfold jd;rw[hcell];simp only[z6,mM (i:=(k:Int)) (j:=12) Aa,oJ (i:=(k:Int)) (j:=12) Aa Aa,ec,EA (i:=11) Aa Aa];rw[fL,aU,aU,ew rfl,aU,eh rfl];unfold jd;simp only[List.set];simp only[z6,efb];unfold jd;simp only[List.set];simp only[z6,fX,CO.1,CO.2.1,CO.2.2,efp];rw[mZ];have ny:kk<if sd.up then(runs c r fs).2.1 else(runs c r fs).2.2:=k2
  have ph:1<=kk:=k1;refine .inr ?_;unfold JO;dsimp only;rcases hw with ⟨e1,e2⟩|hw;rw[e1,e2]at hb;lia;cases hu:sd.up with
  |true=>rw[hu]at ny;simp only[if_true]at ny ⊢;lia
  |false=>rw[hu]at ny;simp only[v7,if_false]at ny ⊢;lia
  refine⟨_,dG (et.trans (by rw[uz hb])) aY,fs,_,_,_,S,le_succ_of_le I,.inl ?_,rfl⟩;have a:(runs c r fs).2.1<=(runs c r fs).2.1*(runs c r fs).2.2:=Nat.le_mul_of_pos_right _ h1;have b:(runs c r fs).2.2<=(runs c r fs).2.1*(runs c r fs).2.2:=Nat.le_mul_of_pos_left _ w1;exact⟨z7,z7⟩
 obtain⟨B',l,fs,s4,W,R,S,I,hw,rfl⟩:=tQ (enc:=λk:Nat=>D.int k) (bind:=bB [4] J) (body:=ex G CN) (λk B=>∃fs s4 W R,StgI c r fs/\fs.length<=k/\(((runs c r fs).2.1=1/\(runs c r fs).2.2=1)\/(runs c r fs).2.1+(runs c r fs).2.2+k<=c+r)/\B=jd ns c r fs s4 W R) (L:=List.range (c+r)) (B:=jd ns c r [] .un .un .un) ⟨[],_,_,_,S0,ux _,.inr (ux _),rfl⟩ (λk a hk B h=>by
  have h1:=(u0.mp hk).1;rw[vh]at h1;have h2:a=k:=by rw[xa h1]at hk;exact(vb hk).symm
  subst h2;exact go a h1 B h)
 rw[vh]at hw;have w1:=S.sit.rect.w1;have h1:=S.sit.rect.h1;have i8:(runs c r fs).2.1=1/\(runs c r fs).2.2=1:=hw.elim id λz=>by lia
 obtain⟨sp,Si,hl⟩:∃sp,av (runs c r fs).1 1 1 sp/\sp.length=c*r:=by have:=S.sit;rw[i8.1,i8.2]at this;exact this.sits (Nat.mul_pos hc hr)
 refine⟨fs,sp,⟨by rw[i8.1,i8.2];exact Si,hl⟩,i8.1,i8.2,aR (B:=[.im (.int c),.im (.int r),.im (.frz (ns.map .int)),.un,.un,.un,.un]) rfl (aH (aQ (d:=eD c r []) ?_) (aH ((bZ (d:=.tup [.int ((c+r:Nat):Int)]) ?_ (cR z7)).trans l) (bC (by unfold jd;simp only[zz,yy]))))⟩;simp only[z6,hla];rfl;simp only[List.set];simp only[z6];rfl
def rO{T:Table}{sp:List Spot}(S:av T 1 1 sp):(ao T 0 0).length=sp.length/\fW ((ao T 0 0).map λc=>D.int c.1)=O ((List.range sp.length).map λ(k:Nat)=>D.int k):=by
 have R:((ao T 0 0).map λc=>(c.1,(0:Int))).Nodup:=by rw[nodup_iff_pairwise_ne,pairwise_map];exact(S.lk.ord 0 0).imp λ{a b} h e=>h (Prod.mk.inj e).1
 have pm:((List.range sp.length).map λ(k:Nat)=>((k:Int),(0:Int))).Pairwise (λa b=>dc a b=Y):=by rw[pairwise_map];refine pairwise_lt_range.imp λ{a b} h=>?_;rw[eR];exact .inl (by dsimp only;lia)
 have nm:((List.range sp.length).map λ(k:Nat)=>((k:Int),(0:Int))).Nodup:=pm.imp λ{a b} e q=>by subst q;rw[eR]at e;lia
 have I:((List.range sp.length).map λ(k:Nat)=>((k:Int),(0:Int))).Perm ((ao T 0 0).map λc=>(c.1,(0:Int))):=by refine(List.perm_ext_iff_of_nodup nm R).mpr λp=>?_;rw[wc,wc];constructor;rintro⟨k,hk,rfl⟩;have hk:=xp.mp hk;have hs:=u7 hk;have hm:=getElem_mem hk;have:=S.xlt hm;have:=S.ylt hm;exact⟨((k:Int),(sp[k]).e,(sp[k]).n),(S.lk.mem 0 0 _).mpr ⟨k,sp[k],hs,z7,z7,rfl⟩,rfl⟩;rintro⟨c,hc,rfl⟩;obtain⟨i,s,h1,_,_,rfl⟩:=(S.lk.mem 0 0 c).mp hc;exact⟨i,xp.mpr (u0.mp h1).1,rfl⟩
 have hl:(ao T 0 0).length=sp.length:=by have:=I.length_eq;simpa using this.symm
 refine⟨hl,?_⟩;have h1:1<=sp.length:=Nat.pos_of_ne_zero λz=>S.ne (vy.mp z);have np:lP ((ao T 0 0).map λc=>D.int c.1)=U:=by
  cases W:ao T 0 0 with
  |nil=>rw[W]at hl;simp at hl;lia
  |cons c r=>rfl
 have cs:eC (((ao T 0 0).map λc=>c.1).map λi=>(i,(0:Int)))=Y:=by unfold eC;rw[va,vg,vg,xi];refine⟨?_,R⟩;rw[uw,hl];exact S.len
 unfold fW;rw[np];show (match dW ((ao T 0 0).map λc=>D.int c.1) with|some is=>(if eC (is.map λi=>(i,0)) then O ((jO (is.map λi=>(i,0))).map λ(p:Int×Int)=>D.int p.1) else U)|none=>U)=_;rw[ints_map];show (if eC (((ao T 0 0).map λc=>c.1).map λi=>(i,(0:Int))) then O ((jO (((ao T 0 0).map λc=>c.1).map λi=>(i,(0:Int)))).map λp=>D.int p.1) else U)=_;rw[if_pos cs,xi,show ((λi=>(i,(0:Int))) ∘ λ(c:Cell)=>c.1)=λc=>(c.1,(0:Int)) from rfl,<-pZ I pm,xi];rfl
noncomputable def RH:IS:=(.seq (.g (.or (.not (.tr (.y (.v 3) "tuple"))) (.or (.b .ne (.ρ .len (.cons (.v 3) .nil)) (.L (.int 3))) (.not (.tr (.call zh (.cons (.ix (.v 3) (.L (.int 0))) .nil)))))) (.ret J (.L .non)) .nop) (.g (.or (.not (.tr (.y (.ix (.v 3) (.L (.int 1))) "bool"))) (.not (.tr (.y (.ix (.v 3) (.L (.int 2))) "bool")))) (.ret J (.L .non)) .nop))
def BX:IS:=(.seq (.g (.or (.b .ne (.fld (.v 0) "wide") (.L (.int 1))) (.b .ne (.fld (.v 0) "high") (.L (.int 1)))) (.ret J (.L .non)) .nop) (.seq (.set 2 (.meth (.v 0) "heap" (.cons (.L (.int 0)) (.cons (.L (.int 0)) .nil)))) (.seq (.g (.or (.not (.tr (.y (.v 2) "list"))) (.b .ne (.ρ .len (.cons (.v 2) .nil)) (.v 1))) (.ret J (.L .non)) .nop) (.seq (.loop [3] J .seq (.v 2) RH) (.seq (.g (.b .ne (.ρ .sorted (.cons (.c 2 [] [1] J .seq (.v 2) (.L (.bl Y)) (.ix (.v 1) (.L (.int 0)))) .nil)) (.walk .rng (.tup (.cons (.v 1) .nil)))) (.ret J (.L .non)) .nop) (.ret J (.v 2)))))))
def WS(hf:G.fl "Pile"=cz)(hw:∀i:Int,G.fn zh [.int i]=O (.ok (.bl Y))){T:Table}{F S:List D}{sp:List Spot}(St:av T 1 1 sp)(hs:sp.length=c*r)(W:G.me "Pile" "heap" [aN c r 1 1 T F S,.int 0,.int 0]=O (.ok (hE (ao T 0 0)))):bK G 4 BX [aN c r 1 1 T F S,.int ((c*r:Nat):Int)]=O (.ok (hE (ao T 0 0))):=by obtain⟨hl,z⟩:=rO St;have n64:=St.len;refine aR (B:=[.im (aN c r 1 1 T F S),.im (.int ((c*r:Nat):Int)),.un,.un]) rfl ?_;have R:∀{s1 s2 I:Sl},ev G (.v 0) [.im (aN c r 1 1 T F S),s1,s2,I]=O (bT c r (1:Nat) (1:Nat) (T.map sE) F S):=λ{_ _ _}=>rfl;obtain⟨B',h1,I,rfl⟩:=nW (bind:=bB [3] J) (body:=ex G RH) (λB=>∃I,B=[.im (aN c r 1 1 T F S),.im (.int ((c*r:Nat):Int)),.im (hE (ao T 0 0)),I]) (ds:=(ao T 0 0).map f6) (B:=[.im (aN c r 1 1 T F S),.im (.int ((c*r:Nat):Int)),.im (hE (ao T 0 0)),.un]) ⟨.un,rfl⟩ (by rintro d hd B ⟨I,rfl⟩;obtain⟨q,hq,rfl⟩:=wc.mp hd;refine⟨_,rfl,_,aH (dG ?_ aY) (dG ?_ aY),_,rfl⟩;show ev G _ (view [.im (aN c r 1 1 T F S),.im (.int ((c*r:Nat):Int)),.im (hE (ao T 0 0)),.im (f6 q)])=_;simp only[dC,eI,bG];unfold f6;refine cD (x:=J) (y:=J) (by simp only[z6,vO,cU,vv]) λ_=>cD (x:=J) (y:=J) ?_ λ_=>?_;simp only[z6];rfl;simp only[z6,CO.1,hw,cU,vv];show ev G _ (view [.im (aN c r 1 1 T F S),.im (.int ((c*r:Nat):Int)),.im (hE (ao T 0 0)),.im (f6 q)])=_;simp only[dC,eI,bG];unfold f6;exact cD (x:=J) (y:=J) (by simp only[z6,CO.2.1,oR,cU,vv]) λ_=>by simp only[z6,CO.2.2,oR,cU,vv]);refine aH (dG ?_ aY) (aH (aQ (d:=hE (ao T 0 0)) ?_) (aH (dG ?_ aY) (aH ((bZ (d:=hE (ao T 0 0)) ?_ cJ).trans h1) (aH (dG ?_ aY) (bC ?_)))));simp only[dC,eI,bG];refine cD (x:=J) (y:=J) ?_ λ_=>?_;rw[bF,iU hf R];simp only[z6];rfl;rw[bF,iV hf R];simp only[z6];rfl;exact LH rfl R (by simp only[z6]) W;simp only[List.set,dC,eI,bG];refine cD (x:=J) (y:=J) (by unfold hE;simp only[z6,vP,cU,vv]) λ_=>?_;unfold hE;simp only[z6,uw,hl,hs];simp;simp only[List.set];simp only[zz,yy];simp only[dC,eI,bG];have e1:∀{B:List Sl},ev G (.v 2) B=O (hE (ao T 0 0))->ev G (.c 2 [] [1] J .seq (.v 2) (.L (.bl Y)) (.ix (.v 1) (.L (.int 0)))) B=O (.lst ((ao T 0 0).map λc=>D.int c.1)):=λ{B} h=>cM (L:=ao T 0 0) f6 (λc=>D.int c.1) (s:=hE (ao T 0 0)) h cJ λc _=>⟨[.un,.im (f6 c)],rfl,by simp only[zz,yy],by unfold f6;simp only[z6,CO.1]⟩;rw[bF,fP,aU,e1 rfl];show ((Option.map D.lst (fW ((ao T 0 0).map λc=>D.int c.1))).bind λx=>(ev G (.walk .rng (.tup (.cons (.v 1) .nil))) _).bind λy=>ah .ne x y)=_;rw[z];simp only[z6,cR (n:=c*r) z7,hs];exact ne_self (GP λ_=>rfl) (by rw[YD];exact zM λa=>by rw[bx];exact beq_self_eq_true _);simp only[zz,yy]
noncomputable def yV:IS:=(.seq (.g (.or (.b .gt (.fld (.v 0) "wide") (.L (.int 1))) (.b .gt (.fld (.v 0) "high") (.L (.int 1)))) (.rse "Ajar") .nop) (.g (.inC Y zb (.v 1)) (.rse "NoPlace") .nop))
noncomputable def i4:List (Str×D):=[("west",.tup [.bl J,.int 0]),("east",.tup [.bl J,.int 1]),("north",.tup [.bl Y,.int 0]),("south",.tup [.bl Y,.int 1])]
def QI{neg:Bool}{x:Str}{a:IE}{B:List Sl}{s:Str}{kvs:List (Str×D)}(e:ev G a B=O (.str s))(hk:G.dk x=O kvs):ev G (.inC neg x a) B=O (.bl (neg != (kvs.lookup s).isSome)):=by show (ev G a B).bind _=_;rw[e];show (G.dk x).map _=_;rw[hk];rfl
def aAz(hf:G.fl "Pile"=cz)(hk:G.dk zb = O i4){T:Table}{F S:List D}:bK G 2 yV [aN c r 1 1 T F S,.str sd.str]=O (.ok .non):=by have z:ev G (.v 0) [.im (aN c r 1 1 T F S),.im (.str sd.str)]=O (bT c r (1:Nat) (1:Nat) (T.map sE) F S):=rfl;refine DJ (B:=[.im (aN c r 1 1 T F S),.im (.str sd.str)]) rfl (aH (dG ?_ aY) (dG ?_ aY));simp only[dC,eI,bG];refine cD (x:=J) (y:=J) ?_ λ_=>?_;rw[bF,iU hf z];simp only[z6];rfl;rw[bF,iV hf z];simp only[z6];rfl;simp only[dC,eI,bG];rw[QI (s:=sd.str) rfl hk];cases sd<;>rfl
def FY(hf:G.fl "Pile"=cz)(hk:G.dk zb = O i4)(hx:G.xn "NoPlace"=Y){x:Str}(hn:i4.lookup x=U){T:Table}{F S:List D}:bK G 2 yV [aN c r 1 1 T F S,.str x]=O (.er "NoPlace"):=by have z:ev G (.v 0) [.im (aN c r 1 1 T F S),.im (.str x)]=O (bT c r (1:Nat) (1:Nat) (T.map sE) F S):=rfl;refine uY (B:=[.im (aN c r 1 1 T F S),.im (.str x)]) rfl (aH (dG ?_ aY) (jR ?_ (QB hx)));simp only[dC,eI,bG];refine cD (x:=J) (y:=J) ?_ λ_=>?_;rw[bF,iU hf z];simp only[z6];rfl;rw[bF,iV hf z];simp only[z6];rfl;simp only[dC,eI,bG];rw[QI (s:=x) rfl hk,hn];rfl
def JD(hf:G.fl "Pile"=cz)(hx:G.xn "Ajar"=Y){d:D}(hw:1<w*h)(R:1<=w)(W:1<=h){T:Table}{F S:List D}:bK G 2 yV [aN c r w h T F S,d]=O (.er "Ajar"):=by
 have I:ev G (.v 0) [.im (aN c r w h T F S),.im d]=O (bT c r w h (T.map sE) F S):=rfl;refine uY (B:=[.im (aN c r w h T F S),.im d]) rfl (iO (jR ?_ (QB hx)) λ_ z=>by cases z);simp only[dC,eI,bG];have e1:ev G (.b .gt (.fld (.v 0) "wide") (.L (.int 1))) [.im (aN c r w h T F S),.im d]=O (.bl (decide ((1:Int)<w))):=by rw[bF,iU hf I];simp only[z6]
 have e2:ev G (.b .gt (.fld (.v 0) "high") (.L (.int 1))) [.im (aN c r w h T F S),.im d]=O (.bl (decide ((1:Int)<h))):=by rw[bF,iV hf I];simp only[z6]
 rw[cD e1 λ_=>e2];refine congrArg (λb=>O (D.bl b)) ?_;rw[xg,vg,vg];by_cases z:1<w;exact .inl z7;refine .inr ?_;have:w=1:=by lia
 rw[this,Nat.one_mul]at hw;lia
noncomputable def gR:IS:=(.seq (.set 1 (.b .mod (.v 0) (.L (.int 8)))) (.seq (.set 2 (.b .fdiv (.v 0) (.L (.int 8)))) (.seq (.g (.b .lt (.v 1) (.L (.int 4))) (.ret J (.tup (.cons (.b .add (.L (.int 1)) (.b .mod (.v 2) (.L (.int 5)))) (.cons (.b .add (.L (.int 1)) (.b .mod (.b .fdiv (.v 2) (.L (.int 5))) (.L (.int 4)))) .nil)))) .nop) (.seq (.g (.b .eq (.v 1) (.L (.int 4))) (.ret J (.tup (.cons (.b .add (.L (.int 1)) (.b .mod (.v 2) (.L (.int 24)))) (.cons (.L (.int 1)) .nil)))) .nop) (.seq (.g (.b .eq (.v 1) (.L (.int 5))) (.ret J (.tup (.cons (.b .add (.L (.int 1)) (.b .mod (.v 2) (.L (.int 2)))) (.cons (.b .add (.L (.int 1)) (.b .mod (.b .fdiv (.v 2) (.L (.int 2))) (.L (.int 12)))) .nil)))) .nop) (.seq (.g (.b .eq (.v 1) (.L (.int 6))) (.ret J (.tup (.cons (.b .add (.L (.int 1)) (.b .mod (.v 2) (.L (.int 8)))) (.cons (.b .add (.L (.int 1)) (.b .mod (.b .fdiv (.v 2) (.L (.int 8))) (.L (.int 8)))) .nil)))) .nop) (.ret J (.ix (.lst (.cons (.tup (.cons (.L (.int 8)) (.cons (.L (.int 8)) .nil))) (.cons (.tup (.cons (.L (.int 16)) (.cons (.L (.int 4)) .nil))) (.cons (.tup (.cons (.L (.int 3)) (.cons (.L (.int 21)) .nil))) (.cons (.tup (.cons (.L (.int 64)) (.cons (.L (.int 1)) .nil))) .nil))))) (.b .mod (.v 2) (.L (.int 4)))))))))))
def GH{cell:Int}:∃c r:Nat,1<=c/\1<=r/\c*r<=64/\bK G 3 gR [.int cell]=O (.ok (.tup [.int c,.int r])):=by
 have e1:ev G (.b .mod (.v 0) (.L (.int 8))) [.im (.int cell),.un,.un]=O (.int (cell % 8)):=by simp only[z6,md (show (0:Int)<8 by decide)]
 have e2:ev G (.b .fdiv (.v 0) (.L (.int 8))) [.im (.int cell),.im (.int (cell % 8)),.un]=O (.int (cell / 8)):=by simp only[z6,dv (show (0:Int)<8 by decide) (show (8:Int)<1000000 by decide)]
 have t1:ev G (.b .lt (.v 1) (.L (.int 4))) (view [.im (.int cell),.im (.int (cell % 8)),.im (.int (cell / 8))])=O (.bl (decide (cell % 8<4))):=by simp only[z6]
 have I:∀n:Int,ev G (.b .eq (.v 1) (.L (.int n))) (view [.im (.int cell),.im (.int (cell % 8)),.im (.int (cell / 8))])=O (.bl (cell % 8 == n)):=λn=>by simp only[z6]
 have start:∀{o:D},(∃x,ex G x [.im (.int cell),.im (.int (cell % 8)),.im (.int (cell / 8))]=O (.rt o)/\gR=(.seq (.set 1 (.b .mod (.v 0) (.L (.int 8)))) (.seq (.set 2 (.b .fdiv (.v 0) (.L (.int 8)))) x)))->bK G 3 gR [.int cell]=O (.ok o):=by rintro o ⟨x,hx,e⟩;rw[e];exact aR (B:=[.im (.int cell),.un,.un]) rfl (aH (aQ e1) (aH (aQ e2) hx))
 have nr:∀(d:D) B',Out.rt d≠.nx B':=λ_ _ z=>by cases z
 have f:∀(i:Int) (n:Nat),0<n->∃k:Nat,k<n/\i % (n:Int)=k:=qG;cases h1:decide (cell % 8<4) with
 |true=>
  obtain⟨a,ha,ea⟩:=f (cell / 8) 5 Aa;obtain⟨b,hb,eb⟩:=f (cell / 8 / 5) 4 Aa;have ea:cell / 8 % 5=a:=ea;have eb:cell / 8 / 5 % 4=b:=eb;refine⟨1+a,1+b,z7,z7,?_,start ⟨_,iO (jR (t1.trans (by rw[h1])) (bC ?_)) (nr _),rfl⟩⟩;have:(1+a)*(1+b)<=5*4:=Nat.mul_le_mul z7 z7;lia;simp only[z6,md (show (0:Int)<5 by decide),dv (show (0:Int)<5 by decide) (show (5:Int)<1000000 by decide),md (show (0:Int)<4 by decide),ea,eb]
  push_cast
  rfl
 |false=>
  have n1:=dG (a:=.ret J (.tup (.cons (.b .add (.L (.int 1)) (.b .mod (.v 2) (.L (.int 5)))) (.cons (.b .add (.L (.int 1)) (.b .mod (.b .fdiv (.v 2) (.L (.int 5))) (.L (.int 4)))) .nil)))) (t1.trans (by rw[h1])) (aY (G:=G));cases h2:(cell % 8 == 4) with
  |true=>
   obtain⟨a,ha,ea⟩:=f (cell / 8) 24 Aa;have ea:cell / 8 % 24=a:=ea;refine⟨1+a,1,z7,z7,z7,start ⟨_,aH n1 (iO (jR ((I 4).trans (by rw[h2])) (bC ?_)) (nr _)),rfl⟩⟩;simp only[z6,md (show (0:Int)<24 by decide),ea]
   push_cast
   rfl
  |false=>
   cases h3:(cell % 8 == 5) with
   |true=>
    obtain⟨a,ha,ea⟩:=f (cell / 8) 2 Aa;obtain⟨b,hb,eb⟩:=f (cell / 8 / 2) 12 Aa;have ea:cell / 8 % 2=a:=ea;have eb:cell / 8 / 2 % 12=b:=eb;refine⟨1+a,1+b,z7,z7,?_,start ⟨_,aH n1 (aH (dG ((I 4).trans (by rw[h2])) aY) (iO (jR ((I 5).trans (by rw[h3])) (bC ?_)) (nr _))),rfl⟩⟩;have:(1+a)*(1+b)<=2*12:=Nat.mul_le_mul z7 z7;lia;simp only[z6,md (show (0:Int)<2 by decide),dv (show (0:Int)<2 by decide) (show (2:Int)<1000000 by decide),md (show (0:Int)<12 by decide),ea,eb]
    push_cast
    rfl
   |false=>
    cases h4:(cell % 8 == 6) with
    |true=>
     obtain⟨a,ha,ea⟩:=f (cell / 8) 8 Aa;obtain⟨b,hb,eb⟩:=f (cell / 8 / 8) 8 Aa;have ea:cell / 8 % 8=a:=ea;have eb:cell / 8 / 8 % 8=b:=eb;refine⟨1+a,1+b,z7,z7,?_,start ⟨_,aH n1 (aH (dG ((I 4).trans (by rw[h2])) aY) (aH (dG ((I 5).trans (by rw[h3])) aY) (iO (jR ((I 6).trans (by rw[h4])) (bC ?_)) (nr _)))),rfl⟩⟩;have:(1+a)*(1+b)<=8*8:=Nat.mul_le_mul z7 z7;lia;simp only[z6,md (show (0:Int)<8 by decide),dv (show (0:Int)<8 by decide) (show (8:Int)<1000000 by decide),ea,eb]
     push_cast
     rfl
    |false=>
     obtain⟨W,b4,f4⟩:=f (cell / 8) 4 Aa;have f4:cell / 8 % 4=W:=f4;have R:∀(c r:Nat),1<=c->1<=r->c*r<=64->([.tup [.int 8,.int 8],.tup [.int 16,.int 4],.tup [.int 3,.int 21],.tup [.int 64,.int 1]]:List D)[W]?=O (.tup [.int c,.int r])->∃c r:Nat,1<=c/\1<=r/\c*r<=64/\bK G 3 gR [.int cell]=O (.ok (.tup [.int c,.int r])):=by intro c r hc hr ak he;refine⟨c,r,hc,hr,ak,start ⟨_,aH n1 (aH (dG ((I 4).trans (by rw[h2])) aY) (aH (dG ((I 5).trans (by rw[h3])) aY) (aH (dG ((I 6).trans (by rw[h4])) aY) (bC ?_)))),rfl⟩⟩;simp only[z6,md (show (0:Int)<4 by decide),f4];exact fE he
     have:W=0\/W=1\/W=2\/W=3:=by lia
     rcases this with rfl|rfl|rfl|rfl;exact R 8 8 Aa Aa Aa rfl;exact R 16 4 Aa Aa Aa rfl;exact R 3 21 Aa Aa Aa rfl;exact R 64 1 Aa Aa Aa rfl
def ne_int:ah .ne (.int i) (.int i)=O (.bl J):=by rw[WB,beq_self_eq_true];rfl
noncomputable def lE:Nat->Side
 | 0=>.west
 | 1=>.east
 | 2=>.north
 |_=>.south
def RI{k:Nat}(h:k<4):atI ([.str "west",.str "east",.str "north",.str "south"]:List D) (k:Int)=O (.str (lE k).str):=by
 have:k=0\/k=1\/k=2\/k=3:=by lia
 rcases this with rfl|rfl|rfl|rfl<;>rfl
def ne_str{a b:Str}(h1:qo a=Y)(h2:qo b=Y)(h:(a == b)=Y):ah .ne (.str a) (.str b)=O (.bl J):=by show (if plain (.str a)&&plain (.str b) then O (D.bl (!bx (.str a) (.str b))) else U)=_;rw[if_pos (by rw[va];exact⟨h1,h2⟩),bx,h];rfl
end
end Pg
end Z
namespace G11
variable {n a b:Nat}
abbrev Nm:=Nat->Nat
structure Good (n:Nat) (bP:List (Nat×Nat)) (l:Nm):Prop where
 le:∀k,k<n->l k<=k
 tie:∀a b,(a,b)∈bP->l a=l b
 hang:∀g:Nm,(∀a b,(a,b)∈bP->g a=g b)->∀k,k<n->g (l k)=g k
def Good.one{bP:List (Nat×Nat)}{l m:Nm}(h:Good n bP l)(g:Good n bP m){k:Nat}(hk:k<n):l k<=m k:=by have e:=g.hang l h.tie k hk;rw[<-e];exact h.le _ (lt_of_le_of_lt (g.le k hk) hk)
def Good.uniq{bP:List (Nat×Nat)}{l m:Nm}(h:Good n bP l)(g:Good n bP m){k:Nat}(hk:k<n):l k=m k:=Nat.le_antisymm (h.one g hk) (g.one h hk)
def Good.idem{bP:List (Nat×Nat)}{l:Nm}(h:Good n bP l){k:Nat}(hk:k<n):l (l k)=l k:=h.hang l h.tie k hk
structure Half (n:Nat) (bP:List (Nat×Nat)) (l:Nm):Prop where
 le:∀k,k<n->l k<=k
 hang:∀g:Nm,(∀a b,(a,b)∈bP->g a=g b)->∀k,k<n->g (l k)=g k
def Half.start{bP:List (Nat×Nat)}:Half n bP id:=⟨λk _=>ux k,λ_ _ _ _=>rfl⟩
def hung(l:Nm)(p q:Nat):Nm:=λk=>if l k=max p q then min p q else l k
theorem Half.hung{n:Nat}{bP:List (Nat×Nat)}{l:Nm}{a b:Nat}(h:Half n bP l)(m:(a,b)∈bP)(ha:a<n)(hb:b<n):Half n bP (hung l (l a) (l b)):=by
 refine⟨λk hk=>?_,λg hg k hk=>?_⟩;unfold G11.hung;have:=h.le k hk;split<;>lia
 unfold G11.hung;have e1:=h.hang g hg a ha;have e2:=h.hang g hg b hb;have e3:=hg a b m;have e4:=h.hang g hg k hk;have e5:g (max (l a) (l b))=g (min (l a) (l b)):=by rcases Nat.le_total (l a) (l b) with q|q;rw[Nat.max_eq_right q,min_eq_left q,e1,e2,e3];rw[Nat.max_eq_left q,min_eq_right q,e1,e2,e3]
 split;rename_i q;rw[<-e5,<-q,e4];exact e4
def NL{l:Nm}{p q:Nat}(h:l a=l b):hung l p q a=hung l p q b:=by unfold hung;rw[h]
def HU{l:Nm}:hung l (l a) (l b) a=hung l (l a) (l b) b:=by unfold hung;rcases Nat.le_total (l a) (l b) with q|q;rw[Nat.max_eq_right q,min_eq_left q,if_pos rfl];split;rfl;rfl;rw[Nat.max_eq_left q,min_eq_right q,if_pos rfl];split;rfl;rfl
noncomputable def dE:List (Nat×Nat)->Nm->Nm
 |[],l=>l
 | (a,b)::ts,l=>dE ts (hung l (l a) (l b))
theorem qR{a b:Nat}:∀(ts:List (Nat×Nat)) {l:Nm},l a=l b->dE ts l a=dE ts l b
 |[],_,h=>h
 | (_,_)::ts,_,h=>qR ts (NL h)
theorem tK{a b:Nat}:∀(ts:List (Nat×Nat)) {l:Nm},(a,b)∈ts->dE ts l a=dE ts l b
 | (c,d)::ts,l,h=>by rcases vo.mp h with e|h;cases e;exact qR ts HU;exact tK ts h
theorem qS{n:Nat}{bP:List (Nat×Nat)}:∀(ts:List (Nat×Nat)) {l:Nm},(∀a b,(a,b)∈ts->(a,b)∈bP/\a<n/\b<n)->Half n bP l->Half n bP (dE ts l)
 |[],_,_,h=>h
 | (a,b)::ts,_,m,h=>by obtain⟨m1,m2,m3⟩:=m a b x8;exact qS ts (λa b z=>m a b (v8 _ z)) (h.hung m1 m2 m3)
def jG{bP:List (Nat×Nat)}(h:∀a b,(a,b)∈bP->a<n/\b<n):Good n bP (dE bP id):=
 let g:=qS bP (λa b z=>⟨z,h a b z⟩) Half.start
 ⟨g.le,λ_ _=>tK bP,g.hang⟩
def upd(l:Nm)(a v:Nat):Nm:=λk=>if k=a then v else l k
def tied(l:Nm)(a b:Nat):Nm:=upd (upd l a (min (l a) (l b))) b (min (l a) (l b))
theorem Half.tied{n:Nat}{bP:List (Nat×Nat)}{l:Nm}{a b:Nat}(h:Half n bP l)(m:(a,b)∈bP)(ha:a<n)(hb:b<n):Half n bP (tied l a b):=by
 have h1:=h.le a ha;have h2:=h.le b hb;refine⟨λk hk=>?_,λg hg k hk=>?_⟩;unfold G11.tied upd;have:=h.le k hk;split;rename_i q;subst q;lia;split;rename_i q;subst q;lia;exact this;unfold G11.tied upd;have e1:=h.hang g hg a ha;have e2:=h.hang g hg b hb;have e3:=hg a b m;have e5:g (min (l a) (l b))=g a:=by rcases Nat.le_total (l a) (l b) with q|q;rw[min_eq_left q,e1];rw[min_eq_right q,e2,e3]
 split;rename_i q;rw[q,e5,e3];split;rename_i q;rw[q,e5];exact h.hang g hg k hk
noncomputable def go:List (Nat×Nat)->Nm×Bool->Nm×Bool
 |[],s=>s
 | (a,b)::ts,(l,mv)=>go ts (if l a=l b then(l,mv) else(tied l a b,Y))
theorem wD{n:Nat}{bP:List (Nat×Nat)}:∀(ts:List (Nat×Nat)) {s:Nm×Bool},(∀a b,(a,b)∈ts->(a,b)∈bP/\a<n/\b<n)->Half n bP s.1->Half n bP (go ts s).1
 |[],_,_,h=>h
 | (a,b)::ts,(l,mv),m,h=>by obtain⟨m1,m2,m3⟩:=m a b x8;unfold go;split;exact wD ts (λa b z=>m a b (v8 _ z)) h;exact wD (s:=(G11.tied l a b,Y)) ts (λa b z=>m a b (v8 _ z)) (h.tied m1 m2 m3)
theorem wC:∀(ts:List (Nat×Nat)) {l:Nm},(go ts (l,Y)).2=Y
 |[],_=>rfl
 | (a,b)::ts,l=>by unfold go;split;exact wC ts;exact wC ts
theorem yX:∀(ts:List (Nat×Nat)) {l:Nm},(go ts (l,J)).2=J->(go ts (l,J)).1=l/\∀a b,(a,b)∈ts->l a=l b
 |[],l,_=>⟨rfl,λ_ _ z=>nomatch z⟩
 | (a,b)::ts,l,h=>by unfold go at h ⊢;split at h;rename_i q;rw[if_pos q];obtain⟨h1,h2⟩:=yX ts h;refine⟨h1,λc d z=>?_⟩;rcases vo.mp z with e|z;cases e;exact q;exact h2 c d z;rw[wC]at h;cases h
def sum(n:Nat)(l:Nm):Nat:=((List.range n).map l).sum
def jU{l:Nm}:sum (n+1) l=sum n l+l n:=by unfold sum;rw[range_succ,xf,List.sum_append];simp
theorem JM{l m:Nm}:∀{n:Nat},(∀k,k<n->l k<=m k)->sum n l<=sum n m
 | 0,_=>ux _
 |n+1,h=>by rw[jU,jU];exact Nat.add_le_add (JM λk z=>h k (lt_succ_of_lt z)) (h n (x9 n))
theorem JL{l m:Nm}:∀{n:Nat},(∀k,k<n->l k<=m k)->(∃k,k<n/\l k<m k)->sum n l<sum n m
 | 0,_,⟨_,z,_⟩=>nomatch z
 |n+1,h,⟨k,z,q⟩=>by rw[jU,jU];rcases Nat.lt_or_eq_of_le (Nat.le_of_lt_succ z) with z|z;exact Nat.add_lt_add_of_lt_of_le (JL (λk z=>h k (lt_succ_of_lt z)) ⟨k,z,q⟩) (h n (x9 n));subst z;exact Nat.add_lt_add_of_le_of_lt (JM λk z=>h k (lt_succ_of_lt z)) q
def RW{l:Nm}:∀k,tied l a b k<=l k:=λk=>by unfold tied upd;split;rename_i q;subst q;exact min_le_right _ _;split;rename_i q;subst q;exact Nat.min_le_left _ _;exact ux _
def DA{l:Nm}(ha:a<n)(hb:b<n)(h:l a≠l b):sum n (tied l a b)<sum n l:=by refine JL (λk _=>RW k) ?_;rcases Nat.lt_or_gt_of_ne h with q|q;refine⟨b,hb,?_⟩;unfold tied upd;rw[if_pos rfl];lia;have ne:a≠b:=λz=>h (by rw[z]);refine⟨a,ha,?_⟩;unfold tied upd;rw[if_neg ne,if_pos rfl];lia
theorem nU{n:Nat}:∀(ts:List (Nat×Nat)) {s:Nm×Bool},(∀a b,(a,b)∈ts->a<n/\b<n)->sum n (go ts s).1<=sum n s.1
 |[],_,_=>ux _
 | (a,b)::ts,(l,mv),m=>by unfold go;split;exact nU ts λa b z=>m a b (v8 _ z);rename_i q;obtain⟨m2,m3⟩:=m a b x8;exact vm (nU (s:=(tied l a b,Y)) ts λa b z=>m a b (v8 _ z)) (le_of_lt (DA m2 m3 q))
theorem tN{n:Nat}:∀(ts:List (Nat×Nat)) {l:Nm},(∀a b,(a,b)∈ts->a<n/\b<n)->(go ts (l,J)).2=Y->sum n (go ts (l,J)).1<sum n l
 |[],_,_,h=>nomatch h
 | (a,b)::ts,l,m,h=>by unfold go at h ⊢;split at h;rename_i q;rw[if_pos q];exact tN ts (λa b z=>m a b (v8 _ z)) h;rename_i q;rw[if_neg q];obtain⟨m2,m3⟩:=m a b x8;exact lt_of_le_of_lt (nU (s:=(tied l a b,Y)) ts λa b z=>m a b (v8 _ z)) (DA m2 m3 q)
theorem JN:∀{n:Nat},2*sum n id<=n*n
 | 0=>ux _
 |n+1=>by
  rw[jU];have:=JN (n:=n);have e:(n+1)*(n+1)=n*n+2*n+1:=by rw[Nat.add_mul,Nat.mul_add];lia
  show 2*(sum n id+n)<=_;lia
def heads(n:Nat)(l:Nm):List Nat:=(List.range n).filter λk=>l k == k
def cells(n:Nat)(l:Nm)(h:Nat):List Nat:=(List.range n).filter λk=>l k == h
def told(n:Nat)(l:Nm):List (List Nat):=(heads n l).map (cells n l)
def AI{l m:Nm}(h:∀k,k<n->l k=m k):told n l=told n m:=by
 have e1:heads n l=heads n m:=filter_congr λk z=>by rw[h k (xp.mp z)]
 have e2:∀x,cells n l x=cells n m x:=λx=>filter_congr λk z=>by rw[h k (xp.mp z)]
 unfold told;rw[e1];exact map_congr_left λx _=>e2 x
noncomputable def put(k c:Nat):List (Nat×List Nat)->List (Nat×List Nat)
 |[]=>[(k,[c])]
 | (h,cs)::r=>if h=k then(h,cs++[c])::r else(h,cs)::put k c r
def dict(m:Nat)(l:Nm):List (Nat×List Nat):=(heads m l).map λh=>(h,cells m l h)
theorem DM{k c:Nat}:∀{r:List (Nat×List Nat)},(∀h cs,(h,cs)∈r->h≠k)->put k c r=r++[(k,[c])]
 |[],_=>rfl
 | (h,cs)::r,n=>by unfold put;rw[if_neg (n h cs x8),DM λh cs z=>n h cs (v8 _ z)];rfl
theorem DN{k c:Nat}{f g:Nat->List Nat}(e1:g k=f k++[c])(e2:∀h,h≠k->g h=f h):∀{hs:List Nat},hs.Nodup->k∈hs->put k c (hs.map λh=>(h,f h))=hs.map λh=>(h,g h)
 |[],_,h=>nomatch h
 |h::hs,nd,m=>by
  have I:=nodup_cons.mp nd;rw[vz,vz];unfold put;by_cases q:h=k;subst q;rw[if_pos rfl,e1];congr 1;exact map_congr_left λx z=>by rw[e2 x λw=>I.1 (by rw[<-w];exact z)]
  rw[if_neg q,e2 h q];congr 1;refine DN e1 e2 I.2 ?_;rcases vo.mp m with z|z;exact(q z.symm).elim;exact z
def IL{m:Nat}{l:Nm}(h1:∀k,k<n->l k<=k)(h2:∀k,k<n->l (l k)=l k)(hm:m<n):dict (m+1) l=put (l m) m (dict m l):=by
 have ec:∀h,cells (m+1) l h=if l m=h then cells m l h++[m] else cells m l h:=λh=>by unfold cells;rw[range_succ,List.filter_append];by_cases q:l m=h;rw[if_pos q];simp[q];rw[if_neg q];simp[q]
 have I:∀x,x∈heads m l↔x<m/\l x=x:=λx=>by unfold heads;simp[mem_filter]
 have R:heads (m+1) l=if l m=m then heads m l++[m] else heads m l:=by unfold heads;rw[range_succ,List.filter_append];by_cases q:l m=m;rw[if_pos q];simp[q];rw[if_neg q];simp[q]
 unfold dict;by_cases q:l m=m;rw[R,if_pos q,xf,q,DM];congr 1;exact map_congr_left λx z=>by rw[ec,if_neg];rw[q];exactλw=>wq x (by have:=((I x).mp z).1;lia)
 show [(m,cells (m+1) l m)]=[(m,[m])];rw[ec,if_pos q];have:cells m l m=[]:=by unfold cells;rw[List.filter_eq_nil_iff];intro x z;have z:=xp.mp z;have:=h1 x (Nat.lt_trans z hm);simp;lia
 rw[this];rfl;intro h cs z;obtain⟨x,z1,W⟩:=wc.mp z;cases W;have:=((I h).mp z1).1;lia;rw[R,if_neg q];refine(DN ?_ ?_ ?_ ?_).symm;rw[ec,if_pos rfl];intro h z;rw[ec,if_neg (Ne.symm z)];exact List.Nodup.sublist List.filter_sublist List.nodup_range;rw[I];have:=h1 m hm;exact⟨z7,h2 m hm⟩
end G11
namespace Z
open PySem Pg G11
variable {n a b m i y ia ib na nb:Nat}{v:σ}{mv tp:Bool}{s:Shared}{o:HO}{f p C:Addr}{e tg elt iter:Expr}{x:Str}{xs:List σ}{H H1:Hp}{K:xx}{S S':Addr->Prop}{X:Cx}{prog P:y8}{w:World}{A:Around}{E Q:y9}{op:CmpOp}{h h2 h' base:Heap}{env:Env}{outer:List Env}{pos p2:Pos}{pins:ya}{V:L2.St}{vs:List Value}{M:Model}{mg:yb}{sc:Scope}{st:SortSt}{fd:y7}{ps:List Str}{sp:Sp}{es ifs:List Expr}{B:List Sl}{out:Array Keyed}{bg zs:List Nat}{tn:String}{lo hi:Option Expr}
namespace Gp
noncomputable def mW:IS:=(.g (.b .ne (.ixm 3 (.v 5)) (.ixm 3 (.v 6))) (.seq (.put 3 (.v 5) (.ρ .min (.cons (.ixm 3 (.v 5)) (.cons (.ixm 3 (.v 6)) .nil)))) (.seq (.put 3 (.v 6) (.ixm 3 (.v 5))) (.set 4 (.L (.bl Y))))) .nop)
def IT:IS:=(.seq (.set 4 (.L (.bl J))) (.loop [5,6] Y .seq (.v 1) mW))
noncomputable def CM:IS:=(.g (.b .eq (.ixm 3 (.v 2)) (.v 2)) (.app 7 (.c 4 [(2,2),(3,3)] [1] J .rng (.tup (.cons (.v 0) .nil)) (.b .eq (.ixm 3 (.v 1)) (.v 2)) (.v 1))) .nop)
def qP:IS:=(.seq (.setm 3 (.c 2 [] [1] J .rng (.tup (.cons (.v 0) .nil)) (.L (.bl Y)) (.v 1))) (.seq (.set 4 (.L (.bl Y))) (.seq (.whl (.tr (.v 4)) IT) (.seq (.setm 7 (.lst .nil)) (.seq (.loop [2] J .rng (.tup (.cons (.v 0) .nil)) CM) (.M 7))))))
def nmL(n:Nat)(l:Nm):List D:=(List.range n).map λk=>D.int (l k:Nat)
noncomputable def gX(t:Nat×Nat):D:=.tup [.int (t.1:Nat),.int (t.2:Nat)]
def aCb{l:Nm}:(nmL n l).length=n:=by unfold nmL;rw[uw,vh]
def oK{l:Nm}(h:a<n):atI (nmL n l) (a:Int)=O (.int (l a:Nat)):=fE (by unfold nmL;rw[uv,xa h];rfl)
def ZP{l:Nm}(h:a<n):ixN (nmL n l).length (a:Int)=O a:=by rw[aCb];unfold ixN;rw[if_pos z7,if_pos z7];rfl
def LZ{l:Nm}{v:Nat}:(nmL n l).set a (.int (v:Nat))=nmL n (upd l a v):=by refine List.ext_getElem? λi=>?_;unfold nmL;by_cases e:a=i;subst e;by_cases h:a<n;rw[vi (by rw[uw,vh];exact h),uv,xa h];unfold upd;simp;rw[getElem?_eq_none (by simp;lia),getElem?_eq_none (by simp;lia)];rw[vj e,uv,uv];by_cases h:i<n;rw[xa h];unfold upd;simp[Ne.symm e];rw[getElem?_eq_none (by simp;lia)];rfl
section
variable {G:GS}{n:Nat}
def fg(n:Nat)(T:List D)(l:Nm)(mv:Bool)(k f s:Sl)(out:Sl):List Sl:=[.im (.int (n:Nat)),.im (.lst T),k,.mu (.lst (nmL n l)),.im (.bl mv),f,s,out]
def ED:bf .min [.int (a:Nat),.int (b:Nat)]=O (.int ((min a b:Nat):Int)):=by show O (D.int (if (b:Int)<(a:Int) then(b:Int) else(a:Int)))=_;congr 2;split<;>lia
def jI:((a:Int) == (b:Int))=(a == b):=by rw[Bool.eq_iff_iff,wb,wb];lia
def aGj{T:List D}{l:Nm}{k s o:Sl}(h:a<n):ev G (.ixm 3 (.v 5)) (fg n T l mv k (.im (.int (a:Nat))) s o)=O (.int (l a:Nat)):=by rw[lV];show atI (nmL n l) (a:Int)=_;exact oK h
def aHa{T:List D}{l:Nm}{k s o:Sl}(h:a<n):ev G (.ixm 3 (.v 6)) (fg n T l mv k s (.im (.int (a:Nat))) o)=O (.int (l a:Nat)):=by rw[lV];show atI (nmL n l) (a:Int)=_;exact oK h
def aAE{T:List D}{l:Nm}{k o:Sl}(ha:a<n)(hb:b<n):ex G mW (fg n T l mv k (.im (.int (a:Nat))) (.im (.int (b:Nat))) o)=O (.nx (fg n T (if l a=l b then(l,mv) else(tied l a b,Y)).1 (if l a=l b then(l,mv) else(tied l a b,Y)).2 k (.im (.int (a:Nat))) (.im (.int (b:Nat))) o)):=by
 have z:ev G (.b .ne (.ixm 3 (.v 5)) (.ixm 3 (.v 6))) (view (fg n T l mv k (.im (.int (a:Nat))) (.im (.int (b:Nat))) o))=O (.bl (!decide (l a=l b))):=by rw[bF,lV,lV];show (atI (nmL n l) (a:Int)).bind (λx=>(atI (nmL n l) (b:Int)).bind λy=>ah .ne x y)=_;rw[oK ha,oK hb];show ah .ne (.int _) (.int _)=_;rw[WB];rw[jI];rfl
 by_cases e:l a=l b;rw[if_pos e];exact dG (by rw[z,wa e];rfl) aY;rw[if_neg e];refine jR (by rw[z,uz e];rfl) ?_;refine aH (QC (d:=.int ((min (l a) (l b):Nat):Int)) (i:=(a:Nat)) (j:=a) (ds:=nmL n l) ?_ rfl rfl (ZP ha)) ?_;rw[fP,aU,aU,aGj ha,aHa hb,kC];exact ED;rw[LZ];refine aH (B':=fg n T (tied l a b) mv k (.im (.int (a:Nat))) (.im (.int (b:Nat))) o) ?_ (aQ (d:=.bl Y) rfl);refine(QC (d:=.int ((min (l a) (l b):Nat):Int)) (i:=(b:Nat)) (j:=b) (ds:=nmL n (upd l a (min (l a) (l b)))) ?_ rfl rfl (ZP hb)).trans ?_;refine(aGj (k:=k) (s:=.im (.int (b:Nat))) (o:=o) (T:=T) (mv:=mv) ha).trans ?_;unfold upd;rw[if_pos rfl];rw[LZ];rfl
theorem pF{T:List D}{k o:Sl}:∀(ts:List (Nat×Nat)) {l:Nm} {mv:Bool} {f s:Sl},(∀a b,(a,b)∈ts->a<n/\b<n) ->∃I s',bS (bB [5,6] Y) (ex G mW) (ts.map gX) (fg n T l mv k f s o)=O (.nx (fg n T (go ts (l,mv)).1 (go ts (l,mv)).2 k I s' o))
 |[],l,mv,f,s,_=>⟨f,s,rfl⟩
 | (a,b)::ts,l,mv,f,s,h=>by
  obtain⟨ha,hb⟩:=h a b x8;obtain⟨I,s',e⟩:=pF (T:=T) (k:=k) (o:=o) ts (l:=(if l a=l b then(l,mv) else(tied l a b,Y)).1) (mv:=(if l a=l b then(l,mv) else(tied l a b,Y)).2) (f:=.im (.int (a:Nat))) (s:=.im (.int (b:Nat))) λa b z=>h a b (v8 _ z)
  refine⟨I,s',?_⟩;rw[vz];unfold bS;show (ex G mW (fg n T l mv k (.im (.int (a:Nat))) (.im (.int (b:Nat))) o)).bind _=_;rw[aAE ha hb];exact e
theorem JC{ts:List (Nat×Nat)}{k o:Sl}(h:∀a b,(a,b)∈ts->a<n/\b<n):∀(N:Nat) {l:Nm} {f s:Sl},Half n ts l->sum n l+2<=N ->∃W I s',eM (λB=>ev G (.tr (.v 4)) (view B)) (ex G IT) N (fg n (ts.map gX) l Y k f s o)=O (.nx (fg n (ts.map gX) W J k I s' o))/\Good n ts W
 | 0,_,_,_,_,z=>by lia
 | 1,_,_,_,_,z=>by lia
 |N+2,l,f,s,hl,z=>by
  obtain⟨I,s',e⟩:=pF (G:=G) (T:=ts.map gX) (k:=k) (o:=o) ts (l:=l) (mv:=J) (f:=f) (s:=s) h;have body:ex G IT (fg n (ts.map gX) l Y k f s o)=O (.nx (fg n (ts.map gX) (go ts (l,J)).1 (go ts (l,J)).2 k I s' o)):=aH (B':=fg n (ts.map gX) l J k f s o) (aQ (d:=.bl J) rfl) ((bZ (d:=.lst (ts.map gX)) rfl rfl).trans e);have g:=wD ts (s:=(l,J)) (bP:=ts) (λa b z=>⟨z,h a b z⟩) hl;cases q:(go ts (l,J)).2 with
  |true=>have lt:=tN ts h q;rw[q]at body;obtain⟨W,f2,s2,w,R⟩:=JC h (N+1) (l:=(go ts (l,J)).1) (f:=I) (s:=s') g z7;refine⟨W,f2,s2,?_,R⟩;unfold eM;show (ex G IT (fg n (ts.map gX) l Y k f s o)).bind _=_;rw[body];exact w
  |false=>obtain⟨e1,e2⟩:=yX ts q;rw[q,e1]at body;refine⟨l,I,s',?_,hl.le,e2,hl.hang⟩;unfold eM;show (ex G IT (fg n (ts.map gX) l Y k f s o)).bind _=_;rw[body];exact(id rfl:eM (λB=>ev G (.tr (.v 4)) (view B)) (ex G IT) (N+1) (fg n (ts.map gX) l J k I s' o)=O (.nx (fg n (ts.map gX) l J k I s' o)))
noncomputable def dI(g:List Nat):D:=.lst (g.map λk=>D.int (k:Nat))
def RY{T:List D}{l:Nm}{f s:Sl}(hn:n<=64):∃k,bS (bB [2] J) (ex G CM) ((List.range n).map λ(k:Nat)=>D.int k) (fg n T l mv .un f s (.mu (.lst [])))=O (.nx (fg n T l mv k f s (.mu (.lst ((told n l).map dI))))):=by
 obtain⟨B',e,k,rfl⟩:=kU (bind:=bB [2] J) (body:=ex G CM) (λm B=>∃k,B=fg n T l mv k f s (.mu (.lst (((heads m l).map (cells n l)).map dI)))) (n:=n) (B:=fg n T l mv .un f s (.mu (.lst []))) ⟨.un,rfl⟩ (by
  rintro m hm B ⟨k,rfl⟩;have z:(heads m l).length<=m:=by unfold heads;have:=length_filter_le (λk=>l k == k) (List.range m);rwa [vh]at this
  refine⟨fg n T l mv (.im (.int (m:Nat))) f s (.mu (.lst (((heads m l).map (cells n l)).map dI))),rfl,_,iP (b:=l m == m) (d:=dI (cells n l m)) ?_ ?_ rfl (by rw[uw,uw];lia),.im (.int (m:Nat)),?_⟩;rw[bF,lV];show (atI (nmL n l) (m:Int)).bind (λx=>O (D.int (m:Nat)) |>.bind λy=>ah .eq x y)=_;rw[oK hm];show ah .eq (.int _) (.int _)=_;rw[BB];rw[jI];refine fO (L:=List.range n) (λ(k:Nat)=>D.int k) (λ(k:Nat)=>D.int k) (λk=>l k == m) (s:=.tup [.int (n:Nat)]) rfl (cR z7) λa ha=>⟨[.un,.im (.int (a:Nat)),.im (.int (m:Nat)),.mu (.lst (nmL n l))],rfl,?_,rfl⟩;rw[bF,lV];show (atI (nmL n l) (a:Int)).bind (λx=>O (D.int (m:Nat)) |>.bind λy=>ah .eq x y)=_;rw[oK (xp.mp ha)];show ah .eq (.int _) (.int _)=_;rw[BB];rw[jI];have I:heads (m+1) l=heads m l++if l m == m then [m] else []:=by unfold heads;rw[range_succ,List.filter_append];cases q:l m == m<;>simp[q]
  rw[I];cases l m == m<;>simp<;>rfl)
 exact⟨k,e⟩
def HY{ts:List (Nat×Nat)}(hn:n<=64)(h:∀a b,(a,b)∈ts->a<n/\b<n):bK G 8 qP [.int (n:Nat),.lst (ts.map gX)]=O (.ok (.lst ((told n (dE ts id)).map dI))):=by obtain⟨I,R,s',w,z⟩:=JC (G:=G) (k:=.un) (o:=.un) h 5000 (l:=id) (f:=.un) (s:=.un) Half.start (by have:=JN (n:=n);have:=Nat.mul_le_mul hn hn;lia);obtain⟨k,e⟩:=RY (G:=G) (T:=ts.map gX) (l:=I) (mv:=J) (f:=R) (s:=s') hn;rw[AI (m:=I) λk hk=>(jG h).uniq z hk];refine aR (B:=[.im (.int (n:Nat)),.im (.lst (ts.map gX)),.un,.un,.un,.un,.un,.un]) rfl (aH (fK (ds:=nmL n id) ?_) (aH (aQ (d:=.bl Y) rfl) (aH (B':=fg n (ts.map gX) I J .un R s' .un) w (aH (B':=fg n (ts.map gX) I J .un R s' (.mu (.lst []))) (fK rfl) (aH ((bZ (d:=.tup [.int (n:Nat)]) rfl (cR z7)).trans e) (jH rfl))))));exact cM (L:=List.range n) (λ(k:Nat)=>D.int k) (λ(k:Nat)=>D.int k) (s:=.tup [.int (n:Nat)]) rfl (cR z7) λk _=>⟨[.un,.im (.int (k:Nat))],rfl,rfl,rfl⟩
end
noncomputable def BY:IS:=(.seq (.set 3 (.ρ .min (.cons (.v 1) (.cons (.v 2) .nil)))) (.seq (.set 4 (.ρ .max (.cons (.v 1) (.cons (.v 2) .nil)))) (.ret Y (.c 4 [(2,4),(3,3)] [1] J .seq (.v 0) (.L (.bl Y)) (.q (.b .eq (.v 1) (.v 2)) (.v 3) (.v 1))))))
section
variable {G:GS}{n:Nat}
def WR:bf .max [.int (a:Nat),.int (b:Nat)]=O (.int ((max a b:Nat):Int)):=by show O (D.int (if (b:Int) > (a:Int) then(b:Int) else(a:Int)))=_;congr 2;split<;>lia
def XD{l:Nm}{p q:Nat}:bK G 5 BY [.lst (nmL n l),.int (p:Nat),.int (q:Nat)]=O (.ok (.lst (nmL n (hung l p q)))):=by refine aR (B:=[.im (.lst (nmL n l)),.im (.int (p:Nat)),.im (.int (q:Nat)),.un,.un]) rfl (aH (aQ (d:=.int ((min p q:Nat):Int)) ?_) (aH (aQ (d:=.int ((max p q:Nat):Int)) ?_) (bC ?_)));rw[fP];exact ED;rw[fP];exact WR;refine cM (L:=List.range n) (λk=>D.int (l k:Nat)) (λk=>D.int (hung l p q k:Nat)) (s:=.lst (nmL n l)) rfl rfl λk _=>⟨[.un,.im (.int (l k:Nat)),.im (.int ((max p q:Nat):Int)),.im (.int ((min p q:Nat):Int))],rfl,rfl,?_⟩;rw[rH,bF];show ((ah .eq (.int (l k:Nat)) (.int ((max p q:Nat):Int))).bind _)=_;rw[BB,jI];unfold hung;by_cases e:l k=max p q;rw[if_pos e,e];show (match D.bl (max p q == max p q) with | .bl Y=>_ | .bl J=>_|_=>_)=_;rw[beq_self_eq_true];rfl;rw[if_neg e];show (match D.bl (l k == max p q) with | .bl Y=>_ | .bl J=>_|_=>_)=_;rw[wg.mpr e];rfl
end
end Gp
structure CC where
 N:List Str
 sc:Scope
 fns:List Str
 cls:List Str
 csts:List Str
 mus:List Str
 fresh:List Str
noncomputable def bE(c:CC)(x:Str):Option Nat:=match c.sc.names.lookup x with
 |some .local=>c.N.idxOf? x
 |some .cell=>c.N.idxOf? x
 |some .free=>c.N.idxOf? x
 |_=>U
noncomputable def aV(c:CC)(x:Str):Bool:=c.sc.names.lookup x == O .globalImplicit
def aCl(c:CC)(x:Str):Option Nat:=if c.mus.contains x then bE c x else U
noncomputable def one?{α:Type}:List α->Option α
 |[a]=>O a
 |_=>U
noncomputable def nameP:Expr->Option (Str×Pos)
 |.Name x p=>O (x,p)
 |_=>U
noncomputable def AA:Expr->Option (Expr×Str×Pos)
 |.Attribute o m p=>O (o,m,p)
 |_=>U
noncomputable def lI:Expr->Option (Expr×List Expr×List Keyword×Pos)
 |.Call f as kw p=>O (f,as,kw,p)
 |_=>U
noncomputable def ku:Expr->Option (Option Expr×Option Expr×Option Expr×Pos)
 |.Slice a b st p=>O (a,b,st,p)
 |_=>U
noncomputable def tupP:Expr->Option (List Expr×Nat×Pos)
 |.Tuple es k p=>O (es,k,p)
 |_=>U
noncomputable def aDg:Expr->Option (Const×Nat×Pos)
 |.Constant v k p=>O (v,k,p)
 |_=>U
def eU(c:CC)(e:Expr):Option Nat:=(nameP e).bind λx=>aCl c x.1
noncomputable def VQ:Operator->Option O2
 |.Add=>O .add
 |.Sub=>O .sub
 |.Mult=>O .mul
 |.FloorDiv=>O .fdiv
 |.Mod=>O .mod
 |.Pow=>O .pow
 |_=>U
noncomputable def lG:CmpOp->O2
 |.Eq=>.eq
 |.NotEq=>.ne
 |.Lt=>.lt
 |.LtE=>.le
 |.Gt=>.gt
 |.GtE=>.ge
 |.Is=>.is
 |.IsNot=>.isnot
 |.In=>.isin
 |.NotIn=>.notin
noncomputable def pC(x:Str):Option BF:=
 if x="len" then O .len else if x="int" then O .int else if x="list" then O .list else if x="tuple" then O .tuple else if x="max" then O .max
 else if x="min" then O .min else if x="str" then O .str else if x="sorted" then O .sorted else if x="any" then O .any else U
noncomputable def srcOf(x:Str):Option Src:=
 if x="range" then O .rng else if x="reversed" then O .rev else U
noncomputable def ZW(_:Bool)(_:Src):Bool:=Y
noncomputable def kI:List Str:=["int","bool","str","list","tuple"]
noncomputable def eS(c:CC):Expr->Option Nat
 |.Name x _=>match c.sc.names.lookup x with
  |some .local=>c.N.idxOf? x
  |some .cell=>c.N.idxOf? x
  |_=>U
 |_=>U
noncomputable def fS(c:CC):List Expr->Option (List Nat)
 |[]=>O []
 |e::r=>do O ((<-eS c e)::(<-fS c r))
noncomputable def dD(c:CC):Expr->Option (List Nat×Bool)
 |.Name x p=>(eS c (.Name x p)).map λi=>([i],J)
 |.Tuple es _ _=>(fS c es).map λis=>(is,Y)
 |_=>U
noncomputable def vS:NameKind->Bool
 |.globalImplicit=>Y
 |.globalExplicit=>Y
 |_=>J
def ownNames(sc:Scope):List Str:=(sc.names.filter λx=>!vS x.2).map (·.1)
noncomputable def kR:Expr->Bool
 |.Call _ _ _ _=>J
 |_=>Y
def lY(c:CC)(sc:Scope):Bool:=sc.kind == .function&&sc.names.all (λx=>x.2 != .cell)&&sc.names.all (λx=>x.2 != .local || sc.names.lookup x.1 == O .local)&&sc.names.all (λx=>x.2 != .free || sc.names.lookup x.1 == O .free)&&decide (ownNames sc).Nodup &&
 (ownNames sc).all (λx=>!(x == ("__debug__":Str))&&!(x == ("__classdict__":Str)))&&!(sc.names.lookup ("__debug__":Str) == O NameKind.globalImplicit) &&
 sc.names.all (λx=>x.2 != .free || (c.sc.names.lookup x.1 == O .cell || c.sc.names.lookup x.1 == O .free))
noncomputable def freeOf(c:CC)(sc:Scope):List (Str×NameKind)->Option (List (Nat×Nat))
 |[]=>O []
 |x::r=>do O ((<-(ownNames sc).idxOf? x.1,<-bE c x.1)::(<-freeOf c sc r))
noncomputable def own(c:CC)(x:Str):Bool:=c.fns.contains x || c.cls.contains x
def AS(c:CC)(x:Str):Option IE:=match bE c x with
 |some i=>O (.v i)
 |none=>if aV c x&&c.csts.contains x then O (.o x) else U
noncomputable def DK:Const->Option IE
 |.int i=>O (.L (.int i))
 |.bool b=>O (.L (.bl b))
 |.str x=>O (.L (.str x))
 |.none=>O (.L .non)
 |_=>U
noncomputable def aEn(a:Option IE):UnaryOp->Option IE
 |.USub=>a.map .neg
 |.Not=>a.map λx=>.not (.tr x)
 |_=>U
noncomputable def boK:BoolOp->Bool
 |.And=>Y
 |.Or=>J
noncomputable def uB:List Str:=[zb,"WAYS"]
noncomputable def aFG:CmpOp->Option Bool
 |.In=>O J
 |.NotIn=>O Y
 |_=>U
def aFH(c:CC)(o:CmpOp)(b:Expr):Option (Bool×Str):=(aFG o).bind λk=>(nameP b).bind λq=>if aV c q.1&&uB.contains q.1 then O (k,q.1) else U
noncomputable def KB(c:CC)(f:Expr->Option IE)(a:Option IE):List CmpOp->List Expr->Option IE
 |[o],[b]=>a.bind λx=>match aFH c o b with
  |some q=>O (.inC q.1 q.2 x)
  |none=>(f b).map λy=>.b (lG o) x y
 |[o,o'],[b,d]=>a.bind λx=>(f b).bind λy=>(f d).map λz=>.h (lG o) (lG o') x y z
 |_,_=>U
noncomputable def vA(f:Expr->Option IE):Option Expr->Option IE
 |none=>O (.L .non)
 |some e=>f e
def aEo(m:Option Nat)(a:Option IE)(bl:Bool)(l:IE)(bh:Bool)(h:IE):Option IE:=match m with
 |some i=>O (.slm i bl l bh h)
 |none=>a.map λx=>.sl x bl l bh h
noncomputable def QP:List Str:=["prints","where"]
def HP(e:Expr):Bool:=match nameP e with
 |some q=>QP.contains q.1
 |none=>J
noncomputable def aEr(dv:Bool)(m:Option Nat)(a:Option IE)(k:IE):Option IE:=match m with
 |some i=>O (if dv then .ixd i k else .ixm i k)
 |none=>a.map λx=>.ix x k
def xT(f:Expr->Option IE)(dv:Bool)(m:Option Nat)(a:Option IE)(i:Expr):Option IE:=match ku i with
 |some q=>if q.2.2.1.isSome then U else(vA f q.1).bind λl=>(vA f q.2.1).bind λh=>aEo m a q.1.isSome l q.2.1.isSome h
 |none=>(f i).bind (aEr dv m a)
def WW(c:CC)(a:Expr):Option Str:=(nameP a).bind λq=>if aV c q.1&&uB.contains q.1 then O q.1 else U
def xU(f:Expr->Option IE)(x:Str)(i:Expr):Option IE:=match ku i with
 |some _=>U
 |none=>(f i).map λk=>.ixC x k
noncomputable def JZ(f:Expr->Option IE)(c:CC):List Expr->Option IE
 |[a,y]=>(nameP y).bind λy=>if aV c y.1&&kI.contains y.1&&!own c y.1 then(f a).map λx=>.y x y.1 else U
 |_=>U
def ZT(c:CC)(args:List Expr):Option Nat:=(one? args).bind (eU c)
def nY(c:CC)(e:Expr):Option (Str×List Expr):=(lI e).bind λq=>(nameP q.1).bind λx=>if q.2.2.1.isEmpty&&aV c x.1&&!own c x.1 then O (x.1,q.2.1) else U
def AQ(c:CC)(args:List Expr):Option Expr:=(one? args).bind λe=>(nY c e).bind λq=>if q.1 == "reversed" then one? q.2 else U
noncomputable def aGE(b:BF)(as:Option IE)(i:Nat):Option IE:=match b with
 |.len=>O (.lenm i)
 |.sorted=>O (.sortm i)
 |_=>as.map λx=>.ρ b x
def AO(c:CC)(e:Expr):Option Expr:=(nY c e).bind λq=>if q.1 == "range" then one? q.2 else U
noncomputable def aBf(b:BF)(as:Option IE)(w w2:Option (Option IE)):Option IE:=match b,w,w2 with
 |.list,O o,_=>o.map λx=>.walk .rev x
 |.list,U,O o=>o.map λx=>.walk .rng (.tup (.cons x .nil))
 |_,_,_=>as.map λx=>.ρ b x
def GN(f:Expr->Option IE)(c:CC)(b:BF)(args:List Expr)(as:Option IE):Option IE:=match ZT c args with
 |some i=>aGE b as i
 |none=>aBf b as ((AQ c args).map f) (((one? args).bind (AO c)).map f)
def vB(f:Expr->Option IE)(c:CC)(x:Str)(args:List Expr)(as:Option IE):Option IE:=
 if aV c x then
  (if c.fns.contains x then as.map λy=>.call x y
   else if c.cls.contains x then as.map λy=>.mk x y
   else if x == "isinstance" then JZ f c args
   else(pC x).bind λb=>GN f c b args as)
 else U
def aBh(f:Expr->Option IE)(c:CC)(g:Expr)(args:List Expr)(as:Option IE)(p:Pos):Option IE:=match g with
 |.Name x _=>vB f c x args as
 |.Attribute o m z=>if kR o&&decide (args.length<30)&&(z.endLine == p.line) then(f o).bind λx=>as.map λy=>.meth x m y else U
 |_=>U
noncomputable def aBe(f:Expr->Option IE):List Expr->Option IE
 |[]=>O (.L (.bl Y))
 |[e]=>f e
 |_=>U
def KA(c:CC)(sc:Scope)(g:Comprehension)(it:Option (Src×IE))(ct:Expr->Option IE)(z:Option IE):Option IE:=(dD {c with N:=ownNames sc,sc:=sc} g.target).bind λtg=>it.bind λk=>(aBe ct g.ifs).bind λte=>z.bind λz=>(freeOf c sc (sc.names.filter λx=>x.2 == .free)).bind λfr=>
 if lY c sc&&tg.1.all (λi=>(fr.lookup i).isNone) then O (.c (ownNames sc).length fr tg.1 tg.2 k.1 k.2 te z) else U
noncomputable def few(es:List Expr):Bool:=decide (es.length<=100)
mutual
noncomputable def cE:Nat->CC->Expr->Option IE
 | 0,_,_=>U
 |n+1,c,e=>match e with
  |.Name x _=>AS c x
  |.Constant v _ _=>DK v
  |.BinOp a o b _=>(VQ o).bind λo=>(cE n c a).bind λx=>(cE n c b).map λy=>.b o x y
  |.UnaryOp o a _=>aEn (cE n c a) o
  |.BoolOp o vs _=>cB n c J (boK o) vs
  |.IfExp d a b _=>(cT n c d).bind λx=>(cE n c a).bind λy=>(cE n c b).map λz=>.q x y z
  |.Compare a os bs _=>KB c (cE n c) (cE n c a) os bs
  |.Tuple es _ _=>if few es then(cA n c es).map .tup else U
  |.List es _=>if few es then(cA n c es).map .lst else U
  |.Subscript a i _=>(match WW c a with|some x=>xU (cE n c) x i|none=>xT (cE n c) (HP a) (eU c a) (cE n c a) i)
  |.Attribute a f _=>if kR a then(cE n c a).map λx=>.fld x f else U
  |.ListComp elt gs sc _=>(one? gs).bind λg=>if g.is_async=0 then KA c sc g (cI n c g.iter) (cT n {c with N:=ownNames sc,sc:=sc}) (cE n {c with N:=ownNames sc,sc:=sc} elt) else U
  |.Call f args kw p=>if kw.isEmpty then aBh (cE n c) c f args (cA n c args) p else U
  |_=>U
noncomputable def cT:Nat->CC->Expr->Option IE
 | 0,_,_=>U
 |n+1,c,e=>match e with
  |.BoolOp o vs _=>cB n c Y (boK o) vs
  |.UnaryOp .Not a _=>(cT n c a).map .not
  |.Compare a os bs _=>KB c (cE n c) (cE n c a) os bs
  |.IfExp _ _ _ _=>U
  |e=>(cE n c e).map .tr
noncomputable def cB:Nat->CC->Bool->Bool->List Expr->Option IE
 | 0,_,_,_,_=>U
 |n+1,c,t,k,[]=>U
 |n+1,c,t,k,[a]=>if t then cT n c a else cE n c a
 |n+1,c,t,k,a::b::r=>(if t then cT n c a else cE n c a).bind λx=>(cB n c t k (b::r)).map λy=>if k then .and x y else .or x y
noncomputable def cA:Nat->CC->List Expr->Option IE
 | 0,_,_=>U
 |n+1,c,[]=>O .nil
 |n+1,c,e::es=>(cE n c e).bind λx=>(cA n c es).map λy=>.cons x y
noncomputable def cI:Nat->CC->Expr->Option (Src×IE)
 | 0,_,_=>U
 |n+1,c,e=>match (nY c e).bind λq=>(srcOf q.1).map λk=>(k,q.2) with
  |some q=>(match q.1 with
   |.rng=>(cA n c q.2).map λy=>(.rng,.tup y)
   |k=>(one? q.2).bind λa=>(cE n c a).map λy=>(k,y))
  |none=>(cE n c e).map λy=>(.seq,y)
end
def aGS(i:Expr):Bool:=(ku i).isSome
noncomputable def aCO(c:CC):Expr->Bool
 |.Name x _=>(c.fns.contains x&&c.fresh.contains x) || (aV c x&&(x == "list" || x == "sorted")&&!own c x)
 |.Attribute _ m _=>c.fresh.contains m
 |_=>J
noncomputable def dJ(c:CC):Expr->Bool
 |.List _ _=>Y
 |.ListComp _ _ _ _=>Y
 |.Subscript _ i _=>aGS i
 |.Call f _ _ _=>aCO c f
 |_=>J
def cW(c:CC)(nm:Option Str)(e:Expr):Option Str:=(lI e).bind λq=>(nameP q.1).bind λf=>(one? q.2.1).bind λa=>(nameP a).bind λy=>if q.2.2.1.isEmpty&&nm == O y.1&&aV c f.1 then O f.1 else U
def aEa(e:Expr):Option Str:=(aDg e).bind λv=>match v.1 with
 |.str x=>O x
 |_=>U
noncomputable def cN(c:CC):Option Str->Option (Option Nat)
 |none=>O U
 |some n=>if c.sc.names.lookup n == O .local&&!(n == ("__debug__":Str))&&!(n == ("__classdict__":Str)) then(c.N.idxOf? n).map O else U
def ZN(c:CC)(e:Expr):Option (Expr×Expr):=(tupP e).bind λt=>match t.1 with
 |[a,b]=>if dJ c a&&dJ c b then O (a,b) else U
 |_=>U
def rdR(f:Expr->Option IE)(c:CC)(e:Expr):Option IS:=match ZN c e with
 |some q=>(f q.1).bind λx=>(f q.2).map λy=>.retp x y
 |none=>(f e).map λx=>.ret (dJ c e) x
def vR(e:Expr):Bool:=match lI e with
 |some q=>(match nameP q.1 with|some x=>x.1 == z5 | none=>J)
 |none=>J
noncomputable def aEq(f:Expr->Option IE)(c:CC):Option Expr->Option IS
 |none=>O .retn
 |some e=>match eU c e with
  |some i=>O (.M i)
  |none=>rdR f c e
noncomputable def EK:Expr->Bool
 |.Dict [] [] _=>Y
 |_=>J
def KC(f:Expr->Option IE)(c:CC)(x:Str)(e:Expr)(i:Nat):Option IS:=
 if x == "found" && vR e&&dJ c e then(f e).map λy=>.setp i y else if c.mus.contains x then(if EK e then O (.setd i) else if dJ c e then(f e).map λy=>.setm i y else U) else(f e).map λy=>.set i y
def AR(f:Expr->Option IE)(c:CC)(ts:List Expr)(e:Expr):Option IS:=match tupP e with
 |some _=>U
 |none=>(fS c ts).bind λis=>(f e).map λy=>.t is y
noncomputable def ZI(f:Expr->Option IE)(c:CC)(e:Expr):Expr->Option IS
 |.Name x p=>(eS c (.Name x p)).bind (KC f c x e)
 |.Tuple ts _ _=>AR f c ts e
 |.Subscript a i _=>(eU c a).bind λj=>(f i).bind λk=>(f e).map λy=>.put j k y
 |_=>U
def RK(c:CC)(e:Expr):Option (Nat×Expr):=(lI e).bind λq=>(AA q.1).bind λg=>(eU c g.1).bind λj=>(one? q.2.1).bind λa=>if q.2.2.1.isEmpty&&g.2.1 == "append" && g.2.2.endLine == q.2.2.2.line then O (j,a) else U
def AU(f:Expr->Option IE)(_:CC)(e:Expr):Option IS:=(lI e).bind λ_=>(f e).map .drop
def XW(c:CC)(e:Expr):Option (Nat×Expr):=(lI e).bind λq=>(AA q.1).bind λg=>(eU c g.1).bind λj=>(one? q.2.1).bind λa=>if q.2.2.1.isEmpty&&g.2.1 == "extend" && g.2.2.endLine == q.2.2.2.line then O (j,a) else U
def ZH(f:Expr->Option IE)(c:CC)(e:Expr)(o:Option IS):Option IS:=match XW c e with
 |some q=>(f q.2).map λx=>.ext q.1 x
 |none=>o
noncomputable def aDZ:Expr->Option (Expr×Expr×Pos)
 |.Subscript a i p=>O (a,i,p)
 |_=>U
def aCG(e:Expr):Option Int:=(aDg e).bind λq=>match q.1 with | .int i=>O i|_=>U
def YR(c:CC)(e:Expr):Option (Nat×Bool×Int):=(lI e).bind λq=>(AA q.1).bind λg=>(aDZ g.1).bind λs=>(nameP s.1).bind λx=>(bE c x.1).bind λj=>(aCG s.2.1).bind λk=>(one? q.2.1).bind λa=>(aCG a).bind λl=>
 if q.2.2.1.isEmpty&&g.2.1 == "append" && x.1 == "found" && g.2.2.endLine == q.2.2.2.line&&(k == 0 || k == 1) then O (j,k == 1,l) else U
def aBg(f:Expr->Option IE)(c:CC)(e:Expr):Option IS:=match RK c e with
 |some q=>(f q.2).map λx=>.app q.1 x
 |none=>AU f c e
def aEp(c:CC)(e:Option Expr)(h:Option Expr):Option IS:=e.bind λe=>(lI e).bind λq=>(nameP q.1).bind λx=>(one? q.2.1).bind λa=>(aEa a).bind λ_=>
 if h.isNone&&q.2.2.1.isEmpty&&aV c x.1&&c.cls.contains x.1 then O (.rse x.1) else U
noncomputable def exP:Stmt->Option (Expr×Pos)
 |.Expr e p=>O (e,p)
 |_=>U
def tpP(c:CC)(b:List Stmt):Option Expr:=(one? b).bind λs=>(exP s).bind λr=>(lI r.1).bind λq=>(nameP q.1).bind λx=>if c.fns.contains x.1&&!q.2.1.isEmpty then O r.1 else U
noncomputable def JY(f:Expr->Option IE)(c:CC)(q:Expr):List ExceptHandler->Option IS
 |[.ExceptHandler ty nm body _]=>ty.bind λty=>(nameP ty).bind λx=>(one? body).bind λr=>(exP r).bind λr=>(RK c r.1).bind λa=>(cW c nm a.2).bind λw=>if aV c x.1 then(cN c nm).bind λi=>i.bind λi=>(f q).map λu=>.tryp u x.1 i w a.1 else U
 |_=>U
noncomputable def mkIf(k:Bool)(t:IE)(a b:IS):IS:=if k then .ifw t a b else .g t a b
mutual
noncomputable def cS:Nat->CC->Stmt->Option IS
 | 0,_,_=>U
 |n+1,c,st=>match st with
  |.Pass _=>O .nop
  |.Return v _=>aEq (cE n c) c v
  |.Assign ts e _=>(one? ts).bind (ZI (cE n c) c e)
  |.If t a b _=>(cT n c t).bind λu=>(j7 n c a).bind λa=>(j7 n c b).map λb=>mkIf (c.mus.contains "told") u a b
  |.For tg iter body z _=>if z.isEmpty then(dD c tg).bind λg=>(cI n c iter).bind λk=>if ZW g.2 k.1 then(j7 n c body).map λb=>.loop g.1 g.2 k.1 k.2 b else U else U
  |.While t body z _=>if z.isEmpty then(cT n c t).bind λt=>(j7 n c body).map λb=>.whl t b else U
  |.Expr e _=>(match YR c e with|some q=>O (.appw q.1 q.2.1 (.int q.2.2))|none=>ZH (cE n c) c e (aBg (cE n c) c e))
  |.Raise e h _=>aEp c e h
  |.Try b hs z I _=>if z.isEmpty&&I.isEmpty then(match tpP c b with|some q=>JY (cE n c) c q hs|none=>U) else U
  |_=>U
noncomputable def j7:Nat->CC->List Stmt->Option IS
 | 0,_,_=>U
 |n+1,c,[]=>O .nop
 |n+1,c,[s]=>cS n c s
 |n+1,c,s::s2::r=>(cS n c s).bind λa=>(j7 n c (s2::r)).map λb=>.seq a b
end
def bV{α:Type}{l:List α}{a:α}(h:one? l=O a):l=[a]:=by
 match l,h with
 |[_],h=>exact congrArg (λx=>[x]) (vb h)
def bR{x:Str×Pos}(h:nameP e=O x):e=.Name x.1 x.2:=by cases e<;>first|exact nomatch (show U=O x from h)|(cases (show O _=O x from h);rfl)
def jL{x:Expr×Str×Pos}(h:AA e=O x):e=.Attribute x.1 x.2.1 x.2.2:=by cases e<;>first|exact nomatch (show U=O x from h)|(cases (show O _=O x from h);rfl)
def dA{x:Expr×List Expr×List Keyword×Pos}(h:lI e=O x):e=.Call x.1 x.2.1 x.2.2.1 x.2.2.2:=by cases e<;>first|exact nomatch (show U=O x from h)|(cases (show O _=O x from h);rfl)
def JU{x:Option Expr×Option Expr×Option Expr×Pos}(h:ku e=O x):e=.Slice x.1 x.2.1 x.2.2.1 x.2.2.2:=by cases e<;>first|exact nomatch (show U=O x from h)|(cases (show O _=O x from h);rfl)
def GB{x:List Expr×Nat×Pos}(h:tupP e=O x):e=.Tuple x.1 x.2.1 x.2.2:=by cases e<;>first|exact nomatch (show U=O x from h)|(cases (show O _=O x from h);rfl)
def uC{x:Const×Nat×Pos}(h:aDg e=O x):e=.Constant x.1 x.2.1 x.2.2:=by cases e<;>first|exact nomatch (show U=O x from h)|(cases (show O _=O x from h);rfl)
def aF{α β:Type}{o:Option α}{f:α->Option β}{b:β}(h:o.bind f=O b):∃a,o=O a/\f a=O b:=u6.mp h
def aP{α β:Type}{o:Option α}{f:α->β}{b:β}(h:o.map f=O b):∃a,o=O a/\b=f a:=by obtain⟨a,h1,h2⟩:=vc.mp h;exact⟨a,h1,h2.symm⟩
def aZ{α:Type}{k:Bool}{o:Option α}{a:α}(h:(if k then o else U)=O a):k=Y/\o=O a:=by
 cases k with
 |true=>exact⟨rfl,h⟩
 |false=>exact nomatch (show U=O a from h)
def bL{a b:Bool}(h:(a&&b)=Y):a=Y/\b=Y:=(va a b) ▸ h
def ZO{a:Bool}(h:(!a)=Y):a=J:=by cases a<;>first|rfl|exact h.symm
def hV{α:Type}{l:List α}(h:l.isEmpty=Y):l=[]:=List.isEmpty_iff.mp h
def DX{c:CC}(h:own c x=J):c.fns.contains x=J/\c.cls.contains x=J:=by unfold own at h;rw[Bool.or_eq_false_iff]at h;exact h
def kG{c:CC}{q:Str×List Expr}(h:nY c e=O q):∃p1 p2,e=.Call (.Name q.1 p1) q.2 [] p2/\aV c q.1=Y/\own c q.1=J:=by obtain⟨r,h1,h⟩:=aF h;obtain⟨x,h2,h⟩:=aF h;obtain⟨h3,h⟩:=aZ h;obtain⟨h3,h5⟩:=bL h3;obtain⟨h3,h4⟩:=bL h3;cases h;exact⟨x.2,r.2.2.2,by rw[dA h1,bR h2,hV h3],h4,ZO h5⟩
def GE(h:aEa e=O x):∃j p,e=.Constant (.str x) j p:=by obtain⟨v,h1,h⟩:=aF h;obtain⟨v,j,p⟩:=v;have e1:=uC h1;cases v<;>first|exact nomatch (show U=O x from h)|(cases (show O _=O x from h);exact⟨j,p,e1⟩)
open PySem.Spec PyProof.Rows L2
def ExcAt(xc:Str->Option Addr)(H:Hp)(a:Addr)(c:Str):Prop:=∃φ C,H a=O (.ext φ)/\xc c=O C/\∀h:Heap,φ h->∃o,h.get? a=O o/\o.cls=.ref C
structure Tx where
 cl:Str->Option Addr
 xc:Str->Option Addr
section
variable (K:xx)(T:Tx)(H:Hp)(S:Addr->Prop)
mutual
noncomputable def Rep:D->σ->Prop
 |.non,v=>v=.non
 |.bl b,v=>v=.bl b
 |.int i,v=>v=.int i
 |.str x,v=>v=.str x
 |.lst ds,v=>∃a xs,v=.ref a/\¬S a/\H a=O (.lst xs)/\aC ds xs
 |.tup ds,v=>∃a xs,v=.ref a/\¬S a/\SqT K H a xs/\aC ds xs
 |.obj c fs,v=>∃a C dx gs,v=.ref a/\¬S a/\T.cl c=O C/\H a=O (.ins C dx gs)/\cX fs gs
 |.exc c,v=>∃a,v=.ref a/\¬S a/\ExcAt T.xc H a c
 |.dct kvs,v=>∃a gs,v=.ref a/\¬S a/\H a=O (.dK gs)/\bD kvs gs
 |.frz ds,v=>∃a xs,v=.ref a/\¬S a/\SqL K H a xs/\aC ds xs
noncomputable def aC:List D->List σ->Prop
 |[],xs=>xs=[]
 |d::ds,xs=>∃x r,xs=x::r/\Rep d x/\aC ds r
noncomputable def cX:List (Str×D)->List (Str×σ)->Prop
 |[],gs=>gs=[]
 | (f,d)::fs,gs=>∃x r,gs=(f,x)::r/\Rep d x/\cX fs r
noncomputable def bD:List (Int×D)->List (Key×σ)->Prop
 |[],gs=>gs=[]
 | (i,d)::fs,gs=>∃x r,gs=(Sum.inl i,x)::r/\Rep d x/\bD fs r
end
end
section
variable {K:xx}{T:Tx}{H H':Hp}{S S':Addr->Prop}
def SqT.keeps{a:Addr}(h:SqT K H a xs)(k:∀o,H a=O o->H' a=O o):SqT K H' a xs:=by rcases h with (h|⟨o,h⟩)|h;exact .inl (.inl (k _ h));exact .inl (.inr ⟨o,k _ h⟩);exact .inr h
def SqL.keeps{a:Addr}(h:SqL K H a xs)(k:∀o,H a=O o->H' a=O o):SqL K H' a xs:=by rcases h with (h|⟨o,h⟩)|h;exact .inl (.inl (k _ h));exact .inl (.inr ⟨o,k _ h⟩);exact .inr h
def aM(K:xx)(H H':Hp)(S S':Addr->Prop):Prop:=∀a,¬S a->((∃o,H a=O o)\/∃o,K.lookup a=O o)->¬S' a/\∀o,H a=O o->H' a=O o
def SqT.has{a:Addr}(h:SqT K H a xs):(∃o,H a=O o)\/∃o,K.lookup a=O o:=by rcases h with (h|⟨o,h⟩)|⟨o,_,_,h,_⟩;exact .inl ⟨_,h⟩;exact .inl ⟨_,h⟩;exact .inr ⟨_,h⟩
def SqL.has{a:Addr}(h:SqL K H a xs):(∃o,H a=O o)\/∃o,K.lookup a=O o:=by rcases h with (h|⟨o,h⟩)|⟨o,_,_,h,_⟩;exact .inl ⟨_,h⟩;exact .inl ⟨_,h⟩;exact .inr ⟨_,h⟩
mutual
theorem Rep.gen(hk:aM K H H' S S'):∀(d:D) (v:σ),Rep K T H S d v->Rep K T H' S' d v
 |.non,v,h=>by unfold Rep at h ⊢;exact h
 |.bl b,v,h=>by unfold Rep at h ⊢;exact h
 |.int i,v,h=>by unfold Rep at h ⊢;exact h
 |.str x,v,h=>by unfold Rep at h ⊢;exact h
 |.lst ds,v,h=>by unfold Rep at h ⊢;obtain⟨a,xs,e,n,q,r⟩:=h;obtain⟨z,k⟩:=hk a n (.inl ⟨_,q⟩);exact⟨a,xs,e,z,k _ q,aC.gen hk ds xs r⟩
 |.tup ds,v,h=>by unfold Rep at h ⊢;obtain⟨a,xs,e,n,q,r⟩:=h;obtain⟨z,k⟩:=hk a n (SqT.has q);exact⟨a,xs,e,z,SqT.keeps q k,aC.gen hk ds xs r⟩
 |.obj c fs,v,h=>by unfold Rep at h ⊢;obtain⟨a,C,dx,gs,e,n,ec,q,r⟩:=h;obtain⟨z,k⟩:=hk a n (.inl ⟨_,q⟩);exact⟨a,C,dx,gs,e,z,ec,k _ q,cX.gen hk fs gs r⟩
 |.exc c,v,h=>by unfold Rep at h ⊢;obtain⟨a,e,n,φ,C,q,r⟩:=h;obtain⟨z,k⟩:=hk a n (.inl ⟨_,q⟩);exact⟨a,e,z,φ,C,k _ q,r⟩
 |.dct kvs,v,h=>by unfold Rep at h ⊢;obtain⟨a,gs,e,n,q,r⟩:=h;obtain⟨z,k⟩:=hk a n (.inl ⟨_,q⟩);exact⟨a,gs,e,z,k _ q,bD.gen hk kvs gs r⟩
 |.frz ds,v,h=>by unfold Rep at h ⊢;obtain⟨a,xs,e,n,q,r⟩:=h;obtain⟨z,k⟩:=hk a n (SqL.has q);exact⟨a,xs,e,z,SqL.keeps q k,aC.gen hk ds xs r⟩
theorem aC.gen(hk:aM K H H' S S'):∀(ds:List D) (xs:List σ),aC K T H S ds xs->aC K T H' S' ds xs
 |[],xs,h=>by unfold aC at h ⊢;exact h
 |d::ds,xs,h=>by unfold aC at h ⊢;obtain⟨x,r,e,p,q⟩:=h;exact⟨x,r,e,Rep.gen hk d x p,aC.gen hk ds r q⟩
theorem cX.gen(hk:aM K H H' S S'):∀(ds:List (Str×D)) (xs:List (Str×σ)),cX K T H S ds xs->cX K T H' S' ds xs
 |[],xs,h=>by unfold cX at h ⊢;exact h
 | (f,d)::ds,xs,h=>by unfold cX at h ⊢;obtain⟨x,r,e,p,q⟩:=h;exact⟨x,r,e,Rep.gen hk d x p,cX.gen hk ds r q⟩
theorem bD.gen(hk:aM K H H' S S'):∀(ds:List (Int×D)) (xs:List (Key×σ)),bD K T H S ds xs->bD K T H' S' ds xs
 |[],xs,h=>by unfold bD at h ⊢;exact h
 | (f,d)::ds,xs,h=>by unfold bD at h ⊢;obtain⟨x,r,e,p,q⟩:=h;exact⟨x,r,e,Rep.gen hk d x p,bD.gen hk ds r q⟩
end
def aM.mk(I:∀a,S' a->S a)(hk:∀b o,¬S b->H b=O o->H' b=O o):aM K H H' S S':=λa n _=>⟨λz=>n (I a z),λo=>hk a o n⟩
def aM.add{D:Addr}(I:H D=U)(hK:K.lookup D=U):aM K H (upd H D o) S (λa=>S a\/a=D):=λa n h=>by
 have ne:a≠D:=by rintro rfl;rcases h with ⟨u,e⟩|⟨u,e⟩;rw[I]at e;cases e;rw[hK]at e;cases e
 exact⟨λz=>z.elim n ne,λu e=>by rw[aK ne];exact e⟩
def Rep.mono(z:∀a,S' a->S a)(hk:∀b o,¬S b->H b=O o->H' b=O o)(d:D)(v:σ)(h:Rep K T H S d v):Rep K T H' S' d v:=Rep.gen (aM.mk z hk) d v h
def aC.mono(z:∀a,S' a->S a)(hk:∀b o,¬S b->H b=O o->H' b=O o)(d:List D)(v:List σ)(h:aC K T H S d v):aC K T H' S' d v:=aC.gen (aM.mk z hk) d v h
def Rep.same(k:aI H H'){d:D}(h:Rep K T H S d v):Rep K T H' S d v:=Rep.mono (λ_ z=>z) (λb o _=>k b o) d v h
def aC.same(k:aI H H'){d:List D}{v:List σ}(h:aC K T H S d v):aC K T H' S d v:=aC.mono (λ_ z=>z) (λb o _=>k b o) d v h
theorem aC.len:∀{ds:List D} {xs:List σ},aC K T H S ds xs->ds.length=xs.length
 |[],xs,h=>by unfold aC at h;subst h;rfl
 |d::ds,xs,h=>by unfold aC at h;obtain⟨x,r,rfl,_,q⟩:=h;simp[aC.len q]
theorem aC.get:∀{ds:List D} {xs:List σ} {i:Nat} {d:D},aC K T H S ds xs->ds[i]?=O d->∃x,xs[i]?=O x/\Rep K T H S d x
 |[],_,_,_,_,e=>by simp at e
 |d::ds,xs,0,d',h,e=>by unfold aC at h;obtain⟨x,r,rfl,p,q⟩:=h;simp at e;subst e;exact⟨x,rfl,p⟩
 |d::ds,xs,i+1,d',h,e=>by unfold aC at h;obtain⟨x,r,rfl,p,q⟩:=h;obtain⟨y,h1,h2⟩:=aC.get (i:=i) (d:=d') q (by simpa using e);exact⟨y,by simpa using h1,h2⟩
theorem aC.app:∀{ds es:List D} {xs ys:List σ},aC K T H S ds xs->aC K T H S es ys->aC K T H S (ds++es) (xs++ys)
 |[],es,xs,ys,h,g=>by unfold aC at h;subst h;exact g
 |d::ds,es,xs,ys,h,g=>by unfold aC at h;obtain⟨x,r,rfl,p,q⟩:=h;show aC K T H S (d::(ds++es)) _;unfold aC;exact⟨x,r++ys,rfl,p,aC.app q g⟩
def aC.nil:aC K T H S [] []:=by unfold aC;rfl
def aC.cons{d:D}{x:σ}{ds:List D}(h:Rep K T H S d x)(g:aC K T H S ds xs):aC K T H S (d::ds) (x::xs):=by unfold aC;exact⟨x,xs,rfl,h,g⟩
theorem aC.drop:∀{ds:List D} {xs:List σ} (n:Nat),aC K T H S ds xs->aC K T H S (ds.drop n) (xs.drop n)
 |ds,xs,0,h=>h
 |[],xs,n+1,h=>by unfold aC at h;subst h;exact aC.nil
 |d::ds,xs,n+1,h=>by unfold aC at h;obtain⟨x,r,rfl,p,q⟩:=h;exact aC.drop n q
theorem aC.take:∀{ds:List D} {xs:List σ} (n:Nat),aC K T H S ds xs->aC K T H S (ds.take n) (xs.take n)
 |ds,xs,0,h=>by simp;exact aC.nil
 |[],xs,n+1,h=>by unfold aC at h;subst h;exact aC.nil
 |d::ds,xs,n+1,h=>by unfold aC at h;obtain⟨x,r,rfl,p,q⟩:=h;exact aC.cons p (aC.take n q)
theorem aC.set:∀{ds:List D} {xs:List σ} (n:Nat) {d:D} {v:σ},aC K T H S ds xs->Rep K T H S d v->aC K T H S (ds.set n d) (xs.set n v)
 |[],xs,n,d,v,h,g=>by unfold aC at h;subst h;exact aC.nil
 |_::ds,xs,0,d,v,h,g=>by unfold aC at h;obtain⟨x,r,rfl,p,q⟩:=h;exact aC.cons g q
 |_::ds,xs,n+1,d,v,h,g=>by unfold aC at h;obtain⟨x,r,rfl,p,q⟩:=h;exact aC.cons p (aC.set n q g)
theorem aC.rev:∀{ds:List D} {xs:List σ},aC K T H S ds xs->aC K T H S ds.reverse xs.reverse
 |[],xs,h=>by unfold aC at h;subst h;exact aC.nil
 |d::ds,xs,h=>by unfold aC at h;obtain⟨x,r,rfl,p,q⟩:=h;rw[reverse_cons,reverse_cons];exact aC.app (aC.rev q) (aC.cons p aC.nil)
theorem cX.look{f:Str}:∀{ds:List (Str×D)} {xs:List (Str×σ)},cX K T H S ds xs->(∀d,ds.lookup f=O d->∃x,xs.lookup f=O x/\Rep K T H S d x)/\(ds.lookup f=U->xs.lookup f=U)
 |[],xs,h=>by unfold cX at h;subst h;exact⟨λd e=>by simp at e,λ_=>rfl⟩
 | (g,d)::ds,xs,h=>by
  unfold cX at h;obtain⟨x,r,rfl,p,q⟩:=h;obtain⟨R,I⟩:=cX.look (f:=f) q;rw[lookup_cons,lookup_cons];cases e:f == g with
  |true=>exact⟨λd' z=>⟨x,rfl,by cases z;exact p⟩,λz=>by cases z⟩
  |false=>exact⟨R,I⟩
end
noncomputable def er(H:Hp)(p:Addr):Hp:=λa=>if a=p then U else H a
def gU{a:Addr}:er H p a=O o↔a≠p/\H a=O o:=by unfold er;split<;>simp_all
def iD(h:H p=U):er (upd H p o) p=H:=by funext a;unfold er;by_cases e:a=p;rw[if_pos e,e,h];rw[if_neg e,aK e]
theorem aC.er{T:Tx}{ds:List D}(h:aC K T (er H p) S ds xs):aC K T H S ds xs:=aC.mono (λ_ z=>z) (λb o _ e=>(gU.mp e).2) ds xs h
def aC.disown{T:Tx}{ds:List D}(hp:S p)(hs:∀a,S' a->S a)(h:aC K T H S ds xs):aC K T (Z.er H p) S' ds xs:=aC.gen (λa n _=>⟨λz=>n (hs a z),λo e=>gU.mpr ⟨λz=>n (by rw[z];exact hp),e⟩⟩) ds xs h
def aM.own(hk:K.lookup p=U):aM K (Z.er H p) H S (λa=>S a\/a=p):=λa n q=>by
 have ne:a≠p:=by rintro rfl;rcases q with ⟨o,e⟩|⟨o,e⟩;exact(gU.mp e).1 rfl;rw[hk]at e;cases e
 exact⟨λz=>z.elim n ne,λo e=>(gU.mp e).2⟩
def oI(K:xx)(T:Tx)(H:Hp)(S:Addr->Prop)(d:D)(o:HO):Prop:=(∃ds xs,d=.lst ds/\o=.lst xs/\aC K T H S ds xs)\/∃kvs gs,d=.dct kvs/\o=.dK gs/\bD K T H S kvs gs
theorem oI.gen{T:Tx}{H':Hp}{d:D}(mv:aM K H H' S S')(h:oI K T H S d o):oI K T H' S' d o:=by rcases h with ⟨ds,xs,e1,e2,r⟩|⟨ds,xs,e1,e2,r⟩;exact .inl ⟨ds,xs,e1,e2,aC.gen mv _ _ r⟩;exact .inr ⟨ds,xs,e1,e2,bD.gen mv _ _ r⟩
theorem oI.lst{T:Tx}{ds:List D}(h:oI K T H S (.lst ds) o):∃xs,o=.lst xs/\aC K T H S ds xs:=by rcases h with ⟨ds',xs,e1,e2,r⟩|⟨ds',xs,e1,e2,r⟩;cases e1;exact⟨xs,e2,r⟩;cases e1
theorem oI.dct{T:Tx}{ds:List (Int×D)}(h:oI K T H S (.dct ds) o):∃xs,o=.dK xs/\bD K T H S ds xs:=by rcases h with ⟨ds',xs,e1,e2,r⟩|⟨ds',xs,e1,e2,r⟩;cases e1;cases e1;exact⟨xs,e2,r⟩
def oI.rep{T:Tx}{d:D}(h:oI K T H S d o)(hp:H p=O o)(hn:¬S' p)(hs:∀a,S' a->S a):Rep K T H S' d (.ref p):=by rcases h with ⟨ds,xs,rfl,rfl,r⟩|⟨ds,xs,rfl,rfl,r⟩;unfold Rep;exact⟨p,xs,rfl,hn,hp,aC.gen (aM.mk hs λ_ _ _ e=>e) _ _ r⟩;unfold Rep;exact⟨p,xs,rfl,hn,hp,bD.gen (aM.mk hs λ_ _ _ e=>e) _ _ r⟩
section
variable (K:xx)(T:Tx)(H:Hp)(S:Addr->Prop)
def YT(s:Sl)(o:Option (Option σ)):Prop:=match s with
 |.un=>True
 |.ow _ _=>True
 |.im d=>∃v,o=O (O v)/\Rep K T H S d v
 |.mu d=>∃p z,o=O (O (.ref p))/\S p/\H p=O z/\oI K T H S d z
structure RE (B:List Sl) (V:L2.St):Prop where
 dom:∀a,S a->∃o,H a=O o
 len:B.length=V.length
 at_:∀(i:Nat) s,B[i]?=O s->YT K T H S s V[i]?
def tD(B:List Sl)(d:D):TE:=λV H Q=>RE K T H S B V/\∀v H',aI H H'->Rep K T H' S d v->Q v H'
def da(B:List Sl)(ds:List D):TA:=λV H Q=>RE K T H S B V/\∀vs H',aI H H'->aC K T H' S ds vs->Q vs H'
noncomputable def i5(B:List Sl)(b:Bool):TT:=λV H Q=>RE K T H S B V/\∀H',aI H H'->Q b H'
def d9(B:List Sl)(ds:List D):TE:=λV H Q=>RE K T H S B V/\∀p xs H',aI H H'->H p=U->H' p=O (.lst xs)->aC K T (er H' p) S ds xs->Q (.ref p) H'
end
section
variable {K:xx}{T:Tx}{H H':Hp}{S S':Addr->Prop}{B:List Sl}{V:L2.St}
theorem YT.same(k:aI H H'){s:Sl}{o:Option (Option σ)}(h:YT K T H S s o):YT K T H' S s o:=by
 cases s with
 |un=>trivial
 |ow _ _=>trivial
 |im d=>obtain⟨v,e,r⟩:=h;exact⟨v,e,r.same k⟩
 |mu ds=>obtain⟨p,xs,e,n,q,r⟩:=h;exact⟨p,xs,e,n,k _ _ q,r.gen (aM.mk (λ_ z=>z) λb o _=>k b o)⟩
theorem RE.same(k:aI H H')(h:RE K T H S B V):RE K T H' S B V:=⟨λa z=>let ⟨o,e⟩:=h.dom a z;⟨o,k a o e⟩,h.len,λi s e=>(h.at_ i s e).same k⟩
def RE.nS(h:RE K T H S B V){a:Addr}(e:H a=U):¬S a:=λz=>by obtain⟨o,q⟩:=h.dom a z;rw[e]at q;cases q
end
def PE.mono{t t':TE}(h:PE X e t)(m:∀V H Q,t' V H Q->t V H Q):PE X e t':=λpins s V H Q I hw=>h pins s V H Q I (m V H Q hw)
def PT.mono{t t':TT}(h:PT X e t)(m:∀V H Q,t' V H Q->t V H Q):PT X e t':=λpins s V H Q I hw=>h pins s V H Q I (m V H Q hw)
def PW.mono{t t':TT}(h:PW X e t)(m:∀V H Q,t' V H Q->t V H Q):PW X e t':=λz pins s V H Q I hw=>h z pins s V H Q I (m V H Q hw)
def PA.mono{e:List Expr}{t t':TA}(h:PA X e t)(m:∀V H Q,t' V H Q->t V H Q):PA X e t':=λpos pins s V H Q I hw=>h pos pins s V H Q I (m V H Q hw)
theorem aI.upd{H:Hp}{p:Addr}{o:HO}(h:H p=U):aI H (upd H p o):=λb u e=>by rw[aK (aS e h)];exact e
mutual
noncomputable def py:D->PyData
 |.non=>.none
 |.bl b=>.bool b
 |.int i=>.int i
 |.str x=>.str x
 |.lst xs=>.list (cx xs)
 |.tup xs=>.tuple (cx xs)
 |.obj _ _=>.none
 |.exc _=>.none
 |.dct _=>.none
 |.frz _=>.none
noncomputable def cx:List D->List PyData
 |[]=>[]
 |d::r=>py d::cx r
end
theorem eF{n:Nat}(h:∀d,flat n d=Y->(py d).canLay0=Y):∀ds:List D,ds.all (flat n)=Y->PyData.canLayAll0 (cx ds)=Y
 |[],_=>by simp[cx,PyData.canLayAll0]
 |d::ds,e=>by rw[all_cons,va]at e;simp only[cx,PyData.canLayAll0,va];exact⟨h d e.1,eF h ds e.2⟩
theorem canLay:∀(n:Nat) (d:D),flat n d=Y->(py d).canLay0=Y
 |n,.non,_=>by simp[py,PyData.canLay0]
 |n,.bl _,_=>by simp[py,PyData.canLay0]
 |n,.int _,_=>by simp[py,PyData.canLay0]
 |n,.str x,h=>by
  have e:qo x=Y:=by cases n<;>simpa [flat] using h
  simp only[py,PyData.canLay0];exact e
 | 0,.lst _,h=>by simp[flat]at h
 | 0,.tup _,h=>by simp[flat]at h
 |n+1,.lst xs,h=>by simp only[py,PyData.canLay0];exact eF (canLay n) xs (by simpa [flat] using h)
 |n+1,.tup xs,h=>by simp only[py,PyData.canLay0];exact eF (canLay n) xs (by simpa [flat] using h)
 |n,.obj _ _,h=>by cases n<;>simp[flat]at h
 |n,.exc _,h=>by cases n<;>simp[flat]at h
 |n,.dct _,h=>by cases n<;>simp[flat]at h
 |n,.frz _,h=>by cases n<;>simp[flat]at h
theorem nX{n:Nat}(h:∀d,flat n d=Y->(py d).depth<=n):∀ds:List D,ds.all (flat n)=Y->PyData.depthAll (cx ds)<=n
 |[],_=>by simp[cx,PyData.depthAll]
 |d::ds,e=>by rw[all_cons,va]at e;simp only[cx,PyData.depthAll];exact Nat.max_le.mpr ⟨h d e.1,nX h ds e.2⟩
theorem rJ:∀(n:Nat) (d:D),flat n d=Y->(py d).depth<=n
 |n,.non,_=>by simp[py,PyData.depth]
 |n,.bl _,_=>by simp[py,PyData.depth]
 |n,.int _,_=>by simp[py,PyData.depth]
 |n,.str x,h=>by simp[py,PyData.depth]
 | 0,.lst _,h=>by simp[flat]at h
 | 0,.tup _,h=>by simp[flat]at h
 |n+1,.lst xs,h=>by simp only[py,PyData.depth];exact Nat.succ_le_succ (nX (rJ n) xs (by simpa [flat] using h))
 |n+1,.tup xs,h=>by simp only[py,PyData.depth];exact Nat.succ_le_succ (nX (rJ n) xs (by simpa [flat] using h))
 |n,.obj _ _,h=>by simp[py,PyData.depth]
 |n,.exc _,h=>by simp[py,PyData.depth]
 |n,.dct _,h=>by simp[py,PyData.depth]
 |n,.frz _,h=>by simp[py,PyData.depth]
theorem FK{n:Nat}(h:∀d e,flat n d=Y->flat n e=Y->bx d e=PyData.eqv (py d) (py e)):∀ds es:List D,ds.all (flat n)=Y->es.all (flat n)=Y->lW ds es=PyData.eqvAll (cx ds) (cx es)
 |[],[],_,_=>by simp[lW,cx,PyData.eqvAll]
 |[],_::_,_,_=>by simp[lW,cx,PyData.eqvAll]
 |_::_,[],_,_=>by simp[lW,cx,PyData.eqvAll]
 |d::ds,e::es,a,b=>by rw[all_cons,va]at a b;simp only[lW,cx,PyData.eqvAll];rw[h d e a.1 b.1,FK h ds es a.2 b.2]
theorem wQ:∀(n:Nat) (d e:D),flat n d=Y->flat n e=Y->bx d e=PyData.eqv (py d) (py e)
 | 0,d,e,a,b=>by cases d<;>cases e<;>first|(simp[flat]at a;done)|(simp[flat]at b;done)|simp[bx,py,PyData.eqv]
 |n+1,d,e,a,b=>by
  cases d<;>cases e<;>first
   | (simp[flat]at a;done)
   | (simp[flat]at b;done)
   | (simp only[bx,py,PyData.eqv];exact FK (wQ n) _ _ (by simpa [flat] using a) (by simpa [flat] using b))
   |simp[bx,py,PyData.eqv]
section
variable {X:Cx}{T:Tx}{pins:ya}{V:L2.St}{H:Hp}{s:Shared}{S:Addr->Prop}
theorem nC{n:Nat}(h:∀d v u,flat n d=Y->Rep X.K T H S d v->RelV v u->∃as,Reads s.heap u (py d) as):∀(ds:List D) (xs:List σ) (us:List Value),ds.all (flat n)=Y->aC X.K T H S ds xs->aX xs us->∃as,ReadsAll s.heap us (cx ds) as
 |[],xs,us,_,r,v=>by unfold aC at r;subst r;cases v;exact⟨_,.nil⟩
 |d::ds,xs,us,e,r,v=>by
  rw[all_cons,va]at e;unfold aC at r;obtain⟨x,q,rfl,W,R⟩:=r;cases v with
  |cons I z=>obtain⟨as,h1⟩:=h d x _ e.1 W I;obtain⟨bs,h2⟩:=nC h ds q _ e.2 R z;exact⟨_,.cons h1 h2⟩
theorem eP(I:Inv X pins V H s):∀(n:Nat) (d:D) (v:σ) (u:Value),flat n d=Y->Rep X.K T H S d v->RelV v u->∃as,Reads s.heap u (py d) as
 |n,.non,v,u,_,r,q=>by unfold Rep at r;subst r;cases q;exact⟨_,.none⟩
 |n,.bl b,v,u,_,r,q=>by unfold Rep at r;subst r;cases q;exact⟨_,.bool b⟩
 |n,.int i,v,u,_,r,q=>by unfold Rep at r;subst r;obtain⟨t,rfl⟩:=q;exact⟨_,.int i t⟩
 |n,.str x,v,u,_,r,q=>by unfold Rep at r;subst r;obtain⟨t,rfl⟩:=q;exact⟨_,.str x t⟩
 | 0,.lst _,_,_,h,_,_=>by simp[flat]at h
 | 0,.tup _,_,_,h,_,_=>by simp[flat]at h
 |n+1,.lst ds,v,u,h,r,q=>by unfold Rep at r;obtain⟨a,xs,rfl,_,e,r⟩:=r;cases q;obtain⟨its,rv,⟨o,k,ho,hc,hd,hs⟩,_⟩:=I.list (SqL.of e);obtain⟨as,z⟩:=nC (eP I n) ds xs its (by simpa [flat] using h) r rv;simp only[py];exact⟨_,.list ho hc hs (by simpa using z)⟩
 |n+1,.tup ds,v,u,h,r,q=>by unfold Rep at r;obtain⟨a,xs,rfl,_,e,r⟩:=r;cases q;obtain⟨its,rv,⟨o,ho,hc,k,hs⟩,_⟩:=I.tuple e;obtain⟨as,z⟩:=nC (eP I n) ds xs its (by simpa [flat] using h) r rv;simp only[py];exact⟨_,.tuple ho hc hs (by simpa using z)⟩
 |n,.obj _ _,_,_,h,_,_=>by cases n<;>simp[flat]at h
 |n,.exc _,_,_,h,_,_=>by cases n<;>simp[flat]at h
 |n,.dct _,_,_,h,_,_=>by cases n<;>simp[flat]at h
 |n,.frz _,_,_,h,_,_=>by cases n<;>simp[flat]at h
end
def rD(K:xx)(T:Tx)(S:Addr->Prop)(o:O2):R2:=λx y H Q=>∃a b d,(∀a,S a->∃o,H a=O o)/\Rep K T H S a x/\Rep K T H S b y/\ah o a b=O d/\∀v H',aI H H'->Rep K T H' S d v->Q v H'
def fC:big<=sizeLine:=by rw[sizeLine_eq];decide
section
variable {X:Cx}{T:Tx}{S:Addr->Prop}
def xS{ds:List D}(dom:∀a,S a->∃o,H a=O o)(hp:H p=U)(r:aC K T H S ds xs):Rep K T (upd H p (.lst xs)) S (.lst ds) (.ref p):=by unfold Rep;exact⟨p,xs,rfl,λz=>(by obtain⟨o,e⟩:=dom p z;rw[hp]at e;cases e),aL,r.same (aI.upd hp)⟩
def fM{ds:List D}(dom:∀a,S a->∃o,H a=O o)(hp:H p=U)(r:aC K T H S ds xs):Rep K T (upd H p (.tup xs)) S (.tup ds) (.ref p):=by unfold Rep;exact⟨p,xs,rfl,λz=>(by obtain⟨o,e⟩:=dom p z;rw[hp]at e;cases e),SqT.of aL,r.same (aI.upd hp)⟩
def QX{t b:Addr}{ws:List Value}(ht:IsTup s.heap t (#[]:Array Value))(hb:IsTup s.heap b ws.toArray) (h1:Q (.ref b) s) (hsz:ws.length<=sizeLine):wpAny (model prog w) A (binaryOp .Add (.ref t) (.ref b)) Q E s:=by obtain⟨⟨cls,dd,data,sl⟩,ho,hc,n,hd⟩:=id ht;obtain⟨⟨cls2,oq,I,o5⟩,W,R,n2,z⟩:=id hb;simp only at hc hd R z;subst hc hd R z;exact concat_meets ⟨_,ho,rfl⟩ ⟨_,W,rfl⟩ noFill_tuple_add seq_tuple_add slot_tuple_add entry_tuple_add (args_tuple_add_2 _ _) (tuple_addW0 t b #[] ws.toArray n n2 dd oq sl o5 Ab) ⟨ho,W,h1⟩
def VW:ba X (binaryOp .Add) (rD X.K T S .add):=by
 rintro pins s V H x y v u Q I rx ry ⟨a,b,d,dom,R,z,e,q⟩;simp only[ah,WC]at e;split at e;rename_i i j;unfold Rep at R z;cases e;exact aBL pins s V H x y v u Q I rx ry ⟨i,j,R,z,q _ H (aI.refl H) (by unfold Rep;rfl)⟩;rename_i i j;unfold Rep at R z;split at e;rename_i hz;cases e;exact BA pins s V H x y v u Q I rx ry ⟨i,j,R,z,vm hz fC,q _ H (aI.refl H) (by unfold Rep;rfl)⟩;cases e;rename_i as bs;unfold Rep at R z;obtain⟨l,xs,ex,_,e1,r1⟩:=R;obtain⟨b,ys,ey,_,e2,W⟩:=z;split at e;rename_i hz;cases e;refine LL pins s V H x y v u Q I rx ry ⟨l,b,xs,ys,ex,ey,e1,e2,?_,λp hp=>q _ _ (aI.upd hp) (xS dom hp (r1.app W))⟩;rw[<-r1.len,<-W.len];exact vm hz fC;cases e;rename_i as bs;have ra':=R;have rb':=z;unfold Rep at R z;obtain⟨l,xs,ex,_,e1,r1⟩:=R;obtain⟨b,ys,ey,_,e2,W⟩:=z;split at e;rename_i hz;cases e;have fu:xs.length+ys.length<=sizeLine:=by rw[<-r1.len,<-W.len];exact vm hz fC
 by_cases hx:xs=[];subst hx ex ey;cases rx;cases ry;have ea:as=[]:=vy.mp r1.len;subst ea;obtain⟨its,v1,p1,_⟩:=I.tuple e1;obtain⟨dj,v2,p2,z2⟩:=I.tuple e2;cases v1;exact QX p1 p2 ⟨.ref b,H,I,rfl,q _ H (aI.refl H) (by simpa using rb')⟩ (by rw[<-v2.length];exact z2);refine VP pins s V H x y v u Q I rx ry ⟨l,b,xs,ys,ex,ey,e1,e2,hx,fu,λhy=>?_,λhy p hp=>q _ _ (aI.upd hp) (fM dom hp (r1.app W))⟩;subst hy;have eb:bs=[]:=vy.mp W.len;subst eb;rw[<-ex];exact q _ H (aI.refl H) (by simpa using ra');cases e;cases e
def VR:ba X (binaryOp .Sub) (rD X.K T S .sub):=by rintro pins s V H x y v u Q I rx W ⟨a,b,d,dom,R,z,e,q⟩;simp only[ah,aEX]at e;split at e;rename_i i j;unfold Rep at R z;cases e;exact aBG pins s V H x y v u Q I rx W ⟨i,j,R,z,q _ H (aI.refl H) (by unfold Rep;rfl)⟩;cases e
def VT:ba X (binaryOp .Mult) (rD X.K T S .mul):=by rintro pins s V H x y v u Q I rx W ⟨a,b,d,dom,R,z,e,q⟩;simp only[ah,aEY]at e;split at e;rename_i i j;unfold Rep at R z;split at e;rename_i hz;cases e;exact aBI pins s V H x y v u Q I rx W ⟨i,j,R,z,hz,q _ H (aI.refl H) (by unfold Rep;rfl)⟩;cases e;cases e
def LM:ba X (binaryOp .FloorDiv) (rD X.K T S .fdiv):=by rintro pins s V H x y v u Q I rx W ⟨a,b,d,dom,R,z,e,q⟩;simp only[ah,oDiv]at e;split at e;rename_i i j;unfold Rep at R z;split at e;rename_i hz;cases e;exact VO pins s V H x y v u Q I rx W ⟨i,j,R,z,hz,q _ H (aI.refl H) (by unfold Rep;rfl)⟩;cases e;cases e
def VU:ba X (binaryOp .Mod) (rD X.K T S .mod):=by rintro pins s V H x y v u Q I rx W ⟨a,b,d,dom,R,z,e,q⟩;simp only[ah,oMod]at e;split at e;rename_i i j;unfold Rep at R z;split at e;rename_i hz;cases e;exact aBJ pins s V H x y v u Q I rx W ⟨i,j,R,z,hz,q _ H (aI.refl H) (by unfold Rep;rfl)⟩;cases e;cases e
def VS:ba X (binaryOp .Pow) (rD X.K T S .pow):=by rintro pins s V H x y v u Q I rx W ⟨a,b,d,dom,R,z,e,q⟩;simp only[ah,aBY]at e;split at e;rename_i i j;unfold Rep at R z;split at e;rename_i hz;cases e;exact aBH pins s V H x y v u Q I rx W ⟨i,j,R,z,⟨hz.1,z7,hz.2.2⟩,q _ H (aI.refl H) (by unfold Rep;rfl)⟩;cases e;cases e
def VV{op:Operator}{o:O2}(h:VQ op=O o):ba X (binaryOp op) (rD X.K T S o):=by cases op<;>simp only[VQ]at h<;>first|(cases h;done)|(cases h;first|exact VW|exact VR|exact VT|exact LM|exact VU|exact VS)
def cG{b:Bool}:Rep K T H S (.bl b) (.bl b):=by unfold Rep;rfl
def aBN:ba X (compareOp .Lt) (rD X.K T S .lt):=by rintro pins s V H x y v u Q I rx W ⟨a,b,d,dom,R,z,e,q⟩;simp only[ah,oLt]at e;split at e;rename_i i j;unfold Rep at R z;cases e;exact aEL pins s V H x y v u Q I rx W ⟨i,j,R,z,q _ H (aI.refl H) cG⟩;cases e
def aBO:ba X (compareOp .LtE) (rD X.K T S .le):=by rintro pins s V H x y v u Q I rx W ⟨a,b,d,dom,R,z,e,q⟩;simp only[ah,oLe]at e;split at e;rename_i i j;unfold Rep at R z;cases e;exact aEM pins s V H x y v u Q I rx W ⟨i,j,R,z,q _ H (aI.refl H) cG⟩;cases e
def aBR:ba X (compareOp .Gt) (rD X.K T S .gt):=by rintro pins s V H x y v u Q I rx W ⟨a,b,d,dom,R,z,e,q⟩;simp only[ah,oGt]at e;split at e;rename_i i j;unfold Rep at R z;cases e;exact aEN pins s V H x y v u Q I rx W ⟨i,j,R,z,q _ H (aI.refl H) cG⟩;cases e
def aBS:ba X (compareOp .GtE) (rD X.K T S .ge):=by rintro pins s V H x y v u Q I rx W ⟨a,b,d,dom,R,z,e,q⟩;simp only[ah,oGe]at e;split at e;rename_i i j;unfold Rep at R z;cases e;exact aEO pins s V H x y v u Q I rx W ⟨i,j,R,z,q _ H (aI.refl H) cG⟩;cases e
def ZG(hu:A.units+64<cLine){d e:D}(hd:plain d=Y):A.units+min (py d).depth (py e).depth<cLine:=by have h1:=rJ 8 d hd;have h2:min (py d).depth (py e).depth<=(py d).depth:=Nat.min_le_left _ _;lia
def aBT(hu:X.A.units+64<cLine):ba X (compareOp .Eq) (rD X.K T S .eq):=by rintro pins s V H x y v u Q I R z ⟨a,b,d,dom,ra,W,e,q⟩;simp only[ah,oEq]at e;split at e;rename_i hp;rw[va]at hp;cases e;obtain⟨as,h1⟩:=eP I 8 a x v hp.1 ra R;obtain⟨bs,h2⟩:=eP I 8 b y u hp.2 W z;refine SeqAt.compareEq_reads h1 h2 (canLay 8 a hp.1) (canLay 8 b hp.2) (ZG hu hp.1) ⟨.bl _,H,I,rfl,?_⟩;rw[<-wQ 8 a b hp.1 hp.2];exact q _ H (aI.refl H) cG;cases e
def aBM(hu:X.A.units+64<cLine):ba X (compareOp .NotEq) (rD X.K T S .ne):=by rintro pins s V H x y v u Q I R z ⟨a,b,d,dom,ra,W,e,q⟩;simp only[ah,oNe]at e;split at e;rename_i hp;rw[va]at hp;cases e;obtain⟨as,h1⟩:=eP I 8 a x v hp.1 ra R;obtain⟨bs,h2⟩:=eP I 8 b y u hp.2 W z;refine SeqAt.compareNe_reads h1 h2 (canLay 8 a hp.1) (canLay 8 b hp.2) (ZG hu hp.1) ⟨.bl _,H,I,rfl,?_⟩;rw[<-wQ 8 a b hp.1 hp.2];exact q _ H (aI.refl H) cG;cases e
theorem rQ(a:D)(ha:plain a=Y):∀ds:List D,ds.all plain=Y->((cx ds).any λy=>PyData.eqv y (py a))=ds.any λy=>bx y a
 |[],_=>by simp[cx]
 |d::ds,h=>by rw[all_cons,va]at h;simp only[cx,any_cons];rw[rQ a ha ds h.2,wQ 8 d a h.1 ha]
theorem bD.has{T:Tx}{k:Int}:∀{kvs:List (Int×D)} {gs:List (Key×σ)},bD K T H S kvs gs->(gW gs (Sum.inl k:Key)).isSome=(bU kvs k).isSome
 |[],gs,h=>by unfold bD at h;subst h;rfl
 | (i,d)::kvs,gs,h=>by unfold bD at h;obtain⟨x,r,rfl,p,q⟩:=h;by_cases e:i=k;rw[iH (congrArg Sum.inl e)];unfold bU;rw[List.find?_cons_of_pos (by simpa using e)];rfl;rw[iI (λz=>e (Sum.inl.inj z))];unfold bU;rw[List.find?_cons_of_neg (by simpa using e)];exact bD.has q
def aBQ(hu:X.A.units+64<cLine):ba X (compareOp .In) (rD X.K T S .isin):=by
 rintro pins s V H x y v u Q I rx W ⟨a,b,d,dom,R,z,e,q⟩;have go:∀(ds:List D),plain a=Y->ds.all plain=Y->X.A.units+1+min (PyData.depthAll (cx ds)) (py a).depth<cLine:=λds h1 h2=>by have h3:=rJ 8 a h1;have h4:min (PyData.depthAll (cx ds)) (py a).depth<=(py a).depth:=min_le_right _ _;lia
 simp only[ah,oIn]at e;split at e;rename_i ds;split at e;rename_i hp;rw[va]at hp;cases e;obtain⟨as,h1⟩:=eP I 8 a x v hp.1 R rx;obtain⟨bs,h2⟩:=eP I 9 (.lst ds) y u (by show ds.all (flat 8)=Y;exact hp.2) z W;simp only[py]at h2;refine SeqAt.in_list_reads h2 h1 (eF (canLay 8) ds hp.2) (canLay 8 a hp.1) (go ds hp.1 hp.2) ⟨.bl _,H,I,rfl,?_⟩;rw[rQ a hp.1 ds hp.2];exact q _ H (aI.refl H) cG;cases e;rename_i ds;split at e;rename_i hp;rw[va]at hp;cases e;obtain⟨as,h1⟩:=eP I 8 a x v hp.1 R rx;obtain⟨bs,h2⟩:=eP I 9 (.tup ds) y u (by show ds.all (flat 8)=Y;exact hp.2) z W;simp only[py]at h2;refine SeqAt.in_tuple_reads h2 h1 (eF (canLay 8) ds hp.2) (canLay 8 a hp.1) (go ds hp.1 hp.2) ⟨.bl _,H,I,rfl,?_⟩;rw[rQ a hp.1 ds hp.2];exact q _ H (aI.refl H) cG;cases e;split at e;cases e;unfold Rep at R z;subst R;obtain⟨p,gs,rfl,_,hq,rk⟩:=z;cases W;refine aGY z7 I (xB.k (k:=Sum.inl _) hq) rx λs' I'=>?_;rw[rk.has];exact⟨.bl _,H,I',rfl,q _ H (aI.refl H) cG⟩;cases e;cases e
def GU(hu:X.A.units+64<cLine):ba X (compareOp .NotIn) (rD X.K T S .notin):=by
 rintro pins s V H x y v u Q I R z ⟨a,b,d,dom,ra,W,e,q⟩;have go:∀(ds:List D),plain a=Y->ds.all plain=Y->X.A.units+1+min (PyData.depthAll (cx ds)) (py a).depth<cLine:=λds h1 h2=>by have h3:=rJ 8 a h1;have h4:min (PyData.depthAll (cx ds)) (py a).depth<=(py a).depth:=min_le_right _ _;lia
 simp only[ah,LW]at e;split at e;rename_i ds;split at e;rename_i hp;rw[va]at hp;cases e;obtain⟨as,h1⟩:=eP I 8 a x v hp.1 ra R;obtain⟨bs,h2⟩:=eP I 9 (.lst ds) y u (by show ds.all (flat 8)=Y;exact hp.2) W z;simp only[py]at h2;refine SeqAt.notIn_list_reads h2 h1 (eF (canLay 8) ds hp.2) (canLay 8 a hp.1) (go ds hp.1 hp.2) ⟨.bl _,H,I,rfl,?_⟩;rw[rQ a hp.1 ds hp.2];exact q _ H (aI.refl H) cG;cases e;rename_i ds;split at e;rename_i hp;rw[va]at hp;cases e;obtain⟨as,h1⟩:=eP I 8 a x v hp.1 ra R;obtain⟨bs,h2⟩:=eP I 9 (.tup ds) y u (by show ds.all (flat 8)=Y;exact hp.2) W z;simp only[py]at h2;refine SeqAt.notIn_tuple_reads h2 h1 (eF (canLay 8) ds hp.2) (canLay 8 a hp.1) (go ds hp.1 hp.2) ⟨.bl _,H,I,rfl,?_⟩;rw[rQ a hp.1 ds hp.2];exact q _ H (aI.refl H) cG;cases e;cases e
def aBP:ba X (compareOp .Is) (rD X.K T S .is):=by
 rintro pins s V H x y v u Q I rx W ⟨a,b,d,dom,z,R,e,q⟩;have go:∀k,b=.non->k=decide (x=σ.non)->d=.bl k->wpAny (model X.prog X.w) X.A (compareOp .Is v u) (EP X pins V Q) X.xe s:=λk hb hk hd=>by
  subst hb hd hk;unfold Rep at R;exact aBK pins s V H x y v u Q I rx W ⟨R,q _ H (aI.refl H) cG⟩
 simp only[ah,oIs,isD]at e;split at e<;>simp only[wz,Option.map_none,u4,reduceCtorEq]at e
 all_goals subst e
 all_goals first
  | (unfold Rep at z;refine go _ rfl ?_ rfl;first|(subst z;rfl)|(obtain⟨_,_,rfl,_⟩:=z;rfl)|(obtain⟨_,_,_,_,rfl,_⟩:=z;rfl))
  | (unfold Rep at z R
     subst z R;cases rx;cases W;exact is_bool ⟨.bl _,H,I,rfl,q _ H (aI.refl H) cG⟩)
end
structure Fly (P:y8) (w:World) (l:List Env) (H:Hp) (s:Shared) (ρ:Heap) (a:Addr) (cls a0:Value) (H':Hp) (s':Shared):Prop where
 os:s'.os=s.os
 bare:AllBare s'.gens
 un:Un (frs l) [] H H' s.heap s'.heap
 hok:HOk P w H' s'.heap
 fly:Heap.FlyingW ρ l a cls a0 s'.heap
 new:H' a=U
 old:s.heap.get? a=U
 frf:∀b∈frs l,H' b=U
 cov:∀b o,s'.heap.get? b=O o->b∉frs l->((∃u,H' b=O u)\/∃o',s.heap.get? b=O o')->ρ.get? b=O o
def dS(P:y8)(w:World):aq:=λl H s E e s'=>∃a cls a0 ρ H',e=.ref a/\Fly P w l H s ρ a cls a0 H' s'/\E cls U H'
def ZX:∀outer H s e s',dS P w outer H s E0 e s'->False:=λ_ _ _ _ _ ⟨_,_,_,_,_,_,_,h⟩=>h
section
variable {P:y8}{w:World}{l:List Env}{H H':Hp}{s s':Shared}{ρ:Heap}{a:Addr}{cls a0:Value}
def kQ{b:Addr}:∀{o:HO},cY P w H h b o->∃u,h.get? b=O u:=by
 intro o x;cases o with
 |lst xs=>obtain⟨_,_,_,_,e⟩:=x;exact⟨_,e⟩
 |tup xs=>obtain⟨_,_,_,z,e,_⟩:=x;exact⟨_,e⟩
 |dK kvs=>obtain⟨_,_,_,_,o,_,_,e,_⟩:=x;exact⟨_,e⟩
 |dT kvs=>obtain⟨_,_,_,_,o,_,_,e,_⟩:=x;exact⟨_,e⟩
 |set S n=>obtain⟨o,_,_,_,e,_⟩:=x;exact⟨_,e⟩
 |ins C dx fs=>obtain⟨_,_,_,e,_⟩:=x;exact⟨_,e⟩
 |own y=>obtain⟨_,e⟩:=x;exact⟨_,e⟩
 |xd fs=>obtain⟨_,⟨_,_,_,e,_⟩,_⟩:=x;exact⟨_,e⟩
 |rng lo hi=>obtain⟨_,_,_,e⟩:=x;exact⟨_,e⟩
 |frz z u=>obtain⟨e,_⟩:=x;exact⟨_,e⟩
 |tbl ps=>exact⟨_,(show h.get? b=O _ from x)⟩
 |met f y=>exact⟨_,(show h.get? b=O _ from x)⟩
 |ext φ=>obtain⟨_,⟨_,e⟩,_⟩:=x;exact⟨_,e⟩
def uV{fs:List Addr}{h0 h1:Heap}(u:Un fs [] H H' h0 h1)(keep:∀b o,h1.get? b=O o->(∃o',h0.get? b=O o')->b∉fs->h2.get? b=O o) (slot:∀b o,h1.get? b=O o->b∈fs->∃sl,h2.get? b=O {o with slots:=sl}):Un fs [] H H' h0 h2 where
 keep b o e n hb hx:=keep b o (u.keep b o e n hb hx) ⟨o,e⟩ hb
 slot b o e n hb hx:=by obtain⟨sl,e1⟩:=u.slot b o e n hb hx;obtain⟨o5,e2⟩:=slot b _ e1 hb;exact⟨o5,e2⟩
 free:=u.free
 there b o e hx:=by obtain⟨o',e1⟩:=u.there b o e hx;by_cases hb:b∈fs;obtain⟨sl,e2⟩:=slot b _ e1 hb;exact⟨_,e2⟩;exact⟨_,keep b o' e1 ⟨o,e⟩ hb⟩
 tups:=u.tups
 frzs:=u.frzs
 tbls:=u.tbls
def qT{h1:Heap}(ok:HOk P w H h1)(keep:∀b o u,H b=O u->h1.get? b=O o->h2.get? b=O o):HOk P w H h2:=λb u e=>(ok b u e).stay (λc v hc q=>by rcases hc with rfl|hc;exact keep _ v u e q;exact keep _ v _ hc q) (λ_ q=>q) λ_ _ q=>q
def Fly.move(F:Fly P w l H s ρ a cls a0 H' s')(fl:Heap.FlyingW ρ l a cls a0 h2)(up:s'.heap.UpToSlots h2):Fly P w l H s ρ a cls a0 H' {s' with heap:=h2}:=by
 have keep:∀b o,s'.heap.get? b=O o->((∃u,H' b=O u)\/∃o',s.heap.get? b=O o')->b∉frs l->h2.get? b=O o:=λb o e t nb=>fl.1 b o (F.cov b o e nb t);have tr:∀b u,H' b=O u->b∉frs l:=λb u e z=>by rw[F.frf b z]at e;cases e
 refine⟨F.os,F.bare,uV F.un (λb o e t nb=>keep b o e (.inr t) nb) (λb o e hb=>?_),qT F.hok λb o u e q=>keep b o q (.inl ⟨u,e⟩) (tr b u e),fl,F.new,F.old,F.frf,λb o e nb t=>?_⟩;obtain⟨_,W,e2,R⟩:=F.fly.2.2.1.mem hb;rw[e]at e2;cases e2;exact up b o e R;have:∃I,s'.heap.get? b=O I:=by rcases t with ⟨u,e1⟩|⟨o',e1⟩;exact kQ (F.hok b u e1);exact F.un.there b o' e1 Ab
 obtain⟨I,e1⟩:=this;have e2:=keep b I e1 t nb;have e:h2.get? b=O o:=e;rw[e2]at e;cases e;exact F.cov b _ e1 nb t
end
section
variable {X:Cx}{pins:ya}{V:L2.St}{H H':Hp}{s s':Shared}{ρ:Heap}{a:Addr}{cls a0:Value}
def Fly.inv(I:Inv X pins V H s)(F:Fly X.prog X.w X.stack H s ρ a cls a0 H' s'):Inv X pins V H' s':=I.call' F.os F.un F.hok F.bare λb z=>absurd z Ab
theorem Fly.up{env:Env}{outer:List Env}(I:Inv X pins V H s)(jg:X.stack=env::outer)(nt:X.outer=outer)(hex:X.ex=[])(au:env.frame=O X.env.locals)(F:Fly X.prog X.w X.stack H s ρ a cls a0 H' s'){h2:Heap}(fl:Heap.FlyingW ρ outer a cls a0 h2)(up:s'.heap.UpToSlots h2):Fly X.prog X.w outer X.H₀ X.s₀ ρ a cls a0 H' {s' with heap:=h2}:=by
 have æ:=F.inv I;have oo:frs X.stack=X.env.locals::frs outer:=by rw[jg];unfold frs;rw[List.filterMap_cons,au]
 have W:∀b o,X.s₀.heap.get? b=O o->b≠X.env.locals:=λb o e=>wj (ve (vk e) I.ok.above);have tr:∀b u,H' b=O u->b∉frs X.stack:=λb u e z=>by rw[F.frf b z]at e;cases e
 have R:∀b o,X.s₀.heap.get? b=O o->∃o',s.heap.get? b=O o':=λb o e=>I.base.there b o e (by rw[hex];simp);have ns:∀b,b∉frs outer->b≠X.env.locals->b∉frs X.stack:=λb h1 h2 z=>by rw[oo]at z;rcases vo.mp z with z|z;exact h2 z;exact h1 z
 have o3:Un (frs outer) [] X.H₀ H' X.s₀.heap s'.heap:=by have:=æ.base;rw[hex]at this;unfold Cx.fs at this;rw[nt]at this;exact this
 refine⟨æ.os,F.bare,uV o3 (λb o e t nb=>?_) (λb o e hb=>?_),qT F.hok λb o u e q=>fl.1 b o (F.cov b o q (tr b u e) (.inl ⟨u,e⟩)),fl,F.new,?_,λb hb=>F.frf b (by rw[oo];exact v8 _ hb),λb o e nb t=>?_⟩;obtain⟨o',e'⟩:=t;exact fl.1 b o (F.cov b o e (ns b nb (W b o' e')) (.inr (R b o' e')));obtain⟨_,o2,e2,nf⟩:=F.fly.2.2.1.mem (show b∈frs X.stack by rw[oo];exact v8 _ hb);rw[e]at e2;cases e2;exact up b o e nf;cases e:X.s₀.heap.get? a with
 |none=>rfl
 |some o=>obtain⟨o',e'⟩:=R a o e;rw[F.old]at e';cases e'
 have e:h2.get? b=O o:=e;rcases t with ⟨u,e1⟩|⟨o',e1⟩;obtain⟨o1,q⟩:=kQ (F.hok b u e1);have c:=F.cov b o1 q (tr b u e1) (.inl ⟨u,e1⟩);have:=fl.1 b o1 c;rw[e]at this;cases this;exact c;obtain⟨o1,q⟩:=o3.there b o' e1 Ab;have c:=F.cov b o1 q (ns b nb (W b o' e1)) (.inr (R b o' e1));have:=fl.1 b o1 c;rw[e]at this;cases this;exact c
end
noncomputable def j8:List Value:=[.type "ValueError",.type "Exception",.type "BaseException",.type "object"]
noncomputable def lQ(K:xx)(C:Addr)(v:Value):Bool:=match K.lookup C with
 |some ⟨_,_,.cls cd,_⟩=>cd.mro.contains v
 |_=>J
def IX(q:excIn K C j8 "ValueError.__new__"=Y):∃nm R N bs bm hdct sn sub ab col dd k0 k1 k2 k3 k5,K.lookup C=O (excClassObj nm R C N bs bm hdct sn sub ab col dd k0 k1 k2 k3 k5 "ValueError.__new__")/\PySem.W.tailIn K j8 bm=Y/\PySem.W.nsOkIn K N=Y/\nsIn K N "__init__"=O U/\∀v,lQ K C v=(Value.ref C::bm).contains v:=by
 unfold excIn at q;split at q;rename_i dd cd sl ho;split at q;rename_i C' bm k0 k1 k2 k3 n k5 hm hs;simp only[va,wb,not_eq_true']at q;obtain⟨⟨⟨⟨⟨rfl,rfl⟩,z⟩,ht⟩,hok⟩,I⟩:=q;obtain⟨nm,bs,mro,ns,R,hd,sn,sub,ab,col,del⟩:=cd;dsimp only at hm z hok I;subst hm z;have dt:sl=#[k0,k1,k2,k3,O (.builtin "ValueError.__new__"),k5]:=by obtain⟨l⟩:=sl;simp only at hs;rw[hs]
 subst dt;refine⟨nm,R,ns,bs,bm,hd,sn,sub,ab,col,dd,k0,k1,k2,k3,k5,ho,ht,hok,I,λv=>?_⟩;unfold lQ;rw[ho];cases q;cases q
def yA{m:Str}{j:Nat}{p p' q:Pos}{W:Hp->Prop}(hc:X.calm=Y)(hg:Gl X x)(iz:(x == ("__debug__":Str))=J)(hm:X.mg x=O (.ref C))(hx:excIn X.K C j8 "ValueError.__new__"=Y) (hw:∀pins V H s h' e vs,Inv X pins V H s->Heap.MadeExcOf s.heap h' e (.ref C) vs->W H->X.xe (.ref e) {s with heap:=h' }):PS X (.Raise (O (.Call (.Name x p) [.Constant (.str m) j p'] [] q)) U pos) (λD V H=>W H):=by intro pins s V H D I hW;obtain⟨nm,qn,N,bs,bm,hdct,sn,sub,ab,col,dd,k0,k1,k2,k3,k5,ho,ht,hok,R,_⟩:=IX hx;have T:OwnTail s.heap j8 bm:=PySem.W.tail_of_in I.kIn ht;have hN:s.heap.Ns N (s.heap.nsMap N):=.of_isNs (PySem.W.isNs_of_in I.kIn hok);have z:(s.heap.nsMap N) "__init__"=U:=PySem.W.nsMap_none_of_in I.kIn hok R;have hC:=I.kIn _ _ ho;refine wpAny_Raise_call_subT (C:=C) (nm:=nm) (q:=qn) (N:=N) (bs:=bs) (bm:=bm) (hdct:=hdct) (sn:=sn) (sub:=sub) (ab:=ab) (col:=col) (dd:=dd) (k0:=k0) (k1:=k1) (k2:=k2) (k3:=k3) (k5:=k5) PySem.F.excBase_ValueError (mN:=s.heap.nsMap N) (T.hasType PySem.F.excBase_ValueError.hasBase) (I.ok.hd hc) rfl z (dZ I hg hm ⟨rfl,?_⟩ iz);exact Calls.evalArgs_plain (Calls.spliced_cons (Calls.Constant_str (k:=j) (pos:=p') (Calls.spliced_nil ⟨rfl,by show 1<=sizeLine;rw[sizeLine_eq];decide,hC,hN,T,λh' e hm=>hw pins V H {s with toks:=s.toks+1} h' e _ (I.tok _) hm hW⟩)))
section
variable {P:y8}{w:World}{K:xx}{mg:yb}{base:Heap}{N:List Str}{qual:Str}{sc:Scope}{f:Addr}{cd:Value}{A:Around}{outer:List Env}{s:Shared}{H:Hp}{E:XK}
def qJ{s1:Shared}{e:Addr}{cls:Value}(I:Inv (lC (dS P w) P w K mg base N qual sc f cd A outer s H E) pins V H1 s1)(hm:Heap.MadeExcOf s1.heap h' e cls vs)(hE:E cls U H1):(lC (dS P w) P w K mg base N qual sc f cd A outer s H E).xe (.ref e) {s1 with heap:=h' }:=by
 have jg:=I.stack;have au:∀b∈frs (envOfC qual sc s.heap.objs.size f cd::outer),H1 b=U:=I.stkFree;have oo:frs (envOfC qual sc s.heap.objs.size f cd::outer)=s.heap.objs.size::frs outer:=rfl;have tr:∀b u,H1 b=O u->b∉frs (envOfC qual sc s.heap.objs.size f cd::outer):=λb u e z=>by rw[au b z]at e;cases e
 have ns:∀b o,s.heap.get? b=O o->b∉frs outer->b∉frs (envOfC qual sc s.heap.objs.size f cd::outer):=λb o e h1 z=>by rw[oo]at z;rcases vo.mp z with z|z;exact absurd (vk e) (by rw[z];exact wq _);exact h1 z
 have o3:Un (frs outer) [] H H1 s.heap s1.heap:=I.base;refine wpAny_leaves_madeW (base:=hideAll s1.heap (frs (envOfC qual sc s.heap.objs.size f cd::outer))) (L:=s.heap.objs.size) (outer:=outer) I.ok.frames rfl (λb o q=>PySem.W.of_hideAll _ q) (PySem.W.funFrames_hide jg λenv he b hb=>List.mem_filterMap.mpr ⟨env,he,hb⟩) hm λh2 t x1 x2 x3 x4=>⟨e,cls,.ref t,hideAll s1.heap (frs (envOfC qual sc s.heap.objs.size f cd::outer)),H1,rfl,?_,hE⟩;have R:∀b o,s1.heap.get? b=O o->b∉frs (envOfC qual sc s.heap.objs.size f cd::outer)->(hideAll s1.heap (frs (envOfC qual sc s.heap.objs.size f cd::outer))).get? b=O o:=λb o q n=>PySem.W.hideAll_get _ q n;refine⟨I.os,I.bare,uV o3 (λb o e t nb=>?_) (λb o e hb=>?_),qT I.hok λb o u e q=>x1.1 b o (R b o q (tr b u e)),x1,?_,?_,λb hb=>au b (by rw[oo];exact v8 _ hb),λb o e nb t=>?_⟩;obtain⟨o',e'⟩:=t;exact x1.1 b o (R b o e (ns b o' e' nb));obtain⟨_,o2,e2,nf⟩:=jg.mem (show b∈frs (envOfC qual sc s.heap.objs.size f cd::outer) by rw[oo];exact v8 _ hb);rw[e]at e2;cases e2;exact x4 b o (hm.keeps b o e) nf;cases q:H1 e with
 |none=>rfl
 |some u=>obtain⟨o,q2⟩:=kQ (I.hok e u q);rw[hm.new]at q2;cases q2
 cases q:s.heap.get? e with
 |none=>rfl
 |some u=>obtain⟨o,q2⟩:=o3.there e u q Ab;rw[hm.new]at q2;cases q2
 have e:h2.get? b=O o:=e;rcases t with ⟨u,e1⟩|⟨o',e1⟩;obtain⟨o1,q⟩:=kQ (I.hok b u e1);have c:=R b o1 q (tr b u e1);have:=x1.1 b o1 c;rw[e]at this;cases this;exact c;obtain⟨o1,q⟩:=o3.there b o' e1 Ab;have c:=R b o1 q (ns b o' e1 nb);have:=x1.1 b o1 c;rw[e]at this;cases this;exact c
def DV{E1:XK}(hE:∀cls H',E1 cls U H'->E cls U H'):iG (dS P w) (lC (dS P w) P w K mg base N qual sc f cd A outer s H E) E1:=by rintro pins V H1 s1 e s' I ⟨a,cls,a0,ρ,H',rfl,F,q⟩;exact wpAny_leaves_onW (L:=s.heap.objs.size) (outer:=outer) I.ok.frames rfl F.fly λh2 R z=>⟨a,cls,a0,ρ,H',rfl,Fly.up (env:=envOfC qual sc s.heap.objs.size f cd) I rfl rfl rfl rfl F R z,hE _ _ q⟩
end
abbrev iM(X:Cx)(a:Addr):Cx:={X with A:=X.A.mark (O (.ref a)),calm:=J,xe:=λ_ _=>False}
section
variable {X:Cx}{pins:ya}{V:L2.St}{H H':Hp}{s s':Shared}{ρ:Heap}{a:Addr}{cls a0:Value}
def aBV(ok:X.Ok)(a:Addr):(iM X a).Ok:=⟨ok.mod,ok.kind,ok.glob,ok.blt,ok.above,ok.inj,ok.has,ok.cab,(λz=>by cases z),ok.frames,ok.stk,ok.exf,ok.bs,ok.bsz,ok.noex,ok.exfs,ok.funs,ok.frf⟩
def EL(I:Inv X pins V H s)(a:Addr):Inv (iM X a) pins V H s:=⟨aBV I.ok a,I.os,I.bare,I.base,I.loc,I.cell,I.free,I.freeC,I.pin,I.hok,I.len⟩
def HR(ok:X.Ok)(I:Inv (iM X a) pins V H s):Inv X pins V H s:=⟨ok,I.os,I.bare,I.base,I.loc,I.cell,I.free,I.freeC,I.pin,I.hok,I.len⟩
def XA{t:Nat}{m':yb}(I:Inv X pins V H s)(hn:h'.Ns X.env.locals m')(hs:Heap.SameBut X.env.locals s.heap h'):Inv X pins (List.replicate X.N.length U) H {s with heap:=h',toks:=t}:=by
 obtain⟨m,W,hl⟩:=id I.loc;obtain⟨oL,_,_,hoL,_⟩:=id W;have cne:=I.cne;have old:∀b o,X.s₀.heap.get? b=O o->b≠X.env.locals:=λb o e=>wj (ve (vk e) I.ok.above);have R:HOk X.prog X.w H h':=λb ob e=>by refine(I.hok b ob e).stay (λc w' hc q=>(hs.2 c ?_).trans q) (λ_ q=>q) λ_ _ q=>q;rintro rfl;rcases hc with hc|hc;rw[<-hc,I.free]at e;cases e;rw[I.free]at hc;cases hc
 refine⟨I.ok,I.os,I.bare,⟨λb o e n hb hx=>?_,λb o e n hb hx=>?_,I.base.free,λb o e hx=>?_,I.base.tups,I.base.frzs,I.base.tbls⟩,⟨m',hn,λj y v' e1 e2 e3=>?_⟩,λy c e=>?_,I.free,I.freeC,λp hp=>?_,R,Ab⟩;exact(hs.2 b (old b o e)).trans (I.base.keep b o e n hb hx);obtain⟨sl,e1⟩:=I.base.slot b o e n hb hx;exact⟨sl,(hs.2 b (old b o e)).trans e1⟩;obtain⟨o',e1⟩:=I.base.there b o e hx;exact⟨o',(hs.2 b (old b o e)).trans e1⟩;rw[getElem?_replicate]at e2;split at e2<;>cases e2
 obtain⟨w',z⟩:=I.cell y c e;exact⟨w',z.sameBut hs (cne y c e)⟩;obtain⟨e,n,ne,nf,d⟩:=I.pin p hp;exact⟨(hs.2 p.1 ne).trans e,n,ne,nf,d⟩
def NA{t:Nat}{n:Str}{w:Option Value}{m:yb}(I:Inv X pins V H s)(hN:X.N.Nodup)(hi:X.N[i]?=O n)(hl:∀(i:Nat) (x:Str) (v:σ),X.N[i]?=O x->V[i]?=O (O v)->uh X.env.scope x->∃u,RelV v u/\Look X.env s.heap m x u)(hn:h'.Ns X.env.locals λx=>if x=n then w else m x)(hs:Heap.SameBut X.env.locals s.heap h'):Inv X pins (V.set i U) H {s with heap:=h',toks:=t}:=by
 have R:=XA (t:=t) I hn hs;refine⟨R.ok,R.os,R.bare,R.base,⟨_,hn,λj y v e1 e2 e3=>?_⟩,R.cell,R.free,R.freeC,R.pin,R.hok,by simpa using I.len⟩;have ne:j≠i:=by
  rintro rfl;have hj:j<V.length:=by simpa using (u0.mp e2).1
  rw[vi hj]at e2;cases e2
 rw[vj (Ne.symm ne)]at e2;obtain⟨u,r,q⟩:=hl j y v e1 e2 e3;refine⟨u,r,?_⟩;rcases q with ⟨k1,k2⟩|⟨k1,c,k2,k3⟩;refine .inl ⟨k1,?_⟩;have f9:y≠n:=by rintro rfl;obtain⟨a1,W⟩:=u0.mp e1;obtain⟨a2,b2⟩:=u0.mp hi;rcases Nat.lt_or_gt_of_ne ne with z|z;exact List.pairwise_iff_getElem.mp hN _ _ a1 a2 z (W.trans b2.symm);exact List.pairwise_iff_getElem.mp hN _ _ a2 a1 z (b2.trans W.symm)
 show (if y=n then w else m y)=O u;rw[if_neg f9];exact k2;exact .inr ⟨k1,c,k2,k3.sameBut hs (I.cne y c k2)⟩
def aGU{Q:Unit->Shared->Prop}{n:Str}(I:Inv X pins V H s)(hN:X.N.Nodup)(hi:X.N[i]?=O n)(z:X.env.kindOf n=O .local)(gm:(X.env.scope.kind == .class || (X.env.scope.kind == .module&&X.env.locals != X.env.globals))=J)
  (hq:∀s',Inv X pins (V.set i U) H s'->Q () s'):wpAny M A (do bindName X.env n Value.none;unbindBehindTheSuite X.env n pos) Q E s:=by
 unfold bindName;refine wt (wt (wpAny_holding (wpAny_point (wt (mC (v:=.non) I hN hi (.inl z) rfl (λs1 I1=>wpAny_point ?_) (.inr z))))));have cw:i<V.length:=by rw[I.len];exact(u0.mp hi).1
 obtain⟨m,hn,hl⟩:=id I1.loc;obtain⟨u,_,q⟩:=hl i n .non hi (vi cw) (.inl z);have hm:m n=O u:=by rcases q with ⟨_,q⟩|⟨q,_⟩;exact q;rw[z]at q;rcases q with q|q<;>cases q
 unfold unbindBehindTheSuite;refine wpAny_onRaise ?_;unfold unbindName;refine wt (wpAny_point (wt ?_));unfold deleteName;simp only[z,gm,v7,if_false];refine wt (wpAny_nsDel_keeps hn λh' w W R=>?_);rw[hm];simp only[isSome_some,vv,v7,if_false];refine wu (wpAny_point ?_);have:=NA (t:=s1.toks) I1 hN hi hl W R;rw[List.set_set]at this;exact hq _ this
def isExc(a C:Addr)(h:Heap):Prop:=∃o,h.get? a=O o/\o.cls=.ref C
def Fly.track(I:Inv X pins V H s)(F:Fly X.prog X.w X.stack H s ρ a (.ref C) a0 H' s'):Inv X pins V (upd H' a (.ext (isExc a C))) s':=by
 obtain⟨o,ho,hc⟩:=F.fly.there;have ne:∀b u,H' b=O u->b≠a:=λb u e z=>by rw[z,F.new]at e;cases e
 refine I.call' (H':=upd H' a (.ext (isExc a C))) F.os (ch:=[]) ?_ ?_ F.bare λb z=>absurd z Ab;refine⟨F.un.keep,F.un.slot,λb o e n hx=>?_,F.un.there,λb xs e=>?_,λb o u e=>?_,λb ps e=>?_⟩;rw[aK λz=>by rw[z,F.old]at e;cases e];exact F.un.free b o e n hx;have:=F.un.tups b xs e;rw[aK (ne b _ this)];exact this;have:=F.un.frzs b o u e;rw[aK (ne b _ this)];exact this;obtain⟨more,this⟩:=F.un.tbls b ps e;exact⟨more,by rw[aK (ne b _ this)];exact this⟩;intro b u e;by_cases hb:b=a;subst hb;rw[aL]at e;cases e;exact⟨⟨o,ho,hc⟩,⟨o,ho⟩,λh1 h2 ⟨R,e1,W⟩ k=>⟨R,k R e1,W⟩⟩;rw[aK hb]at e;refine(F.hok b u e).stay (λ_ _ _ q=>q) (λc q=>?_) λc xs q=>?_;rw[aK (ne c _ q)];exact q;rw[aK (ne c _ q)];exact q
end
section
variable {M:Model}{A:Around}{E:y9}{h:Heap}{g:Array GenState}{d:Drawn}{t:Nat}{os:OsState}
variable {nm q:Str}{C N:Addr}{bs bm:List Value}{hdct:Bool}{sn:List Str}{sub:List Value}{ab:Bool}{col:Option Bool}{dd:Option Addr}{k0 k1 k2 k3 k5:Option Value}{newId:String}
variable {nm' q':Str}{L N':Addr}{bs' bm':List Value}{hdct':Bool}{sn':List Str}{sub':List Value}{ab':Bool}{col':Option Bool}{ot:Option Addr}{k0' qv k2' k3' k5':Option Value}{newId':String}
def rB{e:Addr}{R:Obj}{Q:Bool->Shared->Prop}(hC:h.get? C=O (excClassObj nm q C N bs bm hdct sn sub ab col dd k0 k1 k2 k3 k5 newId))(W:h.get? L=O (excClassObj nm' q' L N' bs' bm' hdct' sn' sub' ab' col' ot k0' qv k2' k3' k5' newId'))(he:h.get? e=O R)(gm:R.cls=.ref C)(z:bm'.contains (.type "BaseException")=Y) (hs:(Value.ref C::bm).contains (.ref L)=Y) (hq:Q Y ⟨h,g,d,t,os⟩):wpAny M A (excMatches (.ref e) (.ref L)) Q E ⟨h,g,d,t,os⟩:=by
 have I:(Value.ref L::bm').contains (.type "BaseException")=Y:=by rw[List.contains_cons,z,Bool.or_true]
 have f:=tc_notTuple;unfold excMatches;repeat (first|(with_reducible refine wpAny_loadPart_at he ?_;rw[gm])|with_reducible refine wpAny_loadPart_at W ?_|(with_reducible refine wpAny_isSubtype_exc W ?_;rw[I])|(with_reducible refine wpAny_isSubtype_exc hC ?_;rw[hs])|wp_step)
 exact hq
end
section
variable {X:Cx}{pins:ya}{V:L2.St}{H H':Hp}{s s':Shared}{ρ:Heap}{a C L:Addr}{a0:Value}{x:Str}{np hp:Pos}{b₀:Stmt}{suite:List Stmt}{rest:List ExceptHandler}{rt:VK}
def YJ{D:Ends}{n:Str}(I:Inv X pins V H s)(F:Fly X.prog X.w X.stack H s ρ a (.ref C) a0 H' s')(jg:X.stack=X.env::X.outer)(hf:X.env.frame=O X.env.locals)(hC:excIn X.K C j8 "ValueError.__new__"=Y)(hL:excIn X.K L j8 "ValueError.__new__"=Y)(vX:lQ X.K C (.ref L)=Y) (hg:Gl X x) (iz:(x == ("__debug__":Str))=J) (hm:X.mg x=O (.ref L)) (hN:X.N.Nodup) (hi:X.N[i]?=O n) (jx:X.env.kindOf n=O .local) (hs:PSs (iM X a) (b₀::suite) (λD' V' mh=>D'={nx:=λV H=>D.nx (V.set i U) H,rt:=λ_ _=>False}/\V'=V.set i (O (.ref a))/\mh=upd H' a (.ext (isExc a C)))):wpAny (model X.prog X.w) X.A (noteFrame (.ref a) X.env) (λ_ s₂=>wpAny (model X.prog X.w) X.A (setFlight (.ref a) U) (λ_ s₃=>wpAny (model X.prog X.w) X.A (handleBy (.ref a) X.env (.ExceptHandler (O (.Name x np)) (O n) (b₀::suite) hp::rest)) (SP X pins D) X.xe s₃) X.xe s₂) X.xe s':=by
 refine wpAny_looks_onW (env:=X.env) (outer:=X.outer) (L:=X.env.locals) (by rw[<-jg];exact I.ok.frames) hf (by rw[<-jg];exact F.fly) λh₄ held up4=>?_;refine wpAny_landsW held λh₅ fl5 up5=>?_;have F5:=F.move (h2:=h₅) (by rw[jg];exact fl5) (up4.trans up5);have I5:=F5.inv I;refine wpAny_handleBy_cons (codeAny_handlers_test ?_) (by intro q;cases q);refine dZ (X:=iM X a) (EL I5 a) hg hm ?_ iz;obtain⟨nm1,qn1,N1,bs1,bm1,hdct1,sn1,sub1,ab1,col1,dd1,c0,c1,c2,c3,c5,la,ht1,_,_,mr1⟩:=IX hC;obtain⟨nm2,qn2,N2,bs2,bm2,hdct2,sn2,sub2,ab2,col2,oq,d0,d1,d2,d3,d5,dy,ht2,_,_,mr2⟩:=IX hL;obtain⟨oe,hoe,hoc⟩:=fl5.there;refine rB (I5.kIn _ _ la) (I5.kIn _ _ dy) hoe hoc ((PySem.W.tail_of_in I5.kIn ht2).hasType z9) (by rw[<-mr1];exact vX) ?_;refine codeAny_handlers_suite_as (lands_againW fl5 λh₆ fl6 up6=>?_);have F6:=F5.move (h2:=h₆) (by rw[jg];exact fl6) up6;have I6:=F6.track I;have gm:(X.env.scope.kind == .class || (X.env.scope.kind == .module&&X.env.locals != X.env.globals))=J:=by rw[I.ok.kind];rfl
 refine mC (X:=iM X a) (v:=.ref a) (EL I6 a) hN hi (.inl jx) rfl (λs₇ I7=>?_) (.inr jx);refine wx (hs pins _ _ _ _ I7 ⟨rfl,rfl,rfl⟩) (λf s₈ R=>?_) λ_ _ z=>z.elim;cases f with
 |next=>obtain⟨V',H9,I9,q⟩:=R;exact aGU (HR I.ok I9) hN hi jx gm λs9 I10=>⟨_,H9,I10,q⟩
 |brk=>obtain⟨_,_,_,z⟩:=R;exact z.elim
 |cont=>obtain⟨_,_,_,z⟩:=R;exact z.elim
 |ret u=>obtain⟨_,_,_,_,_,z⟩:=R;exact z.elim
end
structure RoomM (k:Nat) (A:Around):Prop where
 dp:A.depth+3*k+5<recursionLimit
 un:A.units+16*k+200<cLine
def ZF{k:Nat}(r:Room k A):RoomM k A:=⟨r.dp,r.un⟩
def RoomM.mono{j k:Nat}(r:RoomM k A)(h:j<=k):RoomM j A:=⟨by have:=r.dp;lia,by have:=r.un;lia⟩
def RoomM.under{k:Nat}(r:RoomM (k+1) A)(env:Env):RoomM k (A.deeper env):=⟨by have z:=r.dp;show A.depth+1+3*k+5<_;lia,by have z:=r.un;show A.units+3+16*k+200<_;lia⟩
structure oy (P:y8) (w:World) (K:xx) (mg:yb) (base:Heap) (k:Nat) (f:Addr) (fd:y7) (ps:List Str) (sp:Sp):Prop where
 len:∀vs H Q,sp vs H Q E0->vs.length=ps.length
 run:∀(A:Around) (outer:List Env) (s:Shared) (H:Hp) (args:Args) (us:List Value) (vs:List σ) (Q:VK),RoomM k A->Env0 P w K mg base A outer s H->BindsTo s fd args (ps.zip us)->aX vs us->sp vs H Q E0 ->
  codeAny (model P w) A (.call (.ref f) args) (CR oz outer P w H s Q E0) s
def cxM(P:y8)(w:World)(K:xx)(mg:yb)(base:Heap)(N:List Str)(qual:Str)(sc:Scope)(f:Addr)(cd:Value)(A:Around)(outer:List Env)(s:Shared)(H:Hp):Cx:={lC oz P w K mg base N qual sc f cd A outer s H E0 with calm:=J,xe:=λ_ _=>False}
def IK(e:Env0 P w K mg base A outer s H):Env0 P w K mg base {A with handled:=U} outer s H:=⟨e.frames,e.mod,e.bs,e.bsz,e.funs,e.frf,e.hok,e.bare⟩
def MY{N:List Str}{qual:Str}{cd:Value}{s1:Shared} (au:A.frames=O outer) (I:Inv (lC oz P w K mg base N qual sc f cd {A with handled:=U} outer s H E0) [] V H s1):Inv (cxM P w K mg base N qual sc f cd A outer s H) [] V H s1:=⟨⟨I.ok.mod,I.ok.kind,I.ok.glob,I.ok.blt,I.ok.above,I.ok.inj,I.ok.has,I.ok.cab,(λz=>by cases z),Around.frames_deeper au,I.ok.stk,I.ok.exf,I.ok.bs,I.ok.bsz,I.ok.noex,I.ok.exfs,I.ok.funs,I.ok.frf⟩,I.os,I.bare,I.base,I.loc,I.cell,I.free,I.freeC,I.pin,I.hok,I.len⟩
def aCQ{k:Nat}{qual:Str}{st:Stmt}{N:List Str}(F:Fun K x qual st f fd)(fs:af N ps (aE st))(len:∀vs H Q,sp vs H Q E0->vs.length=ps.length) (hb:∀(cd:Value) (A:Around) (outer:List Env) (s:Shared) (H:Hp) (vs:List σ) (Q:VK),RoomM k (A.deeper (envOfC qual (aE st) s.heap.objs.size f cd))->sp vs H Q E0 ->∃t,PSs (cxM P w K mg base N qual (aE st) f cd A outer s H) (bA st) t/\t {nx:=λ_ H'=>Q .non H',rt:=Q} (L2.start N vs) H):oy P w K mg base (k+1) f fd ps sp:=by
 obtain⟨oc,od,kV,doc,pm,an,aT,ct,k8,rfl,lk,fw⟩:=F.ex;refine⟨len,λA outer s H args us vs Q hr R jn r ax=>?_⟩;have hl:=len _ _ _ ax;have kin:K.In s.heap:=R.mod.kin.keeps λb o e=>(R.bs b o e).1;have lim:s.heap.NoLimit:=R.mod.nolimit.keeps λb o e=>(R.bs b o e).1;refine codeAny_call_function (by have:=hr.dp;lia) (kin _ _ lk) rfl fs.co fs.gen rfl (PySem.W.codeRec_of kin fw) (jn _ _ _ _ ?_);refine wpAny_newFunctionEnv_cells fs.kind ?_ λenv he s1 y=>?_;rintro⟨n,v⟩ hy;rcases fs.par n (of_mem_zip hy).1 with q|q;exact Or.inl q;exact Or.inr ⟨q,cellsFrom_some _ _ _ (Or.inl q)⟩;subst he;refine⟨lim.keeps y.toInCall.keep,codeAny_func ?_⟩;obtain⟨t,ht,hq⟩:=hb aT A outer s H vs Q (hr.under _) ax;have I:=MY R.frames (sZ (A:={A with handled:=U}) fs rfl (IK R) hl r y);refine wx (ht [] s1 _ H _ I hq) (λfl s' hs=>?_) λe s' z=>z.elim;cases fl with
 |ret u=>obtain⟨v,V',H',æ,rv,q⟩:=hs;exact⟨v,H',æ.os,æ.bare,æ.base,æ.hok,rv,q⟩
 |next=>obtain⟨V',H',æ,q⟩:=hs;exact⟨.non,H',æ.os,æ.bare,æ.base,æ.hok,rfl,q⟩
 |brk=>obtain⟨_,_,_,q⟩:=hs;exact q.elim
 |cont=>obtain⟨_,_,_,q⟩:=hs;exact q.elim
def LC{k:Nat}{p:Pos}{t:TA}(F:oy X.prog X.w X.K X.mg X.base k f fd ps sp)(hr:RoomM k X.A)(hg:Gl X x)(hm:X.mg x=O (.ref f))(hk:keepIn X.K (.ref f)=Y)(hb:Binds X.K fd ps []) (ha:PA X (e::es) t) (iz:(x == ("__debug__":Str))=J) (he:starEach (e::es) X.env=(J,eval e X.env)::starEach es X.env) (W:(backTo pos (starEach es X.env)).any (·.1)=J):PE X (.Call (.Name x p) (e::es) [] pos) (xJ sp [] E0 t):=by
 intro pins s V H Q I h;refine wpAny_Call_Name_kw (dZ I hg hm ?_ iz);refine callWith_K (h₀:=X.base) I.ok.mod.kin hk (ai (ha pos pins s V H _ I h) λus s1 hh=>?_) he W;obtain⟨vs,H1,I1,r,q⟩:=hh;refine⟨I1.kIn,?_⟩;rw[vx]at q;have hl:(us++[]).length=ps.length:=by rw[vx,<-r.length];exact F.len _ _ _ q
 have z:=hb s1 us I1.kIn hl;rw[vx]at z;refine wpAny_call (codeAny_mono (F.run X.A X.stack s1 H1 ⟨us,[]⟩ us vs Q hr I1.env0 z r q) λR s2 hq=>?_);cases R with
 |error e=>exact hq.elim
 |ok fl=>
  cases fl with
  |ret u=>exact I1.after hq
  |next=>exact hq.elim
  |brk=>exact hq.elim
  |cont=>exact hq.elim
structure XcK (K:xx) (C:Addr):Prop where
 ga:findIn K (.ref C) "__getattribute__"=O (O (.builtin "BaseException.__getattribute__"))
 gn:findIn K (.ref C) "__getattr__"=O U
 ha:findIn K (.ref C) "__class__"=O (O (.builtin "object.__class__"))
 hn:specialIn K (.builtin "object.__class__") "__get__"=O (O (.builtin "getset_descriptor.__get__"))
 tk:takesIn K (.builtin "object.__class__")=O Y
 hm:mroIn K C (.type "object")=O Y
 hb:mroIn K C (.type "BaseException")=O Y
def XcK.cl(F:XcK K C):(PySem.W.clsIn K C).isSome=Y:=by have h:=F.hm;unfold mroIn at h;obtain⟨cd,h1,_⟩:=u6.mp h;rw[h1];rfl
section
open PySem.W PySem.Builtin PySem.Builtin.ObjectAttr PySem.Builtin.Getset_descriptor
variable {K:xx}{x C:Addr}
def rA(p:isExc x C h):Looks M h (typeOf (.ref x)) (.ref C):=by obtain⟨o,e,c⟩:=p;exact c ▸ (Looks.ld e).andThen .now
def QW(k:K.In h)(z:(clsIn K C).isSome=Y):(∃c d cd sl,h.get? C=O ⟨c,d,.cls cd,sl⟩)/\∀M:Model,Looks M h (isType (.ref C)) Y:=by unfold clsIn at z;split at z;rename_i c d cd sl ho;refine⟨⟨c,d,cd,sl,k _ _ ho⟩,λM A Q E s kk q=>?_⟩;unfold isType loadHead;exact wt (wpAny_loadPart (kk _ _ (k _ _ ho)) (wu q));cases z
def XX{R:Result->Shared->Prop}{tp:Value}(F:XcK K C)(k:K.In s.heap)(p:isExc x C s.heap)(q:R (.ok (.ret (.ref C))) s):codeAny (model prog w) A (.call (.builtin "getset_descriptor.__get__") ⟨[.builtin "object.__class__",.ref x,tp],[]⟩) R s:=by
 obtain⟨hp,gs,dr,z,I⟩:=s;have lt:Looks (model prog w) hp (typeOf (.ref x)) (.ref C):=rA p;have W:=looks_mroIn (M:=model prog w) k F.hm;refine codeAny_call_builtin KF.slot_gs.plain KF.entry_gs (KF.slot_gs.check _ _ _ _ _ _ _ _ KF.type_class (KF.args_gs _ _ _) ?_);unfold Builtin.«getset_descriptor.__get__»;unfold descrGet;rw[dga_obj];refine wt (wu ?_);unfold descrGetter;unfold descrCheckInstance descrNameAndClass;unfold isInstance;simp only[KF.owner_class];repeat lk
 refine⟨Code.quiet_builtin _ z9,?_⟩;refine codeAny_builtin KF.entry_class ?_;unfold Builtin.«object.__class__»;unfold shownTypeOf;repeat lk
 exact q
def II{tk:Tok}{Q:Fin->Shared->Prop}(F:XcK K C)(k:K.In s.heap)(p:isExc x C s.heap)(q:Q (.done (.ret (.ref C))) s):wpAny (model prog w) A (Builtin.«object.__getattribute__» ⟨[.ref x,.str "__class__" tk],[]⟩) Q E s:=by obtain⟨hp,gs,dr,I,W⟩:=s;have lt:Looks (model prog w) hp (typeOf (.ref x)) (.ref C):=rA p;have lf:Looks (model prog w) hp (find (.ref x) (.ref C) "__class__") (.bind (.builtin "getset_descriptor.__get__") (.builtin "object.__class__")):=(looks_findIn k F.ha).andThen ((looks_specialIn k F.hn).andThen ((show Looks (model prog w) hp (dataDescriptor? (O (.builtin "object.__class__")) (O (.builtin "getset_descriptor.__get__"))) (O (.builtin "getset_descriptor.__get__",.builtin "object.__class__")) from(looks_takesIn k F.tk).andThen .now).andThen (Looks.tag .now)));unfold Builtin.«object.__getattribute__»;refine wt (wpAny_of_eq (a:=(Value.ref x,[Value.str "__class__" tk])) (by rfl) ?_);refine wt (wu (wt (lt.at (wt (lf.at ?_)))));show wpAny _ _ (holding [Value.builtin "object.__class__"] (call (.builtin "getset_descriptor.__get__") [.builtin "object.__class__",.ref x,.ref C]) >>= ret) _ _ _;exact wt (wpAny_holding (wx (wpAny_call (XX (R:=λr s'=>match r with | .ok (.ret v)=>Q (.done (.ret v)) s' | .ok _=>False | .error e=>E e s') F k p (tp:=.ref C) q)) (λv s' z=>wu z) λ_ _ z=>z))
def IJ{v:Value}{Q:Unit->Shared->Prop}(F:XcK K C)(k:K.In s.heap)(p:isExc x C s.heap)(q:Q () s):wpAny M A (checkBuiltinCall "BaseException.__getattribute__" ⟨[.ref x,v],[]⟩) Q E s:=by
 obtain⟨hp,gs,dr,z,I⟩:=s;have lt:Looks M hp (typeOf (.ref x)) (.ref C):=rA p;have R:=looks_mroIn (M:=M) k F.hb;have hk:builtinKind "BaseException.__getattribute__"=O .slot:=z9
 have ax:splitId "BaseException.__getattribute__"=O ("BaseException","__getattribute__"):=z9
 have W:=PySem.F.args_bexc_ga (.ref x) v;simp only[checkBuiltinCall,hk,ax];refine wt ?_;unfold isInstance;refine wt (lt.at (R.at ?_));simp only[vv,v7,if_false];repeat wp_step
 exact q
def XY{Q:Option Value->Shared->Prop}(F:XcK K C)(k:K.In s.heap)(p:isExc x C s.heap)(q:Q (O (.ref C)) {s with toks:=s.toks+1}):wpAny (model prog w) A (getAttr? (.ref x) "__class__") Q E s:=by
 obtain⟨hp,gs,dr,R,W⟩:=s;have lt:Looks (model prog w) hp (typeOf (.ref x)) (.ref C):=rA p;have lg:=looks_findIn (M:=model prog w) k F.ga;have lh:=looks_findIn (M:=model prog w) k F.gn;have lb:=looks_mroIn (M:=model prog w) k F.hb;have hx2:(Value.builtin "BaseException.__getattribute__" == Value.builtin "object.__getattribute__")=J:=z9
 have hk:builtinKind "BaseException.__getattribute__"=O .slot:=z9
 have ax:splitId "BaseException.__getattribute__"=O ("BaseException","__getattribute__"):=z9
 unfold getAttr? getAttrBy? getAttrBy;refine wt (wpAny_mkText (wt (wpAny_attempt (wpAny_holding (wt (lt.at (wt (lg.at ?_))))))));dsimp only;rw[hx2,Bool.and_false,if_neg Aa];unfold getAttrByItsOwn hookBefore;refine wt ?_;rw[if_pos (show onTheHeap (Value.ref C)=Y from rfl)];refine lh.at ?_;refine wt (wpAny_attempt (wpAny_holding ?_));unfold callGetattribute;rw[Bool.false_and,if_neg Aa];unfold boundAndCalled;refine wt (wpAny_of_eq (PySem.F.attrBase_ValueError.ga.bind (.ref x)) ?_);refine wpAny_call (codeAny_call_builtin PySem.F.attrBase_ValueError.ga.plain PySem.F.entry_bexc_ga ?_);refine IJ F k p ?_;refine wx (II (Q:=λI s'=>I=.done (.ret (.ref C))/\s'=⟨hp,gs,dr,R+1,W⟩) (E:=λ_ _=>False) F k p ⟨rfl,rfl⟩) (λI s' z=>?_) λ_ _ z=>z.elim;obtain⟨rfl,rfl⟩:=z;exact handed_on rfl (wu q)
def MP(F:XcK K C):KitX K (.ref x) (.ref C) (isExc x C) where
 ty:=λ_ _ _ p=>rA p
 it:=λM _ k _=>(QW k F.cl).2 M
 ne:=λh tp dd its n sl k htp=>by
  obtain⟨⟨c,d,cd,sl',e⟩,_⟩:=QW k F.cl;refine Bool.eq_false_iff.mpr λq=>?_
  have ee:C=tp:=Value.ref.inj (wb.mp q)
  rw[ee,htp]at e;cases e
 ca:=λk p q=>XY F k p q
end
def uQ(K:xx)(T:Tx)(S:Addr->Prop)(H H':Hp)(d:D)(v:σ):Prop:=(∀ds,d=.lst ds->∃p xs,v=.ref p/\H p=U/\H' p=O (.lst xs)/\aC K T (er H' p) S ds xs) /\∀a b,d=.tup [.lst a,.lst b]->∃p I z xs ys,v=.ref p/\SqT K H' p [.ref I,.ref z]/\(p≠I/\p≠z)/\I≠z/\(H I=U/\H z=U)/\H' I=O (.lst xs)/\H' z=O (.lst ys)/\aC K T (er (er H' I) z) S a xs/\aC K T (er (er H' I) z) S b ys
def i6(K:xx)(T:Tx)(n:Nat)(f:List D->Option Rs)(fr:Bool):Sp:=λvs H Q E=>vs.length=n/\∃(S:Addr->Prop) (ds:List D),(∀a,S a->∃o,H a=O o)/\aC K T H S ds vs /\((∃d,f ds=O (.ok d)/\∀v H',aI H H'->Rep K T H' S d v->(fr=Y->uQ K T S H H' d v)->Q v H') \/(∃c C,f ds=O (.er c)/\T.xc c=O C/\∀H',aI H H'->E (.ref C) U H'))
def aAW(K:xx)(T:Tx)(C:Addr)(n:Nat)(g:List D->Option Rs):Sp:=λvs H Q _=>vs.length=n/\∃(p dx:Addr) (ws:List σ) (S:Addr->Prop) (ds:List D) (d:D),vs=.ref p::ws/\H p=O (.ins C dx [])/\S p/\(∀a,S a->∃o,H a=O o) /\aC K T H S ds ws/\g ds=O (.ok d)/\∀H',(∀b o,b≠p->H b=O o->H' b=O o)->(∀S':Addr->Prop,(∀a,S' a->S a/\a≠p)->Rep K T H' S' d (.ref p))->Q .non H'
noncomputable def gH:List Str:=["len","int","list","tuple","max","min","str","sorted","any","range","reversed","enumerate","isinstance","bool","ValueError"]
def qh(C:Addr)(x:Str):Sp:=λvs H Q _=>∃a,vs=[.ref a]/\H a=O (.ext (isExc a C))/\∀H',aI H H'->Q (.str x) H'
def RP(X:Cx)(T:Tx)(a:Addr)(kvs:List (Str×D)):Prop:=(a == sysModules)=J/\∃o vs,X.K.lookup a=O o/\o.IsDictOf (bX X.prog X.w) vs/\(∀k,(valueAt vs (Sum.inr k)).isSome=(kvs.lookup k).isSome) /\∀k d u,kvs.lookup k=O d->valueAt vs (Sum.inr k)=O u->∃v,RelV v u/\∀(H:Hp) (S:Addr->Prop),(∀a o,X.K.lookup a=O o->H a=U)->(∀a,S a->∃o,H a=O o)->Rep X.K T H S d v
structure qg (CX:aq) (X:Cx) (c:CC) (G:GS) (T:Tx) (lv:Nat):Prop where
 fn:∀x,c.fns.contains x=Y->∃f fd ps,X.mg x=O (.ref f)/\keepIn X.K (.ref f)=Y/\Binds X.K fd ps []/\(∀ds r,G.fn x ds=O r->ds.length=ps.length) /\
  FnOk X.prog X.w X.K X.mg X.base CX lv f fd ps (i6 X.K T ps.length (G.fn x) (G.ff x))
 me:∀cn C m ds r,T.cl cn=O C->G.me cn m ds=O r->∃f fd ps,jr X.K C m f/\Binds X.K fd ps []/\(∀ds r,G.me cn m ds=O r->ds.length=ps.length) /\
  FnOk X.prog X.w X.K X.mg X.base CX lv f fd ps (i6 X.K T ps.length (G.me cn m) (G.mf cn m))
 cls:∀cn C,T.cl cn=O C->Cls X.K C
 fld:∀cn C f,T.cl cn=O C->(G.fl cn).contains f=Y->eV X.K C f
 mo:∀x,c.cls.contains x=Y->∀ds d,G.mo x ds=O (.ok d)->∃C f fd ps j,j+1<=lv/\X.mg x=O (.ref C)/\Mk X.K C f/\Binds X.K fd ps []/\ds.length+1=ps.length /\
  FnOk X.prog X.w X.K X.mg X.base CX j f fd ps (aAW X.K T C ps.length (G.mo x))
 cst:∀x d,G.cst x=O d->c.csts.contains x=Y->∃u v,X.mg x=O u/\RelV v u/\∀(H:Hp) (S:Addr->Prop),(∀a o,X.K.lookup a=O o->H a=U)->(∀a,S a->∃o,H a=O o)->Rep X.K T H S d v
 bi:∀x,gH.contains x=Y->c.fns.contains x=J->c.cls.contains x=J->X.mg x=U
 xcl:∀x C,T.xc x=O C->X.mg x=O (.ref C)
 frs:∀x,c.fresh.contains x=Y->G.ff x=Y/\∀cn,G.mf cn x=Y
 cx0:∀outer H s e s',CX outer H s E0 e s'->False
 cxf:∀outer H s E e s',CX outer H s E e s'->dS X.prog X.w outer H s E e s'
 xns:∀k,G.xn k=Y->∃C,T.xc k=O C
 xk:∀k C,T.xc k=O C->excIn X.K C j8 "ValueError.__new__"=Y
 sub:∀k k' C C',T.xc k=O C->T.xc k'=O C'->G.sub k k'=Y->lQ X.K C (.ref C')=Y
 wd:∀f k x C,T.xc k=O C->G.wd f k=O x->∃fa fd ps j,j<=lv/\X.mg f=O (.ref fa)/\keepIn X.K (.ref fa)=Y/\Binds X.K fd ps []/\oy X.prog X.w X.K X.mg X.base j fa fd ps (qh C x)
 dk:∀x kvs,G.dk x=O kvs->∃a,X.mg x=O (.ref a)/\RP X T a kvs
def xA(k:Option NameKind)(k':Option NameKind):Prop:=match k with
 |some .local=>k'=O .local
 |some .cell=>k'=O .cell
 |some .free=>k'=O .free\/k'=O .cell
 |some .globalImplicit=>k'=O .globalImplicit
 |_=>True
structure XC (CX:aq) (X:Cx) (c:CC) (G:GS) (T:Tx) (lv:Nat):Prop where
 N:X.N=c.N
 nd:c.N.Nodup
 kd:∀x,xA (c.sc.names.lookup x) (X.env.kindOf x)
 own:∀x,c.sc.names.lookup x=O .cell->X.fn x=Y
 dbg:∀x∈c.N,(x == ("__debug__":Str))=J/\(x == ("__classdict__":Str))=J
 gdb:aV c "__debug__"=J
 calm:X.calm=Y
 room:Room lv X.A
 go:qg CX X c G T lv
section
variable {CX:aq}{X:Cx}{c:CC}{G:GS}{T:Tx}{lv:Nat}
theorem XC.units(h:XC CX X c G T lv):X.A.units+64<cLine:=h.room.units
def XC.glob(h:XC CX X c G T lv)(e:aV c x=Y):Gl X x:=by
 have k:=h.kd x;have e':c.sc.names.lookup x=O .globalImplicit:=by unfold aV at e;exact wb.mp e
 rw[e']at k;exact k
def XC.gne(h:XC CX X c G T lv)(e:aV c x=Y):(x == ("__debug__":Str))=J:=by
 cases q:x == ("__debug__":Str) with
 |false=>rfl
 |true=>have q':x="__debug__":=wb.mp q;subst q';rw[h.gdb]at e;cases e
def iZ{α:Type}[DecidableEq α][BEq α][LawfulBEq α]:∀{l:List α} {x:α} {i:Nat},l.idxOf? x=O i->l[i]?=O x:=by intro l x i h;unfold List.idxOf? at h;rw[List.findIdx?_eq_some_iff_getElem]at h;obtain⟨h1,h2,_⟩:=h;rw[u7 h1];exact congrArg O (wb.mp h2)
def pG(e:bE c x=O i):c.N[i]?=O x/\(c.sc.names.lookup x=O .local\/c.sc.names.lookup x=O .cell\/c.sc.names.lookup x=O .free):=by unfold bE at e;split at e;rename_i h;exact⟨iZ e,.inl h⟩;rename_i h;exact⟨iZ e,.inr (.inl h)⟩;rename_i h;exact⟨iZ e,.inr (.inr h)⟩;cases e
def XC.vis(h:XC CX X c G T lv)(e:c.sc.names.lookup x=O .local\/c.sc.names.lookup x=O .cell\/c.sc.names.lookup x=O .free):uh X.env.scope x:=by have k:=h.kd x;rcases e with e|e|e;rw[e]at k;exact .inl k;rw[e]at k;exact .inr (.inl k);rw[e]at k;rcases k with k|k;exact .inr (.inr k);exact .inr (.inl k)
def gP{p:Pos}(e:eS c (.Name x p)=O i):c.N[i]?=O x/\(c.sc.names.lookup x=O .local\/c.sc.names.lookup x=O .cell):=by simp only[eS]at e;split at e;rename_i h;exact⟨iZ e,.inl h⟩;rename_i h;exact⟨iZ e,.inr h⟩;cases e
def XC.loc(h:XC CX X c G T lv)(e:c.sc.names.lookup x=O .local\/c.sc.names.lookup x=O .cell):Loc X.env.scope x/\(X.fn x=Y\/X.env.scope.names.lookup x=O .local):=by have k:=h.kd x;rcases e with e|e;rw[e]at k;exact⟨.inl k,.inr k⟩;have o:=h.own x e;rw[e]at k;exact⟨.inr k,.inl o⟩
def MQ(I:Inv X pins V H s):∀a o,X.K.lookup a=O o->H a=U:=λa o e=>(I.bs a o (I.mod.kin a o e)).2
def gD(K:xx)(T:Tx)(S:Addr->Prop)(is:List Nat)(B ρ1:List Sl)(d:D):TG:=λv V H Q=>RE K T H S B V/\Rep K T H S d v/\∀z,RE K T H S ρ1 z->(∀j,j∉is->z[j]?=V[j]?)->Q z H
theorem RE.set{d:D}(re:RE K T H S B V)(r:Rep K T H S d v):RE K T H S (B.set i (.im d)) (V.set i (O v)):=by
 refine⟨re.dom,by simp[re.len],λj s e=>?_⟩;by_cases z:j=i;subst z;have hl:j<B.length:=by have:=(u0.mp e).1;simpa using this
 rw[vi hl]at e;cases e;rw[vi (by rw[<-re.len];exact hl)];exact⟨v,rfl,r⟩;rw[vj (Ne.symm z)]at e ⊢;exact re.at_ j s e
def gDs(K:xx)(T:Tx)(S:Addr->Prop)(is:List Nat)(B ρ1:List Sl)(ds:List D):l8:=λvs V H Q=>RE K T H S B V/\aC K T H S ds vs/\∀z,RE K T H S ρ1 z->(∀j,j∉is->z[j]?=V[j]?)->Q z H
def fF(env:Env):∀{es:List Expr} {is:List Nat},fS c es=O is->(assignEach es env).map (·.2)=es.map (λe=>assign e env)/\(assignEach es env).length=es.length/\(assignEach es env).findIdx? (·.1)=U:=by
 intro es;induction es with
 |nil=>intro is _;exact⟨rfl,rfl,rfl⟩
 |cons e es z=>
  intro is h;simp only[fS,uy,u6]at h;obtain⟨i,h1,r,h2,_⟩:=h;obtain⟨R,I,a3⟩:=z h2;cases e<;>simp only[eS,reduceCtorEq]at h1
  rename_i x p;refine⟨?_,?_,?_⟩;show assign (.Name x p) env::(assignEach es env).map (·.2)=_;rw[R];rfl;show (assignEach es env).length+1=_;rw[I];rfl;show List.findIdx? (·.1) ((J,assign (.Name x p) env)::assignEach es env)=U;rw[List.findIdx?_cons,a3];rfl
def aEE(h:XC CX X c G T lv):∀{es:List Expr} {is:List Nat} {ds:List D} {B ρ1:List Sl},fS c es=O is->bH is ds B=O ρ1->uk X es (gDs X.K T S is B ρ1 ds):=by
 intro es;induction es with
 |nil=>
  intro is ds B ρ1 h1 h2;simp only[fS]at h1;cases h1;cases ds with
  |nil=>simp only[bH]at h2;cases h2;intro pins s V H vs us Q I r ⟨re,R,q⟩;unfold aC at R;exact VC pins s V H vs us Q I r ⟨R,q V re λ_ _=>rfl⟩
  |cons d ds=>simp[bH]at h2
 |cons e es ih=>
  intro is ds B ρ1 h1 h2;simp only[fS,uy,u6]at h1;obtain⟨i,h1,r,h3,h4⟩:=h1;cases h4;cases ds with
  |nil=>simp[bH]at h2
  |cons d ds=>
   simp only[bH]at h2;have hs:=(fF (c:=c) X.env (es:=e::es) (is:=i::r) (by simp[fS,h1,h3])).1;have ij:=(fF (c:=c) X.env h3).1;cases e<;>simp only[eS,reduceCtorEq]at h1
   rename_i x p;have tj:eS c (.Name x p)=O i:=h1;obtain⟨hN,hk⟩:=gP tj;obtain⟨hl,hf⟩:=h.loc hk;have p1:PG X (.Name x p) (tO i):=DQ (by rw[h.N];exact h.nd) (by rw[h.N];exact hN) hl hf;have p2:=KZ p1 (ih h3 h2) (by rw[hs,ij];rfl);intro pins s V H vs us Q I rv ⟨re,R,q⟩;unfold aC at R;obtain⟨y,w,e1,ry,fe⟩:=R;refine p2 pins s V H vs us Q I rv ⟨y,w,e1,?_⟩;refine⟨re.set ry,fe,λW re2 ag=>q W re2 λj hj=>?_⟩;rw[ag j λz=>hj (v8 _ z),vj (λz=>hj (by rw[z];simp))]
def VD(h:XC CX X c G T lv){is:List Nat}{d:D}{ρ1:List Sl}(h1:dD c tg=O (is,tp))(h2:bB is tp d B=O ρ1):PG X tg (gD X.K T S is B ρ1 d):=by
 cases tg<;>simp only[dD,reduceCtorEq,vc,Prod.mk.injEq]at h1
 rename_i x p;obtain⟨i,h3,rfl,rfl⟩:=h1;simp only[bB,v7,if_false,bH]at h2;cases h2;obtain⟨hN,hk⟩:=gP h3;obtain⟨hl,hf⟩:=h.loc hk;have p1:PG X (.Name x p) (tO i):=DQ (by rw[h.N];exact h.nd) (by rw[h.N];exact hN) hl hf;intro pins s V H v u Q I rv ⟨re,W,q⟩;exact p1 pins s V H v u Q I rv (q _ (re.set W) λj hj=>vj (λz=>hj (by rw[z];simp)))
 .rename_i es k p;obtain⟨R,h3,rfl,rfl⟩:=h1;simp only[bB,if_true]at h2;cases d<;>simp only[reduceCtorEq]at h2
  rename_i ds;obtain⟨a1,a2,a3⟩:=fF (c:=c) X.env h3;have p1:=aBx (pos:=p) (k:=k) (n:=es.length) h.calm (aEE h (S:=S) h3 h2) a2 a3;intro pins s V H v u Q I rv ⟨re,W,q⟩;unfold Rep at W;obtain⟨a,xs,ev,_,e,rl⟩:=W;refine p1 pins s V H v u Q I rv ⟨a,xs,ev,e,?_,re,rl,q⟩;have l1:=rl.len;have l2:R.length=es.length:=by
   clear p1 a1 a2 a3 rl h2 q;induction es generalizing R with
   |nil=>simp only[fS]at h3;cases h3;rfl
   |cons e es ih=>simp only[fS,uy,u6]at h3;obtain⟨i,_,r,h4,h5⟩:=h3;cases h5;simp only[xb,Nat.add_right_cancel_iff];exact ih r h4
  have l3:∀{is:List Nat} {ds:List D} {B ρ1:List Sl},bH is ds B=O ρ1->is.length=ds.length:=by
   intro is;induction is with
   |nil=>intro ds B ρ1 z;cases ds<;>simp_all [bH]
   |cons i is ih=>
    intro ds B ρ1 z;cases ds with
    |nil=>simp[bH]at z
    |cons d ds=>simp only[bH]at z;simp[ih z]
  rw[<-l1,<-l3 h2,l2]
end
def kn(K:xx)(T:Tx)(S:Addr->Prop)(z:Hp)(æ:It)(ds:List D):Prop:=∀(H:Hp) (S':Addr->Prop),aM K z H S S'->(∀a,S' a->∃o,H a=O o) ->(∀i d,ds[i]?=O d->æ.go i H/\∀x H',æ.yld i H x H'->aI H H'/\Rep K T H' S' d x)/\∀i,ds.length<=i->æ.stop i H
def tI(K:xx)(T:Tx)(S:Addr->Prop)(B:List Sl)(ds:List D):TI:=λV H R=>RE K T H S B V/\∀æ H',aI H H'->kn K T S H' æ ds->ds.length<=sizeLine->R æ H'
def gO(sc:Scope)(env:Env)(x:Str):(relabel sc env).names.lookup x=(sc.names.lookup x).map λk=>if (k == .free&&env.scope.kind == .function&&env.kindOf x == O .cell)=Y then .cell else k:=by
 show (sc.names.map λ(p:Str×NameKind)=>if (p.2 == .free&&env.scope.kind == .function&&env.kindOf p.1 == O .cell) then(p.1,NameKind.cell) else(p.1,p.2)).lookup x=_;induction sc.names with
 |nil=>rfl
 |cons p r z=>
  obtain⟨n,k⟩:=p;rw[vz];by_cases hx:x=n;subst hx;by_cases hc:(k == .free&&env.scope.kind == .function&&env.kindOf x == O .cell)=Y;show List.lookup x ((if (k == .free&&env.scope.kind == .function&&env.kindOf x == O .cell)=Y then(x,NameKind.cell) else(x,k))::_)=_;rw[if_pos hc,lookup_cons,lookup_cons,beq_self_eq_true];simp only[wz];rw[if_pos hc];show List.lookup x ((if (k == .free&&env.scope.kind == .function&&env.kindOf x == O .cell)=Y then(x,NameKind.cell) else(x,k))::_)=_;rw[if_neg hc,lookup_cons,lookup_cons,beq_self_eq_true];simp only[wz];rw[if_neg hc];have hb:(x == n)=J:=by simpa using hx
  show List.lookup x ((if (k == .free&&env.scope.kind == .function&&env.kindOf n == O .cell)=Y then(n,NameKind.cell) else(n,k))::_)=_;by_cases hc:(k == .free&&env.scope.kind == .function&&env.kindOf n == O .cell)=Y;rw[if_pos hc,lookup_cons,lookup_cons,hb];exact z;rw[if_neg hc,lookup_cons,lookup_cons,hb];exact z
theorem iE{env:Env}:∀(names:List (Str×NameKind)) (I:List (Str×Addr)),(∀x∈names,x.2=.free->∃a,env.cells.lookup x.1=O a) ->∃cl,(forIn names I λ(x:Str×NameKind) (cs:List (Str×Addr))=>if (x.2 == .free)=Y then(do let a <-cellOf env x.1;pure (ForInStep.yield ((x.1,a)::cs))) else pure (ForInStep.yield cs):Sem (List (Str×Addr)))=pure cl /\(∀x a,cl.lookup x=O a->I.lookup x=O a\/env.cells.lookup x=O a)/\(∀x,((x,NameKind.free)∈names\/∃a,I.lookup x=O a)->∃a,cl.lookup x=O a)
 |[],I,_=>⟨I,rfl,λx a h=>.inl h,λx h=>by rcases h with h|h;simp at h;exact h⟩
 | (n,k)::r,I,h=>by
  by_cases hk:k=.free;subst hk;obtain⟨a,ha⟩:=h (n,.free) Ab rfl;obtain⟨cl,e,h1,h2⟩:=iE r ((n,a)::I) λx hx=>h x (v8 _ hx)
  refine⟨cl,?_,λx b q=>?_,λx q=>h2 x ?_⟩;rw[List.forIn_cons];simp only[beq_self_eq_true,if_true,cellOf,ha];exact e;rcases h1 x b q with z|z;rw[lookup_cons]at z;cases hx:x == n with
  |true=>rw[hx]at z;have:x=n:=wb.mp hx;subst this;cases z;exact .inr ha
  |false=>rw[hx]at z;exact .inl z
  exact .inr z;by_cases hx:x=n;subst hx;exact .inr ⟨a,Ab⟩;have hb:(x == n)=J:=by simpa using hx
  rcases q with q|⟨b,q⟩;rcases vo.mp q with q|q;exact absurd (Prod.mk.inj q).1 hx;exact .inl q;exact .inr ⟨b,by rw[lookup_cons,hb];exact q⟩;have hb:(k == NameKind.free)=J:=by simpa using hk
  obtain⟨cl,e,h1,h2⟩:=iE r I λx hx=>h x (v8 _ hx)
  refine⟨cl,?_,h1,λx q=>h2 x ?_⟩;rw[List.forIn_cons];simp only[hb,v7,if_false];exact e;rcases q with q|q;rcases vo.mp q with q|q;exact absurd (Prod.mk.inj q).2.symm hk;exact .inl q;exact .inr q
def rM(h:∀x∈sc.names,x.2=.free->∃a,env.cells.lookup x.1=O a):∃cl,closureFor sc env=pure cl/\(∀x a,cl.lookup x=O a->env.cells.lookup x=O a)/\(∀x,(x,NameKind.free)∈sc.names->∃a,cl.lookup x=O a):=by obtain⟨cl,e,h1,h2⟩:=iE (env:=env) sc.names [] h;refine⟨cl,?_,λx a q=>(h1 x a q).elim (λz=>by simp at z) id,λx q=>h2 x (.inl q)⟩;show ((forIn sc.names [] λ(x:Str×NameKind) (cs:List (Str×Addr))=>if (x.2 == .free)=Y then(do let a <-cellOf env x.1;pure (ForInStep.yield ((x.1,a)::cs))) else pure (ForInStep.yield cs):Sem (List (Str×Addr))) >>= λcs=>pure cs)=pure cl;rw[e];rfl
def zQ(X:Cx)(N':List Str)(sc:Scope)(cl:List (Str×Addr))(C:Addr)(s:Shared)(H:Hp)(fp:List Addr)(E:y9):Cx:={X with N:=N',s₀:=s,H₀:=H,env:=compEnvC sc cl C X.env,outer:=X.stack,ex:=fp,fn:=λ_=>J,pn:=[],xe:=E}
theorem wW{R:Result->Shared->Prop}{z:Expr}{scope:Scope}{it acc:Value}(I:Nat->Shared->Prop)
  (turn:∀n s,I n s->wpAny (model prog w) A (pyNext it) (λr W=>match r with
   |none=>R (.ok .next) W
   |some v=>wpAny (model prog w) A (letOwnedTupleGo z it v) (λ_ W=>wpAny (model prog w) A (assign z env v) (λ_ s₂=>
    wpAny (model prog w) A (forIn ifs Y λc r=>if r=Y then do let ok <-isTrue c env (eval c env);pure (ForInStep.yield ok) else pure (ForInStep.yield r)) (λok s₃=>
     if ok=Y then wpAny (model prog w) A (eval elt env) (λx s₄=>wpAny (model prog w) A (call (.builtin "list.append") [acc,x]) (λ_ s₅=>∃m,m<n/\I m s₅) (notedBy (model prog w) A env λe s'=>R (.error e) s') s₄) (notedBy (model prog w) A env λe s'=>R (.error e) s') s₃
     else ∃m,m<n/\I m s₃) (notedBy (model prog w) A env λe s'=>R (.error e) s') s₂) (notedBy (model prog w) A env λe s'=>R (.error e) s') W) (notedBy (model prog w) A env λe s'=>R (.error e) s') W) (notedBy (model prog w) A env λe s'=>R (.error e) s') s)
  (n:Nat) (h:I n s):codeAny (model prog w) A (.compLoop (.ListComp elt [⟨z,iter,ifs,0⟩] scope pos) 0 it acc env) R s:=by
 refine codeAny_loop rfl I (λn s hI=>?_) n h;show wpAny _ A ((compTurn (.ListComp elt [⟨z,iter,ifs,0⟩] scope pos) 0 it acc env).onRaise (λx=>do noteFrame x env;theTreesLotGoes x)) _ _ s;refine wpAny_noted ?_;rw[compTurn_list];refine wt (wpAny_standAt (wt (wx (turn n s hI) (λr W h₁=>?_) λ_ _ h'=>h')));cases r with
 |none=>exact wu h₁
 |some v=>
  refine wt (wx h₁ (λ_ s₁' h₁'=>?_) λ_ _ h'=>h');refine wt (wx h₁' (λ_ s₂ h₂=>wt (wx h₂ (λok s₃ h₃=>?_) λ_ _ h'=>h')) λ_ _ h'=>h');cases ok with
  |false=>exact wu ⟨rfl,h₃⟩
  |true=>exact wt (wt (wx h₃ (λx s₄ h₄=>wt (wx h₄ (λ_ s₅ h₅=>wu (wu ⟨rfl,h₅⟩)) λ_ _ h'=>h')) λ_ _ h'=>h'))
section
variable {CX:aq}{X:Cx}{c:CC}{G:GS}{T:Tx}{lv:Nat}{pins:ya}{V:L2.St}{H:Hp}{s:Shared}
def mT(I:Inv X pins V H s){N':List Str}{cl:List (Str×Addr)}{fp:List Addr}(hk:sc.kind=.function)(hC:s.heap.objs.size<=C) (bp:∀x a,cl.lookup x=O a->X.env.cells.lookup x=O a) (cb:∀x,(x,NameKind.free)∈sc.names->∃a,cl.lookup x=O a) (hnc:∀x∈sc.names,x.2≠.cell) (hf:∀b∈fp,mX X pins H b) (iN:∀b∈fp,b<s.heap.objs.size):(zQ X N' sc cl C s H fp E).Ok where
 mod:=I.ok.mod
 kind:=hk
 glob:=I.ok.glob
 blt:=I.ok.blt
 above:=hC
 inj:=λx y c h1 h2=>I.ok.inj x y c (bp _ _ h1) (bp _ _ h2)
 has:=λx hx=>by
  have e:∀k,(relabel sc X.env).names.lookup x=O k->(k=.cell\/k=.free)->(x,NameKind.free)∈sc.names:=λk e hk=>by
   rw[gO]at e;cases q:sc.names.lookup x with
   |none=>rw[q]at e;cases e
   |some k0=>
    rw[q]at e;have hm:=we q;by_cases gk:k0=.free;subst gk;exact hm;have hb:(k0 == NameKind.free)=J:=by simpa using gk
    simp only[wz,hb,Bool.false_and,v7,if_false,u4]at e;subst e;rcases hk with z|z;exact absurd z (hnc _ hm);exact absurd z gk
  rcases hx with hx|hx;exact cb x (e _ hx (.inl rfl));exact cb x (e _ hx (.inr rfl))
 cab:=λx c h=>by cases h
 hd:=I.ok.hd
 frames:=I.ok.frames
 stk:=.inl rfl
 exf:=λb hb=>⟨wj (ve (iN b hb) hC),λx c e=>(hf b hb).2.2.2.2.1 x c (bp _ _ e)⟩
 bs:=I.bs
 bsz:=vm I.ok.bsz I.sz
 noex:=λb o e hb=>by obtain⟨_,_,_,h1,_⟩:=hf b hb;rcases h1 with h1|h1;exact I.ok.noex b o e h1;exact absurd (ve (vk e) I.ok.bsz) (not_lt.mpr h1)
 exfs:=λb hb hs=>by obtain⟨_,h1,h2,_⟩:=hf b hb;rcases vo.mp (I.stkSub b hs) with z|z;exact h1 z;exact h2 z
 funs:=I.stack
 frf:=I.stkFree
end
section
variable {CX:aq}{X:Cx}{c:CC}{G:GS}{T:Tx}{lv:Nat}{pins:ya}{V:L2.St}{H:Hp}{s:Shared}
structure bb (c:CC) (sc:Scope):Prop where
 kind:sc.kind=.function
 nocell:∀x∈sc.names,x.2≠.cell
 loc:∀x∈sc.names,x.2=.local->sc.names.lookup x.1=O .local
 fl:∀x∈sc.names,x.2=.free->sc.names.lookup x.1=O .free
 nd:(ownNames sc).Nodup
 dbg:∀x∈ownNames sc,(x == ("__debug__":Str))=J/\(x == ("__classdict__":Str))=J
 gdb:sc.names.lookup ("__debug__":Str)≠O .globalImplicit
 fre:∀x∈sc.names,x.2=.free->c.sc.names.lookup x.1=O .cell\/c.sc.names.lookup x.1=O .free
def uD(h:lY c sc=Y):bb c sc:=by unfold lY at h;simp only[va]at h;obtain⟨⟨⟨⟨⟨⟨⟨h1,h2⟩,h3⟩,h8⟩,h4⟩,h5⟩,h6⟩,z⟩:=h;rw[all_eq_true]at h2 h3 h5 z h8;refine⟨wb.mp h1,λx hx=>?_,λx hx e=>?_,λx hx e=>?_,of_decide_eq_true h4,λx hx=>?_,λe=>?_,λx hx e=>?_⟩;have:=h2 x hx;simpa using this;have:=h3 x hx;simpa [e] using this;have:=h8 x hx;simpa [e] using this;have:=h5 x hx;simpa [va] using this;rw[e]at h6;simp at h6;have:=z x hx;simpa [e] using this
def QV(h:XC CX X c G T lv)(cs:bb c sc){cl:List (Str×Addr)}{fp:List Addr}:XC CX (zQ X (ownNames sc) sc cl C s H fp E) {c with N:=ownNames sc,sc:=sc} G T lv where
 N:=rfl
 nd:=cs.nd
 kd:=λx=>by
  show xA (sc.names.lookup x) ((relabel sc X.env).names.lookup x);rw[gO];cases q:sc.names.lookup x with
  |none=>trivial
  |some k=>
   cases k with
   | «local»=>rfl
   |cell=>exact absurd rfl (cs.nocell _ (we q))
   |free=>simp only[wz,xA];by_cases hc:((NameKind.free == NameKind.free)&&X.env.scope.kind == .function&&X.env.kindOf x == O .cell)=Y;rw[if_pos hc];exact .inr rfl;rw[if_neg hc];exact .inl rfl
   |globalExplicit=>trivial
   |globalImplicit=>rfl
 own:=λx e=>absurd rfl (cs.nocell _ (we e))
 dbg:=cs.dbg
 gdb:=by unfold aV;exact wg.mpr cs.gdb
 calm:=h.calm
 room:=h.room
 go:=⟨h.go.fn,h.go.me,h.go.cls,h.go.fld,h.go.mo,h.go.cst,h.go.bi,h.go.xcl,h.go.frs,h.go.cx0,h.go.cxf,h.go.xns,h.go.xk,h.go.sub,h.go.wd,h.go.dk⟩
def HZ:∀{l:List (Str×NameKind)} {fr:List (Nat×Nat)} {i j:Nat},freeOf c sc l=O fr->fr.lookup i=O j->∃x∈l,(ownNames sc).idxOf? x.1=O i/\bE c x.1=O j:=by
 intro l;induction l with
 |nil=>intro fr i j h e;simp only[freeOf]at h;cases h;simp at e
 |cons x r I=>
  intro fr i j h e;simp only[freeOf,uy,u6]at h;obtain⟨a,h1,b,h2,t,h3,h4⟩:=h;cases h4;rw[lookup_cons]at e;cases q:i == a with
  |true=>
   rw[q]at e;cases e;have:i=a:=by simpa using q
   subst this;exact⟨x,Ab,h1,h2⟩
  |false=>rw[q]at e;obtain⟨y,hy,z⟩:=I h3 e;exact⟨y,v8 _ hy,z⟩
def fB(n:Nat)(fr:List (Nat×Nat))(V:L2.St):L2.St:=(List.range n).map λi=>match fr.lookup i with
 |some j=>V.getD j U
 |none=>U
def NR{fr:List (Nat×Nat)}(re:RE K T H S B V):RE K T H S (frame n fr B) (fB n fr V):=by
 refine⟨re.dom,by simp[frame,fB],λi sl e=>?_⟩;unfold frame at e;unfold fB;rw[uv]at e ⊢;cases hr:(List.range n)[i]? with
 |none=>rw[hr]at e;cases e
 |some k=>
  rw[hr]at e;simp only[wz,u4]at e ⊢;subst e;cases q:fr.lookup k with
  |none=>trivial
  |some j=>
   simp only;cases q2:B[j]? with
   |none=>rw[u3,q2];trivial
   |some sl=>
    have h:=re.at_ j sl q2;rw[u3,q2];simp only[getD_some];cases sl with
    |un=>trivial
    |ow _ _=>trivial
    |im d=>obtain⟨v,e1,r⟩:=h;exact⟨v,by rw[u3,e1];rfl,r⟩
    |mu ds=>obtain⟨p,xs,e1,r⟩:=h;exact⟨p,xs,by rw[u3,e1];rfl,r⟩
theorem RE.gen{H':Hp}(re:RE K T H S B V)(mv:aM K H H' S S')(hm:∀a z,S a->H a=O z->(∃d,oI K T H S d z)->S' a/\H' a=O z)(hd:∀a,S' a->∃o,H' a=O o):RE K T H' S' B V:=by
 refine⟨hd,re.len,λi sl e=>?_⟩;have h:=re.at_ i sl e;cases sl with
 |un=>trivial
 |ow _ _=>trivial
 |im d=>obtain⟨v,e1,r⟩:=h;exact⟨v,e1,Rep.gen mv d v r⟩
 |mu ds=>obtain⟨p,xs,e1,sp,hp,r⟩:=h;obtain⟨R,I⟩:=hm p xs sp hp ⟨ds,r⟩;exact⟨p,xs,e1,R,I,r.gen mv⟩
def MX(h:XC CX X c G T lv)(I:Inv X pins V H s)(cs:bb c sc){cl:List (Str×Addr)}{fr:List (Nat×Nat)}{fp:List Addr}{s4:Shared}{m:yb} (au:freeOf c sc (sc.names.filter λx=>x.2 == .free)=O fr) (bp:∀x a,cl.lookup x=O a->X.env.cells.lookup x=O a) (cb:∀x,(x,NameKind.free)∈sc.names->∃a,cl.lookup x=O a) (hf:∀b∈fp,mX X pins H b) (iN:∀b∈fp,b<s.heap.objs.size) (hC:s.heap.objs.size<=C) (hn:s4.heap.Ns C m) (hk:∀b o,s.heap.get? b=O o->s4.heap.get? b=O o) (nu:s4.os=s.os) (lq:AllBare s4.gens):Inv (zQ X (ownNames sc) sc cl C s H fp E) [] (fB (ownNames sc).length fr V) H s4 where
 ok:=mT I cs.kind hC bp cb cs.nocell hf iN
 os:=nu
 bare:=lq
 base:=Un.kept hk
 loc:=⟨m,hn,λi x v h1 h2 h3=>by
  unfold fB at h2;rw[uv]at h2;cases hr:(List.range (ownNames sc).length)[i]? with
  |none=>rw[hr]at h2;cases h2
  |some k=>
   have ek:k=i:=by obtain⟨_,e⟩:=u0.mp hr;simpa using e.symm
   subst ek;rw[hr]at h2;simp only[wz,u4]at h2;cases q:fr.lookup k with
   |none=>rw[q]at h2;cases h2
   |some j=>
    rw[q]at h2;simp only at h2;obtain⟨y,hy,hy1,ig⟩:=HZ au q;have hyx:y.1=x:=by have:=iZ hy1;have tj:(ownNames sc)[k]?=O x:=h1;rw[tj]at this;exact(vb this).symm
    obtain⟨hym,hyf⟩:=mem_filter.mp hy;have hyf':y.2=.free:=by simpa using hyf
    have hxm:(x,NameKind.free)∈sc.names:=by rw[<-hyx,<-hyf'];exact hym
    obtain⟨hN,_⟩:=pG ig;rw[hyx]at hN ig;have hσ:V[j]?=O (O v):=by
     rw[u3]at h2;cases q2:V[j]? with
     |none=>rw[q2]at h2;cases h2
     |some o=>rw[q2]at h2;simp only[getD_some]at h2;rw[h2]
    obtain⟨m0,_,hl⟩:=I.loc;have so:=cs.fre _ hym hyf';rw[hyx]at so;obtain⟨u,ru,lk⟩:=hl j x v (by rw[h.N];exact hN) hσ (h.vis (.inr so));refine⟨u,ru,.inr ?_⟩;have kd:=h.kd x;have notloc:X.env.kindOf x≠O .local:=by rcases so with z|z;rw[z]at kd;intro w;rw[kd]at w;cases w;rw[z]at kd;intro w;rcases kd with kd|kd<;>(rw[kd]at w;cases w)
    rcases lk with ⟨z,_⟩|⟨_,cc,e1,e2⟩;exact absurd z notloc;obtain⟨a,ha⟩:=cb x hxm;have ea:=bp x a ha;rw[e1]at ea;cases ea;refine⟨?_,cc,ha,?_⟩;show (relabel sc X.env).names.lookup x=O .cell\/(relabel sc X.env).names.lookup x=O .free;rw[gO];have hlk:sc.names.lookup x=O .free:=cs.fl _ hxm rfl;rw[hlk];simp only[wz];split;exact .inl rfl;exact .inr rfl;obtain⟨o,h5,h6⟩:=e2;exact⟨o,hk _ _ h5,h6⟩⟩
 cell:=λx a e=>by obtain⟨v,o,h5,h6⟩:=I.cell x a (bp x a e);exact⟨v,o,hk _ _ h5,h6⟩
 free:=I.hok.fresh hC
 freeC:=λx a e=>I.freeC x a (bp x a e)
 pin:=λp hp=>absurd (show p∈([]:ya) from hp) Ab
 hok:=I.hok.kept hk
 len:=by simp[fB,zQ]
end
section
variable {CX:aq}{X:Cx}{c:CC}{G:GS}{T:Tx}{lv:Nat}{pins:ya}{V:L2.St}{H:Hp}{s:Shared}
def zR{f:D->Option (Option D)}{d:D}{r out:List D}(h:cK f (d::r)=O out):∃o t,f d=O o/\cK f r=O t/\out=(match o with|some y=>y::t|none=>t):=by simp only[cK,uy,u6]at h;obtain⟨o,h1,t,h2,h3⟩:=h;refine⟨o,t,h1,h2,?_⟩;cases o<;>simp at h3<;>exact h3.symm
def TurnOk(CX:aq)(G:GS)(T:Tx)(lv:Nat)(I:CC)(K:xx)(ifs:List Expr)(elt:Expr)(ρ1:List Sl)(o:Option D):Prop:=∀(z:Cx) (S:Addr->Prop),XC CX z I G T lv->z.K=K ->((ifs=[]/\o.isSome=Y)\/∃e,ifs=[e]/\PT z e (i5 z.K T S ρ1 o.isSome))/\∀y,o=O y->PE z elt (tD z.K T S ρ1 y)
def rK(h:XC CX X c G T lv)(cs:bb c sc){cl:List (Str×Addr)}{fr:List (Nat×Nat)}
  {æ:It} {fp:List Addr} {it:Addr} {tn:Nat->Heap->Prop} {ds W:List D} {f:D->Option (Option D)} {RR:Value->Addr->Result->Shared->Prop} 
  (au:freeOf c sc (sc.names.filter λx=>x.2 == .free)=O fr) (rh:bg.all (λi=>(fr.lookup i).isNone)=Y) (gh:dD {c with N:=ownNames sc,sc:=sc} tg=O (bg,tp))
  (bp:∀x a,cl.lookup x=O a->X.env.cells.lookup x=O a) (cb:∀x,(x,NameKind.free)∈sc.names->∃a,cl.lookup x=O a)
  (I:Inv X pins V H s) (re:RE X.K T H S B V) (TU:Turn X.prog X.w X.K tg æ fp it tn) (st:tn 0 s.heap) (hf:∀b∈fp,mX X pins H b) (ke:kn X.K T S H æ ds) (hlen:ds.length<=sizeLine)
  (jh:cK f ds=O W) (fv:∀d o,f d=O o->∃ρ1,bB bg tp d (frame (ownNames sc).length fr B)=O ρ1/\TurnOk CX G T lv {c with N:=ownNames sc,sc:=sc} X.K ifs elt ρ1 o)
  (hRR:∀(D C:Addr) (s':Shared) (H':Hp) (ys:List σ) (m:yb),Inv X pins V H' s'->aI H H'->H D=U->H' D=O (.lst ys)->aC X.K T (er H' D) S W ys->s'.heap.Ns C m ->
   (H' C=U/\C≠X.env.locals/\X.s₀.heap.objs.size<=C/\(∀x a,X.env.cells.lookup x=O a->a≠C)/\∀p∈X.pn++pins,p.1≠C)->RR (.ref D) C (.ok .next) s'):
  wpAny (model X.prog X.w) X.A (newList []) (λacc s₃=>wpAny (model X.prog X.w) X.A (newFunctionEnv sc X.env.globals cl [] X.env.qual U .none (O X.env)) (λcenv s₄=>
   codeAny (model X.prog X.w) X.A (.compStart (.ListComp elt [⟨tg,iter,ifs,0⟩] sc pos) 0 (.ref it) acc {cenv with scope:=relabel sc X.env}) (RR acc cenv.locals) s₄) E s₃) E s:=by
 refine wpAny_newObj_type (wpAny_newFunctionEnv cs.nocell (by intro y hy;simp at hy) (λh₁ hns₁ hsb₁=>?_) cs.kind)
 dsimp only at hns₁ hsb₁ ⊢;have I3:=I.lnew (t':=s.toks) (its:=[]) (ys:=[]) .nil (xq _)
 have iN:∀b∈fp,b<s.heap.objs.size:=λb hb=>by
  obtain⟨o,e,_⟩:=TU.obj _ _ st b hb;exact vk e
 generalize hD:s.heap.objs.size=D at *;generalize hs3:s.heap.push {cls:=.type "list",dict:=U,data:=.seq ([]:List Value).toArray}=h3 at *;have hC:h3.objs.size=D+1:=by rw[<-hs3,size_push,hD]
 generalize p7:h3.objs.size=C at *;have lz:H D=U:=by rw[<-hD];exact I.hok.fresh (ux _)
 have hKD:X.K.lookup D=U:=by
  cases q:X.K.lookup D with
  |none=>rfl
  |some o=>
   have e:=I.kIn D o q
   exact absurd (vk e) (by rw[hD];exact wq _)
 have k3:∀b o,s.heap.get? b=O o->h3.get? b=O o:=λb o e=>by rw[<-hs3];exact v3 _ e
 have k4:∀b o,h3.get? b=O o->h₁.get? b=O o:=λb o e=>hsb₁.extBut b o (by rw[<-p7];exact wj (vk e)) (v3 _ e)
 have k6:RE X.K T (upd H D (.lst [])) (λa=>S a\/a=D) B V:=re.gen (aM.add lz hKD) (λa xs hs e _=>⟨.inl hs,by rw[aK (aS e lz)];exact e⟩) λa hs=>by
  rcases hs with z|z
  .obtain⟨o,e⟩:=re.dom a z;exact⟨o,by rw[aK (aS e lz)];exact e⟩
  .subst z;exact⟨_,aL⟩
 have sr:∀b∈fp,mX X pins (upd H D (.lst [])) b:=λb hb=>⟨by rw[aK (wj (iN b hb))];exact(hf b hb).1,(hf b hb).2⟩
 have hfl3:∀b∈fp,b<h3.objs.size:=λb hb=>by rw[p7,hC];exact lt_succ_of_lt (iN b hb)
 have loop:∀(E':y9) (s4:Shared),s4={s with heap:=h₁,toks:=s.toks+([]:List (Str×Value)).length} ->
   codeAny (model X.prog X.w) X.A (.compLoop (.ListComp elt [⟨tg,iter,ifs,0⟩] sc pos) 0 (.ref it) (.ref D) (compEnvC sc cl C X.env)) (RR (.ref D) C) s4:=by
  rintro E' s4 rfl
  let EN:=notedBy (model X.prog X.w) X.A (compEnvC sc cl C X.env) λe s'=>RR (.ref D) C (.error e) s'
  let þ:=zQ X (ownNames sc) sc cl C {s with heap:=h3,toks:=s.toks} (upd H D (.lst [])) fp EN
  have xY:XC CX þ {c with N:=ownNames sc,sc:=sc} G T lv:=QV h cs
  have J0:Inv þ [] (fB (ownNames sc).length fr V) (upd H D (.lst [])) {s with heap:=h₁,toks:=s.toks+([]:List (Str×Value)).length}:=
   MX h I3 cs au bp cb sr hfl3 (by show h3.objs.size<=C;rw[p7];exact ux _) hns₁ k4 rfl I3.bare
  have gc:∀{H':Hp},(∀b∈fp,H' b=U)->∀b∈fp,mX þ [] H' b:=λhn b hb=>
   ⟨hn b hb,((mT (E:=EN) (N':=ownNames sc) I3 cs.kind (show h3.objs.size<=C by rw[p7];exact ux _) bp cb cs.nocell sr hfl3).exf b hb).1,
    (mT (E:=EN) (N':=ownNames sc) I3 cs.kind (show h3.objs.size<=C by rw[p7];exact ux _) bp cb cs.nocell sr hfl3).exfs b hb,.inl hb,
    ((mT (E:=EN) (N':=ownNames sc) I3 cs.kind (show h3.objs.size<=C by rw[p7];exact ux _) bp cb cs.nocell sr hfl3).exf b hb).2,λp hp=>absurd (show p∈([]:ya) from hp) Ab⟩
  have ll:∀(V':L2.St) (H':Hp),aI H H'->(∃ys,H' D=O (.lst ys))->V'.length=(ownNames sc).length->(∀j,j∉bg->V'[j]?=(fB (ownNames sc).length fr V)[j]?) ->
    RE X.K T H' (λa=>S a\/a=D) (frame (ownNames sc).length fr B) V':=λV' H' sm hys hl ag=>by
   have r0:=NR (n:=(ownNames sc).length) (fr:=fr) re
   have mv:aM X.K H H' S (λa=>S a\/a=D):=λa n hh=>by
    have ne:a≠D:=by
     rintro rfl
     rcases hh with ⟨u,e⟩|⟨u,e⟩
     .rw[lz]at e;cases e
     .rw[hKD]at e;cases e
    exact⟨λz=>z.elim n ne,λo e=>sm a o e⟩
   refine⟨λa hs=>?_,by simp[frame,hl],λj sl e=>?_⟩
   .rcases hs with z|z
    .obtain⟨o,e⟩:=re.dom a z;exact⟨o,sm a o e⟩
    .subst z;obtain⟨ys,e⟩:=hys;exact⟨_,e⟩
   .have h0:=r0.at_ j sl e
    by_cases hj:j∈bg
    .have hu:sl=.un:=by
      unfold frame at e;rw[uv]at e;cases hr:(List.range (ownNames sc).length)[j]? with
      |none=>rw[hr]at e;cases e
      |some k=>
       have ek:k=j:=by
        obtain⟨_,e'⟩:=u0.mp hr;simpa using e'.symm
       subst ek;rw[hr]at e;simp only[wz,u4]at e;have:=all_eq_true.mp rh k hj
       cases q:fr.lookup k with
       |none=>
        rw[q]at e;simpa using e.symm
       |some z=>rw[q]at this;simp at this
     subst hu;trivial
    .rw[ag j hj];cases sl with
     |un=>trivial
     |ow _ _=>trivial
     |im d=>obtain⟨v,e1,r⟩:=h0;exact⟨v,e1,Rep.gen mv d v r⟩
     |mu ds'=>obtain⟨p,xs,e1,sp,hp,r⟩:=h0;exact⟨p,xs,e1,.inl sp,sm _ _ hp,r.gen mv⟩
  refine wW (λk s'=>∃(i:Nat) (V':L2.St) (H':Hp) (ys:List σ) (pre R:List Z.D),k=ds.length+1-i/\i<=ds.length/\Inv þ [] V' H' s'/\tn i s'.heap/\(∀b∈fp,H' b=U) /\
   aI H H'/\H' D=O (.lst ys)/\aC X.K T H' (λa=>S a\/a=D) pre ys/\ys.length<=i/\W=pre++R/\cK f (ds.drop i)=O R /\
   V'.length=(ownNames sc).length/\(∀j,j∉bg->V'[j]?=(fB (ownNames sc).length fr V)[j]?)) ?_ (ds.length+1)
   ⟨0,_,_,[],[],W,rfl,xq _,J0,TU.keep _ _ _ st λb _ o e=>k4 b o (k3 b o e),λb hb=>(sr b hb).1,aI.upd lz,aL,aC.nil,ux _,rfl,by simpa using jh,by simp[fB],λ_ _=>rfl⟩
  rintro k s' ⟨i,V',H',ys,pre,R,rfl,hi,IY,sti,fri,same,hHD,rp,qz,ho,kl,hlσ,hag⟩;have rei:=ll V' H' same ⟨ys,hHD⟩ hlσ hag
  have mv:aM X.K H H' S (λa=>S a\/a=D):=λa n hh=>by
   have ne:a≠D:=by
    rintro rfl
    rcases hh with ⟨u,e⟩|⟨u,e⟩
    .rw[lz]at e;cases e
    .rw[hKD]at e;cases e
   exact⟨λz=>z.elim n ne,λo e=>same a o e⟩
  obtain⟨qy,qx⟩:=ke H' _ mv rei.dom
  by_cases cw:i<ds.length
  .obtain⟨d,hd⟩:∃d,ds[i]?=O d:=⟨ds[i],by simp[cw]⟩
   have hdr:ds.drop i=d::ds.drop (i+1):=by
    obtain⟨h1,h2⟩:=u0.mp hd;rw[<-h2];exact List.drop_eq_getElem_cons h1
   rw[hdr]at kl;obtain⟨o,t,hfd,ht,hpost⟩:=zR kl;obtain⟨ρ1,hb,hok⟩:=fv d o hfd;obtain⟨go,yl⟩:=qy i d hd;refine ai (TU.item þ rfl rfl rfl h.calm i [] s' V' H' EN IY (gc fri) sti go) λr s5 ⟨u,hr,h5⟩=>?_
   subst hr;refine ai h5 λ_ s6 ⟨x,H6,I6,r6,y6,st6,fr6⟩=>?_
   obtain⟨qj,rd6⟩:=yl x H6 y6;have I6':=I6.pinned (gc fr6) (TU.obj _ _ st6)
   have hD6:H6 D=O (.lst ys):=qj _ _ hHD
   refine ai (VD xY (S:=λa=>S a\/a=D) gh hb _ s6 V' H6 x u (λσ2 H2=>H2=H6/\RE X.K T H6 (λa=>S a\/a=D) ρ1 σ2/\∀j,j∉bg->σ2[j]?=V'[j]?) I6' r6
    ⟨rei.same qj,rd6,λσ7 ql ag7=>⟨rfl,ql,ag7⟩⟩) λ_ s7 ⟨σ7,H7,I7,e7,ql,ag7⟩=>?_
   subst e7;have next:∀(s9:Shared) (H9:Hp) (gw:List σ) (pre':List Z.D),Inv þ ([]++nE fp s6.heap) σ7 H9 s9->aI H H9->H9 D=O (.lst gw)->aC X.K T H9 (λa=>S a\/a=D) pre' gw->gw.length<=i+1->W=pre'++t ->
     ∃m,m<ds.length+1-i/\∃(i:Nat) (V':L2.St) (H':Hp) (ys:List σ) (pre R:List Z.D),m=ds.length+1-i/\i<=ds.length/\Inv þ [] V' H' s9/\tn i s9.heap/\(∀b∈fp,H' b=U) /\
      aI H H'/\H' D=O (.lst ys)/\aC X.K T H' (λa=>S a\/a=D) pre ys/\ys.length<=i/\W=pre++R/\cK f (ds.drop i)=O R /\
      V'.length=(ownNames sc).length/\(∀j,j∉bg->V'[j]?=(fB (ownNames sc).length fr V)[j]?):=λs9 H9 gw pre' I9 mw hD9 rp9 hl9 ho9=>by
    refine⟨ds.length+1-(i+1),z7,i+1,σ7,H9,gw,pre',t,rfl,cw,I9.unpinned,?_,λb hb=>?_,mw,hD9,rp9,hl9,ho9,ht,?_,λj hj=>(ag7 j hj).trans (hag j hj)⟩
    .exact TU.keep _ _ _ st6 λb hb o e=>(I9.pin (b,o) (wm _ (wm _ (iY hb e)))).1
    .obtain⟨o,e,_⟩:=TU.obj _ _ st6 b hb;exact(I9.pin (b,o) (wm _ (wm _ (iY hb e)))).2.1
    .have l1:=ql.len
     have l2:=I9.len
     exact l2
   obtain⟨c7,helt⟩:=hok þ (λa=>S a\/a=D) xY rfl
   have fin:∀(s8:Shared) (H8:Hp),Inv þ ([]++nE fp s6.heap) σ7 H8 s8->aI H7 H8 ->
     (if o.isSome=Y then wpAny (model X.prog X.w) X.A (eval elt (compEnvC sc cl C X.env)) (λx s₄=>wpAny (model X.prog X.w) X.A (call (.builtin "list.append") [.ref D,x]) (λ_ s₅=>∃m,m<ds.length+1-i/\∃(i:Nat) (V':L2.St) (H':Hp) (ys:List σ) (pre R:List Z.D),m=ds.length+1-i/\i<=ds.length/\Inv þ [] V' H' s₅/\tn i s₅.heap/\(∀b∈fp,H' b=U) /\
      aI H H'/\H' D=O (.lst ys)/\aC X.K T H' (λa=>S a\/a=D) pre ys/\ys.length<=i/\W=pre++R/\cK f (ds.drop i)=O R /\
      V'.length=(ownNames sc).length/\(∀j,j∉bg->V'[j]?=(fB (ownNames sc).length fr V)[j]?)) EN s₄) EN s8
     else ∃m,m<ds.length+1-i/\∃(i:Nat) (V':L2.St) (H':Hp) (ys:List σ) (pre R:List Z.D),m=ds.length+1-i/\i<=ds.length/\Inv þ [] V' H' s8/\tn i s8.heap/\(∀b∈fp,H' b=U) /\
      aI H H'/\H' D=O (.lst ys)/\aC X.K T H' (λa=>S a\/a=D) pre ys/\ys.length<=i/\W=pre++R/\cK f (ds.drop i)=O R /\
      V'.length=(ownNames sc).length/\(∀j,j∉bg->V'[j]?=(fB (ownNames sc).length fr V)[j]?)):=λs8 H8 I8 jt=>by
    have smH8:aI H H8:=same.trans (qj.trans jt)
    cases o with
    |none=>
     rw[if_neg Ab]
     refine next s8 H8 ys pre I8 smH8 (jt _ _ hD6) ((rp.same qj).same jt) (le_succ_of_le qz) ?_
     rw[ho,hpost]
    |some y=>
     rw[if_pos (show (O y).isSome=Y from rfl)]
     refine ai (helt y rfl _ s8 σ7 H8 (λv H9=>aI H8 H9/\Rep X.K T H9 (λa=>S a\/a=D) y v) I8 ⟨ql.same jt,λv H9 mw rv=>⟨mw,rv⟩⟩) λu9 s9 ⟨v,H9,I9,r9,mw,rv⟩=>?_
     have hD9:H9 D=O (.lst ys):=mw _ _ (jt _ _ hD6)
     refine ai (gJ (X:=þ) _ s9 σ7 H9 (.ref D) [v] (.ref D) [u9] (λ_ H10=>H10=upd H9 D (.lst (ys++[v]))) I9 rfl (.cons r9 .nil) ⟨D,ys,v,rfl,rfl,hD9,z7,rfl⟩) λ_ jv ⟨_,H10,I10,_,e10⟩=>?_
     subst e10;have smD:aI H (upd H9 D (.lst (ys++[v]))):=λb ob e=>by
      rw[aK (aS e lz)];exact mw _ _ (smH8 _ _ e)
     have mvD:aM X.K H9 (upd H9 D (.lst (ys++[v]))) (λa=>S a\/a=D) (λa=>S a\/a=D):=λa n _=>⟨n,λob e=>by rw[aK (λz=>n (.inr z))];exact e⟩
     refine next jv _ (ys++[v]) (pre++[y]) I10 smD aL ?_ (by rw[vt];simp;lia) ?_
     .exact aC.gen mvD _ _ (aC.app (((rp.same qj).same jt).same mw) (aC.cons rv aC.nil))
     .rw[ho,hpost,vd];rfl
   rcases c7 with ⟨hifs,hsome⟩|⟨e,hifs,hpt⟩
   .subst hifs;refine wpAny_tests_nil ?_;have z:=fin s7 H7 I7 (aI.refl _)
    rw[hsome]at z;exact z
   .subst hifs;refine wpAny_tests_one (ai (hpt _ s7 σ7 H7 (λb H8=>b=o.isSome/\aI H7 H8) I7 ⟨ql,λH8 jt=>⟨rfl,jt⟩⟩) λb s8 ⟨H8,I8,eb,jt⟩=>?_)
    subst eb;exact fin s8 H8 I8 jt
  .have ei:i=ds.length:=by lia
   subst ei;refine ai (TU.done þ rfl rfl rfl h.calm ds.length [] s' V' H' EN IY (gc fri) sti (qx _ (ux _))) λr s5 ⟨hr,I5⟩=>?_
   subst hr;have hp0:R=[]:=by
    rw[xt]at kl;simp only[cK,u4]at kl;exact kl.symm
   subst hp0;rw[vx]at ho;subst ho;obtain⟨m,hnC,_⟩:=I5.loc;have I9:Inv X pins V H' s5:=I3.call' I5.os I5.base I5.hok I5.bare λb hb=>⟨(hf b hb).2.2.2.1,(hf b hb).2.1,(hf b hb).2.2.2.2.1,(hf b hb).2.2.2.2.2⟩
   have hCs:s.heap.objs.size<=C:=by rw[hD,hC];exact x6 _
   refine hRR D C s5 H' ys m I9 same lz hHD (aC.disown (p:=D) (.inr rfl) (λa z=>.inl z) rp) hnC ⟨I5.free,?_,vm I.sz hCs,λx a e=>?_,λp hp=>?_⟩
   .intro z;have:=I.lt
    rw[<-z]at this;exact absurd this (not_lt.mpr hCs)
   .intro z;obtain⟨v,ob,h5,_⟩:=I.cell x a e;rw[z]at h5;exact absurd (vk h5) (not_lt.mpr hCs)
   .intro z;have:=(I.pin p hp).1
    rw[z]at this;exact absurd (vk this) (not_lt.mpr hCs)
 exact codeAny_compStart_list (loop E _ rfl) (TU.self X.A 0 _ _ _ (TU.keep _ _ _ st λb _ o e=>k4 b o (k3 b o e)) (loop E _ rfl))
end
section
variable {CX:aq}{X:Cx}{c:CC}{G:GS}{T:Tx}{lv:Nat}{B:List Sl}{S:Addr->Prop}{tg:Expr}
def MT{a:Addr}{ds:List D}(n:¬S a)(hq:SqL X.K H1 a xs)(r:aC X.K T H1 S ds xs):kn X.K T S H1 (Itl X.K a) ds:=λH S' mv dom=>by obtain⟨n',k⟩:=mv a n (SqL.has hq);have z:=SqL.keeps hq k;refine⟨λi d e=>?_,λi hi=>⟨xs,z,by rw[<-r.len];exact hi⟩⟩;obtain⟨x,e1,I⟩:=r.get e;refine⟨⟨xs,x,z,e1⟩,λy H' ⟨W,R⟩=>?_⟩;subst W;have:=R xs z;rw[e1]at this;cases this;exact⟨aI.refl _,Rep.gen mv d x I⟩
def WY{a:Addr}{ds:List D}(n:¬S a)(hq:SqT X.K H1 a xs)(r:aC X.K T H1 S ds xs):kn X.K T S H1 (Itt X.K a) ds:=λH S' mv dom=>by obtain⟨n',k⟩:=mv a n (SqT.has hq);have z:=SqT.keeps hq k;refine⟨λi d e=>?_,λi hi=>⟨xs,z,by rw[<-r.len];exact hi⟩⟩;obtain⟨x,e1,I⟩:=r.get e;refine⟨⟨xs,x,z,e1⟩,λy H' ⟨W,R⟩=>?_⟩;subst W;have:=R xs z;rw[e1]at this;cases this;exact⟨aI.refl _,Rep.gen mv d x I⟩
def EI{lo hi:Int}:kn X.K T S H1 (qe lo (hi-lo).toNat) (cZ lo hi):=λH S' mv dom=>by
 refine⟨λi d e=>?_,λi h=>by show (hi-lo).toNat<=i;unfold cZ at h;rw[uw,vh]at h;exact h⟩;unfold cZ at e;rw[uv]at e;cases hr:(List.range (hi-lo).toNat)[i]? with
 |none=>rw[hr]at e;cases e
 |some k=>
  obtain⟨h1,e'⟩:=u0.mp hr;have ek:k=i:=by simpa using e'.symm
  subst ek;rw[hr]at e;simp only[wz,u4]at e;subst e;refine⟨by show k<(hi-lo).toNat;simpa using h1,λy H' ⟨I,z⟩=>?_⟩;subst I z;exact⟨aI.refl _,by unfold Rep;rfl⟩
def UZ{l:Expr}{d:D}{ds:List D}(hl:PE X l (tD X.K T S B d))(hi:items .seq d=O ds):PI X tg l (tI X.K T S B ds):=by
 intro pins s V H R I ⟨re,q⟩;refine ai (hl pins s V H (λv H'=>aI H H'/\Rep X.K T H' S d v) I ⟨re,λv H' a b=>⟨a,b⟩⟩) λv s1 ⟨x,H1,I1,W,sm,rep⟩=>?_;have z:∀(a:Addr) (xs:List σ),x=.ref a->¬S a->SqL X.K H1 a xs->aC X.K T H1 S ds xs->wpAny (model X.prog X.w) X.A (pyIter v) (PIE X pins V tg R) X.xe s1:=λa xs e n hq r=>by
  subst e;cases W;obtain⟨its,rv,p,hz⟩:=I1.list hq;refine wpAny_pyIter_list p.isList ?_;refine⟨s1.heap.objs.size,[s1.heap.objs.size],_,_,H1,rfl,I1.kept (t':=s1.toks) λb o e=>v3 _ e,FZ a _,⟨_,wy _ rfl,rfl,rfl⟩,λb hb=>?_,q _ _ sm (MT n hq r) (by rw[r.len];exact hz)⟩;have e:b=s1.heap.objs.size:=by simpa using hb
  subst e;exact I1.fpOk (ux _) (I1.hok.fresh (ux _))
 cases d<;>simp only[items,ZV,reduceCtorEq,u4]at hi
 subst hi;unfold Rep at rep;obtain⟨a,xs,e,n,hq,r⟩:=rep;exact z a xs e n (SqL.of hq) r;subst hi;unfold Rep at rep;obtain⟨a,xs,e,n,hq,r⟩:=rep;subst e;cases W;obtain⟨its,rv,p,hz⟩:=I1.tuple hq;refine wpAny_pyIter_tuple (show s1.heap.IsTuple a its.toArray from p) ?_;refine⟨s1.heap.objs.size,[s1.heap.objs.size],_,_,H1,rfl,I1.kept (t':=s1.toks) λb o e=>v3 _ e,AG a _,⟨_,wy _ rfl,rfl,rfl⟩,λb hb=>?_,q _ _ sm (WY n hq r) (by rw[r.len];exact hz)⟩;have e:b=s1.heap.objs.size:=by simpa using hb
 subst e;exact I1.fpOk (ux _) (I1.hok.fresh (ux _));subst hi;unfold Rep at rep;obtain⟨a,xs,e,n,hq,r⟩:=rep;exact z a xs e n hq r
def sU{lo hi:Int}(h:(hi-lo).toNat<=big):(cZ lo hi).length<=sizeLine:=by unfold cZ;rw[uw,vh];exact vm h fC
def gY{i:Int}(h:eN i=Y):-(2 ^ 62)<=i/\i<2 ^ 62:=by unfold eN at h;rw[va]at h;exact⟨of_decide_eq_true h.1,of_decide_eq_true h.2⟩
def VA{args:List Expr}{p:Pos}{as ds:List D}(hg:Gl X "range")(hm:X.mg "range"=U)(ha:PA X args (da X.K T S B as))(hs:starEach args X.env=args.map λe=>(J,eval e X.env))(hi:items .rng (.tup as)=O ds)(hlen:as.length=args.length):PI X tg (.Call (.Name "range" p) args [] pos) (tI X.K T S B ds):=by
 simp only[items]at hi;unfold EJ at hi;split at hi;rename_i j;split at hi;rename_i hc;rw[va]at hc;cases hi;obtain⟨b1,b2⟩:=gY hc.1;match args,hlen with
 |[a],_=>intro pins s V H R I ⟨re,q⟩;refine GT hg hm ha hs pins s V H R I ⟨re,λvs H' sm r=>?_⟩;unfold aC at r;obtain⟨x,r',rfl,W,z⟩:=r;unfold aC at z;subst z;unfold Rep at W;subst W;refine⟨j,rfl,b1,b2,?_⟩;have hz:=sU (lo:=0) (hi:=j) (by simpa using of_decide_eq_true hc.2);have:=q (qe 0 (j-0).toNat) H' sm EI hz;simpa using this
 cases hi;rename_i i j;split at hi;rename_i hc;rw[va,va]at hc;cases hi;obtain⟨b1,b2⟩:=gY hc.1.1;obtain⟨b3,b4⟩:=gY hc.1.2;match args,hlen with
 |[a,b],_=>
  intro pins s V H R I ⟨re,q⟩;refine GQ hg hm ha hs (by
   have h2:=congrArg List.tail hs;have e:starEach [a,b] X.env=(J,eval a X.env)::starEach [b] X.env:=by cases a<;>first|rfl|(simp[starEach]at hs)
   rw[e]at h2;exact h2) pins s V H R I ⟨re,λvs H' sm r=>?_⟩
  unfold aC at r;obtain⟨x,r',rfl,W,z⟩:=r;unfold aC at z;obtain⟨y,r'',rfl,ry,z⟩:=z;unfold aC at z;subst z;unfold Rep at W ry;subst W ry;exact⟨i,j,rfl,⟨b1,b2,b3,b4⟩,q _ H' sm EI (sU (of_decide_eq_true hc.2))⟩
 cases hi;cases hi
def qX(h:XC CX X c G T lv)(I:Inv X pins V H s)(cs:bb c sc):∀x∈sc.names,x.2=.free->∃a,X.env.cells.lookup x.1=O a:=λx hx hf=>by refine I.ok.has x.1 ?_;have k:=h.kd x.1;rcases cs.fre x hx hf with e|e;rw[e]at k;exact .inl k;rw[e]at k;rcases k with k|k;exact .inr k;exact .inl k
def VF(h:XC CX X c G T lv)(chk:lY c sc=Y){fr:List (Nat×Nat)}{ds R:List D}{f:D->Option (Option D)} (au:freeOf c sc (sc.names.filter λx=>x.2 == .free)=O fr) (rh:bg.all (λi=>(fr.lookup i).isNone)=Y) (gh:dD {c with N:=ownNames sc,sc:=sc} tg=O (bg,tp)) (hi:PI X tg iter (tI X.K T S B ds)) (hs:∀x,foldedSetIterable iter X.env x=pure x) (jh:cK f ds=O R) (fv:∀d o,f d=O o->∃ρ1,bB bg tp d (frame (ownNames sc).length fr B)=O ρ1/\TurnOk CX G T lv {c with N:=ownNames sc,sc:=sc} X.K ifs elt ρ1 o):PE X (.ListComp elt [⟨tg,iter,ifs,0⟩] sc pos) (d9 X.K T S B R):=by intro pins s V H Q I ⟨re,q⟩;have cs:=uD chk;obtain⟨cl,W,bp,cb⟩:=rM (qX h I cs);rw[eval_ListComp];refine wpAny_comprehension_free (use:=U) rfl hs W cs.kind cs.loc (ai (hi pins s V H (λæ H2=>aI H H2/\kn X.K T S H2 æ ds/\ds.length<=sizeLine) I ⟨re,λæ H2 a b z=>⟨a,b,z⟩⟩) λv s1 h1=>ai h1 λitv s2 h2=>?_);obtain⟨it,fp,tn,æ,H2,e,I2,TU,jb,f2,sm,ke,hlen⟩:=h2;subst e;refine rK (RR:=λacc C=>compPost (model X.prog X.w) X.A X.xe U (EP X pins V Q) acc C) h cs au rh gh bp cb I2 (re.same sm) TU jb f2 ke hlen jh fv ?_;intro D C s' H' ys m I' sm' hD hD' rp hn ⟨c1,c2,c3,c4,c5⟩;refine⟨m,hn,λh' dw=>⟨.ref D,H',I'.turned (t':=s'.toks) (λb o hb e=>dw.extBut b o hb e) c1 c2.symm.symm (.inr c3) c4 c5,rfl,?_⟩⟩;exact q D ys H' (sm.trans sm') (sm.free hD) hD' rp
def DP(h:XC CX X c G T lv)(chk:lY c sc=Y){R px:Pos}{fr:List (Nat×Nat)}{ds W:List D}{f:D->Option (Option D)} (au:freeOf c sc (sc.names.filter λx=>x.2 == .free)=O fr) (rh:bg.all (λi=>(fr.lookup i).isNone)=Y) (gh:dD {c with N:=ownNames sc,sc:=sc} tg=O (bg,tp)) (hi:PI X tg iter (tI X.K T S B ds)) (hs:∀x,foldedSetIterable iter X.env x=pure x) (hx:eS c (.Name x px)=O i) (hsw:swapsWith (.ListComp elt [⟨tg,iter,ifs,0⟩] sc pos) (O (.Name x px)) R.line X.env=pure Y) (jh:cK f ds=O W) (fv:∀d o,f d=O o->∃ρ1,bB bg tp d (frame (ownNames sc).length fr B)=O ρ1/\TurnOk CX G T lv {c with N:=ownNames sc,sc:=sc} X.K ifs elt ρ1 o):PS X (.Assign [.Name x px] (.ListComp elt [⟨tg,iter,ifs,0⟩] sc pos) R) (λD V H=>RE X.K T H S B V/\∀p xs H',aI H H'->H p=U->H' p=O (.lst xs)->aC X.K T (er H' p) S W xs->D.nx (V.set i (O (.ref p))) H'):=by
 intro pins s V H DD I ⟨re,q⟩;have cs:=uD chk;obtain⟨cl,hclos,bp,cb⟩:=rM (qX h I cs);rw[exec_Assign_Name_used _ _ _ _ hsw];refine wt (wpAny_standAt (wt ?_));show wpAny _ X.A (do let _ <-comprehension (.ListComp elt [⟨tg,iter,ifs,0⟩] sc pos) sc X.env _ (newList []) J (eval iter X.env) (O (assign (.Name x px) X.env))) _ _ s;refine wt (wx (wpAny_comprehension_free (use:=O (assign (.Name x px) X.env)) (Q:=λ_ s'=>SP X pins DD .next s') rfl hs hclos cs.kind cs.loc (ai (hi pins s V H (λæ H2=>aI H H2/\kn X.K T S H2 æ ds/\ds.length<=sizeLine) I ⟨re,λæ H2 a b z=>⟨a,b,z⟩⟩) λv s1 h1=>ai h1 λitv s2 h2=>?_)) (λ_ s' hq=>wu (wu hq)) λ_ _ e=>e);obtain⟨it,fp,tn,æ,H2,e,I2,TU,jb,f2,sm,ke,hlen⟩:=h2;subst e;refine rK (RR:=λacc C=>compPost (model X.prog X.w) X.A X.xe (O (assign (.Name x px) X.env)) (λ_ s'=>SP X pins DD .next s') acc C) h cs au rh gh bp cb I2 (re.same sm) TU jb f2 ke hlen jh fv ?_;intro D C s' H' ys m I' sm' hD hD' rp hn ⟨c1,c2,c3,c4,c5⟩;obtain⟨hN,hk⟩:=gP hx;obtain⟨hl,hf⟩:=h.loc hk;show wpAny _ X.A (assign (.Name x px) X.env (.ref D)) _ _ _;refine wpAny_assign_Name (sP I' (by rw[h.N];exact h.nd) (by rw[h.N];exact hN) hl (v:=.ref D) (u:=.ref D) rfl (λqk I'' ⟨a,sb,ha⟩=>?_) hf);have hCa:C≠a:=by rcases ha with z|z;rw[z];exact c2;exactλw=>c4 x a z w.symm
 refine⟨m,hn.sameBut sb hCa,λh' dw=>⟨_,H',I''.turned (t':=qk.toks) (λb o hb e=>dw.extBut b o hb e) c1 c2 (.inr c3) c4 c5,q D ys H' (sm.trans sm') (sm.free hD) hD' rp⟩⟩
end
noncomputable def Itv(K:xx)(a:Addr)(n:Nat):It:=⟨λi H=>∃xs x,SqL K H a xs/\xs.length=n/\xs[n-1-i]?=O x/\i<n,λi H x H'=>H'=H/\∀xs,SqL K H a xs->xs[n-1-i]?=O x,λi H=>n<=i⟩
def JF(a it:Addr)(n:Nat):Turn P w K tg (Itv K a n) [it] it (λi h=>i<=n/\h.IsRevIter it a ((n:Int)-1-(i:Int))) where
 mem:=by simp
 obj:=λi h st b hb=>by
  have e:b=it:=by simpa using hb
  subst e;obtain⟨_,o,e,c,d⟩:=st;exact⟨o,e,λv z=>by rw[d]at z;cases z⟩
 keep:=λi h h' st k=>⟨st.1,st.2.at λo e=>k it Ab o e⟩
 item:=by
  intro X hP hw hK hc i pins s V H E I hf st hg;subst hP hw hK;obtain⟨xs,x,hq,hn,hx,hi⟩:=hg;obtain⟨its,rv,p,hz⟩:=I.list hq;obtain⟨u,hu,ru⟩:=rv.get hx;obtain⟨f0,f1,f2,f3,f4,f5⟩:=hf it Ab
  have e1:(n:Int)-1-(i:Int)=((n-1-i:Nat):Int):=by lia
  have jc:=st.2
  rw[e1]at jc;refine wpAny_pyNext_rev_item jc p.isList (x:=u) (by simpa using hu) λh' ae sb=>?_
  have I1:Inv X pins V H {s with heap:=h' }:=I.turned (t':=s.toks) (λb o hb e=>(sb.2 b hb).trans e) f0 f1 f3 f4 f5
  obtain⟨o,e,c,d⟩:=id ae;have e2:((n-1-i:Nat):Int)-1=(n:Int)-1-((i+1:Nat):Int):=by lia
  rw[e2]at ae;exact⟨u,rfl,EV (s:={s with heap:=h' }) e c d Aa ⟨x,H,I1,ru,⟨rfl,λys hy=>by rw[I.list_inj hy hq];exact hx⟩,⟨hi,ae⟩,λb hb=>(hf b hb).1⟩⟩
 done:=by
  intro X hP hw hK hc i pins s V H E I hf st hg;subst hP hw hK;have km:n<=i:=hg
  have ei:i=n:=Nat.le_antisymm st.1 km
  subst ei;obtain⟨f0,f1,f2,f3,f4,f5⟩:=hf it Ab
  have e1:(i:Int)-1-(i:Int)=-1:=by lia
  have jc:=st.2
  rw[e1]at jc;exact wpAny_pyNext_rev_end (I.ok.hd hc) jc λh' eb=>⟨rfl,I.turned (t':=s.toks) (λb o hb e=>eb b o hb e) f0 f1 f3 f4 f5⟩
 self:=λ_ _ _ _ _ st h=>wpAny_pyIter_revIter st.2 h
section
variable {CX:aq}{X:Cx}{c:CC}{G:GS}{T:Tx}{lv:Nat}{B:List Sl}{S:Addr->Prop}{tg:Expr}
def WZ{a:Addr}{ds:List D}(n:¬S a)(hq:SqL X.K H1 a xs)(r:aC X.K T H1 S ds xs):kn X.K T S H1 (Itv X.K a xs.length) ds.reverse:=λH S' mv dom=>by
 obtain⟨n',k⟩:=mv a n (SqL.has hq);have z:=SqL.keeps hq k;have hl:=r.len;refine⟨λi d e=>?_,λi hi=>?_⟩;have hi:i<ds.length:=by have:=(u0.mp e).1;simpa using this
 rw[List.getElem?_reverse hi]at e;obtain⟨x,e1,I⟩:=r.get e;rw[hl]at e1 hi;refine⟨⟨xs,x,z,rfl,e1,hi⟩,λy H' ⟨W,R⟩=>?_⟩;subst W;have:=R xs z;rw[e1]at this;cases this;exact⟨aI.refl _,Rep.gen mv d x I⟩;show xs.length<=i;rw[<-hl];simpa using hi
def VB{a:Expr}{p:Pos}{d:D}{ds:List D}(hg:Gl X "reversed")(hm:X.mg "reversed"=U)(ha:PA X [a] (da X.K T S B [d]))(hs:starEach [a] X.env=[(J,eval a X.env)])(hi:yR d=O ds):PI X tg (.Call (.Name "reversed" p) [a] [] pos) (tI X.K T S B ds):=by
 intro pins s V H R I ⟨re,q⟩;refine Call_ (fT I hg hm boot_reversed (vp (ai (ha pos pins s V H (λvs H'=>aI H H'/\aC X.K T H' S [d] vs) I ⟨re,λvs H' a b=>⟨a,b⟩⟩) λus s1 ⟨vs,H1,I1,r1,sm,z⟩=>?_) hs rfl));unfold aC at z;obtain⟨x,r',rfl,rx,rr⟩:=z;unfold aC at rr;subst rr;cases r1 with
 |cons r rr=>
  cases rr;cases d<;>simp only[yR,reduceCtorEq,u4]at hi
  rename_i ds';subst hi;unfold Rep at rx;obtain⟨l,xs,e,n,hq,z⟩:=rx;subst e;cases r;obtain⟨its,rv,pl,hz⟩:=I1.list (SqL.of hq);have hlen:=rv.length;refine call_reversed_list pl.isList ?_;have I2:Inv X pins V H1 {s1 with heap:=s1.heap.push (revObj l ((its.toArray.size:Int)-1))}:=I1.kept (t':=s1.toks) λb o e=>v3 _ e;have W:({s1 with heap:=s1.heap.push (revObj l ((its.toArray.size:Int)-1))}:Shared).heap.IsRevIter s1.heap.objs.size l ((xs.length:Int)-1):=by
   refine⟨_,wy _ rfl,rfl,?_⟩;have:(its.toArray.size:Int)=(xs.length:Int):=by rw[v9,hlen]
   show Data.fields #[.ref l,rawInt ((its.toArray.size:Int)-1)]=_;rw[this]
  refine wpAny_pyIter_revIter W ?_;refine⟨s1.heap.objs.size,[s1.heap.objs.size],_,_,H1,rfl,I2,JF l _ xs.length,⟨xq _,by simpa using W⟩,λb hb=>?_,q _ _ sm (WZ n (SqL.of hq) z) ?_⟩;have e:b=s1.heap.objs.size:=by simpa using hb
  subst e;exact I1.fpOk (ux _) (I1.hok.fresh (ux _));rw[xr,z.len];exact hz
end
def pN:bootBuiltins "list"=O (.type "list"):=z9
def HA:typeLookup (.type "list_reverseiterator") "__len__"=pure U:=by rw[typeLookup_type,builtinLookup_eq_fast];kernel_rfl
def NN:typeLookup (.type "list_reverseiterator") "__length_hint__"=pure (O (.builtin "list_reverseiterator.__length_hint__")):=by rw[typeLookup_type,builtinLookup_eq_fast];kernel_rfl
section
variable {prog:y8}{w:World}{A:Around}{E:y9}{s:Shared}
def sC{I l:Addr}{items:Array Value}(hh:A.handled=U)(f9:l≠I)(hit:s.heap.IsRevIter I l ((items.size:Int)-1))(hl:s.heap.IsList l items)(hz:items.size<=sizeLine) (hQ:∀h' tk c9 c',(∀b o,b≠I->s.heap.get? b=O o->h'.get? b=O o)->h'.get? s.heap.objs.size=O {cls:=.type "list",dict:=U,data:=.seq c9 c',slots:=#[]} ->c9=items.reverse->Q (.ref s.heap.objs.size) {s with heap:=h',toks:=tk}):wpAny (model prog w) A (call (.type "list") [.ref I]) Q E s:=by
 refine callType_codes (Q₁:=λobj s₁=>obj=.ref s.heap.objs.size/\s₁={s with heap:=s.heap.push {cls:=.type "list",data:=.seq #[]} }) F.called_list (F.typeCall_list_1 _) F.entry_list_init (code_list_new _ ⟨rfl,rfl⟩) λobj s₁ h₁=>?_;obtain⟨rfl,rfl⟩:=h₁;have hIlt:I<s.heap.objs.size:=by obtain⟨o,e,_⟩:=hit;exact vk e
 have hllt:l<s.heap.objs.size:=by obtain⟨o,e,_⟩:=hl;exact vk e
 have hS:(s.heap.push {cls:=.type "list",data:=.seq #[]}).get? s.heap.objs.size=O {cls:=.type "list",data:=.seq #[]}:=wy _ rfl;have hup:∀b o,s.heap.get? b=O o->(s.heap.push {cls:=.type "list",data:=.seq #[]}).get? b=O o:=λb o e=>v3 _ e;refine⟨⟨_,hS,rfl⟩,F.args_list_init_2 _ _,?_⟩;generalize hSe:s.heap.objs.size=S at *;generalize hs1:s.heap.push {cls:=.type "list",data:=.seq #[]}=h1 at *;have hSI:S≠I:=Nat.ne_of_gt hIlt;have hSl:S≠l:=Nat.ne_of_gt hllt;show wpAny _ _ (do let old <-Builtin.List.listItems (.ref S);Builtin.List.listUpdate (.ref S) (λ_=>#[]);letGo old.toList.reverse;Builtin.List.listExtendWith (.ref S) (.ref I) .none) _ _ _;refine wt ?_;unfold Builtin.List.listItems;refine wt (wpAny_seqItems hS rfl (wu ?_));show wpAny _ _ (updateSeq S (λ_=>#[]) >>= λ_=>letGo (#[]:Array Value).toList.reverse >>= λ_=>Builtin.List.listExtendWith (.ref S) (.ref I) .none) _ _ _;refine wt (wpAny_updateSeq hS rfl ?_);have hS₂:=Heap.get?_update_self (Obj.mapSeq (λ_=>(#[]:Array Value))) hS rfl;have oth:∀b o,b≠S->h1.get? b=O o->(h1.update S (Obj.mapSeq (λ_=>(#[]:Array Value)))).get? b=O o:=λb o hb e=>(Heap.get?_update_other _ _ (Ne.symm hb)).trans e;refine wt (wpAny_letGo ?_);generalize h1.update S (Obj.mapSeq (λ_=>(#[]:Array Value)))=h2 at *;have W:=(Walks.listRev (prog:=prog) (w:=w) (A:=A.in1.in1) hh I l f9 items).toS;have R:h2.IsRevIter I l ((items.size:Int)-1-((0:Nat):Int)):=by
  have e0:(items.size:Int)-1-((0:Nat):Int)=(items.size:Int)-1:=by lia
  rw[e0];exact hit.at λo e=>oth I o (Ne.symm hSI) (hup _ _ e)
 have ik:h2.IsList l items:=hl.at λo e=>oth l o (Ne.symm hSl) (hup _ _ e);have hT:({s with heap:=h2}:Shared).TypeIs (.ref I) "list_reverseiterator":=R.typeIs (s:={s with heap:=h2});have hSf:S∉[I,l]:=by simp[hSI,hSl]
 have hs1':Builtin.List.listSameRef (.ref S) (.ref I)=J:=by simp[Builtin.List.listSameRef,hSI]
 show wpAny _ _ (Builtin.List.listExtendWith (.ref S) (.ref I) .none) _ _ {s with heap:=h2};unfold Builtin.List.listExtendWith;refine wt (wpAny_typeOf hT ?_);rw[if_neg (by rw[hs1'];decide)];refine wt (W.self 0 _ _ _ ⟨xq _,R,ik⟩ ?_);refine wt (wpAny_holding ?_);unfold Builtin.List.listLengthHint;refine wt (wpAny_specialOf hT HA ?_);show wpAny _ _ (specialOf (Value.ref I) (Str.ofString "__length_hint__") >>= _) _ _ _;refine wt (wpAny_specialOf hT NN ?_)
 (generalize de:("list_reverseiterator.__length_hint__":String)=id0;(fail_if_success (clear de id0));wp_delta;rw[show splitId id0=O ("list_reverseiterator","__length_hint__") from by subst de;decide +kernel];subst de)
 refine wt (wpAny_isInstance (b:=Y) hT (by rw[isSubtype_type];kernel_rfl) ?_);refine wu ?_;rw[if_neg Aa];refine wu ⟨plainId_quiet F.plain_extend_loop _,codeAny_extend_loopS W hz S hSf _ items.size 0 _ _ _ rfl (xq _) ⟨xq _,R,ik⟩ hS₂ (ItemsOf.nil _) λs' c9 c' hm j3 d6=>?_⟩;refine⟨rfl,?_⟩;rw[Moved.eq_with hm];refine hQ s'.heap s'.toks c9 c' (λb o hb e=>?_) j3 ?_;have hbS:b≠S:=λz=>by subst z;exact absurd (vk e) (by rw[hSe];exact wq _)
 exact hm.heap b o (by simp[hbS,hb]) (oth b o hbS (hup _ _ e));obtain⟨kj,ik⟩:=d6;apply Array.ext;rw[kj,Array.size_reverse];intro i h3 h4;have h5:=ik i c9[i] (Array.getElem?_eq_getElem h3);rw[Array.getElem_reverse];obtain⟨_,e⟩:=Array.getElem?_eq_some_iff.mp h5;exact e.symm
end
section
variable {CX:aq}{X:Cx}{c:CC}{G:GS}{T:Tx}{lv:Nat}{B:List Sl}{S:Addr->Prop}
def AX{a:Expr}{p je:Pos}{d:D}{ds:List D}(hc:X.calm=Y)(hg:Gl X "reversed")(hm:X.mg "reversed"=U)(il:Gl X "list")(se:X.mg "list"=U)(ha:PA X [a] (da X.K T S B [d]))(hs:starEach [a] X.env=[(J,eval a X.env)])(hi:yR d=O ds):PE X (.Call (.Name "list" p2) [.Call (.Name "reversed" p) [a] [] pos] [] je) (d9 X.K T S B ds):=by
 intro pins s V H Q I ⟨re,q⟩;refine Call_ (fT I il se pN (vp (Calls.spliced_cons (Call_ (fT I hg hm boot_reversed (vp (ai (ha pos pins s V H (λvs H'=>aI H H'/\aC X.K T H' S [d] vs) I ⟨re,λvs H' a b=>⟨a,b⟩⟩) λus s1 ⟨vs,H1,I1,r1,sm,rl⟩=>?_) hs rfl)))) rfl rfl));unfold aC at rl;obtain⟨x,r',rfl,rx,W⟩:=rl;unfold aC at W;subst W;cases r1 with
 |cons r W=>
  cases W;cases d<;>simp only[yR,reduceCtorEq,u4]at hi
  rename_i ds';subst hi;unfold Rep at rx;obtain⟨l,xs,e,n,hq,rl⟩:=rx;subst e;cases r;obtain⟨its,rv,pl,hz⟩:=I1.list (SqL.of hq);have R:=rv.length;refine call_reversed_list pl.isList ?_;refine Calls.spliced_nil ?_;have z:l<s1.heap.objs.size:=by obtain⟨o,e,_⟩:=pl.isList;exact vk e
  refine sC (I:=s1.heap.objs.size) (items:=its.toArray) (I1.ok.hd hc) (wj z) ⟨_,wy _ rfl,rfl,rfl⟩ (pl.isList.at λo e=>v3 _ e) (by rw[v9,<-R];exact hz) λh' tk c9 c' hk j3 d6=>?_;have e1:(s1.heap.push (revObj l ((its.toArray.size:Int)-1))).objs.size=s1.heap.objs.size+1:=size_push ..;have I3:Inv X pins V (upd H1 (s1.heap.push (revObj l ((its.toArray.size:Int)-1))).objs.size (.lst xs.reverse)) {s1 with heap:=h',toks:=tk}:=by refine I1.laid (λb u e=>hk b u (wj (vk e)) (v3 _ e)) (by rw[e1];exact x6 _) ?_;refine⟨by rw[xr];exact hz,its.reverse,c',aX.reverse rv,?_⟩;rw[j3,d6];simp
  have au:H1 (s1.heap.push (revObj l ((its.toArray.size:Int)-1))).objs.size=U:=I1.hok.fresh (by rw[e1];exact x6 _);exact⟨.ref _,_,I3,rfl,q _ xs.reverse _ (sm.trans (aI.upd au)) (sm.free au) aL (by rw[iD au];exact rl.rev)⟩
end
section
variable {CX:aq}{X:Cx}{c:CC}{G:GS}{T:Tx}{lv:Nat}{B:List Sl}{S:Addr->Prop}{pos:Pos}{ea eb ec:Expr}{a b d:D}
def DE(h:slot B i=O d):B[i]?=O (.im d):=by unfold slot at h;split at h;rename_i e;cases h;exact e;cases h
def ZQ(h:XC CX X c G T lv)(e:bE c x=O i)(hs:slot B i=O d):PE X (.Name x pos) (tD X.K T S B d):=by obtain⟨hN,hk⟩:=pG e;have hm:x∈c.N:=u5 hN;refine PE.mono (lN (by rw[h.N];exact hN) (h.vis hk) (h.dbg x hm).1 (h.dbg x hm).2) λV H Q ⟨re,q⟩=>?_;obtain⟨v,e1,r⟩:=re.at_ i _ (DE hs);exact⟨v,e1,q v H (aI.refl H) r⟩
def fN(h:XC CX X c G T lv)(e:bE c x=O i):PE X (.Name x pos) (pV i):=by obtain⟨hN,hk⟩:=pG e;have hm:x∈c.N:=u5 hN;exact lN (by rw[h.N];exact hN) (h.vis hk) (h.dbg x hm).1 (h.dbg x hm).2
def aFq(h:XC CX X c G T lv)(e:aV c x=Y)(hc:c.csts.contains x=Y)(hd:G.cst x=O d):PE X (.Name x pos) (tD X.K T S B d):=by obtain⟨u,v,e1,r,hr⟩:=h.go.cst x d hd hc;intro pins s V H Q I ⟨re,q⟩;exact dZ I (h.glob e) e1 ⟨v,H,I,r,q v H (aI.refl H) (hr H S (MQ I) re.dom)⟩ (h.gne e)
def aFo{i:Int}{j:Nat}:PE X (.Constant (.int i) j pos) (tD X.K T S B (.int i)):=PE.mono nG λV H Q ⟨re,q⟩=>q _ H (aI.refl H) (by unfold Rep;rfl)
def aGN{i:Bool}{j:Nat}:PE X (.Constant (.bool i) j pos) (tD X.K T S B (.bl i)):=PE.mono LD λV H Q ⟨re,q⟩=>q _ H (aI.refl H) (by unfold Rep;rfl)
def aFa{i:Str}{j:Nat}:PE X (.Constant (.str i) j pos) (tD X.K T S B (.str i)):=PE.mono iA λV H Q ⟨re,q⟩=>q _ H (aI.refl H) (by unfold Rep;rfl)
def aFg{j:Nat}:PE X (.Constant .none j pos) (tD X.K T S B .non):=PE.mono aBA λV H Q ⟨re,q⟩=>q _ H (aI.refl H) (by unfold Rep;rfl)
def pS{o:O2}(hd:ah o a b=O d):∀V H Q,tD X.K T S B d V H Q->ka (rD X.K T S o) (tD X.K T S B a) (tD X.K T S B b) V H Q:=λV H Q ⟨re,q⟩=>⟨re,λx H1 s1 W=>⟨re.same s1,λy H2 s2 R=>⟨a,b,d,((re.same s1).same s2).dom,W.same s2,R,hd,λv H' z I=>q v H' (s1.trans (s2.trans z)) I⟩⟩⟩
def aFv{op:Operator}{o:O2}(ho:VQ op=O o)(ha:PE X ea (tD X.K T S B a))(hb:PE X eb (tD X.K T S B b))(hd:ah o a b=O d):PE X (.BinOp ea op eb pos) (tD X.K T S B d):=PE.mono (ZK (VV ho) ha hb) (pS hd)
def GV:ba X (compareOp .IsNot) (rD X.K T S .isnot):=by
 rintro pins s V H x y v u Q I rx W ⟨a,b,d,dom,z,R,e,q⟩;have go:∀k,b=.non->k=decide (x=σ.non)->d=.bl (!k)->wpAny (model X.prog X.w) X.A (compareOp .IsNot v u) (EP X pins V Q) X.xe s:=λk hb hk hd=>by
  subst hb hd hk;unfold Rep at R;exact VN pins s V H x y v u Q I rx W ⟨R,q _ H (aI.refl H) cG⟩
 simp only[ah,LX,isD]at e;split at e<;>simp only[wz,Option.map_none,u4,reduceCtorEq]at e
 all_goals subst e
 all_goals first
  | (unfold Rep at z;refine go _ rfl ?_ rfl;first|(subst z;rfl)|(obtain⟨_,_,rfl,_⟩:=z;rfl)|(obtain⟨_,_,_,_,rfl,_⟩:=z;rfl))
  | (unfold Rep at z R
     subst z R;cases rx;cases W;exact isnot_bool ⟨.bl _,H,I,rfl,q _ H (aI.refl H) cG⟩)
def fJ(hu:X.A.units+64<cLine)(op:CmpOp):ba X (compareOp op) (rD X.K T S (lG op)):=by cases op;exact aBT hu;exact aBM hu;exact aBN;exact aBO;exact aBR;exact aBS;exact aBP;exact GV;exact aBQ hu;exact GU hu
def aFu(hu:X.A.units+64<cLine)(ha:PE X ea (tD X.K T S B a))(hb:PE X eb (tD X.K T S B b))(hm:behindInMarks op eb=J)(hd:ah (lG op) a b=O d):PE X (.Compare ea [op] [eb] pos) (tD X.K T S B d):=PE.mono (VG (fJ hu op) ha hb hm) (pS hd)
def aCk(hu:X.A.units+64<cLine){k:Bool}(ha:PE X ea (tD X.K T S B a))(hb:PE X eb (tD X.K T S B b))(hm:behindInMarks op eb=J)(hd:ah (lG op) a b=O (.bl k)):PT X (.Compare ea [op] [eb] pos) (i5 X.K T S B k):=PT.mono (DO (fJ hu op) ha hb hm) λV H Q ⟨re,q⟩=>pS hd V H _ ⟨re,λv H' sm r=>by unfold Rep at r;exact⟨k,r,q H' sm⟩⟩
def rN{o o':O2}{R:D}{k:Bool}(h1:ah o a b=O (.bl k))(h2:if k=Y then ah o' b R=O d else d=.bl J):∀V H Q,tD X.K T S B d V H Q->AJ (rD X.K T S o) (rD X.K T S o') (tD X.K T S B a) (tD X.K T S B b) (tD X.K T S B R) V H Q:=λV H Q ⟨re,q⟩=>⟨re,λx H1 s1 r1=>⟨re.same s1,λy H2 s2 r2=>⟨a,b,.bl k,((re.same s1).same s2).dom,r1.same s2,r2,h1,λz H3 I W=>by
 unfold Rep at W;refine⟨k,W,?_⟩;cases k with
 |true=>rw[if_pos rfl]at h2 ⊢;exact⟨((re.same s1).same s2).same I,λw' H4 s4 r4=>⟨b,R,d,(((re.same s1).same s2).same I).same s4 |>.dom,(r2.same I).same s4,r4,h2,λv H' s5 r5=>q v H' (s1.trans (s2.trans (I.trans (s4.trans s5)))) r5⟩⟩
 |false=>rw[if_neg vf]at h2 ⊢;subst h2;exact q _ H3 (s1.trans (s2.trans I)) cG⟩⟩⟩
def WM(hu:X.A.units+64<cLine){z:CmpOp}{I:D}{k:Bool}(ha:PE X ea (tD X.K T S B a))(hb:PE X eb (tD X.K T S B b))(hc:PE X ec (tD X.K T S B I))(hm:lastMarks [op,z] [eb,ec]=J) (h1:ah (lG op) a b=O (.bl k)) (h2:if k=Y then ah (lG z) b I=O d else d=.bl J):PE X (.Compare ea [op,z] [eb,ec] pos) (tD X.K T S B d):=PE.mono (yD (fJ hu op) (fJ hu z) ha hb hc hm) (rN h1 h2)
def MC(hu:X.A.units+64<cLine){z:CmpOp}{I:D}{k k':Bool}(ha:PE X ea (tD X.K T S B a))(hb:PE X eb (tD X.K T S B b))(hc:PE X ec (tD X.K T S B I))(hm:lastMarks [op,z] [eb,ec]=J) (h1:ah (lG op) a b=O (.bl k)) (h2:if k=Y then ah (lG z) b I=O (.bl k') else D.bl k'=.bl J):PT X (.Compare ea [op,z] [eb,ec] pos) (i5 X.K T S B k'):=PT.mono (xZ (fJ hu op) (fJ hu z) ha hb hc hm) λV H Q ⟨re,q⟩=>rN h1 h2 V H _ ⟨re,λv H' sm r=>by unfold Rep at r;exact⟨k',r,q H' sm⟩⟩
def aFi{i:Int}(ha:PE X ea (tD X.K T S B (.int i))):PE X (.UnaryOp .USub ea pos) (tD X.K T S B (.int (-i))):=PE.mono (aEF aAA ha) λV H Q ⟨re,q⟩=>⟨re,λx H1 s1 z=>by unfold Rep at z;exact⟨i,z,q _ H1 s1 (by unfold Rep;rfl)⟩⟩
def _root_.Z.aC.emp{ds:List D}(r:aC K T H S ds xs):ds.isEmpty=xs.isEmpty:=by have:=r.len;cases ds<;>cases xs<;>simp_all
def aDP{k:Bool}(r:Rep X.K T H S a v)(h:dh a=O k):aDo X.K v H k:=by
 cases a<;>simp only[dh,reduceCtorEq,u4]at h
 unfold Rep at r;subst r;exact h.symm;unfold Rep at r;subst r;exact h.symm;unfold Rep at r;subst r;exact h.symm;unfold Rep at r;obtain⟨p,xs,rfl,_,e,z⟩:=r;refine .inl ⟨xs,SqL.of e,?_⟩;rw[<-h];rw[z.emp];unfold Rep at r;obtain⟨p,xs,rfl,_,e,z⟩:=r;refine .inr (.inl ⟨xs,e,?_⟩);rw[<-h];rw[z.emp];unfold Rep at r;obtain⟨p,xs,rfl,_,e,z⟩:=r;refine .inl ⟨xs,e,?_⟩;rw[<-h];rw[z.emp]
def WJ{k:Bool}(ha:PE X ea (tD X.K T S B a))(he:∀z,isTrue ea X.env z=(do let v <-z;standAt ea.pos;holding [v] (truthy v)))(h:dh a=O k):PT X ea (i5 X.K T S B k):=PT.mono (KN ha he) λV H Q ⟨re,q⟩=>⟨re,λx H1 s1 I=>⟨k,aDP I h,q H1 s1⟩⟩
def aCf{k:Bool}(ha:PT X ea (i5 X.K T S B k)):PT X (.UnaryOp .Not ea pos) (i5 X.K T S B (!k)):=PT.mono (KO ha) λV H Q ⟨re,q⟩=>⟨re,λH1 s1=>q H1 s1⟩
def aFf{k:Bool}(ha:PE X ea (tD X.K T S B a))(h:dh a=O k):PE X (.UnaryOp .Not ea pos) (tD X.K T S B (.bl (!k))):=by intro pins s V H Q I ⟨re,q⟩;refine UnaryOp_ (ai (ha pins s V H (λv H'=>aI H H'/\Rep X.K T H' S a v) I ⟨re,λv H' a b=>⟨a,b⟩⟩) λv s1 ⟨x,H1,I1,R,sm,z⟩=>?_);exact not_of (ai (JG pins s1 V H1 x v (λb H2=>b=k/\H2=H1) I1 R ⟨k,aDP z h,rfl,rfl⟩) λb s2 ⟨H2,I2,eb,W⟩=>by subst eb W;exact⟨.bl (!b),H2,I2,rfl,q _ H2 sm cG⟩)
def ZS{k:Bool}(hc:PT X ec (i5 X.K T S B k))(ha:k=Y->PE X ea (tD X.K T S B d))(hb:k=J->PE X eb (tD X.K T S B d)):PE X (.IfExp ec ea eb pos) (tD X.K T S B d):=by
 cases k with
 |true=>refine PE.mono (yC hc (ha rfl) (tb:=λ_ _ _=>False) (λ_ _ _ _ _ _ h=>h.elim)) λV H Q ⟨re,q⟩=>⟨re,λH1 s1=>?_⟩;exact yQ ⟨re.same s1,λv H' s2 r=>q v H' (s1.trans s2) r⟩
 |false=>refine PE.mono (yC hc (ta:=λ_ _ _=>False) (λ_ _ _ _ _ _ h=>h.elim) (hb rfl)) λV H Q ⟨re,q⟩=>⟨re,λH1 s1=>?_⟩;exact oW ⟨re.same s1,λv H' s2 r=>q v H' (s1.trans s2) r⟩
def EC:PA X [] (da X.K T S B []):=PA.mono cP λV H Q ⟨re,q⟩=>q [] H (aI.refl H) aC.nil
def vK{ds:List D}(ha:PE X ea (tD X.K T S B a))(hr:PA X es (da X.K T S B ds))(hs:starEach (ea::es) X.env=(J,eval ea X.env)::starEach es X.env):PA X (ea::es) (da X.K T S B (a::ds)):=PA.mono (aW ha hr hs) λV H Q ⟨re,q⟩=>⟨re,λx H1 s1 I=>⟨re.same s1,λxs H2 s2 z=>q _ H2 (s1.trans s2) (aC.cons (I.same s2) z)⟩⟩
def aEZ{ds:List D}{I:Nat}(h:PA X es (da X.K T S B ds))(hl:ds.length<=sizeLine):PE X (.Tuple es I pos) (tD X.K T S B (.tup ds)):=PE.mono (LA h) λV H Q ⟨re,q⟩=>⟨re,λxs H1 s1 z=>⟨by rw[<-z.len];exact hl,λp hp=>q _ _ (s1.trans (aI.upd hp)) (fM (re.same s1).dom hp z)⟩⟩
def aFj{ds:List D}(h:PA X es (da X.K T S B ds))(hl:ds.length<=sizeLine):PE X (.List es pos) (d9 X.K T S B ds):=PE.mono (vD h) λV H Q ⟨re,q⟩=>⟨re,λxs H1 s1 z=>⟨by rw[<-z.len];exact hl,λp hp=>q _ _ _ (s1.trans (aI.upd hp)) (s1.free hp) aL (by rw[iD hp];exact z)⟩⟩
def MB{ds:List D}(h:PE X e (d9 X.K T S B ds)):PE X e (tD X.K T S B (.lst ds)):=PE.mono h λV H Q ⟨re,q⟩=>⟨re,λp xs H' sm hp z r=>q _ H' sm (by unfold Rep;exact⟨p,xs,rfl,re.nS hp,z,r.er⟩)⟩
def pO{ds:List D}{i:Int}(r:aC K T H S ds xs)(h:atI ds i=O d):∃x,L2.atI xs i=O x/\Rep K T H S d x:=by
 unfold atI at h;unfold L2.atI;rw[u6]at h;obtain⟨j,h1,h2⟩:=h;obtain⟨x,e,z⟩:=r.get h2;have tj:L2.ixN xs.length i=O j:=by rw[<-r.len];exact h1
 exact⟨x,by rw[tj];exact e,z⟩
def WV{i:Int}{ds:List D}(hc:a=.lst ds\/a=.tup ds\/a=.frz ds)(hd:atI ds i=O d):∀V H Q,tD X.K T S B d V H Q->ka (rIx X.K) (tD X.K T S B a) (tD X.K T S B (.int i)) V H Q:=λV H Q ⟨re,q⟩=>⟨re,λx H1 s1 W=>⟨re.same s1,λy H2 s2 R=>by have z:=W.same s2;unfold Rep at R;rcases hc with rfl|rfl|rfl;unfold Rep at z;obtain⟨p,xs,ex,_,e,I⟩:=z;obtain⟨v,e1,rv⟩:=pO I hd;exact .inl ⟨p,xs,i,v,ex,R,SqL.of e,e1,q v H2 (s1.trans s2) rv⟩;unfold Rep at z;obtain⟨p,xs,ex,_,e,I⟩:=z;obtain⟨v,e1,rv⟩:=pO I hd;exact .inr (.inl ⟨p,xs,i,v,ex,R,e,e1,q v H2 (s1.trans s2) rv⟩);unfold Rep at z;obtain⟨p,xs,ex,_,e,I⟩:=z;obtain⟨v,e1,rv⟩:=pO I hd;exact .inl ⟨p,xs,i,v,ex,R,e,e1,q v H2 (s1.trans s2) rv⟩⟩⟩
def aCi{i:Int}{ds:List D}(ha:PE X ea (tD X.K T S B a))(hb:PE X eb (tD X.K T S B (.int i)))(hp:jN eb)(hc:a=.lst ds\/a=.tup ds\/a=.frz ds)(hd:atI ds i=O d):PE X (.Subscript ea eb pos) (tD X.K T S B d):=PE.mono (yB vN ha hb hp) (WV hc hd)
def kL{ds:List D}(re:RE X.K T H S B V)(h:gM B i=O ds):∃p xs,V[i]?=O (O (.ref p))/\H p=O (.lst xs)/\aC X.K T H S ds xs:=by unfold gM at h;split at h;rename_i e;cases h;obtain⟨v,e1,r⟩:=re.at_ i _ e;unfold Rep at r;obtain⟨p,xs,rfl,_,e2,z⟩:=r;exact⟨p,xs,e1,e2,z⟩;rename_i e;cases h;obtain⟨p,R,e1,_,e2,I⟩:=re.at_ i _ e;obtain⟨xs,rfl,z⟩:=I.lst;exact⟨p,xs,e1,e2,z⟩;cases h
def aFk(h:XC CX X c G T lv){j:Nat}{i:Int}{ds:List D}(e:bE c x=O j)(hb:PE X eb (tD X.K T S B (.int i)))(hp:jN eb)(hs:gM B j=O ds)(hd:atI ds i=O d):PE X (.Subscript (.Name x p2) eb pos) (tD X.K T S B d):=PE.mono (yB vN (fN h e) hb hp) λV H Q ⟨re,q⟩=>by obtain⟨p,xs,e1,e2,I⟩:=kL re hs;refine⟨.ref p,e1,re,λy H2 s2 z=>?_⟩;unfold Rep at z;obtain⟨v,e3,rv⟩:=pO (I.same s2) hd;exact .inl ⟨p,xs,i,v,rfl,z,SqL.of (s2 _ _ e2),e3,q v H2 s2 rv⟩
def pM{ds:List D}{lo hi:Option Int}(r:aC K T H S ds xs):aC K T H S (cut ds lo hi) (zO xs lo hi):=by unfold cut zO;rw[r.len];exact(r.drop _).take _
noncomputable def j9(K:xx)(T:Tx)(S:Addr->Prop)(B:List Sl)(o:Option Int):TO:=λV H Q=>RE K T H S B V/\∀H',aI H H'->Q o H'
def aFe:PO X U (j9 X.K T S B U):=λpins s V H Q I ⟨re,q⟩=>UX pins s V H Q I (q H (aI.refl H))
def aFd{i:Int}(ha:PE X ea (tD X.K T S B (.int i))):PO X (O ea) (j9 X.K T S B (O i)):=λpins s V H Q I ⟨re,q⟩=>UW ha pins s V H Q I ⟨re,λv H' sm r=>by unfold Rep at r;exact⟨i,r,q H' sm⟩⟩
def ZR{l h:Option Int}{ds:List D}(ha:PE X ea (tD X.K T S B a))(hl:PO X lo (j9 X.K T S B l))(hh:PO X hi (j9 X.K T S B h))(hc:a=.lst ds\/a=.frz ds):PE X (.Subscript ea (.Slice lo hi U p2) pos) (d9 X.K T S B (cut ds l h)):=PE.mono (qC DG ha hl hh) λV H Q ⟨re,q⟩=>⟨re,λx H1 s1 W=>⟨re.same s1,λH2 s2=>⟨(re.same s1).same s2,λH3 R=>by have z:=(W.same s2).same R;have sm:=s1.trans (s2.trans R);rcases hc with rfl|rfl;unfold Rep at z;obtain⟨p,xs,ex,_,e,I⟩:=z;exact⟨p,xs,ex,SqL.of e,λp hp=>q _ _ _ (sm.trans (aI.upd hp)) (sm.free hp) aL (by rw[iD hp];exact pM I)⟩;unfold Rep at z;obtain⟨p,xs,ex,_,e,I⟩:=z;exact⟨p,xs,ex,e,λp hp=>q _ _ _ (sm.trans (aI.upd hp)) (sm.free hp) aL (by rw[iD hp];exact pM I)⟩⟩⟩⟩
def aFc{l h:Option Int}{ds:List D}(ha:PE X ea (tD X.K T S B (.tup ds)))(hl:PO X lo (j9 X.K T S B l))(hh:PO X hi (j9 X.K T S B h))(hw:¬(sIx ds.length 0 l=0/\sIx ds.length ds.length h=ds.length)):PE X (.Subscript ea (.Slice lo hi U p2) pos) (tD X.K T S B (.tup (cut ds l h))):=PE.mono (qC aAX ha hl hh) λV H Q ⟨re,q⟩=>⟨re,λx H1 s1 W=>⟨re.same s1,λH2 s2=>⟨(re.same s1).same s2,λH3 z=>by have R:=(W.same s2).same z;have sm:=s1.trans (s2.trans z);have k6:=((re.same s1).same s2).same z;unfold Rep at R;obtain⟨p,xs,ex,_,e,I⟩:=R;exact⟨p,xs,ex,e,by rw[<-I.len];exact hw,λp hp=>q _ _ (sm.trans (aI.upd hp)) (fM k6.dom hp (pM I))⟩⟩⟩⟩
def aFb(h:XC CX X c G T lv){p3:Pos}{j:Nat}{l u:Option Int}{ds:List D}(e:bE c x=O j)(hs:gM B j=O ds)(hl:PO X lo (j9 X.K T S B l))(R:PO X hi (j9 X.K T S B u)):PE X (.Subscript (.Name x p3) (.Slice lo hi U p2) pos) (d9 X.K T S B (cut ds l u)):=PE.mono (qC DG (fN h e) hl R) λV H Q ⟨re,q⟩=>by obtain⟨p,xs,e1,e2,I⟩:=kL re hs;refine⟨.ref p,e1,re,λH2 s2=>⟨re.same s2,λW z=>?_⟩⟩;have sm:=s2.trans z;exact⟨p,xs,rfl,SqL.of (z _ _ (s2 _ _ e2)),λp hp=>q _ _ _ (sm.trans (aI.upd hp)) (sm.free hp) aL (by rw[iD hp];exact pM ((I.same s2).same z))⟩
def aFr(h:XC CX X c G T lv){cn f:Str}{fs:List (Str×D)}(ha:PE X ea (tD X.K T S B (.obj cn fs)))(hb:attributeBase ea f X.env (eval ea X.env)=eval ea X.env)(hf:(G.fl cn).contains f=Y)(hd:fs.lookup f=O d):PE X (.Attribute ea f pos) (tD X.K T S B d):=PE.mono (aBD ha hb) λV H Q ⟨re,q⟩=>⟨re,λx H1 s1 z=>by unfold Rep at z;obtain⟨p,C,dx,gs,ex,_,ec,e,I⟩:=z;obtain⟨v,e1,rv⟩:=(cX.look I).1 d hd;exact⟨p,C,dx,gs,v,ex,e,h.go.cls cn C ec,h.go.fld cn C f ec hf,e1,q v H1 s1 rv⟩⟩
def vG(h:XC CX X c G T lv):iG CX X E0:=λ_ _ H s e s' _ z=>(h.go.cx0 _ H s e s' z).elim
def pY(hs:starEach (e::es) X.env=(e::es).map λe=>(J,eval e X.env)):starEach (e::es) X.env=(J,eval e X.env)::starEach es X.env/\(backTo pos (starEach es X.env)).any (·.1)=J:=by
 have h2:starEach (e::es) X.env=(J,eval e X.env)::starEach es X.env:=by cases e<;>first|rfl|(simp[starEach]at hs)
 have h3:starEach es X.env=es.map λe=>(J,eval e X.env):=by have:=congrArg List.tail (h2.symm.trans hs);simpa using this
 refine⟨h2,?_⟩;rw[h3];clear h2 h3 hs;induction es with
 |nil=>rfl
 |cons a r z=>exact z
def MD(h:XC CX X c G T lv){ds:List D}{p:Pos}(hg:aV c x=Y)(hf:c.fns.contains x=Y)(ha:PA X es (da X.K T S B ds))(hs:starEach es X.env=es.map λe=>(J,eval e X.env))(hlen:ds.length=es.length)(hd:G.fn x ds=O (.ok d)):PE X (.Call (.Name x p) es [] pos) (λV H Q=>RE X.K T H S B V/\∀v H1 H',aI H H1->aI H1 H'->Rep X.K T H' S d v->(G.ff x=Y->uQ X.K T S H1 H' d v)->Q v H'):=by
 obtain⟨f,fd,ps,hm,hk,hb,hl,F⟩:=h.go.fn x hf;have z:∀V H Q,(RE X.K T H S B V/\∀v H1 H',aI H H1->aI H1 H'->Rep X.K T H' S d v->(G.ff x=Y->uQ X.K T S H1 H' d v)->Q v H')->xJ (i6 X.K T ps.length (G.fn x) (G.ff x)) [] E0 (da X.K T S B ds) V H Q:=λV H Q ⟨re,q⟩=>⟨re,λvs H1 s1 I=>⟨by rw[vx,<-I.len];exact hl ds _ hd,S,ds,(re.same s1).dom,by rw[vx];exact I,.inl ⟨d,hd,λv H' s2 R fr=>q v H1 H' s1 s2 R fr⟩⟩⟩;cases es with
 |nil=>refine PE.mono (yE F h.room (h.glob hg) hm hk hb .nil (vG h) (h.gne hg)) λV H Q hq=>?_;obtain⟨re,q⟩:=hq;have W:ds=[]:=vy.mp hlen;subst W;exact(z V H Q ⟨re,q⟩).2 [] H (aI.refl H) aC.nil
 |cons e es=>obtain⟨h1,h2⟩:=pY (pos:=pos) hs;exact PE.mono (DT F h.room (h.glob hg) hm hk hb .nil (vG h) ha (h.gne hg) h1 h2) z
end
section
variable {CX:aq}{X:Cx}{c:CC}{G:GS}{T:Tx}{lv:Nat}{B:List Sl}{S:Addr->Prop}{pos:Pos}{ea eb ec:Expr}{a b d:D}
def rR(X:Cx)(o:Expr)(m:Str)(args:List Expr)(apos pos:Pos):Prop:=∃pl:Sem Bool,eval (.Call (.Attribute o m apos) args [] pos) X.env=(do
 let z <-eval o X.env
 standAt apos.atName
 let (f,first) <-holding [z] (getMethod z m pl)
 callWith pos f first (backTo pos (starEach args X.env)) (backToKw pos (keywordEach [] X.env)))
def aCg(h:XC CX X c G T lv){m cn:Str}{fs:List (Str×D)}{ds:List D}{apos:Pos}(ht:rR X ea m es apos pos)(ho:PE X ea (tD X.K T S B (.obj cn fs)))(hn:fs.lookup m=U) (ha:PA X es (da X.K T S B ds)) (hs:starEach es X.env=es.map λe=>(J,eval e X.env)) (hlen:ds.length=es.length) (hd:G.me cn m (.obj cn fs::ds)=O (.ok d)):PE X (.Call (.Attribute ea m apos) es [] pos) (λV H Q=>RE X.K T H S B V/\∀v H1 H',aI H H1->aI H1 H'->Rep X.K T H' S d v->(G.mf cn m=Y->uQ X.K T S H1 H' d v)->Q v H'):=by
 obtain⟨pl,ht⟩:=ht;intro pins s V H Q I ⟨re,q⟩;refine PySem.W.methodCall_KW (pl:=pl) (ai (ho pins s V H (λv H'=>aI H H'/\Rep X.K T H' S (.obj cn fs) v) I ⟨re,λv H' a b=>⟨a,b⟩⟩) λu s1 ⟨x,H1,I1,rx,sm,ro⟩=>?_) ht;have ro':=ro;unfold Rep at ro;obtain⟨p,C,dx,gs,ex,_,ec,e,rf⟩:=ro;subst ex;obtain rfl:u=Value.ref p:=rx;obtain⟨f,fd,ps,hm,hb,hl,F⟩:=h.go.me cn C m _ _ ec hd;refine qW I1 e (h.go.cls cn C ec) hm ((cX.look rf).2 hn) ?_;have z:∀(us:List Value) (vs:List σ) (s2:Shared) (H2:Hp),Inv X pins V H2 s2->aX vs us->aI H1 H2->aC X.K T H2 S ds vs->wpAny (model X.prog X.w) X.A (call (.ref f) (.ref p::us)) (EP X pins V Q) X.xe s2:=λus vs s2 H2 I2 r2 R rl=>by refine uX (us:=.ref p::us) (vs:=.ref p::vs) (dvs:=[]) (ds:=[]) (E:=E0) F h.room hb .nil (vG h) I2 (.cons rfl r2) ?_;refine⟨?_,S,.obj cn fs::ds,((re.same sm).same R).dom,?_,.inl ⟨d,hd,λv H' s3 r3 fr=>q v H2 H' (sm.trans R) s3 r3 fr⟩⟩;have:=hl _ _ hd;simp only[vx,xb]at this ⊢;rw[<-rl.len];exact this;rw[vx];exact aC.cons (ro'.same R) rl
 cases es with
 |nil=>have bj:ds=[]:=vy.mp hlen;subst bj;exact callWith_K0 (first:=[.ref p]) I1.kIn hm.kp (z [] [] s1 H1 I1 .nil (aI.refl _) aC.nil)
 |cons e es=>obtain⟨h1,h2⟩:=pY (pos:=pos) hs;refine callWith_K (first:=[.ref p]) (h₀:=X.base) I.ok.mod.kin hm.kp (ai (ha pos pins s1 V H1 (λvs H'=>aI H1 H'/\aC X.K T H' S ds vs) I1 ⟨re.same sm,λvs H' a b=>⟨a,b⟩⟩) λus s2 ⟨vs,H2,I2,r,R,rl⟩=>⟨I2.kIn,?_⟩) h1 h2;exact z us vs s2 H2 I2 r R rl
def GK{CX:aq}{k:Nat}{E:XK}{Q:VK}{us:List Value}{vs:List σ}(M:Mk X.K C f)(F:FnOk X.prog X.w X.K X.mg X.base CX k f fd ps sp)(hr:Room (k+1) X.A)(hb:Binds X.K fd ps []) (hx:iG CX X E) (I:Inv X pins V H s) (r:aX vs us) (h:∀x dx,H x=U->H dx=U->dx≠x->X.K.lookup x=U->X.K.lookup dx=U->sp (.ref x::vs) (upd (upd H dx (.own x)) x (.ins C dx [])) (λv H2=>v=.non/\Q (.ref x) H2) E):wpAny (model X.prog X.w) X.A (call (.ref C) us) (EP X pins V Q) X.xe s:=by
 have W:∀a,s.heap.objs.size<=a->X.K.lookup a=U:=λa ha=>by
  cases q:X.K.lookup a with
  |none=>rfl
  |some o=>exact absurd (vk (I.kIn a o q)) (not_lt.mpr ha)
 have hq:=h (s.heap.objs.size+1) s.heap.objs.size (I.hok.fresh (x6 _)) (I.hok.fresh (ux _)) (wj (x9 _)) (W _ (x6 _)) (W _ (ux _));have I2:=Inv.made (C:=C) I;have R:aX (σ.ref (s.heap.objs.size+1)::vs) (Value.ref (s.heap.objs.size+1)::us):=.cons rfl r;have hl:(Value.ref (s.heap.objs.size+1)::us++[]).length=ps.length:=by have e:=R.length;rw[F.len _ _ _ _ hq]at e;rw[vx];exact e.symm
 refine wpAny_call (MJ (f:=f) I.kIn M.makes M.init (wb.mp M.fn) (codeAny_mono (F.run _ X.stack _ _ ⟨Value.ref (s.heap.objs.size+1)::us,[]⟩ (Value.ref (s.heap.objs.size+1)::us) _ _ E (hr.make C us []) (I2.env0.make C us []) (by have:=hb _ (Value.ref (s.heap.objs.size+1)::us) I2.kIn hl;rw[vx]at this;exact this) R hq) λr s' z=>?_));cases r with
 |error e=>exact hx pins V _ _ e s' I2 z
 |ok fl=>
  cases fl with
  |ret u=>obtain⟨v,H',I3,rv,ev,q3⟩:=I2.after z;subst ev;exact⟨rv,⟨σ.ref (s.heap.objs.size+1),H',I3,rfl,q3⟩⟩
  |next=>exact False.elim z
  |brk=>exact False.elim z
  |cont=>exact False.elim z
def aGM(h:XC CX X c G T lv){ds:List D}{p:Pos}(hg:aV c x=Y)(hf:c.cls.contains x=Y)(ha:PA X es (da X.K T S B ds))(hs:starEach es X.env=es.map λe=>(J,eval e X.env))(hlen:ds.length=es.length)(hd:G.mo x ds=O (.ok d)):PE X (.Call (.Name x p) es [] pos) (tD X.K T S B d):=by
 obtain⟨C,f,fd,ps,j,hj,hm,M,hb,hl,F⟩:=h.go.mo x hf ds d hd;have fin:∀(pins:ya) (V:L2.St) (H:Hp) (Q:VK) (us:List Value) (vs:List σ) (s2:Shared) (H2:Hp),RE X.K T H S B V->(∀v H',aI H H'->Rep X.K T H' S d v->Q v H')->Inv X pins V H2 s2->aX vs us->aI H H2->aC X.K T H2 S ds vs->wpAny (model X.prog X.w) X.A (call (.ref C) us) (EP X pins V Q) X.xe s2:=λpins V H Q us vs s2 H2 re q I2 r2 cg rl=>by
  refine GK (E:=E0) M F (h.room.mono hj) hb (vG h) I2 r2 λy dx hy W ne ky kdx=>?_;have R:=(re.same cg).dom;have m1:aM X.K H2 (upd H2 dx (.own y)) S S:=λa n _=>⟨n,λo e=>by rw[aK (aS e W)];exact e⟩;have hy1:(upd H2 dx (.own y)) y=U:=by rw[aK (Ne.symm ne)];exact hy
  have m2:=aM.add (S:=S) (o:=.ins C dx []) hy1 ky;refine⟨by simp only[xb];rw[<-rl.len];exact hl,y,dx,vs,(λa=>S a\/a=y),ds,d,rfl,aL,.inr rfl,λa hs=>?_,aC.gen m2 _ _ (aC.gen m1 _ _ rl),hd,λH' kp rp=>⟨rfl,q _ H' ?_ (rp S λa ha=>⟨.inl ha,?_⟩)⟩⟩;rcases hs with z|z;obtain⟨o,e⟩:=R a z;exact⟨o,by rw[aK (aS e hy),aK (aS e W)];exact e⟩;subst z;exact⟨_,aL⟩;intro b o e;have e2:=cg b o e;refine kp b o (aS e2 hy) ?_;rw[aK (aS e2 hy),aK (aS e2 W)];exact e2;intro z;subst z;obtain⟨o,e⟩:=R a ha;rw[hy]at e;cases e
 cases es with
 |nil=>have bj:ds=[]:=vy.mp hlen;subst bj;intro pins s V H Q I ⟨re,q⟩;refine wpAny_Call_Name_kw (dZ I (h.glob hg) hm ?_ (h.gne hg));exact callWith_K0 I.kIn M.kp (fin pins V H Q [] [] s H re q I .nil (aI.refl _) aC.nil)
 |cons e es=>obtain⟨h1,h2⟩:=pY (pos:=pos) hs;intro pins s V H Q I ⟨re,q⟩;refine wpAny_Call_Name_kw (dZ I (h.glob hg) hm ?_ (h.gne hg));refine callWith_K (h₀:=X.base) I.ok.mod.kin M.kp (ai (ha pos pins s V H (λvs H'=>aI H H'/\aC X.K T H' S ds vs) I ⟨re,λvs H' a b=>⟨a,b⟩⟩) λus s1 ⟨vs,H1,I1,r,sm,rl⟩=>⟨I1.kIn,?_⟩) h1 h2;exact fin pins V H Q us vs s1 H1 re q I1 r sm rl
def my(K:xx)(T:Tx)(S:Addr->Prop)(g:List D->Option D):List σ->Hp->VK->Prop:=λxs H Q=>∃ds d,(∀a,S a->∃o,H a=O o)/\aC K T H S ds xs/\g ds=O d/\∀v H',aI H H'->Rep K T H' S d v->Q v H'
def rep1(r:aC K T H S [a] xs):∃x,xs=[x]/\Rep K T H S a x:=by unfold aC at r;obtain⟨x,R,rfl,I,z⟩:=r;unfold aC at z;subst z;exact⟨x,rfl,I⟩
def rep2(r:aC K T H S [a,b] xs):∃x y,xs=[x,y]/\Rep K T H S a x/\Rep K T H S b y:=by unfold aC at r;obtain⟨x,W,rfl,I,R⟩:=r;obtain⟨y,rfl,z⟩:=rep1 R;exact⟨x,y,rfl,I,z⟩
def eO{i:Int}:Rep K T H S (.int i) (.int i):=by unfold Rep;rfl
def aGb:eW X (.builtin "len") (my X.K T S XR):=by rintro pins s V H xs us Q I r ⟨ds,d,dom,W,e,q⟩;unfold XR at e;split at e;obtain⟨x,rfl,z⟩:=rep1 W;cases e;unfold Rep at z;obtain⟨p,ys,rfl,_,hq,R⟩:=z;exact gG pins s V H _ us Q I r ⟨p,ys,rfl,.inl (SqL.of hq),by rw[<-R.len];exact q _ H (aI.refl H) eO⟩;obtain⟨x,rfl,z⟩:=rep1 W;cases e;unfold Rep at z;obtain⟨p,ys,rfl,_,hq,R⟩:=z;exact gG pins s V H _ us Q I r ⟨p,ys,rfl,.inr hq,by rw[<-R.len];exact q _ H (aI.refl H) eO⟩;obtain⟨x,rfl,z⟩:=rep1 W;cases e;unfold Rep at z;obtain⟨p,ys,rfl,_,hq,R⟩:=z;exact gG pins s V H _ us Q I r ⟨p,ys,rfl,.inl hq,by rw[<-R.len];exact q _ H (aI.refl H) eO⟩;obtain⟨x,rfl,z⟩:=rep1 W;unfold Rep at z;subst z;split at e;rename_i hz;cases e;exact wY pins s V H _ us Q I r ⟨_,rfl,vm hz fC,q _ H (aI.refl H) eO⟩;cases e;cases e
def aGd:eW X (.type "int") (my X.K T S XT):=by rintro pins s V H xs us Q I r ⟨ds,d,dom,R,e,q⟩;unfold XT at e;split at e;obtain⟨x,rfl,z⟩:=rep1 R;cases e;unfold Rep at z;subst z;exact uE pins s V H _ us Q I r (.inl ⟨_,rfl,q _ H (aI.refl H) eO⟩);obtain⟨x,rfl,z⟩:=rep1 R;cases e;unfold Rep at z;subst z;exact uE pins s V H _ us Q I r (.inr ⟨_,rfl,q _ H (aI.refl H) eO⟩);cases e
def rBl(K:xx)(T:Tx)(S:Addr->Prop):List σ->Hp->VK->Prop:=λxs H Q=>∃ds es,aC K T H S ds xs/\zD ds=O (.lst es)/\∀p ys H',aI H H'->H p=U->H' p=O (.lst ys)->aC K T (er H' p) S es ys->Q (.ref p) H'
def aDn:eW X (.type "list") (rBl X.K T S):=by rintro pins s V H xs us Q I r ⟨ds,es,W,e,q⟩;unfold zD at e;split at e;obtain⟨x,rfl,z⟩:=rep1 W;cases e;unfold Rep at z;obtain⟨p,ys,rfl,_,hq,R⟩:=z;exact jJ pins s V H _ us Q I r ⟨p,ys,rfl,.inl (SqL.of hq),λl hl=>q l ys _ (aI.upd hl) hl aL (by rw[iD hl];exact R)⟩;obtain⟨x,rfl,z⟩:=rep1 W;cases e;unfold Rep at z;obtain⟨p,ys,rfl,_,hq,R⟩:=z;exact jJ pins s V H _ us Q I r ⟨p,ys,rfl,.inr hq,λl hl=>q l ys _ (aI.upd hl) hl aL (by rw[iD hl];exact R)⟩;obtain⟨x,rfl,z⟩:=rep1 W;cases e;unfold Rep at z;obtain⟨p,ys,rfl,_,hq,R⟩:=z;exact jJ pins s V H _ us Q I r ⟨p,ys,rfl,.inl hq,λl hl=>q l ys _ (aI.upd hl) hl aL (by rw[iD hl];exact R)⟩;cases e
def YN:eW X (.type "tuple") (my X.K T S wI):=by rintro pins s V H xs us Q I r ⟨ds,d,dom,rl,e,q⟩;unfold wI at e;split at e;obtain⟨x,rfl,z⟩:=rep1 rl;cases e;unfold Rep at z;obtain⟨p,ys,rfl,_,hq,W⟩:=z;exact lH pins s V H _ us Q I r ⟨p,ys,rfl,.inl ⟨SqL.of hq,λl hl=>q _ _ (aI.upd hl) (fM dom hl W)⟩⟩;obtain⟨x,rfl,z⟩:=rep1 rl;cases e;have R:=z;unfold Rep at z;obtain⟨p,ys,rfl,_,hq,W⟩:=z;exact lH pins s V H _ us Q I r ⟨p,ys,rfl,.inr ⟨hq,q _ H (aI.refl H) R⟩⟩;cases e
theorem nO{K:xx}{H:Hp}:∀{ds:List D} {ns:List Int} {ys:List σ} {us:List Value},dW ds=O ns->aC K T H S ds ys->aX ys us->IntsAre us ns
 |[],ns,ys,us,h,r,v=>by simp only[dW]at h;cases h;unfold aC at r;subst r;cases v;exact .nil
 |d::ds,ns,ys,us,h,r,v=>by
  cases d<;>simp only[dW,reduceCtorEq]at h
  rename_i i;rw[vc]at h;obtain⟨r',h1,rfl⟩:=h;unfold aC at r;obtain⟨x,w,rfl,z,W⟩:=r;unfold Rep at z;subst z;cases v with
  |cons R I=>obtain⟨t,rfl⟩:=R;exact .cons i t (nO h1 W I)
section
variable {prog:y8}{w:World}{A:Around}{E:y9}{s:Shared}
def BI{l:Addr}{ns:List Int}(R:A.handled=U)(hl:s.heap.IsList l vs.toArray)(hi:IntsAre vs ns)(f9:0<ns.length) (h:∀h' M (t:Tok) tk,(∀b o,s.heap.get? b=O o->h'.get? b=O o)->M∈ns->(∀a,a∈ns->a<=M)->Q (.int M t) {s with heap:=h',toks:=tk}):wpAny (model prog w) A (call (.builtin "max") [.ref l]) Q E s:=by
 obtain⟨xs,e⟩:=hi.allInts.items;have z:ns=xs.toList.map (·.1):=by rw[<-hi.numsOf,<-nums_intItems,<-e]
 have hsz:0<xs.size:=by have h3:=f9;rw[z,uw,length_toList]at h3;exact h3
 rw[e]at hl;refine max_intList R hl hsz λv h' tk hv hk=>?_;obtain⟨t,rfl⟩:=intItems_at hv;obtain⟨h1,h2⟩:=argBest_gt (numAt xs) (xs.size-1);refine h _ _ t tk hk ?_ λa ha=>?_;rw[z,numAt_eq];exact getD_mem (by rw[uw,length_toList];lia);rw[z]at ha;obtain⟨j,I,rfl⟩:=mem_getD ha;rw[uw,length_toList]at I;rw[<-numAt_eq];exact h2 j z7
def BD{l:Addr}{ns:List Int}(R:A.handled=U)(hl:s.heap.IsList l vs.toArray)(hi:IntsAre vs ns)(f9:0<ns.length) (h:∀h' M (t:Tok) tk,(∀b o,s.heap.get? b=O o->h'.get? b=O o)->M∈ns->(∀a,a∈ns->M<=a)->Q (.int M t) {s with heap:=h',toks:=tk}):wpAny (model prog w) A (call (.builtin "min") [.ref l]) Q E s:=by
 obtain⟨xs,e⟩:=hi.allInts.items;have z:ns=xs.toList.map (·.1):=by rw[<-hi.numsOf,<-nums_intItems,<-e]
 have hsz:0<xs.size:=by have h3:=f9;rw[z,uw,length_toList]at h3;exact h3
 rw[e]at hl;refine min_intList R hl hsz λv h' tk hv hk=>?_;obtain⟨t,rfl⟩:=intItems_at hv;obtain⟨h1,h2⟩:=argBest_lt (numAt xs) (xs.size-1);refine h _ _ t tk hk ?_ λa ha=>?_;rw[z,numAt_eq];exact getD_mem (by rw[uw,length_toList];lia);rw[z]at ha;obtain⟨j,I,rfl⟩:=mem_getD ha;rw[uw,length_toList]at I;rw[<-numAt_eq];exact h2 j z7
end
def aGa(hc:X.calm=Y):eW X (.builtin "max") (my X.K T S PZ):=by
 rintro pins s V H xs us Q I r ⟨ds,d,dom,rl,e,q⟩;unfold PZ at e;split at e;obtain⟨x,y,rfl,R,W⟩:=rep2 rl;cases e;unfold Rep at R W;subst R W;exact IR hc pins s V H _ us Q I r ⟨_,_,rfl,q _ H (aI.refl H) eO⟩;obtain⟨x,rfl,R⟩:=rep1 rl;split at e;rename_i i t he;cases e;unfold Rep at R;obtain⟨p,ys,rfl,_,hq,W⟩:=R;obtain⟨u,rfl,ru⟩:=vals1 r;cases ru;obtain⟨its,rv,pl,hz⟩:=I.list (SqL.of hq);have hi:=nO he W rv;refine BI (I.ok.hd hc) pl.isList hi Ab λh' M tt tk hk hM hle=>⟨.int M,H,I.kept (t':=tk) hk,⟨_,rfl⟩,?_⟩;obtain⟨m1,m2,m3⟩:=sW t i;have e1:nJ i t∈i::t:=by rcases m1 with z|z;rw[z];simp;exact v8 _ z
 have e2:M<=nJ i t:=by rcases vo.mp hM with z|z;rw[z];exact m2;exact m3 M z
 have e3:M=nJ i t:=Int.le_antisymm e2 (hle _ e1);rw[e3];exact q _ H (aI.refl H) eO;cases e;cases e
def aFZ(hc:X.calm=Y):eW X (.builtin "min") (my X.K T S XQ):=by
 rintro pins s V H xs us Q I r ⟨ds,d,dom,rl,e,q⟩;unfold XQ at e;split at e;obtain⟨x,y,rfl,R,W⟩:=rep2 rl;cases e;unfold Rep at R W;subst R W;exact IQ hc pins s V H _ us Q I r ⟨_,_,rfl,q _ H (aI.refl H) eO⟩;obtain⟨x,rfl,R⟩:=rep1 rl;split at e;rename_i i t he;cases e;unfold Rep at R;obtain⟨p,ys,rfl,_,hq,W⟩:=R;obtain⟨u,rfl,ru⟩:=vals1 r;cases ru;obtain⟨its,rv,pl,hz⟩:=I.list (SqL.of hq);have hi:=nO he W rv;refine BD (I.ok.hd hc) pl.isList hi Ab λh' M tt tk hk hM hle=>⟨.int M,H,I.kept (t':=tk) hk,⟨_,rfl⟩,?_⟩;obtain⟨m1,m2,m3⟩:=sV t i;have e1:qH i t∈i::t:=by rcases m1 with z|z;rw[z];simp;exact v8 _ z
 have e2:qH i t<=M:=by rcases vo.mp hM with z|z;rw[z];exact m2;exact m3 M z
 have e3:M=qH i t:=Int.le_antisymm (hle _ e1) e2;rw[e3];exact q _ H (aI.refl H) eO;cases e;cases e
end
section
variable {CX:aq}{X:Cx}{c:CC}{G:GS}{T:Tx}{lv:Nat}{B:List Sl}{S:Addr->Prop}{pos:Pos}{ea eb ec:Expr}{a b d:D}
noncomputable def o4:D->Option String
 |.non=>O "NoneType"
 |.bl _=>O "bool"
 |.int _=>O "int"
 |.str _=>O "str"
 |.lst _=>O "list"
 |.tup _=>O "tuple"
 |_=>U
def MV{x:σ}{u c:Value}{k:Bool}(I:Inv X pins V H s)(R:RelV x u)(rep:Rep X.K T H S d x)(ht:o4 d=O tn) (e:kitOne X.K (.type tn) c=O k) (h:∀tk,Q (.bool k) {s with toks:=tk}):wpAny (model X.prog X.w) A (call (.builtin "isinstance") [u,c]) Q E s:=by
 cases d<;>simp only[o4,reduceCtorEq,u4]at ht
 all_goals subst ht
 unfold Rep at rep;subst rep;exact iK I R (.non) e h;unfold Rep at rep;subst rep;exact iK I R (.bl _) e h;unfold Rep at rep;subst rep;exact iK I R (.int _) e h;unfold Rep at rep;subst rep;exact iK I R (.str _) e h;unfold Rep at rep;obtain⟨p,xs,rfl,_,hq,_⟩:=rep;exact iK I R (.lst hq) e h;unfold Rep at rep;obtain⟨p,xs,rfl,_,hq,_⟩:=rep;obtain rfl:u=Value.ref p:=R;obtain⟨its,rv,⟨o,h1,h2,_⟩,_⟩:=I.tuple hq;exact kia_one PySem.W.kitx_tuple I.kIn ⟨o,h1,h2⟩ e (λz=>nomatch z) h
def iL(K:xx):∀(t n:String),(t,n)∈([("NoneType","int"),("NoneType","bool"),("NoneType","str"),("NoneType","list"),("NoneType","tuple"),("bool","str"),("bool","list"),("bool","tuple"),("int","bool"),("int","str"),("int","list"),("int","tuple"),("str","int"),("str","bool"),("str","list"),("str","tuple"),("list","int"),("list","bool"),("list","str"),("list","tuple"),("tuple","int"),("tuple","bool"),("tuple","str"),("tuple","list")]:List (String×String))->kitOne K (.type t) (.type n)=O J:=by intro t n h;simp only[vo,Prod.mk.injEq,xh,or_false]at h;rcases h with ⟨rfl,rfl⟩|⟨rfl,rfl⟩|⟨rfl,rfl⟩|⟨rfl,rfl⟩|⟨rfl,rfl⟩|⟨rfl,rfl⟩|⟨rfl,rfl⟩|⟨rfl,rfl⟩|⟨rfl,rfl⟩|⟨rfl,rfl⟩|⟨rfl,rfl⟩|⟨rfl,rfl⟩|⟨rfl,rfl⟩|⟨rfl,rfl⟩|⟨rfl,rfl⟩|⟨rfl,rfl⟩|⟨rfl,rfl⟩|⟨rfl,rfl⟩|⟨rfl,rfl⟩|⟨rfl,rfl⟩|⟨rfl,rfl⟩|⟨rfl,rfl⟩|⟨rfl,rfl⟩|⟨rfl,rfl⟩<;>kernel_rfl
def MW(K:xx):kitOne K (.type "bool") (.type "int")=O Y:=z8
def jX(K:xx)(t:String):kitOne K (.type t) (.type t)=O Y:=by unfold kitOne;rw[if_pos Ab]
def aAD:¬(("bool":Str)="int")/\¬(("str":Str)="int")/\¬(("list":Str)="int")/\¬(("tuple":Str)="int")/\¬(("int":Str)="bool")/\¬(("str":Str)="bool")/\¬(("list":Str)="bool")/\¬(("tuple":Str)="bool") /\¬(("int":Str)="str")/\¬(("bool":Str)="str")/\¬(("list":Str)="str")/\¬(("tuple":Str)="str")/\¬(("int":Str)="list")/\¬(("bool":Str)="list")/\¬(("str":Str)="list")/\¬(("tuple":Str)="list") /\¬(("int":Str)="tuple")/\¬(("bool":Str)="tuple")/\¬(("str":Str)="tuple")/\¬(("list":Str)="tuple"):=z9
def aCE{t:Str}{k:Bool}(K:xx)(ht:kI.contains t=Y)(hd:o4 d=O tn)(h:jY G t d=O k):∃n:String,bootBuiltins t=O (.type n)/\kitOne K (.type tn) (.type n)=O k:=by
 obtain⟨n1,n2,n3,n4,n5,n6,n7,n8,n9,n10,n11,n12,n13,n14,n15,n16,W,R,I,z⟩:=aAD;have ht':t="int"\/t="bool"\/t="str"\/t="list"\/t="tuple":=by simpa [kI] using ht
 have b1:bootBuiltins "int"=O (.type "int"):=z9
 have b2:bootBuiltins "bool"=O (.type "bool"):=z9
 have b3:bootBuiltins "str"=O (.type "str"):=z9
 have b4:bootBuiltins "list"=O (.type "list"):=z9
 have b5:bootBuiltins "tuple"=O (.type "tuple"):=z9
 rcases ht' with rfl|rfl|rfl|rfl|rfl<;>cases d<;>simp only[o4,reduceCtorEq,u4]at hd
 all_goals subst hd
 all_goals simp only[jY,n1,n2,n3,n4,n5,n6,n7,n8,n9,n10,n11,n12,n13,n14,n15,n16,W,R,I,z,if_true,if_false,true_or,or_true,or_false,or_self,u4]at h
 all_goals subst h
 all_goals first
  |exact⟨_,b1,by first|exact jX K _|exact MW K|exact iL K _ _ Aa⟩
  |exact⟨_,b2,by first|exact jX K _|exact iL K _ _ Aa⟩
  |exact⟨_,b3,by first|exact jX K _|exact iL K _ _ Aa⟩
  |exact⟨_,b4,by first|exact jX K _|exact iL K _ _ Aa⟩
  |exact⟨_,b5,by first|exact jX K _|exact iL K _ _ Aa⟩
def sD:bootBuiltins "isinstance"=O (.builtin "isinstance"):=z9
def aFn(h:XC CX X c G T lv){t:Str}{p:Pos}{k:Bool}(hg:aV c "isinstance"=Y)(hm:X.mg "isinstance"=U)(W:aV c t=Y)(hmt:X.mg t=U)(ht:kI.contains t=Y)(ha:PE X ea (tD X.K T S B a))(hs:starEach [ea,.Name t p2] X.env=[(J,eval ea X.env),(J,eval (.Name t p2) X.env)]) (hd:o4 a=O tn) (hi:jY G t a=O k):PE X (.Call (.Name "isinstance" p) [ea,.Name t p2] [] pos) (tD X.K T S B (.bl k)):=by
 obtain⟨n,hb,hk⟩:=aCE X.K ht hd hi;have hnn:t≠"__name__":=by intro z;subst z;revert ht;decide +kernel
 have hp:PE X (.Name t p2) (tC (.ty n)):=DU (h.glob W) hmt hb rfl hnn (h.gne W);have hc:eW X (.builtin "isinstance") (λxs H Q=>∃x,xs=[x,.ty n]/\Rep X.K T H S a x/\Q (.bl k) H):=by rintro pins s V H xs us Q I r ⟨x,rfl,rep,q⟩;obtain⟨u,w',rfl,r1,r2⟩:=vals2 r;obtain rfl:w'=Value.type n:=r2;exact MV I r1 rep hd hk λtk=>⟨.bl k,H,I.tok tk,rfl,q⟩
 have R:starEach [ea,.Name t p2] X.env=(J,eval ea X.env)::starEach [.Name t p2] X.env:=hs;refine PE.mono (dU hc (h.glob hg) hm sD (aW ha (aW hp cP) R) z9 ?_ ?_ ?_) λV H Q ⟨re,q⟩=>⟨re,λx H1 s1 r1=>⟨x,rfl,r1,q _ H1 s1 cG⟩⟩;all_goals first|exact h.gne hg|exact R|rfl|decide +kernel
end
def mV{o:Expr}{m:Str}(ho:kR o=Y):attributeBase o m env (eval o env)=eval o env:=by cases o<;>first|rfl|(simp[kR]at ho)
theorem zY{env:Env}{pos:Pos}:∀(l:List Expr),(backTo pos (l.map λe=>(J,eval e env))).all (!·.1)=Y
 |[]=>rfl
 |_::r=>zY r
def yK{o:Expr}{m:Str}{args:List Expr}{apos:Pos}(ho:kR o=Y)(hs:starEach args X.env=args.map λe=>(J,eval e X.env))(hl:args.length<30)(hp:(apos.endLine == pos.line)=Y):rR X o m args apos pos:=by
 refine⟨do return (<-importBound o X.env).getD Y,?_⟩;show (do
  let I <-attributeBase o m X.env (eval o X.env)
  standAt apos.atName
  methodCall o m apos pos X.env I (args.length+0) (backTo pos (starEach args X.env)) (backToKw pos (keywordEach [] X.env)))=_
 rw[mV ho];have hf:methodCallForm (args.length+0) (backTo pos (starEach args X.env)) (backToKw pos (keywordEach [] X.env))=Y:=by unfold methodCallForm;rw[hs,zY];simp[backToKw,keywordEach];first|lia|(refine⟨?_,?_⟩<;>first|rfl|lia)
 have z:methodCallPos Y o X.env apos pos=pure pos:=by unfold methodCallPos;rw[hp];rfl
 unfold methodCall;rw[hf,z];unfold calleeOf;rfl
section
variable {K:xx}{T:Tx}{H:Hp}{S:Addr->Prop}
theorem bD.len:∀{kvs:List (Int×D)} {gs:List (Key×σ)},bD K T H S kvs gs->kvs.length=gs.length
 |[],gs,h=>by unfold bD at h;subst h;rfl
 | (i,d)::kvs,gs,h=>by unfold bD at h;obtain⟨x,r,rfl,_,q⟩:=h;exact congrArg (· + 1) (bD.len q)
def bD.nil:bD K T H S [] []:=by unfold bD;rfl
def bD.cons{i:Int}{d:D}{x:σ}{kvs:List (Int×D)}{gs:List (Key×σ)}(h:Rep K T H S d x)(g:bD K T H S kvs gs):bD K T H S ((i,d)::kvs) ((Sum.inl i,x)::gs):=by unfold bD;exact⟨x,gs,rfl,h,g⟩
def NB{i j:Int}(h:¬i=j):¬(Sum.inl i:Key)=Sum.inl j:=λz=>h (Sum.inl.inj z)
theorem bD.val{k:Int}:∀{kvs:List (Int×D)} {gs:List (Key×σ)},bD K T H S kvs gs->(∀d,bU kvs k=O d->∃x,gW gs (Sum.inl k)=O x/\Rep K T H S d x)/\(bU kvs k=U->gW gs (Sum.inl k)=U)
 |[],gs,h=>by unfold bD at h;subst h;exact⟨λd e=>(nomatch (show U=O d from e)),λ_=>rfl⟩
 | (i,d)::kvs,gs,h=>by
  unfold bD at h;obtain⟨x,r,rfl,p,q⟩:=h;obtain⟨R,I⟩:=bD.val (k:=k) q;by_cases e:i=k;have e1:bU ((i,d)::kvs) k=O d:=by unfold bU;rw[List.find?_cons_of_pos (by simpa using e)];rfl
  rw[e1,iH (congrArg Sum.inl e)];exact⟨λd' z=>⟨x,rfl,by cases z;exact p⟩,λz=>by cases z⟩;have e1:bU ((i,d)::kvs) k=bU kvs k:=by unfold bU;rw[List.find?_cons_of_neg (by simpa using e)]
  rw[e1,iI (NB e)];exact⟨R,I⟩
theorem bD.any{k:Int}:∀{kvs:List (Int×D)} {gs:List (Key×σ)},bD K T H S kvs gs->(kvs.any λI=>decide (I.1=k))=gs.any λI=>decide (I.1=(Sum.inl k:Key))
 |[],gs,h=>by unfold bD at h;subst h;rfl
 | (i,d)::kvs,gs,h=>by unfold bD at h;obtain⟨x,r,rfl,p,q⟩:=h;rw[any_cons,any_cons,bD.any q];congr 1;exact decide_eq_decide.mpr ⟨λz=>congrArg Sum.inl z,λz=>Sum.inl.inj z⟩
theorem bD.repl{k:Int}{d:D}(hv:Rep K T H S d v):∀{kvs:List (Int×D)} {gs:List (Key×σ)},bD K T H S kvs gs->bD K T H S (kvs.map λz=>if z.1=k then(z.1,d) else z) (gs.map λz=>if z.1=(Sum.inl k:Key) then(z.1,v) else z)
 |[],gs,h=>by unfold bD at h;subst h;exact bD.nil
 | (i,d')::kvs,gs,h=>by unfold bD at h;obtain⟨x,r,rfl,p,q⟩:=h;rw[vz,vz];by_cases e:i=k;rw[if_pos e,if_pos (congrArg Sum.inl e)];exact bD.cons hv (bD.repl hv q);rw[if_neg e,if_neg (NB e)];exact bD.cons p (bD.repl hv q)
theorem bD.snoc{k:Int}{d:D}(hv:Rep K T H S d v):∀{kvs:List (Int×D)} {gs:List (Key×σ)},bD K T H S kvs gs->bD K T H S (kvs++[(k,d)]) (gs++[(Sum.inl k,v)])
 |[],gs,h=>by unfold bD at h;subst h;exact bD.cons hv bD.nil
 | (i,d')::kvs,gs,h=>by unfold bD at h;obtain⟨x,r,rfl,p,q⟩:=h;exact bD.cons p (bD.snoc hv q)
def bD.put{k:Int}{d:D}(hv:Rep K T H S d v){kvs:List (Int×D)}{gs:List (Key×σ)}(h:bD K T H S kvs gs):bD K T H S (jP kvs k d) (putK gs (Sum.inl k) v):=by unfold jP putK;rw[bD.any h];split;exact bD.repl hv h;exact bD.snoc hv h
end
section
variable {CX:aq}{X:Cx}{c:CC}{G:GS}{T:Tx}{lv:Nat}{B:List Sl}{S:Addr->Prop}{pos:Pos}{ea eb ec:Expr}{a b d:D}
def aFt(hu:X.A.units+1<cLine){i:Int}{kvs:List (Int×D)}(ha:PE X ea (tD X.K T S B (.dct kvs)))(hb:PE X eb (tD X.K T S B (.int i)))(hp:jN eb)(hd:bU kvs i=O d):PE X (.Subscript ea eb pos) (tD X.K T S B d):=PE.mono (DS hu ha hb hp) λV H Q ⟨re,q⟩=>⟨re,λx H1 s1 z=>⟨re.same s1,λy H2 s2 I=>by have z:=z.same s2;unfold Rep at z I;subst I;obtain⟨p,gs,rfl,_,e,R⟩:=z;obtain⟨v,e1,rv⟩:=(bD.val (k:=i) R).1 d hd;refine⟨p,v,rfl,?_,q v H2 (s1.trans s2) rv⟩;rw[<-e1];exact xB.k (k:=Sum.inl i) e⟩⟩
def GG{kvs:List (Int×D)}(re:RE X.K T H S B V)(h:DF B i=O kvs):∃p gs,V[i]?=O (O (.ref p))/\H p=O (.dK gs)/\bD X.K T H S kvs gs:=by unfold DF at h;split at h;rename_i e;cases h;obtain⟨v,e1,r⟩:=re.at_ i _ e;unfold Rep at r;obtain⟨p,gs,rfl,_,e2,z⟩:=r;exact⟨p,gs,e1,e2,z⟩;rename_i e;cases h;obtain⟨p,R,e1,_,e2,I⟩:=re.at_ i _ e;obtain⟨gs,rfl,z⟩:=I.dct;exact⟨p,gs,e1,e2,z⟩;cases h
def aFl(h:XC CX X c G T lv)(hu:X.A.units+1<cLine){j:Nat}{i:Int}{kvs:List (Int×D)}(e:bE c x=O j)(hb:PE X eb (tD X.K T S B (.int i)))(hp:jN eb)(hs:DF B j=O kvs)(hd:bU kvs i=O d):PE X (.Subscript (.Name x p2) eb pos) (tD X.K T S B d):=PE.mono (DS hu (fN h e) hb hp) λV H Q ⟨re,q⟩=>by obtain⟨p,gs,e1,e2,I⟩:=GG re hs;refine⟨.ref p,e1,re,λy H2 s2 z=>?_⟩;unfold Rep at z;subst z;obtain⟨v,e3,rv⟩:=(bD.val (k:=i) (bD.gen (show aM X.K H H2 S S fromλa n _=>⟨n,λo e=>s2 a o e⟩) _ _ I)).1 d hd;refine⟨p,v,rfl,?_,q v H2 s2 rv⟩;rw[<-e3];exact xB.k (k:=Sum.inl i) (s2 _ _ e2)
end
structure Plain (e:Expr):Prop where
 star:∀(env:Env) (es:List Expr),starEach (e::es) env=(J,eval e env)::starEach es env
 marks:∀op,behindInMarks op e=J
 set_:∀env x,foldedSetIterable e env x=pure x
 ix:jN e
def cO{c:CC}{ir:IE}(h:cE n c e=O ir):Plain e:=by cases e<;>first|exact⟨λ_ _=>rfl,λ_=>rfl,λ_ _=>rfl,λ_ _=>rfl⟩|(cases n<;>exact nomatch (show U=O ir from h))
section
variable {CX:aq}{G:GS}{T:Tx}{lv:Nat}
def iu(CX:aq)(G:GS)(T:Tx)(lv n:Nat):Prop:=∀(X:Cx) (c:CC) (S:Addr->Prop) (B:List Sl) (e:Expr) (ir:IE),XC CX X c G T lv->cE n c e=O ir->∀d,ev G ir B=O d ->PE X e (tD X.K T S B d)/\(dJ c e=Y->∀ds,d=.lst ds->PE X e (d9 X.K T S B ds))
def qd(CX:aq)(G:GS)(T:Tx)(lv n:Nat):Prop:=∀(X:Cx) (c:CC) (S:Addr->Prop) (B:List Sl) (e:Expr) (ir:IE),XC CX X c G T lv->cT n c e=O ir->∀k,ev G ir B=O (.bl k)->PT X e (i5 X.K T S B k)
def um(CX:aq)(G:GS)(T:Tx)(lv n:Nat):Prop:=∀(X:Cx) (c:CC) (S:Addr->Prop) (B:List Sl) (k:Bool) (vs:List Expr) (ir:IE) (pos:Pos),XC CX X c G T lv ->(cB n c J k vs=O ir->∀d,ev G ir B=O d->PE X (.BoolOp (if k then .And else .Or) vs pos) (tD X.K T S B d)) /\(cB n c Y k vs=O ir->∀b,ev G ir B=O (.bl b)->PW X (.BoolOp (if k then .And else .Or) vs pos) (i5 X.K T S B b))
def l9(CX:aq)(G:GS)(T:Tx)(lv n:Nat):Prop:=∀(X:Cx) (c:CC) (S:Addr->Prop) (B:List Sl) (es:List Expr) (ir:IE),XC CX X c G T lv->cA n c es=O ir->∀d,ev G ir B=O d ->∃ds,d=.tup ds/\ds.length=es.length/\PA X es (da X.K T S B ds)/\starEach es X.env=es.map λe=>(J,eval e X.env)
def RM(_:Src)(_:Expr):Prop:=True
def RX{c:CC}{k:Src}(z:dD c tg=O (bg,tp))(h:ZW tp k=Y):RM k tg:=trivial
def OkI(CX:aq)(G:GS)(T:Tx)(lv n:Nat):Prop:=∀(X:Cx) (c:CC) (S:Addr->Prop) (B:List Sl) (e:Expr) (k:Src) (ir:IE),XC CX X c G T lv->cI n c e=O (k,ir)->∀d ds,ev G ir B=O d->items k d=O ds ->(∀tg,RM k tg->PI X tg e (tI X.K T S B ds))/\∀x,foldedSetIterable e X.env x=pure x
def LV(hE:iu CX G T lv n)(hA:l9 CX G T lv n):l9 CX G T lv (n+1):=by
 intro X c S B es ir xc h d hd;cases es with
 |nil=>cases (show O IE.nil=O ir from h);simp only[ev,u4]at hd;exact⟨[],hd.symm,rfl,EC,rfl⟩
 |cons e es=>obtain⟨x,hx,h⟩:=aF h;obtain⟨y,hy,rfl⟩:=aP h;simp only[ev,uy,u6]at hd;obtain⟨a,ha,w,hw,hd⟩:=hd;obtain⟨ds,rfl,hl,z,hs⟩:=hA X c S B es y xc hy w hw;simp only[u4]at hd;have st:=(cO hx).star X.env es;refine⟨a::ds,hd.symm,by simp[hl],vK (hE X c S B e x xc hx a ha).1 z st,?_⟩;rw[st,hs];rfl
def LU(hE:iu CX G T lv n)(hT:qd CX G T lv n)(W:um CX G T lv n):um CX G T lv (n+1):=by
 intro X c S B k vs ir pos xc;refine⟨λh d hd=>?_,λh b hb=>?_⟩
 .cases vs with
  |nil=>exact nomatch (show U=O ir from h)
  |cons a r=>
   cases r with
   |nil=>exact aBz (hE X c S B a ir xc h d hd).1
   |cons b r=>
    obtain⟨x,hx,h⟩:=aF h;obtain⟨y,hy,rfl⟩:=aP h;cases k with
    |true=>
     simp only[if_true,ev,uy,u6]at hd;obtain⟨w,hw,hd⟩:=hd;have p1:=(hE X c S B a x xc hx w hw).1;cases w<;>first|(simp only[reduceCtorEq]at hd;done)|skip
     rename_i kk;cases kk with
     |true=>
      simp only[u6]at hd;obtain⟨z,hz,hd⟩:=hd;have p2:=(W X c S B Y (b::r) y pos xc).1 hy z hz;have R:z=d:=by cases z<;>simp_all
      subst R;exact PE.mono (LF p1 p2) λV H Q ⟨re,q⟩=>⟨re,λx H1 s1 I=>by unfold Rep at I;exact⟨Y,I,yQ ⟨re.same s1,λv H' s2 r=>q v H' (s1.trans s2) r⟩⟩⟩
     |false=>simp only[u4]at hd;subst hd;exact PE.mono (LF p1 (tb:=λ_ _ _=>False) (λ_ _ _ _ _ _ h=>h.elim)) λV H Q ⟨re,q⟩=>⟨re,λx H1 s1 I=>by unfold Rep at I;exact⟨J,I,oW (q _ H1 s1 cG)⟩⟩
    |false=>
     simp only[v7,if_false,ev,uy,u6]at hd;obtain⟨w,hw,hd⟩:=hd;have p1:=(hE X c S B a x xc hx w hw).1;cases w<;>first|(simp only[reduceCtorEq]at hd;done)|skip
     rename_i kk;cases kk with
     |false=>
      simp only[u6]at hd;obtain⟨z,hz,hd⟩:=hd;have p2:=(W X c S B J (b::r) y pos xc).1 hy z hz;have R:z=d:=by cases z<;>simp_all
      subst R;exact PE.mono (ZJ p1 p2) λV H Q ⟨re,q⟩=>⟨re,λx H1 s1 I=>by unfold Rep at I;exact⟨J,I,oW ⟨re.same s1,λv H' s2 r=>q v H' (s1.trans s2) r⟩⟩⟩
     |true=>simp only[u4]at hd;subst hd;exact PE.mono (ZJ p1 (tb:=λ_ _ _=>False) (λ_ _ _ _ _ _ h=>h.elim)) λV H Q ⟨re,q⟩=>⟨re,λx H1 s1 I=>by unfold Rep at I;exact⟨Y,I,yQ (q _ H1 s1 cG)⟩⟩
 .cases vs with
  |nil=>exact nomatch (show U=O ir from h)
  |cons a r=>
   cases r with
   |nil=>
    cases k with
    |true=>exact US (hT X c S B a ir xc h b hb)
    |false=>exact KH (hT X c S B a ir xc h b hb)
   |cons b' r=>
    obtain⟨x,hx,h⟩:=aF h;obtain⟨y,hy,rfl⟩:=aP h;cases k with
    |true=>
     simp only[if_true,ev,uy,u6]at hb;obtain⟨w,hw,hb⟩:=hb;cases w<;>first|(simp only[reduceCtorEq]at hb;done)|skip
     rename_i kk;have p1:=hT X c S B a x xc hx kk hw;cases kk with
     |true=>
      simp only[u6]at hb;obtain⟨z,hz,hb⟩:=hb;have R:z=.bl b:=by cases z<;>simp_all
      subst R;have p2:=(W X c S B Y (b'::r) y pos xc).2 hy b hz;exact PW.mono (KJ p1 p2) λV H Q ⟨re,q⟩=>⟨re,λH1 s1=>yQ ⟨re.same s1,λH' s2=>q H' (s1.trans s2)⟩⟩
     |false=>simp only[u4,D.bl.injEq]at hb;subst hb;exact PW.mono (KJ p1 (tB':=λ_ _ _=>False) (λ_ _ _ _ _ _ _ h=>h.elim)) λV H Q ⟨re,q⟩=>⟨re,λH1 s1=>oW (q H1 s1)⟩
    |false=>
     simp only[v7,if_false,ev,uy,u6]at hb;obtain⟨w,hw,hb⟩:=hb;cases w<;>first|(simp only[reduceCtorEq]at hb;done)|skip
     rename_i kk;have p1:=hT X c S B a x xc hx kk hw;cases kk with
     |false=>
      simp only[u6]at hb;obtain⟨z,hz,hb⟩:=hb;have R:z=.bl b:=by cases z<;>simp_all
      subst R;have p2:=(W X c S B J (b'::r) y pos xc).2 hy b hz;exact PW.mono (KI p1 p2) λV H Q ⟨re,q⟩=>⟨re,λH1 s1=>oW ⟨re.same s1,λH' s2=>q H' (s1.trans s2)⟩⟩
     |true=>simp only[u4,D.bl.injEq]at hb;subst hb;exact PW.mono (KI p1 (tB':=λ_ _ _=>False) (λ_ _ _ _ _ _ _ h=>h.elim)) λV H Q ⟨re,q⟩=>⟨re,λH1 s1=>yQ (q H1 s1)⟩
def jK(xc:XC CX X c G T lv)(h1:gH.contains x=Y)(h2:c.fns.contains x=J)(h3:c.cls.contains x=J):X.mg x=U:=xc.go.bi x h1 h2 h3
def LR(hE:iu CX G T lv n)(hA:l9 CX G T lv n):OkI CX G T lv (n+1):=by
 intro X c S B e k ir xc h d ds hd hi;have h:(match (nY c e).bind λq=>(srcOf q.1).map λk=>(k,q.2) with
  |some q=>(match q.1 with
   |.rng=>(cA n c q.2).map λy=>(Src.rng,IE.tup y)
   |k=>(one? q.2).bind λa=>(cE n c a).map λy=>(k,y))
  |none=>(cE n c e).map λy=>(Src.seq,y))=O (k,ir):=h
 cases hb:((nY c e).bind λq=>(srcOf q.1).map λk=>(k,q.2)) with
 |none=>
  rw[hb]at h;obtain⟨y,hy,e1⟩:=aP h;cases e1;exact⟨λtg _=>UZ (hE X c S B e ir xc hy d hd).1 hi,(cO hy).set_ X.env⟩
 |some q=>
  rw[hb]at h;obtain⟨r,hr,hq⟩:=aF hb;obtain⟨k',hk,rfl⟩:=aP hq;obtain⟨p1,p2,rfl,hg,ho⟩:=kG hr;obtain⟨hf,hc⟩:=DX ho;have hx:(r.1="range"/\k'=.rng)\/(r.1="reversed"/\k'=.rev):=by
   unfold srcOf at hk;split at hk
   .rename_i e0;cases hk;exact .inl ⟨e0,rfl⟩
   .split at hk
    .rename_i e0;cases hk;exact .inr ⟨e0,rfl⟩
    .cases hk
  obtain⟨x,args⟩:=r
  rcases hx with ⟨rfl,rfl⟩|⟨rfl,rfl⟩
  .obtain⟨y,hy,e1⟩:=aP h;cases e1;simp only[ev,vc]at hd;obtain⟨as,has,rfl⟩:=hd;have I:ev G y B=O (.tup as):=by
    unfold bN at has;split at has
    .cases has;assumption
    .cases has
   obtain⟨R,e1,hl,z,hs⟩:=hA X _ S B args y xc hy _ I;cases e1;exact⟨λtg _=>VA (xc.glob hg) (jK xc z9 hf hc) z hs hi hl,λ_=>rfl⟩
  .obtain⟨a,ha,h⟩:=aF h;obtain rfl:=bV ha;obtain⟨y,hy,e1⟩:=aP h;cases e1;have st:=(cO hy).star X.env []
   exact⟨λtg _=>VB (xc.glob hg) (jK xc z9 hf hc) (vK (hE X _ S B a ir xc hy d hd).1 EC st) st hi,λ_=>rfl⟩
end
section
variable {CX:aq}{X:Cx}{c:CC}{G:GS}{T:Tx}{lv:Nat}{B:List Sl}{S:Addr->Prop}{pos p:Pos}{ea:Expr}
noncomputable def XB:Bool->CmpOp
 |false=>.In
 |true=>.NotIn
def LG(h:XC CX X c G T lv){y:Str}{kvs:List (Str×D)}(e:aV c x=Y)(hk:G.dk x=O kvs)(ha:PE X ea (tD X.K T S B (.str y)))(neg:Bool):PC X (XB neg) ea (.Name x p) (tD X.K T S B (.bl (neg != (kvs.lookup y).isSome))):=by
 obtain⟨a,hm,hs,o,vs,hl,hd,z,_⟩:=h.go.dk x kvs hk;intro pins s V H Q I ⟨re,q⟩;refine ai (ha pins s V H (λv H'=>aI H H'/\Rep X.K T H' S (.str y) v) I ⟨re,λv H' sm r=>⟨sm,r⟩⟩) λiv s1 ⟨v,H1,I1,W,sm,r⟩=>?_;refine dZ I1 (h.glob e) hm ?_ (h.gne e);unfold Rep at r;subst r;obtain⟨t,rfl⟩:=W;have dd:s1.heap.DictOf (bX X.prog X.w) a vs:=Heap.dictOf_iff.mpr ⟨o,I1.kIn a o hl,hd⟩;have R:∀b,b=(neg != (kvs.lookup y).isSome)->EP X pins V Q (.bool b) {s1 with toks:=s1.toks+1}:=λb hb=>⟨.bl b,H1,I1.tok _,rfl,q _ H1 sm (by rw[hb];unfold Rep;rfl)⟩;cases neg with
 |false=>exact wpAny_in_of (knd:=bX X.prog X.w) (eL X.prog X.w y t) hs dd.mapOf (R _ (by rw[z];simp))
 |true=>exact wpAny_notIn_of (knd:=bX X.prog X.w) (eL X.prog X.w y t) hs dd.mapOf (R _ (by rw[z];simp))
def aFp(h:XC CX X c G T lv){y:Str}{kvs:List (Str×D)}(e:aV c x=Y)(hk:G.dk x=O kvs)(ha:PE X ea (tD X.K T S B (.str y)))(neg:Bool):PE X (.Compare ea [XB neg] [.Name x p] pos) (tD X.K T S B (.bl (neg != (kvs.lookup y).isSome))):=aBE (LG h e hk ha neg) (by cases neg<;>rfl)
def aCj(h:XC CX X c G T lv){y:Str}{kvs:List (Str×D)}(e:aV c x=Y)(hk:G.dk x=O kvs)(ha:PE X ea (tD X.K T S B (.str y)))(neg:Bool):PT X (.Compare ea [XB neg] [.Name x p] pos) (i5 X.K T S B (neg != (kvs.lookup y).isSome)):=PT.mono (aBv (LG h e hk ha neg) (by cases neg<;>rfl)) λV H Q ⟨re,q⟩=>⟨re,λv H' sm r=>by unfold Rep at r;exact⟨_,r,q H' sm⟩⟩
def aFm{eb:Expr}(h:XC CX X c G T lv){y:Str}{kvs:List (Str×D)}{d:D}(e:aV c x=Y)(hk:G.dk x=O kvs)(ha:PE X eb (tD X.K T S B (.str y)))(hs:aDs eb)(hd:kvs.lookup y=O d):PE X (.Subscript (.Name x p) eb pos) (tD X.K T S B d):=by
 obtain⟨a,hm,dw,o,vs,hl,W,R,z⟩:=h.go.dk x kvs hk;intro pins s V H Q I ⟨re,q⟩;refine DB PySem.F.slot_dict_getitem.lookup hs (dZ I (h.glob e) hm ?_ (h.gne e));refine ai (ha pins s V H (λv H'=>aI H H'/\Rep X.K T H' S (.str y) v) I ⟨re,λv H' sm r=>⟨sm,r⟩⟩) λiv s1 ⟨v,H1,I1,ry,sm,r⟩=>?_;unfold Rep at r;subst r;obtain⟨t,rfl⟩:=ry;have dd:s1.heap.DictOf (bX X.prog X.w) a vs:=Heap.dictOf_iff.mpr ⟨o,I1.kIn a o hl,W⟩;have hv:(valueAt vs (Sum.inr y)).isSome=Y:=by rw[R,hd];rfl
 obtain⟨u,hu⟩:=Option.isSome_iff_exists.mp hv;obtain⟨w,fe,rep⟩:=z y d u hd hu;refine⟨?_,wpAny_getItem_of (knd:=bX X.prog X.w) (eL X.prog X.w y t) dd.mapOf hu ⟨w,H1,I1.tok _,fe,q _ H1 sm (rep H1 S (MQ I1) (re.same sm).dom)⟩⟩;exact dd.typeIs
end
section
variable {X:Cx}{T:Tx}{S:Addr->Prop}
theorem qZ{K:xx}{H:Hp}:∀{ds:List D} {ns:List Bool} {ys:List σ} {us:List Value},kB ds=O ns->aC K T H S ds ys->aX ys us->us=ns.map .bool
 |[],ns,ys,us,h,r,v=>by simp only[kB]at h;cases h;unfold aC at r;subst r;cases v;rfl
 |d::ds,ns,ys,us,h,r,v=>by
  cases d<;>simp only[kB,reduceCtorEq]at h
  rename_i i;rw[vc]at h;obtain⟨R,h1,rfl⟩:=h;unfold aC at r;obtain⟨x,w,rfl,z,I⟩:=r;unfold Rep at z;subst z;cases v with
  |cons h2 h3=>cases h2;rw[qZ h1 I h3];rfl
def aGf(hc:X.calm=Y):eW X (.builtin "any") (my X.K T S XU):=by
 rintro pins s V H xs us Q I r ⟨ds,d,dom,rl,e,q⟩;unfold XU at e;split at e;obtain⟨x,rfl,R⟩:=rep1 rl;obtain⟨bs,he,rfl⟩:=vc.mp e;unfold Rep at R;obtain⟨p,ys,rfl,_,hq,ry⟩:=R;obtain⟨u,rfl,ru⟩:=vals1 r;cases ru;obtain⟨its,rv,pl,hz⟩:=I.list (SqL.of hq);have hb:=qZ he ry rv;subst hb;have hl:=pl.isList;have cw:p<s.heap.objs.size:=by obtain⟨_,e,_⟩:=hl;exact vk e
 refine call_any_walk (wpAny_pyIter_list hl ?_);refine⟨s.heap.objs.size,[s.heap.objs.size,p],[s.heap.objs.size],(bs.map Value.bool).toArray.size,_,_,λi=>(bs[i]?).getD J,rfl,Walks.list (A:=X.A.in1) (I.ok.hd hc) _ p (wj cw) (bs.map Value.bool).toArray,⟨⟨_,wy _ rfl,rfl,rfl⟩,hl.push _⟩,λi v s' Q' E' hP W=>?_,λh' tk hk=>?_⟩;have z:(bs.map Value.bool)[i]?=O v:=by simpa using hP
 rw[uv,vc]at z;obtain⟨b,e,rfl⟩:=z;simp only[e,getD_some]at W;exact wpAny_truthy_bool W;have e:((List.range (bs.map Value.bool).toArray.size).any λi=>(bs[i]?).getD J)=bs.any id:=by rw[v9,uw];exact LSm.range_any bs
 rw[e];exact⟨.bl _,H,I.kept (t':=tk) (LSm.kept_iter hk),rfl,q _ H (aI.refl H) cG⟩;cases e
end
open PySem.W
structure Ord (n:Nat) (lt:Nat->Nat->Bool):Prop where
 tot:∀a b,a<n->b<n->a≠b->lt a b=J->lt b a=Y
 asy:∀a b,a<n->b<n->lt a b=Y->lt b a=J
 tra:∀a b c,a<n->b<n->c<n->lt a b=Y->lt b c=Y->lt a c=Y
noncomputable def fp(p:Array Nat)(i:Nat):Nat:=p.getD i 0
def kA{p q:Array Nat}{j:Nat}(h:p[i]?=q[j]?):fp p i=fp q j:=by unfold fp;rw[getD_eq_getD_getElem?,getD_eq_getD_getElem?,h]
structure Prm (n:Nat) (p:Array Nat):Prop where
 pm:p.toList.Perm (List.range n)
theorem Prm.size{p:Array Nat}(h:Prm n p):p.size=n:=by have:=h.pm.length_eq;simpa using this
def Prm.lt{p:Array Nat}(h:Prm n p)(hi:i<n):fp p i<n:=by
 have hs:=h.size;have:p[i]∈p.toList:=by simp
 have:=h.pm.mem_iff.mp this;unfold fp;rw[getD_eq_getD_getElem?,Array.getElem?_eq_getElem z7];simpa using this
def Prm.ne{p:Array Nat}(h:Prm n p){j:Nat}(hi:i<n)(I:j<n)(e:i≠j):fp p i≠fp p j:=by
 have hs:=h.size;have nd:p.toList.Nodup:=h.pm.nodup_iff.mpr List.nodup_range;unfold fp;rw[getD_eq_getD_getElem?,Array.getElem?_eq_getElem z7,getD_eq_getD_getElem?,Array.getElem?_eq_getElem z7];simp only[getD_some];intro z;have l1:i<p.toList.length:=by simp;lia
 have l2:j<p.toList.length:=by simp;lia
 exact e ((List.getElem_inj (h₀:=l1) (h₁:=l2) nd).mp (by simpa using z))
def Prm.perm{p q:Array Nat}(h:Prm n p)(k:q.Perm p):Prm n q:=⟨(Array.perm_iff_toList_perm.mp k).trans h.pm⟩
section
variable {n:Nat}{lt:Nat->Nat->Bool}{p:Array Nat}
def qf(lt:Nat->Nat->Bool)(p:Array Nat)(k:Nat):Prop:=∀i j,i<j->j<k->lt (fp p i) (fp p j)=Y
def nV{k d:Nat}(hk:k<p.size)(hd:d<=k)(i:Nat):fp (bubble p k d) i=if i=k-d then fp p k else if k-d<i/\i<=k then fp p (i-1) else fp p i:=by have e:=getElem?_bubble hk d hd i;by_cases h1:i=k-d;rw[if_pos h1]at e ⊢;exact kA e;rw[if_neg h1]at e ⊢;by_cases h2:k-d<i/\i<=k;rw[if_pos h2]at e ⊢;exact kA e;rw[if_neg h2]at e ⊢;exact kA e
end
noncomputable def hU:Bool->Keyed->Array Keyed->Nat->Nat->Nat->StateT SortSt Sem (Option Nat):=sortPriv% PySem.Builtin.gallop
noncomputable def yL:Array Keyed->Array Keyed->StateT SortSt Sem (Array Keyed):=sortPriv% PySem.Builtin.mergeLo
noncomputable def yM:Array Keyed->Array Keyed->StateT SortSt Sem (Array Keyed):=sortPriv% PySem.Builtin.mergeHi
section
variable {prog:y8}{w:World}{A:Around}{E:y9}{κ:SortKind}{it:Array Keyed}{n:Nat}{lt:Nat->Nat->Bool}{s:Shared}{α β:Type}
def SK(prog:y8)(w:World)(A:Around)(E:y9)(s:Shared){α:Type}(m:StateT SortSt Sem α)(Q:α->SortSt->Prop)(st:SortSt):Prop:=kasC (model prog w) A E m (λa ae s'=>s'=s/\Q a ae) st s
def aD{m:StateT SortSt Sem α}{f:α->StateT SortSt Sem β}{Q:β->SortSt->Prop}(h:SK prog w A E s m (λa ae=>SK prog w A E s (f a) Q ae) st):SK prog w A E s (m >>= f) Q st:=by refine kasC_bind (wx h (λr s' hr=>?_) λ_ _ e=>e);obtain⟨rfl,h⟩:=hr;exact h
def bW{m:StateT SortSt Sem α}{Q z:α->SortSt->Prop}(h:SK prog w A E s m Q st)(hq:∀a ae,Q a ae->z a ae):SK prog w A E s m z st:=wx h (λr s' hr=>⟨hr.1,hq _ _ hr.2⟩) λ_ _ e=>e
def aG{a:α}{Q:α->SortSt->Prop}(h:Q a st):SK prog w A E s (pure a) Q st:=kasC_pure ⟨rfl,h⟩
def dP{c:Prop}[Decidable c]{a b:StateT SortSt Sem α}{Q:α->SortSt->Prop}(hc:c)(h:SK prog w A E s a Q st):SK prog w A E s (if c then a else b) Q st:=by rw[if_pos hc];exact h
def dQ{c:Prop}[Decidable c]{a b:StateT SortSt Sem α}{Q:α->SortSt->Prop}(hc:¬c)(h:SK prog w A E s b Q st):SK prog w A E s (if c then a else b) Q st:=by rw[if_neg hc];exact h
def eZ{Q:SortSt->SortSt->Prop}(h:Q st st):SK prog w A E s get Q st:=kasC_get ⟨rfl,h⟩
def bQ{f:SortSt->SortSt}{Q:PUnit->SortSt->Prop}(h:Q ⟨⟩ (f st)):SK prog w A E s (modify f) Q st:=kasC_modify ⟨rfl,h⟩
def aAZ{x:SortSt}{Q:PUnit->SortSt->Prop}(h:Q ⟨⟩ x):SK prog w A E s (set x) Q st:=by show SK prog w A E s (modify λ_=>x) Q st;exact bQ h
def iQ{x:String}{Q:PUnit->SortSt->Prop}(h:Q ⟨⟩ st):SK prog w A E s (liftM (rule x):StateT SortSt Sem PUnit) Q st:=kasC_lift (wpAny_rule ⟨rfl,h⟩)
def bJ{z:Array Keyed}{x:Keyed}{Q:Keyed->SortSt->Prop}(e:z[i]?=O x)(h:Q x st):SK prog w A E s (elem' z i) Q st:=by rw[elem'_eq,e];exact aG h
def gu(prog:y8)(w:World)(A:Around)(κ:SortKind)(it:Array Keyed)(n:Nat)(lt:Nat->Nat->Bool)(s:Shared):Prop:=∀i j (C:Bool->Shared->Prop),i<n->j<n->C (lt i j) s->kas_cmp prog w A κ it i j C s
def xN(hc:gu prog w A κ it n lt s){j:Nat}{Q:Option Bool->SortSt->Prop}(hk:kindOf st=κ)(hi:i<n)(z:j<n)(h:Q (O (lt i j)) st):SK prog w A E s (lt' (kas_item it i) (kas_item it j)) Q st:=by unfold SK;rw[lt'_eq];refine kasC_bind (kasC_get ?_);rw[hk];exact kasC_bind (kasC_lift (wpAny_attempt (wx (hc i j (λc s'=>s'=s/\c=lt i j) hi z ⟨rfl,rfl⟩) (λc s' hc=>by obtain⟨rfl,rfl⟩:=hc;exact kasC_pure ⟨rfl,h⟩) λ_ _ I=>I.elim)))
abbrev sQ(Q I:β->SortSt->Prop)(r:ForInStep β)(st:SortSt):Prop:=match r with
 |.done b=>Q b st
 |.yield b=>I b st
theorem DH{f:Nat->β->StateT SortSt Sem (ForInStep β)}{Q:β->SortSt->Prop}(I:Nat->β->SortSt->Prop)(hf:∀x i b st,I i b st->SK prog w A E s (f x b) (sQ Q (I (i+1))) st):∀(m a i:Nat) (b:β) (st:SortSt),I i b st->(∀b st,I (i+m) b st->Q b st)->SK prog w A E s (forIn (range' a m) b f) Q st
 | 0,a,i,b,st,W,R=>by show SK prog w A E s (forIn [] b f) Q st;exact kasC_nil ⟨rfl,R b st W⟩
 |m+1,a,i,b,st,W,R=>by
  show SK prog w A E s (forIn (a::range' (a+1) m) b f) Q st;refine kasC_cons (wx (hf a i b st W) (λr s' hr=>?_) λ_ _ e=>e);obtain⟨r,ae⟩:=r;obtain⟨e,h⟩:=hr;rw[e];cases r with
  |done b'=>exact⟨rfl,h⟩
  |yield b'=>exact DH I hf m (a+1) (i+1) b' ae h λb st z=>R b st (by rwa [Nat.add_assoc,Nat.add_comm 1 m]at z)
def iS{f:Nat->β->StateT SortSt Sem (ForInStep β)}{Q:β->SortSt->Prop}{b:β}(I:Nat->β->SortSt->Prop)(h0:I 0 b st)(hf:∀x i b st,I i b st->SK prog w A E s (f x b) (sQ Q (I (i+1))) st)(z:∀b st,I (m-a) b st->Q b st):SK prog w A E s (forIn [a:m] b f) Q st:=kasC_range (DH I hf (m-a) a 0 b st h0 λb st h=>z b st (by rwa [vq]at h))
def gK(hc:gu prog w A κ it n lt s){left:Bool}{I base k z:Nat}{q:Nat->Nat}{arr:Array Keyed}{Q:Option Nat->SortSt->Prop}(hk:kindOf st=κ)(hkey:I<n)(hq:∀i,i<k->q i<n)(ha:∀i,i<k->arr[base+i]?=O (kas_item it (q i))) (hb:∀i,i<k->(if left then lt (q i) I else !lt I (q i))=decide (i<m)) (hm:m<=k) (hh:z<k) (h:Q (O m) st):SK prog w A E s (hU left (kas_item it I) arr base k z) Q st:=by
 have bey:∀(i:Nat) (R:Option Bool->SortSt->Prop),i<k->R (O (decide (i<m))) st->SK prog w A E s (do let x <-elem' arr (base+i);if left then lt' x (kas_item it I) else return (<-lt' (kas_item it I) x).map (!·)) R st:=λi R hi hR=>by
  refine aD (bJ (ha i hi) ?_);have e:=hb i hi;cases left with
  |true=>rw[if_pos rfl]at e ⊢;exact xN hc hk (hq i hi) hkey (by rw[e];exact hR)
  |false=>rw[if_neg Aa]at e ⊢;exact aD (xN hc hk hkey (hq i hi) (aG (by show R (O (!lt I (q i))) st;rw[e];exact hR)))
 unfold hU;refine aD (bey z _ hh ?_);dsimp only;have fin:∀(lo hi:Nat),lo<=m->m<=hi->hi<=k->SK prog w A E s (forIn [:k] ((U,lo,hi):Option (Option Nat)×Nat×Nat) λx W=>
   if W.snd.fst >= W.snd.snd then pure (ForInStep.done (U,W.snd.fst,W.snd.snd))
   else do
    let ug <-(do let x <-elem' arr (base+(W.snd.fst+(W.snd.snd-W.snd.fst) / 2));if left then lt' x (kas_item it I) else return (<-lt' (kas_item it I) x).map (!·));match ug with
     |some more=>if more=Y then pure (ForInStep.yield (U,W.snd.fst+(W.snd.snd-W.snd.fst) / 2+1,W.snd.snd)) else pure (ForInStep.yield (U,W.snd.fst,W.snd.fst+(W.snd.snd-W.snd.fst) / 2))
     |x=>pure (ForInStep.done (O U,W.snd.fst,W.snd.snd))) (λb ae=>b=(U,m,m)/\ae=st) st:=λlo hi h1 h2 h3=>by
  refine iS (λi b ae=>ae=st/\∃lo hi,b=(U,lo,hi)/\lo<=m/\m<=hi/\hi<=k/\hi+i<=k+lo) ⟨rfl,lo,hi,rfl,h1,h2,h3,z7⟩ ?_ ?_;rintro x i b ae ⟨rfl,lo,hi,rfl,h1,h2,h3,h4⟩;dsimp only;by_cases hl:lo >= hi;rw[if_pos hl];refine aG ⟨?_,rfl⟩;rw[show lo=m by lia,show hi=m by lia];rw[if_neg hl];refine aD (bey _ _ z7 ?_);dsimp only;by_cases hx:lo+(hi-lo) / 2<m;rw[if_pos (by simpa using hx)];exact aG ⟨rfl,_,_,rfl,z7,h2,h3,z7⟩;rw[if_neg (by simpa using hx)];exact aG ⟨rfl,_,_,rfl,h1,z7,z7,z7⟩;rintro b ae ⟨rfl,lo,hi,rfl,h1,h2,h3,h4⟩;refine⟨?_,rfl⟩;rw[show lo=m by lia,show hi=m by lia]
 by_cases hx:z<m;rw[if_pos (by simpa using hx)];refine aD (bW (iS (Q:=λb ae=>ae=st/\∃l o,b=((U,l,o):Option (Option Nat)×Nat×Nat)/\l<o/\z+l<m/\m<=z+min o (k-z)) (λi b ae=>ae=st/\∃l o,b=(U,l,o)/\l<o/\z+l<m/\i+1<=o) ⟨rfl,0,1,rfl,z7,z7,z7⟩ ?_ ?_) λb ae hb=>?_);rintro x i b ae ⟨rfl,l,o,rfl,h1,h2,h3⟩;dsimp only;by_cases ho:o >= k-z;rw[if_pos ho];exact aG ⟨rfl,l,o,rfl,h1,h2,z7⟩;rw[if_neg ho];refine aD (bey _ _ z7 ?_);dsimp only;by_cases hy:z+o<m;rw[if_neg (by simpa using hy)];exact aG ⟨rfl,_,_,rfl,z7,hy,z7⟩;rw[if_pos (by simpa using hy)];exact aG ⟨rfl,l,o,rfl,h1,h2,z7⟩;rintro b ae ⟨rfl,l,o,rfl,h1,h2,h3⟩;exact⟨rfl,l,o,rfl,h1,h2,z7⟩;obtain⟨rfl,l,o,rfl,h1,h2,h3⟩:=hb;dsimp only;refine aD (bW (fin (z+l+1) (z+min o (k-z)) z7 h3 z7) λb ae hb=>?_);obtain⟨rfl,rfl⟩:=hb;exact aG h;rw[if_neg (by simpa using hx)];refine aD (bW (iS (Q:=λb ae=>ae=st/\∃l o,b=((U,l,o):Option (Option Nat)×Nat×Nat)/\l<o/\m+l<=z/\z+1-min o (z+1)<=m) (λi b ae=>ae=st/\∃l o,b=(U,l,o)/\l<o/\m+l<=z/\i+1<=o) ⟨rfl,0,1,rfl,z7,z7,z7⟩ ?_ ?_) λb ae hb=>?_);rintro x i b ae ⟨rfl,l,o,rfl,h1,h2,h3⟩;dsimp only;by_cases ho:o >= z+1;rw[if_pos ho];exact aG ⟨rfl,l,o,rfl,h1,h2,z7⟩;rw[if_neg ho];refine aD (bey _ _ z7 ?_);dsimp only;by_cases hy:z-o<m;rw[if_pos (by simpa using hy)];exact aG ⟨rfl,l,o,rfl,h1,h2,z7⟩;rw[if_neg (by simpa using hy)];exact aG ⟨rfl,_,_,rfl,z7,z7,z7⟩;rintro b ae ⟨rfl,l,o,rfl,h1,h2,h3⟩;exact⟨rfl,l,o,rfl,h1,h2,z7⟩;obtain⟨rfl,l,o,rfl,h1,h2,h3⟩:=hb;dsimp only;refine aD (bW (fin (z+1-min o (z+1)) (z-l) h3 z7 z7) λb ae hb=>?_);obtain⟨rfl,rfl⟩:=hb;exact aG h
end
section
variable {lt:Nat->Nat->Bool}{it:Array Keyed}{xs ys:List Nat}
abbrev So(lt:Nat->Nat->Bool)(zs:List Nat):Prop:=zs.Pairwise λi j=>lt i j=Y
noncomputable def aO(it:Array Keyed)(zs:List Nat):Array Keyed:=(zs.map (kas_item it)).toArray
def aJ:(aO it zs).size=zs.length:=by unfold aO;simp
def bM{x:Nat}(h:zs[i]?=O x):(aO it zs)[i]?=O (kas_item it x):=by unfold aO;rw[List.getElem?_toArray,uv,h];rfl
def oH{x:Nat}:(aO it zs).push (kas_item it x)=aO it (zs++[x]):=by unfold aO;simp
def dB{us:List Nat}:aO it zs++aO it us=aO it (zs++us):=by unfold aO;simp
def dX{j:Nat}:(aO it zs).extract i j=aO it ((zs.drop i).take (j-i)):=by unfold aO;rw[List.extract_toArray,List.extract_eq_take_drop,<-List.map_drop,<-List.map_take]
structure MG (lt:Nat->Nat->Bool) (n:Nat) (xs ys:List Nat):Prop where
 o:Ord n lt
 xn:∀x∈xs,x<n
 yn:∀y∈ys,y<n
 sx:So lt xs
 sy:So lt ys
 ne:∀x∈xs,∀y∈ys,x≠y
def MI(lt:Nat->Nat->Bool)(it:Array Keyed)(xs ys:List Nat)(out:Array Keyed)(ia ib:Nat):Prop:=∃zs,out=aO it zs/\zs.Perm (xs.take ia++ys.take ib)/\So lt zs/\∀z∈zs,∀x,x∈xs.drop ia\/x∈ys.drop ib->lt z x=Y
def Res(lt:Nat->Nat->Bool)(it:Array Keyed)(xs ys:List Nat)(r:Array Keyed):Prop:=∃zs,r=aO it zs/\zs.Perm (xs++ys)/\So lt zs
variable {n:Nat}
def eA{l:List Nat}{x:Nat}(h:l[i]?=O x):l.drop i=x::l.drop (i+1):=by obtain⟨hi,e⟩:=u0.mp h;rw[List.drop_eq_getElem_cons hi,e]
def fH{l:List Nat}{x:Nat}(h:l[i]?=O x):l.take (i+1)=l.take i++[x]:=by rw[List.take_add_one,h];rfl
def kK{l:List Nat}(h:So lt l){x:Nat}(hx:l[i]?=O x):∀y∈l.drop (i+1),lt x y=Y:=by have:=List.Pairwise.drop (i:=i) h;rw[eA hx]at this;exact(xv.mp this).1
def fR{l m:List Nat}(h1:So lt l)(h2:So lt m)(h:∀a∈l,∀b∈m,lt a b=Y):So lt (l++m):=List.pairwise_append.mpr ⟨h1,h2,h⟩
def MI.pushB(g:MG lt n xs ys){x:Nat}(h:MI lt it xs ys out ia ib)(hx:xs[ia]?=O x)(hy:ys[ib]?=O y)(hl:lt y x=Y):MI lt it xs ys (out.push (kas_item it y)) ia (ib+1):=by
 obtain⟨zs,rfl,hp,hs,hz⟩:=h;have I:y∈ys.drop ib:=by rw[eA hy];exact x8
 refine⟨zs++[y],oH,?_,fR hs (pairwise_singleton _ _) λa ha b hb=>?_,λz W v hv=>?_⟩;rw[fH hy,<-vd];exact hp.append_right [y];rw[vn.mp hb];exact hz a ha y (.inr I);rcases xw.mp W with q|q;exact hz z q v (hv.imp id λw=>by rw[eA hy];exact v8 _ w);rw[vn.mp q];rcases hv with hv|hv;rw[eA hx]at hv;rcases vo.mp hv with e|hv;rw[e];exact hl;have R:=u5 hx;exact g.o.tra _ _ _ (g.yn y (u5 hy)) (g.xn x R) (g.xn v (mem_of_mem_drop hv)) hl (kK g.sx hx v hv);exact kK g.sy hy v hv
def MI.pushA(g:MG lt n xs ys){x:Nat}(h:MI lt it xs ys out ia ib)(hx:xs[ia]?=O x)(hy:ys[ib]?=O y)(hl:lt x y=Y):MI lt it xs ys (out.push (kas_item it x)) (ia+1) ib:=by
 obtain⟨zs,rfl,hp,hs,hz⟩:=h;have I:x∈xs.drop ia:=by rw[eA hx];exact x8
 refine⟨zs++[x],oH,?_,fR hs (pairwise_singleton _ _) λa ha b hb=>?_,λz R v hv=>?_⟩;rw[fH hx];refine(hp.append_right [x]).trans ?_;rw[vd,vd];exact List.Perm.append_left _ perm_append_comm;rw[vn.mp hb];exact hz a ha x (.inl I);rcases xw.mp R with q|q;exact hz z q v (hv.imp (λw=>by rw[eA hx];exact v8 _ w) id);rw[vn.mp q];rcases hv with hv|hv;exact kK g.sx hx v hv;rw[eA hy]at hv;rcases vo.mp hv with e|hv;rw[e];exact hl;exact g.o.tra _ _ _ (g.xn x (u5 hx)) (g.yn y (u5 hy)) (g.yn v (mem_of_mem_drop hv)) hl (kK g.sy hy v hv)
def mQ{k x:Nat}(h:zs[i+k]?=O x):(aO it zs).extract i (i+(k+1))=((aO it zs).extract i (i+k)).push (kas_item it x):=by rw[dX,dX,show i+(k+1)-i=k+1 by lia,show i+k-i=k by lia,List.take_add_one,List.getElem?_drop,h,oH];rfl
theorem MI.moveA(g:MG lt n xs ys)(hy:ys[ib]?=O y):∀(k:Nat) {out:Array Keyed},MI lt it xs ys out ia ib->(∀i,i<k->∃x,xs[ia+i]?=O x/\lt x y=Y)->MI lt it xs ys (out++(aO it xs).extract ia (ia+k)) (ia+k) ib
 | 0,out,h,_=>by rw[dX,show ia+0-ia=0 by lia,take_zero,show aO it []=#[] from rfl,append_empty];exact h
 |k+1,out,h,hl=>by obtain⟨x,hx,z⟩:=hl k (x9 k);rw[mQ hx,Array.append_push];exact(MI.moveA g hy k h λi hi=>hl i z7).pushA g hx hy z
theorem MI.moveB(g:MG lt n xs ys){x:Nat}(hx:xs[ia]?=O x):∀(k:Nat) {out:Array Keyed},MI lt it xs ys out ia ib->(∀i,i<k->∃y,ys[ib+i]?=O y/\lt y x=Y)->MI lt it xs ys (out++(aO it ys).extract ib (ib+k)) ia (ib+k)
 | 0,out,h,_=>by rw[dX,show ib+0-ib=0 by lia,take_zero,show aO it []=#[] from rfl,append_empty];exact h
 |k+1,out,h,hl=>by obtain⟨y,hy,z⟩:=hl k (x9 k);rw[mQ hy,Array.append_push];exact(MI.moveB g hx k h λi hi=>hl i z7).pushB g hx hy z
def kY:(aO it zs).extract i (aO it zs).size=aO it (zs.drop i):=by rw[dX,aJ,List.take_of_length_le (by rw[xu];lia)]
def MI.doneB(g:MG lt n xs ys)(h:MI lt it xs ys out ia ib)(hb:ib=ys.length):Res lt it xs ys (out++(aO it xs).extract ia (aO it xs).size++(aO it ys).extract ib (aO it ys).size):=by obtain⟨zs,rfl,hp,hs,hz⟩:=h;subst hb;refine⟨zs++xs.drop ia,by rw[kY,kY,xt,dB,dB,vx],?_,fR hs (List.Pairwise.drop g.sx) λa ha b hb=>hz a ha b (.inl hb)⟩;rw[take_length]at hp;refine(hp.append_right _).trans ?_;rw[vd];refine(List.Perm.append_left _ perm_append_comm).trans ?_;rw[<-vd,take_append_drop]
def MI.doneA(g:MG lt n xs ys)(h:MI lt it xs ys out ia ib)(ha:ia=xs.length):Res lt it xs ys (out++(aO it xs).extract ia (aO it xs).size++(aO it ys).extract ib (aO it ys).size):=by obtain⟨zs,rfl,hp,hs,hz⟩:=h;subst ha;refine⟨zs++ys.drop ib,by rw[kY,kY,xt,dB,dB,vx],?_,fR hs (List.Pairwise.drop g.sy) λa ha b hb=>hz a ha b (.inr hb)⟩;rw[take_length]at hp;refine(hp.append_right _).trans ?_;rw[vd,take_append_drop]
def MI.last(g:MG lt n xs ys){x:Nat}(h:MI lt it xs ys out ia ib)(ha:ia+1=xs.length)(hx:xs[ia]?=O x)(hl:∀y∈ys,lt y x=Y):Res lt it xs ys (out++(aO it ys).extract ib (aO it ys).size++(aO it xs).extract ia (aO it xs).size):=by
 obtain⟨zs,rfl,hp,hs,hz⟩:=h;have e:xs.drop ia=[x]:=by rw[eA hx,ha,xt]
 refine⟨zs++ys.drop ib++[x],by rw[kY,kY,e,dB,dB],?_,fR (fR hs (List.Pairwise.drop g.sy) λa ha b hb=>hz a ha b (.inr hb)) (pairwise_singleton _ _) λa ha b hb=>?_⟩;rw[<-e];refine((hp.append_right _).append_right _).trans ?_;rw[vd (xs.take ia),take_append_drop,vd];refine(List.Perm.append_left _ perm_append_comm).trans ?_;rw[<-vd,take_append_drop];rw[vn.mp hb];rcases xw.mp ha with q|q;exact hz a q x (.inl (by rw[e];exact vn.mpr rfl));exact hl a (mem_of_mem_drop q)
theorem bound:∀(k:Nat) (f:Nat->Bool),(∀i j,i<j->j<k->f j=Y->f i=Y)->∃m,m<=k/\∀i,i<k->f i=decide (i<m)
 | 0,f,_=>⟨0,ux _,λi hi=>absurd hi (Nat.not_lt_zero _)⟩
 |k+1,f,h=>by
  obtain⟨m,hm,e⟩:=bound k f λi j a b=>h i j a z7
  cases hf:f k with
  |false=>refine⟨m,z7,λi hi=>?_⟩;by_cases q:i=k;rw[q,hf];exact(uz z7).symm;exact e i z7
  |true=>refine⟨k+1,ux _,λi hi=>?_⟩;rw[wa hi];by_cases q:i=k;rw[q];exact hf;exact h i k z7 z7 hf
end
section
variable {prog:y8}{w:World}{A:Around}{E:y9}{κ:SortKind}{it:Array Keyed}{n:Nat}{lt:Nat->Nat->Bool}{s:Shared}{xs ys:List Nat}
def SS(st ae:SortSt):Prop:=kindOf ae=kindOf st/\arrOf ae=arrOf st/\pendingOf ae=pendingOf st/\failedOf ae=failedOf st
def SS.refl:SS st st:=⟨rfl,rfl,rfl,rfl⟩
def getD_at{l:List Nat}(h:i<l.length):l[i]?=O (l.getD i 0):=by rw[u7 h,u3,u7 h];rfl
def JS{l:List Nat}(h:So lt l){j x:Nat}(hx:l[i]?=O x)(hy:l[j]?=O y)(z:i<j):lt x y=Y:=kK h hx y (u5 (i:=j-(i+1)) (by rw[List.getElem?_drop];rw[show i+1+(j-(i+1))=j by lia];exact hy))
def aFO(g:MG lt n xs ys)(hy:ys[ib]?=O y):∃m,m<=xs.length-ia/\(∀i,i<xs.length-ia->(!lt y (xs.getD (ia+i) 0))=decide (i<m))/\(∀i,i<m->∃x,xs[ia+i]?=O x/\lt x y=Y)/\∀x,xs[ia+m]?=O x->lt y x=Y:=by
 have I:=u5 hy;obtain⟨m,hm,e⟩:=bound (xs.length-ia) (λi=>!lt y (xs.getD (ia+i) 0)) λi j dz W h=>by
  have h1:=getD_at (l:=xs) (i:=ia+i) z7;have h2:=getD_at (l:=xs) (i:=ia+j) z7;have h3:lt y (xs.getD (ia+j) 0)=J:=by simpa using h
  show (!lt y (xs.getD (ia+i) 0))=Y;cases q:lt y (xs.getD (ia+i) 0) with
  |false=>rfl
  |true=>have:=g.o.tra _ _ _ (g.yn y I) (g.xn _ (u5 h1)) (g.xn _ (u5 h2)) q (JS g.sx h1 h2 z7);rw[h3]at this;cases this
 refine⟨m,hm,e,λi hi=>?_,λx hx=>?_⟩;have h1:=getD_at (l:=xs) (i:=ia+i) z7;refine⟨_,h1,?_⟩;have:=e i z7;rw[wa hi]at this;have R:=u5 h1;exact g.o.tot _ _ (g.yn y I) (g.xn _ R) (λz=>g.ne _ R y I z.symm) (by simpa using this);have hl:=(u0.mp hx).1;have:=e m z7;rw[uz (wq m),getD_at (l:=xs) (i:=ia+m) hl |>.symm.trans hx |> vb]at this;simpa using this
def aFM(g:MG lt n xs ys){x:Nat}(hx:xs[ia]?=O x):∃m,m<=ys.length-ib/\(∀i,i<ys.length-ib->lt (ys.getD (ib+i) 0) x=decide (i<m))/\(∀i,i<m->∃y,ys[ib+i]?=O y/\lt y x=Y)/\∀y,ys[ib+m]?=O y->lt x y=Y:=by
 have I:=u5 hx;obtain⟨m,hm,e⟩:=bound (ys.length-ib) (λi=>lt (ys.getD (ib+i) 0) x) λi j dz W h=>by have h1:=getD_at (l:=ys) (i:=ib+i) z7;have h2:=getD_at (l:=ys) (i:=ib+j) z7;exact g.o.tra _ _ _ (g.yn _ (u5 h1)) (g.yn _ (u5 h2)) (g.xn x I) (JS g.sy h1 h2 z7) h
 refine⟨m,hm,e,λi hi=>?_,λy hy=>?_⟩;exact⟨_,getD_at (l:=ys) (i:=ib+i) z7,by rw[e i z7];exact wa hi⟩;have hl:=(u0.mp hy).1;have:=e m z7;rw[uz (wq m),getD_at (l:=ys) (i:=ib+m) hl |>.symm.trans hy |> vb]at this;have R:=u5 hy;exact g.o.tot _ _ (g.yn y R) (g.xn x I) (λz=>g.ne x I y R z.symm) this
def DI(hc:gu prog w A κ it n lt s)(g:MG lt n xs ys){Q:Option Nat->SortSt->Prop}(hk:kindOf st=κ)(hy:ys[ib]?=O y)(hi:ia<xs.length)(hm:m<=xs.length-ia)(e:∀i,i<xs.length-ia->(!lt y (xs.getD (ia+i) 0))=decide (i<m))(h:Q (O m) st):SK prog w A E s (hU J (kas_item it y) (aO it xs) ia ((aO it xs).size-ia) 0) Q st:=by rw[aJ];exact gK hc (q:=λi=>xs.getD (ia+i) 0) hk (g.yn y (u5 hy)) (λi hi=>g.xn _ (u5 (getD_at z7))) (λi hi=>bM (getD_at z7)) (λi hi=>e i hi) hm z7 h
def SR(hc:gu prog w A κ it n lt s)(g:MG lt n xs ys){x:Nat}{Q:Option Nat->SortSt->Prop}(hk:kindOf st=κ)(hx:xs[ia]?=O x)(hi:ib<ys.length)(hm:m<=ys.length-ib)(e:∀i,i<ys.length-ib->lt (ys.getD (ib+i) 0) x=decide (i<m))(h:Q (O m) st):SK prog w A E s (hU Y (kas_item it x) (aO it ys) ib ((aO it ys).size-ib) 0) Q st:=by rw[aJ];exact gK hc (q:=λi=>ys.getD (ib+i) 0) hk (g.xn x (u5 hx)) (λi hi=>g.yn _ (u5 (getD_at z7))) (λi hi=>bM (getD_at z7)) (λi hi=>e i hi) hm z7 h
def LI(lt:Nat->Nat->Bool)(it:Array Keyed)(xs ys:List Nat)(st:SortSt)(W dn:Nat)(b:Option (Array Keyed)×Array Keyed×Nat×Nat×Nat×Nat×Nat)(ae:SortSt):Prop:=SS st ae/\∃R z I mg ac bc,b=(U,R,z,I,mg,ac,bc)/\MI lt it xs ys R z I/\z+1<xs.length/\I<ys.length/\W+dn<=z+I
def LQ(lt:Nat->Nat->Bool)(it:Array Keyed)(xs ys:List Nat)(st:SortSt)(W dn:Nat)(b:Option (Array Keyed)×Array Keyed×Nat×Nat×Nat×Nat×Nat)(ae:SortSt):Prop:=SS st ae/\((∃r rest,b=(O r,rest)/\Res lt it xs ys r)\/∃R z I mg ac bc,b=(U,R,z,I,mg,ac,bc)/\MI lt it xs ys R z I/\z+1<xs.length/\I<ys.length/\W+dn<=z+I)
def LI.mk{ae:SortSt}{z I mg ac bc:Nat}(s:SS st ae)(m:MI lt it xs ys out ia ib)(ha:ia+1<xs.length)(hb:ib<ys.length)(hr:z+I<=ia+ib):LI lt it xs ys st z I (U,out,ia,ib,mg,ac,bc) ae:=⟨s,_,_,_,_,_,_,rfl,m,ha,hb,hr⟩
def LI.q{ae:SortSt}{z I:Nat}{b:Option (Array Keyed)×Array Keyed×Nat×Nat×Nat×Nat×Nat}(h:LI lt it xs ys st z I b ae):LQ lt it xs ys st z I b ae:=⟨h.1,.inr h.2⟩
abbrev loT(it:Array Keyed)(xs ys:List Nat)(out:Array Keyed)(ia ib mg ac bc:Nat):StateT SortSt Sem (ForInStep (Option (Array Keyed)×Array Keyed×Nat×Nat×Nat×Nat×Nat)):=elem' (aO it xs) ia >>= λv=>if (ia+1+1 == (aO it xs).size)=Y then pure (ForInStep.done (O (out.push v++(aO it ys).extract ib (aO it ys).size++(aO it xs).extract (ia+1) (aO it xs).size),out.push v,ia+1,ib,mg,ac,bc))
 else if (decide (ac<7)&&decide (bc<7))=Y then pure (ForInStep.done (U,out.push v,ia+1,ib,mg,ac,bc)) else pure (ForInStep.yield (U,out.push v,ia+1,ib,mg,ac,bc))
def BE(hc:gu prog w A κ it n lt s)(g:MG lt n xs ys){x0 y0 xl:Nat}(ni:xs[0]?=O x0)(nc:ys[0]?=O y0)(h1:lt y0 x0=Y)(q8:xs[xs.length-1]?=O xl)(h2:∀y∈ys,lt y xl=Y)(hk:kindOf st=κ){Q:Array Keyed->SortSt->Prop}
  (h:∀r ae,Res lt it xs ys r->SS st ae->Q r ae):SK prog w A E s (yL (aO it xs) (aO it ys)) Q st:=by
 have lx:0<xs.length:=(u0.mp ni).1
 have ly:0<ys.length:=(u0.mp nc).1
 have m1:MI lt it xs ys #[kas_item it y0] 0 1:=MI.pushB g (out:=#[]) (ib:=0) ⟨[],rfl,.refl _,List.Pairwise.nil,λz hz=>by cases hz⟩ ni nc h1
 have fq:∀{out:Array Keyed} {ia ib:Nat},MI lt it xs ys out ia ib->ia+1=xs.length->Res lt it xs ys (out++(aO it ys).extract ib (aO it ys).size++(aO it xs).extract ia (aO it xs).size):=λ{out ia ib} m e=>m.last g e (x:=xl) (by rw[show ia=xs.length-1 by lia];exact q8) h2
 unfold yL;refine aD (iQ ?_);refine aD (bJ (bM nc) ?_)
 by_cases c1:1=ys.length
 .refine dP (by rw[aJ];simpa using c1) ?_
  exact aG (h _ _ (m1.doneB g c1) SS.refl)
 refine dQ (by rw[aJ];simpa using c1) ?_
 by_cases c2:0+1=xs.length
 .refine dP (by rw[aJ];simpa using c2) ?_
  exact aG (h _ _ (fq m1 c2) SS.refl)
 refine dQ (by rw[aJ];simpa using c2) ?_
 refine aD (eZ ?_);refine aD (bW (iS (Q:=λb ae=>SS st ae/\∃r rest,b=(O r,rest)/\Res lt it xs ys r) (λi b ae=>SS st ae/\∃out ia ib mg,b=(U,out,ia,ib,mg)/\MI lt it xs ys out ia ib/\ia+1<xs.length/\ib<ys.length/\i+1<=ia+ib) ⟨SS.refl,_,_,_,_,rfl,m1,z7,z7,z7⟩ ?_ ?_) ?_)
 .rintro _ i b jc ⟨s1,out,ia,ib,mg,rfl,m,ha,hb,hr⟩;refine aD (bW (iS (Q:=λb ae=>SS st ae/\((∃r rest,b=(O r,rest)/\Res lt it xs ys r)\/∃ay R I ac bc,b=(U,ay,R,I,ac,bc)/\MI lt it xs ys ay R I/\R+1<xs.length/\I<ys.length/\ia+ib+1<=R+I))
   (λj b ae=>SS st ae/\∃ay R I ac bc,b=(U,ay,R,I,ac,bc)/\MI lt it xs ys ay R I/\R+1<xs.length/\I<ys.length/\ia+ib+j<=R+I) ⟨s1,_,_,_,_,_,rfl,m,ha,hb,by(try dsimp only);lia⟩ ?_ ?_) ?_)
  .rintro _ j b jb ⟨s2,out,R,I,ac,bc,rfl,m,dg,fz,gj⟩;clear lx ly c1 c2 ha hb hr;have hx:=getD_at (l:=xs) (i:=R) z7
   have hy:=getD_at (l:=ys) (i:=I) fz
   generalize xs.getD R 0=x at hx;generalize ys.getD I 0=y at hy;have xm:=u5 hx
   have ym:=u5 hy
   refine aD (bJ (bM hy) (aD (bJ (bM hx) (aD (xN hc (s2.1.trans hk) (g.yn y ym) (g.xn x xm) ?_)))))
   by_cases hl:lt y x=Y
   .refine dP hl ?_;refine aD (bJ (bM hy) ?_);have W:=m.pushB g hx hy hl
    by_cases e:I+1=ys.length
    .refine dP (by rw[aJ];simpa using e) ?_
     exact aG ⟨s2,.inl ⟨_,_,rfl,W.doneB g e⟩⟩
    .refine dQ (by rw[aJ];simpa using e) ?_
     split
     .exact aG ⟨s2,.inr ⟨_,_,_,_,_,rfl,W,dg,by(try dsimp only);lia,by(try dsimp only);lia⟩⟩
     .exact aG ⟨s2,_,_,_,_,_,rfl,W,dg,by(try dsimp only);lia,by(try dsimp only);lia⟩
   .refine dQ hl ?_;have jy:lt x y=Y:=g.o.tot _ _ (g.yn y ym) (g.xn x xm) (λz=>g.ne x xm y ym z.symm) (by simpa using hl)
    refine aD (bJ (bM hx) ?_);have W:=m.pushA g hx hy jy
    by_cases e:R+1+1=xs.length
    .refine dP (by rw[aJ];simpa using e) ?_
     exact aG ⟨s2,.inl ⟨_,_,rfl,fq W e⟩⟩
    .refine dQ (by rw[aJ];simpa using e) ?_
     split
     .exact aG ⟨s2,.inr ⟨_,_,_,_,_,rfl,W,by(try dsimp only);lia,fz,by(try dsimp only);lia⟩⟩
     .exact aG ⟨s2,_,_,_,_,_,rfl,W,by(try dsimp only);lia,fz,by(try dsimp only);lia⟩
  .rintro b jb ⟨s2,out,R,I,ac,bc,rfl,m,dg,fz,gj⟩;rw[aJ,aJ]at gj;exact⟨s2,.inr ⟨_,_,_,_,_,rfl,m,dg,fz,z7⟩⟩
  .rintro b jb ⟨s2,⟨r,rest,rfl,hR⟩|⟨out,dq,dn,ac,bc,rfl,m,tf,om,hr1⟩⟩
   .exact aG ⟨s2,_,_,rfl,hR⟩
   refine aD (iQ ?_);refine aD (bW (iS (Q:=LQ lt it xs ys st dq dn) (λ_=>LI lt it xs ys st dq dn) ⟨s2,_,_,_,_,_,_,rfl,m,tf,om,ux _⟩ ?_ ?_) ?_)
   .rintro _ j b ko ⟨s3,out,R,I,ie,ac',jq,rfl,m,dg,fz,gj⟩;clear lx ly c1 c2 ha hb hr tf om hr1;have hy:=getD_at (l:=ys) (i:=I) fz
    generalize ys.getD I 0=y at hy;obtain⟨k,k1,k2,k3,k4⟩:=aFO g (ia:=R) hy;have mA:=m.moveA g hy k k3
    have sO:∀(gf:SortSt) (s4:SS st gf) (out:Array Keyed) (ia ib mg ac bc x y:Nat),MI lt it xs ys out ia ib->ia+1<xs.length->xs[ia]?=O x->ys[ib]?=O y->lt x y=Y->dq+dn<=ia+ib ->
      SK prog w A E s (loT it xs ys out ia ib mg ac bc)
       (sQ (LQ lt it xs ys st dq dn) (LI lt it xs ys st dq dn)) gf:=λgf s4 out ia ib mg ac bc x y m hi hx hy hl hr=>by
     unfold loT;refine aD (bJ (bM hx) ?_);have m2:=m.pushA g hx hy hl
     have hj:=(u0.mp hy).1
     by_cases e5:ia+1+1=xs.length
     .exact dP (by rw[aJ];simpa using e5) (aG ⟨s4,.inl ⟨_,_,rfl,fq m2 e5⟩⟩)
     refine dQ (by rw[aJ];simpa using e5) ?_
     have L:=LI.mk (mg:=mg) (ac:=ac) (bc:=bc) s4 m2 z7 hj (by lia:dq+dn<=ia+1+ib)
     by_cases e6:(decide (ac<7)&&decide (bc<7))=Y
     .exact dP e6 (aG L.q)
     .exact dQ e6 (aG L)
    have b8:∀(gf:SortSt) (s4:SS st gf) (out:Array Keyed) (ia mg ac bc x:Nat),MI lt it xs ys out ia I->ia+1<xs.length->xs[ia]?=O x->lt y x=Y->dq+dn<=ia+I ->
      SK prog w A E s (elem' (aO it ys) I >>= λv=>if (I+1 == (aO it ys).size)=Y then pure (ForInStep.done (O (out.push v++(aO it xs).extract ia (aO it xs).size++(aO it ys).extract (I+1) (aO it ys).size),out.push v,ia,I+1,mg,ac,bc))
       else elem' (aO it xs) ia >>= λx=>hU Y x (aO it ys) (I+1) ((aO it ys).size-(I+1)) 0 >>= λr=>match r with
        |some k=>if k > 0 then(if (I+1+k == (aO it ys).size)=Y then pure (ForInStep.done (O (out.push v++(aO it ys).extract (I+1) (I+1+k)++(aO it xs).extract ia (aO it xs).size++(aO it ys).extract (I+1+k) (aO it ys).size),out.push v++(aO it ys).extract (I+1) (I+1+k),ia,I+1+k,mg,ac,k))
          else loT it xs ys (out.push v++(aO it ys).extract (I+1) (I+1+k)) ia (I+1+k) mg ac k)
          else loT it xs ys (out.push v) ia (I+1) mg ac k
        |_=>pure (ForInStep.done (O (out.push v++(aO it xs).extract ia (aO it xs).size++(aO it ys).extract (I+1) (aO it ys).size),out.push v,ia,I+1,mg,ac,bc)))
       (sQ (LQ lt it xs ys st dq dn) (LI lt it xs ys st dq dn)) gf:=λgf s4 out ia mg ac bc x m hi hx hl hr=>by
     refine aD (bJ (bM hy) ?_);have W:=m.pushB g hx hy hl
     by_cases e3:I+1=ys.length
     .exact dP (by rw[aJ];simpa using e3) (aG ⟨s4,.inl ⟨_,_,rfl,W.doneB g e3⟩⟩)
     refine dQ (by rw[aJ];simpa using e3) ?_
     refine aD (bJ (bM hx) ?_);obtain⟨j2,j1',j2',j3',qw⟩:=aFM g (ib:=I+1) hx;refine aD (SR hc g (s4.1.trans hk) hx z7 j1' j2' ?_)
     have mB:=W.moveB g hx j2 j3'
     by_cases sf:j2 > 0
     .refine dP sf ?_
      by_cases e4:I+1+j2=ys.length
      .exact dP (by rw[aJ];simpa using e4) (aG ⟨s4,.inl ⟨_,_,rfl,mB.doneB g e4⟩⟩)
      refine dQ (by rw[aJ];simpa using e4) ?_
      have ig:=getD_at (l:=ys) (i:=I+1+j2) z7
      exact sO _ s4 _ _ _ _ _ _ _ _ mB hi hx ig (qw _ ig) z7
     .refine dQ sf ?_;have j0:j2=0:=by lia
      have ig:=getD_at (l:=ys) (i:=I+1) z7
      exact sO _ s4 _ _ _ _ _ _ _ _ W hi hx ig (qw _ (by rw[j0];exact ig)) z7
    by_cases jj:ie > 1
    .refine dP jj ?_;refine aD (bQ ?_);refine aD (bJ (bM hy) ?_);refine aD (DI hc g (s3.1.trans hk) hy (by(try dsimp only);lia) k1 k2 ?_)
     by_cases gk:k > 0
     .refine dP gk ?_
      by_cases e1:R+k+1=xs.length
      .exact dP (by rw[aJ];simpa using e1) (aG ⟨s3,.inl ⟨_,_,rfl,fq mA e1⟩⟩)
      refine dQ (by rw[aJ];simpa using e1) ?_
      by_cases e2:R+k=xs.length
      .exact dP (by rw[aJ];simpa using e2) (aG ⟨s3,.inl ⟨_,_,rfl,mA.doneA g e2⟩⟩)
      refine dQ (by rw[aJ];simpa using e2) ?_
      have hx:=getD_at (l:=xs) (i:=R+k) z7
      refine b8 _ ?_ _ (R+k) (ie-1) k jq _ mA z7 hx (k4 _ hx) z7
      exact s3
     .refine dQ gk ?_;have kz:k=0:=by lia
      have hx:=getD_at (l:=xs) (i:=R) z7
      refine b8 _ ?_ _ R (ie-1) k jq _ m dg hx (k4 _ (by rw[kz];exact hx)) gj
      exact s3
    .refine dQ jj ?_;refine aD (bQ ?_);refine aD (bJ (bM hy) ?_);refine aD (DI hc g (s3.1.trans hk) hy (by(try dsimp only);lia) k1 k2 ?_)
     by_cases gk:k > 0
     .refine dP gk ?_
      by_cases e1:R+k+1=xs.length
      .exact dP (by rw[aJ];simpa using e1) (aG ⟨s3,.inl ⟨_,_,rfl,fq mA e1⟩⟩)
      refine dQ (by rw[aJ];simpa using e1) ?_
      by_cases e2:R+k=xs.length
      .exact dP (by rw[aJ];simpa using e2) (aG ⟨s3,.inl ⟨_,_,rfl,mA.doneA g e2⟩⟩)
      refine dQ (by rw[aJ];simpa using e2) ?_
      have hx:=getD_at (l:=xs) (i:=R+k) z7
      refine b8 _ ?_ _ (R+k) ie k jq _ mA z7 hx (k4 _ hx) z7
      exact s3
     .refine dQ gk ?_;have kz:k=0:=by lia
      have hx:=getD_at (l:=xs) (i:=R) z7
      refine b8 _ ?_ _ R ie k jq _ m dg hx (k4 _ (by rw[kz];exact hx)) gj
      exact s3
   .rintro b ko ⟨s3,out,R,I,ie,ac',jq,rfl,m,dg,fz,gj⟩;exact⟨s3,.inr ⟨_,_,_,_,_,_,rfl,m,dg,fz,gj⟩⟩
   .rintro b ko ⟨s3,⟨r,rest,rfl,hR⟩|⟨out,ia2,ib2,mg2,ac2,bc2,rfl,m,pz,lu,hr2⟩⟩
    .exact aG ⟨s3,_,_,rfl,hR⟩
    .dsimp only;refine aD (bQ ?_);exact aG ⟨s3,_,_,_,_,rfl,m,pz,lu,z7⟩
 .rintro b jc ⟨s1,out,ia,ib,mg,rfl,m,ha,hb,hr⟩;rw[aJ,aJ]at hr;lia
 .rintro b jc ⟨s1,r,rest,rfl,hR⟩;exact aG (h _ _ hR s1)
end
section
variable {lt:Nat->Nat->Bool}{it:Array Keyed}{xs ys:List Nat}{n:Nat}
def MH(lt:Nat->Nat->Bool)(it:Array Keyed)(xs ys:List Nat)(out:Array Keyed)(na nb:Nat):Prop:=∃zs,out=(aO it zs).reverse/\zs.Perm (xs.drop na++ys.drop nb)/\So lt zs/\∀z∈zs,∀v,v∈xs.take na\/v∈ys.take nb->lt v z=Y
def xR{x:Nat}:(aO it zs).reverse.push (kas_item it x)=(aO it (x::zs)).reverse:=by unfold aO;simp
def mH{l:List Nat}(h:So lt l){x:Nat}(hx:l[i]?=O x):∀y∈l.take i,lt y x=Y:=by intro y hy;have:=List.Pairwise.take (i:=i+1) h;rw[fH hx]at this;exact(List.pairwise_append.mp this).2.2 y hy x (vn.mpr rfl)
def MH.pushA(g:MG lt n xs ys){x:Nat}(h:MH lt it xs ys out (na+1) (nb+1))(hx:xs[na]?=O x)(hy:ys[nb]?=O y)(hl:lt y x=Y):MH lt it xs ys (out.push (kas_item it x)) na (nb+1):=by obtain⟨zs,rfl,hp,hs,hz⟩:=h;refine⟨x::zs,xR,?_,xv.mpr ⟨λz I=>hz z I x (.inl (by rw[fH hx];simp)),hs⟩,λz I v hv=>?_⟩;rw[eA hx];exact hp.cons x;rcases vo.mp I with e|I;rw[e];rcases hv with hv|hv;exact mH g.sx hx v hv;rw[fH hy]at hv;rcases xw.mp hv with hv|hv;exact g.o.tra _ _ _ (g.yn v (List.mem_of_mem_take hv)) (g.yn y (u5 hy)) (g.xn x (u5 hx)) (mH g.sy hy v hv) hl;rw[vn.mp hv];exact hl;exact hz z I v (hv.imp (λq=>by rw[fH hx];exact wo _ q) id)
def MH.pushB(g:MG lt n xs ys){x:Nat}(h:MH lt it xs ys out (na+1) (nb+1))(hx:xs[na]?=O x)(hy:ys[nb]?=O y)(hl:lt x y=Y):MH lt it xs ys (out.push (kas_item it y)) (na+1) nb:=by obtain⟨zs,rfl,hp,hs,hz⟩:=h;refine⟨y::zs,xR,?_,xv.mpr ⟨λz I=>hz z I y (.inr (by rw[fH hy];simp)),hs⟩,λz I v hv=>?_⟩;rw[eA hy];exact(hp.cons y).trans (List.perm_middle).symm;rcases vo.mp I with e|I;rw[e];rcases hv with hv|hv;rw[fH hx]at hv;rcases xw.mp hv with hv|hv;exact g.o.tra _ _ _ (g.xn v (List.mem_of_mem_take hv)) (g.xn x (u5 hx)) (g.yn y (u5 hy)) (mH g.sx hx v hv) hl;rw[vn.mp hv];exact hl;exact mH g.sy hy v hv;exact hz z I v (hv.imp id λq=>by rw[fH hy];exact wo _ q)
def FS{e:Array Keyed}{v:Keyed}:out++(e.push v).reverse=out.push v++e.reverse:=by apply Array.toList_inj.mp;simp
theorem MH.moveA(g:MG lt n xs ys)(hy:ys[nb]?=O y):∀(k:Nat) {out:Array Keyed},MH lt it xs ys out (na+k) (nb+1)->(∀i,i<k->∃x,xs[na+i]?=O x/\lt y x=Y)->MH lt it xs ys (out++((aO it xs).extract na (na+k)).reverse) na (nb+1)
 | 0,out,h,_=>by rw[dX,show na+0-na=0 by lia,take_zero,show (aO it []).reverse=#[] from rfl,append_empty];exact h
 |k+1,out,h,hl=>by obtain⟨x,hx,z⟩:=hl k (x9 k);rw[mQ hx,FS];exact MH.moveA g hy k (MH.pushA g h hx hy z) λi hi=>hl i z7
theorem MH.moveB(g:MG lt n xs ys){x:Nat}(hx:xs[na]?=O x):∀(k:Nat) {out:Array Keyed},MH lt it xs ys out (na+1) (nb+k)->(∀i,i<k->∃y,ys[nb+i]?=O y/\lt x y=Y)->MH lt it xs ys (out++((aO it ys).extract nb (nb+k)).reverse) (na+1) nb
 | 0,out,h,_=>by rw[dX,show nb+0-nb=0 by lia,take_zero,show (aO it []).reverse=#[] from rfl,append_empty];exact h
 |k+1,out,h,hl=>by obtain⟨y,hy,z⟩:=hl k (x9 k);rw[mQ hy,FS];exact MH.moveB g hx k (MH.pushB g h hx hy z) λi hi=>hl i z7
def tU:(aO it zs).extract 0 i=aO it (zs.take i):=by rw[dX,drop_zero,Nat.sub_zero]
def MH.doneA(g:MG lt n xs ys)(h:MH lt it xs ys out 0 nb):Res lt it xs ys ((aO it xs).extract 0 0++(aO it ys).extract 0 nb++out.reverse):=by obtain⟨zs,rfl,hp,hs,hz⟩:=h;refine⟨ys.take nb++zs,by rw[tU,tU,Array.reverse_reverse,dB,dB,take_zero,nil_append],?_,fR (List.Pairwise.take g.sy) hs λa ha b hb=>hz b hb a (.inr ha)⟩;refine(hp.append_left _).trans ?_;rw[drop_zero];refine perm_append_comm.trans ?_;rw[vd];refine List.Perm.append_left _ (perm_append_comm.trans ?_);rw[take_append_drop]
def MH.doneB(g:MG lt n xs ys)(h:MH lt it xs ys out na 0):Res lt it xs ys ((aO it xs).extract 0 na++(aO it ys).extract 0 0++out.reverse):=by obtain⟨zs,rfl,hp,hs,hz⟩:=h;refine⟨xs.take na++zs,by rw[tU,tU,Array.reverse_reverse,dB,dB,take_zero,vx],?_,fR (List.Pairwise.take g.sx) hs λa ha b hb=>hz b hb a (.inl ha)⟩;refine(hp.append_left _).trans ?_;rw[drop_zero,<-vd,take_append_drop]
def MH.first(g:MG lt n xs ys)(h:MH lt it xs ys out na 1)(hy:ys[0]?=O y)(hl:∀x∈xs,lt y x=Y):Res lt it xs ys ((aO it ys).extract 0 1++(aO it xs).extract 0 na++out.reverse):=by
 obtain⟨zs,rfl,hp,hs,hz⟩:=h;have e:ys.take 1=[y]:=by rw[fH hy];rfl
 refine⟨[y]++xs.take na++zs,by rw[tU,tU,Array.reverse_reverse,dB,dB,e],?_,fR (fR (pairwise_singleton _ _) (List.Pairwise.take g.sx) λa ha b hb=>?_) hs λa ha b hb=>?_⟩;refine(hp.append_left _).trans ?_;rw[vd,<-vd (xs.take na),take_append_drop];refine perm_append_comm.trans ?_;rw[vd];refine List.Perm.append_left _ (perm_append_comm.trans ?_);rw[<-e,take_append_drop];rw[vn.mp ha];exact hl b (List.mem_of_mem_take hb);rcases xw.mp ha with q|q;exact hz b hb a (.inr (by rw[e];exact q));exact hz b hb a (.inl q)
def aFN(g:MG lt n xs ys)(hn:na<=xs.length)(hy:ys[nb]?=O y):∃m,m<=na/\(∀i,i<na->(!lt y (xs.getD (0+i) 0))=decide (i<m))/\(∀i,i<na-m->∃x,xs[m+i]?=O x/\lt y x=Y)/\∀i x,i+1=m->xs[i]?=O x->lt x y=Y:=by obtain⟨m,m1,m2,m3,m4⟩:=aFO g (ia:=0) hy;have I:=u5 hy;refine⟨min m na,min_le_right _ _,λi hi=>?_,λi hi=>?_,λi x hi hx=>?_⟩;rw[m2 i z7];exact decide_eq_decide.mpr z7;have h1:=getD_at (l:=xs) (i:=min m na+i) z7;refine⟨_,h1,?_⟩;have:=m2 (min m na+i) z7;rw[uz z7,vq]at this;simpa using this;obtain⟨R,z,hl⟩:=m3 i z7;rw[vq,hx]at z;cases z;exact hl
def aFL(g:MG lt n xs ys){x:Nat}(hn:nb<=ys.length)(hx:xs[na]?=O x):∃m,m<=nb/\(∀i,i<nb->lt (ys.getD (0+i) 0) x=decide (i<m))/\(∀i,i<nb-m->∃y,ys[m+i]?=O y/\lt x y=Y)/\∀i y,i+1=m->ys[i]?=O y->lt y x=Y:=by obtain⟨m,m1,m2,m3,m4⟩:=aFM g (ib:=0) hx;have R:=u5 hx;refine⟨min m nb,min_le_right _ _,λi hi=>?_,λi hi=>?_,λi y hi hy=>?_⟩;rw[m2 i z7];exact decide_eq_decide.mpr z7;have h1:=getD_at (l:=ys) (i:=min m nb+i) z7;refine⟨_,h1,?_⟩;have:=m2 (min m nb+i) z7;rw[uz z7,vq]at this;have I:=u5 h1;exact g.o.tot _ _ (g.yn _ I) (g.xn x R) (λz=>g.ne x R _ I z.symm) this;obtain⟨y',W,hl⟩:=m3 i z7;rw[vq,hy]at W;cases W;exact hl
end
section
variable {prog:y8}{w:World}{A:Around}{E:y9}{κ:SortKind}{it:Array Keyed}{n:Nat}{lt:Nat->Nat->Bool}{s:Shared}{xs ys:List Nat}
def xQ(hc:gu prog w A κ it n lt s)(g:MG lt n xs ys){Q:Option Nat->SortSt->Prop}(hk:kindOf st=κ)(hy:ys[nb]?=O y)(hi:0<na)(hn:na<=xs.length)(hm:m<=na)(e:∀i,i<na->(!lt y (xs.getD (0+i) 0))=decide (i<m))(h:Q (O m) st):SK prog w A E s (hU J (kas_item it y) (aO it xs) 0 na (na-1)) Q st:=gK hc (q:=λi=>xs.getD (0+i) 0) hk (g.yn y (u5 hy)) (λi hi=>g.xn _ (u5 (getD_at z7))) (λi hi=>bM (getD_at z7)) (λi hi=>e i hi) hm z7 h
def JV(hc:gu prog w A κ it n lt s)(g:MG lt n xs ys){x:Nat}{Q:Option Nat->SortSt->Prop}(hk:kindOf st=κ)(hx:xs[na]?=O x)(hi:0<nb)(hn:nb<=ys.length)(hm:m<=nb)(e:∀i,i<nb->lt (ys.getD (0+i) 0) x=decide (i<m))(h:Q (O m) st):SK prog w A E s (hU Y (kas_item it x) (aO it ys) 0 nb (nb-1)) Q st:=gK hc (q:=λi=>ys.getD (0+i) 0) hk (g.xn x (u5 hx)) (λi hi=>g.yn _ (u5 (getD_at z7))) (λi hi=>bM (getD_at z7)) (λi hi=>e i hi) hm z7 h
end
end Z
set_option maxHeartbeats 2000000
namespace Z
open PySem PySem.W PyProof.Rows
variable {out:Array Keyed}{na nb b a m i lo n:Nat}{st:SortSt}{f C:Addr}{N ps:List Str}{c:CC}{x y cn qual:Str}{vs:List Value}{p p2 px mz p1:Pos}{ks:List (Int×Int)}{h:Heap}{w:World}{A:Around}{s:Shared}{xs:List σ}{K:xx}{es args:List Expr}{H:Hp}{X:Cx}{S:Addr->Prop}{B:List Sl}{e elt t:Expr}{v:σ}{gs:List Comprehension}{sc:Scope}{is:List Nat}{tp:Bool}{ir:IE}{pins:ya}{V:L2.St}{ib:IS}{E1:XK}{kw:List Keyword}{fd:y7}
section
variable {prog:y8}{w:World}{A:Around}{E:y9}{κ:SortKind}{it:Array Keyed}{n:Nat}{lt:Nat->Nat->Bool}{s:Shared}{xs ys:List Nat}
def MH.doneA'(g:MG lt n xs ys)(h:MH lt it xs ys out na nb)(e:na=0):Res lt it xs ys ((aO it xs).extract 0 na++(aO it ys).extract 0 nb++out.reverse):=by subst e;exact h.doneA g
def MH.doneB'(g:MG lt n xs ys)(h:MH lt it xs ys out na nb)(e:nb=0):Res lt it xs ys ((aO it xs).extract 0 na++(aO it ys).extract 0 nb++out.reverse):=by subst e;exact h.doneB g
def MH.cast{z I:Nat}(h:MH lt it xs ys out na nb)(e1:na=z)(e2:nb=I):MH lt it xs ys out z I:=by subst e1 e2;exact h
def HI(lt:Nat->Nat->Bool)(it:Array Keyed)(xs ys:List Nat)(st:SortSt)(W b9:Nat)(b:Option (Array Keyed)×Nat×Nat×Array Keyed×Nat×Nat×Nat)(ae:SortSt):Prop:=SS st ae/\∃z I R mg ac bc,b=(U,z,I,R,mg,ac,bc)/\MH lt it xs ys R z I/\0<z/\1<I/\z<=xs.length/\I<=ys.length/\z+I<=W+b9
def HQ(lt:Nat->Nat->Bool)(it:Array Keyed)(xs ys:List Nat)(st:SortSt)(W b9:Nat)(b:Option (Array Keyed)×Nat×Nat×Array Keyed×Nat×Nat×Nat)(ae:SortSt):Prop:=SS st ae/\((∃r rest,b=(O r,rest)/\Res lt it xs ys r)\/∃z I R mg ac bc,b=(U,z,I,R,mg,ac,bc)/\MH lt it xs ys R z I/\0<z/\1<I/\z<=xs.length/\I<=ys.length/\z+I<=W+b9)
def HI.mk{ae:SortSt}{z b9 mg ac bc:Nat}(s:SS st ae)(m:MH lt it xs ys out na nb)(h1:0<na)(h2:1<nb)(h3:na<=xs.length)(h4:nb<=ys.length)(hr:na+nb<=z+b9):HI lt it xs ys st z b9 (U,na,nb,out,mg,ac,bc) ae:=⟨s,_,_,_,_,_,_,rfl,m,h1,h2,h3,h4,hr⟩
def HI.q{ae:SortSt}{z b9:Nat}{b:Option (Array Keyed)×Nat×Nat×Array Keyed×Nat×Nat×Nat}(h:HI lt it xs ys st z b9 b ae):HQ lt it xs ys st z b9 b ae:=⟨h.1,.inr h.2⟩
abbrev hiE(it:Array Keyed)(xs ys:List Nat)(out:Array Keyed)(na nb:Nat):Array Keyed:=(aO it xs).extract 0 na++(aO it ys).extract 0 nb++out.reverse
abbrev hiF(it:Array Keyed)(xs ys:List Nat)(out:Array Keyed)(na nb:Nat):Array Keyed:=(aO it ys).extract 0 nb++(aO it xs).extract 0 na++out.reverse
abbrev hiT(it:Array Keyed)(xs ys:List Nat)(out:Array Keyed)(na nb mg ac bc:Nat):StateT SortSt Sem (ForInStep (Option (Array Keyed)×Nat×Nat×Array Keyed×Nat×Nat×Nat)):=elem' (aO it xs) (na-1) >>= λv=>if (na-1 == 0)=Y then pure (ForInStep.done (O (hiE it xs ys (out.push v) (na-1) nb),na-1,nb,out.push v,mg,ac,bc))
 else if (decide (ac<7)&&decide (bc<7))=Y then pure (ForInStep.done (U,na-1,nb,out.push v,mg,ac,bc)) else pure (ForInStep.yield (U,na-1,nb,out.push v,mg,ac,bc))
def BG(hc:gu prog w A κ it n lt s)(g:MG lt n xs ys){x0 y0 xl:Nat}(ni:xs[0]?=O x0)(nc:ys[0]?=O y0)(h1:lt y0 x0=Y)(q8:xs[xs.length-1]?=O xl)(h2:∀y∈ys,lt y xl=Y)(hk:kindOf st=κ){Q:Array Keyed->SortSt->Prop}
  (h:∀r ae,Res lt it xs ys r->SS st ae->Q r ae):SK prog w A E s (yM (aO it xs) (aO it ys)) Q st:=by
 have lx:0<xs.length:=(u0.mp ni).1
 have ly:0<ys.length:=(u0.mp nc).1
 have sza:(aO it xs).size=xs.length:=aJ
 have szb:(aO it ys).size=ys.length:=aJ
 have hy0x:∀x∈xs,lt y0 x=Y:=λx hx=>by
  have:xs=x0::xs.drop 1:=by rw[<-eA ni,drop_zero]
  rw[this]at hx
  rcases vo.mp hx with e|hx
  .rw[e];exact h1
  .exact g.o.tra _ _ _ (g.yn y0 (u5 nc)) (g.xn x0 (u5 ni)) (g.xn x (mem_of_mem_drop hx)) h1 (kK g.sx ni x hx)
 have m1:MH lt it xs ys #[kas_item it xl] (xs.length-1) ys.length:=by
  refine⟨[xl],rfl,?_,pairwise_singleton _ _,λz hz v hv=>?_⟩
  .rw[eA q8,show xs.length-1+1=xs.length by lia,xt,xt]
   exact List.Perm.refl _
  .rw[vn.mp hz]
   rcases hv with hv|hv
   .exact mH g.sx q8 v hv
   .rw[take_length]at hv;exact h2 v hv
 have first:∀{out:Array Keyed} {na nb:Nat},MH lt it xs ys out na nb->nb=1->Res lt it xs ys ((aO it ys).extract 0 nb++(aO it xs).extract 0 na++out.reverse):=λ{out na nb} m e=>by
  subst e;exact m.first g nc hy0x
 unfold yM;refine aD (iQ ?_);refine aD (bJ (bM (by rw[aJ];exact q8)) ?_)
 by_cases c1:xs.length-1=0
 .refine dP (by rw[aJ];simpa using c1) ?_
  refine aG (h _ _ ?_ SS.refl);rw[aJ,aJ];exact m1.doneA' g c1
 refine dQ (by rw[aJ];simpa using c1) ?_
 by_cases c2:ys.length=1
 .refine dP (by rw[aJ];simpa using c2) ?_
  refine aG (h _ _ ?_ SS.refl);rw[aJ,aJ];exact first m1 c2
 refine dQ (by rw[aJ];simpa using c2) ?_
 refine aD (eZ ?_);refine aD (bW (iS (Q:=λb ae=>SS st ae/\∃r rest,b=(O r,rest)/\Res lt it xs ys r) (λi b ae=>SS st ae/\∃na nb out mg,b=(U,na,nb,out,mg)/\MH lt it xs ys out na nb/\0<na/\na<=xs.length/\1<nb/\nb<=ys.length/\na+nb+i+1<=xs.length+ys.length) ⟨SS.refl,_,_,_,_,rfl,m1.cast (by rw[aJ]) (by rw[aJ]),z7,z7,z7,z7,z7⟩ ?_ ?_) ?_)
 .rintro _ i b jc ⟨s1,na,nb,out,mg,rfl,m,ha,pz,hb,lu,hr⟩;refine aD (bW (iS (Q:=λb ae=>SS st ae/\((∃r rest,b=(O r,rest)/\Res lt it xs ys r)\/∃R I ay ac bc,b=(U,R,I,ay,ac,bc)/\MH lt it xs ys ay R I/\0<R/\1<I/\R<=xs.length/\I<=ys.length/\R+I+1<=na+nb))
   (λj b ae=>SS st ae/\∃R I ay ac bc,b=(U,R,I,ay,ac,bc)/\MH lt it xs ys ay R I/\0<R/\1<I/\R<=xs.length/\I<=ys.length/\R+I+j<=na+nb) ⟨s1,_,_,_,_,_,rfl,m,ha,hb,pz,lu,by(try dsimp only);lia⟩ ?_ ?_) ?_)
  .rintro _ j b jb ⟨s2,R,I,out,ac,bc,rfl,m,dg,fz,cm,gp,gj⟩;clear sza szb lx ly c1 c2 ha pz hb lu hr;have hx:=getD_at (l:=xs) (i:=R-1) z7
   have hy:=getD_at (l:=ys) (i:=I-1) z7
   generalize xs.getD (R-1) 0=x at hx;generalize ys.getD (I-1) 0=y at hy;have xm:=u5 hx
   have ym:=u5 hy
   have mm:=m.cast (show R=R-1+1 by lia) (show I=I-1+1 by lia)
   refine aD (bJ (bM hy) (aD (bJ (bM hx) (aD (xN hc (s2.1.trans hk) (g.yn y ym) (g.xn x xm) ?_)))))
   by_cases hl:lt y x=Y
   .refine dP hl ?_;refine aD (bJ (bM hx) ?_);have m':=(mm.pushA g hx hy hl).cast rfl (show I-1+1=I by lia)
    by_cases e:R-1=0
    .refine dP (by simpa using e) ?_
     exact aG ⟨s2,.inl ⟨_,_,rfl,m'.doneA' g e⟩⟩
    .refine dQ (by simpa using e) ?_
     split
     .exact aG ⟨s2,.inr ⟨_,_,_,_,_,rfl,m',by(try dsimp only);lia,fz,by(try dsimp only);lia,gp,by(try dsimp only);lia⟩⟩
     .exact aG ⟨s2,_,_,_,_,_,rfl,m',by(try dsimp only);lia,fz,by(try dsimp only);lia,gp,by(try dsimp only);lia⟩
   .refine dQ hl ?_;have jy:lt x y=Y:=g.o.tot _ _ (g.yn y ym) (g.xn x xm) (λz=>g.ne x xm y ym z.symm) (by simpa using hl)
    refine aD (bJ (bM hy) ?_);have m':=(mm.pushB g hx hy jy).cast (show R-1+1=R by lia) rfl
    by_cases e:I-1=1
    .refine dP (by simpa using e) ?_
     exact aG ⟨s2,.inl ⟨_,_,rfl,first m' e⟩⟩
    .refine dQ (by simpa using e) ?_
     split
     .exact aG ⟨s2,.inr ⟨_,_,_,_,_,rfl,m',dg,by(try dsimp only);lia,cm,by(try dsimp only);lia,by(try dsimp only);lia⟩⟩
     .exact aG ⟨s2,_,_,_,_,_,rfl,m',dg,by(try dsimp only);lia,cm,by(try dsimp only);lia,by(try dsimp only);lia⟩
  .rintro b jb ⟨s2,R,I,out,ac,bc,rfl,m,dg,fz,cm,gp,gj⟩;rw[aJ,aJ]at gj;exact⟨s2,.inr ⟨_,_,_,_,_,rfl,m,dg,fz,cm,gp,z7⟩⟩
  .rintro b jb ⟨s2,⟨r,rest,rfl,hR⟩|⟨di,b9,out,ac,bc,rfl,m,tf,om,ha21,hb21,hr1⟩⟩
   .exact aG ⟨s2,_,_,rfl,hR⟩
   refine aD (iQ ?_);refine aD (bW (iS (Q:=HQ lt it xs ys st di b9) (λ_=>HI lt it xs ys st di b9) ⟨s2,_,_,_,_,_,_,rfl,m,tf,om,ha21,hb21,ux _⟩ ?_ ?_) ?_)
   .rintro _ j b ko ⟨s3,R,I,out,ie,ac',jq,rfl,m,dg,fz,cm,gp,gj⟩;clear sza szb lx ly c1 c2 ha pz hb lu hr tf om ha21 hb21 hr1;have hy:=getD_at (l:=ys) (i:=I-1) z7
    generalize ys.getD (I-1) 0=y at hy;obtain⟨k,k1,k2,k3,k4⟩:=aFN g (na:=R) cm hy;have mA:MH lt it xs ys (out++((aO it xs).extract k R).reverse) k (I-1+1):=by
     have:=MH.moveA g (na:=k) hy (R-k) (m.cast (show R=k+(R-k) by lia) (show I=I-1+1 by lia)) k3
     rw[show k+(R-k)=R by lia]at this
     exact this
    have sO:∀(gf:SortSt) (s4:SS st gf) (out:Array Keyed) (na nb mg ac bc x y:Nat),MH lt it xs ys out na nb->0<na->1<nb->na<=xs.length->nb<=ys.length->xs[na-1]?=O x->ys[nb-1]?=O y->lt y x=Y->na+nb<=di+b9 ->
      SK prog w A E s (hiT it xs ys out na nb mg ac bc) (sQ (HQ lt it xs ys st di b9) (HI lt it xs ys st di b9)) gf:=λgf s4 out na nb mg ac bc x y m n1 n2 n3 n4 hx hy hl hr=>by
     unfold hiT;refine aD (bJ (bM hx) ?_);have m2:=((m.cast (show na=na-1+1 by lia) (show nb=nb-1+1 by lia)).pushA g hx hy hl).cast rfl (show nb-1+1=nb by lia)
     by_cases e5:na-1=0
     .exact dP (by simpa using e5) (aG ⟨s4,.inl ⟨_,_,rfl,m2.doneA' g e5⟩⟩)
     refine dQ (by simpa using e5) ?_
     have L:=HI.mk (mg:=mg) (ac:=ac) (bc:=bc) s4 m2 (Nat.pos_of_ne_zero e5) n2 z7 n4 (by lia:na-1+nb<=di+b9)
     by_cases e6:(decide (ac<7)&&decide (bc<7))=Y
     .exact dP e6 (aG L.q)
     .exact dQ e6 (aG L)
    have b8:∀(gf:SortSt) (s4:SS st gf) (out:Array Keyed) (na mg ac bc x:Nat),MH lt it xs ys out na I->0<na->na<=xs.length->xs[na-1]?=O x->lt x y=Y->na+I<=di+b9 ->
      SK prog w A E s (elem' (aO it ys) (I-1) >>= λv=>if (I-1 == 1)=Y then pure (ForInStep.done (O (hiF it xs ys (out.push v) na (I-1)),na,I-1,out.push v,mg,ac,bc))
       else elem' (aO it xs) (na-1) >>= λx=>hU Y x (aO it ys) 0 (I-1) (I-1-1) >>= λr=>match r with
        |some k=>if I-1-k > 0 then(if (k == 1)=Y then pure (ForInStep.done (O (hiF it xs ys (out.push v++((aO it ys).extract k (I-1)).reverse) na k),na,k,out.push v++((aO it ys).extract k (I-1)).reverse,mg,ac,I-1-k))
          else if (k == 0)=Y then pure (ForInStep.done (O (hiE it xs ys (out.push v++((aO it ys).extract k (I-1)).reverse) na k),na,k,out.push v++((aO it ys).extract k (I-1)).reverse,mg,ac,I-1-k))
          else hiT it xs ys (out.push v++((aO it ys).extract k (I-1)).reverse) na k mg ac (I-1-k))
          else hiT it xs ys (out.push v) na (I-1) mg ac (I-1-k)
        |_=>pure (ForInStep.done (O (hiE it xs ys (out.push v) na (I-1)),na,I-1,out.push v,mg,ac,bc)))
       (sQ (HQ lt it xs ys st di b9) (HI lt it xs ys st di b9)) gf:=λgf s4 out na mg ac bc x m n1 n3 hx hl hr=>by
     refine aD (bJ (bM hy) ?_);have m':=((m.cast (show na=na-1+1 by lia) (show I=I-1+1 by lia)).pushB g hx hy hl)
     have mc:=m'.cast (show na-1+1=na by lia) rfl
     by_cases e3:I-1=1
     .exact dP (by simpa using e3) (aG ⟨s4,.inl ⟨_,_,rfl,first mc e3⟩⟩)
     refine dQ (by simpa using e3) ?_
     refine aD (bJ (bM hx) ?_);obtain⟨W,j1',j2',j3',qw⟩:=aFL g (nb:=I-1) z7 hx
     refine aD (JV hc g (s4.1.trans hk) hx z7 z7 j1' j2' ?_)
     have mB:=MH.moveB g (nb:=W) hx (I-1-W) (m'.cast rfl (show I-1=W+(I-1-W) by lia)) j3'
     rw[show W+(I-1-W)=I-1 by lia]at mB
     have mb:=mB.cast (show na-1+1=na by lia) rfl
     by_cases sf:I-1-W > 0
     .refine dP sf ?_
      by_cases e4:W=1
      .exact dP (by simpa using e4) (aG ⟨s4,.inl ⟨_,_,rfl,first mb e4⟩⟩)
      refine dQ (by simpa using e4) ?_
      by_cases e6:W=0
      .exact dP (by simpa using e6) (aG ⟨s4,.inl ⟨_,_,rfl,mb.doneB' g e6⟩⟩)
      refine dQ (by simpa using e6) ?_
      have ig:=getD_at (l:=ys) (i:=W-1) z7
      exact sO _ s4 _ _ _ _ _ _ _ _ mb n1 z7 n3 z7 hx ig (qw (W-1) _ z7 ig) z7
     .refine dQ sf ?_;have ig:=getD_at (l:=ys) (i:=I-1-1) z7
      exact sO _ s4 _ _ _ _ _ _ _ _ mc n1 z7 n3 z7 hx ig (qw (I-1-1) _ z7 ig) z7
    by_cases jj:ie > 1
    .refine dP jj ?_;refine aD (bQ ?_);refine aD (bJ (bM hy) ?_);refine aD (xQ hc g (s3.1.trans hk) hy dg cm k1 k2 ?_)
     by_cases gk:R-k > 0
     .refine dP gk ?_
      by_cases e1:k=0
      .exact dP (by simpa using e1) (aG ⟨s3,.inl ⟨_,_,rfl,(mA.cast rfl (show I-1+1=I by lia)).doneA' g e1⟩⟩)
      refine dQ (by simpa using e1) ?_
      have hx:=getD_at (l:=xs) (i:=k-1) z7
      refine b8 _ ?_ _ k (ie-1) (R-k) jq _ (mA.cast rfl (show I-1+1=I by lia)) z7 z7 hx (k4 (k-1) _ z7 hx) z7
      exact s3
     .refine dQ gk ?_;have hx:=getD_at (l:=xs) (i:=R-1) z7
      refine b8 _ ?_ _ R (ie-1) (R-k) jq _ m dg cm hx (k4 (R-1) _ z7 hx) gj
      exact s3
    .refine dQ jj ?_;refine aD (bQ ?_);refine aD (bJ (bM hy) ?_);refine aD (xQ hc g (s3.1.trans hk) hy dg cm k1 k2 ?_)
     by_cases gk:R-k > 0
     .refine dP gk ?_
      by_cases e1:k=0
      .exact dP (by simpa using e1) (aG ⟨s3,.inl ⟨_,_,rfl,(mA.cast rfl (show I-1+1=I by lia)).doneA' g e1⟩⟩)
      refine dQ (by simpa using e1) ?_
      have hx:=getD_at (l:=xs) (i:=k-1) z7
      refine b8 _ ?_ _ k (ie) (R-k) jq _ (mA.cast rfl (show I-1+1=I by lia)) z7 z7 hx (k4 (k-1) _ z7 hx) z7
      exact s3
     .refine dQ gk ?_;have hx:=getD_at (l:=xs) (i:=R-1) z7
      refine b8 _ ?_ _ R (ie) (R-k) jq _ m dg cm hx (k4 (R-1) _ z7 hx) gj
      exact s3
   .rintro b ko ⟨s3,R,I,out,ie,ac',jq,rfl,m,dg,fz,cm,gp,gj⟩;exact⟨s3,.inr ⟨_,_,_,_,_,_,rfl,m,dg,fz,cm,gp,gj⟩⟩
   .rintro b ko ⟨s3,⟨r,rest,rfl,hR⟩|⟨na2,nb2,out,mg2,ac2,bc2,rfl,m,ha3,hb3,ha4,hb4,hr2⟩⟩
    .exact aG ⟨s3,_,_,rfl,hR⟩
    .dsimp only;refine aD (bQ ?_);exact aG ⟨s3,_,_,_,_,rfl,m,ha3,ha4,hb3,hb4,z7⟩
 .rintro b jc ⟨s1,na,nb,out,mg,rfl,m,ha,pz,hb,lu,hr⟩;rw[aJ,aJ]at hr;lia
 .rintro b jc ⟨s1,r,rest,rfl,hR⟩;exact aG (h _ _ hR s1)
end
section
variable {prog:y8}{w:World}{A:Around}{E:y9}{κ:SortKind}{it:Array Keyed}{n:Nat}{lt:Nat->Nat->Bool}{s:Shared}{P:Array (Nat×Nat×Nat)}{p:Array Nat}
theorem xO{β:Type}{f:Nat->β->StateT SortSt Sem (ForInStep β)}{Q:β->SortSt->Prop}{N:Nat}(I:Nat->β->SortSt->Prop)(hf:∀x i b st,i<N->I i b st->SK prog w A E s (f x b) (λr ae=>match r with | .done b'=>Q b' ae | .yield b'=>I (i+1) b' ae) st):
  ∀(m a i:Nat) (b:β) (st:SortSt),i+m=N->I i b st->(∀b st,I N b st->Q b st)->SK prog w A E s (forIn (range' a m) b f) Q st
 | 0,a,i,b,st,hN,R,z=>by show SK prog w A E s (forIn [] b f) Q st;exact kasC_nil ⟨rfl,z b st (by rw[<-hN];exact R)⟩
 |m+1,a,i,b,st,hN,R,z=>by
  show SK prog w A E s (forIn (a::range' (a+1) m) b f) Q st;refine kasC_cons (wx (hf a i b st z7 R) (λr s' hr=>?_) λ_ _ e=>e);obtain⟨r,ae⟩:=r;obtain⟨e,h⟩:=hr;rw[e];cases r with
  |done b'=>exact⟨rfl,h⟩
  |yield b'=>exact xO I hf m (a+1) (i+1) b' ae z7 h z
def iR{β:Type}{f:Nat->β->StateT SortSt Sem (ForInStep β)}{Q:β->SortSt->Prop}{b:β}(I:Nat->β->SortSt->Prop)(h0:I 0 b st)(hf:∀x i b st,i<m-a->I i b st->SK prog w A E s (f x b) (λr ae=>match r with | .done b'=>Q b' ae | .yield b'=>I (i+1) b' ae) st)(z:∀b st,I (m-a) b st->Q b st):SK prog w A E s (forIn [a:m] b f) Q st:=
 kasC_range (xO I hf (m-a) a 0 b st z7 h0 z)
theorem xP{β:Type}{f:Nat->β->StateT SortSt Sem (ForInStep β)}{Q:β->SortSt->Prop}{N:Nat}(I:Nat->β->SortSt->Prop)(hf:∀x b st,x<N->I x b st->SK prog w A E s (f x b) (λr ae=>match r with | .done b'=>Q b' ae | .yield b'=>I (x+1) b' ae) st):
  ∀(m a:Nat) (b:β) (st:SortSt),a+m=N->I a b st->(∀b st,I N b st->Q b st)->SK prog w A E s (forIn (range' a m) b f) Q st
 | 0,a,b,st,hN,R,z=>by show SK prog w A E s (forIn [] b f) Q st;exact kasC_nil ⟨rfl,z b st (by rw[<-hN];exact R)⟩
 |m+1,a,b,st,hN,R,z=>by
  show SK prog w A E s (forIn (a::range' (a+1) m) b f) Q st;refine kasC_cons (wx (hf a b st z7 R) (λr s' hr=>?_) λ_ _ e=>e);obtain⟨r,ae⟩:=r;obtain⟨e,h⟩:=hr;rw[e];cases r with
  |done b'=>exact⟨rfl,h⟩
  |yield b'=>exact xP I hf m (a+1) b' ae z7 h z
def SU{β:Type}{f:Nat->β->StateT SortSt Sem (ForInStep β)}{Q:β->SortSt->Prop}{b:β}(I:Nat->β->SortSt->Prop)(h0:I a b st)(hf:∀x b st,x<max a m->I x b st->SK prog w A E s (f x b) (λr ae=>match r with | .done b'=>Q b' ae | .yield b'=>I (x+1) b' ae) st)(z:∀b st,I (max a m) b st->Q b st):SK prog w A E s (forIn [a:m] b f) Q st:=
 kasC_range (xP I hf (m-a) a b st z7 h0 z)
noncomputable def ts(κ:SortKind)(it:Array Keyed)(P:Array (Nat×Nat×Nat))(p:Array Nat):SortSt:=SortSt.mk' κ (p.map (kas_item it)) P 7 U
def sN(a:Prm n p)(hi:i<n):(p.map (kas_item it))[i]?=O (kas_item it (fp p i)):=by have hs:=a.size;rw[Array.getElem?_map];unfold fp;rw[getD_eq_getD_getElem?,Array.getElem?_eq_getElem z7];rfl
def mI(hc:gu prog w A κ it n lt s)(a:Prm n p){j:Nat}{Q:Option Bool->SortSt->Prop}(hi:i<n)(z:j<n)(h:Q (O (lt (fp p i) (fp p j))) (ts κ it P p)):SK prog w A E s (ltAt' i j) Q (ts κ it P p):=by rw[ltAt'_eq];refine aD (eZ ?_);show SK prog w A E s (do let x <-elem' (p.map (kas_item it)) i;let y <-elem' (p.map (kas_item it)) j;lt' x y) Q (ts κ it P p);exact aD (bJ (sN a hi) (aD (bJ (sN a z) (xN hc rfl (a.lt hi) (a.lt z) h))))
def aBa{j:Nat}{Q:Unit->SortSt->Prop}(h:Q () (ts κ it P (kas_rev p i j))):SK prog w A E s (reverseSlice' i j) Q (ts κ it P p):=by rw[reverseSlice'_eq];refine bQ ?_;have e1:mirror (p.map (kas_item it)) i j ((j-i) / 2)=(mirror p i j ((j-i) / 2)).map (kas_item it):=kas_swaps_map (kas_item it) (λk=>i+k) (λk=>j-1-k) _ p;show Q () (SortSt.mk' κ (mirror (p.map (kas_item it)) i j ((j-i) / 2)) P 7 U);rw[e1];exact h
def SQ{k l:Nat}{Q:Unit->SortSt->Prop}(h:Q () (ts κ it P (bubble p k (k-l)))):SK prog w A E s (moveDown' k l) Q (ts κ it P p):=by rw[moveDown'_eq];refine bQ ?_;have e1:bubble (p.map (kas_item it)) k (k-l)=(bubble p k (k-l)).map (kas_item it):=kas_swaps_map (kas_item it) (λi=>k-i) (λi=>k-i-1) _ p;show Q () (SortSt.mk' κ (bubble (p.map (kas_item it)) k (k-l)) P 7 U);rw[e1];exact h
def bz(lt:Nat->Nat->Bool)(p:Array Nat)(a b:Nat):Prop:=∀i j,a<=i->i<j->j<b->lt (fp p i) (fp p j)=Y
def uu(lt:Nat->Nat->Bool)(p:Array Nat)(a b:Nat):Prop:=∀i j,a<=i->i<j->j<b->lt (fp p j) (fp p i)=Y
def wF{j:Nat}(z:j<=p.size)(k:Nat):fp (kas_rev p i j) k=if i<=k/\k<j then fp p (i+j-1-k) else fp p k:=by have e:=getElem?_mirror_all (i:=i) z k;unfold kas_rev;by_cases h:i<=k/\k<j;rw[if_pos h];rw[if_pos h]at e;exact kA e;rw[if_neg h];rw[if_neg h]at e;exact kA e
def NF(o:Ord n lt)(a:Prm n p)(hm:lo+m<n)(h1:1<=m)(h:bz lt p lo (lo+m))(hs:lt (fp p (lo+m-1)) (fp p (lo+m))=Y):bz lt p lo (lo+(m+1)):=λi j hi z I=>by by_cases e:j=lo+m;rw[e];by_cases e':i=lo+m-1;rw[e'];exact hs;exact o.tra _ _ _ (a.lt z7) (a.lt z7) (a.lt z7) (h i (lo+m-1) hi z7 z7) hs;exact h i j hi z z7
def QR(o:Ord n lt)(a:Prm n p)(hm:lo+m<n)(h1:1<=m)(h:uu lt p lo (lo+m))(hs:lt (fp p (lo+m)) (fp p (lo+m-1))=Y):uu lt p lo (lo+(m+1)):=λi j hi z I=>by by_cases e:j=lo+m;rw[e];by_cases e':i=lo+m-1;rw[e'];exact hs;exact o.tra _ _ _ (a.lt z7) (a.lt z7) (a.lt z7) hs (h i (lo+m-1) hi z7 z7);exact h i j hi z z7
theorem RJ(hc:gu prog w A κ it n lt s)(o:Ord n lt)(a:Prm n p){R m0:Nat}(h1:1<=m0)(hle:m0<=R)(hn:lo+R<=n)(hi:bz lt p lo (lo+m0)):
  SK prog w A E s (forIn [m0:R] ((U,m0):Option (Option Nat)×Nat) λx W=>do
   let ug <-ltAt' (lo+W.snd) (lo+W.snd-1);match ug with
    |some I=>if I=Y then pure (ForInStep.done (U,W.snd)) else pure (ForInStep.yield (U,W.snd+1))
    |x=>pure (ForInStep.done (O U,W.snd))) (λb st=>st=ts κ it P p/\∃m,b=(U,m)/\m0<=m/\m<=R/\bz lt p lo (lo+m)/\(m<R->lt (fp p (lo+m)) (fp p (lo+m-1))=Y)) (ts κ it P p):=by
 refine iR (λi b st=>st=ts κ it P p/\b=(U,m0+i)/\bz lt p lo (lo+(m0+i))) ⟨rfl,rfl,hi⟩ ?_ ?_;rintro x i b st cw ⟨rfl,rfl,h⟩;dsimp only;have l1:lo+(m0+i)<n:=by lia
 have l2:lo+(m0+i)-1<n:=by lia
 refine aD (mI hc a l1 l2 ?_);dsimp only;by_cases c:lt (fp p (lo+(m0+i))) (fp p (lo+(m0+i)-1))=Y;rw[if_pos c];exact aG ⟨rfl,_,rfl,z7,z7,h,λ_=>c⟩;rw[if_neg c];exact aG ⟨rfl,rfl,NF (m:=m0+i) o a l1 z7 h (o.tot _ _ (a.lt l1) (a.lt l2) (a.ne l1 l2 (show lo+(m0+i)≠lo+(m0+i)-1 by lia)) (by simpa using c))⟩;rintro b st ⟨rfl,rfl,h⟩;exact⟨rfl,_,rfl,z7,z7,h,λz=>by lia⟩
def zP(hc:gu prog w A κ it n lt s)(o:Ord n lt)(a:Prm n p){I:Nat}(h1:1<=I)(hn:lo+I<=n){Q:Option Nat->SortSt->Prop}(h:∀m p',Prm n p'->1<=m->m<=I->(∀i,i<lo->fp p' i=fp p i)->bz lt p' lo (lo+m)->Q (O m) (ts κ it P p')):SK prog w A E s (countRun' lo I) Q (ts κ it P p):=by
 have sz:=a.size;unfold countRun';refine aD (bW (RJ hc o a (ux 1) h1 hn λi j _ _ _=>by lia) ?_);rintro b st ⟨rfl,m,rfl,g1,g2,g3,g4⟩;dsimp only;by_cases e1:(m == I)=Y;rw[if_pos e1];exact aG (h m p a g1 g2 (λ_ _=>rfl) g3);rw[if_neg e1];have e1':m≠I:=λz=>e1 (by rw[z];exact beq_self_eq_true _);by_cases e2:m > 1;rw[if_pos e2];refine aD (mI hc a z7 z7 ?_);dsimp only;rw[if_pos (g3 lo (lo+m-1) (ux _) z7 z7)];exact aG (h m p a g1 g2 (λ_ _=>rfl) g3);rw[if_neg e2];have em:m=1:=by lia
 subst em;refine aD (iQ ?_);have d2:uu lt p lo (lo+2):=λi j hi dz R=>by rw[show i=lo by lia,show j=lo+1 by lia];exact g4 z7
 refine aD (bW (iR (Q:=λb st=>st=ts κ it P p/\∃m,b=((U,m,0):Option (Option Nat)×Nat×Nat)/\2<=m/\m<=I/\uu lt p lo (lo+m)) (λi b st=>st=ts κ it P p/\b=(U,1+1+i,0)/\uu lt p lo (lo+(1+1+i))) ⟨rfl,rfl,d2⟩ ?_ ?_) ?_);rintro x i b st cw ⟨rfl,rfl,d⟩;dsimp only;have l1:lo+(1+1+i)<n:=by lia
 have l2:lo+(1+1+i)-1<n:=by lia
 refine aD (mI hc a l1 l2 ?_);dsimp only;by_cases c:lt (fp p (lo+(1+1+i))) (fp p (lo+(1+1+i)-1))=Y;rw[if_pos c,if_neg z7];exact aG ⟨rfl,rfl,QR (m:=1+1+i) o a l1 z7 d c⟩;rw[if_neg c];refine aD (mI hc a l2 l1 ?_);dsimp only;rw[if_pos (o.tot _ _ (a.lt l1) (a.lt l2) (a.ne l1 l2 z7) (by simpa using c))];exact aG ⟨rfl,_,rfl,z7,z7,d⟩;rintro b st ⟨rfl,rfl,d⟩;exact⟨rfl,_,rfl,z7,z7,d⟩;rintro b st ⟨rfl,m,rfl,k1,k2,d⟩;dsimp only;rw[if_neg z7];refine aD (aBa ?_);have R:lo+m<=p.size:=by lia
 have a':Prm n (kas_rev p lo (lo+m)):=a.perm (mirror_perm _ _ _ _);have i':bz lt (kas_rev p lo (lo+m)) lo (lo+m):=λi j hi dz W=>by rw[wF R,wF R,if_pos ⟨z7,z7⟩,if_pos ⟨z7,W⟩];exact d _ _ z7 z7 z7
 refine aD (bW (RJ hc o a' z7 k2 hn i') ?_);rintro b st ⟨rfl,m',rfl,q1,q2,q3,q4⟩;exact aG (h m' _ a' z7 q2 (λi hi=>by rw[wF R,if_neg z7]) q3)
theorem KU(hc:gu prog w A κ it n lt s)(o:Ord n lt)(a:Prm n p){k:Nat}(hk:lo+k<n)(h:bz lt p lo (lo+k)):
  SK prog w A E s (forIn [0:k] ((U,0,k):Option Bool×Nat×Nat) λx z=>
   if z.snd.fst >= z.snd.snd then pure (ForInStep.done (U,z.snd.fst,z.snd.snd))
   else do
    let ug <-ltAt' (lo+k) (lo+(z.snd.fst+z.snd.snd) / 2);match ug with
     |some I=>if I=Y then pure (ForInStep.yield (U,z.snd.fst,(z.snd.fst+z.snd.snd) / 2)) else pure (ForInStep.yield (U,(z.snd.fst+z.snd.snd) / 2+1,z.snd.snd))
     |x=>pure (ForInStep.done (O J,z.snd.fst,z.snd.snd))) (λb st=>st=ts κ it P p/\∃l r,b=(U,l,r)/\l<=k/\(∀i,i<l->lt (fp p (lo+i)) (fp p (lo+k))=Y)/\(∀i,l<=i->i<k->lt (fp p (lo+k)) (fp p (lo+i))=Y)) (ts κ it P p):=by
 refine iR (λt b st=>st=ts κ it P p/\∃l r,b=(U,l,r)/\l<=r/\r<=k/\r+t<=k+l/\(∀i,i<l->lt (fp p (lo+i)) (fp p (lo+k))=Y)/\(∀i,r<=i->i<k->lt (fp p (lo+k)) (fp p (lo+i))=Y)) ⟨rfl,_,_,rfl,z7,z7,z7,λi hi=>by lia,λi h1 h2=>by lia⟩ ?_ ?_;rintro x t b st ht ⟨rfl,l,r,rfl,h1,h2,h3,h4,h5⟩;clear ht;dsimp only;by_cases c:l >= r;rw[if_pos c];exact aG ⟨rfl,_,_,rfl,z7,h4,λi W R=>h5 i z7 R⟩;rw[if_neg c];have l2:lo+(l+r) / 2<n:=by lia
 refine aD (mI hc a hk l2 ?_);dsimp only;by_cases d:lt (fp p (lo+k)) (fp p (lo+(l+r) / 2))=Y;rw[if_pos d];refine aG ⟨rfl,_,_,rfl,z7,z7,z7,h4,λi W R=>?_⟩;by_cases e:i=(l+r) / 2;rw[e];exact d;exact o.tra _ _ _ (a.lt hk) (a.lt l2) (a.lt z7) d (h _ _ z7 z7 z7);rw[if_neg d];have d':=o.tot _ _ (a.lt hk) (a.lt l2) (a.ne hk l2 z7) (by simpa using d);refine aG ⟨rfl,_,_,rfl,z7,z7,z7,λi W=>?_,h5⟩;by_cases e:i=(l+r) / 2;rw[e];exact d';exact o.tra _ _ _ (a.lt z7) (a.lt l2) (a.lt hk) (h _ _ z7 z7 z7) d';rintro b st ⟨rfl,l,r,rfl,h1,h2,h3,h4,h5⟩;exact⟨rfl,_,_,rfl,z7,h4,λi W R=>h5 i z7 R⟩
def RD(hc:gu prog w A κ it n lt s)(o:Ord n lt)(a:Prm n p){ok:Nat}(h1:1<=ok)(hm:ok<=m)(hn:lo+m<=n)(hi:bz lt p lo (lo+ok)){Q:Bool->SortSt->Prop}(h:∀p',Prm n p'->(∀i,i<lo->fp p' i=fp p i)->bz lt p' lo (lo+m)->Q Y (ts κ it P p')):SK prog w A E s (binarySort' lo m ok) Q (ts κ it P p):=by
 rw[binarySort'_eq,Nat.max_eq_left h1];refine aD (bW (SU (Q:=λb st=>b=((U,()):Option Bool×Unit)/\∃p',st=ts κ it P p'/\Prm n p'/\(∀i,i<lo->fp p' i=fp p i)/\bz lt p' lo (lo+m)) (λk b st=>b=(U,())/\∃p',st=ts κ it P p'/\Prm n p'/\(∀i,i<lo->fp p' i=fp p i)/\bz lt p' lo (lo+k)) ⟨rfl,p,rfl,a,λ_ _=>rfl,hi⟩ ?_ ?_) ?_);rintro k b st hk ⟨rfl,p',rfl,a',R,I⟩;have sz:=a'.size;refine aD (bW (KU hc o a' z7 I) ?_);rintro b st ⟨rfl,l,r,rfl,g1,g2,g3⟩;refine aD (SQ (aG ⟨rfl,_,rfl,a'.perm (bubble_perm _ _ _),λi z=>?_,λi j z1 z2 z3=>?_⟩));rw[nV z7 z7,if_neg z7,if_neg z7,R i z];have e1:=nV (p:=p') (k:=lo+k) (d:=lo+k-(lo+l)) z7 z7 i;have e2:=nV (p:=p') (k:=lo+k) (d:=lo+k-(lo+l)) z7 z7 j;rw[e1,e2];have ek:lo+k-(lo+k-(lo+l))=lo+l:=by lia
 rw[ek];by_cases c1:i=lo+l;rw[if_pos c1,if_neg z7,if_pos z7];rw[show j-1=lo+(j-1-lo) by lia];exact g3 _ z7 z7;rw[if_neg c1];by_cases c2:lo+l<i/\i<=lo+k;rw[if_pos c2,if_neg z7,if_pos z7];exact I _ _ z7 z7 z7;rw[if_neg c2];by_cases c3:j=lo+l;rw[if_pos c3,show i=lo+(i-lo) by lia];exact g2 _ z7;rw[if_neg c3];by_cases W:lo+l<j/\j<=lo+k;rw[if_pos W];exact I _ _ z7 z7 z7;rw[if_neg W];exact I _ _ z7 z7 z7;rintro b st ⟨rfl,p',rfl,a',R,I⟩;rw[show max ok m=m by lia]at I;exact⟨rfl,p',rfl,a',R,I⟩;rintro b st ⟨rfl,p',rfl,a',R,I⟩;exact aG (h p' a' R I)
end
section
variable {prog:y8}{w:World}{A:Around}{E:y9}{κ:SortKind}{it:Array Keyed}{n:Nat}{lt:Nat->Nat->Bool}{s:Shared}{P:Array (Nat×Nat×Nat)}{p:Array Nat}
def NS{l:List Nat}(h:i<l.length):l[i]?=O (fp l.toArray i):=by unfold fp;rw[getD_eq_getD_getElem?,List.getElem?_toArray,u7 h];rfl
def sl(l:List Nat)(a b:Nat):List Nat:=(l.drop a).take (b-a)
def sR{l:List Nat}(h:a+i<b)(hb:b<=l.length):(sl l a b)[i]?=O (fp l.toArray (a+i)):=by unfold sl;rw[List.getElem?_take,if_pos z7,List.getElem?_drop,NS z7]
def kM{l:List Nat}(hb:b<=l.length):(sl l a b).length=b-a:=by unfold sl;rw[wk,xu];lia
def AM{l:List Nat}{c:Nat}(h1:a<=b)(h2:b<=c):sl l a b++sl l b c=sl l a c:=by unfold sl;rw[show c-a=(b-a)+(c-b) by lia,List.take_add,List.drop_drop,show a+(b-a)=b by lia]
def aAY{l:List Nat}:sl l 0 l.length=l:=by unfold sl;rw[drop_zero,Nat.sub_zero,take_length]
def gN{l:List Nat}{x:Nat}(hb:b<=l.length)(h:x∈sl l a b):∃i,a<=i/\i<b/\x=fp l.toArray i:=by obtain⟨i,e⟩:=List.getElem?_of_mem h;have hi:=(u0.mp e).1;rw[kM hb]at hi;rw[sR z7 hb]at e;exact⟨a+i,z7,z7,(vb e).symm⟩
def DC{l:List Nat}(hb:b<=l.length)(h:bz lt l.toArray a b):So lt (sl l a b):=by refine List.pairwise_iff_getElem.mpr λi j hi R W=>?_;have z:=hi;have I:=R;rw[kM hb]at z I;rw[(u0.mp (sR (l:=l) (a:=a) (b:=b) (i:=i) z7 hb)).2,(u0.mp (sR (l:=l) (a:=a) (b:=b) (i:=j) z7 hb)).2];exact h _ _ z7 z7 z7
def aCH{l:List Nat}(h:So lt l):bz lt l.toArray 0 l.length:=λi j _ I z=>JS h (NS z7) (NS z) I
def KL{sa:Nat}(zs:List Keyed):∀(k:Nat) (X R D:List Keyed),R.length=zs.length->X.length=sa+k->(zs.zipIdx k).foldl (λa (x:Keyed×Nat)=>a.setIfInBounds (sa+x.2) x.1) (X++(R++D)).toArray=(X++(zs++D)).toArray:=by
 induction zs with
 |nil=>intro k X R D h hx;rw[vy.mp h];rfl
 |cons z zs W=>
  intro k X R D h hx;obtain⟨y,I,rfl⟩:∃y I,R=y::I:=by
   cases R with
   |nil=>cases h
   |cons y I=>exact⟨y,I,rfl⟩
  have e:(X++(y::I++D)).toArray.setIfInBounds (sa+k) z=((X++[z])++(I++D)).toArray:=by rw[List.setIfInBounds_toArray,<-hx,List.set_append_right _ _ (ux _),Nat.sub_self];simp
  show (zs.zipIdx (k+1)).foldl _ ((X++(y::I++D)).toArray.setIfInBounds (sa+k) z)=_;rw[e,W (k+1) (X++[z]) I D (Nat.succ.inj h) (by rw[vt,hx];rfl)];simp
def BH(hc:gu prog w A κ it n lt s)(o:Ord n lt){l:List Nat}(a:Prm n l.toArray){n1 pw:Nat}(h1:0<n1)(h2:n1<n)(i1:bz lt l.toArray 0 n1)(i2:bz lt l.toArray n1 n){Q:Bool->SortSt->Prop} (h:∀ae p',arrOf ae=p'.map (kas_item it)->failedOf ae=U->pendingOf ae=#[(0,n,pw)]->Prm n p'->bz lt p' 0 n->Q Y ae):SK prog w A E s (mergeAt' 0) Q (ts κ it #[(0,n1,pw),(n1,n-n1,0)] l.toArray):=by
 have sz:l.length=n:=by have:=a.size;simpa using this
 have pm:l.Perm (List.range n):=a.pm;have nd:l.Nodup:=pm.nodup_iff.mpr List.nodup_range;have arr:l.toArray.map (kas_item it)=aO it l:=by unfold aO;simp
 obtain⟨k,hk,ek⟩:=bound n1 (λi=>!lt (fp l.toArray n1) (fp l.toArray i)) λi j dz hj hf=>by have c:=o.tot _ _ (a.lt h2) (a.lt (show j<n by lia)) (a.ne h2 (show j<n by lia) z7) (by simpa using hf);have d:=o.tra _ _ _ (a.lt (show i<n by lia)) (a.lt (show j<n by lia)) (a.lt h2) (i1 i j z7 dz hj) c;show (!lt (fp l.toArray n1) (fp l.toArray i))=Y;rw[o.asy _ _ (a.lt (show i<n by lia)) (a.lt h2) d];rfl
 obtain⟨m,hm0,em⟩:=bound (n-n1) (λi=>lt (fp l.toArray (n1+i)) (fp l.toArray (n1-1))) λi j dz hj hf=>o.tra _ _ _ (a.lt (show n1+i<n by lia)) (a.lt (show n1+j<n by lia)) (a.lt (show n1-1<n by lia)) (i2 (n1+i) (n1+j) z7 z7 z7) hf
 have hm:n1+m<=n:=by lia
 clear hm0;have lo:∀i,i<k->lt (fp l.toArray i) (fp l.toArray n1)=Y:=λi hi=>by have:=ek i z7;rw[wa hi]at this;exact o.tot _ _ (a.lt h2) (a.lt (show i<n by lia)) (a.ne h2 (show i<n by lia) z7) (by simpa using this)
 have hi:∀i,n1+m<=i->i<n->lt (fp l.toArray (n1-1)) (fp l.toArray i)=Y:=λi z1 I=>by have:=em (i-n1) z7;rw[uz z7,show n1+(i-n1)=i by lia]at this;exact o.tot _ _ (a.lt I) (a.lt (show n1-1<n by lia)) (a.ne I (show n1-1<n by lia) z7) this
 have R:lt (fp l.toArray (n1-1)) (fp l.toArray n1)=Y->bz lt l.toArray 0 n:=λz i j _ dz hj=>by
  by_cases c:j<n1;exact i1 i j z7 dz c;by_cases d:n1<=i;exact i2 i j d dz hj;have b1:lt (fp l.toArray i) (fp l.toArray n1)=Y:=by by_cases e:i=n1-1;rw[e];exact z;exact o.tra _ _ _ (a.lt (show i<n by lia)) (a.lt (show n1-1<n by lia)) (a.lt h2) (i1 i (n1-1) z7 z7 z7) z
  by_cases e:j=n1;rw[e];exact b1;exact o.tra _ _ _ (a.lt (show i<n by lia)) (a.lt h2) (a.lt hj) b1 (i2 n1 j z7 z7 hj)
 have pend:(((#[(0,n1,pw),(n1,n-n1,0)]:Array (Nat×Nat×Nat)).setIfInBounds 0 (0,n1+(n-n1),pw)).eraseIdxIfInBounds (0+1))=#[(0,n,pw)]:=by rw[show n1+(n-n1)=n by lia];simp[Array.eraseIdxIfInBounds]
 unfold mergeAt';refine aD (eZ ?_);refine aD (aAZ ?_);refine aD (bJ (sN a h2) ?_);refine aD (gK hc (m:=k) (q:=λi=>fp l.toArray i) rfl (a.lt h2) (λi z=>a.lt z7) (λi z=>by rw[vq];exact sN a z7) ek hk h1 ?_);dsimp only;by_cases c1:n1-k=0;rw[if_pos (by rw[c1];rfl)];refine aG (h _ l.toArray rfl rfl pend a (R (lo _ z7)));rw[if_neg (by simpa using c1)];have ck:k<n1:=by lia
 clear c1;have eb:0+k+(n1-k)-1=n1-1:=by lia
 refine aD (bJ (x:=kas_item it (fp l.toArray (n1-1))) (by rw[eb];exact sN a z7) ?_);refine aD (gK hc (m:=m) (q:=λi=>fp l.toArray (n1+i)) rfl (a.lt z7) (λi z=>a.lt z7) (λi z=>sN a z7) em z7 z7 ?_);dsimp only;by_cases c2:m=0;rw[if_pos (by rw[c2];rfl)];refine aG (h _ l.toArray rfl rfl pend a (R (hi n1 z7 h2)));rw[if_neg (by simpa using c2)];have ex:(arrOf (ts κ it #[(0,n1,pw),(n1,n-n1,0)] l.toArray)).extract (0+k) n1=aO it (sl l k n1):=by show (l.toArray.map (kas_item it)).extract (0+k) n1=_;rw[arr,dX,vq];rfl
 have ey:(arrOf (ts κ it #[(0,n1,pw),(n1,n-n1,0)] l.toArray)).extract n1 (n1+m)=aO it (sl l n1 (n1+m)):=by show (l.toArray.map (kas_item it)).extract n1 (n1+m)=_;rw[arr,dX];rfl
 have hl:sl l 0 k++((sl l k n1++sl l n1 (n1+m))++sl l (n1+m) n)=l:=by rw[AM hk z7,AM z7 z7,AM z7 z7,<-sz,aAY]
 have mn:∀{x a b},b<=n->x∈sl l a b->x<n:=λ{x a' b} hb hx=>by obtain⟨i,_,z,rfl⟩:=gN z7 hx;exact a.lt z7
 have g:MG lt n (sl l k n1) (sl l n1 (n1+m)):=⟨o,λx=>mn z7,λx=>mn z7,DC z7 λi j z1 I z3=>i1 i j z7 I z3,DC z7 λi j z1 I z3=>i2 i j z1 I z7,λx hx y hy=>by obtain⟨i,u1,u2,rfl⟩:=gN z7 hx;obtain⟨j,v1,W,rfl⟩:=gN z7 hy;exact a.ne z7 z7 z7⟩;have x0:(sl l k n1)[0]?=O (fp l.toArray k):=sR z7 z7;have y0:(sl l n1 (n1+m))[0]?=O (fp l.toArray n1):=sR z7 z7;have xl:(sl l k n1)[(sl l k n1).length-1]?=O (fp l.toArray (n1-1)):=by rw[kM z7,sR z7 z7,show k+(n1-k-1)=n1-1 by lia]
 have q1:lt (fp l.toArray n1) (fp l.toArray k)=Y:=by have:=ek k z7;rw[uz (wq k)]at this;simpa using this
 have q2:∀y∈sl l n1 (n1+m),lt y (fp l.toArray (n1-1))=Y:=λy hy=>by obtain⟨j,v1,W,rfl⟩:=gN z7 hy;have:=em (j-n1) z7;rw[wa z7,show n1+(j-n1)=j by lia]at this;exact this
 have fin:∀r ae,Res lt it (sl l k n1) (sl l n1 (n1+m)) r->SS (SortSt.mk' κ (l.toArray.map (kas_item it)) ((#[(0,n1,pw),(n1,n-n1,0)]:Array (Nat×Nat×Nat)).setIfInBounds 0 (0,n1+(n-n1),pw) |>.eraseIdxIfInBounds (0+1)) 7 U) ae ->
   SK prog w A E s (do modify λs=>setArr s (r.toList.zipIdx.foldl (λa (x:Keyed×Nat)=>a.setIfInBounds (0+k+x.2) x.1) (arrOf s));return (failedOf (<-get)).isNone) Q ae:=λr ae hr hs=>by
  obtain⟨zs,rfl,zp,zo⟩:=hr;refine aD (bQ (aD (eZ (aG ?_))));have ha:(aO it zs).toList.zipIdx.foldl (λa (x:Keyed×Nat)=>a.setIfInBounds (0+k+x.2) x.1) (arrOf ae)=(sl l 0 k++(zs++sl l (n1+m) n)).toArray.map (kas_item it):=by
   rw[hs.2.1];show (aO it zs).toList.zipIdx.foldl (λa (x:Keyed×Nat)=>a.setIfInBounds (0+k+x.2) x.1) (l.toArray.map (kas_item it))=_;have e1:l.toArray.map (kas_item it)=((sl l 0 k).map (kas_item it)++(((sl l k n1++sl l n1 (n1+m)).map (kas_item it))++(sl l (n1+m) n).map (kas_item it))).toArray:=by rw[<-xf,<-xf,hl];simp
   rw[e1];refine(KL (zs.map (kas_item it)) 0 ((sl l 0 k).map (kas_item it)) ((sl l k n1++sl l n1 (n1+m)).map (kas_item it)) ((sl l (n1+m) n).map (kas_item it)) (by rw[uw,uw,zp.length_eq]) (by rw[uw,kM z7];lia)).trans ?_;simp
  show Q ((failedOf ae).isNone) _;rw[hs.2.2.2];have pm':(sl l 0 k++(zs++sl l (n1+m) n)).Perm l:=by have:=((zp.append_right (sl l (n1+m) n)).append_left (sl l 0 k));rwa [hl]at this
  have so':So lt (sl l 0 k++(zs++sl l (n1+m) n)):=by
   have up:∀i j,i<k->n1<=j->j<n->lt (fp l.toArray i) (fp l.toArray j)=Y:=λi j z1 I z3=>by by_cases e:j=n1;rw[e];exact lo i z1;exact o.tra _ _ _ (a.lt (show i<n by lia)) (a.lt h2) (a.lt z3) (lo i z1) (i2 n1 j z7 z7 z3)
   refine fR (DC z7 λi j z1 I z3=>i1 i j z1 I z7) (fR zo (DC z7 λi j z1 I z3=>i2 i j z7 I z3) λz hz d hd=>?_) λx hx y hy=>?_;obtain⟨j,v1,W,rfl⟩:=gN z7 hd;rcases xw.mp (zp.mem_iff.mp hz) with hz|hz;obtain⟨i,u1,u2,rfl⟩:=gN z7 hz;by_cases e:i=n1-1;rw[e];exact hi j v1 W;exact o.tra _ _ _ (a.lt (show i<n by lia)) (a.lt (show n1-1<n by lia)) (a.lt W) (i1 i (n1-1) z7 z7 z7) (hi j v1 W);obtain⟨i,u1,u2,rfl⟩:=gN z7 hz;exact i2 i j u1 z7 W;obtain⟨i,u1,u2,rfl⟩:=gN z7 hx;rcases xw.mp hy with hy|hy;rcases xw.mp (zp.mem_iff.mp hy) with hy|hy;obtain⟨j,v1,W,rfl⟩:=gN z7 hy;exact i1 i j z7 z7 W;obtain⟨j,v1,W,rfl⟩:=gN z7 hy;exact up i j u2 v1 z7;obtain⟨j,v1,W,rfl⟩:=gN z7 hy;exact up i j u2 z7 W
  have len':(sl l 0 k++(zs++sl l (n1+m) n)).length=n:=pm'.length_eq.trans sz;have in':=aCH so';rw[len']at in';exact h _ _ ha hs.2.2.2 (hs.2.2.1.trans pend) ⟨pm'.trans pm⟩ in'
 rw[ex,ey];by_cases c3:n1-k<=m;rw[if_pos c3];exact aD (BE hc g x0 y0 q1 xl q2 rfl λr ae hr hs=>fin r ae hr hs);rw[if_neg c3];exact aD (BG hc g x0 y0 q1 xl q2 rfl λr ae hr hs=>fin r ae hr hs)
end
section
variable {prog:y8}{w:World}{A:Around}{E:y9}{κ:SortKind}{it:Array Keyed}{n:Nat}{lt:Nat->Nat->Bool}{s:Shared}
def ui(κ:SortKind)(it:Array Keyed)(n:Nat)(lt:Nat->Nat->Bool)(i lo:Nat)(st:SortSt):Prop:=(i=0/\lo=0/\∃p,st=ts κ it #[] p/\Prm n p) \/(1<=i/\0<lo/\lo<=n/\(lo<n->i=1/\n=64/\32<=lo)/\∃p,st=ts κ it #[(0,lo,0)] p/\Prm n p/\bz lt p 0 lo) \/(lo=n/\∃p n1 pw,0<n1/\n1<n/\st=ts κ it #[(0,n1,pw),(n1,n-n1,0)] p/\Prm n p/\bz lt p 0 n1/\bz lt p n1 n)
def HE(h:n<64):minRun' n n 0=n:=by
 cases n with
 |zero=>rfl
 |succ r=>rw[minRun'_succ,if_pos h]
def HF:minRun' 64 64 0=32:=rfl
def SX(hc:gu prog w A κ it n lt s)(o:Ord n lt)(h2:2<=n)(h64:n<=64){Q:Unit->SortSt->Prop}(h:∀ae p',arrOf ae=p'.map (kas_item it)->failedOf ae=U->Prm n p'->bz lt p' 0 n->Q () ae):SK prog w A E s sortRuns' Q (ts κ it #[] (List.range n).toArray):=by
 have hmr:∃R,minRun' n n 0=R/\R<=n/\(n<64->R=n)/\(n=64->R=32):=by
  by_cases e:n<64;exact⟨n,HE e,ux _,λ_=>rfl,λz=>by lia⟩;obtain rfl:n=64:=by lia
  exact⟨32,HF,z7,λz=>by lia,λ_=>rfl⟩
 obtain⟨R,hmr,m1,m2,m3⟩:=hmr;rw[sortRuns'_eq];refine aD (eZ ?_);have hsz:(arrOf (ts κ it #[] (List.range n).toArray)).size=n:=by show ((List.range n).toArray.map (kas_item it)).size=n;simp
 dsimp only;rw[hsz,hmr];refine aD (bW (iR (Q:=λb st=>∃i lo,b=(U,lo)/\ui κ it n lt i lo st/\n<=lo) (λi b st=>∃lo,b=(U,lo)/\ui κ it n lt i lo st) ⟨0,rfl,.inl ⟨rfl,rfl,_,rfl,⟨.refl _⟩⟩⟩ ?_ ?_) ?_);rintro x i b st hi ⟨lo,rfl,hS⟩;dsimp only;by_cases hge:lo >= n;rw[if_pos hge];exact aG ⟨i,lo,rfl,hS,hge⟩;rw[if_neg hge];rcases hS with ⟨rfl,rfl,p,rfl,a⟩|⟨hi1,iF,hln,h64',p,rfl,a,i1⟩|⟨e,_⟩;have I:∀m p',Prm n p'->bz lt p' 0 (0+m)->0<m->m<=n->R<=m->SK prog w A E s (do
   modify λs=>setPending s ((pendingOf s).push (0,m,0))
   pure (ForInStep.yield ((U,0+m):Option Unit×Nat))) (λr ae=>match r with | .done b'=>∃i lo,b'=(U,lo)/\ui κ it n lt i lo ae/\n<=lo | .yield b'=>∃lo,b'=(U,lo)/\ui κ it n lt (0+1) lo ae) (ts κ it #[] p'):=λm p' a' i' z1 z2 z3=>by
  refine aD (bQ (aG ⟨_,rfl,.inr (.inl ⟨z7,z7,z7,λz=>?_,p',?_,a',i'⟩)⟩));exact⟨rfl,z7,z7⟩;rw[vq];rfl
 refine aD (zP hc o a z7 z7 λm p' a' g1 g2 g3 g4=>?_);dsimp only;by_cases cw:m<R;rw[if_pos cw];refine aD (iQ ?_);refine aD (RD hc o a' g1 (m:=min (n-0) R) z7 z7 g4 λo6 a'' f'' i''=>?_);simp only[vv,v7,if_false];refine aD (eZ ?_);exact I _ o6 a'' i'' z7 z7 z7;rw[if_neg cw];refine aD (eZ ?_);exact I _ p' a' g4 z7 z7 z7;obtain⟨rfl,e64,h32⟩:=h64' z7;have em:R=32:=m3 e64;have I:∀m p' pw,m=n-lo->Prm n p'->bz lt p' 0 lo->bz lt p' lo (lo+m)->∃lo',((U,lo+m):Option Unit×Nat)=(U,lo')/\ui κ it n lt (1+1) lo' (ts κ it #[(0,lo,pw),(lo,m,0)] p'):=λm p' pw z1 a' i1' i2'=>by refine⟨_,rfl,.inr (.inr ⟨z7,p',lo,pw,iF,z7,by rw[z1],a',i1',?_⟩)⟩;rwa [show lo+m=n by lia]at i2'
 refine aD (zP hc o a z7 z7 λm p' a' g1 g2 g3 g4=>?_);have i1':bz lt p' 0 lo:=λi j y1 y2 W=>by rw[g3 i z7,g3 j W];exact i1 i j y1 y2 W
 dsimp only;by_cases cw:m<R;rw[if_pos cw];refine aD (iQ ?_);refine aD (RD hc o a' g1 (m:=min (n-lo) R) z7 z7 g4 λo6 a'' f'' i''=>?_);simp only[vv,v7,if_false];refine aD (eZ ?_);rw[show (pendingOf (ts κ it #[(0,lo,0)] o6)).back?=O (0,lo,0) from rfl];dsimp only;refine aD (bW (iR (Q:=λb st=>b=(U,())/\st=ts κ it #[(0,lo,0)] o6) (λ_ b st=>b=(U,())/\st=ts κ it #[(0,lo,0)] o6) ⟨rfl,rfl⟩ ?_ λ_ _ z=>z) ?_);rintro x i b st _ ⟨rfl,rfl⟩;exact aD (eZ (aG ⟨rfl,rfl⟩));rintro b st ⟨rfl,rfl⟩;exact aD (bQ (aD (bQ (aG (I _ o6 _ z7 a'' (λi j y1 y2 W=>by rw[f'' i z7,f'' j W];exact i1' i j y1 y2 W) i'')))));rw[if_neg cw];refine aD (eZ ?_);rw[show (pendingOf (ts κ it #[(0,lo,0)] p')).back?=O (0,lo,0) from rfl];dsimp only;refine aD (bW (iR (Q:=λb st=>b=(U,())/\st=ts κ it #[(0,lo,0)] p') (λ_ b st=>b=(U,())/\st=ts κ it #[(0,lo,0)] p') ⟨rfl,rfl⟩ ?_ λ_ _ z=>z) ?_);rintro x i b st _ ⟨rfl,rfl⟩;exact aD (eZ (aG ⟨rfl,rfl⟩));rintro b st ⟨rfl,rfl⟩;exact aD (bQ (aD (bQ (aG (I _ p' _ z7 a' i1' g4)))));lia;rintro b st ⟨lo,rfl,hS⟩;refine⟨_,lo,rfl,hS,?_⟩;rcases hS with ⟨e,_⟩|⟨_,_,_,e,_⟩|⟨e,_⟩;lia;by_cases z:lo<n;have:=(e z).1;lia;lia;lia;rintro b st ⟨i,lo,rfl,hS,hge⟩;dsimp only;have I:∀st p,arrOf st=p.map (kas_item it)->failedOf st=U->(pendingOf st).size=1->Prm n p->bz lt p 0 n->True:=λ_ _ _ _ _ _ _=>trivial;refine aD (bW (iR (Q:=λb st=>b=(U,())/\∃p,arrOf st=p.map (kas_item it)/\failedOf st=U/\Prm n p/\bz lt p 0 n) (λi b st=>b=(U,())/\((i=0/\∃p n1 pw,0<n1/\n1<n/\st=ts κ it #[(0,n1,pw),(n1,n-n1,0)] p/\Prm n p/\bz lt p 0 n1/\bz lt p n1 n)\/((pendingOf st).size=1/\∃p,arrOf st=p.map (kas_item it)/\failedOf st=U/\Prm n p/\bz lt p 0 n))) ⟨rfl,?_⟩ ?_ ?_) ?_);rcases hS with ⟨_,e,_⟩|⟨_,_,e,_,p,rfl,a,i1⟩|⟨_,p,n1,pw,z⟩;lia;obtain rfl:lo=n:=by lia
 exact .inr ⟨rfl,p,rfl,rfl,a,i1⟩;exact .inl ⟨rfl,p,n1,pw,z⟩;rintro x i b st hi ⟨rfl,hz⟩;refine aD (eZ ?_);rcases hz with ⟨rfl,p,n1,pw,z1,z2,rfl,a,i1,i2⟩|⟨e,z⟩;rw[if_neg (by show ¬2<=1;lia)];obtain⟨l⟩:=p;refine aD (BH hc o a z1 z2 i1 i2 λae p' y1 y2 W y4 y5=>?_);exact aG ⟨rfl,.inr ⟨by rw[W];rfl,p',y1,y2,y4,y5⟩⟩;rw[if_pos z7];exact aG ⟨rfl,z⟩;rintro b st ⟨rfl,⟨e,_⟩|⟨_,z⟩⟩;lia;exact⟨rfl,z⟩;rintro b st ⟨rfl,p,y1,y2,W,y4⟩;exact aG (h st p y1 y2 W y4)
def aEk(ask:∀i j C,i<vs.length->j<vs.length->C (lt i j) s->kas_ask prog w A κ vs i j C s)(o:Ord vs.length lt)(h2:2<=vs.length)(h64:vs.length<=64):wpAny (model prog w) A ((sortRuns').run (SortSt.mk' κ (vs.toArray.zip vs.toArray) #[] 7 U)) (λr s'=>s'=s/\∃p:Array Nat,Prm vs.length p/\qf lt p vs.length/\arrOf r.2=p.map (kas_item (vs.toArray.zip vs.toArray))/\failedOf r.2=U) E s:=by
 rw[kat_ask_eq rfl]at ask;have run:=SX (E:=E) (it:=vs.toArray.zip vs.toArray) (Q:=λ_ ae=>∃p:Array Nat,Prm vs.length p/\qf lt p vs.length/\arrOf ae=p.map (kas_item (vs.toArray.zip vs.toArray))/\failedOf ae=U) ask o h2 h64 λae p q1 q2 q3 W=>⟨p,q3,λi j R I=>W i j (xq _) R I,q1,q2⟩;have z:SortSt.mk' κ (vs.toArray.zip vs.toArray) #[] 7 U=ts κ (vs.toArray.zip vs.toArray) #[] (List.range vs.length).toArray:=by have e:=kas_range (vs.toArray.zip vs.toArray);rw[show (vs.toArray.zip vs.toArray).size=vs.length by simp]at e;show SortSt.mk' κ (vs.toArray.zip vs.toArray) #[] 7 U=SortSt.mk' κ ((List.toArray (List.range vs.length)).map (kas_item (vs.toArray.zip vs.toArray))) #[] 7 U;rw[e]
 rw[z];exact run
end
open PySem.Spec L2 PySem.Calls
def Kept(g g':Heap):Prop:=∀b u,g.get? b=O u->g'.get? b=O u
section
variable {prog:y8}{w:World}{A:Around}{E:y9}{s:Shared}{vs:List Value}{lt:Nat->Nat->Bool}{κ:SortKind}
noncomputable def mL(vs:List Value)(p:Array Nat):List Value:=p.toList.map λi=>vs.getD i Value.none
def LJ{p:Array Nat}(a:Prm vs.length p):(mL vs p).length=vs.length:=by unfold mL;rw[uw,length_toList,a.size]
def DY:mL vs (List.toArray (List.range vs.length))=vs:=by unfold mL;apply List.ext_getElem;simp;intro i h1 h2;simp[h2]
structure ur (prog:y8) (w:World) (A:Around) (κ:SortKind) (vs:List Value) (lt:Nat->Nat->Bool) (s:Shared):Prop where
 kind:2<=vs.length->∀(R:SortKind->Shared->Prop),R κ s->wpAny (model prog w) A (keyKind' vs.toArray) R (λ_ _=>False) s
 ask:∀i j C,i<vs.length->j<vs.length->C (lt i j) s->kas_ask prog w A κ vs i j C s
def SO{a:Addr}{P:PySem.Fin->Shared->Prop}(ho:s.heap.get? a=O (seqObj "list" vs.toArray n))(o:Ord vs.length lt)(h64:vs.length<=64) (hl:∀g',(∀b u,b≠a->s.heap.get? b=O u->g'.get? b=O u)->ur prog w A κ vs lt {s with heap:=g' }) (hP:∀g' p c,(∀b u,b≠a->s.heap.get? b=O u->g'.get? b=O u)->Prm vs.length p->qf lt p vs.length->g'.get? a=O (seqObj "list" (mL vs p).toArray c)->P (.done (.ret .none)) {s with heap:=g' }):wpAny (model prog w) A (Builtin.«list.sort» ⟨[.ref a],[]⟩) P E s:=by
 have cw:a<s.heap.objs.size:=vk ho;have I:=Heap.SameBut.update s.heap a (Obj.mapSeq λ_=>(#[]:Array Value));have hz:vs.length<=sizeLine:=by rw[sizeLine_eq];lia
 obtain⟨e1,la⟩:∃e1,(s.heap.update a (Obj.mapSeq λ_=>(#[]:Array Value))).get? a=O (seqObj "list" #[] e1):=⟨_,get?_update_seq ho λ_=>#[]⟩;rw[list_sort_plain];refine wt (listItems_at ho rfl (wt (listUpdate_at ho rfl (wt (seqEpoch_at la rfl (wt (wpAny_newTuple (wt (wpAny_newList (wpAny_holding ?_) (xq _))) hz)))) (by rw[v9];exact hz) (xq _))));show wpAny (model prog w) A _ P E {s with heap:=((s.heap.update a (Obj.mapSeq λ_=>(#[]:Array Value))).push (seqObj "tuple" vs.toArray 0)).push (seqObj "list" #[] 0)};have kp:∀b u,(s.heap.update a (Obj.mapSeq λ_=>(#[]:Array Value))).get? b=O u->(((s.heap.update a (Obj.mapSeq λ_=>(#[]:Array Value))).push (seqObj "tuple" vs.toArray 0)).push (seqObj "list" #[] 0)).get? b=O u:=λb u e=>v3 _ (v3 _ e);have kq:∀b u,b≠a->s.heap.get? b=O u->(((s.heap.update a (Obj.mapSeq λ_=>(#[]:Array Value))).push (seqObj "tuple" vs.toArray 0)).push (seqObj "list" #[] 0)).get? b=O u:=λb u hb e=>kp b u ((I.2 b hb).trans e);have dy:=kp a _ la;generalize ((s.heap.update a (Obj.mapSeq λ_=>(#[]:Array Value))).push (seqObj "tuple" vs.toArray 0)).push (seqObj "list" #[] 0)=g1 at *;have L:=hl g1 kq;have fin:∀p:Array Nat,Prm vs.length p->qf lt p vs.length->P (.done (.ret .none)) {s with heap:=g1.update a (Obj.mapSeq λ_=>(mL vs p).toArray)}:=λp pa R=>by have z:=Heap.SameBut.update g1 a (Obj.mapSeq λ_=>(mL vs p).toArray);obtain⟨c2,i0⟩:∃c2,(g1.update a (Obj.mapSeq λ_=>(mL vs p).toArray)).get? a=O (seqObj "list" (mL vs p).toArray c2):=⟨_,get?_update_seq dy λ_=>(mL vs p).toArray⟩;exact hP _ p c2 (λb u hb e=>(z.2 b hb).trans (kq b u hb e)) pa R i0
 dsimp only;by_cases h2:vs.toArray.size<2;have W:vs.length<2:=by simpa using h2
 rw[if_pos h2,if_pos h2];refine wt (wu ?_);rw[StateT.run_pure];refine wt (wu ?_);dsimp only;have e0:(arrOf (SortSt.mk' general' (vs.toArray.zip vs.toArray) #[] 7 U)).map (·.2)=(mL vs (List.toArray (List.range vs.length))).toArray:=by rw[DY];show (vs.toArray.zip vs.toArray).map (·.2)=_;apply Array.toList_inj.mp;simp[List.map_snd_zip]
 rw[e0];refine wt (seqEpoch_at dy rfl (wt (listUpdate_at dy rfl ?_ (xq _) (by rw[DY,v9];exact le_succ_of_le hz))));simp only[bne_self_eq_false,v7,if_false];exact wu (fin _ ⟨Ab⟩ λi j q1 q2=>by lia);have W:2<=vs.length:=by
  have:¬vs.length<2:=by simpa using h2
  lia
 rw[if_neg h2,if_neg h2];refine wt (wx (L.kind W (λk u=>k=κ/\u={s with heap:=g1}) ⟨rfl,rfl⟩) (λk s0 hk=>?_) λ_ _ x=>x.elim);obtain⟨rfl,rfl⟩:=hk;refine wt (wx (aEk L.ask o W h64) ?_ λ_ _ x=>x);rintro⟨⟨⟩,ae⟩ s' ⟨rfl,p,pa,R,har,hf⟩;dsimp only;have e0:(arrOf ae).map (·.2)=(mL vs p).toArray:=kat_snds rfl har;rw[e0];refine wt (seqEpoch_at dy rfl (wt (listUpdate_at dy rfl ?_ (xq _) (by rw[v9,LJ pa];exact le_succ_of_le hz))));rw[hf];simp only[bne_self_eq_false,v7,if_false];exact wu (fin p pa R)
def zW{l:Addr}{Q:y9}(hl:s.heap.IsList l vs.toArray)(o:Ord vs.length lt)(h64:vs.length<=64) (hL:∀g',Kept s.heap g'->ur prog w A.in1.in1 κ vs lt {s with heap:=g' }) (hQ:∀g' p c,Kept s.heap g'->Prm vs.length p->qf lt p vs.length->g'.get? (s.heap.objs.size+1)=O (seqObj "list" (mL vs p).toArray c)->Q (.ref (s.heap.objs.size+1)) {s with heap:=g' }):wpAny (model prog w) A (call (.builtin "sorted") [.ref l]) Q E s:=by
 have hz:vs.length<=sizeLine:=by rw[sizeLine_eq];lia
 refine Calls.call_function_entry kind_sorted plain_sorted entry_sorted (args_sorted1 _) ?_;unfold Builtin.«sorted»;refine wt (m:=checkCount "sorted" 1 1 _) (wu (wt (collect_list hl (wt (wpAny_newList ?_ hz)) hz)));have sz:((s.heap.push (seqObj "list" #[] 0)).update s.heap.objs.size (Obj.mapSeq (·++vs.toArray))).objs.size=s.heap.objs.size+1:=by rw[Heap.size_update,size_push']
 have uf:(((s.heap.push (seqObj "list" #[] 0)).update s.heap.objs.size (Obj.mapSeq (·++vs.toArray))).push (seqObj "list" vs.toArray 0)).get? (s.heap.objs.size+1)=O (seqObj "list" vs.toArray 0):=by have:=wy ((s.heap.push (seqObj "list" #[] 0)).update s.heap.objs.size (Obj.mapSeq (·++vs.toArray))) (o:=seqObj "list" vs.toArray 0) rfl;rw[sz]at this;exact this
 have kp:Kept s.heap (((s.heap.push (seqObj "list" #[] 0)).update s.heap.objs.size (Obj.mapSeq (·++vs.toArray))).push (seqObj "list" vs.toArray 0)):=λb u e=>by have W:b<s.heap.objs.size:=vk e;have nb:b≠s.heap.objs.size:=wj W;rw[Heap.get?_push_ne _ _ _ (by rw[sz];exact wj (lt_succ_of_lt W)),Heap.get?_update_ne _ _ _ _ nb,Heap.get?_push_ne _ _ _ nb];exact e
 show wpAny _ _ _ _ _ {s with heap:=((s.heap.push (seqObj "list" #[] 0)).update s.heap.objs.size (Obj.mapSeq (·++vs.toArray))).push (seqObj "list" vs.toArray 0)};rw[sz];generalize ((s.heap.push (seqObj "list" #[] 0)).update s.heap.objs.size (Obj.mapSeq (·++vs.toArray))).push (seqObj "list" vs.toArray 0)=g1 at *;have R:∀b u,s.heap.get? b=O u->b≠s.heap.objs.size+1:=λb u e=>wj (lt_succ_of_lt (vk e));refine wt (wpAny_holding (wpAny_call_entry slot_list_sort ⟨_,uf,rfl⟩ entry_list_sort (SO (s:={s with heap:=g1}) (κ:=κ) (lt:=lt) uf o h64 (λg' k=>hL g' λb u e=>k b u (R b u e) (kp b u e)) λg' p c k pa z I=>?_) (args_list_sort _)));exact⟨_,rfl,wu ⟨_,rfl,hQ g' p c (λb u e=>k b u (R b u e) (kp b u e)) pa z I⟩⟩
end
noncomputable def az(ks:List (Int×Int))(i:Nat):Int×Int:=ks.getD i (0,0)
def MS(h:i<ks.length):az ks i=ks[i]:=by unfold az;simp[h]
def LK(nd:ks.Nodup):Ord ks.length λi j=>dc (az ks i) (az ks j):=by
 refine⟨λa b ha hb f9 e=>?_,λa b ha hb e=>?_,λa b c ha hb hc e1 e2=>?_⟩;have:az ks a≠az ks b:=by rw[MS ha,MS hb];exactλz=>f9 ((List.getElem_inj nd).mp z)
 rw[pH]at e;rw[eR];have:¬((az ks a).1=(az ks b).1/\(az ks a).2=(az ks b).2):=λq=>this (Prod.ext q.1 q.2);lia;rw[eR]at e;rw[pH];lia;rw[eR]at e1 e2 ⊢;lia
def MR{p:Array Nat}(a:Prm ks.length p)(inc:qf (λi j=>dc (az ks i) (az ks j)) p ks.length):p.toList.map (az ks)=jO ks:=by
 refine pZ ?_ ?_;refine(a.pm.map _).trans (List.Perm.of_eq ?_);apply List.ext_getElem;simp;intro i h1 h2;simp[az,h2];rw[pairwise_map,List.pairwise_iff_getElem];intro i j hi z I;have l1:=a.size;have:=inc i j I (by simpa [l1] using z);have e:∀k (hk:k<p.toList.length),fp p k=p.toList[k]:=λk hk=>by unfold fp;rw[getD_eq_getD_getElem?,Array.getElem?_eq_getElem (by simpa using hk)];simp
 rw[e i hi,e j z]at this;exact this
section
variable {X:Cx}{T:Tx}{pins:ya}{V:L2.St}{H:Hp}{s:Shared}{S:Addr->Prop}
def aGm(h:Heap)(v:Value)(k:Int×Int):Prop:=∃a o n t u,v=.ref a/\h.get? a=O o/\o.cls=.type "tuple"/\o.data=.seq #[.int k.1 t,.int k.2 u] n
noncomputable def hZ(h:Heap):List Value->List (Int×Int)->Prop
 |[],ks=>ks=[]
 |v::r,ks=>∃k z,ks=k::z/\aGm h v k/\hZ h r z
theorem hZ.kept{h':Heap}(hk:Kept h h'):∀{vs:List Value} {ks:List (Int×Int)},hZ h vs ks->hZ h' vs ks
 |[],ks,e=>e
 |v::r,ks,⟨k,W,e,⟨a,o,n,t,u,R,q2,I,z⟩,q⟩=>⟨k,W,e,⟨a,o,n,t,u,R,hk _ _ q2,I,z⟩,hZ.kept hk q⟩
theorem hZ.get:∀{vs:List Value} {ks:List (Int×Int)},hZ h vs ks->∀i,i<vs.length->aGm h (vs.getD i Value.none) (az ks i)
 |[],ks,e,i,hi=>by simp at hi
 |v::r,ks,⟨k,I,e,z,q⟩,0,_=>by subst e;exact z
 |v::r,ks,⟨k,I,e,z,q⟩,i+1,hi=>by subst e;have:=hZ.get q i (by simpa using hi);simpa [az] using this
theorem hZ.tups:∀{vs:List Value} {ks:List (Int×Int)},hZ h vs ks->∃fs:List Value,KatTups h vs fs/\fs.length=vs.length/\∀v∈fs,∃i t,v=Value.int i t
 |[],ks,e=>⟨[],KatTups.nil,rfl,λv hv=>by simp at hv⟩
 |v::r,ks,⟨k,W,e,⟨a,o,n,t,u,R,q2,I,z⟩,q⟩=>by obtain⟨fs,h1,h2,h3⟩:=hZ.tups q;refine⟨.int k.1 t::fs,?_,by simp[h2],λv hv=>?_⟩;rw[R];exact KatTups.cons q2 I z Ab h1;rcases vo.mp hv with rfl|hv;exact⟨_,_,rfl⟩;exact h3 v hv
def HJ{prog:y8}(h:hZ s.heap vs ks):ur prog w A (tuples' (Value.type "int" != Value.type "tuple")) vs (λi j=>dc (az ks i) (az ks j)) s:=by
 have hb:(Value.type "int" != Value.type "tuple")=Y:=Aa
 refine⟨λh2 R hR=>?_,λi j C hi hj hC=>?_⟩;obtain⟨fs,h1,h3,h4⟩:=h.tups;refine kat_kind (T:=Value.type "int") h1 z7 (λv hv=>?_) Aa hR;obtain⟨i,t,rfl⟩:=h4 v hv;exact Looks.now;obtain⟨a,o,n,t,u,q1,q2,q3,q4⟩:=h.get i hi;obtain⟨a',o',n',t',u',W,I,q3',z⟩:=h.get j hj;unfold kas_ask;rw[q1,W,hb];refine kat_lt q2 q4 I z ?_;show KatLex prog w A Y _ C [((.int (az ks i).1 t),(.int (az ks j).1 t')),((.int (az ks i).2 u),(.int (az ks j).2 u'))] 0 s;refine kat_cons (wpAny_eqBool_int ?_);refine kat_go (λe=>kat_yes (kat_cons (wpAny_eqBool_int (kat_go (λe'=>kat_yes (kat_nil ?_)) λe'=>kat_no ?_)))) λe=>kat_no ?_;have:dc (az ks i) (az ks j)=J:=by rw[pH];rw[wb]at e e';lia
 rw[this]at hC;exact hC;refine kat_one _ _ (lt_int ?_);have:dc (az ks i) (az ks j)=decide ((az ks i).2<(az ks j).2):=by rw[wb]at e;unfold dc;rw[e];simp
 rw[this]at hC;exact hC;refine oneLt_int ?_;have:dc (az ks i) (az ks j)=decide ((az ks i).1<(az ks j).1):=by unfold dc;rw[e];simp
 rw[this]at hC;exact hC
noncomputable def uP:List Value->List (Int×Int)->Prop
 |[],ks=>ks=[]
 |v::r,ks=>∃i t z,ks=(i,0)::z/\v=.int i t/\uP r z
theorem uP.get:∀{vs:List Value} {ks:List (Int×Int)},uP vs ks->∀i,i<vs.length->∃t,vs.getD i Value.none=.int (az ks i).1 t/\(az ks i).2=0
 |[],ks,e,i,hi=>by simp at hi
 |v::r,ks,⟨k,t,I,e,z,q⟩,0,_=>by subst e;exact⟨t,z,rfl⟩
 |v::r,ks,⟨k,t,I,e,z,q⟩,i+1,hi=>by subst e;have:=uP.get q i (by simpa using hi);simpa [az] using this
def MK{prog:y8}(h:uP vs ks):ur prog w A oneType' vs (λi j=>dc (az ks i) (az ks j)) s:=by
 refine⟨λh2 R W=>?_,λi j C hi I hC=>?_⟩;refine kas_kind (T:=Value.type "int") h2 (λv hv=>?_) Aa Aa W;obtain⟨i,hi,rfl⟩:=List.getElem_of_mem hv;obtain⟨t,e,_⟩:=h.get i hi;have:vs[i]=.int (az ks i).1 t:=by rw[<-e];simp[hi]
 rw[this];exact Looks.now;obtain⟨t,e,z⟩:=h.get i hi;obtain⟨t',e',z'⟩:=h.get j I;unfold kas_ask;rw[e,e'];refine kat_lt_int ?_;have:dc (az ks i) (az ks j)=decide ((az ks i).1<(az ks j).1):=by unfold dc;rw[z,z'];simp
 rw[this]at hC;exact hC
def getD_get{α:Type}{l:List α}{d:α}(h:i<l.length):l[i]?=O (l.getD i d):=by simp[h]
theorem aX.pick{us:List Value}(r:aX xs us):∀{is:List Nat},(∀i∈is,i<xs.length)->aX (is.map λi=>xs.getD i .non) (is.map λi=>us.getD i Value.none)
 |[],_=>.nil
 |i::is,h=>by
  have hi:=h i Ab;obtain⟨u,e1,e2⟩:=r.get (getD_get (d:=σ.non) hi);have e3:us.getD i Value.none=u:=by simp[e1]
  refine .cons ?_ (aX.pick r λj z=>h j (v8 _ z));show L2.RelV (xs.getD i σ.non) (us.getD i Value.none);rw[e3];exact e2
theorem aC.pick{ds:List D}(r:aC K T H S ds xs):∀{is:List Nat},(∀i∈is,i<ds.length)->aC K T H S (is.map λi=>ds.getD i .non) (is.map λi=>xs.getD i .non)
 |[],_=>aC.nil
 |i::is,h=>by
  have hi:=h i Ab;obtain⟨x,e1,e2⟩:=r.get (getD_get (d:=D.non) hi);have e3:xs.getD i .non=x:=by simp[e1]
  refine aC.cons ?_ (aC.pick r λj z=>h j (v8 _ z));show Rep K T H S (ds.getD i D.non) (xs.getD i σ.non);rw[e3];exact e2
theorem qD:∀{ds:List D} {ks:List (Int×Int)},lP ds=O ks->ds=ks.map zN
 |[],ks,h=>by simp only[lP]at h;cases h;rfl
 |d::ds,ks,h=>by unfold lP at h;split at h;rename_i e;cases e;rename_i a b r e;cases e;obtain⟨z,h1,rfl⟩:=vc.mp h;rw[qD h1];rfl;cases h
theorem tG:∀{ds:List D} {is:List Int},dW ds=O is->ds=is.map .int
 |[],ks,h=>by simp only[dW]at h;cases h;rfl
 |d::ds,ks,h=>by
  cases d<;>simp only[dW,reduceCtorEq]at h
  obtain⟨z,h1,rfl⟩:=vc.mp h;rw[tG h1];rfl
theorem CW(I:Inv X pins V H s):∀{ks:List (Int×Int)} {xs:List σ} {us:List Value},aC X.K T H S (ks.map zN) xs->aX xs us->hZ s.heap us ks
 |[],xs,us,r,v=>by rw[map_nil]at r;unfold aC at r;subst r;cases v;rfl
 |k::ks,xs,us,r,v=>by
  rw[vz]at r;unfold aC at r;obtain⟨x,w,rfl,rx,rr⟩:=r;cases v with
  |cons v1 v2=>refine⟨k,ks,rfl,?_,CW I rr v2⟩;unfold zN at rx;unfold Rep at rx;obtain⟨a,ys,rfl,_,hq,z⟩:=rx;cases v1;obtain⟨its,rv,⟨o,ho,hc,n,hd⟩,_⟩:=I.tuple hq;unfold aC at z;obtain⟨y,gw,rfl,W,z⟩:=z;unfold aC at z;obtain⟨y2,ys2,rfl,R,z⟩:=z;unfold aC at z;subst z;unfold Rep at W R;subst W R;obtain⟨u1,u2,rfl,⟨t,rfl⟩,⟨t',rfl⟩⟩:=rv.two;exact⟨a,o,n,t,t',rfl,ho,hc,hd⟩
theorem EO:∀{is:List Int} {xs:List σ} {us:List Value},aC X.K T H S (is.map .int) xs->aX xs us->uP us (is.map λi=>(i,0))
 |[],xs,us,r,v=>by rw[map_nil]at r;unfold aC at r;subst r;cases v;rfl
 |k::ks,xs,us,r,v=>by
  rw[vz]at r;unfold aC at r;obtain⟨x,w,rfl,z,W⟩:=r;cases v with
  |cons R I=>unfold Rep at z;subst z;obtain⟨t,rfl⟩:=R;exact⟨k,t,_,rfl,rfl,EO W I⟩
def GF{l:Addr}{ds es:List D}{Q:VK}(I:Inv X pins V H s)(hl:SqL X.K H l xs)(r:aC X.K T H S ds xs)(hs:fW ds=O es) (q:∀p zs,H p=U->aC X.K T H S es zs->Q (.ref p) (upd H p (.lst zs))):wpAny (model X.prog X.w) X.A (call (.builtin "sorted") [.ref l]) (EP X pins V Q) X.xe s:=by
 obtain⟨its,rv,pl,hz⟩:=I.list hl;have l1:=r.len;have l2:=rv.length;have z:∀(ks:List (Int×Int)) (g:Int×Int->D) (κ:SortKind),ds=ks.map g->ks.length=ds.length->eC ks=Y->(∀g',Kept s.heap g'->ur X.prog X.w X.A.in1.in1 κ its (λi j=>dc (az ks i) (az ks j)) {s with heap:=g' })->es=(jO ks).map g ->wpAny (model X.prog X.w) X.A (call (.builtin "sorted") [.ref l]) (EP X pins V Q) X.xe s:=λks g κ hd hk hc hL he=>by
  unfold eC at hc;rw[va,vg,vg]at hc;have e0:its.length=ks.length:=by lia
  have o:=LK hc.2;rw[<-e0]at o;refine zW (κ:=κ) pl.isList o z7 hL λg' p c kp R W uf=>?_;have mem:∀i∈p.toList,i<its.length:=λi hi=>by simpa using R.pm.mem_iff.mp hi
  have au:H (s.heap.objs.size+1)=U:=I.hok.fresh (x6 _);have I3:Inv X pins V (upd H (s.heap.objs.size+1) (.lst (p.toList.map λi=>xs.getD i .non))) {s with heap:=g',toks:=s.toks}:=by refine I.laid kp (x6 _) ⟨?_,mL its p,c,aX.pick rv λi hi=>by rw[l2];exact mem i hi,uf⟩;rw[uw,length_toList,R.size,<-l2];exact hz
  refine⟨.ref _,_,I3,rfl,q _ _ au ?_⟩;have e1:es=p.toList.map λi=>ds.getD i .non:=by rw[he,<-MR (by rw[<-e0];exact R) (by rw[<-e0];exact W),xi];refine map_congr_left λi hi=>?_;have hi':=mem i hi;subst hd;simp[az,show i<ks.length by lia]
  rw[e1];exact aC.pick r λi hi=>by rw[l1,l2];exact mem i hi
 unfold fW at hs;split at hs;rename_i ks hk;split at hs;rename_i hc;cases hs;have ed:=qD hk;subst ed;exact z ks zN _ rfl Ab hc (λg' kp=>HJ (s:={s with heap:=g' }) (hZ.kept kp (CW I r rv))) rfl;cases hs;split at hs;rename_i is hk;split at hs;rename_i hc;cases hs;have ed:=tG hk;subst ed;exact z (is.map λi=>(i,0)) (λp=>.int p.1) _ (by simp[xi,Function.comp_def]) Ab hc (λg' kp=>MK (EO (X:=X) r rv)) rfl;cases hs;cases hs
def rBs(K:xx)(T:Tx)(S:Addr->Prop):List σ->Hp->VK->Prop:=λvs H Q=>∃l xs ds es,vs=[.ref l]/\SqL K H l xs/\aC K T H S ds xs/\fW ds=O es/\∀p ys H',aI H H'->H p=U->H' p=O (.lst ys)->aC K T (er H' p) S es ys->Q (.ref p) H'
def zZ:eW X (.builtin "sorted") (rBs X.K T S):=by rintro pins s V H vs us Q I r ⟨l,xs,ds,es,rfl,hl,R,hs,q⟩;obtain⟨u,rfl,ru⟩:=r.one;cases ru;exact GF I hl R hs λp zs hp z=>q p zs _ (aI.upd hp) hp aL (by rw[iD hp];exact z)
end
theorem uT:∀{xs:List σ} {us:List Value},xs.length=us.length->(∀(i:Nat) x u,xs[i]?=O x->us[i]?=O u->RelV x u)->aX xs us
 |[],[],_,_=>.nil
 |x::xs,u::us,h,k=>.cons (k 0 x u rfl rfl) (uT (Nat.succ.inj h) λi y v e f=>k (i+1) y v e f)
section
variable {CX:aq}{X:Cx}{c:CC}{G:GS}{T:Tx}{lv:Nat}{B:List Sl}{S:Addr->Prop}{tg:Expr}
theorem sS{K:xx}{H:Hp}:∀{l:List Int},aC K T H S (l.map D.int) (l.map σ.int)
 |[]=>by unfold aC;rfl
 |i::l=>by show aC K T H S (D.int i::l.map D.int) (σ.int i::l.map σ.int);unfold aC;exact⟨_,_,rfl,by unfold Rep;rfl,sS⟩
def AW{a:Expr}{pos je:Pos}{j:Int}(hc:X.calm=Y)(hg:Gl X "range")(hm:X.mg "range"=U)(il:Gl X "list")(se:X.mg "list"=U)(ha:PA X [a] (da X.K T S B [.int j]))(hs:starEach [a] X.env=[(J,eval a X.env)])(h0:eN j=Y)(hn:j.toNat<=big):PE X (.Call (.Name "list" p2) [.Call (.Name "range" p) [a] [] pos] [] je) (d9 X.K T S B (cZ 0 j)):=by
 intro pins s V H Q I ⟨re,q⟩;refine Call_ (fT I il se pN (vp (Calls.spliced_cons (Call_ (fT I hg hm boot_range (vp (ai (ha pos pins s V H (λvs H'=>aI H H'/\aC X.K T H' S [.int j] vs) I ⟨re,λvs H' a b=>⟨a,b⟩⟩) λus s1 ⟨vs,H1,I1,r1,sm,W⟩=>?_) hs rfl)))) rfl rfl));unfold aC at W;obtain⟨x,r',rfl,R,z⟩:=W;unfold aC at z;subst z;unfold Rep at R;subst R;obtain⟨b1,b2⟩:=gY h0;have hb:j.toNat<=1000000:=hn;cases r1 with
 |cons r z=>
  cases z;obtain⟨t,rfl⟩:=r;refine call_range_1 (Calls.spliced_nil ?_);generalize ij:({s1 with heap:=s1.heap.push {cls:=.type "range",data:=.fields #[.int 0 s1.toks,.int j t,.int 1 (s1.toks+1)]},toks:=s1.toks+1+1}:Shared)=s2;have I2:Inv X pins V H1 s2:=by subst ij;exact I1.kept λb o e=>v3 _ e
  have hr:IsRange s2.heap s1.heap.objs.size 0 j 1 s1.toks t (s1.toks+1):=by subst ij;exact IsRange.new ..
  refine call_list_range (n:=j.toNat) (I2.ok.hd hc) hr (small_one Aa Aa b1 b2) (by rw[rangeSize_one];split<;>lia) z7 λh' tk c9 c' hk j3 d6=>?_;have vs:aX (((List.range j.toNat).map λ(k:Nat)=>(k:Int)).map σ.int) c9.toList:=by
   refine uT (by simp[d6.1]) λi y u e f=>?_;obtain⟨t',rfl⟩:=d6.2 i u (by simpa using f);rw[xi,uv]at e;cases hr:(List.range j.toNat)[i]? with
   |none=>rw[hr]at e;cases e
   |some k=>
    rw[hr]at e;have hk:k=i:=by obtain⟨h1,h2⟩:=u0.mp hr;simpa using h2.symm
    subst hk;cases e;exact⟨t',by rw[Int.mul_one,Int.zero_add]⟩
  have au:H1 s2.heap.objs.size=U:=I2.hok.fresh (ux _);have I3:Inv X pins V (upd H1 s2.heap.objs.size (.lst (((List.range j.toNat).map λ(k:Nat)=>(k:Int)).map σ.int))) {s2 with heap:=h',toks:=tk}:=by refine I2.laid (λb u e=>hk b u e) (ux _) ?_;refine⟨by simp only[uw,vh];rw[sizeLine_eq];lia,c9.toList,c',vs,?_⟩;rw[j3]
  refine⟨.ref _,_,I3,rfl,q _ _ _ (sm.trans (aI.upd au)) (sm.free au) aL ?_⟩;rw[iD au];have e:cZ 0 j=((List.range j.toNat).map λ(k:Nat)=>(k:Int)).map D.int:=by unfold cZ;rw[xi];simp
  rw[e];exact sS
end
variable {CX:aq}{G:GS}{T:Tx}{lv:Nat}
def cC{o:Option D}{ds:List D}(h:bN o=O ds):o=O (.tup ds):=by unfold bN at h;split at h;cases h;rfl;cases h
def kP{o:Option Rs}{d:D}(h:iJ o=O d):o=O (.ok d):=by unfold iJ at h;split at h;cases h;rfl;cases h
def gQ{o:Option D}{i:Int}(h:intOf o=O i):o=O (.int i):=by unfold intOf at h;split at h;cases h;rfl;cases h
def dY{d:D}(h:PE X e (tD X.K T S B d))(hf:dJ c e=J):PE X e (tD X.K T S B d)/\(dJ c e=Y->∀ds,d=.lst ds->PE X e (d9 X.K T S B ds)):=⟨h,λz=>by rw[hf]at z;cases z⟩
def eG{ds:List D}(h:PE X e (d9 X.K T S B ds)):PE X e (tD X.K T S B (.lst ds))/\(dJ c e=Y->∀es,D.lst ds=.lst es->PE X e (d9 X.K T S B es)):=⟨MB h,λ_ es z=>by cases z;exact h⟩
def hG(hE:iu CX G T lv n)(xc:XC CX X c G T lv){lo:Option Expr}{l:IE}{o:Option Int}(h:vA (cE n c) lo=O l)(hp:part lo.isSome (ev G l B)=O o):PO X lo (j9 X.K T S B o):=by
 cases lo with
 |none=>simp only[part,Option.isSome_none,v7,if_false,u4]at hp;subst hp;exact aFe
 |some e=>simp only[part,isSome_some,if_true,vc]at hp;obtain⟨i,hi,rfl⟩:=hp;exact aFd (hE X c S B e l xc h _ (gQ hi)).1
def HB(h:aCl c x=O i):bE c x=O i:=by unfold aCl at h;exact(aZ h).2
def eK(h:eU c e=O i):∃x p,e=.Name x p/\bE c x=O i:=by obtain⟨x,h1,h⟩:=aF h;exact⟨x.1,x.2,bR h1,HB h⟩
def tP{H1 H':Hp}{es:List D}{Q:VK}(s1:aI H H1)(s2:aI H1 H')(fr:uQ K T S H1 H' (.lst es) v)(q:∀p xs H',aI H H'->H p=U->H' p=O (.lst xs)->aC K T (er H' p) S es xs->Q (.ref p) H'):Q v H':=by obtain⟨p,xs,rfl,hn,hs,z⟩:=fr.1 es rfl;exact q p xs H' (s1.trans s2) (s1.free hn) hs z
def aCh(xc:XC CX X c G T lv){py q:Pos}{xs:List D}(hg:aV c "len"=Y)(hm:X.mg "len"=U)(e:bE c y=O i)(hs:gM B i=O xs):PE X (.Call (.Name "len" p) [.Name y py] [] q) (tD X.K T S B (.int xs.length)):=by have st:starEach [.Name y py] X.env=(J,eval (.Name y py) X.env)::starEach [] X.env:=rfl;refine PE.mono (dU gG (xc.glob hg) hm z9 (aW (fN xc e) cP st) z9 z9 rfl rfl) λV H Q ⟨re,q⟩=>?_;obtain⟨p,ys,e1,e2,z⟩:=kL re hs;exact⟨_,e1,p,ys,rfl,.inl (SqL.of e2),by rw[<-z.len];exact q _ H (aI.refl H) eO⟩
def uG:bootBuiltins "sorted"=O (.builtin "sorted"):=z9
def oT{ds:List D}{d:D}(h:kX ds=O d):∃xs es,ds=[.lst xs]/\fW xs=O es/\d=.lst es:=by unfold kX at h;split at h;obtain⟨es,h1,rfl⟩:=vc.mp h;exact⟨_,es,rfl,h1,rfl⟩;cases h
def WK(xc:XC CX X c G T lv){py q:Pos}{xs es:List D}(hg:aV c "sorted"=Y)(hm:X.mg "sorted"=U)(e:bE c y=O i)(hs:gM B i=O xs)(hd:fW xs=O es):PE X (.Call (.Name "sorted" p) [.Name y py] [] q) (d9 X.K T S B es):=by have st:starEach [.Name y py] X.env=(J,eval (.Name y py) X.env)::starEach [] X.env:=rfl;refine PE.mono (dU (zZ (T:=T) (S:=S)) (xc.glob hg) hm uG (aW (fN xc e) cP st) z9 z9 rfl rfl) λV H Q ⟨re,q⟩=>?_;obtain⟨p,ys,e1,e2,z⟩:=kL re hs;exact⟨_,e1,p,ys,xs,es,rfl,SqL.of e2,z,hd,q⟩
def aDl:bootBuiltins "any"=O (.builtin "any"):=z9
def aDj:bootBuiltins "len"=O (.builtin "len"):=z9
def aDk:bootBuiltins "int"=O (.type "int"):=z9
def QZ:bootBuiltins "tuple"=O (.type "tuple"):=z9
def aDi:bootBuiltins "max"=O (.builtin "max"):=z9
def aDh:bootBuiltins "min"=O (.builtin "min"):=z9
def WQ(xc:XC CX X c G T lv){b:BF}{pos:Pos}{ds:List D}{d:D}(hg:aV c x=Y)(hm:X.mg x=U)(hb:pC x=O b)(ha:PA X es (da X.K T S B ds))(hs:starEach es X.env=es.map λe=>(J,eval e X.env))(hlen:ds.length=es.length)(hd:bf b ds=O d):PE X (.Call (.Name x p) es [] pos) (tD X.K T S B d)/\(x="list"\/x="sorted"->∀R,d=.lst R->PE X (.Call (.Name x p) es [] pos) (d9 X.K T S B R)):=by
 cases es with
 |nil=>have:ds=[]:=vy.mp hlen;subst this;cases b<;>simp[bf,XR,XT,zD,wI,PZ,XQ,kX,XU]at hd
 |cons e es=>
  obtain⟨h1,h2⟩:=pY (pos:=pos) hs;have W:=xc.glob hg;have go:∀{g:List D->Option D},g ds=O d->∀V H Q,tD X.K T S B d V H Q->tCB (my X.K T S g) (da X.K T S B ds) V H Q:=λ{g} km V H Q ⟨re,q⟩=>⟨re,λvs H1 s1 r1=>⟨ds,d,(re.same s1).dom,r1,km,λv H' s2 r2=>q v H' (s1.trans s2) r2⟩⟩;unfold pC at hb;split at hb;rename_i I;subst I;cases hb;exact⟨PE.mono (dU aGb W hm aDj ha z9 z9 h1 h2) (go hd),λz=>absurd z z9⟩;split at hb;rename_i I;subst I;cases hb;exact⟨PE.mono (nH aGd W hm aDk ha z9 z9 h1 h2) (go hd),λz=>absurd z z9⟩;split at hb;rename_i I;subst I;cases hb;have hl:∃R,d=.lst R:=by simp only[bf]at hd;unfold zD at hd;split at hd<;>first|(cases hd;exact⟨_,rfl⟩)|cases hd
  obtain⟨R,rfl⟩:=hl;have pn:PE X (.Call (.Name "list" p) (e::es) [] pos) (d9 X.K T S B R):=PE.mono (nH aDn W hm pN ha z9 z9 h1 h2) λV H Q ⟨re,q⟩=>⟨re,λvs H1 s1 r1=>⟨ds,R,r1,hd,λp ys H' s2 hn dw rl=>by
   refine q p ys H' (s1.trans s2) ?_ dw rl;cases I:H p with
   |none=>rfl
   |some o=>rw[s1 p o I]at hn;cases hn⟩⟩
  exact⟨MB pn,λ_ es2 z=>by cases z;exact pn⟩;split at hb;rename_i I;subst I;cases hb;exact⟨PE.mono (nH YN W hm QZ ha z9 z9 h1 h2) (go hd),λz=>absurd z z9⟩;split at hb;rename_i I;subst I;cases hb;exact⟨PE.mono (dU (aGa xc.calm) W hm aDi ha z9 z9 h1 h2) (go hd),λz=>absurd z z9⟩;split at hb;rename_i I;subst I;cases hb;exact⟨PE.mono (dU (aFZ xc.calm) W hm aDh ha z9 z9 h1 h2) (go hd),λz=>absurd z z9⟩;split at hb;cases hb;cases hd;split at hb;rename_i I;subst I;cases hb;obtain⟨xs,R,rfl,hso,rfl⟩:=oT hd;have pn:PE X (.Call (.Name "sorted" p) (e::es) [] pos) (d9 X.K T S B R):=PE.mono (dU (zZ (T:=T) (S:=S)) W hm uG ha z9 z9 h1 h2) λV H Q ⟨re,q⟩=>⟨re,λvs H1 s1 r1=>by
   obtain⟨x,rfl,rx⟩:=rep1 r1;unfold Rep at rx;obtain⟨l,ys,rfl,_,hq,ry⟩:=rx;refine⟨l,ys,xs,R,rfl,SqL.of hq,ry,hso,λp zs H' s2 hn dw rl=>q p zs H' (s1.trans s2) ?_ dw rl⟩;cases I:H p with
   |none=>rfl
   |some o=>rw[s1 p o I]at hn;cases hn⟩
  exact⟨MB pn,λ_ es2 z=>by cases z;exact pn⟩;split at hb;rename_i I;subst I;cases hb;exact⟨PE.mono (dU (aGf xc.calm) W hm aDl ha z9 z9 h1 h2) (go hd),λz=>absurd z z9⟩;cases hb
def aFY{b:BF}(h:pC x=O b):gH.contains x=Y:=by
 unfold pC at h
 repeat' split at h
 all_goals first|cases h;done|(rename_i e;subst e;decide +kernel)
def aDO(h:kI.contains x=Y):gH.contains x=Y:=by rw[contains_iff_mem]at h ⊢;unfold kI at h;simp only[vo,xh,or_false]at h;rw[<-contains_iff_mem];rcases h with h|h|h|h|h<;>subst h<;>decide +kernel
section
variable {n:Nat}{X:Cx}{c:CC}{S:Addr->Prop}{B:List Sl}{ir:IE}{d:D}
abbrev Tells(CX:aq)(T:Tx)(X:Cx)(c:CC)(S:Addr->Prop)(B:List Sl)(e:Expr)(d:D):Prop:=PE X e (tD X.K T S B d)/\(dJ c e=Y->∀ds,d=.lst ds->PE X e (d9 X.K T S B ds))
def aBc{G:GS}{z:IE}{d:D}(hd:ev G (.walk .rng (.tup (.cons z .nil))) B=O d):∃j,ev G z B=O (.int j)/\eN j=Y/\j.toNat<=big/\d=.lst (cZ 0 j):=by
 replace hd:(((bN ((ev G z B).bind λd=>O (.tup [d]))).map D.tup).bind λs=>(items .rng s).map D.lst)=O d:=hd;cases hz:ev G z B with
 |none=>rw[hz]at hd;cases hd
 |some v=>
  rw[hz]at hd;replace hd:(EJ [v]).map D.lst=O d:=hd;cases v<;>first|exact nomatch (show U=O d from hd)|skip
  rename_i j;replace hd:(if eN j&&decide (j.toNat<=big) then O (cZ 0 j) else U).map D.lst=O d:=hd;split at hd;rename_i hc;rw[va,vg]at hc;cases hd;exact⟨j,rfl,hc.1,hc.2,rfl⟩;cases hd
def aEQ(hE:iu CX G T lv n)(hA:l9 CX G T lv n)(xc:XC CX X c G T lv){q:Pos}{b:BF}(hg:aV c x=Y)(hf:c.fns.contains x=J)(hc:c.cls.contains x=J)(hb:pC x=O b)(h:GN (cE n c) c b args (cA n c args)=O ir)(hd:ev G ir B=O d):Tells CX T X c S B (.Call (.Name x p) args [] q) d:=by
 have hm:=jK xc (aFY hb) hf hc;have I:∀{y:IE},cA n c args=O y->ir=.ρ b y->Tells CX T X c S B (.Call (.Name x p) args [] q) d:=λ{y} hy e=>by subst e;simp only[ev,uy,u6]at hd;obtain⟨ds,bj,hd⟩:=hd;obtain⟨ds',e1,hl,pa,hs⟩:=hA X _ S B args y xc hy _ (cC bj);cases e1;have r:=WQ (p:=p) (pos:=q) xc hg hm hb pa hs hl hd;refine⟨r.1,λz es e=>r.2 ?_ es e⟩;have z:((c.fns.contains x&&c.fresh.contains x) || (aV c x&&(x == "list" || x == "sorted")&&!own c x))=Y:=z;simp only[own,hf,hc,hg,Bool.false_and,Bool.false_or,Bool.true_and,Bool.or_false,Bool.not_false,Bool.and_true,xg,wb]at z;exact z
 have mb:(cA n c args).map (λx=>IE.ρ b x)=O ir->Tells CX T X c S B (.Call (.Name x p) args [] q) d:=λh=>by obtain⟨y,hy,e⟩:=aP h;exact I hy e
 unfold GN at h;cases R:ZT c args with
 |some i=>
  rw[R]at h;obtain⟨e,h1,h2⟩:=aF R;obtain⟨y,py,rfl,dt⟩:=eK h2;obtain rfl:=bV h1;cases b with
  |int=>exact mb h
  |list=>exact mb h
  |tuple=>exact mb h
  |max=>exact mb h
  |min=>exact mb h
  |str=>exact mb h
  |any=>exact mb h
  |len=>
   cases (show O (IE.lenm i)=O ir from h);simp only[ev,uy,u6,u4]at hd;obtain⟨xs,gg,rfl⟩:=hd;have hx:x="len":=by
    unfold pC at hb
    repeat' split at hb
    all_goals first|assumption|cases hb
   subst hx;exact⟨aCh xc hg hm dt gg,λ_ ds z=>by cases z⟩
  |sorted=>
   cases (show O (IE.sortm i)=O ir from h);simp only[ev,uy,u6]at hd;obtain⟨xs,gg,hd⟩:=hd;obtain⟨iw,es,e0,hso,rfl⟩:=oT hd;cases e0;have hx:x="sorted":=by
    unfold pC at hb
    repeat' split at hb
    all_goals first|assumption|cases hb
   subst hx;exact eG (WK xc hg hm dt gg hso)
 |none=>
  rw[R]at h;cases hr:AQ c args with
  |none=>
   rw[hr]at h;cases hq:(one? args).bind (AO c) with
   |none=>rw[hq]at h;exact mb (by cases b<;>exact h)
   |some a=>
    rw[hq]at h;cases b with
    |int=>exact mb h
    |len=>exact mb h
    |tuple=>exact mb h
    |max=>exact mb h
    |min=>exact mb h
    |str=>exact mb h
    |any=>exact mb h
    |sorted=>exact mb h
    |list=>
     clear I mb;obtain⟨z,hz,rfl⟩:=aP (show (cE n c a).map (λx=>IE.walk .rng (.tup (.cons x .nil)))=O ir from h);obtain⟨j,hj,h0,hn,rfl⟩:=aBc hd;have hx:x="list":=by
      unfold pC at hb
      repeat' split at hb
      all_goals first|assumption|cases hb
     subst hx;obtain⟨e,h1,r1⟩:=aF hq;obtain⟨r,h2,r2⟩:=aF r1;obtain⟨ll,W⟩:=aZ r2;obtain⟨p1,p2,e5,km,ho⟩:=kG h2;obtain⟨y,as⟩:=r;have e6:y="range":=wb.mp ll;have e7:as=[a]:=bV W;have e8:=bV h1;clear hr hq h1 r1 h2 r2 ll W R h;subst e6 e7;dsimp only at e5 km ho;subst e5;subst e8;obtain⟨jm,pk⟩:=DX ho;have st:=(cO hz).star X.env [];exact eG (AW xc.calm (xc.glob km) (jK xc z9 jm pk) (xc.glob hg) hm (vK (hE X _ S B a z xc hz _ hj).1 EC st) st h0 hn)
  |some a=>
   rw[hr]at h;cases b with
   |int=>exact mb h
   |len=>exact mb h
   |tuple=>exact mb h
   |max=>exact mb h
   |min=>exact mb h
   |str=>exact mb h
   |any=>exact mb h
   |sorted=>exact mb h
   |list=>
   clear I mb;obtain⟨z,hz,rfl⟩:=aP (show (cE n c a).map (λx=>IE.walk .rev x)=O ir from h);simp only[ev,uy,u6,vc]at hd;obtain⟨w,hw,ds,bj,rfl⟩:=hd;have hx:x="list":=by
    unfold pC at hb
    repeat' split at hb
    all_goals first|assumption|cases hb
   subst hx;obtain⟨e,h1,r1⟩:=aF hr;obtain⟨r,h2,r2⟩:=aF r1;obtain⟨hn,W⟩:=aZ r2;obtain⟨p1,p2,e5,km,ho⟩:=kG h2;obtain⟨y,as⟩:=r;have e6:y="reversed":=wb.mp hn;have e7:as=[a]:=bV W;have e8:=bV h1;clear hr h1 r1 h2 r2 hn W R h;subst e6 e7;dsimp only at e5 km ho;subst e5;subst e8;obtain⟨jm,pk⟩:=DX ho;have st:=(cO hz).star X.env [];exact eG (AX xc.calm (xc.glob km) (jK xc z9 jm pk) (xc.glob hg) hm (vK (hE X _ S B a z xc hz w hw).1 EC st) st bj)
def LO(hE:iu CX G T lv n)(hA:l9 CX G T lv n)(xc:XC CX X c G T lv){q:Pos}(h:vB (cE n c) c x args (cA n c args)=O ir)(hd:ev G ir B=O d):Tells CX T X c S B (.Call (.Name x p) args [] q) d:=by
 obtain⟨hg,h⟩:=aZ h;cases I:c.fns.contains x with
 |true=>
  rw[I]at h;obtain⟨y,hy,rfl⟩:=aP (show (cA n c args).map (λy=>IE.call x y)=O ir from h);simp only[ev,uy,u6]at hd;obtain⟨ds,bj,hd⟩:=hd;obtain⟨ds',e1,hl,R,hs⟩:=hA X _ S B args y xc hy _ (cC bj);cases e1;have r:=MD (p:=p) (pos:=q) xc hg I R hs hl (kP hd);refine⟨PE.mono r λV H Q ⟨re,q⟩=>⟨re,λv H1 H' s1 s2 rp _=>q v H' (s1.trans s2) rp⟩,λhf es e=>?_⟩;subst e;have jm:G.ff x=Y:=by have z:((c.fns.contains x&&c.fresh.contains x) || (aV c x&&(x == "list" || x == "sorted")&&!own c x))=Y:=hf;simp only[own,I,Bool.true_and,Bool.true_or,vv,Bool.and_false,Bool.or_false]at z;exact(xc.go.frs x z).1
  exact PE.mono r λV H Q ⟨re,q⟩=>⟨re,λv H1 H' s1 s2 rp fr=>tP s1 s2 (fr jm) q⟩
 |false=>
  rw[I]at h;cases bp:c.cls.contains x with
  |true=>rw[bp]at h;obtain⟨y,hy,rfl⟩:=aP (show (cA n c args).map (λy=>IE.mk x y)=O ir from h);simp only[ev,uy,u6]at hd;obtain⟨ds,bj,hd⟩:=hd;obtain⟨ds',e1,hl,R,hs⟩:=hA X _ S B args y xc hy _ (cC bj);cases e1;refine dY (aGM xc hg bp R hs hl (kP hd)) ?_;show ((c.fns.contains x&&c.fresh.contains x) || (aV c x&&(x == "list" || x == "sorted")&&!own c x))=J;simp only[own,I,bp,Bool.false_and,Bool.or_true,vv,Bool.and_false,Bool.or_false]
  |false=>
   rw[bp]at h;cases hi:x == "isinstance" with
   |false=>rw[hi]at h;obtain⟨b,hb,h⟩:=aF (show (pC x).bind (λb=>GN (cE n c) c b args (cA n c args))=O ir from h);exact aEQ hE hA xc hg I bp hb h hd
   |true=>
    rw[hi]at h;obtain rfl:=wb.mp hi;have h:JZ (cE n c) c args=O ir:=h;match args,h with
    |[a,y],h=>
     obtain⟨y',dO,h⟩:=aF h;obtain⟨hk,h⟩:=aZ h;obtain⟨hk,hk3⟩:=bL hk;obtain⟨ph,ny⟩:=bL hk;obtain⟨z,hz,rfl⟩:=aP h;obtain rfl:=bR dO;obtain⟨la,dy⟩:=DX (ZO hk3);simp only[ev,uy,u6,vc]at hd;obtain⟨w,hw,k,hk,rfl⟩:=hd;have W:∃tn,o4 w=O tn:=by cases w<;>first|exact⟨_,rfl⟩|(simp only[jY,reduceCtorEq]at hk)
     obtain⟨tn,W⟩:=W;have st:=(cO hz).star X.env [.Name y'.1 y'.2];exact⟨aFn xc hg (jK xc z9 I bp) ph (jK xc (aDO ny) la dy) ny (hE X _ S B a z xc hz w hw).1 (by rw[st];rfl) W hk,λ_ ds z=>by cases z⟩
def VY(hE:iu CX G T lv n)(hA:l9 CX G T lv n)(xc:XC CX X c G T lv){o:Expr}{m:Str}{ap q:Pos}(h:(if kR o&&decide (args.length<30)&&(ap.endLine == q.line) then(cE n c o).bind λx=>(cA n c args).map λy=>IE.meth x m y else U)=O ir)(hd:ev G ir B=O d):Tells CX T X c S B (.Call (.Attribute o m ap) args [] q) d:=by
 obtain⟨hc,h⟩:=aZ h;obtain⟨hc,I⟩:=bL hc;obtain⟨R,i0⟩:=bL hc;obtain⟨x,hx,h⟩:=aF h;obtain⟨y,hy,rfl⟩:=aP h;simp only[ev,uy,u6]at hd;obtain⟨w,hw,hd⟩:=hd;cases w<;>first|exact nomatch (show U=O d from hd)|skip
 rename_i cn fs;obtain⟨z,hd⟩:=aZ hd;obtain⟨ds,bj,hd⟩:=aF hd;obtain⟨ds',e1,hl,pa,hs⟩:=hA X _ S B args y xc hy _ (cC bj);cases e1;have r:=aCg (pos:=q) xc (yK R hs (of_decide_eq_true i0) I) (hE X _ S B o x xc hx _ hw).1 (Option.isNone_iff_eq_none.mp z) pa hs hl (kP hd);refine⟨PE.mono r λV H Q ⟨re,q⟩=>⟨re,λv H1 H' s1 s2 W _=>q v H' (s1.trans s2) W⟩,λhf es e=>?_⟩;subst e;have jm:=(xc.go.frs m hf).2 cn;exact PE.mono r λV H Q ⟨re,q⟩=>⟨re,λv H1 H' s1 s2 W fr=>tP s1 s2 (fr jm) q⟩
def NU(h:few es=Y):es.length<=sizeLine:=vm (of_decide_eq_true h) (vm Aa fC)
def aBU(hE:iu CX G T lv n)(xc:XC CX X c G T lv){a i:Expr}(h:xT (cE n c) (HP a) (eU c a) (cE n c a) i=O ir)(hd:ev G ir B=O d):Tells CX T X c S B (.Subscript a i p) d:=by
 unfold xT at h;cases I:ku i with
 |some q=>
  rw[I]at h;obtain⟨lo,hi,st,pp⟩:=q;obtain rfl:=JU I;cases st with
  |some _=>exact nomatch (show U=O ir from h)
  |none=>
   obtain⟨l,hl,h⟩:=aF (show (vA (cE n c) lo).bind _=O ir from h);obtain⟨u,hu,h⟩:=aF h;unfold aEo at h;cases hm:eU c a with
   |some j=>rw[hm]at h;cases h;obtain⟨x,px,rfl,I⟩:=eK hm;simp only[ev,uy,u6,u4]at hd;obtain⟨xs,gg,ol,W,ou,nt,rfl⟩:=hd;exact eG (aFb xc I gg (hG hE xc hl W) (hG hE xc hu nt))
   |none=>
    rw[hm]at h;obtain⟨x,hx,rfl⟩:=aP h;simp only[ev,uy,u6]at hd;obtain⟨w,hw,ol,W,ou,nt,hd⟩:=hd;have R:=(hE X _ S B a x xc hx w hw).1;cases w<;>first|exact nomatch (show U=O d from hd)|skip
    cases hd;exact eG (ZR R (hG hE xc hl W) (hG hE xc hu nt) (.inl rfl));simp only at hd;split at hd;cases hd;rename_i i8;cases hd;exact⟨aFc R (hG hE xc hl W) (hG hE xc hu nt) i8,λ_ ds z=>by cases z⟩;cases hd;exact eG (ZR R (hG hE xc hl W) (hG hE xc hu nt) (.inr rfl))
 |none=>
  rw[I]at h;obtain⟨k,hk,h⟩:=aF h;refine dY ?_ (by show (ku i).isSome=J;rw[I];rfl);unfold aEr at h;cases hm:eU c a with
  |some j=>
   rw[hm]at h;have h:O (if HP a then IE.ixd j k else IE.ixm j k)=O ir:=h;cases hdv:HP a with
   |true=>rw[hdv]at h;cases h;obtain⟨x,px,rfl,I⟩:=eK hm;obtain⟨kvs,gg,hd⟩:=aF hd;obtain⟨ii,sj,hd⟩:=aF hd;exact aFl xc (NM xc.room) I (hE X _ S B i k xc hk _ (gQ sj)).1 (cO hk).ix gg hd
   |false=>
   rw[hdv]at h;have h:O (IE.ixm j k)=O ir:=h;cases h;obtain⟨x,px,rfl,I⟩:=eK hm;simp only[ev,uy,u6]at hd;obtain⟨xs,gg,ii,sj,hd⟩:=hd;exact aFk xc I (hE X _ S B i k xc hk _ (gQ sj)).1 (cO hk).ix gg hd
  |none=>
   rw[hm]at h;obtain⟨x,hx,rfl⟩:=aP h;simp only[ev,uy,u6]at hd;obtain⟨u,hu,v,hv,hd⟩:=hd;have R:=(hE X _ S B a x xc hx u hu).1;have pi:=(hE X _ S B i k xc hk v hv).1;cases v<;>first|(cases u<;>exact nomatch (show U=O d from hd))|skip
   cases u<;>first|exact nomatch (show U=O d from hd)|skip
   exact aCi R pi (cO hk).ix (.inl rfl) hd;exact aCi R pi (cO hk).ix (.inr (.inl rfl)) hd;exact aFt (NM xc.room) R pi (cO hk).ix hd;exact aCi R pi (cO hk).ix (.inr (.inr rfl)) hd
def FN(hE:iu CX G T lv n)(hT:qd CX G T lv n)(hI:OkI CX G T lv n)(xc:XC CX X c G T lv)(h:cE (n+1) c (.ListComp elt gs sc p)=O ir)(hd:ev G ir B=O d):∃tg iter ifs fr bg tp ds I f,gs=[⟨tg,iter,ifs,0⟩]/\d=.lst I/\lY c sc=Y/\freeOf c sc (sc.names.filter λx=>x.2 == .free)=O fr/\bg.all (λi=>(fr.lookup i).isNone)=Y/\dD {c with N:=ownNames sc,sc:=sc} tg=O (bg,tp) /\PI X tg iter (tI X.K T S B ds)/\(∀x,foldedSetIterable iter X.env x=pure x)/\cK f ds=O I /\(∀d o,f d=O o->∃ρ1,bB bg tp d (frame (ownNames sc).length fr B)=O ρ1/\TurnOk CX G T lv {c with N:=ownNames sc,sc:=sc} X.K ifs elt ρ1 o):=by
 obtain⟨g,lq,h⟩:=aF h;obtain⟨tg,iter,ifs,as⟩:=g;by_cases ha:as=0;subst ha;obtain⟨⟨bg,tp⟩,gh,h⟩:=aF (show KA c sc ⟨tg,iter,ifs,0⟩ (cI n c iter) (cT n {c with N:=ownNames sc,sc:=sc}) (cE n {c with N:=ownNames sc,sc:=sc} elt)=O ir from h);obtain⟨⟨k,src⟩,hk,h⟩:=aF h;obtain⟨test,c7,h⟩:=aF h;obtain⟨el,hel,h⟩:=aF h;obtain⟨fr,au,h⟩:=aF h;obtain⟨hok,h⟩:=aZ h;have tgk:RM k tg:=trivial;obtain⟨la,dy⟩:=bL hok;cases h;obtain⟨s,hs,hd⟩:=aF hd;obtain⟨ds,bj,hd⟩:=aF hd;obtain⟨I,R,rfl⟩:=aP hd;obtain⟨hi,hset⟩:=hI X _ S B iter k src xc hk s ds hs bj;refine⟨tg,iter,ifs,fr,bg,tp,ds,I,_,bV lq,rfl,la,au,dy,gh,hi tg tgk,hset,R,?_⟩;intro d o hf;obtain⟨ρ1,h1,hf⟩:=aF hf;obtain⟨w,hw,hf⟩:=aF hf;refine⟨ρ1,h1,λX' S' W hK=>?_⟩;cases w<;>first|exact nomatch (show U=O o from hf)|skip
 rename_i kk;have ho:kk=o.isSome/\∀y,o=O y->ev G el ρ1=O y:=by
  cases kk with
  |true=>obtain⟨y,hy,rfl⟩:=aP hf;exact⟨rfl,λz e=>by cases e;exact hy⟩
  |false=>cases hf;exact⟨rfl,λz e=>by cases e⟩
 obtain⟨rfl,hy⟩:=ho;refine⟨?_,λy e=>(hE X' _ S' ρ1 elt el W hel y (hy y e)).1⟩;match ifs,c7 with
 |[],c7=>cases c7;simp only[ev,Lit.d,u4,D.bl.injEq]at hw;exact .inl ⟨rfl,hw.symm⟩
 |[e],c7=>exact .inr ⟨e,rfl,hT X' _ S' ρ1 e test W c7 _ hw⟩
 exact nomatch (show U=O ir from(if_neg ha).symm.trans h)
def LN(hE:iu CX G T lv n)(xc:XC CX X c G T lv){a:Expr}{os:List CmpOp}{bs:List Expr}(h:KB c (cE n c) (cE n c a) os bs=O ir)(hd:ev G ir B=O d):PE X (.Compare a os bs p) (tD X.K T S B d)/\∀k,d=.bl k->PT X (.Compare a os bs p) (i5 X.K T S B k):=by
 match os,bs,h with
 |[o],[b],h=>
  obtain⟨x,hx,h⟩:=aF h;cases hi:aFH c o b with
  |some q=>
   rw[hi]at h;cases h;obtain⟨k,hk,hi⟩:=aF hi;obtain⟨r,hr,hi⟩:=aF hi;obtain⟨hg,hi⟩:=aZ hi;cases hi;obtain rfl:=bR hr;obtain rfl:o=XB k:=by cases o<;>first|exact nomatch (show U=O k from hk)|(cases hk;rfl)
   cases hu:ev G x B with
   |none=>simp only[ev,hu]at hd;cases hd
   |some u=>
    simp only[ev,hu,uy,x5]at hd;cases u<;>first|exact nomatch (show U=O d from hd)|skip
    rename_i s;obtain⟨kvs,hkv,rfl⟩:=aP hd;have I:=(hE X _ S B a x xc hx _ hu).1;exact⟨aFp xc (bL hg).1 hkv I k,λk' e=>by cases e;exact aCj xc (bL hg).1 hkv I k⟩
  |none=>
  rw[hi]at h;obtain⟨y,hy,rfl⟩:=aP h;simp only[ev,uy,u6]at hd;obtain⟨u,hu,v,hv,hd⟩:=hd;have I:=(hE X _ S B a x xc hx u hu).1;have R:=(hE X _ S B b y xc hy v hv).1;exact⟨aFu xc.units I R ((cO hy).marks o) hd,λk e=>by subst e;exact aCk xc.units I R ((cO hy).marks o) hd⟩
 |[o,o'],[b,b'],h=>
  obtain⟨x,hx,h⟩:=aF h;obtain⟨y,hy,h⟩:=aF h;obtain⟨z,hz,rfl⟩:=aP h;simp only[ev,uy,u6]at hd;obtain⟨v,hv,u,hu,w,hw,hd⟩:=hd;have I:=(hE X _ S B a x xc hx u hu).1;have R:=(hE X _ S B b y xc hy v hv).1;have lm:lastMarks [o,o'] [b,b']=J:=(cO hz).marks o';cases w<;>first|exact nomatch (show U=O d from hd)|skip
  rename_i kk;cases kk with
  |true=>obtain⟨w,i8,hd⟩:=aF hd;have pc:=(hE X _ S B b' z xc hz w i8).1;exact⟨WM xc.units I R pc lm hw (by rw[if_pos rfl];exact hd),λk e=>by subst e;exact MC xc.units I R pc lm hw (by rw[if_pos rfl];exact hd)⟩
  |false=>cases hd;refine⟨PE.mono (yD (fJ (T:=T) (S:=S) xc.units o) (fJ (T:=T) (S:=S) xc.units o') I R (tc:=λ_ _ _=>False) (λ_ _ _ _ _ _ h=>h.elim) lm) λV H Q ⟨re,q⟩=>⟨re,λx H1 s1 r1=>⟨re.same s1,λy H2 s2 r2=>⟨u,v,.bl J,((re.same s1).same s2).dom,r1.same s2,r2,hw,λz H3 s3 W=>?_⟩⟩⟩,λk e=>?_⟩;unfold Rep at W;exact⟨J,W,oW (q _ H3 (s1.trans (s2.trans s3)) cG)⟩;cases e;refine PT.mono (xZ (fJ (T:=T) (S:=S) xc.units o) (fJ (T:=T) (S:=S) xc.units o') I R (tc:=λ_ _ _=>False) (λ_ _ _ _ _ _ h=>h.elim) lm) λV H Q ⟨re,q⟩=>⟨re,λx H1 s1 r1=>⟨re.same s1,λy H2 s2 r2=>⟨u,v,.bl J,((re.same s1).same s2).dom,r1.same s2,r2,hw,λz H3 s3 W=>?_⟩⟩⟩;unfold Rep at W;exact⟨J,W,oW ⟨_,rfl,q H3 (s1.trans (s2.trans s3))⟩⟩
end
def LS(hE:iu CX G T lv n)(hT:qd CX G T lv n)(hB:um CX G T lv n)(hA:l9 CX G T lv n)(hI:OkI CX G T lv n):iu CX G T lv (n+1):=by
 intro X c S B e ir xc h d hd;cases e<;>first|exact nomatch (show U=O ir from h)|skip
 case Name x p=>
  refine dY ?_ rfl;have h:AS c x=O ir:=h;unfold AS at h;cases hs:bE c x with
  |some i=>rw[hs]at h;cases h;simp only[ev]at hd;exact ZQ xc hs hd
  |none=>rw[hs]at h;obtain⟨hg,h⟩:=aZ h;cases h;simp only[ev]at hd;exact aFq xc (bL hg).1 (bL hg).2 hd
 case Constant v k p=>
  refine dY ?_ rfl;have h:DK v=O ir:=h;cases v<;>first|exact nomatch (show U=O ir from h)|skip
  all_goals
   cases h;simp only[ev,Lit.d,u4]at hd;subst hd
  exact aFg;exact aGN;exact aFo;exact aFa
 case BinOp a o b p=>
  refine dY ?_ rfl;obtain⟨o',ho,h⟩:=aF h;obtain⟨x,hx,h⟩:=aF h;obtain⟨y,hy,rfl⟩:=aP h;simp only[ev,uy,u6]at hd;obtain⟨u,hu,v,hv,hd⟩:=hd;exact aFv ho (hE X _ S B a x xc hx u hu).1 (hE X _ S B b y xc hy v hv).1 hd
 case UnaryOp o a p=>
  refine dY ?_ rfl;have h:aEn (cE n c a) o=O ir:=h;cases o<;>first|exact nomatch (show U=O ir from h)|skip
  obtain⟨x,hx,rfl⟩:=aP h;simp only[ev,uy,u6,vc]at hd;obtain⟨u,⟨w,hw,k,hk,rfl⟩,hd⟩:=hd;cases hd;exact aFf (hE X _ S B a x xc hx w hw).1 hk;obtain⟨x,hx,rfl⟩:=aP h;simp only[ev,uy,u6]at hd;obtain⟨u,hu,hd⟩:=hd;cases u<;>first|exact nomatch (show U=O d from hd)|skip
  cases hd;exact aFi (hE X _ S B a x xc hx _ hu).1
 case BoolOp o vs p=>
  refine dY ?_ rfl;cases o with
  |And=>exact(hB X _ S B Y vs ir p xc).1 h d hd
  |Or=>exact(hB X _ S B J vs ir p xc).1 h d hd
 case IfExp t a b p=>
  refine dY ?_ rfl;obtain⟨x,hx,h⟩:=aF h;obtain⟨y,hy,h⟩:=aF h;obtain⟨z,hz,rfl⟩:=aP h;simp only[ev,uy,u6]at hd;obtain⟨u,hu,hd⟩:=hd;cases u<;>first|exact nomatch (show U=O d from hd)|skip
  rename_i k;have pt:=hT X _ S B t x xc hx k hu;cases k with
  |true=>exact ZS pt (λ_=>(hE X _ S B a y xc hy d hd).1) (λz=>by cases z)
  |false=>exact ZS pt (λz=>by cases z) (λ_=>(hE X _ S B b z xc hz d hd).1)
 case Compare a os bs p=>exact dY (LN hE xc h hd).1 rfl
 case Tuple es k p=>
  refine dY ?_ rfl;obtain⟨R,h⟩:=aZ h;obtain⟨x,hx,rfl⟩:=aP h;simp only[ev,vc]at hd;obtain⟨ds,bj,rfl⟩:=hd;obtain⟨ds',e1,hl,I,hs⟩:=hA X _ S B es x xc hx _ (cC bj);cases e1;exact aEZ I (by rw[hl];exact NU R)
 case List es p=>
  obtain⟨R,h⟩:=aZ h;obtain⟨x,hx,rfl⟩:=aP h;simp only[ev,vc]at hd;obtain⟨ds,bj,rfl⟩:=hd;obtain⟨ds',e1,hl,I,hs⟩:=hA X _ S B es x xc hx _ (cC bj);cases e1;exact eG (aFj I (by rw[hl];exact NU R))
 case Subscript a i p=>
  cases hk:WW c a with
  |some x=>
   have h:(match WW c a with|some x=>xU (cE n c) x i|none=>xT (cE n c) (HP a) (eU c a) (cE n c a) i)=O ir:=h;rw[hk]at h;obtain⟨q,hq,hk⟩:=aF hk;obtain⟨hg,hk⟩:=aZ hk;cases hk;obtain rfl:=bR hq;replace h:xU (cE n c) q.1 i=O ir:=h;unfold xU at h;cases dt:ku i with
   |some _=>rw[dt]at h;cases h
   |none=>
    rw[dt]at h;obtain⟨k,hk,rfl⟩:=aP h;simp only[ev,uy,u6]at hd;obtain⟨u,hu,hd⟩:=hd;cases u<;>first|exact nomatch (show U=O d from hd)|skip
    obtain⟨kvs,W,hd⟩:=aF hd;exact dY (aFm xc (bL hg).1 W (hE X _ S B i k xc hk _ hu).1 (cO hk).ix hd) (by show (ku i).isSome=J;rw[dt];rfl)
  |none=>have h:(match WW c a with|some x=>xU (cE n c) x i|none=>xT (cE n c) (HP a) (eU c a) (cE n c a) i)=O ir:=h;rw[hk]at h;exact aBU hE xc h hd
 case Attribute a f p=>
  refine dY ?_ rfl;obtain⟨i9,h⟩:=aZ h;obtain⟨x,hx,rfl⟩:=aP h;simp only[ev,uy,u6]at hd;obtain⟨u,hu,hd⟩:=hd;have I:=(hE X _ S B a x xc hx u hu).1;cases u<;>first|exact nomatch (show U=O d from hd)|skip
  obtain⟨hf,hd⟩:=aZ hd;exact aFr xc I (mV i9) hf hd
 case ListComp elt gs sc p=>
  obtain⟨tg,iter,ifs,fr,bg,tp,ds,outs,f,rfl,rfl,h1,h2,h3,h4,h5,h6,h7,h8⟩:=FN (S:=S) hE hT hI xc h hd;exact eG (VF xc h1 h2 h3 h4 h5 h6 h7 h8)
 case Call f args kw p=>
  obtain⟨nv,h⟩:=aZ h;obtain rfl:=hV nv;cases f<;>first|exact nomatch (show U=O ir from h)|skip
  exact VY hE hA xc h hd;exact LO hE hA xc h hd
variable {CX:aq}{G:GS}{T:Tx}{lv:Nat}
def LP(hE:iu CX G T lv n)(hT:qd CX G T lv n)(I:um CX G T lv n):qd CX G T lv (n+1):=by
 intro X c S B e ir xc h k hk;have tr:(cE n c e).map .tr=O ir->(∀z,isTrue e X.env z=(do let v <-z;standAt e.pos;holding [v] (truthy v)))->PT X e (i5 X.K T S B k):=λh he=>by obtain⟨x,hx,rfl⟩:=aP h;simp only[ev,uy,u6,vc,D.bl.injEq]at hk;obtain⟨w,hw,k',R,rfl⟩:=hk;exact WJ (hE X c S B e x xc hx w hw).1 he R
 cases e<;>first|exact tr h λ_=>rfl|skip
 case BoolOp o vs p=>
  cases o with
  |And=>exact PW.pt ((I X c S B Y vs ir p xc).2 h k hk)
  |Or=>exact PW.pt ((I X c S B J vs ir p xc).2 h k hk)
 case UnaryOp o a p=>
  cases o<;>first|exact tr h λ_=>rfl|skip
  obtain⟨x,hx,rfl⟩:=aP h;simp only[ev,uy,u6]at hk;obtain⟨w,hw,hk⟩:=hk;cases w<;>first|exact nomatch (show U=O (D.bl k) from hk)|skip
  cases hk;exact aCf (hT X c S B a x xc hx _ hw)
 case IfExp _ _ _ _=>exact nomatch (show U=O ir from h)
 case Compare a os bs p=>exact(LN hE xc h hk).2 k rfl
theorem cV:∀n,iu CX G T lv n/\qd CX G T lv n/\um CX G T lv n/\l9 CX G T lv n/\OkI CX G T lv n
 | 0=>⟨λX c S B e ir xc h=>(nomatch (show U=O ir from h)),λX c S B e ir xc h=>(nomatch (show U=O ir from h)),λX c S B k vs ir pos xc=>⟨λh=>(nomatch (show U=O ir from h)),λh=>(nomatch (show U=O ir from h))⟩,λX c S B es ir xc h=>(nomatch (show U=O ir from h)),λX c S B e k ir xc h=>(nomatch (show U=O (k,ir) from h))⟩
 |n+1=>by obtain⟨hE,hT,z,hA,I⟩:=cV n;exact⟨LS hE hT z hA I,LP hE hT z,LU hE hT z,LV hE hA,LR hE hA⟩
abbrev Dm(S₀:Addr->Prop)(H₀:Hp)(_:List Sl)(_:L2.St):Prop:=∀a,S₀ a->∃o,H₀ a=O o
def YU(K:xx)(T:Tx)(H₀:Hp)(S:Addr->Prop)(B:List Sl)(V:L2.St)(H:Hp)(i:Nat)(a b:List D):Prop:=∃p I z xs ys,V[i]?=O (O (.ref p))/\SqT K H p [.ref I,.ref z]/\¬S p/\(S I/\S z/\I≠z)/\H I=O (.lst xs)/\H z=O (.lst ys)/\aC K T H S a xs/\aC K T H S b ys/\(H₀ I=U/\H₀ z=U) /\∀(j:Nat) d,B[j]?=O (.mu d)->V[j]?≠O (O (.ref I))/\V[j]?≠O (O (.ref z))
structure SInv (K:xx) (T:Tx) (S₀:Addr->Prop) (H₀:Hp) (S:Addr->Prop) (B:List Sl) (V:L2.St) (H:Hp):Prop where
 re:RE K T H S B V
 dom0:Dm S₀ H₀ B V
 sup:∀a,S₀ a->S a
 same:aI H₀ H
 dist:∀(i j:Nat) xs ys p,B[i]?=O (.mu xs)->B[j]?=O (.mu ys)->V[i]?=O (O (.ref p))->V[j]?=O (O (.ref p))->i=j
 own:∀(i:Nat) xs p,B[i]?=O (.mu xs)->V[i]?=O (O (.ref p))->H₀ p=U
 ow:∀(i:Nat) a b,B[i]?=O (.ow a b)->YU K T H₀ S B V H i a b
section
variable {K:xx}{T:Tx}{S₀ S S':Addr->Prop}{H₀ H H' mh:Hp}{B ρ1:List Sl}{V σ1:L2.St}
def aM.refl:aM K H H S S:=λa n _=>⟨n,λ_ e=>e⟩
def aM.same(h:aI H H'):aM K H H' S S:=λa n _=>⟨n,λo e=>h a o e⟩
def aM.trans{z:Addr->Prop}(h:aM K H H' S S')(g:aM K H' mh S' z):aM K H mh S z:=λa n q=>by obtain⟨n1,k1⟩:=h a n q;obtain⟨n2,k2⟩:=g a n1 (q.elim (λ⟨o,e⟩=>.inl ⟨o,k1 o e⟩) .inr);exact⟨n2,λo e=>k2 o (k1 o e)⟩
theorem YU.gen{B':List Sl}{V':L2.St}{a b:List D}(h:YU K T H₀ S B V H i a b)(mv:aM K H H' S S') (hS:∀q o,S q->H q=O o->(∀(j:Nat) d,B[j]?=O (.mu d)->V[j]?≠O (O (.ref q)))->S' q/\H' q=O o) (hσ:V'[i]?=V[i]?) (I:∀(j:Nat) d q,B'[j]?=O (.mu d)->V'[j]?=O (O (.ref q))->(∃d',B[j]?=O (.mu d')/\V[j]?=O (O (.ref q)))\/H q=U):YU K T H₀ S' B' V' H' i a b:=by
 obtain⟨p,a1,a2,xs,ys,e1,e2,e3,⟨s1,s2,ne⟩,h1,h2,r1,r2,o1,R⟩:=h;obtain⟨n',k⟩:=mv p e3 (SqT.has e2);obtain⟨t1,g1⟩:=hS a1 _ s1 h1 λj d e=>(R j d e).1
 obtain⟨t2,g2⟩:=hS a2 _ s2 h2 λj d e=>(R j d e).2
 refine⟨p,a1,a2,xs,ys,hσ.trans e1,SqT.keeps e2 k,n',⟨t1,t2,ne⟩,g1,g2,aC.gen mv _ _ r1,aC.gen mv _ _ r2,o1,λj d e=>⟨λz=>?_,λz=>?_⟩⟩;rcases I j d a1 e z with ⟨d',W,q2⟩|q;exact(R j d' W).1 q2;rw[h1]at q;cases q;rcases I j d a2 e z with ⟨d',W,q2⟩|q;exact(R j d' W).2 q2;rw[h2]at q;cases q
def SInv.step(I:SInv K T S₀ H₀ S B V H)(h:aI H H'):SInv K T S₀ H₀ S B V H':=⟨I.re.same h,I.dom0,I.sup,I.same.trans h,I.dist,I.own,λi a b e=>(I.ow i a b e).gen (aM.same h) (λq o z e _=>⟨z,h q o e⟩) rfl λj d q e1 e2=>.inl ⟨d,e1,e2⟩⟩
def jV{j:Nat}{s t:Sl}(e:(B.set i s)[j]?=O t)(h:s≠t):j≠i:=by
 rintro rfl;have hl:j<B.length:=by simpa using (u0.mp e).1
 rw[vi hl]at e;exact h (vb e)
theorem SInv.set(I:SInv K T S₀ H₀ S B V H){d:D}(r:Rep K T H S d v):SInv K T S₀ H₀ S (B.set i (.im d)) (V.set i (O v)) H:=by
 have old:∀(j:Nat) xs p,(B.set i (.im d))[j]?=O (.mu xs)->(V.set i (O v))[j]?=O (O (.ref p))->j≠i/\B[j]?=O (.mu xs)/\V[j]?=O (O (.ref p)):=λj xs p h1 h2=>by
  have ne:j≠i:=by
   rintro rfl;have hl:j<B.length:=by simpa using (u0.mp h1).1
   rw[vi hl]at h1;cases h1
  rw[vj (Ne.symm ne)]at h1 h2;exact⟨ne,h1,h2⟩
 refine⟨I.re.set r,I.dom0,I.sup,I.same,λa b xs ys p h1 h2 h3 h4=>?_,λa xs p h1 h2=>?_,λk a b e=>?_⟩;obtain⟨_,R,q2⟩:=old a xs p h1 h3;obtain⟨_,q3,W⟩:=old b ys p h2 h4;exact I.dist a b xs ys p R q3 q2 W;obtain⟨_,R,q2⟩:=old a xs p h1 h2;exact I.own a xs p R q2;have ne:=jV e (λz=>by cases z);rw[vj (Ne.symm ne)]at e;exact(I.ow k a b e).gen aM.refl (λq o z e _=>⟨z,e⟩) (vj (Ne.symm ne)) λj d q e1 e2=>.inl ⟨d,(old j d q e1 e2).2⟩
def SInv.setm(I:SInv K T S₀ H₀ S B V H){ds:D}{p:Addr}{xs:HO}(sm:aI H H')(hp:H p=U)(hk:K.lookup p=U)(f7:H' p=O xs)(rl:oI K T (er H' p) S ds xs):SInv K T S₀ H₀ (λa=>S a\/a=p) (B.set i (.mu ds)) (V.set i (O (.ref p))) H'/\aM K H H' S (λa=>S a\/a=p):=by
 have mv:aM K H H' S (λa=>S a\/a=p):=λa n q=>by
  have ne:a≠p:=by rintro rfl;rcases q with ⟨o,e⟩|⟨o,e⟩;rw[hp]at e;cases e;rw[hk]at e;cases e
  exact⟨λz=>z.elim n ne,λo e=>sm a o e⟩
 have dom:∀a,(S a\/a=p)->∃o,H' a=O o:=λa z=>z.elim (λz=>let ⟨o,e⟩:=I.re.dom a z;⟨o,sm a o e⟩) λz=>⟨xs,by rw[z];exact f7⟩;have qm:RE K T H' (λa=>S a\/a=p) B V:=I.re.gen mv (λa ys z e _=>⟨.inl z,sm a _ e⟩) dom;have fc:∀(j:Nat) ys,B[j]?=O (.mu ys)->V[j]?=O (O (.ref p))->False:=λj ys h1 h2=>by obtain⟨q,zs,e1,e2,e3,_⟩:=I.re.at_ j _ h1;rw[h2]at e1;cases e1;rw[hp]at e3;cases e3
 have at_:∀(j:Nat) ys q,(B.set i (.mu ds))[j]?=O (.mu ys)->(V.set i (O (.ref p)))[j]?=O (O (.ref q))->(j=i/\q=p)\/(j≠i/\B[j]?=O (.mu ys)/\V[j]?=O (O (.ref q))):=λj ys q h1 h2=>by
  by_cases e:j=i;subst e;have hl:j<B.length:=by simpa using (u0.mp h1).1
  rw[vi (by rw[<-I.re.len];exact hl)]at h2;cases h2;exact .inl ⟨rfl,rfl⟩;rw[vj (Ne.symm e)]at h1 h2;exact .inr ⟨e,h1,h2⟩
 refine⟨⟨⟨dom,by simp[I.re.len],λj s e=>?_⟩,I.dom0,λa z=>.inl (I.sup a z),I.same.trans sm,λa b ys zs q h1 h2 h3 h4=>?_,λa ys q h1 h2=>?_,λk a b e=>?_⟩,mv⟩;by_cases hj:j=i;subst hj;have hl:j<B.length:=by simpa using (u0.mp e).1
 rw[vi hl]at e;cases e;rw[vi (by rw[<-I.re.len];exact hl)];exact⟨p,xs,rfl,.inr rfl,f7,rl.gen (aM.own hk)⟩;rw[vj (Ne.symm hj)]at e ⊢;exact qm.at_ j s e;rcases at_ a ys q h1 h3 with ⟨ea,eq⟩|⟨na,R,q2⟩;rcases at_ b zs q h2 h4 with ⟨eb,_⟩|⟨nb,q3,W⟩;rw[ea,eb];subst eq;exact(fc b zs q3 W).elim;rcases at_ b zs q h2 h4 with ⟨eb,eq⟩|⟨nb,q3,W⟩;subst eq;exact(fc a ys R q2).elim;exact I.dist a b ys zs q R q3 q2 W;rcases at_ a ys q h1 h2 with ⟨ea,eq⟩|⟨na,R,q2⟩;subst eq;exact I.same.free hp;exact I.own a ys q R q2;have ne:=jV e (λz=>by cases z);rw[vj (Ne.symm ne)]at e;refine(I.ow k a b e).gen mv (λq o z e _=>⟨.inl z,sm q o e⟩) (vj (Ne.symm ne)) λj d q e1 e2=>?_;rcases at_ j d q e1 e2 with ⟨_,rfl⟩|⟨_,R,q2⟩;exact .inr hp;exact .inl ⟨d,R,q2⟩
def SInv.write(I:SInv K T S₀ H₀ S B V H){ds ds':D}{p:Addr}{R:HO}(hi:B[i]?=O (.mu ds))(hp:V[i]?=O (O (.ref p)))(rl:oI K T H S ds' R):SInv K T S₀ H₀ S (B.set i (.mu ds')) V (upd H p R)/\aM K H (upd H p R) S S:=by
 obtain⟨q,zs,e1,e2,e3,_⟩:=I.re.at_ i _ hi;rw[hp]at e1;cases e1;have mv:aM K H (upd H p R) S S:=λa n _=>⟨n,λo e=>by rw[aK (λz=>n (by rw[z];exact e2))];exact e⟩;have dom:∀a,S a->∃o,upd H p R a=O o:=λa z=>by by_cases e:a=p;exact⟨R,by rw[e];exact aL⟩;obtain⟨o,q⟩:=I.re.dom a z;exact⟨o,by rw[aK e];exact q⟩
 have hl:i<B.length:=(u0.mp hi).1;have old:∀(j:Nat) ys,(B.set i (.mu ds'))[j]?=O (.mu ys)->∃zs,B[j]?=O (.mu zs):=λj ys h=>by by_cases e:j=i;exact⟨ds,by rw[e];exact hi⟩;rw[vj (Ne.symm e)]at h;exact⟨ys,h⟩
 refine⟨⟨⟨dom,by simp[I.re.len],λj s e=>?_⟩,I.dom0,I.sup,λb o e=>?_,λa b ys zs q h1 h2 h3 h4=>?_,λa ys q h1 h2=>?_,λk a b e=>?_⟩,mv⟩;by_cases hj:j=i;subst hj;rw[vi hl]at e;cases e;exact⟨p,R,hp,e2,aL,rl.gen mv⟩;rw[vj (Ne.symm hj)]at e;have h:=I.re.at_ j s e;cases s with
 |un=>trivial
 |ow _ _=>trivial
 |im d=>obtain⟨v,e4,r⟩:=h;exact⟨v,e4,Rep.gen mv d v r⟩
 |mu ys=>obtain⟨q,ws,e4,e5,e6,r⟩:=h;refine⟨q,ws,e4,e5,?_,r.gen mv⟩;rw[aK];exact e6;rintro rfl;exact hj (I.dist j i ys ds q e hi e4 hp)
 have ne:b≠p:=by rintro rfl;rw[I.own i ds b hi hp]at e;cases e
 rw[aK ne];exact I.same b o e;obtain⟨gw,W⟩:=old a ys h1;obtain⟨zs',q2⟩:=old b zs h2;exact I.dist a b gw zs' q W q2 h3 h4;obtain⟨gw,W⟩:=old a ys h1;exact I.own a gw q W h2;have ne:=jV e (λz=>by cases z);rw[vj (Ne.symm ne)]at e;refine(I.ow k a b e).gen mv (λq o z e hq=>⟨z,?_⟩) rfl λj d q e1 e2=>.inl ?_;rw[aK (λz=>hq i ds hi (by rw[z];exact hp))];exact e;obtain⟨d',W⟩:=old j d e1;exact⟨d',W,e2⟩
theorem kF:∀{is:List Nat} {ds:List D} {B ρ1:List Sl} {j:Nat} {xs:D},bH is ds B=O ρ1->ρ1[j]?=O (.mu xs)->j∉is/\B[j]?=O (.mu xs)
 |[],[],B,ρ1,j,xs,h,e=>by simp only[bH,u4]at h;subst h;exact⟨Ab,e⟩
 |i::is,d::ds,B,ρ1,j,xs,h,e=>by
  simp only[bH]at h;obtain⟨n,q⟩:=kF h e;have ne:j≠i:=by
   rintro rfl;have hl:j<B.length:=by simpa using (u0.mp q).1
   rw[vi hl]at q;cases q
  rw[vj (Ne.symm ne)]at q;exact⟨by simp[n,ne],q⟩
 |[],_::_,_,_,_,_,h,_=>by simp[bH]at h
 |_::_,[],_,_,_,_,h,_=>by simp[bH]at h
def mU{d:D}{j:Nat}{xs:D}(h:bB is tp d B=O ρ1)(e:ρ1[j]?=O (.mu xs)):j∉is/\B[j]?=O (.mu xs):=by unfold bB at h;split at h;split at h;exact kF h e;cases h;exact kF h e
theorem kE:∀{is:List Nat} {ds:List D} {B ρ1:List Sl} {j:Nat} {a b:List D},bH is ds B=O ρ1->ρ1[j]?=O (.ow a b)->j∉is/\B[j]?=O (.ow a b)
 |[],[],B,ρ1,j,a,b,h,e=>by simp only[bH,u4]at h;subst h;exact⟨Ab,e⟩
 |i::is,d::ds,B,ρ1,j,a,b,h,e=>by simp only[bH]at h;obtain⟨n,q⟩:=kE h e;have ne:=jV q (λz=>by cases z);rw[vj (Ne.symm ne)]at q;exact⟨by simp[n,ne],q⟩
 |[],_::_,_,_,_,_,_,h,_=>by simp[bH]at h
 |_::_,[],_,_,_,_,_,h,_=>by simp[bH]at h
def RC{d:D}{j:Nat}{a b:List D}(h:bB is tp d B=O ρ1)(e:ρ1[j]?=O (.ow a b)):j∉is/\B[j]?=O (.ow a b):=by unfold bB at h;split at h;split at h;exact kE h e;cases h;exact kE h e
def SInv.bind(I:SInv K T S₀ H₀ S B V H){d:D}(h:bB is tp d B=O ρ1)(re:RE K T H S ρ1 σ1)(W:∀j,j∉is->σ1[j]?=V[j]?):SInv K T S₀ H₀ S ρ1 σ1 H:=by refine⟨re,I.dom0,I.sup,I.same,λa b xs ys p h1 h2 h3 h4=>?_,λa xs p h1 h2=>?_,λk a b e=>?_⟩;obtain⟨n1,R⟩:=mU h h1;obtain⟨n2,q2⟩:=mU h h2;rw[W a n1]at h3;rw[W b n2]at h4;exact I.dist a b xs ys p R q2 h3 h4;obtain⟨n1,R⟩:=mU h h1;rw[W a n1]at h2;exact I.own a xs p R h2;obtain⟨n1,R⟩:=RC h e;refine(I.ow k a b R).gen aM.refl (λq o z e _=>⟨z,e⟩) (W k n1) λj d' q e1 e2=>?_;obtain⟨n2,q2⟩:=mU h e1;rw[W j n2]at e2;exact .inl ⟨d',q2,e2⟩
theorem RE.view(re:RE K T H S B V):RE K T H (λ_=>False) (view B) V:=by
 refine⟨λa z=>z.elim,by simp[Z.view,re.len],λi s e=>?_⟩;unfold Z.view at e;rw[uv]at e;cases h:B[i]? with
 |none=>rw[h]at e;cases e
 |some s'=>
  rw[h]at e;cases e;have r:=re.at_ i s' h;cases s' with
  |un=>trivial
  |ow _ _=>trivial
  |im d=>obtain⟨v,e1,r⟩:=r;exact⟨v,e1,Rep.mono (λ_ z=>z.elim) (λ_ _ _ e=>e) d v r⟩
  |mu ds=>obtain⟨p,xs,e1,_,e3,r⟩:=r;exact⟨.ref p,e1,r.rep e3 (λz=>z) λ_ z=>z.elim⟩
def SInv.setp(W:SInv K T S₀ H₀ S B V H){a b:List D}{p R I:Addr}{ys:List σ}(sm:aI H H')(k1:K.lookup R=U)(k2:K.lookup I=U)(hp:SqT K H' p [.ref R,.ref I])(np:p≠R/\p≠I)(nS:¬S p)(h1:H R=U)(h2:H I=U)(ne:R≠I) (g1:H' R=O (.lst xs)) (g2:H' I=O (.lst ys)) (r1:aC K T (er (er H' R) I) S a xs) (r2:aC K T (er (er H' R) I) S b ys):SInv K T S₀ H₀ (λq=>S q\/(q=R\/q=I)) (B.set i (.ow a b)) (V.set i (O (.ref p))) H'/\aM K H H' S (λq=>S q\/(q=R\/q=I)):=by
 have fr:∀q,(∃o,H q=O o)\/(∃o,K.lookup q=O o)->q≠R/\q≠I:=λq h=>by
  constructor<;>rintro rfl<;>rcases h with ⟨o,e⟩|⟨o,e⟩
  rw[h1]at e;cases e;rw[k1]at e;cases e;rw[h2]at e;cases e;rw[k2]at e;cases e
 have mv:aM K H H' S (λq=>S q\/(q=R\/q=I)):=λq n h=>⟨λz=>z.elim n λz=>z.elim (fr q h).1 (fr q h).2,λo e=>sm q o e⟩;have mo:aM K (er (er H' R) I) H' S (λq=>S q\/(q=R\/q=I)):=λq n h=>by
  have ne:q≠R/\q≠I:=by rcases h with ⟨o,e⟩|h;exact⟨(gU.mp (gU.mp e).2).1,(gU.mp e).1⟩;exact fr q (.inr h)
  exact⟨λz=>z.elim n λz=>z.elim ne.1 ne.2,λo e=>(gU.mp (gU.mp e).2).2⟩
 have dom:∀q,(S q\/(q=R\/q=I))->∃o,H' q=O o:=λq z=>z.elim (λz=>let ⟨o,e⟩:=W.re.dom q z;⟨o,sm q o e⟩) λz=>z.elim (λz=>⟨.lst xs,by rw[z];exact g1⟩) λz=>⟨.lst ys,by rw[z];exact g2⟩;have qm:=W.re.gen mv (λq o z e _=>⟨.inl z,sm q o e⟩) dom;have fc:∀(j:Nat) d q,B[j]?=O (.mu d)->V[j]?=O (O (.ref q))->q≠R/\q≠I:=λj d q e1 e2=>by obtain⟨q',zs,z1,_,z3,_⟩:=W.re.at_ j _ e1;rw[e2]at z1;cases z1;exact fr q (.inl ⟨_,z3⟩)
 have old:∀(j:Nat) d,(B.set i (.ow a b))[j]?=O (.mu d)->j≠i/\B[j]?=O (.mu d)/\(V.set i (O (σ.ref p)))[j]?=V[j]?:=λj d e=>by have ne:=jV e (λz=>by cases z);rw[vj (Ne.symm ne)]at e;exact⟨ne,e,vj (Ne.symm ne)⟩
 refine⟨⟨⟨dom,by simp[W.re.len],λj s e=>?_⟩,W.dom0,λq z=>.inl (W.sup q z),W.same.trans sm,λj j' d d' q e1 e2 e3 e4=>?_,λj d q e1 e2=>?_,λj a' b' e=>?_⟩,mv⟩;by_cases hj:j=i;subst hj;have hl:j<B.length:=by simpa using (u0.mp e).1
 rw[vi hl]at e;cases e;trivial;rw[vj (Ne.symm hj)]at e ⊢;exact qm.at_ j s e;obtain⟨_,q1,q2⟩:=old j d e1;obtain⟨_,q3,q4⟩:=old j' d' e2;rw[q2]at e3;rw[q4]at e4;exact W.dist j j' d d' q q1 q3 e3 e4;obtain⟨_,q1,q2⟩:=old j d e1;rw[q2]at e2;exact W.own j d q q1 e2;by_cases hj:j=i;subst hj;have hl:j<B.length:=by simpa using (u0.mp e).1
 rw[vi hl]at e;cases e;refine⟨p,R,I,xs,ys,vi (by rw[<-W.re.len];exact hl),hp,λz=>z.elim nS λz=>z.elim np.1 np.2,⟨.inr (.inl rfl),.inr (.inr rfl),ne⟩,g1,g2,aC.gen mo _ _ r1,aC.gen mo _ _ r2,⟨W.same.free h1,W.same.free h2⟩,λk d e=>?_⟩;obtain⟨_,q1,q2⟩:=old k d e;rw[q2];exact⟨λz=>(fc k d _ q1 z).1 rfl,λz=>(fc k d _ q1 z).2 rfl⟩;rw[vj (Ne.symm hj)]at e;refine(W.ow j a' b' e).gen mv (λq o z e _=>⟨.inl z,sm q o e⟩) (vj (Ne.symm hj)) λk d q e1 e2=>?_;obtain⟨_,q1,q2⟩:=old k d e1;rw[q2]at e2;exact .inl ⟨d,q1,e2⟩
def SInv.unset(I:SInv K T S₀ H₀ S B V H){v:Option σ}:SInv K T S₀ H₀ S (B.set i .un) (V.set i v) H:=by
 have old:∀(j:Nat) s,s≠.un->(B.set i .un)[j]?=O s->j≠i/\B[j]?=O s/\(V.set i v)[j]?=V[j]?:=λj s n e=>by have ne:=jV e (Ne.symm n);rw[vj (Ne.symm ne)]at e;exact⟨ne,e,vj (Ne.symm ne)⟩
 refine⟨⟨I.re.dom,by simp[I.re.len],λj s e=>?_⟩,I.dom0,I.sup,I.same,λa b xs ys p h1 h2 h3 h4=>?_,λa xs p h1 h2=>?_,λk a b e=>?_⟩;cases s with
 |un=>trivial
 |ow _ _=>trivial
 |im d=>obtain⟨_,R,q2⟩:=old j _ (λz=>by cases z) e;rw[q2];exact I.re.at_ j _ R
 |mu d=>obtain⟨_,R,q2⟩:=old j _ (λz=>by cases z) e;rw[q2];exact I.re.at_ j _ R
 obtain⟨_,R,q2⟩:=old a _ (λz=>by cases z) h1;obtain⟨_,q3,W⟩:=old b _ (λz=>by cases z) h2;rw[q2]at h3;rw[W]at h4;exact I.dist a b xs ys p R q3 h3 h4;obtain⟨_,R,q2⟩:=old a _ (λz=>by cases z) h1;rw[q2]at h2;exact I.own a xs p R h2;obtain⟨_,R,q2⟩:=old k _ (λz=>by cases z) e;refine(I.ow k a b R).gen aM.refl (λq o z e _=>⟨z,e⟩) q2 λj d q e1 e2=>?_;obtain⟨_,q3,W⟩:=old j _ (λz=>by cases z) e1;rw[W]at e2;exact .inl ⟨d,q3,e2⟩
def aAC{j:Nat}{d:D}(e:(B.map rS)[j]?=O (.mu d)):B[j]?=O (.mu d):=by
 rw[uv]at e;cases h:B[j]? with
 |none=>rw[h]at e;cases e
 |some s=>rw[h]at e;cases s<;>cases e;rfl
def aAB{j:Nat}{a b:List D}(e:(B.map rS)[j]?=O (.ow a b)):False:=by
 rw[uv]at e;cases h:B[j]? with
 |none=>rw[h]at e;cases e
 |some s=>rw[h]at e;cases s<;>cases e
def SInv.writew(I:SInv K T S₀ H₀ S B V H){p W R:Addr}{iw gw:List σ}{a' b':List D}(q:Addr)(o:HO)(e1:V[i]?=O (O (.ref p)))(e2:SqT K H p [.ref W,.ref R])(e3:¬S p)(s:S W/\S R/\W≠R)(o1:H₀ W=U/\H₀ R=U)(dm:∀(j:Nat) d,B[j]?=O (.mu d)->V[j]?≠O (O (.ref W))/\V[j]?≠O (O (.ref R))) (hq:q=W\/q=R) (g1:upd H q o W=O (.lst iw)) (g2:upd H q o R=O (.lst gw)) (r1:aC K T H S a' iw) (r2:aC K T H S b' gw) (hi:i<B.length):SInv K T S₀ H₀ S ((B.map rS).set i (.ow a' b')) V (upd H q o)/\aM K H (upd H q o) S S:=by
 have sq:S q:=hq.elim (λz=>by rw[z];exact s.1) λz=>by rw[z];exact s.2.1
 have mv:aM K H (upd H q o) S S:=λa n _=>⟨n,λu e=>by rw[aK (λz=>n (by rw[z];exact sq))];exact e⟩;have dom:∀a,S a->∃u,upd H q o a=O u:=λa z=>by by_cases e:a=q;exact⟨o,by rw[e];exact aL⟩;obtain⟨u,g⟩:=I.re.dom a z;exact⟨u,by rw[aK e];exact g⟩
 have old:∀(j:Nat) d,((B.map rS).set i (.ow a' b'))[j]?=O (.mu d)->B[j]?=O (.mu d):=λj d e=>by have ne:=jV e (λz=>by cases z);rw[vj (Ne.symm ne)]at e;exact aAC e
 have nq:∀(j:Nat) d,B[j]?=O (.mu d)->V[j]?≠O (O (.ref q)):=λj d e=>hq.elim (λz=>by rw[z];exact(dm j d e).1) λz=>by rw[z];exact(dm j d e).2
 refine⟨⟨⟨dom,by simp[I.re.len],λj sl e=>?_⟩,I.dom0,I.sup,λu v e=>?_,λj k d d' u h1 h2 h3 h4=>?_,λj d u h1 h2=>?_,λj c d e=>?_⟩,mv⟩;by_cases hj:j=i;subst hj;rw[vi (by simpa using hi)]at e;cases e;trivial;rw[vj (Ne.symm hj),uv]at e;cases h:B[j]? with
 |none=>rw[h]at e;cases e
 |some t=>
  rw[h]at e;have z:=I.re.at_ j t h;cases t with
  |un=>cases e;trivial
  |ow _ _=>cases e;trivial
  |im d=>cases e;obtain⟨v,e4,r⟩:=z;exact⟨v,e4,Rep.gen mv d v r⟩
  |mu d=>cases e;obtain⟨u,w,e4,e5,e6,r⟩:=z;refine⟨u,w,e4,e5,?_,r.gen mv⟩;rw[aK (λz=>nq j d h (by rw[<-z];exact e4))];exact e6
 have ne:u≠q:=by rintro rfl;rcases hq with rfl|rfl;rw[o1.1]at e;cases e;rw[o1.2]at e;cases e
 rw[aK ne];exact I.same u v e;exact I.dist j k d d' u (old j d h1) (old k d' h2) h3 h4;exact I.own j d u (old j d h1) h2;by_cases hj:j=i;subst hj;rw[vi (by simpa using hi)]at e;cases e;exact⟨p,W,R,iw,gw,e1,SqT.keeps e2 (mv p e3 (SqT.has e2)).2,e3,s,g1,g2,aC.gen mv _ _ r1,aC.gen mv _ _ r2,o1,λk d e=>dm k d (old k d e)⟩;rw[vj (Ne.symm hj)]at e;exact(aAB e).elim
theorem SInv.viewW(R:SInv K T S₀ H₀ S B V H):RE K T H (λ_=>False) (viewW B) V:=by
 refine⟨λa z=>z.elim,by simp[Z.viewW,R.re.len],λi s e=>?_⟩;unfold Z.viewW at e;rw[uv]at e;have I:∀{ds:List D} {xs:List σ},aC K T H S ds xs->aC K T H (λ_=>False) ds xs:=λr=>aC.mono (λ_ z=>z.elim) (λ_ _ _ e=>e) _ _ r;cases h:B[i]? with
 |none=>rw[h]at e;cases e
 |some s'=>
  rw[h]at e;cases e;cases s' with
  |un=>trivial
  |im d=>obtain⟨v,e1,r⟩:=R.re.at_ i _ h;exact⟨v,e1,Rep.mono (λ_ z=>z.elim) (λ_ _ _ e=>e) d v r⟩
  |mu ds=>obtain⟨p,xs,e1,_,e3,r⟩:=R.re.at_ i _ h;exact⟨.ref p,e1,r.rep e3 (λz=>z) λ_ z=>z.elim⟩
  |ow a b=>obtain⟨p,a1,a2,xs,ys,e1,e2,e3,_,h1,h2,r1,W,_⟩:=R.ow i a b h;refine⟨.ref p,e1,?_⟩;unfold Rep;refine⟨p,_,rfl,λz=>z,e2,?_⟩;unfold aC;refine⟨_,_,rfl,?_,?_⟩;unfold Rep;exact⟨a1,xs,rfl,λz=>z,h1,I r1⟩;unfold aC;refine⟨_,_,rfl,?_,by unfold aC;rfl⟩;unfold Rep;exact⟨a2,ys,rfl,λz=>z,h2,I W⟩
def JX{d:D}(h:GJ d=Y)(r:Rep K T H S d v):Rep K T H S' d v:=by cases d<;>first|(simp only[GJ,v7]at h;done)|(unfold Rep at r ⊢;exact r)
end
variable {CX:aq}{G:GS}{T:Tx}{lv:Nat}{X:Cx}{c:CC}{S₀:Addr->Prop}{H₀:Hp}{fr:Bool}{EX:Str->Hp->Prop}{pos:Pos}
noncomputable def IW(K:xx)(T:Tx)(S₀:Addr->Prop)(H₀:Hp)(fr:Bool)(EX:Str->Hp->Prop)(H:Hp)(S:Addr->Prop)(D:Ends):Out->Prop
 |.nx B=>∀S' z H',SInv K T S₀ H₀ S' B z H'->aM K H H' S S'->D.nx z H'
 |.bk B=>∀S' z H',SInv K T S₀ H₀ S' B z H'->aM K H H' S S'->D.bk z H'
 |.ct B=>∀S' z H',SInv K T S₀ H₀ S' B z H'->aM K H H' S S'->D.ct z H'
 |.rt d=>∀v H',aI H₀ H'->Rep K T H' S₀ d v->(fr=Y->uQ K T S₀ H₀ H' d v)->D.rt v H'
 |.er c=>∀H',aI H₀ H'->EX c H'
def bu(K:xx)(T:Tx)(S₀:Addr->Prop)(H₀:Hp)(fr:Bool)(EX:Str->Hp->Prop)(G:GS)(is:IS):TS:=λD V H=>∃B out S,ex G is B=O out/\SInv K T S₀ H₀ S B V H/\IW K T S₀ H₀ fr EX H S D out
structure XS (CX:aq) (T:Tx) (X:Cx) (c:CC) (EX:Str->Hp->Prop):Prop where
 kind:X.env.scope.kind=.function
 pass:PassesOwn (model X.prog X.w) X.A X.env X.xe
 rse:∀x m j p p' q pos,aV c x=Y->c.cls.contains x=Y->PS X (.Raise (O (.Call (.Name x p) [.Constant (.str m) j p'] [] q)) U pos) (λD V H=>EX x H)
 pss:∀E1:XK,(∀cls H',E1 cls U H'->∃k C,T.xc k=O C/\cls=.ref C/\EX k H')->iG CX X E1
 stk:X.stack=X.env::X.outer
 frm:X.env.frame=O X.env.locals
def IW.step{H':Hp}{S':Addr->Prop}{D:Ends}{o:Out}(mv:aM K H H' S S')(h:IW K T S₀ H₀ fr EX H S D o):IW K T S₀ H₀ fr EX H' S' D o:=by
 cases o with
 |nx B=>exactλR z H2 I m=>h R z H2 I (mv.trans m)
 |bk B=>exactλR z H2 I m=>h R z H2 I (mv.trans m)
 |ct B=>exactλR z H2 I m=>h R z H2 I (mv.trans m)
 |rt d=>exact h
 |er c=>exact h
def mR{e:IE}{d:D}(h:eu G e B=O d):ev G e B=O d\/(ev G e (view B)=O d/\GJ d=Y):=by unfold eu at h;split at h;rename_i h1;cases h;exact .inl h1;split at h;rename_i h2;split at h;rename_i h3;cases h;exact .inr ⟨h2,h3⟩;cases h;cases h
def qF(xc:XC CX X c G T lv){d:D}(he:cE n c e=O ir)(h:eu G ir B=O d):PE X e (tD X.K T S B d):=by rcases mR h with h|⟨h,hs⟩;exact((cV n).1 X c S B e ir xc he d h).1;exact PE.mono ((cV n).1 X c (λ_=>False) (view B) e ir xc he d h).1 λV H Q ⟨re,q⟩=>⟨re.view,λv H' sm r=>q v H' sm (JX hs r)⟩
def yO{p:Addr}{o:HO}(I:Inv X pins V H s)(h:H p=O o):X.K.lookup p=U:=by
 cases e:X.K.lookup p with
 |none=>rfl
 |some u=>rw[MQ I p u e]at h;cases h
def tNk(K:xx)(T:Tx)(S:Addr->Prop)(B:List Sl)(ds:List D):TE:=λV H Q=>RE K T H S B V/\∀p xs H',aI H H'->H p=U->K.lookup p=U->H' p=O (.lst xs)->aC K T (er H' p) S ds xs->Q (.ref p) H'
def aFh{ds:List D}(h:PE X e (d9 X.K T S B ds)):PE X e (tNk X.K T S B ds):=λpins s V H Q I ⟨re,q⟩=>ai (h pins s V H (λv H'=>∃p xs,v=.ref p/\aI H H'/\H p=U/\H' p=O (.lst xs)/\aC X.K T (er H' p) S ds xs) I ⟨re,λp xs H' a b c d=>⟨p,xs,rfl,a,b,c,d⟩⟩) λu s1 ⟨v,H',z,r,p,xs,e,a,b,c,d⟩=>⟨v,H',z,r,by rw[e];exact q p xs H' a b (yO z c) c d⟩
def SL:PS X (.Pass pos) (bu X.K T S₀ H₀ fr EX G .nop):=λpins s V H D I ⟨B,out,S,hx,z,po⟩=>by simp only[ex,u4]at hx;subst hx;exact UU pins s V H D I (po S V H z aM.refl)
def SI:PS X (.Return U pos) (bu X.K T S₀ H₀ fr EX G .retn):=λpins s V H D I ⟨B,out,S,hx,z,po⟩=>by simp only[ex,u4]at hx;subst hx;exact UT pins s V H D I (po .non H z.same (by unfold Rep;rfl) λ_=>⟨λds e=>(by cases e),λa b e=>(by cases e)⟩)
def SJ(xc:XC CX X c G T lv)(e:bE c x=O i):PS X (.Return (O (.Name x p)) pos) (bu X.K T S₀ H₀ fr EX G (.M i)):=λpins s V H D I ⟨B,out,S,hx,R,po⟩=>by
 simp only[ex]at hx;split at hx;rename_i ds hi;cases hx;obtain⟨q,xs,e1,e2,e3,rl⟩:=R.re.at_ i _ hi;have hn:=R.own i ds q hi e1;have n0:¬S₀ q:=λz=>by obtain⟨o,z⟩:=R.dom0 q z;rw[hn]at z;cases z
 refine lM (fN xc e) pins s V H D I ⟨_,e1,po (.ref q) H R.same ?_ λ_=>⟨λds' z=>?_,λa b z=>?_⟩⟩;exact rl.rep e3 n0 R.sup;subst z;obtain⟨ys,rfl,W⟩:=rl.lst;exact⟨q,ys,rfl,hn,e3,aC.disown e2 R.sup W⟩;subst z;rcases rl with ⟨_,_,z,_⟩|⟨_,_,z,_⟩<;>cases z
 cases hx
def WD{d:D}(h:aCc ir=Y)(hd:eu G ir B=O d):∃ds,d=.lst ds:=by
 have go:∀{B:List Sl},ev G ir B=O d->∃ds,d=.lst ds:=λ{B} e=>by
  cases ir<;>first|exact nomatch (show J=Y from h)|skip
  simp only[ev,uy,u6,vc]at e;obtain⟨_,_,_,_,ds,_,rfl⟩:=e;exact⟨ds,rfl⟩
 rcases mR hd with e|⟨e,_⟩;exact go e;exact go e
def aAN(xc:XC CX X c G T lv){b:Bool}(he:cE n c e=O ir)(hb:b=Y->dJ c e=Y)(au:fr=Y->(b&&aCc ir)=Y):PS X (.Return (O e) pos) (bu X.K T S₀ H₀ fr EX G (.ret b ir)):=λpins s V H D I ⟨B,out,S,hx,R,po⟩=>by
 simp only[ex,vc]at hx;obtain⟨d,hd,rfl⟩:=hx;have plain:fr=J->wpAny (model X.prog X.w) X.A (exec (.Return (O e) pos) X.env) (SP X pins D) X.xe s:=λhn=>lM (qF (S:=S) xc he hd) pins s V H D I ⟨R.re,λv H' sm r=>po v H' (R.same.trans sm) (Rep.mono R.sup (λ_ _ _ e=>e) d v r) λz=>by rw[hn]at z;cases z⟩;cases hf:fr with
 |false=>exact plain hf
 |true=>
  obtain⟨jn,W⟩:=bL (au hf);obtain⟨ds,rfl⟩:=WD W hd;have oh:ev G ir B=O (.lst ds):=by rcases mR hd with h|⟨_,h⟩;exact h;cases h
  refine lM (((cV n).1 X c S B e ir xc he _ oh).2 (hb jn) ds rfl) pins s V H D I ⟨R.re,λp xs H' sm hp f7 rl=>po (.ref p) H' (R.same.trans sm) ?_ λ_=>⟨λds' z=>?_,λa b z=>by cases z⟩⟩;unfold Rep;exact⟨p,xs,rfl,λz=>R.re.nS hp (R.sup p z),f7,aC.mono R.sup (λ_ _ _ e=>e) _ _ rl.er⟩;cases z;exact⟨p,xs,rfl,R.same.free hp,f7,aC.mono R.sup (λ_ _ _ e=>e) _ _ rl⟩
def aEb(xc:XC CX X c G T lv){a b:List Stmt}{ia:IS}(R:cT n c t=O ir)(ha:PSs X a (bu X.K T S₀ H₀ fr EX G ia))(hb:PSs X b (bu X.K T S₀ H₀ fr EX G ib)):PS X (.If t a b pos) (bu X.K T S₀ H₀ fr EX G (.g ir ia ib)):=λpins s V H D I ⟨B,out,S,hx,z,po⟩=>by
 simp only[ex,uy,u6]at hx;obtain⟨w,hw,hx⟩:=hx;cases w<;>first|(simp only[reduceCtorEq]at hx;done)|skip
 rename_i k;refine KQ ((cV n).2.1 X c (λ_=>False) (view B) t ir xc R k hw) ha hb pins s V H D I ⟨z.re.view,λH' sm=>?_⟩;cases k with
 |true=>exact yQ ⟨B,out,S,hx,z.step sm,po.step (aM.same sm)⟩
 |false=>exact oW ⟨B,out,S,hx,z.step sm,po.step (aM.same sm)⟩
def SH(xc:XC CX X c G T lv){e1 e2:Expr}{i1 i2:IE}{x1:Nat}{tp:Pos}(h1:cE n c e1=O i1)(h2:cE n c e2=O i2)(f1:dJ c e1=Y)(f2:dJ c e2=Y):PS X (.Return (O (.Tuple [e1,e2] x1 tp)) pos) (bu X.K T S₀ H₀ fr EX G (.retp i1 i2)):=λpins s V H D I ⟨B,out,S,hx,R,po⟩=>by
 simp only[ex]at hx;split at hx;rename_i a b g1 g2;cases hx;have p1:=aFh (((cV n).1 X c S B e1 i1 xc h1 _ g1).2 f1 a rfl);have p2:PE X e2 (λV H Q=>∃S',d9 X.K T S' B b V H Q):=λpins s V H Q I ⟨S',h⟩=>((cV n).1 X c S' B e2 i2 xc h2 _ g2).2 f2 b rfl pins s V H Q I h;refine lM (LA (aW p1 (aW p2 cP ((cO h2).star X.env [])) ((cO h1).star X.env [e2]))) pins s V H D I ⟨R.re,λW xs H1 s1 n1 hk k1 r1=>⟨λz=>S z\/z=W,?_,λq2 ys H2 s2 n2 k2 r2=>⟨by show 2<=sizeLine;decide,λp hp=>?_⟩⟩⟩;refine R.re.gen (λz n h=>?_) (λz o w e _=>⟨.inl w,s1 z o e⟩) λz w=>w.elim (λw=>let ⟨o,e⟩:=R.re.dom z w;⟨o,s1 z o e⟩) λw=>⟨.lst xs,by rw[w];exact k1⟩;have ne:z≠W:=by rintro rfl;rcases h with ⟨o,e⟩|⟨o,e⟩;rw[n1]at e;cases e;rw[hk]at e;cases e
 exact⟨λw=>w.elim n ne,λo e=>s1 z o e⟩;have ne:W≠q2:=λz=>by rw[<-z,k1]at n2;cases n2
 have qv:=s2 _ _ k1;have sp:=aI.upd (o:=.tup [.ref W,.ref q2]) hp;have np:p≠W/\p≠q2:=⟨λz=>(by rw[z,qv]at hp;cases hp),λz=>(by rw[z,k2]at hp;cases hp)⟩;have cg:aI H (upd H2 p (.tup [.ref W,.ref q2])):=(s1.trans s2).trans sp;have n2':H q2=U:=s1.free n2;have er1:aC X.K T (er (er (upd H2 p (.tup [.ref W,.ref q2])) W) q2) S₀ a xs:=aC.gen (λz nz e=>⟨λy=>nz (R.sup z y),λo e=>(by obtain⟨w1,w2⟩:=gU.mp e;have w3:=s2 _ _ w2;exact gU.mpr ⟨λy=>(by rw[y,n2]at w2;cases w2),gU.mpr ⟨w1,sp _ _ w3⟩⟩)⟩) _ _ r1;have er2:aC X.K T (er (er (upd H2 p (.tup [.ref W,.ref q2])) W) q2) S₀ b ys:=aC.gen (λz nz e=>⟨λy=>nz (.inl (R.sup z y)),λo e=>(by obtain⟨w1,w2⟩:=gU.mp e;exact gU.mpr ⟨w1,gU.mpr ⟨λy=>nz (.inr y),sp _ _ w2⟩⟩)⟩) _ _ r2;refine po (.ref p) _ (R.same.trans cg) ?_ λ_=>⟨λds z=>(by cases z),λa' b' z=>?_⟩;have d0:∀z,S₀ z->∃o,H z=O o:=λz w=>R.re.dom z (R.sup z w);unfold Rep;refine⟨p,_,rfl,λw=>?_,SqT.of aL,aC.cons ?_ (aC.cons ?_ aC.nil)⟩;obtain⟨o,e⟩:=d0 p w;rw[(s1.trans s2) p o e]at hp;cases hp;unfold Rep;exact⟨W,xs,rfl,λw=>R.re.nS n1 (R.sup _ w),sp _ _ qv,er1.er.er⟩;unfold Rep;exact⟨q2,ys,rfl,λw=>R.re.nS n2' (R.sup _ w),sp _ _ k2,er2.er.er⟩;cases z;exact⟨p,W,q2,xs,ys,rfl,SqT.of aL,np,ne,⟨R.same.free n1,R.same.free n2'⟩,sp _ _ qv,sp _ _ k2,er1,er2⟩;cases hx
def aAR(xc:XC CX X c G T lv){a b:List Stmt}{ia:IS}(R:cT n c t=O ir)(ha:PSs X a (bu X.K T S₀ H₀ fr EX G ia))(hb:PSs X b (bu X.K T S₀ H₀ fr EX G ib)):PS X (.If t a b pos) (bu X.K T S₀ H₀ fr EX G (.ifw ir ia ib)):=λpins s V H D I ⟨B,out,S,hx,z,po⟩=>by
 simp only[ex]at hx;have go:∀k,ev G ir (viewW B)=O (.bl k)->ex G (if k then ia else ib) B=O out->wpAny (model X.prog X.w) X.A (exec (.If t a b pos) X.env) (SP X pins D) X.xe s:=λk hw hx=>by
  refine KQ ((cV n).2.1 X c (λ_=>False) (viewW B) t ir xc R k hw) ha hb pins s V H D I ⟨z.viewW,λH' sm=>?_⟩;cases k with
  |true=>exact yQ ⟨B,out,S,hx,z.step sm,po.step (aM.same sm)⟩
  |false=>exact oW ⟨B,out,S,hx,z.step sm,po.step (aM.same sm)⟩
 split at hx;rename_i hw;exact go Y hw hx;rename_i hw;exact go J hw hx;cases hx
def aAQ:PSs X [] (bu X.K T S₀ H₀ fr EX G .nop):=λpins s V H D I ⟨B,out,S,hx,z,po⟩=>by simp only[ex,u4]at hx;subst hx;exact vC pins s V H D I (po S V H z aM.refl)
def aAL{st:Stmt}{rest:List Stmt}{a b:IS}(ha:PS X st (bu X.K T S₀ H₀ fr EX G a))(hb:PSs X rest (bu X.K T S₀ H₀ fr EX G b)):PSs X (st::rest) (bu X.K T S₀ H₀ fr EX G (.seq a b)):=λpins s V H D I ⟨B,out,S,hx,z,po⟩=>by
 simp only[ex,uy,u6]at hx;obtain⟨o,ho,hx⟩:=hx;refine eQ ha hb pins s V H D I ⟨B,o,S,ho,z,?_⟩;cases o with
 |nx B'=>exactλS' W H' R mv=>⟨B',out,S',hx,R,po.step mv⟩
 |bk B'=>simp only[u4]at hx;subst hx;exact po
 |ct B'=>simp only[u4]at hx;subst hx;exact po
 |rt d=>simp only[u4]at hx;subst hx;exact po
 |er d=>simp only[u4]at hx;subst hx;exact po
def aAM(xs:XS CX T X c EX){m:Str}{j:Nat}{p' q:Pos}(hg:aV c x=Y)(hc:c.cls.contains x=Y):PS X (.Raise (O (.Call (.Name x p) [.Constant (.str m) j p'] [] q)) U pos) (bu X.K T S₀ H₀ fr EX G (.rse x)):=λpins s V H D I ⟨B,out,S,hx,z,po⟩=>by simp only[ex]at hx;split at hx;cases hx;exact xs.rse x m j p p' q pos hg hc pins s V H D I (po H z.same);cases hx
def SD(xc:XC CX X c G T lv){k:Nat}(hn:fS c es=O is)(he:cE n c e=O ir)(R:∀vs k p,e≠.Tuple vs k p):PS X (.Assign [.Tuple es k p] e pos) (bu X.K T S₀ H₀ fr EX G (.t is ir)):=λpins s V H D I ⟨B,out,S,hx,z,po⟩=>by
 simp only[ex,uy,u6,vc]at hx;obtain⟨d,hd,ρ1,hb,rfl⟩:=hx;have gh:dD c (.Tuple es k p)=O (is,Y):=by simp only[dD,hn,wz]
 refine KS ((cV n).1 X c S B e ir xc he d hd).1 (VD xc (S:=S) gh hb) ?_ ?_ rfl pins s V H D I ⟨z.re,λv H' sm r=>⟨z.re.same sm,r,λV' W ag=>po S V' H' ((z.step sm).bind hb W ag) (aM.same sm)⟩⟩;cases e<;>rfl
 cases e<;>first|rfl|exact absurd rfl (R _ _ _)
variable {CX:aq}{G:GS}{T:Tx}{lv:Nat}{X:Cx}{c:CC}{S₀:Addr->Prop}{H₀:Hp}{fr:Bool}{EX:Str->Hp->Prop}{pos:Pos}
noncomputable def nN:Expr->Bool
 |.ListComp _ _ _ _=>Y
 |_=>J
def pW(h:cE n c e=O ir)(hc:nN e=J)(t:Expr)(l:Nat)(env:Env):swapsWith e (O t) l env=pure J:=by cases e<;>first|rfl|exact nomatch (show Y=J from hc)|(cases n<;>exact nomatch (show U=O ir from h))
def pX{l:Nat}{env:Env}:∃b,swapsWith (.ListComp elt gs sc p) (O (.Name x px)) l env=pure b:=⟨_,rfl⟩
def lX{d:D}(xc:XC CX X c G T lv)(h:cE n c (.ListComp elt gs sc p)=O ir)(hd:ev G ir B=O d)(S:Addr->Prop):∃tg iter ifs fr bg tp ds z f,gs=[⟨tg,iter,ifs,0⟩]/\d=.lst z/\lY c sc=Y/\freeOf c sc (sc.names.filter λx=>x.2 == .free)=O fr/\bg.all (λi=>(fr.lookup i).isNone)=Y/\dD {c with N:=ownNames sc,sc:=sc} tg=O (bg,tp) /\PI X tg iter (tI X.K T S B ds)/\(∀x,foldedSetIterable iter X.env x=pure x)/\cK f ds=O z /\(∀d o,f d=O o->∃ρ1,bB bg tp d (frame (ownNames sc).length fr B)=O ρ1/\TurnOk CX G T lv {c with N:=ownNames sc,sc:=sc} X.K ifs elt ρ1 o):=by
 cases n with
 |zero=>exact nomatch (show U=O ir from h)
 |succ n=>obtain⟨hE,hT,R,hA,I⟩:=cV (CX:=CX) (G:=G) (T:=T) (lv:=lv) n;exact FN hE hT I xc h hd
def SG(xc:XC CX X c G T lv){W:Pos}(hx:eS c (.Name x mz)=O i):PS X (.Assign [.Name x px] (.Dict [] [] W) pos) (bu X.K T S₀ H₀ fr EX G (.setd i)):=λpins s V H D I ⟨B,out,S,R,si,po⟩=>by cases R;obtain⟨hN,hk⟩:=gP hx;obtain⟨hl,hf⟩:=xc.loc hk;have pn:PE X (.Dict [] [] W) (λV H Q=>∀p,H p=U->X.K.lookup p=U->Q (.ref p) (upd H p (.dK []))):=λpins s V H Q I q=>ai (LB pins s V H (λv H'=>∃p,v=.ref p/\H p=U/\H'=upd H p (.dK [])) I λp hp=>⟨p,rfl,hp,rfl⟩) λu s1 ⟨v,H',I',r,p,e1,hp,e2⟩=>⟨v,H',I',r,by subst e1 e2;exact q p hp (yO I' (aL))⟩;refine nD (by rw[xc.N];exact xc.nd) (by rw[xc.N];exact hN) hl pn rfl hf pins s V H D I λp hp z=>?_;obtain⟨df,mv⟩:=si.setm (i:=i) (ds:=.dct []) (xs:=.dK []) (aI.upd hp) hp z aL (.inr ⟨_,_,rfl,rfl,bD.nil⟩);exact po _ _ _ df mv
def aAK(xc:XC CX X c G T lv)(hx:eS c (.Name x mz)=O i)(he:cE n c e=O ir):PS X (.Assign [.Name x px] e pos) (bu X.K T S₀ H₀ fr EX G (.set i ir)):=λpins s V H D I ⟨B,out,S,W,z,po⟩=>by
 simp only[ex,vc]at W;obtain⟨d,hd,rfl⟩:=W;obtain⟨hN,hk⟩:=gP hx;obtain⟨hl,hf⟩:=xc.loc hk;have plain:swapsWith e (O (.Name x px)) pos.line X.env=pure J->wpAny (model X.prog X.w) X.A (exec (.Assign [.Name x px] e pos) X.env) (SP X pins D) X.xe s:=λhs=>nD (by rw[xc.N];exact xc.nd) (by rw[xc.N];exact hN) hl (qF (S:=S) xc he hd) hs hf pins s V H D I ⟨z.re,λv H' sm r=>po S _ H' ((z.step sm).set r) (aM.same sm)⟩;cases hc:nN e with
 |false=>exact plain (pW he hc _ _ _)
 |true=>
  cases e<;>simp only[nN,v7]at hc
  rename_i elt gs sc p;obtain⟨b,hb⟩:=pX (elt:=elt) (gs:=gs) (sc:=sc) (p:=p) (px:=px) (x:=x) (l:=pos.line) (env:=X.env);cases b with
  |false=>exact plain hb
  |true=>
   have oh:ev G ir B=O d:=by rcases mR hd with h|⟨h,hs⟩;exact h;obtain⟨_,_,_,_,_,_,_,R,_,_,rfl,_⟩:=lX xc he h (λ_=>False);cases hs
   obtain⟨tg,iter,ifs,fr',bg,tp,ds,R,f,rfl,rfl,h1,h2,h3,h4,h5,h6,h7,h8⟩:=lX xc he oh S;exact DP xc h1 h2 h3 h4 h5 h6 (px:=px) (by simp only[eS]at hx ⊢;exact hx) hb h7 h8 pins s V H D I ⟨z.re,λp xs H' sm hp f7 rl=>po S _ H' ((z.step sm).set (by unfold Rep;exact⟨p,xs,rfl,z.re.nS hp,f7,rl.er⟩)) (aM.same sm)⟩
def SF(xc:XC CX X c G T lv)(hx:eS c (.Name x mz)=O i)(he:cE n c e=O ir)(au:dJ c e=Y):PS X (.Assign [.Name x px] e pos) (bu X.K T S₀ H₀ fr EX G (.setm i ir)):=λpins s V H D I ⟨B,out,S,W,si,po⟩=>by
 simp only[ex,uy,u6]at W;obtain⟨d,hd,W⟩:=W;cases d<;>first|(simp only[reduceCtorEq]at W;done)|skip
 rename_i R;simp only[u4]at W;subst W;obtain⟨hN,hk⟩:=gP hx;obtain⟨hl,hf⟩:=xc.loc hk;have pn:=((cV n).1 X c S B e ir xc he _ hd).2 au R rfl;have plain:swapsWith e (O (.Name x px)) pos.line X.env=pure J->wpAny (model X.prog X.w) X.A (exec (.Assign [.Name x px] e pos) X.env) (SP X pins D) X.xe s:=λhs=>nD (by rw[xc.N];exact xc.nd) (by rw[xc.N];exact hN) hl (aFh pn) hs hf pins s V H D I ⟨si.re,λp xs H' sm hp hkp f7 rl=>by obtain⟨df,mv⟩:=si.setm (i:=i) (ds:=.lst R) sm hp hkp f7 (.inl ⟨_,_,rfl,rfl,rl⟩);exact po _ _ H' df mv⟩;cases hc:nN e with
 |false=>exact plain (pW he hc _ _ _)
 |true=>
  cases e<;>simp only[nN,v7]at hc
  rename_i elt gs sc p;obtain⟨b,hb⟩:=pX (elt:=elt) (gs:=gs) (sc:=sc) (p:=p) (px:=px) (x:=x) (l:=pos.line) (env:=X.env);cases b with
  |false=>exact plain hb
  |true=>
   obtain⟨tg,iter,ifs,fr',bg,tp,ds,outs',f,rfl,e1,h1,h2,h3,h4,h5,h6,h7,h8⟩:=lX xc he hd S;cases e1;refine wx (DP xc h1 h2 h3 h4 h5 h6 (px:=px) (by simp only[eS]at hx ⊢;exact hx) hb h7 h8 pins s V H ⟨λV' H'=>∃p xs,V'=V.set i (O (.ref p))/\aI H H'/\H p=U/\H' p=O (.lst xs)/\aC X.K T (er H' p) S R xs,λ_ _=>False,λ_ _=>False,λ_ _=>False⟩ I ⟨si.re,λp xs H' sm hp f7 rl=>⟨p,xs,rfl,sm,hp,f7,rl⟩⟩) (λf s' q=>?_) λ_ _ z=>z;cases f with
   |next=>obtain⟨V',H',I',p,xs,rfl,sm,hp,f7,rl⟩:=q;obtain⟨df,mv⟩:=si.setm (i:=i) (ds:=.lst R) sm hp (yO I' f7) f7 (.inl ⟨_,_,rfl,rfl,rl⟩);exact⟨_,H',I',po _ _ H' df mv⟩
   |brk=>obtain⟨_,_,_,z⟩:=q;exact z.elim
   |cont=>obtain⟨_,_,_,z⟩:=q;exact z.elim
   |ret u=>obtain⟨_,_,_,_,_,z⟩:=q;exact z.elim
def XG(h:vR e=Y):∃p args kw q,e=.Call (.Name z5 p) args kw q:=by unfold vR at h;split at h;rename_i q hq;split at h;rename_i y hy;refine⟨y.2,q.2.1,q.2.2.1,q.2.2.2,?_⟩;rw[dA hq,bR hy,wb.mp h];cases h;cases h
def SE(xc:XC CX X c G T lv)(hx:eS c (.Name x mz)=O i)(he:cE n c e=O ir)(hh:vR e=Y)(au:dJ c e=Y):PS X (.Assign [.Name x px] e pos) (bu X.K T S₀ H₀ fr EX G (.setp i ir)):=λpins s V H D I ⟨B,out,S,hex,si,po⟩=>by
 simp only[ex]at hex;split at hex;rename_i a b hd;cases hex;obtain⟨hN,hk⟩:=gP hx;obtain⟨hl,hf⟩:=xc.loc hk;obtain⟨p,args,kw,q,rfl⟩:=XG hh;have sw:=pW he rfl (.Name x px) pos.line X.env;cases n with
 |zero=>exact nomatch (show U=O ir from he)
 |succ n=>obtain⟨hE,hT,hB,hA,hI⟩:=cV (CX:=CX) (G:=G) (T:=T) (lv:=lv) n;obtain⟨nv,h⟩:=aZ (show (if kw.isEmpty then vB (cE n c) c z5 args (cA n c args) else U)=O ir from he);obtain rfl:=hV nv;obtain⟨hg,h⟩:=aZ h;have z:((c.fns.contains z5 && c.fresh.contains z5) || (aV c z5 && ((z5:Str) == "list" || (z5:Str) == "sorted")&&!own c z5))=Y:=au;rw[show (((z5:Str) == "list" || (z5:Str) == "sorted"))=J by decide +kernel,Bool.and_false,Bool.false_and,Bool.or_false]at z;obtain⟨gb,hfs⟩:=bL z;rw[gb]at h;obtain⟨y,hy,rfl⟩:=aP (show (cA n c args).map (λy=>IE.call z5 y)=O ir from h);simp only[ev,uy,u6]at hd;obtain⟨ds,bj,hd⟩:=hd;obtain⟨ds',e1,hlen,pa,hs⟩:=hA X _ S B args y xc hy _ (cC bj);cases e1;have r:=MD (p:=p) (pos:=q) xc hg gb pa hs hlen (kP hd);have hff:=(xc.go.frs z5 hfs).1;have r2:PE X (.Call (.Name z5 p) args [] q) (λV H Q=>RE X.K T H S B V/\∀p W R xs ys H',aI H H'->(X.K.lookup W=U/\X.K.lookup R=U)->SqT X.K H' p [.ref W,.ref R]->(p≠W/\p≠R)->¬S p->W≠R->(H W=U/\H R=U)->H' W=O (.lst xs)->H' R=O (.lst ys)->aC X.K T (er (er H' W) R) S a xs->aC X.K T (er (er H' W) R) S b ys->Q (.ref p) H'):=λpins s V H Q I ⟨re,q⟩=>ai (r pins s V H (λv H'=>∃p W R xs ys,v=.ref p/\aI H H'/\SqT X.K H' p [.ref W,.ref R]/\(p≠W/\p≠R)/\¬S p/\W≠R/\(H W=U/\H R=U)/\H' W=O (.lst xs)/\H' R=O (.lst ys)/\aC X.K T (er (er H' W) R) S a xs/\aC X.K T (er (er H' W) R) S b ys) I ⟨re,λv H1 H' s1 s2 rp fr=>by obtain⟨p,W,R,xs,ys,rfl,w1,w2,w3,w4,w5,w6,w7,w8⟩:=(fr hff).2 a b rfl;refine⟨p,W,R,xs,ys,rfl,s1.trans s2,w1,w2,?_,w3,⟨s1.free w4.1,s1.free w4.2⟩,w5,w6,w7,w8⟩;unfold Rep at rp;obtain⟨_,_,e,n,_⟩:=rp;cases e;exact n⟩) λu s1 ⟨v,H',I',r,p,W,R,xs,ys,e,w0,w1,w2,w3,w4,w5,w6,w7,w8,w9⟩=>⟨v,H',I',r,by rw[e];exact q p W R xs ys H' w0 ⟨yO I' w6,yO I' w7⟩ w1 w2 w3 w4 w5 w6 w7 w8 w9⟩;refine nD (by rw[xc.N];exact xc.nd) (by rw[xc.N];exact hN) hl r2 sw hf pins s V H D I ⟨si.re,λp W R xs ys H' sm hk hp np nS ne hn g1 g2 r1 r2=>?_⟩;obtain⟨df,mv⟩:=si.setp (i:=i) sm hk.1 hk.2 hp np nS hn.1 hn.2 ne g1 g2 r1 r2;exact po _ _ H' df mv
 cases hex
variable {CX:aq}{G:GS}{T:Tx}{lv:Nat}{X:Cx}{c:CC}{S₀:Addr->Prop}{H₀:Hp}{fr:Bool}{EX:Str->Hp->Prop}{pos:Pos}
def aAV(xc:XC CX X c G T lv)(hx:bE c x=O i)(hl:(p2.endLine == p.line)=Y)(he:cE n c e=O ir):PS X (.Expr (.Call (.Attribute (.Name x p1) "append" p2) [e] [] p) pos) (bu X.K T S₀ H₀ fr EX G (.app i ir)):=λpins s V H D I ⟨B,out,S,z,R,po⟩=>by simp only[ex,uy,u6]at z;obtain⟨d,hd,z⟩:=z;split at z;rename_i ds hi;split at z;rename_i hz;cases z;obtain⟨q,ob,e1,e2,e3,rm⟩:=R.re.at_ i _ hi;obtain⟨xs,rfl,W⟩:=rm.lst;have st:=(cO he).star X.env [];refine fI (mK plainAttrs_list PySem.F.slot_list_append PySem.F.type_list_append gJ (fN xc hx) (aW (qF (S:=S) xc he hd) cP st) rfl ?_ hl st rfl) rfl pins s V H D I ⟨.ref q,e1,.inl ⟨rfl,xs,SqL.of e3⟩,R.re,λv H' sm r=>⟨q,xs,v,rfl,rfl,sm _ _ e3,?_,?_⟩⟩;rw[st];rfl;rw[<-W.len];exact ve hz fC;obtain⟨df,mv⟩:=(R.step sm).write (ds':=.lst (ds++[d])) hi e1 (.inl ⟨_,_,rfl,rfl,(W.same sm).app (aC.cons r aC.nil)⟩);exact po S V _ df ((aM.same sm).trans mv);cases z;cases z
def SN(xc:XC CX X c G T lv){k:Bool}{l:Int}{j1 j2:Nat}{p3 p4 p5:Pos}(hx:bE c x=O i)(hl:(p2.endLine == p.line)=Y):PS X (.Expr (.Call (.Attribute (.Subscript (.Name x p1) (.Constant (.int (if k then 1 else 0)) j1 p3) p4) "append" p2) [.Constant (.int l) j2 p5] [] p) pos) (bu X.K T S₀ H₀ fr EX G (.appw i k (.int l))):=λpins s V H D I ⟨B,out,S,z,si,po⟩=>by
 simp only[ex]at z;split at z;rename_i a b hi;split at z;rename_i hz;cases z;obtain⟨pp,a1,a2,xs,ys,e1,e2,e3,ss,h1,h2,r1,r2,o1,dm⟩:=si.ow i a b hi;have W:i<B.length:=(u0.mp hi).1;have ri:aC X.K T H S [Z.D.int l] [σ.int l]:=aC.cons (by unfold Rep;rfl) aC.nil;have R:∀j:Int,jN (.Constant (.int j) j1 p3):=λj=>(cO (c:=c) (n:=1) (ir:=.L (.int j)) rfl).ix;have n1:xs.length<sizeLine:=by rw[<-r1.len];exact ve hz.1 fC
 have n2:ys.length<sizeLine:=by rw[<-r2.len];exact ve hz.2 fC
 cases k with
 |false=>obtain⟨df,mv⟩:=si.writew (a':=a++[.int l]) (b':=b) a1 (.lst (xs++[.int l])) e1 e2 e3 ss o1 dm (.inl rfl) aL (by rw[aK (Ne.symm ss.2.2)];exact h2) (r1.app ri) r2 W;exact fI (mK plainAttrs_list PySem.F.slot_list_append PySem.F.type_list_append gJ (yB vN (fN xc hx) nG (R _)) (aW nG cP rfl) rfl rfl hl rfl rfl) rfl pins s V H D I ⟨.ref pp,e1,.inr (.inl ⟨pp,[.ref a1,.ref a2],0,.ref a1,rfl,rfl,e2,rfl,.inl ⟨rfl,xs,SqL.of h1⟩,⟨a1,xs,.int l,rfl,rfl,h1,n1,po S V _ df mv⟩⟩)⟩
 |true=>obtain⟨df,mv⟩:=si.writew (a':=a) (b':=b++[.int l]) a2 (.lst (ys++[.int l])) e1 e2 e3 ss o1 dm (.inr rfl) (by rw[aK ss.2.2];exact h1) aL r1 (r2.app ri) W;exact fI (mK plainAttrs_list PySem.F.slot_list_append PySem.F.type_list_append gJ (yB vN (fN xc hx) nG (R _)) (aW nG cP rfl) rfl rfl hl rfl rfl) rfl pins s V H D I ⟨.ref pp,e1,.inr (.inl ⟨pp,[.ref a1,.ref a2],1,.ref a2,rfl,rfl,e2,rfl,.inl ⟨rfl,ys,SqL.of h2⟩,⟨a2,ys,.int l,rfl,rfl,h2,n2,po S V _ df mv⟩⟩)⟩
 cases z;cases z
def aAT(xc:XC CX X c G T lv)(hx:bE c x=O i)(hl:(p2.endLine == p.line)=Y)(he:cE n c e=O ir):PS X (.Expr (.Call (.Attribute (.Name x p1) "extend" p2) [e] [] p) pos) (bu X.K T S₀ H₀ fr EX G (.ext i ir)):=λpins s V H D I ⟨B,out,S,z,R,po⟩=>by obtain⟨d,hd,z⟩:=aF (show (ev G ir B).bind _=O out from z);split at z;rename_i es ds hi;split at z;rename_i hz;cases z;obtain⟨q,ob,e1,e2,e3,rm⟩:=R.re.at_ i _ hi;obtain⟨xs,rfl,rl⟩:=rm.lst;have st:=(cO he).star X.env [];refine fI (mK plainAttrs_list PySem.F.slot_list_extend PySem.F.type_list_extend HD (fN xc hx) (aW (((cV n).1 X c S B e ir xc he _ hd).1) cP st) rfl ?_ hl st rfl) rfl pins s V H D I ⟨.ref q,e1,.inl ⟨rfl,xs,SqL.of e3⟩,R.re,λv H' sm r=>?_⟩;rw[st];rfl;have r0:=r;unfold Rep at r0;obtain⟨b,ys,rfl,_,hb,W⟩:=r0;refine⟨q,b,xs,ys,rfl,rfl,sm _ _ e3,hb,?_,?_⟩;rw[<-rl.len,<-W.len];exact le_of_lt (ve hz fC);obtain⟨df,mv⟩:=(R.step sm).write (ds':=.lst (ds++es)) hi e1 (.inl ⟨_,_,rfl,rfl,(rl.same sm).app W⟩);exact po S V _ df ((aM.same sm).trans mv);cases z;cases z
def aCD(n:Nat)(i:Int):Z.ixN n i=L2.ixN n i:=by unfold Z.ixN L2.ixN;rfl
def GC(h:cE n c e=O ir){o i:Expr}{l:Nat}{env:Env}:swapsWith e (O (.Subscript o i p)) l env=pure J:=by cases e<;>first|rfl|(cases n<;>exact nomatch (show U=O ir from h))
def aAP(xc:XC CX X c G T lv){k:Expr}{kr:IE}(hx:bE c x=O i)(hk:cE n c k=O kr)(he:cE n c e=O ir):PS X (.Assign [.Subscript (.Name x p1) k p2] e pos) (bu X.K T S₀ H₀ fr EX G (.put i kr ir)):=λpins s V H D I ⟨B,out,S,z,W,po⟩=>by
 simp only[ex,uy,u6]at z;obtain⟨d,hd,ki,hki,z⟩:=z;split at z;rename_i o hi;obtain⟨o',ho,rfl⟩:=vc.mp z;obtain⟨q,ob,e1,e2,e3,rm⟩:=W.re.at_ i _ hi;cases o<;>first|exact nomatch (show U=O o' from ho)|skip
 rename_i ds;obtain⟨j,hj,rfl⟩:=vc.mp ho;obtain⟨xs,rfl,rl⟩:=rm.lst;refine KS (qF (S:=S) xc he hd) (aBy (fN xc hx) (qF (S:=S) xc hk (gQ hki)) set_list ?_) ?_ ?_ rfl pins s V H D I ⟨W.re,λv H' sm r=>⟨.ref q,e1,(W.step sm).re,λw H2 R r2=>?_⟩⟩;intro v;cases k<;>first|rfl|(cases n<;>exact nomatch (show U=O kr from hk))
 cases e<;>rfl
 cases e<;>rfl
 unfold Rep at r2;subst r2;refine⟨q,xs,ki,j,rfl,rfl,R _ _ (sm _ _ e3),by rw[<-rl.len,<-aCD];exact hj,?_⟩;obtain⟨df,mv⟩:=(W.step (sm.trans R)).write (ds':=.lst (ds.set j d)) hi e1 (.inl ⟨_,_,rfl,rfl,aC.set j (rl.same (sm.trans R)) (r.same R)⟩);exact po S V _ df ((aM.same (sm.trans R)).trans mv);rename_i kvs;have ho:(if kvs.length<big then O (Z.D.dct (jP kvs ki d)) else U)=O o':=ho;split at ho;rename_i hz;cases ho;obtain⟨gs,rfl,rk⟩:=rm.dct;refine UV (NM xc.room) (fN xc hx) (qF (S:=S) xc hk (gQ hki)) (qF (S:=S) xc he hd) (GC he) pins s V H D I ⟨W.re,λv H' sm r=>⟨.ref q,e1,(W.step sm).re,λw H2 R r2=>?_⟩⟩;unfold Rep at r2;subst r2;refine⟨q,_,rfl,RQ.k (k:=Sum.inl ki) (R _ _ (sm _ _ e3)) (by rw[<-bD.len rk];exact ve hz fC),?_⟩;obtain⟨df,mv⟩:=(W.step (sm.trans R)).write (ds':=.dct (jP kvs ki d)) hi e1 (.inr ⟨_,_,rfl,rfl,bD.put (r.same R) (bD.gen (aM.same (S:=S) (sm.trans R)) _ _ rk)⟩);exact po S V _ df ((aM.same (sm.trans R)).trans mv);cases ho;cases z
def CB{bind:D->List Sl->Option (List Sl)}{body:List Sl->Option Out}{d:D}{r:List D}{out:Out}(h:bS bind body (d::r) B=O out):∃ρ1 o,bind d B=O ρ1/\body ρ1=O o /\((∃z,o=.nx z/\bS bind body r z=O out)\/(∃z,o=.ct z/\bS bind body r z=O out)\/(∃z,o=.bk z/\out=.nx z)\/(∃d,o=.rt d/\out=o)\/∃x,o=.er x/\out=o):=by
 simp only[bS,uy,u6]at h;obtain⟨ρ1,h1,o,h2,h3⟩:=h;refine⟨ρ1,o,h1,h2,?_⟩;cases o<;>simp only[u4]at h3
 exact .inl ⟨_,rfl,h3⟩;exact .inr (.inr (.inr (.inl ⟨_,rfl,h3.symm⟩)));exact .inr (.inr (.inl ⟨_,rfl,h3.symm⟩));exact .inr (.inl ⟨_,rfl,h3⟩);exact .inr (.inr (.inr (.inr ⟨_,rfl,h3.symm⟩)))
def gEx(K:xx)(T:Tx)(is:List Nat)(tp:Bool):TG:=λv V H Q=>∃B S ρ1 d,bB is tp d B=O ρ1/\gD K T S is B ρ1 d v V H Q
def aAS(xc:XC CX X c G T lv)(xs:XS CX T X c EX){tg iter:Expr}{body:List Stmt}{bg:List Nat}{k:Src}{src:IE}(gh:dD c tg=O (bg,tp))(hi:cI n c iter=O (k,src))(o8:RM k tg)(hb:PSs X body (bu X.K T S₀ H₀ fr EX G ib)):PS X (.For tg iter body [] pos) (bu X.K T S₀ H₀ fr EX G (.loop bg tp k src ib)):=λpins s V H D I ⟨B,out,S,hex,si,po⟩=>by
 simp only[ex,uy,u6]at hex;obtain⟨d,hd,ds,bj,kl⟩:=hex;obtain⟨hit,hset⟩:=(cV n).2.2.2.2 X c S B iter k src xc hi d ds hd bj;have hg:PG X tg (gEx X.K T bg tp):=λpins s V H v u Q I r ⟨B,S,ρ1,d,pq,h⟩=>VD xc gh pq pins s V H v u Q I r h;refine KR xs.pass xc.calm (hit tg o8) hg hb hset pins s V H D I ⟨si.re,λæ H1 sm ke hlen=>?_⟩;refine⟨λi m V H=>∃R W,m=ds.length-i/\i<=ds.length/\bS (bB bg tp) (ex G ib) (ds.drop i) R=O out/\SInv X.K T S₀ H₀ W R V H/\aM X.K H1 H S W,⟨ds.length,B,S,Ab,xq _,by simpa using kl,si.step sm,aM.refl⟩,?_⟩;rintro i m V' H' ⟨R,W,rfl,hile,sk,kx,mv⟩;obtain⟨qy,qx⟩:=ke H' W mv kx.re.dom;have kc:IW X.K T S₀ H₀ fr EX H' W D out:=po.step ((aM.same sm).trans mv);by_cases cw:i<ds.length;refine .inr ?_;have hdr:ds.drop i=ds[i]::ds.drop (i+1):=List.drop_eq_getElem_cons cw;rw[hdr]at sk;obtain⟨ρ1,o,pq,hbo,hcase⟩:=CB sk;obtain⟨hgo',hy⟩:=qy i ds[i] (by simp[cw]);refine⟨hgo',λσ2 H2=>∃z S2,bS (bB bg tp) (ex G ib) (ds.drop (i+1)) z=O out/\SInv X.K T S₀ H₀ S2 z σ2 H2/\aM X.K H1 H2 S S2,λσ2 H2 ⟨z,S2,a,b,c⟩=>⟨ds.length-(i+1),z7,z,S2,rfl,cw,a,b,c⟩,λx H2 qz=>?_⟩;obtain⟨s2,rx⟩:=hy x H2 qz;refine⟨R,W,ρ1,ds[i],pq,(kx.step s2).re,rx,λσ3 k6 ag=>⟨ρ1,o,W,hbo,(kx.step s2).bind pq k6 ag,?_⟩⟩;have o7:aM X.K H1 H2 S W:=mv.trans (aM.same s2);rcases hcase with ⟨z,rfl,hr⟩|⟨z,rfl,hr⟩|⟨z,rfl,rfl⟩|⟨d',rfl,rfl⟩|⟨x',rfl,rfl⟩;exactλS3 σ4 H4 gz jf=>⟨z,S3,hr,gz,o7.trans jf⟩;exactλS3 σ4 H4 gz jf=>⟨z,S3,hr,gz,o7.trans jf⟩;exactλS3 σ4 H4 gz jf=>kc S3 σ4 H4 gz ((aM.same s2).trans jf);exact kc;exact kc;have hn:i=ds.length:=by lia
 refine .inl ⟨qx i z7,?_⟩;rw[hn,xt]at sk;simp only[bS,u4]at sk;subst sk;exact kc W V' H' kx aM.refl
def JP(xc:XC CX X c G T lv)(xs:XS CX T X c EX){body:List Stmt}(ht:cT n c t=O ir)(hb:PSs X body (bu X.K T S₀ H₀ fr EX G ib)):PS X (.While t body [] pos) (bu X.K T S₀ H₀ fr EX G (.whl ir ib)):=λpins s V H D I ⟨B,out,S,hex,si,po⟩=>by
 simp only[ex]at hex;have hc:PT X t (λV H Q=>∃B k,ev G ir (view B)=O (.bl k)/\RE X.K T H (λ_=>False) (view B) V/\∀H',aI H H'->Q k H'):=λpins s V H Q I ⟨B,k,h1,h2,h3⟩=>(cV n).2.1 X c (λ_=>False) (view B) t ir xc ht k h1 pins s V H Q I ⟨h2,h3⟩;refine KP xs.pass hc hb pins s V H D I ⟨λm V' H'=>∃R Si,eM (λB=>ev G ir (view B)) (ex G ib) m R=O out/\SInv X.K T S₀ H₀ Si R V' H'/\aM X.K H H' S Si,⟨5000,B,S,hex,si,aM.refl⟩,?_⟩;rintro m V' H' ⟨R,Si,hw,kx,mv⟩;cases m with
 |zero=>simp[eM]at hw
 |succ m=>
  simp only[eM,uy,u6]at hw;obtain⟨w,hw1,hw⟩:=hw;cases w<;>first|(simp only[reduceCtorEq]at hw;done)|skip
  rename_i k;refine⟨R,k,hw1,kx.re.view,λH2 sm=>?_⟩;have kc:IW X.K T S₀ H₀ fr EX H2 Si D out:=po.step (mv.trans (aM.same sm));cases k with
  |false=>simp only[u4]at hw;subst hw;exact oW (kc Si V' H2 (kx.step sm) aM.refl)
  |true=>
   simp only[u6]at hw;obtain⟨o,ho,hw⟩:=hw;refine yQ ⟨λσ2 H3=>∃z S2,eM (λB=>ev G ir (view B)) (ex G ib) m z=O out/\SInv X.K T S₀ H₀ S2 z σ2 H3/\aM X.K H H3 S S2,λσ2 H3 ⟨z,S2,a,b,c⟩=>⟨m,x9 m,z,S2,a,b,c⟩,R,o,Si,ho,kx.step sm,?_⟩;have o7:=mv.trans (aM.same (K:=X.K) (S:=Si) sm);cases o with
   |nx z=>exactλS3 W H4 gz jf=>⟨z,S3,hw,gz,o7.trans jf⟩
   |ct z=>exactλS3 W H4 gz jf=>⟨z,S3,hw,gz,o7.trans jf⟩
   |bk z=>simp only[u4]at hw;subst hw;exactλS3 W H4 gz jf=>kc S3 W H4 gz jf
   |rt d=>simp only[u4]at hw;subst hw;exact kc
   |er x=>simp only[u4]at hw;subst hw;exact kc
variable {CX:aq}{G:GS}{T:Tx}{lv:Nat}{X:Cx}{c:CC}{S₀:Addr->Prop}{H₀:Hp}{fr:Bool}{EX:Str->Hp->Prop}{pos:Pos}
def WO(h:XC CX X c G T lv){ds:List D}{k:Str}(hg:aV c x=Y)(hf:c.fns.contains x=Y)(ha:PA X es (da X.K T S B ds))(hs:starEach es X.env=es.map λe=>(J,eval e X.env))(hlen:ds.length=es.length) (hd:G.fn x ds=O (.er k)) (hT:T.xc k=O C) (hp:iG CX X E1):PE X (.Call (.Name x p) es [] pos) (λV H Q=>RE X.K T H S B V/\∀H',aI H H'->E1 (.ref C) U H'):=by
 obtain⟨f,fd,ps,hm,hk,hb,hl,F⟩:=h.go.fn x hf;have z:∀V H Q,(RE X.K T H S B V/\∀H',aI H H'->E1 (.ref C) U H')->xJ (i6 X.K T ps.length (G.fn x) (G.ff x)) [] E1 (da X.K T S B ds) V H Q:=λV H Q ⟨re,q⟩=>⟨re,λvs H1 s1 I=>⟨by rw[vx,<-I.len];exact hl ds _ hd,S,ds,(re.same s1).dom,by rw[vx];exact I,.inr ⟨k,C,hd,hT,λH' s2=>q H' (s1.trans s2)⟩⟩⟩;cases es with
 |nil=>refine PE.mono (yE F h.room (h.glob hg) hm hk hb .nil hp (h.gne hg)) λV H Q hq=>?_;obtain⟨re,q⟩:=hq;have R:ds=[]:=vy.mp hlen;subst R;exact(z V H Q ⟨re,q⟩).2 [] H (aI.refl H) aC.nil
 |cons e es=>obtain⟨h1,h2⟩:=pY (pos:=pos) hs;exact PE.mono (DT F h.room (h.glob hg) hm hk hb .nil hp ha (h.gne hg) h1 h2) z
def WL(h:XC CX X c G T lv){ea:Expr}{m:Str}{fs:List (Str×D)}{ds:List D}{apos:Pos}{k:Str}(ht:rR X ea m es apos pos)(ho:PE X ea (tD X.K T S B (.obj cn fs)))(hn:fs.lookup m=U) (ha:PA X es (da X.K T S B ds)) (hs:starEach es X.env=es.map λe=>(J,eval e X.env)) (hlen:ds.length=es.length) (hd:G.me cn m (.obj cn fs::ds)=O (.er k)) (hT:T.xc k=O C) (hp:iG CX X E1):PE X (.Call (.Attribute ea m apos) es [] pos) (λV H Q=>RE X.K T H S B V/\∀H',aI H H'->E1 (.ref C) U H'):=by
 obtain⟨pl,ht⟩:=ht;intro pins s V H Q I ⟨re,q⟩;refine PySem.W.methodCall_KW (pl:=pl) (ai (ho pins s V H (λv H'=>aI H H'/\Rep X.K T H' S (.obj cn fs) v) I ⟨re,λv H' a b=>⟨a,b⟩⟩) λu s1 ⟨x,H1,I1,rx,sm,ro⟩=>?_) ht;have ro':=ro;unfold Rep at ro;obtain⟨p,C',dx,gs,ex,_,ec,e,rf⟩:=ro;subst ex;obtain rfl:u=Value.ref p:=rx;obtain⟨f,fd,ps,hm,hb,hl,F⟩:=h.go.me cn C' m _ _ ec hd;refine qW I1 e (h.go.cls cn C' ec) hm ((cX.look rf).2 hn) ?_;have z:∀(us:List Value) (vs:List σ) (s2:Shared) (H2:Hp),Inv X pins V H2 s2->aX vs us->aI H1 H2->aC X.K T H2 S ds vs->wpAny (model X.prog X.w) X.A (call (.ref f) (.ref p::us)) (EP X pins V Q) X.xe s2:=λus vs s2 H2 I2 r2 R rl=>by refine uX (us:=.ref p::us) (vs:=.ref p::vs) (dvs:=[]) (ds:=[]) (E:=E1) F h.room hb .nil hp I2 (.cons rfl r2) ?_;refine⟨?_,S,.obj cn fs::ds,((re.same sm).same R).dom,?_,.inr ⟨k,C,hd,hT,λH' s3=>q H' ((sm.trans R).trans s3)⟩⟩;have:=hl _ _ hd;simp only[vx,xb]at this ⊢;rw[<-rl.len];exact this;rw[vx];exact aC.cons (ro'.same R) rl
 cases es with
 |nil=>have bj:ds=[]:=vy.mp hlen;subst bj;exact callWith_K0 (first:=[.ref p]) I1.kIn hm.kp (z [] [] s1 H1 I1 .nil (aI.refl _) aC.nil)
 |cons e es=>obtain⟨h1,h2⟩:=pY (pos:=pos) hs;refine callWith_K (first:=[.ref p]) (h₀:=X.base) I.ok.mod.kin hm.kp (ai (ha pos pins s1 V H1 (λvs H'=>aI H1 H'/\aC X.K T H' S ds vs) I1 ⟨re.same sm,λvs H' a b=>⟨a,b⟩⟩) λus s2 ⟨vs,H2,I2,r,R,rl⟩=>⟨I2.kIn,?_⟩) h1 h2;exact z us vs s2 H2 I2 r R rl
def aFs(xc:XC CX X c G T lv){f:Expr}{k:Str}(he:cE n c (.Call f args kw p)=O ir)(hr:ja G ir B=O (.er k))(hT:T.xc k=O C)(hp:iG CX X E1):PE X (.Call f args kw p) (λV H Q=>RE X.K T H S B V/\∀H',aI H H'->E1 (.ref C) U H'):=by
 cases n with
 |zero=>exact nomatch (show U=O ir from he)
 |succ n=>
  obtain⟨hE,jo,hB,hA,hI⟩:=cV (CX:=CX) (G:=G) (T:=T) (lv:=lv) n;obtain⟨nv,he⟩:=aZ he;obtain rfl:=hV nv;cases f<;>first|exact nomatch (show U=O ir from he)|skip
  case Attribute o m ap _=>
   obtain⟨hc,he⟩:=aZ he;obtain⟨hc,hc3⟩:=bL hc;obtain⟨hc1,i0⟩:=bL hc;obtain⟨x,hx,he⟩:=aF he;obtain⟨y,hy,rfl⟩:=aP he;simp only[ja]at hr;split at hr;rename_i cn fs hw;obtain⟨I,hr⟩:=aZ hr;obtain⟨ds,bj,hd⟩:=aF hr;obtain⟨ds',e1,hl,pa,hs⟩:=hA X _ S B args y xc hy _ (cC bj);cases e1;exact WL xc (yK hc1 hs (of_decide_eq_true i0) hc3) (hE X _ S B o x xc hx _ hw).1 (Option.isNone_iff_eq_none.mp I) pa hs hl hd hT hp;cases hr
  case Name x px _=>
   obtain⟨hg,he⟩:=aZ he;cases hf:c.fns.contains x with
   |true=>rw[hf]at he;obtain⟨y,hy,rfl⟩:=aP (show (cA n c args).map (λy=>IE.call x y)=O ir from he);obtain⟨ds,bj,hd⟩:=aF (show (bN (ev G y B)).bind (G.fn x)=O (.er k) from hr);obtain⟨ds',e1,hl,pa,hs⟩:=hA X _ S B args y xc hy _ (cC bj);cases e1;exact WO xc hg hf pa hs hl hd hT hp
   |false=>
    exfalso;rw[hf]at he;have R:∀{o:Option IE} {g:IE->IE},(∀y,ja G (g y) B=U)->o.map g=O ir->False:=λ{o g} hn z=>by obtain⟨y,_,rfl⟩:=aP z;rw[hn y]at hr;cases hr
    cases bp:c.cls.contains x with
    |true=>rw[bp]at he;exact R (g:=λy=>IE.mk x y) (λ_=>rfl) he
    |false=>
     rw[bp]at he;cases hi:x == "isinstance" with
     |true=>
      rw[hi]at he;have he:JZ (cE n c) c args=O ir:=he;match args,he with
      |[a,y],he=>obtain⟨y',_,he⟩:=aF he;obtain⟨_,he⟩:=aZ he;exact R (g:=λz=>IE.y z y'.1) (λ_=>rfl) he
     |false=>
      rw[hi]at he;obtain⟨b,hb,he⟩:=aF (show (pC x).bind (λb=>GN (cE n c) c b args (cA n c args))=O ir from he);unfold GN at he;have nb:∀b:BF,((cA n c args).map λz=>IE.ρ b z)=O ir->False:=λb he=>R (g:=λz=>IE.ρ b z) (λ_=>rfl) he;split at he;rename_i i _;cases b<;>first|exact nb _ he|(cases (show O _=O ir from he);cases hr)
      cases W:AQ c args with
      |none=>
       rw[W]at he;cases hq:(one? args).bind (AO c) with
       |none=>rw[hq]at he;exact nb b (by cases b<;>exact he)
       |some a=>rw[hq]at he;cases b<;>first|exact nb _ he|exact R (g:=λz=>IE.walk .rng (.tup (.cons z .nil))) (λ_=>rfl) he
      |some a=>rw[W]at he;cases b<;>first|exact nb _ he|exact R (g:=λz=>IE.walk .rev z) (λ_=>rfl) he
def SM(xc:XC CX X c G T lv)(xs:XS CX T X c EX){f:Expr}(he:cE n c (.Call f args kw p)=O ir):PS X (.Expr (.Call f args kw p) pos) (bu X.K T S₀ H₀ fr EX G (.drop ir)):=λpins s V H D I ⟨B,out,S,hx,R,po⟩=>by simp only[ex]at hx;split at hx;rename_i d hd;cases hx;exact fI ((cV n).1 X c (λ_=>False) (view B) _ ir xc he d hd).1 rfl pins s V H D I ⟨R.re.view,λv H' sm _=>po S V H' (R.step sm) (aM.same sm)⟩;split at hx;rename_i k hk;split at hx;rename_i hn;cases hx;obtain⟨C,hT⟩:=xc.go.xns k hn;refine fI (aFs (S:=λ_=>False) (E1:=λcls _ H'=>∃k C,T.xc k=O C/\cls=.ref C/\EX k H') xc he hk hT (xs.pss _ λcls H' z=>z)) rfl pins s V H D I ⟨R.re.view,λH' sm=>⟨k,C,hT,rfl,po H' (R.same.trans sm)⟩⟩;cases hx;cases hx
def XC.re{z:Cx}(xc:XC CX X c G T lv)(h1:z.prog=X.prog)(h2:z.w=X.w)(h3:z.K=X.K)(h4:z.mg=X.mg)(h5:z.base=X.base)(h6:z.N=X.N)(h7:z.env=X.env)(h8:z.fn=X.fn)(h9:z.calm=X.calm)(I:z.A=X.A):XC CX z c G T lv:=by obtain⟨pr,w,K,mg,base,A,N,s0,H0,env,outer,stack,ex,fn,calm,pn,xe⟩:=X;obtain⟨pr',w',K',ie,base',A',N',s0',H0',env',W,R,ex',fn',calm',pn',xe'⟩:=z;dsimp only at h1 h2 h3 h4 h5 h6 h7 h8 h9 I;subst h1 h2 h3 h4 h5 h6 h7 h8 h9 I;exact⟨xc.N,xc.nd,xc.kd,xc.own,xc.dbg,xc.gdb,xc.calm,xc.room,⟨xc.go.fn,xc.go.me,xc.go.cls,xc.go.fld,xc.go.mo,xc.go.cst,xc.go.bi,xc.go.xcl,xc.go.frs,xc.go.cx0,xc.go.cxf,xc.go.xns,xc.go.xk,xc.go.sub,xc.go.wd,xc.go.dk⟩⟩
abbrev UY(X:Cx)(pins:ya)(W:y9):Cx:={X with pn:=X.pn++pins,xe:=W}
def aCF{W:y9}(I:Inv X pins V H s):Inv (UY X pins W) [] V H s:=⟨⟨I.ok.mod,I.ok.kind,I.ok.glob,I.ok.blt,I.ok.above,I.ok.inj,I.ok.has,I.ok.cab,I.ok.hd,I.ok.frames,I.ok.stk,I.ok.exf,I.ok.bs,I.ok.bsz,I.ok.noex,I.ok.exfs,I.ok.funs,I.ok.frf⟩,I.os,I.bare,I.base,I.loc,I.cell,I.free,I.freeC,λp hp=>I.pin p (by simpa using hp),I.hok,I.len⟩
def MZ{z:ya}{W:y9}(ok:X.Ok)(I:Inv (UY X pins W) z V H s):Inv X pins V H s:=⟨ok,I.os,I.bare,I.base,I.loc,I.cell,I.free,I.freeC,λp hp=>I.pin p (wo _ hp),I.hok,I.len⟩
def aDe{d:D}(h:ja G ir B=O (.ok d)):ev G ir B=O d:=by
 cases ir<;>simp only[ja,reduceCtorEq]at h
 simp only[ev,uy];cases q:bN (ev G _ B) with
 |none=>rw[q]at h;cases h
 |some as=>rw[q]at h;show iJ (G.fn _ as)=_;rw[show G.fn _ as=_ from h];rfl
 simp only[ev,uy];split at h;rename_i c fs hw;rw[hw];split at h;rename_i hn;show (if _ then _ else _)=_;rw[if_pos hn];cases q:bN (ev G _ B) with
 |none=>rw[q]at h;cases h
 |some as=>rw[q]at h;show iJ (G.me _ _ _)=_;rw[show G.me _ _ _=_ from h];rfl
 cases h;cases h
def YL{nm:Option Str}{f:Str}(h:cW c nm e=O f):∃p1 y p2 p3,e=.Call (.Name f p1) [.Name y p2] [] p3/\nm=O y/\aV c f=Y:=by obtain⟨q,h1,h⟩:=aF h;obtain⟨g,h2,h⟩:=aF h;obtain⟨a,h3,h⟩:=aF h;obtain⟨y,h4,h⟩:=aF h;obtain⟨h5,h⟩:=aZ h;obtain⟨h5,z⟩:=bL h5;obtain⟨h5,h6⟩:=bL h5;cases h;exact⟨g.2,y.1,y.2,q.2.2.2,by rw[dA h1,bR h2,bV h3,bR h4,hV h5],wb.mp h6,z⟩
def JA(xc:XC CX X c G T lv){a:Addr}{k:Str}{σ0:L2.St}{H1:Hp}{f:Str}{p3:Pos}(hT:T.xc k=O C)(h1:c.N[i]?=O y)(h2:c.sc.names.lookup y=O .local)(h3:(y == ("__debug__":Str))=J)(h4:(y == ("__classdict__":Str))=J)(h5:σ0[i]?=O (O (σ.ref a)))(hx:H1 a=O (.ext (isExc a C)))(hg:aV c f=Y)(hw:G.wd f k=O x):PE (iM X a) (.Call (.Name f p1) [.Name y p2] [] p3) (λI mh Q=>I=σ0/\mh=H1/\∀H',aI H1 H'->Q (.str x) H'):=by
 obtain⟨fa,fd,ps,j,z,hm,hk,hb,F⟩:=xc.go.wd f k x C hT hw;have kd:X.env.kindOf y=O .local:=by have:=xc.kd y;rw[h2]at this;exact this
 have pv:PE (iM X a) (.Name y p2) (pV i):=lN (X:=iM X a) (by show X.N[i]?=_;rw[xc.N];exact h1) (.inl kd) h3 h4;have R:RoomM j (iM X a).A:=⟨((ZF xc.room).mono z).dp,((ZF xc.room).mono z).un⟩;refine PE.mono (LC (X:=iM X a) F R (xc.glob hg) hm hk hb (aW pv cP) (xc.gne hg) rfl rfl) λI mh Q W=>?_;obtain⟨rfl,rfl,q⟩:=W;exact⟨.ref a,h5,a,rfl,hx,q⟩
def WN(h:XC CX X c G T lv){R:Expr}{ds:List D}{k:Str}{σ0:L2.St}(hg:aV c x=Y)(hf:c.fns.contains x=Y)(ha:PA X (R::es) (da X.K T S B ds))(hs:starEach (R::es) X.env=(R::es).map λe=>(J,eval e X.env)) (hd:G.fn x ds=O (.er k)) (hT:T.xc k=O C) (hp:∀pins H s e s',Inv X pins σ0 H s->CX X.stack H s E1 e s'->X.xe e s'):PE X (.Call (.Name x p) (R::es) [] pos) (λV H Q=>V=σ0/\RE X.K T H S B V/\∀H',aI H H'->E1 (.ref C) U H'):=by
 obtain⟨f,fd,ps,hm,hk,hb,hl,F⟩:=h.go.fn x hf;obtain⟨h1,h2⟩:=pY (pos:=pos) hs;intro pins s V H Q I ⟨z,re,q⟩;subst z;refine wpAny_Call_Name_kw (dZ I (h.glob hg) hm ?_ (h.gne hg));refine callWith_K (h₀:=X.base) I.ok.mod.kin hk (ai (ha pos pins s V H (λvs H1=>i6 X.K T ps.length (G.fn x) (G.ff x) vs H1 Q E1) I ⟨re,λvs H1 s1 W=>⟨by rw[<-W.len];exact hl ds _ hd,S,ds,(re.same s1).dom,W,.inr ⟨k,C,hd,hT,λH' s2=>q H' (s1.trans s2)⟩⟩⟩) λus s1 ⟨vs,H1,I1,r,q⟩=>⟨I1.kIn,?_⟩) h1 h2;have ik:(us++[]).length=ps.length:=by rw[vx,<-r.length];exact F.len _ _ _ _ q
 have oj:=hb s1 us I1.kIn ik;rw[vx]at oj;refine wpAny_call (codeAny_mono (F.run X.A X.stack s1 H1 ⟨us,[]⟩ us vs Q E1 h.room I1.env0 oj r q) λr s' hq=>?_);cases r with
 |error e=>exact hp pins H1 s1 e s' I1 hq
 |ok fl=>
  cases fl with
  |ret u=>exact I1.after hq
  |next=>exact False.elim hq
  |brk=>exact False.elim hq
  |cont=>exact False.elim hq
def SC(xc:XC CX X c G T lv)(xs:XS CX T X c EX){f:Str}{a0:Expr}{ep np rp hp p0 p3 p4 p5 p6:Pos}{w:Str}{nm:Str}{j:Nat}(hg:aV c x=Y)(hn:cN c (O nm)=O (O i))(hw:aV c w=Y)(hy:bE c y=O j)(hl:(p2.endLine == p3.line)=Y)(hf:c.fns.contains f=Y)(he:cE n c (.Call (.Name f p0) (a0::args) kw p)=O ir):PS X (.Try [.Expr (.Call (.Name f p0) (a0::args) kw p) ep] [.ExceptHandler (O (.Name x np)) (O nm) [.Expr (.Call (.Attribute (.Name y p1) "append" p2) [.Call (.Name w p4) [.Name nm p5] [] p6] [] p3) rp] hp] [] [] pos) (bu X.K T S₀ H₀ fr EX G (.tryp ir x i w j)):=λpins s V H D I ⟨B,out,S,hx,si,po⟩=>by
 refine wpAny_Try_except ?_;obtain⟨q,hq,hx⟩:=aF (show (ja G ir (view B)).bind _=O out from hx);cases q with
 |ok d=>
  cases (show O _=O out from hx);have oh:ev G ir (view B)=O d:=aDe hq;have pn:PSs X.nox [.Expr (.Call (.Name f p0) (a0::args) kw p) ep] (ZD (tD X.K T (λ_=>False) (view B) d)):=gZ (fI ((cV n).1 X.nox c (λ_=>False) (view B) _ ir (xc.re rfl rfl rfl rfl rfl rfl rfl rfl rfl rfl) he d oh).1 rfl);refine wx (pn pins s V H {nx:=λV' H'=>D.nx V' H',rt:=λ_ _=>False} (I.wish _) ⟨si.re.view,λv H' sm _=>po S V H' (si.step sm) (aM.same sm)⟩) (λfl s1 h1=>?_) λ_ _ z=>z.elim;cases fl with
  |next=>obtain⟨V',H',I',q⟩:=h1;exact wpAny_execs_nil ⟨V',H',I'.unwish,q⟩
  |brk=>obtain⟨_,_,_,z⟩:=h1;exact z.elim
  |cont=>obtain⟨_,_,_,z⟩:=h1;exact z.elim
  |ret u=>obtain⟨_,_,_,_,_,z⟩:=h1;exact z.elim
 |er k=>
  obtain⟨hb,hx⟩:=aZ hx;obtain⟨z,hz,hx⟩:=aF hx;split at hx
  .rename_i ds hi;split at hx
   .rename_i hlen;cases hx;obtain⟨hb,hb3⟩:=bL hb;obtain⟨om,lu⟩:=bL hb;obtain⟨C,hT⟩:=xc.go.xns k om;obtain⟨L,hL⟩:=xc.go.xns x lu;have vX:=xc.go.sub k x C L hT hL hb3
    have hCx:=xc.go.xk k C hT;have hLx:=xc.go.xk x L hL;have hmL:=xc.go.xcl x L hL;simp only[cN]at hn;split at hn
    .rename_i hc;simp only[va,wb,not_eq_true']at hc;simp only[vc,u4]at hn;obtain⟨ii,sj,rfl⟩:=hn;have hNi:=iZ sj
     have kd:X.env.kindOf nm=O .local:=by have:=xc.kd nm;rw[hc.1.1]at this;exact this
     have hji:j≠ii:=jV hi (λz=>by cases z);obtain⟨hN,hk⟩:=pG hy;have hm:y∈c.N:=u5 hN;have xc1:∀W,XC CX (UY X pins W) c G T lv:=λW=>xc.re rfl rfl rfl rfl rfl rfl rfl rfl rfl rfl;cases n with
     |zero=>exact nomatch (show U=O ir from he)
     |succ n=>
     obtain⟨hE,jo,hB,hA,hI⟩:=cV (CX:=CX) (G:=G) (T:=T) (lv:=lv) n;obtain⟨nv,he⟩:=aZ he;obtain rfl:=hV nv;obtain⟨hgf,he⟩:=aZ he;rw[hf]at he;obtain⟨u,hu,rfl⟩:=aP (show (cA n c (a0::args)).map (λy=>IE.call f y)=O ir from he);obtain⟨ds',bj,hd⟩:=aF (show (bN (ev G u (view B))).bind (G.fn f)=O (.er k) from hq);obtain⟨ds'',e1,jy,pa,hs⟩:=hA (UY X pins (λv s1=>wpAny (model X.prog X.w) X.A (noteFrame v X.env) (λ_ s₂=>wpAny (model X.prog X.w) X.A (setFlight v U) (λ_ s₃=>wpAny (model X.prog X.w) X.A (handleBy v X.env [.ExceptHandler (O (.Name x np)) (O nm) [.Expr (.Call (.Attribute (.Name y p1) "append" p2) [.Call (.Name w p4) [.Name nm p5] [] p6] [] p3) rp] hp]) (SP X pins D) X.xe s₃) X.xe s₂) X.xe s1)) _ (λ_=>False) (view B) (a0::args) u (xc1 _) hu _ (cC bj);cases e1;refine wx (gZ (fI (pos:=ep) (WN (p:=p0) (pos:=p) (σ0:=V) (E1:=λcls _ H'=>cls=.ref C/\aI H H') (xc1 _) hgf hf pa hs hd hT λfi H1 s1 v s2 I1 hcx=>?_) rfl) [] s V H {nx:=λ_ _=>False,rt:=λ_ _=>False} (aCF I) ⟨rfl,si.re.view,λH' sm=>⟨rfl,sm⟩⟩) (λfl s1 h1=>?_) λ_ _ z=>z;obtain⟨a,cls,a0',ρ,H',rfl,F,rfl,sm⟩:=xc.go.cxf _ _ _ _ _ _ hcx;have I2:=MZ I.ok I1;have cw:ii<V.length:=by rw[I2.len,xc.N];exact(u0.mp hNi).1
     have gy:aI H (upd H' a (.ext (isExc a C))):=sm.trans (aI.upd F.new);refine YJ (i:=ii) (D:=D) I2 F xs.stk xs.frm hCx hLx vX (xc.glob hg) (xc.gne hg) hmL (by rw[xc.N];exact xc.nd) (by rw[xc.N];exact hNi) kd (gZ λpins s V' mh D' I hh=>?_);obtain⟨rfl,rfl,rfl⟩:=hh;have si2:=(si.step gy).unset (i:=ii) (v:=O (.ref a));obtain⟨q,ob,e1,e2,e3,rm⟩:=si2.re.at_ j _ hi;obtain⟨zs,rfl,rl⟩:=rm.lst;have pv:PE (iM X a) (.Name y p1) (pV j):=lN (X:=iM X a) (by show X.N[j]?=_;rw[xc.N];exact hN) (xc.vis hk) (xc.dbg y hm).1 (xc.dbg y hm).2;have pw:=JA (p1:=p4) (p2:=p5) (p3:=p6) (x:=z) xc hT hNi hc.1.1 hc.1.2 hc.2 (vi cw) (H1:=upd H' a (.ext (isExc a C))) aL hw hz;refine fI (mK plainAttrs_list PySem.F.slot_list_append PySem.F.type_list_append gJ pv (aW pw cP rfl) rfl rfl hl rfl rfl) rfl pins s _ _ _ I ⟨.ref q,e1,.inl ⟨rfl,zs,SqL.of e3⟩,rfl,rfl,λH3 R=>⟨q,zs,.str z,rfl,rfl,R _ _ e3,?_,?_⟩⟩;rw[<-rl.len];exact ve hlen fC;obtain⟨kb,mv⟩:=(si2.step R).write (ds':=.lst (ds++[.str z])) hi e1 (.inl ⟨_,_,rfl,rfl,(rl.same R).app (aC.cons (by unfold Rep;rfl) aC.nil)⟩);have gz:=kb.unset (i:=ii) (v:=U);rw[List.set_comm _ _ hji,List.set_set]at gz;exact po S _ _ gz ((aM.same (gy.trans R)).trans mv);cases fl with
     |next=>obtain⟨_,_,_,z⟩:=h1;exact z.elim
     |brk=>obtain⟨_,_,_,z⟩:=h1;exact z.elim
     |cont=>obtain⟨_,_,_,z⟩:=h1;exact z.elim
     |ret u=>obtain⟨_,_,_,_,_,z⟩:=h1;exact z.elim
    cases hn
   cases hx
  cases hx
variable {CX:aq}{G:GS}{T:Tx}{lv:Nat}{X:Cx}{c:CC}{S₀:Addr->Prop}{H₀:Hp}{fr:Bool}{EX:Str->Hp->Prop}{pos:Pos}
def aDr(CX:aq)(G:GS)(T:Tx)(lv:Nat)(S₀:Addr->Prop)(H₀:Hp)(fr:Bool)(EX:Str->Hp->Prop)(n:Nat):Prop:=∀(X:Cx) (c:CC) (st:Stmt) (is:IS),XC CX X c G T lv->XS CX T X c EX->cS n c st=O is->(fr=Y->gF is=Y)->PS X st (bu X.K T S₀ H₀ fr EX G is)
def YV(CX:aq)(G:GS)(T:Tx)(lv:Nat)(S₀:Addr->Prop)(H₀:Hp)(fr:Bool)(EX:Str->Hp->Prop)(n:Nat):Prop:=∀(X:Cx) (c:CC) (st:List Stmt) (is:IS),XC CX X c G T lv->XS CX T X c EX->j7 n c st=O is->(fr=Y->gF is=Y)->PSs X st (bu X.K T S₀ H₀ fr EX G is)
def zF{s:Stmt}{x:Expr×Pos}(h:exP s=O x):s=.Expr x.1 x.2:=by cases s<;>first|exact nomatch (show U=O x from h)|(cases (show O _=O x from h);rfl)
def IH{q:Nat×Expr}(h:XW c e=O q):∃x p1 p2 p,e=.Call (.Attribute (.Name x p1) "extend" p2) [q.2] [] p/\bE c x=O q.1/\(p2.endLine == p.line)=Y:=by obtain⟨r,h1,h⟩:=aF h;obtain⟨g,h2,h⟩:=aF h;obtain⟨j,h3,h⟩:=aF h;obtain⟨a,h4,h⟩:=aF h;obtain⟨h5,h⟩:=aZ h;obtain⟨h5,z⟩:=bL h5;obtain⟨h5,h6⟩:=bL h5;cases h;obtain⟨x,p1,e3,hs⟩:=eK h3;refine⟨x,p1,g.2.2,r.2.2.2,?_,hs,z⟩;rw[dA h1,jL h2,bV h4,hV h5,e3,wb.mp h6]
def uN{q:Nat×Expr}(h:RK c e=O q):∃x p1 p2 p,e=.Call (.Attribute (.Name x p1) "append" p2) [q.2] [] p/\bE c x=O q.1/\(p2.endLine == p.line)=Y:=by obtain⟨r,h1,h⟩:=aF h;obtain⟨g,h2,h⟩:=aF h;obtain⟨j,h3,h⟩:=aF h;obtain⟨a,h4,h⟩:=aF h;obtain⟨h5,h⟩:=aZ h;obtain⟨h5,z⟩:=bL h5;obtain⟨h5,h6⟩:=bL h5;cases h;obtain⟨x,p1,e3,hs⟩:=eK h3;refine⟨x,p1,g.2.2,r.2.2.2,?_,hs,z⟩;rw[dA h1,jL h2,bV h4,hV h5,e3,wb.mp h6]
def tH{i:Int}(h:aCG e=O i):∃j p,e=.Constant (.int i) j p:=by obtain⟨⟨v,j,p⟩,h1,h⟩:=aF h;have e1:=uC h1;cases v<;>first|exact nomatch (show U=O i from h)|(cases (show O _=O i from h);exact⟨j,p,e1⟩)
def GD{x:Expr×Expr×Pos}(h:aDZ e=O x):e=.Subscript x.1 x.2.1 x.2.2:=by cases e<;>first|exact nomatch (show U=O x from h)|(cases (show O _=O x from h);rfl)
def IV{q:Nat×Bool×Int}(h:YR c e=O q):∃x p1 W p3 p4 p2 R I p,e=.Call (.Attribute (.Subscript (.Name x p1) (.Constant (.int (if q.2.1 then 1 else 0)) W p3) p4) "append" p2) [.Constant (.int q.2.2) R I] [] p/\bE c x=O q.1/\(p2.endLine == p.line)=Y:=by
 obtain⟨r,h1,h⟩:=aF h;obtain⟨g,h2,h⟩:=aF h;obtain⟨sb,h3,h⟩:=aF h;obtain⟨x,h4,h⟩:=aF h;obtain⟨j,h5,h⟩:=aF h;obtain⟨k,h6,h⟩:=aF h;obtain⟨a,h7,h⟩:=aF h;obtain⟨l,h8,h⟩:=aF h;obtain⟨z,h⟩:=aZ h;obtain⟨z,hk⟩:=bL z;obtain⟨z,he⟩:=bL z;obtain⟨z,_⟩:=bL z;obtain⟨z,hn⟩:=bL z;cases h;obtain⟨W,p3,e6⟩:=tH h6;obtain⟨R,I,e8⟩:=tH h8;have ek:k=if (k == 1)=Y then 1 else 0:=by rw[xg,wb,wb]at hk;rcases hk with rfl|rfl<;>rfl
 refine⟨x.1,x.2,W,p3,sb.2.2,g.2.2,R,I,r.2.2.2,?_,h5,he⟩;show e=.Call (.Attribute (.Subscript (.Name x.1 x.2) (.Constant (.int (if (k == 1)=Y then 1 else 0)) W p3) sb.2.2) "append" g.2.2) [.Constant (.int l) R I] [] r.2.2.2;rw[<-ek,dA h1,jL h2,GD h3,bR h4,bV h7,hV z,e6,e8,wb.mp hn]
def AZ{q:Expr×Expr}(h:ZN c e=O q):∃z tp,e=.Tuple [q.1,q.2] z tp/\dJ c q.1=Y/\dJ c q.2=Y:=by
 obtain⟨⟨es,z,tp⟩,h1,h⟩:=aF h;match es,h1,h with
 |[a,b],h1,h=>obtain⟨h2,h⟩:=aZ h;cases h;exact⟨z,tp,GB h1,(bL h2).1,(bL h2).2⟩
 |[],_,h=>exact nomatch (show U=O q from h)
 |[_],_,h=>exact nomatch (show U=O q from h)
 |_::_::_::_,_,h=>exact nomatch (show U=O q from h)
def JQ(xc:XC CX X c G T lv)(xs:XS CX T X c EX){is:IS}(h:AU (cE n c) c e=O is):PS X (.Expr e pos) (bu X.K T S₀ H₀ fr EX G is):=by obtain⟨r,hr,h⟩:=aF h;obtain⟨u,hu,rfl⟩:=aP h;obtain rfl:=dA hr;exact SM xc xs hu
def aAU(xc:XC CX X c G T lv)(xs:XS CX T X c EX){is:IS}(h:ZI (cE n c) c e t=O is):PS X (.Assign [t] e pos) (bu X.K T S₀ H₀ fr EX G is):=by
 cases t<;>first|exact nomatch (show U=O is from h)|skip
 case Name x p=>
  obtain⟨i,hx,h⟩:=aF h;unfold KC at h;split at h;rename_i hz;obtain⟨y,hy,rfl⟩:=aP h;exact SE xc hx hy (bL (bL hz).1).2 (bL hz).2;split at h;split at h;rename_i hz;cases h;unfold EK at hz;split at hz;exact SG xc hx;cases hz;obtain⟨hf,h⟩:=aZ h;obtain⟨y,hy,rfl⟩:=aP h;exact SF xc hx hy hf;obtain⟨y,hy,rfl⟩:=aP h;exact aAK xc hx hy
 case Subscript a i p=>
  obtain⟨j,hj,h⟩:=aF h;obtain⟨k,R,h⟩:=aF h;obtain⟨y,hy,rfl⟩:=aP h;obtain⟨x,p1,rfl,hs⟩:=eK hj;exact aAP xc hs R hy
 case Tuple ts k p=>
  have h:AR (cE n c) c ts e=O is:=h;unfold AR at h;cases I:tupP e with
  |some q=>rw[I]at h;exact nomatch (show U=O is from h)
  |none=>rw[I]at h;obtain⟨is',W,h⟩:=aF h;obtain⟨u,hu,rfl⟩:=aP h;refine SD xc W hu λvs k p z=>?_;subst z;exact nomatch (show O _=U from I)
def aAO(xc:XC CX X c G T lv)(xs:XS CX T X c EX){is:IS}(h:rdR (cE n c) c e=O is)(au:fr=Y->gF is=Y):PS X (.Return (O e) pos) (bu X.K T S₀ H₀ fr EX G is):=by unfold rdR at h;split at h;rename_i q hq;obtain⟨u,hu,h⟩:=aF h;obtain⟨v,hv,rfl⟩:=aP h;obtain⟨R,tp,rfl,f1,f2⟩:=AZ hq;exact SH xc hu hv f1 f2;obtain⟨y,hy,I⟩:=aP h;subst I;exact aAN xc hy (λz=>z) λz=>au z
def GW(R:YV CX G T lv S₀ H₀ fr EX n):aDr CX G T lv S₀ H₀ fr EX (n+1):=by
 intro X c st is xc xs h au;cases st<;>first|exact nomatch (show U=O is from h)|skip
 case Pass q=>cases (show O IS.nop=O is from h);exact SL
 case Return v q=>
  cases v with
  |none=>cases (show O IS.retn=O is from h);exact SI
  |some e=>
   have h:(match eU c e with|some i=>O (IS.M i)|none=>rdR (cE n c) c e)=O is:=h;cases hm:eU c e with
   |some i=>rw[hm]at h;cases h;obtain⟨x,p,rfl,hs⟩:=eK hm;exact SJ xc hs
   |none=>rw[hm]at h;exact aAO xc xs h au
 case Assign ts e q=>
  obtain⟨t,ht,h⟩:=aF h;obtain rfl:=bV ht;exact aAU xc xs h
 case If t a b q=>
  obtain⟨u,hu,h⟩:=aF h;obtain⟨v,hv,h⟩:=aF h;obtain⟨w,hw,h⟩:=aP h;cases hrf:c.mus.contains "told" with
  |true=>rw[hrf]at h;obtain rfl:is=IS.ifw u v w:=h;have W:fr=Y->gF v=Y/\gF w=Y:=λz=>bL (au z);exact aAR xc hu (R X _ a v xc xs hv λz=>(W z).1) (R X _ b w xc xs hw λz=>(W z).2)
  |false=>
  rw[hrf]at h;obtain rfl:is=IS.g u v w:=h;have W:fr=Y->gF v=Y/\gF w=Y:=λz=>bL (au z);exact aEb xc hu (R X _ a v xc xs hv λz=>(W z).1) (R X _ b w xc xs hw λz=>(W z).2)
 case For tg iter body l7 q=>
  obtain⟨he,h⟩:=aZ h;obtain rfl:=hV he;obtain⟨⟨bg,tp⟩,gh,h⟩:=aF h;obtain⟨⟨k,src⟩,hk,h⟩:=aF h;obtain⟨hen,h⟩:=aZ h;have o8:RM k tg:=RX gh hen;obtain⟨v,hv,rfl⟩:=aP h;exact aAS xc xs gh hk o8 (R X _ body v xc xs hv λz=>au z)
 case While t body l7 q=>
  obtain⟨he,h⟩:=aZ h;obtain rfl:=hV he;obtain⟨u,hu,h⟩:=aF h;obtain⟨v,hv,rfl⟩:=aP h;exact JP xc xs hu (R X _ body v xc xs hv λz=>au z)
 case Expr e q=>
  have h:(match YR c e with|some q=>O (IS.appw q.1 q.2.1 (.int q.2.2))|none=>ZH (cE n c) c e (aBg (cE n c) c e))=O is:=h;cases hw:YR c e with
  |some r=>rw[hw]at h;cases h;obtain⟨x,p1,j1,p3,p4,p2,j2,p5,p,rfl,hs,hp⟩:=IV hw;exact SN xc hs hp
  |none=>
  rw[hw]at h;have h:(match XW c e with|some q=>(cE n c q.2).map λx=>IS.ext q.1 x|none=>aBg (cE n c) c e)=O is:=h;cases hx:XW c e with
  |some r=>rw[hx]at h;obtain⟨u,hu,rfl⟩:=aP h;obtain⟨x,p1,p2,p,rfl,hs,hp⟩:=IH hx;exact aAT xc hs hp hu
  |none=>
  rw[hx]at h;have h:(match RK c e with|some q=>(cE n c q.2).map λx=>IS.app q.1 x|none=>AU (cE n c) c e)=O is:=h;cases ha:RK c e with
  |some r=>rw[ha]at h;obtain⟨u,hu,rfl⟩:=aP h;obtain⟨x,p1,p2,p,rfl,hs,hp⟩:=uN ha;exact aAV xc hs hp hu
  |none=>rw[ha]at h;exact JQ xc xs h
 case Raise e f q=>
  obtain⟨e',he,h⟩:=aF h;obtain⟨r,h1,h⟩:=aF h;obtain⟨x,h2,h⟩:=aF h;obtain⟨a,h3,h⟩:=aF h;obtain⟨m,h4,h⟩:=aF h;obtain⟨h5,h⟩:=aZ h;obtain⟨h5,h8⟩:=bL h5;obtain⟨h5,h7⟩:=bL h5;obtain⟨h5,h6⟩:=bL h5;cases h;obtain⟨j,p',ea⟩:=GE h4;rw[he,Option.isNone_iff_eq_none.mp h5,dA h1,bR h2,bV h3,hV h6,ea];exact aAM xs h7 h8
 case Try b hs l7 fin q=>
  obtain⟨h0,h⟩:=aZ h;obtain⟨h1,h2⟩:=bL h0;obtain rfl:=hV h1;obtain rfl:=hV h2;have h:(match tpP c b with|some q=>JY (cE n c) c q hs|none=>U)=O is:=h;cases I:tpP c b with
  |some q=>
   rw[I]at h;match hs,h with
   |[.ExceptHandler ty nm body hp],h=>
    obtain⟨ty',a4,h⟩:=aF h;obtain⟨x,a5,h⟩:=aF h;obtain⟨s',a6,h⟩:=aF h;obtain⟨re,a7,h⟩:=aF h;obtain⟨ap,a8,h⟩:=aF h;obtain⟨w,a9,h⟩:=aF h;obtain⟨hg,h⟩:=aZ h;obtain⟨i',hi,h⟩:=aF h;obtain⟨i,rfl,h⟩:=aF h;obtain⟨u,hu,rfl⟩:=aP h;obtain⟨y,p1,p2,p3,e8,hs8,hp8⟩:=uN a8;obtain⟨p4,y',p5,p6,e9,rfl,hg9⟩:=YL a9;obtain⟨st,b1,h⟩:=aF I;obtain⟨ex,b2,h⟩:=aF h;obtain⟨cl,b3,h⟩:=aF h;obtain⟨fx,b4,h⟩:=aF h;obtain⟨b5,h⟩:=aZ h;cases h;obtain⟨b5,b6⟩:=bL b5;have e3:=dA b3;rw[bR b4]at e3;cases ea:cl.2.1 with
    |nil=>rw[ea]at b6;cases b6
    |cons a0 args=>rw[ea]at e3;rw[e3]at hu;rw[bV b1,zF b2,e3,a4,bR a5,bV a6,zF a7,e8,e9];exact SC xc xs hg hi hg9 hs8 hp8 b5 hu
  |none=>
  rw[I]at h;exact nomatch (show U=O is from h)
def GX(R:aDr CX G T lv S₀ H₀ fr EX n)(W:YV CX G T lv S₀ H₀ fr EX n):YV CX G T lv S₀ H₀ fr EX (n+1):=by intro X c st is xc xs h au;rcases st with _|⟨s,_|⟨s2,r⟩⟩;cases (show O IS.nop=O is from h);exact aAQ;exact gZ (R X c s is xc xs h au);obtain⟨u,hu,h⟩:=aF h;obtain⟨v,hv,rfl⟩:=aP h;have I:fr=Y->gF u=Y/\gF v=Y:=λz=>bL (au z);exact aAL (R X c s u xc xs hu λz=>(I z).1) (W X c (s2::r) v xc xs hv λz=>(I z).2)
theorem iW:∀n,aDr CX G T lv S₀ H₀ fr EX n/\YV CX G T lv S₀ H₀ fr EX n
 | 0=>⟨λX c st is xc xs h=>(nomatch (show U=O is from h)),λX c st is xc xs h=>(nomatch (show U=O is from h))⟩
 |n+1=>⟨GW (iW n).2,GX (iW n).1 (iW n).2⟩
variable {CX:aq}{G:GS}{T:Tx}{lv:Nat}
noncomputable def fQ(n:Nat)(ds:List D):List Sl:=ds.map .im++List.replicate (n-ds.length) .un
def mD{ds:List D}{vs:List σ}(dom:∀a,S a->∃o,H a=O o)(W:aC K T H S ds vs):SInv K T S H S (fQ N.length ds) (L2.start N vs) H:=by
 have hl:=W.len;have I:∀(i:Nat) xs,(fQ N.length ds)[i]?≠O (.mu xs):=λi xs e=>by
  unfold fQ at e;by_cases h:i<(ds.map Sl.im).length;rw[xj h,uv]at e;cases h2:ds[i]? with
  |none=>rw[h2]at e;cases e
  |some d=>rw[h2]at e;cases e
  rw[xo z7,getElem?_replicate]at e;split at e<;>cases e
 have R:∀(i:Nat) a b,(fQ N.length ds)[i]?≠O (.ow a b):=λi a b e=>by
  unfold fQ at e;by_cases h:i<(ds.map Sl.im).length;rw[xj h,uv]at e;cases h2:ds[i]? with
  |none=>rw[h2]at e;cases e
  |some d=>rw[h2]at e;cases e
  rw[xo z7,getElem?_replicate]at e;split at e<;>cases e
 refine⟨⟨dom,by simp[fQ,L2.start,hl],λi s e=>?_⟩,dom,λ_ z=>z,aI.refl H,λi j xs ys p h=>absurd h (I i xs),λi xs p h=>absurd h (I i xs),λi a b h=>absurd h (R i a b)⟩;unfold fQ at e;unfold L2.start;by_cases h:i<(ds.map Sl.im).length;rw[xj h,uv]at e;cases h2:ds[i]? with
 |none=>rw[h2]at e;cases e
 |some d=>rw[h2]at e;cases e;obtain⟨v,h3,r⟩:=W.get h2;exact⟨v,by rw[xj (by rw[uw]at h ⊢;lia),uv,h3];rfl,r⟩
 rw[xo z7,getElem?_replicate]at e;split at e;cases e;trivial;cases e
def yP(k:Option NameKind):xA k k:=by
 cases k with
 |none=>trivial
 |some k=>cases k<;>first|rfl|trivial|exact .inl rfl
def lF(c:CC)(sc:Scope):Bool:=c.N.all (λx=>!(x == ("__debug__":Str))&&!(x == ("__classdict__":Str)))&&!(aV c "__debug__")
def AE{P:y8}{mg:yb}{base:Heap}{cd:Value}{outer:List Env}{E:XK}(hN:c.N=N)(z:c.sc=sc)(fs:af N ps sc)(hk:lF c sc=Y) (hr:Room lv (A.deeper (envOfC qual sc s.heap.objs.size f cd))) (go:qg CX (lC CX P w K mg base N qual sc f cd A outer s H E).nox c G T lv):XC CX (lC CX P w K mg base N qual sc f cd A outer s H E).nox c G T lv:=by unfold lF at hk;rw[va,all_eq_true]at hk;refine⟨hN.symm,by rw[hN];exact fs.nd,λx=>?_,λ_ _=>rfl,λx hx=>?_,?_,rfl,hr,go⟩;rw[z];exact yP _;have:=hk.1 x hx;simpa using this;simpa using hk.2
def aCP{P:y8}{mg:yb}{base:Heap}{st:Stmt}{ir:IS}{fr:Bool}(F:Fun K x qual st f fd)(fs:af N ps (aE st))(hN:c.N=N)(nj:c.sc=aE st)(hk:lF c (aE st)=Y) (jl:j7 n c (bA st)=O ir) (au:fr=Y->gF ir=Y) (go:∀(X:Cx),X.prog=P->X.w=w->X.K=K->X.mg=mg->X.base=base->qg (dS P w) X c G T lv):FnOk P w K mg base (dS P w) (lv+1) f fd ps (i6 K T ps.length (λds=>bK G N.length ir ds) fr):=by
 obtain⟨oc,od,kV,doc,pm,an,aT,ct,k8,rfl,lk,fw⟩:=F.ex;refine NT lk fw fs (λvs H Q E h=>h.1) λA outer s H vs Q E hr ax=>?_;obtain⟨hlen,S,ds,dom,rl,R⟩:=ax;have xc:XC (dS P w) (lC (dS P w) P w K mg base N qual (aE st) f aT A outer s H E) c G T lv:=(AE (CX:=dS P w) (E:=E) (P:=P) (w:=w) (mg:=mg) (base:=base) (outer:=outer) (s:=s) (H:=H) (f:=f) (cd:=aT) (qual:=qual) hN nj fs hk hr (go _ rfl rfl rfl rfl rfl)).re rfl rfl rfl rfl rfl rfl rfl rfl rfl rfl;have xs:XS (dS P w) T (lC (dS P w) P w K mg base N qual (aE st) f aT A outer s H E) c (λk H'=>∃C,T.xc k=O C/\E (.ref C) U H'):=by refine⟨fs.kind,PassesOwn.leaving,λy m j p p' q pos hg hc=>?_,λE1 h1=>DV λcls H' z=>?_,rfl,rfl⟩;rintro pins s1 V H1 D I ⟨C,hT,hE⟩;exact yA (W:=λH'=>E (.ref C) U H') rfl (xc.glob hg) (xc.gne hg) (xc.go.xcl y C hT) (xc.go.xk y C hT) (λpins V H s h' e vs I hm hE=>qJ I hm hE) pins s1 V H1 D I hE;obtain⟨k,C,hT,rfl,C',jo,hE⟩:=h1 cls H' z;rw[hT]at jo;cases jo;exact hE
 refine⟨_,(iW (S₀:=S) (H₀:=H) (fr:=fr) n).2 _ c _ ir xc xs jl au,?_⟩;have hs:fQ N.length ds=ds.map .im++List.replicate (N.length-ds.length) .un:=rfl;rcases R with ⟨d,hd,q⟩|⟨e,C,he,hT,q⟩;dsimp only at hd;unfold bK at hd;rw[<-hs]at hd;split at hd;rename_i d' ho;cases hd;exact⟨_,_,S,ho,mD dom rl,λv H' sm r fr'=>q v H' sm r fr'⟩;rename_i B' ho;cases hd;exact⟨_,_,S,ho,mD dom rl,λS' V' H' si mv=>q .non H' si.same (by unfold Rep;rfl) λ_=>⟨λds' z=>(by cases z),λa b z=>(by cases z)⟩⟩;cases hd;cases hd;dsimp only at he;unfold bK at he;rw[<-hs]at he;split at he;cases he;cases he;rename_i k ho;cases he;exact⟨_,_,S,ho,mD dom rl,λH' sm=>⟨C,hT,q H' sm⟩⟩;cases he
structure Nm where
 fns:List Str
 cls:List Str
 csts:List Str
 fresh:List Str
noncomputable def Nm.cc(m:Nm)(N:List Str)(sc:Scope)(mus:List Str):CC:=⟨N,sc,m.fns,m.cls,m.csts,mus,m.fresh⟩
def MOk(P:y8)(w:World)(K:xx)(mg:yb)(base:Heap)(CX:aq)(m:Nm)(G:GS)(T:Tx)(lv:Nat):Prop:=∀(X:Cx) (c:CC),X.prog=P->X.w=w->X.K=K->X.mg=mg->X.base=base->c.fns=m.fns->c.cls=m.cls->c.csts=m.csts->c.fresh=m.fresh->qg CX X c G T lv
noncomputable def Nm.addF(m:Nm)(x:Str)(fr:Bool):Nm:={m with fns:=x::m.fns,fresh:=if fr then x::m.fresh else m.fresh}
noncomputable def GS.addF(G:GS)(x:Str)(g:List D->Option Rs)(fr:Bool):GS:={G with fn:=λy=>if y=x then g else G.fn y,ff:=λy=>if y=x then fr else G.ff y,mf:=λcn y=>if y=x then fr else G.mf cn y}
section
variable {P:y8}{w:World}{K:xx}{mg:yb}{base:Heap}{CX:aq}{m:Nm}{G:GS}{T:Tx}{lv:Nat}
theorem contains_cons{l:List Str}:(x::l).contains y=Y->y=x\/l.contains y=Y:=λh=>by rw[List.contains_cons,xg,wb]at h;exact h
theorem MOk.addF(h:MOk P w K mg base CX m G T lv){g:List D->Option Rs}{fr:Bool}(hn:m.fns.contains x=J)(kh:∀cn ds,G.me cn x ds=U)(kg:m.fresh.contains x=J) (hm:mg x=O (.ref f)) (hk:keepIn K (.ref f)=Y) (hb:Binds K fd ps []) (hl:∀ds r,g ds=O r->ds.length=ps.length) (F:FnOk P w K mg base CX (lv+1) f fd ps (i6 K T ps.length g fr)):MOk P w K mg base CX (m.addF x fr) (G.addF x g fr) T (lv+1):=by
 intro X c e1 e2 e3 e4 e5 e6 e7 e8 e9;subst e1 e2 e3 e4 e5;have o:=h X {c with fns:=m.fns,fresh:=m.fresh} rfl rfl rfl rfl rfl rfl e7 e8 rfl;refine⟨λy hy=>?_,λcn C mm ds r hT hr=>?_,o.cls,o.fld,λy hy ds d hd=>?_,λy d hd hc=>o.cst y d hd hc,λy hy h1 h2=>?_,o.xcl,λy hy=>?_,o.cx0,o.cxf,o.xns,o.xk,o.sub,λf k x C h1 h2=>let ⟨a,b,c,j,d,e⟩:=o.wd f k x C h1 h2;⟨a,b,c,j,le_succ_of_le d,e⟩,o.dk⟩;rw[e6]at hy;by_cases e:y=x;subst e;refine⟨f,fd,ps,hm,hk,hb,?_,?_⟩;intro ds r hr;simp only[GS.addF,if_true]at hr;exact hl ds r hr;simp only[GS.addF,if_true];exact F;rcases contains_cons hy with z|z;exact absurd z e;obtain⟨I,W,R,a1,a2,a3,a4,a5⟩:=o.fn y z;refine⟨I,W,R,a1,a2,a3,?_,?_⟩;intro ds r hr;simp only[GS.addF,if_neg e]at hr;exact a4 ds r hr;simp only[GS.addF,if_neg e];exact a5.mono (x6 _);have f9:mm≠x:=by rintro rfl;have:G.me cn mm ds=O r:=hr;rw[kh]at this;cases this
 obtain⟨I,W,R,a1,a2,a3,a4⟩:=o.me cn C mm ds r hT hr;refine⟨I,W,R,a1,a2,a3,?_⟩;simp only[GS.addF,if_neg f9];exact a4.mono (x6 _);obtain⟨C,I,W,R,j,a1,a2⟩:=o.mo y hy ds d hd;exact⟨C,I,W,R,j,le_succ_of_le a1,a2⟩;refine o.bi y hy ?_ h2;rw[e6]at h1;rw[Nm.addF,List.contains_cons,Bool.or_eq_false_iff]at h1;exact h1.2;rw[e9]at hy;by_cases e:y=x;subst e;cases au:fr with
 |true=>exact⟨by simp[GS.addF],λcn=>by simp[GS.addF]⟩
 |false=>exfalso;rw[au]at hy;have:m.fresh.contains y=Y:=hy;rw[kg]at this;cases this
 have:m.fresh.contains y=Y:=by unfold Nm.addF at hy;simp only at hy;split at hy;rcases contains_cons hy with z|z;exact absurd z e;exact z;exact hy
 obtain⟨b1,b2⟩:=o.frs y this;exact⟨by simp only[GS.addF,if_neg e];exact b1,λcn=>by simp only[GS.addF,if_neg e];exact b2 cn⟩
noncomputable def Nm.addM(m:Nm)(x:Str)(fr:Bool):Nm:={m with fresh:=if fr then x::m.fresh else m.fresh}
noncomputable def GS.addM(G:GS)(cn x:Str)(g:List D->Option Rs)(fr:Bool):GS:={G with me:=λc y=>if c=cn/\y=x then g else G.me c y,ff:=λy=>if y=x then fr else G.ff y,mf:=λc y=>if y=x then fr else G.mf c y}
theorem MOk.addM(h:MOk P w K mg base CX m G T lv){g:List D->Option Rs}{fr:Bool}(hn:m.fns.contains x=J)(kh:∀cn ds,G.me cn x ds=U)(kg:m.fresh.contains x=J) (hT:T.cl cn=O C) (hm:jr K C x f) (hb:Binds K fd ps []) (hl:∀ds r,g ds=O r->ds.length=ps.length) (F:FnOk P w K mg base CX (lv+1) f fd ps (i6 K T ps.length g fr)):MOk P w K mg base CX (m.addM x fr) (G.addM cn x g fr) T (lv+1):=by
 intro X c e1 e2 e3 e4 e5 e6 e7 e8 e9;subst e1 e2 e3 e4 e5;have o:=h X {c with fresh:=m.fresh} rfl rfl rfl rfl rfl e6 e7 e8 rfl;have nfn:∀y,c.fns.contains y=Y->y≠x:=λy hy z=>by subst z;rw[e6]at hy;have dO:m.fns.contains y=Y:=hy;rw[hn]at dO;cases dO
 refine⟨λy hy=>?_,λI C' mm ds r jo hr=>?_,o.cls,o.fld,λy hy ds d hd=>?_,λy d hd hc=>o.cst y d hd hc,λy hy h1 h2=>o.bi y hy h1 h2,o.xcl,λy hy=>?_,o.cx0,o.cxf,o.xns,o.xk,o.sub,λf k x C h1 h2=>let ⟨a,b,c,j,d,e⟩:=o.wd f k x C h1 h2;⟨a,b,c,j,le_succ_of_le d,e⟩,o.dk⟩;have e:=nfn y hy;obtain⟨R,c8,W,a1,a2,a3,a4,a5⟩:=o.fn y hy;refine⟨R,c8,W,a1,a2,a3,a4,?_⟩;simp only[GS.addM,if_neg e];exact a5.mono (x6 _);by_cases e:mm=x;subst e;have ec:I=cn:=by by_cases e:I=cn;exact e;simp only[GS.addM,e,false_and,if_false]at hr;rw[kh]at hr;cases hr
 subst ec;rw[hT]at jo;cases jo;refine⟨f,fd,ps,hm,hb,?_,?_⟩;intro ds r hr;simp only[GS.addM,and_self,if_true]at hr;exact hl ds r hr;simp only[GS.addM,and_self,if_true];exact F;simp only[GS.addM,e,and_false,if_false]at hr;obtain⟨R,c8,W,a1,a2,a3,a4⟩:=o.me I C' mm ds r jo hr;refine⟨R,c8,W,a1,a2,?_,?_⟩;intro ds r hr;simp only[GS.addM,e,and_false,if_false]at hr;exact a3 ds r hr;simp only[GS.addM,e,and_false,if_false];exact a4.mono (x6 _);obtain⟨C,R,c8,W,j,a1,a2⟩:=o.mo y hy ds d hd;exact⟨C,R,c8,W,j,le_succ_of_le a1,a2⟩;rw[e9]at hy;by_cases e:y=x;subst e;cases au:fr with
 |true=>exact⟨by simp[GS.addM],λcn=>by simp[GS.addM]⟩
 |false=>exfalso;rw[au]at hy;have:m.fresh.contains y=Y:=hy;rw[kg]at this;cases this
 have:m.fresh.contains y=Y:=by unfold Nm.addM at hy;simp only at hy;split at hy;rcases contains_cons hy with z|z;exact absurd z e;exact z;exact hy
 obtain⟨b1,b2⟩:=o.frs y this;exact⟨by simp only[GS.addM,if_neg e];exact b1,λcn=>by simp only[GS.addM,if_neg e];exact b2 cn⟩
def BM{o:Option Rs}{r:Rs}{ds:List D}(h:(if ds.length=n then o else U)=O r):ds.length=n:=by by_cases e:ds.length=n;exact e;rw[if_neg e]at h;cases h
def MOk.defF(h:MOk P w K mg base (dS P w) m G T lv){st:Stmt}{mus:List Str}{ir:IS}{fr:Bool}(hn:m.fns.contains x=J)(I:∀cn ds,G.me cn x ds=U)(R:m.fresh.contains x=J)(hm:mg x=O (.ref f))(hb:Binds K fd ps []) (F:Fun K x x st f fd) (fs:af N ps (aE st)) (hk:lF (m.cc N (aE st) mus) (aE st)=Y) (jl:j7 n (m.cc N (aE st) mus) (bA st)=O ir) (au:fr=Y->gF ir=Y):MOk P w K mg base (dS P w) (m.addF x fr) (G.addF x (λds=>if ds.length=ps.length then bK G N.length ir ds else U) fr) T (lv+1):=by
 refine h.addF hn I R hm F.kp hb (λds r hr=>BM hr) ?_;have G1:=aCP (P:=P) (w:=w) (mg:=mg) (base:=base) (T:=T) (lv:=lv) F fs (c:=m.cc N (aE st) mus) rfl rfl hk jl au (λX a1 a2 a3 a4 a5=>h X _ a1 a2 a3 a4 a5 rfl rfl rfl rfl);refine⟨λvs H Q E h=>h.1,λA outer s H args us vs Q E hr e0 W hv ax=>G1.run A outer s H args us vs Q E hr e0 W hv ?_⟩;obtain⟨h1,S,ds,dom,z,hc⟩:=ax;refine⟨h1,S,ds,dom,z,?_⟩;have el:ds.length=ps.length:=by rw[z.len];exact h1
 dsimp only at hc;rw[if_pos el]at hc;exact hc
def MOk.defM(h:MOk P w K mg base (dS P w) m G T lv){st:Stmt}{mus:List Str}{ir:IS}{fr:Bool}(hn:m.fns.contains x=J)(I:∀cn ds,G.me cn x ds=U)(R:m.fresh.contains x=J)(hT:T.cl cn=O C)(hm:jr K C x f)(hb:Binds K fd ps []) (F:Fun K x qual st f fd) (fs:af N ps (aE st)) (hk:lF (m.cc N (aE st) mus) (aE st)=Y) (jl:j7 n (m.cc N (aE st) mus) (bA st)=O ir) (au:fr=Y->gF ir=Y):MOk P w K mg base (dS P w) (m.addM x fr) (G.addM cn x (λds=>if ds.length=ps.length then bK G N.length ir ds else U) fr) T (lv+1):=by
 refine h.addM hn I R hT hm hb (λds r hr=>BM hr) ?_;have G1:=aCP (P:=P) (w:=w) (mg:=mg) (base:=base) (T:=T) (lv:=lv) F fs (c:=m.cc N (aE st) mus) rfl rfl hk jl au (λX a1 a2 a3 a4 a5=>h X _ a1 a2 a3 a4 a5 rfl rfl rfl rfl);refine⟨λvs H Q E h=>h.1,λA outer s H args us vs Q E hr e0 W hv ax=>G1.run A outer s H args us vs Q E hr e0 W hv ?_⟩;obtain⟨h1,S,ds,dom,z,hc⟩:=ax;refine⟨h1,S,ds,dom,z,?_⟩;have el:ds.length=ps.length:=by rw[z.len];exact h1
 dsimp only at hc;rw[if_pos el]at hc;exact hc
end
end Z
namespace L2
open PySem PySem.Spec PyProof.Rows
section
variable {X:Cx}{pins:ya}{V:St}{H:Hp}{s:Shared}{A:Around}{E:y9}{a:Addr}{kvs:List (Key×σ)}{k:Key}{u:Value}
def QS{v:σ}{r:Value}{Q:y9}(I:Inv X pins V H s)(e:H a=O (.dK kvs))(hl:kvs.length<sizeLine)(ry:RelV (kV k) u)(rv:RelV v r) (h1:∀w W s',gW kvs k=O w->Inv X pins V H s'->RelV w W->Q W s') (h2:gW kvs k=U->∀s',Inv X pins V (upd H a (.dK (putK kvs k v))) s'->Q r s'):wpAny (model X.prog X.w) A (call (.builtin "dict.setdefault") [.ref a,u,r]) Q E s:=by
 obtain⟨z,hd,vs,rel,dd⟩:=uA I.hok e;have hz:vs.length<=sizeLine:=by rw[<-rel.length];exact z
 have jy:(putK kvs k v).length<=sizeLine:=by have:=oP kvs k v;lia
 refine call_meetsIn PySem.F.slot_dict_setdefault dd.typeIs PySem.F.entry_dict_setdefault (PySem.F.args_dict_setdefault_3 _ _ _) (PySem.kt_meets_setdefault (bX X.prog X.w) a (EF ry) hd r) ⟨vs,dd,hz,λW hw=>?_,λhn h' ot hs=>?_⟩;cases l:gW kvs k with
 |some w=>obtain⟨w2,R,fe⟩:=jM.some_of (v:=w) (o:=valueAt vs k) (by rw[<-l];exact rel.val k);rw[hw]at R;cases R;exact h1 w W _ l (I.tok _) fe
 |none=>have:=jM.none_of (o:=valueAt vs k) (by rw[<-l];exact rel.val k);rw[hw]at this;cases this
 have he:∃q,h'.get? a=O q:=let ⟨q,_,_,hq,_⟩:=ot;⟨q,hq⟩
 have l:gW kvs k=U:=by
  cases l:gW kvs k with
  |none=>rfl
  |some w=>obtain⟨w2,R,_⟩:=jM.some_of (v:=w) (o:=valueAt vs k) (by rw[<-l];exact rel.val k);rw[hn]at R;cases R
 exact h2 l _ (FM I (by rw[e];exact True.intro) hs he (QN jy hd (rel.put k rv) ot))
end
section
variable {X:Cx}{pins:ya}{V:St}{H:Hp}{s:Shared}{A:Around}{E:y9}{a:Addr}{kvs:List (Key×σ)}
def WU:∀{kvs:List (Key×σ)} {vs:List (Key×Value)},KV kvs vs->∀(i:Nat) (y:σ) (k:Key) (u:Value),(kvs.map (·.2))[i]?=O y->vs[i]?=O (k,u)->RelV y u:=by
 intro kvs vs h;induction h with
 |nil=>intro i y k u e;simp at e
 |cons a b z=>
  intro i y k u e f;cases i with
  |zero=>simp at e f;obtain⟨rfl,rfl⟩:=f;subst e;exact a.2
  |succ i=>exact z i y k u (by simpa using e) (by simpa using f)
def wR{Q:y9}(I:Inv X pins V H s)(hh:A.handled=U)(e:H a=O (.dK kvs))(h:∀(s':Shared) (p:Addr),H p=U->Inv X pins V (upd H p (.lst (kvs.map (·.2)))) s'->Q (.ref p) s'):wpAny (model X.prog X.w) A (call (.builtin "dict.values") [.ref a]) (λu s1=>wpAny (model X.prog X.w) A (call (.type "list") [u]) Q E s1) E s:=by
 obtain⟨z,hd,vs,rel,dd⟩:=uA I.hok e;refine call_meetsIn PySem.F.slot_dict_values dd.typeIs PySem.F.entry_dict_values (PySem.F.args_dict_values_1 _) (meets_dict_values (bX X.prog X.w) a hd) ⟨⟨vs,dd⟩,?_⟩;generalize ij:({s with heap:=s.heap.push {cls:=.type "dict_values",data:=.fields #[.ref a]} }:Shared)=s2;have I2:Inv X pins V H s2:=by subst ij;exact I.kept (t':=s.toks) λb o e=>v3 _ e
 obtain⟨z2,hd2,vs2,R,oq⟩:=uA I2.hok e;obtain⟨ep,hat⟩:=oq.dictAt;have hv:s2.heap.IsValuesView s.heap.objs.size a:=by subst ij;exact⟨_,wy _ rfl,rfl,rfl⟩
 show wpAny _ _ (call (.type "list") [.ref s.heap.objs.size]) Q E _;first|rw[ij]|skip
 refine PySem.W.kdl_call (PySem.W.kdl_values (knd:=bX X.prog X.w) (kvs:=vs2) (ep:=ep)) hh ⟨hv,hat⟩ (by rw[<-R.length];exact z2) λh' tk c9 c' hk j3 d6=>?_;have au:H s2.heap.objs.size=U:=I2.hok.fresh (ux _);refine h _ _ au (I2.laid (λb u e=>hk b u e) (ux _) ⟨by rw[uw];exact z2,c9.toList,c',?_,by rw[j3]⟩);refine Z.uT (by rw[uw,R.length];simp[d6.1]) λi y u e f=>?_;obtain⟨k,hk⟩:=d6.2 i u (by simpa using f);exact WU R i y k u e hk
def rW{i:Nat}{x:Str}{p W pos p2 je:Pos}(hc:X.calm=Y)(hx:PE X (.Name x p) (pV i))(il:Gl X "list")(se:X.mg "list"=U)(R:(W.endLine == pos.line)=Y):PE X (.Call (.Name "list" p2) [.Call (.Attribute (.Name x p) "values" W) [] [] pos] [] je) (λV H Q=>∃a kvs,V[i]?=O (O (.ref a))/\H a=O (.dK kvs)/\∀q,H q=U->Q (.ref q) (upd H q (.lst (kvs.map (·.2))))):=by intro pins s V H Q I ⟨a,kvs,e1,e2,q⟩;refine Call_ (fT I il se Z.pN (vp (Calls.spliced_cons (wpAny_Call_method0_late rfl R (ai (hx pins s V H (λv H'=>v=.ref a/\H'=H) I ⟨.ref a,e1,rfl,rfl⟩) λu s1 ⟨v,H1,I1,rv,ev,eH⟩=>?_))) rfl rfl));subst ev eH;obtain rfl:u=Value.ref a:=rv;obtain⟨h1,h2⟩:=JE (T:="dict") (x:=.ref a) (v:=.ref a) I1 rfl (.inr (.inr (.inl ⟨rfl,.inl ⟨kvs,e2⟩⟩)));exact⟨"dict","dict.values",PySem.F.plainAttrs_dict,PySem.F.slot_dict_values,PySem.F.type_dict_values,h1,h2,Calls.callWith_builtin rfl (PySem.evalArgs_none (wx (wR I1 (I1.ok.hd hc) e2 λs' p hp I'=>⟨.ref p,_,I',rfl,q p hp⟩) (λu s1 h=>Calls.spliced_nil h) λ_ _ z=>z))⟩
def SY:σ->List σ->Hp->VK->Prop:=λx xs H Q=>∃a kvs k v,x=.ref a/\xs=[kV k,v]/\H a=O (.dK kvs)/\kvs.length<sizeLine/\(∀w,gW kvs k=O w->Q w H)/\(gW kvs k=U->Q v (upd H a (.dK (putK kvs k v))))
def HC:MtR X "dict.setdefault" SY:=by
 rintro pins s V H x xs v us Q I rx z ⟨a,kvs,k,w,rfl,rfl,e,hl,h1,h2⟩;obtain rfl:v=Value.ref a:=rx;cases z with
 |cons r1 z=>
  cases z with
  |cons W z=>cases z;exact QS I e hl r1 W (λw w' s' l R fe=>⟨w,H,R,fe,h1 w l⟩) λl s' R=>⟨_,_,R,W,h2 l⟩
end
end L2
namespace Z
open PySem PySem.Spec PyProof.Rows L2
variable {H:Hp}{a f C:Addr}{P:y8}{w:World}{K:xx}{xs:List σ}{ds:List D}{p:D}{as:List Addr}{h:Int}{c m n r:Nat}{is:List Int}{gs:List (Int×List Int)}{kvs:List (Key×σ)}{T:Tx}{S:Addr->Prop}{mg:yb}{base:Heap}{x qual y:Str}{st:Stmt}{fd:y7}{N ps:List Str}{B:List Sl}{sp:List Spot}{e:IE}{v:σ}
def YM:bootBuiltins "enumerate"=O (.type "enumerate"):=z9
def CT{X:Cx}{pins:ya}{V:L2.St}{s:Shared}{h':Heap}{t':Nat}{b:Addr}(I:Inv X pins V H s)(k:∀c o,c≠a->c≠b->s.heap.get? c=O o->h'.get? c=O o)(fa:mX X pins H a)(fb:mX X pins H b):Inv X pins V H {s with heap:=h',toks:=t' }:=by
 have W:∀{c:Addr},c∉[a,b]->c≠a/\c≠b:=λ{c} h=>⟨λz=>h (by simp[z]),λz=>h (by simp[z])⟩;have R:∀c u,H c=O u->c≠a/\c≠b:=λc u e=>⟨λz=>(by rw[z,fa.1]at e;cases e),λz=>(by rw[z,fb.1]at e;cases e)⟩;refine I.step (g':=s.gens) (d':=s.drawn) (ch:=[a,b]) (λc hc=>?_) (λc o _ _ hc e _=>k c o (W hc).1 (W hc).2 e) (λc o _ _ hc e _=>⟨o.slots,k c o (W hc).1 (W hc).2 e⟩) (λ_ _ _ _ n=>n) (λc o hc e=>⟨o,k c o (W hc).1 (W hc).2 e⟩) (λ_ _ e=>e) (λ_ _ _ e=>e) (λc ps e=>⟨#[],by rw[e];simp⟩) (λm hm=>?_) (λc u e=>?_) I.bare;rcases vo.mp hc with rfl|hc;exact⟨fa.2.2.2.1,fa.2.1,fa.2.2.2.2.1,fa.2.2.2.2.2⟩;obtain rfl:=vn.mp hc;exact⟨fb.2.2.2.1,fb.2.1,fb.2.2.2.2.1,fb.2.2.2.2.2⟩;obtain⟨o,es,ep,ho,r⟩:=hm;exact⟨o,es,ep,k _ o (Ne.symm fa.2.1) (Ne.symm fb.2.1) ho,r⟩;refine(I.hok c u e).stay (λd v hd q=>?_) (λ_ q=>q) λ_ _ q=>q;have n:d≠a/\d≠b:=by rcases hd with z|z;rw[z];exact R c u e;exact R d _ z
 exact k d v n.1 n.2 q
def Ite(K:xx)(a:Addr):It:=⟨λi H=>∃xs x,SqL K H a xs/\xs[i]?=O x,λi H x H'=>∃p y,x=.ref p/\H p=U/\H'=upd H p (.tup [.int i,y])/\∀xs,SqL K H a xs->xs[i]?=O y,λi H=>∃xs,SqL K H a xs/\xs.length<=i⟩
def GA{es:List Expr}{j:Nat}{q:Pos}(a e it:Addr)(f9:e≠it):Turn P w K (.Tuple es j q) (Ite K a) [e,it] e (λi h=>(∃old,IsEnum h e it (i:Nat) old)/\h.IsListIter it a i) where
 mem:=by simp
 obj:=λi h st b hb=>by
  obtain⟨⟨old,he⟩,hi⟩:=st
  rcases vo.mp hb with rfl|hb
  .exact⟨_,he,λv z=>by
    have z':Data.fields _=Data.cell v:=z
    cases z'⟩
  .obtain rfl:=vn.mp hb;obtain⟨o,e,c,d⟩:=hi;exact⟨o,e,λv z=>by rw[d]at z;cases z⟩
 keep:=λi h h' st k=>⟨let ⟨old,he⟩:=st.1;⟨old,k e Ab _ he⟩,st.2.at λo x=>k it Ab o x⟩
 item:=by
  intro X hP hw hK hc i pins s V H E I hf st hg;subst hP hw hK;obtain⟨xs,x,hq,hx⟩:=hg;obtain⟨its,rv,p,hz⟩:=I.list hq;obtain⟨u,hu,ru⟩:=rv.get hx;obtain⟨⟨old,he⟩,hi⟩:=st;have hT:=I.hok.fresh (ux s.heap.objs.size)
  have eT:e≠s.heap.objs.size:=wj (vk he)
  have iT:it≠s.heap.objs.size:=by obtain⟨o,e',_⟩:=hi;exact wj (vk e')
  refine wpAny_pyNext_enum_item he hi p.isList (x:=u) (by simpa using hu) f9 λh1 ho hi1 hT1 hsz hk=>?_
  refine⟨_,rfl,wpAny_letOwnedTupleGo_enum (s:={s with heap:=h1,toks:=s.toks+1}) ho λh2 he2 hs=>?_⟩
  have I1:Inv X pins V (upd H s.heap.objs.size (.tup [.int i,x])) {s with heap:=s.heap.push {cls:=.type "tuple",data:=.seq #[.int i s.toks,u]},toks:=s.toks}:=
   I.laid (λb o e=>v3 _ e) (ux _) ⟨vm (show 2<=big from by decide) fC,[.int i s.toks,u],.cons ⟨_,rfl⟩ (.cons ru .nil),⟨_,wy _ rfl,rfl,_,rfl⟩⟩
  have fo:∀b,b∈[e,it]->b≠s.heap.objs.size->mX X pins (upd H s.heap.objs.size (.tup [.int i,x])) b:=λb hb hn=>by
   obtain⟨f0,f1⟩:=hf b hb;exact⟨(aK hn).trans f0,f1⟩
  have I2:Inv X pins V (upd H s.heap.objs.size (.tup [.int i,x])) {s with heap:=h2,toks:=s.toks+1}:=by
   have q:=CT (h':=h2) (t':=s.toks+1) I1 (λb o n1 n2 eb=>by
    rw[hs.2 b n1]
    rcases Heap.get?_push_cases eb with ⟨rfl,rfl⟩|eb
    .exact hT1
    .exact hk b o n1 n2 eb) (fo e Ab eT) (fo it Ab iT)
   exact q
  refine⟨.ref s.heap.objs.size,_,I2,rfl,⟨_,x,rfl,hT,rfl,λys hy=>by rw[I.list_inj hy hq];exact hx⟩,⟨⟨_,by simpa using he2⟩,hi1.at λo y=>(hs.2 it f9.symm).trans y⟩,λb hb=>?_⟩
  rcases vo.mp hb with rfl|hb
  .exact(fo b Ab eT).1
  .obtain rfl:=vn.mp hb;exact(fo b Ab iT).1
 done:=by
  intro X hP hw hK hc i pins s V H E I hf st hg;subst hP hw hK;obtain⟨xs,hq,hx⟩:=hg;obtain⟨its,rv,p,hz⟩:=I.list hq;obtain⟨⟨old,he⟩,hi⟩:=st;have hl:=rv.length
  exact wpAny_pyNext_enum_end (I.ok.hd hc) he hi p.isList (by simp;lia) λh' eb=>⟨rfl,CT I (t':=s.toks) (λb o n1 n2 y=>eb b o n2 y) (hf e Ab) (hf it Ab)⟩
 self:=λ_ _ _ _ _ st h=>let ⟨_,he⟩:=st.1;wpAny_pyIter_enum he h
section
variable {CX:aq}{X:Cx}{c:CC}{G:GS}{T:Tx}{lv:Nat}{B:List Sl}{S:Addr->Prop}
theorem tY:∀{ds:List D} {k i:Nat} {d:D},(mS k ds)[i]?=O d->∃d',ds[i]?=O d'/\d=.tup [.int (k+i:Nat),d']
 |[],k,i,d,h=>by cases i<;>cases h
 |x::r,k,0,d,h=>by cases h;exact⟨x,rfl,rfl⟩
 |x::r,k,i+1,d,h=>by obtain⟨d',e1,e2⟩:=tY (ds:=r) (k:=k+1) (i:=i) h;exact⟨d',e1,by rw[e2,show k+1+i=k+(i+1) by lia]⟩
theorem kZ:∀{ds:List D} {k:Nat},(mS k ds).length=ds.length
 |[],_=>rfl
 |x::r,k=>congrArg (· + 1) (kZ (ds:=r) (k:=k+1))
def MU{H1:Hp}(n:¬S a)(hq:SqL X.K H1 a xs)(r:aC X.K T H1 S ds xs):kn X.K T S H1 (Ite X.K a) (mS 0 ds):=λH S' mv dom=>by obtain⟨W,k⟩:=mv a n (SqL.has hq);have z:=SqL.keeps hq k;refine⟨λi d e=>?_,λi hi=>⟨xs,z,by rw[<-r.len];rw[kZ]at hi;exact hi⟩⟩;obtain⟨d',e1,rfl⟩:=tY e;obtain⟨x,e2,I⟩:=r.get e1;refine⟨⟨xs,x,z,e2⟩,λv H' hy=>?_⟩;obtain⟨p,y,rfl,hp,rfl,R⟩:=hy;have:=R xs z;rw[e2]at this;cases this;rw[vq];exact⟨aI.upd hp,fM dom hp (aC.cons (by unfold Rep;rfl) (aC.cons (Rep.gen mv d' x I) aC.nil))⟩
def KY{a:Expr}{p pos q:Pos}{d:D}{es:List Expr}{j:Nat}(hg:Gl X "enumerate")(hm:X.mg "enumerate"=U)(ha:PA X [a] (da X.K T S B [d]))(hs:starEach [a] X.env=[(J,eval a X.env)])(hi:BQ d=O ds):PI X (.Tuple es j q) (.Call (.Name "enumerate" p) [a] [] pos) (tI X.K T S B ds):=by
 intro pins s V H R I ⟨re,q⟩;refine Call_ (fT I hg hm YM (vp (ai (ha pos pins s V H (λvs H'=>aI H H'/\aC X.K T H' S [d] vs) I ⟨re,λvs H' a b=>⟨a,b⟩⟩) λus s1 ⟨vs,H1,I1,r1,sm,z⟩=>?_) hs rfl));unfold aC at z;obtain⟨x,r',rfl,rx,W⟩:=z;unfold aC at W;subst W;cases r1 with
 |cons r W=>
  cases W;cases d<;>simp only[BQ,reduceCtorEq,u4]at hi
  rename_i ds';subst hi;unfold Rep at rx;obtain⟨l,xs,e,n,hq,z⟩:=rx;subst e;cases r;obtain⟨its,rv,pl,hz⟩:=I1.list (SqL.of hq);refine call_enumerate_list pl.isList λh' hE hI hsz hk=>?_;refine wpAny_pyIter_enum hE ?_;refine⟨s1.heap.objs.size+1,[s1.heap.objs.size+1,s1.heap.objs.size],_,_,H1,rfl,I1.kept (t':=s1.toks) hk,GA l _ _ (Nat.succ_ne_self _),⟨⟨.none,by simpa using hE⟩,hI⟩,λb hb=>?_,q _ _ sm (MU n (SqL.of hq) z) ?_⟩;have hb:s1.heap.objs.size<=b:=by rcases vo.mp hb with rfl|hb;exact x6 _;rw[vn.mp hb];exact ux _
  exact I1.fpOk hb (I1.hok.fresh hb);rw[kZ,z.len];exact hz
end
noncomputable def dR(h c:Int):List (Int×List Int)->List (Int×List Int)
 |[]=>[(h,[c])]
 |g::r=>if g.1=h then(g.1,g.2++[c])::r else g::dR h c r
noncomputable def nT(is:List Int):Nat->List (Int×List Int)
 | 0=>[]
 |i+1=>match is[i]? with
  |some h=>dR h i (nT is i)
  |none=>nT is i
def nI{b:Addr}(m:b∈as)(n:a∉as):b≠a:=λz=>n (by rw[<-z];exact m)
theorem qU{h c:Int}:∀{gs:List (Int×List Int)},(dR h c gs).length<=gs.length+1
 |[]=>ux _
 |g::r=>by unfold dR;split;simp;have:=qU (h:=h) (c:=c) (gs:=r);simp only[xb];lia
theorem qV{is:List Int}:∀i,(nT is i).length<=i
 | 0=>ux _
 |i+1=>by unfold nT;split;have:=qV (is:=is) i;exact vm qU z7;have:=qV (is:=is) i;lia
inductive GR (H:Hp):List (Int×List Int)->List (Key×σ)->List Addr->Prop
 |nil:GR H [] [] []
 |cons {k:Int} {cs:List Int} {gs:List (Int×List Int)} {kvs:List (Key×σ)} {a:Addr} {as:List Addr} (h:H a=O (.lst (cs.map .int))) (n:a∉as) (r:GR H gs kvs as):GR H ((k,cs)::gs) ((Sum.inl k,.ref a)::kvs) (a::as)
def GR.frame{H':Hp}:∀{gs kvs as},GR H gs kvs as->(∀a∈as,∀o,H a=O o->H' a=O o)->GR H' gs kvs as:=by
 intro gs kvs as h;induction h with
 |nil=>intro _;exact .nil
 |cons h n r z=>exactλf=>.cons (f _ x8 _ h) n (z λa m=>f a (v8 _ m))
def GR.len(h:GR H gs kvs as):kvs.length=gs.length:=by
 induction h with
 |nil=>rfl
 |cons _ _ _ z=>simp[z]
def GR.vals(h:GR H gs kvs as):kvs.map (·.2)=as.map .ref:=by
 induction h with
 |nil=>rfl
 |cons _ _ _ z=>simp[z]
def GR.mem(h:GR H gs kvs as):∀a∈as,∃o,H a=O o:=by
 induction h with
 |nil=>intro a m;cases m
 |cons h _ _ z=>intro a m;rcases vo.mp m with rfl|m;exact⟨_,h⟩;exact z a m
def GR.hit{w:σ}(g:GR H gs kvs as)(e:gW kvs (Sum.inl h)=O w):∃(a:Addr) (cs:List Int),w=.ref a/\a∈as/\H a=O (.lst (cs.map .int))/\cs∈gs.map (·.2)/\∀c,GR (upd H a (.lst ((cs.map .int)++[.int c]))) (dR h c gs) kvs as:=by
 induction g with
 |nil=>cases e
 |cons R n r ih=>rename_i k cs gs kvs a as;by_cases ek:k=h;subst ek;rw[iH (p:=((Sum.inl k:Key),σ.ref a)) rfl]at e;cases e;refine⟨a,cs,rfl,x8,R,x8,λc=>?_⟩;unfold dR;rw[if_pos rfl];refine .cons (by rw[aL,xf];rfl) n (r.frame λb m o q=>?_);rw[aK (nI m n)];exact q;rw[iI (p:=((Sum.inl k:Key),σ.ref a)) (λz=>ek (Sum.inl.inj z))]at e;obtain⟨b,I,e1,m,q,W,f⟩:=ih e;refine⟨b,I,e1,v8 _ m,q,v8 _ W,λc=>?_⟩;unfold dR;rw[if_neg ek];exact .cons (by rw[aK (nI m n).symm];exact R) n (f c)
def GR.miss{c:Int}{p:Addr}(g:GR H gs kvs as)(e:gW kvs (Sum.inl h)=U)(hp:H p=O (.lst [.int c]))(np:p∉as):GR H (dR h c gs) (kvs++[(Sum.inl h,.ref p)]) (as++[p]):=by
 induction g with
 |nil=>exact .cons hp Ab .nil
 |cons R n r I=>
  rename_i k cs gs kvs a as;have ek:¬k=h:=λz=>by subst z;rw[iH (p:=((Sum.inl k:Key),σ.ref a)) rfl]at e;cases e
  rw[iI (p:=((Sum.inl k:Key),σ.ref a)) (λz=>ek (Sum.inl.inj z))]at e;unfold dR;rw[if_neg ek];refine .cons R (λm=>?_) (I e λm=>np (v8 _ m));rcases xw.mp m with m|m;exact n m;exact np (by rw[<-vn.mp m];exact x8)
inductive GL (H:Hp):List (List Int)->List Addr->Prop
 |nil:GL H [] []
 |cons {cs:List Int} {gs:List (List Int)} {a:Addr} {as:List Addr} (h:H a=O (.lst (cs.map .int))) (n:a∉as) (r:GL H gs as):GL H (cs::gs) (a::as)
def GR.gl(h:GR H gs kvs as):GL H (gs.map (·.2)) as:=by
 induction h with
 |nil=>exact .nil
 |cons h n _ z=>exact .cons h n z
noncomputable def l0(g:List Int):D:=.lst (g.map .int)
theorem uZ{K:xx}{T:Tx}{H:Hp}{S:Addr->Prop}:∀is:List Int,aC K T H S (is.map D.int) (is.map σ.int)
 |[]=>aC.nil
 |i::is=>aC.cons (by unfold Rep;rfl) (uZ is)
theorem EM{K:xx}{T:Tx}{H:Hp}{S:Addr->Prop}:∀{is:List Int} {xs:List σ},aC K T H S (is.map D.int) xs->xs=is.map σ.int
 |[],xs,h=>by unfold aC at h;exact h
 |i::is,xs,h=>by rw[vz]at h;unfold aC at h;obtain⟨x,r,rfl,h1,h2⟩:=h;unfold Rep at h1;rw[h1,EM h2];rfl
def GL.rep{gs:List (List Int)}(h:GL H gs as):(∀a∈as,¬S a)->aC K T H S (gs.map l0) (as.map .ref):=by
 induction h with
 |nil=>intro _;exact aC.nil
 |cons h _ _ z=>intro f;refine aC.cons ?_ (z λa m=>f a (v8 _ m));unfold l0 Rep;exact⟨_,_,rfl,f _ x8,h,uZ _⟩
noncomputable def vF(p:Nat->Pos):List Stmt:=[.For (.Tuple [.Name "cell" (p 0),.Name "head" (p 1)] 0 (p 2)) (.Call (.Name "enumerate" (p 3)) [.Name "least" (p 4)] [] (p 5)) [.Expr (.Call (.Attribute (.Call (.Attribute (.Name "groups" (p 6)) "setdefault" (p 7)) [.Name "head" (p 8),.List [] (p 9)] [] (p 10)) "append" (p 11)) [.Name "cell" (p 12)] [] (p 13)) (p 14)] [] (p 15),.Return (O (.Call (.Name "list" (p 16)) [.Call (.Attribute (.Name "groups" (p 17)) "values" (p 18)) [] [] (p 19)] [] (p 20))) (p 21)]
structure uj (c:CC) (p:Nat->Pos):Prop where
 least:bE c "least"=O 1
 groups:bE c "groups"=O 3
 cell:bE c "cell"=O 4
 head:bE c "head"=O 5
 tg:dD c (.Tuple [.Name "cell" (p 0),.Name "head" (p 1)] 0 (p 2))=O ([4,5],Y)
 en:aV c "enumerate"=Y
 li:aV c "list"=Y
 en1:c.fns.contains "enumerate"=J
 en2:c.cls.contains "enumerate"=J
 li1:c.fns.contains "list"=J
 li2:c.cls.contains "list"=J
 l1:((p 7).endLine == (p 10).line)=Y
 l2:((p 11).endLine == (p 13).line)=Y
 l3:((p 18).endLine == (p 19).line)=Y
section
variable {CX:aq}{G:GS}{T:Tx}{lv:Nat}{X:Cx}{c:CC}{p:Nat->Pos}
def aDR:TS:=λD V H=>∃(g:Addr) (gs:List (Int×List Int)) (kvs:List (Key×σ)) (as:List Addr) (i:Nat) (h:Int),V[3]?=O (O (.ref g))/\V[4]?=O (O (.int i))/\V[5]?=O (O (.int h))/\H g=O (.dK kvs)/\GR H gs kvs as/\g∉as/\gs.length<=big/\(∀cs∈gs.map (·.2),cs.length<big) /\∀H' I z,(∀b o,b≠g->b∉as->H b=O o->H' b=O o)->(∀b∈z,b∈as\/H b=U)->H' g=O (.dK I)->GR H' (dR h i gs) I z->g∉z->D.nx V H'
def VH(xc:XC CX X c G T lv)(P:uj c p):PSs X [.Expr (.Call (.Attribute (.Call (.Attribute (.Name "groups" (p 6)) "setdefault" (p 7)) [.Name "head" (p 8),.List [] (p 9)] [] (p 10)) "append" (p 11)) [.Name "cell" (p 12)] [] (p 13)) (p 14)] aDR:=by
 refine gZ λpins s V H D I ⟨g,gs,kvs,as,i,h,e3,e4,e5,eg,W,R,hl,hcs,q⟩=>?_;have b1:big<sizeLine:=by rw[sizeLine_eq];decide
 refine fI (mK plainAttrs_list PySem.F.slot_list_append PySem.F.type_list_append gJ (mK PySem.F.plainAttrs_dict PySem.F.slot_dict_setdefault PySem.F.type_dict_setdefault HC (fN xc P.groups) (aW (fN xc P.head) (aW (vD cP) cP rfl) rfl) rfl rfl P.l1 rfl rfl) (aW (fN xc P.cell) cP rfl) rfl rfl P.l2 rfl rfl) rfl pins s V H D I ?_;refine⟨.ref g,e3,.inr (.inr (.inl ⟨rfl,.inl ⟨kvs,eg⟩⟩)),.int h,e5,⟨xq _,λn hn=>?_⟩⟩;have gn:g≠n:=aS eg hn;have na:n∉as:=λm=>by obtain⟨o,z⟩:=W.mem n m;rw[hn]at z;cases z
 refine⟨g,kvs,Sum.inl h,.ref n,rfl,rfl,by rw[aK gn];exact eg,by rw[W.len];exact lt_of_le_of_lt hl b1,λw hw=>?_,λhw=>?_⟩;obtain⟨a,cs,rfl,ma,ha,mc,f⟩:=W.hit hw;have an:a≠n:=aS ha hn;have ga:g≠a:=(nI ma R).symm;refine⟨.inl ⟨rfl,_,SqL.of (by rw[aK an];exact ha)⟩,.int i,e4,a,cs.map .int,.int i,rfl,rfl,by rw[aK an];exact ha,?_,?_⟩;rw[uw];exact Nat.lt_trans (hcs cs mc) b1;refine q _ kvs as (λb o n1 n2 hb=>?_) (λb m=>.inl m) (by rw[aK ga,aK gn];exact eg) ?_ R;rw[aK (nI ma n2).symm,aK (aS hb hn)];exact hb;refine(f i).frame λb m o hb=>?_;by_cases e:b=a;subst e;rw[aL]at hb ⊢;exact hb;rw[aK e]at hb ⊢;rw[aK (aS hb hn)];exact hb;have np:upd (upd H n (.lst [])) g (.dK (putK kvs (Sum.inl h) (.ref n))) n=O (.lst []):=by rw[aK (Ne.symm gn),aL]
 refine⟨.inl ⟨rfl,_,SqL.of np⟩,.int i,e4,n,[],.int i,rfl,rfl,np,lt_of_le_of_lt (xq _) b1,?_⟩;rw[KM _ hw];refine q _ (kvs++[(Sum.inl h,.ref n)]) (as++[n]) (λb o n1 n2 hb=>?_) (λb m=>?_) (by rw[aK gn,aL]) ?_ (λm=>?_);rw[aK (aS hb hn),aK n1,aK (aS hb hn)];exact hb;rcases xw.mp m with m|m;exact .inl m;rw[vn.mp m];exact .inr hn;refine GR.miss (W.frame λb m o hb=>?_) hw (by rw[aL];rfl) na;rw[aK (aS hb hn),aK (nI m R),aK (aS hb hn)];exact hb;rcases xw.mp m with m|m;exact R m;exact gn (vn.mp m)
end
theorem tL{h c:Int}{m:Nat}:∀{gs:List (Int×List Int)},(∀cs∈gs.map (·.2),cs.length<=m)->∀cs∈(dR h c gs).map (·.2),cs.length<=m+1
 |[],_,cs,k=>by
  have:cs=[c]:=by simpa [dR] using k
  rw[this];exact Nat.succ_le_succ (xq _)
 |g::r,f,cs,k=>by unfold dR at k;split at k;rcases vo.mp k with rfl|k;have:=f g.2 x8;simp only[vt,xb,length_nil];lia;exact le_succ_of_le (f cs (v8 _ k));rcases vo.mp k with rfl|k;exact le_succ_of_le (f _ x8);exact tL (λcs k=>f cs (v8 _ k)) cs k
theorem wB{is:List Int}:∀i,∀cs∈(nT is i).map (·.2),cs.length<=i
 | 0,cs,k=>by cases k
 |i+1,cs,k=>by unfold nT at k;split at k;exact tL (wB i) cs k;exact le_succ_of_le (wB i cs k)
theorem zJ:∀{ds:List D} {k i:Nat} {d:D},ds[i]?=O d->(mS k ds)[i]?=O (.tup [.int ((k+i:Nat):Int),d])
 |[],k,i,d,h=>by cases i<;>cases h
 |x::r,k,0,d,h=>by cases h;rfl
 |x::r,k,i+1,d,h=>by have:=zJ (ds:=r) (k:=k+1) (i:=i) h;show (mS (k+1) r)[i]?=_;rw[this,show k+1+i=k+(i+1) by lia]
section
variable {CX:aq}{G:GS}{T:Tx}{lv:Nat}{X:Cx}{c:CC}{p:Nat->Pos}{EX:Str->Hp->Prop}
noncomputable def pcR(is:List Int):List Sl:=[.un,.im (.lst (is.map .int)),.un,.un,.un,.un]
def ZL{g:Addr}{V:L2.St}(hl:V.length=6)(e1:V[1]?=O (O (.ref a)))(I:∃o,H g=O o)(ea:H a=O (.lst (is.map .int)))(ne:a≠g):RE K T H (λb=>b=g) (pcR is) V:=by
 refine⟨λb z=>by rw[z];exact I,hl.symm,λi s e=>?_⟩;match i,e with
 | 0,e=>cases e;trivial
 | 1,e=>cases e;refine⟨_,e1,?_⟩;unfold Rep;exact⟨a,_,rfl,ne,ea,uZ is⟩
 | 2,e=>cases e;trivial
 | 3,e=>cases e;trivial
 | 4,e=>cases e;trivial
 | 5,e=>cases e;trivial
 |i+6,e=>cases e
def tPc:TS:=λD V H=>∃(g a:Addr) (is:List Int),V.length=6/\V[1]?=O (O (.ref a))/\V[3]?=O (O (.ref g))/\H a=O (.lst (is.map .int))/\H g=O (.dK [])/\is.length<big /\∀q as H',(∀b o,b≠g->H b=O o->H' b=O o)->H q=U->H' q=O (.lst (as.map .ref))->GL H' ((nT is is.length).map (·.2)) as->(∀x∈as,H x=U/\x≠q)->D.rt (.ref q) H'
def VI(xc:XC CX X c G T lv)(xs:XS CX T X c EX)(P:uj c p):PSs X (vF p) tPc:=by
 intro pins s V H Dn I ⟨g,a,is,hl,e1,e3,ea,eg,hb,q⟩;have W:a≠g:=λz=>by rw[z,eg]at ea;cases ea
 have me:X.mg "enumerate"=U:=xc.go.bi _ z9 P.en1 P.en2;have ml:X.mg "list"=U:=xc.go.bi _ z9 P.li1 P.li2;have hg:PG X (.Tuple [.Name "cell" (p 0),.Name "head" (p 1)] 0 (p 2)) (gEx X.K T [4,5] Y):=λpins s V H v u Q I r ⟨B,S,ρ1,d,pq,h⟩=>VD xc P.tg pq pins s V H v u Q I r h;have hpa:PA X [.Name "least" (p 4)] (da X.K T (λb=>b=g) (pcR is) [.lst (is.map .int)]):=λpos pins s V H Q I ⟨re,q⟩=>aW (ZQ (S:=λb=>b=g) (B:=pcR is) xc P.least rfl) cP rfl pos pins s V H Q I ⟨re,λv H' sm r=>q [v] H' sm (aC.cons r aC.nil)⟩;refine eQ (KR xs.pass xc.calm (KY (xc.glob P.en) me hpa rfl (ds:=mS 0 (is.map .int)) rfl) hg (VH xc P)) (gZ (lM (rW xc.calm (fN xc P.groups) (xc.glob P.li) ml P.l3))) pins s V H Dn I ?_;refine⟨ZL hl e1 ⟨_,eg⟩ ea W,λæ H1 sm ke hlen=>?_⟩;have k1:∀b o,b≠g->H b=O o->H1 b=O o:=λb o _ e=>sm b o e;refine⟨λi m V' H'=>m=is.length-i/\i<=is.length/\V'.length=6/\V'[1]?=O (O (.ref a))/\V'[3]?=O (O (.ref g))/\∃kvs as,H' g=O (.dK kvs)/\GR H' (nT is i) kvs as/\g∉as/\(∀b o,b≠g->H1 b=O o->H' b=O o)/\∀b∈as,H1 b=U,⟨is.length,rfl,xq _,hl,e1,e3,[],[],sm _ _ eg,.nil,Ab,λb o _ e=>e,Ab⟩,?_⟩;rintro i m V' H' ⟨rfl,hi,jy,e1',e3',kvs,as,ue,gr,ng,kp,fr⟩;have ea':H' a=O (.lst (is.map .int)):=kp a _ W (sm _ _ ea);obtain⟨qy,qx⟩:=ke H' (λb=>b=g) (λb n _=>⟨n,λo e=>kp b o n e⟩) (λb z=>⟨.dK kvs,by rw[z];exact ue⟩);by_cases cw:i<is.length;refine .inr ?_;have hat:is[i]?=O is[i]:=u7 cw;have hd:(mS 0 (is.map D.int))[i]?=O (.tup [.int (i:Nat),.int is[i]]):=by have:=zJ (k:=0) (i:=i) (ds:=is.map D.int) (d:=.int is[i]) (by rw[uv,hat];rfl);rw[vq]at this;exact this
 obtain⟨kl,hy⟩:=qy i _ hd;refine⟨kl,λR H2=>R.length=6/\R[1]?=O (O (.ref a))/\R[3]?=O (O (.ref g))/\∃kvs as,H2 g=O (.dK kvs)/\GR H2 (nT is (i+1)) kvs as/\g∉as/\(∀b o,b≠g->H1 b=O o->H2 b=O o)/\∀b∈as,H1 b=U,λR H2 h=>⟨is.length-(i+1),z7,rfl,cw,h⟩,λx H2 qz=>?_⟩;obtain⟨s2,rx⟩:=hy x H2 qz;refine⟨pcR is,λb=>b=g,[.un,.im (.lst (is.map .int)),.un,.un,.im (.int (i:Nat)),.im (.int is[i])],.tup [.int (i:Nat),.int is[i]],rfl,ZL jy e1' ⟨_,s2 _ _ ue⟩ (s2 _ _ ea') W,rx,λσ3 k6 ag=>?_⟩;obtain⟨v4,f4,r4⟩:=k6.at_ 4 _ rfl;obtain⟨v5,f5,r5⟩:=k6.at_ 5 _ rfl;unfold Rep at r4 r5;subst r4 r5;have g1:σ3[1]?=O (O (.ref a)):=(ag 1 Aa).trans e1';have g3:σ3[3]?=O (O (.ref g)):=(ag 3 Aa).trans e3';refine⟨g,nT is i,kvs,as,i,is[i],g3,f4,f5,s2 _ _ ue,gr.frame λb _ o e=>s2 b o e,ng,?_,λcs k=>?_,λH3 bY qc kp' new eg3 gr3 ng3=>⟨k6.len.symm,g1,g3,bY,qc,eg3,?_,ng3,λb o n e=>kp' b o n (λm=>by rw[fr b m]at e;cases e) (s2 b o (kp b o n e)),λb m=>?_⟩⟩;have:=qV (is:=is) i;lia;have:=wB i cs k;lia;unfold nT;rw[hat];exact gr3;rcases new b m with m|hn;exact fr b m;cases e:H1 b with
 |none=>rfl
 |some o=>have:H2 b=O o:=s2 b o (kp b o (nI m ng3) e);rw[hn]at this;cases this
 have hn:i=is.length:=by lia
 subst hn;refine .inl ⟨qx is.length (by rw[kZ,uw];exact ux _),g,kvs,e3',ue,λl iF=>?_⟩;rw[gr.vals];have nl:∀b∈as,b≠l:=λb m z=>by obtain⟨o,hb⟩:=gr.mem b m;rw[z,iF]at hb;cases hb
 have hH:∀b,b≠g->H' b=U->H b=U:=λb n e=>by
  cases z:H b with
  |none=>rfl
  |some o=>have:=kp b o n (sm _ _ z);rw[e]at this;cases this
 have lg:l≠g:=λz=>by rw[z,ue]at iF;cases iF
 refine q l as _ (λb o n e=>?_) (hH l lg iF) aL ((gr.frame λb m o e=>by rw[aK (nl b m)];exact e).gl) λx m=>⟨?_,nl x m⟩;rw[aK (aS (kp b o n (sm _ _ e)) iF)];exact kp b o n (sm _ _ e);exact sm.free (fr x m)
end
def jw(G:GS)(W R:IS)(ds:List D):Option (List (List Int)):=match ex G W (fQ 6 ds) with
 |some (.nx ρ1)=>(match ex G R ρ1 with
  |some (.nx z)=>(match slot z 1 with
   |some (.lst I)=>(match dW I with
    |some is=>if is.length<big/\z.length=6 then O ((nT is is.length).map (·.2)) else U
    |none=>U)
   |_=>U)
  |_=>U)
 |_=>U
def qi(K:xx)(T:Tx)(f:List D->Option (List (List Int))):Sp:=λvs H Q _=>vs.length=1/\∃(S:Addr->Prop) (ds:List D) (gs:List (List Int)),(∀a,S a->∃o,H a=O o)/\aC K T H S ds vs/\f ds=O gs /\∀q as H',aI H H'->H q=U->H' q=O (.lst (as.map .ref))->GL H' gs as->(∀x∈as,H x=U/\x≠q)->Q (.ref q) H'
theorem qL:∀{z:List D} {is:List Int},dW z=O is->z=is.map .int
 |[],is,h=>by cases h;rfl
 |d::z,is,h=>by
  cases d<;>first|exact nomatch (show U=O is from h)|skip
  rename_i i;obtain⟨I,h1,rfl⟩:=aP (show (dW z).map (i :: ·)=O is from h);rw[qL h1];rfl
def ID{G:GS}{lv:Nat}{c:CC}{s1 s2 s3:Stmt}{i1 i2:IS}{p:Nat->Pos}{a0:Str}(F:Fun K x qual st f fd)(fs:af N [a0] (aE st))(hN:c.N=N)(hN6:N.length=6)(nj:c.sc=aE st)(hk:lF c (aE st)=Y) (hb:bA st=s1::s2::s3::vF p) (h1:cS n c s1=O i1) (h2:cS n c s2=O i2) (h3:cS n c s3=O (.setd 3)) (hP:uj c p) (go:∀(X:Cx),X.prog=P->X.w=w->X.K=K->X.mg=mg->X.base=base->qg (dS P w) X c G T lv):FnOk P w K mg base (dS P w) (lv+1) f fd [a0] (qi K T (jw G i1 i2)):=by
 obtain⟨oc,od,kV,doc,pm,an,aT,ct,k8,rfl,lk,fw⟩:=F.ex;refine NT lk fw fs (λvs H Q E h=>h.1) λA outer s H vs Q E hr ax=>?_;obtain⟨hlen,S,ds,gs,dom,rl,hd,q⟩:=ax;have xc:XC (dS P w) (lC (dS P w) P w K mg base N qual (aE st) f aT A outer s H E) c G T lv:=(AE (CX:=dS P w) (E:=E) (P:=P) (w:=w) (mg:=mg) (base:=base) (outer:=outer) (s:=s) (H:=H) (f:=f) (cd:=aT) (qual:=qual) hN nj fs hk hr (go _ rfl rfl rfl rfl rfl)).re rfl rfl rfl rfl rfl rfl rfl rfl rfl rfl;have xs:XS (dS P w) T (lC (dS P w) P w K mg base N qual (aE st) f aT A outer s H E) c (λk H'=>∃C,T.xc k=O C/\E (.ref C) U H'):=by refine⟨fs.kind,PassesOwn.leaving,λy m j p p' q pos hg hc=>?_,λE1 h1=>DV λcls H' z=>?_,rfl,rfl⟩;rintro pins s1 V H1 D I ⟨C,hT,hE⟩;exact yA (W:=λH'=>E (.ref C) U H') rfl (xc.glob hg) (xc.gne hg) (xc.go.xcl y C hT) (xc.go.xk y C hT) (λpins V H s h' e vs I hm hE=>qJ I hm hE) pins s1 V H1 D I hE;obtain⟨k,C,hT,rfl,C',jo,hE⟩:=h1 cls H' z;rw[hT]at jo;cases jo;exact hE
 refine⟨_,by rw[hb];exact eQ ((iW (S₀:=S) (H₀:=H) (fr:=J) n).1 _ c _ i1 xc xs h1 (λz=>by cases z)) (eQ ((iW (S₀:=S) (H₀:=H) (fr:=J) n).1 _ c _ i2 xc xs h2 (λz=>by cases z)) (eQ ((iW (S₀:=S) (H₀:=H) (fr:=J) n).1 _ c _ (.setd 3) xc xs h3 (λz=>by cases z)) (VI xc xs hP))),?_⟩;unfold jw at hd;split at hd;rename_i ρ1 x1;split at hd;rename_i R x2;split at hd;rename_i ls x3;split at hd;rename_i is x4;split at hd;rename_i hbig;cases hd;obtain rfl:=qL x4;refine⟨fQ N.length ds,.nx ρ1,S,by rw[<-hN6]at x1;exact x1,mD dom rl,?_⟩;show ∀S' V' H',SInv K T S H S' ρ1 V' H'->_->_;intro S1 σ1 H1 si1 mv1;refine⟨ρ1,.nx R,S1,x2,si1,?_⟩;show ∀S' V' H',SInv K T S H S' R V' H'->_->_;intro S2 σ2 H2 si2 o7;refine⟨R,.nx (R.set 3 (.mu (.dct []))),S2,rfl,si2,?_⟩;show ∀S' V' H',SInv K T S H S' (R.set 3 (.mu (.dct []))) V' H'->_->_;intro S3 σ3 H3 kb mv3;have l2:3<R.length:=by rw[hbig.2];decide
 obtain⟨v1,e1,r1⟩:=kb.re.at_ 1 (.im (.lst (is.map .int))) (by rw[vj Aa];exact DE x3);obtain⟨g,ob,e3,sg,eg,rm⟩:=kb.re.at_ 3 (.mu (.dct [])) (vi l2);obtain⟨ys,rfl,rk⟩:=rm.dct;unfold bD at rk;subst rk;unfold Rep at r1;obtain⟨a,iw,rfl,na,ea,rl1⟩:=r1;obtain rfl:=EM rl1;refine⟨g,a,is,by rw[<-kb.re.len,List.length_set,hbig.2],e1,e3,ea,eg,hbig.1,λq' as H' kp hq cv gl nw=>?_⟩;have og:H g=U:=kb.own 3 _ g (vi l2) e3;refine q q' as H' (λb o e=>kp b o (aS e og) (kb.same b o e)) (kb.same.free hq) cv gl λx m=>⟨kb.same.free (nw x m).1,(nw x m).2⟩;cases hd;cases hd;cases hd;cases hd;cases hd
def aEc{f:List D->Option (List (List Int))}{vs:List σ}{Q:VK}{E:XK}(h:i6 K T 1 (λds=>(f ds).map λgs=>.ok (.lst (gs.map l0))) J vs H Q E):qi K T f vs H Q E:=by
 obtain⟨h1,S,ds,dom,I,hc⟩:=h;rcases hc with ⟨d,hd,q⟩|⟨c,C,hd,_⟩;obtain⟨gs,hg,e⟩:=aP hd;cases e;refine⟨h1,S,ds,gs,dom,I,hg,λq' as H' sm hq W gl R=>q (.ref q') H' sm ?_ (λz=>by cases z)⟩;have nS:∀b,H b=U->¬S b:=λb e z=>by obtain⟨o,z⟩:=dom b z;rw[e]at z;cases z
 unfold Rep;exact⟨q',_,rfl,nS q' hq,W,gl.rep λa m=>nS a (R a m).1⟩;obtain⟨gs,hg,e⟩:=aP hd;cases e
noncomputable def ir2:IE:=.not (.tr (.y (.v 3) "list"))
noncomputable def ir3:IE:=.not (.tr (.y (.v 4) "list"))
noncomputable def ir4:IE:=.not (.tr (.call zh (.cons (.v 5) .nil)))
noncomputable def ir5:IE:=.call yz (.cons (.v 2) (.cons (.c 2 [] [1] J .seq (.v 1) (.L (.bl Y)) (.tup (.cons (.ix (.v 1) (.L (.int 0))) (.cons (.ix (.v 1) (.L (.int 1))) .nil)))) .nil))
noncomputable def ir6:IE:=.b .ne (.v 3) (.v 6)
noncomputable def ir8:IE:=.b .eq (.call z0 (.cons (.v 0) .nil)) (.v 6)
structure GtC (c:CC) (n:Nat) (e2 e3 e4 e5 e6 e8:Expr) (p:Nat->Pos):Prop where
 aN:bE c "pile"=O 0
 count:bE c "count"=O 2
 found:bE c "found"=O 3
 one:bE c "one"=O 4
 tfound:eS c (.Name "found" (p 0))=O 3
 tone:eS c (.Name "one" (p 5))=O 4
 tpart:eS c (.Name "part" (p 7))=O 5
 tdue:eS c (.Name "due" (p 9))=O 6
 pc:aV c z0 = Y
 h2:cT n c e2=O ir2
 h3:cT n c e3=O ir3
 h4:cT n c e4=O ir4
 h5:cE n c e5=O ir5
 h6:cT n c e6=O ir6
 h8:cE n c e8=O ir8
 c5:nN e5=J
 l1:((p 18).endLine == (p 20).line)=Y
 l2:((p 23).endLine == (p 25).line)=Y
section
variable {CX:aq}{G:GS}{T:Tx}{lv:Nat}{X:Cx}{c:CC}{p:Nat->Pos}{EX:Str->Hp->Prop}{n:Nat}{e2 e3 e4 e5 e6 e8:Expr}{b2 b3 b4 b6:List Stmt}
def uf(i:Nat)(d:D):List Sl:=(List.replicate 7 Sl.un).set i (.im d)
end
open Pg G11 Gp
namespace K11
noncomputable def pc1:IS:=(.set 1 (.walk .rng (.tup (.cons (.b .mul (.fld (.v 0) zu) (.fld (.v 0) "rows")) .nil))))
noncomputable def pcB:IS:=(.set 1 (.call yg (.cons (.v 1) (.cons (.ix (.v 1) (.ix (.v 2) (.L (.int 0)))) (.cons (.ix (.v 1) (.ix (.v 2) (.L (.int 1)))) .nil)))))
def pc2:IS:=(.loop [2] J .seq (.call zx (.cons (.v 0) .nil)) pcB)
noncomputable def rP(g:List Nat):List Int:=g.map λ(k:Nat)=>(k:Int)
theorem xW{k c:Nat}:∀{gs:List (Nat×List Nat)},dR (k:Int) (c:Int) (gs.map λg=>((g.1:Int),rP g.2))=(put k c gs).map λg=>((g.1:Int),rP g.2)
 |[]=>rfl
 | (h,cs)::r=>by rw[vz];unfold dR put;by_cases e:h=k;rw[if_pos e,if_pos (by show (h:Int)=k;lia)];simp[rP];rw[if_neg e,if_neg (by show ¬(h:Int)=k;lia),xW];rfl
theorem tM{n:Nat}{l:G11.Nm}(h1:∀k,k<n->l k<=k)(h2:∀k,k<n->l (l k)=l k):∀m,m<=n->nT ((List.range n).map λk=>(l k:Int)) m=(dict m l).map λg=>((g.1:Int),rP g.2)
 | 0,_=>rfl
 |m+1,hm=>by
  have e:((List.range n).map λk=>(l k:Int))[m]?=O (l m:Int):=by rw[uv,xa z7];rfl
  rw[IL h1 h2 (show m<n by lia),<-xW,<-tM h1 h2 m z7];show (match ((List.range n).map λk=>(l k:Int))[m]? with|some h=>dR h m _|none=>_)=_;rw[e]
theorem ER{α:Type}{f:α->Int}:∀{L:List α},dW (L.map λk=>D.int (f k))=O (L.map f)
 |[]=>rfl
 |a::L=>by show (dW (L.map λk=>D.int (f k))).map (f a :: ·)=_;rw[ER];rfl
section
variable {G:GS}{c r w h:Nat}{T:Table}{F:List D}{sp:List Spot}{aa:List (Nat×Nat)}
def bP(c n:Nat)(aa:List (Nat×Nat)):List (Nat×Nat):=(left c n aa).map pairOf
def aCe{k:Nat}{j:Nat×Nat×Bool}(h:j∈b9 c n k):(j=(k,k+1,J)/\k % c<c-1)\/(j=(k,k+c,Y)/\k+c<n):=by unfold b9 at h;rcases xw.mp h with h|h;by_cases e:k % c<c-1;rw[wa e]at h;exact .inl ⟨vn.mp h,e⟩;rw[uz e]at h;cases h;by_cases e:k+c<n;rw[wa e]at h;exact .inr ⟨vn.mp h,e⟩;rw[uz e]at h;cases h
def vJ{j:Nat×Nat×Bool}(h:j∈b0 c n m):∃k,k<m/\((j=(k,k+1,J)/\k % c<c-1)\/(j=(k,k+c,Y)/\k+c<n)):=by obtain⟨k,hk,h⟩:=List.mem_flatMap.mp h;exact⟨k,xp.mp hk,aCe h⟩
def WH{j z:Nat×Nat×Bool}(h:j∈b0 c n m)(h':z∈b0 c n m)(e:pairOf j=pairOf z):j=z:=by
 obtain⟨k,_,hk⟩:=vJ h;obtain⟨k',_,I⟩:=vJ h';rcases hk with ⟨rfl,a⟩|⟨rfl,a⟩<;>rcases I with ⟨rfl,a'⟩|⟨rfl,a'⟩<;>simp only[pairOf,Prod.mk.injEq]at e<;>obtain⟨rfl,e⟩:=e
 rfl;exfalso;have:c=1:=by lia
 subst this;lia;exfalso;have:c=1:=by lia
 subst this;lia;rfl
def iX{j:Nat×Nat×Bool}(hc:1<=c)(h:j∈b0 c (c*r) (c*r)):j.1<c*r/\j.2.1<c*r:=by
 obtain⟨k,hk,h⟩:=vJ h;rcases h with ⟨rfl,a⟩|⟨rfl,a⟩;refine⟨hk,?_⟩;show k+1<c*r;have h1:k / c<r:=by rw[Nat.div_lt_iff_lt_mul z7,Nat.mul_comm];exact hk
 have h2:c*(k / c)+k % c=k:=Nat.div_add_mod k c;have h3:c*(k / c+1)<=c*r:=Nat.mul_le_mul_left c h1;rw[Nat.mul_add]at h3;lia;exact⟨hk,a⟩
def CZ(hc:1<=c){a b:Nat}(h:(a,b)∈bP c (c*r) aa):a<c*r/\b<c*r:=by obtain⟨j,z,e⟩:=wc.mp h;have:=iX hc ((mem_filter.mp z).1);unfold pairOf at e;cases e;exact this
def MM{l:Bool}{k:Int}:left c n (aa++fZ c n sp aa l k)=(left c n aa).filter λj=>!eE sp l k j:=by
 unfold left;rw[List.filter_filter];refine filter_congr λj I=>?_;rw[Bool.eq_iff_iff,not_eq_true',va,not_eq_true',not_eq_true',List.contains_eq_any_beq,List.contains_eq_any_beq,List.any_append,Bool.or_eq_false_iff];constructor;rintro⟨h1,h2⟩;refine⟨?_,h1⟩;cases e:eE sp l k j with
 |false=>rfl
 |true=>exfalso;have hm:pairOf j∈fZ c n sp aa l k:=wc.mpr ⟨j,mem_filter.mpr ⟨mem_filter.mpr ⟨I,by rw[List.contains_eq_any_beq,h1];rfl⟩,e⟩,rfl⟩;have:=List.any_eq_false.mp h2 _ hm;simp at this
 rintro⟨h1,h2⟩;refine⟨h2,List.any_eq_false.mpr λq hq=>?_⟩;obtain⟨j',R,rfl⟩:=wc.mp hq;obtain⟨W,e⟩:=mem_filter.mp R;intro z;have:j=j':=WH I ((mem_filter.mp W).1) (wb.mp z);subst this;rw[h1]at e;cases e
def aAq{α:Type}{a b c d:α}:atI [a,b,c,d] 0=O a/\atI [a,b,c,d] 1=O b/\atI [a,b,c,d] 2=O c/\atI [a,b,c,d] 3=O d:=⟨rfl,rfl,rfl,rfl⟩
def aBF(hf:G.fl "Pile"=cz)(hc:1<=c)(b7:c<=64)(ak:c*r<=64)(oa:G.fn zx [aN c r w h T F (aa.map pD)]=O (.ok (.lst ((left c (c*r) aa).map (jD sp))))) (R:∀(l:G11.Nm) (p q:Nat),G.fn yg [.lst (nmL (c*r) l),.int (p:Nat),.int (q:Nat)]=O (.ok (.lst (nmL (c*r) (hung l p q))))):jw G pc1 pc2 [aN c r w h T F (aa.map pD)]=O ((told (c*r) (dE (bP c (c*r) aa) id)).map rP):=by
 have x1:ex G pc1 (fQ 6 [aN c r w h T F (aa.map pD)])=O (.nx [.im (aN c r w h T F (aa.map pD)),.im (.lst (nmL (c*r) id)),.un,.un,.un,.un]):=by refine(aQ (d:=.lst (nmL (c*r) id)) ?_).trans rfl;have e0:ev G (.v 0) (fQ 6 [aN c r w h T F (aa.map pD)])=O (bT c r w h (T.map sE) F (aa.map pD)):=rfl;rw[FE,rF,aU,bF,kO hf e0,vI hf e0];simp only[aA,hJ (show c<=1000000 by lia),kC,uM,aB];rw[cR z7];rfl
 have lp:∀(L:List (Nat×Nat×Bool)) (l:G11.Nm) (s2:Sl),(∀j∈L,j.1<c*r/\j.2.1<c*r)->∃s,bS (bB [2] J) (ex G pcB) (L.map (jD sp)) [.im (aN c r w h T F (aa.map pD)),.im (.lst (nmL (c*r) l)),s2,.un,.un,.un]=O (.nx [.im (aN c r w h T F (aa.map pD)),.im (.lst (nmL (c*r) (dE (L.map pairOf) l))),s,.un,.un,.un]):=by
  intro L;induction L with
  |nil=>intro l s2 _;exact⟨s2,rfl⟩
  |cons j L ih=>
   intro l s2 hb;obtain⟨h1,h2⟩:=hb j x8;obtain⟨s,e⟩:=ih (hung l (l j.1) (l j.2.1)) (.im (jD sp j)) λj m=>hb j (v8 _ m)
   refine⟨s,?_⟩;have eb:ex G pcB [.im (aN c r w h T F (aa.map pD)),.im (.lst (nmL (c*r) l)),.im (jD sp j),.un,.un,.un]=O (.nx [.im (aN c r w h T F (aa.map pD)),.im (.lst (nmL (c*r) (hung l (l j.1) (l j.2.1)))),.im (jD sp j),.un,.un,.un]):=by refine(aQ (d:=.lst (nmL (c*r) (hung l (l j.1) (l j.2.1)))) ?_).trans rfl;simp only[z6,jD,aAq.1,aAq.2.1,oK h1,oK h2,R]
   rw[vz];unfold bS;rw[show bB [2] J (jD sp j) [.im (aN c r w h T F (aa.map pD)),.im (.lst (nmL (c*r) l)),s2,.un,.un,.un]=O [.im (aN c r w h T F (aa.map pD)),.im (.lst (nmL (c*r) l)),.im (jD sp j),.un,.un,.un] from rfl];show ((ex G pcB [.im (aN c r w h T F (aa.map pD)),.im (.lst (nmL (c*r) l)),.im (jD sp j),.un,.un,.un]).bind _)=_;rw[eb];exact e
 obtain⟨s,x2⟩:=lp (left c (c*r) aa) id .un λj m=>iX hc ((mem_filter.mp m).1)
 have I:ex G pc2 [.im (aN c r w h T F (aa.map pD)),.im (.lst (nmL (c*r) id)),.un,.un,.un,.un]=O (.nx [.im (aN c r w h T F (aa.map pD)),.im (.lst (nmL (c*r) (dE (bP c (c*r) aa) id))),s,.un,.un,.un]):=(bZ (d:=.lst ((left c (c*r) aa).map (jD sp))) (by simp only[z6,oa]) cJ).trans x2;have W:=jG (n:=c*r) (bP:=bP c (c*r) aa) λa b z=>CZ hc z;have ei:dW (nmL (c*r) (dE (bP c (c*r) aa) id))=O ((List.range (c*r)).map λk=>(dE (bP c (c*r) aa) id k:Int)):=ER;unfold jw;rw[x1];dsimp only;rw[I];dsimp only;show (match dW (nmL (c*r) (dE (bP c (c*r) aa) id)) with|some is=>_|none=>_)=_;rw[ei];dsimp only;have el:((List.range (c*r)).map λk=>(dE (bP c (c*r) aa) id k:Int)).length=c*r:=by rw[uw,vh]
 rw[if_pos ⟨by rw[el];unfold big;lia,rfl⟩,el,tM (λk hk=>W.le k hk) (λk hk=>W.idem hk) _ (ux _)];unfold dict told;rw[xi,xi,xi];rfl
def NP{g:List Nat}:l0 (rP g)=dI g:=by unfold l0 rP dI;rw[xi];rfl
end
end K11
open K11
namespace K13
section
variable {G:GS}
noncomputable def dN(k:Nat):D:=.int (k:Int)
def JR{K:List Nat}(hn:n<=64)(nd:K.Nodup)(lt:∀k∈K,k<n):fW (K.map dN)=O (((List.range n).filter λk=>K.contains k).map dN):=by
 obtain⟨R,hR⟩:∃R,R=(List.range n).filter λk=>K.contains k:=⟨_,rfl⟩
 rw[<-hR];have W:R.Pairwise (· < ·):=by rw[hR];exact pairwise_lt_range.filter _
 have inj:∀{a b:Nat},((a:Int),(0:Int))=((b:Int),(0:Int))->a=b:=λ{a b} e=>by have:=(Prod.mk.inj e).1;lia
 have z:R.Perm K:=by refine(List.perm_ext_iff_of_nodup (W.imp λh=>wj h) nd).mpr λk=>?_;rw[hR,mem_filter,xp,contains_iff_mem];exact⟨λh=>h.2,λh=>⟨lt k h,h⟩⟩
 cases K with
 |nil=>
  have:R=[]:=by rw[hR];exact List.filter_eq_nil_iff.mpr λa _=>by simp
  rw[this];rfl
 |cons k0 I=>
  obtain⟨K,hK⟩:∃K,K=k0::I:=⟨_,rfl⟩;have np:lP ((k0::I).map dN)=U:=rfl;rw[<-hK]at nd z np ⊢;have pe:(R.map λ(k:Nat)=>((k:Int),(0:Int))).Perm (K.map λ(k:Nat)=>((k:Int),(0:Int))):=z.map _;have pm:(R.map λ(k:Nat)=>((k:Int),(0:Int))).Pairwise (λa b=>dc a b=Y):=by rw[pairwise_map];refine W.imp λ{a b} h=>?_;rw[eR];exact .inl (by dsimp only;lia)
  have nk:(K.map λ(k:Nat)=>((k:Int),(0:Int))).Nodup:=by rw[nodup_iff_pairwise_ne,pairwise_map];exact nd.imp λ{a b} h e=>h (inj e)
  have hl:K.length<=64:=by rw[<-z.length_eq,hR];have:=length_filter_le (λk=>(k0::I).contains k) (List.range n);rw[vh]at this;lia
  have cs:eC ((K.map λ(k:Nat)=>(k:Int)).map λi=>(i,(0:Int)))=Y:=by unfold eC;rw[va,vg,vg,xi];refine⟨?_,nk⟩;rw[uw];exact hl
  unfold fW;rw[np];show (match dW (K.map λ(k:Nat)=>D.int (k:Int)) with|some is=>(if eC (is.map λi=>(i,0)) then O ((jO (is.map λi=>(i,0))).map λ(p:Int×Int)=>D.int p.1) else U)|none=>U)=_;rw[Pg.ints_map];show (if eC ((K.map λ(k:Nat)=>(k:Int)).map λi=>(i,(0:Int))) then O ((jO ((K.map λ(k:Nat)=>(k:Int)).map λi=>(i,(0:Int)))).map λp=>D.int p.1) else U)=_;rw[if_pos cs,xi,show ((λi=>(i,(0:Int))) ∘ λ(k:Nat)=>(k:Int))=λ(k:Nat)=>((k:Int),(0:Int)) from rfl,<-pZ pe pm,xi];rfl
noncomputable def FP:IS:=(.g (.b .eq (.tup (.cons (.v 5) (.cons (.v 6) .nil))) (.ixC zb (.v 1))) (.seq (.put 2 (.v 3) (.L (.bl Y))) (.put 2 (.v 4) (.L (.bl Y)))) .nop)
def NH:IS:=(.seq (.setd 2) (.seq (.loop [3,4,5,6] Y .seq (.call zx (.cons (.v 0) .nil)) FP) (.M 2)))
def QH{a:IE}{s:Str}{kvs:List (Str×D)}{d:D}(e:ev G a B=O (.str s))(hk:G.dk x=O kvs)(hd:kvs.lookup s=O d):ev G (.ixC x a) B=O d:=by show (ev G a B).bind _=_;rw[e];show (G.dk x).bind _=_;rw[hk];exact hd
def thr(sp:List Spot)(l:Bool)(n:Int)(L:List (Nat×Nat×Bool))(k:Nat):Bool:=L.any λj=>eE sp l n j&&(j.1 == k || j.2.1 == k)
noncomputable def ft(p:D)(x:Str)(kvs:List (Int×D))(R s4 I z:Sl):List Sl:=[.im p,.im (.str x),.mu (.dct kvs),R,s4,I,z]
def xM{kvs:List (Int×D)}{a k:Nat}{d:D}:(bU (jP kvs (a:Int) d) (k:Int)).isSome=((bU kvs (k:Int)).isSome || a == k):=by rw[pQ];by_cases e:a=k;subst e;rw[if_pos rfl];simp;rw[if_neg z7,beq_false_of_ne e,Bool.or_false]
theorem JH(hk:G.dk zb = O i4){x:Str}{l:Bool}{n:Int}(hs:i4.lookup x=O (.tup [.bl l,.int n])){p:D}{sp:List Spot}:∀(L:List (Nat×Nat×Bool)) (kvs:List (Int×D)) (W s4 R I:Sl),kvs.length+2*L.length<=900000 ->∃bY s3' s4' s5' s6',bS (bB [3,4,5,6] Y) (ex G FP) (L.map (jD sp)) (ft p x kvs W s4 R I)=O (.nx (ft p x bY s3' s4' s5' s6'))/\∀k:Nat,(bU bY k).isSome=((bU kvs k).isSome || thr sp l n L k)
 |[],kvs,W,s4,R,I,_=>⟨kvs,W,s4,R,I,rfl,λk=>(Bool.or_false _).symm⟩
 |j::L,kvs,W,s4,R,I,hl=>by
  rw[xb]at hl;have ez:∀kvs,ev G (.b .eq (.tup (.cons (.v 5) (.cons (.v 6) .nil))) (.ixC zb (.v 1))) (view (ft p x kvs (.im (.int j.1)) (.im (.int j.2.1)) (.im (.bl j.2.2)) (.im (.int (nK sp j.1 j.2.2)))))=O (.bl (eE sp l n j)):=λkvs=>by rw[bF,QH (s:=x) rfl hk hs];exact wO
  have step:∃z,ex G FP (ft p x kvs (.im (.int j.1)) (.im (.int j.2.1)) (.im (.bl j.2.2)) (.im (.int (nK sp j.1 j.2.2))))=O (.nx (ft p x z (.im (.int j.1)) (.im (.int j.2.1)) (.im (.bl j.2.2)) (.im (.int (nK sp j.1 j.2.2)))))/\z.length<=kvs.length+2/\∀k:Nat,(bU z k).isSome=((bU kvs k).isSome || (eE sp l n j&&(j.1 == k || j.2.1 == k))):=by
   cases q:eE sp l n j with
   |false=>exact⟨kvs,dG (by rw[ez,q]) aY,z7,λk=>by rw[Bool.false_and,Bool.or_false]⟩
   |true=>have l1:=qB (kvs:=kvs) (k:=(j.1:Int)) (d:=.bl Y);have l2:=qB (kvs:=jP kvs (j.1:Int) (.bl Y)) (k:=(j.2.1:Int)) (d:=.bl Y);refine⟨jP (jP kvs j.1 (.bl Y)) j.2.1 (.bl Y),jR (by rw[ez,q]) (aH (pL (d:=.bl Y) (i:=(j.1:Nat)) rfl rfl rfl z7) ((pL (d:=.bl Y) (i:=(j.2.1:Nat)) (kvs:=jP kvs j.1 (.bl Y)) rfl rfl rfl z7).trans rfl)),z7,λk=>?_⟩;rw[xM,xM,Bool.true_and,Bool.or_assoc]
  obtain⟨z,e1,kj,h1⟩:=step;obtain⟨bY,t3,t4,t5,t6,e,h2⟩:=JH hk hs (p:=p) (sp:=sp) L z (.im (.int j.1)) (.im (.int j.2.1)) (.im (.bl j.2.2)) (.im (.int (nK sp j.1 j.2.2))) z7;refine⟨bY,t3,t4,t5,t6,?_,λk=>?_⟩;rw[vz];unfold bS;show (ex G FP (ft p x kvs (.im (.int j.1)) (.im (.int j.2.1)) (.im (.bl j.2.2)) (.im (.int (nK sp j.1 j.2.2))))).bind _=_;rw[e1];exact e;rw[h2,h1,Bool.or_assoc];rfl
def aAG(hk:G.dk zb = O i4){l:Bool}{n:Int}(hs:i4.lookup x=O (.tup [.bl l,.int n])){L:List (Nat×Nat×Bool)}(hL:L.length<=1000)(z:G.fn zx [p]=O (.ok (.lst (L.map (jD sp))))):∃kvs,bK G 7 NH [p,.str x]=O (.ok (.dct kvs))/\∀k:Nat,(bU kvs k).isSome=thr sp l n L k:=by obtain⟨kvs,W,s4,R,I,e,h⟩:=JH hk hs (p:=p) (sp:=sp) L [] .un .un .un .un (by rw[length_nil];lia);refine⟨kvs,aR (B:=[.im p,.im (.str x),.un,.un,.un,.un,.un]) rfl (aH wJ (aH ((bZ (d:=.lst (L.map (jD sp))) (by simp only[List.set];simp only[z6,z]) cJ).trans e) (jH rfl))),λk=>?_⟩;rw[h];rfl
noncomputable def pK:IS:=(.seq (.drop (.call ye (.cons (.v 0) (.cons (.v 1) .nil)))) (.ret Y (.c 3 [(2,1)] [1] J .seq (.call zx (.cons (.v 0) .nil)) (.b .ne (.sl (.v 1) Y (.L (.int 2)) J (.L .non)) (.ixC zb (.v 2))) (.sl (.v 1) J (.L .non) Y (.L (.int 2))))))
def WG{a b:Bool}{i j:Int}:ah .ne (.tup [.bl a,.int i]) (.tup [.bl b,.int j])=O (.bl (!((a == b)&&(i == j)))):=by have e:=wO (a:=a) (b:=b) (i:=i) (j:=j);have p1:(plain (.tup [.bl a,.int i])&&plain (.tup [.bl b,.int j]))=Y:=rfl;have e:(if (plain (.tup [.bl a,.int i])&&plain (.tup [.bl b,.int j]))=Y then O (D.bl (bx (.tup [.bl a,.int i]) (.tup [.bl b,.int j]))) else U)=O (.bl ((a == b)&&(i == j))):=e;show (if (plain (.tup [.bl a,.int i])&&plain (.tup [.bl b,.int j]))=Y then O (D.bl (!bx (.tup [.bl a,.int i]) (.tup [.bl b,.int j]))) else U)=_;rw[if_pos p1]at e ⊢;rw[D.bl.inj (vb e)]
def tV{d:D}(h:ev G e (view B)=O d):ex G (.drop e) B=O (.nx B):=by show (match ev G e (view B) with|some _=>O (Out.nx B)|none=>_)=_;rw[h]
def tW{k:Str}(h0:ev G e (view B)=U)(h:ja G e (view B)=O (.er k))(hx:G.xn k=Y):ex G (.drop e) B=O (.er k):=by show (match ev G e (view B) with|some _=>O (Out.nx B)|none=>(match ja G e (view B) with|some (.er k)=>if G.xn k then O (Out.er k) else U|_=>U))=_;rw[h0,h];exact if_pos hx
def RA(hk:G.dk zb = O i4){l:Bool}{n:Int}(hs:i4.lookup x=O (.tup [.bl l,.int n])){L:List (Nat×Nat×Bool)}(hu:G.fn ye [p,.str x]=O (.ok .non))(z:G.fn zx [p]=O (.ok (.lst (L.map (jD sp))))):bK G 2 pK [p,.str x]=O (.ok (.lst ((L.filter λj=>!eE sp l n j).map λj=>pD (pairOf j)))):=by refine aR (B:=[.im p,.im (.str x)]) rfl (aH (tV (d:=.non) ?_) (bC ?_));simp only[dC,eI,bG];simp only[z6,hu];refine fO (jD sp) (λj=>pD (pairOf j)) (λj=>!eE sp l n j) (s:=.lst (L.map (jD sp))) (by simp only[z6,z]) cJ λj _=>⟨[.un,.im (jD sp j),.im (.str x)],rfl,?_,?_⟩;rw[bF,QH (s:=x) rfl hk hs];unfold jD;simp only[z6,part,intOf];exact WG;unfold jD;simp only[z6,part,intOf];rfl
def RB{k:Str}(hu:G.fn ye [p,.str x]=O (.er k))(hx:G.xn k=Y):bK G 2 pK [p,.str x]=O (.er k):=by refine uY (B:=[.im p,.im (.str x)]) rfl (iO (tW ?_ ?_ hx) λ_ z=>by cases z);show iJ (G.fn ye [p,.str x])=U;rw[hu];rfl;exact hu
noncomputable def oE:IS:=(.g (.tr (.ρ .any (.cons (.c 3 [(2,2)] [1] J .seq (.v 5) (.L (.bl Y)) (.b .isin (.v 1) (.v 2))) .nil))) (.ext 3 (.v 5)) (.ext 4 (.v 5)))
def qO:IS:=(.seq (.drop (.call ye (.cons (.v 0) (.cons (.v 1) .nil)))) (.seq (.set 2 (.call yf (.cons (.v 0) (.cons (.v 1) .nil)))) (.seq (.setm 3 (.lst .nil)) (.seq (.setm 4 (.lst .nil)) (.seq (.loop [5] J .seq (.call z0 (.cons (.v 0) .nil)) oE) (.retp (.sortm 3) (.sortm 4)))))))
theorem tR{α:Type}{f:α->Bool}:∀{L:List α},kB (L.map λa=>D.bl (f a))=O (L.map f)
 |[]=>rfl
 |a::L=>by show (kB (L.map λa=>D.bl (f a))).map _=_;rw[tR];rfl
def RL{α:Type}{f:α->Bool}{L:List α}:bf .any [.lst (L.map λa=>D.bl (f a))]=O (.bl (L.any f)):=by show (kB _).map _=_;rw[tR];show O (D.bl ((L.map f).any id))=_;rw[any_map];rfl
def QE{x:Nat}{es:List D}(h1:ev G e B=O (.lst es))(h2:B[x]?=O (.mu (.lst ds)))(h3:ds.length+es.length<1000000):ex G (.ext x e) B=O (.nx (B.set x (.mu (.lst (ds++es))))):=by show (ev G e B).bind _=_;rw[h1];show (match D.lst es,B[x]? with | .lst es,O (.mu (.lst ds))=>(if ds.length+es.length<big then O (Out.nx (B.set x (.mu (.lst (ds++es))))) else U)|_,_=>U)=_;rw[h2];exact if_pos h3
def fh(p:D)(x:Str)(kvs:List (Int×D))(A ρ:List Nat)(s5:Sl):List Sl:=[.im p,.im (.str x),.im (.dct kvs),.mu (.lst (A.map dN)),.mu (.lst (ρ.map dN)),s5]
theorem vZ{p:D}{x:Str}{kvs:List (Int×D)}{th:Nat->Bool}(I:∀k:Nat,(bU kvs k).isSome=th k):∀(gs:List (List Nat)) (A ρ:List Nat) (z:Sl),(∀g∈gs,g.length<=64)->A.length+ρ.length+64*gs.length<=900000 ->∃s,bS (bB [5] J) (ex G oE) (gs.map dI) (fh p x kvs A ρ z)=O (.nx (fh p x kvs (A++(gs.filter λg=>g.any th).flatten) (ρ++(gs.filter λg=>!g.any th).flatten) s))
 |[],A,ρ,z,_,_=>⟨z,by rw[filter_nil,filter_nil,List.flatten_nil,vx,vx];rfl⟩
 |g::gs,A,ρ,z,h64,hl=>by
  rw[xb]at hl;have hg:=h64 g x8;have R:ev G (.tr (.ρ .any (.cons (.c 3 [(2,2)] [1] J .seq (.v 5) (.L (.bl Y)) (.b .isin (.v 1) (.v 2))) .nil))) (view (fh p x kvs A ρ (.im (dI g))))=O (.bl (g.any th)):=by rw[rG,fP,aU,cM (L:=g) dN (λk=>D.bl (th k)) (s:=dI g) rfl cJ (λk _=>⟨[.un,.im (dN k),.im (.dct kvs)],rfl,rfl,by show O (D.bl (bU kvs (k:Int)).isSome)=_;rw[I k]⟩),kC];show ((bf .any [.lst (g.map λk=>D.bl (th k))]).bind λx=>(dh x).map D.bl)=_;rw[RL];rfl
  have hA:((A.map dN).length+(g.map dN).length)<1000000:=by rw[uw,uw];lia
  have W:((ρ.map dN).length+(g.map dN).length)<1000000:=by rw[uw,uw];lia
  cases q:g.any th with
  |true=>
   obtain⟨s,e⟩:=vZ I gs (A++g) ρ (.im (dI g)) (λg' m=>h64 g' (v8 _ m)) (by rw[vt];lia);refine⟨s,?_⟩;rw[filter_cons_of_pos (by rw[q]),filter_cons_of_neg (by rw[q];decide),flatten_cons,<-vd,vz];unfold bS;show (ex G oE (fh p x kvs A ρ (.im (dI g)))).bind _=_;have e1:ex G oE (fh p x kvs A ρ (.im (dI g)))=O (.nx (fh p x kvs (A++g) ρ (.im (dI g)))):=by refine(jR (by rw[R,q]) (QE (es:=g.map dN) (ds:=A.map dN) rfl rfl hA)).trans ?_;unfold fh;rw[xf];rfl
   rw[e1];exact e
  |false=>
   obtain⟨s,e⟩:=vZ I gs A (ρ++g) (.im (dI g)) (λg' m=>h64 g' (v8 _ m)) (by rw[vt];lia);refine⟨s,?_⟩;rw[filter_cons_of_neg (by rw[q];decide),filter_cons_of_pos (by rw[q];rfl),flatten_cons,<-vd,vz];unfold bS;show (ex G oE (fh p x kvs A ρ (.im (dI g)))).bind _=_;have e1:ex G oE (fh p x kvs A ρ (.im (dI g)))=O (.nx (fh p x kvs A (ρ++g) (.im (dI g)))):=by refine(dG (by rw[R,q]) (QE (es:=g.map dN) (ds:=ρ.map dN) rfl rfl W)).trans ?_;unfold fh;rw[xf];rfl
   rw[e1];exact e
structure uo (n:Nat) (l:G11.Nm):Prop where
 le:∀k,k<n->l k<=k
 id:∀k,k<n->l (l k)=l k
def kS{l:G11.Nm}{h k:Nat}:k∈cells n l h↔k<n/\l k=h:=by unfold cells;rw[mem_filter,xp,wb]
def HG{l:G11.Nm}{h:Nat}:h∈heads n l↔h<n/\l h=h:=by unfold heads;rw[mem_filter,xp,wb]
def jW{l:G11.Nm}(N:uo n l){q:List Nat->Bool}{k:Nat}:k∈((told n l).filter q).flatten↔k<n/\q (cells n l (l k))=Y:=by unfold told;rw[List.mem_flatten];constructor;rintro⟨g,hg,hk⟩;obtain⟨hg,hq⟩:=mem_filter.mp hg;obtain⟨h,_,rfl⟩:=wc.mp hg;obtain⟨hk,e⟩:=kS.mp hk;rw[e];exact⟨hk,hq⟩;rintro⟨hk,hq⟩;exact⟨cells n l (l k),mem_filter.mpr ⟨wc.mpr ⟨l k,HG.mpr ⟨lt_of_le_of_lt (N.le k hk) hk,N.id k hk⟩,rfl⟩,hq⟩,kS.mpr ⟨hk,rfl⟩⟩
def AY{l:G11.Nm}{q:List Nat->Bool}:(((told n l).filter q).flatten).Nodup:=by rw[nodup_iff_pairwise_ne,List.pairwise_flatten];constructor;intro g hg;obtain⟨h,_,rfl⟩:=wc.mp (mem_filter.mp hg).1;unfold cells;exact(pairwise_lt_range.filter _).imp λh=>wj h;refine List.Pairwise.filter _ ?_;unfold told;rw[pairwise_map];unfold heads;refine(pairwise_lt_range.filter _).imp λ{a b} z x hx y hy e=>?_;have h1:=(kS.mp hx).2;have h2:=(kS.mp hy).2;subst e;lia
def pick(n:Nat)(l:G11.Nm)(q:List Nat->Bool):List Nat:=(List.range n).filter λk=>q (cells n l (l k))
def nF{l:G11.Nm}(N:uo n l)(hn:n<=64){q:List Nat->Bool}:fW ((((told n l).filter q).flatten).map dN)=O ((pick n l q).map dN):=by
 rw[JR hn AY λk hk=>((jW N).mp hk).1];congr 2;unfold pick;refine filter_congr λk hk=>?_;have hk:=xp.mp hk;cases e:q (cells n l (l k)) with
 |true=>rw[contains_iff_mem];exact(jW N).mpr ⟨hk,e⟩
 |false=>
  cases e2:(((told n l).filter q).flatten).contains k with
  |false=>rfl
  |true=>have:=((jW N).mp (contains_iff_mem.mp e2)).2;rw[e]at this;cases this
def xH{l:G11.Nm}(hn:n<=64):(told n l).length<=64/\∀g∈told n l,g.length<=64:=by unfold told;rw[uw];constructor;unfold heads;have:=length_filter_le (λk=>l k == k) (List.range n);rw[vh]at this;lia;intro g hg;obtain⟨h,_,rfl⟩:=wc.mp hg;unfold cells;have:=length_filter_le (λk=>l k == h) (List.range n);rw[vh]at this;lia
def YA{a b:IE}{x y:List D}(h1:ev G a B=O (.lst x))(h2:ev G b B=O (.lst y)):ex G (.retp a b) B=O (.rt (.tup [.lst x,.lst y])):=by show (match ev G a B,ev G b B with|some (.lst x),O (.lst y)=>O (Out.rt (.tup [.lst x,.lst y]))|_,_=>U)=_;rw[h1,h2]
def XE{kvs:List (Int×D)}{th:Nat->Bool}{l:G11.Nm}(N:uo n l)(hn:n<=64)(hu:G.fn ye [p,.str x]=O (.ok .non))(R:G.fn yf [p,.str x]=O (.ok (.dct kvs)))(I:∀k:Nat,(bU kvs k).isSome=th k)(hp:G.fn z0 [p]=O (.ok (.lst ((told n l).map dI)))):bK G 6 qO [p,.str x]=O (.ok (.tup [.lst ((pick n l λg=>g.any th).map dN),.lst ((pick n l λg=>!g.any th).map dN)])):=by obtain⟨W,z⟩:=xH (l:=l) hn;obtain⟨s,e⟩:=vZ (G:=G) (p:=p) (x:=x) I (told n l) [] [] .un z (by rw[length_nil];lia);rw[nil_append,nil_append]at e;refine aR (B:=[.im p,.im (.str x),.un,.un,.un,.un]) rfl (aH (tV (d:=.non) ?_) (aH (aQ (d:=.dct kvs) ?_) (aH (fK rfl) (aH (fK rfl) (aH ((bZ (d:=.lst ((told n l).map dI)) ?_ cJ).trans e) (YA ?_ ?_))))));simp only[dC,eI,bG];simp only[z6,hu];simp only[z6,R];simp only[List.set];simp only[z6,hp];rw[zG];show (fW ((((told n l).filter λg=>g.any th).flatten).map dN)).map D.lst=_;rw[nF N hn];rfl;rw[zG];show (fW ((((told n l).filter λg=>!g.any th).flatten).map dN)).map D.lst=_;rw[nF N hn];rfl
def XF{k:Str}(hu:G.fn ye [p,.str x]=O (.er k))(hx:G.xn k=Y):bK G 6 qO [p,.str x]=O (.er k):=by unfold bK;rw[show ex G qO ([p,.str x].map Sl.im++List.replicate (6 - [p,D.str x].length) .un)=O (.er k) from iO (tW (k:=k) ?_ ?_ hx) λ_ z=>by cases z];simp only[dC,eI,bG,List.map,List.replicate];show iJ (G.fn ye [p,.str x])=U;rw[hu];rfl;show G.fn ye [p,.str x]=_;exact hu
end
end K13
namespace K10
section
variable {G:GS}
def p3:ah .pow (.int 10) (.int 3)=O (.int (10 ^ 3)):=by simp only[ah,aBY];rw[if_pos Aa];rfl
end
end K10
namespace K13
section
variable {G:GS}
def sdO(sp:List Spot)(j:Nat×Nat×Bool):Nat:=(if j.2.2 then 2 else 0)+(nK sp j.1 j.2.2).toNat
noncomputable def bt(b k:Nat):Bool:=b / 2 ^ k % 2 == 1
def aFw{T:Table}(S:av T 1 1 sp){k:Nat}{l:Bool}(hk:k<sp.length):∃s,sp[k]?=O s/\nK sp k l=if (if l then s.n else s.e) then 0 else 1:=by
 have hs:=u7 hk;have hm:=getElem_mem hk;have h1:=S.xlt hm;have h2:=S.ylt hm;refine⟨sp[k],hs,?_⟩;rw[EE hs];unfold yI zK;have e1:(sp[k]).x=0:=by lia
 have e2:(sp[k]).y=0:=by lia
 rw[e1,e2];cases l;cases (sp[k]).e<;>rfl
 cases (sp[k]).n<;>rfl
def ZU{T:Table}(S:av T 1 1 sp){k:Nat}{l:Bool}(hk:k<sp.length):nK sp k l=0\/nK sp k l=1:=by obtain⟨s,_,e⟩:=aFw S (l:=l) hk;rw[e];generalize (if l then s.n else s.e)=q;cases q;exact .inr rfl;exact .inl rfl
def ZE{T:Table}(S:av T 1 1 sp){j:Nat×Nat×Bool}(hk:j.1<sp.length):sdO sp j<4:=by unfold sdO;rcases ZU S (l:=j.2.2) hk with e|e<;>rw[e]<;>split<;>decide
def DZ{T:Table}(S:av T 1 1 sp){j:Nat×Nat×Bool}(z:j.1<sp.length){k:Nat}(hk:k<4):eE sp (decide (1<k)) ((k % 2:Nat):Int) j=(sdO sp j == k):=by
 unfold eE sdO;have:k=0\/k=1\/k=2\/k=3:=by lia
 rcases ZU S (l:=j.2.2) z with e|e<;>rw[e]<;>(generalize j.2.2=b;rcases this with rfl|rfl|rfl|rfl<;>cases b<;>rfl)
def pw{k:Nat}(h:k<4):atI ([.int 1,.int 2,.int 4,.int 8]:List D) (k:Int)=O (.int ((2 ^ k:Nat):Int)):=by
 have:k=0\/k=1\/k=2\/k=3:=by lia
 rcases this with rfl|rfl|rfl|rfl<;>rfl
def aED{k:Nat}(h:k<4):0<2 ^ k/\2 ^ k<16:=by
 have:k=0\/k=1\/k=2\/k=3:=by lia
 rcases this with rfl|rfl|rfl|rfl<;>decide
def QJ{x y:IE}{b k:Nat}(hk:k<4)(h1:ev G x B=O (.int (b:Nat)))(h2:ev G y B=O (.int (k:Nat))):ev G (.b .mod (.b .fdiv x (.ix (.lst (.cons (.L (.int 1)) (.cons (.L (.int 2)) (.cons (.L (.int 4)) (.cons (.L (.int 8)) .nil))))) y)) (.L (.int 2))) B=O (.int ((b / 2 ^ k % 2:Nat):Int)):=by obtain⟨p1,p2⟩:=aED hk;have m2:ah .mod (.int ((b / 2 ^ k:Nat):Int)) (.int 2)=O (.int ((b / 2 ^ k % 2:Nat):Int)):=pI (b:=2) Aa;rw[bF,bF,h1,aAm,QG,h2];simp only[z6,pw hk,FJ p1 (show 2 ^ k<1000000 by lia),m2]
noncomputable def aGc:IS:=(.g (.b .eq (.b .mod (.b .fdiv (.v 1) (.ix (.lst (.cons (.L (.int 1)) (.cons (.L (.int 2)) (.cons (.L (.int 4)) (.cons (.L (.int 8)) .nil))))) (.v 2))) (.L (.int 2))) (.L (.int 1))) (.set 0 (.call "cut" (.cons (.v 0) (.cons (.b .gt (.v 2) (.L (.int 1))) (.cons (.b .mod (.v 2) (.L (.int 2))) .nil))))) .nop)
def aCI:IS:=(.seq (.loop [2] J .rng (.tup (.cons (.L (.int 4)) .nil)) aGc) (.ret J (.v 0)))
def qt(sp:List Spot)(c n b:Nat):List (Nat×Nat×Bool):=(b0 c n n).filter λj=>!bt b (sdO sp j)
def aFA{T:Table}{F:List D}(hc:1<=c)(ak:c*r<=64)(S:av T 1 1 sp)(hs:sp.length=c*r) (R:∀(aa:List (Nat×Nat)) (l:Bool) (n:Int),0<=n->n<=1->aa.length<=900000->G.fn "cut" [aN c r 1 1 T F (aa.map pD),.bl l,.int n]=O (.ok (aN c r 1 1 T F ((aa++fZ c (c*r) sp aa l n).map pD)))) (b:Nat):∃aa:List (Nat×Nat),bK G 3 aCI [aN c r 1 1 T F [],.int (b:Nat)]=O (.ok (aN c r 1 1 T F (aa.map pD)))/\Pg.left c (c*r) aa=qt sp c (c*r) b:=by
 obtain⟨B',e,aa,s2,_,hl,rfl⟩:=kU (bind:=bB [2] J) (body:=ex G aGc) (λk B=>∃(aa:List (Nat×Nat)) (s2:Sl),aa.length<=1000*k/\Pg.left c (c*r) aa=(b0 c (c*r) (c*r)).filter (λj=>!(decide (sdO sp j<k)&&bt b (sdO sp j)))/\B=[.im (aN c r 1 1 T F (aa.map pD)),.im (.int (b:Nat)),s2]) (n:=4) (B:=[.im (aN c r 1 1 T F []),.im (.int (b:Nat)),.un]) ⟨[],.un,ux _,by rw[ML];exact(List.filter_eq_self.mpr λj _=>rfl).symm,rfl⟩ (by
  rintro k hk B ⟨aa,s2,hsv,hl,rfl⟩;refine⟨[.im (aN c r 1 1 T F (aa.map pD)),.im (.int (b:Nat)),.im (.int (k:Nat))],rfl,?_⟩;have W:ev G (.b .eq (.b .mod (.b .fdiv (.v 1) (.ix (.lst (.cons (.L (.int 1)) (.cons (.L (.int 2)) (.cons (.L (.int 4)) (.cons (.L (.int 8)) .nil))))) (.v 2))) (.L (.int 2))) (.L (.int 1))) (view [.im (aN c r 1 1 T F (aa.map pD)),.im (.int (b:Nat)),.im (.int (k:Nat))])=O (.bl (bt b k)):=by rw[bF,QJ (b:=b) (k:=k) hk rfl rfl];show ah .eq (.int _) (.int ((1:Nat):Int))=_;rw[BB,jI];rfl
  cases q:bt b k with
  |false=>refine⟨_,dG (by rw[W,q]) aY,aa,_,z7,?_,rfl⟩;rw[hl];refine filter_congr λj I=>?_;by_cases e:sdO sp j=k;rw[e,q,Bool.and_false,Bool.and_false];rw[decide_eq_decide.mpr (show sdO sp j<k+1↔sdO sp j<k by lia)]
  |true=>
   have z:=R aa (decide (1<k)) ((k % 2:Nat):Int) z7 z7 z7;refine⟨_,jR (by rw[W,q]) (aQ (d:=aN c r 1 1 T F ((aa++fZ c (c*r) sp aa (decide (1<k)) ((k % 2:Nat):Int)).map pD)) ?_),_,_,?_,?_,rfl⟩;have m2:ah .mod (.int ((k:Nat):Int)) (.int 2)=O (.int ((k % 2:Nat):Int)):=pI (b:=2) Aa;have g1:ah .gt (.int ((k:Nat):Int)) (.int 1)=O (.bl (decide (1<k))):=by rw[aBX];exact congrArg (λb=>O (D.bl b)) (decide_eq_decide.mpr z7)
   rw[fL,aU,aU,aU,bF,bF];simp only[z6];simp only[aBX]at g1;rw[m2];simp only[aA,zz,yy,g1,z];rw[D.bl.inj (vb g1),z];rfl;rw[vt];have:(fZ c (c*r) sp aa (decide (1<k)) ((k % 2:Nat):Int)).length<=1000:=by unfold fZ;rw[uw];refine vm (length_filter_le _ _) (vm (length_filter_le _ _) ?_);exact vm (gC (c*r)) z7
   lia;rw[MM,hl,List.filter_filter];refine filter_congr λj I=>?_;rw[DZ S (by rw[hs];exact(iX hc I).1) hk];by_cases e:sdO sp j=k;rw[e,q,beq_self_eq_true,wa (show k<k+1 by lia)];rfl;rw[beq_false_of_ne e,decide_eq_decide.mpr (show sdO sp j<k+1↔sdO sp j<k by lia)];rfl)
 refine⟨aa,aR (B:=[.im (aN c r 1 1 T F []),.im (.int (b:Nat)),.un]) rfl (aH ((bZ (d:=.tup [.int ((4:Nat):Int)]) rfl (cR Aa)).trans e) (bC rfl)),?_⟩;rw[hl];refine filter_congr λj I=>?_;rw[wa (ZE S (by rw[hs];exact(iX hc I).1)),Bool.true_and]
noncomputable def RF:IS:=(.seq (.g (.b .lt (.b .mod (.v 3) (.v 0)) (.b .sub (.v 0) (.L (.int 1)))) (.app 2 (.tup (.cons (.v 3) (.cons (.b .add (.v 3) (.L (.int 1))) (.cons (.L (.bl J)) .nil))))) .nop) (.g (.b .lt (.b .fdiv (.v 3) (.v 0)) (.b .sub (.v 1) (.L (.int 1)))) (.app 2 (.tup (.cons (.v 3) (.cons (.b .add (.v 3) (.v 0)) (.cons (.L (.bl Y)) .nil))))) .nop))
def BW:IS:=(.seq (.setm 2 (.lst .nil)) (.seq (.loop [3] J .rng (.tup (.cons (.b .mul (.v 0) (.v 1)) .nil)) RF) (.M 2)))
def MA{k:Nat}(hc:1<=c)(hr:1<=r):decide (((k / c:Nat):Int)<(r:Int)-1)=decide (k+c<c*r):=by refine decide_eq_decide.mpr ?_;have:=Nat.div_lt_iff_lt_mul (x:=k+c) (k:=c) (y:=r) hc;rw[Nat.add_div_right _ hc,Nat.mul_comm r c]at this;lia
def WE(hc:1<=c)(hr:1<=r)(R:c*r<=64)(I:c<=64):bK G 4 BW [.int c,.int r]=O (.ok (.lst ((b0 c (c*r) (c*r)).map fm))):=by
 obtain⟨B',l,z,rfl⟩:=kU (bind:=bB [3] J) (body:=ex G RF) (λk B=>∃z,B=[.im (.int c),.im (.int r),.mu (.lst ((b0 c (c*r) k).map fm)),z]) (n:=c*r) (B:=[.im (.int c),.im (.int r),.mu (.lst []),.un]) ⟨_,rfl⟩ (by
  rintro k hk B ⟨z,rfl⟩;have hl:=gC (c:=c) (n:=c*r) k;refine⟨[.im (.int c),.im (.int r),.mu (.lst ((b0 c (c*r) k).map fm)),.im (.int (k:Nat))],rfl,_,aH (iP (b:=decide (k % c<c-1)) (d:=fm (k,k+1,J)) ?_ ?_ rfl (by rw[uw];lia)) (iP (b:=decide (k+c<c*r)) (d:=fm (k,k+c,Y)) ?_ ?_ rfl ?_),.im (.int k),?_⟩;simp only[z6,pI hc,FL hc];simp only[z6];rfl;simp only[List.set];simp only[z6,FJ hc (show c<1000000 by lia),MA hc hr];simp only[List.set];simp only[z6];rfl;rw[vt,uw];split<;>simp<;>lia
  simp only[List.set,qE,xf,vd,EB])
 refine aR (B:=[.im (.int c),.im (.int r),.un,.un]) rfl (aH (fK (ds:=[]) (by simp only[zz,yy,aB])) (aH ((bZ (d:=.tup [.int ((c*r:Nat):Int)]) ?_ (cR z7)).trans l) (jH rfl)));simp only[List.set];simp only[z6,hJ (show c<=1000000 by lia)]
noncomputable def aAo:IS:=(.put 4 (.v 5) (.tup (.cons (.v 6) (.cons (.v 7) .nil))))
noncomputable def mW:IS:=(.seq (.t [6,7] (.ixd 4 (.v 9))) (.seq (.set 12 (.q (.tr (.v 11)) (.b .add (.ρ .int (.cons (.not (.tr (.v 7))) .nil)) (.L (.int 2))) (.ρ .int (.cons (.not (.tr (.v 6))) .nil)))) (.g (.b .eq (.b .mod (.b .fdiv (.v 3) (.ix (.lst (.cons (.L (.int 1)) (.cons (.L (.int 2)) (.cons (.L (.int 4)) (.cons (.L (.int 8)) .nil))))) (.v 12))) (.L (.int 2))) (.L (.int 0))) (.app 8 (.tup (.cons (.v 9) (.cons (.v 10) (.cons (.v 12) .nil))))) .nop)))
def BU:IS:=(.seq (.setd 4) (.seq (.loop [5,6,7] Y .seq (.v 0) aAo) (.seq (.setm 8 (.lst .nil)) (.seq (.loop [9,10,11] Y .seq (.call zq (.cons (.v 1) (.cons (.v 2) .nil))) mW) (.M 8)))))
noncomputable def enD(v:Bool×Bool):D:=.tup [.bl v.1,.bl v.2]
def cH(sp:List Spot)(j:Nat×Nat×Bool):D:=.tup [.int j.1,.int j.2.1,.int (sdO sp j:Nat)]
noncomputable def fy(h:D)(c r b:Nat)(kvs:List (Int×D))(W R I s8 z jv ju cg:Sl):List Sl:=[.im h,.im (.int c),.im (.int r),.im (.int (b:Nat)),.mu (.dct kvs),W,R,I,s8,z,jv,ju,cg]
def pF{T:Table}(hc:1<=c)(ak:c*r<=64)(S:av T 1 1 sp)(hs:sp.length=c*r)(hnr:G.fn zq [.int c,.int r]=O (.ok (.lst ((b0 c (c*r) (c*r)).map fm))))(b:Nat):bK G 13 BU [hE (ao T 0 0),.int c,.int r,.int (b:Nat)]=O (.ok (.lst ((qt sp c (c*r) b).map (cH sp)))):=by
 have lh:(ao T 0 0).length<=64:=by rw[(rO S).1];exact S.len
 obtain⟨kvs,R,t6,t7,e,hv⟩:=wG (G:=G) (b:=aAo) (tg:=[5,6,7]) (fr:=λkvs s5 I z=>fy (hE (ao T 0 0)) c r b kvs s5 I z .un .un .un .un .un) (enc:=enD) (λ_ _ _ _ _=>rfl) (λx kvs h=>pL (d:=enD x.2) (i:=x.1) rfl rfl rfl h) (ao T 0 0) [] .un .un .un (by rw[length_nil];lia);have at_:∀(k:Nat) (s:Spot),sp[k]?=O s->bU kvs k=O (enD (s.e,s.n)):=λk s h=>EW S hv h;have iF:=gC (c:=c) (n:=c*r) (c*r);have go:∀(L:List (Nat×Nat×Bool)) (out:List (Nat×Nat×Bool)) (I z s9 jv ju W:Sl),(∀j∈L,j.1<sp.length)->out.length+L.length<=900000->∃s6' s7' s9' s10' s11' s12',bS (bB [9,10,11] Y) (ex G mW) (L.map fm) (fy (hE (ao T 0 0)) c r b kvs R I z (.mu (.lst (out.map (cH sp)))) s9 jv ju W)=O (.nx (fy (hE (ao T 0 0)) c r b kvs R s6' s7' (.mu (.lst ((out++L.filter λj=>!bt b (sdO sp j)).map (cH sp)))) s9' s10' s11' s12')):=by
  intro L;induction L with
  |nil=>intro out I z s9 jv ju W _ _;exact⟨I,z,s9,jv,ju,W,by rw[filter_nil,vx];rfl⟩
  |cons j L ih=>
   intro out I z s9 jv ju W hb hl;rw[xb]at hl;have hj:=hb j x8;obtain⟨s,h1,h2⟩:=aFw S (l:=j.2.2) hj;have h4:=ZE S hj;have hsd:((sdO sp j:Nat):Int)=if j.2.2 then(if s.n then 0 else 1)+2 else if s.e then 0 else 1:=by
    unfold sdO;rw[h2];cases j.2.2;cases s.e<;>rfl
    cases s.n<;>rfl
   have st:ex G mW (fy (hE (ao T 0 0)) c r b kvs R I z (.mu (.lst (out.map (cH sp)))) (.im (.int j.1)) (.im (.int j.2.1)) (.im (.bl j.2.2)) W)=O (.nx (fy (hE (ao T 0 0)) c r b kvs R (.im (.bl s.e)) (.im (.bl s.n)) (.mu (.lst ((out++if !bt b (sdO sp j) then [j] else []).map (cH sp)))) (.im (.int j.1)) (.im (.int j.2.1)) (.im (.bl j.2.2)) (.im (.int (sdO sp j:Nat))))):=by
    refine aH (B':=fy (hE (ao T 0 0)) c r b kvs R (.im (.bl s.e)) (.im (.bl s.n)) (.mu (.lst (out.map (cH sp)))) (.im (.int j.1)) (.im (.int j.2.1)) (.im (.bl j.2.2)) W) (zE.trans ?_) (aH (B':=fy (hE (ao T 0 0)) c r b kvs R (.im (.bl s.e)) (.im (.bl s.n)) (.mu (.lst (out.map (cH sp)))) (.im (.int j.1)) (.im (.int j.2.1)) (.im (.bl j.2.2)) (.im (.int (sdO sp j:Nat)))) ((aQ (d:=.int (sdO sp j:Nat)) ?_).trans rfl) ((iP (b:=!bt b (sdO sp j)) (d:=cH sp j) (ds:=out.map (cH sp)) ?_ rfl rfl (by rw[uw];lia)).trans ?_));show ((bU kvs (j.1:Int)).bind λd=>(bB [6,7] Y d _).map Out.nx)=_;rw[at_ _ s h1];rfl;rw[hsd];cases j.2.2;cases s.e<;>rfl
    cases s.n<;>rfl
    rw[bF,QJ (b:=b) (k:=sdO sp j) h4 rfl rfl];show ah .eq (.int _) (.int ((0:Nat):Int))=_;rw[BB,jI];unfold bt;have:b / 2 ^ sdO sp j % 2=0\/b / 2 ^ sdO sp j % 2=1:=by lia
    rcases this with e|e<;>rw[e]<;>rfl
    unfold fy;simp only[List.set];cases !bt b (sdO sp j)<;>simp
   obtain⟨a6,a7,a9,a10,a11,a12,e⟩:=ih (out++if !bt b (sdO sp j) then [j] else []) (.im (.bl s.e)) (.im (.bl s.n)) (.im (.int j.1)) (.im (.int j.2.1)) (.im (.bl j.2.2)) (.im (.int (sdO sp j:Nat))) (λj m=>hb j (v8 _ m)) (by rw[vt];split<;>simp<;>lia);refine⟨a6,a7,a9,a10,a11,a12,?_⟩;have ef:out++(j::L).filter (λj=>!bt b (sdO sp j))=(out++if !bt b (sdO sp j) then [j] else [])++L.filter λj=>!bt b (sdO sp j):=by cases q:!bt b (sdO sp j);rw[filter_cons_of_neg (by rw[q];decide)];simp;rw[filter_cons_of_pos (by rw[q])];simp
   rw[ef,vz];unfold bS;show (ex G mW (fy (hE (ao T 0 0)) c r b kvs R I z (.mu (.lst (out.map (cH sp)))) (.im (.int j.1)) (.im (.int j.2.1)) (.im (.bl j.2.2)) W)).bind _=_;rw[st];exact e
 obtain⟨a6,a7,a9,a10,a11,a12,e2⟩:=go (b0 c (c*r) (c*r)) [] t6 t7 .un .un .un .un (λj m=>by rw[hs];exact(iX hc m).1) (by rw[length_nil];lia);refine aR (B:=[.im (hE (ao T 0 0)),.im (.int c),.im (.int r),.im (.int (b:Nat)),.un,.un,.un,.un,.un,.un,.un,.un,.un]) rfl (aH wJ (aH ((bZ (d:=hE (ao T 0 0)) rfl (show items .seq (hE (ao T 0 0))=O ((ao T 0 0).map f6) from rfl)).trans e) (aH (fK rfl) (aH ((bZ (d:=.lst ((b0 c (c*r) (c*r)).map fm)) ?_ cJ).trans e2) (jH rfl)))));unfold fy;simp only[List.set];simp only[z6,hnr]
end
section
variable {G:GS}
noncomputable def aAp:IS:=(.g (.or (.not (.tr (.call zh (.cons (.ix (.v 0) (.v 2)) .nil)))) (.b .ne (.ix (.v 0) (.v 2)) (.ix (.v 1) (.v 2)))) (.ret J (.L (.bl J))) .nop)
def NJ:IS:=(.seq (.g (.or (.not (.tr (.y (.v 0) "list"))) (.b .ne (.ρ .len (.cons (.v 0) .nil)) (.ρ .len (.cons (.v 1) .nil)))) (.ret J (.L (.bl J))) .nop) (.seq (.loop [2] J .rng (.tup (.cons (.ρ .len (.cons (.v 1) .nil)) .nil)) aAp) (.ret J (.L (.bl Y)))))
noncomputable def aGe:IS:=(.seq (.set 3 (.ix (.v 0) (.v 2))) (.seq (.g (.or (.not (.tr (.y (.v 3) "tuple"))) (.or (.b .ne (.ρ .len (.cons (.v 3) .nil)) (.L (.int 2))) (.not (.tr (.call zh (.cons (.ix (.v 3) (.L (.int 0))) .nil)))))) (.ret J (.L (.bl J))) .nop) (.g (.or (.not (.tr (.call zh (.cons (.ix (.v 3) (.L (.int 1))) .nil)))) (.b .ne (.v 3) (.ix (.v 1) (.v 2)))) (.ret J (.L (.bl J))) .nop)))
def aCJ:IS:=(.seq (.g (.or (.not (.tr (.y (.v 0) "list"))) (.b .ne (.ρ .len (.cons (.v 0) .nil)) (.ρ .len (.cons (.v 1) .nil)))) (.ret J (.L (.bl J))) .nop) (.seq (.loop [2] J .rng (.tup (.cons (.ρ .len (.cons (.v 1) .nil)) .nil)) aGe) (.ret J (.L (.bl Y)))))
def aBZ(hw:∀i:Int,G.fn zh [.int i]=O (.ok (.bl Y))){A:List Nat}(hl:A.length<=1000):bK G 3 NJ [.lst (A.map dN),.lst (A.map dN)]=O (.ok (.bl Y)):=by obtain⟨B',h1,s,rfl⟩:=nW (bind:=bB [2] J) (body:=ex G aAp) (λB=>∃s,B=[.im (.lst (A.map dN)),.im (.lst (A.map dN)),s]) (ds:=(List.range A.length).map λ(k:Nat)=>D.int k) (B:=[.im (.lst (A.map dN)),.im (.lst (A.map dN)),.un]) ⟨_,rfl⟩ (by rintro d hd B ⟨s,rfl⟩;obtain⟨k,hk,rfl⟩:=wc.mp hd;have hk:=xp.mp hk;have e1:atI (A.map dN) (k:Int)=O (dN A[k]):=fE (by rw[uv,u7 hk];rfl);refine⟨[.im (.lst (A.map dN)),.im (.lst (A.map dN)),.im (.int (k:Nat))],rfl,_,dG ?_ aY,_,rfl⟩;simp only[dC,eI,bG];refine cD (x:=J) (y:=J) ?_ λ_=>?_;simp only[z6,e1];unfold dN;simp only[z6,hw,cU,vv];simp only[z6,e1];exact ne_int);refine aR (B:=[.im (.lst (A.map dN)),.im (.lst (A.map dN)),.un]) rfl (aH (dG ?_ aY) (aH ((bZ (d:=.tup [.int ((A.length:Nat):Int)]) ?_ (cR z7)).trans h1) (bC (by simp only[zz,yy]))));simp only[dC,eI,bG];refine cD (x:=J) (y:=J) (by simp only[z6,vP,cU,vv]) λ_=>?_;simp only[z6,uw];exact ne_int;simp only[z6,uw]
def aFX(hw:∀i:Int,G.fn zh [.int i]=O (.ok (.bl Y))){A:List (Nat×Nat)}(hl:A.length<=1000):bK G 4 aCJ [.lst (A.map pD),.lst (A.map pD)]=O (.ok (.bl Y)):=by obtain⟨B',h1,s,z,rfl⟩:=nW (bind:=bB [2] J) (body:=ex G aGe) (λB=>∃s z,B=[.im (.lst (A.map pD)),.im (.lst (A.map pD)),s,z]) (ds:=(List.range A.length).map λ(k:Nat)=>D.int k) (B:=[.im (.lst (A.map pD)),.im (.lst (A.map pD)),.un,.un]) ⟨_,_,rfl⟩ (by rintro d hd B ⟨s,z,rfl⟩;obtain⟨k,hk,rfl⟩:=wc.mp hd;have hk:=xp.mp hk;obtain⟨a,ha⟩:∃a,a=A[k]:=⟨_,rfl⟩;have e1:atI (A.map pD) (k:Int)=O (pD a):=fE (by rw[uv,u7 hk,ha];rfl);refine⟨[.im (.lst (A.map pD)),.im (.lst (A.map pD)),.im (.int (k:Nat)),z],rfl,_,aH (aQ (d:=pD a) ?_) (aH (dG ?_ aY) (dG ?_ aY)),_,_,rfl⟩;simp only[z6,e1];simp only[List.set,dC,eI,bG];unfold pD;refine cD (x:=J) (y:=J) (by simp only[z6,vO,cU,vv]) λ_=>cD (x:=J) (y:=J) ?_ λ_=>?_;simp only[z6];rfl;simp only[z6,sG.1,hw,cU,vv];simp only[List.set,dC,eI,bG];refine cD (x:=J) (y:=J) (by unfold pD;simp only[z6,sG.2,hw,cU,vv]) λ_=>?_;simp only[z6,e1];exact ne_self rfl (by rw[QQ,beq_self_eq_true]));refine aR (B:=[.im (.lst (A.map pD)),.im (.lst (A.map pD)),.un,.un]) rfl (aH (dG ?_ aY) (aH ((bZ (d:=.tup [.int ((A.length:Nat):Int)]) ?_ (cR z7)).trans h1) (bC (by simp only[zz,yy]))));simp only[dC,eI,bG];refine cD (x:=J) (y:=J) (by simp only[z6,vP,cU,vv]) λ_=>?_;simp only[z6,uw];exact ne_int;simp only[z6,uw]
noncomputable def NI:IS:=(.seq (.setm 2 (.lst .nil)) (.seq (.tryp (.call z5 (.cons (.v 0) (.cons (.v 1) .nil))) "LeafError" 3 yq 2) (.seq (.tryp (.call z4 (.cons (.v 0) (.cons (.v 1) .nil))) "LeafError" 3 yq 2) (.M 2))))
def FC{ce:IE}{hc f k:Str}{i x:Nat}(h:ja G ce (view B)=O (.er k))(h1:G.xn k=Y)(h2:G.xn hc=Y)(h3:G.sub k hc=Y)(h4:G.wd f k=O y)(h5:(B.set i .un)[x]?=O (.mu (.lst ds)))(h6:ds.length<1000000):ex G (.tryp ce hc i f x) B=O (.nx ((B.set i .un).set x (.mu (.lst (ds++[.str y]))))):=by show (ja G ce (view B)).bind _=_;rw[h];show (if (G.xn k&&G.xn hc&&G.sub k hc)=Y then _ else U)=_;rw[h1,h2,h3];show (G.wd f k).bind _=_;rw[h4];show (match (B.set i .un)[x]? with|some (.mu (.lst ds))=>if ds.length<big then O (Out.nx ((B.set i .un).set x (.mu (.lst (ds++[D.str y]))))) else U|_=>U)=_;rw[h5];exact if_pos h6
def aBd{k:Str}(z:G.fn z5 [p,.str x]=O (.er k))(hb:G.fn z4 [p,.str x]=O (.er k))(h1:G.xn k=Y)(h2:G.xn "LeafError"=Y)(h3:G.sub k "LeafError"=Y)(h4:G.wd yq k=O y):bK G 4 NI [p,.str x]=O (.ok (.lst [.str y,.str y])):=by refine aR (B:=[.im p,.im (.str x),.un,.un]) rfl (aH (fK (ds:=[]) (by simp only[z6])) (aH (FC (ds:=[]) z h1 h2 h3 h4 rfl Aa) (aH (FC (ds:=[.str y]) hb h1 h2 h3 h4 rfl (by show 1<1000000;decide)) rfl)))
end
section
variable {G:GS}
noncomputable def nZ:IS:=(.ifw (.tr (.ρ .any (.cons (.c 3 [(2,10)] [1] J .seq (.v 12) (.L (.bl Y)) (.b .isin (.v 1) (.v 2))) .nil))) (.set 11 (.b .add (.v 11) (.v 12))) .nop)
def EU:IS:=(.seq (.t [1,2] (.call yj (.cons (.call yo (.cons (.v 0) (.cons (.L (.int 0)) .nil))) .nil))) (.seq (.set 3 (.ix (.lst (.cons (.L (.str "north")) (.cons (.L (.str "nowhere")) .nil))) (.b .mod (.b .fdiv (.call yo (.cons (.v 0) (.cons (.L (.int 1)) .nil))) (.L (.int 16))) (.L (.int 2))))) (.seq (.ifw (.and (.b .gt (.b .mul (.v 1) (.v 2)) (.L (.int 1))) (.b .ne (.call yk (.cons (.call "laid" (.cons (.v 1) (.cons (.v 2) .nil))) (.cons (.v 3) .nil))) (.lst (.cons (.L (.str "ajar")) (.cons (.L (.str "ajar")) .nil))))) (.ret J (.L (.bl J))) .nop) (.seq (.set 4 (.call zr (.cons (.v 1) (.cons (.v 2) (.cons (.v 0) .nil))))) (.seq (.set 5 (.call yw (.cons (.v 4) (.cons (.b .mul (.v 1) (.v 2)) .nil)))) (.seq (.set 3 (.ix (.lst (.cons (.L (.str "level")) (.cons (.L (.str "")) (.cons (.L (.str "WEST")) .nil)))) (.b .mod (.b .fdiv (.call yo (.cons (.v 0) (.cons (.L (.int 2)) .nil))) (.L (.int 4))) (.L (.int 3))))) (.seq (.ifw (.or (.b .is (.v 5) (.L .non)) (.b .ne (.call yk (.cons (.v 4) (.cons (.v 3) .nil))) (.lst (.cons (.L (.str "place")) (.cons (.L (.str "place")) .nil))))) (.ret J (.L (.bl J))) .nop) (.seq (.set 6 (.b .mod (.call yo (.cons (.v 0) (.cons (.L (.int 1)) .nil))) (.L (.int 16)))) (.seq (.set 7 (.b .mod (.call yo (.cons (.v 0) (.cons (.L (.int 2)) .nil))) (.L (.int 4)))) (.seq (.set 8 (.ix (.lst (.cons (.L (.str "west")) (.cons (.L (.str "east")) (.cons (.L (.str "north")) (.cons (.L (.str "south")) .nil))))) (.v 7))) (.seq (.set 4 (.call za (.cons (.v 4) (.cons (.v 6) .nil)))) (.seq (.set 9 (.call zl (.cons (.v 5) (.cons (.v 1) (.cons (.v 2) (.cons (.v 6) .nil)))))) (.seq (.set 10 (.b .add (.c 3 [(2,7)] [1] J .seq (.v 9) (.b .eq (.ix (.v 1) (.L (.int 2))) (.v 2)) (.ix (.v 1) (.L (.int 0)))) (.c 3 [(2,7)] [1] J .seq (.v 9) (.b .eq (.ix (.v 1) (.L (.int 2))) (.v 2)) (.ix (.v 1) (.L (.int 1)))))) (.seq (.set 11 (.lst .nil)) (.seq (.loop [12] J .seq (.call yz (.cons (.b .mul (.v 1) (.v 2)) (.cons (.c 2 [] [1] J .seq (.v 9) (.L (.bl Y)) (.tup (.cons (.ix (.v 1) (.L (.int 0))) (.cons (.ix (.v 1) (.L (.int 1))) .nil)))) .nil))) nZ) (.seq (.setp 13 (.call z5 (.cons (.v 4) (.cons (.v 8) .nil)))) (.seq (.ifw (.or (.not (.tr (.y (.v 13) "tuple"))) (.or (.b .ne (.ρ .len (.cons (.v 13) .nil)) (.L (.int 2))) (.not (.tr (.call yp (.cons (.ix (.v 13) (.L (.int 0))) (.cons (.ρ .sorted (.cons (.v 11) .nil)) .nil))))))) (.ret J (.L (.bl J))) .nop) (.seq (.ifw (.not (.tr (.call yp (.cons (.ix (.v 13) (.L (.int 1))) (.cons (.c 3 [(2,11)] [1] J .rng (.tup (.cons (.b .mul (.v 1) (.v 2)) .nil)) (.b .notin (.v 1) (.v 2)) (.v 1)) .nil))))) (.ret J (.L (.bl J))) .nop) (.seq (.set 14 (.c 3 [(2,7)] [1] J .seq (.v 9) (.b .ne (.ix (.v 1) (.L (.int 2))) (.v 2)) (.tup (.cons (.ix (.v 1) (.L (.int 0))) (.cons (.ix (.v 1) (.L (.int 1))) .nil))))) (.seq (.setm 15 (.call z4 (.cons (.v 4) (.cons (.v 8) .nil)))) (.seq (.ifw (.not (.tr (.call yc (.cons (.v 15) (.cons (.v 14) .nil))))) (.ret J (.L (.bl J))) .nop) (.seq (.app 15 (.tup (.cons (.L (.int 0)) (.cons (.L (.int 1)) .nil)))) (.seq (.appw 13 J (.int 0)) (.seq (.appw 13 Y (.int 0)) (.seq (.set 16 (.call z5 (.cons (.v 4) (.cons (.v 8) .nil)))) (.seq (.ifw (.not (.tr (.call yp (.cons (.ix (.v 16) (.L (.int 1))) (.cons (.c 3 [(2,11)] [1] J .rng (.tup (.cons (.b .mul (.v 1) (.v 2)) .nil)) (.b .notin (.v 1) (.v 2)) (.v 1)) .nil))))) (.ret J (.L (.bl J))) .nop) (.ret J (.and (.call yc (.cons (.call z4 (.cons (.v 4) (.cons (.v 8) .nil))) (.cons (.v 14) .nil))) (.call yp (.cons (.ix (.v 16) (.L (.int 0))) (.cons (.ρ .sorted (.cons (.v 11) .nil)) .nil)))))))))))))))))))))))))))))))
def rC{a b:IS}{c:IE}{o:Option Out}(h1:ev G c (viewW B)=O (.bl J))(h2:ex G b B=o):ex G (.ifw c a b) B=o:=by show (match ev G c (viewW B) with|some (.bl Y)=>ex G a B|some (.bl J)=>ex G b B|_=>U)=_;rw[h1];exact h2
def aFT{a b:IS}{c:IE}{o:Option Out}(h1:ev G c (viewW B)=O (.bl Y))(h2:ex G a B=o):ex G (.ifw c a b) B=o:=by show (match ev G c (viewW B) with|some (.bl Y)=>ex G a B|some (.bl J)=>ex G b B|_=>U)=_;rw[h1];exact h2
def kH{s:Sl}{r:List Sl}:viewW (s::r)=jS s::viewW r:=id rfl
def gI:viewW []=[]:=id rfl
def XZ{x:Nat}{a b:List D}(h:ev G e B=O (.tup [.lst a,.lst b])):ex G (.setp x e) B=O (.nx (B.set x (.ow a b))):=by show (match ev G e B with|some (.tup [.lst a,.lst b])=>O (Out.nx (B.set x (.ow a b)))|_=>U)=_;rw[h]
def FD{x:Nat}{k:Bool}{l:Lit}{a b:List D}(h:B[x]?=O (.ow a b))(h1:a.length<1000000)(h2:b.length<1000000):ex G (.appw x k l) B=O (.nx ((B.map rS).set x (if k then .ow a (b++[l.d]) else .ow (a++[l.d]) b))):=by show (match B[x]? with|some (.ow a b)=>if a.length<big/\b.length<big then O (Out.nx ((B.map rS).set x (if k then .ow a (b++[l.d]) else .ow (a++[l.d]) b))) else U|_=>U)=_;rw[h];exact if_pos ⟨h1,h2⟩
def ND{a:Nat}{K:List Nat}:ah .isin (dN a) (.lst (K.map dN))=O (.bl (K.any (· == a)))/\ah .notin (dN a) (.lst (K.map dN))=O (.bl (!K.any (· == a))):=by
 have e:((K.map dN).any λy=>bx y (dN a))=K.any (· == a):=by rw[any_map];congr 1;funext k;show bx (.int (k:Int)) (.int (a:Int))=_;rw[bx];exact jI
 have p:(plain (dN a)&&(K.map dN).all plain)=Y:=by rw[va];exact⟨rfl,all_eq_true.mpr λx hx=>by obtain⟨y,_,rfl⟩:=wc.mp hx;rfl⟩
 constructor;show (if (plain (dN a)&&(K.map dN).all plain)=Y then O (D.bl ((K.map dN).any λy=>bx y (dN a))) else U)=_;rw[if_pos p,e];show (if (plain (dN a)&&(K.map dN).all plain)=Y then O (D.bl (!(K.map dN).any λy=>bx y (dN a))) else U)=_;rw[if_pos p,e]
def fk(a b c d e f g h i j:Sl)(K A:List Nat)(s:Sl):List Sl:=[a,b,c,d,e,f,g,h,i,j,.im (.lst (K.map dN)),.im (.lst (A.map dN)),s,.un,.un,.un,.un]
theorem vM{a b c d e f g h i j:Sl}{K:List Nat}:∀(gs:List (List Nat)) (A:List Nat) (s:Sl),(∀g∈gs,g.length<=64)->A.length+64*gs.length<=900000 ->∃s',bS (bB [12] J) (ex G nZ) (gs.map dI) (fk a b c d e f g h i j K A s)=O (.nx (fk a b c d e f g h i j K (A++(gs.filter λg=>g.any λa=>K.any (· == a)).flatten) s'))
 |[],A,s,_,_=>⟨s,by rw[filter_nil,List.flatten_nil,vx];rfl⟩
 |y::gs,A,s,h64,hl=>by
  rw[xb]at hl;have hg:=h64 y x8;have I:ev G (.tr (.ρ .any (.cons (.c 3 [(2,10)] [1] J .seq (.v 12) (.L (.bl Y)) (.b .isin (.v 1) (.v 2))) .nil))) (viewW (fk a b c d e f g h i j K A (.im (dI y))))=O (.bl (y.any λa=>K.any (· == a))):=by rw[rG,fP,aU,cM (L:=y) dN (λk=>D.bl (K.any (· == k))) (s:=dI y) rfl cJ (λk _=>⟨[.un,.im (dN k),.im (.lst (K.map dN))],rfl,rfl,by show ah .isin (dN k) (.lst (K.map dN))=_;exact ND.1⟩),kC];show ((bf .any [.lst (y.map λk=>D.bl (K.any (· == k)))]).bind λx=>(dh x).map D.bl)=_;rw[RL];rfl
  cases q:y.any λa=>K.any (· == a) with
  |true=>
   obtain⟨s',z⟩:=vM (a:=a) (b:=b) (c:=c) (d:=d) (e:=e) (f:=f) (g:=g) (h:=h) (i:=i) (j:=j) (K:=K) gs (A++y) (.im (dI y)) (λg' m=>h64 g' (v8 _ m)) (by rw[vt];lia);refine⟨s',?_⟩;rw[filter_cons_of_pos (by rw[q]),flatten_cons,<-vd,vz];unfold bS;show (ex G nZ (fk a b c d e f g h i j K A (.im (dI y)))).bind _=_;have e1:ex G nZ (fk a b c d e f g h i j K A (.im (dI y)))=O (.nx (fk a b c d e f g h i j K (A++y) (.im (dI y)))):=by refine(aFT (by rw[I,q]) (aQ (d:=.lst (A.map dN++y.map dN)) ?_)).trans ?_;show (if (A.map dN).length+(y.map dN).length<=big then O (D.lst (A.map dN++y.map dN)) else U)=_;rw[if_pos (by rw[uw,uw];unfold big;lia)];unfold fk;rw[xf];rfl
   rw[e1];exact z
  |false=>obtain⟨s',z⟩:=vM (a:=a) (b:=b) (c:=c) (d:=d) (e:=e) (f:=f) (g:=g) (h:=h) (i:=i) (j:=j) (K:=K) gs A (.im (dI y)) (λg' m=>h64 g' (v8 _ m)) z7;refine⟨s',?_⟩;rw[filter_cons_of_neg (by rw[q];decide),vz];unfold bS;show (ex G nZ (fk a b c d e f g h i j K A (.im (dI y)))).bind _=_;have e1:ex G nZ (fk a b c d e f g h i j K A (.im (dI y)))=O (.nx (fk a b c d e f g h i j K A (.im (dI y)))):=rC (by rw[I,q]) aY;rw[e1];exact z
def bP(sp:List Spot)(L:List (Nat×Nat×Bool))(k:Nat):List Nat:=(L.filter λj=>sdO sp j == k).map (·.1)++(L.filter λj=>sdO sp j == k).map (·.2.1)
def rX(sp:List Spot)(L:List (Nat×Nat×Bool))(k:Nat):List (Nat×Nat):=(L.filter λj=>!(sdO sp j == k)).map pairOf
def tk(sp:List Spot)(L:List (Nat×Nat×Bool))(k a:Nat):Bool:=(bP sp L k).any (· == a)
def aAF{l:Bool}{n:Int}{k a:Nat}:∀{L:List (Nat×Nat×Bool)},(∀j∈L,eE sp l n j=(sdO sp j == k))->thr sp l n L a=tk sp L k a:=λ{L} h=>by rw[Bool.eq_iff_iff];unfold thr tk bP;simp only[List.any_eq_true,va,xg,xw,wc,mem_filter];constructor;rintro⟨j,m,h1,h2⟩;rw[h j m]at h1;rcases h2 with h2|h2;exact⟨j.1,.inl ⟨j,⟨m,h1⟩,rfl⟩,h2⟩;exact⟨j.2.1,.inr ⟨j,⟨m,h1⟩,rfl⟩,h2⟩;rintro⟨x,⟨j,⟨m,h1⟩,rfl⟩|⟨j,⟨m,h1⟩,rfl⟩,h2⟩;exact⟨j,m,by rw[h j m];exact h1,.inl h2⟩;exact⟨j,m,by rw[h j m];exact h1,.inr h2⟩
def XN{l:G11.Nm}(N:uo n l){q:List Nat->Bool}:((List.range n).filter λk=>!(((told n l).filter q).flatten).any (· == k))=pick n l λg=>!q g:=by unfold pick;refine filter_congr λk hk=>?_;have hk:=xp.mp hk;congr 1;rw[Bool.eq_iff_iff,List.any_eq_true];constructor;rintro⟨x,m,e⟩;obtain rfl:=wb.mp e;exact((jW N).mp m).2;intro e;exact⟨k,(jW N).mpr ⟨hk,e⟩,beq_self_eq_true k⟩
end
section
variable {G:GS}
def aEe{k:Nat}(h:k<4):i4.lookup (lE k).str=O (.tup [.bl (decide (1<k)),.int ((k % 2:Nat):Int)]):=by
 have:k=0\/k=1\/k=2\/k=3:=by lia
 rcases this with rfl|rfl|rfl|rfl<;>rfl
def yH(h:qo y=Y):ah .ne (.lst [.str y,.str y]) (.lst [.str y,.str y])=O (.bl J):=ne_self (by show ([D.str y,D.str y].all (flat 7))=Y;simp[flat,h]) (by simp[bx,lW])
def aCN(hc:c<=1000000)(a:ev G (.v 1) B=O (.int c))(b:ev G (.v 2) B=O (.int r)):ev G (.b .gt (.b .mul (.v 1) (.v 2)) (.L (.int 1))) B=O (.bl (decide (1<c*r))):=by rw[bF,bF,a,b];simp only[z6,hJ hc];exact congrArg (λb=>O (D.bl b)) (decide_eq_decide.mpr z7)
def aCv{ns:List Int}(sv:∀k:Nat,G.fn yo [.frz (ns.map .int),.int k]=O (.ok (.int (cf ns k)))) (hsb:∀cell:Int,∃c r:Nat,1<=c/\1<=r/\c*r<=64/\G.fn yj [.int cell]=O (.ok (.tup [.int c,.int r]))) (hl:∀c r:Nat,1<=c->1<=r->c*r<=64->G.fn "laid" [.int c,.int r]=O (.ok (aN c r c r (fY c r) [] []))) (hra:∀(c r:Nat) (x:Str),1<=c->1<=r->1<c*r->G.fn yk [aN c r c r (fY c r) [] [],.str x]=O (.ok (.lst [.str "ajar",.str "ajar"]))) (hsh:∀c r:Nat,1<=c->1<=r->c*r<=64->∃fs sp,Stg c r fs sp/\(runs c r fs).2.1=1/\(runs c r fs).2.2=1/\G.fn zr [.int c,.int r,.frz (ns.map .int)]=O (.ok (eD c r fs))) (hle:∀(c r:Nat) (T:Table) (F S:List D) (sp:List Spot),av T 1 1 sp->sp.length=c*r->G.fn yw [aN c r 1 1 T F S,.int ((c*r:Nat):Int)]=O (.ok (hE (ao T 0 0)))) (hrp:∀(c r:Nat) (T:Table) (F S:List D) (x:Str),i4.lookup x=U->G.fn yk [aN c r 1 1 T F S,.str x]=O (.ok (.lst [.str "place",.str "place"]))) (hti:∀(c r:Nat) (T:Table) (sp:List Spot) (b:Nat),1<=c->1<=r->c*r<=64->c<=64->av T 1 1 sp->sp.length=c*r->G.fn zl [hE (ao T 0 0),.int c,.int r,.int (b:Nat)]=O (.ok (.lst ((qt sp c (c*r) b).map (cH sp))))) (hkn:∀(c r:Nat) (T:Table) (F:List D) (sp:List Spot) (b:Nat),1<=c->c*r<=64->c<=64->av T 1 1 sp->sp.length=c*r->∃aa:List (Nat×Nat),G.fn za [aN c r 1 1 T F [],.int (b:Nat)]=O (.ok (aN c r 1 1 T F (aa.map pD)))/\Pg.left c (c*r) aa=qt sp c (c*r) b) (hgr:∀(L:List (Nat×Nat×Bool)) (n:Nat),n<=64->L.length<=1000->(∀j∈L,j.1<n/\j.2.1<n)->uo n (dE (L.map pairOf) id)/\G.fn yz [.int (n:Nat),.lst ((L.map pairOf).map gX)]=O (.ok (.lst ((told n (dE (L.map pairOf) id)).map dI)))) (hhe:∀(c r:Nat) (T:Table) (F:List D) (sp:List Spot) (aa:List (Nat×Nat)) (k:Nat),1<=c->c*r<=64->c<=64->av T 1 1 sp->sp.length=c*r->k<4 ->G.fn z5 [aN c r 1 1 T F (aa.map pD),.str (lE k).str]=O (.ok (.tup [.lst ((pick (c*r) (dE ((Pg.left c (c*r) aa).map pairOf) id) λg=>g.any (tk sp (Pg.left c (c*r) aa) k)).map dN),.lst ((pick (c*r) (dE ((Pg.left c (c*r) aa).map pairOf) id) λg=>!g.any (tk sp (Pg.left c (c*r) aa) k)).map dN)])) /\G.fn z4 [aN c r 1 1 T F (aa.map pD),.str (lE k).str]=O (.ok (.lst ((rX sp (Pg.left c (c*r) aa) k).map pD)))) (hnu:∀A:List Nat,A.length<=1000->G.fn yp [.lst (A.map dN),.lst (A.map dN)]=O (.ok (.bl Y))) (jn:∀A:List (Nat×Nat),A.length<=1000->G.fn yc [.lst (A.map pD),.lst (A.map pD)]=O (.ok (.bl Y))):bK G 17 EU [.frz (ns.map .int)]=O (.ok (.bl Y)):=by
 have c0:G.fn yo [.frz (ns.map .int),.int 0]=O (.ok (.int (cf ns 0))):=sv 0;have c1:G.fn yo [.frz (ns.map .int),.int 1]=O (.ok (.int (cf ns 1))):=sv 1;have c2:G.fn yo [.frz (ns.map .int),.int 2]=O (.ok (.int (cf ns 2))):=sv 2;obtain⟨c,r,hc,hr,z,esb⟩:=hsb (cf ns 0);have c64:c<=64:=vm (Nat.le_mul_of_pos_right c hr) z;have c6:c<=1000000:=by lia
 have ela:=hl c r hc hr z;obtain⟨fs,sp,S,w1,h1,esh⟩:=hsh c r hc hr z;obtain⟨T,hT⟩:∃T,T=(runs c r fs).1:=⟨_,rfl⟩;obtain⟨F,hF⟩:∃F,F=fs.map Fold.d:=⟨_,rfl⟩;have ep:eD c r fs=aN c r 1 1 T F []:=by unfold eD;rw[w1,h1,hT,hF]
 have Si:av T 1 1 sp:=by have:=S.sits;rw[w1,h1,<-hT]at this;exact this
 rw[ep]at esh;have ele:=hle c r T F [] sp Si S.len;obtain⟨q1,hq1,eq1⟩:=qG (cf ns 1 / 16) 2 Aa;have eq1:cf ns 1 / 16 % 2=(q1:Int):=eq1;obtain⟨x1,ex1⟩:∃x:Str,atI ([.str "north",.str "nowhere"]:List D) (q1:Int)=O (.str x):=by
  have:q1=0\/q1=1:=by lia
  rcases this with rfl|rfl;exact⟨_,rfl⟩;exact⟨_,rfl⟩
 obtain⟨q2,hq2,W⟩:=qG (cf ns 2 / 4) 3 Aa;have W:cf ns 2 / 4 % 3=(q2:Int):=W;obtain⟨x2,ex2,hx2⟩:∃x:Str,atI ([.str "level",.str "",.str "WEST"]:List D) (q2:Int)=O (.str x)/\i4.lookup x=U:=by
  have:q2=0\/q2=1\/q2=2:=by lia
  rcases this with rfl|rfl|rfl;exact⟨_,rfl,z9⟩;exact⟨_,rfl,z9⟩;exact⟨_,rfl,z9⟩
 obtain⟨k,hk,ek⟩:=qG (cf ns 2) 4 Aa;have ek:cf ns 2 % 4=(k:Int):=ek;obtain⟨b,_,eb⟩:=qG (cf ns 1) 16 Aa;have eb:cf ns 1 % 16=(b:Int):=eb;have etb:=hti c r T sp b hc hr z c64 Si S.len;obtain⟨aa,ekn,hlf⟩:=hkn c r T F sp b hc z c64 Si S.len;obtain⟨hh,hb⟩:=hhe c r T F sp aa k hc z c64 Si S.len hk;rw[hlf]at hh hb;obtain⟨L,hL⟩:∃L,L=qt sp c (c*r) b:=⟨_,rfl⟩;rw[<-hL]at hh hb etb;have lL:L.length<=1000:=by rw[hL];exact vm (length_filter_le _ _) (vm (gC (c*r)) z7)
 obtain⟨N,egr⟩:=hgr L (c*r) z lL λj hj=>iX hc (mem_filter.mp (hL ▸ hj)).1
 obtain⟨nm,hnm⟩:∃nm,nm=dE (L.map pairOf) id:=⟨_,rfl⟩;rw[<-hnm]at hh N egr;obtain⟨K,hK⟩:∃K,K=((told (c*r) nm).filter λg=>g.any (tk sp L k)).flatten:=⟨_,rfl⟩;obtain⟨A,hA⟩:∃A,A=pick (c*r) nm λg=>g.any (tk sp L k):=⟨_,rfl⟩
 obtain⟨ρ,hB⟩:∃ρ,ρ=pick (c*r) nm λg=>!g.any (tk sp L k):=⟨_,rfl⟩
 have lp:∀{q:List Nat->Bool},(pick (c*r) nm q).length<=1000:=λ{q}=>vm (length_filter_le _ _) (by rw[vh];lia);have lA:A.length<=1000:=hA ▸ lp;have lB:ρ.length<=1000:=hB ▸ lp;have esK:fW (K.map dN)=O (A.map dN):=by rw[hK,hA];exact nF N z
 rw[<-hA,<-hB]at hh;have enA:=hnu A lA;have enB:=hnu ρ lB;have lO:(rX sp L k).length<=1000:=by unfold rX;rw[uw];exact vm (length_filter_le _ _) lL
 have ebt:=jn (rX sp L k) lO;obtain⟨t1,t2⟩:=xH (l:=nm) z;have srt:∀{B:List Sl},ev G (.v 11) B=O (.lst (K.map dN))->ev G (.ρ .sorted (.cons (.v 11) .nil)) B=O (.lst (A.map dN)):=λ{B} e=>by rw[fP,aU,e,kC];show (fW (K.map dN)).map D.lst=_;rw[esK];rfl
 have fal:∀{B:List Sl},ev G (.v 1) B=O (.int c)->ev G (.v 2) B=O (.int r)->B.getD 11 .un=.im (.lst (K.map dN))->ev G (.c 3 [(2,11)] [1] J .rng (.tup (.cons (.b .mul (.v 1) (.v 2)) .nil)) (.b .notin (.v 1) (.v 2)) (.v 1)) B=O (.lst (ρ.map dN)):=λ{B} R I a3=>by refine(fO (L:=List.range (c*r)) dN dN (λk=>!K.any (· == k)) (s:=.tup [.int ((c*r:Nat):Int)]) ?_ (cR z7) λa _=>⟨[.un,.im (dN a),.im (.lst (K.map dN))],?_,?_,rfl⟩).trans ?_;rw[rF,aU,bF,R,I,kC];simp only[aA,hJ c6];rfl;show bB [1] J (dN a) [.un,.un,B.getD 11 .un]=_;rw[a3];rfl;exact ND.2;rw[hB,<-XN N,<-hK]
 have two:∀{B:List Sl},B.getD 7 .un=.im (.int (k:Nat))->∀d,bB [1] J d (frame 3 [(2,7)] B)=O [.un,.im d,.im (.int (k:Nat))]:=λ{B} a d=>by show bB [1] J d [.un,.un,B.getD 7 .un]=_;rw[a];rfl
 have ti:∀{B:List Sl},ev G (.v 9) B=O (.lst (L.map (cH sp)))->B.getD 7 .un=.im (.int (k:Nat))->ev G (.b .add (.c 3 [(2,7)] [1] J .seq (.v 9) (.b .eq (.ix (.v 1) (.L (.int 2))) (.v 2)) (.ix (.v 1) (.L (.int 0)))) (.c 3 [(2,7)] [1] J .seq (.v 9) (.b .eq (.ix (.v 1) (.L (.int 2))) (.v 2)) (.ix (.v 1) (.L (.int 1))))) B=O (.lst ((bP sp L k).map dN)):=λ{B} R I=>by
  have ez:∀j,ev G (.b .eq (.ix (.v 1) (.L (.int 2))) (.v 2)) [.un,.im (cH sp j),.im (.int (k:Nat))]=O (.bl (sdO sp j == k)):=λj=>by show ah .eq (.int (sdO sp j:Nat)) (.int (k:Nat))=_;rw[BB,jI]
  rw[bF,fO (L:=L) (cH sp) (λj=>dN j.1) (λj=>sdO sp j == k) R cJ λj _=>⟨_,two I _,ez j,rfl⟩,fO (L:=L) (cH sp) (λj=>dN j.2.1) (λj=>sdO sp j == k) R cJ λj _=>⟨_,two I _,ez j,rfl⟩];unfold bP;rw[xf,xi,xi];have l1:=length_filter_le (λj=>sdO sp j == k) L;exact if_pos (by simp only[uw];unfold big;lia)
 have du:∀{B:List Sl},ev G (.v 9) B=O (.lst (L.map (cH sp)))->B.getD 7 .un=.im (.int (k:Nat))->ev G (.c 3 [(2,7)] [1] J .seq (.v 9) (.b .ne (.ix (.v 1) (.L (.int 2))) (.v 2)) (.tup (.cons (.ix (.v 1) (.L (.int 0))) (.cons (.ix (.v 1) (.L (.int 1))) .nil)))) B=O (.lst ((rX sp L k).map pD)):=λ{B} R I=>by unfold rX;rw[xi];exact fO (L:=L) (cH sp) (λj=>pD (pairOf j)) (λj=>!(sdO sp j == k)) R cJ λj _=>⟨_,two I _,by show ah .ne (.int (sdO sp j:Nat)) (.int (k:Nat))=_;rw[WB,jI],rfl⟩
 have gr:∀{B:List Sl},ev G (.v 1) B=O (.int c)->ev G (.v 2) B=O (.int r)->ev G (.v 9) B=O (.lst (L.map (cH sp)))->ev G (.call yz (.cons (.b .mul (.v 1) (.v 2)) (.cons (.c 2 [] [1] J .seq (.v 9) (.L (.bl Y)) (.tup (.cons (.ix (.v 1) (.L (.int 0))) (.cons (.ix (.v 1) (.L (.int 1))) .nil)))) .nil))) B=O (.lst ((told (c*r) nm).map dI)):=λ{B} R I a3=>by
  have c2:ev G (.c 2 [] [1] J .seq (.v 9) (.L (.bl Y)) (.tup (.cons (.ix (.v 1) (.L (.int 0))) (.cons (.ix (.v 1) (.L (.int 1))) .nil)))) B=O (.lst ((L.map pairOf).map gX)):=by rw[xi];exact cM (L:=L) (cH sp) (λj=>gX (pairOf j)) a3 cJ λj _=>⟨[.un,.im (cH sp j)],rfl,rfl,rfl⟩
  rw[fL,aU,aU,c2,kC,bF,R,I];simp only[aA,hJ c6];show iJ (G.fn yz [.int ((c*r:Nat):Int),.lst ((L.map pairOf).map gX)])=_;rw[egr];rfl
 obtain⟨cg,lk⟩:=vM (G:=G) (a:=.im (.frz (ns.map .int))) (b:=.im (.int c)) (c:=.im (.int r)) (d:=.im (.str x2)) (e:=.im (aN c r 1 1 T F (aa.map pD))) (f:=.im (hE (ao T 0 0))) (g:=.im (.int (b:Nat))) (h:=.im (.int (k:Nat))) (i:=.im (.str (lE k).str)) (j:=.im (.lst (L.map (cH sp)))) (K:=bP sp L k) (told (c*r) nm) [] .un t2 (by rw[length_nil];lia);rw[nil_append,show ((told (c*r) nm).filter λg=>g.any λa=>(bP sp L k).any (· == a)).flatten=K from hK.symm]at lk;have nA:(A.map dN).length<900000:=by rw[uw];lia
 have nB:(ρ.map dN).length<900000:=by rw[uw];lia
 refine aR (B:=[.im (.frz (ns.map .int)),.un,.un,.un,.un,.un,.un,.un,.un,.un,.un,.un,.un,.un,.un,.un,.un]) rfl ?_;refine aH (B':=[.im (.frz (ns.map .int)),.im (.int c),.im (.int r),.un,.un,.un,.un,.un,.un,.un,.un,.un,.un,.un,.un,.un,.un]) (zE.trans ?_) (aH (aQ (d:=.str x1) ?_) (aH (rC ?_ aY) (aH (aQ (d:=aN c r 1 1 T F []) ?_) (aH (aQ (d:=hE (ao T 0 0)) ?_) (aH (aQ (d:=.str x2) ?_) (aH (rC ?_ aY) (aH (aQ (d:=.int (b:Nat)) ?_) (aH (aQ (d:=.int (k:Nat)) ?_) (aH (aQ (d:=.str (lE k).str) ?_) (aH (aQ (d:=aN c r 1 1 T F (aa.map pD)) ?_) (aH (aQ (d:=.lst (L.map (cH sp))) ?_) (aH (aQ (d:=.lst ((bP sp L k).map dN)) (ti rfl rfl)) (aH (aQ (d:=.lst []) rfl) (aH ((bZ (gr rfl rfl rfl) cJ).trans lk) (aH (XZ (a:=A.map dN) (b:=ρ.map dN) ?_) (aH (rC ?_ aY) (aH (rC ?_ aY) (aH (aQ (du rfl rfl)) (aH (fK (ds:=(rX sp L k).map pD) ?_) (aH (rC ?_ aY) (aH (CK (d:=.tup [.int 0,.int 1]) (ds:=(rX sp L k).map pD) rfl rfl ?_) (aH (FD (a:=A.map dN) (b:=ρ.map dN) rfl z7 z7) (aH (FD (a:=A.map dN++[.int 0]) (b:=ρ.map dN) rfl (by rw[vt,List.length_singleton];lia) z7) (aH (aQ (d:=.tup [.lst (A.map dN),.lst (ρ.map dN)]) ?_) (aH (rC ?_ aY) (bC ?_))))))))))))))))))))))))));simp only[z6,c0,esb];rfl;simp only[z6,c1,oJ (i:=cf ns 1) (j:=16) Aa Aa,mM (i:=cf ns 1 / 16) (j:=2) Aa,eq1,ex1];simp only[List.set,kH,jS,gI];rw[wN (y:=J) (aCN c6 rfl rfl) λhx=>?_,Bool.and_false];have hx:=of_decide_eq_true hx;simp only[z6,ela,hra c r x1 hc hr hx];exact yH z9;simp only[List.set];simp only[z6,esh];simp only[List.set];simp only[z6,hJ c6,ele];simp only[List.set];simp only[z6,c2,oJ (i:=cf ns 2) (j:=4) Aa Aa,mM (i:=cf ns 2 / 4) (j:=3) Aa,W,ex2];simp only[List.set,kH,jS,gI];refine cD (x:=J) (y:=J) ?_ λ_=>?_;unfold hE;simp only[z6];rfl;simp only[z6,hrp c r T F [] x2 hx2];exact yH z9;simp only[List.set];simp only[z6,c1,mM (i:=cf ns 1) (j:=16) Aa,eb];simp only[List.set];simp only[z6,c2,mM (i:=cf ns 2) (j:=4) Aa,ek];simp only[List.set];simp only[z6,RI hk];simp only[List.set];simp only[z6,ekn];simp only[List.set];simp only[z6,etb];unfold fk;simp only[z6,hh];unfold fk;simp only[List.set,kH,jS,gI];refine cD (x:=J) (y:=J) (by simp only[z6,vO,cU,vv]) λ_=>cD (x:=J) (y:=J) (by simp only[z6];rfl) λ_=>?_;rw[wK,rG,fL,aU,aU,srt rfl];simp only[z6,sG.1,enA,cU,vv];unfold fk;simp only[List.set,kH,jS,gI];rw[wK,rG,fL,aU,aU,fal rfl rfl rfl];simp only[z6,sG.2,enB,cU,vv];unfold fk;simp only[List.set];simp only[z6,hb];unfold fk;simp only[List.set,kH,jS,gI];simp only[z6,ebt,cU,vv];rw[uw];lia;unfold fk;simp only[List.set,List.map,rS];simp only[z6,hh];unfold fk;simp only[List.set,List.map,rS,kH,jS,gI];rw[wK,rG,fL,aU,aU,fal rfl rfl rfl];simp only[z6,sG.2,enB,cU,vv];unfold fk;simp only[List.set,List.map,rS];refine wN (x:=Y) (y:=Y) ?_ λ_=>?_;simp only[z6,hb,ebt];rw[fL,aU,aU,srt rfl];simp only[z6,sG.1,enA]
end
end K13
variable {CX:aq}{G:GS}{T:Tx}{lv:Nat}{X:Cx}{c:CC}
noncomputable def aGk:Stmt->Option (List Expr×Expr×Pos)
 |.Assign ts e p=>O (ts,e,p)
 |_=>U
def IU{s:Stmt}{x:List Expr×Expr×Pos}(h:aGk s=O x):s=.Assign x.1 x.2.1 x.2.2:=by cases s<;>first|exact nomatch (show U=O x from h)|(cases (show O _=O x from h);rfl)
noncomputable def uF(n:Nat)(c:CC):List Stmt->Option (List (Str×IE))
 |[]=>O []
 |st::r=>(aGk st).bind λq=>(one? q.1).bind λt=>(AA t).bind λa=>(nameP a.1).bind λs=>if bE c s.1 == O 0 then(cE n c q.2.1).bind λy=>(uF n c r).map λz=>(a.2.1,y)::z else U
noncomputable def j4(G:GS)(B:List Sl):List (Str×IE)->Option (List (Str×D))
 |[]=>O []
 | (f,e)::r=>do O ((f,<-ev G e B)::(<-j4 G B r))
def GM(G:GS)(cn:Str)(n:Nat)(fs:List (Str×IE))(ds:List D):Option Rs:=(j4 G (.un::(ds.map .im++List.replicate (n-1-ds.length) .un)) fs).map λgs=>.ok (.obj cn gs)
theorem xX{f:Str}{v:σ}:∀{gs:List (Str×σ)},f∉gs.map (·.1)->jQ f v gs=gs++[(f,v)]
 |[],_=>rfl
 | (g,x)::r,h=>by simp only[vz,vo,not_or]at h;unfold jQ;rw[if_neg (Ne.symm h.1),xX h.2];rfl
theorem cX.names:∀{fs:List (Str×D)} {gs:List (Str×σ)},cX K T H S fs gs->gs.map (·.1)=fs.map (·.1)
 |[],gs,h=>by unfold cX at h;subst h;rfl
 | (f,d)::fs,gs,h=>by unfold cX at h;obtain⟨x,r,rfl,_,q⟩:=h;simp[cX.names q]
theorem cX.app1{f:Str}{d:D}(rv:Rep K T H S d v):∀{fs:List (Str×D)} {gs:List (Str×σ)},cX K T H S fs gs->cX K T H S (fs++[(f,d)]) (gs++[(f,v)])
 |[],gs,h=>by unfold cX at h;subst h;show cX K T H S [(f,d)] [(f,v)];unfold cX;exact⟨v,[],rfl,rv,by unfold cX;rfl⟩
 | (g,e)::fs,gs,h=>by unfold cX at h;obtain⟨x,r,rfl,p,q⟩:=h;show cX K T H S ((g,e)::(fs++[(f,d)])) _;unfold cX;exact⟨x,r++[(f,v)],rfl,p,cX.app1 rv q⟩
structure IInv (K:xx) (T:Tx) (S:Addr->Prop) (H₀:Hp) (C p dx:Addr) (B:List Sl) (fs:List (Str×D)) (V:L2.St) (H:Hp):Prop where
 re:RE K T H S B V
 sp:S p
 self:V[0]?=O (O (.ref p))
 at_:∃gs,H p=O (.ins C dx gs)/\cX K T H S fs gs
 keep:∀b o,b≠p->H₀ b=O o->H b=O o
theorem tJ(xc:XC CX X c G T lv){S:Addr->Prop}{H₀:Hp}{C p dx:Addr}{B:List Sl}{n:Nat}(hc:Cls X.K C):∀{body:List Stmt} {is:List (Str×IE)} {gs fs:List (Str×D)},uF n c body=O is->j4 G B is=O gs->(∀x∈is,eV X.K C x.1)->((fs++gs).map (·.1)).Nodup->(fs++gs).length<1000 ->PSs X body (λD V H=>IInv X.K T S H₀ C p dx B fs V H/\∀V' H',IInv X.K T S H₀ C p dx B (fs++gs) V' H'->D.nx V' H')
 |[],is,gs,fs,h1,h2,_,_,_=>by simp only[uF,u4]at h1;subst h1;simp only[j4,u4]at h2;subst h2;exactλpins s V H D I ⟨R,q⟩=>vC pins s V H D I (q V H (by rw[vx];exact R))
 |st::body,is,gs,fs,h1,h2,oN,o9,W=>by
  obtain⟨q0,a1,h1⟩:=aF h1;obtain⟨t0,a2,h1⟩:=aF h1;obtain⟨a0,a3,h1⟩:=aF h1;obtain⟨s0,a4,h1⟩:=aF h1;obtain⟨hs,h1⟩:=aZ h1;obtain⟨ir,jl,h1⟩:=aF h1;obtain⟨is',his,rfl⟩:=aP h1;have e0:st=.Assign [.Attribute (.Name s0.1 s0.2) a0.2.1 a0.2.2] q0.2.1 q0.2.2:=by rw[IU a1,bV a2,jL a3,bR a4]
  subst e0;obtain⟨_,e,pe⟩:=q0;obtain⟨_,f,pf⟩:=a0;obtain⟨s,ps⟩:=s0;clear a1 a2 a3 a4;simp only[j4,uy,u6,u4]at h2;obtain⟨d,hd,gs',lq,rfl⟩:=h2;have dw:bE c s=O 0:=wb.mp hs;have ih:=tJ xc (S:=S) (H₀:=H₀) (p:=p) (dx:=dx) hc (fs:=fs++[(f,d)]) his lq (λx hx=>oN x (v8 _ hx)) (by simpa using o9) (by simpa using W);intro pins s1 V H DD I ⟨R,q⟩;refine eQ (aBw (fN xc dw) ((cV n).1 X c S B e ir xc jl d hd).1 ?_) ih pins s1 V H DD I ⟨R.re,λv H' sm r=>⟨.ref p,R.self,?_⟩⟩;cases e<;>rfl
  obtain⟨ys,hy,rf⟩:=R.at_;have gb:f∉ys.map (·.1):=by rw[rf.names];have:=o9;simp only[xf,vz]at this;rw[List.nodup_append]at this;intro z;exact this.2.2 f z f Ab rfl
  have hl:ys.length<1000:=by have e1:=congrArg List.length rf.names;simp only[uw]at e1;rw[e1];simp only[vt,xb]at W;lia
  refine⟨p,C,dx,ys,rfl,sm _ _ hy,hc,oN (f,ir) Ab,hl,?_⟩;rw[xX gb];have mv:aM X.K H' (upd H' p (.ins C dx (ys++[(f,v)]))) S S:=λa na _=>⟨na,λo e=>by rw[aK (λz=>na (by rw[z];exact R.sp))];exact e⟩;have rf':cX X.K T H' S fs ys:=cX.gen (aM.same sm) _ _ rf;refine⟨⟨?_,R.sp,R.self,⟨_,aL,cX.gen mv _ _ (cX.app1 r rf')⟩,λb o hb e=>by rw[aK hb];exact sm _ _ (R.keep b o hb e)⟩,λV' H2 iv2=>q V' H2 (by simpa using iv2)⟩;refine(R.re.same sm).gen mv (λa xs z e hm=>⟨z,?_⟩) λa z=>?_;rw[aK];exact e;rintro rfl;rw[sm _ _ hy]at e;cases e;obtain⟨d',hm⟩:=hm;rcases hm with ⟨_,_,_,z,_⟩|⟨_,_,_,z,_⟩<;>cases z
  by_cases e:a=p;exact⟨.ins C dx (ys++[(f,v)]),by rw[e];exact aL⟩;obtain⟨o,e2⟩:=(R.re.same sm).dom a z;exact⟨o,by rw[aK e];exact e2⟩
variable {CX:aq}{G:GS}{T:Tx}{lv:Nat}
theorem tX{B:List Sl}:∀{is:List (Str×IE)} {gs:List (Str×D)},j4 G B is=O gs->gs.map (·.1)=is.map (·.1)
 |[],gs,h=>by simp only[j4,u4]at h;subst h;rfl
 | (f,e)::r,gs,h=>by simp only[j4,uy,u6,u4]at h;obtain⟨d,_,z,h2,rfl⟩:=h;simp[tX h2]
def AK{p:Addr}{ws:List σ}(dom:∀a,S a->∃o,H a=O o)(z:aC K T H S ds ws)(hN:ws.length+1<=N.length):RE K T H S (.un::(ds.map .im++List.replicate (N.length-1-ds.length) .un)) (L2.start N (.ref p::ws)):=by
 have hl:=z.len;refine⟨dom,by simp[L2.start,hl];lia,λi s e=>?_⟩;cases i with
 |zero=>cases e;trivial
 |succ i=>
  rw[List.getElem?_cons_succ]at e;unfold L2.start;rw[vz,List.cons_append,List.getElem?_cons_succ];by_cases h:i<(ds.map Sl.im).length;rw[xj h,uv]at e;cases h2:ds[i]? with
  |none=>rw[h2]at e;cases e
  |some d=>rw[h2]at e;cases e;obtain⟨v,h3,r⟩:=z.get h2;exact⟨v,by rw[xj (by rw[uw]at h ⊢;lia),uv,h3];rfl,r⟩
  rw[xo z7,getElem?_replicate]at e;split at e;cases e;trivial;cases e
def XM{cn:Str}{c:CC}{is:List (Str×IE)}(F:Fun K x qual st f fd)(fs:af N ps (aE st))(hN:c.N=N)(nj:c.sc=aE st)(hk:lF c (aE st)=Y) (jl:uF n c (bA st)=O is) (hT:T.cl cn=O C) (bp:Cls K C) (oN:∀x∈is,eV K C x.1) (o9:(is.map (·.1)).Nodup) (hlen:is.length<1000) (go:∀(X:Cx),X.prog=P->X.w=w->X.K=K->X.mg=mg->X.base=base->qg CX X c G T lv):FnOk P w K mg base CX (lv+1) f fd ps (aAW K T C ps.length (GM G cn N.length is)):=by
 obtain⟨oc,od,kV,doc,pm,an,aT,ct,k8,rfl,lk,fw⟩:=F.ex;refine NT lk fw fs (λvs H Q E h=>h.1) λA outer s H vs Q E hr ax=>?_;obtain⟨hl,p,dx,ws,S,ds,d,rfl,hp,sp,dom,rl,hg,q⟩:=ax;have xc:=AE (E:=E) (P:=P) (w:=w) (mg:=mg) (base:=base) (outer:=outer) (s:=s) (H:=H) (f:=f) (cd:=aT) (qual:=qual) hN nj fs hk hr (go _ rfl rfl rfl rfl rfl);unfold GM at hg;simp only[vc]at hg;obtain⟨gs,lq,hg⟩:=hg;cases hg;have I:=tX lq;have kf:ps.length<=N.length:=by have:=congrArg List.length fs.pre;rw[wk]at this;lia
 refine⟨_,PSs.nox (tJ xc (S:=S) (H₀:=H) (C:=C) (p:=p) (dx:=dx) (fs:=[]) bp jl lq oN (by rw[nil_append,I];exact o9) (by rw[nil_append];have:=congrArg List.length I;simp only[uw]at this;lia)),?_,?_⟩;exact⟨AK dom rl (by simp only[xb]at hl;lia),sp,rfl,⟨[],hp,by unfold cX;rfl⟩,λb o _ e=>e⟩;intro V' H' W;obtain⟨ys,hy,rf⟩:=W.at_;refine q H' W.keep λS' R=>?_;unfold Rep;exact⟨p,C,dx,ys,rfl,λz=>(R p z).2 rfl,hT,hy,cX.gen (aM.mk (λa z=>(R a z).1) λb o _ e=>e) _ _ rf⟩
def AD(K:xx)(T:Tx)(mg:yb)(x:Str)(d:D):Prop:=∃u v,mg x=O u/\RelV v u/\∀(H:Hp) (S:Addr->Prop),(∀a o,K.lookup a=O o->H a=U)->(∀a,S a->∃o,H a=O o)->Rep K T H S d v
def YI{i:Int}{t:Tok}(h:mg x=O (.int i t)):AD K T mg x (.int i):=⟨_,.int i,h,⟨t,rfl⟩,λH S _ _=>by unfold Rep;rfl⟩
def wV(h:mg x=O (.ref a))(hs:∀H,SqT K H a xs)(hk:∃o,K.lookup a=O o)(hd:∀H S,aC K T H S ds xs):AD K T mg x (.tup ds):=⟨_,.ref a,h,rfl,λH S h1 h2=>by unfold Rep;refine⟨a,xs,rfl,λz=>?_,hs H,hd H S⟩;obtain⟨o,e⟩:=h2 a z;obtain⟨u,e2⟩:=hk;rw[h1 a u e2]at e;cases e⟩
noncomputable def G0(csts:List (Str×D))(fl:Str->List Str)(sub:Str->Str->Bool)(xn:Str->Bool)(wd:Str->Str->Option Str)(j6:List (Str×List (Str×D)):=[]):GS:={fn:=λ_ _=>U,ff:=λ_=>J,me:=λ_ _ _=>U,mf:=λ_ _=>J,mo:=λ_ _=>U,cst:=λx=>csts.lookup x,sub:=sub,fl:=fl,xn:=xn,wd:=wd,dk:=λx=>j6.lookup x}
def aGO{cls:List Str}{csts:List (Str×D)}{fl:Str->List Str}{sub:Str->Str->Bool}{xn:Str->Bool}{wd:Str->Str->Option Str}{j6:List (Str×List (Str×D))}(hc:∀x d,csts.lookup x=O d->AD K T mg x d)(bp:∀cn C,T.cl cn=O C->Cls K C)(iN:∀cn C f,T.cl cn=O C->(fl cn).contains f=Y->eV K C f) (hbi:∀x,gH.contains x=Y->mg x=U) (hx:∀x C,T.xc x=O C->mg x=O (.ref C)) (I:∀k,xn k=Y->∃C,T.xc k=O C) (q9:∀k C,T.xc k=O C->excIn K C j8 "ValueError.__new__"=Y) (vX:∀k k' C C',T.xc k=O C->T.xc k'=O C'->sub k k'=Y->lQ K C (.ref C')=Y) (R:∀f k x C,T.xc k=O C->wd f k=O x->∃fa fd ps j,j<=lv/\mg f=O (.ref fa)/\keepIn K (.ref fa)=Y/\Binds K fd ps []/\oy P w K mg base j fa fd ps (qh C x)) (W:∀x kvs,j6.lookup x=O kvs->∃a,mg x=O (.ref a)/\∀X:Cx,X.prog=P->X.w=w->X.K=K->RP X T a kvs:=by intro x kvs h;cases h):MOk P w K mg base (dS P w) ⟨[],cls,csts.map (·.1),[]⟩ (G0 csts fl sub xn wd j6) T lv:=by intro X c e1 e2 e3 e4 e5 e6 e7 e8 e9;subst e1 e2 e3 e4 e5;refine⟨λx hx=>?_,λcn C m ds r _ hr=>(by cases hr),bp,iN,λx _ ds d hd=>(by cases hd),λx d hd _=>hc x d hd,λx hx _ _=>hbi x hx,hx,λx hx=>?_,ZX,λ_ _ _ _ _ _ z=>z,I,q9,vX,R,λx kvs h=>let ⟨a,h1,h2⟩:=W x kvs h;⟨a,h1,h2 X rfl rfl rfl⟩⟩;rw[e6]at hx;simp at hx;rw[e9]at hx;simp at hx
noncomputable def GS.addC(G:GS)(x:Str)(g:List D->Option Rs):GS:={G with mo:=λy=>if y=x then g else G.mo y}
theorem MOk.addC{m:Nm}(h:MOk P w K mg base CX m G T lv){g:List D->Option Rs}(hm:mg x=O (.ref C))(M:Mk K C f)(hb:Binds K fd ps [])(hl:∀ds d,g ds=O (.ok d)->ds.length+1=ps.length) (F:FnOk P w K mg base CX lv f fd ps (aAW K T C ps.length g)):MOk P w K mg base CX m (G.addC x g) T (lv+1):=by intro X c e1 e2 e3 e4 e5 e6 e7 e8 e9;subst e1 e2 e3 e4 e5;have o:=h X c rfl rfl rfl rfl rfl e6 e7 e8 e9;refine⟨λy hy=>?_,λcn C mm ds r hT hr=>?_,o.cls,o.fld,λy hy ds d hd=>?_,λy d hd hc=>o.cst y d hd hc,λy hy h1 h2=>o.bi y hy h1 h2,o.xcl,o.frs,o.cx0,o.cxf,o.xns,o.xk,o.sub,λf k x C h1 h2=>let ⟨a,b,c,j,d,e⟩:=o.wd f k x C h1 h2;⟨a,b,c,j,le_succ_of_le d,e⟩,o.dk⟩;obtain⟨z,R,I,a1,W,a3,a4,a5⟩:=o.fn y hy;exact⟨z,R,I,a1,W,a3,a4,a5.mono (x6 _)⟩;obtain⟨z,R,I,a1,W,a3,a4⟩:=o.me cn C mm ds r hT hr;exact⟨z,R,I,a1,W,a3,a4.mono (x6 _)⟩;by_cases e:y=x;subst e;simp only[GS.addC,if_true]at hd ⊢;exact⟨C,f,fd,ps,lv,ux _,hm,M,hb,hl ds d hd,F⟩;simp only[GS.addC,if_neg e]at hd ⊢;obtain⟨C',z,R,I,j,a1,W⟩:=o.mo y hy ds d hd;exact⟨C',z,R,I,j,le_succ_of_le a1,W⟩
def MOk.defC{m:Nm}(h:MOk P w K mg base CX m G T lv){mus:List Str}{is:List (Str×IE)}(hm:mg x=O (.ref C))(M:Mk K C f)(hb:Binds K fd ps []) (F:Fun K "__init__" qual st f fd) (fs:af N ps (aE st)) (hk:lF (m.cc N (aE st) mus) (aE st)=Y) (jl:uF n (m.cc N (aE st) mus) (bA st)=O is) (hT:T.cl x=O C) (bp:Cls K C) (oN:∀x∈is,eV K C x.1) (o9:(is.map (·.1)).Nodup) (hlen:is.length<1000):MOk P w K mg base CX m (G.addC x λds=>if ds.length+1=ps.length then GM G x N.length is ds else U) T (lv+2):=by
 have G1:=XM (CX:=CX) (P:=P) (w:=w) (mg:=mg) (base:=base) (T:=T) (lv:=lv) F fs (c:=m.cc N (aE st) mus) rfl rfl hk jl hT bp oN o9 hlen (λX I z a3 a4 a5=>h X _ I z a3 a4 a5 rfl rfl rfl rfl);have h':MOk P w K mg base CX m G T (lv+1):=by intro X c e1 e2 e3 e4 e5 e6 e7 e8 e9;subst e1 e2 e3 e4 e5;have o:=h X c rfl rfl rfl rfl rfl e6 e7 e8 e9;refine⟨λy hy=>?_,λcn C mm ds r hT hr=>?_,o.cls,o.fld,λy hy ds d hd=>?_,λy d hd hc=>o.cst y d hd hc,λy hy h1 h2=>o.bi y hy h1 h2,o.xcl,o.frs,o.cx0,o.cxf,o.xns,o.xk,o.sub,λf k x C h1 h2=>let ⟨a,b,c,j,d,e⟩:=o.wd f k x C h1 h2;⟨a,b,c,j,le_succ_of_le d,e⟩,o.dk⟩;obtain⟨R,c8,W,I,z,a3,a4,a5⟩:=o.fn y hy;exact⟨R,c8,W,I,z,a3,a4,a5.mono (x6 _)⟩;obtain⟨R,c8,W,I,z,a3,a4⟩:=o.me cn C mm ds r hT hr;exact⟨R,c8,W,I,z,a3,a4.mono (x6 _)⟩;obtain⟨C',R,c8,W,j,I,z⟩:=o.mo y hy ds d hd;exact⟨C',R,c8,W,j,le_succ_of_le I,z⟩
 refine h'.addC hm M hb (λds d hd=>?_) ?_;by_cases e:ds.length+1=ps.length;exact e;rw[if_neg e]at hd;cases hd;refine⟨λvs H Q E h=>h.1,λA outer s H args us vs Q E hr e0 jn hv ax=>G1.run A outer s H args us vs Q E hr e0 jn hv ?_⟩;obtain⟨h1,p,dx,ws,S,ds,d,e1,h2,h3,h4,h5,h6,h7⟩:=ax;refine⟨h1,p,dx,ws,S,ds,d,e1,h2,h3,h4,h5,?_,h7⟩;have el:ds.length+1=ps.length:=by by_cases e:ds.length+1=ps.length;exact e;dsimp only at h6;rw[if_neg e]at h6;cases h6
 dsimp only at h6;rw[if_pos el]at h6;exact h6
def CV(K:xx)(T:Tx)(d:D)(u:Value):Prop:=∃v,RelV v u/\∀(H:Hp) (S:Addr->Prop),(∀a o,K.lookup a=O o->H a=U)->(∀a,S a->∃o,H a=O o)->Rep K T H S d v
def wU(hs:∀H,SqT K H a xs)(hk:∃o,K.lookup a=O o)(hd:∀H S,aC K T H S ds xs):CV K T (.tup ds) (.ref a):=⟨.ref a,rfl,λH S h1 h2=>by unfold Rep;refine⟨a,xs,rfl,λz=>?_,hs H,hd H S⟩;obtain⟨o,e⟩:=h2 a z;obtain⟨u,e2⟩:=hk;rw[h1 a u e2]at e;cases e⟩
noncomputable def enW(w:World)(p:Str×Tok×Value):DictEntry:=⟨hashStr w p.1,.str p.1 p.2.1,p.2.2⟩
def dvs(ts:List (Str×Tok×Value)):List (Key×Value):=ts.map λp=>(Sum.inr p.1,p.2.2)
def QL:∀{ts:List (Str×Tok×Value)},(ts.map (·.1)).Nodup->((dvs ts).map (·.1)).Nodup:=λ{ts} h=>by
 unfold dvs;rw[xi];have e:ts.map ((λx=>x.1) ∘ λp:Str×Tok×Value=>((Sum.inr p.1,p.2.2):Key×Value))=(ts.map (·.1)).map Sum.inr:=by rw[xi];rfl
 rw[e];rw[nodup_iff_pairwise_ne,pairwise_map];exact(nodup_iff_pairwise_ne.mp h).imp λ{a b} I z=>I (Sum.inr.inj z)
theorem tZ{P:y8}{w:World}:∀{ts:List (Str×Tok×Value)},Pairs (bX P w) (ts.map (enW w)) (dvs ts)
 |[]=>.nil
 |p::ts=>.cons (eL P w p.1 p.2.1) rfl tZ
theorem QM:∀{kvs:List (Str×D)} {ts:List (Str×Tok×Value)},kvs.map (·.1)=ts.map (·.1)->∀k,(valueAt (dvs ts) (Sum.inr k)).isSome=(kvs.lookup k).isSome
 |[],[],_,k=>rfl
 | (x,d)::kvs,(y,t,u)::ts,h,k=>by simp only[vz,List.cons.injEq]at h;obtain⟨rfl,h⟩:=h;have I:=QM h k;show (valueAt ((Sum.inr x,u)::dvs ts) (Sum.inr k)).isSome=_;unfold valueAt at I ⊢;rw[find?_cons,lookup_cons];by_cases e:k=x;subst e;simp;have e1:(k == x)=J:=wg.mpr e;have e2:decide ((Sum.inr x:Key)=Sum.inr k)=J:=uz λz=>e (Sum.inr.inj z).symm;rw[e1,e2];exact I
theorem FH{K:xx}{T:Tx}:∀{kvs:List (Str×D)} {ts:List (Str×Tok×Value)},kvs.map (·.1)=ts.map (·.1)->(∀(i:Nat) p q,kvs[i]?=O p->ts[i]?=O q->CV K T p.2 q.2.2)->∀k d u,kvs.lookup k=O d->valueAt (dvs ts) (Sum.inr k)=O u->CV K T d u
 |[],[],_,_,k,d,u,h,_=>by cases h
 | (x,d')::kvs,(y,t,I)::ts,h,hv,k,d,u,h1,h2=>by simp only[vz,List.cons.injEq]at h;obtain⟨rfl,h⟩:=h;have R:=FH h (λi p q a b=>hv (i+1) p q a b) k d u;unfold valueAt at R h2;rw[show dvs ((x,t,I)::ts)=(Sum.inr x,I)::dvs ts from rfl,find?_cons]at h2;rw[lookup_cons]at h1;by_cases e:k=x;subst e;simp at h1 h2;subst h1 h2;exact hv 0 _ _ rfl rfl;have e1:(k == x)=J:=wg.mpr e;have e2:decide ((Sum.inr x:Key)=Sum.inr k)=J:=uz λz=>e (Sum.inr.inj z).symm;rw[e1]at h1;rw[e2]at h2;exact R h1 h2
def uA{X:Cx}{o:Obj}{ep:Nat}{kvs:List (Str×D)}{ts:List (Str×Tok×Value)}(hs:(a == sysModules)=J)(hl:X.K.lookup a=O o)(he:o.ExactDict)(hd:o.data=.dict (ts.map (enW X.w)).toArray ep)(hk:kvs.map (·.1)=ts.map (·.1))(hn:(ts.map (·.1)).Nodup) (hv:∀(i:Nat) p q,kvs[i]?=O p->ts[i]?=O q->CV X.K T p.2 q.2.2):RP X T a kvs:=by
 refine⟨hs,o,dvs ts,hl,⟨_,ep,he,hd,λe h=>?_,?_,QL hn⟩,QM hk,λk d u h1 h2=>FH hk hv k d u h1 h2⟩;have h:e∈ts.map (enW X.w):=by simpa using h
 obtain⟨p,_,rfl⟩:=wc.mp h;exact⟨Sum.inr p.1,eL X.prog X.w p.1 p.2.1,rfl⟩;exact tZ
section
variable {CX:aq}{G:GS}{T:Tx}{lv:Nat}{X:Cx}{c:CC}{p:Nat->Pos}{EX:Str->Hp->Prop}{n:Nat}{e2 e3 e4 e5 e6 e8:Expr}{b2 b3 b4 b6:List Stmt}
structure GtI (σ0 V:L2.St) (H1 H:Hp) (q:Addr):Prop where
 len:V.length=7
 a0:∀j,j<3->V[j]?=σ0[j]?
 a3:V[3]?=O (O (.ref q))
 sm:aI H1 H
end
noncomputable def stN(b:List Stmt)(i:Nat):Stmt:=b.getD i (.Pass ⟨0,0,0,0⟩)
def pcD(G:GS)(I z:IS)(ds:List D):Option Rs:=if ds.length=1 then(jw G I z ds).map λgs=>.ok (.lst (gs.map l0)) else U
section
variable {P:y8}{w:World}{K:xx}{mg:yb}{base:Heap}{m:Nm}{G:GS}{T:Tx}{lv:Nat}
def MOk.pieces(h:MOk P w K mg base (dS P w) m G T lv){mus:List Str}{a0:Str}{s1 s2 W:Stmt}{I z:IS}{p:Nat->Pos}(hn:m.fns.contains x=J)(kh:∀cn ds,G.me cn x ds=U)(kg:m.fresh.contains x=J)(hm:mg x=O (.ref f))(hb:Binds K fd [a0] []) (F:Fun K x x st f fd) (fs:af N [a0] (aE st)) (R:N.length=6) (hk:lF (m.cc N (aE st) mus) (aE st)=Y) (oj:bA st=s1::s2::W::vF p) (h1:cS n (m.cc N (aE st) mus) s1=O I) (h2:cS n (m.cc N (aE st) mus) s2=O z) (h3:cS n (m.cc N (aE st) mus) W=O (.setd 3)) (hP:uj (m.cc N (aE st) mus) p):MOk P w K mg base (dS P w) (m.addF x J) (G.addF x (pcD G I z) J) T (lv+1)/\FnOk P w K mg base (dS P w) (lv+1) f fd [a0] (qi K T (jw G I z)):=by
 have G1:FnOk P w K mg base (dS P w) (lv+1) f fd [a0] (qi K T (jw G I z)):=ID (P:=P) (w:=w) (mg:=mg) (base:=base) (T:=T) (lv:=lv) F fs (c:=m.cc N (aE st) mus) rfl R rfl hk oj h1 h2 h3 hP (λX a1 a2 a3 a4 a5=>h X _ a1 a2 a3 a4 a5 rfl rfl rfl rfl);refine⟨h.addF hn kh kg hm F.kp hb (λds r hr=>BM hr) (G1.imp λvs H Q E ax=>aEc ?_),G1⟩;obtain⟨h1,S,ds,dom,rl,hc⟩:=ax;refine⟨h1,S,ds,dom,rl,?_⟩;have el:ds.length=1:=by rw[rl.len];exact h1
 have e:pcD G I z ds=(jw G I z ds).map λgs=>.ok (.lst (gs.map l0)):=if_pos el;rw[e]at hc;exact hc
end
section
variable {X:Cx}
theorem uU:∀{bs:List Bool} {its:List Value},aX (bs.map σ.bl) its->its=bs.map Value.bool
 |[],its,h=>by cases h;rfl
 |b::bs,its,h=>by
  cases h with
  |cons h1 h2=>obtain rfl:=h1;rw[uU h2];rfl
noncomputable def eqT:Value->Bool
 |.bool a=>a == Y
 |_=>J
theorem aFV:∀bs:List Bool,(bs.map Value.bool).countP eqT=bs.count Y
 |[]=>rfl
 |b::bs=>by rw[vz,List.countP_cons,List.count_cons,aFV bs];cases b<;>rfl
def aEz:σ->List σ->Hp->VK->Prop:=λx vs H Q=>∃(l:Addr) (bs:List Bool),x=.ref l/\vs=[.bl Y]/\H l=O (.lst (bs.map σ.bl))/\Q (.int (bs.count Y)) H
def aCn:MtM X "list.count" aEz:=by
 intro pins s V H x vs v us Q I R rv h;obtain⟨l,bs,rfl,rfl,W,q⟩:=h;cases R;obtain⟨u,rfl,ru⟩:=rv.one;obtain rfl:u=.bool Y:=ru;obtain⟨z,its,n,r,hl,e⟩:=I.lstM W;have hi:=uU r;subst hi;refine call_meets PySem.F.slot_list_count ⟨_,e,rfl⟩ PySem.F.entry_list_count (PySem.F.args_list_count_2 _ _) (SeqAt.list_countAt l (bs.map Value.bool).toArray n U #[] (.bool Y) eqT) ⟨e,λy hy=>?_,?_⟩;have dO:y∈bs.map Value.bool:=by simpa using hy
 obtain⟨b,_,rfl⟩:=wc.mp dO;exact SeqAt.EqAt.bool_bool b Y;refine⟨.int (bs.count Y),H,I.tok _,⟨s.toks,?_⟩,q⟩;rw[<-aFV bs]
def aEy:σ->List σ->Hp->VK->Prop:=λx vs H Q=>∃(l:Addr) (bs:List Bool) (j:Nat),x=.ref l/\vs=[.bl Y]/\H l=O (.lst (bs.map σ.bl))/\bs[j]?=O Y/\(∀m,m<j->bs[m]?=O J)/\j<1000/\Q (.int (j:Nat)) H
def aCm:MtM X "list.index" aEy:=by
 intro pins s V H x vs v us Q I rx rv h;obtain⟨l,bs,j,rfl,rfl,hH,hj,R,hs,q⟩:=h;cases rx;obtain⟨u,rfl,ru⟩:=rv.one;obtain rfl:u=.bool Y:=ru;obtain⟨z,its,n,r,hl,e⟩:=I.lstM hH;have hi:=uU r;subst hi;have hjl:=(u0.mp hj).1;have hsz:(bs.map Value.bool).toArray.size=bs.length:=by simp
 have at_:∀(m:Nat) (hm:m<(bs.map Value.bool).toArray.size) (b:Bool),bs[m]?=O b->(bs.map Value.bool).toArray[m]=.bool b:=λm hm b e=>by
  have hm':m<bs.length:=by rw[hsz]at hm;exact hm
  have e':bs[m]=b:=by rw[u7 hm']at e;exact vb e
  simp[e']
 refine call_meets PySem.F.slot_list_index ⟨_,e,rfl⟩ PySem.F.entry_list_index (PySem.F.args_list_index_2 _ _) (SeqAt.list_indexAt l (bs.map Value.bool).toArray n U #[] (.bool Y) eqT j (by rw[hsz];exact hjl) z7 ?_ λm hm W=>?_) ⟨e,λy hy=>?_,?_⟩;rw[at_ j _ Y hj];rfl;rw[at_ m hm J (R m W)];rfl;have dO:y∈bs.map Value.bool:=by simpa using hy
 obtain⟨b,_,rfl⟩:=wc.mp dO;exact SeqAt.EqAt.bool_bool b Y;exact⟨.int (j:Nat),H,I.tok _,⟨_,rfl⟩,q⟩
end
noncomputable def gE(p:Nat->Pos)(k:Nat)(y:Str):Expr:=.Call (.Name "isinstance" (p k)) [.Name "e" (p (k+1)),.Name y (p (k+2))] [] (p (k+3))
def pP(p:Nat->Pos):List Stmt:=[.Assign [.Name "kinds" (p 0)] (.List [gE p 1 "NoSheet",gE p 5 "NoFold",gE p 9 "NoPlace",gE p 13 "Ajar"] (p 17)) (p 18),.Assign [.Name "kinds" (p 19)] (.BinOp (.Name "kinds" (p 20)) .Add (.List [gE p 21 "Severed",gE p 25 "Bolted",gE p 29 "Loose",gE p 33 "NoWord"] (p 37)) (p 38)) (p 39),.If (.BoolOp .Or [.Compare (.Call (.Attribute (.Name "kinds" (p 40)) "count" (p 41)) [.Constant (.bool Y) 0 (p 42)] [] (p 43)) [.NotEq] [.Constant (.int 1) 0 (p 44)] (p 45),.UnaryOp .Not (gE p 46 "ValueError") (p 50)] (p 51)) [.Return (O (.Constant (.str "other") 0 (p 52))) (p 53)] [] (p 54),.Return (O (.Subscript (.List [.Constant (.str "sheet") 0 (p 55),.Constant (.str "fold") 0 (p 56),.Constant (.str "place") 0 (p 57),.Constant (.str "ajar") 0 (p 58),.Constant (.str zw) 0 (p 59),.Constant (.str "bolted") 0 (p 60),.Constant (.str "loose") 0 (p 61),.Constant (.str "word") 0 (p 62)] (p 63)) (.Call (.Attribute (.Name "kinds" (p 64)) "index" (p 65)) [.Constant (.bool Y) 0 (p 66)] [] (p 67)) (p 68))) (p 69)]
noncomputable def bI:List Str:=["NoSheet","NoFold","NoPlace","Ajar","Severed","Bolted","Loose","NoWord"]
noncomputable def uS:List Str:=["sheet","fold","place","ajar",zw,"bolted","loose","word"]
section
variable {X:Cx}{p:Nat->Pos}
def aAI(K:xx)(c:Value):TE:=λV H Q=>∃a C b,V[0]?=O (O (.ref a))/\H a=O (.ext (isExc a C))/\XcK K C/\kitOne K (.ref C) c=O b/\Q (.bl b) H
def zX{c:Value}(rc:∀u,RelV v u->u=c):eW X (.builtin "isinstance") (λxs H Q=>∃a C b,xs=[.ref a,v]/\H a=O (.ext (isExc a C))/\XcK X.K C/\kitOne X.K (.ref C) c=O b/\Q (.bl b) H):=by
 rintro pins s V H xs us Q I r ⟨a,C,b,rfl,hx,F,hk,q⟩;cases r with
 |cons r1 R=>
  cases R with
  |cons R W=>cases W;obtain rfl:=r1;have ec:=rc _ R;subst ec;obtain⟨h1,_,_⟩:=I.hok a _ hx;exact kia_one (MP F) I.kIn h1 hk (λz=>by cases z) λtk=>⟨.bl b,H,I.tok tk,rfl,q⟩
def uH:bootBuiltins "isinstance"=O (.builtin "isinstance"):=z9
def aFW:bootBuiltins "ValueError"=O (.type "ValueError"):=z9
structure WX (X:Cx) (cs:Str->Addr):Prop where
 N:X.N=(["e","kinds"]:List Str)
 le:X.env.kindOf "e"=O .local
 lk:X.env.kindOf "kinds"=O .local
 gi:Gl X "isinstance"
 gv:Gl X "ValueError"
 gx:∀y∈bI,Gl X y
 mi:X.mg "isinstance"=U
 mv:X.mg "ValueError"=U
 mx:∀y∈bI,X.mg y=O (.ref (cs y))
variable {cs:Str->Addr}
def aEG(W:WX X cs){q:Pos}:PE X (.Name "e" q) (pV 0):=lN (by rw[W.N];rfl) (.inl W.le) z9 z9
def aBB(W:WX X cs){q:Pos}:PE X (.Name "kinds" q) (pV 1):=lN (by rw[W.N];rfl) (.inl W.lk) z9 z9
def vE(W:WX X cs){k:Nat}(hy:y∈bI):PE X (gE p k y) (aAI X.K (.ref (cs y))):=by
 have hd:(y == ("__debug__":Str))=J:=by
  have:bI.all (λy=>!(y == ("__debug__":Str)))=Y:=z9
  have:=all_eq_true.mp this y hy;simpa using this
 refine PE.mono (dU (zX (v:=.ref (cs y)) λu h=>h) W.gi W.mi uH (aW (aEG W) (aW (VE (v:=.ref (cs y)) (W.gx y hy) (W.mx y hy) rfl hd) cP)) z9 z9 rfl rfl) λV H Q z=>?_;obtain⟨a,C,b,h1,h2,h3,h4,q⟩:=z;exact⟨.ref a,h1,a,C,b,rfl,h2,h3,h4,q⟩
def aBC(W:WX X cs){k:Nat}:PE X (gE p k "ValueError") (aAI X.K (.type "ValueError")):=by refine PE.mono (dU (zX (v:=.ty "ValueError") λu h=>h) W.gi W.mi uH (aW (aEG W) (aW (DU (v:=.ty "ValueError") W.gv W.mv aFW rfl z9 z9) cP)) z9 z9 rfl rfl) λV H Q z=>?_;obtain⟨a,C,b,h1,h2,h3,h4,q⟩:=z;exact⟨.ref a,h1,a,C,b,rfl,h2,h3,h4,q⟩
def JK(K:xx)(c1 W R I:Value):TE:=λV H Q=>∃a C z b2 b3 b4,V[0]?=O (O (.ref a))/\H a=O (.ext (isExc a C))/\XcK K C/\kitOne K (.ref C) c1=O z/\kitOne K (.ref C) W=O b2/\kitOne K (.ref C) R=O b3/\kitOne K (.ref C) I=O b4/\∀l,H l=U->Q (.ref l) (upd H l (.lst ([z,b2,b3,b4].map σ.bl)))
def DR(W:WX X cs){k1 k2 k3 k4:Nat}{q:Pos}{y1 R I z:Str}(h1:y1∈bI)(h2:R∈bI)(h3:I∈bI)(h4:z∈bI):PE X (.List [gE p k1 y1,gE p k2 R,gE p k3 I,gE p k4 z] q) (JK X.K (.ref (cs y1)) (.ref (cs R)) (.ref (cs I)) (.ref (cs z))):=PE.mono (vD (aW (vE W h1) (aW (vE W h2) (aW (vE W h3) (aW (vE W h4) cP))))) λV H Q hh=>by obtain⟨a,C,b1,b2,b3,b4,e1,e2,e3,f1,f2,f3,f4,q⟩:=hh;exact⟨a,C,b1,e1,e2,e3,f1,a,C,b2,e1,e2,e3,f2,a,C,b3,e1,e2,e3,f3,a,C,b4,e1,e2,e3,f4,by show 4<=sizeLine;rw[sizeLine_eq];decide,q⟩
def oM{i:Nat}(h:bI[i]?=O y):y∈bI:=u5 h
def aDQ(K:xx)(cs:Str->Addr):TS:=λD V H=>∃a C j w,V[0]?=O (O (.ref a))/\V.length=2/\H a=O (.ext (isExc a C))/\XcK K C/\j<8/\(∀i y,bI[i]?=O y->kitOne K (.ref C) (.ref (cs y))=O (decide (i=j)))/\kitOne K (.ref C) (.type "ValueError")=O Y/\uS[j]?=O w/\∀H',aI H H'->D.rt (.str w) H'
section
variable (p)
abbrev wS1:Stmt:=.Assign [.Name "kinds" (p 0)] (.List [gE p 1 "NoSheet",gE p 5 "NoFold",gE p 9 "NoPlace",gE p 13 "Ajar"] (p 17)) (p 18)
abbrev wS2:Stmt:=.Assign [.Name "kinds" (p 19)] (.BinOp (.Name "kinds" (p 20)) .Add (.List [gE p 21 "Severed",gE p 25 "Bolted",gE p 29 "Loose",gE p 33 "NoWord"] (p 37)) (p 38)) (p 39)
abbrev wC1:Expr:=.Call (.Attribute (.Name "kinds" (p 40)) "count" (p 41)) [.Constant (.bool Y) 0 (p 42)] [] (p 43)
abbrev wC2:Expr:=.Call (.Attribute (.Name "kinds" (p 64)) "index" (p 65)) [.Constant (.bool Y) 0 (p 66)] [] (p 67)
abbrev wT3:Expr:=.BoolOp .Or [.Compare (wC1 p) [.NotEq] [.Constant (.int 1) 0 (p 44)] (p 45),.UnaryOp .Not (gE p 46 "ValueError") (p 50)] (p 51)
abbrev wL:Expr:=.List [.Constant (.str "sheet") 0 (p 55),.Constant (.str "fold") 0 (p 56),.Constant (.str "place") 0 (p 57),.Constant (.str "ajar") 0 (p 58),.Constant (.str zw) 0 (p 59),.Constant (.str "bolted") 0 (p 60),.Constant (.str "loose") 0 (p 61),.Constant (.str "word") 0 (p 62)] (p 63)
end
def w1(W:WX X cs):PS X (wS1 p) (SA (JK X.K (.ref (cs "NoSheet")) (.ref (cs "NoFold")) (.ref (cs "NoPlace")) (.ref (cs "Ajar"))) (tO 1)):=nD (i:=1) (by rw[W.N];decide +kernel) (by rw[W.N];rfl) (.inl W.lk) (DR W (oM (i:=0) rfl) (oM (i:=1) rfl) (oM (i:=2) rfl) (oM (i:=3) rfl)) rfl (.inr W.lk)
def w2(W:WX X cs):PS X (wS2 p) (SA (ka aEB (pV 1) (JK X.K (.ref (cs "Severed")) (.ref (cs "Bolted")) (.ref (cs "Loose")) (.ref (cs "NoWord")))) (tO 1)):=nD (i:=1) (by rw[W.N];decide +kernel) (by rw[W.N];rfl) (.inl W.lk) (ZK LL (aBB W) (DR W (oM (i:=4) rfl) (oM (i:=5) rfl) (oM (i:=6) rfl) (oM (i:=7) rfl))) rfl (.inr W.lk)
def w3(W:WX X cs)(z:((p 41).endLine == (p 43).line)=Y):PT X (wT3 p) (tOr (JI (ka rNe (tBM X.K "list" aEz (pV 1) (jT (tC (.bl Y)) JJ)) (tC (.int 1)))) (aDV (tB (aAI X.K (.type "ValueError"))))):=PW.pt (KI (DO aEK (mK plainAttrs_list PySem.F.slot_list_count PySem.F.type_list_count aCn (aBB W) (aW LD cP) rfl rfl z) nG (aCa _)) (KH (KO (aBu (aBC W)))))
def tWd:TE:=aDW (jT (tC (.str "sheet")) (jT (tC (.str "fold")) (jT (tC (.str "place")) (jT (tC (.str "ajar")) (jT (tC (.str zw)) (jT (tC (.str "bolted")) (jT (tC (.str "loose")) (jT (tC (.str "word")) JJ))))))))
def w4(W:WX X cs)(z:((p 65).endLine == (p 67).line)=Y):PS X (.Return (O (.Subscript (wL p) (wC2 p) (p 68))) (p 69)) (aDT (ka (aBi X.K) tWd (tBM X.K "list" aEy (pV 1) (jT (tC (.bl Y)) JJ)))):=lM (yB EG (vD (aW iA (aW iA (aW iA (aW iA (aW iA (aW iA (aW iA (aW iA cP))))))))) (mK plainAttrs_list PySem.F.slot_list_index PySem.F.type_list_index aCm (aBB W) (aW LD cP) rfl rfl z) (λ_ _=>rfl))
end
section
variable {X:Cx}{p:Nat->Pos}{cs:Str->Addr}
def aGZ:∀j,j<8->[decide (0=j),decide (1=j),decide (2=j),decide (3=j),decide (4=j),decide (5=j),decide (6=j),decide (7=j)].count Y=1:=Aa
def at8:∀j,j<8->[decide (0=j),decide (1=j),decide (2=j),decide (3=j),decide (4=j),decide (5=j),decide (6=j),decide (7=j)][j]?=O Y:=Aa
def no8:∀j,j<8->∀m,m<j->[decide (0=j),decide (1=j),decide (2=j),decide (3=j),decide (4=j),decide (5=j),decide (6=j),decide (7=j)][m]?=O J:=Aa
def wd8:∀j:Nat,j<8->∀w,uS[j]?=O w->L2.atI ([.str "sheet",.str "fold",.str "place",.str "ajar",.str zw,.str "bolted",.str "loose",.str "word"]:List σ) (j:Int)=O (.str w):=by
 intro j I w hw;refine YQ ?_;have:j=0\/j=1\/j=2\/j=3\/j=4\/j=5\/j=6\/j=7:=by lia
 rcases this with rfl|rfl|rfl|rfl|rfl|rfl|rfl|rfl<;>(have z:=vb hw;subst z;rfl)
def RS(W:WX X cs)(kj:((p 41).endLine == (p 43).line)=Y)(ik:((p 65).endLine == (p 67).line)=Y):PSs X (pP p) (aDQ X.K cs):=by
 intro pins s V H D I hw;refine eQ (w1 W) (eQ (w2 W) (eQ (KQ (w3 W kj) (gZ (lM iA)) vC) (gZ (w4 W ik)))) pins s V H D I ?_;obtain⟨a,C,j,w,e0,elen,e1,e2,hj,hk,hv,hwj,q⟩:=hw;refine⟨a,C,_,_,_,_,e0,e1,e2,hk 0 _ rfl,hk 1 _ rfl,hk 2 _ rfl,hk 3 _ rfl,λl hl=>?_⟩;have ne1:a≠l:=λz=>by rw[z,hl]at e1;cases e1
 refine⟨.ref l,by rw[vi z7],?_⟩;have a0:(V.set 1 (O (σ.ref l)))[0]?=O (O (.ref a)):=by rw[vj Aa];exact e0
 refine⟨a,C,_,_,_,_,a0,by rw[aK ne1];exact e1,e2,hk 4 _ rfl,hk 5 _ rfl,hk 6 _ rfl,hk 7 _ rfl,λl2 lj=>?_⟩;have ne2:l≠l2:=λz=>by rw[<-z,aL]at lj;cases lj
 have s1:aI H (upd H l (.lst ([decide (0=j),decide (1=j),decide (2=j),decide (3=j)].map σ.bl))):=aI.upd hl;have s2:=s1.trans (aI.upd (o:=.lst ([decide (4=j),decide (5=j),decide (6=j),decide (7=j)].map σ.bl)) lj);refine⟨l,l2,_,_,rfl,rfl,by rw[aK ne2];exact aL,aL,?_,λl3 hl3=>?_⟩;show 4+4<=sizeLine;rw[sizeLine_eq];decide;have n2:(((V.set 1 (O (σ.ref l))).set 1 (O (σ.ref l3))))[1]?=O (O (.ref l3)):=by rw[vi (by rw[List.length_set];lia)]
 have n0:(((V.set 1 (O (σ.ref l))).set 1 (O (σ.ref l3))))[0]?=O (O (.ref a)):=by rw[vj Aa];exact a0
 have s3:=s2.trans (aI.upd (o:=.lst ([decide (0=j),decide (1=j),decide (2=j),decide (3=j),decide (4=j),decide (5=j),decide (6=j),decide (7=j)].map σ.bl)) hl3);have ha3:=s3 _ _ e1;refine⟨.ref l3,n2,.inl ⟨rfl,_,SqL.of aL⟩,l3,[decide (0=j),decide (1=j),decide (2=j),decide (3=j),decide (4=j),decide (5=j),decide (6=j),decide (7=j)],rfl,rfl,aL,rfl,⟨_,rfl,?_⟩⟩;refine aFC (by rw[aGZ j hj];rfl) ?_;refine⟨a,C,Y,n0,ha3,e2,hv,Y,rfl,?_⟩;show if J=Y then _ else _
 refine oW ?_;refine⟨by show 8<=sizeLine;rw[sizeLine_eq];decide,λl4 R=>?_⟩;have ne4:l3≠l4:=λz=>by rw[<-z]at R;have:(O (HO.lst ([decide (0=j),decide (1=j),decide (2=j),decide (3=j),decide (4=j),decide (5=j),decide (6=j),decide (7=j)].map σ.bl)))=U:=aL.symm.trans R;cases this
 refine⟨.ref l3,n2,.inl ⟨rfl,_,SqL.of (by rw[aK ne4];exact aL)⟩,l3,[decide (0=j),decide (1=j),decide (2=j),decide (3=j),decide (4=j),decide (5=j),decide (6=j),decide (7=j)],j,rfl,rfl,by rw[aK ne4];exact aL,at8 j hj,no8 j hj,z7,l4,_,_,_,rfl,rfl,SqL.of aL,wd8 j hj w hwj,q _ (s3.trans (aI.upd R))⟩
end
def XJ{p:Nat->Pos}{cs:Str->Addr}{j k:Nat}{wd:Str}(F:Fun K x qual st f fd)(fs:af ["e","kinds"] ["e"] (aE st))(hb:bA st=pP p) (I:((p 41).endLine == (p 43).line)=Y) (R:((p 65).endLine == (p 67).line)=Y) (h1:(aE st).names.lookup ("e":Str)=O .local) (h2:(aE st).names.lookup ("kinds":Str)=O .local) (h3:∀y∈("isinstance":Str):: "ValueError" :: bI,(aE st).names.lookup y=O .globalImplicit) (mi:mg "isinstance"=U) (mv:mg "ValueError"=U) (mx:∀y∈bI,mg y=O (.ref (cs y))) (X:XcK K C) (W:j<8) (hk:∀(i:Nat) (y:Str),bI[i]?=O y->kitOne K (.ref C) (.ref (cs y))=O (decide (i=j))) (hv:kitOne K (.ref C) (.type "ValueError")=O Y) (hw:uS[j]?=O wd):oy P w K mg base (k+1) f fd ["e"] (qh C wd):=by refine aCQ F fs (λvs H Q z=>?_) λcd A outer s H vs Q hr z=>⟨_,by rw[hb];exact RS (cs:=cs) ⟨rfl,h1,h2,h3 _ Ab,h3 _ Ab,λy hy=>h3 y (by simp[hy]),mi,mv,mx⟩ I R,?_⟩;obtain⟨a,rfl,_⟩:=z;rfl;obtain⟨a,rfl,hx,q⟩:=z;exact⟨a,C,j,wd,rfl,rfl,hx,X,W,hk,hv,hw,q⟩
end Z
namespace Toy
open PySem PySem.Spec PyProof.Rows L2 Z
variable {g:GS}{ds:List D}{f:Addr}{fd:y7}{m x:Str}{st:Stmt}{ps:List Str}{c t:Nat}{w:World}{h:Heap}{T:Tx}{K:xx}{mg:yb}
noncomputable def yY:Str->List Str:=λc=>if c="Pile" then [zu,"rows","wide","high","table","folds",zw] else []
noncomputable def csts:List (Str×D):=[(zd,.int 64),(yi,.tup [.str "west",.str "east"]),(zc,.tup [.str "north",.str "south"]),(ze,.tup [.str "west",.str "north"])]
noncomputable def j6:List (Str×List (Str×D)):=[(zb,[("west",.tup [.bl J,.int 0]),("east",.tup [.bl J,.int 1]),("north",.tup [.bl Y,.int 0]),("south",.tup [.bl Y,.int 1])])]
noncomputable def cu:List Str:=["LeafError","Ajar","NoPlace"]
def SB:Str->Str->Bool:=λk k'=>cu.contains k&&(k' == "LeafError" || k == k')
def mj:Str->Str->Option Str:=λf k=>if f = yq/\cu.contains k=Y then(bI.idxOf? k).bind (uS[·]?) else U
def m0:Nm:=⟨[],(["Pile","LeafError","NoSheet","NoFold","NoPlace","Ajar","Severed","Bolted","Loose","NoWord"]:List Str),csts.map (·.1),[]⟩
def g0:GS:=G0 csts yY SB (λk=>cu.contains k) mj j6
abbrev Rd(z:List Str)(m:Nm)(N:List Str)(st:Stmt)(i:IS):Prop:=j7 60 (m.cc N (aE st) z) (bA st)=O i
abbrev Ok(z:List Str)(m:Nm)(N:List Str)(st:Stmt):Prop:=lF (m.cc N (aE st) z) (aE st)=Y
def sK{N P:List Str}{sc:Scope}(a:sc.kind=.function:=by rfl)(b:sc.isCoroutine=J:=by rfl)(c:sc.isGenerator=J:=by rfl)(d:N.Nodup:=by decide +kernel)(e:N.take P.length=P:=by rfl)(f:∀x∈P,sc.names.lookup x=O .local\/sc.names.lookup x=O .cell:=by decide +kernel)(h:∀y∈sc.names,y.2≠.free:=by decide +kernel):af N P sc:=⟨a,b,c,d,e,f,h⟩
def fD(k:Nat)(g:GS)(n:Nat)(i:IS)(ds:List D):Option Rs:=if ds.length=k then bK g n i ds else U
def cQ{k:Nat}{n:Nat}{i:IS}(h:ds.length=k):fD k g n i ds=bK g n i ds:=if_pos h
noncomputable def yW:List (Str×IE):=[(zu,.v 1),("rows",.v 2),("wide",.ρ .len (.cons (.ix (.v 3) (.L (.int 0))) .nil)),("high",.ρ .len (.cons (.v 3) .nil)),("table",.v 3),("folds",.v 4),(zw,.v 5)]
def aEx:uF 60 (m0.cc (["self",zu,"rows","table","folds",zw]:List Str) (aE (L2.inClass (top 16) 0)) []) (bA (L2.inClass (top 16) 0))=O yW:=z8
def OX(ds:List D):Option Rs:=if ds.length+1=6 then GM g0 "Pile" 6 yW ds else U
def g1:GS:=g0.addC "Pile" OX
def m1:Nm:=m0
noncomputable def FV:List Str:=["self","x","y"]
abbrev RN:List Str:=FV
def aEt:Rd [] m1 FV (L2.inClass (top 16) 1) Pg.vW:=z8
def aEg:af FV RN (aE (L2.inClass (top 16) 1)):=sK
def aEV:Ok [] m1 FV (L2.inClass (top 16) 1):=z9
def tS:=fD 3 g1 3 Pg.vW
def aDM:ds.length=3->tS ds=bK g1 3 Pg.vW ds:=cQ
def g2:GS:=g1.addM "Pile" "heap" tS J
def m2:Nm:=m1.addM "heap" J
def PD:=fD 2 g2 2 Pg.lT
def g3:GS:=g2.addF zt PD J
def m3:Nm:=m2.addF zt J
def zB:=fD 2 g3 3 Pg.vV
def aDL:ds.length=2->zB ds=bK g3 3 Pg.vV ds:=cQ
def g4:GS:=g3.addF "laid" zB J
def m4:Nm:=m3.addF "laid" J
def PB:=fD 2 g4 2 Pg.nQ
def g5:GS:=g4.addF zv PB J
def m5:Nm:=m4.addF zv J
def aCY:=fD 3 g5 6 Pg.fU
def g6:GS:=g5.addF yh aCY J
def m6:Nm:=m5.addF yh J
def PU:=fD 2 g6 2 Pg.iC
def g7:GS:=g6.addF yv PU J
def m7:Nm:=m6.addF yv J
def PR:=fD 2 g7 2 Pg.iB
def g8:GS:=g7.addF yx PR J
def m8:Nm:=m7.addF yx J
def aCV:=fD 4 g8 7 Pg.gT
def g9:GS:=g8.addF yr aCV J
def m9:Nm:=m8.addF yr J
def PH:=fD 2 g9 2 Pg.jZ
def g10:GS:=g9.addF zm PH J
def m10:Nm:=m9.addF zm J
def PN:=fD 1 g10 1 Pg.jA
def uc:GS:=g10.addF zj PN J
def m11:Nm:=m10.addF zj J
def PX:=fD 4 uc 5 Pg.gS
def g12:GS:=uc.addF yt PX J
def m12:Nm:=m11.addF yt J
def PL:=fD 3 g12 3 Pg.jC
def g13:GS:=g12.addF zk PL J
def m13:Nm:=m12.addF zk J
def aCZ:=fD 1 g13 1 Pg.fA
def p9:GS:=g13.addF yd aCZ J
def m14:Nm:=m13.addF yd J
def OZ:=fD 4 p9 6 Pg.qQ
def ub:GS:=p9.addF zy OZ J
def m15:Nm:=m14.addF zy J
def PP:=fD 1 ub 7 Pg.jE
def g16:GS:=ub.addF zf PP J
def m16:Nm:=m15.addF zf J
def PK:=fD 2 g16 5 Pg.jB
def ua:GS:=g16.addF zi PK J
def m17:Nm:=m16.addF zi J
def PM:=fD 1 ua 6 Pg.jF
def g18:GS:=ua.addF zg PM J
def m18:Nm:=m17.addF zg J
def tT:=fD 1 g18 1 Pg.qN
def g19:GS:=g18.addF zx tT J
def m19:Nm:=m18.addF zx J
def OY:=fD 3 g19 5 Pg.NK
def g20:GS:=g19.addF "cut" OY J
def m20:Nm:=m19.addF "cut" J
def aCW:=fD 3 g20 5 Gp.BY
def l6:GS:=g20.addF yg aCW J
def k9:Nm:=m20.addF yg J
noncomputable def uO:List Str:=["pile","least","joint","groups","cell","head"]
abbrev FT:List Str:=["pile"]
def aEh:af uO FT (aE (top 36)):=sK
def aEW:Ok ["groups"] k9 uO (top 36):=z9
noncomputable def ZM:Nat->Pos:=λi=>([⟨134,8,134,12⟩,⟨134,14,134,18⟩,⟨134,8,134,18⟩,⟨134,22,134,31⟩,⟨134,32,134,37⟩,⟨134,22,134,38⟩,⟨135,8,135,14⟩,⟨135,8,135,25⟩,⟨135,26,135,30⟩,⟨135,32,135,34⟩,⟨135,8,135,35⟩,⟨135,8,135,42⟩,⟨135,43,135,47⟩,⟨135,8,135,48⟩,⟨135,8,135,48⟩,⟨134,4,135,48⟩,⟨136,11,136,15⟩,⟨136,16,136,22⟩,⟨136,16,136,29⟩,⟨136,16,136,31⟩,⟨136,11,136,32⟩,⟨136,4,136,32⟩]:List Pos).getD i ⟨0,0,0,0⟩
def VJ:bA (top 36)=stN (bA (top 36)) 0::stN (bA (top 36)) 1::stN (bA (top 36)) 2::vF ZM:=by rfl
def aEJ:cS 60 (k9.cc uO (aE (top 36)) (["groups"]:List Str)) (stN (bA (top 36)) 0)=O K11.pc1:=z8
def aEI:cS 60 (k9.cc uO (aE (top 36)) (["groups"]:List Str)) (stN (bA (top 36)) 1)=O K11.pc2:=z8
def aEH:cS 60 (k9.cc uO (aE (top 36)) (["groups"]:List Str)) (stN (bA (top 36)) 2)=O (.setd 3):=z8
def aGI:uj (k9.cc uO (aE (top 36)) (["groups"]:List Str)) ZM:=⟨z8,z8,z8,z8,z8,z9,z9,z9,z9,z9,z9,z9,z9,z9⟩
def FA:=pcD l6 K11.pc1 K11.pc2
def aDN{d:D}:FA [d]=(jw l6 K11.pc1 K11.pc2 [d]).map λgs=>.ok (.lst (gs.map l0)):=rfl
def g22:GS:=l6.addF z0 FA J
def m22:Nm:=k9.addF z0 J
def CJ:=fD 2 g22 2 Pg.yV
def t9:GS:=g22.addF ye CJ J
def m23:Nm:=m22.addF ye J
def aFR:=fD 2 t9 7 K13.NH
def p8:GS:=t9.addF yf aFR J
def m24:Nm:=m23.addF yf J
def EY:=fD 2 p8 6 K13.qO
def t8:GS:=p8.addF z5 EY Y
def m25:Nm:=m24.addF z5 Y
def EZ:=fD 2 t8 2 K13.pK
def g26:GS:=t8.addF z4 EZ Y
def m26:Nm:=m25.addF z4 Y
def FB:=fD 2 g26 2 Pg.nR
def g27:GS:=g26.addF yo FB J
def m27:Nm:=m26.addF yo J
def zC:=fD 1 g27 1 Pg.vU
def g28:GS:=g27.addF zh zC J
def m28:Nm:=m27.addF zh J
def aCX:=fD 1 g28 3 Pg.gR
def aGv:ds.length=1->aCX ds=bK g28 3 Pg.gR ds:=cQ
def g29:GS:=g28.addF yj aCX J
def m29:Nm:=m28.addF yj J
def aCU:=fD 3 g29 6 Pg.kT
def l5:GS:=g29.addF yu aCU J
def m30:Nm:=m29.addF yu J
def PF:=fD 3 l5 7 Pg.BV
def tw:GS:=l5.addF zr PF J
def m31:Nm:=m30.addF zr J
def PQ:=fD 2 tw 4 Pg.BX
def g32:GS:=tw.addF yw PQ J
def m32:Nm:=m31.addF yw J
def PJ:=fD 2 g32 4 K13.BW
def tu:GS:=g32.addF zq PJ J
def m33:Nm:=m32.addF zq J
def aAj:=fD 2 tu 3 K13.aCI
def g34:GS:=tu.addF za aAj J
def m34:Nm:=m33.addF za J
def aAi:=fD 4 g34 13 K13.BU
def g35:GS:=g34.addF zl aAi J
def m35:Nm:=m34.addF zl J
def PV:=fD 2 g35 8 Gp.qP
def g36:GS:=g35.addF yz PV J
def m36:Nm:=m35.addF yz J
def aAk:=fD 2 g36 3 K13.NJ
def g37:GS:=g36.addF yp aAk J
def m37:Nm:=m36.addF yp J
def aFS:=fD 2 g37 4 K13.aCJ
def tm:GS:=g37.addF yc aFS J
def m38:Nm:=m37.addF yc J
def PY:=fD 2 tm 4 K13.NI
def ej:GS:=tm.addF yk PY J
def qr:Nm:=m38.addF yk J
noncomputable def FU:List Str:=["script",zu,"rows","word","pile","leafs","bits","side","spine","ties","tied","kept","group","found","due","told","again"]
noncomputable def AC:List Str:=["script"]
def aEs:Rd ["told"] qr FU (top 59) K13.EU:=z8
def aEf:af FU AC (aE (top 59)):=sK
def aEU:Ok ["told"] qr FU (top 59):=z9
def zA:=fD 1 ej 17 K13.EU
def YZ:ds.length=1->zA ds=bK ej 17 K13.EU ds:=cQ
def tx(C:Addr)(cs:Str->Addr):Tx:=⟨λx=>if x="Pile" then O C else U,λx=>if cu.contains x=Y then O (cs x) else U⟩
def CS(C:Addr)(cs:Str->Addr):(tx C cs).cl "Pile"=O C:=by unfold tx;simp only[if_true]
def ZA{C:Addr}{cs:Str->Addr}{cn:Str}{C':Addr}(h:(tx C cs).cl cn=O C'):cn="Pile"/\C'=C:=by unfold tx at h;dsimp only at h;split at h;rename_i e;cases h;exact⟨e,rfl⟩;cases h
def xG{C:Addr}{cs:Str->Addr}{k:Str}{C':Addr}(h:(tx C cs).xc k=O C'):cu.contains k=Y/\C'=cs k:=by unfold tx at h;dsimp only at h;split at h;rename_i e;cases h;exact⟨e,rfl⟩;cases h
structure Df (K:xx) (mg:yb) (x:Str) (st:Stmt) (ps:List Str) (f:Addr) (fd:y7):Prop where
 fn:Fun K x x st f fd
 at_:mg x=O (.ref f)
 bd:Binds K fd ps []
structure Mt (K:xx) (C:Addr) (x qual:Str) (st:Stmt) (ps:List Str) (f:Addr) (fd:y7):Prop where
 fn:Fun K x qual st f fd
 at_:jr K C x f
 bd:Binds K fd ps []
section
variable {P:y8}{w:World}{K:xx}{mg:yb}{base:Heap}{C:Addr}{cs:Str->Addr}
abbrev MO(P:y8)(w:World)(K:xx)(mg:yb)(base:Heap)(C:Addr)(cs:Str->Addr)(m:Nm)(g:GS)(k:Nat):Prop:=MOk P w K mg base (dS P w) m g (tx C cs) k
noncomputable def aGu:Nat->Pos:=λi=>([⟨272,4,272,9⟩,⟨272,13,272,23⟩,⟨272,24,272,25⟩,⟨272,27,272,34⟩,⟨272,13,272,35⟩,⟨272,37,272,47⟩,⟨272,48,272,49⟩,⟨272,51,272,57⟩,⟨272,37,272,58⟩,⟨272,60,272,70⟩,⟨272,71,272,72⟩,⟨272,74,272,81⟩,⟨272,60,272,82⟩,⟨272,84,272,94⟩,⟨272,95,272,96⟩,⟨272,98,272,102⟩,⟨272,84,272,103⟩,⟨272,12,272,104⟩,⟨272,4,272,104⟩,⟨273,4,273,9⟩,⟨273,12,273,17⟩,⟨273,21,273,31⟩,⟨273,32,273,33⟩,⟨273,35,273,42⟩,⟨273,21,273,43⟩,⟨273,45,273,55⟩,⟨273,56,273,57⟩,⟨273,59,273,65⟩,⟨273,45,273,66⟩,⟨273,68,273,78⟩,⟨273,79,273,80⟩,⟨273,82,273,87⟩,⟨273,68,273,88⟩,⟨273,90,273,100⟩,⟨273,101,273,102⟩,⟨273,104,273,110⟩,⟨273,90,273,111⟩,⟨273,20,273,112⟩,⟨273,12,273,112⟩,⟨273,4,273,112⟩,⟨274,7,274,12⟩,⟨274,7,274,18⟩,⟨274,19,274,23⟩,⟨274,7,274,24⟩,⟨274,28,274,29⟩,⟨274,7,274,29⟩,⟨274,37,274,47⟩,⟨274,48,274,49⟩,⟨274,51,274,61⟩,⟨274,37,274,62⟩,⟨274,33,274,62⟩,⟨274,7,274,62⟩,⟨275,15,275,22⟩,⟨275,8,275,22⟩,⟨274,4,275,22⟩,⟨276,12,276,19⟩,⟨276,21,276,27⟩,⟨276,29,276,36⟩,⟨276,38,276,44⟩,⟨276,46,276,55⟩,⟨276,57,276,65⟩,⟨276,67,276,74⟩,⟨276,76,276,82⟩,⟨276,11,276,83⟩,⟨276,84,276,89⟩,⟨276,84,276,95⟩,⟨276,96,276,100⟩,⟨276,84,276,101⟩,⟨276,11,276,102⟩,⟨276,4,276,102⟩]:List Pos).getD i ⟨0,0,0,0⟩
def aAy:bA (top 57)=pP aGu:=by rfl
def RU:af ["e","kinds"] ["e"] (aE (top 57)):=sK
def aAx:∀y∈("isinstance":Str):: "ValueError" :: bI,(aE (top 57)).names.lookup y=O .globalImplicit:=by
 have:(("isinstance":Str):: "ValueError" :: bI).all (λy=>(aE (top 57)).names.lookup y == O .globalImplicit)=Y:=z9
 intro y hy;exact wb.mp (all_eq_true.mp this y hy)
def aGt(F:Df K mg yq (top 57) ["e"] f fd)(mi:mg "isinstance"=U)(mv:mg "ValueError"=U)(mx:∀y∈bI,mg y=O (.ref (cs y)))(hX:∀k,cu.contains k=Y->∀(j:Nat),bI.idxOf? k=O j->XcK K (cs k)) (hk:∀k,cu.contains k=Y->∀(j:Nat),bI.idxOf? k=O j->∀(i:Nat) (y:Str),bI[i]?=O y->kitOne K (.ref (cs k)) (.ref (cs y))=O (decide (i=j))) (hv:∀k,cu.contains k=Y->∀(j:Nat),bI.idxOf? k=O j->kitOne K (.ref (cs k)) (.type "ValueError")=O Y):∀g k x C',(tx C cs).xc k=O C'->mj g k=O x->∃fa fd ps j,j<=1/\mg g=O (.ref fa)/\keepIn K (.ref fa)=Y/\Binds K fd ps []/\oy P w K mg base j fa fd ps (qh C' x):=by intro g k x C' h1 h2;obtain⟨z,rfl⟩:=xG h1;unfold mj at h2;split at h2;rename_i hc;obtain⟨rfl,_⟩:=hc;obtain⟨j,I,hw⟩:=u6.mp h2;refine⟨f,fd,["e"],1,ux 1,F.at_,F.fn.kp,F.bd,XJ (cs:=cs) (j:=j) F.fn RU aAy Aa Aa z9 z9 aAx mi mv mx (hX k z j I) ?_ (hk k z j I) (hv k z j I) hw⟩;have:=(u0.mp hw).1;exact this;cases h2
def mk0(hc:∀x d,csts.lookup x=O d->AD K (tx C cs) mg x d)(bp:Cls K C)(iN:∀f,(yY "Pile").contains f=Y->eV K C f)(R:∀x,gH.contains x=Y->mg x=U)(hx:∀k,cu.contains k=Y->mg k=O (.ref (cs k)))(q9:∀k,cu.contains k=Y->excIn K (cs k) j8 "ValueError.__new__"=Y) (vX:∀k k',cu.contains k=Y->cu.contains k'=Y->SB k k'=Y->lQ K (cs k) (.ref (cs k'))=Y) (z:∀g k x C',(tx C cs).xc k=O C'->mj g k=O x->∃fa fd ps j,j<=1/\mg g=O (.ref fa)/\keepIn K (.ref fa)=Y/\Binds K fd ps []/\oy P w K mg base j fa fd ps (qh C' x)) (I:∀x kvs,j6.lookup x=O kvs->∃a,mg x=O (.ref a)/\∀X:Cx,X.prog=P->X.w=w->X.K=K->RP X (tx C cs) a kvs):MO P w K mg base C cs m0 g0 1:=aGO hc (λcn C' h=>by obtain⟨_,rfl⟩:=ZA h;exact bp) (λcn C' f h hf=>by obtain⟨rfl,rfl⟩:=ZA h;exact iN f hf) R (λk C' h=>by obtain⟨h1,rfl⟩:=xG h;exact hx k h1) (λk h=>⟨cs k,if_pos h⟩) (λk C' h=>by obtain⟨h1,rfl⟩:=xG h;exact q9 k h1) (λk k' C1 W a b h=>by obtain⟨h1,rfl⟩:=xG a;obtain⟨h2,rfl⟩:=xG b;exact vX k k' h1 h2 h) z I
def aEi:af (["self",zu,"rows","table","folds",zw]:List Str) (["self",zu,"rows","table","folds",zw]:List Str) (aE (L2.inClass (top 16) 0)):=sK
def mk1(h:MO P w K mg base C cs m0 g0 1)(hm:mg "Pile"=O (.ref C))(M:Mk K C f)(hb:Binds K fd (["self",zu,"rows","table","folds",zw]:List Str) [])(F:Fun K "__init__" "Pile.__init__" (L2.inClass (top 16) 0) f fd)(bp:Cls K C)(iN:∀f,(yY "Pile").contains f=Y->eV K C f):MO P w K mg base C cs m1 g1 3:=h.defC hm M hb F aEi z9 aEx (CS C cs) bp (λx hx=>iN x.1 (by
 have:yW.all (λx=>(yY "Pile").contains x.1)=Y:=z9
 exact all_eq_true.mp this x hx)) z9 Aa
def mkM{m:Nm}{k:Nat}{q:Str}{N z:List Str}{i:IS}(e:∀cn ds,g.me cn x ds=U)(s:af N ps (aE st))(o:Ok z m N st)(r:Rd z m N st i)(h:MO P w K mg base C cs m g k)(M:Mt K C x q st ps f fd)(a1:m.fns.contains x=J:=by decide +kernel)(a3:m.fresh.contains x=J:=by decide +kernel)(I:J=Y->gF i=Y:=by decide +kernel):MO P w K mg base C cs (m.addM x J) (g.addM "Pile" x (fD ps.length g N.length i) J) (k+1):=h.defM a1 e a3 (CS C cs) M.at_ M.bd M.fn s o r I
def aFU:∀cn ds,g1.me cn "heap" ds=U:=λcn ds=>by rfl
def MF(I:¬x="heap"):∀cn ds,g2.me cn x ds=U:=λcn ds=>by show (if cn="Pile"/\x="heap" then tS elseλ_=>U) ds=U;rw[if_neg λz=>I z.2]
def bw(N I:List Str)(i:IS){m:Nm}{k:Nat}(h:MO P w K mg base C cs m g k)(M:Df K mg x st ps f fd)(s:af N ps (aE st):=by exact sK)(o:Ok I m N st:=by decide +kernel)(r:Rd I m N st i:=by kernel_rfl)(a1:m.fns.contains x=J:=by decide +kernel)(a2:∀cn ds,g.me cn x ds=U:=by exact MF z9)(a3:m.fresh.contains x=J:=by decide +kernel)(R:J=Y->gF i=Y:=by first|(intro z;cases z;done)|decide +kernel):MO P w K mg base C cs (m.addF x J) (g.addF x (fD ps.length g N.length i) J) (k+1):=h.defF a1 a2 a3 M.at_ M.bd M.fn s o r R
def mkT(N I:List Str)(i:IS){m:Nm}{k:Nat}(h:MO P w K mg base C cs m g k)(M:Df K mg x st ps f fd)(s:af N ps (aE st):=by exact sK)(o:Ok I m N st:=by decide +kernel)(r:Rd I m N st i:=by kernel_rfl)(a1:m.fns.contains x=J:=by decide +kernel)(a2:∀cn ds,g.me cn x ds=U:=by exact MF z9)(a3:m.fresh.contains x=J:=by decide +kernel)(R:Y=Y->gF i=Y:=by first|(intro z;cases z;done)|decide +kernel):MO P w K mg base C cs (m.addF x Y) (g.addF x (fD ps.length g N.length i) Y) (k+1):=h.defF a1 a2 a3 M.at_ M.bd M.fn s o r R
def mkP(h:MO P w K mg base C cs k9 l6 23)(M:Df K mg z0 (top 36) FT f fd):MO P w K mg base C cs m22 g22 24/\FnOk P w K mg base (dS P w) 24 f fd FT (qi K (tx C cs) (jw l6 K11.pc1 K11.pc2)):=h.pieces z9 (MF z9) z9 M.at_ M.bd M.fn aEh rfl aEW VJ aEJ aEI aEH aGI
def aCo(h:MO P w K mg base C cs qr ej 41)(M:Df K mg "law" (top 59) AC f fd):FnOk P w K mg base (dS P w) 42 f fd AC (i6 K (tx C cs) 1 zA J):=((aCP (fr:=J) (n:=60) (c:=qr.cc FU (aE (top 59)) (["told"]:List Str)) M.fn aEf rfl rfl aEU aEs (λz=>by cases z) (λX a1 a2 a3 W R=>h X _ a1 a2 a3 W R rfl rfl rfl rfl)).imp λvs H Q E ⟨h1,S,ds,dom,I,hc⟩=>⟨h1,S,ds,dom,I,by rw[YZ (by rw[I.len];exact h1)]at hc;exact hc⟩)
end
def aBm:g3.fn zt = PD:=z8
def aBl:g5.fn zv = PB:=z8
def aBk:g7.fn yv = PU:=z8
def aEC:g8.fn yh = aCY:=z8
def aBj:g8.fn yx = PR:=z8
def UR:g10.fn zm = PH:=z8
def aBt:uc.fn yr = aCV:=z8
def UQ:uc.fn zj = PN:=z8
def UP:p9.fn yt = PX:=z8
def UO:p9.fn zk = PL:=z8
def aBs:p9.fn yd = aCZ:=z8
def VM:ub.me "Pile" "heap"=tS:=z8
def UN:ua.fn zf = PP:=z8
def UM:ua.fn zi = PK:=z8
def UL:g18.fn zg = PM:=z8
def UK:g19.fn zx = tT:=z8
def aBr:l6.fn yg = aCW:=z8
def UJ:l6.fn zx = tT:=z8
def UI:t9.fn zx = tT:=z8
def UH:p8.fn z0 = FA:=z8
def KG:p8.fn ye = CJ:=z8
def aBq:p8.fn yf = aFR:=z8
def UG:t8.fn zx = tT:=z8
def KD:t8.fn ye = CJ:=z8
def UF:l5.fn yo = FB:=z8
def aBp:l5.fn yu = aCU:=z8
def UE:l5.fn zy = OZ:=z8
def UD:l5.fn "laid"=zB:=z8
def UC:tw.fn zh = zC:=z8
def VL:tw.me "Pile" "heap"=tS:=z8
def UB:tu.fn "cut"=OY:=z8
def UA:g34.fn zq = PJ:=z8
def TZ:g36.fn zh = zC:=z8
def TY:g37.fn zh = zC:=z8
def TX:tm.fn z4 = EZ:=z8
def TV:tm.fn z5 = EY:=z8
def aBo:ej.fn yc = aFS:=z8
def TQ:ej.fn yo = FB:=z8
def TM:ej.fn yz = PV:=z8
def TN:ej.fn za = aAj:=z8
def TL:ej.fn yw = PQ:=z8
def TR:ej.fn yp = aAk:=z8
def DL:ej.fn yk = PY:=z8
def aBn:ej.fn yj = aCX:=z8
def TJ:ej.fn zr = PF:=z8
def TK:ej.fn zl = aAi:=z8
def TH:ej.fn z4 = EZ:=z8
def TF:ej.fn z5 = EY:=z8
def TC:ej.fn "laid"=zB:=z8
open Z.Pg
def ip(G:GS)(h:G.fl=yY):G.fl "Pile"=cz:=by rw[h];rfl
def mo_(c r:Int)(T row:List D)(F S:List D)(h:T[0]?=O (.lst row)):OX [.int c,.int r,.lst T,.tup F,.tup S]=O (.ok (bT c r row.length T.length T F S)):=by show GM g0 "Pile" 6 yW _=_;unfold GM yW;have e:Z.atI T 0=O (.lst row):=fE (k:=0) h;show Option.map _ (j4 g0 [.un,.im (.int c),.im (.int r),.im (.lst T),.im (.tup F),.im (.tup S)] _)=_;simp only[j4,uy];simp only[z6,e];rfl
def YY{r w h:Nat}{T:Table}{F S:List D}{x y:Nat}(R:Rect T w h)(hx:x<w)(hy:y<h):tS [aN c r w h T F S,.int x,.int y]=O (.ok (hE ((T.getD y []).getD x []))):=by
 rw[aDM rfl];have z:y<T.length:=by rw[R.len];exact hy
 have hr:(T.getD y []).length=w:=R.row _ (by rw[u3,u7 z];exact getElem_mem z);refine XH (ip _ rfl) (row:=(T.getD y []).map hE) (by lia) (by lia) ?_ ?_;rw[uv,u3,u7 z];rfl;rw[uv,u3 (l:=T.getD y []),u7 (by lia)];rfl
def mc_:g3.cst zd = O (.int 64):=by rfl
def aDB{y:Nat}(h1:c<=64)(h2:y<=64):PD [.int c,.int y]=O (.ok (.lst (oV c y))):=(cQ rfl).trans (yN h1 h2)
def YX{r:Nat}(h1:1<=c)(h2:1<=r)(h3:c*r<=64):zB [.int c,.int r]=O (.ok (aN c r c r (fY c r) [] [])):=by rw[aDL rfl];unfold aN;rw[<-xI];exact WT mc_ (λc y a b=>by rw[aBm];exact aDB a b) (λc r T row h=>mo_ c r T row [] [] h) h1 h2 h3
def aDA(p:bO)(k:Nat):PB [sE p,.int k]=O (.ok (hE (p.getD k []))):=(cQ rfl).trans BZ
def aGr(mv st:bO)(over:Bool)(l1:mv.length<=1000)(l2:st.length<=1000)(f1:Few 400000 mv)(f2:Few 400000 st):aCY [sE mv,sE st,.bl over]=O (.ok (sE (dH mv st over))):=(cQ rfl).trans (nL (λp k=>by rw[aBl];exact aDA p k) l1 l2 f1 f2)
def aDJ(h:gA)(sd:Side):PU [hE h,.str sd.str]=O (.ok (hE (lD sd.up h))):=(cQ rfl).trans (pU rfl)
def aDI(p:bO)(sd:Side):PR [sE p,.str sd.str]=O (.ok (sE (fV sd.up p))):=(cQ rfl).trans (pT λh sd=>by rw[aBk];exact aDJ h sd)
def aGq(s:bO)(sd:Side)(over:Bool)(c:Nat)(ls:s.length<=1000)(hf:Few 400000 s):aCV [sE s,.str sd.str,.bl over,.int c]=O (.ok (sE (eY sd over c s))):=(cQ rfl).trans (oZ rfl (λp sd=>by rw[aBj];exact aDI p sd) (λmv st over a b c d=>by rw[aEC];exact aGr mv st over a b c d) ls hf)
def aDC(T:Table)(x:Nat)(h:∀s∈T,x<s.length):PH [tE T,.int x]=O (.ok (sE (T.map λs=>s.getD x []))):=(cQ rfl).trans (wX h)
def aDG(T:Table)(w h:Nat)(R:Rect T w h)(hw:w<=1000):PN [tE T]=O (.ok (tE (transp T))):=(cQ rfl).trans (rT (λT x h=>by rw[UR];exact aDC T x h) R hw)
def aDK(T:Table)(w h:Nat)(sd:Side)(over:Bool)(k:Nat)(R:Rect T w h)(hw:w<=1000)(z:h<=1000)(hf:sI 400000 T)(h1:1<=k)(h2:k<if sd.up then w else h):PX [tE T,.str sd.str,.bl over,.int k]=O (.ok (tE (foldT sd over k T))):=(cQ rfl).trans (oY rfl (λT w h R hw=>by rw[UQ];exact aDG T w h R hw) (λs sd over c a b=>by rw[aBt];exact aGq s sd over c a b) R hw z hf h1 h2)
def aDE(c r w h:Nat)(T:Table)(F S:List D)(sd:Side)(i:Int):PL [aN c r w h T F S,.str sd.str,.int i]=O (.ok (.bl (decide (1<=i)&&decide (i<((if sd.up then w else h:Nat):Int))))):=(cQ rfl).trans (rZ (ip _ rfl) rfl rfl)
def aGs(c r w h:Nat)(T:Table)(F:List D):aCZ [aN c r w h T F []]=O (.ok .non):=(cQ rfl).trans (mJ (ip _ rfl))
def aDz(c r w h:Nat)(T:Table)(F:List D)(sd:Side)(over:Bool)(k:Nat)(R:Rect T w h)(hw:w<=1000)(z:h<=1000)(hf:sI 400000 T)(h1:1<=k)(h2:k<if sd.up then w else h)(I:F.length<=1000):OZ [aN c r w h T F [],.str sd.str,.bl over,.int k]=O (.ok (aN c r (if sd.up then max k (w-k) else w) (if sd.up then h else max k (h-k)) (foldT sd over k T) (F++[fX sd over k]) [])):=(cQ rfl).trans (IA (ip _ rfl) (λc r w h T F=>by rw[aBs];exact aGs c r w h T F) (λc r w h T F S sd i=>by rw[UO];exact aDE c r w h T F S sd i) (λT w h sd over k a b c d e f=>by rw[UP];exact aDK T w h sd over k a b c d e f) (λc r T row F S h=>mo_ c r T row F S h) R hw z hf h1 h2 I)
def sJ(ns:List Int)(k:Nat):FB [.frz (ns.map .int),.int k]=O (.ok (.int (cf ns k))):=(cQ rfl).trans CL
def uR(i:Int):zC [.int i]=O (.ok (.bl Y)):=(cQ rfl).trans JB
def FW(w h:Nat)(cell:Int)(hw:1<=w)(I:1<=h)(z:1<w*h):∃(sd:Side) (over:Bool) (k:Nat),1<=k/\(k<if sd.up then w else h)/\aCU [.int cell,.int w,.int h]=O (.ok (fX sd over k)):=by obtain⟨sd,over,k,a,b,e⟩:=CD (G:=g29) (cell:=cell) hw I z;exact⟨sd,over,k,a,b,(cQ rfl).trans e⟩
def aDH(c r:Nat)(T:Table)(F C:List D)(sp:List Spot)(S:av T 1 1 sp):∃kvs,PP [aN c r 1 1 T F C]=O (.ok (.dct kvs))/\∀(i:Nat) (s:Spot),sp[i]?=O s->bU kvs i=O (sX s):=by obtain⟨kvs,e,h⟩:=sA (G:=ub) (c:=c) (r:=r) (F:=F) (C:=C) (ip _ rfl) (λc r w h T F S x y a b d=>by rw[VM];exact YY a b d) S;exact⟨kvs,(cQ rfl).trans e,h⟩
def aDD(c r:Nat)(hc:1<=c)(I:c*r<=64)(z:c<=64):PK [.int c,.int r]=O (.ok (.lst ((b0 c (c*r) (c*r)).map fm))):=(cQ rfl).trans (rY hc I z)
def aDF(c r:Nat)(T:Table)(F C:List D)(sp:List Spot)(S:av T 1 1 sp)(hc:1<=c)(z:c*r<=64)(I:c<=64)(R:sp.length=c*r):PM [aN c r 1 1 T F C]=O (.ok (jsE sp c r)):=by obtain⟨kvs,e,hk⟩:=aDH c r T F C sp S;exact(cQ rfl).trans (sH (ip _ rfl) (by rw[UN];exact e) hk (by rw[UM];exact aDD c r hc z I) z R)
def gB(c r:Nat)(T:Table)(F:List D)(sp:List Spot)(aa:List (Nat×Nat))(S:av T 1 1 sp)(hc:1<=c)(R:c*r<=64)(z:c<=64)(I:sp.length=c*r):tT [aN c r 1 1 T F (aa.map pD)]=O (.ok (.lst ((Pg.left c (c*r) aa).map (jD sp)))):=(cQ rfl).trans (BN (ip _ rfl) (by rw[UL];exact aDF c r T F _ sp S hc R z I))
def FX(c r:Nat)(T:Table)(F:List D)(sp:List Spot)(aa:List (Nat×Nat))(S:av T 1 1 sp)(hc:1<=c)(R:c*r<=64)(z:c<=64)(I:sp.length=c*r)(l:Bool)(n:Int)(h0:0<=n)(h1:n<=((if l then 1 else 1:Nat):Int))(hs:aa.length<=900000):OY [aN c r 1 1 T F (aa.map pD),.bl l,.int n]=O (.ok (aN c r 1 1 T F ((aa++fZ c (c*r) sp aa l n).map pD))):=(cQ rfl).trans (YH (ip _ rfl) S.rect (by rw[UK];exact gB c r T F sp aa S hc R z I) (λc r T row F S h=>mo_ c r T row F S h) h0 h1 (by lia))
def YW(c r:Nat)(T:Table)(F S:List D)(sd:Side):CJ [aN c r 1 1 T F S,.str sd.str]=O (.ok .non):=(cQ rfl).trans (aAz (ip _ rfl) rfl)
def xC(c r:Nat)(T:Table)(F S:List D)(x:Str)(hn:i4.lookup x=U):CJ [aN c r 1 1 T F S,.str x]=O (.er "NoPlace"):=(cQ rfl).trans (FY (ip _ rfl) rfl rfl hn)
def AF(c r w h:Nat)(T:Table)(F S:List D)(d:D)(hw:1<=w)(z:1<=h)(h1:1<w*h):CJ [aN c r w h T F S,d]=O (.er "Ajar"):=(cQ rfl).trans (JD (ip _ rfl) rfl h1 hw z)
def aAt(ns:List Int)(c r:Nat)(hc:1<=c)(hr:1<=r)(z:c*r<=64):∃fs sp,Stg c r fs sp/\(runs c r fs).2.1=1/\(runs c r fs).2.2=1/\PF [.int c,.int r,.frz (ns.map .int)]=O (.ok (eD c r fs)):=by obtain⟨fs,sp,S,w1,h1,e⟩:=SV (G:=l5) (ns:=ns) (ip _ rfl) hc hr z (λk=>by rw[UF];exact sJ ns k) (by rw[UD];exact YX hc hr z) (λw h cell a b d=>by rw[aBp];exact FW w h cell a b d) (λfs sp f S ok hl=>IB (λc r w h T F sd over k a1 a2 a3 a4 W R I=>by rw[UE];exact aDz c r w h T F sd over k a1 a2 a3 a4 W R I) S ok hl);exact⟨fs,sp,S,w1,h1,(cQ rfl).trans e⟩
def aAv(c r:Nat)(T:Table)(F S:List D)(sp:List Spot)(z:av T 1 1 sp)(hs:sp.length=c*r):PQ [aN c r 1 1 T F S,.int ((c*r:Nat):Int)]=O (.ok (hE (ao T 0 0))):=(cQ rfl).trans (WS (ip _ rfl) (λi=>by rw[UC];exact uR i) z hs (by rw[VL];exact YY (x:=0) (y:=0) z.rect Aa Aa))
def wA:mj yq "Ajar"=O ("ajar":Str):=z9
def wP:mj yq "NoPlace"=O ("place":Str):=z9
def aAw(n:Nat)(l:G11.Nm)(p q:Nat):aCW [.lst (Gp.nmL n l),.int (p:Nat),.int (q:Nat)]=O (.ok (.lst (Gp.nmL n (G11.hung l p q)))):=(cQ rfl).trans Gp.XD
def IZ(n:Nat)(ts:List (Nat×Nat))(hn:n<=64)(h:∀a b,(a,b)∈ts->a<n/\b<n):PV [.int (n:Nat),.lst (ts.map Gp.gX)]=O (.ok (.lst ((G11.told n (G11.dE ts id)).map Gp.dI))):=(cQ rfl).trans (Gp.HY hn h)
def aDy(c r:Nat)(T:Table)(F:List D)(sp:List Spot)(aa:List (Nat×Nat))(S:av T 1 1 sp)(hc:1<=c)(I:c*r<=64)(z:c<=64)(R:sp.length=c*r):FA [aN c r 1 1 T F (aa.map pD)]=O (.ok (.lst ((G11.told (c*r) (G11.dE ((Pg.left c (c*r) aa).map Pg.pairOf) id)).map Gp.dI))):=by rw[aDN,K11.aBF (ip _ rfl) hc z I (by rw[UJ];exact gB c r T F sp aa S hc I z R) (λl p q=>by rw[aBr];exact aAw _ l p q)];refine congrArg (λx=>O (Rs.ok (D.lst x))) ?_;rw[xi];exact map_congr_left λg _=>K11.NP
def aDv(c r:Nat)(aa:List (Nat×Nat))(z:c*r<=64):(Pg.left c (c*r) aa).length<=1000:=vm (length_filter_le _ _) (vm (gC (c*r)) (by lia))
def aDu(c r:Nat)(T:Table)(F:List D)(sp:List Spot)(aa:List (Nat×Nat))(S:av T 1 1 sp)(hc:1<=c)(R:c*r<=64)(I:c<=64)(z:sp.length=c*r){k:Nat}(hk:k<4):∀j∈(Pg.left c (c*r) aa),Pg.eE sp (decide (1<k)) ((k % 2:Nat):Int) j=(K13.sdO sp j == k):=λj m=>K13.DZ S (by rw[z];exact(K11.iX hc (mem_filter.mp m).1).1) hk
def aDw(c r:Nat)(T:Table)(F:List D)(sp:List Spot)(aa:List (Nat×Nat))(S:av T 1 1 sp)(hc:1<=c)(I:c*r<=64)(R:c<=64)(W:sp.length=c*r){k:Nat}(hk:k<4):EY [aN c r 1 1 T F (aa.map pD),.str (lE k).str]=O (.ok (.tup [.lst ((K13.pick (c*r) (G11.dE ((Pg.left c (c*r) aa).map Pg.pairOf) id) λg=>g.any (K13.tk sp (Pg.left c (c*r) aa) k)).map K13.dN),.lst ((K13.pick (c*r) (G11.dE ((Pg.left c (c*r) aa).map Pg.pairOf) id) λg=>!g.any (K13.tk sp (Pg.left c (c*r) aa) k)).map K13.dN)])):=by obtain⟨kvs,e,h⟩:=K13.aAG (G:=t9) (p:=aN c r 1 1 T F (aa.map pD)) rfl (K13.aEe hk) (aDv c r aa I) (by rw[UI];exact gB c r T F sp aa S hc I R W);have gd:=G11.jG (n:=c*r) (bP:=(Pg.left c (c*r) aa).map Pg.pairOf) λa b z=>K11.CZ hc z;rw[<-show K13.thr sp (decide (1<k)) ((k % 2:Nat):Int) (Pg.left c (c*r) aa)=K13.tk sp (Pg.left c (c*r) aa) k from funext λa=>K13.aAF (aDu c r T F sp aa S hc I R W hk)];exact(cQ rfl).trans (K13.XE ⟨gd.le,λk h=>gd.idem h⟩ I (by rw[KG];exact YW c r T F _ (lE k)) (by rw[aBq];exact(cQ rfl).trans e) h (by rw[UH];exact aDy c r T F sp aa S hc I R W))
def aDx(c r:Nat)(T:Table)(F:List D)(sp:List Spot)(aa:List (Nat×Nat))(S:av T 1 1 sp)(hc:1<=c)(R:c*r<=64)(z:c<=64)(I:sp.length=c*r){k:Nat}(hk:k<4):EZ [aN c r 1 1 T F (aa.map pD),.str (lE k).str]=O (.ok (.lst ((K13.rX sp (Pg.left c (c*r) aa) k).map pD))):=by unfold K13.rX;rw[xi,<-show ((Pg.left c (c*r) aa).filter λj=>!Pg.eE sp (decide (1<k)) ((k % 2:Nat):Int) j)=(Pg.left c (c*r) aa).filter λj=>!(K13.sdO sp j == k) from filter_congr λj m=>by rw[aDu c r T F sp aa S hc R z I hk j m]];exact(cQ rfl).trans (K13.RA rfl (K13.aEe hk) (by rw[KD];exact YW c r T F _ (lE k)) (by rw[UG];exact gB c r T F sp aa S hc R z I))
def xD{p:D}{k y:Str}(h:CJ [p,.str x]=O (.er k))(hx:cu.contains k=Y)(hs:SB k "LeafError"=Y)(hw:mj yq k=O y):PY [p,.str x]=O (.ok (.lst [.str y,.str y])):=(cQ rfl).trans (K13.aBd (k:=k) (by rw[TV];exact(cQ rfl).trans (K13.XF (by rw[KG];exact h) hx)) (by rw[TX];exact(cQ rfl).trans (K13.RB (by rw[KD];exact h) hx)) hx rfl hs hw)
def aAu(c r:Nat)(hc:1<=c)(hr:1<=r)(I:c*r<=64)(z:c<=64):PJ [.int c,.int r]=O (.ok (.lst ((b0 c (c*r) (c*r)).map fm))):=(cQ rfl).trans (K13.WE hc hr I z)
def law_true(ns:List Int)(_:ns.length<=63):zA [.frz (ns.map .int)]=O (.ok (.bl Y)):=by
 refine(YZ rfl).trans (K13.aCv (G:=ej) (ns:=ns) (λk=>by rw[TQ];exact sJ ns k) (λcell=>?_) (λc r a b d=>by rw[TC];exact YX a b d) (λc r x hc hr h=>by rw[DL];exact xD (AF c r c r _ _ _ _ hc hr h) rfl rfl wA) (λc r hc hr I=>by rw[TJ];exact aAt ns c r hc hr I) (λc r T F S sp Si hs=>by rw[TL];exact aAv c r T F S sp Si hs) (λc r T F S x hn=>by rw[DL];exact xD (xC c r T F S x hn) rfl rfl wP) (λc r T sp b hc hr I R S hs=>by rw[TK];exact(cQ rfl).trans (K13.pF hc I S hs (by rw[UA];exact aAu c r hc hr I R) b)) (λc r T F sp b hc I R S hs=>?_) (λL n hn hL hb=>?_) (λc r T F sp aa k hc I R S ax hk=>⟨by rw[TF];exact aDw c r T F sp aa S hc I R ax hk,by rw[TH];exact aDx c r T F sp aa S hc I R ax hk⟩) (λA h=>by rw[TR];exact(cQ rfl).trans (K13.aBZ (λi=>by rw[TZ];exact uR i) h)) (λA h=>by rw[aBo];exact(cQ rfl).trans (K13.aFX (λi=>by rw[TY];exact uR i) h)));rw[aBn,aGv rfl];exact GH;obtain⟨aa,e,h⟩:=K13.aFA (G:=tu) (F:=F) hc I S hs (λaa l n h0 h1 W=>by rw[UB];exact FX c r T F sp aa S hc I R hs l n h0 (by cases l<;>exact h1) W) b;exact⟨aa,by rw[TN];exact(cQ rfl).trans e,h⟩;have hb:∀a b,(a,b)∈L.map Pg.pairOf->a<n/\b<n:=λa b z=>by obtain⟨j,m,e⟩:=wc.mp z;cases e;exact hb j m
 have gd:=G11.jG hb;exact⟨⟨gd.le,λk h=>gd.idem h⟩,by rw[TM];exact IZ n _ hn hb⟩
def bn1{q:Str}(F:Fun K x q st f fd)(l:ps.length=1)(h:∀(kV doc pm:Value) (an:Option Addr) (aT ct a:Value),bindArgs (PySem.W.fnOf x q (eB st) (bA st) (aE st) .none kV doc pm an aT ct) ⟨[a],[]⟩=pure (ps.zip [a])):Binds K fd ps []:=F.binds λ_ _ _ _ _ _ us hl=>by
 match us,hl.trans l with
 |[a],_=>exact h _ _ _ _ _ _ a
def bn2{q:Str}(F:Fun K x q st f fd)(l:ps.length=2)(h:∀(kV doc pm:Value) (an:Option Addr) (aT ct a b:Value),bindArgs (PySem.W.fnOf x q (eB st) (bA st) (aE st) .none kV doc pm an aT ct) ⟨[a,b],[]⟩=pure (ps.zip [a,b])):Binds K fd ps []:=F.binds λ_ _ _ _ _ _ us hl=>by
 match us,hl.trans l with
 |[a,b],_=>exact h _ _ _ _ _ _ a b
def bn3{q:Str}(F:Fun K x q st f fd)(l:ps.length=3)(h:∀(kV doc pm:Value) (an:Option Addr) (aT ct a b c:Value),bindArgs (PySem.W.fnOf x q (eB st) (bA st) (aE st) .none kV doc pm an aT ct) ⟨[a,b,c],[]⟩=pure (ps.zip [a,b,c])):Binds K fd ps []:=F.binds λ_ _ _ _ _ _ us hl=>by
 match us,hl.trans l with
 |[a,b,c],_=>exact h _ _ _ _ _ _ a b c
def bn4{q:Str}(F:Fun K x q st f fd)(l:ps.length=4)(h:∀(kV doc pm:Value) (an:Option Addr) (aT ct a b c d:Value),bindArgs (PySem.W.fnOf x q (eB st) (bA st) (aE st) .none kV doc pm an aT ct) ⟨[a,b,c,d],[]⟩=pure (ps.zip [a,b,c,d])):Binds K fd ps []:=F.binds λ_ _ _ _ _ _ us hl=>by
 match us,hl.trans l with
 |[a,b,c,d],_=>exact h _ _ _ _ _ _ a b c d
def bn6{q:Str}(F:Fun K x q st f fd)(l:ps.length=6)(h:∀(kV doc pm:Value) (an:Option Addr) (aT ct a b c d e f:Value),bindArgs (PySem.W.fnOf x q (eB st) (bA st) (aE st) .none kV doc pm an aT ct) ⟨[a,b,c,d,e,f],[]⟩=pure (ps.zip [a,b,c,d,e,f])):Binds K fd ps []:=F.binds λ_ _ _ _ _ _ us hl=>by
 match us,hl.trans l with
 |[a,b,c,d,e,f],_=>exact h _ _ _ _ _ _ a b c d e f
def mF{n q:Str}{a:Addr}(e:fd=dF n q st m t c)(h:K.lookup a=O (oF fd))(h2:codeIn K (.ref c) q=Y)(h3:keepIn K (.ref a)=Y):Fun K n q st a fd:=⟨⟨_,_,_,_,_,_,_,_,_,e,h,h2⟩,h3⟩
def j5(X:K.In h)(G:h.Ns mainGlobals mg)(e:fd=dF x x st m t c)(h1:K.lookup f=O (oF fd):=by kernel_rfl)(h2:codeIn K (.ref c) x=Y:=by kernel_rfl)(h3:keepIn K (.ref f)=Y:=by kernel_rfl)(h4:nsIn K mainGlobals x=O (O (.ref f)):=by kernel_rfl)(l:ps.length=1:=by rfl)(hb:∀(kV doc pm:Value) (an:Option Addr) (aT ct a:Value),bindArgs (PySem.W.fnOf x x (eB st) (bA st) (aE st) .none kV doc pm an aT ct) ⟨[a],[]⟩=pure (ps.zip [a]):=by intros;rfl):Df K mg x st ps f fd:=⟨mF e h1 h2 h3,mg_of X G h4,bn1 (mF e h1 h2 h3) l hb⟩
def d7(X:K.In h)(G:h.Ns mainGlobals mg)(e:fd=dF x x st m t c)(h1:K.lookup f=O (oF fd):=by kernel_rfl)(h2:codeIn K (.ref c) x=Y:=by kernel_rfl)(h3:keepIn K (.ref f)=Y:=by kernel_rfl)(h4:nsIn K mainGlobals x=O (O (.ref f)):=by kernel_rfl)(l:ps.length=2:=by rfl)(hb:∀(kV doc pm:Value) (an:Option Addr) (aT ct a b:Value),bindArgs (PySem.W.fnOf x x (eB st) (bA st) (aE st) .none kV doc pm an aT ct) ⟨[a,b],[]⟩=pure (ps.zip [a,b]):=by intros;rfl):Df K mg x st ps f fd:=⟨mF e h1 h2 h3,mg_of X G h4,bn2 (mF e h1 h2 h3) l hb⟩
def qb(X:K.In h)(G:h.Ns mainGlobals mg)(e:fd=dF x x st m t c)(h1:K.lookup f=O (oF fd):=by kernel_rfl)(h2:codeIn K (.ref c) x=Y:=by kernel_rfl)(h3:keepIn K (.ref f)=Y:=by kernel_rfl)(h4:nsIn K mainGlobals x=O (O (.ref f)):=by kernel_rfl)(l:ps.length=3:=by rfl)(hb:∀(kV doc pm:Value) (an:Option Addr) (aT ct a b c:Value),bindArgs (PySem.W.fnOf x x (eB st) (bA st) (aE st) .none kV doc pm an aT ct) ⟨[a,b,c],[]⟩=pure (ps.zip [a,b,c]):=by intros;rfl):Df K mg x st ps f fd:=⟨mF e h1 h2 h3,mg_of X G h4,bn3 (mF e h1 h2 h3) l hb⟩
def dn4(X:K.In h)(G:h.Ns mainGlobals mg)(e:fd=dF x x st m t c)(h1:K.lookup f=O (oF fd):=by kernel_rfl)(h2:codeIn K (.ref c) x=Y:=by kernel_rfl)(h3:keepIn K (.ref f)=Y:=by kernel_rfl)(h4:nsIn K mainGlobals x=O (O (.ref f)):=by kernel_rfl)(l:ps.length=4:=by rfl)(hb:∀(kV doc pm:Value) (an:Option Addr) (aT ct a b c d:Value),bindArgs (PySem.W.fnOf x x (eB st) (bA st) (aE st) .none kV doc pm an aT ct) ⟨[a,b,c,d],[]⟩=pure (ps.zip [a,b,c,d]):=by intros;rfl):Df K mg x st ps f fd:=⟨mF e h1 h2 h3,mg_of X G h4,bn4 (mF e h1 h2 h3) l hb⟩
section
variable (P:Params)
def aAr:Fun (KK P) "__init__" "Pile.__init__" (L2.inClass (top 16) 0) 147 CI:=mF rfl z8 z8 z8
def aGi:Binds (KK P) CI (["self",zu,"rows","table","folds",zw]:List Str) []:=bn6 (aAr P) rfl λ_ _ _ _ _ _ _ _ _ _ _ _=>rfl
def RO:Fun (KK P) "heap" "Pile.heap" (L2.inClass (top 16) 1) 154 wH:=mF rfl z8 z8 z8
def aGh:Binds (KK P) wH RN []:=bn3 (RO P) rfl λ_ _ _ _ _ _ _ _ _=>rfl
def aGo:Mt (KK P) 164 "heap" "Pile.heap" (L2.inClass (top 16) 1) RN 154 wH:=⟨RO P,⟨z8,z8,(RO P).kp⟩,aGh P⟩
def aCK:Mk (KK P) 164 147:=⟨z8,z8,z8,z8⟩
def QY:Cls (KK P) 164:=⟨z8,z8,z8,z8⟩
def ME:∀f,(yY "Pile").contains f=Y->eV (KK P) 164 f:=by
 intro f hf;have z:f∈yY "Pile":=by simpa using hf
 rw[show yY "Pile"=([zu,"rows","wide","high","table","folds",zw]:List Str) from by decide +kernel]at z;simp only[vo,xh,or_false]at z;rcases z with rfl|rfl|rfl|rfl|rfl|rfl|rfl<;>exact(by kernel_rfl:findIn (KK P) (.ref 164) _=O U)
variable {P}{h:Heap}{mg:yb}(X:(KK P).In h)(G:h.Ns mainGlobals mg)
include X G
def aGp:Df (KK P) mg z0 (top 36) FT 281 NZ:=j5 X G rfl
def aHe:Df (KK P) mg yq (top 57) (["e"]:List Str) 402 aAa:=j5 X G rfl
def aAs:Df (KK P) mg "law" (top 59) AC 414 CH:=j5 X G rfl
def aCM:∀x,gH.contains x=Y->mg x=U:=by
 intro x hx;have z:x∈gH:=by simpa using hx
 simp only[gH,vo,xh,or_false]at z;rcases z with rfl|rfl|rfl|rfl|rfl|rfl|rfl|rfl|rfl|rfl|rfl|rfl|rfl|rfl|rfl<;>exact PySem.W.mg_none_of X G z8
def aFK:∀x d,csts.lookup x=O d->AD (KK P) T mg x d:=by
 intro x d hx;have z:(x,d)∈csts:=we hx;simp only[csts,vo,xh,or_false,Prod.mk.injEq]at z;rcases z with ⟨rfl,rfl⟩|⟨rfl,rfl⟩|⟨rfl,rfl⟩|⟨rfl,rfl⟩;exact YI (mg_of X G (by kernel_rfl:nsIn (KK P) mainGlobals zd = O (O (.int 64 344))));have u:(KK P).lookup 131=O ⟨(.type "tuple"),U,(.seq #[(.str "west" 346),(.str "east" 347)] 0),#[]⟩:=z8
 exact wV (xs:=[.str "west",.str "east"]) (mg_of X G (by kernel_rfl:nsIn (KK P) mainGlobals yi = O (O (.ref 131)))) (λH=>.inr ⟨_,_,_,u,rfl,rfl,by show 2<=sizeLine;rw[sizeLine_eq];decide,.cons ⟨_,rfl⟩ (.cons ⟨_,rfl⟩ .nil)⟩) ⟨_,u⟩ λH S=>aC.cons (by exact rfl) (aC.cons (by exact rfl) aC.nil);have u:(KK P).lookup 132=O ⟨(.type "tuple"),U,(.seq #[(.str "north" 349),(.str "south" 350)] 0),#[]⟩:=z8
 exact wV (xs:=[.str "north",.str "south"]) (mg_of X G (by kernel_rfl:nsIn (KK P) mainGlobals zc = O (O (.ref 132)))) (λH=>.inr ⟨_,_,_,u,rfl,rfl,by show 2<=sizeLine;rw[sizeLine_eq];decide,.cons ⟨_,rfl⟩ (.cons ⟨_,rfl⟩ .nil)⟩) ⟨_,u⟩ λH S=>aC.cons (by exact rfl) (aC.cons (by exact rfl) aC.nil);have u:(KK P).lookup 133=O ⟨(.type "tuple"),U,(.seq #[(.str "west" 352),(.str "north" 353)] 0),#[]⟩:=z8
 exact wV (xs:=[.str "west",.str "north"]) (mg_of X G (by kernel_rfl:nsIn (KK P) mainGlobals ze = O (O (.ref 133)))) (λH=>.inr ⟨_,_,_,u,rfl,rfl,by show 2<=sizeLine;rw[sizeLine_eq];decide,.cons ⟨_,rfl⟩ (.cons ⟨_,rfl⟩ .nil)⟩) ⟨_,u⟩ λH S=>aC.cons (by exact rfl) (aC.cons (by exact rfl) aC.nil)
end
def aGT(X:(KK w.params).In h)(G:h.Ns mainGlobals mg){Pr:y8}:∀x kvs,j6.lookup x=O kvs->∃a,mg x=O (.ref a)/\∀z:Cx,z.prog=Pr->z.w=w->z.K=KK w.params->RP z T a kvs:=by
 intro x kvs hx;have iy:(x,kvs)∈j6:=we hx;simp only[j6,vo,xh,or_false,Prod.mk.injEq]at iy;obtain⟨rfl,rfl⟩:=iy;refine⟨287,mg_of X G (by kernel_rfl:nsIn (KK w.params) mainGlobals zb = O (O (.ref 287))),λz _ e2 e3=>?_⟩;refine uA (ts:=[("west",577,.ref 288),("east",579,.ref 289),("north",581,.ref 290),("south",583,.ref 291)]) (o:=⟨(.type "dict"),U,(.dict #[en z.w.params "west" 577 (.ref 288),en z.w.params "east" 579 (.ref 289),en z.w.params "north" 581 (.ref 290),en z.w.params "south" 583 (.ref 291)] 4),#[]⟩) z9 (by rw[e3,<-e2];kernel_rfl) ⟨rfl,rfl,rfl⟩ rfl z9 z9 ?_;rw[e3];have u288:CV (KK w.params) T (.tup [.bl J,.int 0]) (.ref 288):=by
  have u:(KK w.params).lookup 288=O ⟨(.type "tuple"),U,(.seq #[(.bool J),(.int 0 578)] 0),#[]⟩:=z8
  exact wU (xs:=[.bl J,.int 0]) (λH=>.inr ⟨_,_,_,u,rfl,rfl,by show 2<=sizeLine;rw[sizeLine_eq];decide,.cons rfl (.cons ⟨_,rfl⟩ .nil)⟩) ⟨_,u⟩ λH S=>aC.cons (by exact rfl) (aC.cons (by exact rfl) aC.nil)
 have W:CV (KK w.params) T (.tup [.bl J,.int 1]) (.ref 289):=by
  have u:(KK w.params).lookup 289=O ⟨(.type "tuple"),U,(.seq #[(.bool J),(.int 1 580)] 0),#[]⟩:=z8
  exact wU (xs:=[.bl J,.int 1]) (λH=>.inr ⟨_,_,_,u,rfl,rfl,by show 2<=sizeLine;rw[sizeLine_eq];decide,.cons rfl (.cons ⟨_,rfl⟩ .nil)⟩) ⟨_,u⟩ λH S=>aC.cons (by exact rfl) (aC.cons (by exact rfl) aC.nil)
 have R:CV (KK w.params) T (.tup [.bl Y,.int 0]) (.ref 290):=by
  have u:(KK w.params).lookup 290=O ⟨(.type "tuple"),U,(.seq #[(.bool Y),(.int 0 582)] 0),#[]⟩:=z8
  exact wU (xs:=[.bl Y,.int 0]) (λH=>.inr ⟨_,_,_,u,rfl,rfl,by show 2<=sizeLine;rw[sizeLine_eq];decide,.cons rfl (.cons ⟨_,rfl⟩ .nil)⟩) ⟨_,u⟩ λH S=>aC.cons (by exact rfl) (aC.cons (by exact rfl) aC.nil)
 have I:CV (KK w.params) T (.tup [.bl Y,.int 1]) (.ref 291):=by
  have u:(KK w.params).lookup 291=O ⟨(.type "tuple"),U,(.seq #[(.bool Y),(.int 1 584)] 0),#[]⟩:=z8
  exact wU (xs:=[.bl Y,.int 1]) (λH=>.inr ⟨_,_,_,u,rfl,rfl,by show 2<=sizeLine;rw[sizeLine_eq];decide,.cons rfl (.cons ⟨_,rfl⟩ .nil)⟩) ⟨_,u⟩ λH S=>aC.cons (by exact rfl) (aC.cons (by exact rfl) aC.nil)
 intro i p q h1 h2;match i with
 | 0=>cases h1;cases h2;exact u288
 | 1=>cases h1;cases h2;exact W
 | 2=>cases h1;cases h2;exact R
 | 3=>cases h1;cases h2;exact I
 |i+4=>cases h1
def xK(K:xx):Sp:=λvs H Q _=>∃(a:Addr) (ns:List Int),vs=[.ref a]/\SqL K H a (ns.map σ.int)/\ns.length<=63/\∀H',Q (.bl Y) H'
theorem sT{K:xx}{T:Tx}{H:Hp}{S:Addr->Prop}:∀ns:List Int,aC K T H S (ns.map D.int) (ns.map σ.int)
 |[]=>aC.nil
 |n::ns=>aC.cons (by exact rfl) (sT ns)
def aCw{P:y8}{base:Heap}{k:Nat}{fr:Bool}(F:FnOk P w K mg base (dS P w) k f fd AC (i6 K T 1 zA fr))(hk:k<=60):FnOk P w K mg base oz 60 f fd ["script"] (xK K):=by
 have I:∀vs H Q E,xK K vs H Q E->i6 K T 1 zA fr vs H Q E0:=by rintro vs H Q E ⟨a,ns,rfl,R,hl,q⟩;refine⟨rfl,λ_=>False,[.frz (ns.map D.int)],λ_ z=>z.elim,aC.cons (show Exists _ from⟨a,ns.map σ.int,rfl,λz=>z,R,sT ns⟩) aC.nil,.inl ⟨.bl Y,law_true ns hl,λv H' sm r _=>?_⟩⟩;obtain rfl:=r;exact q H'
 refine⟨λvs H Q E hs=>F.len _ _ _ _ (I vs H Q E hs),λA outer s H args us vs Q E hr W hb hv hs=>?_⟩;refine codeAny_mono (F.run A outer s H args us vs Q E0 (hr.mono hk) W hb hv (I vs H Q E hs)) λr s' hq=>?_;cases r with
 |error e=>exact(ZX _ _ _ _ _ hq).elim
 |ok fl=>cases fl<;>exact hq
noncomputable def cs(y:Str):Addr:=if y="LeafError" then 31 else if y="NoSheet" then 44 else if y="NoFold" then 56 else if y="NoPlace" then 68 else if y="Ajar" then 80 else if y="Severed" then 92 else if y="Bolted" then 104 else if y="Loose" then 116 else if y="NoWord" then 128 else 0
section
variable {P:Params}
def gg:∀k,cu.contains k=Y->k="LeafError"\/k="Ajar"\/k="NoPlace":=by
 intro k hk;have z:k∈cu:=by simpa using hk
 simpa only [cu,vo,xh,or_false] using z
def q9:∀k,cu.contains k=Y->excIn (KK P) (cs k) j8 "ValueError.__new__"=Y:=by intro k hk;rcases gg k hk with rfl|rfl|rfl<;>kernel_rfl
def vX:∀k k',cu.contains k=Y->cu.contains k'=Y->SB k k'=Y->lQ (KK P) (cs k) (.ref (cs k'))=Y:=by intro k k' hk z hs;rcases gg k hk with rfl|rfl|rfl<;>rcases gg k' z with rfl|rfl|rfl<;>first|exact nomatch (show J=Y from hs)|kernel_rfl
def aCL:∀k,cu.contains k=Y->∀j,bI.idxOf? k=O j->(k="Ajar"/\j=3)\/(k="NoPlace"/\j=2):=by intro k hk j z;rcases gg k hk with rfl|rfl|rfl;rw[show bI.idxOf? ("LeafError":Str)=U from by decide +kernel]at z;cases z;exact .inl ⟨rfl,vb (z.symm.trans z9)⟩;exact .inr (⟨rfl,vb (z.symm.trans z9)⟩)
def hX:∀k,cu.contains k=Y->∀(j:Nat),bI.idxOf? k=O j->XcK (KK P) (cs k):=by intro k hk j z;rcases aCL k hk j z with ⟨rfl,rfl⟩|⟨rfl,rfl⟩<;>exact⟨z8,z8,z8,z8,z8,z8,z8⟩
def hv:∀k,cu.contains k=Y->∀(j:Nat),bI.idxOf? k=O j->kitOne (KK P) (.ref (cs k)) (.type "ValueError")=O Y:=by intro k hk j z;rcases aCL k hk j z with ⟨rfl,rfl⟩|⟨rfl,rfl⟩<;>kernel_rfl
def kt8{k y:Str}{i j:Nat}(h:(bI.map λy=>kitOne (KK P) (.ref (cs k)) (.ref (cs y)))=(List.range 8).map λi=>O (decide (i=j)))(hy:bI[i]?=O y):kitOne (KK P) (.ref (cs k)) (.ref (cs y))=O (decide (i=j)):=by have hi:i<8:=(u0.mp hy).1;have e:=congrArg (λl=>l[i]?) h;rw[uv,hy,uv,xa hi]at e;exact vb e
def hkt:∀k,cu.contains k=Y->∀(j:Nat),bI.idxOf? k=O j->∀(i:Nat) (y:Str),bI[i]?=O y->kitOne (KK P) (.ref (cs k)) (.ref (cs y))=O (decide (i=j)):=by intro k hk j z i y hy;rcases aCL k hk j z with ⟨rfl,rfl⟩|⟨rfl,rfl⟩<;>exact kt8 z8 hy
variable {h:Heap}{mg:yb}(X:(KK P).In h)(G:h.Ns mainGlobals mg)
include X G
def mx:∀y,(["LeafError","NoSheet","NoFold","NoPlace","Ajar","Severed","Bolted","Loose","NoWord"]:List Str).contains y=Y->mg y=O (.ref (cs y)):=by
 intro y hy;have z:y∈(["LeafError","NoSheet","NoFold","NoPlace","Ajar","Severed","Bolted","Loose","NoWord"]:List Str):=by simpa using hy
 simp only[vo,xh,or_false]at z;rcases z with rfl|rfl|rfl|rfl|rfl|rfl|rfl|rfl|rfl<;>exact mg_of X G z8
def hxg:∀k,cu.contains k=Y->mg k=O (.ref (cs k)):=λk hk=>mx X G k (by rcases gg k hk with rfl|rfl|rfl<;>decide +kernel)
def hmx:∀y∈bI,mg y=O (.ref (cs y)):=λy hy=>mx X G y (by
 have:bI.all (λy=>(["LeafError","NoSheet","NoFold","NoPlace","Ajar","Severed","Bolted","Loose","NoWord"]:List Str).contains y)=Y:=z9
 exact all_eq_true.mp this y hy)
end
set_option maxHeartbeats 0 in
def all_mk{l:PySem.W.OpenLaw}{fa:Addr}(X:(KK w.params).In h)(G:h.Ns mainGlobals mg)(hfa:mg "law"=O (.ref fa)):∃fd:y7,(∀(s:Shared) (v:Value),BindsTo s fd ⟨[v],[]⟩ [("script",v)])/\∀base:Heap,(KK w.params).In base->base.Ns mainGlobals mg->FnOk l.prog w (KK w.params) mg base oz 60 fa fd ["script"] (xK (KK w.params)):=by have e:=hfa.symm.trans (aAs X G).at_;cases e;refine⟨CH,λs v=>.of_eq rfl,λbase _ _=>?_⟩;have m:=mk1 (mk0 (P:=l.prog) (w:=w) (base:=base) (cs:=cs) (aFK X G) (QY _) (ME _) (aCM X G) (hxg X G) q9 vX (aGt (aHe X G) (aCM X G _ z9) (aCM X G _ z9) (hmx X G) hX hkt hv) (aGT X G)) (mg_of X G z8) (aCK _) (aGi _) (aAr _) (QY _) (ME _);replace m:MO _ _ _ _ _ _ _ m2 g2 4:=mkM aFU aEg aEV aEt m (aGo _);replace m:MO _ _ _ _ _ _ _ m3 g3 5:=bw [zu,"y"] [] Pg.lT m (d7 (f:=178) (fd:=OD) (ps:=[zu,"y"]) X G rfl);replace m:MO _ _ _ _ _ _ _ m4 g4 6:=bw [zu,"rows","table"] [] Pg.vV m (d7 (f:=173) (fd:=NW) (ps:=[zu,"rows"]) X G rfl);replace m:MO _ _ _ _ _ _ _ m5 g5 7:=bw ["part","k"] [] Pg.nQ m (d7 (f:=243) (fd:=OC) (ps:=["part","k"]) X G rfl);replace m:MO _ _ _ _ _ _ _ m6 g6 8:=bw ["moving","staying","over","upper","lower","longer"] [] Pg.fU m (qb (f:=236) (fd:=aAd) (ps:=["moving","staying","over"]) X G rfl);replace m:MO _ _ _ _ _ _ _ m7 g7 9:=bw ["heap","side"] [] Pg.iC m (d7 (f:=231) (fd:=OQ) (ps:=["heap","side"]) X G rfl);replace m:MO _ _ _ _ _ _ _ m8 g8 10:=bw ["part","side"] [] Pg.iB m (d7 (f:=226) (fd:=OP) (ps:=["part","side"]) X G rfl);replace m:MO _ _ _ _ _ _ _ m9 g9 11:=bw ["strip","side","over","crease","before","behind","outward"] [] Pg.gT m (dn4 (f:=221) (fd:=ZZ) (ps:=["strip","side","over","crease"]) X G rfl);replace m:MO _ _ _ _ _ _ _ m10 g10 12:=bw ["table","x"] [] Pg.jZ m (d7 (f:=214) (fd:=OF) (ps:=["table","x"]) X G rfl);replace m:MO _ _ _ _ _ _ _ m11 uc 13:=bw ["table"] [] Pg.jA m (j5 (f:=209) (fd:=OM) (ps:=["table"]) X G rfl);replace m:MO _ _ _ _ _ _ _ m12 g12 14:=bw ["table","side","over","crease","strips"] [] Pg.gS m (dn4 (f:=204) (fd:=OT) (ps:=["table","side","over","crease"]) X G rfl);replace m:MO _ _ _ _ _ _ _ m13 g13 15:=bw ["pile","side","crease"] [] Pg.jC m (qb (f:=199) (fd:=OK) (ps:=["pile","side","crease"]) X G rfl);replace m:MO _ _ _ _ _ _ _ m14 p9 16:=bw ["pile"] [] Pg.fA m (j5 (f:=192) (fd:=aAg) (ps:=["pile"]) X G rfl);replace m:MO _ _ _ _ _ _ _ m15 ub 17:=bw ["pile","side","over","crease","table","folds"] [] Pg.qQ m (dn4 (f:=185) (fd:=OB) (ps:=["pile","side","over","crease"]) X G rfl);replace m:MO _ _ _ _ _ _ _ m16 g16 18:=bw ["pile","lines","y","x","cell","east","north"] ["lines"] Pg.jE m (j5 (f:=269) (fd:=ON) (ps:=["pile"]) X G rfl);replace m:MO _ _ _ _ _ _ _ m17 ua 19:=bw [zu,"rows","cells","found","cell"] ["found"] Pg.jB m (d7 (f:=262) (fd:=OI) (ps:=[zu,"rows"]) X G rfl);replace m:MO _ _ _ _ _ _ _ m18 g18 20:=bw ["pile","lines","found","first","second","level"] ["found"] Pg.jF m (j5 (f:=255) (fd:=OL) (ps:=["pile"]) X G rfl);replace m:MO _ _ _ _ _ _ _ m19 g19 21:=bw ["pile"] [] Pg.qN m (j5 (f:=248) (fd:=OA) (ps:=["pile"]) X G rfl);replace m:MO _ _ _ _ _ _ _ m20 g20 22:=bw ["pile","level","number","last","parted"] [] Pg.NK m (qb (f:=274) (fd:=NV) (ps:=["pile","level","number"]) X G rfl);replace m:MO _ _ _ _ _ _ _ k9 l6 23:=bw ["least","one","other","lesser","greater"] [] Gp.BY m (qb (f:=286) (fd:=aAb) (ps:=["least","one","other"]) X G rfl);obtain⟨m',Fp⟩:=mkP m (aGp X G);replace m:MO _ _ _ _ _ _ _ m22 g22 24:=m';replace m:MO _ _ _ _ _ _ _ m23 t9 25:=bw ["pile","spine"] [] Pg.yV m (d7 (f:=298) (fd:=aAf) (ps:=["pile","spine"]) X G rfl);replace m:MO _ _ _ _ _ _ _ m24 p8 26:=bw ["pile","spine","threaded","first","second","level","number"] ["threaded"] K13.NH m (d7 (f:=310) (fd:=aAe) (ps:=["pile","spine"]) X G rfl);replace m:MO _ _ _ _ _ _ _ m25 t8 27:=mkT ["pile","spine","threaded","kept","fallen","piece"] ["kept","fallen"] K13.qO m (d7 (f:=303) (fd:=NX) (ps:=["pile","spine"]) X G rfl);replace m:MO _ _ _ _ _ _ _ m26 g26 28:=mkT ["pile","spine"] [] K13.pK m (d7 (f:=315) (fd:=NY) (ps:=["pile","spine"]) X G rfl);replace m:MO _ _ _ _ _ _ _ m27 g27 29:=bw ["script","k"] [] Pg.nR m (d7 (f:=322) (fd:=OV) (ps:=["script","k"]) X G rfl);replace m:MO _ _ _ _ _ _ _ m28 g28 30:=bw ["found"] [] Pg.vU m (j5 (f:=329) (fd:=OJ) (ps:=["found"]) X G rfl);replace m:MO _ _ _ _ _ _ _ m29 g29 31:=bw ["cell","way","more"] [] Pg.gR m (j5 (f:=336) (fd:=aAc) (ps:=["cell"]) X G rfl);replace m:MO _ _ _ _ _ _ _ m30 l5 32:=bw ["cell","wide","high","level","extent","sides"] [] Pg.kT m (qb (f:=343) (fd:=ZY) (ps:=["cell","wide","high"]) X G rfl);replace m:MO _ _ _ _ _ _ _ m31 tw 33:=bw [zu,"rows","script","pile","k","cell","fold"] [] Pg.BV m (qb (f:=350) (fd:=OE) (ps:=[zu,"rows","script"]) X G rfl);replace m:MO _ _ _ _ _ _ _ m32 g32 34:=bw ["pile","count","found","one"] [] Pg.BX m (d7 (f:=355) (fd:=OO) (ps:=["pile","count"]) X G rfl);replace m:MO _ _ _ _ _ _ _ m33 tu 35:=bw [zu,"rows","out","k"] ["out"] K13.BW m (d7 (f:=362) (fd:=OG) (ps:=[zu,"rows"]) X G rfl);replace m:MO _ _ _ _ _ _ _ m34 g34 36:=bw ["pile","bits","k"] [] K13.aCI m (d7 (f:=369) (fd:=OS) (ps:=["pile","bits"]) X G rfl);replace m:MO _ _ _ _ _ _ _ m35 g35 37:=bw ["found",zu,"rows","bits","where","cell","east","north","out","first","second","level","side"] ["where","out"] K13.BU m (dn4 (f:=376) (fd:=OH) (ps:=["found",zu,"rows","bits"]) X G rfl);replace m:MO _ _ _ _ _ _ _ m36 g36 38:=bw ["count","ties","k","names","moved","first","second","out"] ["names","out"] Gp.qP m (d7 (f:=381) (fd:=OR) (ps:=["count","ties"]) X G rfl);replace m:MO _ _ _ _ _ _ _ m37 g37 39:=bw ["found","due","k"] [] K13.NJ m (d7 (f:=388) (fd:=OW) (ps:=["found","due"]) X G rfl);replace m:MO _ _ _ _ _ _ _ m38 tm 40:=bw ["found","due","k","one"] [] K13.aCJ m (d7 (f:=395) (fd:=aAh) (ps:=["found","due"]) X G rfl);replace m:MO _ _ _ _ _ _ _ qr ej 41:=bw ["pile","spine","out","e"] ["out"] K13.NI m (d7 (f:=409) (fd:=OU) (ps:=["pile","spine"]) X G rfl);exact aCw (aCo m (aAs X G)) Aa
def walk{l:PySem.W.OpenLaw}{q:y8}{loose:List Str}{XP:(yb)->Heap->Prop}{YP:World->Heap->Prop}{d:DefRec}{K:Params->xx}(hn:l.most=O 63)(I:d.params.defaults=[]) (R:∀(w:World) (h:Heap),YP w h->(K w.params).In h) (F:∀(w:World) (mg:yb) (fa:Addr) (h:Heap),(K w.params).In h->h.Ns mainGlobals mg->mg d.name=O (.ref fa) ->∃fd:y7,(∀(s:Shared) (u:Value),BindsTo s fd ⟨[u],[]⟩ [("script",u)])/\∀base:Heap,(K w.params).In base->base.Ns mainGlobals mg->FnOk l.prog w (K w.params) mg base oz 60 fa fd ["script"] (xK (K w.params))):PySem.W.WalkO q loose XP YP l.row.toRowW d [] (λf vs=>PySem.call f vs):=L2.RT (n:=63) (k:=60) (x:="script") (CX:=λ_=>oz) (sp:=λw=>xK (K w.params)) hn Aa I ⟨rfl,Aa,Aa⟩ R F (λ_ _ a ns hl _ hS=>⟨a,ns,rfl,hS,hl,λ_=>rfl⟩) λ_ _ _ _ _ z=>z
end Toy
open PySem PySem.W PyProof.Rows
set_option maxRecDepth 100000 in
set_option maxHeartbeats 0 in
theorem PySem.Challenge.cw_leaffold_k12_held_bolts_holds : PySem.Challenge.rw_leaffold_k12_held_bolts.Holds := by
 w_on;refine holds_law (by kernel_rfl) fun said=>?_
 refine holds_open (q:=Toy.vw) (loose:=(["SPINE_LINES"]:List Str)) (Xt:=Toy.Xt) (XP:=XL Toy.vw []) (Yf:=Hook.obs Toy.HH) (Ya:=Hook.val Toy.HH) (YP:=Hook.says Toy.HH) (N:=7220) Toy.left (Hook.of Toy.HH) (Hook.keeps Toy.HH) (fun s e=>xl_of s (Bool.and_eq_true_iff.mp e).1) XL.keeps (by rfl) (by rfl) (by rfl) (fun s e=>recFacts_of (Bool.and_eq_true_iff.mp e).2) (by rfl) (by first|assumption|decide +kernel) (by decide +kernel) ⟨rfl,rfl,rfl,rfl,rfl,by decide +kernel⟩ ?hw ?hc
 case hw=>w_witness2
 case hc=>exact Toy.walk (l:=Toy.lw) (K:=Toy.KK) rfl rfl (fun w h Y=>PySem.W.kIn_of Y) fun w mg fa h KX G jj=>Toy.all_mk KX G jj
