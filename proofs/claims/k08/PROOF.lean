import PyProof.Rows.All
import PyProof.EnumMake
import PyProof.WalksEnum
import PyProof.LayNew
import KE.KDictList
import KE.KIsAll
import KE.KRevIter
import KE.KSortTup
import KE.LcSums
import PySem.Challenge.RW_leaffold_k08_fault
noncomputable section
set_option linter.all false
set_option maxRecDepth 100000
set_option maxHeartbeats 4000000
set_option Elab.async false
set_option genSizeOf false
set_option bootstrap.genMatcherCode false
set_option compiler.extract_closed false
open Array (append_empty getD_eq_getD_getElem? length_toList)
open Bool (or_eq_true)
open Int (toNat_natCast)
open List (all_cons all_eq_true all_map any_cons drop_zero find?_cons find?_eq_none getElem?_cons_succ getElem?_drop getElem?_replicate length_eq_one_iff length_replicate length_set length_singleton lookup_cons map_drop map_nil map_replicate map_set map_take mem_filter mem_flatMap mem_of_mem_drop mem_of_mem_take nil_append nodup_append nodup_cons pairwise_singleton perm_append_comm range' reverse_cons take_append_drop take_of_length_le take_zero)
open Nat (le_of_lt le_succ_of_le min_le_right mod_lt mul_le_mul not_lt)
open PySem.F (args_tuple_add_2 entry_tuple_add plainAttrs_list slot_tuple_add)
open PySem.Heap (size_push)
open PySem.W (callWith_K callWith_K0 codeIn emptyDict excIn findIn handedIn hasDictIn hideAll instObj isFn keepIn kia_one kitOne kitx_dict kitx_list lookIn makesIn methodObj mg_of mroIn nsIn plainGet plainGet_of plainOver specialIn takerIn takesIn)
open Option renaming some->U,none->O
open Bool renaming true->Y,false->J
theorem zq{p:Prop}(h:p:=by lia):p:=h
theorem zr{p:Prop}(h:p:=by kernel_rfl):p:=h
theorem zt{p:Prop}(h:p:=by decide +kernel):p:=h
theorem zu{p:Prop}(h:p:=by decide):p:=h
theorem zv{p:Prop}(h:p:=by simp):p:=h
abbrev u0:=@List.getElem?_eq_some_iff
abbrev u3:=@List.getD_eq_getElem?_getD
abbrev u4:=@Option.some.injEq
abbrev u6:=@List.mem_of_getElem?
abbrev u7:=@Option.bind_eq_some_iff
abbrev uk:=@List.getElem?_eq_getElem
abbrev um:=@List.getElem?_map
abbrev uo:=@List.length_map
abbrev uq:=@Nat.le_refl
abbrev ur:=@Option.bind_eq_bind
abbrev uu:=@decide_eq_false
abbrev uv:=@PySem.Heap.get?_push_of_some
abbrev uw:=@Bool.false_eq_true
abbrev ux:=@List.mem_cons_of_mem
abbrev uy:=@List.size_toArray
abbrev uz:=@Bool.and_eq_true
abbrev v8:=@Option.some.inj
abbrev v9:=@Option.map_eq_some_iff
abbrev va:=@List.append_assoc
abbrev vb:=@Nat.lt_of_lt_of_le
abbrev vc:=@Bool.false_ne_true
abbrev vd:=@decide_eq_true_eq
abbrev ve:=@List.length_range
abbrev vf:=@List.getElem?_set_self
abbrev vg:=@List.getElem?_set_ne
abbrev vh:=@PySem.Heap.lt_size
abbrev vi:=@Nat.le_trans
abbrev vj:=@List.mem_singleton
abbrev vk:=@List.mem_cons
abbrev vm:=@PyProof.Rows.callWith_type1
abbrev vo:=@Nat.zero_add
abbrev vp:=@List.length_append
abbrev vq:=@Bool.not_true
abbrev vt:=@List.append_nil
abbrev vv:=@List.length_eq_zero_iff
abbrev vx:=@List.map_cons
abbrev vy:=@decide_eq_true
abbrev vz:=@beq_iff_eq
abbrev w4:=@List.mem_map
abbrev w5:=@PySem.mem_of_lookup
abbrev w6:=@beq_eq_false_iff_ne
abbrev w8:=@Nat.ne_of_lt
abbrev w9:=@List.length_take
abbrev wa:=@List.mem_append_right
abbrev wb:=@List.mem_append_left
abbrev we:=@Nat.lt_irrefl
abbrev wg:=@PySem.wpAny_bind
abbrev wj:=@PySem.wpAny_pure
abbrev wk:=@PySem.wpAny_mono
abbrev wm:=@PySem.Heap.get?_push_size
abbrev wo:=@Option.map_some
abbrev wq:=@Option.bind_some
abbrev wt:=@Nat.le_succ
abbrev wu:=@List.mem_cons_self
abbrev wx:=@Nat.lt_succ_self
abbrev wy:=@List.getElem?_range
abbrev wz:=@List.length_cons
abbrev x5:=@List.map_append
abbrev x6:=@List.take_add_one
abbrev x8:=@List.not_mem_nil
abbrev x9:=@List.map_map
abbrev xa:=@List.getElem?_append_left
abbrev xb:=@List.getElem?_append_right
abbrev xf:=@List.mem_range
abbrev xg:=@Nat.zero_le
abbrev xh:=@List.take_length
abbrev xi:=@List.drop_length
abbrev xj:=@List.length_drop
abbrev xo:=@List.pairwise_cons
abbrev xp:=@List.mem_append
abbrev xq:=PySem.W.Frag
abbrev xr:=PySem.FuncData
abbrev xt:=PySem.Program
abbrev xu:=PySem.Value->PySem.Shared->Prop
abbrev xv:=List (PySem.Addr×PySem.Obj)
abbrev xw:=PySem.Str->Option PySem.Value
abbrev xx:PySem.Str:="_law_back_line"
abbrev xy:PySem.Str:="crossed_joints"
abbrev ya:PySem.Str:="_law_sheet_by"
abbrev yb:PySem.Str:="bridges_cross"
abbrev yc:PySem.Str:="_law_through"
abbrev yd:PySem.Str:="_law_cell_at"
abbrev yf:PySem.Str:="_law_fold_by"
abbrev yg:PySem.Str:="_law_folded"
abbrev yh:PySem.Str:="_law_inside"
abbrev yi:PySem.Str:="_law_seated"
abbrev yj:PySem.Str:="_law_layers"
abbrev yk:PySem.Str:="_law_spoilt"
abbrev yo:PySem.Str:="astray_cell"
abbrev yp:PySem.Str:="all_strands"
abbrev yq:PySem.Str:="is_pierced"
abbrev yr:PySem.Str:="_law_bends"
abbrev yt:PySem.Str:="_law_whole"
abbrev yu:PySem.Str:="neighbours"
abbrev yv:PySem.Str:="_law_wider"
abbrev yw:PySem.Str:="_law_heaps"
abbrev yx:PySem.Str:="_law_parts"
abbrev yz:PySem.Str:="_law_alike"
abbrev y7:PySem.Str:="torn_joint"
abbrev y8:PySem.Str:="_law_spot"
abbrev y9:PySem.Str:="_law_line"
abbrev za:PySem.Str:="_law_near"
abbrev zb:PySem.Str:="_law_flat"
abbrev zc:PySem.Str:="_law_meet"
abbrev zd:PySem.Str:="is_within"
abbrev ze:PySem.Str:="near_line"
abbrev zf:PySem.Str:="_law_due"
abbrev zg:PySem.Str:="far_line"
abbrev zh:PySem.Str:="is_bend"
abbrev zi:PySem.Str:="is_torn"
abbrev zj:PySem.Str:="columns"
abbrev zk:PySem.Str:="cross"
namespace L2
open PySem PySem.Spec PyProof.Rows
variable {us:List Value}{x:Str}{u:Value}{a b C:Addr}{P:xt}{w:World}{h base:Heap}{t' i:Nat}{ch:List Addr}{e tg:Expr}{N ps:List Str}{M:Model}{A:Around}{E Q:xu}{s:Shared}{pins:xv}{pos:Pos}{op:CmpOp}{K:xq}{kw:List (Str×Value)}{mg:xw}{fd:xr}{kindOf:Str->Option NameKind}
abbrev Key:=Sum Int Str
noncomputable def sR:Key->Value->Bool
 |.inl k,v=>Value.isInt k v
 |.inr x,v=>Value.isStrOf x v
noncomputable def aFz(w:World):Key->Int
 |.inl k=>hashInt k
 |.inr x=>hashStr w x
theorem cD:∀{k:Key} {v:Value},sR k v=Y->(∃i t,k=Sum.inl i/\v=Value.int i t)\/(∃x t,k=Sum.inr x/\v=Value.str x t)
 |.inl i,v,h=>by obtain⟨t,e⟩:=Value.isInt_shape (k:=i) (v:=v) h;exact .inl ⟨i,t,rfl,e⟩
 |.inr x,v,h=>by obtain⟨t,e⟩:=Value.isStrOf_shape (x:=x) (v:=v) h;exact .inr ⟨x,t,rfl,e⟩
def GB(i:Int)(t:Tok):sR (.inl i) (.int i t)=Y:=by simp[sR,Value.isInt]
def GA(x:Str)(t:Tok):sR (.inr x) (.str x t)=Y:=by simp[sR,Value.isStrOf]
def aBx(a b:Int):decide ((Sum.inl a:Key)=Sum.inl b)=(a == b):=by by_cases e:a=b;subst e;simp;have h:¬(Sum.inl a:Key)=Sum.inl b:=λq=>e (Sum.inl.inj q);rw[uu h];exact(w6.mpr e).symm
def aBu(a b:Str):decide ((Sum.inr a:Key)=Sum.inr b)=decide (a=b):=by by_cases e:a=b;subst e;simp;have h:¬(Sum.inr a:Key)=Sum.inr b:=λq=>e (Sum.inr.inj q);rw[uu h,uu e]
def aBw(a:Int)(b:Str):decide ((Sum.inl a:Key)=Sum.inr b)=J:=uu (λq=>nomatch q)
def aBv(a:Str)(b:Int):decide ((Sum.inr a:Key)=Sum.inl b)=J:=uu (λq=>nomatch q)
def dE(prog:xt)(w:World):PySem.KeyKind prog w Key where
 is:=sR
 hash:=aFz w
 inj:=λv a b ha hb=>by
  rcases cD ha with ⟨i,t,rfl,rfl⟩|⟨x,t,rfl,rfl⟩
  .rcases cD hb with ⟨j,u,rfl,e⟩|⟨y,u,rfl,e⟩
   .injection e with e1 _;rw[e1]
   .exact nomatch e
  .rcases cD hb with ⟨j,u,rfl,e⟩|⟨y,u,rfl,e⟩
   .exact nomatch e
   .injection e with e1 _;rw[e1]
 byValue:=λk v h=>by
  rcases cD h with ⟨i,t,rfl,rfl⟩|⟨x,t,rfl,rfl⟩<;>rfl
 pyHash:=λhv h=>by
  rcases cD hv with ⟨i,t,rfl,rfl⟩|⟨x,t,rfl,rfl⟩
  .exact wpAny_pyHash_int h
  .exact wpAny_pyHash_str h
 eqBool:=λhu hv h=>by
  rcases cD hu with ⟨i,t,rfl,rfl⟩|⟨x,t,rfl,rfl⟩
  .rcases cD hv with ⟨j,u,rfl,rfl⟩|⟨y,u,rfl,rfl⟩
   .rw[aBx]at h;exact wpAny_eqBool_int h
   .rw[aBw]at h;exact SeqAt.EqAt.int_str i t y u _ _ _ _ h
  .rcases cD hv with ⟨j,u,rfl,rfl⟩|⟨y,u,rfl,rfl⟩
   .rw[aBv]at h;exact SeqAt.EqAt.str_int x t j u _ _ _ _ h
   .rw[aBu]at h;exact wpAny_eqBool_str h
 «strs»:=λk x t v h=>by
  rcases cD h with ⟨i,u,rfl,e⟩|⟨y,u,rfl,e⟩
  .exact nomatch e
  .injection e with e1 _
   subst e1;cases v<;>rfl
def xQ(prog:xt)(w:World)(i:Int)(t:Tok):(dE prog w).is (.inl i) (.int i t)=Y:=GB i t
def jH(prog:xt)(w:World)(x:Str)(t:Tok):(dE prog w).is (.inr x) (.str x t)=Y:=GA x t
inductive σ where
 |non|bl (b:Bool)|int (i:Int)|str (x:Str)|byt (b:Array UInt8)|flt (b:UInt64)|ref (a:Addr)|ty (n:String)
 deriving DecidableEq
noncomputable def RelV:σ->Value->Prop
 |.non,u=>u=Value.none
 |.bl b,u=>u=Value.bool b
 |.int i,u=>∃t,u=Value.int i t
 |.str x,u=>∃t,u=Value.str x t
 |.byt b,u=>∃t,u=Value.bytes b t
 |.flt b,u=>∃t,u=Value.float b t
 |.ref a,u=>u=Value.ref a
 |.ty n,u=>u=Value.type n
abbrev aY:List σ->List Value->Prop:=Paired RelV
theorem aY.length{xs:List σ}(r:aY xs us):xs.length=us.length:=Paired.length r
theorem aY.get:∀{xs:List σ} {us:List Value} {i:Nat} {x:σ},aY xs us->xs[i]?=U x->∃u,us[i]?=U u/\RelV x u
 |_,_,_,_,.nil,e=>by simp at e
 |_,_,0,_,.cons r _,e=>by simp at e;subst e;exact⟨_,rfl,r⟩
 |_,_,i+1,x,.cons _ t,e=>by obtain⟨u,h1,h2⟩:=aY.get (i:=i) (x:=x) t (by simpa using e);exact⟨u,by simpa using h1,h2⟩
theorem aY.set{x:σ}(r:RelV x u):∀{xs:List σ} {us:List Value} (i:Nat),aY xs us->aY (xs.set i x) (us.set i u)
 |_,_,_,.nil=>.nil
 |_,_,0,.cons _ t=>.cons r t
 |_,_,i+1,.cons q t=>.cons q (aY.set r i t)
theorem aY.append:∀{xs ys:List σ} {us ws:List Value},aY xs us->aY ys ws->aY (xs++ys) (us++ws)
 |_,_,_,_,.nil,s=>s
 |_,_,_,_,.cons r t,s=>.cons r (aY.append t s)
theorem aY.take:∀{xs:List σ} {us:List Value} (n:Nat),aY xs us->aY (xs.take n) (us.take n)
 |_,_,0,_=>.nil
 |_,_,_+1,.nil=>.nil
 |_,_,n+1,.cons r t=>.cons r (aY.take n t)
theorem aY.drop:∀{xs:List σ} {us:List Value} (n:Nat),aY xs us->aY (xs.drop n) (us.drop n)
 |_,_,0,r=>r
 |_,_,_+1,.nil=>.nil
 |_,_,n+1,.cons _ t=>aY.drop n t
noncomputable def mO:Option σ->Option Value->Prop
 |some v,U u=>RelV v u
 |none,O=>True
 |_,_=>False
def KV{κ:Type}:List (κ×σ)->List (κ×Value)->Prop:=Paired λ(p:κ×σ) (q:κ×Value)=>p.1=q.1/\RelV p.2 q.2
noncomputable def kV:Key->σ
 |.inl i=>.int i
 |.inr x=>.str x
inductive HO where
 |lst (xs:List σ)
 |tup (xs:List σ)
 |dK (kvs:List (Key×σ))|dT (kvs:List (List Key×σ))
 |set (S:Int->Bool) (n:Nat)
 |ins (C dx:Addr) (fs:List (Str×σ))
 |own (x:Addr)
 |xd (fs:List (Str×σ))
 |met (f x:Addr)
 |rng (lo hi:Int)
 |frz (o:Obj) (u:HO)
 |tbl (ps:Array Value)
 |ext (φ:Heap->Prop)
abbrev Hp:=Addr->Option HO
noncomputable def upd(H:Hp)(a:Addr)(o:HO):Hp:=λb=>if b=a then U o else H b
def aW{H:Hp}{o:HO}:upd H a o a=U o:=by unfold upd;rw[if_pos rfl]
def aS{H:Hp}{o:HO}(h:b≠a):upd H a o b=H b:=by unfold upd;rw[if_neg h]
def bF{H:Hp}{o:HO}(h:H a=U o)(h':H b=O):a≠b:=by intro e;subst e;rw[h]at h';cases h'
section
variable (P:xt)(w:World)
def cR(H:Hp)(h:Heap)(a:Addr):HO->Prop
 |.lst xs=>xs.length<=sizeLine/\∃(its:List Value) (n:Nat),aY xs its/\h.get? a=U {cls:=.type "list",data:=.seq its.toArray n}
 |.tup xs=>xs.length<=sizeLine/\∃its:List Value,aY xs its/\IsTup h a its.toArray
 |.dK kvs=>kvs.length<=sizeLine/\(a == sysModules)=J/\∃vs,KV kvs vs/\h.DictOf (dE P w) a vs
 |.dT kvs=>kvs.length<=sizeLine/\(a == sysModules)=J/\∃xs:List (List Key×Addr×Value),Paired (λ(p:List Key×σ) (q:List Key×Addr×Value)=>p.1=q.1/\H q.2.1=U (.tup (p.1.map kV))/\RelV p.2 q.2.2) kvs xs /\∃o es z,h.get? a=U o/\o.ExactDict/\o.data=.dict es z/\es.toList=xs.map (entryOfKey (tupleKind (dE P w)))/\(xs.map (·.1)).Nodup
 |.set S n=>h.SetOf (intKind P w) a S n
 |.ins C dx fs=>H dx=U (.own a)/\fs.length<=1000/\dx≠a/\h.get? a=U (instObj C dx) /\∃mA,h.Ns1 dx mA/\(∀f,mO (fs.lookup f) (mA f))/\PySem.Within mA (fs.map (·.1))
 |.own _=>∃o,h.get? a=U o
 |.xd fs=>∃mA,h.Ns1 a mA/\∀f,mO (fs.lookup f) (mA f)
 |.rng lo hi=>∃t u v,h.get? a=U {cls:=.type "range",data:=.fields #[.int lo t,.int hi u,.int 1 v]}
 |.frz o u=>h.get? a=U o/\cR H h a u
 |.tbl ps=>h.get? a=U {cls:=.none,data:=.fields ps}
 |.met f x=>h.get? a=U (methodObj (.ref f) (.ref x))
 |.ext φ=>φ h/\(∃o,h.get? a=U o)/\∀h1 h2:Heap,φ h1->(∀o,h1.get? a=U o->h2.get? a=U o)->φ h2
def HOk(H:Hp)(h:Heap):Prop:=∀a o,H a=U o->cR P w H h a o
end
section
variable {P:xt}{w:World}{H H':Hp}{h h':Heap}{a:Addr}{o:HO}
theorem cR.lt(x:cR P w H h a o):a<h.objs.size:=by
 cases o with
 |lst xs=>obtain⟨_,_,_,_,e⟩:=x;exact vh e
 |tup xs=>obtain⟨_,_,_,p⟩:=x;exact p.lt
 |dK kvs=>obtain⟨_,_,_,_,o,_,_,e,_⟩:=x;exact vh e
 |dT kvs=>obtain⟨_,_,_,_,o,_,_,e,_⟩:=x;exact vh e
 |set S n=>obtain⟨o,_,_,_,e,_⟩:=x;exact vh e
 |ins C dx fs=>obtain⟨_,_,_,e,_⟩:=x;exact vh e
 |own y=>obtain⟨_,e⟩:=x;exact vh e
 |xd fs=>obtain⟨_,⟨_,_,_,e,_⟩,_⟩:=x;exact vh e
 |rng lo hi=>obtain⟨_,_,_,e⟩:=x;exact vh e
 |frz ob u=>obtain⟨e,_⟩:=x;exact vh e
 |tbl ps=>exact vh (show h.get? a=U _ from x)
 |met f y=>exact vh (show h.get? a=U _ from x)
 |ext φ=>obtain⟨_,⟨_,e⟩,_⟩:=x;exact vh e
theorem Paired.mapP{α β:Type}{F G:α->β->Prop}:∀{I:List α} {z:List β},Paired F I z->(∀a b,F a b->G a b)->Paired G I z
 |_,_,.nil,_=>.nil
 |_,_,.cons r t,f=>.cons (f _ _ r) (Paired.mapP t f)
def cR.stay(x:cR P w H h a o)(k:∀b u,(b=a\/H b=U (.own a))->h.get? b=U u->h'.get? b=U u) (ho:∀b,H b=U (.own a)->H' b=U (.own a)) (W:∀b xs,H b=U (.tup xs)->H' b=U (.tup xs)):cR P w H' h' a o:=by
 induction o with
 |lst xs=>obtain⟨z,its,n,r,e⟩:=x;exact⟨z,its,n,r,k _ _ (.inl rfl) e⟩
 |tup xs=>obtain⟨z,its,r,ob,e,c⟩:=x;exact⟨z,its,r,ob,k _ _ (.inl rfl) e,c⟩
 |dK kvs=>obtain⟨z,y,vs,r,ob,es,I,e,c⟩:=x;exact⟨z,y,vs,r,ob,es,I,k _ _ (.inl rfl) e,c⟩
 |dT kvs=>obtain⟨z,y,xs,r,ob,es,I,e,c⟩:=x;exact⟨z,y,xs,Paired.mapP r λp q z=>⟨z.1,W _ _ z.2.1,z.2.2⟩,ob,es,I,k _ _ (.inl rfl) e,c⟩
 |set S n=>obtain⟨ob,es,I,t,e,c⟩:=x;exact⟨ob,es,I,t,k _ _ (.inl rfl) e,c⟩
 |ins C dx fs=>obtain⟨d,z,ne,e,mA,⟨od,es,I,e2,c⟩,r⟩:=x;exact⟨ho _ d,z,ne,k _ _ (.inl rfl) e,mA,⟨od,es,I,k _ _ (.inr d) e2,c⟩,r⟩
 |own y=>obtain⟨ob,e⟩:=x;exact⟨ob,k _ _ (.inl rfl) e⟩
 |xd fs=>obtain⟨mA,⟨od,es,I,e,c⟩,r⟩:=x;exact⟨mA,⟨od,es,I,k _ _ (.inl rfl) e,c⟩,r⟩
 |rng lo hi=>obtain⟨t,u,v,e⟩:=x;exact⟨t,u,v,k _ _ (.inl rfl) e⟩
 |frz ob u R=>obtain⟨e,q⟩:=x;exact⟨k _ _ (.inl rfl) e,R q⟩
 |tbl ps=>have e:h.get? a=U {cls:=.none,data:=.fields ps}:=x;show h'.get? a=U {cls:=.none,data:=.fields ps};exact k a _ (.inl rfl) e
 |met f y=>have e:h.get? a=U (methodObj (.ref f) (.ref y)):=x;show h'.get? a=U (methodObj (.ref f) (.ref y));exact k a _ (.inl rfl) e
 |ext φ=>obtain⟨p,⟨o,e⟩,st⟩:=x;exact⟨st _ _ p λo q=>k _ _ (.inl rfl) q,⟨o,k _ _ (.inl rfl) e⟩,st⟩
theorem HOk.lt(x:HOk P w H h)(e:H a=U o):a<h.objs.size:=(x a o e).lt
def HOk.fresh(x:HOk P w H h)(e:h.objs.size<=a):H a=O:=by
 cases q:H a with
 |none=>rfl
 |some u=>exact absurd (vb (x.lt q) e) (we _)
def HOk.kept(x:HOk P w H h)(k:∀b u,h.get? b=U u->h'.get? b=U u):HOk P w H h':=λa o e=>(x a o e).stay (λb u _ q=>k b u q) (λ_ q=>q) λ_ _ q=>q
def HOk.laid(x:HOk P w H h)(k:∀b u,h.get? b=U u->h'.get? b=U u)(hp:h.objs.size<=a)(new:cR P w (upd H a o) h' a o):HOk P w (upd H a o) h':=λb u e=>by have hn:=x.fresh hp;by_cases hb:b=a;subst hb;rw[aW]at e;cases e;exact new;rw[aS hb]at e;exact(x b u e).stay (λc v _ q=>k c v q) (λc q=>by rw[aS (bF q hn)];exact q) λc xs q=>by rw[aS (bF q hn)];exact q
end
def Rd(H:Hp)(a:Addr)(u:HO):Prop:=H a=U u\/∃o,H a=U (.frz o u)
def Rd.ok{H:Hp}{u:HO}(r:Rd H a u)(x:HOk P w H h):cR P w H h a u:=by rcases r with r|⟨o,r⟩;exact x a u r;obtain⟨_,q⟩:=x a _ r;exact q
noncomputable def ud:Option HO->Prop
 |some (.lst _)=>True
 |some (.dK _)=>True
 |some (.dT _)=>True
 |some (.set _ _)=>True
 |some (.ins _ _ _)=>True
 |some (.ext _)=>True
 |_=>False
section
variable {P:xt}{w:World}{H:Hp}{h h':Heap}{x e:Addr}{o':HO}
def HOk.write(ok:HOk P w H h)(mu:ud (H x))(he:e=x\/H e=U (.own x))(k:∀b u,b≠e->h.get? b=U u->h'.get? b=U u)(o8:∃u,h'.get? e=U u) (new:cR P w (upd H x o') h' x o'):HOk P w (upd H x o') h':=λb u q=>by
 have I:∀c y,H c=U (.own y)->c≠x:=λc y r z=>by subst z;rw[r]at mu;exact mu
 have R:∀c xs,H c=U (.tup xs)->c≠x:=λc xs r z=>by subst z;rw[r]at mu;exact mu
 by_cases hb:b=x;subst hb;rw[aW]at q;cases q;exact new;rw[aS hb]at q;by_cases W:b=e;have q':H b=U (.own x):=by rcases he with z|z;exact absurd (W.trans z) hb;rw[W];exact z
 rw[q]at q';cases q';obtain⟨v,hv⟩:=o8;exact⟨v,by rw[W];exact hv⟩;refine(ok b u q).stay (λc v hc r=>k c v ?_ r) (λc r=>by rw[aS (I c b r)];exact r) λc xs r=>by rw[aS (R c xs r)];exact r
 rcases hc with rfl|hc;exact W;rintro rfl;rcases he with z|z;exact I c b hc z;rw[hc]at z;cases z;exact hb rfl
end
structure Un (fs ex:List Addr) (H H':Hp) (h h':Heap):Prop where
 keep:∀b o,h.get? b=U o->H b=O->b∉fs->b∉ex->h'.get? b=U o
 slot:∀b o,h.get? b=U o->H b=O->b∈fs->b∉ex->∃sl,h'.get? b=U {o with slots:=sl}
 free:∀b o,h.get? b=U o->H b=O->b∉ex->H' b=O
 there:∀b o,h.get? b=U o->b∉ex->∃o',h'.get? b=U o'
 tups:∀b xs,H b=U (.tup xs)->H' b=U (.tup xs)
 frzs:∀b o u,H b=U (.frz o u)->H' b=U (.frz o u)
 tbls:∀b ps,H b=U (.tbl ps)->∃more,H' b=U (.tbl (ps++more))
section
variable {fs fs' ex ex':List Addr}{H H1 H2:Hp}{h h1 h2 h':Heap}{a x e:Addr}{o:HO}
def Un.any(u:Un fs ex H H1 h h1){ob:Obj}(q:h.get? b=U ob)(n:H b=O)(hx:b∉ex):∃sl,h1.get? b=U {ob with slots:=sl}:=by by_cases hb:b∈fs;exact u.slot b ob q n hb hx;exact⟨ob.slots,u.keep b ob q n hb hx⟩
def Un.trans(a:Un fs ex H H1 h h1)(b:Un fs ex H1 H2 h1 h2):Un fs ex H H2 h h2 where
 keep:=λc ob q n hc hx=>b.keep c ob (a.keep c ob q n hc hx) (a.free c ob q n hx) hc hx
 slot:=λc ob q n hc hx=>by
  obtain⟨sl,e1⟩:=a.slot c ob q n hc hx;obtain⟨sl',e2⟩:=b.slot c _ e1 (a.free c ob q n hx) hc hx;exact⟨sl',e2⟩
 free:=λc ob q n hx=>by
  obtain⟨o',e1⟩:=a.there c ob q hx;exact b.free c o' e1 (a.free c ob q n hx) hx
 there:=λc ob q hx=>by
  obtain⟨o',e1⟩:=a.there c ob q hx;exact b.there c o' e1 hx
 tups:=λc xs q=>b.tups c xs (a.tups c xs q)
 frzs:=λc ob xs q=>b.frzs c ob xs (a.frzs c ob xs q)
 tbls:=λc ps q=>by
  obtain⟨m1,e1⟩:=a.tbls c ps q;obtain⟨m2,e2⟩:=b.tbls c _ e1;exact⟨m1++m2,by rw[e2,Array.append_assoc]⟩
def Un.kept(k:∀b u,h.get? b=U u->h'.get? b=U u):Un fs ex H H h h':=⟨λb ob q _ _ _=>k b ob q,λb ob q _ _ _=>⟨ob.slots,k b ob q⟩,λ_ _ _ n _=>n,λb ob q _=>⟨ob,k b ob q⟩,λ_ _ q=>q,λ_ _ _ q=>q,λ_ ps q=>⟨#[],by rw[q];simp⟩⟩
def Un.refl:Un fs ex H H h h:=Un.kept λ_ _ q=>q
def Un.laid(k:∀b u,h.get? b=U u->h'.get? b=U u)(hp:h.objs.size<=a)(hn:H a=O):Un fs ex H (upd H a o) h h' where
 keep:=λb u q _ _ _=>k b u q
 slot:=λb u q _ _ _=>⟨u.slots,k b u q⟩
 free:=λb u q n _=>by rw[aS (w8 (vb (vh q) hp))];exact n
 there:=λb u q _=>⟨u,k b u q⟩
 tups:=λb xs q=>by rw[aS (bF q hn)];exact q
 frzs:=λb u xs q=>by rw[aS (bF q hn)];exact q
 tbls:=λb ps q=>⟨#[],by rw[aS (bF q hn),q];simp⟩
def Un.write(mu:ud (H x))(he:e=x\/H e=U (.own x))(k:∀b u,b≠e->h.get? b=U u->h'.get? b=U u)(R:∃u,h'.get? e=U u):Un fs ex H (upd H x o) h h':=by
 have hx:∀b,H b=O->b≠x:=λb n z=>by subst z;rw[n]at mu;exact mu
 have hb:∀b,H b=O->b≠e:=λb n z=>by subst z;rcases he with r|r;exact hx b n r;rw[n]at r;cases r
 have hm:∀b u,H b=U u->¬ud (U u)->b≠x:=λb u q nm z=>by subst z;rw[q]at mu;exact nm mu
 refine⟨λb u q n _ _=>k b u (hb b n) q,λb u q n _ _=>⟨u.slots,k b u (hb b n) q⟩,λb u q n _=>by rw[aS (hx b n)];exact n,λb u q _=>?_,λb xs q=>by rw[aS (hm b _ q λz=>z)];exact q,λb u xs q=>by rw[aS (hm b _ q λz=>z)];exact q,λb ps q=>⟨#[],by rw[aS (hm b _ q λz=>z),q];simp⟩⟩;by_cases I:b=e;subst I;exact R;exact⟨u,k b u I q⟩
def Un.mono(u:Un fs ex H H1 h h1)(hs:∀b∈fs,b∈fs')(hx:∀b∈ex,b∈ex'):Un fs' ex' H H1 h h1:=⟨λb ob q n hb he=>u.keep b ob q n (λz=>hb (hs b z)) λz=>he (hx b z),λ_ _ q n _ he=>u.any q n λz=>he (hx _ z),λb ob q n he=>u.free b ob q n λz=>he (hx b z),λb ob q he=>u.there b ob q λz=>he (hx b z),u.tups,u.frzs,u.tbls⟩
end
noncomputable def trk(h:Heap)(H:Hp):List Addr:=(List.range h.objs.size).filter λa=>(H a).isSome
def vD(h:Heap)(H:Hp):Heap:=hideAll h (trk h H)
def GF(h:Heap)(H:Hp):(vD h H).objs.size=h.objs.size:=PySem.W.hideAll_size _ _
def MF{H:Hp}{o:Obj}(e:h.get? b=U o)(n:H b=O):(vD h H).get? b=U o:=PySem.W.hideAll_get _ e λhm=>by have q:(H b).isSome=Y:=(mem_filter.mp hm).2;rw[n]at q;simp at q
def UC{H:Hp}{o:Obj}(e:(vD h H).get? b=U o):h.get? b=U o/\H b=O:=by
 have e':h.get? b=U o:=PySem.W.of_hideAll (trk h H) e;refine⟨e',?_⟩;cases q:H b with
 |none=>rfl
 |some x=>have hm:b∈trk h H:=mem_filter.mpr ⟨xf.mpr (vh e'),by simp[q]⟩;have z:(vD h H).get? b=O:=PySem.W.hideAll_none (trk h H) hm;rw[z]at e;cases e
noncomputable def WE(g h:Heap)(L:Addr):List (Addr×Obj):=(List.range h.objs.size).filterMap λa=>if a=L\/(g.get? a).isSome=Y then O else(h.get? a).map λo=>(a,o)
def rest(g h:Heap)(L d:Addr):List (Addr×Obj):=(WE g h L).filter λp=>decide (p.1≠d)
structure Mod (K:xq) (mg:xw) (base:Heap):Prop where
 kin:K.In base
 glob:base.Ns mainGlobals mg
 blt:∃mb,base.Ns builtinsNs mb/\∀x:Str,x≠"__name__"->mb x=bootBuiltins x
 nolimit:base.NoLimit
structure Cx where
 prog:xt
 w:World
 K:xq
 mg:Str->Option Value
 base:Heap
 A:Around
 N:List Str
 s₀:Shared
 H₀:Hp
 env:Env
 outer:List Env
 stack:List Env
 ex:List Addr
 fn:Str->Bool
 calm:Bool
 pn:List (Addr×Obj)
 xe:Value->Shared->Prop
noncomputable def frs(l:List Env):List Addr:=l.filterMap (·.frame)
abbrev Cx.fs(X:Cx):List Addr:=frs X.outer
def Vis(sc:Scope)(x:Str):Prop:=sc.names.lookup x=U .local\/sc.names.lookup x=U .cell\/sc.names.lookup x=U .free
def Loc(sc:Scope)(x:Str):Prop:=sc.names.lookup x=U .local\/sc.names.lookup x=U .cell
def Look(env:Env)(h:Heap)(m:xw)(x:Str)(u:Value):Prop:=(env.kindOf x=U .local/\m x=U u)\/((env.kindOf x=U .cell\/env.kindOf x=U .free)/\∃c,env.cells.lookup x=U c/\h.IsCell c (U u))
structure Cx.Ok (X:Cx):Prop where
 mod:Mod X.K X.mg X.base
 kind:X.env.scope.kind=.function
 glob:X.env.globals=mainGlobals
 blt:X.env.builtins=builtinsNs
 above:X.s₀.heap.objs.size<=X.env.locals
 inj:∀x y c,X.env.cells.lookup x=U c->X.env.cells.lookup y=U c->x=y
 has:∀x,(X.env.kindOf x=U .cell\/X.env.kindOf x=U .free)->∃c,X.env.cells.lookup x=U c
 cab:∀x c,X.fn x=Y->X.env.cells.lookup x=U c->X.s₀.heap.objs.size<=c
 hd:X.calm=Y->X.A.handled=O
 frames:X.A.frames=U X.stack
 stk:X.stack=X.outer\/(X.stack=X.env::X.outer/\X.env.frame=U X.env.locals)
 exf:∀b∈X.ex,b≠X.env.locals/\∀x c,X.env.cells.lookup x=U c->c≠b
 bs:∀b o,X.base.get? b=U o->X.s₀.heap.get? b=U o/\X.H₀ b=O
 bsz:X.base.objs.size<=X.s₀.heap.objs.size
 noex:∀b o,X.base.get? b=U o->b∉X.ex
 exfs:∀b∈X.ex,b∉X.fs
 funs:X.s₀.heap.FunFrames X.base X.outer
 frf:∀b∈X.fs,X.H₀ b=O
structure Inv (X:Cx) (pins:xv) (V:List (Option σ)) (H:Hp) (s:Shared):Prop where
 ok:X.Ok
 os:s.os=X.s₀.os
 bare:AllBare s.gens
 base:Un X.fs X.ex X.H₀ H X.s₀.heap s.heap
 loc:∃m,s.heap.Ns X.env.locals m/\∀(i:Nat) (x:Str) (v:σ),X.N[i]?=U x->V[i]?=U (U v)->Vis X.env.scope x->∃u,RelV v u/\Look X.env s.heap m x u
 cell:∀x c,X.env.cells.lookup x=U c->∃v,s.heap.IsCell c v
 free:H X.env.locals=O
 freeC:∀x c,X.env.cells.lookup x=U c->H c=O
 pin:∀p∈X.pn++pins,s.heap.get? p.1=U p.2/\H p.1=O/\p.1≠X.env.locals/\p.1∉X.fs/\∀v,p.2.data≠.cell v
 hok:HOk X.prog X.w H s.heap
 len:V.length=X.N.length
section
variable {X:Cx}{pins:xv}{V:List (Option σ)}{H H':Hp}{s:Shared}{h':Heap}
def Cx.Ok.nofr(ok:X.Ok){o:Obj}(e:X.base.get? b=U o):b∉X.fs:=λhb=>by have:=(ok.funs.mem hb).1;rw[e]at this;cases this
theorem Inv.bs(I:Inv X pins V H s):∀b o,X.base.get? b=U o->s.heap.get? b=U o/\H b=O:=λb o e=>⟨I.base.keep b o (I.ok.bs b o e).1 (I.ok.bs b o e).2 (I.ok.nofr e) (I.ok.noex b o e),I.base.free b o (I.ok.bs b o e).1 (I.ok.bs b o e).2 (I.ok.noex b o e)⟩
def Inv.bk(I:Inv X pins V H s):∀b o,X.base.get? b=U o->s.heap.get? b=U o:=λb o e=>(I.bs b o e).1
theorem Inv.mod(I:Inv X pins V H s):Mod X.K X.mg X.base:=I.ok.mod
def Inv.kIn(I:Inv X pins V H s):X.K.In s.heap:=I.ok.mod.kin.keeps I.bk
theorem Inv.lt(I:Inv X pins V H s):X.env.locals<s.heap.objs.size:=let ⟨_,hn,_⟩:=I.loc;hn.lt
def Inv.sz(I:Inv X pins V H s):X.s₀.heap.objs.size<=s.heap.objs.size:=vi I.ok.above (le_of_lt I.lt)
def Inv.nofs(I:Inv X pins V H s)(h:s.heap.objs.size<=a):a∉X.fs:=λhb=>by obtain⟨_,o,ho,_⟩:=I.ok.funs.mem hb;exact absurd (vb (vh ho) (vi I.sz h)) (we _)
def Inv.cne(I:Inv X pins V H s):∀x c,X.env.cells.lookup x=U c->c≠X.env.locals:=λx c e z=>by obtain⟨v,o,ho,hd⟩:=I.cell x c e;obtain⟨m,⟨o',es,ep,W,R,_⟩,_⟩:=I.loc;rw[z,W]at ho;cases ho;rw[R]at hd;cases hd
theorem Inv.funs(I:Inv X pins V H s):s.heap.FunFrames X.base X.outer:=by
 have all:∀(l:List Env),(∀b∈frs l,b∈X.fs)->X.s₀.heap.FunFrames X.base l->s.heap.FunFrames X.base l:=by
  intro l;induction l with
  |nil=>intro _ _;trivial
  |cons env r W=>
   intro hs hl;obtain⟨hk,⟨L,o,hf,hn,ho,hd⟩,hr⟩:=hl;have R:L∈X.fs:=hs L (by unfold frs;rw[List.filterMap_cons,hf];exact wu);obtain⟨sl,e⟩:=I.base.slot L o ho (I.ok.frf L R) R λz=>I.ok.exfs L z R
   exact⟨hk,⟨L,_,hf,hn,e,hd⟩,W (λb hb=>hs b (by unfold frs;rw[List.filterMap_cons,hf];exact ux _ hb)) hr⟩
 exact all X.outer (λ_ hb=>hb) I.ok.funs
theorem Inv.stack(I:Inv X pins V H s):s.heap.FunFrames X.base X.stack:=by rcases I.ok.stk with e|⟨e,hf⟩;rw[e];exact I.funs;rw[e];obtain⟨m,hn,_⟩:=I.loc;refine .cons (by rw[I.ok.kind];decide) hf hn ?_ I.funs;exact Heap.get?_none_of_le (vi I.ok.bsz I.ok.above)
def Inv.stkSub(I:Inv X pins V H s):∀b∈frs X.stack,b∈X.env.locals::X.fs:=λb hb=>by rcases I.ok.stk with e|⟨e,hf⟩;rw[e]at hb;exact ux _ hb;rw[e]at hb;unfold frs at hb;rw[List.filterMap_cons,hf]at hb;exact hb
def Inv.stkFree(I:Inv X pins V H s):∀b∈frs X.stack,H b=O:=λb hb=>by rcases vk.mp (I.stkSub b hb) with e|hb;rw[e];exact I.free;obtain⟨_,o,ho,_⟩:=I.ok.funs.mem hb;exact I.base.free b o ho (I.ok.frf b hb) λz=>I.ok.exfs b z hb
def Inv.step{g':Array GenState}{d':Drawn}(I:Inv X pins V H s) (jv:∀b∈ch,(b∈X.ex\/X.s₀.heap.objs.size<=b)/\b≠X.env.locals/\(∀x c,X.env.cells.lookup x=U c->c≠b)/\∀p∈X.pn++pins,p.1≠b) (keep:∀b o,b≠X.env.locals->b∉X.fs->b∉ch->s.heap.get? b=U o->H b=O->h'.get? b=U o) (slot:∀b o,b≠X.env.locals->b∈X.fs->b∉ch->s.heap.get? b=U o->H b=O->∃sl,h'.get? b=U {o with slots:=sl}) (free:∀b o,b∉ch->s.heap.get? b=U o->H b=O->H' b=O) (there:∀b o,b∉ch->s.heap.get? b=U o->∃o',h'.get? b=U o') (tups:∀b xs,H b=U (.tup xs)->H' b=U (.tup xs)) (frzs:∀b o u,H b=U (.frz o u)->H' b=U (.frz o u)) (tbls:∀b ps,H b=U (.tbl ps)->∃more,H' b=U (.tbl (ps++more))) (ns:∀m,s.heap.Ns X.env.locals m->h'.Ns X.env.locals m) (hok:HOk X.prog X.w H' h') (hg:AllBare g'):Inv X pins V H' {s with heap:=h',gens:=g',drawn:=d',toks:=t' }:=by
 have neL:∀b o,X.s₀.heap.get? b=U o->b≠X.env.locals:=λb o e=>w8 (vb (vh e) I.ok.above);have W:∀b o,X.s₀.heap.get? b=U o->b∉X.ex->b∉ch:=λb o e hx hb=>by rcases (jv b hb).1 with z|z;exact hx z;exact absurd (vb (vh e) z) (we _)
 have R:∀x c,X.env.cells.lookup x=U c->∀v,s.heap.IsCell c v->h'.IsCell c v:=λx c e v ⟨o,ho,hd⟩=>by have qi:c∉ch:=λz=>(jv c z).2.2.1 x c e rfl;by_cases hc:c∈X.fs;obtain⟨sl,q⟩:=slot c o (I.cne x c e) hc qi ho (I.freeC x c e);exact⟨_,q,hd⟩;exact⟨o,keep c o (I.cne x c e) hc qi ho (I.freeC x c e),hd⟩
 refine⟨I.ok,I.os,hg,⟨λb o e n hb hx=>?_,λb o e n hb hx=>?_,λb o e n hx=>?_,λb o e hx=>?_,λb xs e=>tups b xs (I.base.tups b xs e),λb o xs e=>frzs b o xs (I.base.frzs b o xs e),λb ps e=>?_⟩,?_,λx c e=>?_,?_,λx c e=>?_,λp hp=>?_,hok,I.len⟩;exact keep b o (neL b o e) hb (W b o e hx) (I.base.keep b o e n hb hx) (I.base.free b o e n hx);obtain⟨sl,e1⟩:=I.base.slot b o e n hb hx;obtain⟨sl',e2⟩:=slot b _ (neL b o e) hb (W b o e hx) e1 (I.base.free b o e n hx);exact⟨sl',e2⟩;obtain⟨o',e1⟩:=I.base.there b o e hx;exact free b o' (W b o e hx) e1 (I.base.free b o e n hx);obtain⟨o',e1⟩:=I.base.there b o e hx;exact there b o' (W b o e hx) e1;obtain⟨m1,e1⟩:=I.base.tbls b ps e;obtain⟨m2,e2⟩:=tbls b _ e1;exact⟨m1++m2,by rw[e2,Array.append_assoc]⟩;obtain⟨m,hn,hl⟩:=I.loc;refine⟨m,ns m hn,λi x v e1 e2 e3=>?_⟩;obtain⟨u,r,l⟩:=hl i x v e1 e2 e3;refine⟨u,r,?_⟩;rcases l with l|⟨k,c,e,z⟩;exact .inl l;exact .inr ⟨k,c,e,R x c e _ z⟩;obtain⟨v,z⟩:=I.cell x c e;exact⟨v,R x c e v z⟩;obtain⟨m,⟨o,_,_,ho,_⟩,_⟩:=I.loc;exact free _ o (λz=>(jv _ z).2.1 rfl) ho I.free;obtain⟨v,o,ho,hd⟩:=I.cell x c e;exact free c o (λz=>(jv c z).2.2.1 x c e rfl) ho (I.freeC x c e);obtain⟨e,n,ne,nf,d⟩:=I.pin p hp;have qi:p.1∉ch:=λz=>(jv p.1 z).2.2.2 p hp rfl;exact⟨keep p.1 p.2 ne nf qi e n,free p.1 p.2 qi e n,ne,nf,d⟩
def Inv.un(I:Inv X pins V H s)(u:Un X.fs [] H H' s.heap h')(hok:HOk X.prog X.w H' h'):Inv X pins V H' {s with heap:=h',toks:=t' }:=by obtain⟨m,⟨o,es,ep,ho,r⟩,_⟩:=id I.loc;obtain⟨sl,hL⟩:=u.any ho I.free zv;exact I.step (g':=s.gens) (d':=s.drawn) (ch:=[]) (λ_ z=>nomatch z) (λb o _ hb _ e n=>u.keep b o e n hb zv) (λb o _ hb _ e n=>u.slot b o e n hb zv) (λb o _ e n=>u.free b o e n zv) (λb o _ e=>u.there b o e zv) u.tups u.frzs u.tbls (λm' hm=>by obtain⟨o',gp,R,W,r'⟩:=hm;rw[ho]at W;cases W;exact⟨_,gp,R,hL,r'⟩) hok I.bare
def Inv.call{g':Array GenState}{d':Drawn}(I:Inv X pins V H s)(u:Un (frs X.stack) ch H H' s.heap h')(hok:HOk X.prog X.w H' h')(hg:AllBare g') (jv:∀b∈ch,(b∈X.ex\/X.s₀.heap.objs.size<=b)/\b≠X.env.locals/\(∀x c,X.env.cells.lookup x=U c->c≠b)/\∀p∈X.pn++pins,p.1≠b):Inv X pins V H' {s with heap:=h',gens:=g',drawn:=d',toks:=t' }:=by
 obtain⟨m,⟨o,es,ep,ho,r⟩,_⟩:=id I.loc;obtain⟨sl,R⟩:=u.any ho I.free λz=>(jv _ z).2.1 rfl
 exact I.step (ch:=ch) jv (λb o R hb hc e n=>u.keep b o e n (λz=>(vk.mp (I.stkSub b z)).elim R hb) hc) (λb o _ _ hc e n=>u.any e n hc) (λb o hc e n=>u.free b o e n hc) (λb o hc e=>u.there b o e hc) u.tups u.frzs u.tbls (λm' hm=>by obtain⟨o',gp,W,iF,r'⟩:=hm;rw[ho]at iF;cases iF;exact⟨_,gp,W,R,r'⟩) hok hg
def Inv.turned{it:Addr}(I:Inv X pins V H s)(k:∀b o,b≠it->s.heap.get? b=U o->h'.get? b=U o)(hn:H it=O)(W:it≠X.env.locals) (h1:it∈X.ex\/X.s₀.heap.objs.size<=it) (h2:∀x c,X.env.cells.lookup x=U c->c≠it) (h3:∀p∈X.pn++pins,p.1≠it):Inv X pins V H {s with heap:=h',toks:=t' }:=by
 have R:∀b u,H b=U u->b≠it:=λb u e z=>by rw[z,hn]at e;cases e
 refine I.step (g':=s.gens) (d':=s.drawn) (ch:=[it]) (λb hb=>?_) (λb o _ _ hc e _=>k b o (λz=>hc (by simp[z])) e) (λb o _ _ hc e _=>⟨o.slots,k b o (λz=>hc (by simp[z])) e⟩) (λ_ _ _ _ n=>n) (λb o hc e=>⟨o,k b o (λz=>hc (by simp[z])) e⟩) (λ_ _ e=>e) (λ_ _ _ e=>e) (λb ps e=>⟨#[],by rw[e];simp⟩) (λm hm=>?_) (λb u e=>?_) I.bare;have e:b=it:=by simpa using hb
 subst e;exact⟨h1,W,h2,h3⟩;obtain⟨o,es,ep,ho,r⟩:=hm;exact⟨o,es,ep,k _ o (Ne.symm W) ho,r⟩;refine(I.hok b u e).stay (λc v hc q=>k c v ?_ q) (λ_ q=>q) λ_ _ q=>q;rcases hc with z|z;rw[z];exact R b u e;exact R c _ z
def Inv.tok(I:Inv X pins V H s)(t:Nat):Inv X pins V H {s with toks:=t}:=I.un (h':=s.heap) (t':=t) Un.refl I.hok
theorem Inv.kept(I:Inv X pins V H s)(k:∀b u,s.heap.get? b=U u->h'.get? b=U u):Inv X pins V H {s with heap:=h',toks:=t' }:=I.un (Un.kept k) (I.hok.kept k)
theorem Inv.laid{o:HO}(I:Inv X pins V H s)(k:∀b u,s.heap.get? b=U u->h'.get? b=U u)(hp:s.heap.objs.size<=a)(new:cR X.prog X.w (upd H a o) h' a o):Inv X pins V (upd H a o) {s with heap:=h',toks:=t' }:=I.un (Un.laid k hp (I.hok.fresh hp)) (I.hok.laid k hp new)
theorem Inv.write{x e:Addr}{o:HO}(I:Inv X pins V H s)(mu:ud (H x))(he:e=x\/H e=U (.own x))(k:∀b u,b≠e->s.heap.get? b=U u->h'.get? b=U u)(z:∃u,h'.get? e=U u) (new:cR X.prog X.w (upd H x o) h' x o):Inv X pins V (upd H x o) {s with heap:=h',toks:=t' }:=I.un (Un.write mu he k z) (I.hok.write mu he k z new)
def Inv.pins_of{R:xv}(I:Inv X pins V H s)(h:∀p∈R,s.heap.get? p.1=U p.2/\H p.1=O/\p.1≠X.env.locals/\p.1∉X.fs/\∀v,p.2.data≠.cell v):Inv X R V H s:=⟨I.ok,I.os,I.bare,I.base,I.loc,I.cell,I.free,I.freeC,λp hp=>(xp.mp hp).elim (λz=>I.pin p (wb _ z)) (h p),I.hok,I.len⟩
def xN(hN:N.Nodup){j:Nat}(a:N[i]?=U x)(b:N[j]?=U x):i=j:=by obtain⟨h1,e1⟩:=u0.mp a;obtain⟨h2,e2⟩:=u0.mp b;exact(List.getElem_inj hN).mp (e1.trans e2.symm)
def mQ{v:σ}{Q:Unit->Shared->Prop}(I:Inv X pins V H s)(hN:X.N.Nodup)(hi:X.N[i]?=U x)(hx:Loc X.env.scope x)(r:RelV v u) (h:∀s',Inv X pins (V.set i (U v)) H s'->(∃a,Heap.SameBut a s.heap s'.heap/\(a=X.env.locals\/X.env.cells.lookup x=U a))->Q () s') (hf:X.fn x=Y\/X.env.scope.names.lookup x=U .local:=by first|exact .inl rfl|exact .inr rfl|assumption):wpAny M A (storeName X.env x u) Q E s:=by
 obtain⟨m,hn,hl⟩:=id I.loc;have hcls:(X.env.scope.kind == .class || (X.env.scope.kind == .module&&X.env.locals != X.env.globals))=J:=by rw[I.ok.kind];rfl
 have hiσ:i<V.length:=by rw[I.len];exact(u0.mp hi).1
 have cne:=I.cne;have R:∀{a:Addr} {h':Heap},(∃o,s.heap.get? a=U o/\H a=O)->Heap.SameBut a s.heap h'->HOk X.prog X.w H h':=λ{a h'} ha hs b ob e=>by obtain⟨_,_,W⟩:=ha;refine(I.hok b ob e).stay (λc w' hc q=>(hs.2 c ?_).trans q) (λ_ q=>q) λ_ _ q=>q;rintro rfl;rcases hc with rfl|hc;rw[W]at e;cases e;rw[W]at hc;cases hc
 rcases hx with hk|hk;refine wpAny_storeName_local hk hn (λh' qy hs=>?_) hcls;obtain⟨oL,_,_,hoL,_⟩:=id hn;refine h _ ⟨I.ok,I.os,I.bare,⟨λb o e n hb hx=>?_,λb o e n hb hx=>?_,I.base.free,λb o e hx=>?_,I.base.tups,I.base.frzs,I.base.tbls⟩,⟨_,qy,λj y v' e1 e2 e3=>?_⟩,λy c e=>?_,I.free,I.freeC,λp hp=>?_,R ⟨oL,hoL,I.free⟩ hs,by simpa using I.len⟩ ⟨_,hs,.inl rfl⟩;exact(hs.2 b (w8 (vb (vh e) I.ok.above))).trans (I.base.keep b o e n hb hx);obtain⟨sl,e1⟩:=I.base.slot b o e n hb hx;exact⟨sl,(hs.2 b (w8 (vb (vh e) I.ok.above))).trans e1⟩;obtain⟨o',e1⟩:=I.base.there b o e hx;exact⟨o',(hs.2 b (w8 (vb (vh e) I.ok.above))).trans e1⟩;by_cases hj:j=i;subst hj;rw[hi]at e1;cases e1;rw[vf hiσ]at e2;cases e2;exact⟨u,r,.inl ⟨hk,zv⟩⟩;rw[vg (Ne.symm hj)]at e2;obtain⟨u',r',q⟩:=hl j y v' e1 e2 e3;refine⟨u',r',?_⟩;rcases q with ⟨k,e⟩|⟨k,c,e,z⟩;refine .inl ⟨k,?_⟩;have:y≠x:=λe=>hj (xN hN e1 (e ▸ hi));simp[this,e];exact .inr ⟨k,c,e,z.sameBut hs (cne y c e)⟩;obtain⟨w',z⟩:=I.cell y c e;exact⟨w',z.sameBut hs (cne y c e)⟩;obtain⟨e,n,ne,nf,d⟩:=I.pin p hp;exact⟨(hs.2 p.1 ne).trans e,n,ne,nf,d⟩;have hX:X.fn x=Y:=by rcases hf with z|z;exact z;rw[z]at hk;cases hk
 obtain⟨c,hc⟩:=I.ok.has x (.inl hk);obtain⟨w',z⟩:=I.cell x c hc;refine wpAny_storeName_cell I.ok.kind hk hc z (λh' hc' hs=>?_);obtain⟨oc,hoc,hocd⟩:=id z;refine h {s with heap:=h' } ⟨I.ok,I.os,I.bare,⟨λb o e n hb hx=>?_,λb o e n hb hx=>?_,I.base.free,λb o e hx=>?_,I.base.tups,I.base.frzs,I.base.tbls⟩,⟨m,hn.sameBut hs (Ne.symm (cne x c hc)),λj y v' e1 e2 e3=>?_⟩,λy c' e=>?_,I.free,I.freeC,λp hp=>?_,R ⟨oc,hoc,I.freeC x c hc⟩ hs,by simpa using I.len⟩ ⟨c,hs,.inr hc⟩;exact(hs.2 b (w8 (vb (vh e) (I.ok.cab x c hX hc)))).trans (I.base.keep b o e n hb hx);obtain⟨sl,e1⟩:=I.base.slot b o e n hb hx;exact⟨sl,(hs.2 b (w8 (vb (vh e) (I.ok.cab x c hX hc)))).trans e1⟩;obtain⟨o',e1⟩:=I.base.there b o e hx;exact⟨o',(hs.2 b (w8 (vb (vh e) (I.ok.cab x c hX hc)))).trans e1⟩;by_cases hj:j=i;subst hj;rw[hi]at e1;cases e1;rw[vf hiσ]at e2;cases e2;exact⟨u,r,.inr ⟨.inl hk,c,hc,hc'⟩⟩;rw[vg (Ne.symm hj)]at e2;obtain⟨u',r',q⟩:=hl j y v' e1 e2 e3;refine⟨u',r',?_⟩;rcases q with q|⟨k,c',e,z'⟩;exact .inl q;refine .inr ⟨k,c',e,z'.sameBut hs ?_⟩;rintro rfl;exact hj (xN hN e1 (I.ok.inj _ _ _ e hc ▸ hi));by_cases hcc:c'=c;subst hcc;exact⟨_,hc'⟩;obtain⟨w2,z2⟩:=I.cell y c' e;exact⟨w2,z2.sameBut hs hcc⟩;obtain⟨e,n,ne,nf,d⟩:=I.pin p hp;refine⟨(hs.2 p.1 ?_).trans e,n,ne,nf,d⟩;intro q;rw[q,hoc]at e;have q':oc=p.2:=v8 e;exact d w' (by rw[<-q'];exact hocd)
def lM{v:σ}{Q:Unit->Shared->Prop}(I:Inv X pins V H s)(hN:X.N.Nodup)(hi:X.N[i]?=U x)(hx:Loc X.env.scope x)(r:RelV v u) (h:∀s',Inv X pins (V.set i (U v)) H s'->Q () s') (hf:X.fn x=Y\/X.env.scope.names.lookup x=U .local:=by first|exact .inl rfl|exact .inr rfl|assumption):wpAny M A (storeName X.env x u) Q E s:=
 mQ I hN hi hx r (λs' z _=>h s' z) hf
def Inv.call'{s':Shared}(I:Inv X pins V H s)(ho:s'.os=s.os)(u:Un (frs X.stack) ch H H' s.heap s'.heap)(hok:HOk X.prog X.w H' s'.heap)(hg:AllBare s'.gens) (z:∀b∈ch,(b∈X.ex\/X.s₀.heap.objs.size<=b)/\b≠X.env.locals/\(∀x c,X.env.cells.lookup x=U c->c≠b)/\∀p∈X.pn++pins,p.1≠b):Inv X pins V H' s':=by obtain⟨h',g',d',t',o'⟩:=s';have e:o'=s.os:=ho;subst e;exact I.call (g':=g') (t':=t') (d':=d') u hok hg z
end
abbrev XK:=Value->Option Addr->Hp->Prop
abbrev St:=List (Option σ)
abbrev VK:=σ->Hp->Prop
abbrev TE:=St->Hp->VK->Prop
abbrev TT:=St->Hp->(Bool->Hp->Prop)->Prop
abbrev TA:=St->Hp->(List σ->Hp->Prop)->Prop
structure Ends where
 nx:St->Hp->Prop
 rt:VK
 bk:St->Hp->Prop:=λ_ _=>False
 ct:St->Hp->Prop:=λ_ _=>False
abbrev TS:=Ends->St->Hp->Prop
def EP(X:Cx)(pins:xv)(V:St)(Q:VK)(u:Value)(s':Shared):Prop:=∃v H',Inv X pins V H' s'/\RelV v u/\Q v H'
def TP(X:Cx)(pins:xv)(V:St)(Q:Bool->Hp->Prop)(b:Bool)(s':Shared):Prop:=∃H',Inv X pins V H' s'/\Q b H'
def AP(X:Cx)(pins:xv)(V:St)(Q:List σ->Hp->Prop)(us:List Value)(s':Shared):Prop:=∃vs H',Inv X pins V H' s'/\aY vs us/\Q vs H'
def SP(X:Cx)(pins:xv)(D:Ends)(f:Flow)(s':Shared):Prop:=
 match f with
 |.next=>∃z H',Inv X pins z H' s'/\D.nx z H'
 |.brk=>∃z H',Inv X pins z H' s'/\D.bk z H'
 |.cont=>∃z H',Inv X pins z H' s'/\D.ct z H'
 |.ret u=>∃v z H',Inv X pins z H' s'/\RelV v u/\D.rt v H'
def PE(X:Cx)(e:Expr)(t:TE):Prop:=∀(pins:xv) (s:Shared) (V:St) (H:Hp) (Q:VK),Inv X pins V H s->t V H Q->wpAny (model X.prog X.w) X.A (eval e X.env) (EP X pins V Q) X.xe s
def PT(X:Cx)(e:Expr)(t:TT):Prop:=∀(pins:xv) (s:Shared) (V:St) (H:Hp) (Q:Bool->Hp->Prop),Inv X pins V H s->t V H Q->wpAny (model X.prog X.w) X.A (isTrue e X.env (eval e X.env)) (TP X pins V Q) X.xe s
def PW(X:Cx)(e:Expr)(t:TT):Prop:=∀(whole:Sem Value) (pins:xv) (s:Shared) (V:St) (H:Hp) (Q:Bool->Hp->Prop),Inv X pins V H s->t V H Q->wpAny (model X.prog X.w) X.A (isTrue e X.env whole) (TP X pins V Q) X.xe s
def PW.pt{X:Cx}{t:TT}(h:PW X e t):PT X e t:=h _
def PA(X:Cx)(es:List Expr)(t:TA):Prop:=∀(pos:Pos) (pins:xv) (s:Shared) (V:St) (H:Hp) (Q:List σ->Hp->Prop),Inv X pins V H s->t V H Q->wpAny (model X.prog X.w) X.A (spliced (backTo pos (starEach es X.env))) (AP X pins V Q) X.xe s
def PS(X:Cx)(st:Stmt)(t:TS):Prop:=∀(pins:xv) (s:Shared) (V:St) (H:Hp) (D:Ends),Inv X pins V H s->t D V H->wpAny (model X.prog X.w) X.A (exec st X.env) (SP X pins D) X.xe s
def PSs(X:Cx)(st:List Stmt)(t:TS):Prop:=∀(pins:xv) (s:Shared) (V:St) (H:Hp) (D:Ends),Inv X pins V H s->t D V H->wpAny (model X.prog X.w) X.A (execs st X.env) (SP X pins D) X.xe s
def ae{α:Type}{t:Sem α}{Q z:α->Shared->Prop}(h:wpAny M A t Q E s)(I:∀a s,Q a s->z a s):wpAny M A t z E s:=wk h I λ_ _ x=>x
section
variable {X:Cx}
def bin{a b:Expr}{ta tb:TE}(ha:PE X a ta)(hb:PE X b tb){V:St}{H:Hp}{R:σ->σ->Hp->Prop}(I:Inv X pins V H s)(h:ta V H λx H1=>tb V H1 λy H2=>R x y H2) {α:Type} {Q:α->Shared->Prop} {f:Value->Value->Sem α} (hf:∀v u s2 x y H2,Inv X pins V H2 s2->RelV x v->RelV y u->R x y H2->wpAny (model X.prog X.w) X.A (f v u) Q X.xe s2):wpAny (model X.prog X.w) X.A (eval a X.env) (λv W=>wpAny (model X.prog X.w) X.A (eval b X.env) (λu z=>wpAny (model X.prog X.w) X.A (f v u) Q X.xe z) X.xe W) X.xe s:=by refine ae (ha pins s V H _ I h) λv s1 ⟨x,H1,I1,r1,q1⟩=>?_;refine ae (hb pins s1 V H1 _ I1 q1) λu s2 ⟨y,H2,I2,r2,q2⟩=>?_;exact hf v u s2 x y H2 I2 r1 r2 q2
def EL(i:Nat):TE:=λV H Q=>∃v,V[i]?=U (U v)/\Q v H
def tC(v:σ):TE:=λ_ H Q=>Q v H
def uC(hN:X.N[i]?=U x)(hv:Vis X.env.scope x)(hd:(x == ("__debug__":Str))=J:=by decide)(W:(x == ("__classdict__":Str))=J:=by decide):PE X (.Name x pos) (EL i):=by intro pins s V H Q I h;obtain⟨v,e,h⟩:=h;obtain⟨m,hn,hl⟩:=I.loc;obtain⟨u,r,l⟩:=hl i x v hN e hv;have R:EP X pins V Q u s:=⟨v,H,I,r,h⟩;rcases l with ⟨hk,hm⟩|⟨hk,c,hc,z⟩;exact wpAny_Name (wpAny_loadName_local I.ok.kind hk hn hm R) hd;rcases hk with hk|hk;exact wpAny_Name (wpAny_loadName_cell I.ok.kind hk hc z R) hd;exact wpAny_Name (wpAny_loadName_free I.ok.kind hk hc z R W) hd
def JQ{i j pos}:PE X (.Constant (.int i) j pos) (tC (.int i)):=λ_ _ _ H _ I h=>wpAny_Constant_int ⟨.int i,H,I.tok _,⟨_,rfl⟩,h⟩
def WU{b j pos}:PE X (.Constant (.bool b) j pos) (tC (.bl b)):=λ_ _ _ H _ I h=>Constant_bool ⟨.bl b,H,I,rfl,h⟩
def aAE{j pos}:PE X (.Constant .none j pos) (tC .non):=λ_ _ _ H _ I h=>Constant_none ⟨.non,H,I,rfl,h⟩
def aAC{x j pos}:PE X (.Constant (.str x) j pos) (tC (.str x)):=λ_ _ _ H _ I h=>Calls.Constant_str ⟨.str x,H,I.tok _,⟨_,rfl⟩,h⟩
def Gl(X:Cx)(x:Str):Prop:=X.env.kindOf x=U .globalImplicit
def gL{V:St}{H:Hp}(I:Inv X pins V H s)(hg:Gl X x)(hm:X.mg x=U u)(h:Q u s) (hd:(x == ("__debug__":Str))=J:=by decide):wpAny (model X.prog X.w) X.A (eval (.Name x pos) X.env) Q E s:=Calls.Name_function_global I.ok.kind hg (Calls.loadGlobal_global (by rw[I.ok.glob];exact I.mod.glob.keeps I.bk) hm h) hd
def iI{V:St}{H:Hp}(I:Inv X pins V H s)(hg:Gl X x)(hm:X.mg x=O)(hv:bootBuiltins x=U u)(h:Q u s) (hn:x≠"__name__":=by decide) (hd:(x == ("__debug__":Str))=J:=by decide):wpAny (model X.prog X.w) X.A (eval (.Name x pos) X.env) Q E s:=by obtain⟨mb,h1,h2⟩:=I.mod.blt;exact Calls.Name_function_global I.ok.kind hg (Calls.loadGlobal_builtin (by rw[I.ok.glob];exact I.mod.glob.keeps I.bk) hm (by rw[I.ok.blt];exact h1.keeps I.bk) ((h2 x hn).trans hv) h) hd
def TC{v:σ}(hg:Gl X x)(hm:X.mg x=U u)(r:RelV v u)(hd:(x == ("__debug__":Str))=J:=by decide):PE X (.Name x pos) (tC v):=λ_ _ _ H _ I h=>gL I hg hm ⟨v,H,I,r,h⟩ hd
def CP{v:σ}(hg:Gl X x)(hm:X.mg x=O)(hv:bootBuiltins x=U u)(r:RelV v u)(hn:x≠"__name__":=by decide)(hd:(x == ("__debug__":Str))=J:=by decide):PE X (.Name x pos) (tC v):=λ_ _ _ H _ I h=>iI I hg hm hv ⟨v,H,I,r,h⟩ hn hd
variable {a b:Expr}{ta tb:TE}{pos:Pos}
def PC(X:Cx)(op:CmpOp)(a b:Expr)(t:TE):Prop:=∀(pins:xv) (s:Shared) (V:St) (H:Hp) (Q:VK),Inv X pins V H s->t V H Q ->wpAny (model X.prog X.w) X.A (eval a X.env) (λv I=>wpAny (model X.prog X.w) X.A (eval b X.env) (λu z=>wpAny (model X.prog X.w) X.A (compareOp op v u) (EP X pins V Q) X.xe z) X.xe I) X.xe s
def xO(b:Expr)(h:op≠.In)(h2:op≠.NotIn):behindInMarks op b=J:=by
 have e1:(op == CmpOp.In)=J:=by cases op<;>first|rfl|exact absurd rfl h
 have e2:(op == CmpOp.NotIn)=J:=by cases op<;>first|rfl|exact absurd rfl h2
 cases b<;>simp[behindInMarks,e1,e2]
noncomputable def tB(t:TE):TT:=λV H Q=>t V H λx H1=>∃c,x=.bl c/\Q c H1
def aAH{t:TE}(h:PC X op a b t)(h1:behindInMarks op b=J:=by first|exact xO _ zu zu|rfl):PE X (.Compare a [op] [b] pos) t:=λpins s V H Q I hw=>wpAny_Compare1 (h pins s V H Q I hw) h1
def aAw{t:TE}(h:PC X op a b t)(h1:behindInMarks op b=J:=by first|exact xO _ zu zu|rfl):PT X (.Compare a [op] [b] pos) (tB t):=by intro pins s V H Q I hw;refine wpAny_isTrue_Compare1 (ae (h pins s V H _ I hw) λv s1 h1=>ae h1 λu s2 h2=>ae h2 λc s3 ⟨x,H1,I1,z,R⟩=>?_) h1;obtain⟨d,rfl,q⟩:=R;cases z;exact wpAny_truthy_bool ⟨H1,I1,q⟩
def aAv{t:TE}(h:PE X e t)(he:∀z,isTrue e X.env z=(do let v <-z;standAt e.pos;holding [v] (truthy v)):=by intro _;rfl):PT X e (tB t):=by intro pins s V H Q I hw;refine isTrue_plain (ae (h pins s V H _ I hw) λv s1 ⟨x,H1,I1,R,W⟩=>?_) (he _);obtain⟨d,rfl,q⟩:=W;cases R;exact wpAny_truthy_bool ⟨H1,I1,q⟩
variable {tA tB':TT}{rest:List Expr}
noncomputable def aFg(t u:TT):TT:=λV H Q=>t V H λc H1=>if c=Y then u V H1 Q else Q J H1
noncomputable def tOr(t u:TT):TT:=λV H Q=>t V H λc H1=>if c=Y then Q Y H1 else u V H1 Q
noncomputable def aCx(t:TT):TT:=λV H Q=>t V H λc H1=>Q (!c) H1
def SJ(ha:PT X a tA):PW X (.BoolOp .And [a] pos) tA:=by
 intro z pins s V H Q I h;refine isTrue_and (ae (ha pins s V H Q I h) λc s1 e=>?_);cases c with
 |true=>exact isTrue_and_nil e
 |false=>exact e
def JA(ha:PT X a tA):PW X (.BoolOp .Or [a] pos) tA:=by
 intro z pins s V H Q I h;refine isTrue_or (ae (ha pins s V H Q I h) λc s1 e=>?_);cases c with
 |false=>exact isTrue_or_nil e
 |true=>exact e
def JC(ha:PT X a tA)(hb:PW X (.BoolOp .And (b::rest) pos) tB'):PW X (.BoolOp .And (a::b::rest) pos) (aFg tA tB'):=by
 intro R pins s V H Q I h;refine isTrue_and (ae (ha pins s V H _ I h) λc s1 ⟨H1,I1,z⟩=>?_);cases c with
 |true=>exact hb R pins s1 V H1 Q I1 z
 |false=>exact⟨H1,I1,z⟩
def JB(ha:PT X a tA)(hb:PW X (.BoolOp .Or (b::rest) pos) tB'):PW X (.BoolOp .Or (a::b::rest) pos) (tOr tA tB'):=by
 intro R pins s V H Q I h;refine isTrue_or (ae (ha pins s V H _ I h) λc s1 ⟨H1,I1,z⟩=>?_);cases c with
 |true=>exact⟨H1,I1,z⟩
 |false=>exact hb R pins s1 V H1 Q I1 z
def JH(ha:PT X a tA):PT X (.UnaryOp .Not a pos) (aCx tA):=by intro pins s V H Q I h;exact isTrue_not (ha pins s V H (λc H1=>Q (!c) H1) I h)
def aCA(ta tb:TE):TE:=λV H Q=>ta V H λx H1=>∃c,x=.bl c/\if c=Y then tb V H1 Q else Q (.bl J) H1
def aFa(ta tb:TE):TE:=λV H Q=>ta V H λx H1=>∃c,x=.bl c/\if c=Y then Q (.bl Y) H1 else tb V H1 Q
def aAD{op}{t:TE}(h:PE X a t):PE X (.BoolOp op [a] pos) t:=λpins s V H Q I hw=>BoolOp_one (h pins s V H Q I hw)
def JT(ha:PE X a ta)(hb:PE X (.BoolOp .And (b::rest) pos) tb):PE X (.BoolOp .And (a::b::rest) pos) (aCA ta tb):=by
 intro pins s V H Q I h;refine BoolOp_and (ae (ha pins s V H _ I h) λv s1 ⟨x,H1,I1,R,z⟩=>?_);obtain⟨c,rfl,z⟩:=z;cases R;refine wpAny_truthy_bool ?_;cases c with
 |true=>exact hb pins s1 V H1 Q I1 z
 |false=>exact⟨.bl J,H1,I1,rfl,z⟩
def WS(ha:PE X a ta)(hb:PE X (.BoolOp .Or (b::rest) pos) tb):PE X (.BoolOp .Or (a::b::rest) pos) (aFa ta tb):=by
 intro pins s V H Q I h;refine BoolOp_or (ae (ha pins s V H _ I h) λv s1 ⟨x,H1,I1,R,z⟩=>?_);obtain⟨c,rfl,z⟩:=z;cases R;refine wpAny_truthy_bool ?_;cases c with
 |false=>exact hb pins s1 V H1 Q I1 z
 |true=>exact⟨.bl Y,H1,I1,rfl,z⟩
def tIf(t:TT)(ta tb:TE):TE:=λV H Q=>t V H λc H1=>if c=Y then ta V H1 Q else tb V H1 Q
def xE{c:Expr}(hc:PT X c tA)(ha:PE X a ta)(hb:PE X b tb):PE X (.IfExp c a b pos) (tIf tA ta tb):=by
 intro pins s V H Q I h;refine wpAny_IfExp (ae (hc pins s V H _ I h) λd s1 ⟨H1,I1,z⟩=>?_);cases d with
 |true=>exact ha pins s1 V H1 Q I1 z
 |false=>exact hb pins s1 V H1 Q I1 z
end
def SqL(K:xq)(H:Hp)(a:Addr)(xs:List σ):Prop:=Rd H a (.lst xs) \/∃(o:Obj) (its:Array Value) (n:Nat),K.lookup a=U o/\o.cls=.type "list"/\o.dict=O/\o.data=.seq its n/\its.size<=sizeLine/\aY xs its.toList
def SqT(K:xq)(H:Hp)(a:Addr)(xs:List σ):Prop:=Rd H a (.tup xs) \/∃(o:Obj) (its:Array Value) (n:Nat),K.lookup a=U o/\o.cls=.type "tuple"/\o.data=.seq its n/\its.size<=sizeLine/\aY xs its.toList
noncomputable def aFJ:Value->Option σ
 |.none=>U .non
 |.bool b=>U (.bl b)
 |.int i _=>U (.int i)
 |.str x _=>U (.str x)
 |.bytes b _=>U (.byt b)
 |.float b _=>U (.flt b)
 |.ref a=>U (.ref a)
 |.type n=>U (.ty n)
 |_=>O
def RelV.abs{x:σ}(r:RelV x u):aFJ u=U x:=by
 cases x with
 |non=>cases r;rfl
 |bl _=>cases r;rfl
 |int _=>obtain⟨t,rfl⟩:=r;rfl
 |str _=>obtain⟨t,rfl⟩:=r;rfl
 |byt _=>obtain⟨t,rfl⟩:=r;rfl
 |flt _=>obtain⟨t,rfl⟩:=r;rfl
 |ref _=>cases r;rfl
 |ty _=>cases r;rfl
def RelV.inj{x y:σ}(r:RelV x u)(q:RelV y u):x=y:=v8 (r.abs.symm.trans q.abs)
theorem aY.inj:∀{xs ys:List σ} {us:List Value},aY xs us->aY ys us->xs=ys
 |_,_,_,.nil,.nil=>rfl
 |_,_,_,.cons r t,.cons z t'=>by rw[r.inj z,aY.inj t t']
section
variable {X:Cx}{pins:xv}{V:St}{H:Hp}{s:Shared}{a:Addr}{xs ys:List σ}
def SqL.of(h:H a=U (.lst xs)):SqL K H a xs:=.inl (.inl h)
def SqT.of(h:H a=U (.tup xs)):SqT K H a xs:=.inl (.inl h)
def Inv.list(I:Inv X pins V H s)(h:SqL X.K H a xs):∃its:List Value,aY xs its/\PlainL s.heap a its.toArray/\xs.length<=sizeLine:=by rcases h with h|⟨o,its,n,hk,hc,hd,hs,hz,r⟩;obtain⟨z,its,n,r,e⟩:=h.ok I.hok;exact⟨its,r,⟨_,n,e,rfl,rfl,rfl⟩,z⟩;refine⟨its.toList,r,⟨o,n,I.kIn a o hk,hc,hd,by simpa using hs⟩,?_⟩;have e:=r.length;simp only[length_toList]at e;lia
def Inv.tuple(I:Inv X pins V H s)(h:SqT X.K H a xs):∃its:List Value,aY xs its/\IsTup s.heap a its.toArray/\xs.length<=sizeLine:=by rcases h with h|⟨o,its,n,hk,hc,hs,hz,r⟩;obtain⟨z,its,r,p⟩:=h.ok I.hok;exact⟨its,r,p,z⟩;refine⟨its.toList,r,⟨o,I.kIn a o hk,hc,n,by simpa using hs⟩,?_⟩;have e:=r.length;simp only[length_toList]at e;lia
def Inv.list_inj(I:Inv X pins V H s)(h:SqL X.K H a xs)(h':SqL X.K H a ys):xs=ys:=by
 obtain⟨its,r,⟨o,n,e,_,_,d⟩,_⟩:=I.list h;obtain⟨its',z,⟨o',R,e',_,_,d'⟩,_⟩:=I.list h';rw[e]at e';cases e';rw[d]at d';injection d' with d1 _
 have:its=its':=by simpa using congrArg Array.toList d1
 subst this;exact r.inj z
def Inv.tuple_inj(I:Inv X pins V H s)(h:SqT X.K H a xs)(h':SqT X.K H a ys):xs=ys:=by
 obtain⟨its,r,⟨o,e,_,n,d⟩,_⟩:=I.tuple h;obtain⟨its',z,⟨o',e',_,R,d'⟩,_⟩:=I.tuple h';rw[e]at e';cases e';rw[d]at d';injection d' with d1 _
 have:its=its':=by simpa using congrArg Array.toList d1
 subst this;exact r.inj z
end
abbrev Cx.wish(X:Cx)(E:xu):Cx:={X with xe:=E}
abbrev Cx.nox(X:Cx):Cx:=X.wish λ_ _=>False
theorem Cx.Ok.wish{X:Cx}(ok:X.Ok)(E:xu):(X.wish E).Ok:=⟨ok.mod,ok.kind,ok.glob,ok.blt,ok.above,ok.inj,ok.has,ok.cab,ok.hd,ok.frames,ok.stk,ok.exf,ok.bs,ok.bsz,ok.noex,ok.exfs,ok.funs,ok.frf⟩
def Cx.Ok.unwish{X:Cx}(ok:(X.wish E).Ok):X.Ok:=⟨ok.mod,ok.kind,ok.glob,ok.blt,ok.above,ok.inj,ok.has,ok.cab,ok.hd,ok.frames,ok.stk,ok.exf,ok.bs,ok.bsz,ok.noex,ok.exfs,ok.funs,ok.frf⟩
section
variable {X:Cx}{pins:xv}{V:St}{H:Hp}{s:Shared}{E:xu}
theorem Inv.wish(I:Inv X pins V H s)(E:xu):Inv (X.wish E) pins V H s:=⟨I.ok.wish E,I.os,I.bare,I.base,I.loc,I.cell,I.free,I.freeC,I.pin,I.hok,I.len⟩
theorem Inv.unwish(I:Inv (X.wish E) pins V H s):Inv X pins V H s:=⟨I.ok.unwish,I.os,I.bare,I.base,I.loc,I.cell,I.free,I.freeC,I.pin,I.hok,I.len⟩
theorem SP.unwish{D:Ends}{f:Flow}{s':Shared}(h:SP (X.wish E) pins D f s'):SP X pins D f s':=by
 cases f with
 |next=>obtain⟨z,H',I,q⟩:=h;exact⟨z,H',I.unwish,q⟩
 |brk=>obtain⟨z,H',I,q⟩:=h;exact⟨z,H',I.unwish,q⟩
 |cont=>obtain⟨z,H',I,q⟩:=h;exact⟨z,H',I.unwish,q⟩
 |ret u=>obtain⟨v,z,H',I,r,q⟩:=h;exact⟨v,z,H',I.unwish,r,q⟩
theorem PE.nox{t:TE}(h:PE X.nox e t):PE X e t:=λpins s V H Q I hw=>wk (h pins s V H Q (I.wish _) hw) (λ_ _ ⟨v,H',R,r,q⟩=>⟨v,H',R.unwish,r,q⟩) λ_ _ z=>False.elim z
theorem PT.nox{t:TT}(h:PT X.nox e t):PT X e t:=λpins s V H Q I hw=>wk (h pins s V H Q (I.wish _) hw) (λ_ _ ⟨H',R,q⟩=>⟨H',R.unwish,q⟩) λ_ _ z=>False.elim z
theorem PSs.nox{st:List Stmt}{t:TS}(h:PSs X.nox st t):PSs X st t:=λpins s V H D I hw=>wk (h pins s V H D (I.wish _) hw) (λ_ _ q=>q.unwish) λ_ _ z=>False.elim z
end
section
variable {X:Cx}{st:Stmt}{rest:List Stmt}{t u:TS}{e:Expr}{te:TE}{pos:Pos}
def WL:TS:=λD V H=>D.nx V H
def aEX(t u:TS):TS:=λD V H=>t {D with nx:=u D} V H
def CI:PSs X [] WL:=λ_ _ V H _ I h=>wpAny_execs_nil ⟨V,H,I,h⟩
def xD(h1:PS X st t)(h2:PSs X rest u):PSs X (st::rest) (aEX t u):=by
 intro pins s V H D I h;refine wpAny_execs_cons (ae (h1 pins s V H {D with nx:=u D} I h) λf s1 q=>?_);cases f with
 |next=>obtain⟨z,H',R,q⟩:=q;exact h2 pins s1 z H' D R q
 |ret v=>exact q
 |brk=>exact q
 |cont=>exact q
def SL(h1:PS X st t):PSs X [st] t:=by
 intro pins s V H D I h;refine wpAny_execs_cons (ae (h1 pins s V H D I h) λf s1 q=>?_);cases f with
 |next=>exact wpAny_execs_nil q
 |ret v=>exact q
 |brk=>exact q
 |cont=>exact q
def SN:PS X (.Pass pos) WL:=λ_ _ V H _ I h=>wpAny_Pass ⟨V,H,I,h⟩
def Inv.quiet{V:St}{H:Hp}(I:Inv X pins V H s):interactive X.env=J:=by simp[interactive,I.ok.kind]
def aCy(te:TE):TS:=λD V H=>te V H λ_ H1=>D.nx V H1
def jW(he:PE X e te)(hs:swapsWith e O pos.line X.env=pure J:=by rfl):PS X (.Expr e pos) (aCy te):=by intro pins s V H D I h;exact wpAny_Expr_any (ae (he pins s V H _ I h) λv s1 ⟨x,H1,I1,R,z⟩=>⟨V,H1,I1,z⟩) I.quiet hs
def aEY(te:TE):TS:=λD V H=>te V H D.rt
def uB(he:PE X e te):PS X (.Return (U e) pos) (aEY te):=by intro pins s V H D I h;exact wpAny_Return_some (ae (he pins s V H _ I h) λv s1 ⟨x,H1,I1,z,R⟩=>⟨x,V,H1,I1,z,R⟩)
def aCv:TS:=λD _ H=>D.rt .non H
def SM:PS X (.Return O pos) aCv:=λ_ _ V H _ I h=>wpAny_Return_none ⟨.non,V,H,I,rfl,h⟩
def aFc(c:TT)(t u:TS):TS:=λD V H=>c V H λb H1=>if b=Y then t D V H1 else u D V H1
def aDc{c:Expr}{a b:List Stmt}{tc:TT}(hc:PT X c tc)(ha:PSs X a t)(hb:PSs X b u):PS X (.If c a b pos) (aFc tc t u):=by
 intro pins s V H D I h;refine wpAny_If (ae (hc pins s V H _ I h) λd s1 ⟨H1,I1,z⟩=>?_);cases d with
 |true=>exact ha pins s1 V H1 D I1 z
 |false=>exact hb pins s1 V H1 D I1 z
end
abbrev TG:=σ->St->Hp->(St->Hp->Prop)->Prop
abbrev kn:=List σ->St->Hp->(St->Hp->Prop)->Prop
def PG(X:Cx)(target:Expr)(t:TG):Prop:=∀(pins:xv) (s:Shared) (V:St) (H:Hp) (v:σ) (u:Value) (Q:St->Hp->Prop),Inv X pins V H s->RelV v u->t v V H Q ->wpAny (model X.prog X.w) X.A (assign target X.env u) (λ_ s'=>∃z H',Inv X pins z H' s'/\Q z H') X.xe s
def ub(X:Cx)(ts:List Expr)(t:kn):Prop:=∀(pins:xv) (s:Shared) (V:St) (H:Hp) (vs:List σ) (us:List Value) (Q:St->Hp->Prop),Inv X pins V H s->aY vs us->t vs V H Q ->wpAny (model X.prog X.w) X.A (assignInOrder ((assignEach ts X.env).map (·.2)) us) (λ_ s'=>∃z H',Inv X pins z H' s'/\Q z H') X.xe s
abbrev aCi:=σ->σ->σ->Hp->(Hp->Prop)->Prop
def aEP(X:Cx)(t:aCi):Prop:=∀(pins:xv) (s:Shared) (V:St) (H:Hp) (o i v:σ) (z I u:Value) (Q:Hp->Prop),Inv X pins V H s->RelV o z->RelV i I->RelV v u->t o i v H Q ->wpAny (model X.prog X.w) X.A (setItem z I u) (λ_ s'=>∃H',Inv X pins V H' s'/\Q H') X.xe s
section
variable {X:Cx}{pos:Pos}
def sU(i:Nat):TG:=λv V H Q=>Q (V.set i (U v)) H
def CK(hN:X.N.Nodup)(hi:X.N[i]?=U x)(hx:Loc X.env.scope x)(hf:X.fn x=Y\/X.env.scope.names.lookup x=U .local:=by first|exact .inl rfl|exact .inr rfl|assumption):PG X (.Name x pos) (sU i):=by intro pins s V H v u Q I r h;exact wpAny_assign_Name (lM I hN hi hx r (λs' z=>⟨_,H,z,h⟩) hf)
noncomputable def aFE:kn:=λvs V H Q=>vs=[]/\Q V H
noncomputable def aEp(t:TG)(u:kn):kn:=λvs V H Q=>∃v r,vs=v::r/\t v V H λz H'=>u r z H' Q
def SZ:ub X [] aFE:=by intro pins s V H vs us Q I r h;obtain⟨e,h⟩:=h;subst e;cases r;exact assignInOrder_nil ⟨V,H,I,h⟩
def JN{es:List Expr}{t:TG}{u:kn}(h1:PG X e t)(h2:ub X es u) (hs:(assignEach (e::es) X.env).map (·.2)=assign e X.env::(assignEach es X.env).map (·.2):=by rfl):ub X (e::es) (aEp t u):=by
 intro pins s V H vs us Q I r h;obtain⟨v,W,e1,h⟩:=h;subst e1;cases r with
 |cons r z=>rw[hs];refine assignInOrder_cons (ae (h1 pins s V H _ _ _ I r h) λ_ s1 ⟨σ1,H1,I1,R⟩=>?_);exact h2 pins s1 σ1 H1 _ _ Q I1 z R
def aFC(K:xq)(n:Nat)(t:kn):TG:=λv V H Q=>∃a xs,v=.ref a/\SqT K H a xs/\xs.length=n/\t xs V H Q
def aAA{es:List Expr}{k:Nat}{t:kn}{n:Nat}(hc:X.calm=Y)(h:ub X es t) (hn:(assignEach es X.env).length=n:=by rfl) (z:(assignEach es X.env).findIdx? (·.1)=O:=by rfl):PG X (.Tuple es k pos) (aFC X.K n t):=by intro pins s V H v u Q I r hw;obtain⟨a,xs,e1,hq,hl,hw⟩:=hw;subst e1;cases r;obtain⟨its,rv,R,hz⟩:=I.tuple hq;refine assign_Tuple_tuple (I.ok.hd hc) R (by simp[hn,<-hl,rv.length]) z λh' hx=>?_;have I1:Inv X pins V H {s with heap:=h' }:=I.kept (t':=s.toks) λb o e=>hx b o (w8 (vh e)) e;exact h pins _ V H xs _ Q I1 (by simpa using rv) hw
def aFD(to z:TE)(t:aCi):TG:=λv V H Q=>to V H λo H1=>z V H1 λi H2=>t o i v H2 λI=>Q V I
def JO{o i:Expr}{to W:TE}{t:aCi}(ho:PE X o to)(hi:PE X i W)(hs:aEP X t)
  (ha:∀v,assign (.Subscript o i pos) X.env v=(do
   let z <-holding [v] (eval o X.env);let R <-holding [v,z] (eval i X.env)
   standAt pos
   holding [v,z,R] (setItem z R v)
   release [v,z,R] []):=by intro _;rfl):PG X (.Subscript o i pos) (aFD to W t):=by
 intro pins s V H v u Q I r h;rw[ha];refine wg (wpAny_holding (ae (ho pins s V H _ I h) λz s1 ⟨x,H1,I1,r1,q1⟩=>?_));refine wg (wpAny_holding (ae (hi pins s1 V H1 _ I1 q1) λR s2 ⟨y,H2,I2,r2,q2⟩=>?_));refine wg (wpAny_standAt (wg (wpAny_holding (ae (hs pins s2 V H2 x y v z R u _ I2 r1 r2 r q2) λ_ s3 ⟨H3,I3,q3⟩=>?_))));exact wpAny_release ⟨V,H3,I3,q3⟩
def QJ(te:TE)(g:TG):TS:=λD V H=>te V H λx H1=>g x V H1 D.nx
def zU{te:TE}{g:TG}(he:PE X e te)(hg:PG X tg g)(hs:swapsWithSole [tg] e pos.line X.env=pure J:=by rfl)(hw:swappedStores [tg] e X.env=pure O:=by rfl) (h1:(assignEach [tg] X.env).map (·.2)=[assign tg X.env]:=by rfl):PS X (.Assign [tg] e pos) (QJ te g):=by intro pins s V H D I h;refine wpAny_Assign_stores (ae (he pins s V H _ I h) λv s1 ⟨x,H1,I1,z,R⟩=>?_) hs hw;rw[h1];exact ae (hg pins s1 V H1 x v _ I1 z R) λ_ s2 q=>q
def mW{te:TE}{pos':Pos}(hN:X.N.Nodup)(hi:X.N[i]?=U x)(hx:Loc X.env.scope x)(he:PE X e te)(hs:swapsWith e (U (.Name x pos')) pos.line X.env=pure J:=by rfl)(hf:X.fn x=Y\/X.env.scope.names.lookup x=U .local:=by first|exact .inl rfl|exact .inr rfl|assumption):
  PS X (.Assign [.Name x pos'] e pos) (QJ te (sU i)):=by
 intro pins s V H D I h;refine wpAny_Assign_Name (ae (he pins s V H _ I h) λv s1 ⟨y,H1,I1,z,R⟩=>?_) hs;exact lM I1 hN hi hx z (λs2 I2=>⟨_,H1,I2,R⟩) hf
def aEZ(i j:Nat)(ta:TA):TS:=λD V H=>ta V H λvs H1=>∃v w,vs=[v,w]/\D.nx ((V.set i (U v)).set j (U w)) H1
def aAx{j:Nat}{y:Str}{a b:Expr}{ta:TA}{px py pt:Pos}{kt k2 pt2}(hc:X.calm=Y)(hN:X.N.Nodup)(hi:X.N[i]?=U x)(hj:X.N[j]?=U y)(da:i≠j) (hx:X.env.scope.names.lookup x=U .local) (hy:X.env.scope.names.lookup y=U .local) (ha:PA X [a,b] ta) (hw:swappedStores [.Tuple [.Name x px,.Name y py] kt pt] (.Tuple [a,b] k2 pt2) X.env=pure (U [x,y])) (hs:swapsWithSole [.Tuple [.Name x px,.Name y py] kt pt] (.Tuple [a,b] k2 pt2) pos.line X.env=pure J:=by rfl):PS X (.Assign [.Tuple [.Name x px,.Name y py] kt pt] (.Tuple [a,b] k2 pt2) pos) (aEZ i j ta):=by
 intro pins s V H D I h;rw[exec_Assign_arm];refine wg (wpAny_standAt ?_);rw[hs];refine wg (wj ?_);rw[if_neg zu];refine wg (Tuple_ (ae (ha _ pins s V H _ I h) λus s1 ⟨vs,H1,I1,r1,W⟩=>?_));obtain⟨v,w,e1,W⟩:=W;subst e1;obtain⟨R,z,rfl,rv,gw⟩:∃R z,us=[R,z]/\RelV v R/\RelV w z:=by
  cases r1 with
  |cons p q=>
   cases q with
   |cons p' q'=>cases q';exact⟨_,_,rfl,p,p'⟩
 refine wpAny_newObj_type ?_ (by show 2<=sizeLine;decide);have I2:Inv X pins V H1 {s1 with heap:=s1.heap.push {cls:=.type "tuple",data:=.seq [R,z].toArray} }:=I1.kept (t':=s1.toks) λb o e=>uv _ e;rw[hw];refine wg (wj ?_);show wpAny (model X.prog X.w) X.A (do rule "assign.swapped-stores";let items <-unpackItems (.ref s1.heap.objs.size) 2 O;assignInOrder [λv=>bindName X.env y v,λv=>bindName X.env x v] items.reverse;pure Flow.next) _ _ _;refine wg (wpAny_rule (wg (unpackItems_tuple (items:=#[R,z]) (I.ok.hd hc) (IsTup.new s1.heap _) λh' l0=>?_)));have I3:=I2.kept (h':=h') (t':=s1.toks) λb o e=>l0 b o (w8 (vh e)) e;show wpAny _ _ (assignInOrder [λv=>bindName X.env y v,λv=>bindName X.env x v] [z,R] >>= λ_=>pure Flow.next) _ _ _;refine wg (assignInOrder_cons (wpAny_bindName (lM I3 hN hj (.inl hy) gw (λs2 I4=>?_) (.inr hy))));refine assignInOrder_cons (wpAny_bindName (lM I4 hN hi (.inl hx) rv (λs3 I5=>assignInOrder_nil (wj ?_)) (.inr hx)));rw[List.set_comm _ _ (Ne.symm da)]at I5;exact⟨_,H1,I5,W⟩
end
structure It where
 go:Nat->Hp->Prop
 yld:Nat->Hp->σ->Hp->Prop
 stop:Nat->Hp->Prop
def jQ(X:Cx)(pins:xv)(H:Hp)(b:Addr):Prop:=H b=O/\b≠X.env.locals/\b∉X.fs/\(b∈X.ex\/X.s₀.heap.objs.size<=b)/\(∀x c,X.env.cells.lookup x=U c->c≠b)/\∀p∈X.pn++pins,p.1≠b
def Inv.fpOk{X:Cx}{V:St}{H H':Hp}(I:Inv X pins V H s)(hb:s.heap.objs.size<=b)(hn:H' b=O):jQ X pins H' b:=by refine⟨hn,Nat.ne_of_gt (vb I.lt hb),I.nofs hb,.inr (vi I.sz hb),λx c e z=>?_,λp hp z=>?_⟩;obtain⟨v,q⟩:=I.cell x c e;exact absurd (vb q.lt (by rw[z];exact hb)) (we _);exact absurd (vb (vh (I.pin p hp).1) (by rw[z];exact hb)) (we _)
structure Turn (P:xt) (w:World) (K:xq) (tg:Expr) (æ:It) (fp:List Addr) (it:Addr) (tn:Nat->Heap->Prop):Prop where
 mem:it∈fp
 obj:∀i h,tn i h->∀b∈fp,∃o,h.get? b=U o/\∀v,o.data≠.cell v
 keep:∀i h h',tn i h->(∀b∈fp,∀o,h.get? b=U o->h'.get? b=U o)->tn i h'
 item:∀(X:Cx),X.prog=P->X.w=w->X.K=K->X.calm=Y->∀(i:Nat) (pins:xv) (s:Shared) (V:St) (H:Hp) (E:xu),Inv X pins V H s->(∀b∈fp,jQ X pins H b)->tn i s.heap->æ.go i H ->
  wpAny (model P w) X.A (pyNext (.ref it)) (λr s1=>∃u,r=U u /\
   wpAny (model P w) X.A (letOwnedTupleGo tg (.ref it) u) (λ_ s2=>∃x H',Inv X pins V H' s2/\RelV x u/\æ.yld i H x H'/\tn (i+1) s2.heap/\∀b∈fp,H' b=O) E s1) E s
 done:∀(X:Cx),X.prog=P->X.w=w->X.K=K->X.calm=Y->∀(i:Nat) (pins:xv) (s:Shared) (V:St) (H:Hp) (E:xu),Inv X pins V H s->(∀b∈fp,jQ X pins H b)->tn i s.heap->æ.stop i H ->
  wpAny (model P w) X.A (pyNext (.ref it)) (λr s1=>r=O/\Inv X pins V H s1) E s
 self:∀(A:Around) (i:Nat) (s:Shared) (Q:xu) (E:xu),tn i s.heap->Q (.ref it) s->wpAny (model P w) A (pyIter (.ref it)) Q E s
abbrev TI:=St->Hp->(It->Hp->Prop)->Prop
def PIE(X:Cx)(pins:xv)(V:St)(tg:Expr)(R:It->Hp->Prop)(z:Value)(s2:Shared):Prop:=∃(it:Addr) (fp:List Addr) (tn:Nat->Heap->Prop) (æ:It) (H':Hp),z=.ref it/\Inv X pins V H' s2/\Turn X.prog X.w X.K tg æ fp it tn/\tn 0 s2.heap/\(∀b∈fp,jQ X pins H' b)/\R æ H'
def PI(X:Cx)(tg iter:Expr)(z:TI):Prop:=∀(pins:xv) (s:Shared) (V:St) (H:Hp) (R:It->Hp->Prop),Inv X pins V H s->z V H R ->wpAny (model X.prog X.w) X.A (eval iter X.env) (λv s1=>wpAny (model X.prog X.w) X.A (pyIter v) (PIE X pins V tg R) X.xe s1) X.xe s
def DG{it:Addr}{o:Obj}{n:String}{vs:Array Value}{Q:Unit->Shared->Prop}(ho:s.heap.get? it=U o)(hc:o.cls=.type n)(hd:o.data=.fields vs)
  (hn:["enumerate","zip","dict_itemiterator","dict_reverseitemiterator","odict_iterator","itertools.zip_longest","itertools.pairwise"].contains n=J) (z:Q () s):wpAny M A (letOwnedTupleGo tg (.ref it) u) Q E s:=by
 unfold letOwnedTupleGo;cases tg<;>first
  |exact wj z
  | (cases u<;>first
    |exact wj z
    | (refine wg (wpAny_load ho ?_)
       rw[hc,hd];show wpAny M A (if (["enumerate","zip","dict_itemiterator","dict_reverseitemiterator","odict_iterator","itertools.zip_longest","itertools.pairwise"].contains n&&vs[0]? == U (rawInt _))=Y then _ else _) Q E s
       rw[if_neg (by intro h;rw[hn,Bool.false_and]at h;cases h)]
       exact wj z))
noncomputable def Itl(K:xq)(a:Addr):It:=⟨λi H=>∃xs x,SqL K H a xs/\xs[i]?=U x,λi H x H'=>H'=H/\∀xs,SqL K H a xs->xs[i]?=U x,λi H=>∃xs,SqL K H a xs/\xs.length<=i⟩
noncomputable def Itt(K:xq)(a:Addr):It:=⟨λi H=>∃xs x,SqT K H a xs/\xs[i]?=U x,λi H x H'=>H'=H/\∀xs,SqT K H a xs->xs[i]?=U x,λi H=>∃xs,SqT K H a xs/\xs.length<=i⟩
noncomputable def p6(lo:Int)(n:Nat):It:=⟨λi _=>i<n,λi H x H'=>H'=H/\x=.int (lo+i),λi _=>n<=i⟩
def EI(a it:Addr):Turn P w K tg (Itl K a) [it] it (λi h=>h.IsListIter it a i) where
 mem:=by simp
 obj:=λi h st b hb=>by
  have e:b=it:=by simpa using hb
  subst e;obtain⟨o,e,c,d⟩:=st;exact⟨o,e,λv z=>by rw[d]at z;cases z⟩
 keep:=λi h h' st k=>st.at λo e=>k it zv o e
 item:=by
  intro X hP hw hK hc i pins s V H E I hf st hg;subst hP hw hK;obtain⟨xs,x,hq,hx⟩:=hg;obtain⟨its,rv,p,hz⟩:=I.list hq;obtain⟨u,hu,ru⟩:=rv.get hx;obtain⟨f0,f1,f2,f3,f4,f5⟩:=hf it zv
  refine wpAny_pyNext_list_item st p.isList (x:=u) (by simpa using hu) λh' aa sb=>?_
  have I1:Inv X pins V H {s with heap:=h' }:=I.turned (t':=s.toks) (λb o hb e=>(sb.2 b hb).trans e) f0 f1 f3 f4 f5
  obtain⟨o,e,c,d⟩:=id aa;exact⟨u,rfl,DG (s:={s with heap:=h' }) e c d zu ⟨x,H,I1,ru,⟨rfl,λys hy=>by rw[I.list_inj hy hq];exact hx⟩,aa,λb hb=>(hf b hb).1⟩⟩
 done:=by
  intro X hP hw hK hc i pins s V H E I hf st hg;subst hP hw hK;obtain⟨xs,hq,hx⟩:=hg;obtain⟨its,rv,p,hz⟩:=I.list hq;obtain⟨f0,f1,f2,f3,f4,f5⟩:=hf it zv
  have hl:=rv.length
  exact wpAny_pyNext_list_end (I.ok.hd hc) st p.isList (by simp;lia) λh' eb=>⟨rfl,I.turned (t':=s.toks) (λb o hb e=>eb b o hb e) f0 f1 f3 f4 f5⟩
 self:=λ_ _ _ _ _ st h=>wpAny_pyIter_listiter st h
def zD(a it:Addr):Turn P w K tg (Itt K a) [it] it (λi h=>h.IsTupleIter it a i) where
 mem:=by simp
 obj:=λi h st b hb=>by
  have e:b=it:=by simpa using hb
  subst e;obtain⟨o,e,c,d⟩:=st;exact⟨o,e,λv z=>by rw[d]at z;cases z⟩
 keep:=λi h h' st k=>st.at λo e=>k it zv o e
 item:=by
  intro X hP hw hK hc i pins s V H E I hf st hg;subst hP hw hK;obtain⟨xs,x,hq,hx⟩:=hg;obtain⟨its,rv,p,hz⟩:=I.tuple hq;obtain⟨u,hu,ru⟩:=rv.get hx;obtain⟨f0,f1,f2,f3,f4,f5⟩:=hf it zv
  refine wpAny_pyNext_tuple_item st (show s.heap.IsTuple a its.toArray from p) (x:=u) (by simpa using hu) λh' aa sb=>?_
  have I1:Inv X pins V H {s with heap:=h' }:=I.turned (t':=s.toks) (λb o hb e=>(sb.2 b hb).trans e) f0 f1 f3 f4 f5
  obtain⟨o,e,c,d⟩:=id aa;exact⟨u,rfl,DG (s:={s with heap:=h' }) e c d zu ⟨x,H,I1,ru,⟨rfl,λys hy=>by rw[I.tuple_inj hy hq];exact hx⟩,aa,λb hb=>(hf b hb).1⟩⟩
 done:=by
  intro X hP hw hK hc i pins s V H E I hf st hg;subst hP hw hK;obtain⟨xs,hq,hx⟩:=hg;obtain⟨its,rv,p,hz⟩:=I.tuple hq;obtain⟨f0,f1,f2,f3,f4,f5⟩:=hf it zv
  have hl:=rv.length
  exact wpAny_pyNext_tuple_end (I.ok.hd hc) st (show s.heap.IsTuple a its.toArray from p) (by simp;lia) λh' eb=>⟨rfl,I.turned (t':=s.toks) (λb o hb e=>eb b o hb e) f0 f1 f3 f4 f5⟩
 self:=λ_ _ _ _ _ st h=>wpAny_pyIter_tupleiter st h
def zE(it:Addr)(lo:Int)(n:Nat):Turn P w K tg (p6 lo n) [it] it (λi h=>IsRangeIter h it (lo+(i:Nat)*1) ((n:Int)-(i:Nat)) 1) where
 mem:=by simp
 obj:=λi h st b hb=>by
  have e:b=it:=by simpa using hb
  subst e;exact⟨_,st,λv z=>by
   have z':Data.fields _=Data.cell v:=z
   cases z'⟩
 keep:=λi h h' st k=>k it zv _ st
 item:=by
  intro X hP hw hK hc i pins s V H E I hf st hg;subst hP hw hK;obtain⟨f0,f1,f2,f3,f4,f5⟩:=hf it zv
  have W:=Walks.range (prog:=X.prog) (w:=X.w) (I.ok.hd hc) it lo 1 n
  refine W.item i s _ _ hg st λv h' tk hv aa kk=>?_
  obtain⟨t,rfl⟩:=hv;have I1:Inv X pins V H {s with heap:=h',toks:=tk}:=I.turned (λb o hb e=>kk b o (by simpa using hb) e) f0 f1 f3 f4 f5
  refine⟨_,rfl,DG (s:={s with heap:=h',toks:=tk}) (n:="range_iterator") aa rfl rfl zu ⟨.int (lo+i),H,I1,⟨t,?_⟩,⟨rfl,rfl⟩,aa,λb hb=>(hf b hb).1⟩⟩
  rw[Int.mul_one]
 done:=by
  intro X hP hw hK hc i pins s V H E I hf st hg;subst hP hw hK;obtain⟨f0,f1,f2,f3,f4,f5⟩:=hf it zv
  exact wpAny_pyNext_range_end (I.ok.hd hc) st (by have:n<=i:=hg;lia) λh' eb=>⟨rfl,I.turned (t':=s.toks) (λb o hb e=>eb b o hb e) f0 f1 f3 f4 f5⟩
 self:=λ_ _ _ _ _ st h=>wpAny_pyIter_rangeiter st h
section
variable {X:Cx}{tg:Expr}
def wY{V:St}{H:Hp}{R:It->Hp->Prop}{lo hi:Int}{t u v:Tok}{tk:Nat}(I:Inv X pins V H s)(h1:-(2 ^ 62)<=lo)(h2:lo<2 ^ 62)(h3:-(2 ^ 62)<=hi)(z:hi<2 ^ 62) (q:R (p6 lo (hi-lo).toNat) H):wpAny (model X.prog X.w) X.A (pyIter (.ref s.heap.objs.size)) (PIE X pins V tg R) E {s with heap:=s.heap.push {cls:=.type "range",data:=.fields #[.int lo t,.int hi u,.int 1 v]},toks:=tk}:=by
 refine wpAny_pyIter_range (IsRange.new ..) (small_one h1 h2 h3 z) ?_;have I1:Inv X pins V H {s with heap:=s.heap.push {cls:=.type "range",data:=.fields #[.int lo t,.int hi u,.int 1 v]},toks:=tk}:=I.kept λb o e=>uv _ e;refine⟨(s.heap.push {cls:=.type "range",data:=.fields #[.int lo t,.int hi u,.int 1 v]}).objs.size,[(s.heap.push {cls:=.type "range",data:=.fields #[.int lo t,.int hi u,.int 1 v]}).objs.size],_,_,H,rfl,I1.kept (t':=tk) λb o e=>uv _ e,zE _ lo (hi-lo).toNat,?_,λb hb=>?_,q⟩;have e1:lo+((0:Nat):Int)*1=lo:=by simp
 have e2:(((hi-lo).toNat:Nat):Int)-((0:Nat):Int)=Builtin.Range.rangeSize lo hi 1:=by rw[rangeSize_one];split<;>lia
 show IsRangeIter _ _ (lo+((0:Nat):Int)*1) ((((hi-lo).toNat:Nat):Int)-((0:Nat):Int)) 1;rw[e1,e2];exact wm _ rfl;have e:b=(s.heap.push {cls:=.type "range",data:=.fields #[.int lo t,.int hi u,.int 1 v]}).objs.size:=by simpa using hb
 subst e;exact I1.fpOk (uq _) (I1.hok.fresh (uq _))
def aEi(ta:TA):TI:=λV H R=>ta V H λvs H1=>∃j:Int,vs=[.int j]/\-(2 ^ 62)<=j/\j<2 ^ 62/\R (p6 0 j.toNat) H1
def aEh(ta:TA):TI:=λV H R=>ta V H λvs H1=>∃i j:Int,vs=[.int i,.int j]/\(-(2 ^ 62)<=i/\i<2 ^ 62/\-(2 ^ 62)<=j/\j<2 ^ 62)/\R (p6 i (j-i).toNat) H1
def FJ{a:Expr}{ta:TA}{p:Pos}(hg:Gl X "range")(hm:X.mg "range"=O)(ha:PA X [a] ta)(hs:starEach [a] X.env=[(J,eval a X.env)]:=by rfl):PI X tg (.Call (.Name "range" p) [a] [] pos) (aEi ta):=by
 intro pins s V H R I h;refine Call_ (iI I hg hm boot_range (vm (ae (ha pos pins s V H _ I h) λus s1 ⟨vs,H1,I1,r1,z⟩=>?_) hs rfl));obtain⟨j,e,z,q2,q⟩:=z;subst e;cases r1 with
 |cons r W=>cases W;obtain⟨t,rfl⟩:=r;exact call_range_1 (wY I1 (by lia) (by lia) z q2 (by simpa using q))
def FI{a b:Expr}{ta:TA}{p:Pos}(hg:Gl X "range")(hm:X.mg "range"=O)(ha:PA X [a,b] ta)(hs:starEach [a,b] X.env=[(J,eval a X.env),(J,eval b X.env)]:=by rfl)(l8:starEach [b] X.env=[(J,eval b X.env)]:=by rfl):PI X tg (.Call (.Name "range" p) [a,b] [] pos) (aEh ta):=by
 intro pins s V H R I h;refine Call_ (iI I hg hm boot_range (vm (ae (ha pos pins s V H _ I h) λus s1 ⟨vs,H1,I1,r1,W⟩=>?_) (by rw[hs,l8]) (by rw[l8];rfl)));obtain⟨i,j,e,⟨W,q2,q3,q4⟩,q⟩:=W;subst e;cases r1 with
 |cons r z=>
  cases z with
  |cons r' z=>cases z;obtain⟨t,rfl⟩:=r;obtain⟨t',rfl⟩:=r';exact call_range_2 (wY I1 W q2 q3 q4 q)
def aFd(wi:TI)(g:TG)(tb:TS):TS:=λD V H=>wi V H λæ H1=>∃W:Nat->Nat->St->Hp->Prop,(∃m,W 0 m V H1)/\∀i m V H,W i m V H ->(æ.stop i H/\D.nx V H)\/(æ.go i H/\∃N:St->Hp->Prop,(∀R H',N R H'->∃I,I<m/\W (i+1) I R H')/\∀x H',æ.yld i H x H'->g x V H' λz H2=>tb {D with nx:=N,ct:=N,bk:=D.nx} z H2)
noncomputable def mX(fp:List Addr)(h:Heap):List (Addr×Obj):=fp.filterMap λb=>(h.get? b).map λo=>(b,o)
def eY{fp:List Addr}{o:Obj}(hb:b∈fp)(e:h.get? b=U o):(b,o)∈mX fp h:=List.mem_filterMap.mpr ⟨b,hb,by rw[e];rfl⟩
def FO{fp:List Addr}{p:Addr×Obj}(hp:p∈mX fp h):p.1∈fp/\h.get? p.1=U p.2:=by
 obtain⟨b,hb,e⟩:=List.mem_filterMap.mp hp;cases q:h.get? b with
 |none=>rw[q]at e;cases e
 |some o=>rw[q]at e;have e':(b,o)=p:=v8 e;subst e';exact⟨hb,q⟩
def Inv.pinned{V:St}{H:Hp}{fp:List Addr}(I:Inv X pins V H s)(hf:∀b∈fp,jQ X pins H b)(ho:∀b∈fp,∃o,s.heap.get? b=U o/\∀v,o.data≠.cell v):Inv X (pins++mX fp s.heap) V H s:=I.pins_of λp hp=>(xp.mp hp).elim (λz=>I.pin p (wa _ z)) λz=>by obtain⟨hb,e⟩:=FO z;obtain⟨f0,f1,f2,_⟩:=hf p.1 hb;obtain⟨o,e',d⟩:=ho p.1 hb;rw[e]at e';cases e';exact⟨e,f0,f1,f2,d⟩
def Inv.unpinned{pl:xv}{V:St}{H:Hp}(I:Inv X (pins++pl) V H s):Inv X pins V H s:=I.pins_of λp hp=>I.pin p (wa _ (wb _ hp))
def aAy{iter:Expr}{body:List Stmt}{wi:TI}{g:TG}{tb:TS}(hp:PassesOwn (model X.prog X.w) X.A X.env X.xe)(hc:X.calm=Y)(hi:PI X tg iter wi)(hg:PG X tg g)(hb:PSs X body tb) (hs:∀x,foldedSetIterable iter X.env x=pure x:=by intro _;rfl):PS X (.For tg iter body [] pos) (aFd wi g tb):=by
 intro pins s V H D I h;refine wpAny_For (ae (hi pins s V H _ I h) λv s1 h1=>ae h1 λoq s2 h2=>?_) hs;obtain⟨it,fp,tn,æ,H2,e,I2,T,dt,f2,W,⟨m0,w0⟩,turn⟩:=h2;subst e;have c9:∀{H':Hp},(∀b∈fp,H' b=O)->∀b∈fp,jQ X pins H' b:=λhn b hb=>⟨hn b hb,(f2 b hb).2⟩;refine codeAny_forLoop_any (λn s'=>∃i V' H',Inv X pins V' H' s'/\tn i s'.heap/\(∀b∈fp,H' b=O)/\W i n V' H') ?_ m0 ⟨0,V,H2,I2,dt,λb hb=>(f2 b hb).1,w0⟩;rintro n s3 ⟨i,R,H3,I3,kc,fr3,w3⟩;rcases turn i n R H3 w3 with ⟨stop,qn⟩|⟨go,N,hN,step⟩;refine wpAny_passesOwn hp (ae (T.done X rfl rfl rfl hc i pins s3 R H3 X.xe I3 (c9 fr3) kc stop) λr s4 ⟨hr,I4⟩=>?_);subst hr;exact wpAny_execs_nil ⟨R,H3,I4,qn⟩
 .refine wpAny_passesOwn hp (ae (T.item X rfl rfl rfl hc i pins s3 R H3 X.xe I3 (c9 fr3) kc go) λr s4 ⟨u,hr,h4⟩=>?_)
  subst hr;refine wpAny_passesOwn hp (ae h4 λ_ s5 ⟨x,H5,I5,r5,y5,st5,fr5⟩=>?_);have I5':=I5.pinned (c9 fr5) (T.obj _ _ st5);refine wpAny_passesOwn hp (ae (hg _ s5 R H5 x u _ I5' r5 (step x H5 y5)) λ_ s6 ⟨σ6,H6,I6,q6⟩=>?_);refine wpAny_passesOwn hp (ae (hb _ s6 σ6 H6 _ I6 q6) λf s7 q7=>?_);have again:∀{z:St} {H7:Hp},Inv X (pins++mX fp s5.heap) z H7 s7->N z H7->∃m,m<n/\∃i V' H',Inv X pins V' H' s7/\tn i s7.heap/\(∀b∈fp,H' b=O)/\W i m V' H':=λ{z H7} I7 n7=>by obtain⟨m',hm,w7⟩:=hN z H7 n7;refine⟨m',hm,i+1,z,H7,I7.unpinned,T.keep _ _ _ st5 λb hb o e=>(I7.pin (b,o) (wa _ (wa _ (eY hb e)))).1,λb hb=>?_,w7⟩;obtain⟨o,e,d⟩:=T.obj _ _ st5 b hb;exact(I7.pin (b,o) (wa _ (wa _ (eY hb e)))).2.1
  cases f with
  |next=>obtain⟨z,H7,I7,n7⟩:=q7;exact again I7 n7
  |cont=>obtain⟨z,H7,I7,n7⟩:=q7;exact again I7 n7
  |brk=>obtain⟨z,H7,I7,q7⟩:=q7;exact⟨z,H7,I7.unpinned,q7⟩
  |ret v=>obtain⟨x7,z,H7,I7,r7,q7⟩:=q7;exact⟨x7,z,H7,I7.unpinned,r7,q7⟩
end
abbrev R2:=σ->σ->Hp->VK->Prop
def bg(X:Cx)(f:Value->Value->Sem Value)(r:R2):Prop:=∀(pins:xv) (s:Shared) (V:St) (H:Hp) (x y:σ) (v u:Value) (Q:VK),Inv X pins V H s->RelV x v->RelV y u->r x y H Q ->wpAny (model X.prog X.w) X.A (f v u) (EP X pins V Q) X.xe s
def UnR(X:Cx)(f:Value->Sem Value)(r:σ->Hp->VK->Prop):Prop:=∀(pins:xv) (s:Shared) (V:St) (H:Hp) (x:σ) (v:Value) (Q:VK),Inv X pins V H s->RelV x v->r x H Q ->wpAny (model X.prog X.w) X.A (f v) (EP X pins V Q) X.xe s
def eU(X:Cx)(f:Value)(r:List σ->Hp->VK->Prop):Prop:=∀(pins:xv) (s:Shared) (V:St) (H:Hp) (xs:List σ) (us:List Value) (Q:VK),Inv X pins V H s->aY xs us->r xs H Q ->wpAny (model X.prog X.w) X.A (call f us) (EP X pins V Q) X.xe s
def aFK(X:Cx)(r:σ->Hp->(Bool->Hp->Prop)->Prop):Prop:=∀(pins:xv) (s:Shared) (V:St) (H:Hp) (x:σ) (v:Value) (Q:Bool->Hp->Prop),Inv X pins V H s->RelV x v->r x H Q ->wpAny (model X.prog X.w) X.A (truthy v) (TP X pins V Q) X.xe s
def ka(r:R2)(ta tb:TE):TE:=λV H Q=>ta V H λx H1=>tb V H1 λy H2=>r x y H2 Q
def tUn(r:σ->Hp->VK->Prop)(ta:TE):TE:=λV H Q=>ta V H λx H1=>r x H1 Q
noncomputable def rI(C:Int->Int->Prop)(g:Int->Int->σ):R2:=λx y H Q=>∃i j,x=.int i/\y=.int j/\C i j/\Q (g i j) H
noncomputable def ke(g:Int->Int->σ):R2:=λx y H Q=>∃i j,x=.int i/\y=.int j/\Q (g i j) H
noncomputable def rU(g:Int->σ):σ->Hp->VK->Prop:=λx H Q=>∃i,x=.int i/\Q (g i) H
section
variable {X:Cx}{a b c:Expr}{ta tb tc:TE}{pos:Pos}
def aCf(ha:PE X a ta)(hb:PE X b tb){V:St}{H:Hp}{R:σ->σ->Hp->Prop}(I:Inv X pins V H s) (h:ta V H λx H1=>tb V H1 λy H2=>R x y H2)  {f:Value->Value->Sem Value} (hf:∀v u s2 x y H2,Inv X pins V H2 s2->RelV x v->RelV y u->R x y H2->wpAny (model X.prog X.w) X.A (f v u) Q X.xe s2):wpAny (model X.prog X.w) X.A (eval a X.env) (λv W=>wpAny (model X.prog X.w) X.A (eval b X.env) (λu z=>wpAny (model X.prog X.w) X.A (f v u) Q X.xe z) X.xe W) X.xe s:=by refine ae (ha pins s V H _ I h) λv s1 ⟨x,H1,I1,r1,q1⟩=>?_;refine ae (hb pins s1 V H1 _ I1 q1) λu s2 ⟨y,H2,I2,r2,q2⟩=>?_;exact hf v u s2 x y H2 I2 r1 r2 q2
def WT{op:Operator}{r:R2}(ho:bg X (binaryOp op) r)(ha:PE X a ta)(hb:PE X b tb):PE X (.BinOp a op b pos) (ka r ta tb):=by intro pins s V H Q I h;exact wpAny_BinOp (aCf ha hb I h λv u s2 x y H2 I2 R z q=>ho pins s2 V H2 x y v u Q I2 R z q)
def aDe{op:UnaryOp}{r:σ->Hp->VK->Prop}(ho:UnR X (unaryOp op) r)(ha:PE X a ta):PE X (.UnaryOp op a pos) (tUn r ta):=by intro pins s V H Q I h;exact UnaryOp_ (ae (ha pins s V H _ I h) λv s1 ⟨x,H1,I1,z,R⟩=>ho pins s1 V H1 x v Q I1 z R)
def opI{f:Value->Value->Sem Value}{C:Int->Int->Prop}{g:Int->Int->Int} (rule:∀(i j:Int) (t u:Tok) (s:Shared) (Q:xu) (E:xu),C i j->Q (.int (g i j) s.toks) {s with toks:=s.toks+1}->wpAny (model X.prog X.w) X.A (f (.int i t) (.int j u)) Q E s):bg X f (rI C λi j=>.int (g i j)):=by intro pins s V H x y v u Q I R z h;obtain⟨i,j,rfl,rfl,hc,q⟩:=h;obtain⟨t,rfl⟩:=R;obtain⟨t',rfl⟩:=z;exact rule i j t t' s _ _ hc ⟨.int (g i j),H,I.tok _,⟨_,rfl⟩,q⟩
def aDm{f:Value->Value->Sem Value}{g:Int->Int->Int} (rule:∀(i j:Int) (t u:Tok) (s:Shared) (Q:xu) (E:xu),Q (.int (g i j) s.toks) {s with toks:=s.toks+1}->wpAny (model X.prog X.w) X.A (f (.int i t) (.int j u)) Q E s):bg X f (ke λi j=>.int (g i j)):=by intro pins s V H x y v u Q I R z h;obtain⟨i,j,rfl,rfl,q⟩:=h;obtain⟨t,rfl⟩:=R;obtain⟨t',rfl⟩:=z;exact rule i j t t' s _ _ ⟨.int (g i j),H,I.tok _,⟨_,rfl⟩,q⟩
def UA{f:Value->Value->Sem Value}{g:Int->Int->Bool} (rule:∀(i j:Int) (t u:Tok) (s:Shared) (Q:xu) (E:xu),Q (.bool (g i j)) s->wpAny (model X.prog X.w) X.A (f (.int i t) (.int j u)) Q E s):bg X f (ke λi j=>.bl (g i j)):=by intro pins s V H x y v u Q I R z h;obtain⟨i,j,rfl,rfl,q⟩:=h;obtain⟨t,rfl⟩:=R;obtain⟨t',rfl⟩:=z;exact rule i j t t' s _ _ ⟨.bl (g i j),H,I,rfl,q⟩
def aFM(i j:Int):Prop:=0<j/\j<1073741824
def aFL(i j:Int):Prop:=0<=j/\j<=1000000/\i.natAbs<2 ^ 64
def aCl(i j:Int):Prop:=(-(2 ^ 64)<i/\i<2 ^ 64)\/(-(2 ^ 64)<j/\j<2 ^ 64)
def aCl.ok{i j:Int}(h:aCl i j):IntMulOk i j:=by rcases h with ⟨h1,h2⟩|⟨h1,h2⟩;exact .of_left (intBits_le_64 h1 h2);exact .of_right (intBits_le_64 h1 h2)
def aAO:bg X (binaryOp .Add) (ke λi j=>.int (i+j)):=aDm λ_ _ _ _ _ _ _ q=>add_int q
def aAJ:bg X (binaryOp .Sub) (ke λi j=>.int (i-j)):=aDm λ_ _ _ _ _ _ _ q=>sub_int q
def aAL:bg X (binaryOp .Mult) (rI aCl λi j=>.int (i*j)):=opI λ_ _ _ _ _ _ _ hc q=>mul_int q hc.ok
def TL:bg X (binaryOp .FloorDiv) (rI aFM λi j=>.int (i / j)):=opI λi j _ _ _ _ _ hc q=>by have h1:(0:Int)<j:=hc.1;have h2:j<1073741824:=hc.2;exact floordiv_int (by lia) (by rw[Int.fdiv_eq_ediv_of_nonneg i (by lia)];exact q) (.inl (PyProof.noPylong_small (by lia)))
def aAM:bg X (binaryOp .Mod) (rI (λ_ j=>0<j) λi j=>.int (i % j)):=opI λi j _ _ _ _ _ hc q=>by have h1:(0:Int)<j:=hc;exact mod_int' (by lia) (by rw[Int.fmod_eq_emod_of_nonneg i (by lia)];exact q)
def aAK:bg X (binaryOp .Pow) (rI aFL λi j=>.int (i ^ j.toNat)):=opI λ_ _ _ _ _ _ _ hc q=>pow_int_small hc.1 hc.2.1 hc.2.2 q
def unI{f:Value->Sem Value}{g:Int->Int} (rule:∀(i:Int) (t:Tok) (s:Shared) (Q:xu) (E:xu),Q (.int (g i) s.toks) {s with toks:=s.toks+1}->wpAny (model X.prog X.w) X.A (f (.int i t)) Q E s):UnR X f (rU λi=>.int (g i)):=by intro pins s V H x v Q I z h;obtain⟨i,rfl,q⟩:=h;obtain⟨t,rfl⟩:=z;exact rule i t s _ _ ⟨.int (g i),H,I.tok _,⟨_,rfl⟩,q⟩
def ZD:UnR X (unaryOp .USub) (rU λi=>.int (-i)):=unI λ_ _ _ _ _ q=>neg_int q
end
noncomputable def EY:σ->σ->Bool
 |.non,.non=>Y | .non,.int _=>Y | .int _,.non=>Y | .non,.bl _=>Y | .bl _,.non=>Y | .non,.str _=>Y | .str _,.non=>Y
 |.int _,.int _=>Y | .bl _,.bl _=>Y | .str _,.str _=>Y | .byt _,.byt _=>Y
 |.int _,.str _=>Y | .str _,.int _=>Y | .bl _,.str _=>Y | .str _,.bl _=>Y
 |_,_=>J
def rNe:R2:=λx y H Q=>EY x y=Y/\Q (.bl (!decide (x=y))) H
def VQ{i j:Int}:decide (σ.int i=σ.int j)=(i == j):=by rw[Bool.eq_iff_iff];simp
def aBZ{i j:Bool}:decide (σ.bl i=σ.bl j)=(i == j):=by rw[Bool.eq_iff_iff];simp
def VP{i j:Str}:decide (σ.str i=σ.str j)=(i == j):=by rw[Bool.eq_iff_iff];simp
def VR{i j:Array UInt8}:decide (σ.byt i=σ.byt j)=(i.toList == j.toList):=by rw[Bool.eq_iff_iff];cases i;cases j;simp
section
variable {X:Cx}{a b c:Expr}{ta tb tc:TE}{pos:Pos}
def dJ{V:St}{H:Hp}{Q:VK}{k k':Bool}(I:Inv X pins V H s)(q:Q (.bl k) H)(e:k=k'):EP X pins V Q (.bool k') s:=by subst e;exact⟨.bl k,H,I,rfl,q⟩
def aDh:bg X (compareOp .NotEq) rNe:=by
 intro pins s V H x y v u Q I R z h;obtain⟨hs,q⟩:=h;cases x with
 |non=>
  cases R;cases y with
  |non=>cases z;exact PySem.EqNone.ne_none_none (dJ I q zv)
  |bl j=>cases z;exact PySem.EqNone.ne_none_bool (dJ I q zv)
  |int j=>obtain⟨t',rfl⟩:=z;exact PySem.EqNone.ne_none_int (dJ I q zv)
  |str j=>obtain⟨t',rfl⟩:=z;exact PySem.EqNone.ne_none_str (dJ I q zv)
  |_=>exact absurd (show J=Y from hs) vc
 |bl i=>
  cases R;cases y with
  |non=>cases z;exact PySem.EqNone.ne_bool_none (dJ I q zv)
  |bl j=>cases z;exact ne_bool (dJ I q (congrArg not aBZ))
  |str j=>obtain⟨t',rfl⟩:=z;exact PySem.EqMixed.ne_bool_str (dJ I q zv)
  |_=>exact absurd (show J=Y from hs) vc
 |int i=>
  obtain⟨t,rfl⟩:=R;cases y with
  |non=>cases z;exact PySem.EqNone.ne_int_none (dJ I q zv)
  |int j=>obtain⟨t',rfl⟩:=z;exact ne_int (dJ I q (congrArg not VQ))
  |str j=>obtain⟨t',rfl⟩:=z;exact PySem.EqMixed.ne_int_str (dJ I q zv)
  |_=>exact absurd (show J=Y from hs) vc
 |str i=>
  obtain⟨t,rfl⟩:=R;cases y with
  |non=>cases z;exact PySem.EqNone.ne_str_none (dJ I q zv)
  |bl j=>cases z;exact PySem.EqMixed.ne_str_bool (dJ I q zv)
  |int j=>obtain⟨t',rfl⟩:=z;exact PySem.EqMixed.ne_str_int (dJ I q zv)
  |str j=>obtain⟨t',rfl⟩:=z;exact ne_str (dJ I q (congrArg not VP))
  |_=>exact absurd (show J=Y from hs) vc
 |byt i=>
  obtain⟨t,rfl⟩:=R;cases y with
  |byt j=>obtain⟨t',rfl⟩:=z;exact PySem.W.ne_bytes (dJ I q (congrArg not VR))
  |_=>exact absurd (show J=Y from hs) vc
 |_=>cases y<;>exact absurd (show J=Y from hs) vc
def aDi:bg X (compareOp .Lt) (ke λi j=>.bl (decide (i<j))):=UA λ_ _ _ _ _ _ _ q=>lt_int q
def aDj:bg X (compareOp .LtE) (ke λi j=>.bl (decide (i<=j))):=UA λ_ _ _ _ _ _ _ q=>le_int q
def aDk:bg X (compareOp .Gt) (ke λi j=>.bl (decide (j<i))):=UA λ_ _ _ _ _ _ _ q=>gt_int q
def aDl:bg X (compareOp .GtE) (ke λi j=>.bl (decide (j<=i))):=UA λ_ _ _ _ _ _ _ q=>ge_int q
def aAN:bg X (compareOp .Is) (λx y H Q=>y=.non/\Q (.bl (decide (x=.non))) H):=by
 intro pins s V H x y v u Q I z R h;obtain⟨rfl,q⟩:=h;cases R;refine is_none_gen (dJ I q ?_);cases x<;>first
  | (cases z;rfl)
  | (obtain⟨t,rfl⟩:=z;rfl)
def TK:bg X (compareOp .IsNot) (λx y H Q=>y=.non/\Q (.bl (!decide (x=.non))) H):=by
 intro pins s V H x y v u Q I z R h;obtain⟨rfl,q⟩:=h;cases R;refine isnot_none_gen (dJ I q ?_);cases x<;>first
  | (cases z;rfl)
  | (obtain⟨t,rfl⟩:=z;rfl)
def aBa(b:Expr)(h:op≠.In:=by decide)(h2:op≠.NotIn:=by decide):behindInMarks op b=J:=by
 have e1:(op == CmpOp.In)=J:=by cases op<;>first|rfl|exact absurd rfl h
 have e2:(op == CmpOp.NotIn)=J:=by cases op<;>first|rfl|exact absurd rfl h2
 cases b<;>simp[behindInMarks,e1,e2]
def TH{r:R2}(ho:bg X (compareOp op) r)(ha:PE X a ta)(hb:PE X b tb)(hm:behindInMarks op b=J):PE X (.Compare a [op] [b] pos) (ka r ta tb):=by intro pins s V H Q I h;exact wpAny_Compare1 (aCf ha hb I h λv u s2 x y H2 I2 R z q=>ho pins s2 V H2 x y v u Q I2 R z q) hm
noncomputable def ID(t:TE):TT:=λV H Q=>t V H λx H'=>∃k,x=.bl k/\Q k H'
def CH{r:R2}(ho:bg X (compareOp op) r)(ha:PE X a ta)(hb:PE X b tb)(hm:behindInMarks op b=J):PT X (.Compare a [op] [b] pos) (ID (ka r ta tb)):=by intro pins s V H Q I h;refine wpAny_isTrue_Compare1 (ae (ha pins s V H _ I h) λv s1 ⟨x,H1,I1,r1,q1⟩=>ae (hb pins s1 V H1 _ I1 q1) λu s2 ⟨y,H2,I2,W,q2⟩=>ae (ho pins s2 V H2 x y v u _ I2 r1 W q2) λc s3 ⟨z,H3,I3,R,k,e,q3⟩=>?_) hm;subst e;cases R;exact wpAny_truthy_bool ⟨H3,I3,q3⟩
def zG(r W:R2)(ta tb tc:TE):TE:=λV H Q=>ta V H λx H1=>tb V H1 λy H2=>r x y H2 λz I=>∃k,z=.bl k /\(if k=Y then tc V I λR H4=>W y R H4 Q else Q (.bl J) I)
def xF{R:CmpOp}{r r':R2}(ho:bg X (compareOp op) r)(iF:bg X (compareOp R) r')(ha:PE X a ta)(hb:PE X b tb)(hc:PE X c tc) (hm:lastMarks [op,R] [b,c]=J:=by with_unfolding_all rfl):PE X (.Compare a [op,R] [b,c] pos) (zG r r' ta tb tc):=by
 intro pins s V H Q I h;refine Compare_chain (ae (ha pins s V H _ I h) λv s1 ⟨x,H1,I1,r1,q1⟩=>chain_link (ae (hb pins s1 V H1 _ I1 q1) λu s2 ⟨y,H2,I2,W,q2⟩=>ae (ho pins s2 V H2 x y v u _ I2 r1 W q2) λd s3 ⟨z,H3,I3,r3,k,e,q3⟩=>?_)) hm;subst e;cases r3;refine wpAny_truthy_bool ?_;cases k with
 |false=>exact ite_ff ⟨.bl J,H3,I3,rfl,q3⟩
 |true=>exact ite_tt (chain_last (ae (hc pins s3 V H3 _ I3 q3) λw' s4 ⟨z',H4,I4,r4,q4⟩=>iF pins s4 V H4 y z' u w' Q I4 W r4 q4))
def xC{R:CmpOp}{r r':R2}(ho:bg X (compareOp op) r)(iF:bg X (compareOp R) r')(ha:PE X a ta)(hb:PE X b tb)(hc:PE X c tc) (hm:lastMarks [op,R] [b,c]=J:=by with_unfolding_all rfl):PT X (.Compare a [op,R] [b,c] pos) (ID (zG r r' ta tb tc)):=by
 intro pins s V H Q I h;refine isTrue_chain (ae (ha pins s V H _ I h) λv s1 ⟨x,H1,I1,r1,q1⟩=>test_link (ae (hb pins s1 V H1 _ I1 q1) λu s2 ⟨y,H2,I2,W,q2⟩=>ae (ho pins s2 V H2 x y v u _ I2 r1 W q2) λd s3 ⟨z,H3,I3,r3,k,e,q3⟩=>?_)) hm;subst e;cases r3;refine wpAny_truthy_bool ?_;cases k with
 |false=>obtain⟨k',e',q'⟩:=q3;cases e';exact ite_ff ⟨H3,I3,q'⟩
 |true=>refine ite_tt (test_last (ae (hc pins s3 V H3 _ I3 q3) λw' s4 ⟨z',H4,I4,r4,q4⟩=>ae (iF pins s4 V H4 y z' u w' _ I4 W r4 q4) λd' s5 ⟨z2,H5,I5,r5,k2,e2,q5⟩=>?_));subst e2;cases r5;exact wpAny_truthy_bool ⟨H5,I5,q5⟩
def aCh(K:xq)(x:σ)(H:Hp)(k:Bool):Prop:=
 match x with
 |.non=>k=J
 |.bl b=>k=b
 |.int i=>k=(i != 0)
 |.str y=>y.length<=sizeLine/\k=((y.length:Int) != 0)
 |.byt y=>y.size<=sizeLine/\k=((y.size:Int) != 0)
 |.ref p=>(∃xs,SqL K H p xs/\k=!xs.isEmpty)\/(∃xs,SqT K H p xs/\k=!xs.isEmpty)\/∃kvs,H p=U (.dK kvs)/\k=!kvs.isEmpty
 |_=>False
def AQ{κ:Type}{kvs:List (κ×σ)}{vs:List (κ×Value)}(r:KV kvs vs):(!vs.isEmpty)=!kvs.isEmpty:=by cases r<;>rfl
def qM{xs:List σ}{its:List Value}(r:aY xs its):(!its.toArray.isEmpty)=!xs.isEmpty:=by cases r<;>simp
def lB:(sizeLine:Nat)<2 ^ 63:=by rw[sizeLine_eq];decide
def IA:aFK X (λx H Q=>∃k,aCh X.K x H k/\Q k H):=by
 intro pins s V H x v Q I R h;obtain⟨k,e,q⟩:=h;have hl:=lB;have hs:sizeLine=16777216:=sizeLine_eq;cases x with
 |non=>cases R;have e':k=J:=e;subst e';exact truthy_none ⟨H,I,q⟩
 |bl b=>cases R;have e':k=b:=e;subst e';exact wpAny_truthy_bool ⟨H,I,q⟩
 |int i=>obtain⟨t,rfl⟩:=R;have e':k=(i != 0):=e;subst e';exact PySem.P.truthy_int ⟨H,I,q⟩
 |str y=>obtain⟨t,rfl⟩:=R;obtain⟨hy,e'⟩:y.length<=sizeLine/\k=((y.length:Int) != 0):=e;subst e';exact PySem.P.truthy_str (by lia) ⟨H,I.tok _,q⟩
 |byt y=>obtain⟨t,rfl⟩:=R;obtain⟨hy,e'⟩:y.size<=sizeLine/\k=((y.size:Int) != 0):=e;subst e';exact PySem.W.truthy_bytes (by lia) ⟨H,I.tok _,q⟩
 |ref p=>cases R;have e':(∃xs,SqL X.K H p xs/\k=!xs.isEmpty)\/(∃xs,SqT X.K H p xs/\k=!xs.isEmpty)\/∃kvs,H p=U (.dK kvs)/\k=!kvs.isEmpty:=e;rcases e' with ⟨xs,hx,e'⟩|⟨xs,hx,e'⟩|⟨kvs,hx,e'⟩;subst e';obtain⟨its,r,pl,hz⟩:=I.list hx;have z:=r.length;exact wpAny_truthy_list pl.isList (by simp only[uy];lia) ⟨H,I.tok _,by rw[qM r];exact q⟩;subst e';obtain⟨its,r,pl,hz⟩:=I.tuple hx;have z:=r.length;exact truthy_tuple pl (by simp only[uy];lia) ⟨H,I.tok _,by rw[qM r];exact q⟩;subst e';obtain⟨hz,hS,vs,r,m⟩:kvs.length<=sizeLine/\(p == sysModules)=J/\∃vs,KV kvs vs/\s.heap.DictOf (dE X.prog X.w) p vs:=I.hok p _ hx;have z:kvs.length=vs.length:=Paired.length r;exact wpAny_truthy_dict hS m (by lia) ⟨H,I.tok _,by rw[AQ r];exact q⟩
 |_=>exact(show False from e).elim
def JG(ha:PE X a ta)(he:∀z,isTrue a X.env z=(do let v <-z;standAt a.pos;holding [v] (truthy v))):PT X a (λV H Q=>ta V H λx H'=>∃k,aCh X.K x H' k/\Q k H'):=by intro pins s V H Q I h;exact isTrue_plain (ae (ha pins s V H _ I h) λv s1 ⟨x,H1,I1,R,W⟩=>IA pins s1 V H1 x v Q I1 R W) (he _)
def zY:bg X (binaryOp .Add) (λx y H Q=>∃i j,x=.str i/\y=.str j/\i.length+j.length<=sizeLine/\Q (.str (i++j)) H):=by intro pins s V H x y v u Q I R z h;obtain⟨i,j,rfl,rfl,hz,q⟩:=h;obtain⟨t,rfl⟩:=R;obtain⟨t',rfl⟩:=z;exact add_str (λt' tk=>⟨.str (i++j),H,I.tok _,⟨_,rfl⟩,q⟩) hz
def vals1{x:σ}(r:aY [x] us):∃u,us=[u]/\RelV x u:=by
 cases r with
 |cons I z=>cases z;exact⟨_,rfl,I⟩
def vals2{x y:σ}(r:aY [x,y] us):∃u z,us=[u,z]/\RelV x u/\RelV y z:=by
 cases r with
 |cons r1 W=>
  cases W with
  |cons R I=>cases I;exact⟨_,_,rfl,r1,R⟩
def GT(hc:X.calm=Y):eU X (.builtin "max") (λxs H Q=>∃i j,xs=[.int i,.int j]/\Q (.int (if j > i then j else i)) H):=by intro pins s V H xs us Q I r h;obtain⟨i,j,rfl,q⟩:=h;obtain⟨u,R,rfl,⟨t,rfl⟩,⟨t',rfl⟩⟩:=vals2 r;refine max_two_ints (I.ok.hd hc) λh' tk k=>⟨_,H,I.kept k,?_,q⟩;by_cases z:j > i;rw[if_pos z,if_pos z];exact⟨_,rfl⟩;rw[if_neg z,if_neg z];exact⟨_,rfl⟩
def GR(hc:X.calm=Y):eU X (.builtin "min") (λxs H Q=>∃i j,xs=[.int i,.int j]/\Q (.int (if j<i then j else i)) H):=by intro pins s V H xs us Q I r h;obtain⟨i,j,rfl,q⟩:=h;obtain⟨u,R,rfl,⟨t,rfl⟩,⟨t',rfl⟩⟩:=vals2 r;refine min_two_ints (I.ok.hd hc) λh' tk k=>⟨_,H,I.kept k,?_,q⟩;by_cases z:j<i;rw[if_pos z,if_pos z];exact⟨_,rfl⟩;rw[if_neg z,if_neg z];exact⟨_,rfl⟩
def tG:eU X (.type "int") (λxs H Q=>(∃i,xs=[.int i]/\Q (.int i) H)\/∃k,xs=[.bl k]/\Q (.int (if k then 1 else 0)) H):=by intro pins s V H xs us Q I r h;rcases h with ⟨i,rfl,q⟩|⟨k,rfl,q⟩;obtain⟨u,rfl,t,rfl⟩:=vals1 r;exact call_int_int ⟨.int i,H,I,⟨_,rfl⟩,q⟩;obtain⟨u,rfl,z⟩:=vals1 r;cases z;exact call_int_bool ⟨.int (if k then 1 else 0),H,I.tok _,⟨_,rfl⟩,q⟩
end
structure ObjM (h:Heap) (x dx C:Addr) (mA:xw):Prop where
 obj:h.get? x=U (instObj C dx)
 ns:h.Ns1 dx mA
 ne:dx≠x
def FY{dx:Addr}{mA:xw}(n:h.Ns1 dx mA):∃od,h.get? dx=U od/\∀name,lookIn name od=U (mA name):=by
 obtain⟨o,es,W,ho,hd,hk,_,hm⟩:=n;refine⟨o,ho,λname=>?_⟩;have e:=hm name;unfold nsFind findBy at e;rw[<-Array.find?_toList]at e;unfold lookIn;rw[hd];dsimp only;split;rename_i y q;rw[q]at e;exact congrArg U e;rename_i q;rw[q]at e;have a:es.toList.any (·.refKey)=J:=by rw[List.any_eq_false];intro y hy;obtain⟨z,t,I⟩:=hk y (Array.mem_toList_iff.mp hy);simp[DictEntry.refKey,I]
 have R:¬es.toList.any (·.refKey)=Y:=by rw[a];exact vc
 rw[if_neg R];exact congrArg U e
def ObjM.look{x dx:Addr}{mA:xw}(I:ObjM h x dx C mA):∃od,PySem.W.InstAt h x (instObj C dx) C (U od)/\∀name,lookIn name od=U (mA name):=
 let ⟨od,ho,hl⟩:=FY I.ns
 ⟨od,⟨I.obj,rfl,rfl,ho⟩,hl⟩
section
variable {prog:xt}{w:World}{A:Around}{E:xu}{s:Shared}{K:xq}{x dx C f:Addr}{mA:xw}{name:Str}{v:Value}
def get_map{z:Bool}(X:K.In s.heap)(I:ObjM s.heap x dx C mA)(hg:plainGet K C name=Y)(hh:hasDictIn K C=Y) (ha:findIn K (.ref C) name=U O) (hv:mA name=U v) (R:handedIn v=Y) (h:Q v {s with toks:=s.toks+1}):wpAny (model prog w) A (getAttr (.ref x) name z) Q E s:=by obtain⟨od,æ,hl⟩:=I.look;exact PySem.W.get_value X æ (plainGet_of hg).1 (PySem.W.findObj_own hh ha rfl (by rw[hl,hv])) R h
def MK{pl:Sem Bool}{Q:Value×List Value->Shared->Prop}(X:K.In s.heap)(I:ObjM s.heap x dx C mA)(hg:plainGet K C name=Y) (hf:findIn K (.ref C) name=U (U (.ref f))) (z:isFn K (.ref f)=Y) (hv:mA name=O) (h:Q (.ref f,[.ref x]) s):wpAny (model prog w) A (getMethod (.ref x) name pl) Q E s:=by obtain⟨od,æ,hl⟩:=I.look;exact PySem.W.method_fn X æ (plainGet_of hg).1 (plainGet_of hg).2 hf (vz.mp z) (by show (lookIn name od).map (·.isSome)=U J;rw[hl,hv];rfl) h
def RF{ns:List Str}{Q:Unit->Shared->Prop}(X:K.In s.heap)(I:ObjM s.heap x dx C mA) (hs:findIn K (.ref C) "__setattr__"=U (U (.builtin "object.__setattr__"))) (hp:plainOver K C=Y) (ht:takerIn K C name=U O) (hh:hasDictIn K C=Y) (hw:PySem.Within mA ns) (hsz:ns.length<=sizeLine) (h:∀h',ObjM h' x dx C (λy=>if y=name then U v else mA y)->Heap.SameBut dx s.heap h'->Q () {s with heap:=h',toks:=s.toks+2}):wpAny (model prog w) A (setAttr (.ref x) name v) Q E s:=by obtain⟨od,æ,hl⟩:=I.look;refine PySem.W.set_plain X æ hs (PySem.W.osa_open (s:={s with toks:=s.toks+1}) (r:=O) X æ hp ht λb=>?_);obtain⟨cd,hc,hd'⟩:=PySem.W.any_some hh;have hx:s.heap.get? x=U ⟨.ref C,U dx,.plain,#[]⟩:=I.obj;refine wg (wj (wg (wg (wpAny_loadPart hx (wg (PySem.W.Looks.here (s:={s with toks:=s.toks+1}) (PySem.W.looks_clsIn X hc) ?_))))));rw[hd'];refine wj (a:=U dx) (wg (wj (wg ?_)));refine wpAny_nsSet1 (s:={s with toks:=s.toks+1}) I.ns λh' z l8=>?_;obtain⟨oD,esD,epD,R,hdD,hcD⟩:=z.count (PySem.Within.cons name v hw);refine wg (wpAny_lookBehind R (by rw[hdD];exact pastItsLine_dict (vi hcD (by rw[wz];lia))) ?_);exact wj (h _ ⟨(l8.2 _ (Ne.symm I.ne)).trans I.obj,z,I.ne⟩ l8)
def LC{R:Result->Shared->Prop}{vs:List Value}(X:K.In s.heap)(hm:makesIn K C=Y) (hi:findIn K (.ref C) "__init__"=U (U (.ref f))) (hf:PySem.W.typeIn K (.ref f)=U (.type "function")) (h:codeAny (model prog w) (A.under (.builtin "type.__call__" ⟨.ref C::vs,kw⟩)) (.call (.ref f) ⟨.ref (s.heap.objs.size+1)::vs,kw⟩) (PySem.W.InitBack (s.heap.objs.size+1) R) {s with heap:=(s.heap.push emptyDict).push (instObj C s.heap.objs.size)}):codeAny (model prog w) A (.call (.ref C) ⟨vs,kw⟩) R s:=by obtain⟨z,g,d,t,os⟩:=s;exact PySem.W.make_core (PySem.W.makes_of X hm) (PySem.W.looks_findIn X hi) (λself=>PySem.W.bind_fn X self hf) (.inl rfl) h
end
noncomputable def iZ(f:Str)(v:σ):List (Str×σ)->List (Str×σ)
 |[]=>[(f,v)]
 | (g,x)::r=>if g=f then(g,v)::r else(g,x)::iZ f v r
theorem oQ(f g:Str)(v:σ):∀fs:List (Str×σ),(iZ f v fs).lookup g=if g=f then U v else fs.lookup g
 |[]=>by show List.lookup g [(f,v)]=_;by_cases h:g=f;have hb:(g == f)=Y:=vz.mpr h;simp only[List.lookup,hb,if_pos h];have hb:(g == f)=J:=w6.mpr h;simp only[List.lookup,hb,if_neg h]
 | (k,x)::r=>by have z:=oQ f g v r;rw[show iZ f v ((k,x)::r)=(if k=f then(k,v)::r else(k,x)::iZ f v r) from rfl];by_cases hk:k=f;rw[if_pos hk];by_cases h:g=k;have hb:(g == k)=Y:=vz.mpr h;simp only[List.lookup,hb,if_pos (h.trans hk)];have hb:(g == k)=J:=w6.mpr h;simp only[List.lookup,hb,if_neg (λe:g=f=>h (e.trans hk.symm))];rw[if_neg hk];by_cases h:g=k;have hb:(g == k)=Y:=vz.mpr h;simp only[List.lookup,hb,if_neg (λe:g=f=>hk (h.symm.trans e))];have hb:(g == k)=J:=w6.mpr h;simp only[List.lookup,hb];exact z
theorem nG(f:Str)(v:σ):∀fs:List (Str×σ),f∈(iZ f v fs).map (·.1)/\∀g,g∈fs.map (·.1)->g∈(iZ f v fs).map (·.1)
 |[]=>⟨by simp[iZ],λg h=>by simp at h⟩
 | (k,x)::r=>by obtain⟨I,z⟩:=nG f v r;rw[show iZ f v ((k,x)::r)=(if k=f then(k,v)::r else(k,x)::iZ f v r) from rfl];by_cases hk:k=f;rw[if_pos hk];subst hk;exact⟨zv,λg h=>by simpa using h⟩;rw[if_neg hk];refine⟨?_,λg h=>?_⟩;rw[vx];exact ux _ I;rw[vx]at h ⊢;rcases vk.mp h with e|e;exact vk.mpr (.inl e);exact ux _ (z g e)
theorem oR(f:Str)(v:σ):∀fs:List (Str×σ),(iZ f v fs).length<=fs.length+1
 |[]=>by simp[iZ]
 | (k,x)::r=>by have z:=oR f v r;rw[show iZ f v ((k,x)::r)=(if k=f then(k,v)::r else(k,x)::iZ f v r) from rfl];by_cases hk:k=f;rw[if_pos hk,wz,wz];lia;rw[if_neg hk,wz,wz];lia
def mO.some_of{v:σ}{o:Option Value}(r:mO (U v) o):∃u,o=U u/\RelV v u:=by
 cases o with
 |none=>exact(show False from r).elim
 |some u=>exact⟨u,rfl,r⟩
def mO.none_of{o:Option Value}(r:mO O o):o=O:=by
 cases o with
 |none=>rfl
 |some u=>exact(show False from r).elim
def GG{v:σ}(r:RelV v u):handedIn u=Y:=by
 cases v with
 |non=>cases (show u=Value.none from r);rfl
 |bl b=>cases (show u=Value.bool b from r);rfl
 |int i=>obtain⟨t,e⟩:=(show ∃t,u=Value.int i t from r);cases e;rfl
 |str x=>obtain⟨t,e⟩:=(show ∃t,u=Value.str x t from r);cases e;rfl
 |byt b=>obtain⟨t,e⟩:=(show ∃t,u=Value.bytes b t from r);cases e;rfl
 |flt b=>obtain⟨t,e⟩:=(show ∃t,u=Value.float b t from r);cases e;rfl
 |ref a=>cases (show u=Value.ref a from r);rfl
 |ty n=>cases (show u=Value.type n from r);rfl
section
variable {P:xt}{w:World}{H H':Hp}{h h':Heap}{a C dx:Addr}{fs fs':List (Str×σ)}
def pM(hok:HOk P w H h)(e:H a=U (.ins C dx fs)):∃mA,ObjM h a dx C mA/\(∀f,mO (fs.lookup f) (mA f))/\PySem.Within mA (fs.map (·.1))/\fs.length<=1000/\H dx=U (.own a):=by obtain⟨d,z,ne,ob,mA,n,r,q⟩:=(show cR P w H h a (.ins C dx fs) from hok a _ e);exact⟨mA,⟨ob,n,ne⟩,r,q,z,d⟩
end
structure Cls (K:xq) (C:Addr):Prop where
 pg:plainGet K C Str.empty=Y
 hd:hasDictIn K C=Y
 po:plainOver K C=Y
 sa:findIn K (.ref C) "__setattr__"=U (U (.builtin "object.__setattr__"))
def Cls.get(c:Cls K C)(f:Str):plainGet K C f=Y:=c.pg
def dP(K:xq)(C:Addr)(f:Str):Prop:=findIn K (.ref C) f=U O
def dP.taker{f:Str}(n:dP K C f):takerIn K C f=U O:=by unfold takerIn;rw[show findIn K (.ref C) f=U O from n];rfl
structure Con (K:xq) (C:Addr) (f:Str) (v:σ) (u:Value):Prop where
 at_:findIn K (.ref C) f=U (U u)
 rel:RelV v u
 get:specialIn K u "__get__"=U O
 cp:PySem.W.copiedNames.contains f=J
structure jj (K:xq) (C:Addr) (m:Str) (f:Addr):Prop where
 at_:findIn K (.ref C) m=U (U (.ref f))
 fn:isFn K (.ref f)=Y
 kp:keepIn K (.ref f)=Y
section
variable {X:Cx}{pins:xv}{V:St}{H:Hp}{s:Shared}{a C dx:Addr}{fs:List (Str×σ)}{f:Str}{v:σ}{A:Around}{E:xu}
def AX{b:Bool}(I:Inv X pins V H s)(e:H a=U (.ins C dx fs))(c:Cls X.K C)(n:dP X.K C f)(l:fs.lookup f=U v) (h:∀u s',Inv X pins V H s'->RelV v u->Q u s'):wpAny (model X.prog X.w) A (getAttr (.ref a) f b) Q E s:=by obtain⟨mA,z,r,_,_,_⟩:=pM I.hok e;obtain⟨u,hu,ru⟩:=mO.some_of (v:=v) (o:=mA f) (by rw[<-l];exact r f);exact get_map I.kIn z (c.get f) c.hd n hu (GG ru) (h u _ (I.tok _) ru)
def qV{m:Str}{g:Addr}{pl:Sem Bool}{Q:Value×List Value->Shared->Prop}(I:Inv X pins V H s)(e:H a=U (.ins C dx fs))(c:Cls X.K C)(k:jj X.K C m g)(l:fs.lookup m=O) (h:Q (.ref g,[.ref a]) s):wpAny (model X.prog X.w) A (getMethod (.ref a) m pl) Q E s:=by obtain⟨mA,z,r,_,_,_⟩:=pM I.hok e;have hn:mA m=O:=mO.none_of (by rw[<-l];exact r m);exact MK I.kIn z (c.get m) k.at_ k.fn hn h
def zL{y:σ}{Q:Unit->Shared->Prop}(I:Inv X pins V H s)(e:H a=U (.ins C dx fs))(c:Cls X.K C)(n:dP X.K C f)(hl:fs.length<1000)(ry:RelV y u) (h:∀s',Inv X pins V (upd H a (.ins C dx (iZ f y fs))) s'->Q () s'):wpAny (model X.prog X.w) A (setAttr (.ref a) f u) Q E s:=by
 obtain⟨mA,R,r,wi,_,ho⟩:=pM I.hok e;have hz:(fs.map (·.1)).length<=sizeLine:=by rw[uo,sizeLine_eq];lia
 refine RF I.kIn R c.sa c.po n.taker c.hd wi hz λh' W sb=>h _ ?_;have hd:∃o,h'.get? dx=U o:=let ⟨o,_,_,e',_⟩:=W.ns;⟨o,e'⟩
 refine I.write (x:=a) (e:=dx) (by rw[e];exact True.intro) (.inr ho) (λb q hb z=>(sb.2 b hb).trans z) hd ?_;refine⟨by rw[aS R.ne];exact ho,?_,R.ne,W.obj,_,W.ns,λg=>?_,λg hg=>?_⟩;have:=oR f y fs;lia;show mO ((iZ f y fs).lookup g) (if g=f then U u else mA g);rw[oQ];by_cases q:g=f;rw[if_pos q,if_pos q];exact ry;rw[if_neg q,if_neg q];exact r g;by_cases q:g=f;rw[q];exact(nG f y fs).1;refine(nG f y fs).2 g (wi g λz=>hg ?_);show (if g=f then U u else mA g)=O;rw[if_neg q];exact z
def Inv.made(I:Inv X pins V H s):Inv X pins V (upd (upd H s.heap.objs.size (.own (s.heap.objs.size+1))) (s.heap.objs.size+1) (.ins C s.heap.objs.size [])) {s with heap:=(s.heap.push emptyDict).push (instObj C s.heap.objs.size)}:=by
 have e1:(s.heap.push emptyDict).get? s.heap.objs.size=U emptyDict:=wm s.heap rfl;have e2:((s.heap.push emptyDict).push (instObj C s.heap.objs.size)).get? (s.heap.objs.size+1)=U (instObj C s.heap.objs.size):=by have:=wm (s.heap.push emptyDict) (o:=instObj C s.heap.objs.size) rfl;rwa [size_push]at this
 have z:(s.heap.push emptyDict).Ns s.heap.objs.size (λ_=>O):=⟨emptyDict,#[],_,e1,rfl,(λe he=>absurd he zv),λ_=>rfl⟩;have I1:=I.laid (a:=s.heap.objs.size) (o:=.own (s.heap.objs.size+1)) (h':=s.heap.push emptyDict) (t':=s.toks) (λb u q=>uv _ q) (uq _) ⟨_,e1⟩;refine I1.laid (a:=s.heap.objs.size+1) (o:=.ins C s.heap.objs.size []) (t':=s.toks) (λb u q=>uv _ q) (Nat.le_of_eq (size_push _ _)) ?_;have ne:s.heap.objs.size≠s.heap.objs.size+1:=w8 (wx _);refine⟨by rw[aS ne,aW],xg _,ne,e2,λ_=>O,(Heap.Ns1.of_empty z).at λo q=>uv _ q,λ_=>True.intro,λy hy=>absurd rfl hy⟩
def WB{prog:xt}{env:Env}{f:Str}(hb:attributeBase e f env (eval e env)=eval e env) (h:wpAny (model prog w) A (eval e env) (λo z=>wpAny (model prog w) A (getAttr o f Y) Q E z) E s):wpAny (model prog w) A (eval (.Attribute e f pos) env) Q E s:=Attribute_any_ h (by rw[arm_eval_Attribute,hb])
end
def aFe(K:xq)(ta:TE)(f:Str):TE:=λV H Q=>ta V H λx H1=>∃a C dx fs v,x=.ref a/\H1 a=U (.ins C dx fs)/\Cls K C/\dP K C f/\fs.lookup f=U v/\Q v H1
def aFh(K:xq)(ta tv:TE)(f:Str):TS:=λD V H=>tv V H λy H1=>ta V H1 λx H2=>∃a C dx fs,x=.ref a/\H2 a=U (.ins C dx fs)/\Cls K C/\dP K C f/\fs.length<1000 /\D.nx V (upd H2 a (.ins C dx (iZ f y fs)))
section
variable {X:Cx}{o e value:Expr}{f:Str}{pos pos' tpos:Pos}{ta tv:TE}
def aAG(he:PE X e ta)(hb:attributeBase e f X.env (eval e X.env)=eval e X.env):PE X (.Attribute e f pos) (aFe X.K ta f):=by intro pins s V H Q I h;refine WB hb (ae (he pins s V H _ I h) λu s1 ⟨x,H1,I1,z,a,C,dx,fs,v,ex,ea,c,n,l,q⟩=>?_);subst ex;obtain rfl:u=Value.ref a:=z;exact AX I1 ea c n l λR s2 I2 ru=>⟨v,H1,I2,ru,q⟩
def aAz(ha:PE X o ta)(hv:PE X value tv)(hs:swapsWith value (U (.Attribute o f pos')) pos.line X.env=pure J):PS X (.Assign [.Attribute o f pos'] value pos) (aFh X.K ta tv f):=by intro pins s V H D I h;refine plainObj_wpAny_Assign_Attribute (ae (hv pins s V H _ I h) λu s1 ⟨y,H1,I1,z,q⟩=>ae (ha pins s1 V H1 _ I1 q) λW s2 ⟨x,H2,I2,R,a,C,dx,fs,ex,ea,c,n,l,q2⟩=>?_) hs;subst ex;obtain rfl:W=Value.ref a:=R;exact zL I2 ea c n l z λs3 I3=>⟨V,_,I3,q2⟩
end
section
variable {X:Cx}{pins:xv}{V:St}{H:Hp}{s:Shared}{A:Around}{E:xu}{Q:xu}{c:Value}{b:Bool}
inductive cz (K:xq) (H:Hp):σ->Value->Prop where
 |non:cz K H .non (.type "NoneType")
 |bl (x:Bool):cz K H (.bl x) (.type "bool")
 |int (i:Int):cz K H (.int i) (.type "int")
 |str (x:Str):cz K H (.str x) (.type "str")
 |flt (x:UInt64):cz K H (.flt x) (.type "float")
 |lst {a:Addr} {xs:List σ} (e:H a=U (.lst xs)):cz K H (.ref a) (.type "list")
 |frz {a:Addr} {o:Obj} {xs:List σ} (e:H a=U (.frz o (.lst xs))):cz K H (.ref a) (.type "list")
 |tup {a:Addr} {xs:List σ} (e:H a=U (.tup xs)):cz K H (.ref a) (.type "tuple")
 |dK {a:Addr} {kvs:List (Key×σ)} (e:H a=U (.dK kvs)):cz K H (.ref a) (.type "dict")
 |dT {a:Addr} {kvs:List (List Key×σ)} (e:H a=U (.dT kvs)):cz K H (.ref a) (.type "dict")
 |ins {a C dx:Addr} {fs:List (Str×σ)} (e:H a=U (.ins C dx fs)) (cl:Cls K C) (ha:findIn K (.ref C) "__class__"=U (U (.builtin "object.__class__")))
   (hn:specialIn K (.builtin "object.__class__") "__get__"=U (U (.builtin "getset_descriptor.__get__"))) (ow:takesIn K (.builtin "object.__class__")=U Y)
   (hm:mroIn K C (.type "object")=U Y):cz K H (.ref a) (.ref C)
def gY{x:σ}{t:Value}(I:Inv X pins V H s)(R:RelV x u)(ty:cz X.K H x t)(e:kitOne X.K t c=U b)(h:∀tk,Q (.bool b) {s with toks:=tk}):wpAny (model X.prog X.w) A (call (.builtin "isinstance") [u,c]) Q E s:=by
 cases ty with
 |non=>cases (show u=Value.none from R);exact kia_one PySem.W.kitx_none I.kIn True.intro e (λz=>nomatch z) h
 |bl y=>cases (show u=Value.bool y from R);exact kia_one PySem.W.kitx_bool I.kIn True.intro e (λz=>nomatch z) h
 |int i=>obtain⟨t,q⟩:=(show ∃t,u=Value.int i t from R);cases q;exact kia_one PySem.W.kitx_int I.kIn True.intro e (λz=>nomatch z) h
 |str y=>obtain⟨t,q⟩:=(show ∃t,u=Value.str y t from R);cases q;exact kia_one PySem.W.kitx_str I.kIn True.intro e (λz=>nomatch z) h
 |flt y=>obtain⟨t,q⟩:=(show ∃t,u=Value.float y t from R);cases q;exact kia_one PySem.W.kitx_float I.kIn True.intro e (λz=>nomatch z) h
 | @lst a xs ea=>cases (show u=Value.ref a from R);obtain⟨_,_,n,_,h1⟩:=(show cR X.prog X.w H s.heap a (.lst xs) from I.hok a _ ea);exact kia_one kitx_list I.kIn ⟨_,h1,rfl⟩ e (λz=>nomatch z) h
 | @frz a ob xs ea=>cases (show u=Value.ref a from R);obtain⟨_,_,_,n,_,h1⟩:=(show cR X.prog X.w H s.heap a (.frz ob (.lst xs)) from I.hok a _ ea);exact kia_one kitx_list I.kIn ⟨_,h1,rfl⟩ e (λz=>nomatch z) h
 | @tup a xs ea=>cases (show u=Value.ref a from R);obtain⟨_,_,_,p⟩:=(show cR X.prog X.w H s.heap a (.tup xs) from I.hok a _ ea);obtain⟨o,h1,h2,_⟩:=p;exact kia_one PySem.W.kitx_tuple I.kIn ⟨o,h1,h2⟩ e (λz=>nomatch z) h
 | @dK a kvs ea=>cases (show u=Value.ref a from R);obtain⟨_,_,vs,_,p⟩:=(show cR X.prog X.w H s.heap a (.dK kvs) from I.hok a _ ea);obtain⟨o,es,ep,h1,h2,_⟩:=p;exact kia_one kitx_dict I.kIn ⟨o,h1,h2.1⟩ e (λz=>nomatch z) h
 | @dT a kvs ea=>cases (show u=Value.ref a from R);obtain⟨_,_,xs,_,o,es,ep,h1,h2,_⟩:=(show cR X.prog X.w H s.heap a (.dT kvs) from I.hok a _ ea);exact kia_one kitx_dict I.kIn ⟨o,h1,h2.1⟩ e (λz=>nomatch z) h
 | @ins a C dx fs ea cl ha hn ow hm=>cases (show u=Value.ref a from R);obtain⟨mA,ð,_⟩:=pM I.hok ea;obtain⟨od,æ,_⟩:=ð.look;exact kia_one (PySem.W.kitx_own (cl.get _) cl.hd ha hn ow hm) I.kIn æ e (λz=>nomatch z) h
end
structure Room (k:Nat) (A:Around):Prop where
 hd:A.handled=O
 dp:A.depth+3*k+5<recursionLimit
 un:A.units+16*k+200<cLine
def Room.mono{j k:Nat}(r:Room k A)(h:j<=k):Room j A:=⟨r.hd,by have:=r.dp;lia,by have:=r.un;lia⟩
theorem Room.deeper{k:Nat}(r:Room (k+1) A)(env:Env):Room k (A.deeper env):=⟨r.hd,by have:=r.dp;show A.depth+1+3*k+5<_;lia,by have:=r.un;show A.units+3+16*k+200<_;lia⟩
def AJ:(A.under (.builtin "type.__call__" ⟨.ref C::us,kw⟩)).depth=A.depth+1:=by first|rfl|simp[Around.under,Code.weight,Code.isCreation,Code.isGuard,Code.isCaller,Code.frames,Code.isFrame,guardIds]
def AI:(A.under (.builtin "type.__call__" ⟨.ref C::us,kw⟩)).units=A.units+1:=by first|rfl|simp[Around.under,Code.cUnits,Code.frames,Code.isFrame]
def Room.make{k:Nat}(r:Room (k+1) A)(C:Addr)(us:List Value)(kw:List (Str×Value)):Room k (A.under (.builtin "type.__call__" ⟨.ref C::us,kw⟩)):=⟨r.hd,by have:=r.dp;rw[AJ];lia,by have:=r.un;rw[AI];lia⟩
theorem Room.depth{k:Nat}(r:Room k A):A.depth<recursionLimit:=by have:=r.dp;lia
theorem Room.units{k:Nat}(r:Room k A):A.units+64<cLine:=by have:=r.un;lia
def ZH:TA:=λ_ H Q=>Q [] H
def WM(ta:TE)(tr:TA):TA:=λV H Q=>ta V H λx H1=>tr V H1 λxs H2=>Q (x::xs) H2
section
variable {X:Cx}{e:Expr}{es:List Expr}{te:TE}{t:TA}{pos:Pos}
def fN:PA X [] ZH:=λ_ _ _ _ H Q I h=>Calls.spliced_nil ⟨[],H,I,.nil,h⟩
def bT(ha:PE X e te)(hr:PA X es t)(hs:starEach (e::es) X.env=(J,eval e X.env)::starEach es X.env:=by rfl):PA X (e::es) (WM te t):=by intro pos pins s V H Q I h;rw[hs];show wpAny _ _ (spliced ((J,eval e X.env)::backTo pos (starEach es X.env))) _ _ s;refine Calls.spliced_cons (ae (ha pins s V H _ I h) λu s1 ⟨x,H1,I1,R,W⟩=>?_);exact ae (hr pos pins s1 V H1 _ I1 W) λus s2 ⟨xs,H2,I2,z,q2⟩=>⟨x::xs,H2,I2,.cons R z,q2⟩
def aEW(t:TA):TE:=λV H Q=>t V H λxs H1=>xs.length<=sizeLine/\∀p,H1 p=O->Q (.ref p) (upd H1 p (.tup xs))
def aFb(t:TA):TE:=λV H Q=>t V H λxs H1=>xs.length<=sizeLine/\∀p,H1 p=O->Q (.ref p) (upd H1 p (.lst xs))
def aAB{x1}(h:PA X es t):PE X (.Tuple es x1 pos) (aEW t):=by intro pins s V H Q I hq;refine wpAny_Tuple_spliced (ae (h pos pins s V H _ I hq) λus s1 ⟨xs,H1,I1,r,z,q⟩=>⟨by rw[<-r.length];exact z,?_⟩);have hf:H1 s1.heap.objs.size=O:=I1.hok.fresh (uq _);refine⟨.ref s1.heap.objs.size,upd H1 s1.heap.objs.size (.tup xs),I1.laid (t':=s1.toks) (λb u e=>uv _ e) (uq _) ?_,rfl,q _ hf⟩;exact⟨z,us,r,⟨_,wm _ rfl,rfl,_,rfl⟩⟩
def JP(h:PA X es t):PE X (.List es pos) (aFb t):=by intro pins s V H Q I hq;refine wpAny_List_spliced (ae (h pos pins s V H _ I hq) λus s1 ⟨xs,H1,I1,r,z,q⟩=>⟨by rw[<-r.length];exact z,?_⟩);have hf:H1 s1.heap.objs.size=O:=I1.hok.fresh (uq _);refine⟨.ref s1.heap.objs.size,upd H1 s1.heap.objs.size (.lst xs),I1.laid (t':=s1.toks) (λb u e=>uv _ e) (uq _) ?_,rfl,q _ hf⟩;exact⟨z,us,0,r,wm _ rfl⟩
end
abbrev Sp:=List σ->Hp->VK->XK->Prop
abbrev aq:=List Env->Hp->Shared->XK->Value->Shared->Prop
structure Env0 (P:xt) (w:World) (K:xq) (mg:xw) (base:Heap) (A:Around) (outer:List Env) (s:Shared) (H:Hp):Prop where
 frames:A.frames=U outer
 mod:Mod K mg base
 bs:∀b o,base.get? b=U o->s.heap.get? b=U o/\H b=O
 bsz:base.objs.size<=s.heap.objs.size
 funs:s.heap.FunFrames base outer
 frf:∀b∈frs outer,H b=O
 hok:HOk P w H s.heap
 bare:AllBare s.gens
def CE(outer:List Env)(P:xt)(w:World)(H:Hp)(s:Shared)(Q:VK)(u:Value)(s':Shared):Prop:=∃v H',s'.os=s.os/\AllBare s'.gens/\Un (frs outer) [] H H' s.heap s'.heap/\HOk P w H' s'.heap/\RelV v u/\Q v H'
def CR(CX:aq)(outer:List Env)(P:xt)(w:World)(H:Hp)(s:Shared)(Q:VK)(E:XK)(r:Result)(s':Shared):Prop:=
 match r with
 |.ok (.ret u)=>CE outer P w H s Q u s'
 |.ok _=>False
 |.error e=>CX outer H s E e s'
structure FnOk (P:xt) (w:World) (K:xq) (mg:xw) (base:Heap) (CX:aq) (k:Nat) (f:Addr) (fd:xr) (ps:List Str) (sp:Sp):Prop where
 len:∀vs H Q E,sp vs H Q E->vs.length=ps.length
 run:∀(A:Around) (outer:List Env) (s:Shared) (H:Hp) (args:Args) (us:List Value) (vs:List σ) (Q:VK) (E:XK),Room k A->Env0 P w K mg base A outer s H->BindsTo s fd args (ps.zip us)->aY vs us->sp vs H Q E ->
  codeAny (model P w) A (.call (.ref f) args) (CR CX outer P w H s Q E) s
theorem FnOk.mono{CX:aq}{j k:Nat}{f:Addr}{sp:Sp}(F:FnOk P w K mg base CX j f fd ps sp)(h:j<=k):FnOk P w K mg base CX k f fd ps sp:=⟨F.len,λA outer s H args us vs Q E hr=>F.run A outer s H args us vs Q E (hr.mono h)⟩
def FnOk.imp{CX:aq}{k:Nat}{f:Addr}{sp z:Sp}(F:FnOk P w K mg base CX k f fd ps sp) (h:∀vs H Q E,z vs H Q E->sp vs H Q E):FnOk P w K mg base CX k f fd ps z:=⟨λvs H Q E q=>F.len vs H Q E (h _ _ _ _ q),λA outer s H args us vs Q E hr he hb hv hs=>F.run A outer s H args us vs Q E hr he hb hv (h _ _ _ _ hs)⟩
def Env0.make{outer:List Env}{H:Hp}(e:Env0 P w K mg base A outer s H)(C:Addr)(us:List Value)(kw:List (Str×Value)):Env0 P w K mg base (A.under (.builtin "type.__call__" ⟨.ref C::us,kw⟩)) outer s H:=⟨by first|exact e.frames|(simpa [Around.under,Code.envs,Code.isFrame,pushEnvs] using e.frames),e.mod,e.bs,e.bsz,e.funs,e.frf,e.hok,e.bare⟩
section
variable {X:Cx}{pins:xv}{V:St}{H:Hp}{s s':Shared}
def Inv.env0(I:Inv X pins V H s):Env0 X.prog X.w X.K X.mg X.base X.A X.stack s H:=⟨I.ok.frames,I.ok.mod,I.bs,vi I.ok.bsz I.sz,I.stack,I.stkFree,I.hok,I.bare⟩
def Inv.after{Q:VK}(I:Inv X pins V H s)(h:CE X.stack X.prog X.w H s Q u s'):EP X pins V Q u s':=by obtain⟨v,H',os,bare,un,hok,r,q⟩:=h;obtain⟨W,g,d,t,R⟩:=s';obtain rfl:R=s.os:=os;exact⟨v,H',I.call (h':=W) (g':=g) (d':=d) (t':=t) (ch:=[]) un hok bare (λb z=>absurd z zv),r,q⟩
end
def BY(sp:Sp)(dvs:List σ)(E:XK)(t:TA):TE:=λV H Q=>t V H λvs H1=>sp (vs++dvs) H1 Q E
def Binds(K:xq)(fd:xr)(ps:List Str)(ds:List Value):Prop:=∀(s:Shared) (us:List Value),K.In s.heap->(us++ds).length=ps.length->BindsTo s fd ⟨us,[]⟩ (ps.zip (us++ds))
def Binds.all(h:∀us:List Value,us.length=ps.length->bindArgs fd ⟨us,[]⟩=pure (ps.zip us)):Binds K fd ps []:=λs us _ hl=>by rw[vt]at hl ⊢;exact .of_eq (h us hl)
def gW(CX:aq)(X:Cx)(E:XK):Prop:=∀(pins:xv) (V:St) (H:Hp) (s:Shared) (e:Value) (s':Shared),Inv X pins V H s->CX X.stack H s E e s'->X.xe e s'
section
variable {X:Cx}{CX:aq}{k:Nat}{f C:Addr}{fd:xr}{ps:List Str}{sp:Sp}{dvs:List σ}{ds:List Value}{E:XK}{x m:Str}{p pos apos:Pos}{e o:Expr}{es:List Expr}{ta:TE}{t:TA}
def tY{V:St}{H:Hp}{Q:VK}{vs:List σ}(F:FnOk X.prog X.w X.K X.mg X.base CX k f fd ps sp)(hr:Room k X.A)(hb:Binds X.K fd ps ds)(hd:aY dvs ds)(hx:gW CX X E) (I:Inv X pins V H s) (r:aY vs us) (h:sp (vs++dvs) H Q E):wpAny (model X.prog X.w) X.A (call (.ref f) us) (EP X pins V Q) X.xe s:=by
 have z:aY (vs++dvs) (us++ds):=r.append hd;have hl:(us++ds).length=ps.length:=by rw[<-z.length];exact F.len _ _ _ _ h
 refine wpAny_call (codeAny_mono (F.run X.A X.stack s H ⟨us,[]⟩ (us++ds) (vs++dvs) Q E hr I.env0 (hb s us I.kIn hl) z h) λr s' hq=>?_);cases r with
 |error e=>exact hx pins V H s e s' I hq
 |ok fl=>
  cases fl with
  |ret u=>exact I.after hq
  |next=>exact False.elim hq
  |brk=>exact False.elim hq
  |cont=>exact False.elim hq
def CO(F:FnOk X.prog X.w X.K X.mg X.base CX k f fd ps sp)(hr:Room k X.A)(hg:Gl X x)(hm:X.mg x=U (.ref f))(hk:keepIn X.K (.ref f)=Y)(hb:Binds X.K fd ps ds)(hd:aY dvs ds)(hx:gW CX X E) (ha:PA X (e::es) t) (R:(x == ("__debug__":Str))=J:=by decide) (he:starEach (e::es) X.env=(J,eval e X.env)::starEach es X.env:=by rfl) (z:(backTo pos (starEach es X.env)).any (·.1)=J:=by rfl):PE X (.Call (.Name x p) (e::es) [] pos) (BY sp dvs E t):=by intro pins s V H Q I h;refine wpAny_Call_Name_kw (gL I hg hm ?_ R);refine callWith_K (h₀:=X.base) I.ok.mod.kin hk (ae (ha pos pins s V H _ I h) λus s1 ⟨vs,H1,I1,r,q⟩=>⟨I1.kIn,?_⟩) he z;exact tY F hr hb hd hx I1 r q
def xG(F:FnOk X.prog X.w X.K X.mg X.base CX k f fd ps sp)(hr:Room k X.A)(hg:Gl X x)(hm:X.mg x=U (.ref f))(hk:keepIn X.K (.ref f)=Y)(hb:Binds X.K fd ps ds)(hd:aY dvs ds)(hx:gW CX X E) (z:(x == ("__debug__":Str))=J:=by decide):PE X (.Call (.Name x p) [] [] pos) (BY sp dvs E ZH):=by intro pins s V H Q I h;refine wpAny_Call_Name_kw (gL I hg hm ?_ z);exact callWith_K0 I.kIn hk (tY (us:=[]) F hr hb hd hx I .nil h)
structure Mk (K:xq) (C f:Addr):Prop where
 makes:makesIn K C=Y
 init:findIn K (.ref C) "__init__"=U (U (.ref f))
 fn:isFn K (.ref f)=Y
 kp:keepIn K (.ref C)=Y
end
section
variable {X:Cx}{CX:aq}{k:Nat}{f C:Addr}{fd:xr}{ps ks:List Str}{sp:Sp}{E:XK}{x m:Str}{p pos apos kpos:Pos}{e o:Expr}{es:List Expr}{kws:List Keyword}{te ta:TE}{t tk:TA}{nm:Option Str}
structure KBinds (K:xq) (fd:xr) (ps ks:List Str) (g:List Value->List Value->List Value) (gV:List σ->List σ->List σ):Prop where
 to:∀(s:Shared) (us ws:List Value),K.In s.heap->(g us ws).length=ps.length->BindsTo s fd ⟨us,ks.zip ws⟩ (ps.zip (g us ws))
 rel:∀{vs:List σ} {us:List Value} {zs:List σ} {ws:List Value},aY vs us->aY zs ws->aY (gV vs zs) (g us ws)
variable {g:List Value->List Value->List Value}{gV:List σ->List σ->List σ}
end
structure ah (N P:List Str) (sc:Scope):Prop where
 kind:sc.kind=.function
 co:sc.isCoroutine=J
 gen:sc.isGenerator=J
 nd:N.Nodup
 pre:N.take P.length=P
 par:∀x∈P,sc.names.lookup x=U .local\/sc.names.lookup x=U .cell
 nofree:∀y∈sc.names,y.2≠.free
theorem tK{kindOf:Str->Option NameKind}{x:Str}:∀{binds:List (Str×Value)} {m:xw},(∀v,(x,v)∉binds)->bindL kindOf binds m x=m x
 |[],_,_=>rfl
 | (n,v)::r,m,h=>by
  unfold bindL;rw[tK λw hw=>h w (ux _ hw)];split;have:x≠n:=by rintro rfl;exact h v wu
  simp[this];rfl
theorem tM{kindOf:Str->Option NameKind}{x:Str}:∀{binds:List (Str×Value)} {m:xw},(∀v,(x,v)∉binds)->bindC kindOf binds m x=m x
 |[],_,_=>rfl
 | (n,v)::r,m,h=>by
  unfold bindC;rw[tM λw hw=>h w (ux _ hw)];split;rfl;have:x≠n:=by rintro rfl;exact h v wu
  simp[this]
theorem tL{kindOf:Str->Option NameKind}{x:Str}{v:Value}:∀{P:List Str} {vs:List Value} {i:Nat} {m:xw},P.Nodup->P[i]?=U x->vs[i]?=U v->kindOf x=U .local ->bindL kindOf (P.zip vs) m x=U v
 |[],_,_,_,_,h,_,_=>by simp at h
 |_::_,[],_,_,_,_,h,_=>by simp at h
 |p::P,w::vs,0,m,nd,h1,h2,hk=>by simp at h1 h2;subst h1;subst h2;show bindL kindOf ((p,w)::P.zip vs) m p=_;unfold bindL;rw[tK λv hv=>(nodup_cons.mp nd).1 (List.of_mem_zip hv).1,if_pos hk];simp
 |p::P,w::vs,i+1,m,nd,h1,h2,hk=>by show bindL kindOf ((p,w)::P.zip vs) m x=_;unfold bindL;exact tL (i:=i) (nodup_cons.mp nd).2 (by simpa using h1) (by simpa using h2) hk
theorem tN{kindOf:Str->Option NameKind}{x:Str}{v:Value}:∀{P:List Str} {vs:List Value} {i:Nat} {m:xw},P.Nodup->P[i]?=U x->vs[i]?=U v->kindOf x≠U .local ->bindC kindOf (P.zip vs) m x=U v
 |[],_,_,_,_,h,_,_=>by simp at h
 |_::_,[],_,_,_,_,h,_=>by simp at h
 |p::P,w::vs,0,m,nd,h1,h2,hk=>by simp at h1 h2;subst h1;subst h2;show bindC kindOf ((p,w)::P.zip vs) m p=_;unfold bindC;rw[tM λv hv=>(nodup_cons.mp nd).1 (List.of_mem_zip hv).1,if_neg hk];simp
 |p::P,w::vs,i+1,m,nd,h1,h2,hk=>by show bindC kindOf ((p,w)::P.zip vs) m x=_;unfold bindC;exact tN (i:=i) (nodup_cons.mp nd).2 (by simpa using h1) (by simpa using h2) hk
noncomputable def start(N:List Str)(vs:List σ):St:=vs.map U++List.replicate (N.length-vs.length) O
noncomputable def nY(CX:aq)(P:xt)(w:World)(K:xq)(mg:xw)(base:Heap)(N:List Str)(qual:Str)(scope:Scope)(f:Addr)(cd:Value)(A:Around)(outer:List Env)(s:Shared)(H:Hp)(E:XK):Cx where
 prog:=P
 w:=w
 K:=K
 mg:=mg
 base:=base
 A:=A.deeper (envOfC qual scope s.heap.objs.size f cd)
 N:=N
 s₀:=s
 H₀:=H
 env:=envOfC qual scope s.heap.objs.size f cd
 outer:=outer
 stack:=envOfC qual scope s.heap.objs.size f cd::outer
 ex:=[]
 calm:=Y
 fn:=λ_=>Y
 pn:=[]
 xe:=λe s'=>wpAny (model P w) (A.deeper (envOfC qual scope s.heap.objs.size f cd)) (leaving (envOfC qual scope s.heap.objs.size f cd) e) (λ_ k9=>CX outer H s E e k9) (λe' k9=>CX outer H s E e' k9) s'
def yP{sc:Scope}{n:Nat}(h:sc.names.lookup x=U .cell):∃c,(cellsFrom n sc.names []).lookup x=U c:=by have q:=PySem.W.cellsFrom_some sc.names n [] (.inl h);exact Option.isSome_iff_exists.mp q
def GD{CX:aq}{qual:Str}{scope:Scope}{f:Addr}{cd:Value}{outer:List Env}{s1:Shared}{H:Hp}{E:XK}{vs:List σ} (S:ah N ps scope) (hd:A.handled=O) (I:Env0 P w K mg base A outer s H) (hl:vs.length=ps.length) (r:aY vs us) (x:InCallC s s.heap.objs.size (bindL (envOfC qual scope s.heap.objs.size f cd).kindOf (ps.zip us) λ_=>O) (cellsFrom (s.heap.objs.size+1) scope.names []) (bindC (envOfC qual scope s.heap.objs.size f cd).kindOf (ps.zip us) λ_=>O) s1):Inv (nY CX P w K mg base N qual scope f cd A outer s H E) [] (start N vs) H s1:=by
 have l9:ps.length<=N.length:=by have:=congrArg List.length S.pre;rw[w9]at this;lia
 obtain⟨h1,tk,rfl,hk⟩:=x.done;have W:∀b:Addr,b∉(nY CX P w K mg base N qual scope f cd A outer s H E).ex:=λb z=>absurd (show b∈([]:List Addr) from z) zv;refine⟨⟨I.mod,S.kind,rfl,rfl,uq _,λy z c h1 h2=>?_,λy hy=>?_,λy c _ h=>?_,λ_=>hd,Around.frames_deeper I.frames,.inr ⟨rfl,rfl⟩,λb z=>absurd z (W b),I.bs,I.bsz,λb _ _=>W b,λb z=>absurd z (W b),I.funs,I.frf⟩,
  rfl,I.bare,Un.kept hk,⟨_,x.toInCall.ns,λi y v h1 h2 h3=>?_⟩,λy c h=>⟨_,x.cell y c h⟩,I.hok.fresh (uq _),λy c h=>?_,λp hp=>absurd (show p∈([]:xv) from hp) zv,I.hok.kept hk,?_⟩
 exact name_of_addr x.apart (w5 h1) (w5 h2);have hy:scope.names.lookup y=U .cell\/scope.names.lookup y=U .free:=hy;rcases hy with hy|hy;exact yP hy;exact absurd rfl (S.nofree _ (w5 hy));exact le_of_lt (x.above y c (w5 h));have hi:i<vs.length:=by unfold start at h2;by_cases hi:i<vs.length;exact hi;rw[xb (by simpa using hi)]at h2;rw[getElem?_replicate]at h2;split at h2<;>cases h2
 have ha:vs[i]?=U v:=by
  unfold start at h2;rw[xa (by simpa using hi),um]at h2;cases e:vs[i]? with
  |none=>rw[e]at h2;cases h2
  |some a=>rw[e]at h2;cases h2;rfl
 obtain⟨u,hu,rv⟩:=r.get ha;have hp:ps[i]?=U y:=by rw[<-S.pre,List.getElem?_take_of_lt (by lia)];exact h1
 have R:ps.Nodup:=by rw[<-S.pre];exact S.nd.sublist (List.take_sublist _ _)
 refine⟨u,rv,?_⟩;rcases S.par y (u6 hp) with k|k;exact .inl ⟨k,tL R hp hu k⟩;obtain⟨c,e⟩:=yP (n:=s.heap.objs.size+1) k;refine .inr ⟨.inl k,c,e,?_⟩;have q:=x.cell y c e;rw[tN R hp hu (by show scope.names.lookup y≠_;rw[k];decide)]at q;exact q;exact I.hok.fresh (le_of_lt (x.above y c (w5 h)));unfold start;show _=N.length;rw[vp,uo,length_replicate];lia
def MS{CX:aq}{k:Nat}{f:Addr}{name qual:Str}{z:Arguments}{body:List Stmt}{scope:Scope}{dV kV doc pm az ct oc:Value}{an od:Option Addr} {lj:Array (Option Value)}  {sp:Sp} (lk:K.lookup f=U ⟨oc,od,.func (PySem.W.fnOf name qual z body scope dV kV doc pm an az ct),lj⟩) (ig:codeIn K az qual=Y) (S:ah N ps scope) (len:∀vs H Q E,sp vs H Q E->vs.length=ps.length) (hbody:∀(A:Around) (outer:List Env) (s:Shared) (H:Hp) (vs:List σ) (Q:VK) (E:XK),Room k (A.deeper (envOfC qual scope s.heap.objs.size f az))->sp vs H Q E ->∃t,PSs (nY CX P w K mg base N qual scope f az A outer s H E) body t/\t {nx:=λ_ H'=>Q .non H',rt:=Q} (start N vs) H):FnOk P w K mg base CX (k+1) f (PySem.W.fnOf name qual z body scope dV kV doc pm an az ct) ps sp:=by
 refine⟨len,λA outer s H args us vs Q E hr e0 hb r c7=>?_⟩;have hl:=len _ _ _ _ c7;have KX:K.In s.heap:=e0.mod.kin.keeps λb o e=>(e0.bs b o e).1;have lim:s.heap.NoLimit:=e0.mod.nolimit.keeps λb o e=>(e0.bs b o e).1;have R:∀y∈ps.zip us,scope.names.lookup y.1=U .local\/(scope.names.lookup y.1=U .cell/\((cellsFrom (s.heap.objs.size+1) scope.names []).lookup y.1).isSome=Y):=λ⟨n,v⟩ hy=>by rcases S.par n (List.of_mem_zip hy).1 with q|q;exact .inl q;exact .inr ⟨q,PySem.W.cellsFrom_some _ _ _ (.inl q)⟩
 refine codeAny_call_function hr.depth (KX _ _ lk) rfl S.co S.gen rfl (PySem.W.codeRec_of KX ig) (hb _ _ _ _ ?_);refine wpAny_newFunctionEnv_cells S.kind R λenv he s1 x=>?_;subst he;refine⟨lim.keeps x.toInCall.keep,codeAny_func ?_⟩;obtain⟨t,ht,hq⟩:=hbody A outer s H vs Q E (hr.deeper _) c7;have I:Inv (nY CX P w K mg base N qual scope f az A outer s H E) [] (start N vs) H s1:=GD S hr.hd e0 hl r x;refine wk (ht [] s1 (start N vs) H _ I hq) (λfl s' hs=>?_) λe s' hs=>hs;have fin:∀{V':St} {H':Hp} {v:σ} {u:Value},Inv (nY CX P w K mg base N qual scope f az A outer s H E) [] V' H' s'->RelV v u->Q v H'->CE outer P w H s Q u s':=λ{V' H' v u} æ rv q=>⟨v,H',æ.os,æ.bare,æ.base,æ.hok,rv,q⟩;cases fl with
 |ret u=>obtain⟨v,V',H',æ,rv,q⟩:=hs;exact fin æ rv q
 |next=>obtain⟨V',H',æ,q⟩:=hs;exact fin (v:=σ.non) (u:=Value.none) æ rfl q
 |brk=>obtain⟨_,_,_,q⟩:=hs;exact False.elim q
 |cont=>obtain⟨_,_,_,q⟩:=hs;exact False.elim q
section
variable {X:Cx}{x:Str}{p pos:Pos}{e:Expr}{es:List Expr}{t:TA}{id T:String}{r:List σ->Hp->VK->Prop}
def tCB(r:List σ->Hp->VK->Prop)(t:TA):TE:=λV H Q=>t V H λvs H1=>r vs H1 Q
def dX(hc:eU X (.builtin id) r)(hg:Gl X x)(hm:X.mg x=O)(hv:bootBuiltins x=U (.builtin id))(ha:PA X (e::es) t)(hn:x≠"__name__":=by decide)(j5:(x == ("__debug__":Str))=J:=by decide) (he:starEach (e::es) X.env=(J,eval e X.env)::starEach es X.env:=by rfl) (W:(backTo pos (starEach es X.env)).any (·.1)=J:=by rfl):PE X (.Call (.Name x p) (e::es) [] pos) (tCB r t):=by intro pins s V H Q I h;refine wpAny_Call_Name_kw (iI I hg hm hv ?_ hn j5);exact PyProof.Rows.callWith_builtin1 (ae (ha pos pins s V H _ I h) λus s1 ⟨vs,H1,I1,z,R⟩=>hc pins s1 V H1 vs us Q I1 z R) he W
def mY(hc:eU X (.type T) r)(hg:Gl X x)(hm:X.mg x=O)(hv:bootBuiltins x=U (.type T))(ha:PA X (e::es) t)(hn:x≠"__name__":=by decide)(j5:(x == ("__debug__":Str))=J:=by decide) (he:starEach (e::es) X.env=(J,eval e X.env)::starEach es X.env:=by rfl) (W:(backTo pos (starEach es X.env)).any (·.1)=J:=by rfl):PE X (.Call (.Name x p) (e::es) [] pos) (tCB r t):=by intro pins s V H Q I h;refine wpAny_Call_Name_kw (iI I hg hm hv ?_ hn j5);exact vm (ae (ha pos pins s V H _ I h) λus s1 ⟨vs,H1,I1,z,R⟩=>hc pins s1 V H1 vs us Q I1 z R) he W
end
end L2
namespace HT
open PySem PyProof.Rows
section
variable {prog:xt}{w:World}{A:Around}{E:xu}{s:Shared}
def VV{t b:Addr}{vs ws:List Value}{Q:xu}(ht:IsTup s.heap t vs.toArray)(hb:IsTup s.heap b ws.toArray)(hv:vs≠[]) (h1:ws=[]->Q (.ref t) s) (h2:ws≠[]->Q (.ref s.heap.objs.size) {s with heap:=s.heap.push {cls:=.type "tuple",data:=.seq (vs++ws).toArray} }) (hsz:vs.length+ws.length<=sizeLine):wpAny (model prog w) A (binaryOp .Add (.ref t) (.ref b)) Q E s:=by
 obtain⟨⟨cls,dd,data,sl⟩,ho,hc,n,hd⟩:=id ht;obtain⟨⟨cls2,I,W,oi⟩,R,gj,n2,z⟩:=id hb;simp only at hc hd gj z;subst hc hd gj z;have e:vs.toArray++ws.toArray=(vs++ws).toArray:=by simp
 by_cases hw:ws=[];exact concat_meets ⟨_,ho,rfl⟩ ⟨_,R,rfl⟩ noFill_tuple_add seq_tuple_add slot_tuple_add entry_tuple_add (args_tuple_add_2 _ _) (tuple_addW1 t b vs.toArray ws.toArray n n2 dd I sl oi (by simpa using hv) (by simp[hw])) ⟨ho,R,h1 hw⟩;refine concat_meets ⟨_,ho,rfl⟩ ⟨_,R,rfl⟩ noFill_tuple_add seq_tuple_add slot_tuple_add entry_tuple_add (args_tuple_add_2 _ _) (tuple_addW2 t b vs.toArray ws.toArray n n2 dd I sl oi (by simpa using hv) (by simpa using hw) (by rw[uy,uy];exact hsz)) ⟨ho,R,?_⟩;rw[e];exact h2 hw
noncomputable def sIx(n d:Nat):Option Int->Nat
 |none=>d
 |some v=>if v<0 then(v+(n:Int)).toNat else min v.toNat n
def aAf(n d:Nat)(hd:d<=n)(o:Option Int):sIx n d o<=n:=by
 cases o with
 |none=>exact hd
 |some v=>show (if v<0 then(v+(n:Int)).toNat else min v.toNat n)<=n;by_cases hv:v<0;rw[if_pos hv];lia;rw[if_neg hv];exact min_le_right _ _
def DR(v:Int)(n d:Nat):(if v<0 then max (v+(n:Int)) 0 else min v (n:Int))=((sIx n d (U v):Nat):Int):=by show (if v<0 then max (v+(n:Int)) 0 else min v (n:Int))=(((if v<0 then(v+(n:Int)).toNat else min v.toNat n):Nat):Int);by_cases hv:v<0;simp only[if_pos hv];lia;simp only[if_neg hv];lia
def BQ(lo hi:Option Int)(n:Nat):Builtin.Slice.sliceAdjust lo hi 1 (n:Int)=(((sIx n 0 lo:Nat):Int),((sIx n n hi:Nat):Int)):=by
 have h1:¬((1:Int)<0):=by lia
 unfold Builtin.Slice.sliceAdjust;simp only[h1,if_false];refine Prod.ext ?_ ?_;cases lo with
 |none=>rfl
 |some v=>exact DR v n 0
 cases hi with
 |none=>rfl
 |some v=>exact DR v n n
def zV(i j:Nat):Builtin.Slice.slicePlaces (i:Int) (j:Int) 1=j-i:=by
 unfold Builtin.Slice.slicePlaces;have h1:(1:Int) > 0:=by lia
 simp only[h1,if_true,Int.ediv_one];split<;>lia
def qD{v:Value}{o:Option Int}{Q:Option Int->Shared->Prop}(p:IsPart v o)(h:Q o s):wpAny (model prog w) A (Builtin.Slice.slicePartIndex v) Q E s:=by
 cases p with
 |none=>exact slicePart_none h
 |int i t=>exact slicePart_int h
def mT{sl:Addr}{I z:Value}{lo hi:Option Int}{n:Nat}{Q:Int×Int×Nat->Shared->Prop}(hs:s.heap.IsSliceOf sl I z .none)(pl:IsPart I lo)(pu:IsPart z hi) (h:Q (((sIx n 0 lo:Nat):Int),1,sIx n n hi-sIx n 0 lo) s):wpAny (model prog w) A (Builtin.Slice.sliceApplied (.ref sl) (pure (n:Int))) Q E s:=by obtain⟨os,mq,W,R⟩:=id hs;unfold Builtin.Slice.sliceApplied Builtin.Slice.sliceFields;refine wg (wg (wpAny_field mq R (x:=I) rfl (wg (wpAny_field mq R (x:=z) rfl (wg (wpAny_field mq R (x:=.none) rfl (wj ?_)))))));refine wg (slicePart_none ?_);show wpAny _ _ (if ((1:Int) == 0)=Y then _ else _) _ _ s;rw[if_neg zu];refine wg (qD pl (wg (qD pu (wg (wj ?_)))));show wpAny _ _ (match Builtin.Slice.sliceAdjust lo hi 1 (n:Int) with|(lo,hi)=>pure (lo,(1:Int),Builtin.Slice.slicePlaces lo hi 1)) _ _ s;rw[BQ lo hi n];show wpAny _ _ (pure (((sIx n 0 lo:Nat):Int),(1:Int),Builtin.Slice.slicePlaces ((sIx n 0 lo:Nat):Int) ((sIx n n hi:Nat):Int) 1)) _ _ s;rw[zV];exact wj h
def JL(xs:Array Value)(i k:Nat):((List.range k).filterMap λ(m:Nat)=>xs[((i:Int)+(m:Int)*1).toNat]?).toArray=((xs.toList.drop i).take k).toArray:=by
 have e:(λ(m:Nat)=>xs[((i:Int)+(m:Int)*1).toNat]?)=λm=>xs[i+m]?:=by
  funext m;have:((i:Int)+(m:Int)*1).toNat=i+m:=by lia
  rw[this]
 rw[e];have:=pick_run xs i k;rw[List.filterMap_map]at this;have e2:((λx=>xs[x]?) ∘ λx=>i+x)=λm=>xs[i+m]?:=rfl;rw[e2]at this;rw[this]
def lX{t sl:Addr}{items:Array Value}{vl vu:Value}{lo hi:Option Int}{Q:xu}(I:IsTup s.heap t items)(hs:s.heap.IsSliceOf sl vl vu .none)(pl:IsPart vl lo)(pu:IsPart vu hi) (hw:¬(sIx items.size 0 lo=0/\sIx items.size items.size hi=items.size)) (h:Q (.ref s.heap.objs.size) {s with heap:=s.heap.push {cls:=.type "tuple",data:=.seq ((items.toList.drop (sIx items.size 0 lo)).take (sIx items.size items.size hi-sIx items.size 0 lo)).toArray} }) (hsz:items.size<=sizeLine):wpAny (model prog w) A (getItem (.ref t) (.ref sl)) Q E s:=by
 have z:sizeOk (.seq ((items.toList.drop (sIx items.size 0 lo)).take (sIx items.size items.size hi-sIx items.size 0 lo)).toArray):=by show ((items.toList.drop (sIx items.size 0 lo)).take (sIx items.size items.size hi-sIx items.size 0 lo)).toArray.size<=sizeLine;rw[uy,w9,xj,length_toList];lia
 have hj:sIx items.size items.size hi<=items.size:=aAf _ _ (uq _) hi;obtain⟨os,mq,W,bq⟩:=id hs;have hTs:s.TypeIs (.ref sl) "slice":=⟨os,mq,W⟩;unfold getItem;try with_reducible refine wpAny_holding ?_
 first|refine wg (wj ?_)|skip
 refine wg (wpAny_sequenceKey I.typeIs zu ?_);refine wg (wpAny_callSpecial?_slot (name:=Str.ofString "__getitem__") I.typeIs PyProof.Rows.slot_tuple_getitem (wpAny_call_entry PyProof.Rows.slot_tuple_getitem I.typeIs entry_tuple_getitem ?_ (args_tuple_getitem _ _)));show wpAny _ _ (Builtin.Tuple.tupleItemsOf (.ref t) >>= _) _ _ s;refine wg (tupleItemsOf_ I ?_);refine wg (wpAny_typeOf hTs ?_);rw[if_pos zu];refine wg (mT hs pl pu ?_);have R:¬((((sIx items.size 0 lo:Nat):Int) == 0&&(1:Int) == 1&&(sIx items.size items.size hi-sIx items.size 0 lo) == items.size)=Y):=by intro q;rw[uz,uz]at q;have q1:((sIx items.size 0 lo:Nat):Int)=0:=eq_of_beq q.1.1;have q2:sIx items.size items.size hi-sIx items.size 0 lo=items.size:=eq_of_beq q.2;exact hw ⟨by lia,by lia⟩
 show wpAny _ _ (if (((sIx items.size 0 lo:Nat):Int) == 0&&(1:Int) == 1&&(sIx items.size items.size hi-sIx items.size 0 lo) == items.size)=Y then _ else _) _ _ s;rw[if_neg R,JL];first
  |exact wg (m:=Builtin.Tuple.tupleExact _) (wpAny_newObj_type (wj ⟨_,rfl,wj h⟩) z)
  |exact wg (m:=Builtin.Tuple.tupleExact _) (wpAny_newObj_type (wg (wj (wj ⟨_,rfl,wj h⟩))) z)
  |exact wg (wg (m:=Builtin.Tuple.tupleExact _) (wpAny_newObj_type (wj (wj ⟨_,rfl,wj h⟩)) z))
  |exact wg (wg (m:=Builtin.Tuple.tupleExact _) (wpAny_newObj_type (wj ⟨_,rfl,wj h⟩) z))
end
end HT
namespace L2
open PySem PySem.Spec PyProof.Rows
variable {xs:List σ}{us its:List Value}{n:Nat}{pins:xv}{V:St}{H:Hp}{s:Shared}
abbrev TO:=St->Hp->(Option Int->Hp->Prop)->Prop
def PO(X:Cx)(e:Option Expr)(t:TO):Prop:=∀(pins:xv) (s:Shared) (V:St) (H:Hp) (Q:Option Int->Hp->Prop),Inv X pins V H s->t V H Q ->wpAny (model X.prog X.w) X.A (evalPart e X.env) (λu s'=>∃o H',Inv X pins V H' s'/\IsPart u o/\Q o H') X.xe s
noncomputable def QI:TO:=λ_ H Q=>Q O H
noncomputable def aCw(t:TE):TO:=λV H Q=>t V H λx H1=>∃i,x=.int i/\Q (U i) H1
section
variable {X:Cx}{e:Expr}{te:TE}{lo hi:Option Expr}{tl th:TO}{pos p2:Pos}
def SU:PO X O QI:=by intro pins s V H Q I h;rw[evalPart_none];exact wj ⟨O,H,I,.none,h⟩
def SR(h:PE X e te):PO X (U e) (aCw te):=by intro pins s V H Q I hw;rw[evalPart_some];refine ae (h pins s V H _ I hw) λu s1 ⟨x,H1,I1,z,R⟩=>?_;obtain⟨i,rfl,q⟩:=R;obtain⟨t,rfl⟩:=z;exact⟨U i,H1,I1,.int i t,q⟩
def SlR(X:Cx)(r:σ->Option Int->Option Int->Hp->VK->Prop):Prop:=∀(pins:xv) (s:Shared) (V:St) (H:Hp) (x:σ) (v I z:Value) (lo hi:Option Int) (sl:Addr) (Q:VK),Inv X pins V H s->RelV x v->s.heap.IsSliceOf sl I z .none->IsPart I lo->IsPart z hi->r x lo hi H Q ->∃T id,typeLookup (.type T) "__getitem__"=pure (U (.builtin id))/\s.TypeIs v T/\wpAny (model X.prog X.w) X.A (getItem v (.ref sl)) (EP X pins V Q) X.xe s
def tSl(r:σ->Option Int->Option Int->Hp->VK->Prop)(te:TE)(tl th:TO):TE:=λV H Q=>te V H λx H1=>tl V H1 λl H2=>th V H2 λu z=>r x l u z Q
def qF{r:σ->Option Int->Option Int->Hp->VK->Prop}(hr:SlR X r)(he:PE X e te)(hl:PO X lo tl)(hu:PO X hi th):PE X (.Subscript e (.Slice lo hi O p2) pos) (tSl r te tl th):=by intro pins s V H Q I h;refine Subscript_ (ae (he pins s V H _ I h) λv s1 ⟨x,H1,I1,r1,q1⟩=>?_);refine wpAny_Slice (ae (hl pins s1 V H1 _ I1 q1) λR s2 ⟨l,H2,I2,pl,q2⟩=>ae (hu pins s2 V H2 _ I2 q2) λz s3 ⟨u,W,I3,pu,q3⟩=>?_);rw[evalPart_none];refine wj ?_;have I4:Inv X pins V W {s3 with heap:=s3.heap.push {cls:=.type "slice",data:=.fields #[R,z,.none]} }:=I3.kept (t':=s3.toks) λb ob q=>uv _ q;obtain⟨T,id,hT,ht,hg⟩:=hr pins {s3 with heap:=s3.heap.push {cls:=.type "slice",data:=.fields #[R,z,.none]} } V W x v R z l u s3.heap.objs.size Q I4 r1 (Heap.IsSliceOf.new ..) pl pu q3;show wpAny (model X.prog X.w) X.A (subscriptTail e (.Slice lo hi O p2) v (.ref s3.heap.objs.size)) (EP X pins V Q) X.xe {s3 with heap:=s3.heap.push {cls:=.type "slice",data:=.fields #[R,z,.none]} };exact tail_any (ops:=[.ref s3.heap.objs.size,v]) ht hT hg (by with_unfolding_all rfl)
def yL(xs:List σ)(lo hi:Option Int):List σ:=(xs.drop (HT.sIx xs.length 0 lo)).take (HT.sIx xs.length xs.length hi-HT.sIx xs.length 0 lo)
def oW(xs:List σ)(lo hi:Option Int):(yL xs lo hi).length<=xs.length:=by unfold yL;rw[w9,xj];lia
def aFj(K:xq):σ->Option Int->Option Int->Hp->VK->Prop:=λx lo hi H Q=>∃a xs,x=.ref a/\SqT K H a xs /\¬(HT.sIx xs.length 0 lo=0/\HT.sIx xs.length xs.length hi=xs.length)/\∀p,H p=O->Q (.ref p) (upd H p (.tup (yL xs lo hi)))
def aAa:SlR X (aFj X.K):=by
 intro pins s V H x v vl vu lo hi sl Q I W hs pl pu h;obtain⟨a,xs,rfl,hx,hw,q⟩:=h;cases W;obtain⟨its,r,R,hz⟩:=I.tuple hx;have z:its.toArray.size=xs.length:=by rw[uy];exact r.length.symm
 refine⟨"tuple",_,PyProof.Rows.slot_tuple_getitem.lookup,R.typeIs,?_⟩;refine HT.lX R hs pl pu (by rw[z];exact hw) ?_ (by rw[z];exact hz);rw[z];refine⟨.ref s.heap.objs.size,_,I.laid (t':=s.toks) (o:=.tup (yL xs lo hi)) (λb ob q=>uv _ q) (uq _) ?_,rfl,q _ (I.hok.fresh (uq _))⟩;exact⟨vi (oW xs lo hi) hz,_,(r.drop (HT.sIx xs.length 0 lo)).take (HT.sIx xs.length xs.length hi-HT.sIx xs.length 0 lo),IsTup.new _ _⟩
def aDa(K:xq):R2:=λx y H Q=>∃a b xs ys,x=.ref a/\y=.ref b/\SqT K H a xs/\SqT K H b ys/\xs≠[]/\xs.length+ys.length<=sizeLine /\(ys=[]->Q (.ref a) H)/\(ys≠[]->∀p,H p=O->Q (.ref p) (upd H p (.tup (xs++ys))))
def aY.nil_iff(r:aY xs us):us=[]↔xs=[]:=by
 cases r with
 |nil=>simp
 |cons _ _=>simp
def TM:bg X (binaryOp .Add) (aDa X.K):=by intro pins s V H x y v u Q I rx ry h;obtain⟨a,b,xs,ys,rfl,rfl,ha,hb,hx,hz,q1,q2⟩:=h;cases rx;cases ry;obtain⟨its,W,p1,_⟩:=I.tuple ha;obtain⟨d6,R,p2,_⟩:=I.tuple hb;refine HT.VV p1 p2 (λz=>hx (W.nil_iff.mp z)) (λz=>⟨.ref a,H,I,rfl,q1 (R.nil_iff.mp z)⟩) (λz=>?_) (by rw[<-W.length,<-R.length];exact hz);refine⟨.ref s.heap.objs.size,_,I.laid (t':=s.toks) (o:=.tup (xs++ys)) (λb ob q=>uv _ q) (uq _) ?_,rfl,q2 (λw=>z (R.nil_iff.mpr w)) _ (I.hok.fresh (uq _))⟩;exact⟨by rw[vp];exact hz,_,W.append R,IsTup.new _ _⟩
end
noncomputable def ixN(n:Nat)(i:Int):Option Nat:=if 0<=i then(if i<n then U i.toNat else O) else if -(n:Int)<=i then U (i+n).toNat else O
def atI{α:Type}(xs:List α)(i:Int):Option α:=(ixN xs.length i).bind λj=>xs[j]?
def CW{i:Int}{j:Nat}(h:ixN n i=U j):seqIndex? i n=U j/\j<n/\-(n:Int)<=i/\i<n:=by unfold ixN at h;by_cases h0:0<=i;rw[if_pos h0]at h;by_cases h1:i<n;rw[if_pos h1]at h;have e:i.toNat=j:=v8 h;exact⟨by rw[seqIndex_of h0 h1,e],by lia,by lia,h1⟩;rw[if_neg h1]at h;cases h;rw[if_neg h0]at h;by_cases h1:-(n:Int)<=i;rw[if_pos h1]at h;have e:(i+n).toNat=j:=v8 h;exact⟨by rw[seqIndex_neg (by lia) h1,e],by lia,h1,by lia⟩;rw[if_neg h1]at h;cases h
def vY{α:Type}{xs:List α}{i:Int}{v:α}(h:atI xs i=U v):∃j,seqIndex? i xs.length=U j/\xs[j]?=U v/\j<xs.length/\-(xs.length:Int)<=i/\i<xs.length:=by
 unfold atI at h;cases e:ixN xs.length i with
 |none=>rw[e]at h;cases h
 |some j=>rw[e]at h;obtain⟨h1,h2,h3,z⟩:=CW e;exact⟨j,h1,h,h2,h3,z⟩
def kL(b:Expr):Prop:=∀o i,subscripted b J o i=operate [o,i] (getItem o i)
def IxR(X:Cx)(r:R2):Prop:=∀(value z:Expr) (pins:xv) (s:Shared) (V:St) (H:Hp) (x y:σ) (v u:Value) (Q:VK),Inv X pins V H s->RelV x v->RelV y u->r x y H Q ->subscripted z J v u=operate [v,u] (getItem v u)->wpAny (model X.prog X.w) X.A (subscriptTail value z v u) (EP X pins V Q) X.xe s
def MtR(X:Cx)(id:String)(r:σ->List σ->Hp->VK->Prop):Prop:=∀(pins:xv) (s:Shared) (V:St) (H:Hp) (x:σ) (xs:List σ) (v:Value) (us:List Value) (Q:VK),Inv X pins V H s->RelV x v->aY xs us->r x xs H Q ->wpAny (model X.prog X.w) X.A (call (.builtin id) (v::us)) (EP X pins V Q) X.xe s
section
variable {X:Cx}{a b:Expr}{ta tb:TE}{pos:Pos}
def IxR.or{r r':R2}(h:IxR X r)(h':IxR X r'):IxR X (λx y H Q=>r x y H Q\/r' x y H Q):=by intro value z pins s V H x y v u Q I W R q hs;rcases q with q|q;exact h value z pins s V H x y v u Q I W R q hs;exact h' value z pins s V H x y v u Q I W R q hs
def CL{r:R2}(hr:IxR X r)(ha:PE X a ta)(hb:PE X b tb)(hs:kL b):PE X (.Subscript a b pos) (ka r ta tb):=by intro pins s V H Q I h;exact Subscript_ (aCf ha hb I h λv u s2 x y H2 I2 R z q=>hr a b pins s2 V H2 x y v u Q I2 R z q (hs _ _))
def aCX(K:xq):R2:=λx y H Q=>∃p xs i v,x=.ref p/\y=.int i/\SqL K H p xs/\atI xs i=U v/\Q v H
def aCV(K:xq):R2:=λx y H Q=>∃p xs i v,x=.ref p/\y=.int i/\SqT K H p xs/\atI xs i=U v/\Q v H
def aCW:R2:=λx y H Q=>∃z i c,x=.str z/\y=.int i/\z.length<=sizeLine/\atI z.cps.toList i=U c/\Q (.str ⟨#[c]⟩) H
def UV:IxR X (aCX X.K):=by
 intro value W pins s V H x y v u Q I rx ry h hs;obtain⟨p,xs,i,z,rfl,rfl,hq,he,q⟩:=h;cases rx;obtain⟨t,rfl⟩:=ry;obtain⟨its,r,pl,hz⟩:=I.list hq;obtain⟨j,h1,h2,h3,h4,h5⟩:=vY he;obtain⟨w,ew,gw⟩:=r.get h2;have hl:=r.length;have hn:=lB;have R:EP X pins V Q w s:=⟨z,H,I,gw,q⟩;by_cases h0:0<=i;have hj:i.toNat=j:=by rw[seqIndex_of h0 h5]at h1;exact v8 h1
 exact item_listR pl.isList h0 (by lia) (by rw[hj];simpa using ew) R hs;have hj:(i+(its.toArray.size:Int)).toNat=j:=by rw[seqIndex_neg (by lia) h4]at h1;rw[uy,<-hl];exact v8 h1
 exact subscriptTail_builtinR (x:=w) pl.isList.typeIs slot_list_getitem.lookup (wpAny_getItem_list_neg (Q:=λr s'=>r=w/\EP X pins V Q r s') pl.isList (by lia) (by rw[uy]<;>lia) (by lia) (by rw[hj];simpa using ew) ⟨rfl,R⟩) hs
def aBy:IxR X (aCV X.K):=by intro value R pins s V H x y v u Q I rx ry h hs;obtain⟨p,xs,i,z,rfl,rfl,hq,he,q⟩:=h;cases rx;obtain⟨t,rfl⟩:=ry;obtain⟨its,r,pl,hz⟩:=I.tuple hq;obtain⟨j,h1,h2,h3,h4,h5⟩:=vY he;obtain⟨w,ew,gw⟩:=r.get h2;have hl:=r.length;have hn:=lB;have W:EP X pins V Q w s:=⟨z,H,I,gw,q⟩;exact subscriptTail_builtinR (x:=w) pl.typeIs slot_tuple_getitem.lookup (getItem_tuple (j:=j) (Q:=λr s'=>r=w/\EP X pins V Q r s') pl (by lia) (by lia) (by rw[uy,<-hl];exact h1) (by simpa using ew) ⟨rfl,W⟩) hs
def aBz:IxR X aCW:=by
 intro value R pins s V H x y v u Q I rx W h hs;obtain⟨z,i,c,rfl,rfl,hz,he,q⟩:=h;obtain⟨t,rfl⟩:=rx;obtain⟨t',rfl⟩:=W;obtain⟨j,h1,h2,h3,h4,h5⟩:=vY he;have hl:z.cps.toList.length=z.length:=by simp[Str.length]
 rw[hl]at h1 h4 h5;have hn:=lB;exact tail_any (typeIs_str s z t) slot_str_getitem.lookup (getItem_str (c:=c) (by have e1:decide (i < -(2 ^ 63:Int))=J:=uu (by lia);have e2:decide (i >= 2 ^ 63)=J:=uu (by lia);rw[e1,e2,Bool.or_false]) (by rw[h1];simpa using h2) ⟨.str ⟨#[c]⟩,H,I.tok _,⟨_,rfl⟩,q⟩) hs
def rIx(K:xq):R2:=λx y H Q=>aCX K x y H Q\/aCV K x y H Q\/aCW x y H Q
def uO:IxR X (rIx X.K):=UV.or (aBy.or aBz)
def AH(its:List Value)(n j:Nat)(u:Value):Obj.mapSeq (·.setIfInBounds j u) {cls:=.type "list",data:=.seq its.toArray n}={cls:=.type "list",data:=.seq (its.set j u).toArray n}:=by simp[Obj.mapSeq]
theorem Inv.lst{p:Addr}(I:Inv X pins V H s)(h:H p=U (.lst xs)):∃(its:List Value) (n:Nat),aY xs its/\s.heap.get? p=U {cls:=.type "list",data:=.seq its.toArray n}/\xs.length<=sizeLine:=by obtain⟨z,its,n,r,e⟩:=I.hok p _ h;exact⟨its,n,r,e,z⟩
def Inv.lstUpd{p:Addr}{ys:List σ}{its':List Value}{z:Nat}{f:Obj->Obj}(I:Inv X pins V H s)(h:H p=U (.lst xs)) (ho:s.heap.get? p=U {cls:=.type "list",data:=.seq its.toArray n}) (hf:f {cls:=.type "list",data:=.seq its.toArray n}={cls:=.type "list",data:=.seq its'.toArray z }) (r:aY ys its') (hz:ys.length<=sizeLine) (t:Nat):Inv X pins V (upd H p (.lst ys)) {s with heap:=s.heap.update p f,toks:=t}:=by
 have e:(s.heap.update p f).get? p=U {cls:=.type "list",data:=.seq its'.toArray z }:=by rw[Heap.get?_update_self f ho (by rw[hf]<;>rfl),hf]
 refine I.write (x:=p) (e:=p) (by rw[h];trivial) (.inl rfl) (λb u hb q=>(Heap.get?_update_other _ _ (Ne.symm hb)).trans q) ⟨_,e⟩ ?_;exact⟨hz,its',z,r,e⟩
def aCU:σ->σ->σ->Hp->(Hp->Prop)->Prop:=λo i v H Q=>∃p xs k j,o=.ref p/\i=.int k/\H p=U (.lst xs)/\ixN xs.length k=U j/\Q (upd H p (.lst (xs.set j v)))
def set_list:aEP X aCU:=by
 intro pins s V H o i v ov iv u Q I ro ri rv h;obtain⟨p,xs,k,j,rfl,rfl,hp,hj,q⟩:=h;cases ro;obtain⟨t,rfl⟩:=ri;obtain⟨its,n,r,ho,hz⟩:=I.lst hp;obtain⟨h1,h2,h3,z⟩:=CW hj;have hl:=r.length;have hn:=lB;have R:Inv X pins V (upd H p (.lst (xs.set j v))) {s with heap:=s.heap.update p (Obj.mapSeq (·.setIfInBounds j u))}:=I.lstUpd hp ho (AH its n j u) (r.set rv j) (by rw[length_set];exact hz) s.toks;by_cases h0:0<=k;have hk:k.toNat=j:=by rw[seqIndex_of h0 z]at h1;exact v8 h1
 exact PySem.W.ki_setAt ho h0 (by lia) (by rw[uy,<-hl];exact z) (by rw[hk];exact⟨_,R,q⟩);have hk:(k+(its.toArray.size:Int)).toNat=j:=by rw[seqIndex_neg (by lia) h3]at h1;rw[uy,<-hl];exact v8 h1
 exact PySem.W.ki_setBack ho (by lia) (by rw[uy,<-hl];exact h3) (by lia) (by rw[hk];exact⟨_,R,q⟩)
def tW(lo hi:Option Int)(n:Nat):(sliceBounds lo hi O n).1=((HT.sIx n 0 lo:Nat):Int)/\(sliceBounds lo hi O n).2.1=((HT.sIx n n hi:Nat):Int)/\(sliceBounds lo hi O n).2.2=1:=by
 refine⟨?_,?_,rfl⟩;cases lo with
 |none=>simp[sliceBounds,HT.sIx]
 |some i=>
  simp only[sliceBounds,HT.sIx,Option.getD_none,show (1:Int) > 0 by decide,if_true];by_cases h:i<0;simp only[h,if_true]<;>lia
  simp only[h,if_false]<;>lia
 cases hi with
 |none=>simp[sliceBounds,HT.sIx]
 |some i=>
  simp only[sliceBounds,HT.sIx,Option.getD_none,show (1:Int) > 0 by decide,if_true];by_cases h:i<0;simp only[h,if_true]<;>lia
  simp only[h,if_false]<;>lia
def rS(its:List Value)(lo hi:Option Int):slicePick its.toArray lo hi O=((its.drop (HT.sIx its.length 0 lo)).take (HT.sIx its.length its.length hi-HT.sIx its.length 0 lo)).toArray:=by obtain⟨h1,h2,h3⟩:=tW lo hi its.toArray.size;unfold slicePick;rw[h1,h2,h3];simp only[sliceRange_one,pick_run,uy]<;>rfl
def aFk(K:xq):σ->Option Int->Option Int->Hp->VK->Prop:=λx lo hi H Q=>∃a xs,x=.ref a/\SqL K H a xs/\∀p,H p=O->Q (.ref p) (upd H p (.lst (yL xs lo hi)))
def CA:SlR X (aFk X.K):=by intro pins s V H x v vl vu lo hi sl Q I W hs pl pu h;obtain⟨a,xs,rfl,hx,q⟩:=h;cases W;obtain⟨its,r,R,hz⟩:=I.list hx;have z:=r.length;refine⟨"list",_,slot_list_getitem.lookup,R.isList.typeIs,?_⟩;refine wpAny_getItem_list_slice R.isList hs pl pu .none zv ?_ (by rw[uy]<;>lia);rw[rS,<-z];refine⟨.ref s.heap.objs.size,_,I.laid (t':=s.toks) (o:=.lst (yL xs lo hi)) (λb ob q=>uv _ q) (uq _) ?_,rfl,q _ (I.hok.fresh (uq _))⟩;exact⟨vi (oW xs lo hi) hz,_,0,(r.drop (HT.sIx xs.length 0 lo)).take (HT.sIx xs.length xs.length hi-HT.sIx xs.length 0 lo),wm _ rfl⟩
def fS:eU X (.builtin "len") (λxs H Q=>∃p ys,xs=[.ref p]/\(SqL X.K H p ys\/SqT X.K H p ys)/\Q (.int ys.length) H):=by intro pins s V H xs us Q I r h;obtain⟨p,ys,rfl,hq,q⟩:=h;obtain⟨u,rfl,W⟩:=vals1 r;cases W;have hn:=lB;rcases hq with hq|hq;obtain⟨its,R,pl,hz⟩:=I.list hq;have z:=R.length;exact Calls.call_len_list pl.isList (by simp only[uy]<;>lia) ⟨.int ys.length,H,I.tok _,⟨s.toks+1,by rw[uy,z]⟩,q⟩;obtain⟨its,R,pl,hz⟩:=I.tuple hq;have z:=R.length;exact len_tuple pl (by simp only[uy]<;>lia) ⟨.int ys.length,H,I.tok _,⟨s.toks+1,by rw[uy,z]⟩,q⟩
def vW:eU X (.builtin "len") (λxs H Q=>∃z,xs=[.str z]/\z.length<=sizeLine/\Q (.int z.length) H):=by intro pins s V H xs us Q I r h;obtain⟨z,rfl,hz,q⟩:=h;obtain⟨u,rfl,t,rfl⟩:=vals1 r;have hn:=lB;exact len_str (by lia) ⟨.int z.length,H,I.tok _,⟨_,rfl⟩,q⟩
def iQ:eU X (.type "list") (λxs H Q=>∃p ys,xs=[.ref p]/\(SqL X.K H p ys\/SqT X.K H p ys)/\∀l,H l=O->Q (.ref l) (upd H l (.lst ys))):=by intro pins s V H xs us Q I r h;obtain⟨p,ys,rfl,hq,q⟩:=h;obtain⟨u,rfl,rx⟩:=vals1 r;cases rx;have fin:∀(its:List Value),aY ys its->ys.length<=sizeLine->∀(h':Heap) (R:Nat),(∀b o',s.heap.get? b=U o'->h'.get? b=U o') ->h'.get? s.heap.objs.size=U {cls:=.type "list",dict:=O,data:=.seq its.toArray R,slots:=#[]}->EP X pins V Q (.ref s.heap.objs.size) {s with heap:=h' }:=λits z hz h' R kp e=>⟨.ref s.heap.objs.size,_,I.laid (t':=s.toks) kp (uq _) (show cR X.prog X.w _ h' _ (.lst ys) from⟨hz,its,R,z,e⟩),rfl,q _ (I.hok.fresh (uq _))⟩;rcases hq with hq|hq;obtain⟨its,z,pl,hz⟩:=I.list hq;have W:=z.length;obtain⟨o,ho,hc,n,hd⟩:=pl.isList;exact call_list_seq p (.inl rfl) ho hc hd (λh' R kp e=>fin its z hz h' R kp e) (by simp only[uy]<;>lia);obtain⟨its,z,pl,hz⟩:=I.tuple hq;have W:=z.length;obtain⟨o,ho,hc,n,hd⟩:=pl;exact call_list_seq p (.inr rfl) ho hc hd (λh' R kp e=>fin its z hz h' R kp e) (by simp only[uy]<;>lia)
def kU:eU X (.type "tuple") (λxs H Q=>∃p ys,xs=[.ref p]/\((SqL X.K H p ys/\∀l,H l=O->Q (.ref l) (upd H l (.tup ys)))\/(SqT X.K H p ys/\Q (.ref p) H))):=by intro pins s V H xs us Q I r h;obtain⟨p,ys,rfl,h⟩:=h;obtain⟨u,rfl,W⟩:=vals1 r;cases W;rcases h with ⟨hq,q⟩|⟨hq,q⟩;obtain⟨its,z,pl,hz⟩:=I.list hq;have R:=z.length;refine call_tuple_list pl.isList (λh' kp=>?_) (by simp only[uy]<;>lia);have I1:Inv X pins V H {s with heap:=h' }:=I.kept (t':=s.toks) kp;have I2:Inv X pins V (upd H h'.objs.size (.tup ys)) {s with heap:=h'.push {cls:=.type "tuple",data:=.seq its.toArray} }:=I1.laid (t':=s.toks) (λb o e=>uv _ e) (uq _) (show cR X.prog X.w _ _ _ (.tup ys) from⟨hz,its,z,IsTup.new _ _⟩);exact⟨.ref h'.objs.size,_,I2,rfl,q _ (I1.hok.fresh (uq _))⟩;obtain⟨its,z,pl,hz⟩:=I.tuple hq;exact call_tuple_same pl ⟨.ref p,H,I,rfl,q⟩
def tyV(K:xq)(T:String)(x:σ)(H:Hp):Prop:=match x with
 |.str _=>T="str"
 |.int _=>T="int"
 |.ref p=>(T="list"/\∃xs,SqL K H p xs)\/(T="tuple"/\∃o,K.lookup p=U o/\o.cls=.type "tuple"/\o.dict=O) \/(T="dict"/\((∃kvs,H p=U (.dK kvs))\/∃kvs,H p=U (.dT kvs)))\/(T="set"/\∃S n,H p=U (.set S n))
 |_=>False
def HY{T:String}{x:σ}{v:Value}(I:Inv X pins V H s)(r:RelV x v)(ty:tyV X.K T x H):s.TypeIs v T/\∀a,v=.ref a->∃ob,s.heap.get? a=U ob/\ob.dict=O:=by
 cases x with
 |str z=>obtain⟨t,rfl⟩:=r;cases (show T="str" from ty);exact⟨typeIs_str s z t,λ_ e=>nomatch e⟩
 |int i=>obtain⟨t,rfl⟩:=r;cases (show T="int" from ty);exact⟨typeIs_int s i t,λ_ e=>nomatch e⟩
 |ref p=>
  cases r;rcases ty with ⟨rfl,xs,hq⟩|⟨rfl,o,hk,hc,hd⟩|⟨rfl,hk⟩|⟨rfl,S,n,hk⟩;obtain⟨its,_,pl,_⟩:=I.list hq;refine⟨pl.isList.typeIs,λa e=>?_⟩;cases e;obtain⟨o,n,e,c,hd,_⟩:=pl;exact⟨o,e,hd⟩;refine⟨⟨o,I.kIn p o hk,hc⟩,λa e=>?_⟩;cases e;exact⟨o,I.kIn _ o hk,hd⟩;have z:∃o,s.heap.get? p=U o/\o.ExactDict:=by rcases hk with ⟨kvs,hk⟩|⟨kvs,hk⟩;obtain⟨_,_,_,_,o,_,_,e,ex,_⟩:=I.hok p _ hk;exact⟨o,e,ex⟩;obtain⟨_,_,_,_,o,_,_,e,ex,_⟩:=I.hok p _ hk;exact⟨o,e,ex⟩
  obtain⟨o,e,ex⟩:=z;refine⟨⟨o,e,ex.1⟩,λa e2=>?_⟩;cases e2;exact⟨o,e,ex.2.1⟩;obtain⟨o,_,_,_,e,ex,_⟩:=I.hok p _ hk;refine⟨⟨o,e,ex.1⟩,λa e2=>?_⟩;cases e2;exact⟨o,e,ex.2.1⟩
 |_=>exact False.elim ty
def aFf(K:xq)(T:String)(r:σ->List σ->Hp->VK->Prop)(to:TE):TE:=λV H Q=>to V H λx H1=>tyV K T x H1/\r x [] H1 Q
def tBM(K:xq)(T:String)(r:σ->List σ->Hp->VK->Prop)(to:TE)(t:TA):TE:=λV H Q=>to V H λx H1=>tyV K T x H1/\t V H1 λxs H2=>r x xs H2 Q
variable {o e:Expr}{es:List Expr}{to:TE}{t:TA}{name:Str}{apos bo:Pos}{T id:String}{r:σ->List σ->Hp->VK->Prop}
def aAI(pa:PlainAttrs T)(slot:Slot T name id)(R:typeOf (.builtin id)=pure (.type "method_descriptor"))(hm:MtR X id r)(ho:PE X o to) (z:attributeBase o name X.env (eval o X.env)=eval o X.env:=by rfl) (fh:(apos.endLine == bo.line)=Y:=by rfl):PE X (.Call (.Attribute o name apos) [] [] bo) (aFf X.K T r to):=by intro pins s V H Q I h;refine wpAny_Call_method0_late z fh (ae (ho pins s V H _ I h) λv s1 ⟨x,H1,I1,W,ty,q1⟩=>?_);obtain⟨h1,h2⟩:=HY I1 W ty;exact⟨T,id,pa,slot,R,h1,h2,Calls.callWith_builtin rfl (PySem.evalArgs_none (hm pins s1 V H1 x [] v [] Q I1 W .nil q1))⟩
def xH(pa:PlainAttrs T)(slot:Slot T name id)(hty:typeOf (.builtin id)=pure (.type "method_descriptor"))(hm:MtR X id r)(ho:PE X o to)(ha:PA X (e::es) t) (R:attributeBase o name X.env (eval o X.env)=eval o X.env:=by rfl) (W:((backTo bo (starEach (e::es) X.env)).all (λx=>!x.1)&&(backToKw bo (keywordEach [] X.env)).all (λx=>x.1.isSome) && decide ((e::es).length+([]:List Keyword).length+(if ([]:List Keyword).isEmpty then 0 else 1)<30))=Y:=by rfl) (fh:(apos.endLine == bo.line)=Y:=by rfl) (hs:starEach (e::es) X.env=(J,eval e X.env)::starEach es X.env:=by rfl) (z:(backTo bo (starEach es X.env)).any (·.1)=J:=by rfl):PE X (.Call (.Attribute o name apos) (e::es) [] bo) (tBM X.K T r to t):=by intro pins s V H Q I h;refine wpAny_Call_method_late R W fh rfl (ae (ho pins s V H _ I h) λv s1 ⟨x,H1,I1,r1,ty,q1⟩=>?_);obtain⟨h1,h2⟩:=HY I1 r1 ty;refine⟨T,id,pa,slot,hty,h1,h2,?_⟩;have hA:=ha bo pins s1 V H1 _ I1 q1;rw[hs]at hA ⊢;refine Calls.callWith_builtin (by show (J || (backTo bo (starEach es X.env)).any (·.1))=J;rw[z]<;>rfl) (Calls.evalArgs_plain ?_);exact ae hA λus s2 ⟨vs,H2,I2,r2,q2⟩=>hm pins s2 V H2 x vs v us Q I2 r1 r2 q2
end
def ue(X:Cx)(id:String)(r:σ->List σ->Hp->VK->Prop):Prop:=∀(pins:xv) (s:Shared) (V:St) (H:Hp) (x:σ) (xs:List σ) (v:Value) (us:List Value) (Q:VK),Inv X pins V H s->RelV x v->aY xs us->r x xs H Q ->wpAny (model X.prog X.w) X.A (call (.builtin id) (v::us)) (EP X pins V Q) X.xe s
theorem aY.one:∀{x:σ} {us:List Value},aY [x] us->∃u,us=[u]/\RelV x u
 |_,_,.cons r .nil=>⟨_,rfl,r⟩
theorem aY.two:∀{x y:σ} {us:List Value},aY [x,y] us->∃u v,us=[u,v]/\RelV x u/\RelV y v
 |_,_,_,.cons r (.cons q .nil)=>⟨_,_,rfl,r,q⟩
theorem aY.zero:∀{us:List Value},aY [] us->us=[]
 |_,.nil=>rfl
theorem aY.dropLast(h:aY xs us):aY xs.dropLast us.dropLast:=by
 induction h with
 |nil=>exact .nil
 |cons r t z=>
  cases t with
  |nil=>exact .nil
  |cons q t'=>exact .cons r z
theorem aY.reverse(h:aY xs us):aY xs.reverse us.reverse:=by
 induction h with
 |nil=>exact .nil
 |cons r t z=>rw[reverse_cons,reverse_cons];exact aY.append z (.cons r .nil)
def BE{α:Type}(l:List α):l.eraseIdx (l.length-1)=l.dropLast:=by
 induction l with
 |nil=>rfl
 |cons a r z=>
  cases r with
  |nil=>rfl
  |cons b r=>
   have e:(a::b::r).length-1=((b::r).length-1)+1:=by have h1:(a::b::r).length=r.length+2:=rfl;have h2:(b::r).length=r.length+1:=rfl;lia
   rw[e,List.eraseIdx_cons_succ,z];all_goals rfl
section
variable {X:Cx}{pins:xv}{V:St}{H:Hp}{s:Shared}{l b:Addr}{xs ys zs:List σ}
def Inv.lset{its':List Value}{f:Array Value->Array Value}{t':Nat}(I:Inv X pins V H s)(z:H l=U (.lst xs)) (e:s.heap.get? l=U {cls:=.type "list",data:=.seq its.toArray n}) (hf:f its.toArray=its'.toArray) (hv:aY ys its') (hz:ys.length<=sizeLine):Inv X pins V (upd H l (.lst ys)) {s with heap:=s.heap.update l (Obj.mapSeq f),toks:=t' }:=by have q:=PySem.IsL.update e f;rw[hf]at q;refine I.write (x:=l) (e:=l) (by rw[z];exact trivial) (.inl rfl) (λb' u hb hu=>(Heap.get?_update_other s.heap (Obj.mapSeq f) (Ne.symm hb)).trans hu) ⟨_,q⟩ ?_;exact⟨hz,its',_,hv,q⟩
def Inv.lnew{t':Nat}(I:Inv X pins V H s)(hv:aY ys its)(hz:ys.length<=sizeLine):Inv X pins V (upd H s.heap.objs.size (.lst ys)) {s with heap:=s.heap.push {cls:=.type "list",data:=.seq its.toArray},toks:=t' }:=I.laid (λ_ _ q=>uv _ q) (uq _) ⟨hz,its,0,hv,wm _ rfl⟩
theorem Inv.fresh(I:Inv X pins V H s):H s.heap.objs.size=O:=I.hok.fresh (uq _)
def Inv.lstM(I:Inv X pins V H s)(R:H l=U (.lst xs)):xs.length<=sizeLine/\∃(its:List Value) (n:Nat),aY xs its/\xs.length=its.length/\s.heap.get? l=U {cls:=.type "list",data:=.seq its.toArray n}:=by obtain⟨z,its,n,r,e⟩:=I.hok l _ R;exact⟨z,its,n,r,r.length,e⟩
def KQ(h:n<=sizeLine):Builtin.List.listTooLong n=J:=by unfold Builtin.List.listTooLong;exact uu (by lia)
end
section
variable {X:Cx}
def RL:σ->List σ->Hp->VK->Prop:=λx vs H Q=>∃l xs y,x=.ref l/\vs=[y]/\H l=U (.lst xs)/\xs.length<sizeLine/\Q .non (upd H l (.lst (xs++[y])))
def jY:ue X "list.append" RL:=by intro pins s V H x vs v us Q I W rv h;obtain⟨l,xs,y,rfl,rfl,R,hz,q⟩:=h;cases W;obtain⟨u,rfl,ru⟩:=rv.one;obtain⟨z,its,n,r,hl,e⟩:=I.lstM R;refine call_meets F.slot_list_append ⟨_,e,rfl⟩ F.entry_list_append (F.args_list_append_2 _ _) (PySem.list_append l its.toArray n u (by rw[uy];lia)) ⟨e,?_⟩;refine⟨.non,_,I.lset (its':=its++[u]) R e zv (r.append (.cons ru .nil)) ?_,rfl,q⟩;rw[vp,length_singleton];lia
def RK:σ->List σ->Hp->VK->Prop:=λx vs H Q=>∃l b xs zs,x=.ref l/\vs=[.ref b]/\H l=U (.lst xs)/\H b=U (.lst zs)/\xs.length+zs.length<=sizeLine/\Q .non (upd H l (.lst (xs++zs)))
def aCm:ue X "list.extend" RK:=by
 intro pins s V H x vs v us Q I rx rv h;obtain⟨l,b,xs,zs,rfl,rfl,hH,hB,hz,q⟩:=h;cases rx;obtain⟨u,rfl,ru⟩:=rv.one;cases ru;obtain⟨z,its,n,r,hl,e⟩:=I.lstM hH;obtain⟨z2,W,n2,r2,o6,e2⟩:=I.lstM hB;have hsz:its.toArray.size+W.toArray.size<=sizeLine:=by rw[uy,uy];lia
 have R:¬(!its.toArray.isEmpty&&Builtin.List.listTooLong (its.toArray.size+W.toArray.size))=Y:=by rw[KQ hsz,Bool.and_false];exact vc
 refine call_meets F.slot_list_extend ⟨_,e,rfl⟩ F.entry_list_extend (F.args_list_extend_2 _ _) (AutoSeq1.list_extend_list_list_0 l its.toArray n b W.toArray n2 R (by rw[uy];lia) (by lia)) ⟨e,e2,?_⟩;refine⟨.non,_,I.lset (its':=its++W) hH e zv (r.append r2) ?_,rfl,q⟩;rw[vp];lia
def aFl:σ->List σ->Hp->VK->Prop:=λx vs H Q=>∃l xs y,x=.ref l/\vs=[]/\H l=U (.lst xs)/\xs[xs.length-1]?=U y/\Q y (upd H l (.lst xs.dropLast))
def aBm:ue X "list.pop" aFl:=by
 intro pins s V H x vs v us Q I rx rv h;obtain⟨l,xs,y,rfl,rfl,W,hy,q⟩:=h;cases rx;have R:=rv.zero;subst R;obtain⟨z,its,n,r,hl,e⟩:=I.lstM W;obtain⟨u,hu,ru⟩:=r.get hy;have i5:its.toArray[its.toArray.size-1]?=U u:=by show its.toArray[its.length-1]?=U u;rw[<-Array.getElem?_toList,<-hl];exact hu
 refine call_meets F.slot_list_pop ⟨_,e,rfl⟩ F.entry_list_pop (F.args_list_pop_1 _) (MeetsSeq.list_pop_last l its.toArray n u i5 (by rw[uy];lia)) ⟨e,?_⟩;refine⟨y,_,I.lset (its':=its.dropLast) W e ?_ r.dropLast ?_,ru,q⟩;show its.toArray.eraseIdxIfInBounds (its.toArray.size-1)=its.dropLast.toArray;rw[uy,List.eraseIdxIfInBounds_toArray,BE];rw[List.length_dropLast];lia
def aDb:R2:=λx y H Q=>∃l b xs zs,x=.ref l/\y=.ref b/\H l=U (.lst xs)/\H b=U (.lst zs)/\xs.length+zs.length<=sizeLine/\∀p,H p=O->Q (.ref p) (upd H p (.lst (xs++zs)))
def JZ:bg X (binaryOp .Add) aDb:=by
 intro pins s V H x y v u Q I rx W h;obtain⟨l,b,xs,zs,rfl,rfl,hH,hB,hz,q⟩:=h;cases rx;cases W;obtain⟨z,its,n,r,hl,e⟩:=I.lstM hH;obtain⟨z2,R,n2,r2,o6,e2⟩:=I.lstM hB;refine PySem.P.add_list e e2 ?_ (by rw[uy,uy];lia);have ea:its.toArray++R.toArray=(its++R).toArray:=by simp
 rw[ea];exact⟨.ref _,_,I.lnew (t':=s.toks) (r.append r2) (by rw[vp];lia),rfl,q _ I.fresh⟩
end
end L2
namespace Att
open PySem PySem.W PySem.Calls PyProof.Rows
def pF{P:Params}{h:Heap}:∀(ns:List Int) (vs:List Value),WellAll P h vs (ns.map WData.int)->IntsAre vs ns:=by
 intro ns;induction ns with
 |nil=>intro vs w;rw[map_nil]at w;cases w;exact .nil
 |cons n ns z=>
  intro vs w;rw[vx]at w;cases w with
  |cons a b=>cases a;exact .cons _ _ (z _ b)
def EW{l:OpenLaw}{n:Nat}(hn:l.most=U n){P:Params}{h:Heap}{args:List WData}{z:List Value} (I:l.row.toRowW.claim.pre args=Y) (hwl:WellAll P h z args):∃a vs ns,z=[Value.ref a]/\args=[WData.list (ns.map WData.int)]/\h.get? a=U {cls:=.type "list",data:=.seq vs.toArray}/\IntsAre vs ns/\ns.length<=n:=by
 have hsh:WShape.hasAll [] args [.list .int]=Y:=(pre_splitW I).1;have hc:l.pre.holds [] {args:=args}=Y:=(pre_splitW I).2;obtain⟨d,r,rfl,h1,h2⟩:=hasAllW_cons hsh;obtain rfl:=hasAllW_nil h2;obtain⟨xs,rfl,h3⟩:=hasW_list h1;obtain⟨ns,rfl⟩:=items_int h3;have R:ns.length<=n:=by
  unfold OpenLaw.pre at hc;have h4:(WTm.not (.lt (.lit (.int (n:Int))) (.len (.arg 0)))).holds [] {args:=[.list (ns.map .int)]}=Y:=by have h4:=(holds_andW hc).1;rw[hn]at h4;exact h4
  have h5:=condW_of h4 (w_not (w_lt w_lit (w_len_list (w_arg rfl))));rw[uo]at h5;refine Nat.le_of_not_lt λq=>?_;have q':(n:Int)<((ns.length:Nat):Int):=by lia
  first
   | (rw[vy q']at h5;exact absurd h5 zu)
   | (simp at h5;lia)
 cases hwl with
 |cons w1 w2=>
  cases w2;cases w1 with
  |list ho W=>exact⟨_,_,ns,rfl,rfl,ho,pF ns _ W,R⟩
def FG(l:OpenLaw)(args:List WData):l.row.toRowW.claim.post args (.bool Y) args=Y:=postW_of (r:=l.row.toRowW) (X:=(Y == Y)) (show WShape.has [] (.bool Y) .bool=Y by first|rfl|decide|simp[WShape.has,WShape.arms,WShape.armsAll])
 (show (WTm.eq .res (.lit (.bool Y))).value [] {args:=args,res:=U (.bool Y),after:=args}=U (.bool (Y == Y)) from w_eq_bool (w_res rfl) w_lit) rfl
def yY{l:OpenLaw}{n:Nat}{q:xt}{loose:List Str}{XP:(xw)->Heap->Prop}{YP:World->Heap->Prop}{d:DefRec} (hn:l.most=U n) (sh:d.params.defaults=[]) (call:∀(w:World) (s₀ z:Shared) (mg mb:xw) (fa:Addr) (o:Obj) (pm cd doc:Value) (a:Addr) (vs:List Value) (ns:List Int),Ground q loose [] XP w s₀ mg mb z.heap->YP w z.heap ->z.heap.get? fa=U o->o.data=.func (docDef d.name d.params d.body d.scope pm cd doc)->z.heap.CodeRec cd d.name->mg d.name=U (.ref fa) ->z.heap.get? a=U {cls:=.type "list",data:=.seq vs.toArray}->IntsAre vs ns->ns.length<=n->z.gens=#[] ->codeAny (model l.prog w) callerA (.call (.ref fa) ⟨[.ref a],[]⟩) (λr s'=>r=.ok (.ret (.bool Y))/\OldK z.heap s'.heap/\s'.os=z.os/\AllBare s'.gens) z):WalkO q loose XP YP l.row.toRowW d [] (λf vs=>PySem.call f vs):=by intro w s₀ z mg mb G þ fa o pm cd doc dV kV ho hd ig hD ja hg args vals as R hlay hrd hwl hlo;obtain rfl:dV=.none:=Dflts.none hD sh;obtain rfl:kV=.none:=Dflts.noKw hD;obtain⟨a,vs,ns,rfl,rfl,W,I,hlen⟩:=EW hn R hwl;refine enter_call (codeAny_mono (call w s₀ z mg mb fa o pm cd doc a vs ns G þ ho (fd_plain hd) ig ja W I hlen hg) λr s' hq=>?_);obtain⟨rfl,h2,h3,h4⟩:=hq;exact⟨.inl ⟨.bool Y,.bool Y,[],rfl,λ_=>rfl,.bool Y,FG l _,λ_=>⟨List.Pairwise.nil,λ_ hm=>(nomatch hm)⟩⟩,h2,h3,h4⟩
end Att
namespace L2
open PySem PySem.Spec PyProof.Rows
variable {P:xt}{w:World}{a:Addr}{fd:xr}{x:Str}{H H':Hp}{u:Value}{y:σ}{Q:xu}
theorem rY:∀{vs:List Value} {ns:List Int},IntsAre vs ns->aY (ns.map σ.int) vs
 |_,_,.nil=>.nil
 |_,_,.cons n t h=>.cons ⟨t,rfl⟩ (rY h)
def aCj(H:Hp):Prop:=∀b,H b=O\/∃o xs,H b=U (.frz o (.lst xs))
def LK{K:xq}{mg mb:xw}{CX:aq}{k:Nat}{fa:Addr}{sp:Sp}{I:Shared}{vs:List Value}{ns:List Int} (KX:K.In I.heap) (iq:I.heap.Ns mainGlobals mg) (hb:I.heap.Ns builtinsNs mb) (hbb:∀x:Str,x≠"__name__"->mb x=bootBuiltins x) (hlim:I.heap.NoLimit) (hg:I.gens=#[]) (ha:I.heap.get? a=U {cls:=.type "list",data:=.seq vs.toArray}) (hi:IntsAre vs ns) (hl:ns.length<=sizeLine) (hr:Room k callerA) (F:∀base:Heap,K.In base->base.Ns mainGlobals mg->FnOk P w K mg base CX k fa fd [x] sp) (hbind:∀(s:Shared) (u:Value),BindsTo s fd ⟨[u],[]⟩ [(x,u)]) (c7:∀H:Hp,aCj H->SqL K H a (ns.map σ.int)->sp [.ref a] H (λv _=>v=.bl Y) λ_ _ _=>False) (hCX:∀H e s',CX [] H I (λ_ _ _=>False) e s'->False):codeAny (model P w) callerA (.call (.ref fa) ⟨[.ref a],[]⟩) (λr s'=>r=.ok (.ret (.bool Y))/\OldK I.heap s'.heap/\s'.os=I.os/\AllBare s'.gens) I:=by
 have rv:=rY hi;have lenV:=hi.length;have W:∀H:Hp,aCj H->SqL K H a (ns.map σ.int)->HOk P w H I.heap->(∀b,H b≠O->b=a)->(H a≠O->K.lookup a=O) ->codeAny (model P w) callerA (.call (.ref fa) ⟨[.ref a],[]⟩) (λr s'=>r=.ok (.ret (.bool Y))/\OldK I.heap s'.heap/\s'.os=I.os/\AllBare s'.gens) I:=by
  intro H hO hS hok hA hK;have mL:∀{b:Addr} {o:Obj},I.heap.get? b=U o->H b=O->(vD I.heap H).get? b=U o:=λe n=>MF e n;have qg:∀{b:Addr} {o:Obj} {es:Array DictEntry} {ep:Nat},I.heap.get? b=U o->o.data=.dict es ep->H b=O:=λ{b o es ep} e d=>by
   cases q:H b with
   |none=>rfl
   |some u=>have e':b=a:=hA b (by rw[q];simp);subst e';rw[ha]at e;cases e;have d':Data.seq vs.toArray _=Data.dict es ep:=d;cases d'
  have R:∀{b:Addr} {m:xw},I.heap.Ns b m->(vD I.heap H).Ns b m:=λ{b m} ⟨o,es,ep,e,d,r⟩=>⟨o,es,ep,mL e (qg e d),d,r⟩;have hKb:K.In (vD I.heap H):=λb o e=>mL (KX b o e) (by
   cases q:H b with
   |none=>rfl
   |some u=>have e':b=a:=hA b (by rw[q];simp);subst e';rw[hK (by rw[q];simp)]at e;cases e)
  have hM:Mod K mg (vD I.heap H):=⟨hKb,R iq,⟨mb,R hb,hbb⟩,let ⟨mc,h1,h2⟩:=hlim;⟨mc,R h1,h2⟩⟩;have e0:Env0 P w K mg (vD I.heap H) callerA [] I H:=⟨rfl,hM,λb o e=>UC e,Nat.le_of_eq (GF _ _),trivial,λb hb=>absurd (show b∈([]:List Addr) from hb) zv,hok,.of_eq hg⟩;refine codeAny_mono ((F _ hKb (R iq)).run callerA [] I H ⟨[.ref a],[]⟩ [.ref a] [.ref a] _ _ hr e0 (hbind I (.ref a)) (.cons rfl .nil) (c7 H hO hS)) λr s' h=>?_;cases r with
  |error e=>exact(hCX H e s' h).elim
  |ok fl=>
   cases fl with
   |next=>exact False.elim h
   |brk=>exact False.elim h
   |cont=>exact False.elim h
   |ret u=>
    obtain⟨v,H',os,bare,un,hok',r',q⟩:=h;have q':v=.bl Y:=q;subst q';obtain rfl:u=Value.bool Y:=r';refine⟨rfl,OldK.of_keep λb o e=>?_,os,bare⟩;cases q:H b with
    |none=>exact un.keep b o e q (by intro z;exact absurd (show b∈([]:List Addr) from z) zv) zv
    |some u=>rcases hO b with z|⟨ob,xs,z⟩;rw[q]at z;cases z;have z2:=un.frzs b ob _ z;obtain⟨e1,_⟩:=hok b _ z;obtain⟨e2,_⟩:=hok' b _ z2;rw[e]at e1;cases e1;exact e2
 cases hk:K.lookup a with
 |some o=>have e:=KX a o hk;rw[ha]at e;cases e;refine W (λ_=>O) (λ_=>.inl rfl) (.inr ⟨_,vs.toArray,_,hk,rfl,rfl,rfl,by rw[uy,lenV];exact hl,by simpa using rv⟩) (λb u z=>by have z':(O:Option HO)=U u:=z;cases z') (λb z=>absurd rfl z) λz=>absurd rfl z
 |none=>refine W (λb=>if b=a then U (.frz {cls:=.type "list",data:=.seq vs.toArray} (.lst (ns.map σ.int))) else O) (λb=>?_) (.inl (.inr ⟨{cls:=.type "list",data:=.seq vs.toArray},if_pos rfl⟩)) (λb u z=>?_) (λb z=>?_) λ_=>hk;by_cases hb:b=a;exact .inr ⟨_,_,if_pos hb⟩;exact .inl (if_neg hb);by_cases hb:b=a;have z':=(if_pos hb).symm.trans z;cases z';subst hb;exact⟨ha,by rw[uo];exact hl,vs,_,rv,ha⟩;have z':=(if_neg hb).symm.trans z;cases z';by_cases hb:b=a;exact hb;exact absurd (if_neg hb) z
def QD{l:PySem.W.OpenLaw}{n k:Nat}{q:xt}{loose:List Str}{XP:(xw)->Heap->Prop}{YP:World->Heap->Prop}{d:DefRec}{K:Params->xq}{CX:World->aq}{sp:World->Sp} (hn:l.most=U n) (hn2:n<=sizeLine) (sh:d.params.defaults=[]) (hr:Room k callerA) (hY:∀(w:World) (h:Heap),YP w h->(K w.params).In h) (F:∀(w:World) (mg:xw) (fa:Addr) (h:Heap),(K w.params).In h->h.Ns mainGlobals mg->mg d.name=U (.ref fa) ->∃fd:xr,(∀(s:Shared) (u:Value),BindsTo s fd ⟨[u],[]⟩ [(x,u)]) /\∀base:Heap,(K w.params).In base->base.Ns mainGlobals mg->FnOk l.prog w (K w.params) mg base (CX w) k fa fd [x] (sp w)) (c7:∀(w:World) (H:Hp) (a:Addr) (ns:List Int),ns.length<=n->aCj H->SqL (K w.params) H a (ns.map σ.int)->sp w [.ref a] H (λv _=>v=.bl Y) λ_ _ _=>False) (hCX:∀(w:World) (H:Hp) (s:Shared) (e:Value) (s':Shared),CX w [] H s (λ_ _ _=>False) e s'->False):PySem.W.WalkO q loose XP YP l.row.toRowW d [] (λf vs=>PySem.call f vs):=by refine Att.yY hn sh λw s₀ R mg mb fa o pm cd doc a vs ns G þ ho hd ig ja hobj I z hg=>?_;have KX:=hY w _ þ;obtain⟨fd,hb,hF⟩:=F w mg fa _ KX G.T.g ja;exact LK KX G.T.g G.T.b G.T.builtins G.T.nolimit hg hobj I (vi z hn2) hr hF hb (λH hO hS=>c7 w H a ns z hO hS) λH e s'=>hCX w H R e s'
noncomputable def inClass(s:Stmt)(j:Nat):Stmt:=match s with
 |.ClassDef _ _ _ body _ _ _ _ _ _ _=>body.getD j (.Pass ⟨0,0,0,0⟩)
 |_=>.Pass ⟨0,0,0,0⟩
noncomputable def dG(s:Stmt):Arguments:=match s with
 |.FunctionDef _ a _ _ _ _ _ _ _ _=>a
 |_=>{posonlyargs:=[],args:=[],vararg:=O,kwonlyargs:=[],kw_defaults:=[],kwarg:=O,defaults:=[]}
noncomputable def bN(s:Stmt):List Stmt:=match s with
 |.FunctionDef _ _ b _ _ _ _ _ _ _=>b
 |_=>[]
noncomputable def aH(s:Stmt):Scope:=match s with
 |.FunctionDef _ _ _ _ _ _ sc _ _ _=>sc
 |_=>{kind:=.function,names:=[],isGenerator:=J,isCoroutine:=J}
abbrev oa:aq:=λ_ _ _ _ _ _=>False
abbrev E0:XK:=λ_ _ _=>False
structure Fun (K:xq) (x qual:Str) (st:Stmt) (f:Addr) (fd:xr):Prop where
 ex:∃(oc:Value) (od:Option Addr) (kV doc pm:Value) (an:Option Addr) (az ct:Value) (lj:Array (Option Value)),
  fd=PySem.W.fnOf x qual (dG st) (bN st) (aH st) .none kV doc pm an az ct/\K.lookup f=U ⟨oc,od,.func fd,lj⟩/\codeIn K az qual=Y
 kp:keepIn K (.ref f)=Y
section
variable {P:xt}{w:World}{K:xq}{mg:xw}{base:Heap}
def Fun.ok{qual:Str}{st:Stmt}{f:Addr}{N ps:List Str}{k:Nat}{sp:Sp}(F:Fun K x qual st f fd)(S:ah N ps (aH st))(len:∀vs H Q E,sp vs H Q E->vs.length=ps.length) (z:∀(az:Value) (A:Around) (outer:List Env) (s:Shared) (H:Hp) (vs:List σ) (Q:VK) (E:XK),Room k (A.deeper (envOfC qual (aH st) s.heap.objs.size f az))->sp vs H Q E ->∃t,PSs (nY oa P w K mg base N qual (aH st) f az A outer s H E).nox (bN st) t/\t {nx:=λ_ H'=>Q .non H',rt:=Q} (start N vs) H):FnOk P w K mg base oa (k+1) f fd ps sp:=by obtain⟨oc,od,kV,doc,pm,an,az,ct,lj,rfl,lk,I⟩:=F.ex;refine MS lk I S len λA outer s H vs Q E hr R=>?_;obtain⟨t,h,q⟩:=z az A outer s H vs Q E hr R;exact⟨t,h.nox,q⟩
def Fun.binds{qual:Str}{st:Stmt}{f:Addr}{ps:List Str}(F:Fun K x qual st f fd) (h:∀(kV doc pm:Value) (an:Option Addr) (az ct:Value) (us:List Value),us.length=ps.length->bindArgs (PySem.W.fnOf x qual (dG st) (bN st) (aH st) .none kV doc pm an az ct) ⟨us,[]⟩=pure (ps.zip us)):Binds K fd ps []:=by obtain⟨oc,od,kV,doc,pm,an,az,ct,lj,rfl,lk,z⟩:=F.ex;exact .all (h kV doc pm an az ct)
end
def DF{A:Around}{k:Nat}(hr:Room k A):A.units+1<cLine:=Nat.lt_of_le_of_lt (Nat.add_le_add_left (by decide:1<=64) _) hr.units
def xX{A ρ:Prop}(h:ρ):if J=Y then A else ρ:=by rw[if_neg vc];exact h
def GC{A ρ:Prop}(h:A):if Y=Y then A else ρ:=by rw[if_pos rfl];exact h
def aG(H H':Hp):Prop:=∀b o,H b=U o->H' b=U o
def aG.refl(H:Hp):aG H H:=λ_ _ h=>h
def aG.trans{H1 H2:Hp}(a:aG H H1)(b:aG H1 H2):aG H H2:=λc o h=>b c o (a c o h)
def aG.free(e:aG H H'){l:Addr}(h:H' l=Option.none):H l=Option.none:=by
 cases q:H l with
 |none=>rfl
 |some o=>rw[e l o q]at h;cases h
section
variable {κ:Type}[DecidableEq κ]
noncomputable def pU(kvs:List (κ×σ))(k:κ):Option σ:=(kvs.find? λz=>decide (z.1=k)).map (·.2)
noncomputable def putK(kvs:List (κ×σ))(k:κ)(v:σ):List (κ×σ):=
 if (kvs.any λz=>decide (z.1=k))=Y then kvs.map (λz=>if z.1=k then(z.1,v) else z) else kvs++[(k,v)]
noncomputable def YG(kvs:List (κ×σ))(k:κ):List (κ×σ):=kvs.filter λz=>decide (z.1≠k)
def wB{p:κ×σ}{r:List (κ×σ)}{k:κ}(e:p.1=k):pU (p::r) k=U p.2:=by simp[pU,find?_cons,e]
def wC{p:κ×σ}{r:List (κ×σ)}{k:κ}(e:¬p.1=k):pU (p::r) k=pU r k:=by simp[pU,find?_cons,e]
def xV(kvs:List (κ×σ))(k:κ)(v:σ):(putK kvs k v).length<=kvs.length+1:=by unfold putK;split;rw[uo];lia;rw[vp,wz,List.length_nil];lia
theorem mO.getD{o:Option σ}{u:Option Value}{d:σ}{d':Value}(r:mO o u)(z:RelV d d'):RelV (o.getD d) (u.getD d'):=by
 cases o with
 |none=>cases u with
  |none=>exact z
  |some _=>exact(show False from r).elim
 |some _=>cases u with
  |none=>exact(show False from r).elim
  |some _=>exact r
def KV.val{kvs:List (κ×σ)}{vs:List (κ×Value)}(r:KV kvs vs)(k:κ):mO (pU kvs k) (valueAt vs k):=by
 unfold KV at r;induction r with
 |nil=>exact True.intro
 | @cons p q ps I h t R=>
  obtain⟨h1,h2⟩:=h;by_cases e:p.1=k;have e':q.1=k:=h1.symm.trans e;have b:valueAt (q::I) k=U q.2:=by simp[valueAt,find?_cons,e']
  rw[wB e,b];exact h2;have e':¬q.1=k:=λz=>e (h1.trans z);have b:valueAt (q::I) k=valueAt I k:=by simp[valueAt,find?_cons,e']
  rw[wC e,b];exact R
theorem KV.any{kvs:List (κ×σ)}{vs:List (κ×Value)}(r:KV kvs vs)(k:κ):(kvs.any λz=>decide (z.1=k))=vs.any λz=>decide (z.1=k):=by
 unfold KV at r;induction r with
 |nil=>rfl
 |cons h t I=>rw[any_cons,any_cons,I,h.1]
def KV.repl{kvs:List (κ×σ)}{vs:List (κ×Value)}(r:KV kvs vs)(k:κ)(R:RelV y u):KV (kvs.map λI=>if I.1=k then(I.1,y) else I) (vs.map λI=>if I.1=k then(I.1,u) else I):=by
 unfold KV at r ⊢;induction r with
 |nil=>exact .nil
 | @cons p q ps qs h t W=>rw[vx,vx];refine .cons ?_ W;obtain⟨h1,h2⟩:=h;by_cases e:p.1=k;rw[if_pos e,if_pos (h1.symm.trans e)];exact⟨h1,R⟩;rw[if_neg e,if_neg (λz=>e (h1.trans z))];exact⟨h1,h2⟩
def KV.put{kvs:List (κ×σ)}{vs:List (κ×Value)}(r:KV kvs vs)(k:κ)(z:RelV y u):KV (putK kvs k y) (stored vs k u):=by unfold putK stored;rw[r.any k];by_cases e:(vs.any λI=>decide (I.1=k))=Y;rw[if_pos e,if_pos e];exact r.repl k z;rw[if_neg e,if_neg e];exact Paired.snoc r ⟨rfl,z⟩
def KV.drop{kvs:List (κ×σ)}{vs:List (κ×Value)}(r:KV kvs vs)(k:κ):KV (YG kvs k) (without vs k):=by
 unfold KV at r ⊢;unfold YG without;induction r with
 |nil=>exact .nil
 | @cons p q ps R h t I=>
  obtain⟨h1,h2⟩:=h;rw[List.filter_cons,List.filter_cons];by_cases e:p.1=k;have a:¬decide (p.1≠k)=Y:=by simp[e]
  have b:¬decide (q.1≠k)=Y:=by simp[h1.symm.trans e]
  rw[if_neg a,if_neg b];exact I;have e':¬q.1=k:=λz=>e (h1.trans z);have a:decide (p.1≠k)=Y:=by simp[e]
  have b:decide (q.1≠k)=Y:=by simp[e']
  rw[if_pos a,if_pos b];exact .cons ⟨h1,h2⟩ I
theorem KV.length{kvs:List (κ×σ)}{vs:List (κ×Value)}(r:KV kvs vs):kvs.length=vs.length:=Paired.length r
end
def LP{k:Key}(r:RelV (kV k) u):(dE P w).is k u=Y:=by
 cases k with
 |inl i=>obtain⟨t,e⟩:=(show ∃t,u=Value.int i t from r);subst e;exact xQ P w i t
 |inr x=>obtain⟨t,e⟩:=(show ∃t,u=Value.str x t from r);subst e;exact jH P w x t
section
variable {P:xt}{w:World}{H:Hp}{h:Heap}{a:Addr}
def aCM{u:HO}(ok:HOk P w H h)(e:Rd H a u):cR P w H h a u:=e.ok ok
def yJ{kvs:List (Key×σ)}(ok:HOk P w H h)(e:Rd H a (.dK kvs)):kvs.length<=sizeLine/\(a == sysModules)=J/\∃vs,KV kvs vs/\h.DictOf (dE P w) a vs:=
 show cR P w H h a (.dK kvs) from aCM ok e
def aEz{kvs:List (Key×σ)}(ok:HOk P w H h)(e:H a=U (.dK kvs)):kvs.length<=sizeLine/\(a == sysModules)=J/\∃vs,KV kvs vs/\h.DictOf (dE P w) a vs:=yJ ok (.inl e)
end
def rX(H:Hp)(a:Addr)(y:σ)(r:Option σ):Prop:=∃kvs k,Rd H a (.dK kvs)/\y=kV k/\r=pU kvs k
def PU(H:Hp)(a:Addr)(y v:σ)(H':Hp):Prop:=∃kvs k,H a=U (.dK kvs)/\y=kV k/\kvs.length<sizeLine/\H'=upd H a (.dK (putK kvs k v))
theorem rX.k{H:Hp}{a:Addr}{kvs:List (Key×σ)}{k:Key}(e:H a=U (.dK kvs)):rX H a (kV k) (pU kvs k):=⟨kvs,k,.inl e,rfl,rfl⟩
theorem PU.k{H:Hp}{a:Addr}{kvs:List (Key×σ)}{k:Key}{v:σ}(e:H a=U (.dK kvs))(hl:kvs.length<sizeLine):PU H a (kV k) v (upd H a (.dK (putK kvs k v))):=⟨kvs,k,e,rfl,hl,rfl⟩
section
variable {X:Cx}{pins:xv}{V:St}{H:Hp}{s:Shared}{a:Addr}{y v:σ}{u r:Value}{o:Option σ}{A:Around}{E:xu}
def Inv.big(I:Inv X pins V H s):sysModules<s.heap.objs.size:=by have h:mainGlobals<s.heap.objs.size:=(I.mod.glob.keeps I.bk).lt;exact Nat.lt_trans zu h
def GP(hu:A.units+1<cLine)(I:Inv X pins V H s)(g:rX H a y (U v))(W:RelV y u)(h:∀R s',Inv X pins V H s'->RelV v R->Q R s'):wpAny (model X.prog X.w) A (getItem (.ref a) u) Q E s:=by obtain⟨kvs,k,e,ey,l⟩:=g;subst ey;obtain⟨z,hd,vs,rel,dd⟩:=yJ I.hok e;obtain⟨R,hw,gw⟩:=mO.some_of (v:=v) (o:=valueAt vs k) (by rw[l];exact rel.val k);exact wpAny_getItem_of (LP W) dd.mapOf hw (h R _ (I.tok _) gw)
def VS{h':Heap}{t':Nat}{ob:HO}(I:Inv X pins V H s)(mu:ud (H a))(hs:Heap.SameBut a s.heap h')(he:∃q,h'.get? a=U q)(new:cR X.prog X.w (upd H a ob) h' a ob):Inv X pins V (upd H a ob) {s with heap:=h',toks:=t' }:=I.write (x:=a) (e:=a) mu (.inl rfl) (λb q hb z=>(hs.2 b hb).trans z) he new
def aBY{h':Heap}{kvs:List (Key×σ)}{vs:List (Key×Value)}(z:kvs.length<=sizeLine)(hd:(a == sysModules)=J)(rel:KV kvs vs)(dd:h'.DictOf (dE P w) a vs):cR P w H' h' a (.dK kvs):=⟨z,hd,vs,rel,dd⟩
def GO{Q:Unit->Shared->Prop}(hu:A.units+1<cLine)(I:Inv X pins V H s)(g:PU H a y v H')(W:RelV y u)(rv:RelV v r)(h:∀s',Inv X pins V H' s'->Q () s'):wpAny (model X.prog X.w) A (setItem (.ref a) u r) Q E s:=by
 obtain⟨kvs,k,e,ey,l,eH⟩:=g;subst ey eH;obtain⟨z,hd,vs,rel,dd⟩:=aEz I.hok e;have hz:vs.length<=sizeLine:=by rw[<-rel.length];exact z
 have hl:(putK kvs k v).length<=sizeLine:=by have:=xV kvs k v;lia
 refine wpAny_setItem_pairs (hsz:=hz) (LP W) dd λh' R hs=>h _ ?_;have he:∃q,h'.get? a=U q:=let ⟨q,_,_,hq,_⟩:=R;⟨q,hq⟩
 exact VS I (by rw[e];exact True.intro) hs he (aBY hl hd (rel.put k rv) R)
end
section
variable {X:Cx}{pins:xv}{V:St}{H:Hp}{s:Shared}{a:Addr}{kvs:List (Key×σ)}{k:Key}{u:Value}{A:Around}{E:xu}
def aEA(I:Inv X pins V H s)(e:Rd H a (.dK kvs))(h:∀t s',Inv X pins V H s'->Q (.int kvs.length t) s'):wpAny (model X.prog X.w) A (call (.builtin "len") [.ref a]) Q E s:=by obtain⟨z,hd,vs,rel,dd⟩:=yJ I.hok e;refine call_len_dict hd dd (by rw[<-rel.length];rw[sizeLine_eq]at z;lia) ?_;rw[<-rel.length];exact h _ _ (I.tok _)
end
def aEQ(i:Expr):Prop:=∀z I,subscripted i J z I=operate [z,I] (getItem z I)
def QK{prog:xt}{A:Around}{E:xu}{s:Shared}{env:Env}{value z:Expr}{pos:Pos}{T id:String} (hl:typeLookup (.type T) "__getitem__"=pure (U (.builtin id))) (hs:aEQ z) (h:wpAny (model prog w) A (eval value env) (λo s₁=>wpAny (model prog w) A (eval z env) (λi I=>I.TypeIs o T/\wpAny (model prog w) A (getItem o i) Q E I) E s₁) E s):wpAny (model prog w) A (eval (.Subscript value z pos) env) Q E s:=by
 refine Subscript_ (wk h (λo s₁ h₁=>wk h₁ (λi I R=>?_) λ_ _ x=>x) λ_ _ x=>x);obtain⟨hT,R⟩:=R;unfold subscriptTail;refine wg ?_;rw[getitemInPython_of_ne hT.not_modules];refine wg (wpAny_specialOf hT hl ?_);have fin:wpAny (model prog w) A (subscripted z J o i) (λr W=>wpAny (model prog w) A (letTemporaryGo value o r >>= λ_=>pure r) Q E W) E I:=by rw[hs o i];exact wpAny_operating (wk R (λr W h₃=>wg (wpAny_letTemporaryGo (wj h₃))) λ_ _ x=>x)
 first
  |exact wj (wg fin)
  |exact wg (wj (wg fin))
  |exact wg fin
def yK{X:Cx}{pins:xv}{V:St}{s:Shared}{o:Option σ}(I:Inv X pins V H s)(g:rX H a y o):s.TypeIs (.ref a) "dict":=by obtain⟨kvs,k,e,_,_⟩:=g;obtain⟨_,_,vs,_,dd⟩:=yJ I.hok e;exact dd.typeIs
def aCz(td ty:TE):TE:=λV H Q=>td V H λx H1=>ty V H1 λy H2=>∃a v,x=.ref a/\rX H2 a y (U v)/\Q v H2
def aCK(td ty tv:TE):TS:=λD V H=>tv V H λv H1=>td V H1 λx H2=>ty V H2 λy I=>∃a z,x=.ref a/\PU I a y v z/\D.nx V z
section
variable {X:Cx}{o i e value:Expr}{pos pos' tpos:Pos}{td ty tv:TE}
def CN(hu:X.A.units+1<cLine)(ho:PE X o td)(hi:PE X i ty)(hs:aEQ i):PE X (.Subscript o i pos) (aCz td ty):=by intro pins s V H Q I h;refine QK PySem.F.slot_dict_getitem.lookup hs (ae (ho pins s V H _ I h) λu s1 ⟨x,H1,I1,R,W⟩=>ae (hi pins s1 V H1 _ I1 W) λiv s2 ⟨y,H2,I2,z,a,v,ex,g,q2⟩=>?_);subst ex;obtain rfl:u=Value.ref a:=R;exact⟨yK I2 g,GP hu I2 g z λw' s3 I3 gw=>⟨v,H2,I3,gw,q2⟩⟩
def SO(hu:X.A.units+1<cLine)(ho:PE X o td)(hi:PE X i ty)(hv:PE X value tv)(hs:swapsWith value (U (.Subscript o i pos')) pos.line X.env=pure J):PS X (.Assign [.Subscript o i pos'] value pos) (aCK td ty tv):=by intro pins s V H D I h;refine wpAny_Assign_Subscript (ae (hv pins s V H _ I h) λr s1 ⟨v,H1,I1,rv,W⟩=>ae (ho pins s1 V H1 _ I1 W) λu s2 ⟨x,H2,I2,R,q2⟩=>ae (hi pins s2 V H2 _ I2 q2) λiv s3 ⟨y,H3,I3,z,a,H4,ex,g,q3⟩=>?_) hs;subst ex;obtain rfl:u=Value.ref a:=R;exact GO hu I3 g z rv λs4 I4=>⟨V,H4,I4,q3⟩
end
def OP(h:Heap)(hb:sysModules<h.objs.size):cR P w H (h.push {cls:=.type "dict",data:=.dict #[]}) h.objs.size (.dK []):=⟨xg _,w6.mpr (Ne.symm (w8 hb)),[],.nil,Heap.DictOf.new h⟩
def ZJ:TE:=λ_ H Q=>∀p,H p=O->Q (.ref p) (upd H p (.dK []))
section
variable {X:Cx}{pos:Pos}
def JR:PE X (.Dict [] [] pos) ZJ:=λpins s V H Q I h=>wpAny_Dict_empty ⟨.ref s.heap.objs.size,_,I.laid (a:=s.heap.objs.size) (o:=.dK []) (t':=s.toks) (λ_ _ q=>uv _ q) (uq _) (OP s.heap I.big),rfl,h _ (I.hok.fresh (uq _))⟩
end
structure M1 (X:Cx) (o:Expr) (m:Str) (apos:Pos) (e:Expr) (bo:Pos):Prop where
 base:attributeBase o m X.env (eval o X.env)=eval o X.env
 few:((backTo bo (starEach [e] X.env)).all (λx=>!x.1)&&(backToKw bo (keywordEach [] X.env)).all (λx=>x.1.isSome)
  && decide (([e]:List Expr).length+([]:List Keyword).length+(if ([]:List Keyword).isEmpty then 0 else 1)<30))=Y
 line:(apos.endLine == bo.line)=Y
 trees:backTo bo (starEach [e] X.env)=[(J,eval e X.env)]
structure M2 (X:Cx) (o:Expr) (m:Str) (apos:Pos) (e f:Expr) (bo:Pos):Prop where
 base:attributeBase o m X.env (eval o X.env)=eval o X.env
 few:((backTo bo (starEach [e,f] X.env)).all (λx=>!x.1)&&(backToKw bo (keywordEach [] X.env)).all (λx=>x.1.isSome)
  && decide (([e,f]:List Expr).length+([]:List Keyword).length+(if ([]:List Keyword).isEmpty then 0 else 1)<30))=Y
 line:(apos.endLine == bo.line)=Y
 trees:backTo bo (starEach [e,f] X.env)=[(J,eval e X.env),(J,eval f X.env)]
section
variable {X:Cx}{pins:xv}{V:St}{H:Hp}{s:Shared}{a:Addr}{y d:σ}{u r:Value}{o:Option σ}{A:Around}{E:xu}
def aCa(hu:A.units+1<cLine)(I:Inv X pins V H s)(g:rX H a y o)(W:RelV y u)(rd:RelV d r)(h:∀R s',Inv X pins V H s'->RelV (o.getD d) R->Q R s'):wpAny (model X.prog X.w) A (call (.builtin "dict.get") [.ref a,u,r]) Q E s:=by obtain⟨kvs,k,e,ey,l⟩:=g;subst ey;obtain⟨z,hd,vs,rel,dd⟩:=yJ I.hok e;refine call_meetsIn PySem.F.slot_dict_get dd.typeIs PySem.F.entry_dict_get (PySem.F.args_dict_get_3 _ _ _) (meets_dict_get_default (dE X.prog X.w) a (LP W) hd r) ⟨_,dd.mapOf,h _ _ (I.tok _) ?_⟩;rw[l];exact(rel.val k).getD rd
end
end L2
namespace Att
open PySem PySem.W PySem.Calls PyProof.Rows
end Att
namespace L2
open PySem PySem.Spec PyProof.Rows
section
variable {X:Cx}
def GU:eU X (.builtin "len") (λxs H Q=>∃a kvs,xs=[σ.ref a]/\H a=U (.dK kvs)/\Q (.int kvs.length) H):=by intro pins s V H xs us Q I r h;obtain⟨a,kvs,rfl,ha,q⟩:=h;obtain⟨u,rfl,ru⟩:=vals1 r;cases ru;exact aEA I (.inl ha) λt s' z=>⟨.int kvs.length,H,z,⟨t,rfl⟩,q⟩
end
end L2
namespace Toy
open PySem L2
open PySem.W (fnOf)
noncomputable def top(i:Nat):Stmt:=PySem.Challenge.pw_leaffold_k08_fault.main.body.getD i (.Pass ⟨0,0,0,0⟩)
def dF(n q:Str)(s:Stmt)(m:Str)(t c:Nat):xr:=fnOf n q (L2.dG s) (L2.bN s) (L2.aH s) .none .none .none (.str m t) O (.ref c) .none
def dg(n:Str)(i c:Nat):xr:=dF n n (top i) "law_leaffold_k08_fault" 407 c
def dM1(n:Str)(i c:Nat):xr:=dF n n (top i) "leaffold.joints" 187 c
def j8(n:Str)(i c:Nat):xr:=dF n n (top i) "leaffold.lying" 200 c
noncomputable def oF(f:xr):Obj:=⟨.type "function",O,.func f,#[]⟩
noncomputable def oC(x:Array Value):Obj:=⟨.type "code",O,.fields x,#[]⟩
noncomputable def en(P:Params)(x:Str)(t:Nat)(v:Value):DictEntry:=⟨PyData.keyHash P x,.str x t,v⟩
noncomputable def j(i:Int):Value:=.int i 0
noncomputable def l(a:Nat):Value:=.ref a
noncomputable def cF(t:Nat):Value:=.str "/claim/cut.py" t
def ND:xr:=dM1 yu 1 20
def eZ:xr:=dF "__init__" "Spot.__init__" (L2.inClass (top 3) 0) "leaffold.lying" 200 34
def gN:xr:=dF zg "Spot.far_line" (L2.inClass (top 3) 1) "leaffold.lying" 200 41
def fR:xr:=dF ze "Spot.near_line" (L2.inClass (top 3) 2) "leaffold.lying" 200 48
def eF:xr:=dF "__init__" "Strand.__init__" (L2.inClass (top 4) 0) "leaffold.lying" 200 69
def iL:xr:=dF zi "Strand.is_torn" (L2.inClass (top 4) 1) "leaffold.lying" 200 76
def iM:xr:=dF zh "Strand.is_bend" (L2.inClass (top 4) 2) "leaffold.lying" 200 83
def MV:xr:=j8 "fault" 5 97
def NQ:xr:=j8 yo 6 104
def NN:xr:=j8 yp 7 111
def NG:xr:=j8 y7 8 118
def XT:xr:=j8 xy 9 125
def MU:xr:=j8 zk 10 132
def NH:xr:=j8 yq 11 139
def NB:xr:=j8 zd 12 146
def XR:xr:=j8 yb 13 153
def XN:xr:=dg yd 15 160
def NJ:xr:=dg yt 16 167
def XQ:xr:=dg ya 17 174
def NC:xr:=dg zb 18 179
def MZ:xr:=dg y8 19 186
def XI:xr:=dg yg 20 191
def XO:xr:=dg yf 21 198
def NF:xr:=dg yw 22 203
def MX:xr:=dg za 23 210
def MY:xr:=dg y9 24 217
def XU:xr:=dg xx 25 224
def NA:xr:=dg zc 26 231
def NL:xr:=dg yx 27 236
def XJ:xr:=dg yh 28 243
def NM:xr:=dg yr 29 250
def XM:xr:=dg yc 30 257
def NP:xr:=dg yj 31 262
def NO:xr:=dg yk 32 267
def NK:xr:=dg yv 33 272
def XH:xr:=dg yi 34 277
def MW:xr:=dg zf 35 284
def NI:xr:=dg yz 36 291
def BA:xr:=dg "law" 37 296
def oA(c:Nat)(x q:Str)(t n a k:Nat):Obj:=oC #[.str x t,.str q (t+1),cF (t+2),j n,j a,j 0,j 0,j 3,l (c-5),.bool Y,j 181,l (c-4),.none,l (c-3),l (c-2),l (c-1),j k,j n,cF (k+1)]
def oB(c:Nat)(x q:Str)(t n a k:Nat):Obj:=oC #[.str x t,.str q (t+1),cF (t+2),j n,j a,j 0,j 0,j 3,l (c-3),.bool Y,j 181,l (c-2),.none,.none,.none,l (c-1),j k,j n,cF (k+1)]
def pA(f:xr)(x:Str)(c t n a k:Nat):xq:=[(c,oA c x x t n a k),(c+1,oF f)]
def pB(f:xr)(x:Str)(c t n a k:Nat):xq:=[(c,oB c x x t n a k),(c+1,oF f)]
def KK(P:Params):xq:=List.flatten [[(3,⟨(.type "dict"),O,(.dict #[en P "__name__" 165 (.str "law_leaffold_k08_fault" 407),en P "__doc__" 166 .none,en P "__package__" 167 .none,en P "__loader__" 168 (.builtin "__main__.__loader__#opaque"),en P "__spec__" 169 .none,en P "__annotations__" 170 (.ref 6),en P "__builtins__" 171 (.ref 4),en P "__file__" 173 (cF 172),en P "__cached__" 174 .none,en P yu 199 (.ref 21),en P "Spot" 252 (.ref 52),en P "Strand" 303 (.ref 87),en P "fault" 317 (.ref 98),en P yo 329 (.ref 105),en P yp 352 (.ref 112),en P y7 360 (.ref 119),en P xy 370 (.ref 126),en P zk 378 (.ref 133),en P yq 386 (.ref 140),en P zd 396 (.ref 147),en P yb 406 (.ref 154),en P yd 416 (.ref 161),en P yt 423 (.ref 168),en P ya 432 (.ref 175),en P zb 438 (.ref 180),en P y8 457 (.ref 187),en P yg 463 (.ref 192),en P yf 475 (.ref 199),en P yw 481 (.ref 204),en P za 491 (.ref 211),en P y9 499 (.ref 218),en P xx 507 (.ref 225),en P zc 516 (.ref 232),en P yx 522 (.ref 237),en P yh 530 (.ref 244),en P yr 538 (.ref 251),en P yc 546 (.ref 258),en P yj 552 (.ref 263),en P yk 558 (.ref 268),en P yv 564 (.ref 273),en P yi 570 (.ref 278),en P zf 590 (.ref 285),en P yz 599 (.ref 292),en P "law" 605 (.ref 297)] 44),#[]⟩)],pA ND yu 20 189 2 2 197,[(34,oA 34 "__init__" "Spot.__init__" 214 14 6 223),(35,oF eZ),(41,oA 41 zg "Spot.far_line" 226 21 1 230),(42,oF gN),(48,oA 48 ze "Spot.near_line" 233 24 1 237),(49,oF fR),(51,⟨(.type "dict"),O,(.dict #[en P "__module__" 209 (.str "leaffold.lying" 200),en P "__firstlineno__" 213 (.int 12 212),en P "__init__" 225 (.ref 35),en P zg 232 (.ref 42),en P ze 239 (.ref 49),en P "__static_attributes__" 245 (.ref 50),en P "__dict__" 247 (.ref 53),en P "__weakref__" 249 (.ref 54),en P "__doc__" 250 .none] 4),#[]⟩),(52,⟨(.type "type"),O,(.cls ⟨"Spot",[(.type "object")],[(.ref 52),(.type "object")],51,"Spot",Y,[],[],J,O,J⟩),#[O,O,(U (.str "Spot" 202)),(U (.str "Spot" 210)),(U (.builtin "object.__new__")),(U (.bool Y))]⟩),(69,oA 69 "__init__" "Strand.__init__" 265 28 6 274),(70,oF eF),(76,oA 76 zi "Strand.is_torn" 277 35 1 281),(77,oF iL),(83,oA 83 zh "Strand.is_bend" 284 40 1 288),(84,oF iM),(86,⟨(.type "dict"),O,(.dict #[en P "__module__" 260 (.str "leaffold.lying" 200),en P "__firstlineno__" 264 (.int 26 263),en P "__init__" 276 (.ref 70),en P zi 283 (.ref 77),en P zh 290 (.ref 84),en P "__static_attributes__" 296 (.ref 85),en P "__dict__" 298 (.ref 88),en P "__weakref__" 300 (.ref 89),en P "__doc__" 301 .none] 4),#[]⟩),(87,⟨(.type "type"),O,(.cls ⟨"Strand",[(.type "object")],[(.ref 87),(.type "object")],86,"Strand",Y,[],[],J,O,J⟩),#[O,O,(U (.str "Strand" 253)),(U (.str "Strand" 261)),(U (.builtin "object.__new__")),(U (.bool Y))]⟩)],pA MV "fault" 97 304 42 5 315,pA NQ yo 104 318 51 2 327,pA NN yp 111 330 60 4 350,pA NG y7 118 353 74 1 358,pA XT xy 125 361 79 1 368,pA MU zk 132 371 85 2 376,pA NH yq 139 379 91 2 384,pA NB zd 146 387 93 2 394,pA XR yb 153 397 99 2 404,pA XN yd 160 409 107 2 414,pA NJ yt 167 417 111 1 421,pA XQ ya 174 424 113 1 430,pB NC zb 179 433 123 2 436,pA MZ y8 186 439 125 5 455,pB XI yg 191 458 139 2 461,pA XO yf 198 464 146 3 473,pB NF yw 203 476 151 1 479,pA MX za 210 482 158 2 489,pA MY y9 217 492 166 2 497,pA XU xx 224 500 170 2 505,pA NA zc 231 508 174 3 514,pB NL yx 236 517 180 4 520,pA XJ yh 243 523 185 2 528,pA NM yr 250 531 187 2 536,pA XM yc 257 539 193 2 544,pB NP yj 262 547 197 3 550,pB NO yk 267 553 212 4 556,pB NK yv 272 559 238 4 562,pB XH yi 277 565 250 3 568,pA MW zf 284 571 257 4 588,pA NI yz 291 591 276 2 597,pB BA "law" 296 600 283 1 603]
noncomputable def aas:List Addr:=[3,20,21,34,35,41,42,48,49,51,52,69,70,76,77,83,84,86,87,97,98,104,105,111,112,118,119,125,126,132,133,139,140,146,147,153,154,160,161,167,168,174,175,179,180,186,187,191,192,198,199,203,204,210,211,217,218,224,225,231,232,236,237,243,244,250,251,257,258,262,263,267,268,272,273,277,278,284,285,291,292,296,297]
def aEc:∀P,aas=(KK P).map (·.1):=λ_=>by kernel_rfl
abbrev lw:PySem.W.OpenLaw:=PySem.Challenge.rw_leaffold_k08_fault
abbrev HH:PySem.W.Hook:=PySem.W.kHook KK aas aEc
open PySem.W PyProof.Rows
noncomputable def vw:xt:=view lw.prog [1,3,4,5,6,7,8,9,10,11,12,13,15,16,17,18,19,20,21,22,23,24,25,26,27,28,29,30,31,32,33,34,35,36,37]
abbrev Xt(s:Shared):Bool:=xlAt vw [] s&&recOk (RowW.records (OpenRow.toRowW (OpenLaw.row lw))) s
set_option maxHeartbeats 0 in
def uN{p q:xt}{loose:List Str}{Xt:Shared->Bool}{α:Type}{Yf:Shared->α}{Ya:World->α}{N:Nat}{g0:Bool}(z:∀w:World,(fencedOpening treeTable p w N).map (λs=>(s.heap,s.gens,s.drawn,s.toks))=U (boot_heap w.params,Array.mk [],boot_drawn,boot_toks)) (h:∀(w:World) (os:OsState),(topFrom treeTable p w N ⟨boot_heap w.params,Array.mk [],boot_drawn,boot_toks,os⟩).map (λs=>(openSeen q loose (importedModules p.main.body) Xt g0 s,Yf s))=U (openGood q loose,Ya w)):LeftO p q loose Xt Yf Ya N g0:=λw=>by
 obtain⟨⟨hp,gs,d,k,os⟩,e,e'⟩:=v9.mp (z w);obtain⟨rfl,rfl,rfl,rfl⟩:hp=boot_heap w.params/\gs=Array.mk []/\d=boot_drawn/\k=boot_toks:=by simpa using e'
 unfold openEnds;rw[e];exact h w os
set_option maxHeartbeats 0 in
def left:LeftO lw.prog vw [] Xt (Hook.obs HH) (Hook.val HH) 3386:=by refine uN (boot_open rfl rfl λs=>rfl) λw os=>?_;unfold topFrom;rewrite[Fast.te14082659384304107361,Fast.te4187177175401517315];kernel_rfl
end Toy
namespace Z
open PySem
variable {x:Str}{o:HO}{c m n r b a v w p' q':Nat}{lo hi:Option Expr}{fr:List (Nat×Nat)}{tg aj:List Nat}{tp over lv x' y':Bool}{y i l2 l':Int}{elt iter:Expr}{s:Shared}{xs:List σ}{ns:List Int}{L:List (Nat×Nat×Bool)}{sd:Side}{Q:xu}{h2:Heap}{p2 pos:Pos}{H H1:Hp}{K:xq}{S S':Addr->Prop}{X:Cx}{prog:xt}{A:Around}{op:CmpOp}{env:Env}{C:Addr}{pins:xv}{V:L2.St}{vs:List Value}{sc:Scope}{ifs es:List Expr}{tn:String}
inductive D where
 |non
 |bl (b:Bool)
 |int (i:Int)
 |str (x:Str)
 |lst (xs:List D)
 |tup (xs:List D)
 |obj (c:Str) (fs:List (Str×D))
 |exc (c:Str)
 |dct (kvs:List (Int×D))
 |frz (xs:List D)
noncomputable def cZ(kvs:List (Int×D))(k:Int):Option D:=(kvs.find? λz=>decide (z.1=k)).map (·.2)
noncomputable def lT(kvs:List (Int×D))(k:Int)(d:D):List (Int×D):=if kvs.any (λz=>decide (z.1=k)) then kvs.map (λz=>if z.1=k then(z.1,d) else z) else kvs++[(k,d)]
set_option genCtorIdx false in
inductive Lit where
 |non|bl (b:Bool)|int (i:Int)|str (x:Str)
noncomputable def Lit.d:Lit->D
 |.non=>.non
 |.bl b=>.bl b
 |.int i=>.int i
 |.str x=>.str x
inductive Rs where
 |ok (d:D)
 |er (c:Str)
mutual
noncomputable def cu:D->D->Bool
 |.non,.non=>Y
 |.bl a,.bl b=>a == b
 |.bl a,.int b=>(if a then 1 else 0) == b
 |.int a,.bl b=>a == (if b then 1 else 0)
 |.int a,.int b=>a == b
 |.str a,.str b=>a == b
 |.lst a,.lst b=>kP a b
 |.tup a,.tup b=>kP a b
 |_,_=>J
noncomputable def kP:List D->List D->Bool
 |[],[]=>Y
 |x::xs,y::ys=>cu x y&&kP xs ys
 |_,_=>J
end
noncomputable def okS(x:Str):Bool:=x.cps.all (· < 0x110000)
noncomputable def flat:Nat->D->Bool
 |_,.non=>Y
 |_,.bl _=>Y
 |_,.int _=>Y
 |_,.str x=>okS x
 |n+1,.lst xs=>xs.all (flat n)
 |n+1,.tup xs=>xs.all (flat n)
 |_,_=>J
def plain(d:D):Bool:=flat 8 d
noncomputable def fj:D->Option Bool
 |.non=>U J
 |.bl b=>U b
 |.int i=>U (i != 0)
 |.lst xs=>U (!xs.isEmpty)
 |.tup xs=>U (!xs.isEmpty)
 |.frz xs=>U (!xs.isEmpty)
 |_=>O
inductive O2 where
 |add|sub|mul|fdiv|mod|pow|eq|ne|lt|le|gt|ge|isin|notin|is|isnot
noncomputable def big:Nat:=1000000
noncomputable def ixN(n:Nat)(i:Int):Option Nat:=if 0<=i then(if i<n then U i.toNat else O) else if -(n:Int)<=i then U (i+n).toNat else O
def atI{α:Type}(xs:List α)(i:Int):Option α:=(ixN xs.length i).bind λj=>xs[j]?
noncomputable def sIx(n d:Nat):Option Int->Nat
 |none=>d
 |some v=>if v<0 then(v+(n:Int)).toNat else min v.toNat n
def cut{α:Type}(xs:List α)(lo hi:Option Int):List α:=(xs.drop (sIx xs.length 0 lo)).take (sIx xs.length xs.length hi-sIx xs.length 0 lo)
noncomputable def isD:D->D->Option Bool
 |.non,.non=>U Y
 |.bl _,.non=>U J
 |.int _,.non=>U J
 |.str _,.non=>U J
 |.lst _,.non=>U J
 |.tup _,.non=>U J
 |.obj _ _,.non=>U J
 |.bl a,.bl b=>U (a == b)
 |_,_=>O
noncomputable def aDv:D->D->Option D
 |.int i,.int j=>U (.int (i+j))
 |.str x,.str y=>if x.length+y.length<=big then U (.str (x++y)) else O
 |.lst xs,.lst ys=>if xs.length+ys.length<=big then U (.lst (xs++ys)) else O
 |.tup xs,.tup ys=>if xs.length+ys.length<=big then U (.tup (xs++ys)) else O
 |_,_=>O
noncomputable def aDs:D->D->Option D
 |.int i,.int j=>U (.int (i-j))
 |_,_=>O
noncomputable def aDu:D->D->Option D
 |.int i,.int j=>if (-(2 ^ 64)<i/\i<2 ^ 64)\/(-(2 ^ 64)<j/\j<2 ^ 64) then U (.int (i*j)) else O
 |_,_=>O
noncomputable def oDiv:D->D->Option D
 |.int i,.int j=>if 0<j/\j<1073741824 then U (.int (i / j)) else O
 |_,_=>O
noncomputable def oMod:D->D->Option D
 |.int i,.int j=>if 0<j then U (.int (i % j)) else O
 |_,_=>O
noncomputable def aDt:D->D->Option D
 |.int i,.int j=>if 0<=j/\j<=1000/\i.natAbs<2 ^ 64 then U (.int (i ^ j.toNat)) else O
 |_,_=>O
def oEq(a b:D):Option D:=if plain a&&plain b then U (.bl (cu a b)) else O
def oNe(a b:D):Option D:=if plain a&&plain b then U (.bl (!cu a b)) else O
noncomputable def oLt:D->D->Option D
 |.int i,.int j=>U (.bl (decide (i<j)))
 |_,_=>O
noncomputable def oLe:D->D->Option D
 |.int i,.int j=>U (.bl (decide (i<=j)))
 |_,_=>O
noncomputable def oGt:D->D->Option D
 |.int i,.int j=>U (.bl (decide (j<i)))
 |_,_=>O
noncomputable def oGe:D->D->Option D
 |.int i,.int j=>U (.bl (decide (j<=i)))
 |_,_=>O
noncomputable def oIn(a:D):D->Option D
 |.lst ys=>if plain a&&ys.all plain then U (.bl (ys.any λy=>cu y a)) else O
 |.tup ys=>if plain a&&ys.all plain then U (.bl (ys.any λy=>cu y a)) else O
 |_=>O
noncomputable def KN(a:D):D->Option D
 |.lst ys=>if plain a&&ys.all plain then U (.bl (!ys.any λy=>cu y a)) else O
 |.tup ys=>if plain a&&ys.all plain then U (.bl (!ys.any λy=>cu y a)) else O
 |_=>O
def oIs(a b:D):Option D:=(isD a b).map .bl
def KO(a b:D):Option D:=(isD a b).map λk=>.bl (!k)
def af(o:O2)(a b:D):Option D:=match o with
 |.add=>aDv a b
 |.sub=>aDs a b
 |.mul=>aDu a b
 |.fdiv=>oDiv a b
 |.mod=>oMod a b
 |.pow=>aDt a b
 |.eq=>oEq a b
 |.ne=>oNe a b
 |.lt=>oLt a b
 |.le=>oLe a b
 |.gt=>oGt a b
 |.ge=>oGe a b
 |.isin=>oIn a b
 |.notin=>KN a b
 |.is=>oIs a b
 |.isnot=>KO a b
inductive BF where
 |len|int|list|tuple|max|min|str|sorted|any
noncomputable def iX:List D->Option (List Int)
 |[]=>U []
 |.int i::r=>(iX r).map (i :: ·)
 |_::_=>O
noncomputable def kO:Int->List Int->Int
 |m,[]=>m
 |m,x::r=>kO (if x > m then x else m) r
noncomputable def pC:Int->List Int->Int
 |m,[]=>m
 |m,x::r=>pC (if x<m then x else m) r
noncomputable def VD:List D->Option D
 |[.lst xs]=>U (.int xs.length)
 |[.tup xs]=>U (.int xs.length)
 |[.frz xs]=>U (.int xs.length)
 |[.str x]=>if x.length<=big then U (.int x.length) else O
 |_=>O
noncomputable def VE:List D->Option D
 |[.int i]=>U (.int i)
 |[.bl b]=>U (.int (if b then 1 else 0))
 |_=>O
noncomputable def yH:List D->Option D
 |[.lst xs]=>U (.lst xs)
 |[.tup xs]=>U (.lst xs)
 |[.frz xs]=>U (.lst xs)
 |_=>O
noncomputable def vH:List D->Option D
 |[.lst xs]=>U (.tup xs)
 |[.tup xs]=>U (.tup xs)
 |_=>O
noncomputable def BC:List D->Option D
 |[.int i,.int j]=>U (.int (if j > i then j else i))
 |[.lst xs]=>match iX xs with|some (i::r)=>U (.int (kO i r))|_=>O
 |_=>O
noncomputable def OE:List D->Option D
 |[.int i,.int j]=>U (.int (if j<i then j else i))
 |[.lst xs]=>match iX xs with|some (i::r)=>U (.int (pC i r))|_=>O
 |_=>O
noncomputable def kX:List D->Option (List (Int×Int))
 |[]=>U []
 |.tup [.int a,.int b]::r=>(kX r).map ((a,b):: ·)
 |_::_=>O
noncomputable def fQ(p:Int×Int):D:=.tup [.int p.1,.int p.2]
noncomputable def du(x y:Int×Int):Bool:=decide (x.1<y.1) || (x.1 == y.1&&decide (x.2<y.2))
noncomputable def AR(x:Int×Int):List (Int×Int)->List (Int×Int)
 |[]=>[x]
 |y::r=>if du x y then x::y::r else y::AR x r
noncomputable def jC:List (Int×Int)->List (Int×Int)
 |[]=>[]
 |x::r=>AR x (jC r)
noncomputable def kK(ps:List (Int×Int)):Bool:=decide (ps.length<=64)&&decide ps.Nodup
def oK(ds:List D):Option (List D):=match kX ds with
 |some ps=>if kK ps then U ((jC ps).map fQ) else O
 |none=>match iX ds with
  |some is=>if kK (is.map λi=>(i,0)) then U ((jC (is.map λi=>(i,0))).map λp=>.int p.1) else O
  |none=>O
noncomputable def kE:List D->Option D
 |[.lst xs]=>(oK xs).map .lst
 |_=>O
def bf(b:BF)(ds:List D):Option D:=match b with
 |.sorted=>kE ds
 |.len=>VD ds
 |.int=>VE ds
 |.list=>yH ds
 |.tuple=>vH ds
 |.max=>BC ds
 |.min=>OE ds
 |_=>O
inductive Src where
 |seq|rng|rev|enum|rvr
noncomputable def fZ(lo hi:Int):List D:=(List.range (hi-lo).toNat).map λ(k:Nat)=>D.int (lo+k)
noncomputable def hZ:Nat->List D->List D
 |_,[]=>[]
 |k,x::r=>.tup [.int k,x]::hZ (k+1) r
noncomputable def gI(i:Int):Bool:=decide (-(2 ^ 62)<=i)&&decide (i<2 ^ 62)
noncomputable def XD:D->Option (List D)
 |.lst xs=>U xs
 |.tup xs=>U xs
 |.frz xs=>U xs
 |_=>O
noncomputable def LV:List D->Option (List D)
 |[.int j]=>if gI j&&decide (j.toNat<=big) then U (fZ 0 j) else O
 |[.int i,.int j]=>if gI i&&gI j&&decide ((j-i).toNat<=big) then U (fZ i j) else O
 |_=>O
noncomputable def aEd:List D->Option (List D)
 |[.int j]=>if decide (0<=j)&&decide (j.toNat<=big) then U (fZ 0 j).reverse else O
 |_=>O
noncomputable def xZ:D->Option (List D)
 |.lst xs=>U xs.reverse
 |_=>O
noncomputable def AO:D->Option (List D)
 |.lst xs=>U (hZ 0 xs)
 |_=>O
def items(k:Src)(d:D):Option (List D):=match k with
 |.seq=>XD d
 |.rng=>match d with
  |.tup as=>LV as
  |_=>O
 |.rev=>xZ d
 |.enum=>AO d
 |.rvr=>match d with
  |.tup as=>aEd as
  |_=>O
set_option genInjectivity false
set_option genCtorIdx false in
inductive IE where
 |v (i:Nat)
 |L (l:Lit)
 |o (x:Str)
 |b (o:O2) (a b:IE)
 |neg (a:IE)
 |and (a b:IE)
 |or (a b:IE)
 |not (a:IE)
 |tr (a:IE)
 |q (c a b:IE)
 |h (o o':O2) (a b c:IE)
 |nil
 |cons (e es:IE)
 |tup (es:IE)
 |lst (es:IE)
 |ix (a i:IE)
 |ixm (x:Nat) (i:IE)
 |lenm (x:Nat)
 |sortm (x:Nat)
 |sl (a:IE) (bl:Bool) (lo:IE) (bh:Bool) (hi:IE)
 |slm (x:Nat) (bl:Bool) (lo:IE) (bh:Bool) (hi:IE)
 |fld (a:IE) (f:Str)
 |call (f:Str) (es:IE)
 |meth (o:IE) (m:Str) (es:IE)
 |mk (c:Str) (es:IE)
 |ρ (b:BF) (es:IE)
 |y (a:IE) (t:Str)
 |walk (k:Src) (a:IE)
 |c (n:Nat) (fr:List (Nat×Nat)) (tg:List Nat) (tp:Bool) (k:Src) (src test elt:IE)
 |inC (neg:Bool) (x:Str) (a:IE)
 |getd (x:Nat) (es:IE)
 |ixd (x:Nat) (i:IE)
 |lend (x:Nat)
set_option genInjectivity true
inductive Sl where
 |un
 |im (d:D)
 |mu (d:D)
 |mm (ls:List (List D))
structure GS where
 fn:Str->List D->Option Rs
 ff:Str->Bool
 me:Str->Str->List D->Option Rs
 mf:Str->Str->Bool
 mo:Str->List D->Option Rs
 cst:Str->Option D
 sub:Str->Str->Bool
 fl:Str->List Str
 xn:Str->Bool
 wd:Str->Str->Option Str
 dk:Str->Option (List (Str×D))
noncomputable def qL(G:GS)(t:Str):D->Option Bool
 |.non=>if t="int"\/t="bool"\/t="str"\/t="list"\/t="tuple" then U J else O
 |.bl _=>if t="int"\/t="bool" then U Y else if t="str"\/t="list"\/t="tuple" then U J else O
 |.int _=>if t="int" then U Y else if t="bool"\/t="str"\/t="list"\/t="tuple" then U J else O
 |.str _=>if t="str" then U Y else if t="int"\/t="bool"\/t="list"\/t="tuple" then U J else O
 |.lst _=>if t="list" then U Y else if t="int"\/t="bool"\/t="str"\/t="tuple" then U J else O
 |.tup _=>if t="tuple" then U Y else if t="int"\/t="bool"\/t="str"\/t="list" then U J else O
 |_=>O
def slot(B:List Sl)(i:Nat):Option D:=match B[i]? with
 |some (.im d)=>U d
 |_=>O
noncomputable def fH(B:List Sl)(i:Nat):Option (List D):=match B[i]? with
 |some (.im (.lst ds))=>U ds
 |some (.mu (.lst ds))=>U ds
 |_=>O
noncomputable def oM(B:List Sl)(i:Nat):Option (List (Int×D)):=match B[i]? with
 |some (.im (.dct ds))=>U ds
 |some (.mu (.dct ds))=>U ds
 |_=>O
noncomputable def bZ:Option Rs->Option D
 |some (.ok d)=>U d
 |_=>O
noncomputable def bP:Option D->Option (List D)
 |some (.tup ds)=>U ds
 |_=>O
noncomputable def boolOf:Option D->Option Bool
 |some (.bl b)=>U b
 |_=>O
noncomputable def intOf:Option D->Option Int
 |some (.int b)=>U b
 |_=>O
def frame(n:Nat)(fr:List (Nat×Nat))(B:List Sl):List Sl:=(List.range n).map λi=>match fr.lookup i with
 |some j=>B.getD j .un
 |none=>.un
noncomputable def bB:List Nat->List D->List Sl->Option (List Sl)
 |[],[],B=>U B
 |i::is,d::ds,B=>bB is ds (B.set i (.im d))
 |_,_,_=>O
def aX(tg:List Nat)(tp:Bool)(d:D)(B:List Sl):Option (List Sl):=
 if tp then(match d with | .tup ds=>bB tg ds B|_=>O) else bB tg [d] B
noncomputable def bU(f:D->Option (Option D)):List D->Option (List D)
 |[]=>U []
 |d::r=>do
  let o <-f d;let t <-bU f r;match o with
  |some y=>U (y::t)
  |none=>U t
def part(b:Bool)(o:Option D):Option (Option Int):=if b then(intOf o).map U else U O
noncomputable def ev(G:GS):IE->List Sl->Option D
 |.v i,B=>slot B i
 |.L l,_=>U l.d
 |.o x,_=>G.cst x
 |.b o a b,B=>do af o (<-ev G a B) (<-ev G b B)
 |.neg a,B=>do match <-ev G a B with | .int i=>U (.int (-i))|_=>O
 |.and a b,B=>do match <-ev G a B with | .bl Y=>(match <-ev G b B with | .bl k=>U (.bl k)|_=>O) | .bl J=>U (.bl J)|_=>O
 |.or a b,B=>do match <-ev G a B with | .bl J=>(match <-ev G b B with | .bl k=>U (.bl k)|_=>O) | .bl Y=>U (.bl Y)|_=>O
 |.not a,B=>do match <-ev G a B with | .bl k=>U (.bl (!k))|_=>O
 |.tr a,B=>do (fj (<-ev G a B)).map .bl
 |.q c a b,B=>do match <-ev G c B with | .bl Y=>ev G a B | .bl J=>ev G b B|_=>O
 |.h o o' a b c,B=>do
  let y <-ev G b B;match <-af o (<-ev G a B) y with
  |.bl Y=>af o' y (<-ev G c B)
  |.bl J=>U (.bl J)
  |_=>O
 |.nil,_=>U (.tup [])
 |.cons e es,B=>do
  let d <-ev G e B;match <-ev G es B with
  |.tup ds=>U (.tup (d::ds))
  |_=>O
 |.tup es,B=>(bP (ev G es B)).map .tup
 |.lst es,B=>(bP (ev G es B)).map .lst
 |.ix a i,B=>do
  match <-ev G a B,<-ev G i B with
  |.lst xs,.int k=>atI xs k
  |.tup xs,.int k=>atI xs k
  |.frz xs,.int k=>atI xs k
  |.dct kvs,.int k=>cZ kvs k
  |_,_=>O
 |.ixm x i,B=>do atI (<-fH B x) (<-intOf (ev G i B))
 |.lenm x,B=>do U (.int (<-fH B x).length)
 |.sortm x,B=>do kE [.lst (<-fH B x)]
 |.sl a bl lo bh hi,B=>do
  let d <-ev G a B;let l <-part bl (ev G lo B);let h <-part bh (ev G hi B);match d with
  |.lst xs=>U (.lst (cut xs l h))
  |.frz xs=>U (.lst (cut xs l h))
  |.tup xs=>if sIx xs.length 0 l=0/\sIx xs.length xs.length h=xs.length then O else U (.tup (cut xs l h))
  |_=>O
 |.slm x bl lo bh hi,B=>do
  let xs <-fH B x;let l <-part bl (ev G lo B);let h <-part bh (ev G hi B)
  U (.lst (cut xs l h))
 |.fld a f,B=>do match <-ev G a B with | .obj c fs=>if (G.fl c).contains f then fs.lookup f else O|_=>O
 |.call f es,B=>do bZ (G.fn f (<-bP (ev G es B)))
 |.meth o m es,B=>do match <-ev G o B with | .obj c fs=>(if (fs.lookup m).isNone then(bP (ev G es B)).bind λas=>bZ (G.me c m (.obj c fs::as)) else O)|_=>O
 |.mk c es,B=>do bZ (G.mo c (<-bP (ev G es B)))
 |.ρ b es,B=>do bf b (<-bP (ev G es B))
 |.y a t,B=>do (qL G t (<-ev G a B)).map .bl
 |.walk k a,B=>do (items k (<-ev G a B)).map .lst
 |.c n fr tg tp k src test elt,B=>do
  let ds <-items k (<-ev G src B)
  (bU (λd=>do
   let ρ1 <-aX tg tp d (frame n fr B);match <-ev G test ρ1 with
   |.bl Y=>(ev G elt ρ1).map U
   |.bl J=>U O
   |_=>O) ds).map .lst
 |.inC neg x a,B=>do match <-ev G a B with | .str s=>(G.dk x).map λkvs=>.bl (neg != (kvs.lookup s).isSome)|_=>O
 |.getd x es,B=>(bP (ev G es B)).bind λas=>match as with
  |[.int k,.int d]=>(oM B x).bind λkvs=>match (cZ kvs k).getD (.int d) with
   |.int v=>U (.int v)
   |_=>O
  |_=>O
 |.ixd x i,B=>do cZ (<-oM B x) (<-intOf (ev G i B))
 |.lend x,B=>do U (.int (<-oM B x).length)
noncomputable def tu(G:GS):IE->List Sl->Option Rs
 |.call f es,B=>(bP (ev G es B)).bind (G.fn f)
 |.meth o m es,B=>match ev G o B with
  |some (.obj c fs)=>if (fs.lookup m).isNone then(bP (ev G es B)).bind λas=>G.me c m (.obj c fs::as) else O
  |_=>O
 |_,_=>O
set_option genCtorIdx false in
inductive HR where
 |L (l:Lit)
 |word (f:Str)
 |weq (f:Str) (x:Str)
noncomputable def hrD(G:GS)(c:Str):HR->Option D
 |.L l=>U l.d
 |.word f=>(G.wd f c).map .str
 |.weq f x=>(G.wd f c).map λy=>.bl (y == x)
set_option genCtorIdx false in
inductive IS where
 |nop
 |seq (a b:IS)
 |ret (fr:Bool) (e:IE)
 |M (x:Nat)
 |retn
 |set (x:Nat) (e:IE)
 |setm (x:Nat) (e:IE)
 |setd (x:Nat)
 |t (tg:List Nat) (e:IE)
 |par (x y:Nat) (a b:IE)
 |g (c:IE) (a b:IS)
 |loop (tg:List Nat) (tp:Bool) (k:Src) (src:IE) (body:IS)
 |whl (c:IE) (body:IS)
 |app (x:Nat) (e:IE)
 |put (x:Nat) (k e:IE)
 |drop (e:IE)
 |frz (xs:List Nat) (st:IS)
 |rse (c:Str)
 |nset (x:Nat) (e:IE)
 |napp (x:Nat) (i e:IE)
 |nins (x:Nat) (i j e:IE)
 |nput (x:Nat) (i:IE)
 |nret (x:Nat)
 |nfrz (x:Nat) (st:IS)
 |tryx (ce:IE) (hc:Str) (hb:Option Nat) (r:HR)
 |pop (x:Nat)
inductive Out where
 |nx (B:List Sl)
 |rt (d:D)
 |bk (B:List Sl)
 |ct (B:List Sl)
 |er (c:Str)
noncomputable def bQ(bind:D->List Sl->Option (List Sl))(body:List Sl->Option Out):List D->List Sl->Option Out
 |[],B=>U (.nx B)
 |d::r,B=>do
  let ρ1 <-bind d B;match <-body ρ1 with
  |.nx ρ2=>bQ bind body r ρ2
  |.ct ρ2=>bQ bind body r ρ2
  |.bk ρ2=>U (.nx ρ2)
  |o=>U o
noncomputable def tQ(test:List Sl->Option D)(body:List Sl->Option Out):Nat->List Sl->Option Out
 | 0,_=>O
 |n+1,B=>do
  match <-test B with
  |.bl Y=>(match <-body B with
   |.nx ρ2=>tQ test body n ρ2
   |.ct ρ2=>tQ test body n ρ2
   |.bk ρ2=>U (.nx ρ2)
   |o=>U o)
  |.bl J=>U (.nx B)
  |_=>O
def vE(i:Nat)(B:List Sl):List Sl:=match B[i]? with
 |some (.mu d)=>B.set i (.im d)
 |_=>B
noncomputable def freeze:List Nat->List Sl->List Sl
 |[],B=>B
 |i::r,B=>freeze r (vE i B)
noncomputable def jA:Sl->Sl
 |.mu d=>.im d
 |s=>s
def view(B:List Sl):List Sl:=B.map jA
noncomputable def cg(ls:List (List D)):D:=.lst (ls.map .lst)
noncomputable def ZC:Sl->Sl
 |.mu d=>.im d
 |.mm ls=>.im (cg ls)
 |s=>s
def viewN(B:List Sl):List Sl:=B.map ZC
noncomputable def fL:Sl->Sl
 |.mm _=>.un
 |s=>s
noncomputable def lA:List D->Option (List (List D))
 |[]=>U []
 |.lst l::r=>(lA r).map (l :: ·)
 |_=>O
def qO(l:List D)(j:Int)(d:D):List D:=l.take (min j.toNat l.length)++d::l.drop (min j.toNat l.length)
noncomputable def EY:D->Bool
 |.non=>Y
 |.bl _=>Y
 |.int _=>Y
 |.str _=>Y
 |_=>J
def fi(G:GS)(e:IE)(B:List Sl):Option D:=match ev G e B with
 |some d=>U d
 |none=>match ev G e (view B) with
  |some d=>if EY d then U d else O
  |none=>O
def aFm(o:D)(i:Int)(d:D):Option D:=match o with
 |.lst ds=>(ixN ds.length i).map λj=>.lst (ds.set j d)
 |.dct kvs=>if kvs.length<big then U (.dct (lT kvs i d)) else O
 |_=>O
noncomputable def ex(G:GS):IS->List Sl->Option Out
 |.nop,B=>U (.nx B)
 |.seq a b,B=>do
  match <-ex G a B with
  |.nx B'=>ex G b B'
  |o=>U o
 |.ret _ e,B=>(fi G e B).map .rt
 |.M x,B=>match B[x]? with|some (.mu d)=>U (.rt d)|_=>O
 |.retn,_=>U (.rt .non)
 |.set x e,B=>(fi G e B).map λd=>.nx (B.set x (.im d))
 |.setm x e,B=>do match <-ev G e B with | .lst ds=>U (.nx (B.set x (.mu (.lst ds))))|_=>O
 |.setd x,B=>U (.nx (B.set x (.mu (.dct []))))
 |.t tg e,B=>do (aX tg Y (<-ev G e B) B).map .nx
 |.par x y a b,B=>do
  let u <-ev G a B;let v <-ev G b B
  U (.nx ((B.set x (.im u)).set y (.im v)))
 |.g c a b,B=>do match <-ev G c (view B) with | .bl Y=>ex G a B | .bl J=>ex G b B|_=>O
 |.loop tg tp k src body,B=>do bQ (aX tg tp) (ex G body) (<-items k (<-ev G src B)) B
 |.whl c body,B=>tQ (λB=>ev G c (view B)) (ex G body) 5000 B
 |.app x e,B=>do
  let d <-fi G e B;match B[x]? with
  |some (.mu (.lst ds))=>if ds.length<big then U (.nx (B.set x (.mu (.lst (ds++[d]))))) else O
  |_=>O
 |.put x k e,B=>do
  let d <-fi G e B;let i <-intOf (fi G k B);match B[x]? with
  |some (.mu o)=>(aFm o i d).map λo=>.nx (B.set x (.mu o))
  |_=>O
 |.drop e,B=>match ev G e (view B) with
  |some _=>U (.nx B)
  |none=>match tu G e (view B) with
   |some (.er k)=>if G.xn k then U (.er k) else O
   |_=>O
 |.frz xs st,B=>ex G st (freeze xs B)
 |.nset x e,B=>match ev G e B with
  |some (.lst ds)=>(lA ds).map λls=>.nx ((B.map fL).set x (.mm ls))
  |_=>O
 |.napp x i e,B=>match ev G e B,ev G i (viewN B),B[x]? with
  |some d,U (.int k),U (.mm ls)=>(ixN ls.length k).bind λj=>(ls[j]?).bind λl=>if l.length<big then U (.nx ((B.map fL).set x (.mm (ls.set j (l++[d]))))) else O
  |_,_,_=>O
 |.nins x i j e,B=>match ev G e B,ev G i (viewN B),ev G j (viewN B),B[x]? with
  |some d,U (.int k),U (.int m),U (.mm ls)=>(ixN ls.length k).bind λn=>(ls[n]?).bind λl=>if l.length<big/\0<=m/\m<=big then U (.nx ((B.map fL).set x (.mm (ls.set n (qO l m d))))) else O
  |_,_,_,_=>O
 |.nput x i,B=>match ev G i (viewN B),B[x]? with
  |some (.int k),U (.mm ls)=>(ixN ls.length k).map λj=>.nx ((B.map fL).set x (.mm (ls.set j [])))
  |_,_=>O
 |.nret x,B=>match B[x]? with|some (.mm ls)=>U (.rt (cg ls))|_=>O
 |.nfrz x st,B=>match B[x]? with|some (.mm ls)=>ex G st ((B.map fL).set x (.im (cg ls)))|_=>O
 |.rse c,_=>if G.xn c then U (.er c) else O
 |.tryx ce hc _ r,B=>match tu G ce (view B) with
  |some (.ok _)=>U (.nx B)
  |some (.er k)=>if G.xn k&&G.xn hc&&G.sub k hc then(hrD G k r).map .rt else O
  |none=>O
 |.pop x,B=>match B[x]? with
  |some (.mu (.lst ds))=>if ds.isEmpty then O else U (.nx (B.set x (.mu (.lst ds.dropLast))))
  |_=>O
noncomputable def gE:IS->Bool
 |.seq a b=>gE a&&gE b
 |.ret fr _=>fr
 |.nret _=>J
 |.nfrz _ b=>gE b
 |.g _ a b=>gE a&&gE b
 |.loop _ _ _ _ b=>gE b
 |.whl _ b=>gE b
 |.frz _ b=>gE b
 |.tryx _ _ _ _=>Y
 |_=>Y
def bL(G:GS)(n:Nat)(b:IS)(args:List D):Option Rs:=
 match ex G b (args.map .im++List.replicate (n-args.length) .un) with
 |some (.rt d)=>U (.ok d)
 |some (.nx _)=>U (.ok .non)
 |some (.er c)=>U (.er c)
 |_=>O
section
variable {G:GS}{B:List Sl}{a b e es src test elt:IE}{i j:Int}
def bW{k:Nat}:ev G (.v k) B=slot B k:=id rfl
def OJ{l:Lit}:ev G (.L l) B=U l.d:=id rfl
def aBW:ev G (.o x) B=G.cst x:=id rfl
def aV{o:O2}:ev G (.b o a b) B=(ev G a B).bind λx=>(ev G b B).bind λy=>af o x y:=id rfl
def aBU:ev G (.neg a) B=(ev G a B).bind λx=>match x with | .int i=>U (.int (-i))|_=>O:=id rfl
def OM:ev G (.and a b) B=(ev G a B).bind λx=>match x with | .bl Y=>((ev G b B).bind λy=>match y with | .bl k=>U (.bl k)|_=>O) | .bl J=>U (.bl J)|_=>O:=id rfl
def YF:ev G (.or a b) B=(ev G a B).bind λx=>match x with | .bl J=>((ev G b B).bind λy=>match y with | .bl k=>U (.bl k)|_=>O) | .bl Y=>U (.bl Y)|_=>O:=id rfl
def OH:ev G (.not a) B=(ev G a B).bind λx=>match x with | .bl k=>U (.bl (!k))|_=>O:=id rfl
def mD:ev G (.tr a) B=(ev G a B).bind λx=>(fj x).map .bl:=id rfl
def vO{c:IE}:ev G (.q c a b) B=(ev G c B).bind λx=>match x with | .bl Y=>ev G a B | .bl J=>ev G b B|_=>O:=id rfl
def rC{o o':O2}{c:IE}:ev G (.h o o' a b c) B=(ev G b B).bind λy=>(ev G a B).bind λx=>(af o x y).bind λw=>match w with | .bl Y=>(ev G c B).bind λz=>af o' y z | .bl J=>U (.bl J)|_=>O:=id rfl
def aBT:ev G .nil B=U (.tup []):=id rfl
def aJ:ev G (.cons e es) B=(ev G e B).bind λd=>(ev G es B).bind λt=>match t with | .tup ds=>U (.tup (d::ds))|_=>O:=id rfl
def fP:ev G (.tup es) B=(bP (ev G es B)).map .tup:=id rfl
def OI:ev G (.lst es) B=(bP (ev G es B)).map .lst:=id rfl
theorem kR:ev G (.ix a b) B=(ev G a B).bind λx=>(ev G b B).bind λy=>(match x,y with
  |.lst xs,.int k=>atI xs k
  |.tup xs,.int k=>atI xs k
  |.frz xs,.int k=>atI xs k
  |.dct kvs,.int k=>cZ kvs k
  |_,_=>O):=id rfl
def gF{f:Str}:ev G (.fld a f) B=(ev G a B).bind λx=>match x with | .obj c fs=>if (G.fl c).contains f then fs.lookup f else O|_=>O:=id rfl
def bR{f:Str}:ev G (.call f es) B=(bP (ev G es B)).bind λas=>bZ (G.fn f as):=id rfl
def vN{m:Str}:ev G (.meth a m es) B=(ev G a B).bind λx=>match x with | .obj c fs=>(if (fs.lookup m).isNone then(bP (ev G es B)).bind λas=>bZ (G.me c m (.obj c fs::as)) else O)|_=>O:=id rfl
def DL{c:Str}:ev G (.mk c es) B=(bP (ev G es B)).bind λas=>bZ (G.mo c as):=id rfl
def dN{f:BF}:ev G (.ρ f es) B=(bP (ev G es B)).bind λas=>bf f as:=id rfl
def aBV{t:Str}:ev G (.y a t) B=(ev G a B).bind λx=>(qL G t x).map .bl:=id rfl
def VN{k:Src}:ev G (.walk k a) B=(ev G a B).bind λx=>(items k x).map .lst:=id rfl
def OK{x:Nat}:ev G (.ixm x b) B=(fH B x).bind λxs=>(intOf (ev G b B)).bind λk=>atI xs k:=id rfl
def VO{x:Nat}:ev G (.lenm x) B=(fH B x).bind λxs=>U (.int xs.length):=id rfl
theorem DK{bl bh:Bool}{lo hi:IE}:ev G (.sl a bl lo bh hi) B=(ev G a B).bind λd=>(part bl (ev G lo B)).bind λl=>(part bh (ev G hi B)).bind λh=>(match d with
  |.lst xs=>U (.lst (cut xs l h))
  |.frz xs=>U (.lst (cut xs l h))
  |.tup xs=>if sIx xs.length 0 l=0/\sIx xs.length xs.length h=xs.length then O else U (.tup (cut xs l h))
  |_=>O):=id rfl
theorem vQ{k:Src}:ev G (.c n fr tg tp k src test elt) B=(ev G src B).bind λs=>(items k s).bind λds=>(bU (λd=>(aX tg tp d (frame n fr B)).bind λρ1=>(ev G test ρ1).bind λw=>match w with
 |.bl Y=>(ev G elt ρ1).map U
 |.bl J=>U O
 |_=>O) ds).map .lst:=id rfl
def HA{ds:List D}:bP (U (.tup ds))=U ds:=id rfl
def CT{d:D}:bZ (U (.ok d))=U d:=id rfl
def aDq:af .add (.int i) (.int j)=U (.int (i+j)):=id rfl
def aDo:af .sub (.int i) (.int j)=U (.int (i-j)):=id rfl
def KM(h0:-1000000<=i)(h1:i<=1000000):af .mul (.int i) (.int j)=U (.int (i*j)):=if_pos (.inl ⟨zq,zq⟩)
def oO(h0:0<j)(h1:j<1000000):af .fdiv (.int i) (.int j)=U (.int (i / j)):=if_pos ⟨h0,zq⟩
def jF(h0:0<j):af .mod (.int i) (.int j)=U (.int (i % j)):=if_pos h0
def aFn:af .lt (.int i) (.int j)=U (.bl (decide (i<j))):=id rfl
def aFo:af .le (.int i) (.int j)=U (.bl (decide (i<=j))):=id rfl
def aFp:af .gt (.int i) (.int j)=U (.bl (decide (j<i))):=id rfl
def aFq:af .ge (.int i) (.int j)=U (.bl (decide (j<=i))):=id rfl
def aAZ:af .eq (.int i) (.int j)=U (.bl (i == j)):=id rfl
def UF:af .ne (.int i) (.int j)=U (.bl (!(i == j))):=id rfl
def aDp{x y:Bool}:af .is (.bl x) (.bl y)=U (.bl (x == y)):=id rfl
def aAY{x y:Bool}:af .isnot (.bl x) (.bl y)=U (.bl (!(x == y))):=id rfl
def IK(h0:-1000000<=j)(h1:j<=1000000):gI j=Y:=by unfold gI;rw[uz,vd,vd];lia
def aBA(h:n<=1000000):items .rng (.tup [.int (n:Int)])=U (fZ 0 (n:Int)):=by
 have h1:(gI (n:Int)&&decide ((n:Int).toNat<=big))=Y:=by rw[IK zq zq,Bool.true_and,vd];unfold big;lia
 simp only[items,LV];rw[if_pos h1]
def slot0{d:D}{r:List Sl}:slot (.im d::r) 0=U d:=id rfl
def aCI{x:Sl}{r:List Sl}{k:Nat}:slot (x::r) (k+1)=slot r k:=id rfl
end
section
variable {G:GS}{B:List Sl}{a b:IS}{e c:IE}
def aR:ex G .nop B=U (.nx B):=id rfl
def vI:ex G (.seq a b) B=(ex G a B).bind λo=>match o with | .nx B'=>ex G b B'|o=>U o:=id rfl
def OF:ex G (.g c a b) B=(ev G c (view B)).bind λx=>match x with | .bl Y=>ex G a B | .bl J=>ex G b B|_=>O:=id rfl
def lE{d:D}(h:ev G e B=U d):fi G e B=U d:=by unfold fi;rw[h]
def aN{d:D}{f:Bool}(h:ev G e B=U d):ex G (.ret f e) B=U (.rt d):=by show (fi G e B).map Out.rt=_;rw[lE h];rfl
def aM{d:D}{x:Nat}(h:ev G e B=U d):ex G (.set x e) B=U (.nx (B.set x (.im d))):=by show (fi G e B).map _=_;rw[lE h];rfl
def kG{ds:List D}{x:Nat}(h:ev G e B=U (.lst ds)):ex G (.setm x e) B=U (.nx (B.set x (.mu (.lst ds)))):=by show (ev G e B).bind _=_;rw[h];rfl
def bI{k:Src}{d:D}{ds:List D}(h1:ev G e B=U d)(h2:items k d=U ds):ex G (.loop tg tp k e a) B=bQ (aX tg tp) (ex G a) ds B:=by show (ev G e B).bind _=_;rw[h1];show ((items k d).bind _)=_;rw[h2];rfl
end
theorem rJ{f:D->Option (Option D)}{h:D->D}:∀{ds:List D},(∀d∈ds,f d=U (U (h d)))->bU f ds=U (ds.map h)
 |[],_=>rfl
 |d::r,e=>by unfold bU;rw[e d (wu),rJ λx hx=>e x (ux _ hx)];rfl
def zS:fZ 0 (n:Int)=(List.range n).map λ(k:Nat)=>D.int k:=by unfold fZ;simp
theorem fV{bind:D->List Sl->Option (List Sl)}{body:List Sl->Option Out}(P:Nat->List Sl->Prop):∀{ds:List D} {k:Nat} {B:List Sl},P k B ->(∀(i:Nat) (d:D) (B:List Sl),ds[i]?=U d->P (k+i) B->∃ρ1,bind d B=U ρ1/\∃z,body ρ1=U (.nx z)/\P (k+i+1) z)->∃B',bQ bind body ds B=U (.nx B')/\P (k+ds.length) B'
 |[],k,B,h,_=>⟨B,rfl,h⟩
 |d::r,k,B,h,st=>by
  obtain⟨ρ1,h1,z,h2,h3⟩:=st 0 d B rfl h;obtain⟨B',I,h5⟩:=fV P (ds:=r) (k:=k+1) h3 λi d' B' e p=>by have:=st (i+1) d' B' (by simpa using e) (by rw[Nat.add_comm i 1,<-Nat.add_assoc];exact p);rw[show k+1+i+1=k+(i+1)+1 by lia];exact this
  refine⟨B',?_,by rw[wz,show k+(r.length+1)=k+1+r.length by lia];exact h5⟩;unfold bQ;rw[h1];show ((body ρ1).bind _)=_;rw[h2];exact I
def GI{bind:D->List Sl->Option (List Sl)}{body:List Sl->Option Out}(P:List Sl->Prop){ds:List D}{B:List Sl}(h0:P B)(st:∀d∈ds,∀B,P B->∃ρ1,bind d B=U ρ1/\∃z,body ρ1=U (.nx z)/\P z):∃B',bQ bind body ds B=U (.nx B')/\P B':=fV (k:=0) (λ_=>P) h0 λi d B e p=>st d (u6 e) B p
def aL{G:GS}{b:IS}{args:List D}{B:List Sl}{d:D}(h0:args.map .im++List.replicate (n-args.length) .un=B)(h:ex G b B=U (.rt d)):bL G n b args=U (.ok d):=by unfold bL;rw[h0,h]
def OL{G:GS}{B:List Sl}{k:Src}{src test elt:IE}{s:D}{ds:List D}(h:D->D)(h1:ev G src B=U s)(h2:items k s=U ds) (h3:∀d∈ds,∃ρ1,aX tg tp d (frame n fr B)=U ρ1/\ev G test ρ1=U (.bl Y)/\ev G elt ρ1=U (h d)):ev G (.c n fr tg tp k src test elt) B=U (.lst (ds.map h)):=by rw[vQ,h1,wq,h2,wq,rJ (h:=h)];rfl;intro d hd;obtain⟨ρ1,e1,e2,z⟩:=h3 d hd;rw[e1,wq,e2,wq];show Option.map U (ev G elt ρ1)=_;rw[z];rfl
def dW:view []=[]:=id rfl
def lK{d:D}{r:List Sl}:view (.im d::r)=.im d::view r:=id rfl
def QE{r:List Sl}:view (.un::r)=.un::view r:=id rfl
def QF{d:D}{r:List Sl}:view (.mu d::r)=.im d::view r:=id rfl
def lZ{G:GS}{B:List Sl}{e:IE}:ex G (.t tg e) B=(ev G e B).bind λd=>(aX tg Y d B).map .nx:=id rfl
def VI{G:GS}{B:List Sl}{x y:Nat}{a b:IE}:ex G (.par x y a b) B=(ev G a B).bind λu=>(ev G b B).bind λv=>U (.nx ((B.set x (.im u)).set y (.im v))):=id rfl
def aA{G:GS}{B B':List Sl}{a b:IS}{o:Out}(h1:ex G a B=U (.nx B'))(h2:ex G b B'=U o):ex G (.seq a b) B=U o:=by rw[vI,h1];exact h2
def cJ{G:GS}{B:List Sl}{a b:IS}{o:Out}(h1:ex G a B=U o)(h2:∀B',o≠.nx B'):ex G (.seq a b) B=U o:=by rw[vI,h1];cases o<;>first|rfl|exact absurd rfl (h2 _)
def dA{G:GS}{B:List Sl}{a b:IS}{c:IE}{o:Option Out}(h1:ev G c (view B)=U (.bl Y))(h2:ex G a B=o):ex G (.g c a b) B=o:=by rw[OF,h1];exact h2
def bM{G:GS}{B:List Sl}{a b:IS}{c:IE}{o:Option Out}(h1:ev G c (view B)=U (.bl J))(h2:ex G b B=o):ex G (.g c a b) B=o:=by rw[OF,h1];exact h2
def lF{G:GS}{B:List Sl}{a b:IE}{x y:Bool}(ha:ev G a B=U (.bl x))(hb:x=J->ev G b B=U (.bl y)):ev G (.or a b) B=U (.bl (x || y)):=by
 rw[YF,ha];cases x with
 |true=>rfl
 |false=>show ((ev G b B).bind _)=_;rw[hb rfl];rfl
def bJ{G:GS}{B:List Sl}{a b:IE}{x y:Bool}(ha:ev G a B=U (.bl x))(hb:x=Y->ev G b B=U (.bl y)):ev G (.and a b) B=U (.bl (x&&y)):=by
 rw[OM,ha];cases x with
 |false=>rfl
 |true=>show ((ev G b B).bind _)=_;rw[hb rfl];rfl
def aEt{xs:List D}:bf .len [.lst xs]=U (.int xs.length):=id rfl
def aBL{xs:List D}:bf .len [.frz xs]=U (.int xs.length):=id rfl
def aBK{xs:List D}:bf .len [.tup xs]=U (.int xs.length):=id rfl
def aBJ{xs:List D}:bf .list [.lst xs]=U (.lst xs):=id rfl
def VB{xs:List D}:bf .list [.tup xs]=U (.lst xs):=id rfl
def gH{α:Type}{xs:List α}{k:Nat}{x:α}(h:xs[k]?=U x):atI xs (k:Int)=U x:=by have hl:=(u0.mp h).1;unfold atI ixN;rw[if_pos zq,if_pos zq];simpa using h
def aC{α β:Type}{a:α}{f:α->Option β}:(U a).bind f=f a:=id rfl
def aI{α β:Type}{a:α}{f:α->β}:(U a).map f=U (f a):=id rfl
def aEb:(Lit.int i).d=.int i:=id rfl
def aFy{b:Bool}:(Lit.bl b).d=.bl b:=id rfl
def aDZ:(Lit.str x).d=.str x:=id rfl
def aEa:(Lit.non).d=.non:=id rfl
theorem zz:(∀G B k,ev G (.v k) B=slot B k)/\(∀G B l,ev G (.L l) B=U l.d)/\(∀G B x,ev G (.o x) B=G.cst x)/\(∀G B o a b,ev G (.b o a b) B=(ev G a B).bind λx=>(ev G b B).bind λy=>af o x y) /\
  (∀G B a,ev G (.neg a) B=(ev G a B).bind λx=>match x with | .int i=>U (.int (-i))|_=>O) /\
  (∀G B a b,ev G (.and a b) B=(ev G a B).bind λx=>match x with | .bl Y=>((ev G b B).bind λy=>match y with | .bl k=>U (.bl k)|_=>O) | .bl J=>U (.bl J)|_=>O) /\
  (∀G B a b,ev G (.or a b) B=(ev G a B).bind λx=>match x with | .bl J=>((ev G b B).bind λy=>match y with | .bl k=>U (.bl k)|_=>O) | .bl Y=>U (.bl Y)|_=>O) /\
  (∀G B a,ev G (.not a) B=(ev G a B).bind λx=>match x with | .bl k=>U (.bl (!k))|_=>O)/\(∀G B a,ev G (.tr a) B=(ev G a B).bind λx=>(fj x).map .bl) /\
  (∀G B c a b,ev G (.q c a b) B=(ev G c B).bind λx=>match x with | .bl Y=>ev G a B | .bl J=>ev G b B|_=>O) /\
  (∀G B o o' a b c,ev G (.h o o' a b c) B=(ev G b B).bind λy=>(ev G a B).bind λx=>(af o x y).bind λw=>match w with | .bl Y=>(ev G c B).bind λz=>af o' y z | .bl J=>U (.bl J)|_=>O) /\
  (∀G B,ev G .nil B=U (.tup []))/\(∀G B e es,ev G (.cons e es) B=(ev G e B).bind λd=>(ev G es B).bind λt=>match t with | .tup ds=>U (.tup (d::ds))|_=>O) /\
  (∀G B es,ev G (.tup es) B=(bP (ev G es B)).map .tup)/\(∀G B es,ev G (.lst es) B=(bP (ev G es B)).map .lst) /\
  (∀G B a b,ev G (.ix a b) B=(ev G a B).bind λx=>(ev G b B).bind λy=>(match x,y with | .lst xs,.int k=>atI xs k | .tup xs,.int k=>atI xs k | .frz xs,.int k=>atI xs k | .dct kvs,.int k=>cZ kvs k|_,_=>O)) /\
  (∀G B a f,ev G (.fld a f) B=(ev G a B).bind λx=>match x with | .obj c fs=>if (G.fl c).contains f then fs.lookup f else O|_=>O) /\
  (∀G B f es,ev G (.call f es) B=(bP (ev G es B)).bind λas=>bZ (G.fn f as)) /\
  (∀G B a m es,ev G (.meth a m es) B=(ev G a B).bind λx=>match x with | .obj c fs=>(if (fs.lookup m).isNone then(bP (ev G es B)).bind λas=>bZ (G.me c m (.obj c fs::as)) else O)|_=>O) /\
  (∀G B c es,ev G (.mk c es) B=(bP (ev G es B)).bind λas=>bZ (G.mo c as))/\(∀G B f es,ev G (.ρ f es) B=(bP (ev G es B)).bind λas=>bf f as) /\
  (∀G B a t,ev G (.y a t) B=(ev G a B).bind λx=>(qL G t x).map .bl)/\(∀G B k a,ev G (.walk k a) B=(ev G a B).bind λx=>(items k x).map .lst) /\
  (∀G B x b,ev G (.ixm x b) B=(fH B x).bind λxs=>(intOf (ev G b B)).bind λk=>atI xs k)/\(∀G B x,ev G (.lenm x) B=(fH B x).bind λxs=>U (.int xs.length)) /\
  (∀G B a bl lo bh hi,ev G (.sl a bl lo bh hi) B=(ev G a B).bind λd=>(part bl (ev G lo B)).bind λl=>(part bh (ev G hi B)).bind λh=>(match d with
   |.lst xs=>U (.lst (cut xs l h))
   |.frz xs=>U (.lst (cut xs l h))
   |.tup xs=>if sIx xs.length 0 l=0/\sIx xs.length xs.length h=xs.length then O else U (.tup (cut xs l h))
   |_=>O)):=
 ⟨λ_ _ _=>bW,λ_ _ _=>OJ,λ_ _ _=>aBW,λ_ _ _ _ _=>aV,λ_ _ _=>aBU,λ_ _ _ _=>OM,λ_ _ _ _=>YF,λ_ _ _=>OH,λ_ _ _=>mD,λ_ _ _ _ _=>vO,λ_ _ _ _ _ _ _=>rC,λ_ _=>aBT,λ_ _ _ _=>aJ,λ_ _ _=>fP,λ_ _ _=>OI,λ_ _ _ _=>kR,λ_ _ _ _=>gF,λ_ _ _ _=>bR,λ_ _ _ _ _=>vN,λ_ _ _ _=>DL,λ_ _ _ _=>dN,λ_ _ _ _=>aBV,λ_ _ _ _=>VN,λ_ _ _ _=>OK,λ_ _ _=>VO,λ_ _ _ _ _ _ _=>DK⟩
def yy:(∀ds,bP (U (.tup ds))=U ds)/\(∀d,bZ (U (.ok d))=U d)/\(∀i j,af .add (.int i) (.int j)=U (.int (i+j)))/\(∀i j,af .sub (.int i) (.int j)=U (.int (i-j)))/\(∀i j,af .lt (.int i) (.int j)=U (.bl (decide (i<j))))/\(∀i j,af .le (.int i) (.int j)=U (.bl (decide (i<=j)))) /\(∀i j,af .gt (.int i) (.int j)=U (.bl (decide (j<i))))/\(∀i j,af .ge (.int i) (.int j)=U (.bl (decide (j<=i))))/\(∀i j,af .eq (.int i) (.int j)=U (.bl (i == j)))/\(∀i j,af .ne (.int i) (.int j)=U (.bl (!(i == j))))/\(∀x y,af .is (.bl x) (.bl y)=U (.bl (x == y)))/\(∀x y,af .isnot (.bl x) (.bl y)=U (.bl (!(x == y)))) /\(∀d r,slot (.im d::r) 0=U d)/\(∀x r k,slot (x::r) (k+1)=slot r k)/\(view []=[])/\(∀d r,view (.im d::r)=.im d::view r)/\(∀r,view (.un::r)=.un::view r)/\(∀d r,view (.mu d::r)=.im d::view r) /\(∀xs,bf .len [.lst xs]=U (.int xs.length))/\(∀xs,bf .len [.frz xs]=U (.int xs.length))/\(∀xs,bf .len [.tup xs]=U (.int xs.length))/\(∀xs,bf .list [.lst xs]=U (.lst xs))/\(∀xs,bf .list [.tup xs]=U (.lst xs)) /\(∀i,(Lit.int i).d=.int i)/\(∀b,(Lit.bl b).d=.bl b)/\(∀x,(Lit.str x).d=.str x)/\((Lit.non).d=.non):=⟨λ_=>HA,λ_=>CT,λ_ _=>aDq,λ_ _=>aDo,λ_ _=>aFn,λ_ _=>aFo,λ_ _=>aFp,λ_ _=>aFq,λ_ _=>aAZ,λ_ _=>UF,λ_ _=>aDp,λ_ _=>aAY,λ_ _=>slot0,λ_ _ _=>aCI,dW,λ_ _=>lK,λ_=>QE,λ_ _=>QF,λ_=>aEt,λ_=>aBL,λ_=>aBK,λ_=>aBJ,λ_=>VB,λ_=>aEb,λ_=>aFy,λ_=>aDZ,aEa⟩
def zm:=And.intro zz (And.intro yy (And.intro @aC @aI))
namespace Pg
section
variable {G:GS}{c r w h:Int}{T F S:List D}{B:List Sl}{a:IE}
noncomputable def nO:IS:=(.seq (.g (.b .lt (.v 1) (.ρ .len (.cons (.v 0) .nil))) (.ret J (.ix (.v 0) (.v 1))) .nop) (.ret J (.L (.int 0))))
noncomputable def cv(ns:List Int)(k:Nat):Int:=ns.getD k 0
def BK{k:Nat}:bL G 2 nO [.frz (ns.map .int),.int k]=U (.ok (.int (cv ns k))):=by
 have e:ev G (.b .lt (.v 1) (.ρ .len (.cons (.v 0) .nil))) [.im (.frz (ns.map .int)),.im (.int k)]=U (.bl (decide ((k:Int)<ns.length))):=by simp only[zm,uo]
 by_cases hk:k<ns.length;refine aL (B:=[.im (.frz (ns.map .int)),.im (.int k)]) rfl (cJ (dA ?_ (aN (d:=.int (cv ns k)) ?_)) (λ_ z=>by cases z));rw[lK,lK,dW,e,vy zq];have:(ns.map D.int)[k]?=U (.int (cv ns k)):=by unfold cv;rw[um,u3,uk hk];rfl
 simp only[zm,gH this];refine aL (B:=[.im (.frz (ns.map .int)),.im (.int k)]) rfl (aA (bM ?_ aR) (aN ?_));rw[lK,lK,dW,e,uu zq];have:cv ns k=0:=by unfold cv;rw[u3,List.getElem?_eq_none zq];rfl
 simp only[zm,this]
noncomputable def uT:IS:=(.ret J (.and (.y (.v 0) "int") (.not (.tr (.y (.v 0) "bool")))))
def yA:qL G "int" (.int i)=U Y:=by simp only[qL];rw[if_pos trivial]
def uQ:qL G "bool" (.int i)=U J:=by simp only[qL];rw[if_neg zt,if_pos (.inl trivial)]
def HX:bL G 1 uT [.int i]=U (.ok (.bl Y)):=by refine aL (B:=[.im (.int i)]) rfl (aN ?_);simp only[zm,yA,uQ,fj];rfl
end
end Pg
theorem yO{α:Type}{f:D->Option (Option D)}{enc:α->D}{g:α->D}:∀{L:List α},(∀a∈L,f (enc a)=U (U (g a)))->bU f (L.map enc)=U (L.map g)
 |[],_=>rfl
 |a::r,e=>by rw[vx];unfold bU;rw[e a (wu),yO λx hx=>e x (ux _ hx)];rfl
def eS{α:Type}{G:GS}{B:List Sl}{k:Src}{src test elt:IE}{s:D}{L:List α}(enc g:α->D)(h1:ev G src B=U s)(h2:items k s=U (L.map enc)) (h3:∀a∈L,∃ρ1,aX tg tp (enc a) (frame n fr B)=U ρ1/\ev G test ρ1=U (.bl Y)/\ev G elt ρ1=U (g a)):ev G (.c n fr tg tp k src test elt) B=U (.lst (L.map g)):=by rw[vQ,h1,wq,h2,wq,yO (g:=g)];rfl;intro a ha;obtain⟨ρ1,e1,e2,z⟩:=h3 a ha;rw[e1,wq,e2,wq];show Option.map U (ev G elt ρ1)=_;rw[z];rfl
def cX(h:n<=1000000):items .rng (.tup [.int (n:Int)])=U ((List.range n).map λ(k:Nat)=>D.int k):=by rw[aBA h,zS]
def dU{xs:List D}:items .seq (.lst xs)=U xs:=id rfl
namespace Pg
abbrev Cell:=Int×Bool×Bool
abbrev aQ:=List Cell
abbrev jO:=List aQ
abbrev Table:=List jO
noncomputable def au(c:Cell):D:=.tup [.int c.1,.bl c.2.1,.bl c.2.2]
def hE(h:aQ):D:=.lst (h.map au)
inductive Side|west|east|north|south deriving DecidableEq
noncomputable def Side.str:Side->Str
 |.west=>"west" | .east=>"east" | .north=>"north" | .south=>"south"
noncomputable def Side.up:Side->Bool
 |.west=>Y | .east=>Y | .north=>J | .south=>J
noncomputable def Side.near:Side->Bool
 |.west=>Y | .east=>J | .north=>Y | .south=>J
def aCt(up:Bool)(c:Cell):Cell:=if up then(c.1,!c.2.1,c.2.2) else(c.1,c.2.1,!c.2.2)
def aCs(up:Bool)(h:aQ):aQ:=h.reverse.map (aCt up)
def WK(up:Bool)(p:jO):jO:=p.map (aCs up)
def tog(u l:jO):jO:=(List.range (max u.length l.length)).map λk=>u.getD k []++l.getD k []
def wH(mv st:jO)(over:Bool):jO:=tog (if over then mv else st) (if over then st else mv)
def XF(sd:Side)(over:Bool)(c:Nat)(s:jO):jO:=
 if sd.near then wH (WK sd.up (s.take c).reverse) (s.drop c) over else(wH (WK sd.up (s.drop c)) (s.take c).reverse over).reverse
noncomputable def width(T:Table):Nat:=(T.getD 0 []).length
def IB(T:Table):Table:=(List.range (width T)).map λx=>T.map λs=>s.getD x []
def aEr(sd:Side)(over:Bool)(c:Nat)(T:Table):Table:=if sd.up then T.map (XF sd over c) else IB ((IB T).map (XF sd over c))
section
variable {G:GS}
noncomputable def cLV:D:=.tup [.str "north",.str "south"]
def KP{a:D}{ys:List D}{b:Bool}(hp:(plain a&&ys.all plain)=Y)(hb:(ys.any λy=>cu y a)=b):af .isin a (.tup ys)=U (.bl b):=by simp only[af,oIn];rw[if_pos hp,hb]
def XE:af .isin (.str sd.str) cLV=U (.bl (!sd.up)):=by cases sd<;>exact KP zt zt
def aFu:bf .max [.int (a:Int),.int (b:Int)]=U (.int ((max a b:Nat):Int)):=by simp only[bf,BC];by_cases h:(b:Int) > a;rw[if_pos h];rw[Nat.max_eq_right zq];rw[if_neg h];rw[Nat.max_eq_left zq]
end
def OT{α:Type}{xs:List α}:cut xs O (U (c:Int))=xs.take c:=by simp only[cut,sIx];rw[if_neg zq];simp only[drop_zero,Nat.sub_zero,toNat_natCast];by_cases h:c<=xs.length;rw[Nat.min_eq_left h];rw[Nat.min_eq_right zq,take_of_length_le zq,take_of_length_le zq]
section
variable {G:GS}
structure Rect (T:Table) (w h:Nat):Prop where
 len:T.length=h
 row:∀s∈T,s.length=w
 h1:1<=h
 w1:1<=w
end
noncomputable def aEs(c r:Nat):Table:=(List.range r).map λy=>(List.range c).map λx=>[(((y*c+x:Nat):Int),J,J)]
section
variable {G:GS}{c r w h:Nat}{T:Table}{F S:List D}
noncomputable def cG(sd:Side)(over:Bool)(k:Nat):D:=.tup [.str sd.str,.bl over,.int k]
noncomputable def kC:IS:=(.seq (.set 3 (.or (.b .eq (.v 1) (.L (.int 1))) (.and (.b .gt (.v 2) (.L (.int 1))) (.b .eq (.b .mod (.v 0) (.L (.int 2))) (.L (.int 1)))))) (.seq (.set 4 (.q (.tr (.v 3)) (.v 2) (.v 1))) (.seq (.set 5 (.q (.tr (.v 3)) (.lst (.cons (.L (.str "north")) (.cons (.L (.str "south")) .nil))) (.lst (.cons (.L (.str "west")) (.cons (.L (.str "east")) .nil))))) (.ret J (.tup (.cons (.ix (.v 5) (.b .mod (.b .fdiv (.v 0) (.L (.int 2))) (.L (.int 2)))) (.cons (.b .eq (.b .mod (.b .fdiv (.v 0) (.L (.int 4))) (.L (.int 2))) (.L (.int 1))) (.cons (.b .add (.L (.int 1)) (.b .mod (.b .fdiv (.v 0) (.L (.int 8))) (.b .sub (.v 4) (.L (.int 1))))) .nil))))))))
def mod2(i:Int):i % 2=0\/i % 2=1:=by lia
def AZ{cell:Int}(hw:1<=w)(hh:1<=h)(hwh:1<w*h):∃(sd:Side) (over:Bool) (k:Nat),1<=k/\(k<if sd.up then w else h)/\bL G 6 kC [.int cell,.int w,.int h]=U (.ok (cG sd over k)):=by
 have m2:∀i:Int,af .mod (.int i) (.int 2)=U (.int (i % 2)):=λi=>jF zu;have d2:∀i:Int,af .fdiv (.int i) (.int 2)=U (.int (i / 2)):=λi=>oO zu zu;have d4:∀i:Int,af .fdiv (.int i) (.int 4)=U (.int (i / 4)):=λi=>oO zu zu;have d8:∀i:Int,af .fdiv (.int i) (.int 8)=U (.int (i / 8)):=λi=>oO zu zu;have e3:ev G (.or (.b .eq (.v 1) (.L (.int 1))) (.and (.b .gt (.v 2) (.L (.int 1))) (.b .eq (.b .mod (.v 0) (.L (.int 2))) (.L (.int 1))))) [.im (.int cell),.im (.int w),.im (.int h),.un,.un,.un]=U (.bl (((w:Int) == 1) || (decide (1<(h:Int))&&(cell % 2 == 1)))):=
  lF (by simp only[zm]) λ_=>bJ (by simp only[zm]) λ_=>by simp only[zm,m2]
 have W:∀{a b:D},atI [a,b] 0=U a:=λ{a b}=>gH (k:=0) rfl;have s11:∀{a b:D},atI [a,b] 1=U b:=λ{a b}=>gH (k:=1) rfl;have R:∀(lv:Bool) (ext:Nat) (a b:Side),(((w:Int) == 1) || (decide (1<(h:Int))&&(cell % 2 == 1)))=lv->ext=(if lv then h else w)->2<=ext->(a=if lv then .north else .west)->(b=if lv then .south else .east) ->
   ∃(sd:Side) (over:Bool) (k:Nat),1<=k/\(k<if sd.up then w else h)/\bL G 6 kC [.int cell,.int w,.int h]=U (.ok (cG sd over k)):=by
  intro lv ext a b h1 h2 h3 ha hb;have mx:af .mod (.int (cell / 8)) (.int ((ext:Int)-1))=U (.int (cell / 8 % ((ext:Int)-1))):=jF zq;have r0:=Int.emod_nonneg (cell / 8) (show ((ext:Int)-1)≠0 by lia);have r1:=Int.emod_lt_of_pos (cell / 8) (show (0:Int)<(ext:Int)-1 by lia);have hk:(((1+cell / 8 % ((ext:Int)-1)).toNat:Nat):Int)=1+cell / 8 % ((ext:Int)-1):=by lia
  have I:(if a.up then w else h)=ext:=by subst ha h2;cases lv<;>rfl
  have z:(if b.up then w else h)=ext:=by subst hb h2;cases lv<;>rfl
  have e4:ev G (.q (.tr (.v 3)) (.v 2) (.v 1)) [.im (.int cell),.im (.int w),.im (.int h),.im (.bl lv),.un,.un]=U (.int ext):=by subst h2;cases lv<;>simp only[zm,fj]<;>rfl
  have e5:ev G (.q (.tr (.v 3)) (.lst (.cons (.L (.str "north")) (.cons (.L (.str "south")) .nil))) (.lst (.cons (.L (.str "west")) (.cons (.L (.str "east")) .nil)))) [.im (.int cell),.im (.int w),.im (.int h),.im (.bl lv),.im (.int ext),.un]=U (.lst [.str a.str,.str b.str]):=by subst ha hb;cases lv<;>simp only[zm,fj]<;>rfl
  rcases mod2 (cell / 2) with q|q;refine⟨a,(cell / 4 % 2 == 1),(1+cell / 8 % ((ext:Int)-1)).toNat,zq,by rw[I];lia,?_⟩;refine aL (B:=[.im (.int cell),.im (.int w),.im (.int h),.un,.un,.un]) rfl (aA (aM (e3.trans (by rw[h1]))) (aA (aM e4) (aA (aM e5) (aN ?_))));show ev G _ [.im (.int cell),.im (.int w),.im (.int h),.im (.bl lv),.im (.int ext),.im (.lst [.str a.str,.str b.str])]=_;simp only[zm,d2,m2,q,W,d4,d8,mx];unfold cG;rw[hk];refine⟨b,(cell / 4 % 2 == 1),(1+cell / 8 % ((ext:Int)-1)).toNat,zq,by rw[z];lia,?_⟩;refine aL (B:=[.im (.int cell),.im (.int w),.im (.int h),.un,.un,.un]) rfl (aA (aM (e3.trans (by rw[h1]))) (aA (aM e4) (aA (aM e5) (aN ?_))));show ev G _ [.im (.int cell),.im (.int w),.im (.int h),.im (.bl lv),.im (.int ext),.im (.lst [.str a.str,.str b.str])]=_;simp only[zm,d2,m2,q,s11,d4,d8,mx];unfold cG;rw[hk]
 cases hb:(((w:Int) == 1) || (decide (1<(h:Int))&&(cell % 2 == 1))) with
 |true=>
  refine R Y h .north .south hb rfl ?_ rfl rfl;rw[or_eq_true,uz,vz,vd]at hb;rcases hb with hb|hb;have:w=1:=by lia
  subst this;lia;lia
 |false=>
  refine R J w .west .east hb rfl ?_ rfl rfl;rw[Bool.or_eq_false_iff]at hb;have:(w:Int)≠1:=by simpa using hb.1
  lia
end
end Pg
def iA{s:Sl}{r:List Sl}:view (s::r)=jA s::view r:=id rfl
def DP{α β:Type}{f:α->β}{xs:List α}{a b:Option Int}:cut (xs.map f) a b=(cut xs a b).map f:=by unfold cut;rw[uo,map_take,map_drop]
def VT{α:Type}{xs:List α}:(cut xs (U (a:Int)) (U (b:Int))).length<=b-a:=by simp only[cut,sIx];rw[if_neg zq,if_neg zq];refine vi (List.length_take_le _ _) ?_;rw[toNat_natCast,toNat_natCast];generalize xs.length=n;lia
namespace Pg
def Full(s:jO):Prop:=∀h∈s,h≠[]
def aER(T:Table):Prop:=∀s∈T,Full s
def getD_mem{s:jO}{k:Nat}(h:k<s.length):s.getD k []∈s:=by rw[u3,uk h];exact List.getElem_mem h
structure Spot where
 x:Nat
 y:Nat
 z:Int
 e:Bool
 n:Bool
noncomputable def hAt(T:Table)(x y:Nat):aQ:=(T.getD y []).getD x []
noncomputable def jD(sp:List Spot)(k:Int):Int:=match sp[k.toNat]? with
 |some s=>s.z
 |none=>0
structure Lk (T:Table) (sp:List Spot):Prop where
 mem:∀(x y:Nat) (c:Cell),c∈hAt T x y↔∃(i:Nat) (s:Spot),sp[i]?=U s/\s.x=x/\s.y=y/\c=((i:Int),s.e,s.n)
 ord:∀x y:Nat,(hAt T x y).Pairwise (λa b=>jD sp b.1<jD sp a.1)
def Spot.al(up:Bool)(s:Spot):Nat:=if up then s.x else s.y
noncomputable def nQ(c p:Nat):Nat:=if c<=p then p-c else c-1-p
def iH(nr:Bool)(c z p:Nat):Nat:=if nr then nQ c p else z-1-nQ c p
noncomputable def moves(nr:Bool)(c p:Nat):Bool:=decide (c<=p) != nr
def cO(sd:Side)(over:Bool)(c I:Nat)(top low:Int)(s:Spot):Spot:={x:=if sd.up then iH sd.near c I (s.al sd.up) else s.x,y:=if sd.up then s.y else iH sd.near c I (s.al sd.up),z:=if moves sd.near c (s.al sd.up) then(if over then 2*top+1-s.z else 2*low-1-s.z) else s.z,e:=if moves sd.near c (s.al sd.up)&&sd.up then !s.e else s.e,n:=if moves sd.near c (s.al sd.up)&&!sd.up then !s.n else s.n}
def hA(up:Bool)(T:Table)(p q:Nat):aQ:=if up then hAt T p q else hAt T q p
noncomputable def ext(sd:Side)(w h:Nat):Nat:=if sd.up then w else h
def ML{p ex:Nat}(h1:1<=c)(hp:p<ex):nQ c p<max c (ex-c):=by unfold nQ;split<;>lia
def place_lt{nr:Bool}{p ex:Nat}(h1:1<=c)(hp:p<ex):iH nr c (max c (ex-c)) p<max c (ex-c):=by have:=ML h1 hp;unfold iH;split<;>lia
def YU{sp:List Spot}{i:Nat}{s:Spot}(h:sp[i]?=U s):jD sp (i:Int)=s.z:=by unfold jD;rw[toNat_natCast,h]
end Pg
def gK{x y:Int×Int}:du x y=Y↔x.1<y.1\/(x.1=y.1/\x.2<y.2):=by unfold du;simp only[or_eq_true,uz,vd,vz]
def pJ{x y:Int×Int}:du x y=J↔¬(x.1<y.1\/(x.1=y.1/\x.2<y.2)):=by rw[<-gK,Bool.not_eq_true]
theorem nJ(x:Int×Int):∀l:List (Int×Int),(AR x l).Perm (x::l)
 |[]=>List.Perm.refl _
 |y::r=>by unfold AR;split;exact List.Perm.refl _;exact((nJ x r).cons y).trans (List.Perm.swap x y r)
theorem iB:∀l:List (Int×Int),(jC l).Perm l
 |[]=>List.Perm.refl _
 |x::r=>(nJ x _).trans ((iB r).cons x)
theorem oT{x:Int×Int}:∀{l:List (Int×Int)},l.Pairwise (λa b=>du a b=Y)->x∉l->(AR x l).Pairwise (λa b=>du a b=Y)
 |[],_,_=>by unfold AR;simp
 |y::r,h,n=>by obtain⟨h1,h2⟩:=xo.mp h;unfold AR;split;rename_i e;refine xo.mpr ⟨λz hz=>?_,h⟩;rcases vk.mp hz with rfl|hz;exact e;have:=h1 z hz;rw[gK]at this e ⊢;lia;rename_i e;rw[Bool.not_eq_true]at e;refine xo.mpr ⟨λz hz=>?_,oT h2 λz=>n (ux _ z)⟩;rcases vk.mp ((nJ x r).mem_iff.mp hz) with rfl|hz;have bw:z≠y:=λq=>n (by rw[q];simp);rw[pJ]at e;rw[gK];have:¬(z.1=y.1/\z.2=y.2):=λq=>bw (Prod.ext q.1 q.2);lia;exact h1 z hz
theorem lN:∀{l:List (Int×Int)},l.Nodup->(jC l).Pairwise (λa b=>du a b=Y)
 |[],_=>List.Pairwise.nil
 |x::r,h=>by obtain⟨h1,h2⟩:=nodup_cons.mp h;exact oT (lN h2) λz=>h1 ((iB r).mem_iff.mp z)
def II{l m:List (Int×Int)}(p:m.Perm l)(h:m.Pairwise (λa b=>du a b=Y)):m=jC l:=by
 have nd:m.Nodup:=h.imp λ{a b} e q=>by subst q;rw[gK]at e;lia
 exact List.Perm.eq_of_pairwise (λa b _ _ e1 e2=>by rw[gK]at e1 e2;lia) h (lN (p.nodup_iff.mp nd)) (p.trans (iB l).symm)
theorem jZ:∀(r:List Int) (m:Int),(kO m r=m\/kO m r∈r)/\m<=kO m r/\∀a∈r,a<=kO m r
 |[],m=>⟨.inl rfl,Int.le_refl _,λa h=>by simp at h⟩
 |x::r,m=>by obtain⟨h1,h2,h3⟩:=jZ r (if x > m then x else m);show (kO (if x > m then x else m) r=m\/_)/\m<=kO (if x > m then x else m) r/\_;have e:kO m (x::r)=kO (if x > m then x else m) r:=rfl;rw[e];refine⟨?_,?_,λa ha=>?_⟩;rcases h1 with h|h;split at h;rename_i hx;rw[if_pos hx,h];exact .inr zv;rename_i hx;rw[if_neg hx,h];exact .inl rfl;exact .inr (ux _ h);split at h2;rename_i hx;rw[if_pos hx];lia;rename_i hx;rw[if_neg hx];exact h2;rcases vk.mp ha with rfl|ha;split at h2;rename_i hx;rw[if_pos hx];exact h2;rename_i hx;rw[if_neg hx];lia;exact h3 a ha
theorem nF:∀(r:List Int) (m:Int),(pC m r=m\/pC m r∈r)/\pC m r<=m/\∀a∈r,pC m r<=a
 |[],m=>⟨.inl rfl,Int.le_refl _,λa h=>by simp at h⟩
 |x::r,m=>by obtain⟨h1,h2,h3⟩:=nF r (if x<m then x else m);have e:pC m (x::r)=pC (if x<m then x else m) r:=rfl;rw[e];refine⟨?_,?_,λa ha=>?_⟩;rcases h1 with h|h;split at h;rename_i hx;rw[if_pos hx,h];exact .inr zv;rename_i hx;rw[if_neg hx,h];exact .inl rfl;exact .inr (ux _ h);split at h2;rename_i hx;rw[if_pos hx];lia;rename_i hx;rw[if_neg hx];exact h2;rcases vk.mp ha with rfl|ha;split at h2;rename_i hx;rw[if_pos hx];exact h2;rename_i hx;rw[if_neg hx];lia;exact h3 a ha
namespace Pg
noncomputable def b7(s:Spot):D:=.tup [.int s.x,.int s.y,.int s.z,.bl s.e,.bl s.n]
def bX(sp:List Spot):D:=.lst (sp.map b7)
noncomputable def dC(c r:Nat):List Spot:=(List.range (c*r)).map λk=>⟨k % c,k / c,0,J,J⟩
section
variable {G:GS}
noncomputable def uX:IS:=(.ret Y (.c 3 [(2,0)] [1] J .rng (.tup (.cons (.b .mul (.v 0) (.v 1)) .nil)) (.L (.bl Y)) (.tup (.cons (.b .mod (.v 1) (.v 2)) (.cons (.b .fdiv (.v 1) (.v 2)) (.cons (.L (.int 0)) (.cons (.L (.bl J)) (.cons (.L (.bl J)) .nil))))))))
def LH(hc:1<=c)(I:c*r<=1000)(z:c<=1000):bL G 2 uX [.int c,.int r]=U (.ok (bX (dC c r))):=by
 refine aL (B:=[.im (.int c),.im (.int r)]) rfl (aN ?_);have m1:af .mul (.int (c:Int)) (.int (r:Int))=U (.int ((c*r:Nat):Int)):=by rw[KM zq zq];push_cast;rfl
 refine(eS (L:=List.range (c*r)) (λk=>.int (k:Nat)) (λk=>b7 ⟨k % c,k / c,0,J,J⟩) (s:=.tup [.int ((c*r:Nat):Int)]) (by simp only[zm,m1]) (cX zq) (λk _=>⟨[.un,.im (.int k),.im (.int c)],rfl,by simp only[zm],?_⟩)).trans ?_;simp only[zm,jF (show (0:Int)<c by lia),oO (show (0:Int)<c by lia) (show (c:Int)<1000000 by lia)];unfold b7
 push_cast
 rfl;unfold bX dC;rw[x9];rfl
def qY:(dC c r).length=c*r:=by unfold dC;simp
noncomputable def pO:IS:=(.seq (.t [5,6,7] (.v 1)) (.seq (.set 8 (.ρ .int (.cons (.b .isin (.v 5) (.tup (.cons (.L (.str "north")) (.cons (.L (.str "south")) .nil)))) .nil))) (.seq (.set 9 (.b .isin (.v 5) (.tup (.cons (.L (.str "east")) (.cons (.L (.str "south")) .nil))))) (.seq (.set 10 (.b .sub (.b .sub (.v 7) (.L (.int 1))) (.ix (.v 0) (.v 8)))) (.seq (.g (.b .ge (.ix (.v 0) (.v 8)) (.v 7)) (.set 10 (.b .sub (.ix (.v 0) (.v 8)) (.v 7))) .nop) (.seq (.set 11 (.q (.tr (.v 9)) (.b .sub (.b .sub (.v 2) (.L (.int 1))) (.v 10)) (.v 10))) (.seq (.setm 12 (.lst (.cons (.ix (.v 0) (.L (.int 0))) (.cons (.ix (.v 0) (.L (.int 1))) (.cons (.ix (.v 0) (.L (.int 2))) (.cons (.ix (.v 0) (.L (.int 3))) (.cons (.ix (.v 0) (.L (.int 4))) .nil))))))) (.seq (.put 12 (.v 8) (.v 11)) (.seq (.g (.b .eq (.b .ge (.ix (.v 0) (.v 8)) (.v 7)) (.v 9)) (.seq (.put 12 (.L (.int 2)) (.q (.tr (.v 6)) (.b .sub (.b .add (.b .mul (.L (.int 2)) (.v 3)) (.L (.int 1))) (.ix (.v 0) (.L (.int 2)))) (.b .sub (.b .sub (.b .mul (.L (.int 2)) (.v 4)) (.L (.int 1))) (.ix (.v 0) (.L (.int 2)))))) (.put 12 (.b .add (.L (.int 3)) (.v 8)) (.not (.tr (.ix (.v 0) (.b .add (.L (.int 3)) (.v 8))))))) .nop) (.ret J (.tup (.cons (.ixm 12 (.L (.int 0))) (.cons (.ixm 12 (.L (.int 1))) (.cons (.ixm 12 (.L (.int 2))) (.cons (.ixm 12 (.L (.int 3))) (.cons (.ixm 12 (.L (.int 4))) .nil))))))))))))))))
noncomputable def cFR:D:=.tup [.str "east",.str "south"]
def aEe:af .isin (.str sd.str) cFR=U (.bl (!sd.near)):=by cases sd<;>exact KP zt zt
def at5{α:Type}{a b c d e:α}:atI [a,b,c,d,e] 0=U a/\atI [a,b,c,d,e] 1=U b/\atI [a,b,c,d,e] 2=U c/\atI [a,b,c,d,e] 3=U d/\atI [a,b,c,d,e] 4=U e:=⟨rfl,rfl,rfl,rfl,rfl⟩
def aEw{a b:Bool}:af .eq (.bl a) (.bl b)=U (.bl (a == b)):=by cases a<;>cases b<;>rfl
def vK{B:List Sl}{x:Nat}{k e:IE}{d:D}{ds:List D}{j:Nat}(h1:ev G e B=U d)(h2:ev G k B=U (.int i))(h3:B[x]?=U (.mu (.lst ds)))(z:ixN ds.length i=U j):ex G (.put x k e) B=U (.nx (B.set x (.mu (.lst (ds.set j d))))):=by show (fi G e B).bind (λd=>(intOf (fi G k B)).bind λi=>_)=_;rw[lE h1,lE h2];show (match B[x]? with|some (.mu o)=>_|_=>_)=_;rw[h3];show Option.map _ (Option.map _ (ixN ds.length i))=_;rw[z];rfl
def VH{B B':List Sl}{e:IE}{d:D}(h1:ev G e B=U d)(h2:aX tg Y d B=U B'):ex G (.t tg e) B=U (.nx B'):=by rw[lZ,h1];show Option.map _ (aX tg Y d B)=_;rw[h2];rfl
noncomputable def c8(sd:Side):Int:=if sd.up then 0 else 1
def LF{s:Spot}{I:Nat}{top low:Int}(h1:1<=c)(hg:nQ c (s.al sd.up)<I):bL G 13 pO [b7 s,cG sd over c,.int I,.int top,.int low]=U (.ok (b7 (cO sd over c I top low s))):=by
 have pa:∀B:List Sl,slot B 0=U (b7 s)->slot B 8=U (.int (c8 sd))->ev G (.ix (.v 0) (.v 8)) B=U (.int (s.al sd.up)):=λB e0 e8=>by rw[kR,bW,bW,e0,e8];unfold b7 c8 Spot.al;cases sd.up<;>rfl
 let R:Sl:=.im (b7 s);let W:Sl:=.im (cG sd over c);have e2:(2:Int)*top=2*top:=rfl;have m2:∀i:Int,af .mul (.int 2) (.int i)=U (.int (2*i)):=λi=>KM zu zu;refine aL (B:=[R,W,.im (.int I),.im (.int top),.im (.int low),.un,.un,.un,.un,.un,.un,.un,.un]) rfl ?_;unfold pO;refine aA (VH (d:=cG sd over c) (by simp only[zm,R,W]) rfl) ?_;refine aA (aM (d:=.int (c8 sd)) ?_) ?_;simp only[List.set,R,W];simp only[zm];rw[show af .isin (.str sd.str) (.tup [.str "north",.str "south"])=U (.bl (!sd.up)) from XE];unfold c8;cases sd.up<;>rfl
 refine aA (aM (d:=.bl (!sd.near)) ?_) ?_;simp only[List.set,R,W];simp only[zm];exact aEe;refine aA (aM (d:=.int ((c:Int)-1-(s.al sd.up:Nat))) ?_) ?_;simp only[List.set,R,W];rw[aV,pa _ (by simp only[yy]) (by simp only[yy])];simp only[zm];have tw:∀s11 s12,ex G (.g (.b .ge (.ix (.v 0) (.v 8)) (.v 7)) (.set 10 (.b .sub (.ix (.v 0) (.v 8)) (.v 7))) .nop) [R,W,.im (.int I),.im (.int top),.im (.int low),.im (.str sd.str),.im (.bl over),.im (.int c),.im (.int (c8 sd)),.im (.bl (!sd.near)),.im (.int ((c:Int)-1-(s.al sd.up:Nat))),s11,s12] =U (.nx [R,W,.im (.int I),.im (.int top),.im (.int low),.im (.str sd.str),.im (.bl over),.im (.int c),.im (.int (c8 sd)),.im (.bl (!sd.near)),.im (.int (nQ c (s.al sd.up):Nat)),s11,s12]):=λs11 s12=>by
  have et:ev G (.b .ge (.ix (.v 0) (.v 8)) (.v 7)) (view [R,W,.im (.int I),.im (.int top),.im (.int low),.im (.str sd.str),.im (.bl over),.im (.int c),.im (.int (c8 sd)),.im (.bl (!sd.near)),.im (.int ((c:Int)-1-(s.al sd.up:Nat))),s11,s12])=U (.bl (decide (c<=s.al sd.up))):=by simp only[iA,jA,R,W];rw[aV,pa _ (by simp only[yy]) (by simp only[yy])];simp only[zm];congr 2;exact decide_eq_decide.mpr zq
  by_cases hc:c<=s.al sd.up;refine dA (et.trans (by rw[vy hc])) ?_;rw[aM (d:=.int (nQ c (s.al sd.up):Nat))];rfl;rw[aV,pa _ (by simp only[yy,R]) (by simp only[yy])];simp only[zm];unfold nQ;rw[if_pos hc];congr 2;lia;refine bM (et.trans (by rw[uu hc])) ?_;rw[aR];have:(c:Int)-1-(s.al sd.up:Nat)=(nQ c (s.al sd.up):Nat):=by unfold nQ;rw[if_neg hc];lia
  rw[this]
 refine aA (tw .un .un) ?_;refine aA (aM (d:=.int (iH sd.near c I (s.al sd.up):Nat)) ?_) ?_;simp only[zm,fj,R,W];unfold iH;cases sd.near with
 |true=>simp only[vq,if_true]
 |false=>simp only[Bool.not_false,uw,if_false];congr 2;lia
 refine aA (kG (ds:=[.int s.x,.int s.y,.int s.z,.bl s.e,.bl s.n]) ?_) ?_;simp only[List.set,R,W];simp only[zm,b7,at5.1,at5.2.1,at5.2.2.1,at5.2.2.2.1,at5.2.2.2.2];refine aA (vK (d:=.int (iH sd.near c I (s.al sd.up):Nat)) (i:=c8 sd) (ds:=[.int s.x,.int s.y,.int s.z,.bl s.e,.bl s.n]) (j:=if sd.up then 0 else 1) ?_ ?_ rfl ?_) ?_;simp only[List.set];simp only[zm];simp only[List.set];simp only[zm];unfold c8;cases sd.up<;>rfl
 have L1:([.int s.x,.int s.y,.int s.z,.bl s.e,.bl s.n]:List D).set (if sd.up then 0 else 1) (.int (iH sd.near c I (s.al sd.up):Nat))=[.int (cO sd over c I top low s).x,.int (cO sd over c I top low s).y,.int s.z,.bl s.e,.bl s.n]:=by unfold cO;cases sd.up<;>rfl
 rw[L1];simp only[List.set,R,W];have em:ev G (.b .eq (.b .ge (.ix (.v 0) (.v 8)) (.v 7)) (.v 9)) (view [.im (b7 s),.im (cG sd over c),.im (.int I),.im (.int top),.im (.int low),.im (.str sd.str),.im (.bl over),.im (.int c),.im (.int (c8 sd)),.im (.bl (!sd.near)),.im (.int (nQ c (s.al sd.up):Nat)),.im (.int (iH sd.near c I (s.al sd.up):Nat)),.mu (.lst [.int (cO sd over c I top low s).x,.int (cO sd over c I top low s).y,.int s.z,.bl s.e,.bl s.n])])=U (.bl (moves sd.near c (s.al sd.up))):=by simp only[iA,jA];rw[aV,aV,pa _ (by simp only[yy]) (by simp only[yy])];simp only[zm,aEw];unfold moves;rw[show (decide (((c:Nat):Int)<=((s.al sd.up:Nat):Int)))=decide (c<=s.al sd.up) from decide_eq_decide.mpr zq];cases sd.near<;>cases decide (c<=s.al sd.up)<;>rfl
 cases hm:moves sd.near c (s.al sd.up) with
 |false=>refine aA (bM (em.trans (by rw[hm])) aR) (aN ?_);simp only[zm,fH,getElem?_cons_succ,List.getElem?_cons_zero,intOf,at5.1,at5.2.1,at5.2.2.1,at5.2.2.2.1,at5.2.2.2.2];unfold b7 cO;dsimp only;rw[hm];rfl
 |true=>
  refine aA (dA (em.trans (by rw[hm])) (aA (vK (d:=.int (cO sd over c I top low s).z) (i:=2) (j:=2) ?_ ?_ rfl rfl) (vK (d:=.bl (!(if sd.up then s.e else s.n))) (i:=3+c8 sd) (j:=if sd.up then 3 else 4) ?_ ?_ rfl ?_))) (aN ?_);simp only[zm,fj,m2,b7,at5.2.2.1];unfold cO;dsimp only;rw[hm];cases over<;>rfl
  simp only[zm];simp only[List.set];simp only[zm,b7];unfold c8;cases sd.up;simp only[uw,if_false];rw[show (3:Int)+1=4 from rfl,at5.2.2.2.2];rfl;simp only[if_true];rw[show (3:Int)+0=3 from rfl,at5.2.2.2.1];rfl;simp only[List.set];simp only[zm];unfold c8;cases sd.up<;>rfl
  have L2:([.int (cO sd over c I top low s).x,.int (cO sd over c I top low s).y,.int (cO sd over c I top low s).z,.bl s.e,.bl s.n]:List D).set (if sd.up then 3 else 4) (.bl (!(if sd.up then s.e else s.n)))=[.int (cO sd over c I top low s).x,.int (cO sd over c I top low s).y,.int (cO sd over c I top low s).z,.bl (cO sd over c I top low s).e,.bl (cO sd over c I top low s).n]:=by unfold cO;dsimp only;rw[hm];cases sd.up<;>rfl
  simp only[List.set];rw[L2];simp only[zm,fH,getElem?_cons_succ,List.getElem?_cons_zero,intOf,at5.1,at5.2.1,at5.2.2.1,at5.2.2.2.1,at5.2.2.2.2];rfl
end
section
variable {G:GS}
theorem ints_map{α:Type}{f:α->Int}:∀{l:List α},iX (l.map λa=>D.int (f a))=U (l.map f)
 |[]=>rfl
 |a::l=>by simp only[vx,iX];rw[ints_map];rfl
def LB{α:Type}{f:α->Int}{l:List α}{m:Int}(h1:∀a∈l,f a<=m)(h2:∃a∈l,f a=m):bf .max [.lst (l.map λa=>D.int (f a))]=U (.int m):=by
 obtain⟨a,ha,e⟩:=h2;cases l with
 |nil=>cases ha
 |cons b r=>
  simp only[bf,BC];rw[ints_map];simp only[vx];obtain⟨z,q2,q3⟩:=jZ (r.map f) (f b);have u:kO (f b) (r.map f)<=m:=by rcases z with q|q;rw[q];exact h1 b zv;obtain⟨d,hd,q⟩:=w4.mp q;rw[<-q];exact h1 d (ux _ hd)
  have v:m<=kO (f b) (r.map f):=by rw[<-e];rcases vk.mp ha with rfl|ha;exact q2;exact q3 _ (w4.mpr ⟨a,ha,rfl⟩)
  rw[Int.le_antisymm u v]
def aBq{α:Type}{f:α->Int}{l:List α}(h:l≠[]):∃m,bf .max [.lst (l.map λa=>D.int (f a))]=U (.int m)/\∀a∈l,f a<=m:=by
 cases l with
 |nil=>exact absurd rfl h
 |cons b r=>obtain⟨z,q2,q3⟩:=jZ (r.map f) (f b);refine⟨kO (f b) (r.map f),?_,λa ha=>?_⟩;simp only[bf,BC];rw[ints_map];rfl;rcases vk.mp ha with rfl|ha;exact q2;exact q3 _ (w4.mpr ⟨a,ha,rfl⟩)
def aBp{α:Type}{f:α->Int}{l:List α}(h:l≠[]):∃m,bf .min [.lst (l.map λa=>D.int (f a))]=U (.int m)/\∀a∈l,m<=f a:=by
 cases l with
 |nil=>exact absurd rfl h
 |cons b r=>obtain⟨z,q2,q3⟩:=nF (r.map f) (f b);refine⟨pC (f b) (r.map f),?_,λa ha=>?_⟩;simp only[bf,OE];rw[ints_map];rfl;rcases vk.mp ha with rfl|ha;exact q2;exact q3 _ (w4.mpr ⟨a,ha,rfl⟩)
def aEL{α:Type}{a b c:α}:atI [a,b,c] 0=U a/\atI [a,b,c] 1=U b/\atI [a,b,c] 2=U c:=⟨rfl,rfl,rfl⟩
def vR{B:List Sl}{k:IE}{sp:List Spot}{f:Spot->Int}(h1:slot B v=U (bX sp))(h2:∀s∈sp,∃ρ1,aX [1] J (b7 s) (frame n fr B)=U ρ1/\ev G (.ix (.v 1) k) ρ1=U (.int (f s))):ev G (.c n fr [1] J .seq (.v v) (.L (.bl Y)) (.ix (.v 1) k)) B=U (.lst (sp.map λs=>D.int (f s))):=by refine eS (L:=sp) b7 (λs=>.int (f s)) (s:=bX sp) (by rw[bW];exact h1) (by unfold bX;exact dU) λs hs=>?_;obtain⟨ρ1,a,b⟩:=h2 s hs;exact⟨ρ1,a,by simp only[zm],b⟩
noncomputable def hG:IS:=(.seq (.set 2 (.ρ .int (.cons (.b .isin (.ix (.v 1) (.L (.int 0))) (.tup (.cons (.L (.str "north")) (.cons (.L (.str "south")) .nil)))) .nil))) (.seq (.set 3 (.b .add (.L (.int 1)) (.ρ .max (.cons (.c 3 [(2,2)] [1] J .seq (.v 0) (.L (.bl Y)) (.ix (.v 1) (.v 2))) .nil)))) (.seq (.set 4 (.ρ .max (.cons (.ix (.v 1) (.L (.int 2))) (.cons (.b .sub (.v 3) (.ix (.v 1) (.L (.int 2)))) .nil)))) (.seq (.set 5 (.ρ .max (.cons (.c 2 [] [1] J .seq (.v 0) (.L (.bl Y)) (.ix (.v 1) (.L (.int 2)))) .nil))) (.seq (.set 6 (.ρ .min (.cons (.c 2 [] [1] J .seq (.v 0) (.L (.bl Y)) (.ix (.v 1) (.L (.int 2)))) .nil))) (.ret Y (.c 6 [(2,1),(3,4),(4,6),(5,5)] [1] J .seq (.v 0) (.L (.bl Y)) (.call y8 (.cons (.v 1) (.cons (.v 2) (.cons (.v 3) (.cons (.v 5) (.cons (.v 4) .nil)))))))))))))
def AK(hs:∀(s:Spot) (sd:Side) (over:Bool) (c I:Nat) (top low:Int),1<=c->nQ c (s.al sd.up)<I->G.fn y8 [b7 s,cG sd over c,.int I,.int top,.int low]=U (.ok (b7 (cO sd over c I top low s)))) {sp:List Spot}   {ex:Nat} (h1:1<=c) (h2:c<ex) (bw:sp≠[]) (W:∀s∈sp,s.al sd.up<ex) (hex:∃s∈sp,s.al sd.up+1=ex):∃top low:Int,(∀s∈sp,s.z<=top)/\(∀s∈sp,low<=s.z)/\bL G 7 hG [bX sp,cG sd over c]=U (.ok (bX (sp.map (cO sd over c (max c (ex-c)) top low)))):=by
 obtain⟨top,et,ht⟩:=aBq (f:=λs:Spot=>s.z) bw;obtain⟨low,el,hl⟩:=aBp (f:=λs:Spot=>s.z) bw;refine⟨top,low,ht,hl,aL (B:=[.im (bX sp),.im (cG sd over c),.un,.un,.un,.un,.un]) rfl ?_⟩;unfold hG;have ea:ev G (.c 3 [(2,2)] [1] J .seq (.v 0) (.L (.bl Y)) (.ix (.v 1) (.v 2))) [.im (bX sp),.im (cG sd over c),.im (.int (c8 sd)),.un,.un,.un,.un]=U (.lst (sp.map λs=>D.int (s.al sd.up:Nat))):=vR (f:=λs=>((s.al sd.up:Nat):Int)) rfl λs _=>⟨[.un,.im (b7 s),.im (.int (c8 sd))],rfl,by rw[kR,bW,bW];simp only[yy,aC];unfold b7 c8 Spot.al;cases sd.up<;>rfl⟩;have R:∀s3 s4 s5 s6,ev G (.c 2 [] [1] J .seq (.v 0) (.L (.bl Y)) (.ix (.v 1) (.L (.int 2)))) [.im (bX sp),.im (cG sd over c),.im (.int (c8 sd)),s3,s4,s5,s6]=U (.lst (sp.map λs=>D.int s.z)):=λs3 s4 s5 s6=>vR (f:=λs=>s.z) rfl λs _=>⟨[.un,.im (b7 s)],rfl,by simp only[zm,b7,at5.2.2.1]⟩;have em:bf .max [.lst (sp.map λs=>D.int (s.al sd.up:Nat))]=U (.int ((ex:Int)-1)):=LB (f:=λs:Spot=>((s.al sd.up:Nat):Int)) (λs hs=>by have:=W s hs;lia) (by obtain⟨s,hs,e⟩:=hex;exact⟨s,hs,zq⟩);refine aA (aM (d:=.int (c8 sd)) ?_) (aA (aM (d:=.int (ex:Nat)) ?_) (aA (aM (d:=.int ((max c (ex-c):Nat):Int)) ?_) (aA (aM (d:=.int top) ?_) (aA (aM (d:=.int low) ?_) (aN ?_)))));simp only[zm,cG,aEL.1];rw[show af .isin (.str sd.str) (.tup [.str "north",.str "south"])=U (.bl (!sd.up)) from XE];unfold c8;cases sd.up<;>rfl
 show ev G _ [.im (bX sp),.im (cG sd over c),.im (.int (c8 sd)),.un,.un,.un,.un]=_;rw[aV,dN,aJ,ea];simp only[zm,em];congr 2;lia;show ev G _ [.im (bX sp),.im (cG sd over c),.im (.int (c8 sd)),.im (.int (ex:Nat)),.un,.un,.un]=_;simp only[zm,cG,aEL.2.2];rw[show ((ex:Nat):Int)-(c:Nat)=((ex-c:Nat):Int) by lia,aFu];show ev G _ [.im (bX sp),.im (cG sd over c),.im (.int (c8 sd)),.im (.int (ex:Nat)),.im (.int ((max c (ex-c):Nat):Int)),.un,.un]=_;rw[dN,aJ,R];simp only[zm,et];show ev G _ [.im (bX sp),.im (cG sd over c),.im (.int (c8 sd)),.im (.int (ex:Nat)),.im (.int ((max c (ex-c):Nat):Int)),.im (.int top),.un]=_;rw[dN,aJ,R];simp only[zm,el];show ev G _ [.im (bX sp),.im (cG sd over c),.im (.int (c8 sd)),.im (.int (ex:Nat)),.im (.int ((max c (ex-c):Nat):Int)),.im (.int top),.im (.int low)]=_;refine(eS (L:=sp) b7 (λs=>b7 (cO sd over c (max c (ex-c)) top low s)) (s:=bX sp) (by simp only[zz,yy]) (by unfold bX;exact dU) λs hm=>⟨[.un,.im (b7 s),.im (cG sd over c),.im (.int ((max c (ex-c):Nat):Int)),.im (.int low),.im (.int top)],rfl,by simp only[zm],?_⟩).trans ?_;simp only[zm,hs s sd over c (max c (ex-c)) top low h1 (ML h1 (W s hm))];unfold bX;rw[x9];rfl
theorem sN:∀{l:List (Int×Int)},kX (l.map fQ)=U l
 |[]=>rfl
 |p::l=>by show (kX (l.map fQ)).map (λr=>(p.1,p.2)::r)=_;rw[sN];rfl
def BD{B:List Sl}{x:Nat}{e:IE}{d:D}{ds:List D}(h1:ev G e B=U d)(h2:B[x]?=U (.mu (.lst ds)))(h3:ds.length<1000000):ex G (.app x e) B=U (.nx (B.set x (.mu (.lst (ds++[d]))))):=by show (fi G e B).bind _=_;rw[lE h1];show (match B[x]? with|some (.mu (.lst ds))=>_|_=>_)=_;rw[h2];exact if_pos h3
def WN{sp:List Spot}{i:Nat}{s:Spot}(h:sp[i]?=U s):atI (sp.map b7) (i:Int)=U (b7 s):=gH (by rw[um,h];rfl)
def OR{c:Cell}:cu (au c) (au c)=Y:=by unfold au;simp[cu,kP]
structure ik where
 sd:Side
 over:Bool
 k:Nat
end
structure Sits (T:Table) (w h:Nat) (sp:List Spot):Prop where
 lk:Lk T sp
 rect:Rect T w h
 full:aER T
 w64:w<=64
 h64:h<=64
 len:sp.length<=64
end Pg
def eK{k:Int}{d:D}{r:List (Int×D)}:cZ ((i,d)::r) k=if i=k then U d else cZ r k:=by unfold cZ;by_cases e:i=k;rw[List.find?_cons_of_pos (by simpa using e),if_pos e];rfl;rw[List.find?_cons_of_neg (by simpa using e),if_neg e]
theorem wF{k:Int}:∀{kvs:List (Int×D)},(kvs.any λz=>decide (z.1=k))=(cZ kvs k).isSome
 |[]=>rfl
 | (i,d)::r=>by rw[any_cons,eK,wF (kvs:=r)];by_cases e:i=k;rw[if_pos e,vy e];rfl;rw[if_neg e,uu e];rfl
theorem pV{k j:Int}{d:D}:∀{kvs:List (Int×D)},cZ (kvs.map λI=>if I.1=k then(I.1,d) else I) j=if j=k then(cZ kvs j).map λ_=>d else cZ kvs j
 |[]=>by show O=_;split<;>rfl
 | (i,e)::r=>by rw[vx];by_cases h:i=k;rw[if_pos h,eK,eK,pV (kvs:=r)];by_cases g:i=j;rw[if_pos g,if_pos g,if_pos (g.symm.trans h)];rfl;rw[if_neg g,if_neg g];rw[if_neg h,eK,eK,pV (kvs:=r)];by_cases g:i=j;rw[if_pos g,if_pos g,if_neg (λz=>h (g.trans z))];rw[if_neg g,if_neg g]
theorem rZ{k j:Int}{d:D}:∀{kvs:List (Int×D)},cZ (kvs++[(k,d)]) j=(cZ kvs j).or (if k=j then U d else O)
 |[]=>by rw[nil_append,eK];split<;>rfl
 | (i,e)::r=>by rw[List.cons_append,eK,eK,rZ (kvs:=r)];split<;>rfl
def wD{kvs:List (Int×D)}{k j:Int}{d:D}:cZ (lT kvs k d) j=if j=k then U d else cZ kvs j:=by unfold lT;rw[wF];by_cases h:(cZ kvs k).isSome=Y;rw[if_pos h,pV];by_cases e:j=k;subst e;rw[if_pos rfl,if_pos rfl];obtain⟨x,hx⟩:=Option.isSome_iff_exists.mp h;rw[hx];rfl;rw[if_neg e,if_neg e];rw[if_neg h,rZ];by_cases e:j=k;subst e;rw[if_pos rfl,if_pos rfl,Option.not_isSome_iff_eq_none.mp h];rfl;rw[if_neg e,if_neg (Ne.symm e)];cases cZ kvs j<;>rfl
def xA{kvs:List (Int×D)}{k:Int}{d:D}:(lT kvs k d).length<=kvs.length+1:=by unfold lT;split;rw[uo];lia;rw[vp];exact uq _
def vJ{G:GS}{B:List Sl}{x:Nat}{k e:IE}{d:D}{kvs:List (Int×D)}(h1:ev G e B=U d)(h2:ev G k B=U (.int i))(h3:B[x]?=U (.mu (.dct kvs)))(z:kvs.length<1000000):ex G (.put x k e) B=U (.nx (B.set x (.mu (.dct (lT kvs i d))))):=by show (fi G e B).bind (λd=>(intOf (fi G k B)).bind λi=>_)=_;rw[lE h1,lE h2];show (match B[x]? with|some (.mu o)=>_|_=>_)=_;rw[h3];show Option.map _ (if kvs.length<big then U (D.dct (lT kvs i d)) else O)=_;rw[if_pos (by unfold big;exact z)];rfl
def pP{G:GS}{B:List Sl}{x:Nat}{d:D}(h:B[x]?=U (.mu d)):ex G (.M x) B=U (.rt d):=by show (match B[x]? with|some (.mu d)=>U (Out.rt d)|_=>O)=_;rw[h]
namespace Pg
section
variable {G:GS}{T:Table}{w h:Nat}{sp:List Spot}
noncomputable def aEx(s:Spot):Int:=if s.e then s.x else s.x+1
noncomputable def aDW(s:Spot):Int:=if s.n then s.y else s.y+1
def aDY(s:Spot):D:=.tup [.int (aEx s),.int (aDW s)]
structure Lines (sp:List Spot) (kvs:List (Int×D)) (n:Nat) (P:Nat->Spot->Prop):Prop where
 ok:∀(k:Int) (d:D),cZ kvs k=U d->∃(i:Nat) (s:Spot),k=i/\sp[i]?=U s/\d=aDY s
 has:∀(i:Nat) (s:Spot),sp[i]?=U s->P i s->(cZ kvs i).isSome=Y
 len:kvs.length<=n
def Lines.mono{kvs:List (Int×D)}{P Q:Nat->Spot->Prop}(L:Lines sp kvs n P)(hm:n<=m)(h:∀j t,sp[j]?=U t->Q j t->P j t):Lines sp kvs m Q:=⟨L.ok,λi s hs hq=>L.has i s hs (h i s hs hq),vi L.len hm⟩
end
end Pg
def IP{α:Type}{l:List α}{x:Nat}{a:α}(h:l[x]?=U a):l.set x a=l:=by apply List.ext_getElem?;intro i;by_cases e:x=i;subst e;rw[vf (u0.mp h).1,h];rw[vg e]
def mC{G:GS}{B:List Sl}{x:Nat}{t e:IE}{b:Bool}{d:D}{ds:List D}(z:ev G t (view B)=U (.bl b))(he:ev G e B=U d)(hx:B[x]?=U (.mu (.lst ds)))(hl:ds.length<1000000):ex G (.g t (.app x e) .nop) B=U (.nx (B.set x (.mu (.lst (ds++if b then [d] else []))))):=by
 cases b with
 |true=>exact dA z (Pg.BD he hx hl)
 |false=>rw[bM z aR,if_neg zu,vt,IP hx]
def hJ{bind:D->List Sl->Option (List Sl)}{body:List Sl->Option Out}(P:Nat->List Sl->Prop){B:List Sl}(h0:P 0 B)(st:∀k,k<n->∀B,P k B->∃ρ1,bind (.int (k:Nat)) B=U ρ1/\∃z,body ρ1=U (.nx z)/\P (k+1) z):∃B',bQ bind body ((List.range n).map λ(k:Nat)=>D.int k) B=U (.nx B')/\P n B':=by
 obtain⟨B',a,b⟩:=fV (bind:=bind) (body:=body) P (ds:=(List.range n).map λ(k:Nat)=>D.int k) (k:=0) h0 λk d B hd hp=>by
  rw[um]at hd;obtain⟨k',I,rfl⟩:=v9.mp hd;have hk:k<n:=by have:=(u0.mp I).1;rwa [ve]at this
  obtain rfl:k=k':=by rw[wy hk]at I;exact v8 I
  rw[vo]at hp ⊢;exact st k hk B hp
 exact⟨B',a,by rw[uo,ve,vo]at b;exact b⟩
def hU{α:Type}{enc:α->D}{bind:D->List Sl->Option (List Sl)}{body:List Sl->Option Out}(P:Nat->List Sl->Prop){L:List α}{B:List Sl}(h0:P 0 B)(st:∀k a,L[k]?=U a->∀B,P k B->∃ρ1,bind (enc a) B=U ρ1/\∃z,body ρ1=U (.nx z)/\P (k+1) z):∃B',bQ bind body (L.map enc) B=U (.nx B')/\P L.length B':=by
 obtain⟨B',a,b⟩:=fV (bind:=bind) (body:=body) P (ds:=L.map enc) (k:=0) h0 λk d B hd hp=>by rw[um]at hd;obtain⟨x,hx,rfl⟩:=v9.mp hd;rw[vo]at hp ⊢;exact st k x hx B hp
 exact⟨B',a,by rw[uo,vo]at b;exact b⟩
namespace Pg
section
variable {G:GS}{T:Table}{w h:Nat}{sp:List Spot}
noncomputable def bz(c n k:Nat):List (Nat×Nat×Bool):=(if decide (k % c<c-1) then [(k,k+1,J)] else [])++(if decide (k+c<n) then [(k,k+c,Y)] else [])
def c6(c n k:Nat):List (Nat×Nat×Bool):=(List.range k).flatMap (bz c n)
def lV{k:Nat}:c6 c n (k+1)=c6 c n k++bz c n k:=by unfold c6;rw[List.range_succ,List.flatMap_append,List.flatMap_cons,List.flatMap_nil,vt]
def UI{k:Nat}:(bz c n k).length<=2:=by unfold bz;rw[vp];split<;>split<;>simp
theorem lW{c n:Nat}:∀k,(c6 c n k).length<=2*k
 | 0=>xg _
 |k+1=>by rw[lV,vp];have:=lW (c:=c) (n:=n) k;have:=UI (c:=c) (n:=n) (k:=k);lia
def AA{k:Nat}{j:Nat×Nat×Bool}(h:j∈c6 c n k):j.1<k:=by unfold c6 at h;obtain⟨i,hi,z⟩:=mem_flatMap.mp h;have hi:=xf.mp hi;unfold bz at z;rcases xp.mp z with q|q<;>(split at q<;>first|(simp only[vj]at q;rw[q];exact hi)|(simp at q))
def WC{α:Type}{a b:α}:atI [a,b] 0=U a/\atI [a,b] 1=U b:=⟨rfl,rfl⟩
def dz(j:Nat×Nat×Bool):D:=.tup [.int j.1,.int j.2.1,.bl j.2.2]
def CU{k:Nat}{α:Type}{f:Nat×Nat×Bool->α}:(bz c n k).map f=(if decide (k % c<c-1) then [f (k,k+1,J)] else [])++(if decide (k+c<n) then [f (k,k+c,Y)] else []):=by unfold bz;rw[x5];cases decide (k % c<c-1)<;>cases decide (k+c<n)<;>rfl
noncomputable def iJ:IS:=(.seq (.set 2 (.b .mul (.v 0) (.v 1))) (.seq (.setm 3 (.lst .nil)) (.seq (.loop [4] J .rng (.tup (.cons (.v 2) .nil)) (.seq (.g (.b .lt (.b .mod (.v 4) (.v 0)) (.b .sub (.v 0) (.L (.int 1)))) (.app 3 (.tup (.cons (.v 4) (.cons (.b .add (.v 4) (.L (.int 1))) (.cons (.L (.bl J)) .nil))))) .nop) (.g (.b .lt (.b .add (.v 4) (.v 0)) (.v 2)) (.app 3 (.tup (.cons (.v 4) (.cons (.b .add (.v 4) (.v 0)) (.cons (.L (.bl Y)) .nil))))) .nop))) (.M 3))))
def cV(h:0<b):af .mod (.int (a:Int)) (.int (b:Int))=U (.int ((a % b:Nat):Int)):=(jF zq).trans (by rw[Int.natCast_emod])
def kH(h:0<b)(h1:b<1000000):af .fdiv (.int (a:Int)) (.int (b:Int))=U (.int ((a / b:Nat):Int)):=(oO zq zq).trans (by rw[Int.natCast_ediv])
def eR(h:a<=1000000):af .mul (.int (a:Int)) (.int (b:Int))=U (.int ((a*b:Nat):Int)):=(KM zq zq).trans (by rw[Int.natCast_mul])
def DO(hb:1<=b):decide ((a:Int)<(b:Int)-1)=decide (a<b-1):=decide_eq_decide.mpr zq
def rT(hc:1<=c)(I:c*r<=64)(z:c<=64):bL G 5 iJ [.int c,.int r]=U (.ok (.lst ((c6 c (c*r) (c*r)).map dz))):=by
 refine aL (B:=[.im (.int c),.im (.int r),.un,.un,.un]) rfl ?_;refine aA (aM (d:=.int ((c*r:Nat):Int)) (by simp only[zm,eR (show c<=1000000 by lia)])) (aA (kG (ds:=[]) (by simp only[zz,yy,aI])) ?_);simp only[List.set];obtain⟨B',l,s4,rfl⟩:=hJ (bind:=aX [4] J) (body:=ex G (.seq (.g (.b .lt (.b .mod (.v 4) (.v 0)) (.b .sub (.v 0) (.L (.int 1)))) (.app 3 (.tup (.cons (.v 4) (.cons (.b .add (.v 4) (.L (.int 1))) (.cons (.L (.bl J)) .nil))))) .nop) (.g (.b .lt (.b .add (.v 4) (.v 0)) (.v 2)) (.app 3 (.tup (.cons (.v 4) (.cons (.b .add (.v 4) (.v 0)) (.cons (.L (.bl Y)) .nil))))) .nop))) (λk B=>∃s4,B=[.im (.int c),.im (.int r),.im (.int ((c*r:Nat):Int)),.mu (.lst ((c6 c (c*r) k).map dz)),s4]) (n:=c*r) (B:=[.im (.int c),.im (.int r),.im (.int ((c*r:Nat):Int)),.mu (.lst []),.un]) ⟨_,rfl⟩ (by
  rintro k hk B ⟨s4,rfl⟩;have hl:=lW (c:=c) (n:=c*r) k;refine⟨_,rfl,_,aA (mC (b:=decide (k % c<c-1)) (d:=dz (k,k+1,J)) ?_ ?_ rfl (by rw[uo];lia)) (mC (b:=decide (k+c<c*r)) (d:=dz (k,k+c,Y)) ?_ ?_ rfl ?_),.im (.int k),?_⟩;simp only[List.set];simp only[zm,cV hc,DO hc];simp only[List.set];simp only[zm];rfl;simp only[List.set];simp only[zm];exact congrArg (λb=>U (D.bl b)) (decide_eq_decide.mpr zq);simp only[List.set];simp only[zm];rfl;rw[vp,uo];split<;>simp<;>lia
  simp only[List.set,lV,x5,va,CU])
 exact aA ((bI (d:=.tup [.int ((c*r:Nat):Int)]) (by simp only[zm]) (cX zq)).trans l) (pP rfl)
end
section
variable {G:GS}
def sC{a b c d:D}:cut [a,b,c,d] (U 2) O=[c,d]:=rfl
def aCE(p:Table×Nat×Nat)(f:ik):Table×Nat×Nat:=(aEr f.sd f.over f.k p.1,if f.sd.up then max f.k (p.2.1-f.k) else p.2.1,if f.sd.up then p.2.2 else max f.k (p.2.2-f.k))
def runs(c r:Nat)(fs:List ik):Table×Nat×Nat:=fs.foldl aCE (aEs c r,c,r)
structure Stg (c r:Nat) (fs:List ik) (sp:List Spot):Prop where
 sits:Sits (runs c r fs).1 (runs c r fs).2.1 (runs c r fs).2.2 sp
 len:sp.length=c*r
def Fits(c r:Nat)(fs:List ik)(f:ik):Prop:=1<=f.k/\f.k<ext f.sd (runs c r fs).2.1 (runs c r fs).2.2
structure Stgs (c r:Nat) (fs:List ik) (sps:List (List Spot)):Prop where
 len:sps.length=fs.length+1
 at_:∀i sp,sps[i]?=U sp->Stg c r (fs.take i) sp
 ok:∀i f,fs[i]?=U f->Fits c r (fs.take i) f
end
end Pg
open Pg
namespace K08
section
variable {G:GS}
theorem sQ:∀{ls:List (List D)},lA (ls.map D.lst)=U ls
 |[]=>rfl
 |l::r=>by show (lA (r.map D.lst)).map (l :: ·)=_;rw[sQ];rfl
def vL{B:List Sl}{x:Nat}{e:IE}{ls:List (List D)}(h:ev G e B=U (cg ls)):ex G (.nset x e) B=U (.nx ((B.map fL).set x (.mm ls))):=by show (match ev G e B with|some (.lst ds)=>(lA ds).map λls=>Out.nx ((B.map fL).set x (.mm ls))|_=>O)=_;rw[h];show (lA (ls.map D.lst)).map _=_;rw[sQ];rfl
def DJ{B:List Sl}{x k:Nat}{i e:IE}{d:D}{ls:List (List D)}{l:List D}(h1:ev G e B=U d)(h2:ev G i (viewN B)=U (.int (k:Nat)))(h3:B[x]?=U (.mm ls))(hl:ls[k]?=U l)(hz:l.length<1000000):ex G (.napp x i e) B=U (.nx ((B.map fL).set x (.mm (ls.set k (l++[d]))))):=by
 have hk:=(u0.mp hl).1;show (match ev G e B,ev G i (viewN B),B[x]? with|some d,U (.int k),U (.mm ls)=>(ixN ls.length k).bind λj=>(ls[j]?).bind λl=>if l.length<big then U (Out.nx ((B.map fL).set x (.mm (ls.set j (l++[d]))))) else O|_,_,_=>O)=_;rw[h1,h2,h3];have z:ixN ls.length (k:Int)=U k:=by unfold ixN;rw[if_pos zq,if_pos zq];rfl
 show (ixN ls.length (k:Int)).bind _=_;rw[z];show (ls[k]?).bind _=_;rw[hl];exact if_pos hz
def pQ{B:List Sl}{x:Nat}{ls:List (List D)}(h:B[x]?=U (.mm ls)):ex G (.nret x) B=U (.rt (cg ls)):=by show (match B[x]? with|some (.mm ls)=>U (Out.rt (cg ls))|_=>O)=_;rw[h]
structure Pl where
 x:Nat
 y:Nat
 l:Nat
 e:Bool
 n:Bool
noncomputable def plD(p:Pl):D:=.tup [.int p.x,.int p.y,.int p.l,.bl p.e,.bl p.n]
noncomputable def gS(w p:Nat)(h:aQ):List (Int×Pl):=h.zipIdx.map λc=>(c.1.1,⟨p % w,p / w,c.2,c.1.2.1,c.1.2.2⟩)
def ents(w:Nat)(Hs:List aQ):List (Int×Pl):=Hs.zipIdx.flatMap λq=>gS w q.2 q.1
def FF(ls:List (List D))(q:Int×Pl):List (List D):=ls.set q.1.toNat (ls.getD q.1.toNat []++[plD q.2])
def mV(n:Nat)(E:List (Int×Pl)):List (List D):=E.foldl FF (List.replicate n [])
noncomputable def cm(E:List (Int×Pl))(k:Nat):List Pl:=(E.filter λq=>q.1 == (k:Int)).map (·.2)
def InN(n:Nat)(E:List (Int×Pl)):Prop:=∀q∈E,0<=q.1/\q.1<(n:Int)
def sM{E:List (Int×Pl)}{q:Int×Pl}:mV n (E++[q])=FF (mV n E) q:=by unfold mV;rw[List.foldl_append];rfl
def JF{ls:List (List D)}{q:Int×Pl}:(FF ls q).length=ls.length:=by unfold FF;rw[length_set]
def JD{E:List (Int×Pl)}:(mV n E).length=n:=by
 unfold mV;generalize hl:List.replicate n ([]:List D)=ls;have h:ls.length=n:=by rw[<-hl,length_replicate]
 clear hl;induction E generalizing ls with
 |nil=>exact h
 |cons q r z=>exact z _ (by rw[JF];exact h)
def qH{E:List (Int×Pl)}{q:Int×Pl}{k:Nat}:cm (E++[q]) k=cm E k++if q.1 == (k:Int) then [q.2] else []:=by unfold cm;rw[List.filter_append,x5];congr 1;by_cases h:(q.1 == (k:Int))=Y;rw[if_pos h];simp[List.filter,h];rw[if_neg h];simp[List.filter,h]
def uA{E:List (Int×Pl)}(hE:InN n E){k:Nat}(hk:k<n):(mV n E)[k]?=U ((cm E k).map plD):=by
 obtain⟨m,hm⟩:∃m,m=E.length:=⟨_,rfl⟩;induction m generalizing E with
 |zero=>have:E=[]:=vv.mp hm.symm;subst this;show (List.replicate n ([]:List D))[k]?=_;rw[getElem?_replicate,if_pos hk];rfl
 |succ m I=>
  have bw:E≠[]:=λz=>by rw[z]at hm;cases hm
  obtain⟨R,q,rfl⟩:∃R q,E=R++[q]:=⟨E.dropLast,E.getLast bw,(List.dropLast_concat_getLast bw).symm⟩;have I:=I (E:=R) (λa ha=>hE a (wb _ ha)) (by rw[vp]at hm;simpa using hm);obtain⟨q0,W⟩:=hE q (wa _ (vj.mpr rfl));rw[sM,qH];unfold FF;by_cases h:q.1.toNat=k;have e:(q.1 == (k:Int))=Y:=vz.mpr zq;rw[if_pos e,h,vf (by rw[JD];exact hk),x5,u3,I];rfl;have e:¬(q.1 == (k:Int))=Y:=λz=>h (by have:=vz.mp z;lia);rw[if_neg e,vt,vg h,I]
def getD_some{α:Type}{l:List α}{k:Nat}{a d:α}(h:l[k]?=U a):l.getD k d=a:=by rw[u3,h];rfl
def wA{α:Type}{l:List α}{k:Nat}{a:α}(h:l[k]?=U a):(l.take (k+1)).zipIdx=(l.take k).zipIdx++[(a,k)]:=by have hk:=(u0.mp h).1;rw[x6,h,List.zipIdx_append];congr 1;rw[w9,Nat.min_eq_left (le_of_lt hk),vo];rfl
def nV{Hs:List aQ}{p:Nat}{h:aQ}(e:Hs[p]?=U h):ents w (Hs.take (p+1))=ents w (Hs.take p)++gS w p h:=by unfold ents;rw[wA e,List.flatMap_append];simp
def nW{p:Nat}{h:aQ}{l:Nat}{c:Cell}(e:h[l]?=U c):gS w p (h.take (l+1))=gS w p (h.take l)++[(c.1,⟨p % w,p / w,l,c.2.1,c.2.2⟩)]:=by unfold gS;rw[wA e,x5];rfl
noncomputable def PH:IS:=(.seq (.t [3,7,8] (.ix (.ix (.v 2) (.v 5)) (.v 6))) (.napp 4 (.v 3) (.tup (.cons (.b .mod (.v 5) (.v 1)) (.cons (.b .fdiv (.v 5) (.v 1)) (.cons (.v 6) (.cons (.v 7) (.cons (.v 8) .nil))))))))
def AM:IS:=(.loop [6] J .rng (.tup (.cons (.ρ .len (.cons (.ix (.v 2) (.v 5)) .nil)) .nil)) PH)
def qR:IS:=(.seq (.nset 4 (.c 2 [] [1] J .rng (.tup (.cons (.v 0) .nil)) (.L (.bl Y)) (.lst .nil))) (.seq (.loop [5] J .rng (.tup (.cons (.ρ .len (.cons (.v 2) .nil)) .nil)) AM) (.nret 4)))
structure Hok (n:Nat) (Hs:List aQ):Prop where
 inn:∀h∈Hs,∀c∈h,0<=c.1/\c.1<(n:Int)
 few:∀h∈Hs,h.length<=100
 len:Hs.length<=1000
theorem Hok.ents{n w:Nat}{Hs:List aQ}(h:Hok n Hs):InN n (ents w Hs):=λq hq=>by obtain⟨p,hp,hq⟩:=mem_flatMap.mp hq;obtain⟨c,hc,rfl⟩:=w4.mp hq;exact h.inn _ (List.fst_mem_of_mem_zipIdx hp) _ (List.fst_mem_of_mem_zipIdx hc)
theorem mH{w:Nat}:∀{Hs:List aQ} (k:Nat),(∀h∈Hs,h.length<=100)->((Hs.zipIdx k).flatMap λq=>gS w q.2 q.1).length<=100*Hs.length
 |[],_,_=>uq _
 |h::r,k,a=>by
  rw[List.zipIdx_cons,List.flatMap_cons,vp,wz];have i:=mH (w:=w) (k+1) λx hx=>a x (ux _ hx);have b:=a h wu;have c:(gS w k h).length=h.length:=by unfold gS;rw[uo,List.length_zipIdx]
  dsimp only;lia
def sf(n w:Nat)(Hs:List aQ)(s3:Sl)(E:List (Int×Pl))(s5 s6 s7 s8:Sl):List Sl:=[.im (.int n),.im (.int w),.im (.lst (Hs.map hE)),s3,.mm (mV n E),s5,s6,s7,s8]
def RG{Hs:List aQ}(hw:0<w)(l7:w<=1000)(z:Hok n Hs){p:Nat}{h:aQ}(e:Hs[p]?=U h){s3 s6 s7 s8:Sl}:∃B',ex G AM (sf n w Hs s3 (ents w (Hs.take p)) (.im (.int (p:Nat))) s6 s7 s8)=U (.nx B')/\∃s3 s6 s7 s8,B'=sf n w Hs s3 (ents w (Hs.take (p+1))) (.im (.int (p:Nat))) s6 s7 s8:=by
 have hm:=u6 e;have hp:=(u0.mp e).1;have ep:atI (Hs.map hE) (p:Int)=U (hE h):=gH (by rw[um,e];rfl);have el:(h.map au).length=h.length:=uo _;have hO2:=mH (w:=w) (Hs:=Hs) 0 z.few;have h100:=z.few h hm;have hlen:=z.len;obtain⟨B',g,s3',s6',W,R,rfl⟩:=hJ (bind:=aX [6] J) (body:=ex G PH) (λl B=>∃s3 s6 s7 s8,B=sf n w Hs s3 (ents w (Hs.take p)++gS w p (h.take l)) (.im (.int (p:Nat))) s6 s7 s8) (n:=h.length) (B:=sf n w Hs s3 (ents w (Hs.take p)) (.im (.int (p:Nat))) s6 s7 s8) ⟨s3,s6,s7,s8,by rw[take_zero];show _=sf n w Hs s3 (ents w (Hs.take p)++[]) _ _ _ _;rw[vt]⟩ (by
  rintro l hl B ⟨s3,s6,s7,s8,rfl⟩;obtain⟨c,ec⟩:∃c,h[l]?=U c:=⟨h[l],uk hl⟩;obtain⟨c0,c1⟩:=z.inn h hm c (u6 ec);have ek:c.1=((c.1.toNat:Nat):Int):=(Int.toNat_of_nonneg c0).symm;obtain⟨E,hE0⟩:∃E,E=ents w (Hs.take p)++gS w p (h.take l):=⟨_,rfl⟩;have hIn:InN n E:=λq hq=>by rw[hE0]at hq;rcases xp.mp hq with hq|hq;obtain⟨a,ha,hq⟩:=mem_flatMap.mp hq;obtain⟨b,hb,rfl⟩:=w4.mp hq;exact z.inn _ (mem_of_mem_take (List.fst_mem_of_mem_zipIdx ha)) _ (List.fst_mem_of_mem_zipIdx hb);obtain⟨b,hb,rfl⟩:=w4.mp hq;exact z.inn h hm _ (mem_of_mem_take (List.fst_mem_of_mem_zipIdx hb))
  have hEl:E.length<=200000:=by
   rw[hE0,vp];have a:=mH (w:=w) (Hs:=Hs.take p) 0 λx hx=>z.few x (mem_of_mem_take hx);have b:(gS w p (h.take l)).length<=100:=by unfold gS;rw[uo,List.length_zipIdx,w9];lia
   rw[w9]at a;have a:(ents w (Hs.take p)).length<=_:=a;lia
  have I:=uA hIn (k:=c.1.toNat) zq;have eix:atI (h.map au) (l:Int)=U (au c):=gH (by rw[um,ec];rfl);refine⟨sf n w Hs s3 E (.im (.int (p:Nat))) (.im (.int (l:Nat))) s7 s8,by rw[hE0];rfl,_,aA (B':=sf n w Hs (.im (.int c.1)) E (.im (.int (p:Nat))) (.im (.int (l:Nat))) (.im (.bl c.2.1)) (.im (.bl c.2.2))) (lZ.trans ?_) (DJ (k:=c.1.toNat) (d:=plD ⟨p % w,p / w,l,c.2.1,c.2.2⟩) (ls:=mV n E) ?_ ?_ rfl I ?_),.im (.int c.1),.im (.int (l:Nat)),.im (.bl c.2.1),.im (.bl c.2.2),?_⟩;unfold sf;simp only[zm,ep];unfold hE;simp only[eix,aC];rfl;unfold sf plD;simp only[zm,jF (i:=(p:Int)) (j:=(w:Int)) zq,oO (i:=(p:Int)) (j:=(w:Int)) zq zq];rfl;show U (D.int c.1)=_;rw[<-ek];rw[uo];refine Nat.lt_of_le_of_lt ?_ (show 200000<1000000 by decide);unfold cm;rw[uo];exact vi (List.length_filter_le _ _) hEl;rw[nW ec,<-va,<-hE0];unfold sf;rw[sM];unfold FF;rw[getD_some I];rfl)
 rw[xh,<-nV e]at *;refine⟨_,(bI (d:=.tup [.int ((h.length:Nat):Int)]) ?_ (cX zq)).trans g,s3',s6',W,R,rfl⟩;unfold sf;simp only[zm,ep];unfold hE;simp only[zm,el]
def nC{B:List Sl}{a:IE}(hn:n<=1000000)(h:ev G a B=U (.int (n:Nat))):ev G (.c 2 [] [1] J .rng (.tup (.cons a .nil)) (.L (.bl Y)) (.lst .nil)) B=U (cg (List.replicate n [])):=by rw[OL (s:=.tup [.int (n:Nat)]) (ds:=(List.range n).map λ(k:Nat)=>D.int k) (λ_=>.lst []) (by rw[fP,aJ,h];rfl) (cX hn) λd hd=>⟨[.un,.im d],rfl,rfl,rfl⟩];unfold cg;congr 2;rw[x9,map_replicate];exact List.ext_getElem? λi=>by rw[um,getElem?_replicate];by_cases hi:i<n;rw[wy hi,if_pos hi];rfl;rw[List.getElem?_eq_none (by rw[ve];lia),if_neg hi];rfl
def EV{Hs:List aQ}(hn:n<=1000)(hw:0<w)(l7:w<=1000)(hO:Hok n Hs):bL G 9 qR [.int n,.int w,.lst (Hs.map hE)]=U (.ok (cg (mV n (ents w Hs)))):=by obtain⟨B',g,s3,s5,s6,s7,s8,rfl⟩:=hJ (bind:=aX [5] J) (body:=ex G AM) (λp B=>∃s3 s5 s6 s7 s8,B=sf n w Hs s3 (ents w (Hs.take p)) s5 s6 s7 s8) (n:=Hs.length) (B:=sf n w Hs .un [] .un .un .un .un) ⟨_,_,_,_,_,rfl⟩ (by rintro p hp B ⟨s3,s5,s6,s7,s8,rfl⟩;obtain⟨B',e,W,R,I,z,rfl⟩:=RG (G:=G) hw l7 hO (uk hp) (s3:=s3) (s6:=s6) (s7:=s7) (s8:=s8);exact⟨sf n w Hs s3 (ents w (Hs.take p)) (.im (.int (p:Nat))) s6 s7 s8,rfl,_,e,W,_,R,I,z,rfl⟩);rw[xh]at g;have hlen:=hO.len;refine aL (B:=[.im (.int n),.im (.int w),.im (.lst (Hs.map hE)),.un,.un,.un,.un,.un,.un]) rfl (aA (vL (nC (n:=n) zq rfl)) (aA ((bI (d:=.tup [.int ((Hs.length:Nat):Int)]) ?_ (cX zq)).trans g) (pQ rfl)));simp only[List.map,fL,List.set];simp only[zm,uo]
end
section
variable {G:GS}
theorem eE{α:Type}{enc:α->D}{bind:D->List Sl->Option (List Sl)}{body:List Sl->Option Out}(P:Nat->List Sl->Prop)(t:α->Bool)(f:α->D):∀{L:List α} {k:Nat} {B:List Sl},P k B ->(∀(i:Nat) a B,L[i]?=U a->P (k+i) B->∃ρ1,bind (enc a) B=U ρ1/\(t a=Y->body ρ1=U (.rt (f a)))/\(t a=J->∃I,body ρ1=U (.nx I)/\P (k+i+1) I)) ->(∀a,L.find? t=U a->bQ bind body (L.map enc) B=U (.rt (f a)))/\(L.find? t=O->∃B',bQ bind body (L.map enc) B=U (.nx B')/\P (k+L.length) B')
 |[],k,B,h,_=>⟨λa z=>(by cases z),λ_=>⟨B,rfl,h⟩⟩
 |a::r,k,B,h,st=>by
  obtain⟨ρ1,h1,ht,hf⟩:=st 0 a B rfl h;rw[find?_cons];cases e:t a with
  |true=>refine⟨λb z=>?_,λz=>(by cases z)⟩;cases z;rw[vx];unfold bQ;rw[h1];show (body ρ1).bind _=_;rw[ht e];rfl
  |false=>
   obtain⟨I,h2,h3⟩:=hf e;obtain⟨W,R⟩:=eE (enc:=enc) P t f (L:=r) (k:=k+1) h3 λi b B' e' p=>by have:=st (i+1) b B' (by simpa using e') (by rw[Nat.add_comm i 1,<-Nat.add_assoc];exact p);rw[show k+1+i+1=k+(i+1)+1 by lia];exact this
   have go:bQ bind body ((a::r).map enc) B=bQ bind body (r.map enc) I:=by
    rw[vx];conv=>lhs;unfold bQ
    rw[h1];show (body ρ1).bind _=_;rw[h2];rfl
   rw[go];refine⟨W,λz=>?_⟩;obtain⟨B',g1,g2⟩:=R z;exact⟨B',g1,by rw[wz,show k+(r.length+1)=k+1+r.length by lia];exact g2⟩
theorem lD{α:Type}{enc:α->D}{bind:D->List Sl->Option (List Sl)}{body:List Sl->Option Out}(P:List Sl->Prop)(f:α->Option D):∀{L:List α} {B:List Sl},P B ->(∀a∈L,∀B,P B->∃ρ1,bind (enc a) B=U ρ1/\(∀d,f a=U d->body ρ1=U (.rt d))/\(f a=O->∃I,body ρ1=U (.nx I)/\P I)) ->(∀d,L.findSome? f=U d->bQ bind body (L.map enc) B=U (.rt d))/\(L.findSome? f=O->∃B',bQ bind body (L.map enc) B=U (.nx B')/\P B')
 |[],B,h,_=>⟨λa z=>(by cases z),λ_=>⟨B,rfl,h⟩⟩
 |a::r,B,h,st=>by
  obtain⟨ρ1,h1,ht,hf⟩:=st a wu B h;rw[List.findSome?_cons];cases e:f a with
  |some d=>refine⟨λb z=>?_,λz=>(by cases z)⟩;cases z;rw[vx];unfold bQ;rw[h1];show (body ρ1).bind _=_;rw[ht d e];rfl
  |none=>
   obtain⟨I,h2,h3⟩:=hf e;obtain⟨W,R⟩:=lD (enc:=enc) P f (L:=r) h3 λb hb=>st b (ux _ hb)
   have go:bQ bind body ((a::r).map enc) B=bQ bind body (r.map enc) I:=by
    rw[vx];conv=>lhs;unfold bQ
    rw[h1];show (body ρ1).bind _=_;rw[h2];rfl
   rw[go];exact⟨W,R⟩
noncomputable def eG(lv:Bool)(p:Pl):Nat:=if lv then(if p.n then p.y else p.y+1) else(if p.e then p.x else p.x+1)
noncomputable def iW(lv:Bool)(p:Pl):Nat:=if lv then(if p.n then p.y+1 else p.y) else(if p.e then p.x+1 else p.x)
def meets(lv:Bool)(p q:Pl):Bool:=(if lv then p.x == q.x&&p.e == q.e else p.y == q.y&&p.n == q.n)&&eG lv p == iW lv q
noncomputable def bx(lv:Bool)(p:Pl):Nat:=if lv then p.y else p.x
noncomputable def eg(lv:Bool)(p:Pl):Nat:=if lv then p.x else p.y
def side(b:Bool)(lv:Bool)(L:Nat)(p q:Pl):List Int:=(if bx lv p+(if b then 0 else 1) == L then [(p.l:Int)] else [])++(if bx lv q+(if b then 0 else 1) == L then [(q.l:Int)] else [])
def at5{a b c d e:D}:atI [a,b,c,d,e] 0=U a/\atI [a,b,c,d,e] 1=U b/\atI [a,b,c,d,e] 2=U c/\atI [a,b,c,d,e] 3=U d/\atI [a,b,c,d,e] 4=U e:=⟨rfl,rfl,rfl,rfl,rfl⟩
def jm{b:Bool}:fj (.bl b)=U b:=by cases b<;>rfl
def qh{a b:Bool}:af .ne (.bl a) (.bl b)=U (.bl (!(a == b))):=by cases a<;>cases b<;>rfl
noncomputable def AV:IS:=(.seq (.g (.tr (.v 1)) (.ret J (.q (.tr (.ix (.v 0) (.L (.int 4)))) (.ix (.v 0) (.L (.int 1))) (.b .add (.ix (.v 0) (.L (.int 1))) (.L (.int 1))))) .nop) (.ret J (.q (.tr (.ix (.v 0) (.L (.int 3)))) (.ix (.v 0) (.L (.int 0))) (.b .add (.ix (.v 0) (.L (.int 0))) (.L (.int 1))))))
noncomputable def AW:IS:=(.seq (.g (.tr (.v 1)) (.ret J (.q (.tr (.ix (.v 0) (.L (.int 4)))) (.b .add (.ix (.v 0) (.L (.int 1))) (.L (.int 1))) (.ix (.v 0) (.L (.int 1))))) .nop) (.ret J (.q (.tr (.ix (.v 0) (.L (.int 3)))) (.b .add (.ix (.v 0) (.L (.int 0))) (.L (.int 1))) (.ix (.v 0) (.L (.int 0))))))
def US{p:Pl}:bL G 2 AV [plD p,.bl lv]=U (.ok (.int (eG lv p:Nat))):=by
 obtain⟨x,y,l,e,n⟩:=p;unfold plD eG;cases lv with
 |true=>refine aL (B:=[.im (.tup [.int x,.int y,.int l,.bl e,.bl n]),.im (.bl Y)]) rfl (cJ (dA rfl (aN ?_)) λ_ z=>by cases z);cases n<;>simp only[zm,at5.1,at5.2.1,at5.2.2.1,at5.2.2.2.1,at5.2.2.2.2,jm]<;>rfl
 |false=>refine aL (B:=[.im (.tup [.int x,.int y,.int l,.bl e,.bl n]),.im (.bl J)]) rfl (aA (bM rfl aR) (aN ?_));cases e<;>simp only[zm,at5.1,at5.2.1,at5.2.2.1,at5.2.2.2.1,at5.2.2.2.2,jm]<;>rfl
def VZ{p:Pl}:bL G 2 AW [plD p,.bl lv]=U (.ok (.int (iW lv p:Nat))):=by
 obtain⟨x,y,l,e,n⟩:=p;unfold plD iW;cases lv with
 |true=>refine aL (B:=[.im (.tup [.int x,.int y,.int l,.bl e,.bl n]),.im (.bl Y)]) rfl (cJ (dA rfl (aN ?_)) λ_ z=>by cases z);cases n<;>simp only[zm,at5.1,at5.2.1,at5.2.2.1,at5.2.2.2.1,at5.2.2.2.2,jm]<;>rfl
 |false=>refine aL (B:=[.im (.tup [.int x,.int y,.int l,.bl e,.bl n]),.im (.bl J)]) rfl (aA (bM rfl aR) (aN ?_));cases e<;>simp only[zm,at5.1,at5.2.1,at5.2.2.1,at5.2.2.2.1,at5.2.2.2.2,jm]<;>rfl
def jf:((a:Int) == (b:Int))=(a == b):=by rw[Bool.eq_iff_iff,vz,vz];lia
noncomputable def AU:IS:=(.seq (.g (.and (.tr (.v 2)) (.or (.b .ne (.ix (.v 0) (.L (.int 0))) (.ix (.v 1) (.L (.int 0)))) (.b .ne (.ix (.v 0) (.L (.int 3))) (.ix (.v 1) (.L (.int 3)))))) (.ret J (.L (.bl J))) .nop) (.seq (.g (.and (.not (.tr (.v 2))) (.or (.b .ne (.ix (.v 0) (.L (.int 1))) (.ix (.v 1) (.L (.int 1)))) (.b .ne (.ix (.v 0) (.L (.int 4))) (.ix (.v 1) (.L (.int 4)))))) (.ret J (.L (.bl J))) .nop) (.ret J (.b .eq (.call y9 (.cons (.v 0) (.cons (.v 2) .nil))) (.call xx (.cons (.v 1) (.cons (.v 2) .nil)))))))
def UR(hl:∀(p:Pl) (lv:Bool),G.fn y9 [plD p,.bl lv]=U (.ok (.int (eG lv p:Nat))))(hb:∀(p:Pl) (lv:Bool),G.fn xx [plD p,.bl lv]=U (.ok (.int (iW lv p:Nat)))){p q:Pl}:bL G 3 AU [plD p,plD q,.bl lv]=U (.ok (.bl (meets lv p q))):=by
 have W:ev G (.b .eq (.call y9 (.cons (.v 0) (.cons (.v 2) .nil))) (.call xx (.cons (.v 1) (.cons (.v 2) .nil)))) [.im (plD p),.im (plD q),.im (.bl lv)]=U (.bl (eG lv p == iW lv q)):=by simp only[zm,hl,hb,jf]
 have R:∀{i j:Nat} {a b:Nat} {e f:Bool},atI [D.int p.x,.int p.y,.int p.l,.bl p.e,.bl p.n] (i:Int)=U (.int (a:Nat))->atI [D.int q.x,.int q.y,.int q.l,.bl q.e,.bl q.n] (i:Int)=U (.int (b:Nat))->atI [D.int p.x,.int p.y,.int p.l,.bl p.e,.bl p.n] (j:Int)=U (.bl e)->atI [D.int q.x,.int q.y,.int q.l,.bl q.e,.bl q.n] (j:Int)=U (.bl f) ->ev G (.or (.b .ne (.ix (.v 0) (.L (.int i))) (.ix (.v 1) (.L (.int i)))) (.b .ne (.ix (.v 0) (.L (.int j))) (.ix (.v 1) (.L (.int j))))) [.im (plD p),.im (plD q),.im (.bl lv)]=U (.bl (!(a == b&&e == f))):=λ{i j a b e f} h1 h2 h3 h4=>by rw[lF (x:=!(a == b)) (y:=!(e == f)) (by unfold plD;simp only[zm,h1,h2,jf]) λ_=>by unfold plD;simp only[zm,h3,h4,qh],Bool.not_and]
 cases lv with
 |true=>
  have I:=bJ (G:=G) (a:=.tr (.v 2)) (B:=view [.im (plD p),.im (plD q),.im (.bl Y)]) (x:=Y) (y:=!(p.x == q.x&&p.e == q.e)) rfl λ_=>R (i:=0) (j:=3) rfl rfl rfl rfl;cases h:(p.x == q.x&&p.e == q.e) with
  |false=>rw[h]at I;refine aL (B:=[.im (plD p),.im (plD q),.im (.bl Y)]) rfl ((cJ (dA I (aN rfl)) λ_ z=>by cases z).trans ?_);unfold meets;rw[if_pos rfl,h];rfl
  |true=>rw[h]at I;refine aL (B:=[.im (plD p),.im (plD q),.im (.bl Y)]) rfl (aA (bM I aR) (aA (bM (bJ (x:=J) (y:=J) rfl λz=>by cases z) aR) ((aN W).trans ?_)));unfold meets;rw[if_pos rfl,h];rfl
 |false=>
  have I:=bJ (G:=G) (a:=.not (.tr (.v 2))) (B:=view [.im (plD p),.im (plD q),.im (.bl J)]) (x:=Y) (y:=!(p.y == q.y&&p.n == q.n)) rfl λ_=>R (i:=1) (j:=4) rfl rfl rfl rfl;cases h:(p.y == q.y&&p.n == q.n) with
  |false=>rw[h]at I;refine aL (B:=[.im (plD p),.im (plD q),.im (.bl J)]) rfl (aA (bM (bJ (x:=J) (y:=J) rfl λz=>by cases z) aR) ((cJ (dA I (aN rfl)) λ_ z=>by cases z).trans ?_));unfold meets;rw[if_neg zu,h];rfl
  |true=>rw[h]at I;refine aL (B:=[.im (plD p),.im (plD q),.im (.bl J)]) rfl (aA (bM (bJ (x:=J) (y:=J) rfl λz=>by cases z) aR) (aA (bM I aR) ((aN W).trans ?_)));unfold meets;rw[if_neg zu,h];rfl
noncomputable def ld(u:List Int):D:=.lst (u.map .int)
def YK{p:Pl}:atI [D.int p.x,.int p.y,.int p.l,.bl p.e,.bl p.n] (if lv then 1 else 0)=U (.int (bx lv p:Nat)):=by cases lv<;>rfl
def YH{B:List Sl}{p q:Pl}{test:IE}{ts:Pl->Bool}{s2 s3:Sl}(h0:ev G (.tup (.cons (.v 0) (.cons (.v 1) .nil))) B=U (.tup [plD p,plD q]))(hf:frame 4 [(2,4),(3,3)] B=[.un,.un,s2,s3])(z:∀p:Pl,ev G test [.un,.im (plD p),s2,s3]=U (.bl (ts p))):ev G (.c 4 [(2,4),(3,3)] [1] J .seq (.tup (.cons (.v 0) (.cons (.v 1) .nil))) test (.ix (.v 1) (.L (.int 2)))) B=U (ld ((if ts p then [(p.l:Int)] else [])++(if ts q then [(q.l:Int)] else []))):=by
 have g:∀p:Pl,ev G (.ix (.v 1) (.L (.int 2))) [.un,.im (plD p),s2,s3]=U (.int (p.l:Nat)):=λp=>rfl;rw[vQ,h0];show (bU (λd=>(aX [1] J d (frame 4 [(2,4),(3,3)] B)).bind λρ1=>(ev G test ρ1).bind λw=>match w with | .bl Y=>(ev G (.ix (.v 1) (.L (.int 2))) ρ1).map U | .bl J=>U O|_=>O) [plD p,plD q]).map D.lst=_;rw[hf];have one:∀p:Pl,((aX [1] J (plD p) [.un,.un,s2,s3]).bind λρ1=>(ev G test ρ1).bind λw=>match w with | .bl Y=>(ev G (.ix (.v 1) (.L (.int 2))) ρ1).map U | .bl J=>U O|_=>O)=U (if ts p then U (D.int (p.l:Nat)) else O):=λp=>by
  show ((ev G test [.un,.im (plD p),s2,s3]).bind λw=>match w with | .bl Y=>(ev G (.ix (.v 1) (.L (.int 2))) [.un,.im (plD p),s2,s3]).map U | .bl J=>U O|_=>O)=_;rw[z p];cases ts p with
  |true=>show (ev G (.ix (.v 1) (.L (.int 2))) [.un,.im (plD p),s2,s3]).map U=_;rw[g p];rfl
  |false=>rfl
 simp only[bU,one];cases ts p<;>cases ts q<;>rfl
noncomputable def uW:IS:=(.seq (.set 4 (.ρ .int (.cons (.v 2) .nil))) (.seq (.set 5 (.c 4 [(2,4),(3,3)] [1] J .seq (.tup (.cons (.v 0) (.cons (.v 1) .nil))) (.b .eq (.ix (.v 1) (.v 2)) (.b .sub (.v 3) (.L (.int 1)))) (.ix (.v 1) (.L (.int 2))))) (.seq (.set 6 (.c 4 [(2,4),(3,3)] [1] J .seq (.tup (.cons (.v 0) (.cons (.v 1) .nil))) (.b .eq (.ix (.v 1) (.v 2)) (.v 3)) (.ix (.v 1) (.L (.int 2))))) (.ret J (.tup (.cons (.v 5) (.cons (.v 6) .nil)))))))
def JV{p q:Pl}{L:Nat}:bL G 7 uW [plD p,plD q,.bl lv,.int (L:Nat)]=U (.ok (.tup [ld (side J lv L p q),ld (side Y lv L p q)])):=by
 have z:ev G (.ρ .int (.cons (.v 2) .nil)) [.im (plD p),.im (plD q),.im (.bl lv),.im (.int (L:Nat)),.un,.un,.un]=U (.int (if lv then 1 else 0)):=by cases lv<;>rfl
 refine aL (B:=[.im (plD p),.im (plD q),.im (.bl lv),.im (.int (L:Nat)),.un,.un,.un]) rfl (aA (aM z) (aA (aM (d:=ld (side J lv L p q)) ?_) (aA (aM (d:=ld (side Y lv L p q)) ?_) (aN rfl))));refine YH (s2:=.im (.int (if lv then 1 else 0))) (s3:=.im (.int (L:Nat))) (ts:=λp=>bx lv p+1 == L) rfl rfl λp=>?_;unfold plD;simp only[zm,YK];congr 2;rw[Bool.eq_iff_iff,vz,vz];lia;refine YH (s2:=.im (.int (if lv then 1 else 0))) (s3:=.im (.int (L:Nat))) (ts:=λp=>bx lv p+0 == L) rfl rfl λp=>?_;unfold plD;simp only[zm,YK];congr 2;rw[Bool.eq_iff_iff,vz,vz];lia
noncomputable def qT:IS:=(.ret J (.h .lt .lt (.ρ .min (.cons (.v 1) .nil)) (.v 0) (.ρ .max (.cons (.v 1) .nil))))
noncomputable def vB:IS:=(.seq (.g (.and (.b .eq (.ρ .len (.cons (.v 0) .nil)) (.L (.int 2))) (.b .eq (.ρ .len (.cons (.v 1) .nil)) (.L (.int 2)))) (.ret J (.b .ne (.call yh (.cons (.ix (.v 1) (.L (.int 0))) (.cons (.v 0) .nil))) (.call yh (.cons (.ix (.v 1) (.L (.int 1))) (.cons (.v 0) .nil))))) .nop) (.seq (.g (.and (.b .eq (.ρ .len (.cons (.v 0) .nil)) (.L (.int 2))) (.b .eq (.ρ .len (.cons (.v 1) .nil)) (.L (.int 1)))) (.ret J (.call yh (.cons (.ix (.v 1) (.L (.int 0))) (.cons (.v 0) .nil)))) .nop) (.ret J (.and (.b .eq (.ρ .len (.cons (.v 0) .nil)) (.L (.int 1))) (.and (.b .eq (.ρ .len (.cons (.v 1) .nil)) (.L (.int 2))) (.call yh (.cons (.ix (.v 0) (.L (.int 0))) (.cons (.v 1) .nil))))))))
noncomputable def nK:IS:=(.seq (.g (.and (.b .eq (.ρ .len (.cons (.ix (.v 0) (.L (.int 0))) .nil)) (.L (.int 1))) (.b .eq (.ρ .len (.cons (.ix (.v 1) (.L (.int 0))) .nil)) (.L (.int 1)))) (.ret J (.b .eq (.b .lt (.ix (.ix (.v 0) (.L (.int 0))) (.L (.int 0))) (.ix (.ix (.v 1) (.L (.int 0))) (.L (.int 0)))) (.b .gt (.ix (.ix (.v 0) (.L (.int 1))) (.L (.int 0))) (.ix (.ix (.v 1) (.L (.int 1))) (.L (.int 0)))))) .nop) (.ret J (.or (.call yr (.cons (.ix (.v 0) (.L (.int 0))) (.cons (.ix (.v 1) (.L (.int 0))) .nil))) (.call yr (.cons (.ix (.v 0) (.L (.int 1))) (.cons (.ix (.v 1) (.L (.int 1))) .nil))))))
noncomputable def inB(m a b:Int):Bool:=decide ((if b<a then b else a)<m)&&decide (m<(if b > a then b else a))
def GE{m a b:Int}:bL G 2 qT [.int m,.lst [.int a,.int b]]=U (.ok (.bl (inB m a b))):=by refine aL (B:=[.im (.int m),.im (.lst [.int a,.int b])]) rfl (aN ?_);have e1:ev G (.ρ .min (.cons (.v 1) .nil)) [.im (.int m),.im (.lst [.int a,.int b])]=U (.int (if b<a then b else a)):=rfl;have e2:ev G (.ρ .max (.cons (.v 1) .nil)) [.im (.int m),.im (.lst [.int a,.int b])]=U (.int (if b > a then b else a)):=rfl;have z:ev G (.v 0) [.im (.int m),.im (.lst [.int a,.int b])]=U (.int m):=rfl;rw[rC,e1,e2,z];unfold inB;show (match D.bl (decide ((if b<a then b else a)<m)) with | .bl Y=>U (D.bl (decide (m<(if b > a then b else a)))) | .bl J=>U (.bl J)|_=>O)=_;cases decide ((if b<a then b else a)<m)<;>rfl
noncomputable def bnd:List Int->List Int->Bool
 |[a,b],[c,d]=>!(inB c a b == inB d a b)
 |[a,b],[c]=>inB c a b
 |[a],[c,d]=>inB a c d
 |_,_=>J
def PF(hi:∀m a b:Int,G.fn yh [.int m,.lst [.int a,.int b]]=U (.ok (.bl (inB m a b)))){u v:List Int}(hu:u.length<=2)(hv:v.length<=2):bL G 2 vB [ld u,ld v]=U (.ok (.bl (bnd u v))):=by
 have I:∀{n m:Nat} {x y:Int},ev G (.and (.b .eq (.ρ .len (.cons (.v 0) .nil)) (.L (.int x))) (.b .eq (.ρ .len (.cons (.v 1) .nil)) (.L (.int y)))) (view [.im (ld u),.im (ld v)])=U (.bl (((u.length:Int) == x)&&((v.length:Int) == y))):=λ{n m x y}=>bJ (by unfold ld;simp only[zm,uo]) λ_=>by unfold ld;simp only[zm,uo]
 have R:∀{z:IE} {y:Bool},(v.length=2->ev G z [.im (ld u),.im (ld v)]=U (.bl y))->ev G (.and (.b .eq (.ρ .len (.cons (.v 1) .nil)) (.L (.int 2))) z) [.im (ld u),.im (ld v)]=U (.bl (((v.length:Int) == 2)&&y)):=λ{z y} hz=>bJ (by unfold ld;simp only[zm,uo]) λq=>hz (by have:=vz.mp q;lia);have f1:=I (n:=0) (m:=0) (x:=2) (y:=2);have f2:=I (n:=0) (m:=0) (x:=2) (y:=1);match u,v,hu,hv with
 |[a,b],[c,d],_,_=>refine aL (B:=[.im (ld [a,b]),.im (ld [c,d])]) rfl (cJ (dA f1 (aN ?_)) λ_ z=>by cases z);show (bZ (G.fn yh [.int c,.lst [.int a,.int b]])).bind (λx=>(bZ (G.fn yh [.int d,.lst [.int a,.int b]])).bind λy=>af .ne x y)=_;rw[hi,hi];exact qh
 |[a,b],[c],_,_=>refine aL (B:=[.im (ld [a,b]),.im (ld [c])]) rfl (aA (bM f1 aR) (cJ (dA f2 (aN ?_)) λ_ z=>by cases z));show bZ (G.fn yh [.int c,.lst [.int a,.int b]])=_;rw[hi];rfl
 |[a],[c,d],_,_=>refine aL (B:=[.im (ld [a]),.im (ld [c,d])]) rfl (aA (bM f1 aR) (aA (bM f2 aR) (aN ?_)));refine bJ (x:=Y) (y:=inB a c d) rfl λ_=>(R (y:=inB a c d) λ_=>?_);show bZ (G.fn yh [.int a,.lst [.int c,.int d]])=_;rw[hi];rfl
 |[a,b],[],_,_=>exact aL (B:=[.im (ld [a,b]),.im (ld [])]) rfl (aA (bM f1 aR) (aA (bM f2 aR) (aN (bJ (x:=J) (y:=J) rfl λz=>by cases z))))
 |[a],[c],_,_=>exact aL (B:=[.im (ld [a]),.im (ld [c])]) rfl (aA (bM f1 aR) (aA (bM f2 aR) (aN (bJ (x:=Y) (y:=J) rfl λ_=>bJ (x:=J) (y:=J) rfl λz=>by cases z))))
 |[a],[],_,_=>exact aL (B:=[.im (ld [a]),.im (ld [])]) rfl (aA (bM f1 aR) (aA (bM f2 aR) (aN (bJ (x:=Y) (y:=J) rfl λ_=>bJ (x:=J) (y:=J) rfl λz=>by cases z))))
 |[],[c,d],_,_=>exact aL (B:=[.im (ld []),.im (ld [c,d])]) rfl (aA (bM f1 aR) (aA (bM f2 aR) (aN (bJ (x:=J) (y:=J) rfl λz=>by cases z))))
 |[],[c],_,_=>exact aL (B:=[.im (ld []),.im (ld [c])]) rfl (aA (bM f1 aR) (aA (bM f2 aR) (aN (bJ (x:=J) (y:=J) rfl λz=>by cases z))))
 |[],[],_,_=>exact aL (B:=[.im (ld []),.im (ld [])]) rfl (aA (bM f1 aR) (aA (bM f2 aR) (aN (bJ (x:=J) (y:=J) rfl λz=>by cases z))))
def lL(z h1 l2 h2:List Int):Bool:=if z.length=1/\l2.length=1 then decide (z.headD 0<l2.headD 0) == decide (h2.headD 0<h1.headD 0) else bnd z l2 || bnd h1 h2
def zF(hb:∀u v:List Int,u.length<=2->v.length<=2->G.fn yr [ld u,ld v]=U (.ok (.bl (bnd u v)))){I h1 l2 h2:List Int}(e1:I.length+h1.length=2)(e2:l2.length+h2.length=2):bL G 2 nK [.tup [ld I,ld h1],.tup [ld l2,ld h2]]=U (.ok (.bl (lL I h1 l2 h2))):=by
 have t:ev G (.and (.b .eq (.ρ .len (.cons (.ix (.v 0) (.L (.int 0))) .nil)) (.L (.int 1))) (.b .eq (.ρ .len (.cons (.ix (.v 1) (.L (.int 0))) .nil)) (.L (.int 1)))) (view [.im (.tup [ld I,ld h1]),.im (.tup [ld l2,ld h2])])=U (.bl (((I.length:Int) == 1)&&((l2.length:Int) == 1))):=bJ (by simp only[iA,jA,dW];simp only[zm,WC.1];unfold ld;simp only[zm,uo]) λ_=>by simp only[iA,jA,dW];simp only[zm,WC.1];unfold ld;simp only[zm,uo]
 by_cases h:I.length=1/\l2.length=1;obtain⟨W,a2⟩:=h;obtain⟨a,rfl⟩:=length_eq_one_iff.mp W;obtain⟨c,rfl⟩:=length_eq_one_iff.mp a2;obtain⟨b,rfl⟩:=length_eq_one_iff.mp (show h1.length=1 by lia);obtain⟨d,rfl⟩:=length_eq_one_iff.mp (show h2.length=1 by lia);refine aL (B:=[.im (.tup [ld [a],ld [b]]),.im (.tup [ld [c],ld [d]])]) rfl ((cJ (dA t (aN (d:=.bl (decide (a<c) == decide (d<b))) ?_)) λ_ z=>by cases z).trans ?_);show (U (D.bl (decide (a<c)))).bind (λx=>(U (D.bl (decide (d<b)))).bind λy=>af .eq x y)=_;show af .eq (.bl (decide (a<c))) (.bl (decide (d<b)))=_;cases decide (a<c)<;>cases decide (d<b)<;>rfl
 unfold lL;rw[if_pos ⟨rfl,rfl⟩];rfl;have R:(((I.length:Int) == 1)&&((l2.length:Int) == 1))=J:=by rw[Bool.eq_false_iff];intro z;rw[uz,vz,vz]at z;exact h ⟨zq,zq⟩
 refine aL (B:=[.im (.tup [ld I,ld h1]),.im (.tup [ld l2,ld h2])]) rfl (aA (bM (t.trans (by rw[R])) aR) ((aN (d:=.bl (bnd I l2 || bnd h1 h2)) ?_).trans ?_));refine lF (x:=bnd I l2) (y:=bnd h1 h2) ?_ λ_=>?_;simp only[zm,WC.1,hb I l2 zq zq];simp only[zm,WC.2,hb h1 h2 zq zq];unfold lL;rw[if_neg h]
end
section
variable {G:GS}
def df(c r w:Nat)(Hs:List aQ)(s5 s6 s7 s8 s9 s10 s11 s12 s13:Sl):List Sl:=[.im (.int c),.im (.int r),.im (.int w),.im (.lst (Hs.map hE)),.im (cg (mV (c*r) (ents w Hs))),s5,s6,s7,s8,s9,s10,s11,s12,s13]
noncomputable def BP:IS:=(.g (.b .ne (.ρ .len (.cons (.ix (.v 4) (.v 5)) .nil)) (.L (.int 1))) (.ret J (.tup (.cons (.L (.str "cell")) (.cons (.v 5) .nil)))) .nop)
def kQ(E:List (Int×Pl))(k:Nat):Bool:=!((cm E k).length == 1)
noncomputable def tF(k:Nat):D:=.tup [.str "cell",.int (k:Nat)]
def LG{ls:List (List D)}{k:Nat}{l:List D}(h:ls[k]?=U l):atI (ls.map D.lst) (k:Int)=U (.lst l):=gH (by rw[um,h];rfl)
def aFH{Hs:List aQ}(z:Hok (c*r) Hs):(∀k,(List.range (c*r)).find? (kQ (ents w Hs))=U k->bQ (aX [5] J) (ex G BP) ((List.range (c*r)).map λ(k:Nat)=>D.int k) (df c r w Hs .un .un .un .un .un .un .un .un .un)=U (.rt (tF k))) /\((List.range (c*r)).find? (kQ (ents w Hs))=O->∃B',bQ (aX [5] J) (ex G BP) ((List.range (c*r)).map λ(k:Nat)=>D.int k) (df c r w Hs .un .un .un .un .un .un .un .un .un)=U (.nx B')/\∃s5,B'=df c r w Hs s5 .un .un .un .un .un .un .un .un):=by
 refine eE (enc:=λ(k:Nat)=>D.int k) (λ_ B=>∃s5,B=df c r w Hs s5 .un .un .un .un .un .un .un .un) (kQ (ents w Hs)) tF (k:=0) ⟨_,rfl⟩ ?_;rintro i k B hk ⟨s5,rfl⟩;have hk:=xf.mp (u6 hk);have e1:ev G (.b .ne (.ρ .len (.cons (.ix (.v 4) (.v 5)) .nil)) (.L (.int 1))) (view (df c r w Hs (.im (.int (k:Nat))) .un .un .un .un .un .un .un .un))=U (.bl (kQ (ents w Hs) k)):=by have:=LG (uA (z.ents (w:=w)) hk);unfold df cg;simp only[iA,jA,dW];simp only[zm,this,uo];unfold kQ;congr 3;exact jf (b:=1)
 refine⟨df c r w Hs (.im (.int (k:Nat))) .un .un .un .un .un .un .un .un,rfl,λh=>dA (e1.trans (by rw[h])) (aN rfl),λh=>⟨_,bM (e1.trans (by rw[h])) aR,_,rfl⟩⟩
def ak(E:List (Int×Pl))(k:Nat):Pl:=(cm E k).headD ⟨0,0,0,J,J⟩
def uG{E:List (Int×Pl)}{k:Nat}(h:(cm E k).length=1):cm E k=[ak E k]:=by obtain⟨p,e⟩:=length_eq_one_iff.mp h;unfold ak;rw[e];rfl
def trD(lv:Bool)(p:Pl):D:=.tup [.bl lv,.int (eG lv p:Nat),.int (eg lv p:Nat)]
def b9(sp:Nat->Pl)(j:Nat×Nat×Bool):D:=.tup [.int (j.1:Nat),.int (j.2.1:Nat),trD j.2.2 (sp j.1),.tup [ld (side J j.2.2 (eG j.2.2 (sp j.1)) (sp j.1) (sp j.2.1)),ld (side Y j.2.2 (eG j.2.2 (sp j.1)) (sp j.1) (sp j.2.1))]]
def pY(j:Nat×Nat×Bool):D:=.tup [.str "torn",.int (j.1:Nat),.int (j.2.1:Nat)]
def eV(sp:Nat->Pl)(j:Nat×Nat×Bool):Bool:=!meets j.2.2 (sp j.1) (sp j.2.1)
noncomputable def vX:IS:=(.seq (.set 10 (.ix (.ix (.v 4) (.v 7)) (.L (.int 0)))) (.seq (.set 11 (.ix (.ix (.v 4) (.v 8)) (.L (.int 0)))) (.seq (.g (.not (.tr (.call zc (.cons (.v 10) (.cons (.v 11) (.cons (.v 9) .nil)))))) (.ret J (.tup (.cons (.L (.str "torn")) (.cons (.v 7) (.cons (.v 8) .nil))))) .nop) (.seq (.set 12 (.call y9 (.cons (.v 10) (.cons (.v 9) .nil)))) (.seq (.set 13 (.tup (.cons (.v 9) (.cons (.v 12) (.cons (.ix (.v 10) (.b .sub (.L (.int 1)) (.ρ .int (.cons (.v 9) .nil)))) .nil))))) (.app 6 (.tup (.cons (.v 7) (.cons (.v 8) (.cons (.v 13) (.cons (.call yx (.cons (.v 10) (.cons (.v 11) (.cons (.v 9) (.cons (.v 12) .nil))))) .nil)))))))))))
def aFG{Hs:List aQ}(hO:Hok (c*r) Hs)(dj:∀k,k<c*r->(cm (ents w Hs) k).length=1)(bt:∀j∈L,j.1<c*r/\j.2.1<c*r)(hL:L.length<=1000) (jb:∀(p q:Pl) (lv:Bool),G.fn zc [plD p,plD q,.bl lv]=U (.ok (.bl (meets lv p q)))) (W:∀(p:Pl) (lv:Bool),G.fn y9 [plD p,.bl lv]=U (.ok (.int (eG lv p:Nat)))) (R:∀(p q:Pl) (lv:Bool) (L:Nat),G.fn yx [plD p,plD q,.bl lv,.int (L:Nat)]=U (.ok (.tup [ld (side J lv L p q),ld (side Y lv L p q)]))) {s5:Sl}:(∀j,L.find? (eV (ak (ents w Hs)))=U j->bQ (aX [7,8,9] Y) (ex G vX) (L.map dz) (df c r w Hs s5 (.mu (.lst [])) .un .un .un .un .un .un .un)=U (.rt (pY j))) /\(L.find? (eV (ak (ents w Hs)))=O->∃B',bQ (aX [7,8,9] Y) (ex G vX) (L.map dz) (df c r w Hs s5 (.mu (.lst [])) .un .un .un .un .un .un .un)=U (.nx B')/\∃s7 s8 s9 s10 s11 s12 s13,B'=df c r w Hs s5 (.mu (.lst (L.map (b9 (ak (ents w Hs)))))) s7 s8 s9 s10 s11 s12 s13):=by
 have I:=eE (enc:=dz) (bind:=aX [7,8,9] Y) (body:=ex G vX) (λi B=>∃s7 s8 s9 s10 s11 s12 s13,B=df c r w Hs s5 (.mu (.lst ((L.take i).map (b9 (ak (ents w Hs)))))) s7 s8 s9 s10 s11 s12 s13) (eV (ak (ents w Hs))) pY (L:=L) (k:=0) (B:=df c r w Hs s5 (.mu (.lst [])) .un .un .un .un .un .un .un) ⟨_,_,_,_,_,_,_,rfl⟩ ?_;obtain⟨k1,k2⟩:=I;refine⟨k1,λz=>?_⟩;obtain⟨B',g,h⟩:=k2 z;rw[vo,xh]at h;exact⟨B',g,h⟩;rintro i j B hj ⟨s7,s8,s9,s10,s11,s12,s13,rfl⟩;rw[vo];obtain⟨l1,l2⟩:=bt j (u6 hj);have hi:=(u0.mp hj).1;have ny:∀{k:Nat},k<c*r->atI ((mV (c*r) (ents w Hs)).map D.lst) (k:Int)=U (.lst [plD (ak (ents w Hs) k)]):=λ{k} hk=>by rw[LG (uA (hO.ents (w:=w)) hk),uG (dj k hk)];rfl
 have a0:∀{d:D},atI [d] 0=U d:=λ{_}=>rfl;obtain⟨p,hp⟩:∃p,p=ak (ents w Hs) j.1:=⟨_,rfl⟩;obtain⟨q,hq⟩:∃q,q=ak (ents w Hs) j.2.1:=⟨_,rfl⟩;have m1:=ny l1;have m2:=ny l2;rw[<-hp]at m1;rw[<-hq]at m2;obtain⟨F,hF⟩:∃F,F=(L.take i).map (b9 (ak (ents w Hs))):=⟨_,rfl⟩;have hFl:F.length<=1000:=by rw[hF,uo,w9];lia
 have di:ex G (.set 10 (.ix (.ix (.v 4) (.v 7)) (.L (.int 0)))) (df c r w Hs s5 (.mu (.lst F)) (.im (.int (j.1:Nat))) (.im (.int (j.2.1:Nat))) (.im (.bl j.2.2)) s10 s11 s12 s13)=U (.nx (df c r w Hs s5 (.mu (.lst F)) (.im (.int (j.1:Nat))) (.im (.int (j.2.1:Nat))) (.im (.bl j.2.2)) (.im (plD p)) s11 s12 s13)):=by refine aM (d:=plD p) ?_;unfold df cg;simp only[zm,m1,a0]
 have dt:ex G (.set 11 (.ix (.ix (.v 4) (.v 8)) (.L (.int 0)))) (df c r w Hs s5 (.mu (.lst F)) (.im (.int (j.1:Nat))) (.im (.int (j.2.1:Nat))) (.im (.bl j.2.2)) (.im (plD p)) s11 s12 s13)=U (.nx (df c r w Hs s5 (.mu (.lst F)) (.im (.int (j.1:Nat))) (.im (.int (j.2.1:Nat))) (.im (.bl j.2.2)) (.im (plD p)) (.im (plD q)) s12 s13)):=by refine aM (d:=plD q) ?_;unfold df cg;simp only[zm,m2,a0]
 have p8:ev G (.not (.tr (.call zc (.cons (.v 10) (.cons (.v 11) (.cons (.v 9) .nil)))))) (view (df c r w Hs s5 (.mu (.lst F)) (.im (.int (j.1:Nat))) (.im (.int (j.2.1:Nat))) (.im (.bl j.2.2)) (.im (plD p)) (.im (plD q)) s12 s13))=U (.bl (eV (ak (ents w Hs)) j)):=by unfold df eV;rw[<-hp,<-hq];simp only[iA,jA,dW];simp only[zm,jb,jm]
 refine⟨df c r w Hs s5 (.mu (.lst F)) (.im (.int (j.1:Nat))) (.im (.int (j.2.1:Nat))) (.im (.bl j.2.2)) s10 s11 s12 s13,by rw[hF];rfl,λh=>?_,λh=>?_⟩;exact aA di (aA dt (cJ (dA (p8.trans (by rw[h])) (aN rfl)) λ_ z=>by cases z));refine⟨_,aA di (aA dt (aA (bM (p8.trans (by rw[h])) aR) (aA (aM (d:=.int (eG j.2.2 p:Nat)) ?_) (aA (aM (d:=trD j.2.2 p) ?_) (BD (d:=b9 (ak (ents w Hs)) j) (ds:=F) ?_ rfl ?_))))),.im (.int (j.1:Nat)),.im (.int (j.2.1:Nat)),.im (.bl j.2.2),.im (plD p),.im (plD q),.im (.int (eG j.2.2 p:Nat)),.im (trD j.2.2 p),?_⟩;unfold df;simp only[zm,W];unfold df trD plD eg;simp only[List.set];cases j.2.2<;>simp only[zm]<;>rfl
 unfold df b9;rw[<-hp,<-hq];simp only[List.set];simp only[zm,R];lia;rw[x6,hj,x5,hF];rfl
end
section
variable {G:GS}
def eq3{a b:Bool}{j k m:Int}:af .eq (.tup [.bl a,.int i,.int k]) (.tup [.bl b,.int j,.int m])=U (.bl ((a == b)&&((i == j)&&(k == m)))):=by show (if (plain (.tup [.bl a,.int i,.int k])&&plain (.tup [.bl b,.int j,.int m]))=Y then U (D.bl (cu (.tup [.bl a,.int i,.int k]) (.tup [.bl b,.int j,.int m]))) else O)=_;rw[if_pos (show (plain (.tup [.bl a,.int i,.int k])&&plain (.tup [.bl b,.int j,.int m]))=Y from rfl)];simp only[cu,kP,Bool.and_true]
def wR{p q:Pl}(h:meets lv p q=Y):(side J lv (eG lv p) p q).length+(side Y lv (eG lv p) p q).length=2:=by obtain⟨x,y,l,e,n⟩:=p;obtain⟨x',y',l',e',z⟩:=q;unfold meets at h;rw[uz,vz]at h;obtain⟨_,h⟩:=h;unfold side eG bx;unfold eG iW at h;cases lv<;>cases e<;>cases n<;>cases e'<;>cases z<;>simp at h ⊢<;>(repeat' split)<;>simp<;>lia
def sI(sp:Nat->Pl)(a b:Nat×Nat×Bool):Bool:=(a.2.2 == b.2.2)&&((eG a.2.2 (sp a.1) == eG b.2.2 (sp b.1))&&(eg a.2.2 (sp a.1) == eg b.2.2 (sp b.1)))
def lay(b:Bool)(sp:Nat->Pl)(j:Nat×Nat×Bool):List Int:=side b j.2.2 (eG j.2.2 (sp j.1)) (sp j.1) (sp j.2.1)
def lG(sp:Nat->Pl)(a b:Nat×Nat×Bool):Bool:=sI sp a b&&lL (lay J sp a) (lay Y sp a) (lay J sp b) (lay Y sp b)
noncomputable def vV(a b:Nat×Nat×Bool):D:=.tup [.str "crossed",.int (a.1:Nat),.int (a.2.1:Nat),.int (b.1:Nat),.int (b.2.1:Nat)]
noncomputable def BO:IS:=(.g (.and (.b .eq (.ix (.ixm 6 (.v 5)) (.L (.int 2))) (.ix (.v 11) (.L (.int 2)))) (.tr (.call yc (.cons (.ix (.ixm 6 (.v 5)) (.L (.int 3))) (.cons (.ix (.v 11) (.L (.int 3))) .nil))))) (.ret J (.tup (.cons (.L (.str "crossed")) (.cons (.ix (.ixm 6 (.v 5)) (.L (.int 0))) (.cons (.ix (.ixm 6 (.v 5)) (.L (.int 1))) (.cons (.ix (.v 11) (.L (.int 0))) (.cons (.ix (.v 11) (.L (.int 1))) .nil))))))) .nop)
def AN:IS:=(.loop [11] J .seq (.slm 6 Y (.b .add (.v 5) (.L (.int 1))) J (.L .non)) BO)
def t9{a b c d:D}:atI [a,b,c,d] 0=U a/\atI [a,b,c,d] 1=U b/\atI [a,b,c,d] 2=U c/\atI [a,b,c,d] 3=U d:=⟨rfl,rfl,rfl,rfl⟩
def aEy{Hs:List aQ}{sp:Nat->Pl}(R:∀j∈L,meets j.2.2 (sp j.1) (sp j.2.1)=Y)(W:∀z h1 l2 h2:List Int,z.length+h1.length=2->l2.length+h2.length=2->G.fn yc [.tup [ld z,ld h1],.tup [ld l2,ld h2]]=U (.ok (.bl (lL z h1 l2 h2)))){k:Nat}{a:Nat×Nat×Bool}(ha:L[k]?=U a){s7 s8 s9 s10 s11 s12 s13:Sl}:(∀b,(L.drop (k+1)).find? (lG sp a)=U b->bQ (aX [11] J) (ex G BO) ((L.drop (k+1)).map (b9 sp)) (df c r w Hs (.im (.int (k:Nat))) (.mu (.lst (L.map (b9 sp)))) s7 s8 s9 s10 s11 s12 s13)=U (.rt (vV a b))) /\((L.drop (k+1)).find? (lG sp a)=O->∃B',bQ (aX [11] J) (ex G BO) ((L.drop (k+1)).map (b9 sp)) (df c r w Hs (.im (.int (k:Nat))) (.mu (.lst (L.map (b9 sp)))) s7 s8 s9 s10 s11 s12 s13)=U (.nx B')/\∃s11,B'=df c r w Hs (.im (.int (k:Nat))) (.mu (.lst (L.map (b9 sp)))) s7 s8 s9 s10 s11 s12 s13):=by
 refine eE (enc:=b9 sp) (λ_ B=>∃s11,B=df c r w Hs (.im (.int (k:Nat))) (.mu (.lst (L.map (b9 sp)))) s7 s8 s9 s10 s11 s12 s13) (lG sp a) (vV a) (k:=0) ⟨_,rfl⟩ ?_;rintro i b B hb ⟨s11,rfl⟩;have mb:=mem_of_mem_drop (u6 hb);have ma:=u6 ha;have ea:atI (L.map (b9 sp)) (k:Int)=U (b9 sp a):=gH (by rw[um,ha];rfl);have ix:∀{B:List Sl},fH B 6=U (L.map (b9 sp))->slot B 5=U (.int (k:Nat))->ev G (.ixm 6 (.v 5)) B=U (b9 sp a):=λ{B} e1 e2=>by rw[OK,e1,bW,e2];exact ea
 have sa:(lay J sp a).length+(lay Y sp a).length=2:=wR (R a ma);have sb:(lay J sp b).length+(lay Y sp b).length=2:=wR (R b mb);have I:ev G (.and (.b .eq (.ix (.ixm 6 (.v 5)) (.L (.int 2))) (.ix (.v 11) (.L (.int 2)))) (.tr (.call yc (.cons (.ix (.ixm 6 (.v 5)) (.L (.int 3))) (.cons (.ix (.v 11) (.L (.int 3))) .nil))))) (view (df c r w Hs (.im (.int (k:Nat))) (.mu (.lst (L.map (b9 sp)))) s7 s8 s9 s10 (.im (b9 sp b)) s12 s13))=U (.bl (lG sp a b)):=by refine bJ (x:=sI sp a b) (y:=lL (lay J sp a) (lay Y sp a) (lay J sp b) (lay Y sp b)) ?_ λ_=>?_;rw[aV,kR,ix rfl rfl,kR];show af .eq (trD a.2.2 (sp a.1)) (trD b.2.2 (sp b.1))=_;unfold trD sI;rw[eq3,jf,jf];rw[mD,bR,aJ,kR,ix rfl rfl,aJ,kR];show (bZ (G.fn yc [.tup [ld (lay J sp a),ld (lay Y sp a)],.tup [ld (lay J sp b),ld (lay Y sp b)]])).bind (λx=>(fj x).map D.bl)=_;rw[W _ _ _ _ sa sb];cases lL (lay J sp a) (lay Y sp a) (lay J sp b) (lay Y sp b)<;>rfl
 refine⟨df c r w Hs (.im (.int (k:Nat))) (.mu (.lst (L.map (b9 sp)))) s7 s8 s9 s10 (.im (b9 sp b)) s12 s13,rfl,λh=>dA (I.trans (by rw[h])) (aN ?_),λh=>⟨_,bM (I.trans (by rw[h])) aR,_,rfl⟩⟩;rw[fP,aJ,aJ,kR,ix rfl rfl,aJ,kR,ix rfl rfl];rfl
def mI{α:Type}{xs:List α}:cut xs (U (n:Int)) O=xs.drop n:=by
 have e:sIx xs.length 0 (U (n:Int))=min n xs.length:=by show (if (n:Int)<0 then((n:Int)+(xs.length:Int)).toNat else min (n:Int).toNat xs.length)=_;rw[if_neg zq,toNat_natCast]
 unfold cut;rw[e];show (xs.drop (min n xs.length)).take (xs.length-min n xs.length)=_;by_cases h:n<=xs.length;rw[Nat.min_eq_left h,take_of_length_le (by rw[xj];lia)];rw[Nat.min_eq_right zq,Nat.sub_self,take_zero,List.drop_eq_nil_of_le zq]
noncomputable def kl:Nat×Nat×Bool:=(0,0,J)
def eI(sp:Nat->Pl)(L:List (Nat×Nat×Bool))(k:Nat):Option D:=((L.drop (k+1)).find? (lG sp (L.getD k kl))).map (vV (L.getD k kl))
def aFF{Hs:List aQ}{sp:Nat->Pl}(hL:L.length<=1000)(ot:∀j∈L,meets j.2.2 (sp j.1) (sp j.2.1)=Y)(W:∀I h1 l2 h2:List Int,I.length+h1.length=2->l2.length+h2.length=2->G.fn yc [.tup [ld I,ld h1],.tup [ld l2,ld h2]]=U (.ok (.bl (lL I h1 l2 h2)))){s5 s7 s8 s9 s10 s11 s12 s13:Sl}:(∀d,(List.range L.length).findSome? (eI sp L)=U d->bQ (aX [5] J) (ex G AN) ((List.range L.length).map λ(k:Nat)=>D.int k) (df c r w Hs s5 (.mu (.lst (L.map (b9 sp)))) s7 s8 s9 s10 s11 s12 s13)=U (.rt d)) /\((List.range L.length).findSome? (eI sp L)=O->∃B',bQ (aX [5] J) (ex G AN) ((List.range L.length).map λ(k:Nat)=>D.int k) (df c r w Hs s5 (.mu (.lst (L.map (b9 sp)))) s7 s8 s9 s10 s11 s12 s13)=U (.nx B')/\∃s5 s11,B'=df c r w Hs s5 (.mu (.lst (L.map (b9 sp)))) s7 s8 s9 s10 s11 s12 s13):=by
 refine lD (enc:=λ(k:Nat)=>D.int k) (λB=>∃s5 s11,B=df c r w Hs s5 (.mu (.lst (L.map (b9 sp)))) s7 s8 s9 s10 s11 s12 s13) (eI sp L) ⟨_,_,rfl⟩ ?_;rintro k hk B ⟨s5,s11,rfl⟩;have hk:=xf.mp hk;obtain⟨a,ha⟩:∃a,L[k]?=U a:=⟨L[k],uk hk⟩;have hg:L.getD k kl=a:=getD_some ha;obtain⟨g1,g2⟩:=aEy (G:=G) (c:=c) (r:=r) (w:=w) (Hs:=Hs) ot W ha (s7:=s7) (s8:=s8) (s9:=s9) (s10:=s10) (s11:=s11) (s12:=s12) (s13:=s13);have src:ev G (.slm 6 Y (.b .add (.v 5) (.L (.int 1))) J (.L .non)) (df c r w Hs (.im (.int (k:Nat))) (.mu (.lst (L.map (b9 sp)))) s7 s8 s9 s10 s11 s12 s13)=U (.lst ((L.drop (k+1)).map (b9 sp))):=by show U (D.lst (cut (L.map (b9 sp)) (U ((k:Int)+1)) O))=_;rw[show ((k:Int)+1)=((k+1:Nat):Int) from rfl,mI,map_drop]
 refine⟨df c r w Hs (.im (.int (k:Nat))) (.mu (.lst (L.map (b9 sp)))) s7 s8 s9 s10 s11 s12 s13,rfl,λd h=>?_,λh=>?_⟩;unfold eI at h;rw[hg]at h;obtain⟨b,hb,rfl⟩:=v9.mp h;exact(bI src dU).trans (g1 b hb);unfold eI at h;rw[hg]at h;obtain⟨B',z,R,rfl⟩:=g2 (Option.map_eq_none_iff.mp h);exact⟨_,(bI src dU).trans z,_,_,rfl⟩
def MB:IS:=(.seq (.set 4 (.call yi (.cons (.b .mul (.v 0) (.v 1)) (.cons (.v 2) (.cons (.v 3) .nil))))) (.seq (.loop [5] J .rng (.tup (.cons (.b .mul (.v 0) (.v 1)) .nil)) BP) (.seq (.setm 6 (.lst .nil)) (.seq (.loop [7,8,9] Y .seq (.call za (.cons (.v 0) (.cons (.v 1) .nil))) vX) (.seq (.loop [5] J .rng (.tup (.cons (.lenm 6) .nil)) AN) (.ret J (.L .non)))))))
def vT(c r w:Nat)(Hs:List aQ)(L:List (Nat×Nat×Bool)):D:=match (List.range (c*r)).find? (kQ (ents w Hs)) with
 |some k=>tF k
 |none=>match L.find? (eV (ak (ents w Hs))) with
  |some j=>pY j
  |none=>((List.range L.length).findSome? (eI (ak (ents w Hs)) L)).getD .non
def aBX{Hs:List aQ}(fz:c*r<=64)(hc:c<=64)(hO:Hok (c*r) Hs)(bt:∀j∈L,j.1<c*r/\j.2.1<c*r)(hL:L.length<=1000) (W:G.fn yi [.int ((c*r:Nat):Int),.int w,.lst (Hs.map hE)]=U (.ok (cg (mV (c*r) (ents w Hs))))) (hnr:G.fn za [.int c,.int r]=U (.ok (.lst (L.map dz)))) (jb:∀(p q:Pl) (lv:Bool),G.fn zc [plD p,plD q,.bl lv]=U (.ok (.bl (meets lv p q)))) (hli:∀(p:Pl) (lv:Bool),G.fn y9 [plD p,.bl lv]=U (.ok (.int (eG lv p:Nat)))) (hpa:∀(p q:Pl) (lv:Bool) (L:Nat),G.fn yx [plD p,plD q,.bl lv,.int (L:Nat)]=U (.ok (.tup [ld (side J lv L p q),ld (side Y lv L p q)]))) (qr:∀R h1 l2 h2:List Int,R.length+h1.length=2->l2.length+h2.length=2->G.fn yc [.tup [ld R,ld h1],.tup [ld l2,ld h2]]=U (.ok (.bl (lL R h1 l2 h2)))):bL G 14 MB [.int c,.int r,.int w,.lst (Hs.map hE)]=U (.ok (vT c r w Hs L)):=by
 obtain⟨a1,a2⟩:=aFH (G:=G) (c:=c) (r:=r) (w:=w) hO;have mul:af .mul (.int (c:Int)) (.int (r:Int))=U (.int ((c*r:Nat):Int)):=eR zq;have f4:ex G (.set 4 (.call yi (.cons (.b .mul (.v 0) (.v 1)) (.cons (.v 2) (.cons (.v 3) .nil))))) [.im (.int c),.im (.int r),.im (.int w),.im (.lst (Hs.map hE)),.un,.un,.un,.un,.un,.un,.un,.un,.un,.un]=U (.nx (df c r w Hs .un .un .un .un .un .un .un .un .un)):=by refine aM (d:=cg (mV (c*r) (ents w Hs))) ?_;simp only[zm,mul,W]
 have s5:∀{s:Sl},ev G (.tup (.cons (.b .mul (.v 0) (.v 1)) .nil)) (df c r w Hs s .un .un .un .un .un .un .un .un)=U (.tup [.int ((c*r:Nat):Int)]):=λ{s}=>by unfold df;simp only[zm,mul]
 refine aL (B:=[.im (.int c),.im (.int r),.im (.int w),.im (.lst (Hs.map hE)),.un,.un,.un,.un,.un,.un,.un,.un,.un,.un]) rfl (aA f4 ?_);unfold vT;cases h1:(List.range (c*r)).find? (kQ (ents w Hs)) with
 |some k=>exact cJ ((bI s5 (cX zq)).trans (a1 k h1)) λ_ z=>by cases z
 |none=>
  obtain⟨B',g1,I,rfl⟩:=a2 h1;have dj:∀k,k<c*r->(cm (ents w Hs) k).length=1:=λk hk=>by have:=find?_eq_none.mp h1 k (xf.mpr hk);unfold kQ at this;simpa using this
  refine aA ((bI s5 (cX zq)).trans g1) ?_;refine aA (B':=df c r w Hs I (.mu (.lst [])) .un .un .un .un .un .un .un) ?_ ?_;exact kG (ds:=[]) rfl;obtain⟨b1,b2⟩:=aFG (G:=G) hO dj bt hL jb hli hpa (s5:=I);have n7:ev G (.call za (.cons (.v 0) (.cons (.v 1) .nil))) (df c r w Hs I (.mu (.lst [])) .un .un .un .un .un .un .un)=U (.lst (L.map dz)):=by unfold df;simp only[zm,hnr]
  cases h2:L.find? (eV (ak (ents w Hs))) with
  |some j=>exact cJ ((bI n7 dU).trans (b1 j h2)) λ_ z=>by cases z
  |none=>
   obtain⟨B',g2,s7,s8,s9,s10,s11,s12,s13,rfl⟩:=b2 h2;refine aA ((bI n7 dU).trans g2) ?_;have ot:∀j∈L,meets j.2.2 (ak (ents w Hs) j.1) (ak (ents w Hs) j.2.1)=Y:=λj mj=>by have:=find?_eq_none.mp h2 j mj;unfold eV at this;simpa using this
   obtain⟨c1,c2⟩:=aFF (G:=G) (c:=c) (r:=r) (w:=w) (Hs:=Hs) hL ot qr (s5:=I) (s7:=s7) (s8:=s8) (s9:=s9) (s10:=s10) (s11:=s11) (s12:=s12) (s13:=s13);have l6:ev G (.tup (.cons (.lenm 6) .nil)) (df c r w Hs I (.mu (.lst (L.map (b9 (ak (ents w Hs)))))) s7 s8 s9 s10 s11 s12 s13)=U (.tup [.int ((L.length:Nat):Int)]):=by show U (D.tup [.int (((L.map (b9 (ak (ents w Hs)))).length:Nat):Int)])=_;rw[uo]
   cases h3:(List.range L.length).findSome? (eI (ak (ents w Hs)) L) with
   |some d=>exact cJ ((bI l6 (cX zq)).trans (c1 d h3)) λ_ z=>by cases z
   |none=>obtain⟨B',g3,u5,u11,rfl⟩:=c2 h3;exact aA ((bI l6 (cX zq)).trans g3) (aN rfl)
end
section
variable {G:GS}
noncomputable def DV:IS:=(.g (.not (.tr (.call yt (.cons (.v 2) .nil)))) (.ret J (.L (.bl J))) .nop)
def kD:IS:=(.seq (.g (.or (.b .is (.v 1) (.L .non)) (.or (.not (.tr (.y (.v 0) "tuple"))) (.b .ne (.ρ .len (.cons (.v 0) .nil)) (.ρ .len (.cons (.v 1) .nil))))) (.ret J (.and (.b .is (.v 1) (.L .non)) (.b .is (.v 0) (.L .non)))) .nop) (.seq (.loop [2] J .seq (.sl (.v 0) Y (.L (.int 1)) J (.L .non)) DV) (.ret J (.and (.y (.ix (.v 0) (.L (.int 0))) "str") (.b .eq (.v 0) (.v 1))))))
def HD:bL G 3 kD [.non,.non]=U (.ok (.bl Y)):=aL (B:=[.im .non,.im .non,.un]) rfl (cJ (dA (lF (x:=Y) (y:=Y) rfl λz=>by cases z) (aN (bJ (x:=Y) (y:=Y) rfl λ_=>rfl))) λ_ z=>by cases z)
def eq_self{d:D}(h1:plain d=Y)(h2:cu d d=Y):af .eq d d=U (.bl Y):=by show (if plain d&&plain d then U (D.bl (cu d d)) else O)=_;rw[if_pos (by rw[h1];rfl),h2]
def HC(hw:∀i:Int,G.fn yt [.int i]=U (.ok (.bl Y))){is:List Int}(h1:plain (.tup (.str x::is.map .int))=Y)(h2:cu (.tup (.str x::is.map .int)) (.tup (.str x::is.map .int))=Y):bL G 3 kD [.tup (.str x::is.map .int),.tup (.str x::is.map .int)]=U (.ok (.bl Y)):=by obtain⟨d,hd⟩:∃d,d=D.tup (.str x::is.map .int):=⟨_,rfl⟩;obtain⟨B',g,s2,rfl⟩:=GI (bind:=aX [2] J) (body:=ex G DV) (λB=>∃s2,B=[.im d,.im d,s2]) (ds:=is.map .int) (B:=[.im d,.im d,.un]) ⟨_,rfl⟩ (by rintro e he B ⟨s2,rfl⟩;obtain⟨i,_,rfl⟩:=w4.mp he;refine⟨[.im d,.im d,.im (.int i)],rfl,_,bM ?_ aR,_,rfl⟩;simp only[iA,jA,dW];simp only[zm,hw,jm];rfl);rw[<-hd]at h1 h2 ⊢;refine aL (B:=[.im d,.im d,.un]) rfl (aA (bM ?_ aR) (aA ((bI (d:=.tup (is.map .int)) ?_ rfl).trans g) (aN ?_)));refine lF (x:=J) (y:=J) (by rw[hd];rfl) λ_=>lF (x:=J) (y:=J) (by rw[hd];rfl) λ_=>?_;rw[hd];simp only[iA,jA,dW];simp only[zm,beq_self_eq_true,vq];rw[hd];show (if sIx (D.str x::is.map D.int).length 0 (U ((1:Nat):Int))=0/\sIx (D.str x::is.map D.int).length (D.str x::is.map D.int).length O=(D.str x::is.map D.int).length then O else U (D.tup (cut (D.str x::is.map D.int) (U ((1:Nat):Int)) O)))=_;rw[if_neg,mI];rfl;rintro⟨z,_⟩;unfold sIx at z;simp at z;refine bJ (x:=Y) (y:=Y) ?_ λ_=>eq_self h1 h2;have a0:atI (D.str x::is.map D.int) 0=U (.str x):=gH (k:=0) rfl;rw[hd];simp only[zm,a0];rfl
end
def k8(t:Bool)(x y:Bool)(l m:Int):List Int:=(if x == t then [l] else [])++(if y == t then [m] else [])
def oe(x:Bool)(l m:Int)(z:Bool)(n:Int):Bool:=(z == x)&&inB n l m
def crB(x y:Bool)(l m:Int)(x' y':Bool)(l' z:Int):Bool:=
 if x == y then !(oe x l m x' l' == oe x l m y' z)
 else if x' == y' then !(oe x' l' z x l == oe x' l' z y m)
 else if x == x' then !(decide (l<l') == decide (m<z)) else !(decide (l<z) == decide (m<l'))
def pL{a b:Int}(h:a≠b):decide (b<a)=!decide (a<b):=by by_cases k:a<b;rw[vy k,uu zq];rfl;rw[uu k,vy zq];rfl
def BJ{x y:Bool}{l m z:Int}(d1:x=x'->l≠l')(W:x=y'->l≠z)(R:y=x'->m≠l')(I:y=y'->m≠z):crB x y l m x' y' l' z=lL (k8 J x y l m) (k8 Y x y l m) (k8 J x' y' l' z) (k8 Y x' y' l' z):=by
 cases x<;>cases y<;>cases x'<;>cases y'<;>simp[crB,oe,lL,k8,bnd]<;>first|done|skip
 all_goals first
  | (rw[pL (I rfl)];cases decide (l<l')<;>cases decide (m<z)<;>rfl)
  | (rw[pL (R rfl)];cases decide (l<z)<;>cases decide (m<l')<;>rfl)
  | (rw[pL (d1 rfl)];cases decide (l<l')<;>cases decide (m<z)<;>rfl)
  | (rw[pL (W rfl)];cases decide (l<z)<;>cases decide (m<l')<;>rfl)
  | (generalize inB _ _ _=u;generalize inB _ _ _=v;cases u<;>cases v<;>rfl)
  | (generalize inB _ _ _=u;cases u<;>rfl)
def oSp(p:Nat)(a:Bool)(q:Nat)(b:Bool)(l:Int):D:=.obj "Spot" [("place",.int p),("turned",.bl a),("lane",.int q),("slanted",.bl b),("depth",.int l)]
noncomputable def oSt(a b:Int)(u v t:D):D:=.obj "Strand" [("first",.int a),("second",.int b),("here",u),("there",v),("track",t)]
noncomputable def aCH:List Str:=["place","turned","lane","slanted","depth"]
noncomputable def ZY:List Str:=["first","second","here","there","track"]
noncomputable def DE:IS:=(.ret J (.q (.tr (.fld (.v 0) "turned")) (.fld (.v 0) "place") (.b .add (.fld (.v 0) "place") (.L (.int 1)))))
noncomputable def pN:IS:=(.ret J (.q (.tr (.fld (.v 0) "turned")) (.b .add (.fld (.v 0) "place") (.L (.int 1))) (.fld (.v 0) "place")))
noncomputable def uV:IS:=(.seq (.g (.or (.b .ne (.fld (.fld (.v 0) "here") "lane") (.fld (.fld (.v 0) "there") "lane")) (.b .ne (.fld (.fld (.v 0) "here") "slanted") (.fld (.fld (.v 0) "there") "slanted"))) (.ret J (.L (.bl Y))) .nop) (.ret J (.b .ne (.meth (.fld (.v 0) "here") zg .nil) (.meth (.fld (.v 0) "there") ze .nil))))
noncomputable def vC:IS:=(.ret J (.b .eq (.fld (.fld (.v 0) "here") "place") (.fld (.fld (.v 0) "there") "place")))
noncomputable def qQ:IS:=(.seq (.g (.b .ne (.fld (.v 1) "place") (.fld (.fld (.v 0) "here") "place")) (.ret J (.L (.bl J))) .nop) (.seq (.set 2 (.ρ .min (.cons (.fld (.fld (.v 0) "here") "depth") (.cons (.fld (.fld (.v 0) "there") "depth") .nil)))) (.seq (.set 3 (.ρ .max (.cons (.fld (.fld (.v 0) "here") "depth") (.cons (.fld (.fld (.v 0) "there") "depth") .nil)))) (.ret J (.h .lt .lt (.v 2) (.fld (.v 1) "depth") (.v 3))))))
noncomputable def nM:IS:=(.ret J (.b .ne (.call zd (.cons (.v 0) (.cons (.fld (.v 1) "here") .nil))) (.call zd (.cons (.v 0) (.cons (.fld (.v 1) "there") .nil)))))
noncomputable def nP:IS:=(.seq (.set 2 (.fld (.v 1) "here")) (.seq (.set 3 (.fld (.v 1) "there")) (.seq (.g (.b .ne (.fld (.fld (.v 0) "here") "place") (.fld (.fld (.v 1) "here") "place")) (.seq (.set 2 (.fld (.v 1) "there")) (.set 3 (.fld (.v 1) "here"))) .nop) (.ret J (.b .ne (.b .lt (.fld (.fld (.v 0) "here") "depth") (.fld (.v 2) "depth")) (.b .lt (.fld (.fld (.v 0) "there") "depth") (.fld (.v 3) "depth")))))))
noncomputable def vA:IS:=(.seq (.g (.tr (.meth (.v 0) zh .nil)) (.ret J (.call yq (.cons (.v 0) (.cons (.v 1) .nil)))) .nop) (.seq (.g (.tr (.meth (.v 1) zh .nil)) (.ret J (.call yq (.cons (.v 1) (.cons (.v 0) .nil)))) .nop) (.ret J (.call yb (.cons (.v 0) (.cons (.v 1) .nil))))))
section
variable {G:GS}(hS:G.fl "Spot"=aCH)(hT:G.fl "Strand"=ZY)
section
variable {B:List Sl}{e:IE}{p q:Nat}{a b:Bool}{l:Int}(h:ev G e B=U (oSp p a q b l))
include hS h
def fG:ev G (.fld e "place") B=U (.int p):=by rw[gF,h];show (if (G.fl "Spot").contains _ then _ else _)=_;rw[hS];rfl
def sF:ev G (.fld e "turned") B=U (.bl a):=by rw[gF,h];show (if (G.fl "Spot").contains _ then _ else _)=_;rw[hS];rfl
def tU:ev G (.fld e "lane") B=U (.int q):=by rw[gF,h];show (if (G.fl "Spot").contains _ then _ else _)=_;rw[hS];rfl
def qC:ev G (.fld e "slanted") B=U (.bl b):=by rw[gF,h];show (if (G.fl "Spot").contains _ then _ else _)=_;rw[hS];rfl
def eO:ev G (.fld e "depth") B=U (.int l):=by rw[gF,h];show (if (G.fl "Spot").contains _ then _ else _)=_;rw[hS];rfl
end
section
variable {B:List Sl}{e:IE}{a b:Int}{u v t:D}(h:ev G e B=U (oSt a b u v t))
include hT h
def qB:ev G (.fld e "first") B=U (.int a):=by rw[gF,h];show (if (G.fl "Strand").contains _ then _ else _)=_;rw[hT];rfl
def mR:ev G (.fld e "second") B=U (.int b):=by rw[gF,h];show (if (G.fl "Strand").contains _ then _ else _)=_;rw[hT];rfl
def eN:ev G (.fld e "here") B=U u:=by rw[gF,h];show (if (G.fl "Strand").contains _ then _ else _)=_;rw[hT];rfl
def fF:ev G (.fld e "there") B=U v:=by rw[gF,h];show (if (G.fl "Strand").contains _ then _ else _)=_;rw[hT];rfl
def wJ:ev G (.fld e "track") B=U t:=by rw[gF,h];show (if (G.fl "Strand").contains _ then _ else _)=_;rw[hT];rfl
end
def tT{B:List Sl}{e:IE}{p q:Nat}{a b:Bool}{l:Int}{m:Str}{d:D}(hm:([("place",D.int p),("turned",.bl a),("lane",.int q),("slanted",.bl b),("depth",.int l)]:List (Str×D)).lookup m=O)(h:ev G e B=U (oSp p a q b l))(o:G.me "Spot" m [oSp p a q b l]=U (.ok d)):ev G (.meth e m .nil) B=U d:=by rw[vN,h];show (if (List.lookup m _).isNone=Y then _ else _)=_;rw[hm];show bZ (G.me "Spot" m [oSp p a q b l])=_;rw[o];rfl
def tS{B:List Sl}{e:IE}{a b:Int}{u v t:D}{m:Str}{d:D}(hm:([("first",D.int a),("second",.int b),("here",u),("there",v),("track",t)]:List (Str×D)).lookup m=O)(h:ev G e B=U (oSt a b u v t))(o:G.me "Strand" m [oSt a b u v t]=U (.ok d)):ev G (.meth e m .nil) B=U d:=by rw[vN,h];show (if (List.lookup m _).isNone=Y then _ else _)=_;rw[hm];show bZ (G.me "Strand" m [oSt a b u v t])=_;rw[o];rfl
include hS in
def aBI{p q:Nat}{a b:Bool}{l:Int}:bL G 1 DE [oSp p a q b l]=U (.ok (.int ((if a then p else p+1:Nat):Int))):=by have e:ev G (.v 0) [.im (oSp p a q b l)]=U (oSp p a q b l):=rfl;refine aL (B:=[.im (oSp p a q b l)]) rfl (aN ?_);rw[vO,mD,sF hS e,aV,fG hS e];cases a<;>rfl
include hS in
def KS{p q:Nat}{a b:Bool}{l:Int}:bL G 1 pN [oSp p a q b l]=U (.ok (.int ((if a then p+1 else p:Nat):Int))):=by have e:ev G (.v 0) [.im (oSp p a q b l)]=U (oSp p a q b l):=rfl;refine aL (B:=[.im (oSp p a q b l)]) rfl (aN ?_);rw[vO,mD,sF hS e,aV,fG hS e];cases a<;>rfl
include hS hT in
def VY{a b:Int}{p q:Nat}{x y:Bool}{l:Int}{t:D}:bL G 1 vC [oSt a b (oSp p x q y l) (oSp p' x' q' y' l') t]=U (.ok (.bl ((p:Int) == p'))):=by have e:ev G (.v 0) [.im (oSt a b (oSp p x q y l) (oSp p' x' q' y' l') t)]=U (oSt a b (oSp p x q y l) (oSp p' x' q' y' l') t):=rfl;refine aL (B:=[.im (oSt a b (oSp p x q y l) (oSp p' x' q' y' l') t)]) rfl (aN ?_);rw[aV,fG hS (eN hT e),fG hS (fF hT e)];exact aAZ
include hS hT in
def EF{a b:Int}{p q p2 q2:Nat}{x y x2 y2:Bool}{l:Int}{t:D}:bL G 4 qQ [oSt a b (oSp p x q y l) (oSp p' x' q' y' l') t,oSp p2 x2 q2 y2 l2]=U (.ok (.bl (((p2:Int) == p)&&inB l2 l l'))):=by
 have e:∀r,ev G (.v 0) (.im (oSt a b (oSp p x q y l) (oSp p' x' q' y' l') t)::r)=U (oSt a b (oSp p x q y l) (oSp p' x' q' y' l') t):=λ_=>rfl;have e2:∀s r,ev G (.v 1) (s::.im (oSp p2 x2 q2 y2 l2)::r)=U (oSp p2 x2 q2 y2 l2):=λ_ _=>rfl;have c:∀z:Bool,(!((p2:Int) == p))=z->ev G (.b .ne (.fld (.v 1) "place") (.fld (.fld (.v 0) "here") "place")) [.im (oSt a b (oSp p x q y l) (oSp p' x' q' y' l') t),.im (oSp p2 x2 q2 y2 l2),.un,.un]=U (.bl z):=λz h=>by rw[aV,fG hS (e2 _ _),fG hS (eN hT (e _)),<-h];exact UF
 cases h:(p2:Int) == p with
 |false=>exact aL (B:=[.im (oSt a b (oSp p x q y l) (oSp p' x' q' y' l') t),.im (oSp p2 x2 q2 y2 l2),.un,.un]) rfl (cJ (dA (c Y (by rw[h];rfl)) (aN rfl)) λ_ z=>nomatch z)
 |true=>refine aL (B:=[.im (oSt a b (oSp p x q y l) (oSp p' x' q' y' l') t),.im (oSp p2 x2 q2 y2 l2),.un,.un]) rfl (aA (bM (c J (by rw[h];rfl)) aR) (aA (aM (d:=.int (if l'<l then l' else l)) ?_) (aA (aM (d:=.int (if l' > l then l' else l)) ?_) (aN ?_))));rw[dN,aJ,eO hS (eN hT (e _)),aJ,eO hS (fF hT (e _))];rfl;simp only[List.set];rw[dN,aJ,eO hS (eN hT (e _)),aJ,eO hS (fF hT (e _))];rfl;simp only[List.set];rw[rC,eO hS (e2 _ _)];unfold inB;show (match D.bl (decide ((if l'<l then l' else l)<l2)) with | .bl Y=>U (D.bl (decide (l2<(if l' > l then l' else l)))) | .bl J=>U (.bl J)|_=>O)=_;cases decide ((if l'<l then l' else l)<l2)<;>rfl
include hS hT
section
variable {a b a2 b2:Int}{p q p' q' p2 q2 p3 q3:Nat}{x y x' y' x2 y2 x3 y3:Bool}{l l' l2 l3:Int}{t t2:D}
omit hS in
def zW(hw:∀(a b:Int) (p q p' q' p2 q2:Nat) (x y x' y' x2 y2:Bool) (l l' l2:Int) (t:D),G.fn zd [oSt a b (oSp p x q y l) (oSp p' x' q' y' l') t,oSp p2 x2 q2 y2 l2]=U (.ok (.bl (((p2:Int) == p)&&inB l2 l l')))):bL G 2 nM [oSt a b (oSp p x q y l) (oSp p' x' q' y' l') t,oSt a2 b2 (oSp p2 x2 q2 y2 l2) (oSp p3 x3 q3 y3 l3) t2]=U (.ok (.bl (!((((p2:Int) == p)&&inB l2 l l') == (((p3:Int) == p)&&inB l3 l l'))))):=by have e:ev G (.v 1) [.im (oSt a b (oSp p x q y l) (oSp p' x' q' y' l') t),.im (oSt a2 b2 (oSp p2 x2 q2 y2 l2) (oSp p3 x3 q3 y3 l3) t2)]=U (oSt a2 b2 (oSp p2 x2 q2 y2 l2) (oSp p3 x3 q3 y3 l3) t2):=rfl;refine aL (B:=[.im (oSt a b (oSp p x q y l) (oSp p' x' q' y' l') t),.im (oSt a2 b2 (oSp p2 x2 q2 y2 l2) (oSp p3 x3 q3 y3 l3) t2)]) rfl (aN ?_);rw[aV,bR,aJ,aJ,eN hT e,bR,aJ,aJ,fF hT e];show (bZ (G.fn zd [oSt a b (oSp p x q y l) (oSp p' x' q' y' l') t,oSp p2 x2 q2 y2 l2])).bind (λu=>(bZ (G.fn zd [oSt a b (oSp p x q y l) (oSp p' x' q' y' l') t,oSp p3 x3 q3 y3 l3])).bind λv=>af .ne u v)=_;rw[hw,hw];rfl
def BL:bL G 4 nP [oSt a b (oSp p x q y l) (oSp p' x' q' y' l') t,oSt a2 b2 (oSp p2 x2 q2 y2 l2) (oSp p3 x3 q3 y3 l3) t2]=U (.ok (.bl (if (p:Int) == p2 then !(decide (l<l2) == decide (l'<l3)) else !(decide (l<l3) == decide (l'<l2))))):=by
 have e:∀r,ev G (.v 0) (.im (oSt a b (oSp p x q y l) (oSp p' x' q' y' l') t)::r)=U (oSt a b (oSp p x q y l) (oSp p' x' q' y' l') t):=λ_=>rfl;have e2:∀s r,ev G (.v 1) (s::.im (oSt a2 b2 (oSp p2 x2 q2 y2 l2) (oSp p3 x3 q3 y3 l3) t2)::r)=U (oSt a2 b2 (oSp p2 x2 q2 y2 l2) (oSp p3 x3 q3 y3 l3) t2):=λ_ _=>rfl;have c:∀z:Bool,(!((p:Int) == p2))=z->∀s3 s4,ev G (.b .ne (.fld (.fld (.v 0) "here") "place") (.fld (.fld (.v 1) "here") "place")) [.im (oSt a b (oSp p x q y l) (oSp p' x' q' y' l') t),.im (oSt a2 b2 (oSp p2 x2 q2 y2 l2) (oSp p3 x3 q3 y3 l3) t2),s3,s4]=U (.bl z):=λz h s3 s4=>by rw[aV,fG hS (eN hT (e _)),fG hS (eN hT (e2 _ _)),<-h];exact UF
 have I:∀(u v:Nat×Bool×Nat×Bool×Int),ev G (.b .ne (.b .lt (.fld (.fld (.v 0) "here") "depth") (.fld (.v 2) "depth")) (.b .lt (.fld (.fld (.v 0) "there") "depth") (.fld (.v 3) "depth"))) [.im (oSt a b (oSp p x q y l) (oSp p' x' q' y' l') t),.im (oSt a2 b2 (oSp p2 x2 q2 y2 l2) (oSp p3 x3 q3 y3 l3) t2),.im (oSp u.1 u.2.1 u.2.2.1 u.2.2.2.1 u.2.2.2.2),.im (oSp v.1 v.2.1 v.2.2.1 v.2.2.2.1 v.2.2.2.2)]=U (.bl (!(decide (l<u.2.2.2.2) == decide (l'<v.2.2.2.2)))):=λu v=>by have f2:ev G (.v 2) [.im (oSt a b (oSp p x q y l) (oSp p' x' q' y' l') t),.im (oSt a2 b2 (oSp p2 x2 q2 y2 l2) (oSp p3 x3 q3 y3 l3) t2),.im (oSp u.1 u.2.1 u.2.2.1 u.2.2.2.1 u.2.2.2.2),.im (oSp v.1 v.2.1 v.2.2.1 v.2.2.2.1 v.2.2.2.2)]=U (oSp u.1 u.2.1 u.2.2.1 u.2.2.2.1 u.2.2.2.2):=rfl;have f3:ev G (.v 3) [.im (oSt a b (oSp p x q y l) (oSp p' x' q' y' l') t),.im (oSt a2 b2 (oSp p2 x2 q2 y2 l2) (oSp p3 x3 q3 y3 l3) t2),.im (oSp u.1 u.2.1 u.2.2.1 u.2.2.2.1 u.2.2.2.2),.im (oSp v.1 v.2.1 v.2.2.1 v.2.2.2.1 v.2.2.2.2)]=U (oSp v.1 v.2.1 v.2.2.1 v.2.2.2.1 v.2.2.2.2):=rfl;rw[aV,aV,aV,eO hS (eN hT (e _)),eO hS f2,eO hS (fF hT (e _)),eO hS f3];rfl
 refine aL (B:=[.im (oSt a b (oSp p x q y l) (oSp p' x' q' y' l') t),.im (oSt a2 b2 (oSp p2 x2 q2 y2 l2) (oSp p3 x3 q3 y3 l3) t2),.un,.un]) rfl (aA (aM (eN hT (e2 _ _))) (aA (aM (fF hT (e2 _ _))) ?_));cases h:(p:Int) == p2 with
 |true=>exact aA (bM (c J (by rw[h];rfl) _ _) aR) (aN (I (p2,x2,q2,y2,l2) (p3,x3,q3,y3,l3)))
 |false=>exact aA (dA (c Y (by rw[h];rfl) _ _) (aA (aM (fF hT (e2 _ _))) (aM (eN hT (e2 _ _))))) (aN (I (p3,x3,q3,y3,l3) (p2,x2,q2,y2,l2)))
end
end
def UH{k:Nat}{j:Nat×Nat×Bool}(h:j∈bz c n k):j.1=k:=by unfold bz at h;rcases xp.mp h with h|h<;>(split at h<;>simp at h<;>rw[h])
def aBb{k:Nat}:(bz c n k).Nodup:=by unfold bz;split<;>split<;>simp
theorem KW{c n:Nat}:∀k,(c6 c n k).Nodup
 | 0=>List.nodup_nil
 |k+1=>by rw[lV,nodup_append];refine⟨KW k,aBb,λa ha b hb e=>?_⟩;have h1:=AA ha;have h2:=UH hb;rw[e]at h1;lia
def aDx{α:Type}{l:List α}(h:l.Nodup){i j:Nat}{a b:α}(hi:l[i]?=U a)(z:l[j]?=U b)(bw:i<j):a≠b:=by obtain⟨h1,e1⟩:=u0.mp hi;obtain⟨h2,e2⟩:=u0.mp z;rw[<-e1,<-e2];exact List.pairwise_iff_getElem.mp h i j h1 h2 bw
theorem mE:∀(xs:List D) (k i:Nat),(hZ k xs)[i]?=(xs[i]?).map λx=>D.tup [.int ((k+i:Nat):Int),x]
 |[],_,_=>rfl
 |x::r,k,0=>rfl
 |x::r,k,i+1=>by show (hZ (k+1) r)[i]?=_;rw[mE r (k+1) i,getElem?_cons_succ,show k+1+i=k+(i+1) by lia]
def AB{k:Nat}{j:Nat×Nat×Bool}(h:j∈c6 c n k):j.1<k/\((j.2.1=j.1+1/\j.2.2=J/\j.1 % c<c-1)\/(j.2.1=j.1+c/\j.2.2=Y/\j.1+c<n)):=by unfold c6 at h;obtain⟨i,hi,I⟩:=mem_flatMap.mp h;have hi:=xf.mp hi;unfold bz at I;rcases xp.mp I with q|q;by_cases z:i % c<c-1;rw[vy z]at q;simp only[if_true,vj]at q;subst q;exact⟨hi,.inl ⟨rfl,rfl,z⟩⟩;rw[uu z]at q;simp at q;by_cases z:i+c<n;rw[vy z]at q;simp only[if_true,vj]at q;subst q;exact⟨hi,.inr ⟨rfl,rfl,z⟩⟩;rw[uu z]at q;simp at q
def mod_succ(h:a % c<c-1):(a+1) % c=a % c+1/\(a+1) / c=a / c:=by
 have e:=Nat.div_add_mod a c;have hc:0<c:=by lia
 generalize a / c=q at *;generalize a % c=m at *;rw[show a+1=c*q+(m+1) by lia];exact⟨by rw[Nat.mul_add_mod,Nat.mod_eq_of_lt zq],by rw[Nat.mul_add_div hc,Nat.div_eq_of_lt zq,Nat.add_zero]⟩
noncomputable def YJ:IS:=(.put 2 (.ix (.v 4) (.L (.int 0))) (.b .add (.getd 2 (.cons (.ix (.v 4) (.L (.int 0))) (.cons (.L (.int 0)) .nil))) (.L (.int 1))))
def XB:IS:=(.loop [4] J .seq (.v 3) YJ)
noncomputable def PM:IS:=(.g (.b .ne (.getd 2 (.cons (.v 5) (.cons (.L (.int 0)) .nil))) (.L (.int 1))) (.ret J (.tup (.cons (.L (.str "cell")) (.cons (.v 5) .nil)))) .nop)
def qU:IS:=(.seq (.setd 2) (.seq (.loop [3] J .seq (.v 1) XB) (.seq (.loop [5] J .rng (.tup (.cons (.v 0) .nil)) PM) (.ret J (.L .non)))))
structure Cnt (kvs:List (Int×D)) (E:List (Int×Pl)):Prop where
 num:∀k:Nat,(cZ kvs (k:Int)).getD (.int 0)=.int ((cm E k).length:Nat)
 len:kvs.length<=E.length
def UE{E:List (Int×Pl)}{q:Int×Pl}{k:Nat}:(cm (E++[q]) k).length=(cm E k).length+if q.1 == (k:Int) then 1 else 0:=by rw[qH,vp];congr 1;split<;>rfl
def Cnt.put{kvs:List (Int×D)}{E:List (Int×Pl)}(C:Cnt kvs E){i:Nat}{p:Pl}:Cnt (lT kvs i (.int (((cm E i).length:Nat)+1))) (E++[((i:Int),p)]):=by
 refine⟨λk=>?_,?_⟩;rw[wD,UE];by_cases h:(k:Int)=i;have h2:k=i:=by lia
 subst h2;rw[if_pos rfl,if_pos (beq_self_eq_true _)];rfl;rw[if_neg h,if_neg (λz=>h (vz.mp z).symm),C.num k];rfl;have:=xA (kvs:=kvs) (k:=i) (d:=.int (((cm E i).length:Nat)+1));have:=C.len;rw[vp,length_singleton];lia
def DM{Hs:List aQ}(z:Hok n Hs){p:Nat}{h:aQ}(e:Hs[p]?=U h)(l:Nat):(ents w (Hs.take p)++gS w p (h.take l)).length<=200000:=by
 rw[vp];have a:=mH (w:=w) (Hs:=Hs.take p) 0 λx hx=>z.few x (mem_of_mem_take hx);have b:(gS w p (h.take l)).length<=100:=by unfold gS;rw[uo,List.length_zipIdx,w9];have:=z.few h (u6 e);lia
 rw[w9]at a;have a:(ents w (Hs.take p)).length<=_:=a;have:=z.len;lia
section
variable {G:GS}
def GY{Hs:List aQ}(hn:n<=1000)(W:Hok n Hs):bL G 6 qU [.int n,.lst (Hs.map hE)]=U (.ok (match (List.range n).find? (kQ (ents w Hs)) with|some k=>tF k|none=>.non)):=by
 obtain⟨B',l,kvs,s3,s4,rfl,C⟩:=hU (enc:=hE) (bind:=aX [3] J) (body:=ex G XB) (λp B=>∃kvs s3 s4,B=[.im (.int n),.im (.lst (Hs.map hE)),.mu (.dct kvs),s3,s4,.un]/\Cnt kvs (ents w (Hs.take p))) (L:=Hs) (B:=[.im (.int n),.im (.lst (Hs.map hE)),.mu (.dct []),.un,.un,.un]) ⟨[],.un,.un,rfl,λ_=>rfl,xg _⟩ (by
  rintro p h e B ⟨kvs,s3,s4,rfl,C⟩;have hm:=u6 e;obtain⟨B',l,I,t4,rfl,C'⟩:=hU (enc:=au) (bind:=aX [4] J) (body:=ex G YJ) (λl B=>∃kvs s4,B=[.im (.int n),.im (.lst (Hs.map hE)),.mu (.dct kvs),.im (hE h),s4,.un]/\Cnt kvs (ents w (Hs.take p)++gS w p (h.take l))) (L:=h) (B:=[.im (.int n),.im (.lst (Hs.map hE)),.mu (.dct kvs),.im (hE h),s4,.un]) ⟨kvs,s4,rfl,by rw[take_zero];show Cnt kvs (ents w (Hs.take p)++[]);rw[vt];exact C⟩ (by
   rintro l c ec B ⟨kvs,s4,rfl,C⟩;obtain⟨c0,c1⟩:=W.inn h hm c (u6 ec);obtain⟨i,hi⟩:∃i:Nat,c.1=(i:Int):=⟨c.1.toNat,(Int.toNat_of_nonneg c0).symm⟩;have few:=DM (w:=w) W e l;have e1:ev G (.ix (.v 4) (.L (.int 0))) [.im (.int n),.im (.lst (Hs.map hE)),.mu (.dct kvs),.im (hE h),.im (au c),.un]=U (.int (i:Nat)):=by rw[<-hi];rfl
   have e2:ev G (.getd 2 (.cons (.ix (.v 4) (.L (.int 0))) (.cons (.L (.int 0)) .nil))) [.im (.int n),.im (.lst (Hs.map hE)),.mu (.dct kvs),.im (hE h),.im (au c),.un]=U (.int ((cm (ents w (Hs.take p)++gS w p (h.take l)) i).length:Nat)):=by show (match (cZ kvs c.1).getD (.int 0) with | .int v=>U (D.int v)|_=>O)=_;rw[hi,C.num i]
   refine⟨[.im (.int n),.im (.lst (Hs.map hE)),.mu (.dct kvs),.im (hE h),.im (au c),.un],rfl,_,vJ (kvs:=kvs) (i:=i) (d:=.int (((cm (ents w (Hs.take p)++gS w p (h.take l)) i).length:Nat)+1)) ?_ e1 rfl (by have:=C.len;lia),_,_,rfl,?_⟩;rw[aV,e2];rfl;rw[nW ec,<-va,hi];exact C.put)
  rw[xh,<-nV e]at C';exact⟨[.im (.int n),.im (.lst (Hs.map hE)),.mu (.dct kvs),.im (hE h),s4,.un],rfl,_,(bI (d:=hE h) rfl dU).trans l,I,_,t4,rfl,C'⟩)
 rw[xh]at C;obtain⟨g1,g2⟩:=eE (enc:=λ(k:Nat)=>D.int k) (bind:=aX [5] J) (body:=ex G PM) (λ_ B=>∃s5,B=[.im (.int n),.im (.lst (Hs.map hE)),.mu (.dct kvs),s3,s4,s5]) (kQ (ents w Hs)) tF (L:=List.range n) (k:=0) (B:=[.im (.int n),.im (.lst (Hs.map hE)),.mu (.dct kvs),s3,s4,.un]) ⟨_,rfl⟩ (by
  rintro i k B hk ⟨s5,rfl⟩;have e2:∀q3 q4,ev G (.getd 2 (.cons (.v 5) (.cons (.L (.int 0)) .nil))) [.im (.int n),.im (.lst (Hs.map hE)),.im (.dct kvs),q3,q4,.im (.int (k:Nat))]=U (.int ((cm (ents w Hs) k).length:Nat)):=λ_ _=>by show (match (cZ kvs (k:Int)).getD (.int 0) with | .int v=>U (D.int v)|_=>O)=_;rw[C.num k]
  have e3:ev G (.b .ne (.getd 2 (.cons (.v 5) (.cons (.L (.int 0)) .nil))) (.L (.int 1))) (view [.im (.int n),.im (.lst (Hs.map hE)),.mu (.dct kvs),s3,s4,.im (.int (k:Nat))])=U (.bl (kQ (ents w Hs) k)):=by simp only[iA,jA,dW];rw[aV,e2];show U (D.bl (!(((cm (ents w Hs) k).length:Int) == ((1:Nat):Int))))=_;rw[jf];rfl
  exact⟨[.im (.int n),.im (.lst (Hs.map hE)),.mu (.dct kvs),s3,s4,.im (.int (k:Nat))],rfl,λh=>dA (e3.trans (by rw[h])) (aN rfl),λh=>⟨_,bM (e3.trans (by rw[h])) aR,_,rfl⟩⟩)
 refine aL (B:=[.im (.int n),.im (.lst (Hs.map hE)),.un,.un,.un,.un]) rfl (aA (B':=[.im (.int n),.im (.lst (Hs.map hE)),.mu (.dct []),.un,.un,.un]) rfl (aA ((bI (d:=.lst (Hs.map hE)) rfl dU).trans l) ?_));have R:=bI (G:=G) (a:=PM) (e:=.tup (.cons (.v 0) .nil)) (B:=[.im (.int n),.im (.lst (Hs.map hE)),.mu (.dct kvs),s3,s4,.un]) (tg:=[5]) (tp:=J) (k:=.rng) (d:=.tup [.int ((n:Nat):Int)]) rfl (cX zq);cases h:(List.range n).find? (kQ (ents w Hs)) with
 |some k=>exact cJ (R.trans (g1 k h)) λ_ z=>by cases z
 |none=>obtain⟨B',g,_⟩:=g2 h;exact aA (R.trans g) (aN rfl)
end
noncomputable def il(lv:Bool)(p:Pl):Bool:=if lv then p.n else p.e
def bD(lv:Bool)(p:Pl):D:=oSp (bx lv p) (il lv p) (eg lv p) (il (!lv) p) p.l
def bE(sp:Nat->Pl)(j:Nat×Nat×Bool):D:=oSt j.1 j.2.1 (bD j.2.2 (sp j.1)) (bD j.2.2 (sp j.2.1)) (trD j.2.2 (sp j.1))
structure Dc (lv:Bool) (kvs:List (Int×D)) (E:List (Int×Pl)):Prop where
 ok:∀k:Nat,cZ kvs (k:Int)=((cm E k).getLast?).map (bD lv)
 len:kvs.length<=E.length
def Dc.put{kvs:List (Int×D)}{E:List (Int×Pl)}(C:Dc lv kvs E){i:Nat}{p:Pl}:Dc lv (lT kvs i (bD lv p)) (E++[((i:Int),p)]):=by
 refine⟨λk=>?_,?_⟩;rw[wD,qH];by_cases h:(k:Int)=i;have h2:k=i:=by lia
 subst h2;rw[if_pos rfl,if_pos (beq_self_eq_true _),List.getLast?_append];rfl;rw[if_neg h,if_neg (λz=>h (vz.mp z).symm),C.ok k,vt];have:=xA (kvs:=kvs) (k:=i) (d:=bD lv p);have:=C.len;rw[vp,length_singleton];lia
noncomputable def PJ:IS:=(.seq (.put 4 (.ix (.v 11) (.L (.int 0))) (.mk "Spot" (.cons (.v 8) (.cons (.ix (.v 11) (.L (.int 1))) (.cons (.v 9) (.cons (.ix (.v 11) (.L (.int 2))) (.cons (.v 10) .nil))))))) (.put 5 (.ix (.v 11) (.L (.int 0))) (.mk "Spot" (.cons (.v 9) (.cons (.ix (.v 11) (.L (.int 2))) (.cons (.v 8) (.cons (.ix (.v 11) (.L (.int 1))) (.cons (.v 10) .nil))))))))
def aBt:IS:=(.loop [10,11] Y .enum (.v 7) PJ)
def DU:IS:=(.seq (.set 8 (.b .mod (.v 6) (.v 2))) (.seq (.set 9 (.b .fdiv (.v 6) (.v 2))) aBt))
noncomputable def yU:IS:=(.seq (.set 16 (.q (.tr (.v 15)) (.v 5) (.v 4))) (.app 12 (.mk "Strand" (.cons (.v 13) (.cons (.v 14) (.cons (.v 15) (.cons (.ix (.v 16) (.v 13)) (.cons (.ix (.v 16) (.v 14)) .nil))))))))
def nL:IS:=(.seq (.setd 4) (.seq (.setd 5) (.seq (.loop [6,7] Y .enum (.v 3) DU) (.frz [4,5] (.seq (.setm 12 (.lst .nil)) (.seq (.loop [13,14,15] Y .seq (.call yu (.cons (.v 0) (.cons (.v 1) .nil))) yU) (.M 12)))))))
section
variable {G:GS}
def sa(c r w:Nat)(Hs:List aQ)(s4 s5 s6 s7 s8 s9 s10 s11 s12 s13 z I R:Sl):List Sl:=[.im (.int c),.im (.int r),.im (.int w),.im (.lst (Hs.map hE)),s4,s5,s6,s7,s8,s9,s10,s11,s12,s13,z,I,R]
theorem BG:∀(xs:List D) (k:Nat),(hZ k xs).length=xs.length
 |[],_=>rfl
 |x::r,k=>by show (hZ (k+1) r).length+1=_;rw[BG r (k+1)];rfl
def zH{Hs:List aQ}(hw:0<w)(l7:w<=1000)(hO:Hok (c*r) Hs)(dj:∀k,k<c*r->(cm (ents w Hs) k).length=1)(bt:∀j∈L,j.1<c*r/\j.2.1<c*r)(hL:L.length<=1000) (hnb:G.fn yu [.int c,.int r]=U (.ok (.lst (L.map dz)))) (c7:∀(p q:Nat) (a b:Bool) (l:Int),G.mo "Spot" [.int p,.bl a,.int q,.bl b,.int l]=U (.ok (oSp p a q b l))) (js:∀(a b:Int) (lv:Bool) (p q:Pl),G.mo "Strand" [.int a,.int b,.bl lv,bD lv p,bD lv q]=U (.ok (oSt a b (bD lv p) (bD lv q) (trD lv p)))):bL G 17 nL [.int c,.int r,.int w,.lst (Hs.map hE)]=U (.ok (.lst (L.map (bE (ak (ents w Hs)))))):=by
 obtain⟨B',l,z,k5,s6,s7,s8,s9,s10,s11,rfl,C4,C5⟩:=fV (bind:=aX [6,7] Y) (body:=ex G DU) (λp B=>∃z k5 s6 s7 s8 s9 s10 s11,B=sa c r w Hs (.mu (.dct z)) (.mu (.dct k5)) s6 s7 s8 s9 s10 s11 .un .un .un .un .un/\Dc J z (ents w (Hs.take p))/\Dc Y k5 (ents w (Hs.take p))) (ds:=hZ 0 (Hs.map hE)) (k:=0) (B:=sa c r w Hs (.mu (.dct [])) (.mu (.dct [])) .un .un .un .un .un .un .un .un .un .un .un) ⟨[],[],_,_,_,_,_,_,rfl,⟨λ_=>rfl,xg _⟩,⟨λ_=>rfl,xg _⟩⟩ (by
  rintro p d B hd ⟨z,k5,s6,s7,s8,s9,s10,s11,rfl,C4,C5⟩;rw[mE,um]at hd;obtain⟨x,hx,rfl⟩:=v9.mp hd;obtain⟨h,e,rfl⟩:=v9.mp hx;rw[vo]at C4 C5 ⊢;have hm:=u6 e;obtain⟨B',l,W,a5,R,I,rfl,D4,D5⟩:=fV (bind:=aX [10,11] Y) (body:=ex G PJ) (λl B=>∃W a5 R I,B=sa c r w Hs (.mu (.dct W)) (.mu (.dct a5)) (.im (.int (p:Nat))) (.im (hE h)) (.im (.int (p % w:Nat))) (.im (.int (p / w:Nat))) R I .un .un .un .un .un/\Dc J W (ents w (Hs.take p)++gS w p (h.take l))/\Dc Y a5 (ents w (Hs.take p)++gS w p (h.take l))) (ds:=hZ 0 (h.map au)) (k:=0) (B:=sa c r w Hs (.mu (.dct z)) (.mu (.dct k5)) (.im (.int (p:Nat))) (.im (hE h)) (.im (.int (p % w:Nat))) (.im (.int (p / w:Nat))) s10 s11 .un .un .un .un .un) ⟨z,k5,s10,s11,rfl,by rw[take_zero];show Dc J z (ents w (Hs.take p)++[])/\Dc Y k5 (ents w (Hs.take p)++[]);rw[vt];exact⟨C4,C5⟩⟩ (by
   rintro l d B hd ⟨W,a5,R,I,rfl,D4,D5⟩;rw[mE,um]at hd;obtain⟨x,hx,rfl⟩:=v9.mp hd;obtain⟨cl,ec,rfl⟩:=v9.mp hx;rw[vo]at D4 D5 ⊢;obtain⟨c0,c1⟩:=hO.inn h hm cl (u6 ec);obtain⟨i,hi⟩:∃i:Nat,cl.1=(i:Int):=⟨cl.1.toNat,(Int.toNat_of_nonneg c0).symm⟩;have few:=DM (w:=w) hO e l;have l4:=D4.len;have l5:=D5.len;have e1:∀s4 s5,ev G (.ix (.v 11) (.L (.int 0))) (sa c r w Hs s4 s5 (.im (.int (p:Nat))) (.im (hE h)) (.im (.int (p % w:Nat))) (.im (.int (p / w:Nat))) (.im (.int (l:Nat))) (.im (au cl)) .un .un .un .un .un)=U (.int (i:Nat)):=λ_ _=>by rw[<-hi];rfl
   refine⟨sa c r w Hs (.mu (.dct W)) (.mu (.dct a5)) (.im (.int (p:Nat))) (.im (hE h)) (.im (.int (p % w:Nat))) (.im (.int (p / w:Nat))) (.im (.int (l:Nat))) (.im (au cl)) .un .un .un .un .un,rfl,_,aA (vJ (kvs:=W) (i:=i) (d:=bD J ⟨p % w,p / w,l,cl.2.1,cl.2.2⟩) ?_ (e1 _ _) rfl zq) (vJ (kvs:=a5) (i:=i) (d:=bD Y ⟨p % w,p / w,l,cl.2.1,cl.2.2⟩) ?_ (e1 (.mu (.dct (lT W i (bD J ⟨p % w,p / w,l,cl.2.1,cl.2.2⟩)))) _) rfl zq),_,_,_,_,rfl,?_⟩;rw[DL];show bZ (G.mo "Spot" [.int (p % w:Nat),.bl cl.2.1,.int (p / w:Nat),.bl cl.2.2,.int (l:Nat)])=_;rw[c7];rfl;rw[DL];show bZ (G.mo "Spot" [.int (p / w:Nat),.bl cl.2.2,.int (p % w:Nat),.bl cl.2.1,.int (l:Nat)])=_;rw[c7];rfl;rw[nW ec,<-va,hi];exact⟨D4.put,D5.put⟩)
  rw[BG,uo,vo,xh,<-nV e]at D4 D5;exact⟨sa c r w Hs (.mu (.dct z)) (.mu (.dct k5)) (.im (.int (p:Nat))) (.im (hE h)) s8 s9 s10 s11 .un .un .un .un .un,rfl,_,aA (aM (d:=.int (p % w:Nat)) (cV hw)) (aA (aM (d:=.int (p / w:Nat)) (kH hw zq)) ((bI (d:=hE h) rfl rfl).trans l)),W,a5,_,_,_,_,R,I,rfl,D4,D5⟩)
 rw[BG,uo,vo,xh]at C4 C5;have t9:∀{lv:Bool} {kvs:List (Int×D)} {k:Nat},Dc lv kvs (ents w Hs)->k<c*r->cZ kvs (k:Int)=U (bD lv (ak (ents w Hs) k)):=λ{lv kvs k} C hk=>by rw[C.ok k,uG (dj k hk)];rfl
 obtain⟨ρ2,l2,s13,qd,qc,oj,rfl⟩:=hU (enc:=dz) (bind:=aX [13,14,15] Y) (body:=ex G yU) (λk B=>∃s13 qd qc oj,B=sa c r w Hs (.im (.dct z)) (.im (.dct k5)) s6 s7 s8 s9 s10 s11 (.mu (.lst ((L.take k).map (bE (ak (ents w Hs)))))) s13 qd qc oj) (L:=L) (B:=sa c r w Hs (.im (.dct z)) (.im (.dct k5)) s6 s7 s8 s9 s10 s11 (.mu (.lst [])) .un .un .un .un) ⟨_,_,_,_,rfl⟩ (by
  rintro k j hj B ⟨s13,qd,qc,oj,rfl⟩;obtain⟨l1,l2⟩:=bt j (u6 hj);obtain⟨a,b,lv⟩:=j;have v1:cZ (if lv then k5 else z) (a:Int)=U (bD lv (ak (ents w Hs) a)):=by cases lv;exact t9 C4 l1;exact t9 C5 l1
  have v2:cZ (if lv then k5 else z) (b:Int)=U (bD lv (ak (ents w Hs) b)):=by cases lv;exact t9 C4 l2;exact t9 C5 l2
  refine⟨sa c r w Hs (.im (.dct z)) (.im (.dct k5)) s6 s7 s8 s9 s10 s11 (.mu (.lst ((L.take k).map (bE (ak (ents w Hs)))))) (.im (.int a)) (.im (.int b)) (.im (.bl lv)) oj,rfl,_,aA (aM (d:=.dct (if lv then k5 else z)) ?_) (BD (d:=bE (ak (ents w Hs)) (a,b,lv)) ?_ rfl (by rw[uo,w9];lia)),.im (.int a),.im (.int b),.im (.bl lv),.im (.dct (if lv then k5 else z)),?_⟩;cases lv<;>rfl
  have x1:ev G (.ix (.v 16) (.v 13)) (sa c r w Hs (.im (.dct z)) (.im (.dct k5)) s6 s7 s8 s9 s10 s11 (.mu (.lst ((L.take k).map (bE (ak (ents w Hs)))))) (.im (.int a)) (.im (.int b)) (.im (.bl lv)) (.im (.dct (if lv then k5 else z))))=U (bD lv (ak (ents w Hs) a)):=v1;have x2:ev G (.ix (.v 16) (.v 14)) (sa c r w Hs (.im (.dct z)) (.im (.dct k5)) s6 s7 s8 s9 s10 s11 (.mu (.lst ((L.take k).map (bE (ak (ents w Hs)))))) (.im (.int a)) (.im (.int b)) (.im (.bl lv)) (.im (.dct (if lv then k5 else z))))=U (bD lv (ak (ents w Hs) b)):=v2;show ev G _ (sa c r w Hs (.im (.dct z)) (.im (.dct k5)) s6 s7 s8 s9 s10 s11 (.mu (.lst ((L.take k).map (bE (ak (ents w Hs)))))) (.im (.int a)) (.im (.int b)) (.im (.bl lv)) (.im (.dct (if lv then k5 else z))))=_;rw[DL,aJ,aJ,aJ,aJ,x1,aJ,x2];show bZ (G.mo "Strand" [.int a,.int b,.bl lv,bD lv (ak (ents w Hs) a),bD lv (ak (ents w Hs) b)])=_;rw[js];rfl;rw[x6,hj,x5];rfl)
 rw[xh]at l2;refine aL (B:=sa c r w Hs .un .un .un .un .un .un .un .un .un .un .un .un .un) rfl (aA (B':=sa c r w Hs (.mu (.dct [])) .un .un .un .un .un .un .un .un .un .un .un .un) rfl (aA (B':=sa c r w Hs (.mu (.dct [])) (.mu (.dct [])) .un .un .un .un .un .un .un .un .un .un .un) rfl (aA ((bI (d:=.lst (Hs.map hE)) rfl rfl).trans l) ?_)));show ex G _ (sa c r w Hs (.im (.dct z)) (.im (.dct k5)) s6 s7 s8 s9 s10 s11 .un .un .un .un .un)=_;refine aA (B':=sa c r w Hs (.im (.dct z)) (.im (.dct k5)) s6 s7 s8 s9 s10 s11 (.mu (.lst [])) .un .un .un .un) (kG (ds:=[]) rfl) (aA ((bI (d:=.lst (L.map dz)) ?_ dU).trans l2) (pP rfl));rw[bR];show bZ (G.fn yu [.int c,.int r])=_;rw[hnb];rfl
end
noncomputable def BM:IS:=(.g (.tr (.meth (.v 1) zi .nil)) (.ret J (.tup (.cons (.L (.str "torn")) (.cons (.fld (.v 1) "first") (.cons (.fld (.v 1) "second") .nil))))) .nop)
def uU:IS:=(.seq (.loop [1] J .seq (.v 0) BM) (.ret J (.L .non)))
noncomputable def tO:IS:=(.g (.and (.b .eq (.fld (.v 2) "track") (.fld (.v 3) "track")) (.tr (.call zk (.cons (.v 2) (.cons (.v 3) .nil))))) (.ret J (.tup (.cons (.L (.str "crossed")) (.cons (.fld (.v 2) "first") (.cons (.fld (.v 2) "second") (.cons (.fld (.v 3) "first") (.cons (.fld (.v 3) "second") .nil))))))) .nop)
def kA:IS:=(.loop [3] J .seq (.sl (.v 0) Y (.b .add (.v 1) (.L (.int 1))) J (.L .non)) tO)
def nN:IS:=(.seq (.loop [1,2] Y .enum (.v 0) kA) (.ret J (.L .non)))
def xU{p q:Pl}:meets lv p q=((eg lv p == eg lv q&&il (!lv) p == il (!lv) q)&&(eG lv p == iW lv q)):=by cases lv<;>rfl
def vG{p:Pl}:eG lv p=if il lv p then bx lv p else bx lv p+1:=by cases lv<;>rfl
def uI{p:Pl}:iW lv p=if il lv p then bx lv p+1 else bx lv p:=by cases lv<;>rfl
section
variable {G:GS}(hS:G.fl "Spot"=aCH)(hT:G.fl "Strand"=ZY)
include hS hT in
def QG(I:∀(p q:Nat) (a b:Bool) (l:Int),G.me "Spot" zg [oSp p a q b l]=U (.ok (.int ((if a then p else p+1:Nat):Int))))(bw:∀(p q:Nat) (a b:Bool) (l:Int),G.me "Spot" ze [oSp p a q b l]=U (.ok (.int ((if a then p+1 else p:Nat):Int)))) {p q:Pl}  {a b:Int} {k:D}:bL G 1 uV [oSt a b (bD lv p) (bD lv q) k]=U (.ok (.bl (!meets lv p q))):=by
 have e:ev G (.v 0) [.im (oSt a b (bD lv p) (bD lv q) k)]=U (oSt a b (bD lv p) (bD lv q) k):=rfl;have h1:=eN hT e;have h2:=fF hT e;have t:ev G (.or (.b .ne (.fld (.fld (.v 0) "here") "lane") (.fld (.fld (.v 0) "there") "lane")) (.b .ne (.fld (.fld (.v 0) "here") "slanted") (.fld (.fld (.v 0) "there") "slanted"))) (view [.im (oSt a b (bD lv p) (bD lv q) k)])=U (.bl (!(eg lv p == eg lv q&&il (!lv) p == il (!lv) q))):=by show ev G _ [.im (oSt a b (bD lv p) (bD lv q) k)]=_;rw[lF (x:=!(eg lv p == eg lv q)) (y:=!(il (!lv) p == il (!lv) q)) ?_ λ_=>?_,Bool.not_and];rw[aV,tU hS h1,tU hS h2];show U (D.bl (!(((eg lv p:Nat):Int) == ((eg lv q:Nat):Int))))=_;rw[jf];rw[aV,qC hS h1,qC hS h2];exact qh
 rw[xU];cases h:(eg lv p == eg lv q&&il (!lv) p == il (!lv) q) with
 |false=>exact aL (B:=[.im (oSt a b (bD lv p) (bD lv q) k)]) rfl (cJ (dA (t.trans (by rw[h];rfl)) (aN rfl)) λ_ z=>by cases z)
 |true=>refine aL (B:=[.im (oSt a b (bD lv p) (bD lv q) k)]) rfl (aA (bM (t.trans (by rw[h];rfl)) aR) (aN ?_));rw[aV,tT rfl h1 (I _ _ _ _ _),tT rfl h2 (bw _ _ _ _ _),Bool.true_and,vG,uI,<-jf];exact UF
def IC(hT:G.fl "Strand"=ZY){sp:Nat->Pl}(I:∀(p q:Pl) (lv:Bool) (a b:Int) (k:D),G.me "Strand" zi [oSt a b (bD lv p) (bD lv q) k]=U (.ok (.bl (!meets lv p q)))):bL G 2 uU [.lst (L.map (bE sp))]=U (.ok (match L.find? (eV sp) with|some j=>pY j|none=>.non)):=by
 obtain⟨g1,g2⟩:=eE (enc:=bE sp) (bind:=aX [1] J) (body:=ex G BM) (λ_ B=>∃s1,B=[.im (.lst (L.map (bE sp))),s1]) (eV sp) pY (L:=L) (k:=0) (B:=[.im (.lst (L.map (bE sp))),.un]) ⟨_,rfl⟩ (by
  rintro i j B W ⟨s1,rfl⟩;have e:ev G (.v 1) [.im (.lst (L.map (bE sp))),.im (bE sp j)]=U (bE sp j):=rfl;have t:ev G (.tr (.meth (.v 1) zi .nil)) (view [.im (.lst (L.map (bE sp))),.im (bE sp j)])=U (.bl (eV sp j)):=by show ev G _ [.im (.lst (L.map (bE sp))),.im (bE sp j)]=_;rw[mD,tS rfl e (I _ _ _ _ _ _)];show (fj (.bl (eV sp j))).map D.bl=_;rw[jm];rfl
  refine⟨[.im (.lst (L.map (bE sp))),.im (bE sp j)],rfl,λh=>dA (t.trans (by rw[h])) (aN ?_),λh=>⟨_,bM (t.trans (by rw[h])) aR,_,rfl⟩⟩;rw[fP,aJ,aJ,qB hT e,aJ,mR hT e];rfl)
 have R:=bI (G:=G) (a:=BM) (e:=.v 0) (B:=[.im (.lst (L.map (bE sp))),.un]) (tg:=[1]) (tp:=J) (k:=.seq) (d:=.lst (L.map (bE sp))) rfl dU;refine aL (B:=[.im (.lst (L.map (bE sp))),.un]) rfl ?_;cases h:L.find? (eV sp) with
 |some j=>exact cJ (R.trans (g1 j h)) λ_ z=>by cases z
 |none=>obtain⟨B',g,_⟩:=g2 h;exact aA (R.trans g) (aN rfl)
def t7(p p':Nat)(l l':Int)(p2 p3:Nat)(l2 l3:Int):Bool:=
 if (p:Int) == p' then !((((p2:Int) == p)&&inB l2 l l') == (((p3:Int) == p)&&inB l3 l l'))
 else if (p2:Int) == p3 then !((((p:Int) == p2)&&inB l l2 l3) == (((p':Int) == p2)&&inB l' l2 l3))
 else if (p:Int) == p2 then !(decide (l<l2) == decide (l'<l3)) else !(decide (l<l3) == decide (l'<l2))
def OU(jw:∀(a b:Int) (p q p' q':Nat) (x y x' y':Bool) (l l':Int) (t:D),G.me "Strand" zh [oSt a b (oSp p x q y l) (oSp p' x' q' y' l') t]=U (.ok (.bl ((p:Int) == p')))) (I:∀(a b a2 b2:Int) (p q p' q' p2 q2 p3 q3:Nat) (x y x' y' x2 y2 x3 y3:Bool) (l l' l2 l3:Int) (t t2:D),G.fn yq [oSt a b (oSp p x q y l) (oSp p' x' q' y' l') t,oSt a2 b2 (oSp p2 x2 q2 y2 l2) (oSp p3 x3 q3 y3 l3) t2]=U (.ok (.bl (!((((p2:Int) == p)&&inB l2 l l') == (((p3:Int) == p)&&inB l3 l l')))))) (W:∀(a b a2 b2:Int) (p q p' q' p2 q2 p3 q3:Nat) (x y x' y' x2 y2 x3 y3:Bool) (l l' l2 l3:Int) (t t2:D),G.fn yb [oSt a b (oSp p x q y l) (oSp p' x' q' y' l') t,oSt a2 b2 (oSp p2 x2 q2 y2 l2) (oSp p3 x3 q3 y3 l3) t2]=U (.ok (.bl (if (p:Int) == p2 then !(decide (l<l2) == decide (l'<l3)) else !(decide (l<l3) == decide (l'<l2)))))) {a b a2 b2:Int} {p q p2 q2 p3 q3:Nat} {x y x2 y2 x3 y3:Bool} {l l3:Int} {t t2:D}:bL G 2 vA [oSt a b (oSp p x q y l) (oSp p' x' q' y' l') t,oSt a2 b2 (oSp p2 x2 q2 y2 l2) (oSp p3 x3 q3 y3 l3) t2]=U (.ok (.bl (t7 p p' l l' p2 p3 l2 l3))):=by
 obtain⟨u,hu⟩:∃u,u=oSt a b (oSp p x q y l) (oSp p' x' q' y' l') t:=⟨_,rfl⟩;obtain⟨v,hv⟩:∃v,v=oSt a2 b2 (oSp p2 x2 q2 y2 l2) (oSp p3 x3 q3 y3 l3) t2:=⟨_,rfl⟩;have b1:ev G (.tr (.meth (.v 0) zh .nil)) (view [.im u,.im v])=U (.bl ((p:Int) == p')):=by show ev G _ [.im u,.im v]=_;rw[mD,tS rfl (show ev G (.v 0) [.im u,.im v]=U (oSt a b (oSp p x q y l) (oSp p' x' q' y' l') t) by rw[hu];rfl) (jw _ _ _ _ _ _ _ _ _ _ _ _ _)];rw[aC,jm];rfl
 have R:ev G (.tr (.meth (.v 1) zh .nil)) (view [.im u,.im v])=U (.bl ((p2:Int) == p3)):=by show ev G _ [.im u,.im v]=_;rw[mD,tS rfl (show ev G (.v 1) [.im u,.im v]=U (oSt a2 b2 (oSp p2 x2 q2 y2 l2) (oSp p3 x3 q3 y3 l3) t2) by rw[hv];rfl) (jw _ _ _ _ _ _ _ _ _ _ _ _ _)];rw[aC,jm];rfl
 rw[<-hu,<-hv];unfold t7;refine aL (B:=[.im u,.im v]) rfl ?_;cases h1:(p:Int) == p' with
 |true=>
  refine cJ (dA (b1.trans (by rw[h1])) (aN ?_)) λ_ z=>by cases z
  show bZ (G.fn yq [u,v])=_;rw[hu,hv,I];rfl
 |false=>
  refine aA (bM (b1.trans (by rw[h1])) aR) ?_;cases h2:(p2:Int) == p3 with
  |true=>
   refine cJ (dA (R.trans (by rw[h2])) (aN ?_)) λ_ z=>by cases z
   show bZ (G.fn yq [v,u])=_;rw[hu,hv,I];rfl
  |false=>refine aA (bM (R.trans (by rw[h2])) aR) (aN ?_);show bZ (G.fn yb [u,v])=_;rw[hu,hv,W];rfl
def sO{L:Nat}(ha:a=L\/a+1=L)(hb:b=L\/b+1=L):((a:Int) == (b:Int))=((a == L) == (b == L)):=by rw[jf,Bool.eq_iff_iff,vz,vz,Bool.eq_iff_iff,vz,vz];lia
def VU{L p p2 p3:Nat}{l l3:Int}(h1:p=L\/p+1=L)(h2:p'=L\/p'+1=L)(h3:p2=L\/p2+1=L)(z:p3=L\/p3+1=L):t7 p p' l l' p2 p3 l2 l3=crB (p == L) (p' == L) l l' (p2 == L) (p3 == L) l2 l3:=by unfold t7 crB oe;rw[sO h1 h2,sO h3 h1,sO z h1,sO h3 z,sO h1 h3,sO h2 h3]
def KB{p:Pl}:bx lv p=eG lv p\/bx lv p+1=eG lv p:=by rw[vG];split;exact .inl rfl;exact .inr rfl
def CS{p:Pl}:bx lv p=iW lv p\/bx lv p+1=iW lv p:=by rw[uI];split;exact .inr rfl;exact .inl rfl
def yF{p:Pl}:eG lv p≠iW lv p:=by rw[vG,uI];split<;>lia
def pI{t:Bool}{L:Nat}{p q:Pl}(h1:bx lv p=L\/bx lv p+1=L)(h2:bx lv q=L\/bx lv q+1=L):side t lv L p q=k8 t (bx lv p == L) (bx lv q == L) p.l q.l:=by
 have g:∀{a:Nat} (t:Bool),(a=L\/a+1=L)->(a+(if t then 0 else 1) == L)=((a == L) == t):=λ{a} t h=>by rw[Bool.eq_iff_iff,vz,vz];cases t;rw[w6];simp;lia;rw[vz];simp
 unfold side k8;rw[g t h1,g t h2]
def SV{p q:Pl}(h1:bx lv p=bx lv q)(h2:eg lv p=eg lv q):p.x=q.x/\p.y=q.y:=by cases lv;exact⟨h1,h2⟩;exact⟨h2,h1⟩
def agree{sp:Nat->Pl}(dist:∀i j,i<n->j<n->(sp i).x=(sp j).x->(sp i).y=(sp j).y->(sp i).l=(sp j).l->i=j){a b:Nat×Nat×Bool}(ha:a∈c6 c n n)(hb:b∈c6 c n n)(la:a.2.1<n)(lb:b.2.1<n)(ne:a≠b) (ma:meets a.2.2 (sp a.1) (sp a.2.1)=Y) (mb:meets b.2.2 (sp b.1) (sp b.2.1)=Y) (st:sI sp a b=Y):t7 (bx a.2.2 (sp a.1)) (bx a.2.2 (sp a.2.1)) (sp a.1).l (sp a.2.1).l (bx b.2.2 (sp b.1)) (bx b.2.2 (sp b.2.1)) (sp b.1).l (sp b.2.1).l=lL (lay J sp a) (lay Y sp a) (lay J sp b) (lay Y sp b):=by
 obtain⟨R,a2,lv⟩:=a;obtain⟨b1,b2,lv'⟩:=b;unfold sI at st;rw[uz,uz,vz,vz,vz]at st;obtain⟨e,eL,eA⟩:=st;dsimp only at *;subst e;have na:=AB ha;have nb:=AB hb;dsimp only at na nb;rw[xU,uz,uz,vz,vz,vz]at ma mb;obtain⟨⟨ca,_⟩,fa⟩:=ma;obtain⟨⟨cb,_⟩,fb⟩:=mb;have o1:=KB (lv:=lv) (p:=sp R);have o2:=CS (lv:=lv) (p:=sp a2);have o3:=KB (lv:=lv) (p:=sp b1);have W:=CS (lv:=lv) (p:=sp b2);rw[<-fa]at o2;rw[<-fb]at W;unfold lay;dsimp only;rw[pI o1 o2,pI o1 o2,pI o3 W,pI o3 W];rw[<-eL]at o3 W ⊢;have eq:∀{i j:Nat},i<n->j<n->(bx lv (sp i)=eG lv (sp R)\/bx lv (sp i)+1=eG lv (sp R))->(bx lv (sp j)=eG lv (sp R)\/bx lv (sp j)+1=eG lv (sp R))->eg lv (sp i)=eg lv (sp j)->(bx lv (sp i) == eG lv (sp R))=(bx lv (sp j) == eG lv (sp R))->((sp i).l:Int)=(sp j).l->i=j:=λ{i j} hi hj p q hc z hl=>by rw[Bool.eq_iff_iff,vz,vz]at z;obtain⟨u,v⟩:=SV (lv:=lv) (p:=sp i) (q:=sp j) zq hc;exact dist i j hi hj u v zq
 have no1:R≠b1:=λz=>ne (by
  subst z;have:a2=b2:=by
   rcases na.2 with ⟨u,v,_⟩|⟨u,v,_⟩<;>rcases nb.2 with ⟨u',I,_⟩|⟨u',I,_⟩
   lia;rw[v]at I;cases I;rw[v]at I;cases I;lia
  rw[this])
 have no4:a2≠b2:=λz=>no1 (by
  rcases na.2 with ⟨u,v,_⟩|⟨u,v,_⟩<;>rcases nb.2 with ⟨u',I,_⟩|⟨u',I,_⟩
  lia;rw[v]at I;cases I;rw[v]at I;cases I;lia)
 have no2:R≠b2:=λz=>by rw[<-z,<-eL]at fb;exact yF fb
 have no3:a2≠b1:=λz=>by rw[z,eL]at fa;exact yF fa
 rw[VU o1 o2 o3 W];exact BJ (λz h=>no1 (eq na.1 nb.1 o1 o3 eA z h)) (λz h=>no2 (eq na.1 lb o1 W (eA.trans cb) z h)) (λz h=>no3 (eq la nb.1 o2 o3 (ca.symm.trans eA) z h)) (λz h=>no4 (eq la lb o2 W (ca.symm.trans (eA.trans cb)) z h))
def OO{Hs:List aQ}{q:Int×Pl}(h:q∈ents w Hs):∃(p:Nat) (hp:aQ) (c:Cell),Hs[p]?=U hp/\hp[q.2.l]?=U c/\q.1=c.1/\q.2.x=p % w/\q.2.y=p / w:=by unfold ents at h;obtain⟨⟨hp,p⟩,m,hq⟩:=mem_flatMap.mp h;unfold gS at hq;obtain⟨⟨c,l⟩,z,rfl⟩:=w4.mp hq;exact⟨p,hp,c,by have:=List.mem_zipIdx_iff_getElem?.mp m;exact this,by have:=List.mem_zipIdx_iff_getElem?.mp z;exact this,rfl,rfl,rfl⟩
def UD{E:List (Int×Pl)}{k:Nat}{p:Pl}(h:p∈cm E k):((k:Int),p)∈E:=by unfold cm at h;obtain⟨q,hq,rfl⟩:=w4.mp h;obtain⟨m,e⟩:=mem_filter.mp hq;have e:=vz.mp e;rw[<-e];exact m
def zJ{Hs:List aQ}(dj:∀k,k<n->(cm (ents w Hs) k).length=1):∀i j,i<n->j<n->(ak (ents w Hs) i).x=(ak (ents w Hs) j).x->(ak (ents w Hs) i).y=(ak (ents w Hs) j).y->(ak (ents w Hs) i).l=(ak (ents w Hs) j).l->i=j:=λi j hi R ex W el=>by
 have m:∀{k},k<n->((k:Int),ak (ents w Hs) k)∈ents w Hs:=λ{k} hk=>UD (by have:=uG (dj k hk);exact this ▸ vj.mpr rfl);obtain⟨p,hp,c,h1,h2,h3,I,h5⟩:=OO (m hi);obtain⟨p',fg,c',k1,k2,k3,z,k5⟩:=OO (m R);dsimp only at h2 h3 I h5 k2 k3 z k5;have e:p=p':=by have a:=Nat.div_add_mod p w;have b:=Nat.div_add_mod p' w;rw[<-I,<-h5,ex,W,z,k5]at a;exact a.symm.trans b
 subst e;rw[h1]at k1;cases k1;rw[el,k2]at h2;cases h2;lia
def ON{α:Type}{f:α->D}{L:List α}{z:α}:hZ 0 (L.map f)=(List.range L.length).map λk=>D.tup [.int (k:Nat),f (L.getD k z)]:=List.ext_getElem? λi=>by rw[mE,um,um,vo];by_cases h:i<L.length;rw[uk h,wy h,<-getD_some (d:=z) (uk h)];rfl;rw[List.getElem?_eq_none zq,List.getElem?_eq_none (by rw[ve];lia)];rfl
include hT in
def BI{sp:Nat->Pl}(hL:L.length<=1000)(R:∀(k:Nat) a b,L[k]?=U a->b∈L.drop (k+1)->sI sp a b=Y->G.fn zk [bE sp a,bE sp b]=U (.ok (.bl (lL (lay J sp a) (lay Y sp a) (lay J sp b) (lay Y sp b))))):bL G 4 nN [.lst (L.map (bE sp))]=U (.ok (((List.range L.length).findSome? (eI sp L)).getD .non)):=by
 obtain⟨g1,g2⟩:=lD (enc:=λ(k:Nat)=>D.tup [.int (k:Nat),bE sp (L.getD k kl)]) (bind:=aX [1,2] Y) (body:=ex G kA) (λB=>∃s1 s2 s3,B=[.im (.lst (L.map (bE sp))),s1,s2,s3]) (eI sp L) (L:=List.range L.length) (B:=[.im (.lst (L.map (bE sp))),.un,.un,.un]) ⟨_,_,_,rfl⟩ (by
  rintro k hk B ⟨s1,s2,s3,rfl⟩;have hk:=xf.mp hk;obtain⟨a,ha⟩:∃a,L[k]?=U a:=⟨L[k],uk hk⟩;have hg:L.getD k kl=a:=getD_some ha;obtain⟨i1,i2⟩:=eE (enc:=bE sp) (bind:=aX [3] J) (body:=ex G tO) (λ_ B=>∃s3,B=[.im (.lst (L.map (bE sp))),.im (.int (k:Nat)),.im (bE sp a),s3]) (lG sp a) (vV a) (L:=L.drop (k+1)) (k:=0) (B:=[.im (.lst (L.map (bE sp))),.im (.int (k:Nat)),.im (bE sp a),s3]) ⟨_,rfl⟩ (by
   rintro i b B hb ⟨s3,rfl⟩;have mb:=u6 hb;have ea:ev G (.v 2) [.im (.lst (L.map (bE sp))),.im (.int (k:Nat)),.im (bE sp a),.im (bE sp b)]=U (bE sp a):=rfl;have eb:ev G (.v 3) [.im (.lst (L.map (bE sp))),.im (.int (k:Nat)),.im (bE sp a),.im (bE sp b)]=U (bE sp b):=rfl;have t:ev G (.and (.b .eq (.fld (.v 2) "track") (.fld (.v 3) "track")) (.tr (.call zk (.cons (.v 2) (.cons (.v 3) .nil))))) (view [.im (.lst (L.map (bE sp))),.im (.int (k:Nat)),.im (bE sp a),.im (bE sp b)])=U (.bl (lG sp a b)):=by show ev G _ [.im (.lst (L.map (bE sp))),.im (.int (k:Nat)),.im (bE sp a),.im (bE sp b)]=_;refine bJ ?_ λh=>?_;rw[aV,wJ hT ea,wJ hT eb];show af .eq (trD a.2.2 (sp a.1)) (trD b.2.2 (sp b.1))=_;unfold trD;rw[eq3,jf,jf];rfl;rw[mD,bR];show ((bZ (G.fn zk [bE sp a,bE sp b])).bind λx=>(fj x).map D.bl)=_;rw[R k a b ha mb h];rw[CT,aC,jm];rfl
   refine⟨[.im (.lst (L.map (bE sp))),.im (.int (k:Nat)),.im (bE sp a),.im (bE sp b)],rfl,λh=>dA (t.trans (by rw[h])) (aN ?_),λh=>⟨_,bM (t.trans (by rw[h])) aR,_,rfl⟩⟩;rw[fP,aJ,aJ,qB hT ea,aJ,mR hT ea,aJ,qB hT eb,aJ,mR hT eb];rfl)
  have I:ex G kA [.im (.lst (L.map (bE sp))),.im (.int (k:Nat)),.im (bE sp a),s3]=_:=bI (d:=.lst (cut (L.map (bE sp)) (U ((k+1:Nat):Int)) O)) rfl (by rw[mI,<-map_drop];exact dU);refine⟨[.im (.lst (L.map (bE sp))),.im (.int (k:Nat)),.im (bE sp a),s3],by rw[<-hg];rfl,λd h=>?_,λh=>?_⟩;unfold eI at h;rw[hg]at h;obtain⟨b,hb,rfl⟩:=v9.mp h;exact I.trans (i1 b hb);unfold eI at h;rw[hg]at h;obtain⟨B',z,W,rfl⟩:=i2 (Option.map_eq_none_iff.mp h);exact⟨_,I.trans z,_,_,_,rfl⟩)
 have I:=bI (G:=G) (a:=kA) (e:=.v 0) (B:=[.im (.lst (L.map (bE sp))),.un,.un,.un]) (tg:=[1,2]) (tp:=Y) (k:=.enum) (d:=.lst (L.map (bE sp))) (ds:=hZ 0 (L.map (bE sp))) rfl rfl;rw[ON (z:=kl)]at I;refine aL (B:=[.im (.lst (L.map (bE sp))),.un,.un,.un]) rfl ?_;cases h:(List.range L.length).findSome? (eI sp L) with
 |some d=>exact cJ (I.trans (g1 d h)) λ_ z=>by cases z
 |none=>obtain⟨B',g,_⟩:=g2 h;exact aA (I.trans g) (aN rfl)
noncomputable def uZ:IS:=(.seq (.set 5 (.call yo (.cons (.b .mul (.v 0) (.v 1)) (.cons (.v 4) .nil)))) (.seq (.g (.b .isnot (.v 5) (.L .non)) (.ret J (.v 5)) .nop) (.seq (.set 6 (.call yp (.cons (.v 0) (.cons (.v 1) (.cons (.v 2) (.cons (.v 4) .nil)))))) (.seq (.set 7 (.call y7 (.cons (.v 6) .nil))) (.seq (.g (.b .isnot (.v 7) (.L .non)) (.ret J (.v 7)) .nop) (.ret J (.call xy (.cons (.v 6) .nil))))))))
def NR{h:Int}{Hs:List aQ}(hc6:c<=64) (has:G.fn yo [.int ((c*r:Nat):Int),.lst (Hs.map hE)]=U (.ok (match (List.range (c*r)).find? (kQ (ents w Hs)) with|some k=>tF k|none=>.non)))
  (js:(∀k,k<c*r->(cm (ents w Hs) k).length=1)->G.fn yp [.int c,.int r,.int w,.lst (Hs.map hE)]=U (.ok (.lst (L.map (bE (ak (ents w Hs)))))))
  (I:G.fn y7 [.lst (L.map (bE (ak (ents w Hs))))]=U (.ok (match L.find? (eV (ak (ents w Hs))) with|some j=>pY j|none=>.non)))
  (fz:(∀k,k<c*r->(cm (ents w Hs) k).length=1)->(∀j∈L,meets j.2.2 (ak (ents w Hs) j.1) (ak (ents w Hs) j.2.1)=Y)->G.fn xy [.lst (L.map (bE (ak (ents w Hs))))]=U (.ok (((List.range L.length).findSome? (eI (ak (ents w Hs)) L)).getD .non))):
  bL G 8 uZ [.int c,.int r,.int w,.int h,.lst (Hs.map hE)]=U (.ok (vT c r w Hs L)):=by
 have e5:∀d,G.fn yo [.int ((c*r:Nat):Int),.lst (Hs.map hE)]=U (.ok d)->ex G (.set 5 (.call yo (.cons (.b .mul (.v 0) (.v 1)) (.cons (.v 4) .nil)))) [.im (.int c),.im (.int r),.im (.int w),.im (.int h),.im (.lst (Hs.map hE)),.un,.un,.un]=U (.nx [.im (.int c),.im (.int r),.im (.int w),.im (.int h),.im (.lst (Hs.map hE)),.im d,.un,.un]):=λd z=>by refine aM (d:=d) ?_;simp only[zm,eR (show c<=1000000 by lia),z]
 refine aL (B:=[.im (.int c),.im (.int r),.im (.int w),.im (.int h),.im (.lst (Hs.map hE)),.un,.un,.un]) rfl (aA (e5 _ has) ?_);unfold vT;cases h1:(List.range (c*r)).find? (kQ (ents w Hs)) with
 |some k=>exact cJ (dA rfl (aN rfl)) λ_ z=>by cases z
 |none=>
  have R:∀k,k<c*r->(cm (ents w Hs) k).length=1:=λk hk=>by have:=find?_eq_none.mp h1 k (xf.mpr hk);unfold kQ at this;simpa using this
  refine aA (bM rfl aR) (aA (aM (d:=.lst (L.map (bE (ak (ents w Hs))))) ?_) ?_);rw[bR];show bZ (G.fn yp [.int c,.int r,.int w,.lst (Hs.map hE)])=_;rw[js R];rfl;refine aA (aM (d:=match L.find? (eV (ak (ents w Hs))) with|some j=>pY j|none=>.non) ?_) ?_;rw[bR];show bZ (G.fn y7 [.lst (L.map (bE (ak (ents w Hs))))])=_;rw[I];rfl;cases h2:L.find? (eV (ak (ents w Hs))) with
  |some j=>exact cJ (dA rfl (aN rfl)) λ_ z=>by cases z
  |none=>refine aA (bM rfl aR) (aN ?_);rw[bR];show bZ (G.fn xy [.lst (L.map (bE (ak (ents w Hs))))])=_;rw[fz R λj W=>?_];rfl;have:=find?_eq_none.mp h2 j W;unfold eV at this;simpa using this
end
structure Hb (n m b:Nat) (Hs:List aQ):Prop where
 inn:∀h∈Hs,∀c∈h,0<=c.1/\c.1<(n:Int)
 few:∀h∈Hs,h.length<=b
 len:Hs.length=m
def hsD(Hs:List aQ):D:=.lst (Hs.map hE)
theorem Hb.set{b':Nat}{Hs:List aQ}(H:Hb n m b Hs){k:Nat}{h:aQ}(i:∀c∈h,0<=c.1/\c.1<(n:Int))(f:h.length<=b')(hb:b<=b'):Hb n m b' (Hs.set k h):=by refine⟨λg hg=>?_,λg hg=>?_,by rw[length_set];exact H.len⟩;rcases List.mem_or_eq_of_mem_set hg with hg|rfl;exact H.inn g hg;exact i;rcases List.mem_or_eq_of_mem_set hg with hg|rfl;exact vi (H.few g hg) hb;exact f
def Hb.mono{b':Nat}{Hs:List aQ}(H:Hb n m b Hs)(hb:b<=b'):Hb n m b' Hs:=⟨H.inn,λg hg=>vi (H.few g hg) hb,H.len⟩
def Hb.nil:Hb n m 0 (List.replicate m []):=⟨λh hm c hc=>by rw[List.eq_of_mem_replicate hm]at hc;exact absurd hc x8,λh hm=>by rw[List.eq_of_mem_replicate hm];exact uq _,length_replicate⟩
def kZ{Hs:List aQ}:cg (Hs.map λh=>h.map au)=hsD Hs:=by unfold cg hsD;rw[x9];rfl
def uK{sp:List Spot}{f:Spot->Nat}(h:sp≠[]):∃w:Nat,1<=w/\(∀s∈sp,f s<w)/\(∃s∈sp,f s+1=w)/\bf .max [.lst (sp.map λs=>D.int (f s:Nat))]=U (.int ((w:Int)-1)):=by
 have:∀sp:List Spot,sp≠[]->∃w:Nat,(∀s∈sp,f s<w)/\∃s∈sp,f s+1=w:=λsp=>by
  induction sp with
  |nil=>exactλz=>absurd rfl z
  |cons s r R=>intro _;by_cases hr:r=[];subst hr;exact⟨f s+1,λt I=>by rw[vj.mp I];lia,s,wu,rfl⟩;obtain⟨w,h1,t,I,e⟩:=R hr;by_cases z:f s<w;exact⟨w,λu hu=>(vk.mp hu).elim (λq=>by rw[q];exact z) (h1 u),t,ux _ I,e⟩;exact⟨f s+1,λu hu=>(vk.mp hu).elim (λq=>by rw[q];lia) λq=>by have:=h1 u q;lia,s,wu,rfl⟩
 obtain⟨w,h1,s,hs,e⟩:=this sp h;exact⟨w,zq,h1,⟨s,hs,e⟩,LB (f:=λs:Spot=>((f s:Nat):Int)) (λs hs=>by have:=h1 s hs;lia) ⟨s,hs,zq⟩⟩
section
variable {G:GS}
def vM{B:List Sl}{sp:List Spot}(h1:slot B v=U (bX sp))(hm:bf .max [.lst (sp.map λs=>D.int (s.x:Nat))]=U (.int ((w:Int)-1))):ev G (.b .add (.L (.int 1)) (.ρ .max (.cons (.c 2 [] [1] J .seq (.v v) (.L (.bl Y)) (.ix (.v 1) (.L (.int 0)))) .nil))) B=U (.int (w:Nat)):=by rw[aV,dN,aJ,vR (f:=λs=>((s.x:Nat):Int)) h1 λs _=>⟨[.un,.im (b7 s)],rfl,rfl⟩];simp only[zm,hm];congr 2;lia
def vP{B:List Sl}{sp:List Spot}(h1:slot B v=U (bX sp))(hm:bf .max [.lst (sp.map λs=>D.int (s.y:Nat))]=U (.int ((w:Int)-1))):ev G (.b .add (.L (.int 1)) (.ρ .max (.cons (.c 2 [] [1] J .seq (.v v) (.L (.bl Y)) (.ix (.v 1) (.L (.int 1)))) .nil))) B=U (.int (w:Nat)):=by rw[aV,dN,aJ,vR (f:=λs=>((s.y:Nat):Int)) h1 λs _=>⟨[.un,.im (b7 s)],rfl,rfl⟩];simp only[zm,hm];congr 2;lia
noncomputable def DT:IS:=(.napp 4 (.b .add (.b .mul (.ix (.ix (.v 0) (.v 3)) (.L (.int 1))) (.v 1)) (.ix (.ix (.v 0) (.v 3)) (.L (.int 0)))) (.tup (.cons (.v 3) (.cons (.ix (.ix (.v 0) (.v 3)) (.L (.int 3))) (.cons (.ix (.ix (.v 0) (.v 3)) (.L (.int 4))) .nil)))))
def uY:IS:=(.seq (.set 1 (.b .add (.L (.int 1)) (.ρ .max (.cons (.c 2 [] [1] J .seq (.v 0) (.L (.bl Y)) (.ix (.v 1) (.L (.int 0)))) .nil)))) (.seq (.set 2 (.b .add (.L (.int 1)) (.ρ .max (.cons (.c 2 [] [1] J .seq (.v 0) (.L (.bl Y)) (.ix (.v 1) (.L (.int 1)))) .nil)))) (.seq (.nset 4 (.c 2 [] [1] J .rng (.tup (.cons (.b .mul (.v 1) (.v 2)) .nil)) (.L (.bl Y)) (.lst .nil))) (.seq (.loop [5,3] Y .seq (.ρ .sorted (.cons (.c 3 [(2,0)] [1] J .rng (.tup (.cons (.ρ .len (.cons (.v 0) .nil)) .nil)) (.L (.bl Y)) (.tup (.cons (.b .sub (.L (.int 0)) (.ix (.ix (.v 2) (.v 1)) (.L (.int 2)))) (.cons (.v 1) .nil)))) .nil)) DT) (.nret 4)))))
def pE(sp:List Spot)(k:Nat):Int×Int:=(0-jD sp (k:Int),(k:Int))
def UT{sp:List Spot}:((List.range n).map (pE sp)).Nodup:=by refine List.Pairwise.map _ (λa b h z=>h ?_) List.nodup_range;have:(a:Int)=b:=congrArg (·.2) z;lia
def MJ{sp:List Spot}{h:Nat}(hn:sp.length=n)(n1:1<=n)(I:n<=64)(hw1:1<=w)(hw:w<=64)(z:h<=64)(hx:∀s∈sp,s.x<w)(hy:∀s∈sp,s.y<h) (mx:bf .max [.lst (sp.map λs=>D.int (s.x:Nat))]=U (.int ((w:Int)-1))) (my:bf .max [.lst (sp.map λs=>D.int (s.y:Nat))]=U (.int ((h:Int)-1))):∃Hs,Hb n (w*h) n Hs/\bL G 6 uY [bX sp]=U (.ok (hsD Hs)):=by
 have wh:w*h<=64*64:=mul_le_mul hw z;have src:∀{s4 s5:Sl},ev G (.ρ .sorted (.cons (.c 3 [(2,0)] [1] J .rng (.tup (.cons (.ρ .len (.cons (.v 0) .nil)) .nil)) (.L (.bl Y)) (.tup (.cons (.b .sub (.L (.int 0)) (.ix (.ix (.v 2) (.v 1)) (.L (.int 2)))) (.cons (.v 1) .nil)))) .nil)) [.im (bX sp),.im (.int (w:Nat)),.im (.int (h:Nat)),.un,s4,s5]=U (.lst ((jC ((List.range n).map (pE sp))).map fQ)):=λ{s4 s5}=>by rw[dN,aJ,eS (L:=List.range n) (λ(k:Nat)=>D.int k) (λk=>fQ (pE sp k)) (s:=.tup [.int (n:Nat)]) ?_ (cX zq) λk hk=>⟨[.un,.im (.int (k:Nat)),.im (bX sp)],rfl,rfl,?_⟩];show kE [.lst ((List.range n).map λk=>fQ (pE sp k))]=_;show (oK ((List.range n).map λk=>fQ (pE sp k))).map D.lst=_;unfold oK;rw[show (List.range n).map (λk=>fQ (pE sp k))=((List.range n).map (pE sp)).map fQ by rw[x9];rfl,sN];show (if kK ((List.range n).map (pE sp))=Y then U ((jC ((List.range n).map (pE sp))).map fQ) else O).map D.lst=_;rw[if_pos];rfl;unfold kK;rw[uz,vd,vd,uo,ve];exact⟨I,UT⟩;unfold bX;simp only[zm,uo,hn];have hk:=xf.mp hk;obtain⟨s,hs⟩:∃s,sp[k]?=U s:=⟨sp[k],uk zq⟩;have e1:=WN hs;unfold bX fQ pE;simp only[zm,e1,YU hs];rfl
 have pm:=iB ((List.range n).map (pE sp));obtain⟨B',g,Hs,s3,s5,rfl,H⟩:=hU (enc:=fQ) (bind:=aX [5,3] Y) (body:=ex G DT) (λk B=>∃Hs s3 s5,B=[.im (bX sp),.im (.int (w:Nat)),.im (.int (h:Nat)),s3,.mm (Hs.map λh=>h.map au),s5]/\Hb n (w*h) k Hs) (L:=jC ((List.range n).map (pE sp))) (B:=[.im (bX sp),.im (.int (w:Nat)),.im (.int (h:Nat)),.un,.mm (List.replicate (w*h) []),.un]) ⟨List.replicate (w*h) [],_,_,by rw[map_replicate];rfl,Hb.nil⟩ (by
  rintro i q hq B ⟨Hs,s3,s5,rfl,H⟩;have hl:i<n:=by have:=(u0.mp hq).1;rwa [pm.length_eq,uo,ve]at this
  obtain⟨k,hk,rfl⟩:=w4.mp (pm.mem_iff.mp (u6 hq));have hk:=xf.mp hk;obtain⟨s,hs⟩:∃s,sp[k]?=U s:=⟨sp[k],uk zq⟩;have e1:=WN hs;have W:=u6 hs;have hx:=hx s W;have hy:=hy s W;have hp:s.y*w+s.x<w*h:=by have:=Nat.mul_le_mul_right w (show s.y+1<=h from hy);rw[Nat.succ_mul,Nat.mul_comm h w]at this;lia
  obtain⟨z,eh⟩:∃z,Hs[s.y*w+s.x]?=U z:=⟨_,uk (by rw[H.len];exact hp)⟩;have mh:=u6 eh;have few:=H.few z mh;have R:(Hs.map λh=>h.map au)[s.y*w+s.x]?=U (z.map au):=by rw[um,eh];rfl
  refine⟨[.im (bX sp),.im (.int (w:Nat)),.im (.int (h:Nat)),.im (.int (k:Nat)),.mm (Hs.map λh=>h.map au),.im (.int (0-jD sp (k:Int)))],rfl,_,DJ (k:=s.y*w+s.x) (d:=au ((k:Int),s.e,s.n)) (ls:=Hs.map λh=>h.map au) ?_ ?_ rfl R (by rw[uo];lia),Hs.set (s.y*w+s.x) (z++[((k:Int),s.e,s.n)]),.im (.int (k:Nat)),.im (.int (0-jD sp (k:Int))),?_,H.set (b':=i+1) (λc hc=>?_) (by rw[vp,length_singleton];lia) zq⟩;unfold bX;simp only[zm,e1];rfl;show ev G _ [.im (bX sp),.im (.int (w:Nat)),.im (.int (h:Nat)),.im (.int (k:Nat)),.im (cg (Hs.map λh=>h.map au)),.im (.int (0-jD sp (k:Int)))]=_;unfold bX;simp only[zm,e1];unfold b7;simp only[Pg.at5.1,Pg.at5.2.1,aC,yy,eR (show s.y<=1000000 by lia)];rfl;rw[map_set,x5];rfl;rcases xp.mp hc with hc|hc;exact H.inn z mh c hc;rw[vj.mp hc];exact⟨by show (0:Int)<=(k:Int);lia,by show (k:Int)<(n:Int);lia⟩)
 rw[pm.length_eq,uo,ve]at H;refine⟨Hs,H,aL (B:=[.im (bX sp),.un,.un,.un,.un,.un]) rfl (aA (aM (vM rfl mx)) (aA (aM (vP rfl my)) (aA (vL (nC (n:=w*h) zq ?_)) (aA ((bI src dU).trans g) ((pQ rfl).trans ?_)))))⟩;simp only[List.set];simp only[zm,eR (show w<=1000000 by lia)];rw[kZ]
end
def CV{α:Type}{xs:List α}{a b:Option Int}{x:α}(h:x∈cut xs a b):x∈xs:=mem_of_mem_drop (mem_of_mem_take h)
def aFI{a b:List D}(h:a.length+b.length<=1000000):af .add (.lst a) (.lst b)=U (.lst (a++b)):=if_pos h
section
variable {G:GS}
def wL{B:List Sl}{e i:IE}{xs:List D}{k:Nat}(h1:ev G e B=U (.lst xs))(h2:ev G i B=U (.int (k:Nat))):ev G (.sl e J (.L .non) Y i) B=U (.lst (xs.take k)):=by rw[DK,h1,h2];show U (D.lst (cut xs O (U (k:Int))))=_;rw[Pg.OT]
def lQ{B:List Sl}{e i:IE}{xs:List D}{k:Nat}(h1:ev G e B=U (.lst xs))(h2:ev G i B=U (.int (k:Nat))):ev G (.sl e Y i J (.L .non)) B=U (.lst (xs.drop k)):=by rw[DK,h1,h2];show U (D.lst (cut xs (U (k:Int)) O))=_;rw[K08.mI]
def oS{B:List Sl}{e i:IE}{xs:List D}{k:Nat}{d:D}(h1:ev G e B=U (.lst xs))(h2:ev G i B=U (.int (k:Nat)))(h3:xs[k]?=U d):ev G (.ix e i) B=U d:=by rw[kR,h1,h2];exact gH h3
def iU{B:List Sl}{e f:IE}{a b:List D}(h1:ev G e B=U (.lst a))(h2:ev G f B=U (.lst b))(h:a.length+b.length<=1000000):ev G (.b .add e f) B=U (.lst (a++b)):=by rw[aV,h1,h2];exact aFI h
def vS{B:List Sl}{d:Nat}{xs:List D}(hd:0<d)(hd2:d<1000)(h0:slot B v=U (.lst xs))(h1:slot B 1=U (.int (a:Nat)))(hm:xs.length=m)(m1:1<=m):ev G (.b .mod (.b .fdiv (.v 1) (.L (.int (d:Nat)))) (.ρ .len (.cons (.v v) .nil))) B=U (.int ((a / d % m:Nat):Int)):=by rw[aV,aV,dN,aJ,bW,bW,h0,h1];simp only[zm,hm];rw[kH hd zq,aC,cV m1]
def uM{B:List Sl}{Hs:List aQ}(h:slot B v=U (hsD Hs)):ev G (.c 2 [] [1] J .seq (.v v) (.L (.bl Y)) (.ρ .list (.cons (.v 1) .nil))) B=U (hsD Hs):=eS (L:=Hs) hE hE (s:=hsD Hs) (by rw[bW];exact h) (by unfold hsD;exact dU) λh _=>⟨[.un,.im (hE h)],rfl,rfl,rfl⟩
def eq_nil{h:aQ}:af .eq (hE h) (.lst [])=U (.bl (h == [])):=by
 show (if plain (hE h)&&plain (.lst []) then U (D.bl (cu (hE h) (.lst []))) else O)=_;rw[if_pos];cases h<;>rfl
 rw[uz];refine⟨?_,rfl⟩;unfold hE plain;rw[flat,all_map,all_eq_true];exactλc _=>rfl
noncomputable def HM:IS:=(.g (.and (.b .eq (.v 2) (.L (.int 2))) (.b .gt (.ρ .len (.cons (.v 3) .nil)) (.L (.int 1)))) (.seq (.set 4 (.b .mod (.v 1) (.b .sub (.ρ .len (.cons (.v 3) .nil)) (.L (.int 1))))) (.set 3 (.b .add (.b .add (.sl (.v 3) J (.L .non) Y (.v 4)) (.lst (.cons (.ix (.v 3) (.b .add (.v 4) (.L (.int 1)))) (.cons (.ix (.v 3) (.v 4)) .nil)))) (.sl (.v 3) Y (.b .add (.v 4) (.L (.int 2))) J (.L .non))))) .nop)
noncomputable def HL:IS:=(.g (.b .eq (.v 2) (.L (.int 6))) (.set 3 (.b .add (.sl (.v 3) Y (.L (.int 1)) J (.L .non)) (.sl (.v 3) J (.L .non) Y (.L (.int 1))))) .nop)
noncomputable def HK:IS:=(.g (.b .eq (.v 2) (.L (.int 4))) (.seq (.set 4 (.b .mod (.v 1) (.ρ .len (.cons (.v 3) .nil)))) (.set 3 (.b .add (.sl (.v 3) J (.L .non) Y (.v 4)) (.sl (.v 3) Y (.b .add (.v 4) (.L (.int 1))) J (.L .non))))) .nop)
def qS:IS:=(.seq (.set 3 (.ix (.v 0) (.b .mod (.b .fdiv (.v 1) (.L (.int 7))) (.ρ .len (.cons (.v 0) .nil))))) (.seq (.g (.b .eq (.v 3) (.lst .nil)) (.ret J (.v 0)) .nop) (.seq HM (.seq HL (.seq HK (.seq (.setm 5 (.c 2 [] [1] J .seq (.v 0) (.L (.bl Y)) (.ρ .list (.cons (.v 1) .nil)))) (.seq (.put 5 (.b .mod (.b .fdiv (.v 1) (.L (.int 7))) (.ρ .len (.cons (.v 0) .nil))) (.v 3)) (.M 5))))))))
def Sub(h' h:aQ):Prop:=∀c∈h',c∈h
def fl(Hs:List aQ)(a:Nat)(y:Int)(h:aQ)(s4 s5:Sl):List Sl:=[.im (hsD Hs),.im (.int (a:Nat)),.im (.int y),.im (hE h),s4,s5]
def eqL{B:List Sl}{k:Int}(h:slot B v=U (.int y)):ev G (.b .eq (.v v) (.L (.int k))) B=U (.bl (y == k)):=by rw[aV,bW,h];rfl
def aFx{Hs:List aQ}{h:aQ}{s4:Sl}(hl:h.length<=1000):∃h' W,ex G HM (fl Hs a y h s4 .un)=U (.nx (fl Hs a y h' W .un))/\Sub h' h/\h'.length=h.length:=by
 have t:ev G (.and (.b .eq (.v 2) (.L (.int 2))) (.b .gt (.ρ .len (.cons (.v 3) .nil)) (.L (.int 1)))) (view (fl Hs a y h s4 .un))=U (.bl ((y == 2)&&decide (1<h.length))):=by refine bJ (eqL rfl) λ_=>?_;show U (D.bl (decide ((1:Int)<((h.map au).length:Nat))))=_;rw[uo];congr 2;exact decide_eq_decide.mpr zq
 cases R:((y == 2)&&decide (1<h.length)) with
 |false=>exact⟨h,s4,bM (t.trans (by rw[R])) aR,λ_ z=>z,rfl⟩
 |true=>
  rw[R]at t;rw[uz,vd]at R;obtain⟨_,hl1⟩:=R;obtain⟨k,hk⟩:∃k,k=a % (h.length-1):=⟨_,rfl⟩;have k1:k<h.length-1:=by rw[hk];exact mod_lt _ zq
  obtain⟨x1,e1⟩:∃x,h[k+1]?=U x:=⟨_,uk zq⟩;obtain⟨x0,e0⟩:∃x,h[k]?=U x:=⟨_,uk zq⟩;refine⟨h.take k++[x1,x0]++h.drop (k+2),.im (.int (k:Nat)),dA t (aA (B':=fl Hs a y h (.im (.int (k:Nat))) .un) (aM (d:=.int (k:Nat)) ?_) ((aM (d:=hE (h.take k++[x1,x0]++h.drop (k+2))) ?_).trans rfl)),λc hc=>?_,?_⟩;have e:ev G (.b .sub (.ρ .len (.cons (.v 3) .nil)) (.L (.int 1))) (fl Hs a y h s4 .un)=U (.int ((h.length-1:Nat):Int)):=by show U (D.int (((h.map au).length:Int)-1))=_;rw[uo];congr 2;lia
  rw[aV,e];show af .mod (.int (a:Nat)) (.int ((h.length-1:Nat):Int))=_;rw[cV zq,hk];have I:ev G (.v 3) (fl Hs a y h (.im (.int (k:Nat))) .un)=U (.lst (h.map au)):=rfl;have v4:ev G (.v 4) (fl Hs a y h (.im (.int (k:Nat))) .un)=U (.int (k:Nat)):=rfl;have w1:ev G (.b .add (.v 4) (.L (.int 1))) (fl Hs a y h (.im (.int (k:Nat))) .un)=U (.int ((k+1:Nat):Int)):=rfl;have w2:ev G (.b .add (.v 4) (.L (.int 2))) (fl Hs a y h (.im (.int (k:Nat))) .un)=U (.int ((k+2:Nat):Int)):=rfl;have z1:=oS I w1 (d:=au x1) (by rw[um,e1];rfl);have z0:=oS I v4 (d:=au x0) (by rw[um,e0];rfl);have zl:ev G (.lst (.cons (.ix (.v 3) (.b .add (.v 4) (.L (.int 1)))) (.cons (.ix (.v 3) (.v 4)) .nil))) (fl Hs a y h (.im (.int (k:Nat))) .un)=U (.lst [au x1,au x0]):=by rw[OI,aJ,z1,aJ,z0];rfl
  have r:=iU (iU (wL I v4) zl (by rw[w9,uo];simp;lia)) (lQ I w2) (by rw[vp,w9,xj,uo];simp;lia);refine r.trans ?_;unfold hE;rw[x5,x5,map_take,map_drop];rfl;rcases xp.mp hc with hc|hc;rcases xp.mp hc with hc|hc;exact mem_of_mem_take hc;rcases vk.mp hc with rfl|hc;exact u6 e1;rw[vj.mp hc];exact u6 e0;exact mem_of_mem_drop hc;rw[vp,vp,w9,xj];simp;lia
def aFw{Hs:List aQ}{h:aQ}{s4:Sl}(hl:h.length<=1000):∃h',ex G HL (fl Hs a y h s4 .un)=U (.nx (fl Hs a y h' s4 .un))/\Sub h' h/\h'.length=h.length:=by
 have t:ev G (.b .eq (.v 2) (.L (.int 6))) (view (fl Hs a y h s4 .un))=U (.bl (y == 6)):=eqL rfl;cases R:(y == 6) with
 |false=>exact⟨h,bM (t.trans (by rw[R])) aR,λ_ z=>z,rfl⟩
 |true=>refine⟨h.drop 1++h.take 1,dA (t.trans (by rw[R])) ((aM (d:=hE (h.drop 1++h.take 1)) ?_).trans rfl),λc hc=>?_,?_⟩;have I:ev G (.v 3) (fl Hs a y h s4 .un)=U (.lst (h.map au)):=rfl;have w1:ev G (.L (.int 1)) (fl Hs a y h s4 .un)=U (.int ((1:Nat):Int)):=rfl;refine(iU (lQ I w1) (wL I w1) (by rw[w9,xj,uo];lia)).trans ?_;unfold hE;rw[x5,map_take,map_drop];rcases xp.mp hc with hc|hc;exact mem_of_mem_drop hc;exact mem_of_mem_take hc;rw[vp,w9,xj];lia
def aFv{Hs:List aQ}{h:aQ}{s4:Sl}(hl:h.length<=1000)(h1:1<=h.length):∃h' I,ex G HK (fl Hs a y h s4 .un)=U (.nx (fl Hs a y h' I .un))/\Sub h' h/\h'.length<=h.length:=by
 have t:ev G (.b .eq (.v 2) (.L (.int 4))) (view (fl Hs a y h s4 .un))=U (.bl (y == 4)):=eqL rfl;cases W:(y == 4) with
 |false=>exact⟨h,s4,bM (t.trans (by rw[W])) aR,λ_ z=>z,uq _⟩
 |true=>
  obtain⟨k,hk⟩:∃k,k=a % h.length:=⟨_,rfl⟩;refine⟨h.take k++h.drop (k+1),.im (.int (k:Nat)),dA (t.trans (by rw[W])) (aA (B':=fl Hs a y h (.im (.int (k:Nat))) .un) (aM (d:=.int (k:Nat)) ?_) ((aM (d:=hE (h.take k++h.drop (k+1))) ?_).trans rfl)),λc hc=>?_,?_⟩;have e:ev G (.ρ .len (.cons (.v 3) .nil)) (fl Hs a y h s4 .un)=U (.int ((h.length:Nat):Int)):=by show U (D.int ((h.map au).length:Nat))=_;rw[uo]
  rw[aV,e];show af .mod (.int (a:Nat)) (.int ((h.length:Nat):Int))=_;rw[cV zq,hk];have R:ev G (.v 3) (fl Hs a y h (.im (.int (k:Nat))) .un)=U (.lst (h.map au)):=rfl;have v4:ev G (.v 4) (fl Hs a y h (.im (.int (k:Nat))) .un)=U (.int (k:Nat)):=rfl;have w1:ev G (.b .add (.v 4) (.L (.int 1))) (fl Hs a y h (.im (.int (k:Nat))) .un)=U (.int ((k+1:Nat):Int)):=rfl;refine(iU (wL R v4) (lQ R w1) (by rw[w9,xj,uo];lia)).trans ?_;unfold hE;rw[x5,map_take,map_drop];rcases xp.mp hc with hc|hc;exact mem_of_mem_take hc;exact mem_of_mem_drop hc;rw[vp,w9,xj];lia
def FZ{Hs:List aQ}(H:Hb n m b Hs)(m1:1<=m)(hb:b<=100):∃aw,Hb n m b aw/\bL G 6 qS [hsD Hs,.int (a:Nat),.int y]=U (.ok (hsD aw)):=by
 have lt:a / 7 % m<m:=mod_lt _ m1;obtain⟨h,eh⟩:∃h,Hs[a / 7 % m]?=U h:=⟨_,uk (by rw[H.len];exact lt)⟩;have W:=u6 eh;have few:=H.few h W;have I:∀{B:List Sl},slot B 0=U (hsD Hs)->slot B 1=U (.int (a:Nat))->ev G (.b .mod (.b .fdiv (.v 1) (.L (.int 7))) (.ρ .len (.cons (.v 0) .nil))) B=U (.int ((a / 7 % m:Nat):Int)):=λh0 h1=>vS (d:=7) zu zu h0 h1 (by rw[uo];exact H.len) m1;have f3:ex G (.set 3 (.ix (.v 0) (.b .mod (.b .fdiv (.v 1) (.L (.int 7))) (.ρ .len (.cons (.v 0) .nil))))) [.im (hsD Hs),.im (.int (a:Nat)),.im (.int y),.un,.un,.un]=U (.nx (fl Hs a y h .un .un)):=aM (d:=hE h) (oS (xs:=Hs.map hE) rfl (I rfl rfl) (by rw[um,eh];rfl));have t:ev G (.b .eq (.v 3) (.lst .nil)) (view (fl Hs a y h .un .un))=U (.bl (h == [])):=by show af .eq (hE h) (.lst [])=_;exact eq_nil
 cases R:(h == []) with
 |true=>exact⟨Hs,H,aL (B:=[.im (hsD Hs),.im (.int (a:Nat)),.im (.int y),.un,.un,.un]) rfl (aA f3 (cJ (dA (t.trans (by rw[R])) (aN rfl)) λ_ z=>by cases z))⟩
 |false=>
  have h1:1<=h.length:=by
   cases h with
   |nil=>cases R
   |cons _ _=>simp
  obtain⟨h2,s2,g2,b2,l2⟩:=aFx (G:=G) (Hs:=Hs) (a:=a) (y:=y) (h:=h) (s4:=.un) zq;obtain⟨h3,g3,b3,l3⟩:=aFw (G:=G) (Hs:=Hs) (a:=a) (y:=y) (h:=h2) (s4:=s2) zq;obtain⟨h4,s4,g4,b4,l4⟩:=aFv (G:=G) (Hs:=Hs) (a:=a) (y:=y) (h:=h3) (s4:=s2) zq zq;refine⟨Hs.set (a / 7 % m) h4,H.set (λc hc=>H.inn h W c (b2 c (b3 c (b4 c hc)))) zq (uq _),aL (B:=[.im (hsD Hs),.im (.int (a:Nat)),.im (.int y),.un,.un,.un]) rfl (aA f3 (aA (bM (t.trans (by rw[R])) aR) (aA g2 (aA g3 (aA g4 (aA (kG (ds:=Hs.map hE) (uM (Hs:=Hs) rfl)) (aA (vK (ds:=Hs.map hE) (d:=hE h4) (j:=a / 7 % m) rfl (I rfl rfl) rfl ?_) ((pP rfl).trans ?_))))))))⟩;unfold ixN;rw[if_pos zq,if_pos (by rw[uo,H.len];lia)];rfl;unfold hsD;rw[map_set]
end
noncomputable def YS:IS:=(.nfrz 4 (.seq (.set 5 (.b .mod (.v 1) (.v 3))) (.seq (.set 6 (.b .mod (.b .fdiv (.v 1) (.L (.int 29))) (.v 3))) (.seq (.set 8 (.c 4 [(2,5),(3,6)] [1] J .rng (.tup (.cons (.v 3) .nil)) (.L (.bl Y)) (.q (.b .eq (.v 1) (.v 2)) (.v 3) (.q (.b .eq (.v 1) (.v 3)) (.v 2) (.v 1))))) (.ret Y (.c 3 [(2,8)] [1] J .seq (.v 4) (.L (.bl Y)) (.c 3 [(2,2)] [1] J .seq (.v 1) (.L (.bl Y)) (.tup (.cons (.ix (.v 2) (.ix (.v 1) (.L (.int 0)))) (.cons (.ix (.v 1) (.L (.int 1))) (.cons (.ix (.v 1) (.L (.int 2))) .nil)))))))))))
noncomputable def YR:IS:=(.nfrz 4 (.seq (.set 9 (.b .mod (.v 1) (.v 3))) (.seq (.set 10 (.b .eq (.b .mod (.b .fdiv (.v 1) (.L (.int 29))) (.L (.int 2))) (.L (.int 1)))) (.ret Y (.c 4 [(2,9),(3,10)] [1] J .seq (.v 4) (.L (.bl Y)) (.c 6 [(4,2),(5,3)] [1,2,3] Y .seq (.v 1) (.L (.bl Y)) (.tup (.cons (.v 1) (.cons (.b .ne (.v 2) (.and (.b .eq (.v 1) (.v 4)) (.v 5))) (.cons (.b .ne (.v 3) (.and (.b .eq (.v 1) (.v 4)) (.not (.tr (.v 5))))) .nil))))))))))
noncomputable def YQ:IS:=(.nfrz 4 (.seq (.set 5 (.b .mod (.v 1) (.v 3))) (.seq (.set 6 (.b .mod (.b .fdiv (.v 1) (.L (.int 29))) (.v 3))) (.ret Y (.c 4 [(2,5),(3,6)] [1] J .seq (.v 4) (.L (.bl Y)) (.c 4 [(2,2),(3,3)] [1] J .seq (.v 1) (.L (.bl Y)) (.tup (.cons (.q (.b .eq (.ix (.v 1) (.L (.int 0))) (.v 3)) (.v 2) (.ix (.v 1) (.L (.int 0)))) (.cons (.ix (.v 1) (.L (.int 1))) (.cons (.ix (.v 1) (.L (.int 2))) .nil))))))))))
noncomputable def YO:IS:=(.seq (.nput 4 (.b .mod (.b .fdiv (.v 1) (.L (.int 7))) (.ρ .len (.cons (.v 4) .nil)))) (.nret 4))
noncomputable def YN:IS:=(.seq (.nins 4 (.b .mod (.b .fdiv (.v 1) (.L (.int 7))) (.ρ .len (.cons (.v 4) .nil))) (.b .mul (.b .mod (.v 1) (.L (.int 2))) (.ρ .len (.cons (.ix (.v 4) (.b .mod (.b .fdiv (.v 1) (.L (.int 7))) (.ρ .len (.cons (.v 4) .nil)))) .nil))) (.tup (.cons (.b .mod (.v 1) (.v 3)) (.cons (.L (.bl J)) (.cons (.L (.bl Y)) .nil))))) (.nret 4))
noncomputable def YM:IS:=(.nfrz 4 (.seq (.set 7 (.b .mod (.v 1) (.ρ .len (.cons (.v 4) .nil)))) (.seq (.set 11 (.b .mod (.b .fdiv (.v 1) (.L (.int 29))) (.ρ .len (.cons (.v 4) .nil)))) (.ret Y (.c 5 [(2,11),(3,7),(4,4)] [1] J .rng (.tup (.cons (.ρ .len (.cons (.v 4) .nil)) .nil)) (.L (.bl Y)) (.q (.b .eq (.v 1) (.v 3)) (.ix (.v 4) (.v 2)) (.q (.b .eq (.v 1) (.v 2)) (.ix (.v 4) (.v 3)) (.ix (.v 4) (.v 1)))))))))
def jJ:IS:=(.seq (.nset 4 (.c 2 [] [1] J .seq (.v 0) (.L (.bl Y)) (.ρ .list (.cons (.v 1) .nil)))) (.seq (.g (.b .eq (.v 2) (.L (.int 1))) YS .nop) (.seq (.g (.b .eq (.v 2) (.L (.int 3))) YR .nop) (.seq (.g (.b .eq (.v 2) (.L (.int 8))) YQ .nop) (.seq (.g (.b .eq (.v 2) (.L (.int 9))) YO .nop) (.seq (.g (.b .eq (.v 2) (.L (.int 5))) YN .nop) (.seq (.g (.b .eq (.v 2) (.L (.int 7))) YM .nop) (.nfrz 4 (.ret J (.call yj (.cons (.v 4) (.cons (.v 1) (.cons (.v 2) .nil)))))))))))))
section
variable {G:GS}
def VM{B:List Sl}{x:Nat}{st:IS}{ls:List (List D)}(h:B[x]?=U (.mm ls)):ex G (.nfrz x st) B=ex G st ((B.map fL).set x (.im (cg ls))):=by show (match B[x]? with|some (.mm ls)=>ex G st ((B.map fL).set x (.im (cg ls)))|_=>O)=_;rw[h]
def CY{k:Nat}(h:k<n):ixN n (k:Int)=U k:=by unfold ixN;rw[if_pos zq,if_pos zq];rfl
def VJ{B:List Sl}{x k:Nat}{i:IE}{ls:List (List D)}(h2:ev G i (viewN B)=U (.int (k:Nat)))(h3:B[x]?=U (.mm ls))(hk:k<ls.length):ex G (.nput x i) B=U (.nx ((B.map fL).set x (.mm (ls.set k [])))):=by show (match ev G i (viewN B),B[x]? with|some (.int k),U (.mm ls)=>(ixN ls.length k).map λj=>Out.nx ((B.map fL).set x (.mm (ls.set j [])))|_,_=>O)=_;rw[h2,h3];show (ixN ls.length (k:Int)).map _=_;rw[CY hk];rfl
def VL{B:List Sl}{x k:Nat}{i j e:IE}{d:D}{ls:List (List D)}{l:List D}(h1:ev G e B=U d)(h2:ev G i (viewN B)=U (.int (k:Nat)))(z:ev G j (viewN B)=U (.int (m:Nat)))(h3:B[x]?=U (.mm ls))(hl:ls[k]?=U l)(hz:l.length<1000000)(hm:m<=1000000):ex G (.nins x i j e) B=U (.nx ((B.map fL).set x (.mm (ls.set k (qO l (m:Int) d))))):=by have hk:=(u0.mp hl).1;show (match ev G e B,ev G i (viewN B),ev G j (viewN B),B[x]? with|some d,U (.int k),U (.int m),U (.mm ls)=>(ixN ls.length k).bind λn=>(ls[n]?).bind λl=>if l.length<big/\0<=m/\m<=big then U (Out.nx ((B.map fL).set x (.mm (ls.set n (qO l m d))))) else O|_,_,_,_=>O)=_;rw[h1,h2,h3,z];show (ixN ls.length (k:Int)).bind _=_;rw[CY hk];show (ls[k]?).bind _=_;rw[hl];exact if_pos ⟨hz,zq,by unfold big;lia⟩
theorem Hb.map{Hs:List aQ}(H:Hb n m b Hs){f:Cell->Cell}(hf:∀c:Cell,0<=c.1/\c.1<(n:Int)->0<=(f c).1/\(f c).1<(n:Int)):Hb n m b (Hs.map λh=>h.map f):=by refine⟨λg hg c hc=>?_,λg hg=>?_,by rw[uo];exact H.len⟩;obtain⟨h,z,rfl⟩:=w4.mp hg;obtain⟨d,hd,rfl⟩:=w4.mp hc;exact hf d (H.inn h z d hd);obtain⟨h,z,rfl⟩:=w4.mp hg;rw[uo];exact H.few h z
def rE{B:List Sl}{Hs:List aQ}{f:Cell->Cell}{n1 n2:Nat}{R I:List (Nat×Nat)}{elt:IE}(h0:slot B v=U (hsD Hs))(W:D->List Sl)(h1:∀d,aX [1] J d (frame n1 R B)=U (W d))(h2:∀d,slot (W d) 1=U d) (h3:∀h∈Hs,∀c∈h,∃z,aX tg tp (au c) (frame n2 I (W (hE h)))=U z/\ev G elt z=U (au (f c))):ev G (.c n1 R [1] J .seq (.v v) (.L (.bl Y)) (.c n2 I tg tp .seq (.v 1) (.L (.bl Y)) elt)) B=U (hsD (Hs.map λh=>h.map f)):=by unfold hsD;rw[x9];refine eS (L:=Hs) hE (λh=>hE (h.map f)) (s:=hsD Hs) (by rw[bW];exact h0) (by unfold hsD;exact dU) λh hh=>⟨W (hE h),h1 _,rfl,?_⟩;unfold hE;rw[x9];refine eS (L:=h) au (λc=>au (f c)) (s:=hE h) (by rw[bW];exact h2 _) (by unfold hE;exact dU) λc hc=>?_;obtain⟨z,e1,e2⟩:=h3 h hh c hc;exact⟨z,e1,rfl,e2⟩
def fs(Hs:List aQ)(a:Nat)(y:Int)(n:Nat)(s4 s5 s6 s7 s8 s9 s10 s11:Sl):List Sl:=[.im (hsD Hs),.im (.int (a:Nat)),.im (.int y),.im (.int (n:Nat)),s4,s5,s6,s7,s8,s9,s10,s11]
def fu(Hs:List aQ):Sl:=.mm (Hs.map λh=>h.map au)
def qW{Hs:List aQ}{st:IS}{o:Option Out}(h:ex G st (fs Hs a y n (.im (hsD Hs)) .un .un .un .un .un .un .un)=o):ex G (.nfrz 4 st) (fs Hs a y n (fu Hs) .un .un .un .un .un .un .un)=o:=by rw[VM (ls:=Hs.map λh=>h.map au) rfl,kZ];exact h
def tX{Hs:List aQ}{d x:Nat}{s4 s5 s6 s7 s8 s9 s10 s11:Sl}(n1:1<=n):ex G (.set x (.b .mod (.v 1) (.v 3))) (fs Hs a y n s4 s5 s6 s7 s8 s9 s10 s11)=U (.nx ((fs Hs a y n s4 s5 s6 s7 s8 s9 s10 s11).set x (.im (.int ((a % n:Nat):Int))))):=by refine aM ?_;show af .mod (.int (a:Nat)) (.int (n:Nat))=_;exact cV n1
def sH{Hs:List aQ}{d x:Nat}{s4 s5 s6 s7 s8 s9 s10 s11:Sl}(n1:1<=n):ex G (.set x (.b .mod (.b .fdiv (.v 1) (.L (.int 29))) (.v 3))) (fs Hs a y n s4 s5 s6 s7 s8 s9 s10 s11)=U (.nx ((fs Hs a y n s4 s5 s6 s7 s8 s9 s10 s11).set x (.im (.int ((a / 29 % n:Nat):Int))))):=by refine aM ?_;show (af .fdiv (.int (a:Nat)) (.int ((29:Nat):Int))).bind (λu=>af .mod u (.int (n:Nat)))=_;rw[kH zu zu,aC,cV n1]
noncomputable def nm(p q k:Int):Int:=if k=p then q else if k=q then p else k
def aDw{p q:Nat}(hp:p<n)(hq:q<n){k:Int}(h:0<=k/\k<(n:Int)):0<=nm p q k/\nm p q k<(n:Int):=by unfold nm;split;lia;split<;>lia
def nH{B:List Sl}{e f x y:IE}{j:Int}{d d':D}(h1:ev G e B=U (.int i))(h2:ev G f B=U (.int j))(h3:i=j->ev G x B=U d)(z:i≠j->ev G y B=U d'):ev G (.q (.b .eq e f) x y) B=U (if i=j then d else d'):=by rw[vO,aV,h1,h2];show (match (D.bl (i == j)) with | .bl Y=>ev G x B | .bl J=>ev G y B|_=>O)=_;by_cases h:i=j;rw[if_pos h,<-h3 h,vz.mpr h];rw[if_neg h,<-z h,w6.mpr h]
def sp1{Hs:List aQ}(H:Hb n m b Hs)(n1:1<=n)(n2:n<=1000):∃z,Hb n m b z/\ex G YS (fs Hs a y n (fu Hs) .un .un .un .un .un .un .un)=U (.rt (hsD z)):=by
 obtain⟨p,hp⟩:∃p,p=a % n:=⟨_,rfl⟩;obtain⟨q,hq⟩:∃q,q=a / 29 % n:=⟨_,rfl⟩;have R:p<n:=by rw[hp];exact mod_lt _ n1
 have I:q<n:=by rw[hq];exact mod_lt _ n1
 refine⟨_,H.map (f:=λc=>(nm p q c.1,c.2.1,c.2.2)) λc hc=>aDw R I hc,qW (aA (tX (d:=0) n1) (aA (B':=fs Hs a y n (.im (hsD Hs)) (.im (.int (p:Nat))) (.im (.int (q:Nat))) .un .un .un .un .un) ?_ (aA (B':=fs Hs a y n (.im (hsD Hs)) (.im (.int (p:Nat))) (.im (.int (q:Nat))) .un (.im (.lst ((List.range n).map λ(k:Nat)=>D.int (nm p q k)))) .un .un .un) (aM ?_) (aN ?_))))⟩;rw[hp,hq];exact sH (d:=0) n1;refine eS (L:=List.range n) (λ(k:Nat)=>D.int k) (λk=>.int (nm p q k)) (s:=.tup [.int (n:Nat)]) rfl (cX zq) λk hk=>⟨[.un,.im (.int (k:Nat)),.im (.int (p:Nat)),.im (.int (q:Nat))],rfl,rfl,?_⟩;rw[nH (i:=k) (j:=p) (d:=.int q) (d':=.int (if (k:Int)=q then p else k)) rfl rfl (λ_=>rfl) λ_=>?_];unfold nm;split<;>rfl
 rw[nH (i:=k) (j:=q) (d:=.int p) (d':=.int k) rfl rfl (λ_=>rfl) λ_=>rfl];split<;>rfl
 refine rE (f:=λc=>(nm p q c.1,c.2.1,c.2.2)) rfl (λd=>[.un,.im d,.im (.lst ((List.range n).map λ(k:Nat)=>D.int (nm p q k)))]) (λ_=>rfl) (λ_=>rfl) λh W c hc=>⟨[.un,.im (au c),.im (.lst ((List.range n).map λ(k:Nat)=>D.int (nm p q k)))],rfl,?_⟩;obtain⟨c0,c1⟩:=H.inn h W c hc;have e:ev G (.ix (.v 2) (.ix (.v 1) (.L (.int 0)))) [.un,.im (au c),.im (.lst ((List.range n).map λ(k:Nat)=>D.int (nm p q k)))]=U (.int (nm p q c.1)):=by have ec:c.1=((c.1.toNat:Nat):Int):=(Int.toNat_of_nonneg c0).symm;refine oS (k:=c.1.toNat) rfl ?_ ?_;rw[<-ec];rfl;rw[um,wy zq,ec];simp
 rw[fP,aJ,e];rfl
def sp2{Hs:List aQ}(H:Hb n m b Hs)(n1:1<=n):∃z,Hb n m b z/\ex G YR (fs Hs a y n (fu Hs) .un .un .un .un .un .un .un)=U (.rt (hsD z)):=by
 obtain⟨p,hp⟩:∃p,p=a % n:=⟨_,rfl⟩;obtain⟨t,ht⟩:∃t:Bool,t=(((a / 29 % 2:Nat):Int) == 1):=⟨_,rfl⟩;refine⟨_,H.map (f:=λc=>(c.1,!(c.2.1 == ((c.1 == (p:Int))&&t)),!(c.2.2 == ((c.1 == (p:Int))&&!t)))) λc hc=>hc,qW (aA (B':=fs Hs a y n (.im (hsD Hs)) .un .un .un .un (.im (.int (p:Nat))) .un .un) ?_ (aA (B':=fs Hs a y n (.im (hsD Hs)) .un .un .un .un (.im (.int (p:Nat))) (.im (.bl t)) .un) (aM ?_) (aN ?_)))⟩;rw[hp];exact tX (d:=0) n1;show ((af .fdiv (.int (a:Nat)) (.int ((29:Nat):Int))).bind (λu=>af .mod u (.int ((2:Nat):Int)))).bind (λu=>af .eq u (.int 1))=_;rw[kH zu zu,aC,cV zu,aC,ht];exact aAZ;refine rE (f:=λc=>(c.1,!(c.2.1 == ((c.1 == (p:Int))&&t)),!(c.2.2 == ((c.1 == (p:Int))&&!t)))) rfl (λd=>[.un,.im d,.im (.int (p:Nat)),.im (.bl t)]) (λ_=>rfl) (λ_=>rfl) λh W c hc=>⟨[.un,.im (.int c.1),.im (.bl c.2.1),.im (.bl c.2.2),.im (.int (p:Nat)),.im (.bl t)],rfl,?_⟩;have e1:ev G (.and (.b .eq (.v 1) (.v 4)) (.v 5)) [.un,.im (.int c.1),.im (.bl c.2.1),.im (.bl c.2.2),.im (.int (p:Nat)),.im (.bl t)]=U (.bl ((c.1 == (p:Int))&&t)):=bJ rfl λ_=>rfl;have e2:ev G (.and (.b .eq (.v 1) (.v 4)) (.not (.tr (.v 5)))) [.un,.im (.int c.1),.im (.bl c.2.1),.im (.bl c.2.2),.im (.int (p:Nat)),.im (.bl t)]=U (.bl ((c.1 == (p:Int))&&!t)):=bJ rfl λ_=>rfl;have R:ev G (.b .ne (.v 2) (.and (.b .eq (.v 1) (.v 4)) (.v 5))) [.un,.im (.int c.1),.im (.bl c.2.1),.im (.bl c.2.2),.im (.int (p:Nat)),.im (.bl t)]=U (.bl (!(c.2.1 == ((c.1 == (p:Int))&&t)))):=by rw[aV,e1];exact qh
 have I:ev G (.b .ne (.v 3) (.and (.b .eq (.v 1) (.v 4)) (.not (.tr (.v 5))))) [.un,.im (.int c.1),.im (.bl c.2.1),.im (.bl c.2.2),.im (.int (p:Nat)),.im (.bl t)]=U (.bl (!(c.2.2 == ((c.1 == (p:Int))&&!t)))):=by rw[aV,e2];exact qh
 rw[fP,aJ,aJ,R,aJ,I];rfl
def sp3{Hs:List aQ}(H:Hb n m b Hs)(n1:1<=n):∃z,Hb n m b z/\ex G YQ (fs Hs a y n (fu Hs) .un .un .un .un .un .un .un)=U (.rt (hsD z)):=by
 obtain⟨p,hp⟩:∃p,p=a % n:=⟨_,rfl⟩;obtain⟨q,hq⟩:∃q,q=a / 29 % n:=⟨_,rfl⟩;have I:p<n:=by rw[hp];exact mod_lt _ n1
 refine⟨_,H.map (f:=λc=>(if c.1=(q:Int) then(p:Int) else c.1,c.2.1,c.2.2)) λc hc=>?_,qW (aA (tX (d:=0) n1) (aA (B':=fs Hs a y n (.im (hsD Hs)) (.im (.int (p:Nat))) (.im (.int (q:Nat))) .un .un .un .un .un) ?_ (aN ?_)))⟩;show 0<=(if c.1=(q:Int) then(p:Int) else c.1)/\(if c.1=(q:Int) then(p:Int) else c.1)<(n:Int);split<;>lia
 rw[hp,hq];exact sH (d:=0) n1;refine rE (f:=λc=>(if c.1=(q:Int) then(p:Int) else c.1,c.2.1,c.2.2)) rfl (λd=>[.un,.im d,.im (.int (p:Nat)),.im (.int (q:Nat))]) (λ_=>rfl) (λ_=>rfl) λh R c hc=>⟨[.un,.im (au c),.im (.int (p:Nat)),.im (.int (q:Nat))],rfl,?_⟩;have e:ev G (.q (.b .eq (.ix (.v 1) (.L (.int 0))) (.v 3)) (.v 2) (.ix (.v 1) (.L (.int 0)))) [.un,.im (au c),.im (.int (p:Nat)),.im (.int (q:Nat))]=U (.int (if c.1=(q:Int) then(p:Int) else c.1)):=by rw[nH (i:=c.1) (j:=q) (d:=.int p) (d':=.int c.1) rfl rfl (λ_=>rfl) λ_=>rfl];split<;>rfl
 rw[fP,aJ,e];rfl
def sp4{Hs:List aQ}(H:Hb n m b Hs)(m1:1<=m):∃z,Hb n m b z/\ex G YO (fs Hs a y n (fu Hs) .un .un .un .un .un .un .un)=U (.rt (hsD z)):=by have lt:a / 7 % m<m:=mod_lt _ m1;refine⟨Hs.set (a / 7 % m) [],H.set (λc hc=>absurd hc x8) (xg _) (uq _),aA (VJ (k:=a / 7 % m) ?_ rfl (by rw[uo,H.len];exact lt)) ((pQ rfl).trans ?_)⟩;show ev G _ (fs Hs a y n (.im (cg (Hs.map λh=>h.map au))) .un .un .un .un .un .un .un)=_;rw[kZ];exact vS (d:=7) (xs:=Hs.map hE) zu zu rfl rfl (by rw[uo];exact H.len) m1;rw[<-kZ,map_set];rfl
def sp5{Hs:List aQ}(H:Hb n m b Hs)(n1:1<=n)(m1:1<=m)(hb:b<=100):∃R,Hb n m (b+1) R/\ex G YN (fs Hs a y n (fu Hs) .un .un .un .un .un .un .un)=U (.rt (hsD R)):=by
 have lt:a / 7 % m<m:=mod_lt _ m1;obtain⟨h,eh⟩:∃h,Hs[a / 7 % m]?=U h:=⟨_,uk (by rw[H.len];exact lt)⟩;have z:=u6 eh;have few:=H.few h z;have lp:a % n<n:=mod_lt _ n1;obtain⟨j,hj⟩:∃j,j=a % 2*h.length:=⟨_,rfl⟩;have l2:a % 2<2:=mod_lt _ zu;have jl:j<=1000:=by have:=mul_le_mul (show a % 2<=1 by lia) few;rw[hj];lia
 have vw:viewN (fs Hs a y n (fu Hs) .un .un .un .un .un .un .un)=fs Hs a y n (.im (hsD Hs)) .un .un .un .un .un .un .un:=by show fs Hs a y n (.im (cg (Hs.map λh=>h.map au))) .un .un .un .un .un .un .un=_;rw[kZ]
 have I:ev G (.b .mod (.b .fdiv (.v 1) (.L (.int 7))) (.ρ .len (.cons (.v 4) .nil))) (fs Hs a y n (.im (hsD Hs)) .un .un .un .un .un .un .un)=U (.int ((a / 7 % m:Nat):Int)):=vS (d:=7) (xs:=Hs.map hE) zu zu rfl rfl (by rw[uo];exact H.len) m1;refine⟨Hs.set (a / 7 % m) (h.take (min j h.length)++(((a % n:Nat):Int),J,Y)::h.drop (min j h.length)),H.set (b':=b+1) (λc hc=>?_) ?_ (wt _),aA (VL (k:=a / 7 % m) (m:=j) (l:=h.map au) (d:=au (((a % n:Nat):Int),J,Y)) ?_ (by rw[vw];exact I) ?_ rfl (by rw[um,eh];rfl) (by rw[uo];lia) zq) ((pQ rfl).trans ?_)⟩;rcases xp.mp hc with hc|hc;exact H.inn h z c (mem_of_mem_take hc);rcases vk.mp hc with rfl|hc;exact⟨by show (0:Int)<=((a % n:Nat):Int);lia,by show ((a % n:Nat):Int)<(n:Int);lia⟩;exact H.inn h z c (mem_of_mem_drop hc);rw[vp,wz,w9,xj];lia;have e:ev G (.b .mod (.v 1) (.v 3)) (fs Hs a y n (fu Hs) .un .un .un .un .un .un .un)=U (.int ((a % n:Nat):Int)):=cV (a:=a) (b:=n) n1;rw[fP,aJ,e];rfl;rw[vw];have e2:ev G (.b .mod (.v 1) (.L (.int 2))) (fs Hs a y n (.im (hsD Hs)) .un .un .un .un .un .un .un)=U (.int ((a % 2:Nat):Int)):=cV (a:=a) (b:=2) zu;have e3:=oS (G:=G) (B:=fs Hs a y n (.im (hsD Hs)) .un .un .un .un .un .un .un) (e:=.v 4) (xs:=Hs.map hE) (d:=hE h) rfl I (by rw[um,eh];rfl);have W:ev G (.ρ .len (.cons (.ix (.v 4) (.b .mod (.b .fdiv (.v 1) (.L (.int 7))) (.ρ .len (.cons (.v 4) .nil)))) .nil)) (fs Hs a y n (.im (hsD Hs)) .un .un .un .un .un .un .un)=U (.int ((h.length:Nat):Int)):=by rw[dN,aJ,e3];show U (D.int ((h.map au).length:Nat))=_;rw[uo]
 rw[aV,e2,W,hj,aC,aC,eR zq];rw[<-kZ,map_set];show U (Out.rt (cg ((Hs.map λh=>h.map au).set (a / 7 % m) (qO (h.map au) (j:Int) (au (((a % n:Nat):Int),J,Y))))))=_;unfold qO;rw[toNat_natCast,uo,x5,vx,map_take,map_drop]
def sp6{Hs:List aQ}(H:Hb n m b Hs)(m1:1<=m)(m2:m<=10000):∃aw,Hb n m b aw/\ex G YM (fs Hs a y n (fu Hs) .un .un .un .un .un .un .un)=U (.rt (hsD aw)):=by
 obtain⟨p,hp⟩:∃p,p=a % m:=⟨_,rfl⟩;obtain⟨q,hq⟩:∃q,q=a / 29 % m:=⟨_,rfl⟩;have lp:p<m:=by rw[hp];exact mod_lt _ m1
 have W:q<m:=by rw[hq];exact mod_lt _ m1
 have len:∀{s7 s11:Sl},ev G (.ρ .len (.cons (.v 4) .nil)) (fs Hs a y n (.im (hsD Hs)) .un .un s7 .un .un .un s11)=U (.int (m:Nat)):=λ{s7 s11}=>by show U (D.int ((Hs.map hE).length:Nat))=_;rw[uo,H.len]
 have gt:∀{k:Nat},k<m->(Hs.map hE)[k]?=U (hE (Hs.getD k [])):=λ{k} hk=>by rw[um,uk (by rw[H.len];exact hk),u3,uk (by rw[H.len];exact hk)];rfl
 have gm:∀{k:Nat},k<m->Hs.getD k []∈Hs:=λ{k} hk=>by rw[u3,uk (by rw[H.len];exact hk)];exact List.getElem_mem _
 have R:∀{k:Nat},k<m->(if k=p then q else if k=q then p else k)<m:=λ{k} hk=>by split;exact W;split;exact lp;exact hk
 refine⟨(List.range m).map λk=>Hs.getD (if k=p then q else if k=q then p else k) [],⟨λh I=>?_,λh I=>?_,by rw[uo,ve]⟩,qW (aA (B':=fs Hs a y n (.im (hsD Hs)) .un .un (.im (.int (p:Nat))) .un .un .un .un) (aM ?_) (aA (B':=fs Hs a y n (.im (hsD Hs)) .un .un (.im (.int (p:Nat))) .un .un .un (.im (.int (q:Nat)))) (aM ?_) (aN ?_)))⟩;obtain⟨k,hk,rfl⟩:=w4.mp I;exact H.inn _ (gm (R (xf.mp hk)));obtain⟨k,hk,rfl⟩:=w4.mp I;exact H.few _ (gm (R (xf.mp hk)));rw[aV,len,hp];exact cV m1;rw[hq];exact vS (d:=29) (xs:=Hs.map hE) zu zu rfl rfl (by rw[uo];exact H.len) m1;unfold hsD;rw[x9];refine eS (L:=List.range m) (λ(k:Nat)=>D.int k) (λk=>hE (Hs.getD (if k=p then q else if k=q then p else k) [])) (s:=.tup [.int (m:Nat)]) ?_ (cX zq) λk hk=>⟨[.un,.im (.int (k:Nat)),.im (.int (q:Nat)),.im (.int (p:Nat)),.im (hsD Hs)],rfl,rfl,?_⟩;rw[fP,aJ];have:=len (s7:=.im (.int (p:Nat))) (s11:=.im (.int (q:Nat)));unfold hsD at this;rw[this];rfl;have hk:=xf.mp hk;rw[nH (i:=k) (j:=p) (d:=hE (Hs.getD q [])) (d':=hE (Hs.getD (if k=q then p else k) [])) rfl rfl (λ_=>oS (xs:=Hs.map hE) (k:=q) rfl rfl (gt W)) λ_=>?_];by_cases z:k=p;rw[if_pos zq,if_pos z];rw[if_neg zq,if_neg z];rw[nH (i:=k) (j:=q) (d:=hE (Hs.getD p [])) (d':=hE (Hs.getD k [])) rfl rfl (λ_=>oS (xs:=Hs.map hE) (k:=p) rfl rfl (gt lp)) λ_=>oS (xs:=Hs.map hE) (k:=k) rfl rfl (gt hk)];by_cases z:k=q;rw[if_pos zq,if_pos z];rw[if_neg zq,if_neg z]
def ES{Hs:List aQ}(H:Hb n m b Hs)(n1:1<=n)(n2:n<=1000)(m1:1<=m)(m2:m<=10000)(hb:b<=90) (hly:∃R,Hb n m b R/\G.fn yj [hsD Hs,.int (a:Nat),.int y]=U (.ok (hsD R))):∃R,Hb n m (b+1) R/\bL G 12 jJ [hsD Hs,.int (a:Nat),.int y,.int (n:Nat)]=U (.ok (hsD R)):=by
 have f4:ex G (.nset 4 (.c 2 [] [1] J .seq (.v 0) (.L (.bl Y)) (.ρ .list (.cons (.v 1) .nil)))) (fs Hs a y n .un .un .un .un .un .un .un .un)=U (.nx (fs Hs a y n (fu Hs) .un .un .un .un .un .un .un)):=vL (ls:=Hs.map λh=>h.map au) (by rw[kZ];exact uM rfl);have t:∀{k:Int},ev G (.b .eq (.v 2) (.L (.int k))) (view (fs Hs a y n (fu Hs) .un .un .un .un .un .un .un))=U (.bl (y == k)):=λ{k}=>eqL rfl;have run:∀{d:D},ex G jJ (fs Hs a y n .un .un .un .un .un .un .un .un)=U (.rt d)->bL G 12 jJ [hsD Hs,.int (a:Nat),.int y,.int (n:Nat)]=U (.ok d):=λh=>aL (B:=fs Hs a y n .un .un .un .un .un .un .un .un) rfl h;have I:∀{k:Int} {A:IS},y≠k->ex G (.g (.b .eq (.v 2) (.L (.int k))) A .nop) (fs Hs a y n (fu Hs) .un .un .un .un .un .un .un)=U (.nx (fs Hs a y n (fu Hs) .un .un .un .un .un .un .un)):=λ{k A} h=>bM (t.trans (by rw[w6.mpr h])) aR;have W:∀{k:Int} {A ρ:IS} {d:D},y=k->ex G A (fs Hs a y n (fu Hs) .un .un .un .un .un .un .un)=U (.rt d)->ex G (.seq (.g (.b .eq (.v 2) (.L (.int k))) A .nop) ρ) (fs Hs a y n (fu Hs) .un .un .un .un .un .un .un)=U (.rt d):=λ{k A ρ d} h r=>cJ (dA (t.trans (by rw[vz.mpr h])) r) λ_ z=>by cases z
 by_cases h1:y=1;obtain⟨R,H',e⟩:=sp1 (G:=G) H n1 n2 (a:=a) (y:=y);exact⟨R,H'.mono (wt _),run (aA f4 (W h1 e))⟩;by_cases h3:y=3;obtain⟨R,H',e⟩:=sp2 (G:=G) H n1 (a:=a) (y:=y);exact⟨R,H'.mono (wt _),run (aA f4 (aA (I h1) (W h3 e)))⟩;by_cases h8:y=8;obtain⟨R,H',e⟩:=sp3 (G:=G) H n1 (a:=a) (y:=y);exact⟨R,H'.mono (wt _),run (aA f4 (aA (I h1) (aA (I h3) (W h8 e))))⟩;by_cases h9:y=9;obtain⟨R,H',e⟩:=sp4 (G:=G) H m1 (a:=a) (y:=y);exact⟨R,H'.mono (wt _),run (aA f4 (aA (I h1) (aA (I h3) (aA (I h8) (W h9 e)))))⟩;by_cases h5:y=5;obtain⟨R,H',e⟩:=sp5 (G:=G) H n1 m1 zq (a:=a) (y:=y);exact⟨R,H',run (aA f4 (aA (I h1) (aA (I h3) (aA (I h8) (aA (I h9) (W h5 e))))))⟩;by_cases h7:y=7;obtain⟨R,H',e⟩:=sp6 (G:=G) H m1 m2 (a:=a) (y:=y);exact⟨R,H'.mono (wt _),run (aA f4 (aA (I h1) (aA (I h3) (aA (I h8) (aA (I h9) (aA (I h5) (W h7 e)))))))⟩;obtain⟨R,H',e⟩:=hly;refine⟨R,H'.mono (wt _),run (aA f4 (aA (I h1) (aA (I h3) (aA (I h8) (aA (I h9) (aA (I h5) (aA (I h7) (qW (aN ?_)))))))))⟩;show bZ (G.fn yj [hsD Hs,.int (a:Nat),.int y])=_;rw[e];rfl
end
end K08
namespace Pg
noncomputable def gC:IS:=(.seq (.set 1 (.b .mod (.v 0) (.L (.int 8)))) (.seq (.set 2 (.b .fdiv (.v 0) (.L (.int 8)))) (.seq (.g (.b .lt (.v 1) (.L (.int 5))) (.ret J (.tup (.cons (.b .add (.L (.int 1)) (.b .mod (.v 2) (.L (.int 6)))) (.cons (.b .add (.L (.int 1)) (.b .mod (.b .fdiv (.v 2) (.L (.int 6))) (.L (.int 5)))) .nil)))) .nop) (.seq (.g (.b .eq (.v 1) (.L (.int 5))) (.ret J (.tup (.cons (.b .add (.L (.int 1)) (.b .mod (.v 2) (.L (.int 40)))) (.cons (.L (.int 1)) .nil)))) .nop) (.seq (.g (.b .eq (.v 1) (.L (.int 6))) (.ret J (.tup (.cons (.L (.int 1)) (.cons (.b .add (.L (.int 1)) (.b .mod (.v 2) (.L (.int 40)))) .nil)))) .nop) (.ret J (.ix (.lst (.cons (.tup (.cons (.L (.int 8)) (.cons (.L (.int 8)) .nil))) (.cons (.tup (.cons (.L (.int 16)) (.cons (.L (.int 4)) .nil))) (.cons (.tup (.cons (.L (.int 3)) (.cons (.L (.int 21)) .nil))) (.cons (.tup (.cons (.L (.int 64)) (.cons (.L (.int 1)) .nil))) .nil))))) (.b .mod (.v 2) (.L (.int 4))))))))))
section
variable {G:GS}
def md{n:Int}(h:0<n):af .mod (.int i) (.int n)=U (.int (i % n)):=jF h
def dv{n:Int}(h:0<n)(h':n<1000000):af .fdiv (.int i) (.int n)=U (.int (i / n)):=oO h h'
def kY(i:Int)(n:Nat)(h:0<n):∃k:Nat,k<n/\i % (n:Int)=k:=by have h0:=Int.emod_nonneg i (show (n:Int)≠0 by lia);have h1:=Int.emod_lt_of_pos i (show (0:Int)<n by lia);exact⟨(i % (n:Int)).toNat,zq,zq⟩
def EU{cell:Int}:∃c r:Nat,1<=c/\1<=r/\c*r<=64/\bL G 3 gC [.int cell]=U (.ok (.tup [.int c,.int r])):=by
 have e1:ev G (.b .mod (.v 0) (.L (.int 8))) [.im (.int cell),.un,.un]=U (.int (cell % 8)):=by simp only[zm,md (show (0:Int)<8 by decide)]
 have e2:ev G (.b .fdiv (.v 0) (.L (.int 8))) [.im (.int cell),.im (.int (cell % 8)),.un]=U (.int (cell / 8)):=by simp only[zm,dv (show (0:Int)<8 by decide) (show (8:Int)<1000000 by decide)]
 have t1:ev G (.b .lt (.v 1) (.L (.int 5))) (view [.im (.int cell),.im (.int (cell % 8)),.im (.int (cell / 8))])=U (.bl (decide (cell % 8<5))):=by simp only[zm]
 have t2:ev G (.b .eq (.v 1) (.L (.int 5))) (view [.im (.int cell),.im (.int (cell % 8)),.im (.int (cell / 8))])=U (.bl (cell % 8 == 5)):=by simp only[zm]
 have t3:ev G (.b .eq (.v 1) (.L (.int 6))) (view [.im (.int cell),.im (.int (cell % 8)),.im (.int (cell / 8))])=U (.bl (cell % 8 == 6)):=by simp only[zm]
 have start:∀{o:D},(∃x,ex G x [.im (.int cell),.im (.int (cell % 8)),.im (.int (cell / 8))]=U (.rt o)/\gC=(.seq (.set 1 (.b .mod (.v 0) (.L (.int 8)))) (.seq (.set 2 (.b .fdiv (.v 0) (.L (.int 8)))) x)))->bL G 3 gC [.int cell]=U (.ok o):=by rintro o ⟨x,hx,e⟩;rw[e];exact aL (B:=[.im (.int cell),.un,.un]) rfl (aA (aM e1) (aA (aM e2) hx))
 obtain⟨a6,b6,f6⟩:=kY (cell / 8) 6 zu;obtain⟨a5,b5,f5⟩:=kY (cell / 8 / 6) 5 zu;obtain⟨W,b40,R⟩:=kY (cell / 8) 40 zu;obtain⟨a4,b4,f4⟩:=kY (cell / 8) 4 zu;have f6:cell / 8 % 6=a6:=f6;have f5:cell / 8 / 6 % 5=a5:=f5;have R:cell / 8 % 40=W:=R;have f4:cell / 8 % 4=a4:=f4;cases h1:decide (cell % 8<5) with
 |true=>
  refine⟨1+a6,1+a5,zq,zq,?_,start ⟨_,cJ (dA (t1.trans (by rw[h1])) (aN ?_)) (λ_ z=>by cases z),rfl⟩⟩;have:(1+a6)*(1+a5)<=6*5:=mul_le_mul zq zq;lia;simp only[zm,md (show (0:Int)<6 by decide),dv (show (0:Int)<6 by decide) (show (6:Int)<1000000 by decide),md (show (0:Int)<5 by decide),f6,f5]
  push_cast
  rfl
 |false=>
  cases h2:(cell % 8 == 5) with
  |true=>
   refine⟨1+W,1,zq,zq,zq,start ⟨_,aA (bM (t1.trans (by rw[h1])) aR) (cJ (dA (t2.trans (by rw[h2])) (aN ?_)) (λ_ z=>by cases z)),rfl⟩⟩;simp only[zm,md (show (0:Int)<40 by decide),R]
   push_cast
   rfl
  |false=>
   cases h3:(cell % 8 == 6) with
   |true=>
    refine⟨1,1+W,zq,zq,zq,start ⟨_,aA (bM (t1.trans (by rw[h1])) aR) (aA (bM (t2.trans (by rw[h2])) aR) (cJ (dA (t3.trans (by rw[h3])) (aN ?_)) (λ_ z=>by cases z))),rfl⟩⟩;simp only[zm,md (show (0:Int)<40 by decide),R]
    push_cast
    rfl
   |false=>
    have I:∀(c r:Nat),1<=c->1<=r->c*r<=64->([.tup [.int 8,.int 8],.tup [.int 16,.int 4],.tup [.int 3,.int 21],.tup [.int 64,.int 1]]:List D)[a4]?=U (.tup [.int c,.int r])->∃c r:Nat,1<=c/\1<=r/\c*r<=64/\bL G 3 gC [.int cell]=U (.ok (.tup [.int c,.int r])):=by intro c r hc hr fz he;refine⟨c,r,hc,hr,fz,start ⟨_,aA (bM (t1.trans (by rw[h1])) aR) (aA (bM (t2.trans (by rw[h2])) aR) (aA (bM (t3.trans (by rw[h3])) aR) (aN ?_))),rfl⟩⟩;simp only[zm,md (show (0:Int)<4 by decide),f4];exact gH he
    have:a4=0\/a4=1\/a4=2\/a4=3:=by lia
    rcases this with rfl|rfl|rfl|rfl;exact I 8 8 zu zu zu rfl;exact I 16 4 zu zu zu rfl;exact I 3 21 zu zu zu rfl;exact I 64 1 zu zu zu rfl
end
end Pg
namespace K02
end K02
namespace K08
noncomputable def aEG:IS:=(.seq (.set 7 (.sl (.v 0) Y (.b .mul (.v 6) (.v 1)) Y (.b .add (.b .mul (.v 6) (.v 1)) (.v 1)))) (.set 5 (.b .add (.b .add (.b .add (.v 5) (.sl (.v 7) J (.L .non) Y (.v 4))) (.lst (.cons (.lst .nil) .nil))) (.sl (.v 7) Y (.v 4) J (.L .non)))))
def YL:IS:=(.seq (.set 4 (.q (.b .eq (.b .mod (.b .fdiv (.v 3) (.L (.int 4))) (.L (.int 2))) (.L (.int 1))) (.b .mod (.b .fdiv (.v 3) (.L (.int 8))) (.b .add (.v 1) (.L (.int 1)))) (.v 1))) (.seq (.set 5 (.lst .nil)) (.seq (.loop [6] J .rng (.tup (.cons (.v 2) .nil)) aEG) (.ret J (.tup (.cons (.b .add (.v 1) (.L (.int 1))) (.cons (.v 2) (.cons (.v 5) .nil))))))))
noncomputable def aEN:IS:=(.seq (.set 4 (.q (.b .eq (.b .mod (.b .fdiv (.v 3) (.L (.int 4))) (.L (.int 2))) (.L (.int 1))) (.b .mod (.b .fdiv (.v 3) (.L (.int 8))) (.b .add (.v 2) (.L (.int 1)))) (.v 2))) (.ret J (.tup (.cons (.v 1) (.cons (.b .add (.v 2) (.L (.int 1))) (.cons (.b .add (.b .add (.sl (.v 0) J (.L .non) Y (.b .mul (.v 4) (.v 1))) (.c 2 [] [1] J .rng (.tup (.cons (.v 1) .nil)) (.L (.bl Y)) (.lst .nil))) (.sl (.v 0) Y (.b .mul (.v 4) (.v 1)) J (.L .non))) .nil))))))
def uS:IS:=(.seq (.g (.b .eq (.b .mod (.v 3) (.L (.int 4))) (.L (.int 1))) YL .nop) (.seq (.g (.b .eq (.b .mod (.v 3) (.L (.int 4))) (.L (.int 3))) aEN .nop) (.ret J (.tup (.cons (.v 1) (.cons (.v 2) (.cons (.v 0) .nil)))))))
section
variable {G:GS}
def fw(Hs:List aQ)(w h d:Nat)(s4 s5 s6 s7:Sl):List Sl:=[.im (hsD Hs),.im (.int (w:Nat)),.im (.int (h:Nat)),.im (.int (d:Nat)),s4,s5,s6,s7]
def OG{B:List Sl}{d:Nat}(h3:slot B 3=U (.int (d:Nat)))(h1:slot B v=U (.int (w:Nat)))(w2:w<=1000):∃t:Nat,t<=w/\ev G (.q (.b .eq (.b .mod (.b .fdiv (.v 3) (.L (.int 4))) (.L (.int 2))) (.L (.int 1))) (.b .mod (.b .fdiv (.v 3) (.L (.int 8))) (.b .add (.v v) (.L (.int 1)))) (.v v)) B=U (.int (t:Nat)):=by
 have R:ev G (.v 3) B=U (.int (d:Nat)):=by rw[bW];exact h3
 have e1:ev G (.v v) B=U (.int (w:Nat)):=by rw[bW];exact h1
 have f:∀{x:Nat},0<x->x<1000->ev G (.b .fdiv (.v 3) (.L (.int (x:Nat)))) B=U (.int ((d / x:Nat):Int)):=λ{x} I W=>by rw[aV,R];exact kH I zq
 have m:ev G (.b .mod (.b .fdiv (.v 3) (.L (.int 4))) (.L (.int 2))) B=U (.int ((d / 4 % 2:Nat):Int)):=by rw[aV,show ev G (.b .fdiv (.v 3) (.L (.int 4))) B=_ from f (x:=4) zu zu];exact cV (b:=2) zu
 have g:ev G (.b .mod (.b .fdiv (.v 3) (.L (.int 8))) (.b .add (.v v) (.L (.int 1)))) B=U (.int ((d / 8 % (w+1):Nat):Int)):=by rw[aV,show ev G (.b .fdiv (.v 3) (.L (.int 8))) B=_ from f (x:=8) zu zu,aV,e1];exact cV (b:=w+1) zq
 have r:=nH (G:=G) (B:=B) (f:=.L (.int 1)) (j:=1) m rfl (λ_=>g) λ_=>e1;by_cases z:((d / 4 % 2:Nat):Int)=1;refine⟨d / 8 % (w+1),?_,r.trans (by rw[if_pos z])⟩;have:=mod_lt (d / 8) (show 0<w+1 by lia);lia;exact⟨w,uq _,r.trans (by rw[if_neg z])⟩
def Hb.hok{Hs I:List aQ}(H:Hb n m b Hs)(hb:b<=100)(h:∀x∈I,x=[]\/x∈Hs)(l:I.length<=1000):Hok n I:=by refine⟨λx hx c hc=>?_,λx hx=>?_,l⟩;rcases h x hx with rfl|z;exact absurd hc x8;exact H.inn x z c hc;rcases h x hx with rfl|z;exact xg _;exact vi (H.few x z) hb
def uL{Hs:List aQ}{k:Nat}:(Hs.map hE).take k=(Hs.take k).map hE/\(Hs.map hE).drop k=(Hs.drop k).map hE:=⟨map_take.symm,map_drop.symm⟩
def HW{h:Nat}{Hs:List aQ}(H:Hb n (w*h) b Hs)(hb:b<=100)(w1:1<=w)(h1:1<=h)(wh:w*h<=64){d:Nat}:∃(w' h':Nat) (aw:List aQ),1<=w'/\w'<=1000/\Hok n aw/\bL G 8 uS [hsD Hs,.int (w:Nat),.int (h:Nat),.int (d:Nat)]=U (.ok (.tup [.int (w':Nat),.int (h':Nat),hsD aw])):=by
 have w2:w<=64:=vi (Nat.le_mul_of_pos_right w h1) wh;have h2:h<=64:=vi (Nat.le_mul_of_pos_left h w1) wh;have t:∀{k:Int},ev G (.b .eq (.b .mod (.v 3) (.L (.int 4))) (.L (.int k))) (view (fw Hs w h d .un .un .un .un))=U (.bl (((d % 4:Nat):Int) == k)):=λ{k}=>by show (af .mod (.int (d:Nat)) (.int ((4:Nat):Int))).bind (λx=>af .eq x (.int k))=_;rw[cV zu];rfl
 by_cases c1:((d % 4:Nat):Int)=1;obtain⟨p,hp,ep⟩:=OG (G:=G) (B:=fw Hs w h d .un .un .un .un) (v:=1) rfl rfl zq;obtain⟨B',g,I,s6,s7,hO,lO,rfl⟩:=hJ (bind:=aX [6] J) (body:=ex G aEG) (λk B=>∃I s6 s7,(∀x∈I,x=[]\/x∈Hs)/\I.length<=k*(w+1)/\B=fw Hs w h d (.im (.int (p:Nat))) (.im (hsD I)) s6 s7) (n:=h) (B:=fw Hs w h d (.im (.int (p:Nat))) (.im (hsD [])) .un .un) ⟨[],_,_,λx hx=>absurd hx x8,xg _,rfl⟩ (by
  rintro k hk B ⟨I,s6,s7,hO,lO,rfl⟩;obtain⟨R,hR⟩:∃R,R=cut Hs (U ((k*w:Nat):Int)) (U ((k*w+w:Nat):Int)):=⟨_,rfl⟩;have lR:R.length<=w:=by rw[hR];exact vi VT zq
  have kb:k*(w+1)<=64*65:=mul_le_mul zq zq;have W:∀{B:List Sl},slot B 6=U (.int (k:Nat))->slot B 1=U (.int (w:Nat))->ev G (.b .mul (.v 6) (.v 1)) B=U (.int ((k*w:Nat):Int)):=λa b=>by rw[aV,bW,a,bW,b,aC,aC,eR zq]
  have e7:ev G (.sl (.v 0) Y (.b .mul (.v 6) (.v 1)) Y (.b .add (.b .mul (.v 6) (.v 1)) (.v 1))) (fw Hs w h d (.im (.int (p:Nat))) (.im (hsD I)) (.im (.int (k:Nat))) s7)=U (hsD R):=by rw[DK,aV (o:=.add),W rfl rfl];show U (D.lst (cut (Hs.map hE) (U ((k*w:Nat):Int)) (U (((k*w:Nat):Int)+(w:Nat)))))=_;rw[DP,show ((k*w:Nat):Int)+(w:Nat)=((k*w+w:Nat):Int) by lia,<-hR];rfl
  refine⟨fw Hs w h d (.im (.int (p:Nat))) (.im (hsD I)) (.im (.int (k:Nat))) s7,rfl,_,aA (B':=fw Hs w h d (.im (.int (p:Nat))) (.im (hsD I)) (.im (.int (k:Nat))) (.im (hsD R))) (aM e7) (aM (d:=hsD (I++R.take p++[[]]++R.drop p)) ?_),I++R.take p++[[]]++R.drop p,_,_,λx hx=>?_,?_,rfl⟩;have v5:ev G (.v 5) (fw Hs w h d (.im (.int (p:Nat))) (.im (hsD I)) (.im (.int (k:Nat))) (.im (hsD R)))=U (.lst (I.map hE)):=rfl;have v7:ev G (.v 7) (fw Hs w h d (.im (.int (p:Nat))) (.im (hsD I)) (.im (.int (k:Nat))) (.im (hsD R)))=U (.lst (R.map hE)):=rfl;have v4:ev G (.v 4) (fw Hs w h d (.im (.int (p:Nat))) (.im (hsD I)) (.im (.int (k:Nat))) (.im (hsD R)))=U (.int (p:Nat)):=rfl;have vn:ev G (.lst (.cons (.lst .nil) .nil)) (fw Hs w h d (.im (.int (p:Nat))) (.im (hsD I)) (.im (.int (k:Nat))) (.im (hsD R)))=U (.lst [hE []]):=rfl;refine(iU (iU (iU v5 (wL v7 v4) ?_) vn ?_) (lQ v7 v4) ?_).trans ?_;rw[w9,uo,uo];lia;rw[vp,w9,uo,uo];simp;lia;rw[vp,vp,w9,xj,uo,uo];simp;lia;unfold hsD;rw[uL.1,uL.2,x5,x5,x5];rfl;rcases xp.mp hx with hx|hx;rcases xp.mp hx with hx|hx;rcases xp.mp hx with hx|hx;exact hO x hx;exact .inr (CV (hR ▸ mem_of_mem_take hx));exact .inl (vj.mp hx);exact .inr (CV (hR ▸ mem_of_mem_drop hx));rw[vp,vp,vp,w9,xj,length_singleton,Nat.succ_mul];lia)
 refine⟨w+1,h,I,zq,zq,H.hok hb hO ?_,aL (B:=fw Hs w h d .un .un .un .un) rfl (cJ (dA (t.trans (by rw[vz.mpr c1])) (aA (aM ep) (aA (B':=fw Hs w h d (.im (.int (p:Nat))) (.im (hsD [])) .un .un) (aM rfl) (aA ((bI (d:=.tup [.int ((h:Nat):Int)]) rfl (cX zq)).trans g) (aN rfl))))) λ_ z=>by cases z)⟩;have:h*(w+1)=w*h+h:=by rw[Nat.mul_succ,Nat.mul_comm]
 lia;have f1:ex G (.g (.b .eq (.b .mod (.v 3) (.L (.int 4))) (.L (.int 1))) YL .nop) (fw Hs w h d .un .un .un .un)=U (.nx (fw Hs w h d .un .un .un .un)):=bM (t.trans (by rw[w6.mpr c1])) aR;by_cases c3:((d % 4:Nat):Int)=3;obtain⟨p,hp,ep⟩:=OG (G:=G) (B:=fw Hs w h d .un .un .un .un) (v:=2) rfl rfl zq;have pb:p*w<=64*64:=mul_le_mul zq w2;refine⟨w,h+1,Hs.take (p*w)++List.replicate w []++Hs.drop (p*w),w1,zq,H.hok hb (λx hx=>?_) ?_,aL (B:=fw Hs w h d .un .un .un .un) rfl (aA f1 (cJ (dA (t.trans (by rw[vz.mpr c3])) (aA (B':=fw Hs w h d (.im (.int (p:Nat))) .un .un .un) (aM ep) (aN ?_))) λ_ z=>by cases z))⟩;rcases xp.mp hx with hx|hx;rcases xp.mp hx with hx|hx;exact .inr (mem_of_mem_take hx);exact .inl (List.eq_of_mem_replicate hx);exact .inr (mem_of_mem_drop hx);rw[vp,vp,w9,xj,length_replicate,H.len];lia;have v0:ev G (.v 0) (fw Hs w h d (.im (.int (p:Nat))) .un .un .un)=U (.lst (Hs.map hE)):=rfl;have W:ev G (.b .mul (.v 4) (.v 1)) (fw Hs w h d (.im (.int (p:Nat))) .un .un .un)=U (.int ((p*w:Nat):Int)):=by have a:slot (fw Hs w h d (.im (.int (p:Nat))) .un .un .un) 4=U (.int (p:Nat)):=rfl;have b:slot (fw Hs w h d (.im (.int (p:Nat))) .un .un .un) 1=U (.int (w:Nat)):=rfl;rw[aV,bW,a,bW,b,aC,aC,eR zq]
 have vn:=nC (G:=G) (B:=fw Hs w h d (.im (.int (p:Nat))) .un .un .un) (a:=.v 1) (n:=w) zq rfl;have r:=iU (iU (wL v0 W) vn (by rw[w9,uo,uo,length_replicate,H.len];lia)) (lQ v0 W) (by rw[vp,w9,xj,uo,uo,length_replicate,H.len];lia);rw[fP,aJ,aJ,aJ,r];show U (D.tup [.int (w:Nat),.int ((h:Int)+1),.lst ((Hs.map hE).take (p*w)++(List.replicate w ([]:List D)).map D.lst++(Hs.map hE).drop (p*w))])=_;unfold hsD;rw[uL.1,uL.2,x5,x5,map_replicate,map_replicate];rfl;exact⟨w,h,Hs,w1,zq,H.hok hb (λx hx=>.inr hx) (by rw[H.len];lia),aL (B:=fw Hs w h d .un .un .un .un) rfl (aA f1 (aA (bM (t.trans (by rw[w6.mpr c3])) aR) (aN rfl)))⟩
end
section
variable {G:GS}
def HE(hw:∀i:Int,G.fn yt [.int i]=U (.ok (.bl Y))){Hs:List aQ}:bL G 3 kD [vT c r w Hs L,vT c r w Hs L]=U (.ok (.bl Y)):=by
 have tp:∀{x:Str} {is:List Int},okS x=Y->bL G 3 kD [.tup (.str x::is.map .int),.tup (.str x::is.map .int)]=U (.ok (.bl Y)):=λ{x is} hx=>by
  refine HC hw ?_ ?_;unfold plain;rw[flat,all_cons,all_map,uz,all_eq_true];exact⟨hx,λi _=>rfl⟩;have:∀is:List Int,kP (is.map .int) (is.map .int)=Y:=λis=>by
   induction is with
   |nil=>rfl
   |cons i r z=>rw[vx,kP,z,cu,beq_self_eq_true];rfl
  rw[cu,kP,this,cu,beq_self_eq_true];rfl
 unfold vT;cases (List.range (c*r)).find? (kQ (ents w Hs)) with
 |some k=>exact tp (x:="cell") (is:=[(k:Int)]) zt
 |none=>
  cases L.find? (eV (ak (ents w Hs))) with
  |some j=>exact tp (x:="torn") (is:=[(j.1:Int),(j.2.1:Int)]) zt
  |none=>
   cases h:(List.range L.length).findSome? (eI (ak (ents w Hs)) L) with
   |none=>exact HD
   |some d=>obtain⟨k,_,hk⟩:=List.exists_of_findSome?_eq_some h;unfold eI at hk;obtain⟨b,_,rfl⟩:=v9.mp hk;exact tp (x:="crossed") (is:=[((L.getD k kl).1:Int),((L.getD k kl).2.1:Int),(b.1:Int),(b.2.1:Int)]) zt
def MD{Hs:List aQ}:plain (hsD Hs)=Y:=by unfold plain hsD;rw[flat,all_map,all_eq_true];intro h _;show flat 7 (hE h)=Y;unfold hE;rw[flat,all_map,all_eq_true];exactλc _=>rfl
def aBF{Hs:List aQ}:cu (hsD Hs) (hsD Hs)=Y:=by
 have I:∀h:aQ,kP (h.map au) (h.map au)=Y:=λh=>by
  induction h with
  |nil=>rfl
  |cons c r z=>rw[vx,kP,z,OR];rfl
 unfold hsD;rw[cu];induction Hs with
 |nil=>rfl
 |cons h r z=>rw[vx,kP,z];unfold hE;rw[cu,I];rfl
structure Spo (c r:Nat) (sp:List Spot):Prop where
 len:sp.length=c*r
 xlt:∀s∈sp,s.x<c
 ylt:∀s∈sp,s.y<r
def qX(hc:1<=c):Spo c r (dC c r):=by refine⟨qY,λs hs=>?_,λs hs=>?_⟩;obtain⟨k,hk,rfl⟩:=w4.mp hs;exact mod_lt _ hc;obtain⟨k,hk,rfl⟩:=w4.mp hs;exact Nat.div_lt_of_lt_mul (xf.mp hk)
def Spo.fold{sp:List Spot}(S:Spo c r sp){k ex:Nat}{top low:Int}(h1:1<=k)(h2:k<ex)(he:ex<=if sd.up then c else r)(I:∀s∈sp,s.al sd.up<ex):Spo c r (sp.map (cO sd over k (max k (ex-k)) top low)):=by
 refine⟨by rw[uo];exact S.len,λt z=>?_,λt z=>?_⟩;obtain⟨s,hs,rfl⟩:=w4.mp z;have q:=place_lt (nr:=sd.near) h1 (I s hs);have g:=S.xlt s hs;unfold cO;dsimp only;cases h:sd.up with
 |true=>rw[h]at he q;rw[if_pos rfl]at he ⊢;lia
 |false=>rw[if_neg zu];exact g
 obtain⟨s,hs,rfl⟩:=w4.mp z;have q:=place_lt (nr:=sd.near) h1 (I s hs);have g:=S.ylt s hs;unfold cO;dsimp only;cases h:sd.up with
 |true=>rw[if_pos rfl];exact g
 |false=>rw[h]at he q;rw[if_neg vc]at he ⊢;lia
noncomputable def tR:IE:=(.b .eq (.b .mod (.call yd (.cons (.v 0) (.cons (.L (.int 12)) .nil))) (.L (.int 4))) (.L (.int 1)))
noncomputable def PP:IS:=(.seq (.par 1 2 (.L (.int 2)) (.b .add (.L (.int 2)) (.b .mod (.b .fdiv (.call yd (.cons (.v 0) (.cons (.L (.int 12)) .nil))) (.L (.int 4))) (.L (.int 3))))) (.seq (.set 3 (.call yg (.cons (.call zb (.cons (.v 1) (.cons (.v 2) .nil))) (.cons (.tup (.cons (.L (.str "west")) (.cons (.L (.bl Y)) (.cons (.L (.int 1)) .nil)))) .nil)))) (.set 4 (.lst .nil))))
noncomputable def PL:IS:=(.seq (.set 6 (.b .add (.L (.int 1)) (.ρ .max (.cons (.c 2 [] [1] J .seq (.v 3) (.L (.bl Y)) (.ix (.v 1) (.L (.int 0)))) .nil)))) (.seq (.set 7 (.b .add (.L (.int 1)) (.ρ .max (.cons (.c 2 [] [1] J .seq (.v 3) (.L (.bl Y)) (.ix (.v 1) (.L (.int 1)))) .nil)))) (.g (.b .gt (.b .mul (.v 6) (.v 7)) (.L (.int 1))) (.set 3 (.call yg (.cons (.v 3) (.cons (.call yf (.cons (.v 5) (.cons (.v 6) (.cons (.v 7) .nil)))) .nil)))) .nop)))
def DC:IS:=(.seq (.t [1,2] (.call ya (.cons (.call yd (.cons (.v 0) (.cons (.L (.int 0)) .nil))) .nil))) (.seq (.set 3 (.call zb (.cons (.v 1) (.cons (.v 2) .nil)))) (.seq (.set 4 (.sl (.v 0) Y (.L (.int 3)) Y (.L (.int 11)))) (.seq (.g tR PP .nop) (.seq (.loop [5] J .seq (.v 4) PL) (.seq (.set 6 (.b .add (.L (.int 1)) (.ρ .max (.cons (.c 2 [] [1] J .seq (.v 3) (.L (.bl Y)) (.ix (.v 1) (.L (.int 0)))) .nil)))) (.seq (.set 7 (.b .add (.L (.int 1)) (.ρ .max (.cons (.c 2 [] [1] J .seq (.v 3) (.L (.bl Y)) (.ix (.v 1) (.L (.int 1)))) .nil)))) (.seq (.set 8 (.b .mod (.call yd (.cons (.v 0) (.cons (.L (.int 1)) .nil))) (.L (.int 10)))) (.seq (.set 9 (.call yw (.cons (.v 3) .nil))) (.seq (.g (.b .gt (.v 8) (.L (.int 0))) (.set 9 (.call yk (.cons (.v 9) (.cons (.b .mod (.call yd (.cons (.v 0) (.cons (.L (.int 2)) .nil))) (.b .pow (.L (.int 10)) (.L (.int 9)))) (.cons (.v 8) (.cons (.b .mul (.v 1) (.v 2)) .nil)))))) .nop) (.seq (.t [6,7,9] (.call yv (.cons (.v 9) (.cons (.v 6) (.cons (.v 7) (.cons (.b .mod (.call yd (.cons (.v 0) (.cons (.L (.int 11)) .nil))) (.b .pow (.L (.int 10)) (.L (.int 9)))) .nil)))))) (.seq (.set 10 (.c 2 [] [1] J .seq (.v 9) (.L (.bl Y)) (.ρ .list (.cons (.v 1) .nil)))) (.seq (.set 11 (.call "fault" (.cons (.v 1) (.cons (.v 2) (.cons (.v 6) (.cons (.v 7) (.cons (.v 10) .nil))))))) (.seq (.g (.not (.tr (.call yz (.cons (.v 11) (.cons (.call zf (.cons (.v 1) (.cons (.v 2) (.cons (.v 6) (.cons (.v 9) .nil))))) .nil))))) (.ret J (.L (.bl J))) .nop) (.ret J (.b .eq (.v 10) (.v 9)))))))))))))))))
def fq(ns:List Int)(c r:Nat)(sp:List Spot)(s4 s5 s6 s7 s8 s9 s10 s11:Sl):List Sl:=[.im (.frz (ns.map .int)),.im (.int (c:Nat)),.im (.int (r:Nat)),.im (bX sp),s4,s5,s6,s7,s8,s9,s10,s11]
def yS(z:∀k:Nat,G.fn yd [.frz (ns.map .int),.int k]=U (.ok (.int (cv ns k)))){B:List Sl}{k:Nat}(h:slot B 0=U (.frz (ns.map .int))):ev G (.call yd (.cons (.v 0) (.cons (.L (.int (k:Nat))) .nil))) B=U (.int (cv ns k)):=by have:=z k;simp only[zm,h,this]
def aBr(mG:∀k:Nat,G.fn yd [.frz (ns.map .int),.int k]=U (.ok (.int (cv ns k)))) (hsb:∀cell:Int,∃c r:Nat,1<=c/\1<=r/\c*r<=64/\G.fn ya [.int cell]=U (.ok (.tup [.int c,.int r]))) (dy:∀c r:Nat,1<=c->c*r<=64->c<=64->G.fn zb [.int c,.int r]=U (.ok (bX (dC c r)))) (hfd:∀(sp:List Spot) (sd:Side) (over:Bool) (k ex:Nat),1<=k->k<ex->sp≠[]->(∀s∈sp,s.al sd.up<ex)->(∃s∈sp,s.al sd.up+1=ex)->∃top low:Int,G.fn yg [bX sp,cG sd over k]=U (.ok (bX (sp.map (cO sd over k (max k (ex-k)) top low))))) (hfb:∀(w h:Nat) (cell:Int),1<=w->1<=h->1<w*h->∃(sd:Side) (over:Bool) (k:Nat),1<=k/\(k<if sd.up then w else h)/\G.fn yf [.int cell,.int w,.int h]=U (.ok (cG sd over k))) (hhp:∀(sp:List Spot) (n w h:Nat),sp.length=n->1<=n->n<=64->1<=w->w<=64->h<=64->(∀s∈sp,s.x<w)->(∀s∈sp,s.y<h)->bf .max [.lst (sp.map λs=>D.int (s.x:Nat))]=U (.int ((w:Int)-1))->bf .max [.lst (sp.map λs=>D.int (s.y:Nat))]=U (.int ((h:Int)-1))->∃Hs,Hb n (w*h) n Hs/\G.fn yw [bX sp]=U (.ok (hsD Hs))) (qt:∀(n m b:Nat) (Hs:List aQ) (a:Nat) (y:Int),Hb n m b Hs->1<=n->n<=1000->1<=m->m<=10000->b<=90->∃aw,Hb n m (b+1) aw/\G.fn yk [hsD Hs,.int (a:Nat),.int y,.int (n:Nat)]=U (.ok (hsD aw))) (hwi:∀(n w h b:Nat) (Hs:List aQ) (d:Nat),Hb n (w*h) b Hs->b<=100->1<=w->1<=h->w*h<=64->∃(w' h':Nat) (aw:List aQ),1<=w'/\w'<=1000/\Hok n aw/\G.fn yv [hsD Hs,.int (w:Nat),.int (h:Nat),.int (d:Nat)]=U (.ok (.tup [.int (w':Nat),.int (h':Nat),hsD aw]))) (rq:∀(c r w h:Nat) (Hs:List aQ),1<=c->1<=r->c*r<=64->c<=64->1<=w->w<=1000->Hok (c*r) Hs->∃d,G.fn "fault" [.int (c:Nat),.int (r:Nat),.int (w:Nat),.int (h:Nat),hsD Hs]=U (.ok d)/\G.fn zf [.int (c:Nat),.int (r:Nat),.int (w:Nat),hsD Hs]=U (.ok d)/\G.fn yz [d,d]=U (.ok (.bl Y))):bL G 12 DC [.frz (ns.map .int)]=U (.ok (.bl Y)):=by
 obtain⟨R,I,hc0,hr0,hcr0,esb⟩:=hsb (cv ns 0);have cl:∀{c r:Nat},1<=r->c*r<=64->c<=64:=λ{c r} h1 h2=>vi (Nat.le_mul_of_pos_right c h1) h2;have efl:=dy R I hc0 hcr0 (cl hr0 hcr0);have k0:∀{B:List Sl},slot B 0=U (.frz (ns.map .int))->ev G (.call yd (.cons (.v 0) (.cons (.L (.int 0)) .nil))) B=U (.int (cv ns 0)):=λh=>yS mG (k:=0) h;have k12:∀{B:List Sl},slot B 0=U (.frz (ns.map .int))->ev G (.call yd (.cons (.v 0) (.cons (.L (.int 12)) .nil))) B=U (.int (cv ns 12)):=λh=>yS mG (k:=12) h;have k1:∀{B:List Sl},slot B 0=U (.frz (ns.map .int))->ev G (.call yd (.cons (.v 0) (.cons (.L (.int 1)) .nil))) B=U (.int (cv ns 1)):=λh=>yS mG (k:=1) h;have k2:∀{B:List Sl},slot B 0=U (.frz (ns.map .int))->ev G (.call yd (.cons (.v 0) (.cons (.L (.int 2)) .nil))) B=U (.int (cv ns 2)):=λh=>yS mG (k:=2) h;have k11:∀{B:List Sl},slot B 0=U (.frz (ns.map .int))->ev G (.call yd (.cons (.v 0) (.cons (.L (.int 11)) .nil))) B=U (.int (cv ns 11)):=λh=>yS mG (k:=11) h;have p9:∀{B:List Sl},ev G (.b .pow (.L (.int 10)) (.L (.int 9))) B=U (.int ((1000000000:Nat):Int)):=λ{B}=>rfl;have pre:∃(c r:Nat) (sp:List Spot) (cs:List Int),1<=c/\1<=r/\c*r<=64/\Spo c r sp/\ex G (.g tR PP .nop) (fq ns R I (dC R I) (.im (.lst ((cut ns (U 3) (U 11)).map .int))) .un .un .un .un .un .un .un)=U (.nx (fq ns c r sp (.im (.lst (cs.map .int))) .un .un .un .un .un .un .un)):=by
  have t:ev G tR (view (fq ns R I (dC R I) (.im (.lst ((cut ns (U 3) (U 11)).map .int))) .un .un .un .un .un .un .un))=U (.bl (cv ns 12 % 4 == 1)):=by unfold tR;rw[aV,aV,k12 rfl];show (af .mod (.int (cv ns 12)) (.int 4)).bind (λx=>af .eq x (.int 1))=_;rw[jF zu];rfl
  cases ht:(cv ns 12 % 4 == 1) with
  |false=>exact⟨R,I,dC R I,cut ns (U 3) (U 11),hc0,hr0,hcr0,qX hc0,bM (t.trans (by rw[ht])) aR⟩
  |true=>
   obtain⟨k,hk,ek⟩:=kY (cv ns 12 / 4) 3 zu;have h8:2*(2+k)<=64:=by lia
   have f2:=dy 2 (2+k) zu h8 zu;have m2:∀s∈dC 2 (2+k),s.al Side.west.up<2:=λs hs=>(qX (c:=2) (r:=2+k) zu).xlt s hs;obtain⟨top,low,ef⟩:=hfd (dC 2 (2+k)) .west Y 1 2 zu zu (λz=>by have:=qY (c:=2) (r:=2+k);rw[z]at this;simp at this;lia) m2 ⟨⟨1 % 2,1 / 2,0,J,J⟩,w4.mpr ⟨1,xf.mpr zq,rfl⟩,rfl⟩;refine⟨2,2+k,_,[],zu,zq,h8,(qX (c:=2) (r:=2+k) zu).fold (sd:=.west) (over:=Y) (k:=1) (ex:=2) (top:=top) (low:=low) zu zu (uq _) m2,dA (t.trans (by rw[ht])) (aA (B':=fq ns 2 (2+k) (dC R I) (.im (.lst ((cut ns (U 3) (U 11)).map .int))) .un .un .un .un .un .un .un) (VI.trans ?_) (aA (aM (d:=bX _) ?_) (aM (d:=.lst []) rfl)))⟩;have e2:∀{B:List Sl},slot B 0=U (.frz (ns.map .int))->ev G (.b .add (.L (.int 2)) (.b .mod (.b .fdiv (.call yd (.cons (.v 0) (.cons (.L (.int 12)) .nil))) (.L (.int 4))) (.L (.int 3)))) B=U (.int ((2+k:Nat):Int)):=λh=>by rw[aV,aV,aV,k12 h];simp only[zm,oO (i:=cv ns 12) (j:=4) zu zu,jF (i:=cv ns 12 / 4) (j:=3) zu];rw[show cv ns 12 / 4 % 3=(k:Int) from ek];rfl
   rw[OJ,aC,e2 rfl];rfl;have e1:ev G (.call zb (.cons (.v 1) (.cons (.v 2) .nil))) (fq ns 2 (2+k) (dC R I) (.im (.lst ((cut ns (U 3) (U 11)).map .int))) .un .un .un .un .un .un .un)=U (bX (dC 2 (2+k))):=by rw[bR];show bZ (G.fn zb [.int ((2:Nat):Int),.int ((2+k:Nat):Int)])=_;rw[f2];rfl
   rw[bR,aJ,e1];show bZ (G.fn yg [bX (dC 2 (2+k)),cG .west Y 1])=_;rw[ef];rfl
 obtain⟨c,r,sp0,cs,hc,hr,fz,S0,epre⟩:=pre;have c64:=cl hr fz;have r64:r<=64:=vi (Nat.le_mul_of_pos_left r hc) fz;have cr1:1<=c*r:=Nat.mul_pos hc hr;have ne:∀{sp:List Spot},Spo c r sp->sp≠[]:=λ{sp} S z=>by have:=S.len;rw[z]at this;simp only[List.length_nil]at this;lia
 obtain⟨B',g,sp,s5,s6,s7,S,rfl⟩:=hU (enc:=D.int) (bind:=aX [5] J) (body:=ex G PL) (λ_ B=>∃sp s5 s6 s7,Spo c r sp/\B=fq ns c r sp (.im (.lst (cs.map .int))) s5 s6 s7 .un .un .un .un) (L:=cs) (B:=fq ns c r sp0 (.im (.lst (cs.map .int))) .un .un .un .un .un .un .un) ⟨sp0,_,_,_,S0,rfl⟩ (by
  rintro i cell hi B ⟨sp,s5,s6,s7,S,rfl⟩;obtain⟨w,w1,wl,⟨sx,hsx,ex1⟩,ew⟩:=uK (f:=λs=>s.x) (ne S);obtain⟨h,h1,hl,⟨sy,hsy,ey1⟩,eh⟩:=uK (f:=λs=>s.y) (ne S);have wc:w<=c:=by have:=S.xlt sx hsx;lia
  have hrr:h<=r:=by have:=S.ylt sy hsy;lia
  refine⟨fq ns c r sp (.im (.lst (cs.map .int))) (.im (.int cell)) s6 s7 .un .un .un .un,rfl,?_⟩;have di:∀{o:Option Out} {ρ:IS},ex G ρ (fq ns c r sp (.im (.lst (cs.map .int))) (.im (.int cell)) (.im (.int (w:Nat))) (.im (.int (h:Nat))) .un .un .un .un)=o->ex G (.seq (.set 6 (.b .add (.L (.int 1)) (.ρ .max (.cons (.c 2 [] [1] J .seq (.v 3) (.L (.bl Y)) (.ix (.v 1) (.L (.int 0)))) .nil)))) (.seq (.set 7 (.b .add (.L (.int 1)) (.ρ .max (.cons (.c 2 [] [1] J .seq (.v 3) (.L (.bl Y)) (.ix (.v 1) (.L (.int 1)))) .nil)))) ρ)) (fq ns c r sp (.im (.lst (cs.map .int))) (.im (.int cell)) s6 s7 .un .un .un .un)=o:=λ{o ρ} hB=>by rw[vI,aM (d:=.int (w:Nat)) (vM rfl ew)];show ex G (.seq _ ρ) (fq ns c r sp (.im (.lst (cs.map .int))) (.im (.int cell)) (.im (.int (w:Nat))) s7 .un .un .un .un)=o;rw[vI,aM (d:=.int (h:Nat)) (vP rfl eh)];exact hB
  have t:ev G (.b .gt (.b .mul (.v 6) (.v 7)) (.L (.int 1))) (view (fq ns c r sp (.im (.lst (cs.map .int))) (.im (.int cell)) (.im (.int (w:Nat))) (.im (.int (h:Nat))) .un .un .un .un))=U (.bl (decide (1<w*h))):=by have a:slot (view (fq ns c r sp (.im (.lst (cs.map .int))) (.im (.int cell)) (.im (.int (w:Nat))) (.im (.int (h:Nat))) .un .un .un .un)) 6=U (.int (w:Nat)):=rfl;have b:slot (view (fq ns c r sp (.im (.lst (cs.map .int))) (.im (.int cell)) (.im (.int (w:Nat))) (.im (.int (h:Nat))) .un .un .un .un)) 7=U (.int (h:Nat)):=rfl;rw[aV,aV,bW,a,bW,b,aC,aC,eR zq];exact congrArg (λb=>U (D.bl b)) (decide_eq_decide.mpr zq)
  by_cases hb:1<w*h;obtain⟨sd,over,k,kk1,kk2,efb⟩:=hfb w h cell w1 h1 hb;obtain⟨ex,hex⟩:∃ex,ex=if sd.up then w else h:=⟨_,rfl⟩
  have bt:∀s∈sp,s.al sd.up<ex:=λs hs=>by rw[hex];unfold Spot.al;cases sd.up;exact hl s hs;exact wl s hs
  have hat:∃s∈sp,s.al sd.up+1=ex:=by rw[hex];unfold Spot.al;cases sd.up;exact⟨sy,hsy,ey1⟩;exact⟨sx,hsx,ex1⟩
  obtain⟨top,low,efd⟩:=hfd sp sd over k ex kk1 (by rw[hex];exact kk2) (ne S) bt hat;refine⟨_,di (dA (t.trans (by rw[vy hb])) (aM (d:=bX (sp.map (cO sd over k (max k (ex-k)) top low))) ?_)),_,_,_,_,S.fold (sd:=sd) (over:=over) (top:=top) (low:=low) kk1 (show k<ex by rw[hex];exact kk2) ?_ bt,rfl⟩;have e1:ev G (.call yf (.cons (.v 5) (.cons (.v 6) (.cons (.v 7) .nil)))) (fq ns c r sp (.im (.lst (cs.map .int))) (.im (.int cell)) (.im (.int (w:Nat))) (.im (.int (h:Nat))) .un .un .un .un)=U (cG sd over k):=by rw[bR];show bZ (G.fn yf [.int cell,.int (w:Nat),.int (h:Nat)])=_;rw[efb];rfl
  rw[bR,aJ,aJ,e1];show bZ (G.fn yg [bX sp,cG sd over k])=_;rw[efd];rfl;rw[hex];cases sd.up;exact hrr;exact wc;exact⟨_,di (bM (t.trans (by rw[uu hb])) aR),sp,_,_,_,S,rfl⟩)
 obtain⟨w,w1,wl,⟨sx,hsx,ex1⟩,ew⟩:=uK (f:=λs=>s.x) (ne S);obtain⟨h,h1,hl,⟨sy,hsy,ey1⟩,eh⟩:=uK (f:=λs=>s.y) (ne S);have wc:w<=c:=by have:=S.xlt sx hsx;lia
 have hrr:h<=r:=by have:=S.ylt sy hsy;lia
 have wh:w*h<=64:=vi (mul_le_mul wc hrr) fz;have wh1:1<=w*h:=Nat.mul_pos w1 h1;obtain⟨Hs,H,eHs⟩:=hhp sp (c*r) w h S.len cr1 fz w1 zq zq wl hl ew eh;obtain⟨y,hy⟩:∃y,y=cv ns 1 % 10:=⟨_,rfl⟩;obtain⟨a,_,ea⟩:=kY (cv ns 2) 1000000000 zu;obtain⟨d,_,ed⟩:=kY (cv ns 11) 1000000000 zu;have spo:∃gu,Hb (c*r) (w*h) (c*r+1) gu/\ex G (.g (.b .gt (.v 8) (.L (.int 0))) (.set 9 (.call yk (.cons (.v 9) (.cons (.b .mod (.call yd (.cons (.v 0) (.cons (.L (.int 2)) .nil))) (.b .pow (.L (.int 10)) (.L (.int 9)))) (.cons (.v 8) (.cons (.b .mul (.v 1) (.v 2)) .nil)))))) .nop) (fq ns c r sp (.im (.lst (cs.map .int))) s5 (.im (.int (w:Nat))) (.im (.int (h:Nat))) (.im (.int y)) (.im (hsD Hs)) .un .un)=U (.nx (fq ns c r sp (.im (.lst (cs.map .int))) s5 (.im (.int (w:Nat))) (.im (.int (h:Nat))) (.im (.int y)) (.im (hsD gu)) .un .un)):=by
  have t:ev G (.b .gt (.v 8) (.L (.int 0))) (view (fq ns c r sp (.im (.lst (cs.map .int))) s5 (.im (.int (w:Nat))) (.im (.int (h:Nat))) (.im (.int y)) (.im (hsD Hs)) .un .un))=U (.bl (decide (0<y))):=rfl;by_cases y0:0<y;obtain⟨gu,H1,e1⟩:=qt (c*r) (w*h) (c*r) Hs a y H cr1 zq wh1 zq zq;refine⟨gu,H1,dA (t.trans (by rw[vy y0])) (aM (d:=hsD gu) ?_)⟩;have ma:∀{B:List Sl},slot B 0=U (.frz (ns.map .int))->ev G (.b .mod (.call yd (.cons (.v 0) (.cons (.L (.int 2)) .nil))) (.b .pow (.L (.int 10)) (.L (.int 9)))) B=U (.int (a:Nat)):=λh=>by rw[aV,k2 h,p9,aC,aC,jF zu,ea]
  have mm:ev G (.b .mul (.v 1) (.v 2)) (fq ns c r sp (.im (.lst (cs.map .int))) s5 (.im (.int (w:Nat))) (.im (.int (h:Nat))) (.im (.int y)) (.im (hsD Hs)) .un .un)=U (.int ((c*r:Nat):Int)):=by have a:slot (fq ns c r sp (.im (.lst (cs.map .int))) s5 (.im (.int (w:Nat))) (.im (.int (h:Nat))) (.im (.int y)) (.im (hsD Hs)) .un .un) 1=U (.int (c:Nat)):=rfl;have b:slot (fq ns c r sp (.im (.lst (cs.map .int))) s5 (.im (.int (w:Nat))) (.im (.int (h:Nat))) (.im (.int y)) (.im (hsD Hs)) .un .un) 2=U (.int (r:Nat)):=rfl;rw[aV,bW,a,bW,b,aC,aC,eR zq]
  rw[bR,aJ,aJ,ma rfl,aJ,aJ,mm];show bZ (G.fn yk [hsD Hs,.int (a:Nat),.int y,.int ((c*r:Nat):Int)])=_;rw[e1];rfl;exact⟨Hs,H.mono (wt _),bM (t.trans (by rw[uu y0])) aR⟩
 obtain⟨gu,H1,esp⟩:=spo;obtain⟨w',h',W,w1',w2',H2,ewi⟩:=hwi (c*r) w h (c*r+1) gu d H1 zq w1 h1 wh;obtain⟨dd,efa,edu,eal⟩:=rq c r w' h' W hc hr fz c64 w1' w2' H2;refine aL (B:=[.im (.frz (ns.map .int)),.un,.un,.un,.un,.un,.un,.un,.un,.un,.un,.un]) rfl ?_;refine aA (B':=[.im (.frz (ns.map .int)),.im (.int (R:Nat)),.im (.int (I:Nat)),.un,.un,.un,.un,.un,.un,.un,.un,.un]) (lZ.trans ?_) (aA (B':=fq ns R I (dC R I) .un .un .un .un .un .un .un .un) (aM ?_) (aA (B':=fq ns R I (dC R I) (.im (.lst ((cut ns (U 3) (U 11)).map .int))) .un .un .un .un .un .un .un) (aM ?_) (aA epre (aA ((bI (d:=.lst (cs.map .int)) rfl dU).trans g) (aA (aM (d:=.int (w:Nat)) (vM rfl ew)) (aA (aM (d:=.int (h:Nat)) (vP rfl eh)) (aA (aM (d:=.int y) ?_) (aA (aM (d:=hsD Hs) ?_) (aA esp (aA (B':=fq ns c r sp (.im (.lst (cs.map .int))) s5 (.im (.int (w':Nat))) (.im (.int (h':Nat))) (.im (.int y)) (.im (hsD W)) .un .un) (lZ.trans ?_) (aA (aM (d:=hsD W) (uM rfl)) (aA (aM (d:=dd) ?_) (aA (bM ?_ aR) (aN ?_))))))))))))));rw[bR,aJ,k0 rfl];show (bZ (G.fn ya [.int (cv ns 0)])).bind _=_;rw[esb];rfl;rw[bR];show bZ (G.fn zb [.int (R:Nat),.int (I:Nat)])=_;rw[efl];rfl;rw[<-DP];rfl;rw[aV,k1 rfl];show af .mod (.int (cv ns 1)) (.int 10)=_;rw[jF zu,hy];rw[bR];show bZ (G.fn yw [bX sp])=_;rw[eHs];rfl;have md:∀{B:List Sl},slot B 0=U (.frz (ns.map .int))->ev G (.b .mod (.call yd (.cons (.v 0) (.cons (.L (.int 11)) .nil))) (.b .pow (.L (.int 10)) (.L (.int 9)))) B=U (.int (d:Nat)):=λh=>by rw[aV,k11 h,p9,aC,aC,jF zu,ed]
 rw[bR,aJ,aJ,aJ,aJ,md rfl];show (bZ (G.fn yv [hsD gu,.int (w:Nat),.int (h:Nat),.int (d:Nat)])).bind _=_;rw[ewi];rfl;rw[bR];show bZ (G.fn "fault" [.int (c:Nat),.int (r:Nat),.int (w':Nat),.int (h':Nat),hsD W])=_;rw[efa];rfl;have e1:∀{s10 s11:Sl},ev G (.call zf (.cons (.v 1) (.cons (.v 2) (.cons (.v 6) (.cons (.v 9) .nil))))) (view (fq ns c r sp (.im (.lst (cs.map .int))) s5 (.im (.int (w':Nat))) (.im (.int (h':Nat))) (.im (.int y)) (.im (hsD W)) s10 s11))=U dd:=λ{s10 s11}=>by rw[bR];show bZ (G.fn zf [.int (c:Nat),.int (r:Nat),.int (w':Nat),hsD W])=_;rw[edu];rfl
 have e2:ev G (.call yz (.cons (.v 11) (.cons (.call zf (.cons (.v 1) (.cons (.v 2) (.cons (.v 6) (.cons (.v 9) .nil))))) .nil))) (view (fq ns c r sp (.im (.lst (cs.map .int))) s5 (.im (.int (w':Nat))) (.im (.int (h':Nat))) (.im (.int y)) (.im (hsD W)) (.im (hsD W)) (.im dd)))=U (.bl Y):=by rw[bR,aJ,aJ,e1];show bZ (G.fn yz [dd,dd])=_;rw[eal];rfl
 show ev G _ (view (fq ns c r sp (.im (.lst (cs.map .int))) s5 (.im (.int (w':Nat))) (.im (.int (h':Nat))) (.im (.int y)) (.im (hsD W)) (.im (hsD W)) (.im dd)))=_;rw[OH,mD,e2];rfl;show af .eq (hsD W) (hsD W)=_;exact eq_self MD aBF
end
section
variable {G:GS}
noncomputable def PK:IS:=(.seq (.g (.b .lt (.b .mod (.v 3) (.v 0)) (.b .sub (.v 0) (.L (.int 1)))) (.app 2 (.tup (.cons (.v 3) (.cons (.b .add (.v 3) (.L (.int 1))) (.cons (.L (.bl J)) .nil))))) .nop) (.g (.b .lt (.b .fdiv (.v 3) (.v 0)) (.b .sub (.v 1) (.L (.int 1)))) (.app 2 (.tup (.cons (.v 3) (.cons (.b .add (.v 3) (.v 0)) (.cons (.L (.bl Y)) .nil))))) .nop))
def AS:IS:=(.seq (.setm 2 (.lst .nil)) (.seq (.loop [3] J .rng (.tup (.cons (.b .mul (.v 0) (.v 1)) .nil)) PK) (.M 2)))
def KU{k:Nat}(hc:1<=c)(hr:1<=r):decide (((k / c:Nat):Int)<(r:Int)-1)=decide (k+c<c*r):=by refine decide_eq_decide.mpr ?_;have:=Nat.div_lt_iff_lt_mul (x:=k+c) (k:=c) (y:=r) hc;rw[Nat.add_div_right _ hc,Nat.mul_comm r c]at this;lia
def UG(hc:1<=c)(hr:1<=r)(I:c*r<=64)(z:c<=64):bL G 4 AS [.int c,.int r]=U (.ok (.lst ((c6 c (c*r) (c*r)).map dz))):=by
 obtain⟨B',l,s3,rfl⟩:=hJ (bind:=aX [3] J) (body:=ex G PK) (λk B=>∃s3,B=[.im (.int c),.im (.int r),.mu (.lst ((c6 c (c*r) k).map dz)),s3]) (n:=c*r) (B:=[.im (.int c),.im (.int r),.mu (.lst []),.un]) ⟨_,rfl⟩ (by
  rintro k hk B ⟨s3,rfl⟩;have hl:=lW (c:=c) (n:=c*r) k;refine⟨[.im (.int c),.im (.int r),.mu (.lst ((c6 c (c*r) k).map dz)),.im (.int (k:Nat))],rfl,_,aA (mC (b:=decide (k % c<c-1)) (d:=dz (k,k+1,J)) ?_ ?_ rfl (by rw[uo];lia)) (mC (b:=decide (k+c<c*r)) (d:=dz (k,k+c,Y)) ?_ ?_ rfl ?_),.im (.int k),?_⟩;simp only[zm,cV hc,DO hc];simp only[zm];rfl;simp only[List.set];simp only[zm,kH hc (show c<1000000 by lia),KU hc hr];simp only[List.set];simp only[zm];rfl;rw[vp,uo];split<;>simp<;>lia
  simp only[List.set,lV,x5,va,CU])
 refine aL (B:=[.im (.int c),.im (.int r),.un,.un]) rfl (aA (kG (ds:=[]) (by simp only[zz,yy,aI])) (aA ((bI (d:=.tup [.int ((c*r:Nat):Int)]) ?_ (cX zq)).trans l) (pP rfl)));simp only[List.set];simp only[zm,eR (show c<=1000000 by lia)]
end
def uJ{j:Nat×Nat×Bool}(h:j∈c6 c (c*r) (c*r)):j.2.1<c*r:=by
 have h1:=AB h;rcases h1.2 with ⟨e,_,hm⟩|⟨e,_,hm⟩;have m:=mod_succ hm;have:j.1+1≠c*r:=λz=>by
  have:(j.1+1) % c=0:=by rw[z,Nat.mul_mod_right]
  lia
 lia;lia
def aDy{k:Nat}{a b:Nat×Nat×Bool}(ha:(c6 c n n)[k]?=U a)(hb:b∈(c6 c n n).drop (k+1)):a≠b:=by obtain⟨i,hi⟩:=List.mem_iff_getElem?.mp hb;rw[getElem?_drop]at hi;exact aDx (KW n) ha hi zq
end K08
structure CC where
 N:List Str
 sc:Scope
 fns:List Str
 cls:List Str
 csts:List Str
 mus:List Str
 fresh:List Str
noncomputable def aZ(c:CC)(x:Str):Option Nat:=match c.sc.names.lookup x with
 |some .local=>c.N.idxOf? x
 |some .cell=>c.N.idxOf? x
 |some .free=>c.N.idxOf? x
 |_=>O
noncomputable def bG(c:CC)(x:Str):Bool:=c.sc.names.lookup x == U .globalImplicit
def aBl(c:CC)(x:Str):Option Nat:=if c.mus.contains x then aZ c x else O
noncomputable def one?{α:Type}:List α->Option α
 |[a]=>U a
 |_=>O
noncomputable def nameP:Expr->Option (Str×Pos)
 |.Name x p=>U (x,p)
 |_=>O
noncomputable def yX:Expr->Option (Expr×Str×Pos)
 |.Attribute o m p=>U (o,m,p)
 |_=>O
noncomputable def rM:Expr->Option (Expr×List Expr×List Keyword×Pos)
 |.Call f as kw p=>U (f,as,kw,p)
 |_=>O
noncomputable def qa:Expr->Option (Option Expr×Option Expr×Option Expr×Pos)
 |.Slice a b st p=>U (a,b,st,p)
 |_=>O
noncomputable def tupP:Expr->Option (List Expr×Nat×Pos)
 |.Tuple es k p=>U (es,k,p)
 |_=>O
noncomputable def aEB:Expr->Option (Const×Nat×Pos)
 |.Constant v k p=>U (v,k,p)
 |_=>O
def eD(c:CC)(e:Expr):Option Nat:=(nameP e).bind λx=>aBl c x.1
noncomputable def TN:Operator->Option O2
 |.Add=>U .add
 |.Sub=>U .sub
 |.Mult=>U .mul
 |.FloorDiv=>U .fdiv
 |.Mod=>U .mod
 |.Pow=>U .pow
 |_=>O
noncomputable def kT:CmpOp->O2
 |.Eq=>.eq
 |.NotEq=>.ne
 |.Lt=>.lt
 |.LtE=>.le
 |.Gt=>.gt
 |.GtE=>.ge
 |.Is=>.is
 |.IsNot=>.isnot
 |.In=>.isin
 |.NotIn=>.notin
noncomputable def pG(x:Str):Option BF:=
 if x="len" then U .len else if x="int" then U .int else if x="list" then U .list else if x="tuple" then U .tuple else if x="max" then U .max
 else if x="min" then U .min else if x="str" then U .str else if x="sorted" then U .sorted else if x="any" then U .any else O
noncomputable def srcOf(x:Str):Option Src:=
 if x="range" then U .rng else if x="reversed" then U .rev else if x="enumerate" then U .enum else O
noncomputable def aBC:Src->Bool
 |.enum=>Y
 |_=>J
def MR(tp:Bool)(k:Src):Bool:=tp || !aBC k
noncomputable def jS:List Str:=["int","bool","str","list","tuple"]
noncomputable def eM(c:CC):Expr->Option Nat
 |.Name x _=>match c.sc.names.lookup x with
  |some .local=>c.N.idxOf? x
  |some .cell=>c.N.idxOf? x
  |_=>O
 |_=>O
noncomputable def fO(c:CC):List Expr->Option (List Nat)
 |[]=>U []
 |e::r=>do U ((<-eM c e)::(<-fO c r))
noncomputable def cC(c:CC):Expr->Option (List Nat×Bool)
 |.Name x p=>(eM c (.Name x p)).map λi=>([i],J)
 |.Tuple es _ _=>(fO c es).map λis=>(is,Y)
 |_=>O
noncomputable def uR:NameKind->Bool
 |.globalImplicit=>Y
 |.globalExplicit=>Y
 |_=>J
def ownNames(sc:Scope):List Str:=(sc.names.filter λx=>!uR x.2).map (·.1)
noncomputable def jX:Expr->Bool
 |.Call _ _ _ _=>J
 |_=>Y
def gT(c:CC)(sc:Scope):Bool:=sc.kind == .function&&sc.names.all (λx=>x.2 != .cell)&&sc.names.all (λx=>x.2 != .local || sc.names.lookup x.1 == U .local)&&sc.names.all (λx=>x.2 != .free || sc.names.lookup x.1 == U .free)&&decide (ownNames sc).Nodup &&
 (ownNames sc).all (λx=>!(x == ("__debug__":Str))&&!(x == ("__classdict__":Str)))&&!(sc.names.lookup ("__debug__":Str) == U NameKind.globalImplicit) &&
 sc.names.all (λx=>x.2 != .free || (c.sc.names.lookup x.1 == U .cell || c.sc.names.lookup x.1 == U .free))
noncomputable def freeOf(c:CC)(sc:Scope):List (Str×NameKind)->Option (List (Nat×Nat))
 |[]=>U []
 |x::r=>do U ((<-(ownNames sc).idxOf? x.1,<-aZ c x.1)::(<-freeOf c sc r))
noncomputable def own(c:CC)(x:Str):Bool:=c.fns.contains x || c.cls.contains x
def zP(c:CC)(x:Str):Option IE:=match aZ c x with
 |some i=>U (.v i)
 |none=>if bG c x&&c.csts.contains x then U (.o x) else O
noncomputable def CF:Const->Option IE
 |.int i=>U (.L (.int i))
 |.bool b=>U (.L (.bl b))
 |.str x=>U (.L (.str x))
 |.none=>U (.L .non)
 |_=>O
noncomputable def aCN(a:Option IE):UnaryOp->Option IE
 |.USub=>a.map .neg
 |.Not=>a.map λx=>.not (.tr x)
 |_=>O
noncomputable def boK:BoolOp->Bool
 |.And=>Y
 |.Or=>J
noncomputable def GN:List Str:=["SPINE_LINES","WAYS"]
noncomputable def aEf:CmpOp->Option Bool
 |.In=>U J
 |.NotIn=>U Y
 |_=>O
def aEg(c:CC)(o:CmpOp)(b:Expr):Option (Bool×Str):=(aEf o).bind λk=>(nameP b).bind λq=>if bG c q.1&&GN.contains q.1 then U (k,q.1) else O
noncomputable def IW(c:CC)(f:Expr->Option IE)(a:Option IE):List CmpOp->List Expr->Option IE
 |[o],[b]=>a.bind λx=>match aEg c o b with
  |some q=>U (.inC q.1 q.2 x)
  |none=>(f b).map λy=>.b (kT o) x y
 |[o,o'],[b,d]=>a.bind λx=>(f b).bind λy=>(f d).map λz=>.h (kT o) (kT o') x y z
 |_,_=>O
noncomputable def tZ(f:Expr->Option IE):Option Expr->Option IE
 |none=>U (.L .non)
 |some e=>f e
def aCO(m:Option Nat)(a:Option IE)(bl:Bool)(l:IE)(bh:Bool)(h:IE):Option IE:=match m with
 |some i=>U (.slm i bl l bh h)
 |none=>a.map λx=>.sl x bl l bh h
noncomputable def OQ:List Str:=["prints","where"]
def yB(e:Expr):Bool:=match nameP e with
 |some q=>OQ.contains q.1
 |none=>J
noncomputable def aCR(dv:Bool)(m:Option Nat)(a:Option IE)(k:IE):Option IE:=match m with
 |some i=>U (if dv then .ixd i k else .ixm i k)
 |none=>a.map λx=>.ix x k
def IU(f:Expr->Option IE)(dv:Bool)(m:Option Nat)(a:Option IE)(i:Expr):Option IE:=match qa i with
 |some q=>if q.2.2.1.isSome then O else(tZ f q.1).bind λl=>(tZ f q.2.1).bind λh=>aCO m a q.1.isSome l q.2.1.isSome h
 |none=>(f i).bind (aCR dv m a)
noncomputable def IV(f:Expr->Option IE)(c:CC):List Expr->Option IE
 |[a,y]=>(nameP y).bind λy=>if bG c y.1&&jS.contains y.1&&!own c y.1 then(f a).map λx=>.y x y.1 else O
 |_=>O
def XA(c:CC)(args:List Expr):Option Nat:=(one? args).bind (eD c)
def rO(c:CC)(e:Expr):Option (Str×List Expr):=(rM e).bind λq=>(nameP q.1).bind λx=>if q.2.2.1.isEmpty&&bG c x.1&&!own c x.1 then U (x.1,q.2.1) else O
def zN(c:CC)(args:List Expr):Option Expr:=(one? args).bind λe=>(rO c e).bind λq=>if q.1 == "reversed" then one? q.2 else O
noncomputable def aFi(dv:Bool)(b:BF)(as:Option IE)(i:Nat):Option IE:=match b with
 |.len=>U (if dv then .lend i else .lenm i)
 |.sorted=>U (.sortm i)
 |_=>as.map λx=>.ρ b x
noncomputable def aAh(b:BF)(as:Option IE)(w:Option (Option IE)):Option IE:=match b,w with
 |.list,U o=>o.map λx=>.walk .rev x
 |_,_=>as.map λx=>.ρ b x
def FC(f:Expr->Option IE)(c:CC)(b:BF)(args:List Expr)(as:Option IE):Option IE:=match XA c args with
 |some i=>aFi (args.any yB) b as i
 |none=>aAh b as ((zN c args).map f)
def CG(f:Expr->Option IE)(c:CC)(x:Str)(args:List Expr)(as:Option IE):Option IE:=
 if bG c x then
  (if c.fns.contains x then as.map λy=>.call x y
   else if c.cls.contains x then as.map λy=>.mk x y
   else if x == "isinstance" then IV f c args
   else(pG x).bind λb=>FC f c b args as)
 else O
def getM(c:CC)(o:Expr)(m:Str):Option Nat:=if m == "get" then eD c o else O
def aAi(f:Expr->Option IE)(c:CC)(g:Expr)(args:List Expr)(as:Option IE)(p:Pos):Option IE:=match g with
 |.Name x _=>CG f c x args as
 |.Attribute o m z=>if jX o&&decide (args.length<30)&&(z.endLine == p.line) then(match getM c o m with|some i=>as.map λy=>.getd i y|none=>(f o).bind λx=>as.map λy=>.meth x m y) else O
 |_=>O
noncomputable def aAg(f:Expr->Option IE):List Expr->Option IE
 |[]=>U (.L (.bl Y))
 |[e]=>f e
 |_=>O
def zR(c:CC)(sc:Scope)(g:Comprehension)(it:Option (Src×IE))(ct:Expr->Option IE)(z:Option IE):Option IE:=(cC {c with N:=ownNames sc,sc:=sc} g.target).bind λtg=>it.bind λk=>(aAg ct g.ifs).bind λte=>z.bind λz=>(freeOf c sc (sc.names.filter λx=>x.2 == .free)).bind λfr=>
 if gT c sc&&tg.1.all (λi=>(fr.lookup i).isNone)&&!aBC k.1 then U (.c (ownNames sc).length fr tg.1 tg.2 k.1 k.2 te z) else O
noncomputable def few(es:List Expr):Bool:=decide (es.length<=100)
mutual
noncomputable def cE:Nat->CC->Expr->Option IE
 | 0,_,_=>O
 |n+1,c,e=>match e with
  |.Name x _=>zP c x
  |.Constant v _ _=>CF v
  |.BinOp a o b _=>(TN o).bind λo=>(cE n c a).bind λx=>(cE n c b).map λy=>.b o x y
  |.UnaryOp o a _=>aCN (cE n c a) o
  |.BoolOp o vs _=>cB n c J (boK o) vs
  |.IfExp d a b _=>(cT n c d).bind λx=>(cE n c a).bind λy=>(cE n c b).map λz=>.q x y z
  |.Compare a os bs _=>IW c (cE n c) (cE n c a) os bs
  |.Tuple es _ _=>if few es then(cA n c es).map .tup else O
  |.List es _=>if few es then(cA n c es).map .lst else O
  |.Subscript a i _=>IU (cE n c) (yB a) (eD c a) (cE n c a) i
  |.Attribute a f _=>if jX a then(cE n c a).map λx=>.fld x f else O
  |.ListComp elt gs sc _=>(one? gs).bind λg=>if g.is_async=0 then zR c sc g (cI n c g.iter) (cT n {c with N:=ownNames sc,sc:=sc}) (cE n {c with N:=ownNames sc,sc:=sc} elt) else O
  |.Call f args kw p=>if kw.isEmpty then aAi (cE n c) c f args (cA n c args) p else O
  |_=>O
noncomputable def cT:Nat->CC->Expr->Option IE
 | 0,_,_=>O
 |n+1,c,e=>match e with
  |.BoolOp o vs _=>cB n c Y (boK o) vs
  |.UnaryOp .Not a _=>(cT n c a).map .not
  |.Compare a os bs _=>IW c (cE n c) (cE n c a) os bs
  |.IfExp _ _ _ _=>O
  |e=>(cE n c e).map .tr
noncomputable def cB:Nat->CC->Bool->Bool->List Expr->Option IE
 | 0,_,_,_,_=>O
 |n+1,c,t,k,[]=>O
 |n+1,c,t,k,[a]=>if t then cT n c a else cE n c a
 |n+1,c,t,k,a::b::r=>(if t then cT n c a else cE n c a).bind λx=>(cB n c t k (b::r)).map λy=>if k then .and x y else .or x y
noncomputable def cA:Nat->CC->List Expr->Option IE
 | 0,_,_=>O
 |n+1,c,[]=>U .nil
 |n+1,c,e::es=>(cE n c e).bind λx=>(cA n c es).map λy=>.cons x y
noncomputable def cI:Nat->CC->Expr->Option (Src×IE)
 | 0,_,_=>O
 |n+1,c,e=>match (rO c e).bind λq=>(srcOf q.1).map λk=>(k,q.2) with
  |some q=>(match q.1 with
   |.rng=>(cA n c q.2).map λy=>(.rng,.tup y)
   |.enum=>(one? q.2).bind λa=>(cE n c a).map λy=>(.enum,y)
   |k=>(one? q.2).bind λa=>(cE n c a).map λy=>(k,y))
  |none=>(cE n c e).map λy=>(.seq,y)
end
def aFA(i:Expr):Bool:=(qa i).isSome
noncomputable def aBG(c:CC):Expr->Bool
 |.Name x _=>(c.fns.contains x&&c.fresh.contains x) || (bG c x&&(x == "list" || x == "sorted")&&!own c x)
 |.Attribute _ m _=>c.fresh.contains m
 |_=>J
noncomputable def gR(c:CC):Expr->Bool
 |.List _ _=>Y
 |.ListComp _ _ _ _=>Y
 |.Subscript _ i _=>aFA i
 |.Call f _ _ _=>aBG c f
 |_=>J
def aCD(e:Expr):Option Str:=(aEB e).bind λv=>match v.1 with
 |.str x=>U x
 |_=>O
def KR(c:CC):Expr->Bool
 |.ListComp elt [g] sc _=>g.ifs.isEmpty&&gR {c with N:=ownNames sc,sc:=sc} elt
 |_=>J
def jG(c:CC)(e:Expr):Option Nat:=(nameP e).bind λx=>if x.1 == "out" && !c.mus.contains x.1 then aZ c x.1 else O
noncomputable def aCC:Expr->Option (Expr×Expr×Pos)
 |.Subscript a i p=>U (a,i,p)
 |_=>O
def uH(c:CC)(e:Expr):Option (Nat×Expr×Str×List Expr):=(rM e).bind λq=>(yX q.1).bind λg=>(aCC g.1).bind λs=>(jG c s.1).bind λj=>if q.2.2.1.isEmpty&&g.2.2.endLine == q.2.2.2.line then U (j,s.2.1,g.2.1,q.2.1) else O
def RI(f:Expr->Option IE)(q:Nat×Expr×Str×List Expr):Option IS:=match q.2.2.2 with
 |[e]=>if q.2.2.1 == "append" then(f q.2.1).bind λk=>(f e).map λy=>.napp q.1 k y else O
 |[j,e]=>if q.2.2.1 == "insert" then(f q.2.1).bind λk=>(f j).bind λm=>(f e).map λy=>.nins q.1 k m y else O
 |_=>O
noncomputable def isNil:Expr->Bool
 |.List [] _=>Y
 |_=>J
noncomputable def nwr:List Stmt->Bool
 |[]=>Y
 |.Assign [.Subscript _ _ _] _ _::_=>Y
 |.Expr _ _::_=>Y
 |_=>J
def pv(o:Option Nat)(i:IS):IS:=match o with
 |some j=>.nfrz j i
 |none=>i
def frB(c:CC)(a:List Stmt):Option Nat:=if c.N.contains "names" && !nwr a then aZ c "out" else O
noncomputable def frR(c:CC):Option Expr->Option Nat
 |some (.Call _ _ _ _)=>if c.N.contains "names" then aZ c "out" else O
 |_=>O
def rdR(f:Expr->Option IE)(c:CC)(e:Expr):Option IS:=(f e).map λx=>.ret (gR c e) x
noncomputable def aCQ(f:Expr->Option IE)(c:CC):Option Expr->Option IS
 |none=>U .retn
 |some e=>match eD c e with
  |some i=>U (.M i)
  |none=>match jG c e with
   |some i=>U (.nret i)
   |none=>rdR f c e
noncomputable def DA:Expr->Bool
 |.Dict [] [] _=>Y
 |_=>J
def IX(f:Expr->Option IE)(c:CC)(x:Str)(e:Expr)(i:Nat):Option IS:=
 if x == "out" && !c.mus.contains x&&KR c e then(f e).map λy=>.nset i y else if c.mus.contains x then(if DA e then U (.setd i) else if gR c e then(f e).map λy=>.setm i y else O) else(f e).map λy=>.set i y
noncomputable def WQ(f:Expr->Option IE)(c:CC):List Expr->List Expr->Option IS
 |[t,u],[a,b]=>(nameP t).bind λx=>(nameP u).bind λy=>(eM c t).bind λi=>(eM c u).bind λj=>
  if i != j&&!(x.1 == y.1)&&c.sc.names.lookup x.1 == U .local&&c.sc.names.lookup y.1 == U .local&&x.2.line == y.2.line&&!(foldedForSure 8 a&&foldedForSure 8 b)&&!(constantsAlone 8 a&&constantsAlone 8 b) then
   (f a).bind λu=>(f b).map λv=>.par i j u v else O
 |_,_=>O
def zO(f:Expr->Option IE)(c:CC)(ts:List Expr)(e:Expr):Option IS:=match tupP e with
 |some q=>WQ f c ts q.1
 |none=>(fO c ts).bind λis=>(f e).map λy=>.t is y
noncomputable def WR(f:Expr->Option IE)(c:CC)(e:Expr):Expr->Option IS
 |.Name x p=>(eM c (.Name x p)).bind (IX f c x e)
 |.Tuple ts _ _=>zO f c ts e
 |.Subscript a i _=>(match jG c a with|some j=>if isNil e then(f i).map λk=>.nput j k else O|none=>(eD c a).bind λj=>(f i).bind λk=>(f e).map λy=>.put j k y)
 |_=>O
def WD(c:CC)(e:Expr):Option (Nat×Expr):=(rM e).bind λq=>(yX q.1).bind λg=>(eD c g.1).bind λj=>(one? q.2.1).bind λa=>if q.2.2.1.isEmpty&&g.2.1 == "append" && g.2.2.endLine == q.2.2.2.line then U (j,a) else O
def SQ(c:CC)(e:Expr):Option Nat:=(rM e).bind λq=>(yX q.1).bind λg=>(eD c g.1).bind λj=>if q.2.1.isEmpty&&q.2.2.1.isEmpty&&g.2.1 == "pop" && g.2.2.endLine == q.2.2.2.line then U j else O
def zQ(f:Expr->Option IE)(_:CC)(e:Expr):Option IS:=(rM e).bind λ_=>(f e).map .drop
def aCS(f:Expr->Option IE)(c:CC)(e:Expr):Option IS:=match WD c e with
 |some q=>(f q.2).map λx=>.app q.1 x
 |none=>match SQ c e with
  |some j=>U (.pop j)
  |none=>zQ f c e
def aCP(c:CC)(e:Option Expr)(h:Option Expr):Option IS:=e.bind λe=>(rM e).bind λq=>(nameP q.1).bind λx=>(one? q.2.1).bind λa=>(aCD a).bind λ_=>
 if h.isNone&&q.2.2.1.isEmpty&&bG c x.1&&c.cls.contains x.1 then U (.rse x.1) else O
noncomputable def MM:List Str:=["across_upright","across_level"]
noncomputable def aEq(c:CC):Stmt->List Nat
 |.Assign [.Name _ _] (.List [] _) _=>(MM.filter λx=>c.mus.contains x).filterMap (aZ c)
 |_=>[]
noncomputable def UZ(xs:List Nat)(b:IS):IS:=if xs.isEmpty then b else .frz xs b
mutual
noncomputable def cS:Nat->CC->Stmt->Option IS
 | 0,_,_=>O
 |n+1,c,st=>match st with
  |.Pass _=>U .nop
  |.Return v _=>(aCQ (cE n c) c v).map (pv (frR c v))
  |.Assign ts e _=>(one? ts).bind (WR (cE n c) c e)
  |.If t a b _=>(cT n c t).bind λt=>(j9 n c a).bind λia=>(j9 n c b).map λb=>.g t (pv (frB c a) ia) b
  |.For tg iter body z _=>if z.isEmpty then(cC c tg).bind λg=>(cI n c iter).bind λk=>if MR g.2 k.1 then(j9 n c body).map λb=>.loop g.1 g.2 k.1 k.2 b else O else O
  |.Expr e _=>(match uH c e with|some q=>RI (cE n c) q|none=>aCS (cE n c) c e)
  |.Raise e h _=>aCP c e h
  |_=>O
noncomputable def j9:Nat->CC->List Stmt->Option IS
 | 0,_,_=>O
 |n+1,c,[]=>U .nop
 |n+1,c,[s]=>cS n c s
 |n+1,c,s::s2::r=>(cS n c s).bind λa=>(j9 n c (s2::r)).map λb=>.seq a (UZ (aEq c s2) b)
end
def dH{α:Type}{l:List α}{a:α}(h:one? l=U a):l=[a]:=by
 match l,h with
 |[_],h=>exact congrArg (λx=>[x]) (v8 h)
def cU{e:Expr}{x:Str×Pos}(h:nameP e=U x):e=.Name x.1 x.2:=by cases e<;>first|exact nomatch (show O=U x from h)|(cases (show U _=U x from h);rfl)
def iS{e:Expr}{x:Expr×Str×Pos}(h:yX e=U x):e=.Attribute x.1 x.2.1 x.2.2:=by cases e<;>first|exact nomatch (show O=U x from h)|(cases (show U _=U x from h);rfl)
def fA{e:Expr}{x:Expr×List Expr×List Keyword×Pos}(h:rM e=U x):e=.Call x.1 x.2.1 x.2.2.1 x.2.2.2:=by cases e<;>first|exact nomatch (show O=U x from h)|(cases (show U _=U x from h);rfl)
def IL{e:Expr}{x:Option Expr×Option Expr×Option Expr×Pos}(h:qa e=U x):e=.Slice x.1 x.2.1 x.2.2.1 x.2.2.2:=by cases e<;>first|exact nomatch (show O=U x from h)|(cases (show U _=U x from h);rfl)
def EK{e:Expr}{x:List Expr×Nat×Pos}(h:tupP e=U x):e=.Tuple x.1 x.2.1 x.2.2:=by cases e<;>first|exact nomatch (show O=U x from h)|(cases (show U _=U x from h);rfl)
def GQ{e:Expr}{x:Const×Nat×Pos}(h:aEB e=U x):e=.Constant x.1 x.2.1 x.2.2:=by cases e<;>first|exact nomatch (show O=U x from h)|(cases (show U _=U x from h);rfl)
def aE{α β:Type}{o:Option α}{f:α->Option β}{b:β}(h:o.bind f=U b):∃a,o=U a/\f a=U b:=u7.mp h
def aU{α β:Type}{o:Option α}{f:α->β}{b:β}(h:o.map f=U b):∃a,o=U a/\b=f a:=by obtain⟨a,h1,h2⟩:=v9.mp h;exact⟨a,h1,h2.symm⟩
def bA{α:Type}{k:Bool}{o:Option α}{a:α}(h:(if k then o else O)=U a):k=Y/\o=U a:=by
 cases k with
 |true=>exact⟨rfl,h⟩
 |false=>exact nomatch (show O=U a from h)
def cL{a b:Bool}(h:(a&&b)=Y):a=Y/\b=Y:=(uz a b) ▸ h
def WV{a:Bool}(h:(!a)=Y):a=J:=by cases a<;>first|rfl|exact h.symm
def kS{α:Type}{l:List α}(h:l.isEmpty=Y):l=[]:=List.isEmpty_iff.mp h
def JW{c:CC}(h:own c x=J):c.fns.contains x=J/\c.cls.contains x=J:=by unfold own at h;rw[Bool.or_eq_false_iff]at h;exact h
def oZ{c:CC}{e:Expr}{q:Str×List Expr}(h:rO c e=U q):∃p1 p2,e=.Call (.Name q.1 p1) q.2 [] p2/\bG c q.1=Y/\own c q.1=J:=by obtain⟨r,h1,h⟩:=aE h;obtain⟨x,h2,h⟩:=aE h;obtain⟨h3,h⟩:=bA h;obtain⟨h3,h5⟩:=cL h3;obtain⟨h3,z⟩:=cL h3;cases h;exact⟨x.2,r.2.2.2,by rw[fA h1,cU h2,kS h3],z,WV h5⟩
def ER{e:Expr}(h:aCD e=U x):∃j p,e=.Constant (.str x) j p:=by obtain⟨v,h1,h⟩:=aE h;obtain⟨v,j,p⟩:=v;have e1:=GQ h1;cases v<;>first|exact nomatch (show O=U x from h)|(cases (show U _=U x from h);exact⟨j,p,e1⟩)
open PySem.Spec PyProof.Rows L2
def ExcAt(xc:Str->Option Addr)(H:Hp)(a:Addr)(c:Str):Prop:=∃φ C,H a=U (.ext φ)/\xc c=U C/\∀h:Heap,φ h->∃o,h.get? a=U o/\o.cls=.ref C
structure Tx where
 cl:Str->Option Addr
 xc:Str->Option Addr
section
variable (K:xq)(T:Tx)(H:Hp)(S:Addr->Prop)
mutual
noncomputable def Rep:D->σ->Prop
 |.non,v=>v=.non
 |.bl b,v=>v=.bl b
 |.int i,v=>v=.int i
 |.str x,v=>v=.str x
 |.lst ds,v=>∃a xs,v=.ref a/\¬S a/\H a=U (.lst xs)/\aD ds xs
 |.tup ds,v=>∃a xs,v=.ref a/\¬S a/\SqT K H a xs/\aD ds xs
 |.obj c fs,v=>∃a C dx gs,v=.ref a/\¬S a/\T.cl c=U C/\H a=U (.ins C dx gs)/\cQ fs gs
 |.exc c,v=>∃a,v=.ref a/\¬S a/\ExcAt T.xc H a c
 |.dct kvs,v=>∃a gs,v=.ref a/\¬S a/\H a=U (.dK gs)/\bC kvs gs
 |.frz ds,v=>∃a xs,v=.ref a/\¬S a/\SqL K H a xs/\aD ds xs
noncomputable def aD:List D->List σ->Prop
 |[],xs=>xs=[]
 |d::ds,xs=>∃x r,xs=x::r/\Rep d x/\aD ds r
noncomputable def cQ:List (Str×D)->List (Str×σ)->Prop
 |[],gs=>gs=[]
 | (f,d)::fs,gs=>∃x r,gs=(f,x)::r/\Rep d x/\cQ fs r
noncomputable def bC:List (Int×D)->List (Key×σ)->Prop
 |[],gs=>gs=[]
 | (i,d)::fs,gs=>∃x r,gs=(Sum.inl i,x)::r/\Rep d x/\bC fs r
end
end
section
variable {K:xq}{T:Tx}{H H':Hp}{S S':Addr->Prop}
def SqT.keeps{a:Addr}(h:SqT K H a xs)(k:∀o,H a=U o->H' a=U o):SqT K H' a xs:=by rcases h with (h|⟨o,h⟩)|h;exact .inl (.inl (k _ h));exact .inl (.inr ⟨o,k _ h⟩);exact .inr h
def SqL.keeps{a:Addr}(h:SqL K H a xs)(k:∀o,H a=U o->H' a=U o):SqL K H' a xs:=by rcases h with (h|⟨o,h⟩)|h;exact .inl (.inl (k _ h));exact .inl (.inr ⟨o,k _ h⟩);exact .inr h
def aO(K:xq)(H H':Hp)(S S':Addr->Prop):Prop:=∀a,¬S a->((∃o,H a=U o)\/∃o,K.lookup a=U o)->¬S' a/\∀o,H a=U o->H' a=U o
def SqT.has{a:Addr}(h:SqT K H a xs):(∃o,H a=U o)\/∃o,K.lookup a=U o:=by rcases h with (h|⟨o,h⟩)|⟨o,_,_,h,_⟩;exact .inl ⟨_,h⟩;exact .inl ⟨_,h⟩;exact .inr ⟨_,h⟩
def SqL.has{a:Addr}(h:SqL K H a xs):(∃o,H a=U o)\/∃o,K.lookup a=U o:=by rcases h with (h|⟨o,h⟩)|⟨o,_,_,h,_⟩;exact .inl ⟨_,h⟩;exact .inl ⟨_,h⟩;exact .inr ⟨_,h⟩
mutual
theorem Rep.gen(hk:aO K H H' S S'):∀(d:D) (v:σ),Rep K T H S d v->Rep K T H' S' d v
 |.non,v,h=>by unfold Rep at h ⊢;exact h
 |.bl b,v,h=>by unfold Rep at h ⊢;exact h
 |.int i,v,h=>by unfold Rep at h ⊢;exact h
 |.str x,v,h=>by unfold Rep at h ⊢;exact h
 |.lst ds,v,h=>by unfold Rep at h ⊢;obtain⟨a,xs,e,n,q,r⟩:=h;obtain⟨z,k⟩:=hk a n (.inl ⟨_,q⟩);exact⟨a,xs,e,z,k _ q,aD.gen hk ds xs r⟩
 |.tup ds,v,h=>by unfold Rep at h ⊢;obtain⟨a,xs,e,n,q,r⟩:=h;obtain⟨z,k⟩:=hk a n (SqT.has q);exact⟨a,xs,e,z,SqT.keeps q k,aD.gen hk ds xs r⟩
 |.obj c fs,v,h=>by unfold Rep at h ⊢;obtain⟨a,C,dx,gs,e,n,ec,q,r⟩:=h;obtain⟨z,k⟩:=hk a n (.inl ⟨_,q⟩);exact⟨a,C,dx,gs,e,z,ec,k _ q,cQ.gen hk fs gs r⟩
 |.exc c,v,h=>by unfold Rep at h ⊢;obtain⟨a,e,n,φ,C,q,r⟩:=h;obtain⟨z,k⟩:=hk a n (.inl ⟨_,q⟩);exact⟨a,e,z,φ,C,k _ q,r⟩
 |.dct kvs,v,h=>by unfold Rep at h ⊢;obtain⟨a,gs,e,n,q,r⟩:=h;obtain⟨z,k⟩:=hk a n (.inl ⟨_,q⟩);exact⟨a,gs,e,z,k _ q,bC.gen hk kvs gs r⟩
 |.frz ds,v,h=>by unfold Rep at h ⊢;obtain⟨a,xs,e,n,q,r⟩:=h;obtain⟨z,k⟩:=hk a n (SqL.has q);exact⟨a,xs,e,z,SqL.keeps q k,aD.gen hk ds xs r⟩
theorem aD.gen(hk:aO K H H' S S'):∀(ds:List D) (xs:List σ),aD K T H S ds xs->aD K T H' S' ds xs
 |[],xs,h=>by unfold aD at h ⊢;exact h
 |d::ds,xs,h=>by unfold aD at h ⊢;obtain⟨x,r,e,p,q⟩:=h;exact⟨x,r,e,Rep.gen hk d x p,aD.gen hk ds r q⟩
theorem cQ.gen(hk:aO K H H' S S'):∀(ds:List (Str×D)) (xs:List (Str×σ)),cQ K T H S ds xs->cQ K T H' S' ds xs
 |[],xs,h=>by unfold cQ at h ⊢;exact h
 | (f,d)::ds,xs,h=>by unfold cQ at h ⊢;obtain⟨x,r,e,p,q⟩:=h;exact⟨x,r,e,Rep.gen hk d x p,cQ.gen hk ds r q⟩
theorem bC.gen(hk:aO K H H' S S'):∀(ds:List (Int×D)) (xs:List (Key×σ)),bC K T H S ds xs->bC K T H' S' ds xs
 |[],xs,h=>by unfold bC at h ⊢;exact h
 | (f,d)::ds,xs,h=>by unfold bC at h ⊢;obtain⟨x,r,e,p,q⟩:=h;exact⟨x,r,e,Rep.gen hk d x p,bC.gen hk ds r q⟩
end
def aO.mk(hS:∀a,S' a->S a)(hk:∀b o,¬S b->H b=U o->H' b=U o):aO K H H' S S':=λa n _=>⟨λz=>n (hS a z),λo=>hk a o n⟩
def aO.add{D:Addr}(I:H D=O)(hK:K.lookup D=O):aO K H (upd H D o) S (λa=>S a\/a=D):=λa n h=>by
 have ne:a≠D:=by rintro rfl;rcases h with ⟨u,e⟩|⟨u,e⟩;rw[I]at e;cases e;rw[hK]at e;cases e
 exact⟨λz=>z.elim n ne,λu e=>by rw[aS ne];exact e⟩
def Rep.mono(hS:∀a,S' a->S a)(hk:∀b o,¬S b->H b=U o->H' b=U o)(d:D)(v:σ)(h:Rep K T H S d v):Rep K T H' S' d v:=Rep.gen (aO.mk hS hk) d v h
def aD.mono(hS:∀a,S' a->S a)(hk:∀b o,¬S b->H b=U o->H' b=U o)(d:List D)(v:List σ)(h:aD K T H S d v):aD K T H' S' d v:=aD.gen (aO.mk hS hk) d v h
def Rep.same(k:aG H H'){d:D}{v:σ}(h:Rep K T H S d v):Rep K T H' S d v:=Rep.mono (λ_ z=>z) (λb o _=>k b o) d v h
def aD.same(k:aG H H'){d:List D}{v:List σ}(h:aD K T H S d v):aD K T H' S d v:=aD.mono (λ_ z=>z) (λb o _=>k b o) d v h
theorem aD.len:∀{ds:List D} {xs:List σ},aD K T H S ds xs->ds.length=xs.length
 |[],xs,h=>by unfold aD at h;subst h;rfl
 |d::ds,xs,h=>by unfold aD at h;obtain⟨x,r,rfl,_,q⟩:=h;simp[aD.len q]
theorem aD.get:∀{ds:List D} {xs:List σ} {i:Nat} {d:D},aD K T H S ds xs->ds[i]?=U d->∃x,xs[i]?=U x/\Rep K T H S d x
 |[],_,_,_,_,e=>by simp at e
 |d::ds,xs,0,d',h,e=>by unfold aD at h;obtain⟨x,r,rfl,p,q⟩:=h;simp at e;subst e;exact⟨x,rfl,p⟩
 |d::ds,xs,i+1,d',h,e=>by unfold aD at h;obtain⟨x,r,rfl,p,q⟩:=h;obtain⟨y,h1,h2⟩:=aD.get (i:=i) (d:=d') q (by simpa using e);exact⟨y,by simpa using h1,h2⟩
theorem aD.app:∀{ds es:List D} {xs ys:List σ},aD K T H S ds xs->aD K T H S es ys->aD K T H S (ds++es) (xs++ys)
 |[],es,xs,ys,h,g=>by unfold aD at h;subst h;exact g
 |d::ds,es,xs,ys,h,g=>by unfold aD at h;obtain⟨x,r,rfl,p,q⟩:=h;show aD K T H S (d::(ds++es)) _;unfold aD;exact⟨x,r++ys,rfl,p,aD.app q g⟩
def aD.nil:aD K T H S [] []:=by unfold aD;rfl
def aD.cons{d:D}{x:σ}{ds:List D}(h:Rep K T H S d x)(g:aD K T H S ds xs):aD K T H S (d::ds) (x::xs):=by unfold aD;exact⟨x,xs,rfl,h,g⟩
theorem aD.drop:∀{ds:List D} {xs:List σ} (n:Nat),aD K T H S ds xs->aD K T H S (ds.drop n) (xs.drop n)
 |ds,xs,0,h=>h
 |[],xs,n+1,h=>by unfold aD at h;subst h;exact aD.nil
 |d::ds,xs,n+1,h=>by unfold aD at h;obtain⟨x,r,rfl,p,q⟩:=h;exact aD.drop n q
theorem aD.take:∀{ds:List D} {xs:List σ} (n:Nat),aD K T H S ds xs->aD K T H S (ds.take n) (xs.take n)
 |ds,xs,0,h=>by simp;exact aD.nil
 |[],xs,n+1,h=>by unfold aD at h;subst h;exact aD.nil
 |d::ds,xs,n+1,h=>by unfold aD at h;obtain⟨x,r,rfl,p,q⟩:=h;exact aD.cons p (aD.take n q)
theorem aD.set:∀{ds:List D} {xs:List σ} (n:Nat) {d:D} {v:σ},aD K T H S ds xs->Rep K T H S d v->aD K T H S (ds.set n d) (xs.set n v)
 |[],xs,n,d,v,h,g=>by unfold aD at h;subst h;exact aD.nil
 |_::ds,xs,0,d,v,h,g=>by unfold aD at h;obtain⟨x,r,rfl,p,q⟩:=h;exact aD.cons g q
 |_::ds,xs,n+1,d,v,h,g=>by unfold aD at h;obtain⟨x,r,rfl,p,q⟩:=h;exact aD.cons p (aD.set n q g)
theorem aD.rev:∀{ds:List D} {xs:List σ},aD K T H S ds xs->aD K T H S ds.reverse xs.reverse
 |[],xs,h=>by unfold aD at h;subst h;exact aD.nil
 |d::ds,xs,h=>by unfold aD at h;obtain⟨x,r,rfl,p,q⟩:=h;rw[reverse_cons,reverse_cons];exact aD.app (aD.rev q) (aD.cons p aD.nil)
theorem cQ.look{f:Str}:∀{ds:List (Str×D)} {xs:List (Str×σ)},cQ K T H S ds xs->(∀d,ds.lookup f=U d->∃x,xs.lookup f=U x/\Rep K T H S d x)/\(ds.lookup f=O->xs.lookup f=O)
 |[],xs,h=>by unfold cQ at h;subst h;exact⟨λd e=>by simp at e,λ_=>rfl⟩
 | (g,d)::ds,xs,h=>by
  unfold cQ at h;obtain⟨x,r,rfl,p,q⟩:=h;obtain⟨R,I⟩:=cQ.look (f:=f) q;rw[lookup_cons,lookup_cons];cases e:f == g with
  |true=>exact⟨λd' z=>⟨x,rfl,by cases z;exact p⟩,λz=>by cases z⟩
  |false=>exact⟨R,I⟩
end
noncomputable def er(H:Hp)(p:Addr):Hp:=λa=>if a=p then O else H a
def rF{p a:Addr}:er H p a=U o↔a≠p/\H a=U o:=by unfold er;split<;>simp_all
def iO{p:Addr}(h:H p=O):er (upd H p o) p=H:=by funext a;unfold er;by_cases e:a=p;rw[if_pos e,e,h];rw[if_neg e,aS e]
theorem aD.er{T:Tx}{p:Addr}{ds:List D}(h:aD K T (er H p) S ds xs):aD K T H S ds xs:=aD.mono (λ_ z=>z) (λb o _ e=>(rF.mp e).2) ds xs h
def aD.disown{T:Tx}{p:Addr}{ds:List D}(hp:S p)(hs:∀a,S' a->S a)(h:aD K T H S ds xs):aD K T (Z.er H p) S' ds xs:=aD.gen (λa n _=>⟨λz=>n (hs a z),λo e=>rF.mpr ⟨λz=>n (by rw[z];exact hp),e⟩⟩) ds xs h
def aO.own{p:Addr}(hk:K.lookup p=O):aO K (Z.er H p) H S (λa=>S a\/a=p):=λa n q=>by
 have ne:a≠p:=by rintro rfl;rcases q with ⟨o,e⟩|⟨o,e⟩;exact(rF.mp e).1 rfl;rw[hk]at e;cases e
 exact⟨λz=>z.elim n ne,λo e=>(rF.mp e).2⟩
def oE(K:xq)(T:Tx)(H:Hp)(S:Addr->Prop)(d:D)(o:HO):Prop:=(∃ds xs,d=.lst ds/\o=.lst xs/\aD K T H S ds xs)\/∃kvs gs,d=.dct kvs/\o=.dK gs/\bC K T H S kvs gs
theorem oE.gen{T:Tx}{H':Hp}{d:D}(mv:aO K H H' S S')(h:oE K T H S d o):oE K T H' S' d o:=by rcases h with ⟨ds,xs,e1,e2,r⟩|⟨ds,xs,e1,e2,r⟩;exact .inl ⟨ds,xs,e1,e2,aD.gen mv _ _ r⟩;exact .inr ⟨ds,xs,e1,e2,bC.gen mv _ _ r⟩
theorem oE.lst{T:Tx}{ds:List D}(h:oE K T H S (.lst ds) o):∃xs,o=.lst xs/\aD K T H S ds xs:=by rcases h with ⟨ds',xs,e1,e2,r⟩|⟨ds',xs,e1,e2,r⟩;cases e1;exact⟨xs,e2,r⟩;cases e1
theorem oE.dct{T:Tx}{ds:List (Int×D)}(h:oE K T H S (.dct ds) o):∃xs,o=.dK xs/\bC K T H S ds xs:=by rcases h with ⟨ds',xs,e1,e2,r⟩|⟨ds',xs,e1,e2,r⟩;cases e1;cases e1;exact⟨xs,e2,r⟩
def oE.rep{T:Tx}{d:D}{p:Addr}(h:oE K T H S d o)(hp:H p=U o)(hn:¬S' p)(hs:∀a,S' a->S a):Rep K T H S' d (.ref p):=by rcases h with ⟨ds,xs,rfl,rfl,r⟩|⟨ds,xs,rfl,rfl,r⟩;unfold Rep;exact⟨p,xs,rfl,hn,hp,aD.gen (aO.mk hs λ_ _ _ e=>e) _ _ r⟩;unfold Rep;exact⟨p,xs,rfl,hn,hp,bC.gen (aO.mk hs λ_ _ _ e=>e) _ _ r⟩
section
variable (K:xq)(T:Tx)(H:Hp)(S:Addr->Prop)
def PQ(s:Sl)(o:Option (Option σ)):Prop:=match s with
 |.un=>True
 |.mm _=>True
 |.im d=>∃v,o=U (U v)/\Rep K T H S d v
 |.mu d=>∃p ob,o=U (U (.ref p))/\S p/\H p=U ob/\oE K T H S d ob
structure RE (B:List Sl) (V:L2.St):Prop where
 dom:∀a,S a->∃o,H a=U o
 len:B.length=V.length
 at_:∀(i:Nat) s,B[i]?=U s->PQ K T H S s V[i]?
def tD(B:List Sl)(d:D):TE:=λV H Q=>RE K T H S B V/\∀v H',aG H H'->Rep K T H' S d v->Q v H'
def dq(B:List Sl)(ds:List D):TA:=λV H Q=>RE K T H S B V/\∀vs H',aG H H'->aD K T H' S ds vs->Q vs H'
noncomputable def ip(B:List Sl)(b:Bool):TT:=λV H Q=>RE K T H S B V/\∀H',aG H H'->Q b H'
def ej(B:List Sl)(ds:List D):TE:=λV H Q=>RE K T H S B V/\∀p xs H',aG H H'->H p=O->H' p=U (.lst xs)->aD K T (er H' p) S ds xs->Q (.ref p) H'
end
section
variable {K:xq}{T:Tx}{H H':Hp}{S S':Addr->Prop}{B:List Sl}{V:L2.St}
theorem PQ.same(k:aG H H'){s:Sl}{o:Option (Option σ)}(h:PQ K T H S s o):PQ K T H' S s o:=by
 cases s with
 |un=>trivial
 |mm _=>trivial
 |im d=>obtain⟨v,e,r⟩:=h;exact⟨v,e,r.same k⟩
 |mu ds=>obtain⟨p,xs,e,n,q,r⟩:=h;exact⟨p,xs,e,n,k _ _ q,r.gen (aO.mk (λ_ z=>z) λb o _=>k b o)⟩
theorem RE.same(k:aG H H')(h:RE K T H S B V):RE K T H' S B V:=⟨λa z=>let ⟨o,e⟩:=h.dom a z;⟨o,k a o e⟩,h.len,λi s e=>(h.at_ i s e).same k⟩
def RE.nS(h:RE K T H S B V){a:Addr}(e:H a=O):¬S a:=λz=>by obtain⟨o,q⟩:=h.dom a z;rw[e]at q;cases q
end
def PE.mono{e:Expr}{t t':TE}(h:PE X e t)(m:∀V H Q,t' V H Q->t V H Q):PE X e t':=λpins s V H Q I hw=>h pins s V H Q I (m V H Q hw)
def PT.mono{e:Expr}{t t':TT}(h:PT X e t)(m:∀V H Q,t' V H Q->t V H Q):PT X e t':=λpins s V H Q I hw=>h pins s V H Q I (m V H Q hw)
def PW.mono{e:Expr}{t t':TT}(h:PW X e t)(m:∀V H Q,t' V H Q->t V H Q):PW X e t':=λz pins s V H Q I hw=>h z pins s V H Q I (m V H Q hw)
def PA.mono{e:List Expr}{t t':TA}(h:PA X e t)(m:∀V H Q,t' V H Q->t V H Q):PA X e t':=λpos pins s V H Q I hw=>h pos pins s V H Q I (m V H Q hw)
theorem aG.upd{H:Hp}{p:Addr}{o:HO}(h:H p=O):aG H (upd H p o):=λb u e=>by rw[aS (bF e h)];exact e
mutual
noncomputable def py:D->PyData
 |.non=>.none
 |.bl b=>.bool b
 |.int i=>.int i
 |.str x=>.str x
 |.lst xs=>.list (cH xs)
 |.tup xs=>.tuple (cH xs)
 |.obj _ _=>.none
 |.exc _=>.none
 |.dct _=>.none
 |.frz _=>.none
noncomputable def cH:List D->List PyData
 |[]=>[]
 |d::r=>py d::cH r
end
theorem eJ{n:Nat}(h:∀d,flat n d=Y->(py d).canLay0=Y):∀ds:List D,ds.all (flat n)=Y->PyData.canLayAll0 (cH ds)=Y
 |[],_=>by simp[cH,PyData.canLayAll0]
 |d::ds,e=>by rw[all_cons,uz]at e;simp only[cH,PyData.canLayAll0,uz];exact⟨h d e.1,eJ h ds e.2⟩
theorem canLay:∀(n:Nat) (d:D),flat n d=Y->(py d).canLay0=Y
 |n,.non,_=>by simp[py,PyData.canLay0]
 |n,.bl _,_=>by simp[py,PyData.canLay0]
 |n,.int _,_=>by simp[py,PyData.canLay0]
 |n,.str x,h=>by
  have e:okS x=Y:=by cases n<;>simpa [flat] using h
  simp only[py,PyData.canLay0];exact e
 | 0,.lst _,h=>by simp[flat]at h
 | 0,.tup _,h=>by simp[flat]at h
 |n+1,.lst xs,h=>by simp only[py,PyData.canLay0];exact eJ (canLay n) xs (by simpa [flat] using h)
 |n+1,.tup xs,h=>by simp only[py,PyData.canLay0];exact eJ (canLay n) xs (by simpa [flat] using h)
 |n,.obj _ _,h=>by cases n<;>simp[flat]at h
 |n,.exc _,h=>by cases n<;>simp[flat]at h
 |n,.dct _,h=>by cases n<;>simp[flat]at h
 |n,.frz _,h=>by cases n<;>simp[flat]at h
theorem nX{n:Nat}(h:∀d,flat n d=Y->(py d).depth<=n):∀ds:List D,ds.all (flat n)=Y->PyData.depthAll (cH ds)<=n
 |[],_=>by simp[cH,PyData.depthAll]
 |d::ds,e=>by rw[all_cons,uz]at e;simp only[cH,PyData.depthAll];exact Nat.max_le.mpr ⟨h d e.1,nX h ds e.2⟩
theorem rG:∀(n:Nat) (d:D),flat n d=Y->(py d).depth<=n
 |n,.non,_=>by simp[py,PyData.depth]
 |n,.bl _,_=>by simp[py,PyData.depth]
 |n,.int _,_=>by simp[py,PyData.depth]
 |n,.str x,h=>by simp[py,PyData.depth]
 | 0,.lst _,h=>by simp[flat]at h
 | 0,.tup _,h=>by simp[flat]at h
 |n+1,.lst xs,h=>by simp only[py,PyData.depth];exact Nat.succ_le_succ (nX (rG n) xs (by simpa [flat] using h))
 |n+1,.tup xs,h=>by simp only[py,PyData.depth];exact Nat.succ_le_succ (nX (rG n) xs (by simpa [flat] using h))
 |n,.obj _ _,h=>by simp[py,PyData.depth]
 |n,.exc _,h=>by simp[py,PyData.depth]
 |n,.dct _,h=>by simp[py,PyData.depth]
 |n,.frz _,h=>by simp[py,PyData.depth]
theorem DN{n:Nat}(h:∀d e,flat n d=Y->flat n e=Y->cu d e=PyData.eqv (py d) (py e)):∀ds es:List D,ds.all (flat n)=Y->es.all (flat n)=Y->kP ds es=PyData.eqvAll (cH ds) (cH es)
 |[],[],_,_=>by simp[kP,cH,PyData.eqvAll]
 |[],_::_,_,_=>by simp[kP,cH,PyData.eqvAll]
 |_::_,[],_,_=>by simp[kP,cH,PyData.eqvAll]
 |d::ds,e::es,a,b=>by rw[all_cons,uz]at a b;simp only[kP,cH,PyData.eqvAll];rw[h d e a.1 b.1,DN h ds es a.2 b.2]
theorem vU:∀(n:Nat) (d e:D),flat n d=Y->flat n e=Y->cu d e=PyData.eqv (py d) (py e)
 | 0,d,e,a,b=>by cases d<;>cases e<;>first|(simp[flat]at a;done)|(simp[flat]at b;done)|simp[cu,py,PyData.eqv]
 |n+1,d,e,a,b=>by
  cases d<;>cases e<;>first
   | (simp[flat]at a;done)
   | (simp[flat]at b;done)
   | (simp only[cu,py,PyData.eqv];exact DN (vU n) _ _ (by simpa [flat] using a) (by simpa [flat] using b))
   |simp[cu,py,PyData.eqv]
section
variable {X:Cx}{T:Tx}{pins:xv}{V:L2.St}{H:Hp}{s:Shared}{S:Addr->Prop}
theorem mU{n:Nat}(h:∀d v u,flat n d=Y->Rep X.K T H S d v->RelV v u->∃as,Reads s.heap u (py d) as):∀(ds:List D) (xs:List σ) (us:List Value),ds.all (flat n)=Y->aD X.K T H S ds xs->aY xs us->∃as,ReadsAll s.heap us (cH ds) as
 |[],xs,us,_,r,v=>by unfold aD at r;subst r;cases v;exact⟨_,.nil⟩
 |d::ds,xs,us,e,r,v=>by
  rw[all_cons,uz]at e;unfold aD at r;obtain⟨x,q,rfl,W,R⟩:=r;cases v with
  |cons I z=>obtain⟨as,h1⟩:=h d x _ e.1 W I;obtain⟨bs,h2⟩:=mU h ds q _ e.2 R z;exact⟨_,.cons h1 h2⟩
theorem eP(I:Inv X pins V H s):∀(n:Nat) (d:D) (v:σ) (u:Value),flat n d=Y->Rep X.K T H S d v->RelV v u->∃as,Reads s.heap u (py d) as
 |n,.non,v,u,_,r,q=>by unfold Rep at r;subst r;cases q;exact⟨_,.none⟩
 |n,.bl b,v,u,_,r,q=>by unfold Rep at r;subst r;cases q;exact⟨_,.bool b⟩
 |n,.int i,v,u,_,r,q=>by unfold Rep at r;subst r;obtain⟨t,rfl⟩:=q;exact⟨_,.int i t⟩
 |n,.str x,v,u,_,r,q=>by unfold Rep at r;subst r;obtain⟨t,rfl⟩:=q;exact⟨_,.str x t⟩
 | 0,.lst _,_,_,h,_,_=>by simp[flat]at h
 | 0,.tup _,_,_,h,_,_=>by simp[flat]at h
 |n+1,.lst ds,v,u,h,r,q=>by unfold Rep at r;obtain⟨a,xs,rfl,_,e,r⟩:=r;cases q;obtain⟨its,rv,⟨o,k,ho,hc,hd,hs⟩,_⟩:=I.list (SqL.of e);obtain⟨as,z⟩:=mU (eP I n) ds xs its (by simpa [flat] using h) r rv;simp only[py];exact⟨_,.list ho hc hs (by simpa using z)⟩
 |n+1,.tup ds,v,u,h,r,q=>by unfold Rep at r;obtain⟨a,xs,rfl,_,e,r⟩:=r;cases q;obtain⟨its,rv,⟨o,ho,hc,k,hs⟩,_⟩:=I.tuple e;obtain⟨as,z⟩:=mU (eP I n) ds xs its (by simpa [flat] using h) r rv;simp only[py];exact⟨_,.tuple ho hc hs (by simpa using z)⟩
 |n,.obj _ _,_,_,h,_,_=>by cases n<;>simp[flat]at h
 |n,.exc _,_,_,h,_,_=>by cases n<;>simp[flat]at h
 |n,.dct _,_,_,h,_,_=>by cases n<;>simp[flat]at h
 |n,.frz _,_,_,h,_,_=>by cases n<;>simp[flat]at h
end
def rD(K:xq)(T:Tx)(S:Addr->Prop)(o:O2):R2:=λx y H Q=>∃a b d,(∀a,S a->∃o,H a=U o)/\Rep K T H S a x/\Rep K T H S b y/\af o a b=U d/\∀v H',aG H H'->Rep K T H' S d v->Q v H'
def gG:big<=sizeLine:=by rw[sizeLine_eq];decide
section
variable {X:Cx}{T:Tx}{S:Addr->Prop}
def wX{p:Addr}{ds:List D}(dom:∀a,S a->∃o,H a=U o)(hp:H p=O)(r:aD K T H S ds xs):Rep K T (upd H p (.lst xs)) S (.lst ds) (.ref p):=by unfold Rep;exact⟨p,xs,rfl,λz=>(by obtain⟨o,e⟩:=dom p z;rw[hp]at e;cases e),aW,r.same (aG.upd hp)⟩
def fI{p:Addr}{ds:List D}(dom:∀a,S a->∃o,H a=U o)(hp:H p=O)(r:aD K T H S ds xs):Rep K T (upd H p (.tup xs)) S (.tup ds) (.ref p):=by unfold Rep;exact⟨p,xs,rfl,λz=>(by obtain⟨o,e⟩:=dom p z;rw[hp]at e;cases e),SqT.of aW,r.same (aG.upd hp)⟩
def OX{w:World}{E:xu}{t b:Addr}{ws:List Value}(ht:IsTup s.heap t (#[]:Array Value))(hb:IsTup s.heap b ws.toArray) (h1:Q (.ref b) s) (hsz:ws.length<=sizeLine):wpAny (model prog w) A (binaryOp .Add (.ref t) (.ref b)) Q E s:=by obtain⟨⟨cls,dd,data,sl⟩,ho,hc,n,hd⟩:=id ht;obtain⟨⟨cls2,I,R,oi⟩,dO,W,n2,z⟩:=id hb;simp only at hc hd W z;subst hc hd W z;exact concat_meets ⟨_,ho,rfl⟩ ⟨_,dO,rfl⟩ noFill_tuple_add seq_tuple_add slot_tuple_add entry_tuple_add (args_tuple_add_2 _ _) (tuple_addW0 t b #[] ws.toArray n n2 dd I sl oi zv) ⟨ho,dO,h1⟩
def TZ:bg X (binaryOp .Add) (rD X.K T S .add):=by
 rintro pins s V H x y v u Q I rx ry ⟨a,b,d,dom,R,z,e,q⟩;simp only[af,aDv]at e;split at e;rename_i i j;unfold Rep at R z;cases e;exact aAO pins s V H x y v u Q I rx ry ⟨i,j,R,z,q _ H (aG.refl H) (by unfold Rep;rfl)⟩;rename_i i j;unfold Rep at R z;split at e;rename_i hz;cases e;exact zY pins s V H x y v u Q I rx ry ⟨i,j,R,z,vi hz gG,q _ H (aG.refl H) (by unfold Rep;rfl)⟩;cases e;rename_i as bs;unfold Rep at R z;obtain⟨l,xs,ex,_,e1,r1⟩:=R;obtain⟨b,ys,ey,_,e2,W⟩:=z;split at e;rename_i hz;cases e;refine JZ pins s V H x y v u Q I rx ry ⟨l,b,xs,ys,ex,ey,e1,e2,?_,λp hp=>q _ _ (aG.upd hp) (wX dom hp (r1.app W))⟩;rw[<-r1.len,<-W.len];exact vi hz gG;cases e;rename_i as bs;have ra':=R;have rb':=z;unfold Rep at R z;obtain⟨l,xs,ex,_,e1,r1⟩:=R;obtain⟨b,ys,ey,_,e2,W⟩:=z;split at e;rename_i hz;cases e;have fc:xs.length+ys.length<=sizeLine:=by rw[<-r1.len,<-W.len];exact vi hz gG
 by_cases hx:xs=[];subst hx ex ey;cases rx;cases ry;have ea:as=[]:=vv.mp r1.len;subst ea;obtain⟨its,v1,p1,_⟩:=I.tuple e1;obtain⟨d6,v2,p2,z2⟩:=I.tuple e2;cases v1;exact OX p1 p2 ⟨.ref b,H,I,rfl,q _ H (aG.refl H) (by simpa using rb')⟩ (by rw[<-v2.length];exact z2);refine TM pins s V H x y v u Q I rx ry ⟨l,b,xs,ys,ex,ey,e1,e2,hx,fc,λhy=>?_,λhy p hp=>q _ _ (aG.upd hp) (fI dom hp (r1.app W))⟩;subst hy;have eb:bs=[]:=vv.mp W.len;subst eb;rw[<-ex];exact q _ H (aG.refl H) (by simpa using ra');cases e;cases e
def TQ:bg X (binaryOp .Sub) (rD X.K T S .sub):=by rintro pins s V H x y v u Q I rx W ⟨a,b,d,dom,R,z,e,q⟩;simp only[af,aDs]at e;split at e;rename_i i j;unfold Rep at R z;cases e;exact aAJ pins s V H x y v u Q I rx W ⟨i,j,R,z,q _ H (aG.refl H) (by unfold Rep;rfl)⟩;cases e
def TV:bg X (binaryOp .Mult) (rD X.K T S .mul):=by rintro pins s V H x y v u Q I rx W ⟨a,b,d,dom,R,z,e,q⟩;simp only[af,aDu]at e;split at e;rename_i i j;unfold Rep at R z;split at e;rename_i hz;cases e;exact aAL pins s V H x y v u Q I rx W ⟨i,j,R,z,hz,q _ H (aG.refl H) (by unfold Rep;rfl)⟩;cases e;cases e
def KA:bg X (binaryOp .FloorDiv) (rD X.K T S .fdiv):=by rintro pins s V H x y v u Q I rx W ⟨a,b,d,dom,R,z,e,q⟩;simp only[af,oDiv]at e;split at e;rename_i i j;unfold Rep at R z;split at e;rename_i hz;cases e;exact TL pins s V H x y v u Q I rx W ⟨i,j,R,z,hz,q _ H (aG.refl H) (by unfold Rep;rfl)⟩;cases e;cases e
def TX:bg X (binaryOp .Mod) (rD X.K T S .mod):=by rintro pins s V H x y v u Q I rx W ⟨a,b,d,dom,R,z,e,q⟩;simp only[af,oMod]at e;split at e;rename_i i j;unfold Rep at R z;split at e;rename_i hz;cases e;exact aAM pins s V H x y v u Q I rx W ⟨i,j,R,z,hz,q _ H (aG.refl H) (by unfold Rep;rfl)⟩;cases e;cases e
def TR:bg X (binaryOp .Pow) (rD X.K T S .pow):=by rintro pins s V H x y v u Q I rx W ⟨a,b,d,dom,R,z,e,q⟩;simp only[af,aDt]at e;split at e;rename_i i j;unfold Rep at R z;split at e;rename_i hz;cases e;exact aAK pins s V H x y v u Q I rx W ⟨i,j,R,z,⟨hz.1,zq,hz.2.2⟩,q _ H (aG.refl H) (by unfold Rep;rfl)⟩;cases e;cases e
def TY{op:Operator}{o:O2}(h:TN op=U o):bg X (binaryOp op) (rD X.K T S o):=by cases op<;>simp only[TN]at h<;>first|(cases h;done)|(cases h;first|exact TZ|exact TQ|exact TV|exact KA|exact TX|exact TR)
def cP{b:Bool}:Rep K T H S (.bl b) (.bl b):=by unfold Rep;rfl
def aAQ:bg X (compareOp .Lt) (rD X.K T S .lt):=by rintro pins s V H x y v u Q I rx W ⟨a,b,d,dom,R,z,e,q⟩;simp only[af,oLt]at e;split at e;rename_i i j;unfold Rep at R z;cases e;exact aDi pins s V H x y v u Q I rx W ⟨i,j,R,z,q _ H (aG.refl H) cP⟩;cases e
def aAR:bg X (compareOp .LtE) (rD X.K T S .le):=by rintro pins s V H x y v u Q I rx W ⟨a,b,d,dom,R,z,e,q⟩;simp only[af,oLe]at e;split at e;rename_i i j;unfold Rep at R z;cases e;exact aDj pins s V H x y v u Q I rx W ⟨i,j,R,z,q _ H (aG.refl H) cP⟩;cases e
def aAU:bg X (compareOp .Gt) (rD X.K T S .gt):=by rintro pins s V H x y v u Q I rx W ⟨a,b,d,dom,R,z,e,q⟩;simp only[af,oGt]at e;split at e;rename_i i j;unfold Rep at R z;cases e;exact aDk pins s V H x y v u Q I rx W ⟨i,j,R,z,q _ H (aG.refl H) cP⟩;cases e
def aAV:bg X (compareOp .GtE) (rD X.K T S .ge):=by rintro pins s V H x y v u Q I rx W ⟨a,b,d,dom,R,z,e,q⟩;simp only[af,oGe]at e;split at e;rename_i i j;unfold Rep at R z;cases e;exact aDl pins s V H x y v u Q I rx W ⟨i,j,R,z,q _ H (aG.refl H) cP⟩;cases e
def WO(hu:A.units+64<cLine){d e:D}(hd:plain d=Y):A.units+min (py d).depth (py e).depth<cLine:=by have h1:=rG 8 d hd;have h2:min (py d).depth (py e).depth<=(py d).depth:=Nat.min_le_left _ _;lia
def aAW(hu:X.A.units+64<cLine):bg X (compareOp .Eq) (rD X.K T S .eq):=by rintro pins s V H x y v u Q I R z ⟨a,b,d,dom,ra,W,e,q⟩;simp only[af,oEq]at e;split at e;rename_i hp;rw[uz]at hp;cases e;obtain⟨as,h1⟩:=eP I 8 a x v hp.1 ra R;obtain⟨bs,h2⟩:=eP I 8 b y u hp.2 W z;refine SeqAt.compareEq_reads h1 h2 (canLay 8 a hp.1) (canLay 8 b hp.2) (WO hu hp.1) ⟨.bl _,H,I,rfl,?_⟩;rw[<-vU 8 a b hp.1 hp.2];exact q _ H (aG.refl H) cP;cases e
def aAP(hu:X.A.units+64<cLine):bg X (compareOp .NotEq) (rD X.K T S .ne):=by rintro pins s V H x y v u Q I R z ⟨a,b,d,dom,ra,W,e,q⟩;simp only[af,oNe]at e;split at e;rename_i hp;rw[uz]at hp;cases e;obtain⟨as,h1⟩:=eP I 8 a x v hp.1 ra R;obtain⟨bs,h2⟩:=eP I 8 b y u hp.2 W z;refine SeqAt.compareNe_reads h1 h2 (canLay 8 a hp.1) (canLay 8 b hp.2) (WO hu hp.1) ⟨.bl _,H,I,rfl,?_⟩;rw[<-vU 8 a b hp.1 hp.2];exact q _ H (aG.refl H) cP;cases e
theorem rQ(a:D)(ha:plain a=Y):∀ds:List D,ds.all plain=Y->((cH ds).any λy=>PyData.eqv y (py a))=ds.any λy=>cu y a
 |[],_=>by simp[cH]
 |d::ds,h=>by rw[all_cons,uz]at h;simp only[cH,any_cons];rw[rQ a ha ds h.2,vU 8 d a h.1 ha]
def aAT(hu:X.A.units+64<cLine):bg X (compareOp .In) (rD X.K T S .isin):=by
 rintro pins s V H x y v u Q I R z ⟨a,b,d,dom,ra,W,e,q⟩;have go:∀(ds:List D),plain a=Y->ds.all plain=Y->X.A.units+1+min (PyData.depthAll (cH ds)) (py a).depth<cLine:=λds h1 h2=>by have h3:=rG 8 a h1;have h4:min (PyData.depthAll (cH ds)) (py a).depth<=(py a).depth:=min_le_right _ _;lia
 simp only[af,oIn]at e;split at e;rename_i ds;split at e;rename_i hp;rw[uz]at hp;cases e;obtain⟨as,h1⟩:=eP I 8 a x v hp.1 ra R;obtain⟨bs,h2⟩:=eP I 9 (.lst ds) y u (by show ds.all (flat 8)=Y;exact hp.2) W z;simp only[py]at h2;refine SeqAt.in_list_reads h2 h1 (eJ (canLay 8) ds hp.2) (canLay 8 a hp.1) (go ds hp.1 hp.2) ⟨.bl _,H,I,rfl,?_⟩;rw[rQ a hp.1 ds hp.2];exact q _ H (aG.refl H) cP;cases e;rename_i ds;split at e;rename_i hp;rw[uz]at hp;cases e;obtain⟨as,h1⟩:=eP I 8 a x v hp.1 ra R;obtain⟨bs,h2⟩:=eP I 9 (.tup ds) y u (by show ds.all (flat 8)=Y;exact hp.2) W z;simp only[py]at h2;refine SeqAt.in_tuple_reads h2 h1 (eJ (canLay 8) ds hp.2) (canLay 8 a hp.1) (go ds hp.1 hp.2) ⟨.bl _,H,I,rfl,?_⟩;rw[rQ a hp.1 ds hp.2];exact q _ H (aG.refl H) cP;cases e;cases e
def FK(hu:X.A.units+64<cLine):bg X (compareOp .NotIn) (rD X.K T S .notin):=by
 rintro pins s V H x y v u Q I R z ⟨a,b,d,dom,ra,W,e,q⟩;have go:∀(ds:List D),plain a=Y->ds.all plain=Y->X.A.units+1+min (PyData.depthAll (cH ds)) (py a).depth<cLine:=λds h1 h2=>by have h3:=rG 8 a h1;have h4:min (PyData.depthAll (cH ds)) (py a).depth<=(py a).depth:=min_le_right _ _;lia
 simp only[af,KN]at e;split at e;rename_i ds;split at e;rename_i hp;rw[uz]at hp;cases e;obtain⟨as,h1⟩:=eP I 8 a x v hp.1 ra R;obtain⟨bs,h2⟩:=eP I 9 (.lst ds) y u (by show ds.all (flat 8)=Y;exact hp.2) W z;simp only[py]at h2;refine SeqAt.notIn_list_reads h2 h1 (eJ (canLay 8) ds hp.2) (canLay 8 a hp.1) (go ds hp.1 hp.2) ⟨.bl _,H,I,rfl,?_⟩;rw[rQ a hp.1 ds hp.2];exact q _ H (aG.refl H) cP;cases e;rename_i ds;split at e;rename_i hp;rw[uz]at hp;cases e;obtain⟨as,h1⟩:=eP I 8 a x v hp.1 ra R;obtain⟨bs,h2⟩:=eP I 9 (.tup ds) y u (by show ds.all (flat 8)=Y;exact hp.2) W z;simp only[py]at h2;refine SeqAt.notIn_tuple_reads h2 h1 (eJ (canLay 8) ds hp.2) (canLay 8 a hp.1) (go ds hp.1 hp.2) ⟨.bl _,H,I,rfl,?_⟩;rw[rQ a hp.1 ds hp.2];exact q _ H (aG.refl H) cP;cases e;cases e
def aAS:bg X (compareOp .Is) (rD X.K T S .is):=by
 rintro pins s V H x y v u Q I rx W ⟨a,b,d,dom,z,R,e,q⟩;have go:∀k,b=.non->k=decide (x=σ.non)->d=.bl k->wpAny (model X.prog X.w) X.A (compareOp .Is v u) (EP X pins V Q) X.xe s:=λk hb hk hd=>by
  subst hb hd hk;unfold Rep at R;exact aAN pins s V H x y v u Q I rx W ⟨R,q _ H (aG.refl H) cP⟩
 simp only[af,oIs,isD]at e;split at e<;>simp only[wo,Option.map_none,u4,reduceCtorEq]at e
 all_goals subst e
 all_goals first
  | (unfold Rep at z;refine go _ rfl ?_ rfl;first|(subst z;rfl)|(obtain⟨_,_,rfl,_⟩:=z;rfl)|(obtain⟨_,_,_,_,rfl,_⟩:=z;rfl))
  | (unfold Rep at z R
     subst z R;cases rx;cases W;exact is_bool ⟨.bl _,H,I,rfl,q _ H (aG.refl H) cP⟩)
end
structure Fly (P:xt) (w:World) (l:List Env) (H:Hp) (s:Shared) (ρ:Heap) (a:Addr) (cls a0:Value) (H':Hp) (s':Shared):Prop where
 os:s'.os=s.os
 bare:AllBare s'.gens
 un:Un (frs l) [] H H' s.heap s'.heap
 hok:HOk P w H' s'.heap
 fly:Heap.FlyingW ρ l a cls a0 s'.heap
 new:H' a=O
 old:s.heap.get? a=O
 frf:∀b∈frs l,H' b=O
 cov:∀b o,s'.heap.get? b=U o->b∉frs l->((∃u,H' b=U u)\/∃o',s.heap.get? b=U o')->ρ.get? b=U o
def gX(P:xt)(w:World):aq:=λl H s E e s'=>∃a cls a0 ρ H',e=.ref a/\Fly P w l H s ρ a cls a0 H' s'/\E cls O H'
def XG{P:xt}{w:World}:∀outer H s e s',gX P w outer H s E0 e s'->False:=λ_ _ _ _ _ ⟨_,_,_,_,_,_,_,h⟩=>h
section
variable {P:xt}{w:World}{l:List Env}{H H':Hp}{s s':Shared}{ρ:Heap}{a:Addr}{cls a0:Value}
def nA{h:Heap}{b:Addr}:∀{o:HO},cR P w H h b o->∃u,h.get? b=U u:=by
 intro o x;cases o with
 |lst xs=>obtain⟨_,_,_,_,e⟩:=x;exact⟨_,e⟩
 |tup xs=>obtain⟨_,_,_,ob,e,_⟩:=x;exact⟨_,e⟩
 |dK kvs=>obtain⟨_,_,_,_,o,_,_,e,_⟩:=x;exact⟨_,e⟩
 |dT kvs=>obtain⟨_,_,_,_,o,_,_,e,_⟩:=x;exact⟨_,e⟩
 |set S n=>obtain⟨o,_,_,_,e,_⟩:=x;exact⟨_,e⟩
 |ins C dx fs=>obtain⟨_,_,_,e,_⟩:=x;exact⟨_,e⟩
 |own y=>obtain⟨_,e⟩:=x;exact⟨_,e⟩
 |xd fs=>obtain⟨_,⟨_,_,_,e,_⟩,_⟩:=x;exact⟨_,e⟩
 |rng lo hi=>obtain⟨_,_,_,e⟩:=x;exact⟨_,e⟩
 |frz ob u=>obtain⟨e,_⟩:=x;exact⟨_,e⟩
 |tbl ps=>exact⟨_,(show h.get? b=U _ from x)⟩
 |met f y=>exact⟨_,(show h.get? b=U _ from x)⟩
 |ext φ=>obtain⟨_,⟨_,e⟩,_⟩:=x;exact⟨_,e⟩
def BU{fs:List Addr}{h0 h1:Heap}(u:Un fs [] H H' h0 h1)(keep:∀b o,h1.get? b=U o->(∃o',h0.get? b=U o')->b∉fs->h2.get? b=U o) (slot:∀b o,h1.get? b=U o->b∈fs->∃sl,h2.get? b=U {o with slots:=sl}):Un fs [] H H' h0 h2 where
 keep b o e n hb hx:=keep b o (u.keep b o e n hb hx) ⟨o,e⟩ hb
 slot b o e n hb hx:=by obtain⟨sl,e1⟩:=u.slot b o e n hb hx;obtain⟨oi,e2⟩:=slot b _ e1 hb;exact⟨oi,e2⟩
 free:=u.free
 there b o e hx:=by obtain⟨o',e1⟩:=u.there b o e hx;by_cases hb:b∈fs;obtain⟨sl,e2⟩:=slot b _ e1 hb;exact⟨_,e2⟩;exact⟨_,keep b o' e1 ⟨o,e⟩ hb⟩
 tups:=u.tups
 frzs:=u.frzs
 tbls:=u.tbls
def yD{h1:Heap}(ok:HOk P w H h1)(keep:∀b o u,H b=U u->h1.get? b=U o->h2.get? b=U o):HOk P w H h2:=λb u e=>(ok b u e).stay (λc v hc q=>by rcases hc with rfl|hc;exact keep _ v u e q;exact keep _ v _ hc q) (λ_ q=>q) λ_ _ q=>q
end
section
variable {X:Cx}{pins:xv}{V:L2.St}{H H':Hp}{s s':Shared}{ρ:Heap}{a:Addr}{cls a0:Value}
def Fly.inv(I:Inv X pins V H s)(F:Fly X.prog X.w X.stack H s ρ a cls a0 H' s'):Inv X pins V H' s':=I.call' F.os F.un F.hok F.bare λb z=>absurd z zv
theorem Fly.up{env:Env}{outer:List Env}(I:Inv X pins V H s)(js:X.stack=env::outer)(ml:X.outer=outer)(hex:X.ex=[])(av:env.frame=U X.env.locals)(F:Fly X.prog X.w X.stack H s ρ a cls a0 H' s'){h2:Heap}(fl:Heap.FlyingW ρ outer a cls a0 h2)(up:s'.heap.UpToSlots h2):Fly X.prog X.w outer X.H₀ X.s₀ ρ a cls a0 H' {s' with heap:=h2}:=by
 have æ:=F.inv I;have nj:frs X.stack=X.env.locals::frs outer:=by rw[js];unfold frs;rw[List.filterMap_cons,av]
 have W:∀b o,X.s₀.heap.get? b=U o->b≠X.env.locals:=λb o e=>w8 (vb (vh e) I.ok.above);have tr:∀b u,H' b=U u->b∉frs X.stack:=λb u e z=>by rw[F.frf b z]at e;cases e
 have R:∀b o,X.s₀.heap.get? b=U o->∃o',s.heap.get? b=U o':=λb o e=>I.base.there b o e (by rw[hex];simp);have ns:∀b,b∉frs outer->b≠X.env.locals->b∉frs X.stack:=λb h1 h2 z=>by rw[nj]at z;rcases vk.mp z with z|z;exact h2 z;exact h1 z
 have og:Un (frs outer) [] X.H₀ H' X.s₀.heap s'.heap:=by have:=æ.base;rw[hex]at this;unfold Cx.fs at this;rw[ml]at this;exact this
 refine⟨æ.os,F.bare,BU og (λb o e t nb=>?_) (λb o e hb=>?_),yD F.hok λb o u e q=>fl.1 b o (F.cov b o q (tr b u e) (.inl ⟨u,e⟩)),fl,F.new,?_,λb hb=>F.frf b (by rw[nj];exact ux _ hb),λb o e nb t=>?_⟩;obtain⟨o',e'⟩:=t;exact fl.1 b o (F.cov b o e (ns b nb (W b o' e')) (.inr (R b o' e')));obtain⟨_,o2,e2,nf⟩:=F.fly.2.2.1.mem (show b∈frs X.stack by rw[nj];exact ux _ hb);rw[e]at e2;cases e2;exact up b o e nf;cases e:X.s₀.heap.get? a with
 |none=>rfl
 |some o=>obtain⟨o',e'⟩:=R a o e;rw[F.old]at e';cases e'
 have e:h2.get? b=U o:=e;rcases t with ⟨u,e1⟩|⟨o',e1⟩;obtain⟨o1,q⟩:=nA (F.hok b u e1);have c:=F.cov b o1 q (tr b u e1) (.inl ⟨u,e1⟩);have:=fl.1 b o1 c;rw[e]at this;cases this;exact c;obtain⟨o1,q⟩:=og.there b o' e1 zv;have c:=F.cov b o1 q (ns b nb (W b o' e1)) (.inr (R b o' e1));have:=fl.1 b o1 c;rw[e]at this;cases this;exact c
end
noncomputable def nv:List Value:=[.type "ValueError",.type "Exception",.type "BaseException",.type "object"]
noncomputable def qJ(K:xq)(C:Addr)(v:Value):Bool:=match K.lookup C with
 |some ⟨_,_,.cls cd,_⟩=>cd.mro.contains v
 |_=>J
def aCn(q:excIn K C nv "ValueError.__new__"=Y):∃nm R N bs bm hdct sn sub ab col dd k0 k1 k2 k3 k5,K.lookup C=U (excClassObj nm R C N bs bm hdct sn sub ab col dd k0 k1 k2 k3 k5 "ValueError.__new__")/\PySem.W.tailIn K nv bm=Y/\PySem.W.nsOkIn K N=Y/\nsIn K N "__init__"=U O/\∀v,qJ K C v=(Value.ref C::bm).contains v:=by
 unfold excIn at q;split at q;rename_i dd cd sl ho;split at q;rename_i C' bm k0 k1 k2 k3 n k5 hm hs;simp only[uz,vz,Bool.not_eq_true']at q;obtain⟨⟨⟨⟨⟨rfl,rfl⟩,z⟩,ht⟩,hok⟩,I⟩:=q;obtain⟨nm,bs,mro,ns,R,hd,sn,sub,ab,col,del⟩:=cd;dsimp only at hm z hok I;subst hm z;have dw:sl=#[k0,k1,k2,k3,U (.builtin "ValueError.__new__"),k5]:=by obtain⟨l⟩:=sl;simp only at hs;rw[hs]
 subst dw;refine⟨nm,R,ns,bs,bm,hd,sn,sub,ab,col,dd,k0,k1,k2,k3,k5,ho,ht,hok,I,λv=>?_⟩;unfold qJ;rw[ho];cases q;cases q
def JI{m:Str}{j:Nat}{p p' q:Pos}{W:Hp->Prop}(hc:X.calm=Y)(hg:Gl X x)(j5:(x == ("__debug__":Str))=J)(hm:X.mg x=U (.ref C))(hx:excIn X.K C nv "ValueError.__new__"=Y) (hw:∀pins V H s h' e vs,Inv X pins V H s->Heap.MadeExcOf s.heap h' e (.ref C) vs->W H->X.xe (.ref e) {s with heap:=h' }):PS X (.Raise (U (.Call (.Name x p) [.Constant (.str m) j p'] [] q)) O pos) (λD V H=>W H):=by intro pins s V H D I hW;obtain⟨nm,qn,N,bs,bm,hdct,sn,sub,ab,col,dd,k0,k1,k2,k3,k5,ho,ht,hok,R,_⟩:=aCn hx;have T:OwnTail s.heap nv bm:=PySem.W.tail_of_in I.kIn ht;have hN:s.heap.Ns N (s.heap.nsMap N):=.of_isNs (PySem.W.isNs_of_in I.kIn hok);have z:(s.heap.nsMap N) "__init__"=O:=PySem.W.nsMap_none_of_in I.kIn hok R;have hC:=I.kIn _ _ ho;refine wpAny_Raise_call_subT (C:=C) (nm:=nm) (q:=qn) (N:=N) (bs:=bs) (bm:=bm) (hdct:=hdct) (sn:=sn) (sub:=sub) (ab:=ab) (col:=col) (dd:=dd) (k0:=k0) (k1:=k1) (k2:=k2) (k3:=k3) (k5:=k5) PySem.F.excBase_ValueError (mN:=s.heap.nsMap N) (T.hasType PySem.F.excBase_ValueError.hasBase) (I.ok.hd hc) rfl z (gL I hg hm ⟨rfl,?_⟩ j5);exact Calls.evalArgs_plain (Calls.spliced_cons (Calls.Constant_str (k:=j) (pos:=p') (Calls.spliced_nil ⟨rfl,by show 1<=sizeLine;rw[sizeLine_eq];decide,hC,hN,T,λh' e hm=>hw pins V H {s with toks:=s.toks+1} h' e _ (I.tok _) hm hW⟩)))
section
variable {P:xt}{w:World}{K:xq}{mg:xw}{base:Heap}{N:List Str}{qual:Str}{sc:Scope}{f:Addr}{cd:Value}{A:Around}{outer:List Env}{s:Shared}{H:Hp}{E:XK}
def AL{s1:Shared}{h':Heap}{e:Addr}{cls:Value}(I:Inv (nY (gX P w) P w K mg base N qual sc f cd A outer s H E) pins V H1 s1)(hm:Heap.MadeExcOf s1.heap h' e cls vs)(hE:E cls O H1):(nY (gX P w) P w K mg base N qual sc f cd A outer s H E).xe (.ref e) {s1 with heap:=h' }:=by
 have js:=I.stack;have av:∀b∈frs (envOfC qual sc s.heap.objs.size f cd::outer),H1 b=O:=I.stkFree;have nj:frs (envOfC qual sc s.heap.objs.size f cd::outer)=s.heap.objs.size::frs outer:=rfl;have tr:∀b u,H1 b=U u->b∉frs (envOfC qual sc s.heap.objs.size f cd::outer):=λb u e z=>by rw[av b z]at e;cases e
 have ns:∀b o,s.heap.get? b=U o->b∉frs outer->b∉frs (envOfC qual sc s.heap.objs.size f cd::outer):=λb o e h1 z=>by rw[nj]at z;rcases vk.mp z with z|z;exact absurd (vh e) (by rw[z];exact we _);exact h1 z
 have og:Un (frs outer) [] H H1 s.heap s1.heap:=I.base;refine wpAny_leaves_madeW (base:=hideAll s1.heap (frs (envOfC qual sc s.heap.objs.size f cd::outer))) (L:=s.heap.objs.size) (outer:=outer) I.ok.frames rfl (λb o q=>PySem.W.of_hideAll _ q) (PySem.W.funFrames_hide js λenv he b hb=>List.mem_filterMap.mpr ⟨env,he,hb⟩) hm λh2 t R x2 x3 x4=>⟨e,cls,.ref t,hideAll s1.heap (frs (envOfC qual sc s.heap.objs.size f cd::outer)),H1,rfl,?_,hE⟩;have inB:∀b o,s1.heap.get? b=U o->b∉frs (envOfC qual sc s.heap.objs.size f cd::outer)->(hideAll s1.heap (frs (envOfC qual sc s.heap.objs.size f cd::outer))).get? b=U o:=λb o q n=>PySem.W.hideAll_get _ q n;refine⟨I.os,I.bare,BU og (λb o e t nb=>?_) (λb o e hb=>?_),yD I.hok λb o u e q=>R.1 b o (inB b o q (tr b u e)),R,?_,?_,λb hb=>av b (by rw[nj];exact ux _ hb),λb o e nb t=>?_⟩;obtain⟨o',e'⟩:=t;exact R.1 b o (inB b o e (ns b o' e' nb));obtain⟨_,o2,e2,nf⟩:=js.mem (show b∈frs (envOfC qual sc s.heap.objs.size f cd::outer) by rw[nj];exact ux _ hb);rw[e]at e2;cases e2;exact x4 b o (hm.keeps b o e) nf;cases q:H1 e with
 |none=>rfl
 |some u=>obtain⟨o,q2⟩:=nA (I.hok e u q);rw[hm.new]at q2;cases q2
 cases q:s.heap.get? e with
 |none=>rfl
 |some u=>obtain⟨o,q2⟩:=og.there e u q zv;rw[hm.new]at q2;cases q2
 have e:h2.get? b=U o:=e;rcases t with ⟨u,e1⟩|⟨o',e1⟩;obtain⟨o1,q⟩:=nA (I.hok b u e1);have c:=inB b o1 q (tr b u e1);have:=R.1 b o1 c;rw[e]at this;cases this;exact c;obtain⟨o1,q⟩:=og.there b o' e1 zv;have c:=inB b o1 q (ns b o' e1 nb);have:=R.1 b o1 c;rw[e]at this;cases this;exact c
def TJ{E1:XK}(hE:∀cls H',E1 cls O H'->E cls O H'):gW (gX P w) (nY (gX P w) P w K mg base N qual sc f cd A outer s H E) E1:=by rintro pins V H1 s1 e s' I ⟨a,cls,a0,ρ,H',rfl,F,q⟩;exact wpAny_leaves_onW (L:=s.heap.objs.size) (outer:=outer) I.ok.frames rfl F.fly λh2 z x2=>⟨a,cls,a0,ρ,H',rfl,Fly.up (env:=envOfC qual sc s.heap.objs.size f cd) I rfl rfl rfl rfl F z x2,hE _ _ q⟩
end
section
variable {X:Cx}{pins:xv}{V:L2.St}{H H':Hp}{s s':Shared}{ρ:Heap}{a:Addr}{cls a0:Value}
def isExc(a C:Addr)(h:Heap):Prop:=∃o,h.get? a=U o/\o.cls=.ref C
end
structure RoomM (k:Nat) (A:Around):Prop where
 dp:A.depth+3*k+5<recursionLimit
 un:A.units+16*k+200<cLine
def RoomM.mono{j k:Nat}(r:RoomM k A)(h:j<=k):RoomM j A:=⟨by have:=r.dp;lia,by have:=r.un;lia⟩
structure FnM (P:xt) (w:World) (K:xq) (mg:xw) (base:Heap) (k:Nat) (f:Addr) (fd:xr) (ps:List Str) (sp:Sp):Prop where
 len:∀vs H Q,sp vs H Q E0->vs.length=ps.length
 run:∀(A:Around) (outer:List Env) (s:Shared) (H:Hp) (args:Args) (us:List Value) (vs:List σ) (Q:VK),RoomM k A->Env0 P w K mg base A outer s H->BindsTo s fd args (ps.zip us)->aY vs us->sp vs H Q E0 ->
  codeAny (model P w) A (.call (.ref f) args) (CR oa outer P w H s Q E0) s
structure XcK (K:xq) (C:Addr):Prop where
 ga:findIn K (.ref C) "__getattribute__"=U (U (.builtin "BaseException.__getattribute__"))
 gn:findIn K (.ref C) "__getattr__"=U O
 ha:findIn K (.ref C) "__class__"=U (U (.builtin "object.__class__"))
 hn:specialIn K (.builtin "object.__class__") "__get__"=U (U (.builtin "getset_descriptor.__get__"))
 tk:takesIn K (.builtin "object.__class__")=U Y
 hm:mroIn K C (.type "object")=U Y
 hb:mroIn K C (.type "BaseException")=U Y
def XcK.cl(F:XcK K C):(PySem.W.clsIn K C).isSome=Y:=by have h:=F.hm;unfold mroIn at h;obtain⟨cd,h1,_⟩:=u7.mp h;rw[h1];rfl
section
open PySem.W PySem.Builtin PySem.Builtin.ObjectAttr PySem.Builtin.Getset_descriptor
variable {K:xq}{x C:Addr}
def rA{M:Model}{h:Heap}(p:isExc x C h):Looks M h (typeOf (.ref x)) (.ref C):=by obtain⟨o,e,c⟩:=p;exact c ▸ (Looks.ld e).andThen .now
def OW{h:Heap}(k:K.In h)(z:(clsIn K C).isSome=Y):(∃c d cd sl,h.get? C=U ⟨c,d,.cls cd,sl⟩)/\∀M:Model,Looks M h (isType (.ref C)) Y:=by unfold clsIn at z;split at z;rename_i c d cd sl ho;refine⟨⟨c,d,cd,sl,k _ _ ho⟩,λM A Q E s kk q=>?_⟩;unfold isType loadHead;exact wg (wpAny_loadPart (kk _ _ (k _ _ ho)) (wj q));cases z
def VF{w:World}{R:Result->Shared->Prop}{tp:Value}(F:XcK K C)(k:K.In s.heap)(p:isExc x C s.heap)(q:R (.ok (.ret (.ref C))) s):codeAny (model prog w) A (.call (.builtin "getset_descriptor.__get__") ⟨[.builtin "object.__class__",.ref x,tp],[]⟩) R s:=by
 obtain⟨hp,gs,dr,z,I⟩:=s;have lt:Looks (model prog w) hp (typeOf (.ref x)) (.ref C):=rA p;have W:=looks_mroIn (M:=model prog w) k F.hm;refine codeAny_call_builtin KF.slot_gs.plain KF.entry_gs (KF.slot_gs.check _ _ _ _ _ _ _ _ KF.type_class (KF.args_gs _ _ _) ?_);unfold Builtin.«getset_descriptor.__get__»;unfold descrGet;rw[dga_obj];refine wg (wj ?_);unfold descrGetter;unfold descrCheckInstance descrNameAndClass;unfold isInstance;simp only[KF.owner_class];repeat lk
 refine⟨Code.quiet_builtin _ zt,?_⟩;refine codeAny_builtin KF.entry_class ?_;unfold Builtin.«object.__class__»;unfold shownTypeOf;repeat lk
 exact q
def GJ{w:World}{E:xu}{tk:Tok}{Q:Fin->Shared->Prop}(F:XcK K C)(k:K.In s.heap)(p:isExc x C s.heap)(q:Q (.done (.ret (.ref C))) s):wpAny (model prog w) A (Builtin.«object.__getattribute__» ⟨[.ref x,.str "__class__" tk],[]⟩) Q E s:=by obtain⟨hp,gs,dr,I,W⟩:=s;have lt:Looks (model prog w) hp (typeOf (.ref x)) (.ref C):=rA p;have lf:Looks (model prog w) hp (find (.ref x) (.ref C) "__class__") (.bind (.builtin "getset_descriptor.__get__") (.builtin "object.__class__")):=(looks_findIn k F.ha).andThen ((looks_specialIn k F.hn).andThen ((show Looks (model prog w) hp (dataDescriptor? (U (.builtin "object.__class__")) (U (.builtin "getset_descriptor.__get__"))) (U (.builtin "getset_descriptor.__get__",.builtin "object.__class__")) from(looks_takesIn k F.tk).andThen .now).andThen (Looks.tag .now)));unfold Builtin.«object.__getattribute__»;refine wg (wpAny_of_eq (a:=(Value.ref x,[Value.str "__class__" tk])) (by rfl) ?_);refine wg (wj (wg (lt.at (wg (lf.at ?_)))));show wpAny _ _ (holding [Value.builtin "object.__class__"] (call (.builtin "getset_descriptor.__get__") [.builtin "object.__class__",.ref x,.ref C]) >>= ret) _ _ _;exact wg (wpAny_holding (wk (wpAny_call (VF (R:=λr s'=>match r with | .ok (.ret v)=>Q (.done (.ret v)) s' | .ok _=>False | .error e=>E e s') F k p (tp:=.ref C) q)) (λv s' z=>wj z) λ_ _ z=>z))
def GK{M:Model}{E:xu}{v:Value}{Q:Unit->Shared->Prop}(F:XcK K C)(k:K.In s.heap)(p:isExc x C s.heap)(q:Q () s):wpAny M A (checkBuiltinCall "BaseException.__getattribute__" ⟨[.ref x,v],[]⟩) Q E s:=by
 obtain⟨hp,gs,dr,z,I⟩:=s;have lt:Looks M hp (typeOf (.ref x)) (.ref C):=rA p;have R:=looks_mroIn (M:=M) k F.hb;have hk:builtinKind "BaseException.__getattribute__"=U .slot:=zt
 have c7:splitId "BaseException.__getattribute__"=U ("BaseException","__getattribute__"):=zt
 have W:=PySem.F.args_bexc_ga (.ref x) v;simp only[checkBuiltinCall,hk,c7];refine wg ?_;unfold isInstance;refine wg (lt.at (R.at ?_));simp only[vq,uw,if_false];repeat wp_step
 exact q
def VG{w:World}{E:xu}{Q:Option Value->Shared->Prop}(F:XcK K C)(k:K.In s.heap)(p:isExc x C s.heap)(q:Q (U (.ref C)) {s with toks:=s.toks+1}):wpAny (model prog w) A (getAttr? (.ref x) "__class__") Q E s:=by
 obtain⟨hp,gs,dr,R,W⟩:=s;have lt:Looks (model prog w) hp (typeOf (.ref x)) (.ref C):=rA p;have lg:=looks_findIn (M:=model prog w) k F.ga;have lh:=looks_findIn (M:=model prog w) k F.gn;have lb:=looks_mroIn (M:=model prog w) k F.hb;have hx2:(Value.builtin "BaseException.__getattribute__" == Value.builtin "object.__getattribute__")=J:=zt
 have hk:builtinKind "BaseException.__getattribute__"=U .slot:=zt
 have c7:splitId "BaseException.__getattribute__"=U ("BaseException","__getattribute__"):=zt
 unfold getAttr? getAttrBy? getAttrBy;refine wg (wpAny_mkText (wg (wpAny_attempt (wpAny_holding (wg (lt.at (wg (lg.at ?_))))))));dsimp only;rw[hx2,Bool.and_false,if_neg zu];unfold getAttrByItsOwn hookBefore;refine wg ?_;rw[if_pos (show onTheHeap (Value.ref C)=Y from rfl)];refine lh.at ?_;refine wg (wpAny_attempt (wpAny_holding ?_));unfold callGetattribute;rw[Bool.false_and,if_neg zu];unfold boundAndCalled;refine wg (wpAny_of_eq (PySem.F.attrBase_ValueError.ga.bind (.ref x)) ?_);refine wpAny_call (codeAny_call_builtin PySem.F.attrBase_ValueError.ga.plain PySem.F.entry_bexc_ga ?_);refine GK F k p ?_;refine wk (GJ (Q:=λI s'=>I=.done (.ret (.ref C))/\s'=⟨hp,gs,dr,R+1,W⟩) (E:=λ_ _=>False) F k p ⟨rfl,rfl⟩) (λI s' z=>?_) λ_ _ z=>z.elim;obtain⟨rfl,rfl⟩:=z;exact handed_on rfl (wj q)
def LM(F:XcK K C):KitX K (.ref x) (.ref C) (isExc x C) where
 ty:=λ_ _ _ p=>rA p
 it:=λM _ k _=>(OW k F.cl).2 M
 ne:=λh tp dd its n sl k htp=>by
  obtain⟨⟨c,d,cd,sl',e⟩,_⟩:=OW k F.cl;refine Bool.eq_false_iff.mpr λq=>?_
  have ee:C=tp:=Value.ref.inj (vz.mp q)
  rw[ee,htp]at e;cases e
 ca:=λk p q=>VG F k p q
end
def tP(K:xq)(T:Tx)(S:Addr->Prop)(H H':Hp)(d:D)(v:σ):Prop:=∀ds,d=.lst ds->∃p xs,v=.ref p/\H p=O/\H' p=U (.lst xs)/\aD K T (er H' p) S ds xs
def jn(K:xq)(T:Tx)(n:Nat)(f:List D->Option Rs)(fr:Bool):Sp:=λvs H Q E=>vs.length=n/\∃(S:Addr->Prop) (ds:List D),(∀a,S a->∃o,H a=U o)/\aD K T H S ds vs /\((∃d,f ds=U (.ok d)/\∀v H',aG H H'->Rep K T H' S d v->(fr=Y->tP K T S H H' d v)->Q v H') \/(∃c C,f ds=U (.er c)/\T.xc c=U C/\∀H',aG H H'->E (.ref C) O H'))
def ZZ(K:xq)(T:Tx)(C:Addr)(n:Nat)(g:List D->Option Rs):Sp:=λvs H Q _=>vs.length=n/\∃(p dx:Addr) (ws:List σ) (S:Addr->Prop) (ds:List D) (d:D),vs=.ref p::ws/\H p=U (.ins C dx [])/\S p/\(∀a,S a->∃o,H a=U o) /\aD K T H S ds ws/\g ds=U (.ok d)/\∀H',(∀b o,b≠p->H b=U o->H' b=U o)->(∀S':Addr->Prop,(∀a,S' a->S a/\a≠p)->Rep K T H' S' d (.ref p))->Q .non H'
noncomputable def fT:List Str:=["len","int","list","tuple","max","min","str","sorted","any","range","reversed","enumerate","isinstance","bool","ValueError"]
def spW(C:Addr)(x:Str):Sp:=λvs H Q _=>∃a,vs=[.ref a]/\H a=U (.ext (isExc a C))/\∀H',aG H H'->Q (.str x) H'
def aES(X:Cx)(T:Tx)(a:Addr)(kvs:List (Str×D)):Prop:=(a == sysModules)=J/\∃o vs,X.K.lookup a=U o/\o.IsDictOf (dE X.prog X.w) vs/\(∀k,(valueAt vs (Sum.inr k)).isSome=(kvs.lookup k).isSome) /\∀k d u,kvs.lookup k=U d->valueAt vs (Sum.inr k)=U u->∃v,RelV v u/\∀(H:Hp) (S:Addr->Prop),(∀a o,X.K.lookup a=U o->H a=O)->(∀a,S a->∃o,H a=U o)->Rep X.K T H S d v
structure ui (CX:aq) (X:Cx) (c:CC) (G:GS) (T:Tx) (lv:Nat):Prop where
 fn:∀x,c.fns.contains x=Y->∃f fd ps,X.mg x=U (.ref f)/\keepIn X.K (.ref f)=Y/\Binds X.K fd ps []/\(∀ds r,G.fn x ds=U r->ds.length=ps.length) /\
  FnOk X.prog X.w X.K X.mg X.base CX lv f fd ps (jn X.K T ps.length (G.fn x) (G.ff x))
 me:∀cn C m ds r,T.cl cn=U C->G.me cn m ds=U r->∃f fd ps,jj X.K C m f/\Binds X.K fd ps []/\(∀ds r,G.me cn m ds=U r->ds.length=ps.length) /\
  FnOk X.prog X.w X.K X.mg X.base CX lv f fd ps (jn X.K T ps.length (G.me cn m) (G.mf cn m))
 cls:∀cn C,T.cl cn=U C->Cls X.K C
 fld:∀cn C f,T.cl cn=U C->(G.fl cn).contains f=Y->dP X.K C f
 mo:∀x,c.cls.contains x=Y->∀ds d,G.mo x ds=U (.ok d)->∃C f fd ps j,j+1<=lv/\X.mg x=U (.ref C)/\Mk X.K C f/\Binds X.K fd ps []/\ds.length+1=ps.length /\
  FnOk X.prog X.w X.K X.mg X.base CX j f fd ps (ZZ X.K T C ps.length (G.mo x))
 cst:∀x d,G.cst x=U d->c.csts.contains x=Y->∃u v,X.mg x=U u/\RelV v u/\∀(H:Hp) (S:Addr->Prop),(∀a o,X.K.lookup a=U o->H a=O)->(∀a,S a->∃o,H a=U o)->Rep X.K T H S d v
 bi:∀x,fT.contains x=Y->c.fns.contains x=J->c.cls.contains x=J->X.mg x=O
 xcl:∀x C,T.xc x=U C->X.mg x=U (.ref C)
 frs:∀x,c.fresh.contains x=Y->G.ff x=Y/\∀cn,G.mf cn x=Y
 cx0:∀outer H s e s',CX outer H s E0 e s'->False
 cxf:∀outer H s E e s',CX outer H s E e s'->gX X.prog X.w outer H s E e s'
 xns:∀k,G.xn k=Y->∃C,T.xc k=U C
 xk:∀k C,T.xc k=U C->excIn X.K C nv "ValueError.__new__"=Y
 sub:∀k k' C C',T.xc k=U C->T.xc k'=U C'->G.sub k k'=Y->qJ X.K C (.ref C')=Y
 wd:∀f k x C,T.xc k=U C->G.wd f k=U x->∃fa fd ps j,j<=lv/\X.mg f=U (.ref fa)/\keepIn X.K (.ref fa)=Y/\Binds X.K fd ps []/\FnM X.prog X.w X.K X.mg X.base j fa fd ps (spW C x)
 dk:∀x kvs,G.dk x=U kvs->∃a,X.mg x=U (.ref a)/\aES X T a kvs
def vZ(k:Option NameKind)(k':Option NameKind):Prop:=match k with
 |some .local=>k'=U .local
 |some .cell=>k'=U .cell
 |some .free=>k'=U .free\/k'=U .cell
 |some .globalImplicit=>k'=U .globalImplicit
 |_=>True
structure XC (CX:aq) (X:Cx) (c:CC) (G:GS) (T:Tx) (lv:Nat):Prop where
 N:X.N=c.N
 nd:c.N.Nodup
 kd:∀x,vZ (c.sc.names.lookup x) (X.env.kindOf x)
 own:∀x,c.sc.names.lookup x=U .cell->X.fn x=Y
 dbg:∀x∈c.N,(x == ("__debug__":Str))=J/\(x == ("__classdict__":Str))=J
 gdb:bG c "__debug__"=J
 calm:X.calm=Y
 room:Room lv X.A
 go:ui CX X c G T lv
section
variable {CX:aq}{X:Cx}{c:CC}{G:GS}{T:Tx}{lv:Nat}
theorem XC.units(h:XC CX X c G T lv):X.A.units+64<cLine:=h.room.units
def XC.glob(h:XC CX X c G T lv)(e:bG c x=Y):Gl X x:=by
 have k:=h.kd x;have e':c.sc.names.lookup x=U .globalImplicit:=by unfold bG at e;exact vz.mp e
 rw[e']at k;exact k
def XC.gne(h:XC CX X c G T lv)(e:bG c x=Y):(x == ("__debug__":Str))=J:=by
 cases q:x == ("__debug__":Str) with
 |false=>rfl
 |true=>have q':x="__debug__":=vz.mp q;subst q';rw[h.gdb]at e;cases e
def kB{α:Type}[DecidableEq α][BEq α][LawfulBEq α]:∀{l:List α} {x:α} {i:Nat},l.idxOf? x=U i->l[i]?=U x:=by intro l x i h;unfold List.idxOf? at h;rw[List.findIdx?_eq_some_iff_getElem]at h;obtain⟨h1,h2,_⟩:=h;rw[uk h1];exact congrArg U (vz.mp h2)
def tV{i:Nat}(e:aZ c x=U i):c.N[i]?=U x/\(c.sc.names.lookup x=U .local\/c.sc.names.lookup x=U .cell\/c.sc.names.lookup x=U .free):=by unfold aZ at e;split at e;rename_i h;exact⟨kB e,.inl h⟩;rename_i h;exact⟨kB e,.inr (.inl h)⟩;rename_i h;exact⟨kB e,.inr (.inr h)⟩;cases e
def XC.vis(h:XC CX X c G T lv)(e:c.sc.names.lookup x=U .local\/c.sc.names.lookup x=U .cell\/c.sc.names.lookup x=U .free):Vis X.env.scope x:=by have k:=h.kd x;rcases e with e|e|e;rw[e]at k;exact .inl k;rw[e]at k;exact .inr (.inl k);rw[e]at k;rcases k with k|k;exact .inr (.inr k);exact .inr (.inl k)
def dY{p:Pos}{i:Nat}(e:eM c (.Name x p)=U i):c.N[i]?=U x/\(c.sc.names.lookup x=U .local\/c.sc.names.lookup x=U .cell):=by simp only[eM]at e;split at e;rename_i h;exact⟨kB e,.inl h⟩;rename_i h;exact⟨kB e,.inr h⟩;cases e
def XC.loc(h:XC CX X c G T lv)(e:c.sc.names.lookup x=U .local\/c.sc.names.lookup x=U .cell):Loc X.env.scope x/\(X.fn x=Y\/X.env.scope.names.lookup x=U .local):=by have k:=h.kd x;rcases e with e|e;rw[e]at k;exact⟨.inl k,.inr k⟩;have o:=h.own x e;rw[e]at k;exact⟨.inr k,.inl o⟩
def LN(I:Inv X pins V H s):∀a o,X.K.lookup a=U o->H a=O:=λa o e=>(I.bs a o (I.mod.kin a o e)).2
def gD(K:xq)(T:Tx)(S:Addr->Prop)(is:List Nat)(B ρ1:List Sl)(d:D):TG:=λv V H Q=>RE K T H S B V/\Rep K T H S d v/\∀z,RE K T H S ρ1 z->(∀j,j∉is->z[j]?=V[j]?)->Q z H
theorem RE.set{B:List Sl}{i:Nat}{d:D}{v:σ}(re:RE K T H S B V)(r:Rep K T H S d v):RE K T H S (B.set i (.im d)) (V.set i (U v)):=by
 refine⟨re.dom,by simp[re.len],λj s e=>?_⟩;by_cases z:j=i;subst z;have hl:j<B.length:=by have:=(u0.mp e).1;simpa using this
 rw[vf hl]at e;cases e;rw[vf (by rw[<-re.len];exact hl)];exact⟨v,rfl,r⟩;rw[vg (Ne.symm z)]at e ⊢;exact re.at_ j s e
def gDs(K:xq)(T:Tx)(S:Addr->Prop)(is:List Nat)(B ρ1:List Sl)(ds:List D):kn:=λvs V H Q=>RE K T H S B V/\aD K T H S ds vs/\∀z,RE K T H S ρ1 z->(∀j,j∉is->z[j]?=V[j]?)->Q z H
def fB(env:Env):∀{es:List Expr} {is:List Nat},fO c es=U is->(assignEach es env).map (·.2)=es.map (λe=>assign e env)/\(assignEach es env).length=es.length/\(assignEach es env).findIdx? (·.1)=O:=by
 intro es;induction es with
 |nil=>intro is _;exact⟨rfl,rfl,rfl⟩
 |cons e es z=>
  intro is h;simp only[fO,ur,u7]at h;obtain⟨i,h1,r,h2,_⟩:=h;obtain⟨R,a2,I⟩:=z h2;cases e<;>simp only[eM,reduceCtorEq]at h1
  rename_i x p;refine⟨?_,?_,?_⟩;show assign (.Name x p) env::(assignEach es env).map (·.2)=_;rw[R];rfl;show (assignEach es env).length+1=_;rw[a2];rfl;show List.findIdx? (·.1) ((J,assign (.Name x p) env)::assignEach es env)=O;rw[List.findIdx?_cons,I];rfl
def aDd(h:XC CX X c G T lv):∀{es:List Expr} {is:List Nat} {ds:List D} {B ρ1:List Sl},fO c es=U is->bB is ds B=U ρ1->ub X es (gDs X.K T S is B ρ1 ds):=by
 intro es;induction es with
 |nil=>
  intro is ds B ρ1 h1 h2;simp only[fO]at h1;cases h1;cases ds with
  |nil=>simp only[bB]at h2;cases h2;intro pins s V H vs us Q I r ⟨re,R,q⟩;unfold aD at R;exact SZ pins s V H vs us Q I r ⟨R,q V re λ_ _=>rfl⟩
  |cons d ds=>simp[bB]at h2
 |cons e es ih=>
  intro is ds B ρ1 h1 h2;simp only[fO,ur,u7]at h1;obtain⟨i,h1,r,h3,h4⟩:=h1;cases h4;cases ds with
  |nil=>simp[bB]at h2
  |cons d ds=>
   simp only[bB]at h2;have hs:=(fB (c:=c) X.env (es:=e::es) (is:=i::r) (by simp[fO,h1,h3])).1;have l8:=(fB (c:=c) X.env h3).1;cases e<;>simp only[eM,reduceCtorEq]at h1
   rename_i x p;have sv:eM c (.Name x p)=U i:=h1;obtain⟨hN,hk⟩:=dY sv;obtain⟨hl,hf⟩:=h.loc hk;have p1:PG X (.Name x p) (sU i):=CK (by rw[h.N];exact h.nd) (by rw[h.N];exact hN) hl hf;have p2:=JN p1 (ih h3 h2) (by rw[hs,l8];rfl);intro pins s V H vs us Q I rv ⟨re,R,q⟩;unfold aD at R;obtain⟨y,w,e1,ry,gw⟩:=R;refine p2 pins s V H vs us Q I rv ⟨y,w,e1,?_⟩;refine⟨re.set ry,gw,λW re2 ag=>q W re2 λj hj=>?_⟩;rw[ag j λz=>hj (ux _ z),vg (λz=>hj (by rw[z];simp))]
def TB(h:XC CX X c G T lv){tg:Expr}{is:List Nat}{d:D}{B ρ1:List Sl}(h1:cC c tg=U (is,tp))(h2:aX is tp d B=U ρ1):PG X tg (gD X.K T S is B ρ1 d):=by
 cases tg<;>simp only[cC,reduceCtorEq,v9,Prod.mk.injEq]at h1
 rename_i x p;obtain⟨i,h3,rfl,rfl⟩:=h1;simp only[aX,uw,if_false,bB]at h2;cases h2;obtain⟨hN,hk⟩:=dY h3;obtain⟨hl,hf⟩:=h.loc hk;have p1:PG X (.Name x p) (sU i):=CK (by rw[h.N];exact h.nd) (by rw[h.N];exact hN) hl hf;intro pins s V H v u Q I rv ⟨re,W,q⟩;exact p1 pins s V H v u Q I rv (q _ (re.set W) λj hj=>vg (λz=>hj (by rw[z];simp)))
 .rename_i es k p;obtain⟨R,h3,rfl,rfl⟩:=h1;simp only[aX,if_true]at h2;cases d<;>simp only[reduceCtorEq]at h2
  rename_i ds;obtain⟨a1,a2,a3⟩:=fB (c:=c) X.env h3;have p1:=aAA (pos:=p) (k:=k) (n:=es.length) h.calm (aDd h (S:=S) h3 h2) a2 a3;intro pins s V H v u Q I rv ⟨re,W,q⟩;unfold Rep at W;obtain⟨a,xs,ev,_,e,rl⟩:=W;refine p1 pins s V H v u Q I rv ⟨a,xs,ev,e,?_,re,rl,q⟩;have l1:=rl.len;have l2:R.length=es.length:=by
   clear p1 a1 a2 a3 rl h2 q;induction es generalizing R with
   |nil=>simp only[fO]at h3;cases h3;rfl
   |cons e es ih=>simp only[fO,ur,u7]at h3;obtain⟨i,_,r,h4,h5⟩:=h3;cases h5;simp only[wz,Nat.add_right_cancel_iff];exact ih r h4
  have l3:∀{is:List Nat} {ds:List D} {B ρ1:List Sl},bB is ds B=U ρ1->is.length=ds.length:=by
   intro is;induction is with
   |nil=>intro ds B ρ1 z;cases ds<;>simp_all [bB]
   |cons i is ih=>
    intro ds B ρ1 z;cases ds with
    |nil=>simp[bB]at z
    |cons d ds=>simp only[bB]at z;simp[ih z]
  rw[<-l1,<-l3 h2,l2]
end
def iu(K:xq)(T:Tx)(S:Addr->Prop)(z:Hp)(æ:It)(ds:List D):Prop:=∀(H:Hp) (S':Addr->Prop),aO K z H S S'->(∀a,S' a->∃o,H a=U o) ->(∀i d,ds[i]?=U d->æ.go i H/\∀x H',æ.yld i H x H'->aG H H'/\Rep K T H' S' d x)/\∀i,ds.length<=i->æ.stop i H
def tI(K:xq)(T:Tx)(S:Addr->Prop)(B:List Sl)(ds:List D):TI:=λV H R=>RE K T H S B V/\∀æ H',aG H H'->iu K T S H' æ ds->ds.length<=sizeLine->R æ H'
def fY(sc:Scope)(env:Env)(x:Str):(relabel sc env).names.lookup x=(sc.names.lookup x).map λk=>if (k == .free&&env.scope.kind == .function&&env.kindOf x == U .cell)=Y then .cell else k:=by
 show (sc.names.map λ(p:Str×NameKind)=>if (p.2 == .free&&env.scope.kind == .function&&env.kindOf p.1 == U .cell) then(p.1,NameKind.cell) else(p.1,p.2)).lookup x=_;induction sc.names with
 |nil=>rfl
 |cons p r z=>
  obtain⟨n,k⟩:=p;rw[vx];by_cases hx:x=n;subst hx;by_cases hc:(k == .free&&env.scope.kind == .function&&env.kindOf x == U .cell)=Y;show List.lookup x ((if (k == .free&&env.scope.kind == .function&&env.kindOf x == U .cell)=Y then(x,NameKind.cell) else(x,k))::_)=_;rw[if_pos hc,lookup_cons,lookup_cons,beq_self_eq_true];simp only[wo];rw[if_pos hc];show List.lookup x ((if (k == .free&&env.scope.kind == .function&&env.kindOf x == U .cell)=Y then(x,NameKind.cell) else(x,k))::_)=_;rw[if_neg hc,lookup_cons,lookup_cons,beq_self_eq_true];simp only[wo];rw[if_neg hc];have hb:(x == n)=J:=by simpa using hx
  show List.lookup x ((if (k == .free&&env.scope.kind == .function&&env.kindOf n == U .cell)=Y then(n,NameKind.cell) else(n,k))::_)=_;by_cases hc:(k == .free&&env.scope.kind == .function&&env.kindOf n == U .cell)=Y;rw[if_pos hc,lookup_cons,lookup_cons,hb];exact z;rw[if_neg hc,lookup_cons,lookup_cons,hb];exact z
theorem gU{env:Env}:∀(names:List (Str×NameKind)) (I:List (Str×Addr)),(∀x∈names,x.2=.free->∃a,env.cells.lookup x.1=U a) ->∃cl,(forIn names I λ(x:Str×NameKind) (cs:List (Str×Addr))=>if (x.2 == .free)=Y then(do let a <-cellOf env x.1;pure (ForInStep.yield ((x.1,a)::cs))) else pure (ForInStep.yield cs):Sem (List (Str×Addr)))=pure cl /\(∀x a,cl.lookup x=U a->I.lookup x=U a\/env.cells.lookup x=U a)/\(∀x,((x,NameKind.free)∈names\/∃a,I.lookup x=U a)->∃a,cl.lookup x=U a)
 |[],I,_=>⟨I,rfl,λx a h=>.inl h,λx h=>by rcases h with h|h;simp at h;exact h⟩
 | (n,k)::r,I,h=>by
  by_cases hk:k=.free;subst hk;obtain⟨a,ha⟩:=h (n,.free) zv rfl;obtain⟨cl,e,h1,h2⟩:=gU r ((n,a)::I) λx hx=>h x (ux _ hx)
  refine⟨cl,?_,λx b q=>?_,λx q=>h2 x ?_⟩;rw[List.forIn_cons];simp only[beq_self_eq_true,if_true,cellOf,ha];exact e;rcases h1 x b q with z|z;rw[lookup_cons]at z;cases hx:x == n with
  |true=>rw[hx]at z;have:x=n:=vz.mp hx;subst this;cases z;exact .inr ha
  |false=>rw[hx]at z;exact .inl z
  exact .inr z;by_cases hx:x=n;subst hx;exact .inr ⟨a,zv⟩;have hb:(x == n)=J:=by simpa using hx
  rcases q with q|⟨b,q⟩;rcases vk.mp q with q|q;exact absurd (Prod.mk.inj q).1 hx;exact .inl q;exact .inr ⟨b,by rw[lookup_cons,hb];exact q⟩;have hb:(k == NameKind.free)=J:=by simpa using hk
  obtain⟨cl,e,h1,h2⟩:=gU r I λx hx=>h x (ux _ hx)
  refine⟨cl,?_,h1,λx q=>h2 x ?_⟩;rw[List.forIn_cons];simp only[hb,uw,if_false];exact e;rcases q with q|q;rcases vk.mp q with q|q;exact absurd (Prod.mk.inj q).2.symm hk;exact .inl q;exact .inr q
def iP(h:∀x∈sc.names,x.2=.free->∃a,env.cells.lookup x.1=U a):∃cl,closureFor sc env=pure cl/\(∀x a,cl.lookup x=U a->env.cells.lookup x=U a)/\(∀x,(x,NameKind.free)∈sc.names->∃a,cl.lookup x=U a):=by obtain⟨cl,e,h1,h2⟩:=gU (env:=env) sc.names [] h;refine⟨cl,?_,λx a q=>(h1 x a q).elim (λz=>by simp at z) id,λx q=>h2 x (.inl q)⟩;show ((forIn sc.names [] λ(x:Str×NameKind) (cs:List (Str×Addr))=>if (x.2 == .free)=Y then(do let a <-cellOf env x.1;pure (ForInStep.yield ((x.1,a)::cs))) else pure (ForInStep.yield cs):Sem (List (Str×Addr))) >>= λcs=>pure cs)=pure cl;rw[e];rfl
def sZ(X:Cx)(N':List Str)(sc:Scope)(cl:List (Str×Addr))(C:Addr)(s:Shared)(H:Hp)(fp:List Addr)(E:xu):Cx:={X with N:=N',s₀:=s,H₀:=H,env:=compEnvC sc cl C X.env,outer:=X.stack,ex:=fp,fn:=λ_=>J,pn:=[],xe:=E}
theorem mJ{w:World}{R:Result->Shared->Prop}{z:Expr}{scope:Scope}{it acc:Value}(I:Nat->Shared->Prop)
  (turn:∀n s,I n s->wpAny (model prog w) A (pyNext it) (λr W=>match r with
   |none=>R (.ok .next) W
   |some v=>wpAny (model prog w) A (letOwnedTupleGo z it v) (λ_ W=>wpAny (model prog w) A (assign z env v) (λ_ s₂=>
    wpAny (model prog w) A (forIn ifs Y λc r=>if r=Y then do let ok <-isTrue c env (eval c env);pure (ForInStep.yield ok) else pure (ForInStep.yield r)) (λok s₃=>
     if ok=Y then wpAny (model prog w) A (eval elt env) (λx s₄=>wpAny (model prog w) A (call (.builtin "list.append") [acc,x]) (λ_ s₅=>∃m,m<n/\I m s₅) (notedBy (model prog w) A env λe s'=>R (.error e) s') s₄) (notedBy (model prog w) A env λe s'=>R (.error e) s') s₃
     else ∃m,m<n/\I m s₃) (notedBy (model prog w) A env λe s'=>R (.error e) s') s₂) (notedBy (model prog w) A env λe s'=>R (.error e) s') W) (notedBy (model prog w) A env λe s'=>R (.error e) s') W) (notedBy (model prog w) A env λe s'=>R (.error e) s') s)
  (n:Nat) (h:I n s):codeAny (model prog w) A (.compLoop (.ListComp elt [⟨z,iter,ifs,0⟩] scope pos) 0 it acc env) R s:=by
 refine codeAny_loop rfl I (λn s hI=>?_) n h;show wpAny _ A ((compTurn (.ListComp elt [⟨z,iter,ifs,0⟩] scope pos) 0 it acc env).onRaise (λx=>do noteFrame x env;theTreesLotGoes x)) _ _ s;refine wpAny_noted ?_;rw[compTurn_list];refine wg (wpAny_standAt (wg (wk (turn n s hI) (λr W h₁=>?_) λ_ _ h'=>h')));cases r with
 |none=>exact wj h₁
 |some v=>
  refine wg (wk h₁ (λ_ s₁' h₁'=>?_) λ_ _ h'=>h');refine wg (wk h₁' (λ_ s₂ h₂=>wg (wk h₂ (λok s₃ h₃=>?_) λ_ _ h'=>h')) λ_ _ h'=>h');cases ok with
  |false=>exact wj ⟨rfl,h₃⟩
  |true=>exact wg (wg (wk h₃ (λx s₄ h₄=>wg (wk h₄ (λ_ s₅ h₅=>wj (wj ⟨rfl,h₅⟩)) λ_ _ h'=>h')) λ_ _ h'=>h'))
section
variable {CX:aq}{X:Cx}{c:CC}{G:GS}{T:Tx}{lv:Nat}{pins:xv}{V:L2.St}{H:Hp}{s:Shared}
def jL(I:Inv X pins V H s){N':List Str}{cl:List (Str×Addr)}{fp:List Addr}{E:xu}(hk:sc.kind=.function)(hC:s.heap.objs.size<=C) (aT:∀x a,cl.lookup x=U a->X.env.cells.lookup x=U a) (bj:∀x,(x,NameKind.free)∈sc.names->∃a,cl.lookup x=U a) (qx:∀x∈sc.names,x.2≠.cell) (hf:∀b∈fp,jQ X pins H b) (dy:∀b∈fp,b<s.heap.objs.size):(sZ X N' sc cl C s H fp E).Ok where
 mod:=I.ok.mod
 kind:=hk
 glob:=I.ok.glob
 blt:=I.ok.blt
 above:=hC
 inj:=λx y c h1 h2=>I.ok.inj x y c (aT _ _ h1) (aT _ _ h2)
 has:=λx hx=>by
  have e:∀k,(relabel sc X.env).names.lookup x=U k->(k=.cell\/k=.free)->(x,NameKind.free)∈sc.names:=λk e hk=>by
   rw[fY]at e;cases q:sc.names.lookup x with
   |none=>rw[q]at e;cases e
   |some k0=>
    rw[q]at e;have hm:=w5 q;by_cases fx:k0=.free;subst fx;exact hm;have hb:(k0 == NameKind.free)=J:=by simpa using fx
    simp only[wo,hb,Bool.false_and,uw,if_false,u4]at e;subst e;rcases hk with z|z;exact absurd z (qx _ hm);exact absurd z fx
  rcases hx with hx|hx;exact bj x (e _ hx (.inl rfl));exact bj x (e _ hx (.inr rfl))
 cab:=λx c h=>by cases h
 hd:=I.ok.hd
 frames:=I.ok.frames
 stk:=.inl rfl
 exf:=λb hb=>⟨w8 (vb (dy b hb) hC),λx c e=>(hf b hb).2.2.2.2.1 x c (aT _ _ e)⟩
 bs:=I.bs
 bsz:=vi I.ok.bsz I.sz
 noex:=λb o e hb=>by obtain⟨_,_,_,h1,_⟩:=hf b hb;rcases h1 with h1|h1;exact I.ok.noex b o e h1;exact absurd (vb (vh e) I.ok.bsz) (not_lt.mpr h1)
 exfs:=λb hb hs=>by obtain⟨_,h1,h2,_⟩:=hf b hb;rcases vk.mp (I.stkSub b hs) with z|z;exact h1 z;exact h2 z
 funs:=I.stack
 frf:=I.stkFree
end
section
variable {CX:aq}{X:Cx}{c:CC}{G:GS}{T:Tx}{lv:Nat}{pins:xv}{V:L2.St}{H:Hp}{s:Shared}
structure ax (c:CC) (sc:Scope):Prop where
 kind:sc.kind=.function
 nocell:∀x∈sc.names,x.2≠.cell
 loc:∀x∈sc.names,x.2=.local->sc.names.lookup x.1=U .local
 fl:∀x∈sc.names,x.2=.free->sc.names.lookup x.1=U .free
 nd:(ownNames sc).Nodup
 dbg:∀x∈ownNames sc,(x == ("__debug__":Str))=J/\(x == ("__classdict__":Str))=J
 gdb:sc.names.lookup ("__debug__":Str)≠U .globalImplicit
 fre:∀x∈sc.names,x.2=.free->c.sc.names.lookup x.1=U .cell\/c.sc.names.lookup x.1=U .free
def kI(h:gT c sc=Y):ax c sc:=by unfold gT at h;simp only[uz]at h;obtain⟨⟨⟨⟨⟨⟨⟨h1,h2⟩,h3⟩,z⟩,R⟩,h5⟩,h6⟩,I⟩:=h;rw[all_eq_true]at h2 h3 h5 I z;refine⟨vz.mp h1,λx hx=>?_,λx hx e=>?_,λx hx e=>?_,of_decide_eq_true R,λx hx=>?_,λe=>?_,λx hx e=>?_⟩;have:=h2 x hx;simpa using this;have:=h3 x hx;simpa [e] using this;have:=z x hx;simpa [e] using this;have:=h5 x hx;simpa [uz] using this;rw[e]at h6;simp at h6;have:=I x hx;simpa [e] using this
def yN(h:XC CX X c G T lv)(cs:ax c sc){cl:List (Str×Addr)}{fp:List Addr}{E:xu}:XC CX (sZ X (ownNames sc) sc cl C s H fp E) {c with N:=ownNames sc,sc:=sc} G T lv where
 N:=rfl
 nd:=cs.nd
 kd:=λx=>by
  show vZ (sc.names.lookup x) ((relabel sc X.env).names.lookup x);rw[fY];cases q:sc.names.lookup x with
  |none=>trivial
  |some k=>
   cases k with
   | «local»=>rfl
   |cell=>exact absurd rfl (cs.nocell _ (w5 q))
   |free=>simp only[wo,vZ];by_cases hc:((NameKind.free == NameKind.free)&&X.env.scope.kind == .function&&X.env.kindOf x == U .cell)=Y;rw[if_pos hc];exact .inr rfl;rw[if_neg hc];exact .inl rfl
   |globalExplicit=>trivial
   |globalImplicit=>rfl
 own:=λx e=>absurd rfl (cs.nocell _ (w5 e))
 dbg:=cs.dbg
 gdb:=by unfold bG;exact w6.mpr cs.gdb
 calm:=h.calm
 room:=h.room
 go:=⟨h.go.fn,h.go.me,h.go.cls,h.go.fld,h.go.mo,h.go.cst,h.go.bi,h.go.xcl,h.go.frs,h.go.cx0,h.go.cxf,h.go.xns,h.go.xk,h.go.sub,h.go.wd,h.go.dk⟩
def GH:∀{l:List (Str×NameKind)} {fr:List (Nat×Nat)} {i j:Nat},freeOf c sc l=U fr->fr.lookup i=U j->∃x∈l,(ownNames sc).idxOf? x.1=U i/\aZ c x.1=U j:=by
 intro l;induction l with
 |nil=>intro fr i j h e;simp only[freeOf]at h;cases h;simp at e
 |cons x r I=>
  intro fr i j h e;simp only[freeOf,ur,u7]at h;obtain⟨a,h1,b,h2,t,h3,R⟩:=h;cases R;rw[lookup_cons]at e;cases q:i == a with
  |true=>
   rw[q]at e;cases e;have:i=a:=by simpa using q
   subst this;exact⟨x,zv,h1,h2⟩
  |false=>rw[q]at e;obtain⟨y,hy,z⟩:=I h3 e;exact⟨y,ux _ hy,z⟩
def dI(n:Nat)(fr:List (Nat×Nat))(V:L2.St):L2.St:=(List.range n).map λi=>match fr.lookup i with
 |some j=>V.getD j O
 |none=>O
def yE{B:List Sl}(re:RE K T H S B V):RE K T H S (frame n fr B) (dI n fr V):=by
 refine⟨re.dom,by simp[frame,dI],λi sl e=>?_⟩;unfold frame at e;unfold dI;rw[um]at e ⊢;cases hr:(List.range n)[i]? with
 |none=>rw[hr]at e;cases e
 |some k=>
  rw[hr]at e;simp only[wo,u4]at e ⊢;subst e;cases q:fr.lookup k with
  |none=>trivial
  |some j=>
   simp only;cases q2:B[j]? with
   |none=>rw[u3,q2];trivial
   |some sl=>
    have h:=re.at_ j sl q2;rw[u3,q2];simp only[Option.getD_some];cases sl with
    |un=>trivial
    |mm _=>trivial
    |im d=>obtain⟨v,e1,r⟩:=h;exact⟨v,by rw[u3,e1];rfl,r⟩
    |mu ds=>obtain⟨p,xs,e1,r⟩:=h;exact⟨p,xs,by rw[u3,e1];rfl,r⟩
theorem RE.gen{H':Hp}{B:List Sl}(re:RE K T H S B V)(mv:aO K H H' S S')(hm:∀a ob,S a->H a=U ob->(∃d,oE K T H S d ob)->S' a/\H' a=U ob)(hd:∀a,S' a->∃o,H' a=U o):RE K T H' S' B V:=by
 refine⟨hd,re.len,λi sl e=>?_⟩;have h:=re.at_ i sl e;cases sl with
 |un=>trivial
 |mm _=>trivial
 |im d=>obtain⟨v,e1,r⟩:=h;exact⟨v,e1,Rep.gen mv d v r⟩
 |mu ds=>obtain⟨p,xs,e1,sp,hp,r⟩:=h;obtain⟨z,a2⟩:=hm p xs sp hp ⟨ds,r⟩;exact⟨p,xs,e1,z,a2,r.gen mv⟩
def yC(h:XC CX X c G T lv)(I:Inv X pins V H s)(cs:ax c sc){cl:List (Str×Addr)}{fp:List Addr}{E:xu}{s4:Shared}{m:xw} (av:freeOf c sc (sc.names.filter λx=>x.2 == .free)=U fr) (aT:∀x a,cl.lookup x=U a->X.env.cells.lookup x=U a) (bj:∀x,(x,NameKind.free)∈sc.names->∃a,cl.lookup x=U a) (hf:∀b∈fp,jQ X pins H b) (dy:∀b∈fp,b<s.heap.objs.size) (hC:s.heap.objs.size<=C) (hn:s4.heap.Ns C m) (hk:∀b o,s.heap.get? b=U o->s4.heap.get? b=U o) (mq:s4.os=s.os) (ju:AllBare s4.gens):Inv (sZ X (ownNames sc) sc cl C s H fp E) [] (dI (ownNames sc).length fr V) H s4 where
 ok:=jL I cs.kind hC aT bj cs.nocell hf dy
 os:=mq
 bare:=ju
 base:=Un.kept hk
 loc:=⟨m,hn,λi x v h1 h2 h3=>by
  unfold dI at h2;rw[um]at h2;cases hr:(List.range (ownNames sc).length)[i]? with
  |none=>rw[hr]at h2;cases h2
  |some k=>
   have ek:k=i:=by obtain⟨_,e⟩:=u0.mp hr;simpa using e.symm
   subst ek;rw[hr]at h2;simp only[wo,u4]at h2;cases q:fr.lookup k with
   |none=>rw[q]at h2;cases h2
   |some j=>
    rw[q]at h2;simp only at h2;obtain⟨y,hy,hy1,gh⟩:=GH av q;have hyx:y.1=x:=by have:=kB hy1;have sv:(ownNames sc)[k]?=U x:=h1;rw[sv]at this;exact(v8 this).symm
    obtain⟨hym,hyf⟩:=mem_filter.mp hy;have hyf':y.2=.free:=by simpa using hyf
    have hxm:(x,NameKind.free)∈sc.names:=by rw[<-hyx,<-hyf'];exact hym
    obtain⟨hN,_⟩:=tV gh;rw[hyx]at hN gh;have hσ:V[j]?=U (U v):=by
     rw[u3]at h2;cases q2:V[j]? with
     |none=>rw[q2]at h2;cases h2
     |some o=>rw[q2]at h2;simp only[Option.getD_some]at h2;rw[h2]
    obtain⟨m0,_,hl⟩:=I.loc;have hfo:=cs.fre _ hym hyf';rw[hyx]at hfo;obtain⟨u,ru,lk⟩:=hl j x v (by rw[h.N];exact hN) hσ (h.vis (.inr hfo));refine⟨u,ru,.inr ?_⟩;have kd:=h.kd x;have notloc:X.env.kindOf x≠U .local:=by rcases hfo with z|z;rw[z]at kd;intro w;rw[kd]at w;cases w;rw[z]at kd;intro w;rcases kd with kd|kd<;>(rw[kd]at w;cases w)
    rcases lk with ⟨z,_⟩|⟨_,cc,e1,e2⟩;exact absurd z notloc;obtain⟨a,ha⟩:=bj x hxm;have ea:=aT x a ha;rw[e1]at ea;cases ea;refine⟨?_,cc,ha,?_⟩;show (relabel sc X.env).names.lookup x=U .cell\/(relabel sc X.env).names.lookup x=U .free;rw[fY];have hlk:sc.names.lookup x=U .free:=cs.fl _ hxm rfl;rw[hlk];simp only[wo];split;exact .inl rfl;exact .inr rfl;obtain⟨o,h5,h6⟩:=e2;exact⟨o,hk _ _ h5,h6⟩⟩
 cell:=λx a e=>by obtain⟨v,o,h5,h6⟩:=I.cell x a (aT x a e);exact⟨v,o,hk _ _ h5,h6⟩
 free:=I.hok.fresh hC
 freeC:=λx a e=>I.freeC x a (aT x a e)
 pin:=λp hp=>absurd (show p∈([]:xv) from hp) zv
 hok:=I.hok.kept hk
 len:=by simp[dI,sZ]
end
section
variable {CX:aq}{X:Cx}{c:CC}{G:GS}{T:Tx}{lv:Nat}{pins:xv}{V:L2.St}{H:Hp}{s:Shared}
def oY{f:D->Option (Option D)}{d:D}{r out:List D}(h:bU f (d::r)=U out):∃o t,f d=U o/\bU f r=U t/\out=(match o with|some y=>y::t|none=>t):=by simp only[bU,ur,u7]at h;obtain⟨o,h1,t,h2,h3⟩:=h;refine⟨o,t,h1,h2,?_⟩;cases o<;>simp at h3<;>exact h3.symm
def TurnOk(CX:aq)(G:GS)(T:Tx)(lv:Nat)(I:CC)(K:xq)(ifs:List Expr)(elt:Expr)(ρ1:List Sl)(o:Option D):Prop:=∀(z:Cx) (S:Addr->Prop),XC CX z I G T lv->z.K=K ->((ifs=[]/\o.isSome=Y)\/∃e,ifs=[e]/\PT z e (ip z.K T S ρ1 o.isSome))/\∀y,o=U y->PE z elt (tD z.K T S ρ1 y)
def rH(h:XC CX X c G T lv)(cs:ax c sc){tg:Expr}{cl:List (Str×Addr)}{B:List Sl}
  {æ:It} {fp:List Addr} {it:Addr} {tn:Nat->Heap->Prop} {ds W:List D} {f:D->Option (Option D)} {RR:Value->Addr->Result->Shared->Prop} {E:xu}
  (av:freeOf c sc (sc.names.filter λx=>x.2 == .free)=U fr) (i6:aj.all (λi=>(fr.lookup i).isNone)=Y) (cx:cC {c with N:=ownNames sc,sc:=sc} tg=U (aj,tp))
  (aT:∀x a,cl.lookup x=U a->X.env.cells.lookup x=U a) (bj:∀x,(x,NameKind.free)∈sc.names->∃a,cl.lookup x=U a)
  (I:Inv X pins V H s) (re:RE X.K T H S B V) (TU:Turn X.prog X.w X.K tg æ fp it tn) (st:tn 0 s.heap) (hf:∀b∈fp,jQ X pins H b) (gy:iu X.K T S H æ ds) (hlen:ds.length<=sizeLine)
  (i9:bU f ds=U W) (bu:∀d o,f d=U o->∃ρ1,aX aj tp d (frame (ownNames sc).length fr B)=U ρ1/\TurnOk CX G T lv {c with N:=ownNames sc,sc:=sc} X.K ifs elt ρ1 o)
  (hRR:∀(D C:Addr) (s':Shared) (H':Hp) (ys:List σ) (m:xw),Inv X pins V H' s'->aG H H'->H D=O->H' D=U (.lst ys)->aD X.K T (er H' D) S W ys->s'.heap.Ns C m ->
   (H' C=O/\C≠X.env.locals/\X.s₀.heap.objs.size<=C/\(∀x a,X.env.cells.lookup x=U a->a≠C)/\∀p∈X.pn++pins,p.1≠C)->RR (.ref D) C (.ok .next) s'):
  wpAny (model X.prog X.w) X.A (newList []) (λacc s₃=>wpAny (model X.prog X.w) X.A (newFunctionEnv sc X.env.globals cl [] X.env.qual O .none (U X.env)) (λjh s₄=>
   codeAny (model X.prog X.w) X.A (.compStart (.ListComp elt [⟨tg,iter,ifs,0⟩] sc pos) 0 (.ref it) acc {jh with scope:=relabel sc X.env}) (RR acc jh.locals) s₄) E s₃) E s:=by
 refine wpAny_newObj_type (wpAny_newFunctionEnv cs.nocell (by intro y hy;simp at hy) (λh₁ iN i8=>?_) cs.kind)
 dsimp only at iN i8 ⊢;have I3:=I.lnew (t':=s.toks) (its:=[]) (ys:=[]) .nil (xg _)
 have dy:∀b∈fp,b<s.heap.objs.size:=λb hb=>by
  obtain⟨o,e,_⟩:=TU.obj _ _ st b hb;exact vh e
 generalize hD:s.heap.objs.size=D at *;generalize qv:s.heap.push {cls:=.type "list",dict:=O,data:=.seq ([]:List Value).toArray}=h3 at *;have hC:h3.objs.size=D+1:=by rw[<-qv,size_push,hD]
 generalize jd:h3.objs.size=C at *;have gk:H D=O:=by rw[<-hD];exact I.hok.fresh (uq _)
 have ng:X.K.lookup D=O:=by
  cases q:X.K.lookup D with
  |none=>rfl
  |some o=>
   have e:=I.kIn D o q
   exact absurd (vh e) (by rw[hD];exact we _)
 have k3:∀b o,s.heap.get? b=U o->h3.get? b=U o:=λb o e=>by rw[<-qv];exact uv _ e
 have k4:∀b o,h3.get? b=U o->h₁.get? b=U o:=λb o e=>i8.extBut b o (by rw[<-jd];exact w8 (vh e)) (uv _ e)
 have re3:RE X.K T (upd H D (.lst [])) (λa=>S a\/a=D) B V:=re.gen (aO.add gk ng) (λa xs hs e _=>⟨.inl hs,by rw[aS (bF e gk)];exact e⟩) λa hs=>by
  rcases hs with z|z
  .obtain⟨o,e⟩:=re.dom a z;exact⟨o,by rw[aS (bF e gk)];exact e⟩
  .subst z;exact⟨_,aW⟩
 have j4:∀b∈fp,jQ X pins (upd H D (.lst [])) b:=λb hb=>⟨by rw[aS (w8 (dy b hb))];exact(hf b hb).1,(hf b hb).2⟩
 have fy:∀b∈fp,b<h3.objs.size:=λb hb=>by rw[jd,hC];exact Nat.lt_succ_of_lt (dy b hb)
 have loop:∀(E':xu) (s4:Shared),s4={s with heap:=h₁,toks:=s.toks+([]:List (Str×Value)).length} ->
   codeAny (model X.prog X.w) X.A (.compLoop (.ListComp elt [⟨tg,iter,ifs,0⟩] sc pos) 0 (.ref it) (.ref D) (compEnvC sc cl C X.env)) (RR (.ref D) C) s4:=by
  rintro E' s4 rfl
  let EN:=notedBy (model X.prog X.w) X.A (compEnvC sc cl C X.env) λe s'=>RR (.ref D) C (.error e) s'
  let þ:=sZ X (ownNames sc) sc cl C {s with heap:=h3,toks:=s.toks} (upd H D (.lst [])) fp EN
  have xY:XC CX þ {c with N:=ownNames sc,sc:=sc} G T lv:=yN h cs
  have J0:Inv þ [] (dI (ownNames sc).length fr V) (upd H D (.lst [])) {s with heap:=h₁,toks:=s.toks+([]:List (Str×Value)).length}:=
   yC h I3 cs av aT bj j4 fy (by show h3.objs.size<=C;rw[jd];exact uq _) iN k4 rfl I3.bare
  have c9:∀{H':Hp},(∀b∈fp,H' b=O)->∀b∈fp,jQ þ [] H' b:=λhn b hb=>
   ⟨hn b hb,((jL (E:=EN) (N':=ownNames sc) I3 cs.kind (show h3.objs.size<=C by rw[jd];exact uq _) aT bj cs.nocell j4 fy).exf b hb).1,
    (jL (E:=EN) (N':=ownNames sc) I3 cs.kind (show h3.objs.size<=C by rw[jd];exact uq _) aT bj cs.nocell j4 fy).exfs b hb,.inl hb,
    ((jL (E:=EN) (N':=ownNames sc) I3 cs.kind (show h3.objs.size<=C by rw[jd];exact uq _) aT bj cs.nocell j4 fy).exf b hb).2,λp hp=>absurd (show p∈([]:xv) from hp) zv⟩
  have qy:∀(V':L2.St) (H':Hp),aG H H'->(∃ys,H' D=U (.lst ys))->V'.length=(ownNames sc).length->(∀j,j∉aj->V'[j]?=(dI (ownNames sc).length fr V)[j]?) ->
    RE X.K T H' (λa=>S a\/a=D) (frame (ownNames sc).length fr B) V':=λV' H' sm hys hl ag=>by
   have r0:=yE (n:=(ownNames sc).length) (fr:=fr) re
   have mv:aO X.K H H' S (λa=>S a\/a=D):=λa n hh=>by
    have ne:a≠D:=by
     rintro rfl
     rcases hh with ⟨u,e⟩|⟨u,e⟩
     .rw[gk]at e;cases e
     .rw[ng]at e;cases e
    exact⟨λz=>z.elim n ne,λo e=>sm a o e⟩
   refine⟨λa hs=>?_,by simp[frame,hl],λj sl e=>?_⟩
   .rcases hs with z|z
    .obtain⟨o,e⟩:=re.dom a z;exact⟨o,sm a o e⟩
    .subst z;obtain⟨ys,e⟩:=hys;exact⟨_,e⟩
   .have h0:=r0.at_ j sl e
    by_cases hj:j∈aj
    .have hu:sl=.un:=by
      unfold frame at e;rw[um]at e;cases hr:(List.range (ownNames sc).length)[j]? with
      |none=>rw[hr]at e;cases e
      |some k=>
       have ek:k=j:=by
        obtain⟨_,e'⟩:=u0.mp hr;simpa using e'.symm
       subst ek;rw[hr]at e;simp only[wo,u4]at e;have:=all_eq_true.mp i6 k hj
       cases q:fr.lookup k with
       |none=>
        rw[q]at e;simpa using e.symm
       |some z=>rw[q]at this;simp at this
     subst hu;trivial
    .rw[ag j hj];cases sl with
     |un=>trivial
     |mm _=>trivial
     |im d=>obtain⟨v,e1,r⟩:=h0;exact⟨v,e1,Rep.gen mv d v r⟩
     |mu ds'=>obtain⟨p,xs,e1,sp,hp,r⟩:=h0;exact⟨p,xs,e1,.inl sp,sm _ _ hp,r.gen mv⟩
  refine mJ (λk s'=>∃(i:Nat) (V':L2.St) (H':Hp) (ys:List σ) (pre R:List Z.D),k=ds.length+1-i/\i<=ds.length/\Inv þ [] V' H' s'/\tn i s'.heap/\(∀b∈fp,H' b=O) /\
   aG H H'/\H' D=U (.lst ys)/\aD X.K T H' (λa=>S a\/a=D) pre ys/\ys.length<=i/\W=pre++R/\bU f (ds.drop i)=U R /\
   V'.length=(ownNames sc).length/\(∀j,j∉aj->V'[j]?=(dI (ownNames sc).length fr V)[j]?)) ?_ (ds.length+1)
   ⟨0,_,_,[],[],W,rfl,xg _,J0,TU.keep _ _ _ st λb _ o e=>k4 b o (k3 b o e),λb hb=>(j4 b hb).1,aG.upd gk,aW,aD.nil,uq _,rfl,by simpa using i9,by simp[dI],λ_ _=>rfl⟩
  rintro k s' ⟨i,V',H',ys,pre,R,rfl,hi,IY,pD,tq,same,kj,rp,hyl,ho,mz,hlσ,so⟩;have qe:=qy V' H' same ⟨ys,kj⟩ hlσ so
  have mv:aO X.K H H' S (λa=>S a\/a=D):=λa n hh=>by
   have ne:a≠D:=by
    rintro rfl
    rcases hh with ⟨u,e⟩|⟨u,e⟩
    .rw[gk]at e;cases e
    .rw[ng]at e;cases e
   exact⟨λz=>z.elim n ne,λo e=>same a o e⟩
  obtain⟨qo,qm⟩:=gy H' _ mv qe.dom
  by_cases bt:i<ds.length
  .obtain⟨d,hd⟩:∃d,ds[i]?=U d:=⟨ds[i],by simp[bt]⟩
   have hdr:ds.drop i=d::ds.drop (i+1):=by
    obtain⟨h1,h2⟩:=u0.mp hd;rw[<-h2];exact List.drop_eq_getElem_cons h1
   rw[hdr]at mz;obtain⟨o,t,hfd,ht,hpost⟩:=oY mz;obtain⟨ρ1,hb,hok⟩:=bu d o hfd;obtain⟨go,yl⟩:=qo i d hd;refine ae (TU.item þ rfl rfl rfl h.calm i [] s' V' H' EN IY (c9 tq) pD go) λr s5 ⟨u,hr,h5⟩=>?_
   subst hr;refine ae h5 λ_ s6 ⟨x,H6,I6,r6,y6,k6,fr6⟩=>?_
   obtain⟨i4,rd6⟩:=yl x H6 y6;have I6':=I6.pinned (c9 fr6) (TU.obj _ _ k6)
   have hD6:H6 D=U (.lst ys):=i4 _ _ kj
   refine ae (TB xY (S:=λa=>S a\/a=D) cx hb _ s6 V' H6 x u (λσ2 H2=>H2=H6/\RE X.K T H6 (λa=>S a\/a=D) ρ1 σ2/\∀j,j∉aj->σ2[j]?=V'[j]?) I6' r6
    ⟨qe.same i4,rd6,λσ7 jz nz=>⟨rfl,jz,nz⟩⟩) λ_ s7 ⟨σ7,H7,I7,e7,jz,nz⟩=>?_
   subst e7;have next:∀(s9:Shared) (H9:Hp) (jk:List σ) (pre':List Z.D),Inv þ ([]++mX fp s6.heap) σ7 H9 s9->aG H H9->H9 D=U (.lst jk)->aD X.K T H9 (λa=>S a\/a=D) pre' jk->jk.length<=i+1->W=pre'++t ->
     ∃m,m<ds.length+1-i/\∃(i:Nat) (V':L2.St) (H':Hp) (ys:List σ) (pre R:List Z.D),m=ds.length+1-i/\i<=ds.length/\Inv þ [] V' H' s9/\tn i s9.heap/\(∀b∈fp,H' b=O) /\
      aG H H'/\H' D=U (.lst ys)/\aD X.K T H' (λa=>S a\/a=D) pre ys/\ys.length<=i/\W=pre++R/\bU f (ds.drop i)=U R /\
      V'.length=(ownNames sc).length/\(∀j,j∉aj->V'[j]?=(dI (ownNames sc).length fr V)[j]?):=λs9 H9 jk pre' I9 i3 su rp9 hl9 ho9=>by
    refine⟨ds.length+1-(i+1),zq,i+1,σ7,H9,jk,pre',t,rfl,bt,I9.unpinned,?_,λb hb=>?_,i3,su,rp9,hl9,ho9,ht,?_,λj hj=>(nz j hj).trans (so j hj)⟩
    .exact TU.keep _ _ _ k6 λb hb o e=>(I9.pin (b,o) (wa _ (wa _ (eY hb e)))).1
    .obtain⟨o,e,_⟩:=TU.obj _ _ k6 b hb;exact(I9.pin (b,o) (wa _ (wa _ (eY hb e)))).2.1
    .have l1:=jz.len
     have l2:=I9.len
     exact l2
   obtain⟨cj,helt⟩:=hok þ (λa=>S a\/a=D) xY rfl
   have fin:∀(s8:Shared) (H8:Hp),Inv þ ([]++mX fp s6.heap) σ7 H8 s8->aG H7 H8 ->
     (if o.isSome=Y then wpAny (model X.prog X.w) X.A (eval elt (compEnvC sc cl C X.env)) (λx s₄=>wpAny (model X.prog X.w) X.A (call (.builtin "list.append") [.ref D,x]) (λ_ s₅=>∃m,m<ds.length+1-i/\∃(i:Nat) (V':L2.St) (H':Hp) (ys:List σ) (pre R:List Z.D),m=ds.length+1-i/\i<=ds.length/\Inv þ [] V' H' s₅/\tn i s₅.heap/\(∀b∈fp,H' b=O) /\
      aG H H'/\H' D=U (.lst ys)/\aD X.K T H' (λa=>S a\/a=D) pre ys/\ys.length<=i/\W=pre++R/\bU f (ds.drop i)=U R /\
      V'.length=(ownNames sc).length/\(∀j,j∉aj->V'[j]?=(dI (ownNames sc).length fr V)[j]?)) EN s₄) EN s8
     else ∃m,m<ds.length+1-i/\∃(i:Nat) (V':L2.St) (H':Hp) (ys:List σ) (pre R:List Z.D),m=ds.length+1-i/\i<=ds.length/\Inv þ [] V' H' s8/\tn i s8.heap/\(∀b∈fp,H' b=O) /\
      aG H H'/\H' D=U (.lst ys)/\aD X.K T H' (λa=>S a\/a=D) pre ys/\ys.length<=i/\W=pre++R/\bU f (ds.drop i)=U R /\
      V'.length=(ownNames sc).length/\(∀j,j∉aj->V'[j]?=(dI (ownNames sc).length fr V)[j]?)):=λs8 H8 I8 jo=>by
    have smH8:aG H H8:=same.trans (i4.trans jo)
    cases o with
    |none=>
     rw[if_neg zv]
     refine next s8 H8 ys pre I8 smH8 (jo _ _ hD6) ((rp.same i4).same jo) (le_succ_of_le hyl) ?_
     rw[ho,hpost]
    |some y=>
     rw[if_pos (show (U y).isSome=Y from rfl)]
     refine ae (helt y rfl _ s8 σ7 H8 (λv H9=>aG H8 H9/\Rep X.K T H9 (λa=>S a\/a=D) y v) I8 ⟨jz.same jo,λv H9 i3 rv=>⟨i3,rv⟩⟩) λu9 s9 ⟨v,H9,I9,r9,i3,rv⟩=>?_
     have su:H9 D=U (.lst ys):=i3 _ _ (jo _ _ hD6)
     refine ae (jY (X:=þ) _ s9 σ7 H9 (.ref D) [v] (.ref D) [u9] (λ_ ug=>ug=upd H9 D (.lst (ys++[v]))) I9 rfl (.cons r9 .nil) ⟨D,ys,v,rfl,rfl,su,zq,rfl⟩) λ_ s10 ⟨_,ug,I10,_,tw⟩=>?_
     subst tw;have smD:aG H (upd H9 D (.lst (ys++[v]))):=λb ob e=>by
      rw[aS (bF e gk)];exact i3 _ _ (smH8 _ _ e)
     have mvD:aO X.K H9 (upd H9 D (.lst (ys++[v]))) (λa=>S a\/a=D) (λa=>S a\/a=D):=λa n _=>⟨n,λob e=>by rw[aS (λz=>n (.inr z))];exact e⟩
     refine next s10 _ (ys++[v]) (pre++[y]) I10 smD aW ?_ (by rw[vp];simp;lia) ?_
     .exact aD.gen mvD _ _ (aD.app (((rp.same i4).same jo).same i3) (aD.cons rv aD.nil))
     .rw[ho,hpost,va];rfl
   rcases cj with ⟨hifs,hsome⟩|⟨e,hifs,hpt⟩
   .subst hifs;refine wpAny_tests_nil ?_;have z:=fin s7 H7 I7 (aG.refl _)
    rw[hsome]at z;exact z
   .subst hifs;refine wpAny_tests_one (ae (hpt _ s7 σ7 H7 (λb H8=>b=o.isSome/\aG H7 H8) I7 ⟨jz,λH8 jo=>⟨rfl,jo⟩⟩) λb s8 ⟨H8,I8,eb,jo⟩=>?_)
    subst eb;exact fin s8 H8 I8 jo
  .have ei:i=ds.length:=by lia
   subst ei;refine ae (TU.done þ rfl rfl rfl h.calm ds.length [] s' V' H' EN IY (c9 tq) pD (qm _ (uq _))) λr s5 ⟨hr,I5⟩=>?_
   subst hr;have hp0:R=[]:=by
    rw[xi]at mz;simp only[bU,u4]at mz;exact mz.symm
   subst hp0;rw[vt]at ho;subst ho;obtain⟨m,hnC,_⟩:=I5.loc;have I9:Inv X pins V H' s5:=I3.call' I5.os I5.base I5.hok I5.bare λb hb=>⟨(hf b hb).2.2.2.1,(hf b hb).2.1,(hf b hb).2.2.2.2.1,(hf b hb).2.2.2.2.2⟩
   have j6:s.heap.objs.size<=C:=by rw[hD,hC];exact wt _
   refine hRR D C s5 H' ys m I9 same gk kj (aD.disown (p:=D) (.inr rfl) (λa z=>.inl z) rp) hnC ⟨I5.free,?_,vi I.sz j6,λx a e=>?_,λp hp=>?_⟩
   .intro z;have:=I.lt
    rw[<-z]at this;exact absurd this (not_lt.mpr j6)
   .intro z;obtain⟨v,ob,h5,_⟩:=I.cell x a e;rw[z]at h5;exact absurd (vh h5) (not_lt.mpr j6)
   .intro z;have:=(I.pin p hp).1
    rw[z]at this;exact absurd (vh this) (not_lt.mpr j6)
 exact codeAny_compStart_list (loop E _ rfl) (TU.self X.A 0 _ _ _ (TU.keep _ _ _ st λb _ o e=>k4 b o (k3 b o e)) (loop E _ rfl))
end
section
variable {CX:aq}{X:Cx}{c:CC}{G:GS}{T:Tx}{lv:Nat}{B:List Sl}{S:Addr->Prop}{tg:Expr}
def LS{a:Addr}{ds:List D}(n:¬S a)(hq:SqL X.K H1 a xs)(r:aD X.K T H1 S ds xs):iu X.K T S H1 (Itl X.K a) ds:=λH S' mv dom=>by obtain⟨n',k⟩:=mv a n (SqL.has hq);have z:=SqL.keeps hq k;refine⟨λi d e=>?_,λi hi=>⟨xs,z,by rw[<-r.len];exact hi⟩⟩;obtain⟨x,e1,I⟩:=r.get e;refine⟨⟨xs,x,z,e1⟩,λy H' ⟨W,R⟩=>?_⟩;subst W;have:=R xs z;rw[e1]at this;cases this;exact⟨aG.refl _,Rep.gen mv d x I⟩
def UW{a:Addr}{ds:List D}(n:¬S a)(hq:SqT X.K H1 a xs)(r:aD X.K T H1 S ds xs):iu X.K T S H1 (Itt X.K a) ds:=λH S' mv dom=>by obtain⟨n',k⟩:=mv a n (SqT.has hq);have z:=SqT.keeps hq k;refine⟨λi d e=>?_,λi hi=>⟨xs,z,by rw[<-r.len];exact hi⟩⟩;obtain⟨x,e1,I⟩:=r.get e;refine⟨⟨xs,x,z,e1⟩,λy H' ⟨W,R⟩=>?_⟩;subst W;have:=R xs z;rw[e1]at this;cases this;exact⟨aG.refl _,Rep.gen mv d x I⟩
def CZ{lo hi:Int}:iu X.K T S H1 (p6 lo (hi-lo).toNat) (fZ lo hi):=λH S' mv dom=>by
 refine⟨λi d e=>?_,λi h=>by show (hi-lo).toNat<=i;unfold fZ at h;rw[uo,ve]at h;exact h⟩;unfold fZ at e;rw[um]at e;cases hr:(List.range (hi-lo).toNat)[i]? with
 |none=>rw[hr]at e;cases e
 |some k=>
  obtain⟨h1,e'⟩:=u0.mp hr;have ek:k=i:=by simpa using e'.symm
  subst ek;rw[hr]at e;simp only[wo,u4]at e;subst e;refine⟨by show k<(hi-lo).toNat;simpa using h1,λy H' ⟨I,z⟩=>?_⟩;subst I z;exact⟨aG.refl _,by unfold Rep;rfl⟩
def SW{l:Expr}{d:D}{ds:List D}(hl:PE X l (tD X.K T S B d))(hi:items .seq d=U ds):PI X tg l (tI X.K T S B ds):=by
 intro pins s V H R I ⟨re,q⟩;refine ae (hl pins s V H (λv H'=>aG H H'/\Rep X.K T H' S d v) I ⟨re,λv H' a b=>⟨a,b⟩⟩) λv s1 ⟨x,H1,I1,r1,W,rep⟩=>?_;have z:∀(a:Addr) (xs:List σ),x=.ref a->¬S a->SqL X.K H1 a xs->aD X.K T H1 S ds xs->wpAny (model X.prog X.w) X.A (pyIter v) (PIE X pins V tg R) X.xe s1:=λa xs e n hq r=>by
  subst e;cases r1;obtain⟨its,rv,p,hz⟩:=I1.list hq;refine wpAny_pyIter_list p.isList ?_;refine⟨s1.heap.objs.size,[s1.heap.objs.size],_,_,H1,rfl,I1.kept (t':=s1.toks) λb o e=>uv _ e,EI a _,⟨_,wm _ rfl,rfl,rfl⟩,λb hb=>?_,q _ _ W (LS n hq r) (by rw[r.len];exact hz)⟩;have e:b=s1.heap.objs.size:=by simpa using hb
  subst e;exact I1.fpOk (uq _) (I1.hok.fresh (uq _))
 cases d<;>simp only[items,XD,reduceCtorEq,u4]at hi
 subst hi;unfold Rep at rep;obtain⟨a,xs,e,n,hq,r⟩:=rep;exact z a xs e n (SqL.of hq) r;subst hi;unfold Rep at rep;obtain⟨a,xs,e,n,hq,r⟩:=rep;subst e;cases r1;obtain⟨its,rv,p,hz⟩:=I1.tuple hq;refine wpAny_pyIter_tuple (show s1.heap.IsTuple a its.toArray from p) ?_;refine⟨s1.heap.objs.size,[s1.heap.objs.size],_,_,H1,rfl,I1.kept (t':=s1.toks) λb o e=>uv _ e,zD a _,⟨_,wm _ rfl,rfl,rfl⟩,λb hb=>?_,q _ _ W (UW n hq r) (by rw[r.len];exact hz)⟩;have e:b=s1.heap.objs.size:=by simpa using hb
 subst e;exact I1.fpOk (uq _) (I1.hok.fresh (uq _));subst hi;unfold Rep at rep;obtain⟨a,xs,e,n,hq,r⟩:=rep;exact z a xs e n hq r
def sL{lo hi:Int}(h:(hi-lo).toNat<=big):(fZ lo hi).length<=sizeLine:=by unfold fZ;rw[uo,ve];exact vi h gG
def jE(h:gI i=Y):-(2 ^ 62)<=i/\i<2 ^ 62:=by unfold gI at h;rw[uz]at h;exact⟨of_decide_eq_true h.1,of_decide_eq_true h.2⟩
def SX{args:List Expr}{p:Pos}{as ds:List D}(hg:Gl X "range")(hm:X.mg "range"=O)(ha:PA X args (dq X.K T S B as))(hs:starEach args X.env=args.map λe=>(J,eval e X.env))(hi:items .rng (.tup as)=U ds)(hlen:as.length=args.length):PI X tg (.Call (.Name "range" p) args [] pos) (tI X.K T S B ds):=by
 simp only[items]at hi;unfold LV at hi;split at hi;rename_i j;split at hi;rename_i hc;rw[uz]at hc;cases hi;obtain⟨b1,b2⟩:=jE hc.1;match args,hlen with
 |[a],_=>intro pins s V H R I ⟨re,q⟩;refine FJ hg hm ha hs pins s V H R I ⟨re,λvs H' sm r=>?_⟩;unfold aD at r;obtain⟨x,r',rfl,W,z⟩:=r;unfold aD at z;subst z;unfold Rep at W;subst W;refine⟨j,rfl,b1,b2,?_⟩;have hz:=sL (lo:=0) (hi:=j) (by simpa using of_decide_eq_true hc.2);have:=q (p6 0 (j-0).toNat) H' sm CZ hz;simpa using this
 cases hi;rename_i i j;split at hi;rename_i hc;rw[uz,uz]at hc;cases hi;obtain⟨b1,b2⟩:=jE hc.1.1;obtain⟨b3,b4⟩:=jE hc.1.2;match args,hlen with
 |[a,b],_=>
  intro pins s V H R I ⟨re,q⟩;refine FI hg hm ha hs (by
   have h2:=congrArg List.tail hs;have e:starEach [a,b] X.env=(J,eval a X.env)::starEach [b] X.env:=by cases a<;>first|rfl|(simp[starEach]at hs)
   rw[e]at h2;exact h2) pins s V H R I ⟨re,λvs H' sm r=>?_⟩
  unfold aD at r;obtain⟨x,r',rfl,W,z⟩:=r;unfold aD at z;obtain⟨y,r'',rfl,ry,z⟩:=z;unfold aD at z;subst z;unfold Rep at W ry;subst W ry;exact⟨i,j,rfl,⟨b1,b2,b3,b4⟩,q _ H' sm CZ (sL (of_decide_eq_true hc.2))⟩
 cases hi;cases hi
def iK(h:XC CX X c G T lv)(I:Inv X pins V H s)(cs:ax c sc):∀x∈sc.names,x.2=.free->∃a,X.env.cells.lookup x.1=U a:=λx hx hf=>by refine I.ok.has x.1 ?_;have k:=h.kd x.1;rcases cs.fre x hx hf with e|e;rw[e]at k;exact .inl k;rw[e]at k;rcases k with k|k;exact .inr k;exact .inl k
def TF(h:XC CX X c G T lv)(nt:gT c sc=Y){ds R:List D}{f:D->Option (Option D)} (av:freeOf c sc (sc.names.filter λx=>x.2 == .free)=U fr) (i6:aj.all (λi=>(fr.lookup i).isNone)=Y) (cx:cC {c with N:=ownNames sc,sc:=sc} tg=U (aj,tp)) (hi:PI X tg iter (tI X.K T S B ds)) (hs:∀x,foldedSetIterable iter X.env x=pure x) (i9:bU f ds=U R) (bu:∀d o,f d=U o->∃ρ1,aX aj tp d (frame (ownNames sc).length fr B)=U ρ1/\TurnOk CX G T lv {c with N:=ownNames sc,sc:=sc} X.K ifs elt ρ1 o):PE X (.ListComp elt [⟨tg,iter,ifs,0⟩] sc pos) (ej X.K T S B R):=by intro pins s V H Q I ⟨re,q⟩;have cs:=kI nt;obtain⟨cl,dc,aT,bj⟩:=iP (iK h I cs);rw[eval_ListComp];refine wpAny_comprehension_free (use:=O) rfl hs dc cs.kind cs.loc (ae (hi pins s V H (λæ H2=>aG H H2/\iu X.K T S H2 æ ds/\ds.length<=sizeLine) I ⟨re,λæ H2 a b z=>⟨a,b,z⟩⟩) λv s1 h1=>ae h1 λoq s2 h2=>?_);obtain⟨it,fp,tn,æ,H2,e,I2,TU,dt,f2,sm,gy,W⟩:=h2;subst e;refine rH (RR:=λacc C=>compPost (model X.prog X.w) X.A X.xe O (EP X pins V Q) acc C) h cs av i6 cx aT bj I2 (re.same sm) TU dt f2 gy W i9 bu ?_;intro D C s' H' ys m I' k7 hD nh rp hn ⟨c1,c2,c3,c4,c5⟩;refine⟨m,hn,λh' gz=>⟨.ref D,H',I'.turned (t':=s'.toks) (λb o hb e=>gz.extBut b o hb e) c1 c2.symm.symm (.inr c3) c4 c5,rfl,?_⟩⟩;exact q D ys H' (sm.trans k7) (sm.free hD) nh rp
def CJ(h:XC CX X c G T lv)(nt:gT c sc=Y){iz px:Pos}{ds R:List D}{f:D->Option (Option D)}{i:Nat} (av:freeOf c sc (sc.names.filter λx=>x.2 == .free)=U fr) (i6:aj.all (λi=>(fr.lookup i).isNone)=Y) (cx:cC {c with N:=ownNames sc,sc:=sc} tg=U (aj,tp)) (hi:PI X tg iter (tI X.K T S B ds)) (hs:∀x,foldedSetIterable iter X.env x=pure x) (hx:eM c (.Name x px)=U i) (hsw:swapsWith (.ListComp elt [⟨tg,iter,ifs,0⟩] sc pos) (U (.Name x px)) iz.line X.env=pure Y) (i9:bU f ds=U R) (bu:∀d o,f d=U o->∃ρ1,aX aj tp d (frame (ownNames sc).length fr B)=U ρ1/\TurnOk CX G T lv {c with N:=ownNames sc,sc:=sc} X.K ifs elt ρ1 o):PS X (.Assign [.Name x px] (.ListComp elt [⟨tg,iter,ifs,0⟩] sc pos) iz) (λD V H=>RE X.K T H S B V/\∀p xs H',aG H H'->H p=O->H' p=U (.lst xs)->aD X.K T (er H' p) S R xs->D.nx (V.set i (U (.ref p))) H'):=by
 intro pins s V H DD I ⟨re,q⟩;have cs:=kI nt;obtain⟨cl,dc,aT,bj⟩:=iP (iK h I cs);rw[exec_Assign_Name_used _ _ _ _ hsw];refine wg (wpAny_standAt (wg ?_));show wpAny _ X.A (do let _ <-comprehension (.ListComp elt [⟨tg,iter,ifs,0⟩] sc pos) sc X.env _ (newList []) J (eval iter X.env) (U (assign (.Name x px) X.env))) _ _ s;refine wg (wk (wpAny_comprehension_free (use:=U (assign (.Name x px) X.env)) (Q:=λ_ s'=>SP X pins DD .next s') rfl hs dc cs.kind cs.loc (ae (hi pins s V H (λæ H2=>aG H H2/\iu X.K T S H2 æ ds/\ds.length<=sizeLine) I ⟨re,λæ H2 a b z=>⟨a,b,z⟩⟩) λv s1 h1=>ae h1 λoq s2 h2=>?_)) (λ_ s' hq=>wj (wj hq)) λ_ _ e=>e);obtain⟨it,fp,tn,æ,H2,e,I2,TU,dt,f2,sm,gy,W⟩:=h2;subst e;refine rH (RR:=λacc C=>compPost (model X.prog X.w) X.A X.xe (U (assign (.Name x px) X.env)) (λ_ s'=>SP X pins DD .next s') acc C) h cs av i6 cx aT bj I2 (re.same sm) TU dt f2 gy W i9 bu ?_;intro D C s' H' ys m I' k7 hD nh rp hn ⟨c1,c2,c3,c4,c5⟩;obtain⟨hN,hk⟩:=dY hx;obtain⟨hl,hf⟩:=h.loc hk;show wpAny _ X.A (assign (.Name x px) X.env (.ref D)) _ _ _;refine wpAny_assign_Name (mQ I' (by rw[h.N];exact h.nd) (by rw[h.N];exact hN) hl (v:=.ref D) (u:=.ref D) rfl (λk9 I'' ⟨a,sb,ha⟩=>?_) hf);have hCa:C≠a:=by rcases ha with z|z;rw[z];exact c2;exactλw=>c4 x a z w.symm
 refine⟨m,hn.sameBut sb hCa,λh' gz=>⟨_,H',I''.turned (t':=k9.toks) (λb o hb e=>gz.extBut b o hb e) c1 c2 (.inr c3) c4 c5,q D ys H' (sm.trans k7) (sm.free hD) nh rp⟩⟩
end
noncomputable def Itv(K:xq)(a:Addr)(n:Nat):It:=⟨λi H=>∃xs x,SqL K H a xs/\xs.length=n/\xs[n-1-i]?=U x/\i<n,λi H x H'=>H'=H/\∀xs,SqL K H a xs->xs[n-1-i]?=U x,λi H=>n<=i⟩
def HZ{P:xt}{w:World}{tg:Expr}(a it:Addr)(n:Nat):Turn P w K tg (Itv K a n) [it] it (λi h=>i<=n/\h.IsRevIter it a ((n:Int)-1-(i:Int))) where
 mem:=by simp
 obj:=λi h st b hb=>by
  have e:b=it:=by simpa using hb
  subst e;obtain⟨_,o,e,c,d⟩:=st;exact⟨o,e,λv z=>by rw[d]at z;cases z⟩
 keep:=λi h h' st k=>⟨st.1,st.2.at λo e=>k it zv o e⟩
 item:=by
  intro X hP hw hK hc i pins s V H E I hf st hg;subst hP hw hK;obtain⟨xs,x,hq,hn,hx,hi⟩:=hg;obtain⟨its,rv,p,hz⟩:=I.list hq;obtain⟨u,hu,ru⟩:=rv.get hx;obtain⟨f0,f1,f2,f3,f4,f5⟩:=hf it zv
  have e1:(n:Int)-1-(i:Int)=((n-1-i:Nat):Int):=by lia
  have di:=st.2
  rw[e1]at di;refine wpAny_pyNext_rev_item di p.isList (x:=u) (by simpa using hu) λh' aa sb=>?_
  have I1:Inv X pins V H {s with heap:=h' }:=I.turned (t':=s.toks) (λb o hb e=>(sb.2 b hb).trans e) f0 f1 f3 f4 f5
  obtain⟨o,e,c,d⟩:=id aa;have e2:((n-1-i:Nat):Int)-1=(n:Int)-1-((i+1:Nat):Int):=by lia
  rw[e2]at aa;exact⟨u,rfl,DG (s:={s with heap:=h' }) e c d zu ⟨x,H,I1,ru,⟨rfl,λys hy=>by rw[I.list_inj hy hq];exact hx⟩,⟨hi,aa⟩,λb hb=>(hf b hb).1⟩⟩
 done:=by
  intro X hP hw hK hc i pins s V H E I hf st hg;subst hP hw hK;have o7:n<=i:=hg
  have ei:i=n:=Nat.le_antisymm st.1 o7
  subst ei;obtain⟨f0,f1,f2,f3,f4,f5⟩:=hf it zv
  have e1:(i:Int)-1-(i:Int)=-1:=by lia
  have di:=st.2
  rw[e1]at di;exact wpAny_pyNext_rev_end (I.ok.hd hc) di λh' eb=>⟨rfl,I.turned (t':=s.toks) (λb o hb e=>eb b o hb e) f0 f1 f3 f4 f5⟩
 self:=λ_ _ _ _ _ st h=>wpAny_pyIter_revIter st.2 h
section
variable {CX:aq}{X:Cx}{c:CC}{G:GS}{T:Tx}{lv:Nat}{B:List Sl}{S:Addr->Prop}{tg:Expr}
def UX{a:Addr}{ds:List D}(n:¬S a)(hq:SqL X.K H1 a xs)(r:aD X.K T H1 S ds xs):iu X.K T S H1 (Itv X.K a xs.length) ds.reverse:=λH S' mv dom=>by
 obtain⟨n',k⟩:=mv a n (SqL.has hq);have z:=SqL.keeps hq k;have hl:=r.len;refine⟨λi d e=>?_,λi hi=>?_⟩;have hi:i<ds.length:=by have:=(u0.mp e).1;simpa using this
 rw[List.getElem?_reverse hi]at e;obtain⟨x,e1,I⟩:=r.get e;rw[hl]at e1 hi;refine⟨⟨xs,x,z,rfl,e1,hi⟩,λy H' ⟨W,R⟩=>?_⟩;subst W;have:=R xs z;rw[e1]at this;cases this;exact⟨aG.refl _,Rep.gen mv d x I⟩;show xs.length<=i;rw[<-hl];simpa using hi
def SY{a:Expr}{p:Pos}{d:D}{ds:List D}(hg:Gl X "reversed")(hm:X.mg "reversed"=O)(ha:PA X [a] (dq X.K T S B [d]))(hs:starEach [a] X.env=[(J,eval a X.env)])(hi:xZ d=U ds):PI X tg (.Call (.Name "reversed" p) [a] [] pos) (tI X.K T S B ds):=by
 intro pins s V H R I ⟨re,q⟩;refine Call_ (iI I hg hm boot_reversed (vm (ae (ha pos pins s V H (λvs H'=>aG H H'/\aD X.K T H' S [d] vs) I ⟨re,λvs H' a b=>⟨a,b⟩⟩) λus s1 ⟨vs,H1,I1,r1,sm,z⟩=>?_) hs rfl));unfold aD at z;obtain⟨x,r',rfl,rx,rr⟩:=z;unfold aD at rr;subst rr;cases r1 with
 |cons r rr=>
  cases rr;cases d<;>simp only[xZ,reduceCtorEq,u4]at hi
  rename_i ds';subst hi;unfold Rep at rx;obtain⟨l,xs,e,n,hq,z⟩:=rx;subst e;cases r;obtain⟨its,rv,pl,hz⟩:=I1.list (SqL.of hq);have hlen:=rv.length;refine call_reversed_list pl.isList ?_;have I2:Inv X pins V H1 {s1 with heap:=s1.heap.push (revObj l ((its.toArray.size:Int)-1))}:=I1.kept (t':=s1.toks) λb o e=>uv _ e;have W:({s1 with heap:=s1.heap.push (revObj l ((its.toArray.size:Int)-1))}:Shared).heap.IsRevIter s1.heap.objs.size l ((xs.length:Int)-1):=by
   refine⟨_,wm _ rfl,rfl,?_⟩;have:(its.toArray.size:Int)=(xs.length:Int):=by rw[uy,hlen]
   show Data.fields #[.ref l,rawInt ((its.toArray.size:Int)-1)]=_;rw[this]
  refine wpAny_pyIter_revIter W ?_;refine⟨s1.heap.objs.size,[s1.heap.objs.size],_,_,H1,rfl,I2,HZ l _ xs.length,⟨xg _,by simpa using W⟩,λb hb=>?_,q _ _ sm (UX n (SqL.of hq) z) ?_⟩;have e:b=s1.heap.objs.size:=by simpa using hb
  subst e;exact I1.fpOk (uq _) (I1.hok.fresh (uq _));rw[List.length_reverse,z.len];exact hz
end
def DS:bootBuiltins "list"=U (.type "list"):=zt
def FR:typeLookup (.type "list_reverseiterator") "__len__"=pure O:=by rw[typeLookup_type,builtinLookup_eq_fast];kernel_rfl
def ME:typeLookup (.type "list_reverseiterator") "__length_hint__"=pure (U (.builtin "list_reverseiterator.__length_hint__")):=by rw[typeLookup_type,builtinLookup_eq_fast];kernel_rfl
section
variable {prog:xt}{w:World}{A:Around}{E:xu}{s:Shared}
def rV{I l:Addr}{items:Array Value}(hh:A.handled=O)(bw:l≠I)(hit:s.heap.IsRevIter I l ((items.size:Int)-1))(hl:s.heap.IsList l items)(hz:items.size<=sizeLine) (hQ:∀h' tk ij c',(∀b o,b≠I->s.heap.get? b=U o->h'.get? b=U o)->h'.get? s.heap.objs.size=U {cls:=.type "list",dict:=O,data:=.seq ij c',slots:=#[]} ->ij=items.reverse->Q (.ref s.heap.objs.size) {s with heap:=h',toks:=tk}):wpAny (model prog w) A (call (.type "list") [.ref I]) Q E s:=by
 refine callType_codes (Q₁:=λobj s₁=>obj=.ref s.heap.objs.size/\s₁={s with heap:=s.heap.push {cls:=.type "list",data:=.seq #[]} }) F.called_list (F.typeCall_list_1 _) F.entry_list_init (code_list_new _ ⟨rfl,rfl⟩) λobj s₁ h₁=>?_;obtain⟨rfl,rfl⟩:=h₁;have hIlt:I<s.heap.objs.size:=by obtain⟨o,e,_⟩:=hit;exact vh e
 have hllt:l<s.heap.objs.size:=by obtain⟨o,e,_⟩:=hl;exact vh e
 have hS:(s.heap.push {cls:=.type "list",data:=.seq #[]}).get? s.heap.objs.size=U {cls:=.type "list",data:=.seq #[]}:=wm _ rfl;have hup:∀b o,s.heap.get? b=U o->(s.heap.push {cls:=.type "list",data:=.seq #[]}).get? b=U o:=λb o e=>uv _ e;refine⟨⟨_,hS,rfl⟩,F.args_list_init_2 _ _,?_⟩;generalize hSe:s.heap.objs.size=S at *;generalize hs1:s.heap.push {cls:=.type "list",data:=.seq #[]}=h1 at *;have hSI:S≠I:=Nat.ne_of_gt hIlt;have hSl:S≠l:=Nat.ne_of_gt hllt;show wpAny _ _ (do let old <-Builtin.List.listItems (.ref S);Builtin.List.listUpdate (.ref S) (λ_=>#[]);letGo old.toList.reverse;Builtin.List.listExtendWith (.ref S) (.ref I) .none) _ _ _;refine wg ?_;unfold Builtin.List.listItems;refine wg (wpAny_seqItems hS rfl (wj ?_));show wpAny _ _ (updateSeq S (λ_=>#[]) >>= λ_=>letGo (#[]:Array Value).toList.reverse >>= λ_=>Builtin.List.listExtendWith (.ref S) (.ref I) .none) _ _ _;refine wg (wpAny_updateSeq hS rfl ?_);have hS₂:=Heap.get?_update_self (Obj.mapSeq (λ_=>(#[]:Array Value))) hS rfl;have oth:∀b o,b≠S->h1.get? b=U o->(h1.update S (Obj.mapSeq (λ_=>(#[]:Array Value)))).get? b=U o:=λb o hb e=>(Heap.get?_update_other _ _ (Ne.symm hb)).trans e;refine wg (wpAny_letGo ?_);generalize h1.update S (Obj.mapSeq (λ_=>(#[]:Array Value)))=h2 at *;have W:=(Walks.listRev (prog:=prog) (w:=w) (A:=A.in1.in1) hh I l bw items).toS;have R:h2.IsRevIter I l ((items.size:Int)-1-((0:Nat):Int)):=by
  have e0:(items.size:Int)-1-((0:Nat):Int)=(items.size:Int)-1:=by lia
  rw[e0];exact hit.at λo e=>oth I o (Ne.symm hSI) (hup _ _ e)
 have o6:h2.IsList l items:=hl.at λo e=>oth l o (Ne.symm hSl) (hup _ _ e);have hT:({s with heap:=h2}:Shared).TypeIs (.ref I) "list_reverseiterator":=R.typeIs (s:={s with heap:=h2});have hSf:S∉[I,l]:=by simp[hSI,hSl]
 have hs1':Builtin.List.listSameRef (.ref S) (.ref I)=J:=by simp[Builtin.List.listSameRef,hSI]
 show wpAny _ _ (Builtin.List.listExtendWith (.ref S) (.ref I) .none) _ _ {s with heap:=h2};unfold Builtin.List.listExtendWith;refine wg (wpAny_typeOf hT ?_);rw[if_neg (by rw[hs1'];decide)];refine wg (W.self 0 _ _ _ ⟨xg _,R,o6⟩ ?_);refine wg (wpAny_holding ?_);unfold Builtin.List.listLengthHint;refine wg (wpAny_specialOf hT FR ?_);show wpAny _ _ (specialOf (Value.ref I) (Str.ofString "__length_hint__") >>= _) _ _ _;refine wg (wpAny_specialOf hT ME ?_)
 (generalize hid:("list_reverseiterator.__length_hint__":String)=id0;(fail_if_success (clear hid id0));wp_delta;rw[show splitId id0=U ("list_reverseiterator","__length_hint__") from by subst hid;decide +kernel];subst hid)
 refine wg (wpAny_isInstance (b:=Y) hT (by rw[isSubtype_type];kernel_rfl) ?_);refine wj ?_;rw[if_neg zu];refine wj ⟨plainId_quiet F.plain_extend_loop _,codeAny_extend_loopS W hz S hSf _ items.size 0 _ _ _ rfl (xg _) ⟨xg _,R,o6⟩ hS₂ (ItemsOf.nil _) λs' ij c' hm ph hacc=>?_⟩;refine⟨rfl,?_⟩;rw[Moved.eq_with hm];refine hQ s'.heap s'.toks ij c' (λb o hb e=>?_) ph ?_;have hbS:b≠S:=λz=>by subst z;exact absurd (vh e) (by rw[hSe];exact we _)
 exact hm.heap b o (by simp[hbS,hb]) (oth b o hbS (hup _ _ e));obtain⟨hl1,o6⟩:=hacc;apply Array.ext;rw[hl1,Array.size_reverse];intro i h3 h4;have h5:=o6 i ij[i] (Array.getElem?_eq_getElem h3);rw[Array.getElem_reverse];obtain⟨_,e⟩:=Array.getElem?_eq_some_iff.mp h5;exact e.symm
end
section
variable {CX:aq}{X:Cx}{c:CC}{G:GS}{T:Tx}{lv:Nat}{B:List Sl}{S:Addr->Prop}
def zX{a:Expr}{p z:Pos}{d:D}{ds:List D}(hc:X.calm=Y)(hg:Gl X "reversed")(hm:X.mg "reversed"=O)(j3:Gl X "list")(hml:X.mg "list"=O)(ha:PA X [a] (dq X.K T S B [d]))(hs:starEach [a] X.env=[(J,eval a X.env)])(hi:xZ d=U ds):PE X (.Call (.Name "list" p2) [.Call (.Name "reversed" p) [a] [] pos] [] z) (ej X.K T S B ds):=by
 intro pins s V H Q I ⟨re,q⟩;refine Call_ (iI I j3 hml DS (vm (Calls.spliced_cons (Call_ (iI I hg hm boot_reversed (vm (ae (ha pos pins s V H (λvs H'=>aG H H'/\aD X.K T H' S [d] vs) I ⟨re,λvs H' a b=>⟨a,b⟩⟩) λus s1 ⟨vs,H1,I1,r1,sm,rl⟩=>?_) hs rfl)))) rfl rfl));unfold aD at rl;obtain⟨x,r',rfl,rx,rr⟩:=rl;unfold aD at rr;subst rr;cases r1 with
 |cons r rr=>
  cases rr;cases d<;>simp only[xZ,reduceCtorEq,u4]at hi
  rename_i ds';subst hi;unfold Rep at rx;obtain⟨l,xs,e,n,hq,rl⟩:=rx;subst e;cases r;obtain⟨its,rv,pl,hz⟩:=I1.list (SqL.of hq);have W:=rv.length;refine call_reversed_list pl.isList ?_;refine Calls.spliced_nil ?_;have R:l<s1.heap.objs.size:=by obtain⟨o,e,_⟩:=pl.isList;exact vh e
  refine rV (I:=s1.heap.objs.size) (items:=its.toArray) (I1.ok.hd hc) (w8 R) ⟨_,wm _ rfl,rfl,rfl⟩ (pl.isList.at λo e=>uv _ e) (by rw[uy,<-W];exact hz) λh' tk ij c' hk ph hacc=>?_;have e1:(s1.heap.push (revObj l ((its.toArray.size:Int)-1))).objs.size=s1.heap.objs.size+1:=size_push ..;have I3:Inv X pins V (upd H1 (s1.heap.push (revObj l ((its.toArray.size:Int)-1))).objs.size (.lst xs.reverse)) {s1 with heap:=h',toks:=tk}:=by refine I1.laid (λb u e=>hk b u (w8 (vh e)) (uv _ e)) (by rw[e1];exact wt _) ?_;refine⟨by rw[List.length_reverse];exact hz,its.reverse,c',aY.reverse rv,?_⟩;rw[ph,hacc];simp
  have av:H1 (s1.heap.push (revObj l ((its.toArray.size:Int)-1))).objs.size=O:=I1.hok.fresh (by rw[e1];exact wt _);exact⟨.ref _,_,I3,rfl,q _ xs.reverse _ (sm.trans (aG.upd av)) (sm.free av) aW (by rw[iO av];exact rl.rev)⟩
end
section
variable {CX:aq}{X:Cx}{c:CC}{G:GS}{T:Tx}{lv:Nat}{B:List Sl}{S:Addr->Prop}{pos:Pos}{ea eb ec:Expr}{a b d:D}
def RA{i:Nat}(h:slot B i=U d):B[i]?=U (.im d):=by unfold slot at h;split at h;rename_i e;cases h;exact e;cases h
def aDz(h:XC CX X c G T lv){i:Nat}(e:aZ c x=U i)(hs:slot B i=U d):PE X (.Name x pos) (tD X.K T S B d):=by obtain⟨hN,hk⟩:=tV e;have hm:x∈c.N:=u6 hN;refine PE.mono (uC (by rw[h.N];exact hN) (h.vis hk) (h.dbg x hm).1 (h.dbg x hm).2) λV H Q ⟨re,q⟩=>?_;obtain⟨v,e1,r⟩:=re.at_ i _ (RA hs);exact⟨v,e1,q v H (aG.refl H) r⟩
def fJ(h:XC CX X c G T lv){i:Nat}(e:aZ c x=U i):PE X (.Name x pos) (EL i):=by obtain⟨hN,hk⟩:=tV e;have hm:x∈c.N:=u6 hN;exact uC (by rw[h.N];exact hN) (h.vis hk) (h.dbg x hm).1 (h.dbg x hm).2
def aDP(h:XC CX X c G T lv)(e:bG c x=Y)(hc:c.csts.contains x=Y)(hd:G.cst x=U d):PE X (.Name x pos) (tD X.K T S B d):=by obtain⟨u,v,e1,r,hr⟩:=h.go.cst x d hd hc;intro pins s V H Q I ⟨re,q⟩;exact gL I (h.glob e) e1 ⟨v,H,I,r,q v H (aG.refl H) (hr H S (LN I) re.dom)⟩ (h.gne e)
def aDN{j:Nat}:PE X (.Constant (.int i) j pos) (tD X.K T S B (.int i)):=PE.mono JQ λV H Q ⟨re,q⟩=>q _ H (aG.refl H) (by unfold Rep;rfl)
def aFs{i:Bool}{j:Nat}:PE X (.Constant (.bool i) j pos) (tD X.K T S B (.bl i)):=PE.mono WU λV H Q ⟨re,q⟩=>q _ H (aG.refl H) (by unfold Rep;rfl)
def aDB{i:Str}{j:Nat}:PE X (.Constant (.str i) j pos) (tD X.K T S B (.str i)):=PE.mono aAC λV H Q ⟨re,q⟩=>q _ H (aG.refl H) (by unfold Rep;rfl)
def aDH{j:Nat}:PE X (.Constant .none j pos) (tD X.K T S B .non):=PE.mono aAE λV H Q ⟨re,q⟩=>q _ H (aG.refl H) (by unfold Rep;rfl)
def pX{o:O2}(hd:af o a b=U d):∀V H Q,tD X.K T S B d V H Q->ka (rD X.K T S o) (tD X.K T S B a) (tD X.K T S B b) V H Q:=λV H Q ⟨re,q⟩=>⟨re,λx H1 s1 R=>⟨re.same s1,λy H2 s2 I=>⟨a,b,d,((re.same s1).same s2).dom,R.same s2,I,hd,λv H' s3 z=>q v H' (s1.trans (s2.trans s3)) z⟩⟩⟩
def aDU{op:Operator}{o:O2}(ho:TN op=U o)(ha:PE X ea (tD X.K T S B a))(hb:PE X eb (tD X.K T S B b))(hd:af o a b=U d):PE X (.BinOp ea op eb pos) (tD X.K T S B d):=PE.mono (WT (TY ho) ha hb) (pX hd)
def FL:bg X (compareOp .IsNot) (rD X.K T S .isnot):=by
 rintro pins s V H x y v u Q I rx W ⟨a,b,d,dom,z,R,e,q⟩;have go:∀k,b=.non->k=decide (x=σ.non)->d=.bl (!k)->wpAny (model X.prog X.w) X.A (compareOp .IsNot v u) (EP X pins V Q) X.xe s:=λk hb hk hd=>by
  subst hb hd hk;unfold Rep at R;exact TK pins s V H x y v u Q I rx W ⟨R,q _ H (aG.refl H) cP⟩
 simp only[af,KO,isD]at e;split at e<;>simp only[wo,Option.map_none,u4,reduceCtorEq]at e
 all_goals subst e
 all_goals first
  | (unfold Rep at z;refine go _ rfl ?_ rfl;first|(subst z;rfl)|(obtain⟨_,_,rfl,_⟩:=z;rfl)|(obtain⟨_,_,_,_,rfl,_⟩:=z;rfl))
  | (unfold Rep at z R
     subst z R;cases rx;cases W;exact isnot_bool ⟨.bl _,H,I,rfl,q _ H (aG.refl H) cP⟩)
def fE(hu:X.A.units+64<cLine)(op:CmpOp):bg X (compareOp op) (rD X.K T S (kT op)):=by cases op;exact aAW hu;exact aAP hu;exact aAQ;exact aAR;exact aAU;exact aAV;exact aAS;exact FL;exact aAT hu;exact FK hu
def aDT(hu:X.A.units+64<cLine)(ha:PE X ea (tD X.K T S B a))(hb:PE X eb (tD X.K T S B b))(hm:behindInMarks op eb=J)(hd:af (kT op) a b=U d):PE X (.Compare ea [op] [eb] pos) (tD X.K T S B d):=PE.mono (TH (fE hu op) ha hb hm) (pX hd)
def aBj(hu:X.A.units+64<cLine){k:Bool}(ha:PE X ea (tD X.K T S B a))(hb:PE X eb (tD X.K T S B b))(hm:behindInMarks op eb=J)(hd:af (kT op) a b=U (.bl k)):PT X (.Compare ea [op] [eb] pos) (ip X.K T S B k):=PT.mono (CH (fE hu op) ha hb hm) λV H Q ⟨re,q⟩=>pX hd V H _ ⟨re,λv H' z r=>by unfold Rep at r;exact⟨k,r,q H' z⟩⟩
def rL{o o':O2}{I:D}{k:Bool}(h1:af o a b=U (.bl k))(h2:if k=Y then af o' b I=U d else d=.bl J):∀V H Q,tD X.K T S B d V H Q->zG (rD X.K T S o) (rD X.K T S o') (tD X.K T S B a) (tD X.K T S B b) (tD X.K T S B I) V H Q:=λV H Q ⟨re,q⟩=>⟨re,λx H1 s1 r1=>⟨re.same s1,λy H2 s2 W=>⟨a,b,.bl k,((re.same s1).same s2).dom,r1.same s2,W,h1,λz H3 s3 R=>by
 unfold Rep at R;refine⟨k,R,?_⟩;cases k with
 |true=>rw[if_pos rfl]at h2 ⊢;exact⟨((re.same s1).same s2).same s3,λw' H4 s4 r4=>⟨b,I,d,(((re.same s1).same s2).same s3).same s4 |>.dom,(W.same s3).same s4,r4,h2,λv H' s5 r5=>q v H' (s1.trans (s2.trans (s3.trans (s4.trans s5)))) r5⟩⟩
 |false=>rw[if_neg vc]at h2 ⊢;subst h2;exact q _ H3 (s1.trans (s2.trans s3)) cP⟩⟩⟩
def UM(hu:X.A.units+64<cLine){z:CmpOp}{I:D}{k:Bool}(ha:PE X ea (tD X.K T S B a))(hb:PE X eb (tD X.K T S B b))(hc:PE X ec (tD X.K T S B I))(hm:lastMarks [op,z] [eb,ec]=J) (h1:af (kT op) a b=U (.bl k)) (h2:if k=Y then af (kT z) b I=U d else d=.bl J):PE X (.Compare ea [op,z] [eb,ec] pos) (tD X.K T S B d):=PE.mono (xF (fE hu op) (fE hu z) ha hb hc hm) (rL h1 h2)
def KZ(hu:X.A.units+64<cLine){z:CmpOp}{I:D}{k k':Bool}(ha:PE X ea (tD X.K T S B a))(hb:PE X eb (tD X.K T S B b))(hc:PE X ec (tD X.K T S B I))(hm:lastMarks [op,z] [eb,ec]=J) (h1:af (kT op) a b=U (.bl k)) (h2:if k=Y then af (kT z) b I=U (.bl k') else D.bl k'=.bl J):PT X (.Compare ea [op,z] [eb,ec] pos) (ip X.K T S B k'):=PT.mono (xC (fE hu op) (fE hu z) ha hb hc hm) λV H Q ⟨re,q⟩=>rL h1 h2 V H _ ⟨re,λv H' R r=>by unfold Rep at r;exact⟨k',r,q H' R⟩⟩
def aDJ(ha:PE X ea (tD X.K T S B (.int i))):PE X (.UnaryOp .USub ea pos) (tD X.K T S B (.int (-i))):=PE.mono (aDe ZD ha) λV H Q ⟨re,q⟩=>⟨re,λx H1 s1 z=>by unfold Rep at z;exact⟨i,z,q _ H1 s1 (by unfold Rep;rfl)⟩⟩
def _root_.Z.aD.emp{ds:List D}(r:aD K T H S ds xs):ds.isEmpty=xs.isEmpty:=by have:=r.len;cases ds<;>cases xs<;>simp_all
def aCu{v:σ}{k:Bool}(r:Rep X.K T H S a v)(h:fj a=U k):aCh X.K v H k:=by
 cases a<;>simp only[fj,reduceCtorEq,u4]at h
 unfold Rep at r;subst r;exact h.symm;unfold Rep at r;subst r;exact h.symm;unfold Rep at r;subst r;exact h.symm;unfold Rep at r;obtain⟨p,xs,rfl,_,e,z⟩:=r;refine .inl ⟨xs,SqL.of e,?_⟩;rw[<-h];rw[z.emp];unfold Rep at r;obtain⟨p,xs,rfl,_,e,z⟩:=r;refine .inr (.inl ⟨xs,e,?_⟩);rw[<-h];rw[z.emp];unfold Rep at r;obtain⟨p,xs,rfl,_,e,z⟩:=r;refine .inl ⟨xs,e,?_⟩;rw[<-h];rw[z.emp]
def UJ{k:Bool}(ha:PE X ea (tD X.K T S B a))(he:∀z,isTrue ea X.env z=(do let v <-z;standAt ea.pos;holding [v] (truthy v)))(h:fj a=U k):PT X ea (ip X.K T S B k):=PT.mono (JG ha he) λV H Q ⟨re,q⟩=>⟨re,λx H1 s1 I=>⟨k,aCu I h,q H1 s1⟩⟩
def aBc{k:Bool}(ha:PT X ea (ip X.K T S B k)):PT X (.UnaryOp .Not ea pos) (ip X.K T S B (!k)):=PT.mono (JH ha) λV H Q ⟨re,q⟩=>⟨re,λH1 s1=>q H1 s1⟩
def aDG{k:Bool}(ha:PE X ea (tD X.K T S B a))(h:fj a=U k):PE X (.UnaryOp .Not ea pos) (tD X.K T S B (.bl (!k))):=by intro pins s V H Q I ⟨re,q⟩;refine UnaryOp_ (ae (ha pins s V H (λv H'=>aG H H'/\Rep X.K T H' S a v) I ⟨re,λv H' a b=>⟨a,b⟩⟩) λv s1 ⟨x,H1,I1,W,z,R⟩=>?_);exact not_of (ae (IA pins s1 V H1 x v (λb H2=>b=k/\H2=H1) I1 W ⟨k,aCu R h,rfl,rfl⟩) λb s2 ⟨H2,I2,eb,eH⟩=>by subst eb eH;exact⟨.bl (!b),H2,I2,rfl,q _ H2 z cP⟩)
def WZ{k:Bool}(hc:PT X ec (ip X.K T S B k))(ha:k=Y->PE X ea (tD X.K T S B d))(hb:k=J->PE X eb (tD X.K T S B d)):PE X (.IfExp ec ea eb pos) (tD X.K T S B d):=by
 cases k with
 |true=>refine PE.mono (xE hc (ha rfl) (tb:=λ_ _ _=>False) (λ_ _ _ _ _ _ h=>h.elim)) λV H Q ⟨re,q⟩=>⟨re,λH1 s1=>?_⟩;exact GC ⟨re.same s1,λv H' s2 r=>q v H' (s1.trans s2) r⟩
 |false=>refine PE.mono (xE hc (ta:=λ_ _ _=>False) (λ_ _ _ _ _ _ h=>h.elim) (hb rfl)) λV H Q ⟨re,q⟩=>⟨re,λH1 s1=>?_⟩;exact xX ⟨re.same s1,λv H' s2 r=>q v H' (s1.trans s2) r⟩
def sP:PA X [] (dq X.K T S B []):=PA.mono fN λV H Q ⟨re,q⟩=>q [] H (aG.refl H) aD.nil
def nE{ds:List D}(ha:PE X ea (tD X.K T S B a))(hr:PA X es (dq X.K T S B ds))(hs:starEach (ea::es) X.env=(J,eval ea X.env)::starEach es X.env):PA X (ea::es) (dq X.K T S B (a::ds)):=PA.mono (bT ha hr hs) λV H Q ⟨re,q⟩=>⟨re,λx H1 s1 I=>⟨re.same s1,λxs H2 s2 z=>q _ H2 (s1.trans s2) (aD.cons (I.same s2) z)⟩⟩
def aDA{ds:List D}{I:Nat}(h:PA X es (dq X.K T S B ds))(hl:ds.length<=sizeLine):PE X (.Tuple es I pos) (tD X.K T S B (.tup ds)):=PE.mono (aAB h) λV H Q ⟨re,q⟩=>⟨re,λxs H1 s1 z=>⟨by rw[<-z.len];exact hl,λp hp=>q _ _ (s1.trans (aG.upd hp)) (fI (re.same s1).dom hp z)⟩⟩
def WY{ds:List D}(h:PA X es (dq X.K T S B ds))(hl:ds.length<=sizeLine):PE X (.List es pos) (ej X.K T S B ds):=PE.mono (JP h) λV H Q ⟨re,q⟩=>⟨re,λxs H1 s1 z=>⟨by rw[<-z.len];exact hl,λp hp=>q _ _ _ (s1.trans (aG.upd hp)) (s1.free hp) aW (by rw[iO hp];exact z)⟩⟩
def KY{e:Expr}{ds:List D}(h:PE X e (ej X.K T S B ds)):PE X e (tD X.K T S B (.lst ds)):=PE.mono h λV H Q ⟨re,q⟩=>⟨re,λp xs H' z hp I r=>q _ H' z (by unfold Rep;exact⟨p,xs,rfl,re.nS hp,I,r.er⟩)⟩
def pT{ds:List D}(r:aD K T H S ds xs)(h:atI ds i=U d):∃x,L2.atI xs i=U x/\Rep K T H S d x:=by
 unfold atI at h;unfold L2.atI;rw[u7]at h;obtain⟨j,h1,h2⟩:=h;obtain⟨x,e,z⟩:=r.get h2;have sv:L2.ixN xs.length i=U j:=by rw[<-r.len];exact h1
 exact⟨x,by rw[sv];exact e,z⟩
def UU{ds:List D}(hc:a=.lst ds\/a=.tup ds\/a=.frz ds)(hd:atI ds i=U d):∀V H Q,tD X.K T S B d V H Q->ka (rIx X.K) (tD X.K T S B a) (tD X.K T S B (.int i)) V H Q:=λV H Q ⟨re,q⟩=>⟨re,λx H1 s1 W=>⟨re.same s1,λy H2 s2 R=>by have z:=W.same s2;unfold Rep at R;rcases hc with rfl|rfl|rfl;unfold Rep at z;obtain⟨p,xs,ex,_,e,I⟩:=z;obtain⟨v,e1,rv⟩:=pT I hd;exact .inl ⟨p,xs,i,v,ex,R,SqL.of e,e1,q v H2 (s1.trans s2) rv⟩;unfold Rep at z;obtain⟨p,xs,ex,_,e,I⟩:=z;obtain⟨v,e1,rv⟩:=pT I hd;exact .inr (.inl ⟨p,xs,i,v,ex,R,e,e1,q v H2 (s1.trans s2) rv⟩);unfold Rep at z;obtain⟨p,xs,ex,_,e,I⟩:=z;obtain⟨v,e1,rv⟩:=pT I hd;exact .inl ⟨p,xs,i,v,ex,R,e,e1,q v H2 (s1.trans s2) rv⟩⟩⟩
def aBg{ds:List D}(ha:PE X ea (tD X.K T S B a))(hb:PE X eb (tD X.K T S B (.int i)))(hp:kL eb)(hc:a=.lst ds\/a=.tup ds\/a=.frz ds)(hd:atI ds i=U d):PE X (.Subscript ea eb pos) (tD X.K T S B d):=PE.mono (CL uO ha hb hp) (UU hc hd)
def jU{i:Nat}{ds:List D}(re:RE X.K T H S B V)(h:fH B i=U ds):∃p xs,V[i]?=U (U (.ref p))/\H p=U (.lst xs)/\aD X.K T H S ds xs:=by unfold fH at h;split at h;rename_i e;cases h;obtain⟨v,e1,r⟩:=re.at_ i _ e;unfold Rep at r;obtain⟨p,xs,rfl,_,e2,z⟩:=r;exact⟨p,xs,e1,e2,z⟩;rename_i e;cases h;obtain⟨p,ob,e1,_,e2,I⟩:=re.at_ i _ e;obtain⟨xs,rfl,z⟩:=I.lst;exact⟨p,xs,e1,e2,z⟩;cases h
def aDK(h:XC CX X c G T lv){j:Nat}{ds:List D}(e:aZ c x=U j)(hb:PE X eb (tD X.K T S B (.int i)))(hp:kL eb)(hs:fH B j=U ds)(hd:atI ds i=U d):PE X (.Subscript (.Name x p2) eb pos) (tD X.K T S B d):=PE.mono (CL uO (fJ h e) hb hp) λV H Q ⟨re,q⟩=>by obtain⟨p,xs,e1,e2,I⟩:=jU re hs;refine⟨.ref p,e1,re,λy H2 s2 z=>?_⟩;unfold Rep at z;obtain⟨v,R,rv⟩:=pT (I.same s2) hd;exact .inl ⟨p,xs,i,v,rfl,z,SqL.of (s2 _ _ e2),R,q v H2 s2 rv⟩
def pR{ds:List D}{lo hi:Option Int}(r:aD K T H S ds xs):aD K T H S (cut ds lo hi) (yL xs lo hi):=by unfold cut yL;rw[r.len];exact(r.drop _).take _
noncomputable def jy(K:xq)(T:Tx)(S:Addr->Prop)(B:List Sl)(o:Option Int):TO:=λV H Q=>RE K T H S B V/\∀H',aG H H'->Q o H'
def aDF:PO X O (jy X.K T S B O):=λpins s V H Q I ⟨re,q⟩=>SU pins s V H Q I (q H (aG.refl H))
def aDE(ha:PE X ea (tD X.K T S B (.int i))):PO X (U ea) (jy X.K T S B (U i)):=λpins s V H Q I ⟨re,q⟩=>SR ha pins s V H Q I ⟨re,λv H' z r=>by unfold Rep at r;exact⟨i,r,q H' z⟩⟩
def WW{l h:Option Int}{ds:List D}(ha:PE X ea (tD X.K T S B a))(hl:PO X lo (jy X.K T S B l))(hh:PO X hi (jy X.K T S B h))(hc:a=.lst ds\/a=.frz ds):PE X (.Subscript ea (.Slice lo hi O p2) pos) (ej X.K T S B (cut ds l h)):=PE.mono (qF CA ha hl hh) λV H Q ⟨re,q⟩=>⟨re,λx H1 s1 W=>⟨re.same s1,λH2 s2=>⟨(re.same s1).same s2,λH3 s3=>by have I:=(W.same s2).same s3;have z:=s1.trans (s2.trans s3);rcases hc with rfl|rfl;unfold Rep at I;obtain⟨p,xs,ex,_,e,R⟩:=I;exact⟨p,xs,ex,SqL.of e,λp hp=>q _ _ _ (z.trans (aG.upd hp)) (z.free hp) aW (by rw[iO hp];exact pR R)⟩;unfold Rep at I;obtain⟨p,xs,ex,_,e,R⟩:=I;exact⟨p,xs,ex,e,λp hp=>q _ _ _ (z.trans (aG.upd hp)) (z.free hp) aW (by rw[iO hp];exact pR R)⟩⟩⟩⟩
def aDD{l h:Option Int}{ds:List D}(ha:PE X ea (tD X.K T S B (.tup ds)))(hl:PO X lo (jy X.K T S B l))(hh:PO X hi (jy X.K T S B h))(hw:¬(sIx ds.length 0 l=0/\sIx ds.length ds.length h=ds.length)):PE X (.Subscript ea (.Slice lo hi O p2) pos) (tD X.K T S B (.tup (cut ds l h))):=PE.mono (qF aAa ha hl hh) λV H Q ⟨re,q⟩=>⟨re,λx H1 s1 r1=>⟨re.same s1,λH2 s2=>⟨(re.same s1).same s2,λH3 s3=>by have R:=(r1.same s2).same s3;have W:=s1.trans (s2.trans s3);have z:=((re.same s1).same s2).same s3;unfold Rep at R;obtain⟨p,xs,ex,_,e,I⟩:=R;exact⟨p,xs,ex,e,by rw[<-I.len];exact hw,λp hp=>q _ _ (W.trans (aG.upd hp)) (fI z.dom hp (pR I))⟩⟩⟩⟩
def aDC(h:XC CX X c G T lv){p3:Pos}{j:Nat}{l u:Option Int}{ds:List D}(e:aZ c x=U j)(hs:fH B j=U ds)(hl:PO X lo (jy X.K T S B l))(R:PO X hi (jy X.K T S B u)):PE X (.Subscript (.Name x p3) (.Slice lo hi O p2) pos) (ej X.K T S B (cut ds l u)):=PE.mono (qF CA (fJ h e) hl R) λV H Q ⟨re,q⟩=>by obtain⟨p,xs,e1,e2,I⟩:=jU re hs;refine⟨.ref p,e1,re,λH2 s2=>⟨re.same s2,λW s3=>?_⟩⟩;have z:=s2.trans s3;exact⟨p,xs,rfl,SqL.of (s3 _ _ (s2 _ _ e2)),λp hp=>q _ _ _ (z.trans (aG.upd hp)) (z.free hp) aW (by rw[iO hp];exact pR ((I.same s2).same s3))⟩
def aDQ(h:XC CX X c G T lv){cn f:Str}{fs:List (Str×D)}(ha:PE X ea (tD X.K T S B (.obj cn fs)))(hb:attributeBase ea f X.env (eval ea X.env)=eval ea X.env)(hf:(G.fl cn).contains f=Y)(hd:fs.lookup f=U d):PE X (.Attribute ea f pos) (tD X.K T S B d):=PE.mono (aAG ha hb) λV H Q ⟨re,q⟩=>⟨re,λx H1 s1 z=>by unfold Rep at z;obtain⟨p,C,dx,gs,ex,_,ec,e,I⟩:=z;obtain⟨v,e1,rv⟩:=(cQ.look I).1 d hd;exact⟨p,C,dx,gs,v,ex,e,h.go.cls cn C ec,h.go.fld cn C f ec hf,e1,q v H1 s1 rv⟩⟩
def uE(h:XC CX X c G T lv):gW CX X E0:=λ_ _ H s e s' _ z=>(h.go.cx0 _ H s e s' z).elim
def qA{e:Expr}(hs:starEach (e::es) X.env=(e::es).map λe=>(J,eval e X.env)):starEach (e::es) X.env=(J,eval e X.env)::starEach es X.env/\(backTo pos (starEach es X.env)).any (·.1)=J:=by
 have h2:starEach (e::es) X.env=(J,eval e X.env)::starEach es X.env:=by cases e<;>first|rfl|(simp[starEach]at hs)
 have h3:starEach es X.env=es.map λe=>(J,eval e X.env):=by have:=congrArg List.tail (h2.symm.trans hs);simpa using this
 refine⟨h2,?_⟩;rw[h3];clear h2 h3 hs;induction es with
 |nil=>rfl
 |cons a r z=>exact z
def aBk(h:XC CX X c G T lv){ds:List D}{p:Pos}(hg:bG c x=Y)(hf:c.fns.contains x=Y)(ha:PA X es (dq X.K T S B ds))(hs:starEach es X.env=es.map λe=>(J,eval e X.env))(hlen:ds.length=es.length)(hd:G.fn x ds=U (.ok d)):PE X (.Call (.Name x p) es [] pos) (λV H Q=>RE X.K T H S B V/\∀v H1 H',aG H H1->aG H1 H'->Rep X.K T H' S d v->(G.ff x=Y->tP X.K T S H1 H' d v)->Q v H'):=by
 obtain⟨f,fd,ps,hm,hk,hb,hl,F⟩:=h.go.fn x hf;have z:∀V H Q,(RE X.K T H S B V/\∀v H1 H',aG H H1->aG H1 H'->Rep X.K T H' S d v->(G.ff x=Y->tP X.K T S H1 H' d v)->Q v H')->BY (jn X.K T ps.length (G.fn x) (G.ff x)) [] E0 (dq X.K T S B ds) V H Q:=λV H Q ⟨re,q⟩=>⟨re,λvs H1 s1 I=>⟨by rw[vt,<-I.len];exact hl ds _ hd,S,ds,(re.same s1).dom,by rw[vt];exact I,.inl ⟨d,hd,λv H' s2 R fr=>q v H1 H' s1 s2 R fr⟩⟩⟩;cases es with
 |nil=>refine PE.mono (xG F h.room (h.glob hg) hm hk hb .nil (uE h) (h.gne hg)) λV H Q hq=>?_;obtain⟨re,q⟩:=hq;have W:ds=[]:=vv.mp hlen;subst W;exact(z V H Q ⟨re,q⟩).2 [] H (aG.refl H) aD.nil
 |cons e es=>obtain⟨h1,h2⟩:=qA (pos:=pos) hs;exact PE.mono (CO F h.room (h.glob hg) hm hk hb .nil (uE h) ha (h.gne hg) h1 h2) z
end
section
variable {CX:aq}{X:Cx}{c:CC}{G:GS}{T:Tx}{lv:Nat}{B:List Sl}{S:Addr->Prop}{pos:Pos}{ea eb ec:Expr}{a b d:D}
def rR(X:Cx)(o:Expr)(m:Str)(args:List Expr)(apos pos:Pos):Prop:=∃pl:Sem Bool,eval (.Call (.Attribute o m apos) args [] pos) X.env=(do
 let z <-eval o X.env
 standAt apos.atName
 let (f,first) <-holding [z] (getMethod z m pl)
 callWith pos f first (backTo pos (starEach args X.env)) (backToKw pos (keywordEach [] X.env)))
def aBd(h:XC CX X c G T lv){m cn:Str}{fs:List (Str×D)}{ds:List D}{apos:Pos}(ht:rR X ea m es apos pos)(ho:PE X ea (tD X.K T S B (.obj cn fs)))(hn:fs.lookup m=O) (ha:PA X es (dq X.K T S B ds)) (hs:starEach es X.env=es.map λe=>(J,eval e X.env)) (hlen:ds.length=es.length) (hd:G.me cn m (.obj cn fs::ds)=U (.ok d)):PE X (.Call (.Attribute ea m apos) es [] pos) (λV H Q=>RE X.K T H S B V/\∀v H1 H',aG H H1->aG H1 H'->Rep X.K T H' S d v->(G.mf cn m=Y->tP X.K T S H1 H' d v)->Q v H'):=by
 obtain⟨pl,ht⟩:=ht;intro pins s V H Q I ⟨re,q⟩;refine PySem.W.methodCall_KW (pl:=pl) (ae (ho pins s V H (λv H'=>aG H H'/\Rep X.K T H' S (.obj cn fs) v) I ⟨re,λv H' a b=>⟨a,b⟩⟩) λu s1 ⟨x,H1,I1,rx,sm,ro⟩=>?_) ht;have ro':=ro;unfold Rep at ro;obtain⟨p,C,dx,gs,ex,_,ec,e,rf⟩:=ro;subst ex;obtain rfl:u=Value.ref p:=rx;obtain⟨f,fd,ps,hm,hb,hl,F⟩:=h.go.me cn C m _ _ ec hd;refine qV I1 e (h.go.cls cn C ec) hm ((cQ.look rf).2 hn) ?_;have z:∀(us:List Value) (vs:List σ) (s2:Shared) (H2:Hp),Inv X pins V H2 s2->aY vs us->aG H1 H2->aD X.K T H2 S ds vs->wpAny (model X.prog X.w) X.A (call (.ref f) (.ref p::us)) (EP X pins V Q) X.xe s2:=λus vs s2 H2 I2 r2 s12 R=>by refine tY (us:=.ref p::us) (vs:=.ref p::vs) (dvs:=[]) (ds:=[]) (E:=E0) F h.room hb .nil (uE h) I2 (.cons rfl r2) ?_;refine⟨?_,S,.obj cn fs::ds,((re.same sm).same s12).dom,?_,.inl ⟨d,hd,λv H' s3 r3 fr=>q v H2 H' (sm.trans s12) s3 r3 fr⟩⟩;have:=hl _ _ hd;simp only[vt,wz]at this ⊢;rw[<-R.len];exact this;rw[vt];exact aD.cons (ro'.same s12) R
 cases es with
 |nil=>have bq:ds=[]:=vv.mp hlen;subst bq;exact callWith_K0 (first:=[.ref p]) I1.kIn hm.kp (z [] [] s1 H1 I1 .nil (aG.refl _) aD.nil)
 |cons e es=>obtain⟨h1,h2⟩:=qA (pos:=pos) hs;refine callWith_K (first:=[.ref p]) (h₀:=X.base) I.ok.mod.kin hm.kp (ae (ha pos pins s1 V H1 (λvs H'=>aG H1 H'/\aD X.K T H' S ds vs) I1 ⟨re.same sm,λvs H' a b=>⟨a,b⟩⟩) λus s2 ⟨vs,H2,I2,r,s12,R⟩=>⟨I2.kIn,?_⟩) h1 h2;exact z us vs s2 H2 I2 r s12 R
def FB{CX:aq}{k:Nat}{f:Addr}{fd:xr}{ps:List Str}{sp:Sp}{E:XK}{Q:VK}{us:List Value}{vs:List σ}(M:Mk X.K C f)(F:FnOk X.prog X.w X.K X.mg X.base CX k f fd ps sp)(hr:Room (k+1) X.A)(hb:Binds X.K fd ps []) (hx:gW CX X E) (I:Inv X pins V H s) (r:aY vs us) (h:∀x dx,H x=O->H dx=O->dx≠x->X.K.lookup x=O->X.K.lookup dx=O->sp (.ref x::vs) (upd (upd H dx (.own x)) x (.ins C dx [])) (λv H2=>v=.non/\Q (.ref x) H2) E):wpAny (model X.prog X.w) X.A (call (.ref C) us) (EP X pins V Q) X.xe s:=by
 have W:∀a,s.heap.objs.size<=a->X.K.lookup a=O:=λa ha=>by
  cases q:X.K.lookup a with
  |none=>rfl
  |some o=>exact absurd (vh (I.kIn a o q)) (not_lt.mpr ha)
 have hq:=h (s.heap.objs.size+1) s.heap.objs.size (I.hok.fresh (wt _)) (I.hok.fresh (uq _)) (w8 (wx _)) (W _ (wt _)) (W _ (uq _));have I2:=Inv.made (C:=C) I;have R:aY (σ.ref (s.heap.objs.size+1)::vs) (Value.ref (s.heap.objs.size+1)::us):=.cons rfl r;have hl:(Value.ref (s.heap.objs.size+1)::us++[]).length=ps.length:=by have e:=R.length;rw[F.len _ _ _ _ hq]at e;rw[vt];exact e.symm
 refine wpAny_call (LC (f:=f) I.kIn M.makes M.init (vz.mp M.fn) (codeAny_mono (F.run _ X.stack _ _ ⟨Value.ref (s.heap.objs.size+1)::us,[]⟩ (Value.ref (s.heap.objs.size+1)::us) _ _ E (hr.make C us []) (I2.env0.make C us []) (by have:=hb _ (Value.ref (s.heap.objs.size+1)::us) I2.kIn hl;rw[vt]at this;exact this) R hq) λr s' z=>?_));cases r with
 |error e=>exact hx pins V _ _ e s' I2 z
 |ok fl=>
  cases fl with
  |ret u=>obtain⟨v,H',I3,rv,ev,q3⟩:=I2.after z;subst ev;exact⟨rv,⟨σ.ref (s.heap.objs.size+1),H',I3,rfl,q3⟩⟩
  |next=>exact False.elim z
  |brk=>exact False.elim z
  |cont=>exact False.elim z
def aFr(h:XC CX X c G T lv){ds:List D}{p:Pos}(hg:bG c x=Y)(hf:c.cls.contains x=Y)(ha:PA X es (dq X.K T S B ds))(hs:starEach es X.env=es.map λe=>(J,eval e X.env))(hlen:ds.length=es.length)(hd:G.mo x ds=U (.ok d)):PE X (.Call (.Name x p) es [] pos) (tD X.K T S B d):=by
 obtain⟨C,f,fd,ps,j,hj,hm,M,hb,hl,F⟩:=h.go.mo x hf ds d hd;have fin:∀(pins:xv) (V:L2.St) (H:Hp) (Q:VK) (us:List Value) (vs:List σ) (s2:Shared) (H2:Hp),RE X.K T H S B V->(∀v H',aG H H'->Rep X.K T H' S d v->Q v H')->Inv X pins V H2 s2->aY vs us->aG H H2->aD X.K T H2 S ds vs->wpAny (model X.prog X.w) X.A (call (.ref C) us) (EP X pins V Q) X.xe s2:=λpins V H Q us vs s2 H2 re q I2 r2 s12 rl=>by
  refine FB (E:=E0) M F (h.room.mono hj) hb (uE h) I2 r2 λy dx hy W ne ky kdx=>?_;have R:=(re.same s12).dom;have m1:aO X.K H2 (upd H2 dx (.own y)) S S:=λa n _=>⟨n,λo e=>by rw[aS (bF e W)];exact e⟩;have hy1:(upd H2 dx (.own y)) y=O:=by rw[aS (Ne.symm ne)];exact hy
  have m2:=aO.add (S:=S) (o:=.ins C dx []) hy1 ky;refine⟨by simp only[wz];rw[<-rl.len];exact hl,y,dx,vs,(λa=>S a\/a=y),ds,d,rfl,aW,.inr rfl,λa hs=>?_,aD.gen m2 _ _ (aD.gen m1 _ _ rl),hd,λH' kp rp=>⟨rfl,q _ H' ?_ (rp S λa ha=>⟨.inl ha,?_⟩)⟩⟩;rcases hs with z|z;obtain⟨o,e⟩:=R a z;exact⟨o,by rw[aS (bF e hy),aS (bF e W)];exact e⟩;subst z;exact⟨_,aW⟩;intro b o e;have e2:=s12 b o e;refine kp b o (bF e2 hy) ?_;rw[aS (bF e2 hy),aS (bF e2 W)];exact e2;intro z;subst z;obtain⟨o,e⟩:=R a ha;rw[hy]at e;cases e
 cases es with
 |nil=>have bq:ds=[]:=vv.mp hlen;subst bq;intro pins s V H Q I ⟨re,q⟩;refine wpAny_Call_Name_kw (gL I (h.glob hg) hm ?_ (h.gne hg));exact callWith_K0 I.kIn M.kp (fin pins V H Q [] [] s H re q I .nil (aG.refl _) aD.nil)
 |cons e es=>obtain⟨h1,h2⟩:=qA (pos:=pos) hs;intro pins s V H Q I ⟨re,q⟩;refine wpAny_Call_Name_kw (gL I (h.glob hg) hm ?_ (h.gne hg));refine callWith_K (h₀:=X.base) I.ok.mod.kin M.kp (ae (ha pos pins s V H (λvs H'=>aG H H'/\aD X.K T H' S ds vs) I ⟨re,λvs H' a b=>⟨a,b⟩⟩) λus s1 ⟨vs,H1,I1,r,sm,rl⟩=>⟨I1.kIn,?_⟩) h1 h2;exact fin pins V H Q us vs s1 H1 re q I1 r sm rl
def om(K:xq)(T:Tx)(S:Addr->Prop)(g:List D->Option D):List σ->Hp->VK->Prop:=λxs H Q=>∃ds d,(∀a,S a->∃o,H a=U o)/\aD K T H S ds xs/\g ds=U d/\∀v H',aG H H'->Rep K T H' S d v->Q v H'
def rep1(r:aD K T H S [a] xs):∃x,xs=[x]/\Rep K T H S a x:=by unfold aD at r;obtain⟨x,R,rfl,I,z⟩:=r;unfold aD at z;subst z;exact⟨x,rfl,I⟩
def rep2(r:aD K T H S [a,b] xs):∃x y,xs=[x,y]/\Rep K T H S a x/\Rep K T H S b y:=by unfold aD at r;obtain⟨x,W,rfl,I,R⟩:=r;obtain⟨y,rfl,z⟩:=rep1 R;exact⟨x,y,rfl,I,z⟩
def eB:Rep K T H S (.int i) (.int i):=by unfold Rep;rfl
def aEJ:eU X (.builtin "len") (om X.K T S VD):=by rintro pins s V H xs us Q I r ⟨ds,d,dom,W,e,q⟩;unfold VD at e;split at e;obtain⟨x,rfl,z⟩:=rep1 W;cases e;unfold Rep at z;obtain⟨p,ys,rfl,_,hq,R⟩:=z;exact fS pins s V H _ us Q I r ⟨p,ys,rfl,.inl (SqL.of hq),by rw[<-R.len];exact q _ H (aG.refl H) eB⟩;obtain⟨x,rfl,z⟩:=rep1 W;cases e;unfold Rep at z;obtain⟨p,ys,rfl,_,hq,R⟩:=z;exact fS pins s V H _ us Q I r ⟨p,ys,rfl,.inr hq,by rw[<-R.len];exact q _ H (aG.refl H) eB⟩;obtain⟨x,rfl,z⟩:=rep1 W;cases e;unfold Rep at z;obtain⟨p,ys,rfl,_,hq,R⟩:=z;exact fS pins s V H _ us Q I r ⟨p,ys,rfl,.inl hq,by rw[<-R.len];exact q _ H (aG.refl H) eB⟩;obtain⟨x,rfl,z⟩:=rep1 W;unfold Rep at z;subst z;split at e;rename_i hz;cases e;exact vW pins s V H _ us Q I r ⟨_,rfl,vi hz gG,q _ H (aG.refl H) eB⟩;cases e;cases e
def aEK:eU X (.type "int") (om X.K T S VE):=by rintro pins s V H xs us Q I r ⟨ds,d,dom,R,e,q⟩;unfold VE at e;split at e;obtain⟨x,rfl,z⟩:=rep1 R;cases e;unfold Rep at z;subst z;exact tG pins s V H _ us Q I r (.inl ⟨_,rfl,q _ H (aG.refl H) eB⟩);obtain⟨x,rfl,z⟩:=rep1 R;cases e;unfold Rep at z;subst z;exact tG pins s V H _ us Q I r (.inr ⟨_,rfl,q _ H (aG.refl H) eB⟩);cases e
def rBl(K:xq)(T:Tx)(S:Addr->Prop):List σ->Hp->VK->Prop:=λxs H Q=>∃ds es,aD K T H S ds xs/\yH ds=U (.lst es)/\∀p ys H',aG H H'->H p=O->H' p=U (.lst ys)->aD K T (er H' p) S es ys->Q (.ref p) H'
def aCg:eU X (.type "list") (rBl X.K T S):=by rintro pins s V H xs us Q I r ⟨ds,es,W,e,q⟩;unfold yH at e;split at e;obtain⟨x,rfl,z⟩:=rep1 W;cases e;unfold Rep at z;obtain⟨p,ys,rfl,_,hq,R⟩:=z;exact iQ pins s V H _ us Q I r ⟨p,ys,rfl,.inl (SqL.of hq),λl hl=>q l ys _ (aG.upd hl) hl aW (by rw[iO hl];exact R)⟩;obtain⟨x,rfl,z⟩:=rep1 W;cases e;unfold Rep at z;obtain⟨p,ys,rfl,_,hq,R⟩:=z;exact iQ pins s V H _ us Q I r ⟨p,ys,rfl,.inr hq,λl hl=>q l ys _ (aG.upd hl) hl aW (by rw[iO hl];exact R)⟩;obtain⟨x,rfl,z⟩:=rep1 W;cases e;unfold Rep at z;obtain⟨p,ys,rfl,_,hq,R⟩:=z;exact iQ pins s V H _ us Q I r ⟨p,ys,rfl,.inl hq,λl hl=>q l ys _ (aG.upd hl) hl aW (by rw[iO hl];exact R)⟩;cases e
def WA:eU X (.type "tuple") (om X.K T S vH):=by rintro pins s V H xs us Q I r ⟨ds,d,dom,rl,e,q⟩;unfold vH at e;split at e;obtain⟨x,rfl,z⟩:=rep1 rl;cases e;unfold Rep at z;obtain⟨p,ys,rfl,_,hq,W⟩:=z;exact kU pins s V H _ us Q I r ⟨p,ys,rfl,.inl ⟨SqL.of hq,λl hl=>q _ _ (aG.upd hl) (fI dom hl W)⟩⟩;obtain⟨x,rfl,z⟩:=rep1 rl;cases e;have R:=z;unfold Rep at z;obtain⟨p,ys,rfl,_,hq,W⟩:=z;exact kU pins s V H _ us Q I r ⟨p,ys,rfl,.inr ⟨hq,q _ H (aG.refl H) R⟩⟩;cases e
theorem nI{K:xq}{H:Hp}:∀{ds:List D} {ns:List Int} {ys:List σ} {us:List Value},iX ds=U ns->aD K T H S ds ys->aY ys us->IntsAre us ns
 |[],ns,ys,us,h,r,v=>by simp only[iX]at h;cases h;unfold aD at r;subst r;cases v;exact .nil
 |d::ds,ns,ys,us,h,r,v=>by
  cases d<;>simp only[iX,reduceCtorEq]at h
  rename_i i;rw[v9]at h;obtain⟨r',h1,rfl⟩:=h;unfold aD at r;obtain⟨x,w,rfl,z,W⟩:=r;unfold Rep at z;subst z;cases v with
  |cons R I=>obtain⟨t,rfl⟩:=R;exact .cons i t (nI h1 W I)
section
variable {prog:xt}{w:World}{A:Around}{E:xu}{s:Shared}
def AG{l:Addr}(R:A.handled=O)(hl:s.heap.IsList l vs.toArray)(hi:IntsAre vs ns)(bw:0<ns.length) (h:∀h' M (t:Tok) tk,(∀b o,s.heap.get? b=U o->h'.get? b=U o)->M∈ns->(∀a,a∈ns->a<=M)->Q (.int M t) {s with heap:=h',toks:=tk}):wpAny (model prog w) A (call (.builtin "max") [.ref l]) Q E s:=by
 obtain⟨xs,e⟩:=hi.allInts.items;have z:ns=xs.toList.map (·.1):=by rw[<-hi.numsOf,<-nums_intItems,<-e]
 have hsz:0<xs.size:=by have h3:=bw;rw[z,uo,length_toList]at h3;exact h3
 rw[e]at hl;refine max_intList R hl hsz λv h' tk hv hk=>?_;obtain⟨t,rfl⟩:=intItems_at hv;obtain⟨h1,h2⟩:=argBest_gt (numAt xs) (xs.size-1);refine h _ _ t tk hk ?_ λa ha=>?_;rw[z,numAt_eq];exact getD_mem (by rw[uo,length_toList];lia);rw[z]at ha;obtain⟨j,I,rfl⟩:=mem_getD ha;rw[uo,length_toList]at I;rw[<-numAt_eq];exact h2 j zq
def AC{l:Addr}(R:A.handled=O)(hl:s.heap.IsList l vs.toArray)(hi:IntsAre vs ns)(bw:0<ns.length) (h:∀h' M (t:Tok) tk,(∀b o,s.heap.get? b=U o->h'.get? b=U o)->M∈ns->(∀a,a∈ns->M<=a)->Q (.int M t) {s with heap:=h',toks:=tk}):wpAny (model prog w) A (call (.builtin "min") [.ref l]) Q E s:=by
 obtain⟨xs,e⟩:=hi.allInts.items;have z:ns=xs.toList.map (·.1):=by rw[<-hi.numsOf,<-nums_intItems,<-e]
 have hsz:0<xs.size:=by have h3:=bw;rw[z,uo,length_toList]at h3;exact h3
 rw[e]at hl;refine min_intList R hl hsz λv h' tk hv hk=>?_;obtain⟨t,rfl⟩:=intItems_at hv;obtain⟨h1,h2⟩:=argBest_lt (numAt xs) (xs.size-1);refine h _ _ t tk hk ?_ λa ha=>?_;rw[z,numAt_eq];exact getD_mem (by rw[uo,length_toList];lia);rw[z]at ha;obtain⟨j,I,rfl⟩:=mem_getD ha;rw[uo,length_toList]at I;rw[<-numAt_eq];exact h2 j zq
end
def aEI(hc:X.calm=Y):eU X (.builtin "max") (om X.K T S BC):=by
 rintro pins s V H xs us Q I r ⟨ds,d,dom,rl,e,q⟩;unfold BC at e;split at e;obtain⟨x,y,rfl,R,W⟩:=rep2 rl;cases e;unfold Rep at R W;subst R W;exact GT hc pins s V H _ us Q I r ⟨_,_,rfl,q _ H (aG.refl H) eB⟩;obtain⟨x,rfl,R⟩:=rep1 rl;split at e;rename_i i t he;cases e;unfold Rep at R;obtain⟨p,ys,rfl,_,hq,W⟩:=R;obtain⟨u,rfl,ru⟩:=vals1 r;cases ru;obtain⟨its,rv,pl,hz⟩:=I.list (SqL.of hq);have hi:=nI he W rv;refine AG (I.ok.hd hc) pl.isList hi zv λh' M tt tk hk hM hle=>⟨.int M,H,I.kept (t':=tk) hk,⟨_,rfl⟩,?_⟩;obtain⟨m1,m2,m3⟩:=jZ t i;have e1:kO i t∈i::t:=by rcases m1 with z|z;rw[z];simp;exact ux _ z
 have e2:M<=kO i t:=by rcases vk.mp hM with z|z;rw[z];exact m2;exact m3 M z
 have e3:M=kO i t:=Int.le_antisymm e2 (hle _ e1);rw[e3];exact q _ H (aG.refl H) eB;cases e;cases e
def aEH(hc:X.calm=Y):eU X (.builtin "min") (om X.K T S OE):=by
 rintro pins s V H xs us Q I r ⟨ds,d,dom,rl,e,q⟩;unfold OE at e;split at e;obtain⟨x,y,rfl,R,W⟩:=rep2 rl;cases e;unfold Rep at R W;subst R W;exact GR hc pins s V H _ us Q I r ⟨_,_,rfl,q _ H (aG.refl H) eB⟩;obtain⟨x,rfl,R⟩:=rep1 rl;split at e;rename_i i t he;cases e;unfold Rep at R;obtain⟨p,ys,rfl,_,hq,W⟩:=R;obtain⟨u,rfl,ru⟩:=vals1 r;cases ru;obtain⟨its,rv,pl,hz⟩:=I.list (SqL.of hq);have hi:=nI he W rv;refine AC (I.ok.hd hc) pl.isList hi zv λh' M tt tk hk hM hle=>⟨.int M,H,I.kept (t':=tk) hk,⟨_,rfl⟩,?_⟩;obtain⟨m1,m2,m3⟩:=nF t i;have e1:pC i t∈i::t:=by rcases m1 with z|z;rw[z];simp;exact ux _ z
 have e2:pC i t<=M:=by rcases vk.mp hM with z|z;rw[z];exact m2;exact m3 M z
 have e3:M=pC i t:=Int.le_antisymm (hle _ e1) e2;rw[e3];exact q _ H (aG.refl H) eB;cases e;cases e
end
section
variable {CX:aq}{X:Cx}{c:CC}{G:GS}{T:Tx}{lv:Nat}{B:List Sl}{S:Addr->Prop}{pos:Pos}{ea eb ec:Expr}{a b d:D}
noncomputable def oh:D->Option String
 |.non=>U "NoneType"
 |.bl _=>U "bool"
 |.int _=>U "int"
 |.str _=>U "str"
 |.lst _=>U "list"
 |.tup _=>U "tuple"
 |_=>O
def LW{E:xu}{x:σ}{u c:Value}{k:Bool}(I:Inv X pins V H s)(R:RelV x u)(rep:Rep X.K T H S d x)(ht:oh d=U tn) (e:kitOne X.K (.type tn) c=U k) (h:∀tk,Q (.bool k) {s with toks:=tk}):wpAny (model X.prog X.w) A (call (.builtin "isinstance") [u,c]) Q E s:=by
 cases d<;>simp only[oh,reduceCtorEq,u4]at ht
 all_goals subst ht
 unfold Rep at rep;subst rep;exact gY I R (.non) e h;unfold Rep at rep;subst rep;exact gY I R (.bl _) e h;unfold Rep at rep;subst rep;exact gY I R (.int _) e h;unfold Rep at rep;subst rep;exact gY I R (.str _) e h;unfold Rep at rep;obtain⟨p,xs,rfl,_,hq,_⟩:=rep;exact gY I R (.lst hq) e h;unfold Rep at rep;obtain⟨p,xs,rfl,_,hq,_⟩:=rep;obtain rfl:u=Value.ref p:=R;obtain⟨its,rv,⟨o,h1,h2,_⟩,_⟩:=I.tuple hq;exact kia_one PySem.W.kitx_tuple I.kIn ⟨o,h1,h2⟩ e (λz=>nomatch z) h
def gZ(K:xq):∀(t n:String),(t,n)∈([("NoneType","int"),("NoneType","bool"),("NoneType","str"),("NoneType","list"),("NoneType","tuple"),("bool","str"),("bool","list"),("bool","tuple"),("int","bool"),("int","str"),("int","list"),("int","tuple"),("str","int"),("str","bool"),("str","list"),("str","tuple"),("list","int"),("list","bool"),("list","str"),("list","tuple"),("tuple","int"),("tuple","bool"),("tuple","str"),("tuple","list")]:List (String×String))->kitOne K (.type t) (.type n)=U J:=by intro t n h;simp only[vk,Prod.mk.injEq,x8,or_false]at h;rcases h with ⟨rfl,rfl⟩|⟨rfl,rfl⟩|⟨rfl,rfl⟩|⟨rfl,rfl⟩|⟨rfl,rfl⟩|⟨rfl,rfl⟩|⟨rfl,rfl⟩|⟨rfl,rfl⟩|⟨rfl,rfl⟩|⟨rfl,rfl⟩|⟨rfl,rfl⟩|⟨rfl,rfl⟩|⟨rfl,rfl⟩|⟨rfl,rfl⟩|⟨rfl,rfl⟩|⟨rfl,rfl⟩|⟨rfl,rfl⟩|⟨rfl,rfl⟩|⟨rfl,rfl⟩|⟨rfl,rfl⟩|⟨rfl,rfl⟩|⟨rfl,rfl⟩|⟨rfl,rfl⟩|⟨rfl,rfl⟩<;>kernel_rfl
def LX(K:xq):kitOne K (.type "bool") (.type "int")=U Y:=zr
def jI(K:xq)(t:String):kitOne K (.type t) (.type t)=U Y:=by unfold kitOne;rw[if_pos zv]
def ZF:¬(("bool":Str)="int")/\¬(("str":Str)="int")/\¬(("list":Str)="int")/\¬(("tuple":Str)="int")/\¬(("int":Str)="bool")/\¬(("str":Str)="bool")/\¬(("list":Str)="bool")/\¬(("tuple":Str)="bool") /\¬(("int":Str)="str")/\¬(("bool":Str)="str")/\¬(("list":Str)="str")/\¬(("tuple":Str)="str")/\¬(("int":Str)="list")/\¬(("bool":Str)="list")/\¬(("str":Str)="list")/\¬(("tuple":Str)="list") /\¬(("int":Str)="tuple")/\¬(("bool":Str)="tuple")/\¬(("str":Str)="tuple")/\¬(("list":Str)="tuple"):=zt
def aBB{t:Str}{k:Bool}(K:xq)(ht:jS.contains t=Y)(hd:oh d=U tn)(h:qL G t d=U k):∃n:String,bootBuiltins t=U (.type n)/\kitOne K (.type tn) (.type n)=U k:=by
 obtain⟨n1,n2,n3,n4,n5,n6,n7,n8,n9,n10,n11,n12,n13,n14,n15,n16,W,R,I,z⟩:=ZF;have ht':t="int"\/t="bool"\/t="str"\/t="list"\/t="tuple":=by simpa [jS] using ht
 have b1:bootBuiltins "int"=U (.type "int"):=zt
 have b2:bootBuiltins "bool"=U (.type "bool"):=zt
 have b3:bootBuiltins "str"=U (.type "str"):=zt
 have b4:bootBuiltins "list"=U (.type "list"):=zt
 have b5:bootBuiltins "tuple"=U (.type "tuple"):=zt
 rcases ht' with rfl|rfl|rfl|rfl|rfl<;>cases d<;>simp only[oh,reduceCtorEq,u4]at hd
 all_goals subst hd
 all_goals simp only[qL,n1,n2,n3,n4,n5,n6,n7,n8,n9,n10,n11,n12,n13,n14,n15,n16,W,R,I,z,if_true,if_false,true_or,or_true,or_false,or_self,u4]at h
 all_goals subst h
 all_goals first
  |exact⟨_,b1,by first|exact jI K _|exact LX K|exact gZ K _ _ zu⟩
  |exact⟨_,b2,by first|exact jI K _|exact gZ K _ _ zu⟩
  |exact⟨_,b3,by first|exact jI K _|exact gZ K _ _ zu⟩
  |exact⟨_,b4,by first|exact jI K _|exact gZ K _ _ zu⟩
  |exact⟨_,b5,by first|exact jI K _|exact gZ K _ _ zu⟩
def rW:bootBuiltins "isinstance"=U (.builtin "isinstance"):=zt
def aDM(h:XC CX X c G T lv){t:Str}{p:Pos}{k:Bool}(hg:bG c "isinstance"=Y)(hm:X.mg "isinstance"=O)(W:bG c t=Y)(hmt:X.mg t=O)(ht:jS.contains t=Y)(ha:PE X ea (tD X.K T S B a))(hs:starEach [ea,.Name t p2] X.env=[(J,eval ea X.env),(J,eval (.Name t p2) X.env)]) (hd:oh a=U tn) (hi:qL G t a=U k):PE X (.Call (.Name "isinstance" p) [ea,.Name t p2] [] pos) (tD X.K T S B (.bl k)):=by
 obtain⟨n,hb,hk⟩:=aBB X.K ht hd hi;have hnn:t≠"__name__":=by intro z;subst z;revert ht;decide +kernel
 have hp:PE X (.Name t p2) (tC (.ty n)):=CP (h.glob W) hmt hb rfl hnn (h.gne W);have hc:eU X (.builtin "isinstance") (λxs H Q=>∃x,xs=[x,.ty n]/\Rep X.K T H S a x/\Q (.bl k) H):=by rintro pins s V H xs us Q I r ⟨x,rfl,rep,q⟩;obtain⟨u,w',rfl,r1,r2⟩:=vals2 r;obtain rfl:w'=Value.type n:=r2;exact LW I r1 rep hd hk λtk=>⟨.bl k,H,I.tok tk,rfl,q⟩
 have R:starEach [ea,.Name t p2] X.env=(J,eval ea X.env)::starEach [.Name t p2] X.env:=hs;refine PE.mono (dX hc (h.glob hg) hm rW (bT ha (bT hp fN) R) zt ?_ ?_ ?_) λV H Q ⟨re,q⟩=>⟨re,λx H1 s1 r1=>⟨x,rfl,r1,q _ H1 s1 cP⟩⟩;all_goals first|exact h.gne hg|exact R|rfl|decide +kernel
end
def mL{o:Expr}{m:Str}(ho:jX o=Y):attributeBase o m env (eval o env)=eval o env:=by cases o<;>first|rfl|(simp[jX]at ho)
theorem rP{env:Env}{pos:Pos}:∀(l:List Expr),(backTo pos (l.map λe=>(J,eval e env))).all (!·.1)=Y
 |[]=>rfl
 |_::r=>rP r
def xR{o:Expr}{m:Str}{args:List Expr}{apos:Pos}(ho:jX o=Y)(hs:starEach args X.env=args.map λe=>(J,eval e X.env))(hl:args.length<30)(hp:(apos.endLine == pos.line)=Y):rR X o m args apos pos:=by
 refine⟨do return (<-importBound o X.env).getD Y,?_⟩;show (do
  let I <-attributeBase o m X.env (eval o X.env)
  standAt apos.atName
  methodCall o m apos pos X.env I (args.length+0) (backTo pos (starEach args X.env)) (backToKw pos (keywordEach [] X.env)))=_
 rw[mL ho];have hf:methodCallForm (args.length+0) (backTo pos (starEach args X.env)) (backToKw pos (keywordEach [] X.env))=Y:=by unfold methodCallForm;rw[hs,rP];simp[backToKw,keywordEach];first|lia|(refine⟨?_,?_⟩<;>first|rfl|lia)
 have z:methodCallPos Y o X.env apos pos=pure pos:=by unfold methodCallPos;rw[hp];rfl
 unfold methodCall;rw[hf,z];unfold calleeOf;rfl
end Z
namespace L2
open PySem PySem.Spec PyProof.Rows
noncomputable def aCY:σ->List σ->Hp->VK->Prop:=λx xs H Q=>∃a y z o,x=.ref a/\xs=[y,z]/\rX H a y o/\Q (o.getD z) H
def UP{X:Cx}(hu:X.A.units+1<cLine):MtR X "dict.get" aCY:=by
 rintro pins s V H x xs v us Q I W R ⟨a,y,z,o,rfl,rfl,g,q⟩;obtain rfl:v=Value.ref a:=W;cases R with
 |cons r1 R=>
  cases R with
  |cons r2 R=>cases R;exact aCa hu I g r1 r2 λw' s' I' gw=>⟨_,H,I',gw,q⟩
end L2
namespace Z
open PySem PySem.Spec PyProof.Rows L2
variable {i x y n m ia ib na nb:Nat}{kvs:List (Int×D)}{v:σ}{p:Array Nat}{Q:Option Nat->SortSt->Prop}{st:SortSt}{zs:List Nat}{out:Array Keyed}
section
variable {K:xq}{T:Tx}{H:Hp}{S:Addr->Prop}
theorem bC.len:∀{kvs:List (Int×D)} {gs:List (Key×σ)},bC K T H S kvs gs->kvs.length=gs.length
 |[],gs,h=>by unfold bC at h;subst h;rfl
 | (i,d)::kvs,gs,h=>by unfold bC at h;obtain⟨x,r,rfl,_,q⟩:=h;exact congrArg (· + 1) (bC.len q)
def bC.nil:bC K T H S [] []:=by unfold bC;rfl
def bC.cons{i:Int}{d:D}{x:σ}{gs:List (Key×σ)}(h:Rep K T H S d x)(g:bC K T H S kvs gs):bC K T H S ((i,d)::kvs) ((Sum.inl i,x)::gs):=by unfold bC;exact⟨x,gs,rfl,h,g⟩
def LZ{i j:Int}(h:¬i=j):¬(Sum.inl i:Key)=Sum.inl j:=λz=>h (Sum.inl.inj z)
theorem bC.val{k:Int}:∀{kvs:List (Int×D)} {gs:List (Key×σ)},bC K T H S kvs gs->(∀d,cZ kvs k=U d->∃x,pU gs (Sum.inl k)=U x/\Rep K T H S d x)/\(cZ kvs k=O->pU gs (Sum.inl k)=O)
 |[],gs,h=>by unfold bC at h;subst h;exact⟨λd e=>(nomatch (show O=U d from e)),λ_=>rfl⟩
 | (i,d)::kvs,gs,h=>by
  unfold bC at h;obtain⟨x,r,rfl,p,q⟩:=h;obtain⟨R,I⟩:=bC.val (k:=k) q;by_cases e:i=k;have e1:cZ ((i,d)::kvs) k=U d:=by unfold cZ;rw[List.find?_cons_of_pos (by simpa using e)];rfl
  rw[e1,wB (congrArg Sum.inl e)];exact⟨λd' z=>⟨x,rfl,by cases z;exact p⟩,λz=>by cases z⟩;have e1:cZ ((i,d)::kvs) k=cZ kvs k:=by unfold cZ;rw[List.find?_cons_of_neg (by simpa using e)]
  rw[e1,wC (LZ e)];exact⟨R,I⟩
theorem bC.any{k:Int}:∀{kvs:List (Int×D)} {gs:List (Key×σ)},bC K T H S kvs gs->(kvs.any λI=>decide (I.1=k))=gs.any λI=>decide (I.1=(Sum.inl k:Key))
 |[],gs,h=>by unfold bC at h;subst h;rfl
 | (i,d)::kvs,gs,h=>by unfold bC at h;obtain⟨x,r,rfl,p,q⟩:=h;rw[any_cons,any_cons,bC.any q];congr 1;exact decide_eq_decide.mpr ⟨λz=>congrArg Sum.inl z,λz=>Sum.inl.inj z⟩
theorem bC.repl{k:Int}{d:D}(hv:Rep K T H S d v):∀{kvs:List (Int×D)} {gs:List (Key×σ)},bC K T H S kvs gs->bC K T H S (kvs.map λz=>if z.1=k then(z.1,d) else z) (gs.map λz=>if z.1=(Sum.inl k:Key) then(z.1,v) else z)
 |[],gs,h=>by unfold bC at h;subst h;exact bC.nil
 | (i,d')::kvs,gs,h=>by unfold bC at h;obtain⟨x,r,rfl,p,q⟩:=h;rw[vx,vx];by_cases e:i=k;rw[if_pos e,if_pos (congrArg Sum.inl e)];exact bC.cons hv (bC.repl hv q);rw[if_neg e,if_neg (LZ e)];exact bC.cons p (bC.repl hv q)
theorem bC.snoc{k:Int}{d:D}(hv:Rep K T H S d v):∀{kvs:List (Int×D)} {gs:List (Key×σ)},bC K T H S kvs gs->bC K T H S (kvs++[(k,d)]) (gs++[(Sum.inl k,v)])
 |[],gs,h=>by unfold bC at h;subst h;exact bC.cons hv bC.nil
 | (i,d')::kvs,gs,h=>by unfold bC at h;obtain⟨x,r,rfl,p,q⟩:=h;exact bC.cons p (bC.snoc hv q)
def bC.put{k:Int}{d:D}(hv:Rep K T H S d v){gs:List (Key×σ)}(h:bC K T H S kvs gs):bC K T H S (lT kvs k d) (putK gs (Sum.inl k) v):=by unfold lT putK;rw[bC.any h];split;exact bC.repl hv h;exact bC.snoc hv h
end
section
variable {CX:aq}{X:Cx}{c:CC}{G:GS}{T:Tx}{lv:Nat}{B:List Sl}{S:Addr->Prop}{pos:Pos}{ea eb ec:Expr}{a b d:D}
def aDS(hu:X.A.units+1<cLine){i:Int}(ha:PE X ea (tD X.K T S B (.dct kvs)))(hb:PE X eb (tD X.K T S B (.int i)))(hp:kL eb)(hd:cZ kvs i=U d):PE X (.Subscript ea eb pos) (tD X.K T S B d):=PE.mono (CN hu ha hb hp) λV H Q ⟨re,q⟩=>⟨re,λx H1 s1 z=>⟨re.same s1,λy H2 s2 I=>by have z:=z.same s2;unfold Rep at z I;subst I;obtain⟨p,gs,rfl,_,e,R⟩:=z;obtain⟨v,e1,rv⟩:=(bC.val (k:=i) R).1 d hd;refine⟨p,v,rfl,?_,q v H2 (s1.trans s2) rv⟩;rw[<-e1];exact rX.k (k:=Sum.inl i) e⟩⟩
def mS{V:L2.St}{H:Hp}(re:RE X.K T H S B V)(h:oM B i=U kvs):∃p gs,V[i]?=U (U (.ref p))/\H p=U (.dK gs)/\bC X.K T H S kvs gs:=by unfold oM at h;split at h;rename_i e;cases h;obtain⟨v,e1,r⟩:=re.at_ i _ e;unfold Rep at r;obtain⟨p,gs,rfl,_,e2,z⟩:=r;exact⟨p,gs,e1,e2,z⟩;rename_i e;cases h;obtain⟨p,ob,e1,_,e2,I⟩:=re.at_ i _ e;obtain⟨gs,rfl,z⟩:=I.dct;exact⟨p,gs,e1,e2,z⟩;cases h
def aDL(h:XC CX X c G T lv)(hu:X.A.units+1<cLine){x:Str}{p2:Pos}{j:Nat}{i:Int}(e:aZ c x=U j)(hb:PE X eb (tD X.K T S B (.int i)))(hp:kL eb)(hs:oM B j=U kvs)(hd:cZ kvs i=U d):PE X (.Subscript (.Name x p2) eb pos) (tD X.K T S B d):=PE.mono (CN hu (fJ h e) hb hp) λV H Q ⟨re,q⟩=>by obtain⟨p,gs,e1,e2,I⟩:=mS re hs;refine⟨.ref p,e1,re,λy H2 s2 z=>?_⟩;unfold Rep at z;subst z;obtain⟨v,R,rv⟩:=(bC.val (k:=i) (bC.gen (show aO X.K H H2 S S fromλa n _=>⟨n,λo e=>s2 a o e⟩) _ _ I)).1 d hd;refine⟨p,v,rfl,?_,q v H2 s2 rv⟩;rw[<-R];exact rX.k (k:=Sum.inl i) (s2 _ _ e2)
def aBf(xc:XC CX X c G T lv){y:Str}{p py q:Pos}(hg:bG c "len"=Y)(hm:X.mg "len"=O)(e:aZ c y=U i)(hs:oM B i=U kvs):PE X (.Call (.Name "len" p) [.Name y py] [] q) (tD X.K T S B (.int kvs.length)):=by have st:starEach [.Name y py] X.env=(J,eval (.Name y py) X.env)::starEach [] X.env:=rfl;refine PE.mono (dX GU (xc.glob hg) hm zt (bT (fJ xc e) fN st) zt zt rfl rfl) λV H Q ⟨re,q⟩=>?_;obtain⟨p,gs,e1,e2,z⟩:=mS re hs;exact⟨_,e1,p,gs,rfl,e2,by rw[<-bC.len z];exact q _ H (aG.refl H) eB⟩
def aBi(h:XC CX X c G T lv)(hu:X.A.units+1<cLine){x:Str}{p2 ap q:Pos}{j:Nat}{i:Int}{d0:D}{args:List Expr}(e:aZ c x=U j)(pa:PA X args (dq X.K T S B [.int i,d0]))(hs:starEach args X.env=args.map λe=>(J,eval e X.env))(hlen:args.length=2)(hp:(ap.endLine == q.line)=Y)(dw:oM B j=U kvs):PE X (.Call (.Attribute (.Name x p2) "get" ap) args [] q) (tD X.K T S B ((cZ kvs i).getD d0)):=by
 match args,hlen with
 |[a,b],_=>
  obtain⟨h1,h2⟩:=qA (pos:=q) hs;have hf:((backTo q (starEach [a,b] X.env)).all (λx=>!x.1)&&(backToKw q (keywordEach [] X.env)).all (λx=>x.1.isSome)&&decide ([a,b].length+([]:List Keyword).length+(if ([]:List Keyword).isEmpty then 0 else 1)<30))=Y:=by rw[hs,rP];simp[backToKw,keywordEach]
  refine PE.mono (xH PySem.F.plainAttrs_dict PySem.F.slot_dict_get PySem.F.type_dict_get (L2.UP hu) (fJ h e) pa (by rfl) hf hp h1 h2) λV H Q ⟨re,qq⟩=>?_;obtain⟨p,gs,e1,e2,rk⟩:=mS re dw;refine⟨.ref p,e1,.inr (.inr (.inl ⟨rfl,.inl ⟨gs,e2⟩⟩)),re,λvs H2 s2 z=>?_⟩;unfold aD at z;obtain⟨v1,r1,rfl,I,z⟩:=z;unfold aD at z;obtain⟨v2,r3,rfl,W,z⟩:=z;unfold aD at z;subst z;unfold Rep at I;subst I;have R:=bC.val (k:=i) (bC.gen (show aO X.K H H2 S S fromλa n _=>⟨n,λo e=>s2 a o e⟩) _ _ rk);refine⟨p,_,v2,pU gs (Sum.inl i),rfl,rfl,rX.k (k:=Sum.inl i) (s2 _ _ e2),?_⟩;cases hv:cZ kvs i with
  |none=>rw[R.2 hv];exact qq v2 H2 s2 (by rw[hv];exact W)
  |some d=>obtain⟨v,e3,rv⟩:=R.1 d hv;rw[e3];exact qq v H2 s2 (by rw[hv];exact rv)
end
def VX:bootBuiltins "enumerate"=U (.type "enumerate"):=zt
def BW{X:Cx}{pins:xv}{V:L2.St}{H:Hp}{s:Shared}{h':Heap}{t':Nat}{a b:Addr}(I:Inv X pins V H s)(k:∀c o,c≠a->c≠b->s.heap.get? c=U o->h'.get? c=U o)(fa:jQ X pins H a)(fb:jQ X pins H b):Inv X pins V H {s with heap:=h',toks:=t' }:=by
 have W:∀{c:Addr},c∉[a,b]->c≠a/\c≠b:=λ{c} h=>⟨λz=>h (by simp[z]),λz=>h (by simp[z])⟩;have R:∀c u,H c=U u->c≠a/\c≠b:=λc u e=>⟨λz=>(by rw[z,fa.1]at e;cases e),λz=>(by rw[z,fb.1]at e;cases e)⟩;refine I.step (g':=s.gens) (d':=s.drawn) (ch:=[a,b]) (λc hc=>?_) (λc o _ _ hc e _=>k c o (W hc).1 (W hc).2 e) (λc o _ _ hc e _=>⟨o.slots,k c o (W hc).1 (W hc).2 e⟩) (λ_ _ _ _ n=>n) (λc o hc e=>⟨o,k c o (W hc).1 (W hc).2 e⟩) (λ_ _ e=>e) (λ_ _ _ e=>e) (λc ps e=>⟨#[],by rw[e];simp⟩) (λm hm=>?_) (λc u e=>?_) I.bare;rcases vk.mp hc with rfl|hc;exact⟨fa.2.2.2.1,fa.2.1,fa.2.2.2.2.1,fa.2.2.2.2.2⟩;obtain rfl:=vj.mp hc;exact⟨fb.2.2.2.1,fb.2.1,fb.2.2.2.2.1,fb.2.2.2.2.2⟩;obtain⟨o,es,ep,ho,r⟩:=hm;exact⟨o,es,ep,k _ o (Ne.symm fa.2.1) (Ne.symm fb.2.1) ho,r⟩;refine(I.hok c u e).stay (λd v hd q=>?_) (λ_ q=>q) λ_ _ q=>q;have n:d≠a/\d≠b:=by rcases hd with z|z;rw[z];exact R c u e;exact R d _ z
 exact k d v n.1 n.2 q
def Ite(K:xq)(a:Addr):It:=⟨λi H=>∃xs x,SqL K H a xs/\xs[i]?=U x,λi H x H'=>∃p y,x=.ref p/\H p=O/\H'=upd H p (.tup [.int i,y])/\∀xs,SqL K H a xs->xs[i]?=U y,λi H=>∃xs,SqL K H a xs/\xs.length<=i⟩
def EJ{P:xt}{w:World}{K:xq}{es:List Expr}{j:Nat}{q:Pos}(a e it:Addr)(bw:e≠it):Turn P w K (.Tuple es j q) (Ite K a) [e,it] e (λi h=>(∃old,IsEnum h e it (i:Nat) old)/\h.IsListIter it a i) where
 mem:=by simp
 obj:=λi h st b hb=>by
  obtain⟨⟨old,he⟩,hi⟩:=st
  rcases vk.mp hb with rfl|hb
  .exact⟨_,he,λv z=>by
    have z':Data.fields _=Data.cell v:=z
    cases z'⟩
  .obtain rfl:=vj.mp hb;obtain⟨o,e,c,d⟩:=hi;exact⟨o,e,λv z=>by rw[d]at z;cases z⟩
 keep:=λi h h' st k=>⟨let ⟨old,he⟩:=st.1;⟨old,k e zv _ he⟩,st.2.at λo x=>k it zv o x⟩
 item:=by
  intro X hP hw hK hc i pins s V H E I hf st hg;subst hP hw hK;obtain⟨xs,x,hq,hx⟩:=hg;obtain⟨its,rv,p,hz⟩:=I.list hq;obtain⟨u,hu,ru⟩:=rv.get hx;obtain⟨⟨old,he⟩,hi⟩:=st;have hT:=I.hok.fresh (uq s.heap.objs.size)
  have eT:e≠s.heap.objs.size:=w8 (vh he)
  have iT:it≠s.heap.objs.size:=by obtain⟨o,e',_⟩:=hi;exact w8 (vh e')
  refine wpAny_pyNext_enum_item he hi p.isList (x:=u) (by simpa using hu) bw λh1 ho hi1 hT1 hsz hk=>?_
  refine⟨_,rfl,wpAny_letOwnedTupleGo_enum (s:={s with heap:=h1,toks:=s.toks+1}) ho λh2 he2 hs=>?_⟩
  have I1:Inv X pins V (upd H s.heap.objs.size (.tup [.int i,x])) {s with heap:=s.heap.push {cls:=.type "tuple",data:=.seq #[.int i s.toks,u]},toks:=s.toks}:=
   I.laid (λb o e=>uv _ e) (uq _) ⟨vi (show 2<=big from by decide) gG,[.int i s.toks,u],.cons ⟨_,rfl⟩ (.cons ru .nil),⟨_,wm _ rfl,rfl,_,rfl⟩⟩
  have fo:∀b,b∈[e,it]->b≠s.heap.objs.size->jQ X pins (upd H s.heap.objs.size (.tup [.int i,x])) b:=λb hb hn=>by
   obtain⟨f0,f1⟩:=hf b hb;exact⟨(aS hn).trans f0,f1⟩
  have I2:Inv X pins V (upd H s.heap.objs.size (.tup [.int i,x])) {s with heap:=h2,toks:=s.toks+1}:=by
   have q:=BW (h':=h2) (t':=s.toks+1) I1 (λb o n1 n2 eb=>by
    rw[hs.2 b n1]
    rcases Heap.get?_push_cases eb with ⟨rfl,rfl⟩|eb
    .exact hT1
    .exact hk b o n1 n2 eb) (fo e zv eT) (fo it zv iT)
   exact q
  refine⟨.ref s.heap.objs.size,_,I2,rfl,⟨_,x,rfl,hT,rfl,λys hy=>by rw[I.list_inj hy hq];exact hx⟩,⟨⟨_,by simpa using he2⟩,hi1.at λo y=>(hs.2 it bw.symm).trans y⟩,λb hb=>?_⟩
  rcases vk.mp hb with rfl|hb
  .exact(fo b zv eT).1
  .obtain rfl:=vj.mp hb;exact(fo b zv iT).1
 done:=by
  intro X hP hw hK hc i pins s V H E I hf st hg;subst hP hw hK;obtain⟨xs,hq,hx⟩:=hg;obtain⟨its,rv,p,hz⟩:=I.list hq;obtain⟨⟨old,he⟩,hi⟩:=st;have hl:=rv.length
  exact wpAny_pyNext_enum_end (I.ok.hd hc) he hi p.isList (by simp;lia) λh' eb=>⟨rfl,BW I (t':=s.toks) (λb o n1 n2 y=>eb b o n2 y) (hf e zv) (hf it zv)⟩
 self:=λ_ _ _ _ _ st h=>let ⟨_,he⟩:=st.1;wpAny_pyIter_enum he h
section
variable {CX:aq}{X:Cx}{c:CC}{G:GS}{T:Tx}{lv:Nat}{B:List Sl}{S:Addr->Prop}
theorem sY:∀{ds:List D} {k i:Nat} {d:D},(hZ k ds)[i]?=U d->∃d',ds[i]?=U d'/\d=.tup [.int (k+i:Nat),d']
 |[],k,i,d,h=>by cases i<;>cases h
 |x::r,k,0,d,h=>by cases h;exact⟨x,rfl,rfl⟩
 |x::r,k,i+1,d,h=>by obtain⟨d',e1,e2⟩:=sY (ds:=r) (k:=k+1) (i:=i) h;exact⟨d',e1,by rw[e2,show k+1+i=k+(i+1) by lia]⟩
theorem nU:∀{ds:List D} {k:Nat},(hZ k ds).length=ds.length
 |[],_=>rfl
 |x::r,k=>congrArg (· + 1) (nU (ds:=r) (k:=k+1))
def LU{H1:Hp}{a:Addr}{xs:List σ}{ds:List D}(n:¬S a)(hq:SqL X.K H1 a xs)(r:aD X.K T H1 S ds xs):iu X.K T S H1 (Ite X.K a) (hZ 0 ds):=λH S' mv dom=>by obtain⟨W,k⟩:=mv a n (SqL.has hq);have z:=SqL.keeps hq k;refine⟨λi d e=>?_,λi hi=>⟨xs,z,by rw[<-r.len];rw[nU]at hi;exact hi⟩⟩;obtain⟨d',e1,rfl⟩:=sY e;obtain⟨x,e2,I⟩:=r.get e1;refine⟨⟨xs,x,z,e2⟩,λv H' hy=>?_⟩;obtain⟨p,y,rfl,hp,rfl,R⟩:=hy;have:=R xs z;rw[e2]at this;cases this;rw[vo];exact⟨aG.upd hp,fI dom hp (aD.cons (by unfold Rep;rfl) (aD.cons (Rep.gen mv d' x I) aD.nil))⟩
def JM{a:Expr}{p pos q:Pos}{d:D}{ds:List D}{es:List Expr}{j:Nat}(hg:Gl X "enumerate")(hm:X.mg "enumerate"=O)(ha:PA X [a] (dq X.K T S B [d]))(hs:starEach [a] X.env=[(J,eval a X.env)])(hi:AO d=U ds):PI X (.Tuple es j q) (.Call (.Name "enumerate" p) [a] [] pos) (tI X.K T S B ds):=by
 intro pins s V H R I ⟨re,q⟩;refine Call_ (iI I hg hm VX (vm (ae (ha pos pins s V H (λvs H'=>aG H H'/\aD X.K T H' S [d] vs) I ⟨re,λvs H' a b=>⟨a,b⟩⟩) λus s1 ⟨vs,H1,I1,r1,sm,z⟩=>?_) hs rfl));unfold aD at z;obtain⟨x,r',rfl,rx,W⟩:=z;unfold aD at W;subst W;cases r1 with
 |cons r W=>
  cases W;cases d<;>simp only[AO,reduceCtorEq,u4]at hi
  rename_i ds';subst hi;unfold Rep at rx;obtain⟨l,xs,e,n,hq,z⟩:=rx;subst e;cases r;obtain⟨its,rv,pl,hz⟩:=I1.list (SqL.of hq);refine call_enumerate_list pl.isList λh' hE hI hsz hk=>?_;refine wpAny_pyIter_enum hE ?_;refine⟨s1.heap.objs.size+1,[s1.heap.objs.size+1,s1.heap.objs.size],_,_,H1,rfl,I1.kept (t':=s1.toks) hk,EJ l _ _ (Nat.succ_ne_self _),⟨⟨.none,by simpa using hE⟩,hI⟩,λb hb=>?_,q _ _ sm (LU n (SqL.of hq) z) ?_⟩;have hb:s1.heap.objs.size<=b:=by rcases vk.mp hb with rfl|hb;exact wt _;rw[vj.mp hb];exact uq _
  exact I1.fpOk hb (I1.hok.fresh hb);rw[nU,z.len];exact hz
end
structure Plain (e:Expr):Prop where
 star:∀(env:Env) (es:List Expr),starEach (e::es) env=(J,eval e env)::starEach es env
 marks:∀op,behindInMarks op e=J
 set_:∀env x,foldedSetIterable e env x=pure x
 ix:kL e
def bV{c:CC}{e:Expr}{ir:IE}(h:cE n c e=U ir):Plain e:=by cases e<;>first|exact⟨λ_ _=>rfl,λ_=>rfl,λ_ _=>rfl,λ_ _=>rfl⟩|(cases n<;>exact nomatch (show O=U ir from h))
section
variable {CX:aq}{G:GS}{T:Tx}{lv:Nat}
def gq(CX:aq)(G:GS)(T:Tx)(lv n:Nat):Prop:=∀(X:Cx) (c:CC) (S:Addr->Prop) (B:List Sl) (e:Expr) (ir:IE),XC CX X c G T lv->cE n c e=U ir->∀d,ev G ir B=U d ->PE X e (tD X.K T S B d)/\(gR c e=Y->∀ds,d=.lst ds->PE X e (ej X.K T S B ds))
def p5(CX:aq)(G:GS)(T:Tx)(lv n:Nat):Prop:=∀(X:Cx) (c:CC) (S:Addr->Prop) (B:List Sl) (e:Expr) (ir:IE),XC CX X c G T lv->cT n c e=U ir->∀k,ev G ir B=U (.bl k)->PT X e (ip X.K T S B k)
def uc(CX:aq)(G:GS)(T:Tx)(lv n:Nat):Prop:=∀(X:Cx) (c:CC) (S:Addr->Prop) (B:List Sl) (k:Bool) (vs:List Expr) (ir:IE) (pos:Pos),XC CX X c G T lv ->(cB n c J k vs=U ir->∀d,ev G ir B=U d->PE X (.BoolOp (if k then .And else .Or) vs pos) (tD X.K T S B d)) /\(cB n c Y k vs=U ir->∀b,ev G ir B=U (.bl b)->PW X (.BoolOp (if k then .And else .Or) vs pos) (ip X.K T S B b))
def ko(CX:aq)(G:GS)(T:Tx)(lv n:Nat):Prop:=∀(X:Cx) (c:CC) (S:Addr->Prop) (B:List Sl) (es:List Expr) (ir:IE),XC CX X c G T lv->cA n c es=U ir->∀d,ev G ir B=U d ->∃ds,d=.tup ds/\ds.length=es.length/\PA X es (dq X.K T S B ds)/\starEach es X.env=es.map λe=>(J,eval e X.env)
def HF(k:Src)(tg:Expr):Prop:=k=.enum->∃es j p,tg=.Tuple es j p
def QH{c:CC}{tg:Expr}{aj:List Nat}{tp:Bool}{k:Src}(z:cC c tg=U (aj,tp))(h:MR tp k=Y):HF k tg:=λe=>by
 subst e;have I:tp=Y:=by simpa [MR,aBC] using h
 subst I;cases tg<;>first|exact⟨_,_,_,rfl⟩|exact nomatch (show O=U _ from z)|skip
 obtain⟨i,_,h2⟩:=aU z;cases h2
def OkI(CX:aq)(G:GS)(T:Tx)(lv n:Nat):Prop:=∀(X:Cx) (c:CC) (S:Addr->Prop) (B:List Sl) (e:Expr) (k:Src) (ir:IE),XC CX X c G T lv->cI n c e=U (k,ir)->∀d ds,ev G ir B=U d->items k d=U ds ->(∀tg,HF k tg->PI X tg e (tI X.K T S B ds))/\∀x,foldedSetIterable e X.env x=pure x
def KL(hE:gq CX G T lv n)(hA:ko CX G T lv n):ko CX G T lv (n+1):=by
 intro X c S B es ir xc h d hd;cases es with
 |nil=>cases (show U IE.nil=U ir from h);simp only[ev,u4]at hd;exact⟨[],hd.symm,rfl,sP,rfl⟩
 |cons e es=>obtain⟨x,hx,h⟩:=aE h;obtain⟨y,hy,rfl⟩:=aU h;simp only[ev,ur,u7]at hd;obtain⟨a,ha,w,hw,hd⟩:=hd;obtain⟨ds,rfl,hl,z,hs⟩:=hA X c S B es y xc hy w hw;simp only[u4]at hd;have st:=(bV hx).star X.env es;refine⟨a::ds,hd.symm,by simp[hl],nE (hE X c S B e x xc hx a ha).1 z st,?_⟩;rw[st,hs];rfl
def KJ(hE:gq CX G T lv n)(hT:p5 CX G T lv n)(W:uc CX G T lv n):uc CX G T lv (n+1):=by
 intro X c S B k vs ir pos xc;refine⟨λh d hd=>?_,λh b hb=>?_⟩
 .cases vs with
  |nil=>exact nomatch (show O=U ir from h)
  |cons a r=>
   cases r with
   |nil=>exact aAD (hE X c S B a ir xc h d hd).1
   |cons b r=>
    obtain⟨x,hx,h⟩:=aE h;obtain⟨y,hy,rfl⟩:=aU h;cases k with
    |true=>
     simp only[if_true,ev,ur,u7]at hd;obtain⟨w,hw,hd⟩:=hd;have p1:=(hE X c S B a x xc hx w hw).1;cases w<;>first|(simp only[reduceCtorEq]at hd;done)|skip
     rename_i kk;cases kk with
     |true=>
      simp only[u7]at hd;obtain⟨z,hz,hd⟩:=hd;have p2:=(W X c S B Y (b::r) y pos xc).1 hy z hz;have R:z=d:=by cases z<;>simp_all
      subst R;exact PE.mono (JT p1 p2) λV H Q ⟨re,q⟩=>⟨re,λx H1 s1 I=>by unfold Rep at I;exact⟨Y,I,GC ⟨re.same s1,λv H' s2 r=>q v H' (s1.trans s2) r⟩⟩⟩
     |false=>simp only[u4]at hd;subst hd;exact PE.mono (JT p1 (tb:=λ_ _ _=>False) (λ_ _ _ _ _ _ h=>h.elim)) λV H Q ⟨re,q⟩=>⟨re,λx H1 s1 I=>by unfold Rep at I;exact⟨J,I,xX (q _ H1 s1 cP)⟩⟩
    |false=>
     simp only[uw,if_false,ev,ur,u7]at hd;obtain⟨w,hw,hd⟩:=hd;have p1:=(hE X c S B a x xc hx w hw).1;cases w<;>first|(simp only[reduceCtorEq]at hd;done)|skip
     rename_i kk;cases kk with
     |false=>
      simp only[u7]at hd;obtain⟨z,hz,hd⟩:=hd;have p2:=(W X c S B J (b::r) y pos xc).1 hy z hz;have R:z=d:=by cases z<;>simp_all
      subst R;exact PE.mono (WS p1 p2) λV H Q ⟨re,q⟩=>⟨re,λx H1 s1 I=>by unfold Rep at I;exact⟨J,I,xX ⟨re.same s1,λv H' s2 r=>q v H' (s1.trans s2) r⟩⟩⟩
     |true=>simp only[u4]at hd;subst hd;exact PE.mono (WS p1 (tb:=λ_ _ _=>False) (λ_ _ _ _ _ _ h=>h.elim)) λV H Q ⟨re,q⟩=>⟨re,λx H1 s1 I=>by unfold Rep at I;exact⟨Y,I,GC (q _ H1 s1 cP)⟩⟩
 .cases vs with
  |nil=>exact nomatch (show O=U ir from h)
  |cons a r=>
   cases r with
   |nil=>
    cases k with
    |true=>exact SJ (hT X c S B a ir xc h b hb)
    |false=>exact JA (hT X c S B a ir xc h b hb)
   |cons b' r=>
    obtain⟨x,hx,h⟩:=aE h;obtain⟨y,hy,rfl⟩:=aU h;cases k with
    |true=>
     simp only[if_true,ev,ur,u7]at hb;obtain⟨w,hw,hb⟩:=hb;cases w<;>first|(simp only[reduceCtorEq]at hb;done)|skip
     rename_i kk;have p1:=hT X c S B a x xc hx kk hw;cases kk with
     |true=>
      simp only[u7]at hb;obtain⟨z,hz,hb⟩:=hb;have R:z=.bl b:=by cases z<;>simp_all
      subst R;have p2:=(W X c S B Y (b'::r) y pos xc).2 hy b hz;exact PW.mono (JC p1 p2) λV H Q ⟨re,q⟩=>⟨re,λH1 s1=>GC ⟨re.same s1,λH' s2=>q H' (s1.trans s2)⟩⟩
     |false=>simp only[u4,D.bl.injEq]at hb;subst hb;exact PW.mono (JC p1 (tB':=λ_ _ _=>False) (λ_ _ _ _ _ _ _ h=>h.elim)) λV H Q ⟨re,q⟩=>⟨re,λH1 s1=>xX (q H1 s1)⟩
    |false=>
     simp only[uw,if_false,ev,ur,u7]at hb;obtain⟨w,hw,hb⟩:=hb;cases w<;>first|(simp only[reduceCtorEq]at hb;done)|skip
     rename_i kk;have p1:=hT X c S B a x xc hx kk hw;cases kk with
     |false=>
      simp only[u7]at hb;obtain⟨z,hz,hb⟩:=hb;have R:z=.bl b:=by cases z<;>simp_all
      subst R;have p2:=(W X c S B J (b'::r) y pos xc).2 hy b hz;exact PW.mono (JB p1 p2) λV H Q ⟨re,q⟩=>⟨re,λH1 s1=>xX ⟨re.same s1,λH' s2=>q H' (s1.trans s2)⟩⟩
     |true=>simp only[u4,D.bl.injEq]at hb;subst hb;exact PW.mono (JB p1 (tB':=λ_ _ _=>False) (λ_ _ _ _ _ _ _ h=>h.elim)) λV H Q ⟨re,q⟩=>⟨re,λH1 s1=>GC (q H1 s1)⟩
def iR(xc:XC CX X c G T lv){x:Str}(h1:fT.contains x=Y)(h2:c.fns.contains x=J)(h3:c.cls.contains x=J):X.mg x=O:=xc.go.bi x h1 h2 h3
def KH(hE:gq CX G T lv n)(hA:ko CX G T lv n):OkI CX G T lv (n+1):=by
 intro X c S B e k ir xc h d ds hd hi;have h:(match (rO c e).bind λq=>(srcOf q.1).map λk=>(k,q.2) with
  |some q=>(match q.1 with
   |.rng=>(cA n c q.2).map λy=>(Src.rng,IE.tup y)
   |.enum=>(one? q.2).bind λa=>(cE n c a).map λy=>(Src.enum,y)
   |k=>(one? q.2).bind λa=>(cE n c a).map λy=>(k,y))
  |none=>(cE n c e).map λy=>(Src.seq,y))=U (k,ir):=h
 cases hb:((rO c e).bind λq=>(srcOf q.1).map λk=>(k,q.2)) with
 |none=>
  rw[hb]at h;obtain⟨y,hy,e1⟩:=aU h;cases e1;exact⟨λtg _=>SW (hE X c S B e ir xc hy d hd).1 hi,(bV hy).set_ X.env⟩
 |some q=>
  rw[hb]at h;obtain⟨r,hr,hq⟩:=aE hb;obtain⟨k',hk,rfl⟩:=aU hq;obtain⟨p1,p2,rfl,hg,ho⟩:=oZ hr;obtain⟨hf,hc⟩:=JW ho
  by_cases z:k'=Src.enum
  .subst z;have hx:r.1="enumerate":=by
    unfold srcOf at hk;split at hk
    .cases hk
    .split at hk
     .cases hk
     .split at hk
      .assumption
      .cases hk
   obtain⟨x,args⟩:=r;dsimp only at hx;subst hx;obtain⟨a,ha,h⟩:=aE h;obtain rfl:=dH ha;obtain⟨y,hy,e1⟩:=aU h;cases e1;have st:=(bV hy).star X.env []
   refine⟨λtg W=>?_,λ_=>rfl⟩
   obtain⟨es,j,p,rfl⟩:=W rfl;exact JM (xc.glob hg) (iR xc zt hf hc) (nE (hE X _ S B a ir xc hy d hd).1 sP st) st hi
  have hx:(r.1="range"/\k'=.rng)\/(r.1="reversed"/\k'=.rev):=by
   unfold srcOf at hk;split at hk
   .rename_i e0;cases hk;exact .inl ⟨e0,rfl⟩
   .split at hk
    .rename_i e0;cases hk;exact .inr ⟨e0,rfl⟩
    .split at hk
     .cases hk;exact absurd rfl z
     .cases hk
  obtain⟨x,args⟩:=r
  rcases hx with ⟨rfl,rfl⟩|⟨rfl,rfl⟩
  .obtain⟨y,hy,e1⟩:=aU h;cases e1;simp only[ev,v9]at hd;obtain⟨as,has,rfl⟩:=hd;have I:ev G y B=U (.tup as):=by
    unfold bP at has;split at has
    .cases has;assumption
    .cases has
   obtain⟨as',e1,hl,R,hs⟩:=hA X _ S B args y xc hy _ I;cases e1;exact⟨λtg _=>SX (xc.glob hg) (iR xc zt hf hc) R hs hi hl,λ_=>rfl⟩
  .obtain⟨a,ha,h⟩:=aE h;obtain rfl:=dH ha;obtain⟨y,hy,e1⟩:=aU h;cases e1;have st:=(bV hy).star X.env []
   exact⟨λtg _=>SY (xc.glob hg) (iR xc zt hf hc) (nE (hE X _ S B a ir xc hy d hd).1 sP st) st hi,λ_=>rfl⟩
end
section
variable {CX:aq}{X:Cx}{c:CC}{G:GS}{T:Tx}{lv:Nat}{B:List Sl}{S:Addr->Prop}{pos p:Pos}{ea:Expr}
noncomputable def UY:Bool->CmpOp
 |false=>.In
 |true=>.NotIn
def JU(h:XC CX X c G T lv){x y:Str}{kvs:List (Str×D)}(e:bG c x=Y)(hk:G.dk x=U kvs)(ha:PE X ea (tD X.K T S B (.str y)))(neg:Bool):PC X (UY neg) ea (.Name x p) (tD X.K T S B (.bl (neg != (kvs.lookup y).isSome))):=by
 obtain⟨a,hm,hs,o,vs,hl,hd,z,_⟩:=h.go.dk x kvs hk;intro pins s V H Q I ⟨re,q⟩;refine ae (ha pins s V H (λv H'=>aG H H'/\Rep X.K T H' S (.str y) v) I ⟨re,λv H' W r=>⟨W,r⟩⟩) λiv s1 ⟨v,H1,I1,ry,W,r⟩=>?_;refine gL I1 (h.glob e) hm ?_ (h.gne e);unfold Rep at r;subst r;obtain⟨t,rfl⟩:=ry;have dd:s1.heap.DictOf (dE X.prog X.w) a vs:=Heap.dictOf_iff.mpr ⟨o,I1.kIn a o hl,hd⟩;have R:∀b,b=(neg != (kvs.lookup y).isSome)->EP X pins V Q (.bool b) {s1 with toks:=s1.toks+1}:=λb hb=>⟨.bl b,H1,I1.tok _,rfl,q _ H1 W (by rw[hb];unfold Rep;rfl)⟩;cases neg with
 |false=>exact wpAny_in_of (knd:=dE X.prog X.w) (jH X.prog X.w y t) hs dd.mapOf (R _ (by rw[z];simp))
 |true=>exact wpAny_notIn_of (knd:=dE X.prog X.w) (jH X.prog X.w y t) hs dd.mapOf (R _ (by rw[z];simp))
def aDO(h:XC CX X c G T lv){x y:Str}{kvs:List (Str×D)}(e:bG c x=Y)(hk:G.dk x=U kvs)(ha:PE X ea (tD X.K T S B (.str y)))(neg:Bool):PE X (.Compare ea [UY neg] [.Name x p] pos) (tD X.K T S B (.bl (neg != (kvs.lookup y).isSome))):=aAH (JU h e hk ha neg) (by cases neg<;>rfl)
def aBh(h:XC CX X c G T lv){x y:Str}{kvs:List (Str×D)}(e:bG c x=Y)(hk:G.dk x=U kvs)(ha:PE X ea (tD X.K T S B (.str y)))(neg:Bool):PT X (.Compare ea [UY neg] [.Name x p] pos) (ip X.K T S B (neg != (kvs.lookup y).isSome)):=PT.mono (aAw (JU h e hk ha neg) (by cases neg<;>rfl)) λV H Q ⟨re,q⟩=>⟨re,λv H' z r=>by unfold Rep at r;exact⟨_,r,q H' z⟩⟩
end
open PySem.W
noncomputable def Ask{α:Type}(n:Nat)(lt:Nat->Nat->Bool)(P:α->Prop):KasT α->Prop
 |.ret a=>P a
 |.ask i j k=>i<n/\j<n/\Ask n lt P (k (lt i j))
theorem Ask.bind{α β:Type}{lt:Nat->Nat->Bool}{P:β->Prop}{f:α->KasT β}:∀{t:KasT α},Ask n lt (λa=>Ask n lt P (f a)) t->Ask n lt P (t.bind f)
 |.ret a,h=>h
 |.ask i j k,h=>⟨h.1,h.2.1,Ask.bind h.2.2⟩
theorem Ask.mono{α:Type}{lt:Nat->Nat->Bool}{P z:α->Prop}(m:∀a,P a->z a):∀{t:KasT α},Ask n lt P t->Ask n lt z t
 |.ret a,h=>m a h
 |.ask i j k,h=>⟨h.1,h.2.1,Ask.mono m h.2.2⟩
structure Ord (n:Nat) (lt:Nat->Nat->Bool):Prop where
 tot:∀a b,a<n->b<n->a≠b->lt a b=J->lt b a=Y
 asy:∀a b,a<n->b<n->lt a b=Y->lt b a=J
 tra:∀a b c,a<n->b<n->c<n->lt a b=Y->lt b c=Y->lt a c=Y
noncomputable def fp(p:Array Nat)(i:Nat):Nat:=p.getD i 0
def jK{q:Array Nat}{j:Nat}(h:p[i]?=q[j]?):fp p i=fp q j:=by unfold fp;rw[getD_eq_getD_getElem?,getD_eq_getD_getElem?,h]
structure Prm (n:Nat) (p:Array Nat):Prop where
 pm:p.toList.Perm (List.range n)
theorem Prm.size(h:Prm n p):p.size=n:=by have:=h.pm.length_eq;simpa using this
def Prm.lt(h:Prm n p)(hi:i<n):fp p i<n:=by
 have hs:=h.size;have:p[i]∈p.toList:=by simp
 have:=h.pm.mem_iff.mp this;unfold fp;rw[getD_eq_getD_getElem?,Array.getElem?_eq_getElem zq];simpa using this
def Prm.ne(h:Prm n p){j:Nat}(hi:i<n)(R:j<n)(e:i≠j):fp p i≠fp p j:=by
 have hs:=h.size;have nd:p.toList.Nodup:=h.pm.nodup_iff.mpr List.nodup_range;unfold fp;rw[getD_eq_getD_getElem?,Array.getElem?_eq_getElem zq,getD_eq_getD_getElem?,Array.getElem?_eq_getElem zq];simp only[Option.getD_some];intro z;have I:i<p.toList.length:=by simp;lia
 have l2:j<p.toList.length:=by simp;lia
 exact e ((List.getElem_inj (h₀:=I) (h₁:=l2) nd).mp (by simpa using z))
def Prm.perm{q:Array Nat}(h:Prm n p)(k:q.Perm p):Prm n q:=⟨(Array.perm_iff_toList_perm.mp k).trans h.pm⟩
section
variable {n:Nat}{lt:Nat->Nat->Bool}{p:Array Nat}
def p7(lt:Nat->Nat->Bool)(p:Array Nat)(k:Nat):Prop:=∀i j,i<j->j<k->lt (fp p i) (fp p j)=Y
def nR{k d:Nat}(hk:k<p.size)(hd:d<=k)(i:Nat):fp (bubble p k d) i=if i=k-d then fp p k else if k-d<i/\i<=k then fp p (i-1) else fp p i:=by have e:=getElem?_bubble hk d hd i;by_cases h1:i=k-d;rw[if_pos h1]at e ⊢;exact jK e;rw[if_neg h1]at e ⊢;by_cases h2:k-d<i/\i<=k;rw[if_pos h2]at e ⊢;exact jK e;rw[if_neg h2]at e ⊢;exact jK e
end
noncomputable def gM:Bool->Keyed->Array Keyed->Nat->Nat->Nat->StateT SortSt Sem (Option Nat):=sortPriv% PySem.Builtin.gallop
noncomputable def xS:Array Keyed->Array Keyed->StateT SortSt Sem (Array Keyed):=sortPriv% PySem.Builtin.mergeLo
noncomputable def xT:Array Keyed->Array Keyed->StateT SortSt Sem (Array Keyed):=sortPriv% PySem.Builtin.mergeHi
section
variable {prog:xt}{w:World}{A:Around}{E:xu}{κ:SortKind}{it:Array Keyed}{n:Nat}{lt:Nat->Nat->Bool}{s:Shared}{α β:Type}
def SK(prog:xt)(w:World)(A:Around)(E:xu)(s:Shared){α:Type}(m:StateT SortSt Sem α)(Q:α->SortSt->Prop)(st:SortSt):Prop:=kasC (model prog w) A E m (λa aa s'=>s'=s/\Q a aa) st s
def aB{m:StateT SortSt Sem α}{f:α->StateT SortSt Sem β}{Q:β->SortSt->Prop}(h:SK prog w A E s m (λa aa=>SK prog w A E s (f a) Q aa) st):SK prog w A E s (m >>= f) Q st:=by refine kasC_bind (wk h (λr s' hr=>?_) λ_ _ e=>e);obtain⟨rfl,h⟩:=hr;exact h
def bS{m:StateT SortSt Sem α}{Q z:α->SortSt->Prop}(h:SK prog w A E s m Q st)(hq:∀a aa,Q a aa->z a aa):SK prog w A E s m z st:=wk h (λr s' hr=>⟨hr.1,hq _ _ hr.2⟩) λ_ _ e=>e
def aF{a:α}{Q:α->SortSt->Prop}(h:Q a st):SK prog w A E s (pure a) Q st:=kasC_pure ⟨rfl,h⟩
def dR{c:Prop}[Decidable c]{a b:StateT SortSt Sem α}{Q:α->SortSt->Prop}(hc:c)(h:SK prog w A E s a Q st):SK prog w A E s (if c then a else b) Q st:=by rw[if_pos hc];exact h
def dS{c:Prop}[Decidable c]{a b:StateT SortSt Sem α}{Q:α->SortSt->Prop}(hc:¬c)(h:SK prog w A E s b Q st):SK prog w A E s (if c then a else b) Q st:=by rw[if_neg hc];exact h
def eX{Q:SortSt->SortSt->Prop}(h:Q st st):SK prog w A E s get Q st:=kasC_get ⟨rfl,h⟩
def bO{f:SortSt->SortSt}{Q:PUnit->SortSt->Prop}(h:Q ⟨⟩ (f st)):SK prog w A E s (modify f) Q st:=kasC_modify ⟨rfl,h⟩
def aAc{x:SortSt}{Q:PUnit->SortSt->Prop}(h:Q ⟨⟩ x):SK prog w A E s (set x) Q st:=by show SK prog w A E s (modify λ_=>x) Q st;exact bO h
def iC{x:String}{Q:PUnit->SortSt->Prop}(h:Q ⟨⟩ st):SK prog w A E s (liftM (rule x):StateT SortSt Sem PUnit) Q st:=kasC_lift (wpAny_rule ⟨rfl,h⟩)
def bH{z:Array Keyed}{x:Keyed}{Q:Keyed->SortSt->Prop}(e:z[i]?=U x)(h:Q x st):SK prog w A E s (elem' z i) Q st:=by rw[elem'_eq,e];exact aF h
def gc(prog:xt)(w:World)(A:Around)(κ:SortKind)(it:Array Keyed)(n:Nat)(lt:Nat->Nat->Bool)(s:Shared):Prop:=∀i j (C:Bool->Shared->Prop),i<n->j<n->C (lt i j) s->kas_cmp prog w A κ it i j C s
def wM(hc:gc prog w A κ it n lt s){j:Nat}{Q:Option Bool->SortSt->Prop}(hk:kindOf st=κ)(hi:i<n)(z:j<n)(h:Q (U (lt i j)) st):SK prog w A E s (lt' (kas_item it i) (kas_item it j)) Q st:=by unfold SK;rw[lt'_eq];refine kasC_bind (kasC_get ?_);rw[hk];exact kasC_bind (kasC_lift (wpAny_attempt (wk (hc i j (λc s'=>s'=s/\c=lt i j) hi z ⟨rfl,rfl⟩) (λc s' hc=>by obtain⟨rfl,rfl⟩:=hc;exact kasC_pure ⟨rfl,h⟩) λ_ _ I=>I.elim)))
abbrev sD(Q I:β->SortSt->Prop)(r:ForInStep β)(st:SortSt):Prop:=match r with
 |.done b=>Q b st
 |.yield b=>I b st
theorem CB{f:Nat->β->StateT SortSt Sem (ForInStep β)}{Q:β->SortSt->Prop}(I:Nat->β->SortSt->Prop)(hf:∀x i b st,I i b st->SK prog w A E s (f x b) (sD Q (I (i+1))) st):∀(m a i:Nat) (b:β) (st:SortSt),I i b st->(∀b st,I (i+m) b st->Q b st)->SK prog w A E s (forIn (range' a m) b f) Q st
 | 0,a,i,b,st,W,R=>by show SK prog w A E s (forIn [] b f) Q st;exact kasC_nil ⟨rfl,R b st W⟩
 |m+1,a,i,b,st,W,R=>by
  show SK prog w A E s (forIn (a::range' (a+1) m) b f) Q st;refine kasC_cons (wk (hf a i b st W) (λr s' hr=>?_) λ_ _ e=>e);obtain⟨r,aa⟩:=r;obtain⟨e,h⟩:=hr;rw[e];cases r with
  |done b'=>exact⟨rfl,h⟩
  |yield b'=>exact CB I hf m (a+1) (i+1) b' aa h λb st z=>R b st (by rwa [Nat.add_assoc,Nat.add_comm 1 m]at z)
def iE{a:Nat}{f:Nat->β->StateT SortSt Sem (ForInStep β)}{Q:β->SortSt->Prop}{b:β}(I:Nat->β->SortSt->Prop)(h0:I 0 b st)(hf:∀x i b st,I i b st->SK prog w A E s (f x b) (sD Q (I (i+1))) st)(z:∀b st,I (m-a) b st->Q b st):SK prog w A E s (forIn [a:m] b f) Q st:=kasC_range (CB I hf (m-a) a 0 b st h0 λb st h=>z b st (by rwa [vo]at h))
def fU(hc:gc prog w A κ it n lt s){left:Bool}{I base k z:Nat}{q:Nat->Nat}{arr:Array Keyed}(hk:kindOf st=κ)(hkey:I<n)(hq:∀i,i<k->q i<n)(ha:∀i,i<k->arr[base+i]?=U (kas_item it (q i))) (hb:∀i,i<k->(if left then lt (q i) I else !lt I (q i))=decide (i<m)) (hm:m<=k) (hh:z<k) (h:Q (U m) st):SK prog w A E s (gM left (kas_item it I) arr base k z) Q st:=by
 have bey:∀(i:Nat) (R:Option Bool->SortSt->Prop),i<k->R (U (decide (i<m))) st->SK prog w A E s (do let x <-elem' arr (base+i);if left then lt' x (kas_item it I) else return (<-lt' (kas_item it I) x).map (!·)) R st:=λi R hi hR=>by
  refine aB (bH (ha i hi) ?_);have e:=hb i hi;cases left with
  |true=>rw[if_pos rfl]at e ⊢;exact wM hc hk (hq i hi) hkey (by rw[e];exact hR)
  |false=>rw[if_neg zu]at e ⊢;exact aB (wM hc hk hkey (hq i hi) (aF (by show R (U (!lt I (q i))) st;rw[e];exact hR)))
 unfold gM;refine aB (bey z _ hh ?_);dsimp only;have fin:∀(lo hi:Nat),lo<=m->m<=hi->hi<=k->SK prog w A E s (forIn [:k] ((O,lo,hi):Option (Option Nat)×Nat×Nat) λx W=>
   if W.snd.fst >= W.snd.snd then pure (ForInStep.done (O,W.snd.fst,W.snd.snd))
   else do
    let tE <-(do let x <-elem' arr (base+(W.snd.fst+(W.snd.snd-W.snd.fst) / 2));if left then lt' x (kas_item it I) else return (<-lt' (kas_item it I) x).map (!·));match tE with
     |some more=>if more=Y then pure (ForInStep.yield (O,W.snd.fst+(W.snd.snd-W.snd.fst) / 2+1,W.snd.snd)) else pure (ForInStep.yield (O,W.snd.fst,W.snd.fst+(W.snd.snd-W.snd.fst) / 2))
     |x=>pure (ForInStep.done (U O,W.snd.fst,W.snd.snd))) (λb aa=>b=(O,m,m)/\aa=st) st:=λlo hi h1 h2 h3=>by
  refine iE (λi b aa=>aa=st/\∃lo hi,b=(O,lo,hi)/\lo<=m/\m<=hi/\hi<=k/\hi+i<=k+lo) ⟨rfl,lo,hi,rfl,h1,h2,h3,zq⟩ ?_ ?_;rintro x i b aa ⟨rfl,lo,hi,rfl,h1,h2,h3,h4⟩;dsimp only;by_cases hl:lo >= hi;rw[if_pos hl];refine aF ⟨?_,rfl⟩;rw[show lo=m by lia,show hi=m by lia];rw[if_neg hl];refine aB (bey _ _ zq ?_);dsimp only;by_cases hx:lo+(hi-lo) / 2<m;rw[if_pos (by simpa using hx)];exact aF ⟨rfl,_,_,rfl,zq,h2,h3,zq⟩;rw[if_neg (by simpa using hx)];exact aF ⟨rfl,_,_,rfl,h1,zq,zq,zq⟩;rintro b aa ⟨rfl,lo,hi,rfl,h1,h2,h3,h4⟩;refine⟨?_,rfl⟩;rw[show lo=m by lia,show hi=m by lia]
 by_cases hx:z<m;rw[if_pos (by simpa using hx)];refine aB (bS (iE (Q:=λb aa=>aa=st/\∃l o,b=((O,l,o):Option (Option Nat)×Nat×Nat)/\l<o/\z+l<m/\m<=z+min o (k-z)) (λi b aa=>aa=st/\∃l o,b=(O,l,o)/\l<o/\z+l<m/\i+1<=o) ⟨rfl,0,1,rfl,zq,zq,zq⟩ ?_ ?_) λb aa hb=>?_);rintro x i b aa ⟨rfl,l,o,rfl,h1,h2,h3⟩;dsimp only;by_cases ho:o >= k-z;rw[if_pos ho];exact aF ⟨rfl,l,o,rfl,h1,h2,zq⟩;rw[if_neg ho];refine aB (bey _ _ zq ?_);dsimp only;by_cases hy:z+o<m;rw[if_neg (by simpa using hy)];exact aF ⟨rfl,_,_,rfl,zq,hy,zq⟩;rw[if_pos (by simpa using hy)];exact aF ⟨rfl,l,o,rfl,h1,h2,zq⟩;rintro b aa ⟨rfl,l,o,rfl,h1,h2,h3⟩;exact⟨rfl,l,o,rfl,h1,h2,zq⟩;obtain⟨rfl,l,o,rfl,h1,h2,h3⟩:=hb;dsimp only;refine aB (bS (fin (z+l+1) (z+min o (k-z)) zq h3 zq) λb aa hb=>?_);obtain⟨rfl,rfl⟩:=hb;exact aF h;rw[if_neg (by simpa using hx)];refine aB (bS (iE (Q:=λb aa=>aa=st/\∃l o,b=((O,l,o):Option (Option Nat)×Nat×Nat)/\l<o/\m+l<=z/\z+1-min o (z+1)<=m) (λi b aa=>aa=st/\∃l o,b=(O,l,o)/\l<o/\m+l<=z/\i+1<=o) ⟨rfl,0,1,rfl,zq,zq,zq⟩ ?_ ?_) λb aa hb=>?_);rintro x i b aa ⟨rfl,l,o,rfl,h1,h2,h3⟩;dsimp only;by_cases ho:o >= z+1;rw[if_pos ho];exact aF ⟨rfl,l,o,rfl,h1,h2,zq⟩;rw[if_neg ho];refine aB (bey _ _ zq ?_);dsimp only;by_cases hy:z-o<m;rw[if_pos (by simpa using hy)];exact aF ⟨rfl,l,o,rfl,h1,h2,zq⟩;rw[if_neg (by simpa using hy)];exact aF ⟨rfl,_,_,rfl,zq,zq,zq⟩;rintro b aa ⟨rfl,l,o,rfl,h1,h2,h3⟩;exact⟨rfl,l,o,rfl,h1,h2,zq⟩;obtain⟨rfl,l,o,rfl,h1,h2,h3⟩:=hb;dsimp only;refine aB (bS (fin (z+1-min o (z+1)) (z-l) h3 zq zq) λb aa hb=>?_);obtain⟨rfl,rfl⟩:=hb;exact aF h
end
section
variable {lt:Nat->Nat->Bool}{it:Array Keyed}{xs ys:List Nat}
abbrev So(lt:Nat->Nat->Bool)(zs:List Nat):Prop:=zs.Pairwise λi j=>lt i j=Y
noncomputable def aP(it:Array Keyed)(zs:List Nat):Array Keyed:=(zs.map (kas_item it)).toArray
def aK:(aP it zs).size=zs.length:=by unfold aP;simp
def bK(h:zs[i]?=U x):(aP it zs)[i]?=U (kas_item it x):=by unfold aP;rw[List.getElem?_toArray,um,h];rfl
def nZ:(aP it zs).push (kas_item it x)=aP it (zs++[x]):=by unfold aP;simp
def dB{us:List Nat}:aP it zs++aP it us=aP it (zs++us):=by unfold aP;simp
def dZ{j:Nat}:(aP it zs).extract i j=aP it ((zs.drop i).take (j-i)):=by unfold aP;rw[List.extract_toArray,List.extract_eq_take_drop,<-map_drop,<-map_take]
structure MG (lt:Nat->Nat->Bool) (n:Nat) (xs ys:List Nat):Prop where
 o:Ord n lt
 xn:∀x∈xs,x<n
 yn:∀y∈ys,y<n
 sx:So lt xs
 sy:So lt ys
 ne:∀x∈xs,∀y∈ys,x≠y
def MI(lt:Nat->Nat->Bool)(it:Array Keyed)(xs ys:List Nat)(out:Array Keyed)(ia ib:Nat):Prop:=∃zs,out=aP it zs/\zs.Perm (xs.take ia++ys.take ib)/\So lt zs/\∀z∈zs,∀x,x∈xs.drop ia\/x∈ys.drop ib->lt z x=Y
def Res(lt:Nat->Nat->Bool)(it:Array Keyed)(xs ys:List Nat)(r:Array Keyed):Prop:=∃zs,r=aP it zs/\zs.Perm (xs++ys)/\So lt zs
variable {n:Nat}
def eC{l:List Nat}(h:l[i]?=U x):l.drop i=x::l.drop (i+1):=by obtain⟨hi,e⟩:=u0.mp h;rw[List.drop_eq_getElem_cons hi,e]
def fC{l:List Nat}(h:l[i]?=U x):l.take (i+1)=l.take i++[x]:=by rw[x6,h];rfl
def jT{l:List Nat}(h:So lt l)(hx:l[i]?=U x):∀y∈l.drop (i+1),lt x y=Y:=by have:=List.Pairwise.drop (i:=i) h;rw[eC hx]at this;exact(xo.mp this).1
def fM{l m:List Nat}(h1:So lt l)(h2:So lt m)(h:∀a∈l,∀b∈m,lt a b=Y):So lt (l++m):=List.pairwise_append.mpr ⟨h1,h2,h⟩
def MI.pushB(g:MG lt n xs ys)(h:MI lt it xs ys out ia ib)(hx:xs[ia]?=U x)(hy:ys[ib]?=U y)(hl:lt y x=Y):MI lt it xs ys (out.push (kas_item it y)) ia (ib+1):=by
 obtain⟨zs,rfl,hp,hs,hz⟩:=h;have I:y∈ys.drop ib:=by rw[eC hy];exact wu
 refine⟨zs++[y],nZ,?_,fM hs (pairwise_singleton _ _) λa ha b hb=>?_,λz W v hv=>?_⟩;rw[fC hy,<-va];exact hp.append_right [y];rw[vj.mp hb];exact hz a ha y (.inr I);rcases xp.mp W with q|q;exact hz z q v (hv.imp id λw=>by rw[eC hy];exact ux _ w);rw[vj.mp q];rcases hv with hv|hv;rw[eC hx]at hv;rcases vk.mp hv with e|hv;rw[e];exact hl;have R:=u6 hx;exact g.o.tra _ _ _ (g.yn y (u6 hy)) (g.xn x R) (g.xn v (mem_of_mem_drop hv)) hl (jT g.sx hx v hv);exact jT g.sy hy v hv
def MI.pushA(g:MG lt n xs ys)(h:MI lt it xs ys out ia ib)(hx:xs[ia]?=U x)(hy:ys[ib]?=U y)(hl:lt x y=Y):MI lt it xs ys (out.push (kas_item it x)) (ia+1) ib:=by
 obtain⟨zs,rfl,hp,hs,hz⟩:=h;have I:x∈xs.drop ia:=by rw[eC hx];exact wu
 refine⟨zs++[x],nZ,?_,fM hs (pairwise_singleton _ _) λa ha b hb=>?_,λz R v hv=>?_⟩;rw[fC hx];refine(hp.append_right [x]).trans ?_;rw[va,va];exact List.Perm.append_left _ perm_append_comm;rw[vj.mp hb];exact hz a ha x (.inl I);rcases xp.mp R with q|q;exact hz z q v (hv.imp (λw=>by rw[eC hx];exact ux _ w) id);rw[vj.mp q];rcases hv with hv|hv;exact jT g.sx hx v hv;rw[eC hy]at hv;rcases vk.mp hv with e|hv;rw[e];exact hl;exact g.o.tra _ _ _ (g.xn x (u6 hx)) (g.yn y (u6 hy)) (g.yn v (mem_of_mem_drop hv)) hl (jT g.sy hy v hv)
def lY{k:Nat}(h:zs[i+k]?=U x):(aP it zs).extract i (i+(k+1))=((aP it zs).extract i (i+k)).push (kas_item it x):=by rw[dZ,dZ,show i+(k+1)-i=k+1 by lia,show i+k-i=k by lia,x6,getElem?_drop,h,nZ];rfl
theorem MI.moveA(g:MG lt n xs ys)(hy:ys[ib]?=U y):∀(k:Nat) {out:Array Keyed},MI lt it xs ys out ia ib->(∀i,i<k->∃x,xs[ia+i]?=U x/\lt x y=Y)->MI lt it xs ys (out++(aP it xs).extract ia (ia+k)) (ia+k) ib
 | 0,out,h,_=>by rw[dZ,show ia+0-ia=0 by lia,take_zero,show aP it []=#[] from rfl,append_empty];exact h
 |k+1,out,h,hl=>by obtain⟨x,hx,z⟩:=hl k (wx k);rw[lY hx,Array.append_push];exact(MI.moveA g hy k h λi hi=>hl i zq).pushA g hx hy z
theorem MI.moveB(g:MG lt n xs ys)(hx:xs[ia]?=U x):∀(k:Nat) {out:Array Keyed},MI lt it xs ys out ia ib->(∀i,i<k->∃y,ys[ib+i]?=U y/\lt y x=Y)->MI lt it xs ys (out++(aP it ys).extract ib (ib+k)) ia (ib+k)
 | 0,out,h,_=>by rw[dZ,show ib+0-ib=0 by lia,take_zero,show aP it []=#[] from rfl,append_empty];exact h
 |k+1,out,h,hl=>by obtain⟨y,hy,z⟩:=hl k (wx k);rw[lY hy,Array.append_push];exact(MI.moveB g hx k h λi hi=>hl i zq).pushB g hx hy z
def kF:(aP it zs).extract i (aP it zs).size=aP it (zs.drop i):=by rw[dZ,aK,take_of_length_le (by rw[xj];lia)]
def MI.doneB(g:MG lt n xs ys)(h:MI lt it xs ys out ia ib)(hb:ib=ys.length):Res lt it xs ys (out++(aP it xs).extract ia (aP it xs).size++(aP it ys).extract ib (aP it ys).size):=by obtain⟨zs,rfl,hp,hs,hz⟩:=h;subst hb;refine⟨zs++xs.drop ia,by rw[kF,kF,xi,dB,dB,vt],?_,fM hs (List.Pairwise.drop g.sx) λa ha b hb=>hz a ha b (.inl hb)⟩;rw[xh]at hp;refine(hp.append_right _).trans ?_;rw[va];refine(List.Perm.append_left _ perm_append_comm).trans ?_;rw[<-va,take_append_drop]
def MI.doneA(g:MG lt n xs ys)(h:MI lt it xs ys out ia ib)(ha:ia=xs.length):Res lt it xs ys (out++(aP it xs).extract ia (aP it xs).size++(aP it ys).extract ib (aP it ys).size):=by obtain⟨zs,rfl,hp,hs,hz⟩:=h;subst ha;refine⟨zs++ys.drop ib,by rw[kF,kF,xi,dB,dB,vt],?_,fM hs (List.Pairwise.drop g.sy) λa ha b hb=>hz a ha b (.inr hb)⟩;rw[xh]at hp;refine(hp.append_right _).trans ?_;rw[va,take_append_drop]
def MI.last(g:MG lt n xs ys)(h:MI lt it xs ys out ia ib)(ha:ia+1=xs.length)(hx:xs[ia]?=U x)(hl:∀y∈ys,lt y x=Y):Res lt it xs ys (out++(aP it ys).extract ib (aP it ys).size++(aP it xs).extract ia (aP it xs).size):=by
 obtain⟨zs,rfl,hp,hs,hz⟩:=h;have e:xs.drop ia=[x]:=by rw[eC hx,ha,xi]
 refine⟨zs++ys.drop ib++[x],by rw[kF,kF,e,dB,dB],?_,fM (fM hs (List.Pairwise.drop g.sy) λa ha b hb=>hz a ha b (.inr hb)) (pairwise_singleton _ _) λa ha b hb=>?_⟩;rw[<-e];refine((hp.append_right _).append_right _).trans ?_;rw[va (xs.take ia),take_append_drop,va];refine(List.Perm.append_left _ perm_append_comm).trans ?_;rw[<-va,take_append_drop];rw[vj.mp hb];rcases xp.mp ha with q|q;exact hz a q x (.inl (by rw[e];exact vj.mpr rfl));exact hl a (mem_of_mem_drop q)
theorem bound:∀(k:Nat) (f:Nat->Bool),(∀i j,i<j->j<k->f j=Y->f i=Y)->∃m,m<=k/\∀i,i<k->f i=decide (i<m)
 | 0,f,_=>⟨0,uq _,λi hi=>absurd hi (Nat.not_lt_zero _)⟩
 |k+1,f,h=>by
  obtain⟨m,hm,e⟩:=bound k f λi j a b=>h i j a zq
  cases hf:f k with
  |false=>refine⟨m,zq,λi hi=>?_⟩;by_cases q:i=k;rw[q,hf];exact(uu zq).symm;exact e i zq
  |true=>refine⟨k+1,uq _,λi hi=>?_⟩;rw[vy hi];by_cases q:i=k;rw[q];exact hf;exact h i k zq zq hf
end
section
variable {prog:xt}{w:World}{A:Around}{E:xu}{κ:SortKind}{it:Array Keyed}{n:Nat}{lt:Nat->Nat->Bool}{s:Shared}{xs ys:List Nat}
def SS(st aa:SortSt):Prop:=kindOf aa=kindOf st/\arrOf aa=arrOf st/\pendingOf aa=pendingOf st/\failedOf aa=failedOf st
def SS.refl:SS st st:=⟨rfl,rfl,rfl,rfl⟩
def getD_at{l:List Nat}(h:i<l.length):l[i]?=U (l.getD i 0):=by rw[uk h,u3,uk h];rfl
def IJ{l:List Nat}(h:So lt l){j:Nat}(hx:l[i]?=U x)(hy:l[j]?=U y)(z:i<j):lt x y=Y:=jT h hx y (u6 (i:=j-(i+1)) (by rw[getElem?_drop];rw[show i+1+(j-(i+1))=j by lia];exact hy))
def aEo(g:MG lt n xs ys)(hy:ys[ib]?=U y):∃m,m<=xs.length-ia/\(∀i,i<xs.length-ia->(!lt y (xs.getD (ia+i) 0))=decide (i<m))/\(∀i,i<m->∃x,xs[ia+i]?=U x/\lt x y=Y)/\∀x,xs[ia+m]?=U x->lt y x=Y:=by
 have I:=u6 hy;obtain⟨m,hm,e⟩:=bound (xs.length-ia) (λi=>!lt y (xs.getD (ia+i) 0)) λi j da W h=>by
  have h1:=getD_at (l:=xs) (i:=ia+i) zq;have h2:=getD_at (l:=xs) (i:=ia+j) zq;have h3:lt y (xs.getD (ia+j) 0)=J:=by simpa using h
  show (!lt y (xs.getD (ia+i) 0))=Y;cases q:lt y (xs.getD (ia+i) 0) with
  |false=>rfl
  |true=>have:=g.o.tra _ _ _ (g.yn y I) (g.xn _ (u6 h1)) (g.xn _ (u6 h2)) q (IJ g.sx h1 h2 zq);rw[h3]at this;cases this
 refine⟨m,hm,e,λi hi=>?_,λx hx=>?_⟩;have h1:=getD_at (l:=xs) (i:=ia+i) zq;refine⟨_,h1,?_⟩;have:=e i zq;rw[vy hi]at this;have R:=u6 h1;exact g.o.tot _ _ (g.yn y I) (g.xn _ R) (λz=>g.ne _ R y I z.symm) (by simpa using this);have hl:=(u0.mp hx).1;have:=e m zq;rw[uu (we m),getD_at (l:=xs) (i:=ia+m) hl |>.symm.trans hx |> v8]at this;simpa using this
def aEm(g:MG lt n xs ys)(hx:xs[ia]?=U x):∃m,m<=ys.length-ib/\(∀i,i<ys.length-ib->lt (ys.getD (ib+i) 0) x=decide (i<m))/\(∀i,i<m->∃y,ys[ib+i]?=U y/\lt y x=Y)/\∀y,ys[ib+m]?=U y->lt x y=Y:=by
 have I:=u6 hx;obtain⟨m,hm,e⟩:=bound (ys.length-ib) (λi=>lt (ys.getD (ib+i) 0) x) λi j da W h=>by have h1:=getD_at (l:=ys) (i:=ib+i) zq;have h2:=getD_at (l:=ys) (i:=ib+j) zq;exact g.o.tra _ _ _ (g.yn _ (u6 h1)) (g.yn _ (u6 h2)) (g.xn x I) (IJ g.sy h1 h2 zq) h
 refine⟨m,hm,e,λi hi=>?_,λy hy=>?_⟩;exact⟨_,getD_at (l:=ys) (i:=ib+i) zq,by rw[e i zq];exact vy hi⟩;have hl:=(u0.mp hy).1;have:=e m zq;rw[uu (we m),getD_at (l:=ys) (i:=ib+m) hl |>.symm.trans hy |> v8]at this;have R:=u6 hy;exact g.o.tot _ _ (g.yn y R) (g.xn x I) (λz=>g.ne x I y R z.symm) this
def CD(hc:gc prog w A κ it n lt s)(g:MG lt n xs ys)(hk:kindOf st=κ)(hy:ys[ib]?=U y)(hi:ia<xs.length)(hm:m<=xs.length-ia)(e:∀i,i<xs.length-ia->(!lt y (xs.getD (ia+i) 0))=decide (i<m))(h:Q (U m) st):SK prog w A E s (gM J (kas_item it y) (aP it xs) ia ((aP it xs).size-ia) 0) Q st:=by rw[aK];exact fU hc (q:=λi=>xs.getD (ia+i) 0) hk (g.yn y (u6 hy)) (λi hi=>g.xn _ (u6 (getD_at zq))) (λi hi=>bK (getD_at zq)) (λi hi=>e i hi) hm zq h
def RC(hc:gc prog w A κ it n lt s)(g:MG lt n xs ys)(hk:kindOf st=κ)(hx:xs[ia]?=U x)(hi:ib<ys.length)(hm:m<=ys.length-ib)(e:∀i,i<ys.length-ib->lt (ys.getD (ib+i) 0) x=decide (i<m))(h:Q (U m) st):SK prog w A E s (gM Y (kas_item it x) (aP it ys) ib ((aP it ys).size-ib) 0) Q st:=by rw[aK];exact fU hc (q:=λi=>ys.getD (ib+i) 0) hk (g.xn x (u6 hx)) (λi hi=>g.yn _ (u6 (getD_at zq))) (λi hi=>bK (getD_at zq)) (λi hi=>e i hi) hm zq h
def LI(lt:Nat->Nat->Bool)(it:Array Keyed)(xs ys:List Nat)(st:SortSt)(W d7:Nat)(b:Option (Array Keyed)×Array Keyed×Nat×Nat×Nat×Nat×Nat)(aa:SortSt):Prop:=SS st aa/\∃R z I mg ac bc,b=(O,R,z,I,mg,ac,bc)/\MI lt it xs ys R z I/\z+1<xs.length/\I<ys.length/\W+d7<=z+I
def LQ(lt:Nat->Nat->Bool)(it:Array Keyed)(xs ys:List Nat)(st:SortSt)(W d7:Nat)(b:Option (Array Keyed)×Array Keyed×Nat×Nat×Nat×Nat×Nat)(aa:SortSt):Prop:=SS st aa/\((∃r rest,b=(U r,rest)/\Res lt it xs ys r)\/∃R z I mg ac bc,b=(O,R,z,I,mg,ac,bc)/\MI lt it xs ys R z I/\z+1<xs.length/\I<ys.length/\W+d7<=z+I)
def LI.mk{aa:SortSt}{z I mg ac bc:Nat}(s:SS st aa)(m:MI lt it xs ys out ia ib)(ha:ia+1<xs.length)(hb:ib<ys.length)(hr:z+I<=ia+ib):LI lt it xs ys st z I (O,out,ia,ib,mg,ac,bc) aa:=⟨s,_,_,_,_,_,_,rfl,m,ha,hb,hr⟩
def LI.q{aa:SortSt}{z I:Nat}{b:Option (Array Keyed)×Array Keyed×Nat×Nat×Nat×Nat×Nat}(h:LI lt it xs ys st z I b aa):LQ lt it xs ys st z I b aa:=⟨h.1,.inr h.2⟩
abbrev loT(it:Array Keyed)(xs ys:List Nat)(out:Array Keyed)(ia ib mg ac bc:Nat):StateT SortSt Sem (ForInStep (Option (Array Keyed)×Array Keyed×Nat×Nat×Nat×Nat×Nat)):=elem' (aP it xs) ia >>= λv=>if (ia+1+1 == (aP it xs).size)=Y then pure (ForInStep.done (U (out.push v++(aP it ys).extract ib (aP it ys).size++(aP it xs).extract (ia+1) (aP it xs).size),out.push v,ia+1,ib,mg,ac,bc))
 else if (decide (ac<7)&&decide (bc<7))=Y then pure (ForInStep.done (O,out.push v,ia+1,ib,mg,ac,bc)) else pure (ForInStep.yield (O,out.push v,ia+1,ib,mg,ac,bc))
def AD(hc:gc prog w A κ it n lt s)(g:MG lt n xs ys){x0 y0 xl:Nat}(lu:xs[0]?=U x0)(lr:ys[0]?=U y0)(h1:lt y0 x0=Y)(qp:xs[xs.length-1]?=U xl)(h2:∀y∈ys,lt y xl=Y)(hk:kindOf st=κ){Q:Array Keyed->SortSt->Prop}
  (h:∀r aa,Res lt it xs ys r->SS st aa->Q r aa):SK prog w A E s (xS (aP it xs) (aP it ys)) Q st:=by
 have lx:0<xs.length:=(u0.mp lu).1
 have ly:0<ys.length:=(u0.mp lr).1
 have m1:MI lt it xs ys #[kas_item it y0] 0 1:=MI.pushB g (out:=#[]) (ib:=0) ⟨[],rfl,.refl _,List.Pairwise.nil,λz hz=>by cases hz⟩ lu lr h1
 have eu:∀{out:Array Keyed} {ia ib:Nat},MI lt it xs ys out ia ib->ia+1=xs.length->Res lt it xs ys (out++(aP it ys).extract ib (aP it ys).size++(aP it xs).extract ia (aP it xs).size):=λ{out ia ib} m e=>m.last g e (x:=xl) (by rw[show ia=xs.length-1 by lia];exact qp) h2
 unfold xS;refine aB (iC ?_);refine aB (bH (bK lr) ?_)
 by_cases c1:1=ys.length
 .refine dR (by rw[aK];simpa using c1) ?_
  exact aF (h _ _ (m1.doneB g c1) SS.refl)
 refine dS (by rw[aK];simpa using c1) ?_
 by_cases c2:0+1=xs.length
 .refine dR (by rw[aK];simpa using c2) ?_
  exact aF (h _ _ (eu m1 c2) SS.refl)
 refine dS (by rw[aK];simpa using c2) ?_
 refine aB (eX ?_);refine aB (bS (iE (Q:=λb aa=>SS st aa/\∃r rest,b=(U r,rest)/\Res lt it xs ys r) (λi b aa=>SS st aa/\∃out ia ib mg,b=(O,out,ia,ib,mg)/\MI lt it xs ys out ia ib/\ia+1<xs.length/\ib<ys.length/\i+1<=ia+ib) ⟨SS.refl,_,_,_,_,rfl,m1,zq,zq,zq⟩ ?_ ?_) ?_)
 .rintro _ i b di ⟨s1,out,ia,ib,mg,rfl,m,ha,hb,hr⟩;refine aB (bS (iE (Q:=λb aa=>SS st aa/\((∃r rest,b=(U r,rest)/\Res lt it xs ys r)\/∃ay R I ac bc,b=(O,ay,R,I,ac,bc)/\MI lt it xs ys ay R I/\R+1<xs.length/\I<ys.length/\ia+ib+1<=R+I))
   (λj b aa=>SS st aa/\∃ay R I ac bc,b=(O,ay,R,I,ac,bc)/\MI lt it xs ys ay R I/\R+1<xs.length/\I<ys.length/\ia+ib+j<=R+I) ⟨s1,_,_,_,_,_,rfl,m,ha,hb,by(try dsimp only);lia⟩ ?_ ?_) ?_)
  .rintro _ j b dt ⟨s2,out,R,I,ac,bc,rfl,m,dn,dh,fv⟩;clear lx ly c1 c2 ha hb hr;have hx:=getD_at (l:=xs) (i:=R) zq
   have hy:=getD_at (l:=ys) (i:=I) dh
   generalize xs.getD R 0=x at hx;generalize ys.getD I 0=y at hy;have xm:=u6 hx
   have ym:=u6 hy
   refine aB (bH (bK hy) (aB (bH (bK hx) (aB (wM hc (s2.1.trans hk) (g.yn y ym) (g.xn x xm) ?_)))))
   by_cases hl:lt y x=Y
   .refine dR hl ?_;refine aB (bH (bK hy) ?_);have W:=m.pushB g hx hy hl
    by_cases e:I+1=ys.length
    .refine dR (by rw[aK];simpa using e) ?_
     exact aF ⟨s2,.inl ⟨_,_,rfl,W.doneB g e⟩⟩
    .refine dS (by rw[aK];simpa using e) ?_
     split
     .exact aF ⟨s2,.inr ⟨_,_,_,_,_,rfl,W,dn,by(try dsimp only);lia,by(try dsimp only);lia⟩⟩
     .exact aF ⟨s2,_,_,_,_,_,rfl,W,dn,by(try dsimp only);lia,by(try dsimp only);lia⟩
   .refine dS hl ?_;have hl':lt x y=Y:=g.o.tot _ _ (g.yn y ym) (g.xn x xm) (λz=>g.ne x xm y ym z.symm) (by simpa using hl)
    refine aB (bH (bK hx) ?_);have W:=m.pushA g hx hy hl'
    by_cases e:R+1+1=xs.length
    .refine dR (by rw[aK];simpa using e) ?_
     exact aF ⟨s2,.inl ⟨_,_,rfl,eu W e⟩⟩
    .refine dS (by rw[aK];simpa using e) ?_
     split
     .exact aF ⟨s2,.inr ⟨_,_,_,_,_,rfl,W,by(try dsimp only);lia,dh,by(try dsimp only);lia⟩⟩
     .exact aF ⟨s2,_,_,_,_,_,rfl,W,by(try dsimp only);lia,dh,by(try dsimp only);lia⟩
  .rintro b dt ⟨s2,out,R,I,ac,bc,rfl,m,dn,dh,fv⟩;rw[aK,aK]at fv;exact⟨s2,.inr ⟨_,_,_,_,_,rfl,m,dn,dh,zq⟩⟩
  .rintro b dt ⟨s2,⟨r,rest,rfl,hR⟩|⟨out,d9,d7,ac,bc,rfl,m,sr,sk,hr1⟩⟩
   .exact aF ⟨s2,_,_,rfl,hR⟩
   refine aB (iC ?_);refine aB (bS (iE (Q:=LQ lt it xs ys st d9 d7) (λ_=>LI lt it xs ys st d9 d7) ⟨s2,_,_,_,_,_,_,rfl,m,sr,sk,uq _⟩ ?_ ?_) ?_)
   .rintro _ j b kc ⟨s3,out,R,I,gf,ac',ji,rfl,m,dn,dh,fv⟩;clear lx ly c1 c2 ha hb hr sr sk hr1;have hy:=getD_at (l:=ys) (i:=I) dh
    generalize ys.getD I 0=y at hy;obtain⟨k,k1,k2,k3,k4⟩:=aEo g (ia:=R) hy;have mA:=m.moveA g hy k k3
    have sC:∀(fm:SortSt) (s4:SS st fm) (out:Array Keyed) (ia ib mg ac bc x y:Nat),MI lt it xs ys out ia ib->ia+1<xs.length->xs[ia]?=U x->ys[ib]?=U y->lt x y=Y->d9+d7<=ia+ib ->
      SK prog w A E s (loT it xs ys out ia ib mg ac bc)
       (sD (LQ lt it xs ys st d9 d7) (LI lt it xs ys st d9 d7)) fm:=λfm s4 out ia ib mg ac bc x y m hi hx hy hl hr=>by
     unfold loT;refine aB (bH (bK hx) ?_);have m2:=m.pushA g hx hy hl
     have hj:=(u0.mp hy).1
     by_cases e5:ia+1+1=xs.length
     .exact dR (by rw[aK];simpa using e5) (aF ⟨s4,.inl ⟨_,_,rfl,eu m2 e5⟩⟩)
     refine dS (by rw[aK];simpa using e5) ?_
     have L:=LI.mk (mg:=mg) (ac:=ac) (bc:=bc) s4 m2 zq hj (by lia:d9+d7<=ia+1+ib)
     by_cases e6:(decide (ac<7)&&decide (bc<7))=Y
     .exact dR e6 (aF L.q)
     .exact dS e6 (aF L)
    have bY:∀(fm:SortSt) (s4:SS st fm) (out:Array Keyed) (ia mg ac bc x:Nat),MI lt it xs ys out ia I->ia+1<xs.length->xs[ia]?=U x->lt y x=Y->d9+d7<=ia+I ->
      SK prog w A E s (elem' (aP it ys) I >>= λv=>if (I+1 == (aP it ys).size)=Y then pure (ForInStep.done (U (out.push v++(aP it xs).extract ia (aP it xs).size++(aP it ys).extract (I+1) (aP it ys).size),out.push v,ia,I+1,mg,ac,bc))
       else elem' (aP it xs) ia >>= λx=>gM Y x (aP it ys) (I+1) ((aP it ys).size-(I+1)) 0 >>= λr=>match r with
        |some k=>if k > 0 then(if (I+1+k == (aP it ys).size)=Y then pure (ForInStep.done (U (out.push v++(aP it ys).extract (I+1) (I+1+k)++(aP it xs).extract ia (aP it xs).size++(aP it ys).extract (I+1+k) (aP it ys).size),out.push v++(aP it ys).extract (I+1) (I+1+k),ia,I+1+k,mg,ac,k))
          else loT it xs ys (out.push v++(aP it ys).extract (I+1) (I+1+k)) ia (I+1+k) mg ac k)
          else loT it xs ys (out.push v) ia (I+1) mg ac k
        |_=>pure (ForInStep.done (U (out.push v++(aP it xs).extract ia (aP it xs).size++(aP it ys).extract (I+1) (aP it ys).size),out.push v,ia,I+1,mg,ac,bc)))
       (sD (LQ lt it xs ys st d9 d7) (LI lt it xs ys st d9 d7)) fm:=λfm s4 out ia mg ac bc x m hi hx hl hr=>by
     refine aB (bH (bK hy) ?_);have W:=m.pushB g hx hy hl
     by_cases e3:I+1=ys.length
     .exact dR (by rw[aK];simpa using e3) (aF ⟨s4,.inl ⟨_,_,rfl,W.doneB g e3⟩⟩)
     refine dS (by rw[aK];simpa using e3) ?_
     refine aB (bH (bK hx) ?_);obtain⟨j2,j1',j2',j3',ql⟩:=aEm g (ib:=I+1) hx;refine aB (RC hc g (s4.1.trans hk) hx zq j1' j2' ?_)
     have mB:=W.moveB g hx j2 j3'
     by_cases rg:j2 > 0
     .refine dR rg ?_
      by_cases e4:I+1+j2=ys.length
      .exact dR (by rw[aK];simpa using e4) (aF ⟨s4,.inl ⟨_,_,rfl,mB.doneB g e4⟩⟩)
      refine dS (by rw[aK];simpa using e4) ?_
      have gh:=getD_at (l:=ys) (i:=I+1+j2) zq
      exact sC _ s4 _ _ _ _ _ _ _ _ mB hi hx gh (ql _ gh) zq
     .refine dS rg ?_;have j0:j2=0:=by lia
      have gh:=getD_at (l:=ys) (i:=I+1) zq
      exact sC _ s4 _ _ _ _ _ _ _ _ W hi hx gh (ql _ (by rw[j0];exact gh)) zq
    by_cases ja:gf > 1
    .refine dR ja ?_;refine aB (bO ?_);refine aB (bH (bK hy) ?_);refine aB (CD hc g (s3.1.trans hk) hy (by(try dsimp only);lia) k1 k2 ?_)
     by_cases fx:k > 0
     .refine dR fx ?_
      by_cases e1:R+k+1=xs.length
      .exact dR (by rw[aK];simpa using e1) (aF ⟨s3,.inl ⟨_,_,rfl,eu mA e1⟩⟩)
      refine dS (by rw[aK];simpa using e1) ?_
      by_cases e2:R+k=xs.length
      .exact dR (by rw[aK];simpa using e2) (aF ⟨s3,.inl ⟨_,_,rfl,mA.doneA g e2⟩⟩)
      refine dS (by rw[aK];simpa using e2) ?_
      have hx:=getD_at (l:=xs) (i:=R+k) zq
      refine bY _ ?_ _ (R+k) (gf-1) k ji _ mA zq hx (k4 _ hx) zq
      exact s3
     .refine dS fx ?_;have kz:k=0:=by lia
      have hx:=getD_at (l:=xs) (i:=R) zq
      refine bY _ ?_ _ R (gf-1) k ji _ m dn hx (k4 _ (by rw[kz];exact hx)) fv
      exact s3
    .refine dS ja ?_;refine aB (bO ?_);refine aB (bH (bK hy) ?_);refine aB (CD hc g (s3.1.trans hk) hy (by(try dsimp only);lia) k1 k2 ?_)
     by_cases fx:k > 0
     .refine dR fx ?_
      by_cases e1:R+k+1=xs.length
      .exact dR (by rw[aK];simpa using e1) (aF ⟨s3,.inl ⟨_,_,rfl,eu mA e1⟩⟩)
      refine dS (by rw[aK];simpa using e1) ?_
      by_cases e2:R+k=xs.length
      .exact dR (by rw[aK];simpa using e2) (aF ⟨s3,.inl ⟨_,_,rfl,mA.doneA g e2⟩⟩)
      refine dS (by rw[aK];simpa using e2) ?_
      have hx:=getD_at (l:=xs) (i:=R+k) zq
      refine bY _ ?_ _ (R+k) gf k ji _ mA zq hx (k4 _ hx) zq
      exact s3
     .refine dS fx ?_;have kz:k=0:=by lia
      have hx:=getD_at (l:=xs) (i:=R) zq
      refine bY _ ?_ _ R gf k ji _ m dn hx (k4 _ (by rw[kz];exact hx)) fv
      exact s3
   .rintro b kc ⟨s3,out,R,I,gf,ac',ji,rfl,m,dn,dh,fv⟩;exact⟨s3,.inr ⟨_,_,_,_,_,_,rfl,m,dn,dh,fv⟩⟩
   .rintro b kc ⟨s3,⟨r,rest,rfl,hR⟩|⟨out,ia2,ib2,mg2,ac2,bc2,rfl,m,oN,o9,hr2⟩⟩
    .exact aF ⟨s3,_,_,rfl,hR⟩
    .dsimp only;refine aB (bO ?_);exact aF ⟨s3,_,_,_,_,rfl,m,oN,o9,zq⟩
 .rintro b di ⟨s1,out,ia,ib,mg,rfl,m,ha,hb,hr⟩;rw[aK,aK]at hr;lia
 .rintro b di ⟨s1,r,rest,rfl,hR⟩;exact aF (h _ _ hR s1)
end
section
variable {lt:Nat->Nat->Bool}{it:Array Keyed}{xs ys:List Nat}{n:Nat}
def MH(lt:Nat->Nat->Bool)(it:Array Keyed)(xs ys:List Nat)(out:Array Keyed)(na nb:Nat):Prop:=∃zs,out=(aP it zs).reverse/\zs.Perm (xs.drop na++ys.drop nb)/\So lt zs/\∀z∈zs,∀v,v∈xs.take na\/v∈ys.take nb->lt v z=Y
def wW:(aP it zs).reverse.push (kas_item it x)=(aP it (x::zs)).reverse:=by unfold aP;simp
def lP{l:List Nat}(h:So lt l)(hx:l[i]?=U x):∀y∈l.take i,lt y x=Y:=by intro y hy;have:=List.Pairwise.take (i:=i+1) h;rw[fC hx]at this;exact(List.pairwise_append.mp this).2.2 y hy x (vj.mpr rfl)
def MH.pushA(g:MG lt n xs ys)(h:MH lt it xs ys out (na+1) (nb+1))(hx:xs[na]?=U x)(hy:ys[nb]?=U y)(hl:lt y x=Y):MH lt it xs ys (out.push (kas_item it x)) na (nb+1):=by obtain⟨zs,rfl,hp,hs,hz⟩:=h;refine⟨x::zs,wW,?_,xo.mpr ⟨λz I=>hz z I x (.inl (by rw[fC hx];simp)),hs⟩,λz I v hv=>?_⟩;rw[eC hx];exact hp.cons x;rcases vk.mp I with e|I;rw[e];rcases hv with hv|hv;exact lP g.sx hx v hv;rw[fC hy]at hv;rcases xp.mp hv with hv|hv;exact g.o.tra _ _ _ (g.yn v (mem_of_mem_take hv)) (g.yn y (u6 hy)) (g.xn x (u6 hx)) (lP g.sy hy v hv) hl;rw[vj.mp hv];exact hl;exact hz z I v (hv.imp (λq=>by rw[fC hx];exact wb _ q) id)
def MH.pushB(g:MG lt n xs ys)(h:MH lt it xs ys out (na+1) (nb+1))(hx:xs[na]?=U x)(hy:ys[nb]?=U y)(hl:lt x y=Y):MH lt it xs ys (out.push (kas_item it y)) (na+1) nb:=by obtain⟨zs,rfl,hp,hs,hz⟩:=h;refine⟨y::zs,wW,?_,xo.mpr ⟨λz I=>hz z I y (.inr (by rw[fC hy];simp)),hs⟩,λz I v hv=>?_⟩;rw[eC hy];exact(hp.cons y).trans (List.perm_middle).symm;rcases vk.mp I with e|I;rw[e];rcases hv with hv|hv;rw[fC hx]at hv;rcases xp.mp hv with hv|hv;exact g.o.tra _ _ _ (g.xn v (mem_of_mem_take hv)) (g.xn x (u6 hx)) (g.yn y (u6 hy)) (lP g.sx hx v hv) hl;rw[vj.mp hv];exact hl;exact lP g.sy hy v hv;exact hz z I v (hv.imp id λq=>by rw[fC hy];exact wb _ q)
def DW{e:Array Keyed}{v:Keyed}:out++(e.push v).reverse=out.push v++e.reverse:=by apply Array.toList_inj.mp;simp
theorem MH.moveA(g:MG lt n xs ys)(hy:ys[nb]?=U y):∀(k:Nat) {out:Array Keyed},MH lt it xs ys out (na+k) (nb+1)->(∀i,i<k->∃x,xs[na+i]?=U x/\lt y x=Y)->MH lt it xs ys (out++((aP it xs).extract na (na+k)).reverse) na (nb+1)
 | 0,out,h,_=>by rw[dZ,show na+0-na=0 by lia,take_zero,show (aP it []).reverse=#[] from rfl,append_empty];exact h
 |k+1,out,h,hl=>by obtain⟨x,hx,z⟩:=hl k (wx k);rw[lY hx,DW];exact MH.moveA g hy k (MH.pushA g h hx hy z) λi hi=>hl i zq
theorem MH.moveB(g:MG lt n xs ys)(hx:xs[na]?=U x):∀(k:Nat) {out:Array Keyed},MH lt it xs ys out (na+1) (nb+k)->(∀i,i<k->∃y,ys[nb+i]?=U y/\lt x y=Y)->MH lt it xs ys (out++((aP it ys).extract nb (nb+k)).reverse) (na+1) nb
 | 0,out,h,_=>by rw[dZ,show nb+0-nb=0 by lia,take_zero,show (aP it []).reverse=#[] from rfl,append_empty];exact h
 |k+1,out,h,hl=>by obtain⟨y,hy,z⟩:=hl k (wx k);rw[lY hy,DW];exact MH.moveB g hx k (MH.pushB g h hx hy z) λi hi=>hl i zq
def sW:(aP it zs).extract 0 i=aP it (zs.take i):=by rw[dZ,drop_zero,Nat.sub_zero]
def MH.doneA(g:MG lt n xs ys)(h:MH lt it xs ys out 0 nb):Res lt it xs ys ((aP it xs).extract 0 0++(aP it ys).extract 0 nb++out.reverse):=by obtain⟨zs,rfl,hp,hs,hz⟩:=h;refine⟨ys.take nb++zs,by rw[sW,sW,Array.reverse_reverse,dB,dB,take_zero,nil_append],?_,fM (List.Pairwise.take g.sy) hs λa ha b hb=>hz b hb a (.inr ha)⟩;refine(hp.append_left _).trans ?_;rw[drop_zero];refine perm_append_comm.trans ?_;rw[va];refine List.Perm.append_left _ (perm_append_comm.trans ?_);rw[take_append_drop]
def MH.doneB(g:MG lt n xs ys)(h:MH lt it xs ys out na 0):Res lt it xs ys ((aP it xs).extract 0 na++(aP it ys).extract 0 0++out.reverse):=by obtain⟨zs,rfl,hp,hs,hz⟩:=h;refine⟨xs.take na++zs,by rw[sW,sW,Array.reverse_reverse,dB,dB,take_zero,vt],?_,fM (List.Pairwise.take g.sx) hs λa ha b hb=>hz b hb a (.inl ha)⟩;refine(hp.append_left _).trans ?_;rw[drop_zero,<-va,take_append_drop]
def MH.first(g:MG lt n xs ys)(h:MH lt it xs ys out na 1)(hy:ys[0]?=U y)(hl:∀x∈xs,lt y x=Y):Res lt it xs ys ((aP it ys).extract 0 1++(aP it xs).extract 0 na++out.reverse):=by
 obtain⟨zs,rfl,hp,hs,hz⟩:=h;have e:ys.take 1=[y]:=by rw[fC hy];rfl
 refine⟨[y]++xs.take na++zs,by rw[sW,sW,Array.reverse_reverse,dB,dB,e],?_,fM (fM (pairwise_singleton _ _) (List.Pairwise.take g.sx) λa ha b hb=>?_) hs λa ha b hb=>?_⟩;refine(hp.append_left _).trans ?_;rw[va,<-va (xs.take na),take_append_drop];refine perm_append_comm.trans ?_;rw[va];refine List.Perm.append_left _ (perm_append_comm.trans ?_);rw[<-e,take_append_drop];rw[vj.mp ha];exact hl b (mem_of_mem_take hb);rcases xp.mp ha with q|q;exact hz b hb a (.inr (by rw[e];exact q));exact hz b hb a (.inl q)
def aEn(g:MG lt n xs ys)(hn:na<=xs.length)(hy:ys[nb]?=U y):∃m,m<=na/\(∀i,i<na->(!lt y (xs.getD (0+i) 0))=decide (i<m))/\(∀i,i<na-m->∃x,xs[m+i]?=U x/\lt y x=Y)/\∀i x,i+1=m->xs[i]?=U x->lt x y=Y:=by obtain⟨m,m1,m2,m3,m4⟩:=aEo g (ia:=0) hy;have I:=u6 hy;refine⟨min m na,min_le_right _ _,λi hi=>?_,λi hi=>?_,λi x hi hx=>?_⟩;rw[m2 i zq];exact decide_eq_decide.mpr zq;have h1:=getD_at (l:=xs) (i:=min m na+i) zq;refine⟨_,h1,?_⟩;have:=m2 (min m na+i) zq;rw[uu zq,vo]at this;simpa using this;obtain⟨x',z,hl⟩:=m3 i zq;rw[vo,hx]at z;cases z;exact hl
def aEk(g:MG lt n xs ys)(hn:nb<=ys.length)(hx:xs[na]?=U x):∃m,m<=nb/\(∀i,i<nb->lt (ys.getD (0+i) 0) x=decide (i<m))/\(∀i,i<nb-m->∃y,ys[m+i]?=U y/\lt x y=Y)/\∀i y,i+1=m->ys[i]?=U y->lt y x=Y:=by obtain⟨m,m1,m2,m3,m4⟩:=aEm g (ib:=0) hx;have R:=u6 hx;refine⟨min m nb,min_le_right _ _,λi hi=>?_,λi hi=>?_,λi y hi hy=>?_⟩;rw[m2 i zq];exact decide_eq_decide.mpr zq;have h1:=getD_at (l:=ys) (i:=min m nb+i) zq;refine⟨_,h1,?_⟩;have:=m2 (min m nb+i) zq;rw[uu zq,vo]at this;have I:=u6 h1;exact g.o.tot _ _ (g.yn _ I) (g.xn x R) (λz=>g.ne x R _ I z.symm) this;obtain⟨y',W,hl⟩:=m3 i zq;rw[vo,hy]at W;cases W;exact hl
end
section
variable {prog:xt}{w:World}{A:Around}{E:xu}{κ:SortKind}{it:Array Keyed}{n:Nat}{lt:Nat->Nat->Bool}{s:Shared}{xs ys:List Nat}
def wQ(hc:gc prog w A κ it n lt s)(g:MG lt n xs ys)(hk:kindOf st=κ)(hy:ys[nb]?=U y)(hi:0<na)(hn:na<=xs.length)(hm:m<=na)(e:∀i,i<na->(!lt y (xs.getD (0+i) 0))=decide (i<m))(h:Q (U m) st):SK prog w A E s (gM J (kas_item it y) (aP it xs) 0 na (na-1)) Q st:=fU hc (q:=λi=>xs.getD (0+i) 0) hk (g.yn y (u6 hy)) (λi hi=>g.xn _ (u6 (getD_at zq))) (λi hi=>bK (getD_at zq)) (λi hi=>e i hi) hm zq h
def IM(hc:gc prog w A κ it n lt s)(g:MG lt n xs ys)(hk:kindOf st=κ)(hx:xs[na]?=U x)(hi:0<nb)(hn:nb<=ys.length)(hm:m<=nb)(e:∀i,i<nb->lt (ys.getD (0+i) 0) x=decide (i<m))(h:Q (U m) st):SK prog w A E s (gM Y (kas_item it x) (aP it ys) 0 nb (nb-1)) Q st:=fU hc (q:=λi=>ys.getD (0+i) 0) hk (g.xn x (u6 hx)) (λi hi=>g.yn _ (u6 (getD_at zq))) (λi hi=>bK (getD_at zq)) (λi hi=>e i hi) hm zq h
end
end Z
set_option maxHeartbeats 2000000
namespace Z
open PySem PySem.W PyProof.Rows
variable {out:Array Keyed}{na nb a m i lo n:Nat}{st:Stmt}{mg:xw}{b:IS}{N ps mus:List Str}{c:CC}{x y cn qual:Str}{vs:List Value}{p pos px qf p1 p2:Pos}{P:xt}{ks:List (Int×Int)}{h base:Heap}{w:World}{A:Around}{s:Shared}{xs:List σ}{K:xq}{es args:List Expr}{o:Option Nat}{X:Cx}{S:Addr->Prop}{B:List Sl}{e elt tg iter ie:Expr}{H H':Hp}{v:σ}{gs:List Comprehension}{sc:Scope}{is aj:List Nat}{tp fr:Bool}{ir kr:IE}{V:L2.St}{C:Addr}{E1:XK}{fd:xr}
section
variable {prog:xt}{w:World}{A:Around}{E:xu}{κ:SortKind}{it:Array Keyed}{n:Nat}{lt:Nat->Nat->Bool}{s:Shared}{xs ys:List Nat}
def MH.doneA'(g:MG lt n xs ys)(h:MH lt it xs ys out na nb)(e:na=0):Res lt it xs ys ((aP it xs).extract 0 na++(aP it ys).extract 0 nb++out.reverse):=by subst e;exact h.doneA g
def MH.doneB'(g:MG lt n xs ys)(h:MH lt it xs ys out na nb)(e:nb=0):Res lt it xs ys ((aP it xs).extract 0 na++(aP it ys).extract 0 nb++out.reverse):=by subst e;exact h.doneB g
def MH.cast{z I:Nat}(h:MH lt it xs ys out na nb)(e1:na=z)(e2:nb=I):MH lt it xs ys out z I:=by subst e1 e2;exact h
def HI(lt:Nat->Nat->Bool)(it:Array Keyed)(xs ys:List Nat)(st:SortSt)(W bz:Nat)(b:Option (Array Keyed)×Nat×Nat×Array Keyed×Nat×Nat×Nat)(aa:SortSt):Prop:=SS st aa/\∃z I R mg ac bc,b=(O,z,I,R,mg,ac,bc)/\MH lt it xs ys R z I/\0<z/\1<I/\z<=xs.length/\I<=ys.length/\z+I<=W+bz
def HQ(lt:Nat->Nat->Bool)(it:Array Keyed)(xs ys:List Nat)(st:SortSt)(W bz:Nat)(b:Option (Array Keyed)×Nat×Nat×Array Keyed×Nat×Nat×Nat)(aa:SortSt):Prop:=SS st aa/\((∃r rest,b=(U r,rest)/\Res lt it xs ys r)\/∃z I R mg ac bc,b=(O,z,I,R,mg,ac,bc)/\MH lt it xs ys R z I/\0<z/\1<I/\z<=xs.length/\I<=ys.length/\z+I<=W+bz)
def HI.mk{st aa:SortSt}{z bz mg ac bc:Nat}(s:SS st aa)(m:MH lt it xs ys out na nb)(h1:0<na)(h2:1<nb)(h3:na<=xs.length)(I:nb<=ys.length)(hr:na+nb<=z+bz):HI lt it xs ys st z bz (O,na,nb,out,mg,ac,bc) aa:=⟨s,_,_,_,_,_,_,rfl,m,h1,h2,h3,I,hr⟩
def HI.q{st aa:SortSt}{z bz:Nat}{b:Option (Array Keyed)×Nat×Nat×Array Keyed×Nat×Nat×Nat}(h:HI lt it xs ys st z bz b aa):HQ lt it xs ys st z bz b aa:=⟨h.1,.inr h.2⟩
abbrev hiE(it:Array Keyed)(xs ys:List Nat)(out:Array Keyed)(na nb:Nat):Array Keyed:=(aP it xs).extract 0 na++(aP it ys).extract 0 nb++out.reverse
abbrev hiF(it:Array Keyed)(xs ys:List Nat)(out:Array Keyed)(na nb:Nat):Array Keyed:=(aP it ys).extract 0 nb++(aP it xs).extract 0 na++out.reverse
abbrev hiT(it:Array Keyed)(xs ys:List Nat)(out:Array Keyed)(na nb mg ac bc:Nat):StateT SortSt Sem (ForInStep (Option (Array Keyed)×Nat×Nat×Array Keyed×Nat×Nat×Nat)):=elem' (aP it xs) (na-1) >>= λv=>if (na-1 == 0)=Y then pure (ForInStep.done (U (hiE it xs ys (out.push v) (na-1) nb),na-1,nb,out.push v,mg,ac,bc))
 else if (decide (ac<7)&&decide (bc<7))=Y then pure (ForInStep.done (O,na-1,nb,out.push v,mg,ac,bc)) else pure (ForInStep.yield (O,na-1,nb,out.push v,mg,ac,bc))
def AE(hc:gc prog w A κ it n lt s)(g:MG lt n xs ys){x0 y0 xl:Nat}(lu:xs[0]?=U x0)(lr:ys[0]?=U y0)(h1:lt y0 x0=Y)(qp:xs[xs.length-1]?=U xl)(h2:∀y∈ys,lt y xl=Y){st:SortSt}(hk:kindOf st=κ){Q:Array Keyed->SortSt->Prop}
  (h:∀r aa,Res lt it xs ys r->SS st aa->Q r aa):SK prog w A E s (xT (aP it xs) (aP it ys)) Q st:=by
 have lx:0<xs.length:=(u0.mp lu).1
 have ly:0<ys.length:=(u0.mp lr).1
 have sza:(aP it xs).size=xs.length:=aK
 have szb:(aP it ys).size=ys.length:=aK
 have hy0x:∀x∈xs,lt y0 x=Y:=λx hx=>by
  have:xs=x0::xs.drop 1:=by rw[<-eC lu,drop_zero]
  rw[this]at hx
  rcases vk.mp hx with e|hx
  .rw[e];exact h1
  .exact g.o.tra _ _ _ (g.yn y0 (u6 lr)) (g.xn x0 (u6 lu)) (g.xn x (mem_of_mem_drop hx)) h1 (jT g.sx lu x hx)
 have m1:MH lt it xs ys #[kas_item it xl] (xs.length-1) ys.length:=by
  refine⟨[xl],rfl,?_,pairwise_singleton _ _,λz hz v hv=>?_⟩
  .rw[eC qp,show xs.length-1+1=xs.length by lia,xi,xi]
   exact List.Perm.refl _
  .rw[vj.mp hz]
   rcases hv with hv|hv
   .exact lP g.sx qp v hv
   .rw[xh]at hv;exact h2 v hv
 have first:∀{out:Array Keyed} {na nb:Nat},MH lt it xs ys out na nb->nb=1->Res lt it xs ys ((aP it ys).extract 0 nb++(aP it xs).extract 0 na++out.reverse):=λ{out na nb} m e=>by
  subst e;exact m.first g lr hy0x
 unfold xT;refine aB (iC ?_);refine aB (bH (bK (by rw[aK];exact qp)) ?_)
 by_cases c1:xs.length-1=0
 .refine dR (by rw[aK];simpa using c1) ?_
  refine aF (h _ _ ?_ SS.refl);rw[aK,aK];exact m1.doneA' g c1
 refine dS (by rw[aK];simpa using c1) ?_
 by_cases c2:ys.length=1
 .refine dR (by rw[aK];simpa using c2) ?_
  refine aF (h _ _ ?_ SS.refl);rw[aK,aK];exact first m1 c2
 refine dS (by rw[aK];simpa using c2) ?_
 refine aB (eX ?_);refine aB (bS (iE (Q:=λb aa=>SS st aa/\∃r rest,b=(U r,rest)/\Res lt it xs ys r) (λi b aa=>SS st aa/\∃na nb out mg,b=(O,na,nb,out,mg)/\MH lt it xs ys out na nb/\0<na/\na<=xs.length/\1<nb/\nb<=ys.length/\na+nb+i+1<=xs.length+ys.length) ⟨SS.refl,_,_,_,_,rfl,m1.cast (by rw[aK]) (by rw[aK]),zq,zq,zq,zq,zq⟩ ?_ ?_) ?_)
 .rintro _ i b di ⟨s1,na,nb,out,mg,rfl,m,ha,oN,hb,o9,hr⟩;refine aB (bS (iE (Q:=λb aa=>SS st aa/\((∃r rest,b=(U r,rest)/\Res lt it xs ys r)\/∃R I ay ac bc,b=(O,R,I,ay,ac,bc)/\MH lt it xs ys ay R I/\0<R/\1<I/\R<=xs.length/\I<=ys.length/\R+I+1<=na+nb))
   (λj b aa=>SS st aa/\∃R I ay ac bc,b=(O,R,I,ay,ac,bc)/\MH lt it xs ys ay R I/\0<R/\1<I/\R<=xs.length/\I<=ys.length/\R+I+j<=na+nb) ⟨s1,_,_,_,_,_,rfl,m,ha,hb,oN,o9,by(try dsimp only);lia⟩ ?_ ?_) ?_)
  .rintro _ j b dt ⟨s2,R,I,out,ac,bc,rfl,m,dn,dh,cy,f7,fv⟩;clear sza szb lx ly c1 c2 ha oN hb o9 hr;have hx:=getD_at (l:=xs) (i:=R-1) zq
   have hy:=getD_at (l:=ys) (i:=I-1) zq
   generalize xs.getD (R-1) 0=x at hx;generalize ys.getD (I-1) 0=y at hy;have xm:=u6 hx
   have ym:=u6 hy
   have mm:=m.cast (show R=R-1+1 by lia) (show I=I-1+1 by lia)
   refine aB (bH (bK hy) (aB (bH (bK hx) (aB (wM hc (s2.1.trans hk) (g.yn y ym) (g.xn x xm) ?_)))))
   by_cases hl:lt y x=Y
   .refine dR hl ?_;refine aB (bH (bK hx) ?_);have m':=(mm.pushA g hx hy hl).cast rfl (show I-1+1=I by lia)
    by_cases e:R-1=0
    .refine dR (by simpa using e) ?_
     exact aF ⟨s2,.inl ⟨_,_,rfl,m'.doneA' g e⟩⟩
    .refine dS (by simpa using e) ?_
     split
     .exact aF ⟨s2,.inr ⟨_,_,_,_,_,rfl,m',by(try dsimp only);lia,dh,by(try dsimp only);lia,f7,by(try dsimp only);lia⟩⟩
     .exact aF ⟨s2,_,_,_,_,_,rfl,m',by(try dsimp only);lia,dh,by(try dsimp only);lia,f7,by(try dsimp only);lia⟩
   .refine dS hl ?_;have hl':lt x y=Y:=g.o.tot _ _ (g.yn y ym) (g.xn x xm) (λz=>g.ne x xm y ym z.symm) (by simpa using hl)
    refine aB (bH (bK hy) ?_);have m':=(mm.pushB g hx hy hl').cast (show R-1+1=R by lia) rfl
    by_cases e:I-1=1
    .refine dR (by simpa using e) ?_
     exact aF ⟨s2,.inl ⟨_,_,rfl,first m' e⟩⟩
    .refine dS (by simpa using e) ?_
     split
     .exact aF ⟨s2,.inr ⟨_,_,_,_,_,rfl,m',dn,by(try dsimp only);lia,cy,by(try dsimp only);lia,by(try dsimp only);lia⟩⟩
     .exact aF ⟨s2,_,_,_,_,_,rfl,m',dn,by(try dsimp only);lia,cy,by(try dsimp only);lia,by(try dsimp only);lia⟩
  .rintro b dt ⟨s2,R,I,out,ac,bc,rfl,m,dn,dh,cy,f7,fv⟩;rw[aK,aK]at fv;exact⟨s2,.inr ⟨_,_,_,_,_,rfl,m,dn,dh,cy,f7,zq⟩⟩
  .rintro b dt ⟨s2,⟨r,rest,rfl,hR⟩|⟨d5,bz,out,ac,bc,rfl,m,sr,sk,ha21,hb21,hr1⟩⟩
   .exact aF ⟨s2,_,_,rfl,hR⟩
   refine aB (iC ?_);refine aB (bS (iE (Q:=HQ lt it xs ys st d5 bz) (λ_=>HI lt it xs ys st d5 bz) ⟨s2,_,_,_,_,_,_,rfl,m,sr,sk,ha21,hb21,uq _⟩ ?_ ?_) ?_)
   .rintro _ j b kc ⟨s3,R,I,out,gf,ac',ji,rfl,m,dn,dh,cy,f7,fv⟩;clear sza szb lx ly c1 c2 ha oN hb o9 hr sr sk ha21 hb21 hr1;have hy:=getD_at (l:=ys) (i:=I-1) zq
    generalize ys.getD (I-1) 0=y at hy;obtain⟨k,k1,k2,k3,k4⟩:=aEn g (na:=R) cy hy;have mA:MH lt it xs ys (out++((aP it xs).extract k R).reverse) k (I-1+1):=by
     have:=MH.moveA g (na:=k) hy (R-k) (m.cast (show R=k+(R-k) by lia) (show I=I-1+1 by lia)) k3
     rw[show k+(R-k)=R by lia]at this
     exact this
    have sC:∀(fm:SortSt) (s4:SS st fm) (out:Array Keyed) (na nb mg ac bc x y:Nat),MH lt it xs ys out na nb->0<na->1<nb->na<=xs.length->nb<=ys.length->xs[na-1]?=U x->ys[nb-1]?=U y->lt y x=Y->na+nb<=d5+bz ->
      SK prog w A E s (hiT it xs ys out na nb mg ac bc) (sD (HQ lt it xs ys st d5 bz) (HI lt it xs ys st d5 bz)) fm:=λfm s4 out na nb mg ac bc x y m n1 n2 n3 n4 hx hy hl hr=>by
     unfold hiT;refine aB (bH (bK hx) ?_);have m2:=((m.cast (show na=na-1+1 by lia) (show nb=nb-1+1 by lia)).pushA g hx hy hl).cast rfl (show nb-1+1=nb by lia)
     by_cases e5:na-1=0
     .exact dR (by simpa using e5) (aF ⟨s4,.inl ⟨_,_,rfl,m2.doneA' g e5⟩⟩)
     refine dS (by simpa using e5) ?_
     have L:=HI.mk (mg:=mg) (ac:=ac) (bc:=bc) s4 m2 (Nat.pos_of_ne_zero e5) n2 zq n4 (by lia:na-1+nb<=d5+bz)
     by_cases e6:(decide (ac<7)&&decide (bc<7))=Y
     .exact dR e6 (aF L.q)
     .exact dS e6 (aF L)
    have bY:∀(fm:SortSt) (s4:SS st fm) (out:Array Keyed) (na mg ac bc x:Nat),MH lt it xs ys out na I->0<na->na<=xs.length->xs[na-1]?=U x->lt x y=Y->na+I<=d5+bz ->
      SK prog w A E s (elem' (aP it ys) (I-1) >>= λv=>if (I-1 == 1)=Y then pure (ForInStep.done (U (hiF it xs ys (out.push v) na (I-1)),na,I-1,out.push v,mg,ac,bc))
       else elem' (aP it xs) (na-1) >>= λx=>gM Y x (aP it ys) 0 (I-1) (I-1-1) >>= λr=>match r with
        |some k=>if I-1-k > 0 then(if (k == 1)=Y then pure (ForInStep.done (U (hiF it xs ys (out.push v++((aP it ys).extract k (I-1)).reverse) na k),na,k,out.push v++((aP it ys).extract k (I-1)).reverse,mg,ac,I-1-k))
          else if (k == 0)=Y then pure (ForInStep.done (U (hiE it xs ys (out.push v++((aP it ys).extract k (I-1)).reverse) na k),na,k,out.push v++((aP it ys).extract k (I-1)).reverse,mg,ac,I-1-k))
          else hiT it xs ys (out.push v++((aP it ys).extract k (I-1)).reverse) na k mg ac (I-1-k))
          else hiT it xs ys (out.push v) na (I-1) mg ac (I-1-k)
        |_=>pure (ForInStep.done (U (hiE it xs ys (out.push v) na (I-1)),na,I-1,out.push v,mg,ac,bc)))
       (sD (HQ lt it xs ys st d5 bz) (HI lt it xs ys st d5 bz)) fm:=λfm s4 out na mg ac bc x m n1 n3 hx hl hr=>by
     refine aB (bH (bK hy) ?_);have m':=((m.cast (show na=na-1+1 by lia) (show I=I-1+1 by lia)).pushB g hx hy hl)
     have mc:=m'.cast (show na-1+1=na by lia) rfl
     by_cases e3:I-1=1
     .exact dR (by simpa using e3) (aF ⟨s4,.inl ⟨_,_,rfl,first mc e3⟩⟩)
     refine dS (by simpa using e3) ?_
     refine aB (bH (bK hx) ?_);obtain⟨W,j1',j2',j3',ql⟩:=aEk g (nb:=I-1) zq hx
     refine aB (IM hc g (s4.1.trans hk) hx zq zq j1' j2' ?_)
     have mB:=MH.moveB g (nb:=W) hx (I-1-W) (m'.cast rfl (show I-1=W+(I-1-W) by lia)) j3'
     rw[show W+(I-1-W)=I-1 by lia]at mB
     have mb:=mB.cast (show na-1+1=na by lia) rfl
     by_cases rg:I-1-W > 0
     .refine dR rg ?_
      by_cases e4:W=1
      .exact dR (by simpa using e4) (aF ⟨s4,.inl ⟨_,_,rfl,first mb e4⟩⟩)
      refine dS (by simpa using e4) ?_
      by_cases e6:W=0
      .exact dR (by simpa using e6) (aF ⟨s4,.inl ⟨_,_,rfl,mb.doneB' g e6⟩⟩)
      refine dS (by simpa using e6) ?_
      have gh:=getD_at (l:=ys) (i:=W-1) zq
      exact sC _ s4 _ _ _ _ _ _ _ _ mb n1 zq n3 zq hx gh (ql (W-1) _ zq gh) zq
     .refine dS rg ?_;have gh:=getD_at (l:=ys) (i:=I-1-1) zq
      exact sC _ s4 _ _ _ _ _ _ _ _ mc n1 zq n3 zq hx gh (ql (I-1-1) _ zq gh) zq
    by_cases ja:gf > 1
    .refine dR ja ?_;refine aB (bO ?_);refine aB (bH (bK hy) ?_);refine aB (wQ hc g (s3.1.trans hk) hy dn cy k1 k2 ?_)
     by_cases fx:R-k > 0
     .refine dR fx ?_
      by_cases e1:k=0
      .exact dR (by simpa using e1) (aF ⟨s3,.inl ⟨_,_,rfl,(mA.cast rfl (show I-1+1=I by lia)).doneA' g e1⟩⟩)
      refine dS (by simpa using e1) ?_
      have hx:=getD_at (l:=xs) (i:=k-1) zq
      refine bY _ ?_ _ k (gf-1) (R-k) ji _ (mA.cast rfl (show I-1+1=I by lia)) zq zq hx (k4 (k-1) _ zq hx) zq
      exact s3
     .refine dS fx ?_;have hx:=getD_at (l:=xs) (i:=R-1) zq
      refine bY _ ?_ _ R (gf-1) (R-k) ji _ m dn cy hx (k4 (R-1) _ zq hx) fv
      exact s3
    .refine dS ja ?_;refine aB (bO ?_);refine aB (bH (bK hy) ?_);refine aB (wQ hc g (s3.1.trans hk) hy dn cy k1 k2 ?_)
     by_cases fx:R-k > 0
     .refine dR fx ?_
      by_cases e1:k=0
      .exact dR (by simpa using e1) (aF ⟨s3,.inl ⟨_,_,rfl,(mA.cast rfl (show I-1+1=I by lia)).doneA' g e1⟩⟩)
      refine dS (by simpa using e1) ?_
      have hx:=getD_at (l:=xs) (i:=k-1) zq
      refine bY _ ?_ _ k (gf) (R-k) ji _ (mA.cast rfl (show I-1+1=I by lia)) zq zq hx (k4 (k-1) _ zq hx) zq
      exact s3
     .refine dS fx ?_;have hx:=getD_at (l:=xs) (i:=R-1) zq
      refine bY _ ?_ _ R (gf) (R-k) ji _ m dn cy hx (k4 (R-1) _ zq hx) fv
      exact s3
   .rintro b kc ⟨s3,R,I,out,gf,ac',ji,rfl,m,dn,dh,cy,f7,fv⟩;exact⟨s3,.inr ⟨_,_,_,_,_,_,rfl,m,dn,dh,cy,f7,fv⟩⟩
   .rintro b kc ⟨s3,⟨r,rest,rfl,hR⟩|⟨na2,nb2,out,mg2,ac2,bc2,rfl,m,ha3,hb3,ha4,hb4,hr2⟩⟩
    .exact aF ⟨s3,_,_,rfl,hR⟩
    .dsimp only;refine aB (bO ?_);exact aF ⟨s3,_,_,_,_,rfl,m,ha3,ha4,hb3,hb4,zq⟩
 .rintro b di ⟨s1,na,nb,out,mg,rfl,m,ha,oN,hb,o9,hr⟩;rw[aK,aK]at hr;lia
 .rintro b di ⟨s1,r,rest,rfl,hR⟩;exact aF (h _ _ hR s1)
end
section
variable {prog:xt}{w:World}{A:Around}{E:xu}{κ:SortKind}{it:Array Keyed}{n:Nat}{lt:Nat->Nat->Bool}{s:Shared}{P:Array (Nat×Nat×Nat)}{p:Array Nat}
theorem wN{β:Type}{f:Nat->β->StateT SortSt Sem (ForInStep β)}{Q:β->SortSt->Prop}{N:Nat}(I:Nat->β->SortSt->Prop)(hf:∀x i b st,i<N->I i b st->SK prog w A E s (f x b) (λr aa=>match r with | .done b'=>Q b' aa | .yield b'=>I (i+1) b' aa) st):
  ∀(m a i:Nat) (b:β) (st:SortSt),i+m=N->I i b st->(∀b st,I N b st->Q b st)->SK prog w A E s (forIn (range' a m) b f) Q st
 | 0,a,i,b,st,hN,R,z=>by show SK prog w A E s (forIn [] b f) Q st;exact kasC_nil ⟨rfl,z b st (by rw[<-hN];exact R)⟩
 |m+1,a,i,b,st,hN,R,z=>by
  show SK prog w A E s (forIn (a::range' (a+1) m) b f) Q st;refine kasC_cons (wk (hf a i b st zq R) (λr s' hr=>?_) λ_ _ e=>e);obtain⟨r,aa⟩:=r;obtain⟨e,h⟩:=hr;rw[e];cases r with
  |done b'=>exact⟨rfl,h⟩
  |yield b'=>exact wN I hf m (a+1) (i+1) b' aa zq h z
def iD{β:Type}{f:Nat->β->StateT SortSt Sem (ForInStep β)}{Q:β->SortSt->Prop}{b:β}{st:SortSt}(I:Nat->β->SortSt->Prop)(h0:I 0 b st)(hf:∀x i b st,i<m-a->I i b st->SK prog w A E s (f x b) (λr aa=>match r with | .done b'=>Q b' aa | .yield b'=>I (i+1) b' aa) st)(z:∀b st,I (m-a) b st->Q b st):SK prog w A E s (forIn [a:m] b f) Q st:=
 kasC_range (wN I hf (m-a) a 0 b st zq h0 z)
theorem wO{β:Type}{f:Nat->β->StateT SortSt Sem (ForInStep β)}{Q:β->SortSt->Prop}{N:Nat}(I:Nat->β->SortSt->Prop)(hf:∀x b st,x<N->I x b st->SK prog w A E s (f x b) (λr aa=>match r with | .done b'=>Q b' aa | .yield b'=>I (x+1) b' aa) st):
  ∀(m a:Nat) (b:β) (st:SortSt),a+m=N->I a b st->(∀b st,I N b st->Q b st)->SK prog w A E s (forIn (range' a m) b f) Q st
 | 0,a,b,st,hN,R,z=>by show SK prog w A E s (forIn [] b f) Q st;exact kasC_nil ⟨rfl,z b st (by rw[<-hN];exact R)⟩
 |m+1,a,b,st,hN,R,z=>by
  show SK prog w A E s (forIn (a::range' (a+1) m) b f) Q st;refine kasC_cons (wk (hf a b st zq R) (λr s' hr=>?_) λ_ _ e=>e);obtain⟨r,aa⟩:=r;obtain⟨e,h⟩:=hr;rw[e];cases r with
  |done b'=>exact⟨rfl,h⟩
  |yield b'=>exact wO I hf m (a+1) b' aa zq h z
def RD{β:Type}{f:Nat->β->StateT SortSt Sem (ForInStep β)}{Q:β->SortSt->Prop}{b:β}{st:SortSt}(I:Nat->β->SortSt->Prop)(h0:I a b st)(hf:∀x b st,x<max a m->I x b st->SK prog w A E s (f x b) (λr aa=>match r with | .done b'=>Q b' aa | .yield b'=>I (x+1) b' aa) st)(z:∀b st,I (max a m) b st->Q b st):SK prog w A E s (forIn [a:m] b f) Q st:=
 kasC_range (wO I hf (m-a) a b st zq h0 z)
noncomputable def ts(κ:SortKind)(it:Array Keyed)(P:Array (Nat×Nat×Nat))(p:Array Nat):SortSt:=SortSt.mk' κ (p.map (kas_item it)) P 7 O
def sA(a:Prm n p)(hi:i<n):(p.map (kas_item it))[i]?=U (kas_item it (fp p i)):=by have hs:=a.size;rw[Array.getElem?_map];unfold fp;rw[getD_eq_getD_getElem?,Array.getElem?_eq_getElem zq];rfl
def lS(hc:gc prog w A κ it n lt s)(a:Prm n p){j:Nat}{Q:Option Bool->SortSt->Prop}(hi:i<n)(z:j<n)(h:Q (U (lt (fp p i) (fp p j))) (ts κ it P p)):SK prog w A E s (ltAt' i j) Q (ts κ it P p):=by rw[ltAt'_eq];refine aB (eX ?_);show SK prog w A E s (do let x <-elem' (p.map (kas_item it)) i;let y <-elem' (p.map (kas_item it)) j;lt' x y) Q (ts κ it P p);exact aB (bH (sA a hi) (aB (bH (sA a z) (wM hc rfl (a.lt hi) (a.lt z) h))))
def aAd{j:Nat}{Q:Unit->SortSt->Prop}(h:Q () (ts κ it P (kas_rev p i j))):SK prog w A E s (reverseSlice' i j) Q (ts κ it P p):=by rw[reverseSlice'_eq];refine bO ?_;have e1:mirror (p.map (kas_item it)) i j ((j-i) / 2)=(mirror p i j ((j-i) / 2)).map (kas_item it):=kas_swaps_map (kas_item it) (λk=>i+k) (λk=>j-1-k) _ p;show Q () (SortSt.mk' κ (mirror (p.map (kas_item it)) i j ((j-i) / 2)) P 7 O);rw[e1];exact h
def RB{k l:Nat}{Q:Unit->SortSt->Prop}(h:Q () (ts κ it P (bubble p k (k-l)))):SK prog w A E s (moveDown' k l) Q (ts κ it P p):=by rw[moveDown'_eq];refine bO ?_;have e1:bubble (p.map (kas_item it)) k (k-l)=(bubble p k (k-l)).map (kas_item it):=kas_swaps_map (kas_item it) (λi=>k-i) (λi=>k-i-1) _ p;show Q () (SortSt.mk' κ (bubble (p.map (kas_item it)) k (k-l)) P 7 O);rw[e1];exact h
def b8(lt:Nat->Nat->Bool)(p:Array Nat)(a b:Nat):Prop:=∀i j,a<=i->i<j->j<b->lt (fp p i) (fp p j)=Y
def uj(lt:Nat->Nat->Bool)(p:Array Nat)(a b:Nat):Prop:=∀i j,a<=i->i<j->j<b->lt (fp p j) (fp p i)=Y
def vF{j:Nat}(z:j<=p.size)(k:Nat):fp (kas_rev p i j) k=if i<=k/\k<j then fp p (i+j-1-k) else fp p k:=by have e:=getElem?_mirror_all (i:=i) z k;unfold kas_rev;by_cases h:i<=k/\k<j;rw[if_pos h];rw[if_pos h]at e;exact jK e;rw[if_neg h];rw[if_neg h]at e;exact jK e
def MA(o:Ord n lt)(a:Prm n p)(hm:lo+m<n)(h1:1<=m)(h:b8 lt p lo (lo+m))(hs:lt (fp p (lo+m-1)) (fp p (lo+m))=Y):b8 lt p lo (lo+(m+1)):=λi j hi z I=>by by_cases e:j=lo+m;rw[e];by_cases e':i=lo+m-1;rw[e'];exact hs;exact o.tra _ _ _ (a.lt zq) (a.lt zq) (a.lt zq) (h i (lo+m-1) hi zq zq) hs;exact h i j hi z zq
def OS(o:Ord n lt)(a:Prm n p)(hm:lo+m<n)(h1:1<=m)(h:uj lt p lo (lo+m))(hs:lt (fp p (lo+m)) (fp p (lo+m-1))=Y):uj lt p lo (lo+(m+1)):=λi j hi z I=>by by_cases e:j=lo+m;rw[e];by_cases e':i=lo+m-1;rw[e'];exact hs;exact o.tra _ _ _ (a.lt zq) (a.lt zq) (a.lt zq) hs (h i (lo+m-1) hi zq zq);exact h i j hi z zq
theorem PN(hc:gc prog w A κ it n lt s)(o:Ord n lt)(a:Prm n p){R m0:Nat}(h1:1<=m0)(hle:m0<=R)(hn:lo+R<=n)(hi:b8 lt p lo (lo+m0)):
  SK prog w A E s (forIn [m0:R] ((O,m0):Option (Option Nat)×Nat) λx W=>do
   let tE <-ltAt' (lo+W.snd) (lo+W.snd-1);match tE with
    |some I=>if I=Y then pure (ForInStep.done (O,W.snd)) else pure (ForInStep.yield (O,W.snd+1))
    |x=>pure (ForInStep.done (U O,W.snd))) (λb st=>st=ts κ it P p/\∃m,b=(O,m)/\m0<=m/\m<=R/\b8 lt p lo (lo+m)/\(m<R->lt (fp p (lo+m)) (fp p (lo+m-1))=Y)) (ts κ it P p):=by
 refine iD (λi b st=>st=ts κ it P p/\b=(O,m0+i)/\b8 lt p lo (lo+(m0+i))) ⟨rfl,rfl,hi⟩ ?_ ?_;rintro x i b st bt ⟨rfl,rfl,h⟩;dsimp only;have l1:lo+(m0+i)<n:=by lia
 have l2:lo+(m0+i)-1<n:=by lia
 refine aB (lS hc a l1 l2 ?_);dsimp only;by_cases c:lt (fp p (lo+(m0+i))) (fp p (lo+(m0+i)-1))=Y;rw[if_pos c];exact aF ⟨rfl,_,rfl,zq,zq,h,λ_=>c⟩;rw[if_neg c];exact aF ⟨rfl,rfl,MA (m:=m0+i) o a l1 zq h (o.tot _ _ (a.lt l1) (a.lt l2) (a.ne l1 l2 (show lo+(m0+i)≠lo+(m0+i)-1 by lia)) (by simpa using c))⟩;rintro b st ⟨rfl,rfl,h⟩;exact⟨rfl,_,rfl,zq,zq,h,λz=>by lia⟩
def yM(hc:gc prog w A κ it n lt s)(o:Ord n lt)(a:Prm n p){I:Nat}(h1:1<=I)(hn:lo+I<=n){Q:Option Nat->SortSt->Prop}(h:∀m p',Prm n p'->1<=m->m<=I->(∀i,i<lo->fp p' i=fp p i)->b8 lt p' lo (lo+m)->Q (U m) (ts κ it P p')):SK prog w A E s (countRun' lo I) Q (ts κ it P p):=by
 have sz:=a.size;unfold countRun';refine aB (bS (PN hc o a (uq 1) h1 hn λi j _ _ _=>by lia) ?_);rintro b st ⟨rfl,m,rfl,g1,g2,g3,g4⟩;dsimp only;by_cases e1:(m == I)=Y;rw[if_pos e1];exact aF (h m p a g1 g2 (λ_ _=>rfl) g3);rw[if_neg e1];have e1':m≠I:=λz=>e1 (by rw[z];exact beq_self_eq_true _);by_cases e2:m > 1;rw[if_pos e2];refine aB (lS hc a zq zq ?_);dsimp only;rw[if_pos (g3 lo (lo+m-1) (uq _) zq zq)];exact aF (h m p a g1 g2 (λ_ _=>rfl) g3);rw[if_neg e2];have em:m=1:=by lia
 subst em;refine aB (iC ?_);have d2:uj lt p lo (lo+2):=λi j hi da W=>by rw[show i=lo by lia,show j=lo+1 by lia];exact g4 zq
 refine aB (bS (iD (Q:=λb st=>st=ts κ it P p/\∃m,b=((O,m,0):Option (Option Nat)×Nat×Nat)/\2<=m/\m<=I/\uj lt p lo (lo+m)) (λi b st=>st=ts κ it P p/\b=(O,1+1+i,0)/\uj lt p lo (lo+(1+1+i))) ⟨rfl,rfl,d2⟩ ?_ ?_) ?_);rintro x i b st bt ⟨rfl,rfl,d⟩;dsimp only;have R:lo+(1+1+i)<n:=by lia
 have l2:lo+(1+1+i)-1<n:=by lia
 refine aB (lS hc a R l2 ?_);dsimp only;by_cases c:lt (fp p (lo+(1+1+i))) (fp p (lo+(1+1+i)-1))=Y;rw[if_pos c,if_neg zq];exact aF ⟨rfl,rfl,OS (m:=1+1+i) o a R zq d c⟩;rw[if_neg c];refine aB (lS hc a l2 R ?_);dsimp only;rw[if_pos (o.tot _ _ (a.lt R) (a.lt l2) (a.ne R l2 zq) (by simpa using c))];exact aF ⟨rfl,_,rfl,zq,zq,d⟩;rintro b st ⟨rfl,rfl,d⟩;exact⟨rfl,_,rfl,zq,zq,d⟩;rintro b st ⟨rfl,m,rfl,k1,k2,d⟩;dsimp only;rw[if_neg zq];refine aB (aAd ?_);have W:lo+m<=p.size:=by lia
 have a':Prm n (kas_rev p lo (lo+m)):=a.perm (mirror_perm _ _ _ _);have i':b8 lt (kas_rev p lo (lo+m)) lo (lo+m):=λi j hi da rh=>by rw[vF W,vF W,if_pos ⟨zq,zq⟩,if_pos ⟨zq,rh⟩];exact d _ _ zq zq zq
 refine aB (bS (PN hc o a' zq k2 hn i') ?_);rintro b st ⟨rfl,m',rfl,q1,q2,q3,q4⟩;exact aF (h m' _ a' zq q2 (λi hi=>by rw[vF W,if_neg zq]) q3)
theorem JK(hc:gc prog w A κ it n lt s)(o:Ord n lt)(a:Prm n p){k:Nat}(hk:lo+k<n)(h:b8 lt p lo (lo+k)):
  SK prog w A E s (forIn [0:k] ((O,0,k):Option Bool×Nat×Nat) λx z=>
   if z.snd.fst >= z.snd.snd then pure (ForInStep.done (O,z.snd.fst,z.snd.snd))
   else do
    let tE <-ltAt' (lo+k) (lo+(z.snd.fst+z.snd.snd) / 2);match tE with
     |some I=>if I=Y then pure (ForInStep.yield (O,z.snd.fst,(z.snd.fst+z.snd.snd) / 2)) else pure (ForInStep.yield (O,(z.snd.fst+z.snd.snd) / 2+1,z.snd.snd))
     |x=>pure (ForInStep.done (U J,z.snd.fst,z.snd.snd))) (λb st=>st=ts κ it P p/\∃l r,b=(O,l,r)/\l<=k/\(∀i,i<l->lt (fp p (lo+i)) (fp p (lo+k))=Y)/\(∀i,l<=i->i<k->lt (fp p (lo+k)) (fp p (lo+i))=Y)) (ts κ it P p):=by
 refine iD (λt b st=>st=ts κ it P p/\∃l r,b=(O,l,r)/\l<=r/\r<=k/\r+t<=k+l/\(∀i,i<l->lt (fp p (lo+i)) (fp p (lo+k))=Y)/\(∀i,r<=i->i<k->lt (fp p (lo+k)) (fp p (lo+i))=Y)) ⟨rfl,_,_,rfl,zq,zq,zq,λi hi=>by lia,λi h1 h2=>by lia⟩ ?_ ?_;rintro x t b st ht ⟨rfl,l,r,rfl,h1,h2,h3,W,h5⟩;clear ht;dsimp only;by_cases c:l >= r;rw[if_pos c];exact aF ⟨rfl,_,_,rfl,zq,W,λi z1 R=>h5 i zq R⟩;rw[if_neg c];have l2:lo+(l+r) / 2<n:=by lia
 refine aB (lS hc a hk l2 ?_);dsimp only;by_cases d:lt (fp p (lo+k)) (fp p (lo+(l+r) / 2))=Y;rw[if_pos d];refine aF ⟨rfl,_,_,rfl,zq,zq,zq,W,λi z1 R=>?_⟩;by_cases e:i=(l+r) / 2;rw[e];exact d;exact o.tra _ _ _ (a.lt hk) (a.lt l2) (a.lt zq) d (h _ _ zq zq zq);rw[if_neg d];have d':=o.tot _ _ (a.lt hk) (a.lt l2) (a.ne hk l2 zq) (by simpa using d);refine aF ⟨rfl,_,_,rfl,zq,zq,zq,λi z1=>?_,h5⟩;by_cases e:i=(l+r) / 2;rw[e];exact d';exact o.tra _ _ _ (a.lt zq) (a.lt l2) (a.lt hk) (h _ _ zq zq zq) d';rintro b st ⟨rfl,l,r,rfl,h1,h2,h3,W,h5⟩;exact⟨rfl,_,_,rfl,zq,W,λi z1 R=>h5 i zq R⟩
def PD(hc:gc prog w A κ it n lt s)(o:Ord n lt)(a:Prm n p){ok:Nat}(h1:1<=ok)(hm:ok<=m)(hn:lo+m<=n)(hi:b8 lt p lo (lo+ok)){Q:Bool->SortSt->Prop}(h:∀p',Prm n p'->(∀i,i<lo->fp p' i=fp p i)->b8 lt p' lo (lo+m)->Q Y (ts κ it P p')):SK prog w A E s (binarySort' lo m ok) Q (ts κ it P p):=by
 rw[binarySort'_eq,Nat.max_eq_left h1];refine aB (bS (RD (Q:=λb st=>b=((O,()):Option Bool×Unit)/\∃p',st=ts κ it P p'/\Prm n p'/\(∀i,i<lo->fp p' i=fp p i)/\b8 lt p' lo (lo+m)) (λk b st=>b=(O,())/\∃p',st=ts κ it P p'/\Prm n p'/\(∀i,i<lo->fp p' i=fp p i)/\b8 lt p' lo (lo+k)) ⟨rfl,p,rfl,a,λ_ _=>rfl,hi⟩ ?_ ?_) ?_);rintro k b st hk ⟨rfl,p',rfl,R,W,I⟩;have sz:=R.size;refine aB (bS (JK hc o R zq I) ?_);rintro b st ⟨rfl,l,r,rfl,g1,g2,g3⟩;refine aB (RB (aF ⟨rfl,_,rfl,R.perm (bubble_perm _ _ _),λi z=>?_,λi j z1 z2 z3=>?_⟩));rw[nR zq zq,if_neg zq,if_neg zq,W i z];have e1:=nR (p:=p') (k:=lo+k) (d:=lo+k-(lo+l)) zq zq i;have e2:=nR (p:=p') (k:=lo+k) (d:=lo+k-(lo+l)) zq zq j;rw[e1,e2];have ek:lo+k-(lo+k-(lo+l))=lo+l:=by lia
 rw[ek];by_cases c1:i=lo+l;rw[if_pos c1,if_neg zq,if_pos zq];rw[show j-1=lo+(j-1-lo) by lia];exact g3 _ zq zq;rw[if_neg c1];by_cases c2:lo+l<i/\i<=lo+k;rw[if_pos c2,if_neg zq,if_pos zq];exact I _ _ zq zq zq;rw[if_neg c2];by_cases c3:j=lo+l;rw[if_pos c3,show i=lo+(i-lo) by lia];exact g2 _ zq;rw[if_neg c3];by_cases c4:lo+l<j/\j<=lo+k;rw[if_pos c4];exact I _ _ zq zq zq;rw[if_neg c4];exact I _ _ zq zq zq;rintro b st ⟨rfl,p',rfl,R,W,I⟩;rw[show max ok m=m by lia]at I;exact⟨rfl,p',rfl,R,W,I⟩;rintro b st ⟨rfl,p',rfl,R,W,I⟩;exact aF (h p' R W I)
end
section
variable {prog:xt}{w:World}{A:Around}{E:xu}{κ:SortKind}{it:Array Keyed}{n:Nat}{lt:Nat->Nat->Bool}{s:Shared}{P:Array (Nat×Nat×Nat)}{p:Array Nat}
def MQ{l:List Nat}(h:i<l.length):l[i]?=U (fp l.toArray i):=by unfold fp;rw[getD_eq_getD_getElem?,List.getElem?_toArray,uk h];rfl
def sl(l:List Nat)(a b:Nat):List Nat:=(l.drop a).take (b-a)
def sG{l:List Nat}{b:Nat}(h:a+i<b)(hb:b<=l.length):(sl l a b)[i]?=U (fp l.toArray (a+i)):=by unfold sl;rw[List.getElem?_take,if_pos zq,getElem?_drop,MQ zq]
def jV{l:List Nat}{b:Nat}(hb:b<=l.length):(sl l a b).length=b-a:=by unfold sl;rw[w9,xj];lia
def zK{l:List Nat}{b c:Nat}(h1:a<=b)(h2:b<=c):sl l a b++sl l b c=sl l a c:=by unfold sl;rw[show c-a=(b-a)+(c-b) by lia,List.take_add,List.drop_drop,show a+(b-a)=b by lia]
def aAb{l:List Nat}:sl l 0 l.length=l:=by unfold sl;rw[drop_zero,Nat.sub_zero,xh]
def fX{l:List Nat}{b x:Nat}(hb:b<=l.length)(h:x∈sl l a b):∃i,a<=i/\i<b/\x=fp l.toArray i:=by obtain⟨i,e⟩:=List.getElem?_of_mem h;have hi:=(u0.mp e).1;rw[jV hb]at hi;rw[sG zq hb]at e;exact⟨a+i,zq,zq,(v8 e).symm⟩
def BZ{l:List Nat}{b:Nat}(hb:b<=l.length)(h:b8 lt l.toArray a b):So lt (sl l a b):=by refine List.pairwise_iff_getElem.mpr λi j hi R W=>?_;have z:=hi;have I:=R;rw[jV hb]at z I;rw[(u0.mp (sG (l:=l) (a:=a) (b:=b) (i:=i) zq hb)).2,(u0.mp (sG (l:=l) (a:=a) (b:=b) (i:=j) zq hb)).2];exact h _ _ zq zq zq
def aBD{l:List Nat}(h:So lt l):b8 lt l.toArray 0 l.length:=λi j _ I z=>IJ h (MQ zq) (MQ z) I
def JE{sa:Nat}(zs:List Keyed):∀(k:Nat) (X R D:List Keyed),R.length=zs.length->X.length=sa+k->(zs.zipIdx k).foldl (λa (x:Keyed×Nat)=>a.setIfInBounds (sa+x.2) x.1) (X++(R++D)).toArray=(X++(zs++D)).toArray:=by
 induction zs with
 |nil=>intro k X R D h hx;rw[vv.mp h];rfl
 |cons z zs W=>
  intro k X R D h hx;obtain⟨y,I,rfl⟩:∃y I,R=y::I:=by
   cases R with
   |nil=>cases h
   |cons y I=>exact⟨y,I,rfl⟩
  have e:(X++(y::I++D)).toArray.setIfInBounds (sa+k) z=((X++[z])++(I++D)).toArray:=by rw[List.setIfInBounds_toArray,<-hx,List.set_append_right _ _ (uq _),Nat.sub_self];simp
  show (zs.zipIdx (k+1)).foldl _ ((X++(y::I++D)).toArray.setIfInBounds (sa+k) z)=_;rw[e,W (k+1) (X++[z]) I D (Nat.succ.inj h) (by rw[vp,hx];rfl)];simp
def AF(hc:gc prog w A κ it n lt s)(o:Ord n lt){l:List Nat}(a:Prm n l.toArray){n1 pw:Nat}(h1:0<n1)(h2:n1<n)(i1:b8 lt l.toArray 0 n1)(i2:b8 lt l.toArray n1 n){Q:Bool->SortSt->Prop} (h:∀aa p',arrOf aa=p'.map (kas_item it)->failedOf aa=O->pendingOf aa=#[(0,n,pw)]->Prm n p'->b8 lt p' 0 n->Q Y aa):SK prog w A E s (mergeAt' 0) Q (ts κ it #[(0,n1,pw),(n1,n-n1,0)] l.toArray):=by
 have sz:l.length=n:=by have:=a.size;simpa using this
 have pm:l.Perm (List.range n):=a.pm;have nd:l.Nodup:=pm.nodup_iff.mpr List.nodup_range;have arr:l.toArray.map (kas_item it)=aP it l:=by unfold aP;simp
 obtain⟨k,hk,ek⟩:=bound n1 (λi=>!lt (fp l.toArray n1) (fp l.toArray i)) λi j da hj hf=>by have c:=o.tot _ _ (a.lt h2) (a.lt (show j<n by lia)) (a.ne h2 (show j<n by lia) zq) (by simpa using hf);have d:=o.tra _ _ _ (a.lt (show i<n by lia)) (a.lt (show j<n by lia)) (a.lt h2) (i1 i j zq da hj) c;show (!lt (fp l.toArray n1) (fp l.toArray i))=Y;rw[o.asy _ _ (a.lt (show i<n by lia)) (a.lt h2) d];rfl
 obtain⟨m,hm0,em⟩:=bound (n-n1) (λi=>lt (fp l.toArray (n1+i)) (fp l.toArray (n1-1))) λi j da hj hf=>o.tra _ _ _ (a.lt (show n1+i<n by lia)) (a.lt (show n1+j<n by lia)) (a.lt (show n1-1<n by lia)) (i2 (n1+i) (n1+j) zq zq zq) hf
 have hm:n1+m<=n:=by lia
 clear hm0;have lo:∀i,i<k->lt (fp l.toArray i) (fp l.toArray n1)=Y:=λi hi=>by have:=ek i zq;rw[vy hi]at this;exact o.tot _ _ (a.lt h2) (a.lt (show i<n by lia)) (a.ne h2 (show i<n by lia) zq) (by simpa using this)
 have hi:∀i,n1+m<=i->i<n->lt (fp l.toArray (n1-1)) (fp l.toArray i)=Y:=λi z1 I=>by have:=em (i-n1) zq;rw[uu zq,show n1+(i-n1)=i by lia]at this;exact o.tot _ _ (a.lt I) (a.lt (show n1-1<n by lia)) (a.ne I (show n1-1<n by lia) zq) this
 have R:lt (fp l.toArray (n1-1)) (fp l.toArray n1)=Y->b8 lt l.toArray 0 n:=λz i j _ da hj=>by
  by_cases c:j<n1;exact i1 i j zq da c;by_cases d:n1<=i;exact i2 i j d da hj;have b1:lt (fp l.toArray i) (fp l.toArray n1)=Y:=by by_cases e:i=n1-1;rw[e];exact z;exact o.tra _ _ _ (a.lt (show i<n by lia)) (a.lt (show n1-1<n by lia)) (a.lt h2) (i1 i (n1-1) zq zq zq) z
  by_cases e:j=n1;rw[e];exact b1;exact o.tra _ _ _ (a.lt (show i<n by lia)) (a.lt h2) (a.lt hj) b1 (i2 n1 j zq zq hj)
 have pend:(((#[(0,n1,pw),(n1,n-n1,0)]:Array (Nat×Nat×Nat)).setIfInBounds 0 (0,n1+(n-n1),pw)).eraseIdxIfInBounds (0+1))=#[(0,n,pw)]:=by rw[show n1+(n-n1)=n by lia];simp[Array.eraseIdxIfInBounds]
 unfold mergeAt';refine aB (eX ?_);refine aB (aAc ?_);refine aB (bH (sA a h2) ?_);refine aB (fU hc (m:=k) (q:=λi=>fp l.toArray i) rfl (a.lt h2) (λi z=>a.lt zq) (λi z=>by rw[vo];exact sA a zq) ek hk h1 ?_);dsimp only;by_cases c1:n1-k=0;rw[if_pos (by rw[c1];rfl)];refine aF (h _ l.toArray rfl rfl pend a (R (lo _ zq)));rw[if_neg (by simpa using c1)];have ck:k<n1:=by lia
 clear c1;have eb:0+k+(n1-k)-1=n1-1:=by lia
 refine aB (bH (x:=kas_item it (fp l.toArray (n1-1))) (by rw[eb];exact sA a zq) ?_);refine aB (fU hc (m:=m) (q:=λi=>fp l.toArray (n1+i)) rfl (a.lt zq) (λi z=>a.lt zq) (λi z=>sA a zq) em zq zq ?_);dsimp only;by_cases c2:m=0;rw[if_pos (by rw[c2];rfl)];refine aF (h _ l.toArray rfl rfl pend a (R (hi n1 zq h2)));rw[if_neg (by simpa using c2)];have ex:(arrOf (ts κ it #[(0,n1,pw),(n1,n-n1,0)] l.toArray)).extract (0+k) n1=aP it (sl l k n1):=by show (l.toArray.map (kas_item it)).extract (0+k) n1=_;rw[arr,dZ,vo];rfl
 have ey:(arrOf (ts κ it #[(0,n1,pw),(n1,n-n1,0)] l.toArray)).extract n1 (n1+m)=aP it (sl l n1 (n1+m)):=by show (l.toArray.map (kas_item it)).extract n1 (n1+m)=_;rw[arr,dZ];rfl
 have hl:sl l 0 k++((sl l k n1++sl l n1 (n1+m))++sl l (n1+m) n)=l:=by rw[zK hk zq,zK zq zq,zK zq zq,<-sz,aAb]
 have mn:∀{x a b},b<=n->x∈sl l a b->x<n:=λ{x a' b} hb hx=>by obtain⟨i,_,z,rfl⟩:=fX zq hx;exact a.lt zq
 have g:MG lt n (sl l k n1) (sl l n1 (n1+m)):=⟨o,λx=>mn zq,λx=>mn zq,BZ zq λi j z1 I z3=>i1 i j zq I z3,BZ zq λi j z1 I z3=>i2 i j z1 I zq,λx hx y hy=>by obtain⟨i,u1,u2,rfl⟩:=fX zq hx;obtain⟨j,v1,W,rfl⟩:=fX zq hy;exact a.ne zq zq zq⟩;have x0:(sl l k n1)[0]?=U (fp l.toArray k):=sG zq zq;have y0:(sl l n1 (n1+m))[0]?=U (fp l.toArray n1):=sG zq zq;have xl:(sl l k n1)[(sl l k n1).length-1]?=U (fp l.toArray (n1-1)):=by rw[jV zq,sG zq zq,show k+(n1-k-1)=n1-1 by lia]
 have q1:lt (fp l.toArray n1) (fp l.toArray k)=Y:=by have:=ek k zq;rw[uu (we k)]at this;simpa using this
 have q2:∀y∈sl l n1 (n1+m),lt y (fp l.toArray (n1-1))=Y:=λy hy=>by obtain⟨j,v1,W,rfl⟩:=fX zq hy;have:=em (j-n1) zq;rw[vy zq,show n1+(j-n1)=j by lia]at this;exact this
 have fin:∀r aa,Res lt it (sl l k n1) (sl l n1 (n1+m)) r->SS (SortSt.mk' κ (l.toArray.map (kas_item it)) ((#[(0,n1,pw),(n1,n-n1,0)]:Array (Nat×Nat×Nat)).setIfInBounds 0 (0,n1+(n-n1),pw) |>.eraseIdxIfInBounds (0+1)) 7 O) aa ->
   SK prog w A E s (do modify λs=>setArr s (r.toList.zipIdx.foldl (λa (x:Keyed×Nat)=>a.setIfInBounds (0+k+x.2) x.1) (arrOf s));return (failedOf (<-get)).isNone) Q aa:=λr aa hr hs=>by
  obtain⟨zs,rfl,zp,zo⟩:=hr;refine aB (bO (aB (eX (aF ?_))));have ha:(aP it zs).toList.zipIdx.foldl (λa (x:Keyed×Nat)=>a.setIfInBounds (0+k+x.2) x.1) (arrOf aa)=(sl l 0 k++(zs++sl l (n1+m) n)).toArray.map (kas_item it):=by
   rw[hs.2.1];show (aP it zs).toList.zipIdx.foldl (λa (x:Keyed×Nat)=>a.setIfInBounds (0+k+x.2) x.1) (l.toArray.map (kas_item it))=_;have e1:l.toArray.map (kas_item it)=((sl l 0 k).map (kas_item it)++(((sl l k n1++sl l n1 (n1+m)).map (kas_item it))++(sl l (n1+m) n).map (kas_item it))).toArray:=by rw[<-x5,<-x5,hl];simp
   rw[e1];refine(JE (zs.map (kas_item it)) 0 ((sl l 0 k).map (kas_item it)) ((sl l k n1++sl l n1 (n1+m)).map (kas_item it)) ((sl l (n1+m) n).map (kas_item it)) (by rw[uo,uo,zp.length_eq]) (by rw[uo,jV zq];lia)).trans ?_;simp
  show Q ((failedOf aa).isNone) _;rw[hs.2.2.2];have pm':(sl l 0 k++(zs++sl l (n1+m) n)).Perm l:=by have:=((zp.append_right (sl l (n1+m) n)).append_left (sl l 0 k));rwa [hl]at this
  have so':So lt (sl l 0 k++(zs++sl l (n1+m) n)):=by
   have up:∀i j,i<k->n1<=j->j<n->lt (fp l.toArray i) (fp l.toArray j)=Y:=λi j z1 I z3=>by by_cases e:j=n1;rw[e];exact lo i z1;exact o.tra _ _ _ (a.lt (show i<n by lia)) (a.lt h2) (a.lt z3) (lo i z1) (i2 n1 j zq zq z3)
   refine fM (BZ zq λi j z1 I z3=>i1 i j z1 I zq) (fM zo (BZ zq λi j z1 I z3=>i2 i j zq I z3) λz hz d hd=>?_) λx hx y hy=>?_;obtain⟨j,v1,W,rfl⟩:=fX zq hd;rcases xp.mp (zp.mem_iff.mp hz) with hz|hz;obtain⟨i,u1,u2,rfl⟩:=fX zq hz;by_cases e:i=n1-1;rw[e];exact hi j v1 W;exact o.tra _ _ _ (a.lt (show i<n by lia)) (a.lt (show n1-1<n by lia)) (a.lt W) (i1 i (n1-1) zq zq zq) (hi j v1 W);obtain⟨i,u1,u2,rfl⟩:=fX zq hz;exact i2 i j u1 zq W;obtain⟨i,u1,u2,rfl⟩:=fX zq hx;rcases xp.mp hy with hy|hy;rcases xp.mp (zp.mem_iff.mp hy) with hy|hy;obtain⟨j,v1,W,rfl⟩:=fX zq hy;exact i1 i j zq zq W;obtain⟨j,v1,W,rfl⟩:=fX zq hy;exact up i j u2 v1 zq;obtain⟨j,v1,W,rfl⟩:=fX zq hy;exact up i j u2 zq W
  have len':(sl l 0 k++(zs++sl l (n1+m) n)).length=n:=pm'.length_eq.trans sz;have in':=aBD so';rw[len']at in';exact h _ _ ha hs.2.2.2 (hs.2.2.1.trans pend) ⟨pm'.trans pm⟩ in'
 rw[ex,ey];by_cases c3:n1-k<=m;rw[if_pos c3];exact aB (AD hc g x0 y0 q1 xl q2 rfl λr aa hr hs=>fin r aa hr hs);rw[if_neg c3];exact aB (AE hc g x0 y0 q1 xl q2 rfl λr aa hr hs=>fin r aa hr hs)
end
section
variable {prog:xt}{w:World}{A:Around}{E:xu}{κ:SortKind}{it:Array Keyed}{n:Nat}{lt:Nat->Nat->Bool}{s:Shared}
def ua(κ:SortKind)(it:Array Keyed)(n:Nat)(lt:Nat->Nat->Bool)(i lo:Nat)(st:SortSt):Prop:=(i=0/\lo=0/\∃p,st=ts κ it #[] p/\Prm n p) \/(1<=i/\0<lo/\lo<=n/\(lo<n->i=1/\n=64/\32<=lo)/\∃p,st=ts κ it #[(0,lo,0)] p/\Prm n p/\b8 lt p 0 lo) \/(lo=n/\∃p n1 z,0<n1/\n1<n/\st=ts κ it #[(0,n1,z),(n1,n-n1,0)] p/\Prm n p/\b8 lt p 0 n1/\b8 lt p n1 n)
def FV(h:n<64):minRun' n n 0=n:=by
 cases n with
 |zero=>rfl
 |succ r=>rw[minRun'_succ,if_pos h]
def FW:minRun' 64 64 0=32:=rfl
def RH(hc:gc prog w A κ it n lt s)(o:Ord n lt)(h2:2<=n)(h64:n<=64){Q:Unit->SortSt->Prop}(h:∀aa p',arrOf aa=p'.map (kas_item it)->failedOf aa=O->Prm n p'->b8 lt p' 0 n->Q () aa):SK prog w A E s sortRuns' Q (ts κ it #[] (List.range n).toArray):=by
 have hmr:∃R,minRun' n n 0=R/\R<=n/\(n<64->R=n)/\(n=64->R=32):=by
  by_cases e:n<64;exact⟨n,FV e,uq _,λ_=>rfl,λz=>by lia⟩;obtain rfl:n=64:=by lia
  exact⟨32,FW,zq,λz=>by lia,λ_=>rfl⟩
 obtain⟨R,hmr,m1,m2,m3⟩:=hmr;rw[sortRuns'_eq];refine aB (eX ?_);have hsz:(arrOf (ts κ it #[] (List.range n).toArray)).size=n:=by show ((List.range n).toArray.map (kas_item it)).size=n;simp
 dsimp only;rw[hsz,hmr];refine aB (bS (iD (Q:=λb st=>∃i lo,b=(O,lo)/\ua κ it n lt i lo st/\n<=lo) (λi b st=>∃lo,b=(O,lo)/\ua κ it n lt i lo st) ⟨0,rfl,.inl ⟨rfl,rfl,_,rfl,⟨.refl _⟩⟩⟩ ?_ ?_) ?_);rintro x i b st hi ⟨lo,rfl,hS⟩;dsimp only;by_cases hge:lo >= n;rw[if_pos hge];exact aF ⟨i,lo,rfl,hS,hge⟩;rw[if_neg hge];rcases hS with ⟨rfl,rfl,p,rfl,a⟩|⟨hi1,q8,hln,h64',p,rfl,a,i1⟩|⟨e,_⟩;have I:∀m p',Prm n p'->b8 lt p' 0 (0+m)->0<m->m<=n->R<=m->SK prog w A E s (do
   modify λs=>setPending s ((pendingOf s).push (0,m,0))
   pure (ForInStep.yield ((O,0+m):Option Unit×Nat))) (λr aa=>match r with | .done b'=>∃i lo,b'=(O,lo)/\ua κ it n lt i lo aa/\n<=lo | .yield b'=>∃lo,b'=(O,lo)/\ua κ it n lt (0+1) lo aa) (ts κ it #[] p'):=λm p' a' i' z1 z2 z3=>by
  refine aB (bO (aF ⟨_,rfl,.inr (.inl ⟨zq,zq,zq,λz=>?_,p',?_,a',i'⟩)⟩));exact⟨rfl,zq,zq⟩;rw[vo];rfl
 refine aB (yM hc o a zq zq λm p' a' g1 g2 g3 g4=>?_);dsimp only;by_cases bt:m<R;rw[if_pos bt];refine aB (iC ?_);refine aB (PD hc o a' g1 (m:=min (n-0) R) zq zq g4 λoo a'' f'' i''=>?_);simp only[vq,uw,if_false];refine aB (eX ?_);exact I _ oo a'' i'' zq zq zq;rw[if_neg bt];refine aB (eX ?_);exact I _ p' a' g4 zq zq zq;obtain⟨rfl,e64,h32⟩:=h64' zq;have em:R=32:=m3 e64;have I:∀m p' pw,m=n-lo->Prm n p'->b8 lt p' 0 lo->b8 lt p' lo (lo+m)->∃lo',((O,lo+m):Option Unit×Nat)=(O,lo')/\ua κ it n lt (1+1) lo' (ts κ it #[(0,lo,pw),(lo,m,0)] p'):=λm p' pw z1 a' W i2'=>by refine⟨_,rfl,.inr (.inr ⟨zq,p',lo,pw,q8,zq,by rw[z1],a',W,?_⟩)⟩;rwa [show lo+m=n by lia]at i2'
 refine aB (yM hc o a zq zq λm p' a' g1 g2 g3 g4=>?_);have W:b8 lt p' 0 lo:=λi j y1 y2 y3=>by rw[g3 i zq,g3 j y3];exact i1 i j y1 y2 y3
 dsimp only;by_cases bt:m<R;rw[if_pos bt];refine aB (iC ?_);refine aB (PD hc o a' g1 (m:=min (n-lo) R) zq zq g4 λoo a'' f'' i''=>?_);simp only[vq,uw,if_false];refine aB (eX ?_);rw[show (pendingOf (ts κ it #[(0,lo,0)] oo)).back?=U (0,lo,0) from rfl];dsimp only;refine aB (bS (iD (Q:=λb st=>b=(O,())/\st=ts κ it #[(0,lo,0)] oo) (λ_ b st=>b=(O,())/\st=ts κ it #[(0,lo,0)] oo) ⟨rfl,rfl⟩ ?_ λ_ _ z=>z) ?_);rintro x i b st _ ⟨rfl,rfl⟩;exact aB (eX (aF ⟨rfl,rfl⟩));rintro b st ⟨rfl,rfl⟩;exact aB (bO (aB (bO (aF (I _ oo _ zq a'' (λi j y1 y2 y3=>by rw[f'' i zq,f'' j y3];exact W i j y1 y2 y3) i'')))));rw[if_neg bt];refine aB (eX ?_);rw[show (pendingOf (ts κ it #[(0,lo,0)] p')).back?=U (0,lo,0) from rfl];dsimp only;refine aB (bS (iD (Q:=λb st=>b=(O,())/\st=ts κ it #[(0,lo,0)] p') (λ_ b st=>b=(O,())/\st=ts κ it #[(0,lo,0)] p') ⟨rfl,rfl⟩ ?_ λ_ _ z=>z) ?_);rintro x i b st _ ⟨rfl,rfl⟩;exact aB (eX (aF ⟨rfl,rfl⟩));rintro b st ⟨rfl,rfl⟩;exact aB (bO (aB (bO (aF (I _ p' _ zq a' W g4)))));lia;rintro b st ⟨lo,rfl,hS⟩;refine⟨_,lo,rfl,hS,?_⟩;rcases hS with ⟨e,_⟩|⟨_,_,_,e,_⟩|⟨e,_⟩;lia;by_cases z:lo<n;have:=(e z).1;lia;lia;lia;rintro b st ⟨i,lo,rfl,hS,hge⟩;dsimp only;have I:∀st p,arrOf st=p.map (kas_item it)->failedOf st=O->(pendingOf st).size=1->Prm n p->b8 lt p 0 n->True:=λ_ _ _ _ _ _ _=>trivial;refine aB (bS (iD (Q:=λb st=>b=(O,())/\∃p,arrOf st=p.map (kas_item it)/\failedOf st=O/\Prm n p/\b8 lt p 0 n) (λi b st=>b=(O,())/\((i=0/\∃p n1 pw,0<n1/\n1<n/\st=ts κ it #[(0,n1,pw),(n1,n-n1,0)] p/\Prm n p/\b8 lt p 0 n1/\b8 lt p n1 n)\/((pendingOf st).size=1/\∃p,arrOf st=p.map (kas_item it)/\failedOf st=O/\Prm n p/\b8 lt p 0 n))) ⟨rfl,?_⟩ ?_ ?_) ?_);rcases hS with ⟨_,e,_⟩|⟨_,_,e,_,p,rfl,a,i1⟩|⟨_,p,n1,pw,z⟩;lia;obtain rfl:lo=n:=by lia
 exact .inr ⟨rfl,p,rfl,rfl,a,i1⟩;exact .inl ⟨rfl,p,n1,pw,z⟩;rintro x i b st hi ⟨rfl,hz⟩;refine aB (eX ?_);rcases hz with ⟨rfl,p,n1,pw,z1,z2,rfl,a,i1,i2⟩|⟨e,z⟩;rw[if_neg (by show ¬2<=1;lia)];obtain⟨l⟩:=p;refine aB (AF hc o a z1 z2 i1 i2 λaa p' y1 y2 y3 y4 y5=>?_);exact aF ⟨rfl,.inr ⟨by rw[y3];rfl,p',y1,y2,y4,y5⟩⟩;rw[if_pos zq];exact aF ⟨rfl,z⟩;rintro b st ⟨rfl,⟨e,_⟩|⟨_,z⟩⟩;lia;exact⟨rfl,z⟩;rintro b st ⟨rfl,p,y1,y2,y3,y4⟩;exact aF (h st p y1 y2 y3 y4)
def aCL(ask:∀i j C,i<vs.length->j<vs.length->C (lt i j) s->kas_ask prog w A κ vs i j C s)(o:Ord vs.length lt)(h2:2<=vs.length)(h64:vs.length<=64):wpAny (model prog w) A ((sortRuns').run (SortSt.mk' κ (vs.toArray.zip vs.toArray) #[] 7 O)) (λr s'=>s'=s/\∃p:Array Nat,Prm vs.length p/\p7 lt p vs.length/\arrOf r.2=p.map (kas_item (vs.toArray.zip vs.toArray))/\failedOf r.2=O) E s:=by
 rw[kat_ask_eq rfl]at ask;have run:=RH (E:=E) (it:=vs.toArray.zip vs.toArray) (Q:=λ_ aa=>∃p:Array Nat,Prm vs.length p/\p7 lt p vs.length/\arrOf aa=p.map (kas_item (vs.toArray.zip vs.toArray))/\failedOf aa=O) ask o h2 h64 λaa p q1 q2 q3 W=>⟨p,q3,λi j R I=>W i j (xg _) R I,q1,q2⟩;have z:SortSt.mk' κ (vs.toArray.zip vs.toArray) #[] 7 O=ts κ (vs.toArray.zip vs.toArray) #[] (List.range vs.length).toArray:=by have e:=kas_range (vs.toArray.zip vs.toArray);rw[show (vs.toArray.zip vs.toArray).size=vs.length by simp]at e;show SortSt.mk' κ (vs.toArray.zip vs.toArray) #[] 7 O=SortSt.mk' κ ((List.toArray (List.range vs.length)).map (kas_item (vs.toArray.zip vs.toArray))) #[] 7 O;rw[e]
 rw[z];exact run
end
open PySem.Spec L2 PySem.Calls
def Kept(g g':Heap):Prop:=∀b u,g.get? b=U u->g'.get? b=U u
section
variable {prog:xt}{w:World}{A:Around}{E:xu}{s:Shared}{vs:List Value}{lt:Nat->Nat->Bool}{κ:SortKind}
noncomputable def lU(vs:List Value)(p:Array Nat):List Value:=p.toList.map λi=>vs.getD i Value.none
def JX{p:Array Nat}(a:Prm vs.length p):(lU vs p).length=vs.length:=by unfold lU;rw[uo,length_toList,a.size]
def CQ:lU vs (List.toArray (List.range vs.length))=vs:=by unfold lU;apply List.ext_getElem;simp;intro i h1 h2;simp[h2]
structure uf (prog:xt) (w:World) (A:Around) (κ:SortKind) (vs:List Value) (lt:Nat->Nat->Bool) (s:Shared):Prop where
 kind:2<=vs.length->∀(R:SortKind->Shared->Prop),R κ s->wpAny (model prog w) A (keyKind' vs.toArray) R (λ_ _=>False) s
 ask:∀i j C,i<vs.length->j<vs.length->C (lt i j) s->kas_ask prog w A κ vs i j C s
def QZ{a:Addr}{P:PySem.Fin->Shared->Prop}(ho:s.heap.get? a=U (seqObj "list" vs.toArray n))(o:Ord vs.length lt)(h64:vs.length<=64) (hl:∀g',(∀b u,b≠a->s.heap.get? b=U u->g'.get? b=U u)->uf prog w A κ vs lt {s with heap:=g' }) (hP:∀g' p c,(∀b u,b≠a->s.heap.get? b=U u->g'.get? b=U u)->Prm vs.length p->p7 lt p vs.length->g'.get? a=U (seqObj "list" (lU vs p).toArray c)->P (.done (.ret .none)) {s with heap:=g' }):wpAny (model prog w) A (Builtin.«list.sort» ⟨[.ref a],[]⟩) P E s:=by
 have bt:a<s.heap.objs.size:=vh ho;have I:=Heap.SameBut.update s.heap a (Obj.mapSeq λ_=>(#[]:Array Value));have hz:vs.length<=sizeLine:=by rw[sizeLine_eq];lia
 obtain⟨e1,kf⟩:∃e1,(s.heap.update a (Obj.mapSeq λ_=>(#[]:Array Value))).get? a=U (seqObj "list" #[] e1):=⟨_,get?_update_seq ho λ_=>#[]⟩;rw[list_sort_plain];refine wg (listItems_at ho rfl (wg (listUpdate_at ho rfl (wg (seqEpoch_at kf rfl (wg (wpAny_newTuple (wg (wpAny_newList (wpAny_holding ?_) (xg _))) hz)))) (by rw[uy];exact hz) (xg _))));show wpAny (model prog w) A _ P E {s with heap:=((s.heap.update a (Obj.mapSeq λ_=>(#[]:Array Value))).push (seqObj "tuple" vs.toArray 0)).push (seqObj "list" #[] 0)};have kp:∀b u,(s.heap.update a (Obj.mapSeq λ_=>(#[]:Array Value))).get? b=U u->(((s.heap.update a (Obj.mapSeq λ_=>(#[]:Array Value))).push (seqObj "tuple" vs.toArray 0)).push (seqObj "list" #[] 0)).get? b=U u:=λb u e=>uv _ (uv _ e);have kq:∀b u,b≠a->s.heap.get? b=U u->(((s.heap.update a (Obj.mapSeq λ_=>(#[]:Array Value))).push (seqObj "tuple" vs.toArray 0)).push (seqObj "list" #[] 0)).get? b=U u:=λb u hb e=>kp b u ((I.2 b hb).trans e);have dO:=kp a _ kf;generalize ((s.heap.update a (Obj.mapSeq λ_=>(#[]:Array Value))).push (seqObj "tuple" vs.toArray 0)).push (seqObj "list" #[] 0)=g1 at *;have L:=hl g1 kq;have fin:∀p:Array Nat,Prm vs.length p->p7 lt p vs.length->P (.done (.ret .none)) {s with heap:=g1.update a (Obj.mapSeq λ_=>(lU vs p).toArray)}:=λp pa R=>by have z:=Heap.SameBut.update g1 a (Obj.mapSeq λ_=>(lU vs p).toArray);obtain⟨c2,gj⟩:∃c2,(g1.update a (Obj.mapSeq λ_=>(lU vs p).toArray)).get? a=U (seqObj "list" (lU vs p).toArray c2):=⟨_,get?_update_seq dO λ_=>(lU vs p).toArray⟩;exact hP _ p c2 (λb u hb e=>(z.2 b hb).trans (kq b u hb e)) pa R gj
 dsimp only;by_cases h2:vs.toArray.size<2;have W:vs.length<2:=by simpa using h2
 rw[if_pos h2,if_pos h2];refine wg (wj ?_);rw[StateT.run_pure];refine wg (wj ?_);dsimp only;have e0:(arrOf (SortSt.mk' general' (vs.toArray.zip vs.toArray) #[] 7 O)).map (·.2)=(lU vs (List.toArray (List.range vs.length))).toArray:=by rw[CQ];show (vs.toArray.zip vs.toArray).map (·.2)=_;apply Array.toList_inj.mp;simp[List.map_snd_zip]
 rw[e0];refine wg (seqEpoch_at dO rfl (wg (listUpdate_at dO rfl ?_ (xg _) (by rw[CQ,uy];exact le_succ_of_le hz))));simp only[bne_self_eq_false,uw,if_false];exact wj (fin _ ⟨zv⟩ λi j q1 q2=>by lia);have W:2<=vs.length:=by
  have:¬vs.length<2:=by simpa using h2
  lia
 rw[if_neg h2,if_neg h2];refine wg (wk (L.kind W (λk u=>k=κ/\u={s with heap:=g1}) ⟨rfl,rfl⟩) (λk s0 hk=>?_) λ_ _ x=>x.elim);obtain⟨rfl,rfl⟩:=hk;refine wg (wk (aCL L.ask o W h64) ?_ λ_ _ x=>x);rintro⟨⟨⟩,aa⟩ s' ⟨rfl,p,pa,R,har,hf⟩;dsimp only;have e0:(arrOf aa).map (·.2)=(lU vs p).toArray:=kat_snds rfl har;rw[e0];refine wg (seqEpoch_at dO rfl (wg (listUpdate_at dO rfl ?_ (xg _) (by rw[uy,JX pa];exact le_succ_of_le hz))));rw[hf];simp only[bne_self_eq_false,uw,if_false];exact wj (fin p pa R)
def yQ{l:Addr}{Q:xu}(hl:s.heap.IsList l vs.toArray)(o:Ord vs.length lt)(h64:vs.length<=64) (hL:∀g',Kept s.heap g'->uf prog w A.in1.in1 κ vs lt {s with heap:=g' }) (hQ:∀g' p c,Kept s.heap g'->Prm vs.length p->p7 lt p vs.length->g'.get? (s.heap.objs.size+1)=U (seqObj "list" (lU vs p).toArray c)->Q (.ref (s.heap.objs.size+1)) {s with heap:=g' }):wpAny (model prog w) A (call (.builtin "sorted") [.ref l]) Q E s:=by
 have hz:vs.length<=sizeLine:=by rw[sizeLine_eq];lia
 refine Calls.call_function_entry kind_sorted plain_sorted entry_sorted (args_sorted1 _) ?_;unfold Builtin.«sorted»;refine wg (m:=checkCount "sorted" 1 1 _) (wj (wg (collect_list hl (wg (wpAny_newList ?_ hz)) hz)));have sz:((s.heap.push (seqObj "list" #[] 0)).update s.heap.objs.size (Obj.mapSeq (·++vs.toArray))).objs.size=s.heap.objs.size+1:=by rw[Heap.size_update,size_push']
 have R:(((s.heap.push (seqObj "list" #[] 0)).update s.heap.objs.size (Obj.mapSeq (·++vs.toArray))).push (seqObj "list" vs.toArray 0)).get? (s.heap.objs.size+1)=U (seqObj "list" vs.toArray 0):=by have:=wm ((s.heap.push (seqObj "list" #[] 0)).update s.heap.objs.size (Obj.mapSeq (·++vs.toArray))) (o:=seqObj "list" vs.toArray 0) rfl;rw[sz]at this;exact this
 have kp:Kept s.heap (((s.heap.push (seqObj "list" #[] 0)).update s.heap.objs.size (Obj.mapSeq (·++vs.toArray))).push (seqObj "list" vs.toArray 0)):=λb u e=>by have lb:b<s.heap.objs.size:=vh e;have nb:b≠s.heap.objs.size:=w8 lb;rw[Heap.get?_push_ne _ _ _ (by rw[sz];exact w8 (Nat.lt_succ_of_lt lb)),Heap.get?_update_ne _ _ _ _ nb,Heap.get?_push_ne _ _ _ nb];exact e
 show wpAny _ _ _ _ _ {s with heap:=((s.heap.push (seqObj "list" #[] 0)).update s.heap.objs.size (Obj.mapSeq (·++vs.toArray))).push (seqObj "list" vs.toArray 0)};rw[sz];generalize ((s.heap.push (seqObj "list" #[] 0)).update s.heap.objs.size (Obj.mapSeq (·++vs.toArray))).push (seqObj "list" vs.toArray 0)=g1 at *;have W:∀b u,s.heap.get? b=U u->b≠s.heap.objs.size+1:=λb u e=>w8 (Nat.lt_succ_of_lt (vh e));refine wg (wpAny_holding (wpAny_call_entry slot_list_sort ⟨_,R,rfl⟩ entry_list_sort (QZ (s:={s with heap:=g1}) (κ:=κ) (lt:=lt) R o h64 (λg' k=>hL g' λb u e=>k b u (W b u e) (kp b u e)) λg' p c k pa z I=>?_) (args_list_sort _)));exact⟨_,rfl,wj ⟨_,rfl,hQ g' p c (λb u e=>k b u (W b u e) (kp b u e)) pa z I⟩⟩
end
noncomputable def ba(ks:List (Int×Int))(i:Nat):Int×Int:=ks.getD i (0,0)
def LR(h:i<ks.length):ba ks i=ks[i]:=by unfold ba;simp[h]
def JY(nd:ks.Nodup):Ord ks.length λi j=>du (ba ks i) (ba ks j):=by
 refine⟨λa b ha hb bw e=>?_,λa b ha hb e=>?_,λa b c ha hb hc e1 e2=>?_⟩;have:ba ks a≠ba ks b:=by rw[LR ha,LR hb];exactλz=>bw ((List.getElem_inj nd).mp z)
 rw[pJ]at e;rw[gK];have:¬((ba ks a).1=(ba ks b).1/\(ba ks a).2=(ba ks b).2):=λq=>this (Prod.ext q.1 q.2);lia;rw[gK]at e;rw[pJ];lia;rw[gK]at e1 e2 ⊢;lia
def LO{p:Array Nat}(a:Prm ks.length p)(inc:p7 (λi j=>du (ba ks i) (ba ks j)) p ks.length):p.toList.map (ba ks)=jC ks:=by
 refine II ?_ ?_;refine(a.pm.map _).trans (List.Perm.of_eq ?_);apply List.ext_getElem;simp;intro i h1 h2;simp[ba,h2];rw[List.pairwise_map,List.pairwise_iff_getElem];intro i j hi z R;have I:=a.size;have:=inc i j R (by simpa [I] using z);have e:∀k (hk:k<p.toList.length),fp p k=p.toList[k]:=λk hk=>by unfold fp;rw[getD_eq_getD_getElem?,Array.getElem?_eq_getElem (by simpa using hk)];simp
 rw[e i hi,e j z]at this;exact this
section
variable {X:Cx}{T:Tx}{pins:xv}{V:L2.St}{H:Hp}{s:Shared}{S:Addr->Prop}
def aEO(h:Heap)(v:Value)(k:Int×Int):Prop:=∃a o n t u,v=.ref a/\h.get? a=U o/\o.cls=.type "tuple"/\o.data=.seq #[.int k.1 t,.int k.2 u] n
noncomputable def fK(h:Heap):List Value->List (Int×Int)->Prop
 |[],ks=>ks=[]
 |v::r,ks=>∃k z,ks=k::z/\aEO h v k/\fK h r z
theorem fK.kept{h':Heap}(hk:Kept h h'):∀{vs:List Value} {ks:List (Int×Int)},fK h vs ks->fK h' vs ks
 |[],ks,e=>e
 |v::r,ks,⟨k,R,e,⟨a,o,n,t,u,I,q2,q3,z⟩,q⟩=>⟨k,R,e,⟨a,o,n,t,u,I,hk _ _ q2,q3,z⟩,fK.kept hk q⟩
theorem fK.len:∀{vs:List Value} {ks:List (Int×Int)},fK h vs ks->vs.length=ks.length
 |[],ks,e=>by rw[show ks=[] from e];rfl
 |v::r,ks,⟨k,z,e,_,q⟩=>by rw[e];simp[fK.len q]
theorem fK.get:∀{vs:List Value} {ks:List (Int×Int)},fK h vs ks->∀i,i<vs.length->aEO h (vs.getD i Value.none) (ba ks i)
 |[],ks,e,i,hi=>by simp at hi
 |v::r,ks,⟨k,I,e,z,q⟩,0,_=>by subst e;exact z
 |v::r,ks,⟨k,I,e,z,q⟩,i+1,hi=>by subst e;have:=fK.get q i (by simpa using hi);simpa [ba] using this
theorem fK.tups:∀{vs:List Value} {ks:List (Int×Int)},fK h vs ks->∃fs:List Value,KatTups h vs fs/\fs.length=vs.length/\∀v∈fs,∃i t,v=Value.int i t
 |[],ks,e=>⟨[],KatTups.nil,rfl,λv hv=>by simp at hv⟩
 |v::r,ks,⟨k,R,e,⟨a,o,n,t,u,I,q2,q3,z⟩,q⟩=>by obtain⟨fs,h1,h2,h3⟩:=fK.tups q;refine⟨.int k.1 t::fs,?_,by simp[h2],λv hv=>?_⟩;rw[I];exact KatTups.cons q2 q3 z zv h1;rcases vk.mp hv with rfl|hv;exact⟨_,_,rfl⟩;exact h3 v hv
def FX{prog:xt}(h:fK s.heap vs ks):uf prog w A (tuples' (Value.type "int" != Value.type "tuple")) vs (λi j=>du (ba ks i) (ba ks j)) s:=by
 have hb:(Value.type "int" != Value.type "tuple")=Y:=zu
 refine⟨λh2 R hR=>?_,λi j C hi hj hC=>?_⟩;obtain⟨fs,h1,h3,h4⟩:=h.tups;refine kat_kind (T:=Value.type "int") h1 zq (λv hv=>?_) zu hR;obtain⟨i,t,rfl⟩:=h4 v hv;exact Looks.now;obtain⟨a,o,n,t,u,q1,q2,q3,q4⟩:=h.get i hi;obtain⟨a',o',n',t',u',W,I,q3',z⟩:=h.get j hj;unfold kas_ask;rw[q1,W,hb];refine kat_lt q2 q4 I z ?_;show KatLex prog w A Y _ C [((.int (ba ks i).1 t),(.int (ba ks j).1 t')),((.int (ba ks i).2 u),(.int (ba ks j).2 u'))] 0 s;refine kat_cons (wpAny_eqBool_int ?_);refine kat_go (λe=>kat_yes (kat_cons (wpAny_eqBool_int (kat_go (λe'=>kat_yes (kat_nil ?_)) λe'=>kat_no ?_)))) λe=>kat_no ?_;have:du (ba ks i) (ba ks j)=J:=by rw[pJ];rw[vz]at e e';lia
 rw[this]at hC;exact hC;refine kat_one _ _ (lt_int ?_);have:du (ba ks i) (ba ks j)=decide ((ba ks i).2<(ba ks j).2):=by rw[vz]at e;unfold du;rw[e];simp
 rw[this]at hC;exact hC;refine oneLt_int ?_;have:du (ba ks i) (ba ks j)=decide ((ba ks i).1<(ba ks j).1):=by unfold du;rw[e];simp
 rw[this]at hC;exact hC
noncomputable def mP:List Value->List (Int×Int)->Prop
 |[],ks=>ks=[]
 |v::r,ks=>∃i t z,ks=(i,0)::z/\v=.int i t/\mP r z
theorem mP.len:∀{vs:List Value} {ks:List (Int×Int)},mP vs ks->vs.length=ks.length
 |[],ks,e=>by rw[show ks=[] from e];rfl
 |v::r,ks,⟨k,t,z,e,_,q⟩=>by rw[e];simp[mP.len q]
theorem mP.get:∀{vs:List Value} {ks:List (Int×Int)},mP vs ks->∀i,i<vs.length->∃t,vs.getD i Value.none=.int (ba ks i).1 t/\(ba ks i).2=0
 |[],ks,e,i,hi=>by simp at hi
 |v::r,ks,⟨k,t,I,e,z,q⟩,0,_=>by subst e;exact⟨t,z,rfl⟩
 |v::r,ks,⟨k,t,I,e,z,q⟩,i+1,hi=>by subst e;have:=mP.get q i (by simpa using hi);simpa [ba] using this
def LD{prog:xt}(h:mP vs ks):uf prog w A oneType' vs (λi j=>du (ba ks i) (ba ks j)) s:=by
 refine⟨λh2 R W=>?_,λi j C hi I hC=>?_⟩;refine kas_kind (T:=Value.type "int") h2 (λv hv=>?_) zu zu W;obtain⟨i,hi,rfl⟩:=List.getElem_of_mem hv;obtain⟨t,e,_⟩:=h.get i hi;have:vs[i]=.int (ba ks i).1 t:=by rw[<-e];simp[hi]
 rw[this];exact Looks.now;obtain⟨t,e,z⟩:=h.get i hi;obtain⟨t',e',z'⟩:=h.get j I;unfold kas_ask;rw[e,e'];refine kat_lt_int ?_;have:du (ba ks i) (ba ks j)=decide ((ba ks i).1<(ba ks j).1):=by unfold du;rw[z,z'];simp
 rw[this]at hC;exact hC
def getD_get{α:Type}{l:List α}{d:α}(h:i<l.length):l[i]?=U (l.getD i d):=by simp[h]
theorem aY.pick{us:List Value}(r:aY xs us):∀{is:List Nat},(∀i∈is,i<xs.length)->aY (is.map λi=>xs.getD i .non) (is.map λi=>us.getD i Value.none)
 |[],_=>.nil
 |i::is,h=>by
  have hi:=h i zv;obtain⟨u,e1,e2⟩:=r.get (getD_get (d:=σ.non) hi);have I:us.getD i Value.none=u:=by simp[e1]
  refine .cons ?_ (aY.pick r λj z=>h j (ux _ z));show L2.RelV (xs.getD i σ.non) (us.getD i Value.none);rw[I];exact e2
theorem aD.pick{ds:List D}(r:aD K T H S ds xs):∀{is:List Nat},(∀i∈is,i<ds.length)->aD K T H S (is.map λi=>ds.getD i .non) (is.map λi=>xs.getD i .non)
 |[],_=>aD.nil
 |i::is,h=>by
  have hi:=h i zv;obtain⟨x,e1,e2⟩:=r.get (getD_get (d:=D.non) hi);have I:xs.getD i .non=x:=by simp[e1]
  refine aD.cons ?_ (aD.pick r λj z=>h j (ux _ z));show Rep K T H S (ds.getD i D.non) (xs.getD i σ.non);rw[I];exact e2
theorem qG:∀{ds:List D} {ks:List (Int×Int)},kX ds=U ks->ds=ks.map fQ
 |[],ks,h=>by simp only[kX]at h;cases h;rfl
 |d::ds,ks,h=>by unfold kX at h;split at h;rename_i e;cases e;rename_i a b r e;cases e;obtain⟨z,h1,rfl⟩:=v9.mp h;rw[qG h1];rfl;cases h
theorem sS:∀{ds:List D} {is:List Int},iX ds=U is->ds=is.map .int
 |[],ks,h=>by simp only[iX]at h;cases h;rfl
 |d::ds,ks,h=>by
  cases d<;>simp only[iX,reduceCtorEq]at h
  obtain⟨z,h1,rfl⟩:=v9.mp h;rw[sS h1];rfl
theorem BX(I:Inv X pins V H s):∀{ks:List (Int×Int)} {xs:List σ} {us:List Value},aD X.K T H S (ks.map fQ) xs->aY xs us->fK s.heap us ks
 |[],xs,us,r,v=>by rw[map_nil]at r;unfold aD at r;subst r;cases v;rfl
 |k::ks,xs,us,r,v=>by
  rw[vx]at r;unfold aD at r;obtain⟨x,w,rfl,rx,rr⟩:=r;cases v with
  |cons v1 v2=>refine⟨k,ks,rfl,?_,BX I rr v2⟩;unfold fQ at rx;unfold Rep at rx;obtain⟨a,ys,rfl,_,hq,z⟩:=rx;cases v1;obtain⟨its,rv,⟨o,ho,hc,n,hd⟩,_⟩:=I.tuple hq;unfold aD at z;obtain⟨y,jk,rfl,W,z⟩:=z;unfold aD at z;obtain⟨y2,ys2,rfl,R,z⟩:=z;unfold aD at z;subst z;unfold Rep at W R;subst W R;obtain⟨u1,u2,rfl,⟨t,rfl⟩,⟨t',rfl⟩⟩:=rv.two;exact⟨a,o,n,t,t',rfl,ho,hc,hd⟩
theorem DB:∀{is:List Int} {xs:List σ} {us:List Value},aD X.K T H S (is.map .int) xs->aY xs us->mP us (is.map λi=>(i,0))
 |[],xs,us,r,v=>by rw[map_nil]at r;unfold aD at r;subst r;cases v;rfl
 |k::ks,xs,us,r,v=>by
  rw[vx]at r;unfold aD at r;obtain⟨x,w,rfl,z,W⟩:=r;cases v with
  |cons R I=>unfold Rep at z;subst z;obtain⟨t,rfl⟩:=R;exact⟨k,t,_,rfl,rfl,DB W I⟩
def ET{l:Addr}{ds es:List D}{Q:VK}(I:Inv X pins V H s)(hl:SqL X.K H l xs)(r:aD X.K T H S ds xs)(hs:oK ds=U es) (q:∀p zs,H p=O->aD X.K T H S es zs->Q (.ref p) (upd H p (.lst zs))):wpAny (model X.prog X.w) X.A (call (.builtin "sorted") [.ref l]) (EP X pins V Q) X.xe s:=by
 obtain⟨its,rv,pl,hz⟩:=I.list hl;have l1:=r.len;have l2:=rv.length;have z:∀(ks:List (Int×Int)) (g:Int×Int->D) (κ:SortKind),ds=ks.map g->ks.length=ds.length->kK ks=Y->(∀g',Kept s.heap g'->uf X.prog X.w X.A.in1.in1 κ its (λi j=>du (ba ks i) (ba ks j)) {s with heap:=g' })->es=(jC ks).map g ->wpAny (model X.prog X.w) X.A (call (.builtin "sorted") [.ref l]) (EP X pins V Q) X.xe s:=λks g κ hd hk hc hL he=>by
  unfold kK at hc;rw[uz,vd,vd]at hc;have e0:its.length=ks.length:=by lia
  have o:=JY hc.2;rw[<-e0]at o;refine yQ (κ:=κ) pl.isList o zq hL λg' p c kp R W ny=>?_;have mem:∀i∈p.toList,i<its.length:=λi hi=>by simpa using R.pm.mem_iff.mp hi
  have av:H (s.heap.objs.size+1)=O:=I.hok.fresh (wt _);have I3:Inv X pins V (upd H (s.heap.objs.size+1) (.lst (p.toList.map λi=>xs.getD i .non))) {s with heap:=g',toks:=s.toks}:=by refine I.laid kp (wt _) ⟨?_,lU its p,c,aY.pick rv λi hi=>by rw[l2];exact mem i hi,ny⟩;rw[uo,length_toList,R.size,<-l2];exact hz
  refine⟨.ref _,_,I3,rfl,q _ _ av ?_⟩;have e1:es=p.toList.map λi=>ds.getD i .non:=by rw[he,<-LO (by rw[<-e0];exact R) (by rw[<-e0];exact W),x9];refine List.map_congr_left λi hi=>?_;have rj:=mem i hi;subst hd;simp[ba,show i<ks.length by lia]
  rw[e1];exact aD.pick r λi hi=>by rw[l1,l2];exact mem i hi
 unfold oK at hs;split at hs;rename_i ks hk;split at hs;rename_i hc;cases hs;have ed:=qG hk;subst ed;exact z ks fQ _ rfl zv hc (λg' kp=>FX (s:={s with heap:=g' }) (fK.kept kp (BX I r rv))) rfl;cases hs;split at hs;rename_i is hk;split at hs;rename_i hc;cases hs;have ed:=sS hk;subst ed;exact z (is.map λi=>(i,0)) (λp=>.int p.1) _ (by simp[x9,Function.comp_def]) zv hc (λg' kp=>LD (DB (X:=X) r rv)) rfl;cases hs;cases hs
def rBs(K:xq)(T:Tx)(S:Addr->Prop):List σ->Hp->VK->Prop:=λvs H Q=>∃l xs ds es,vs=[.ref l]/\SqL K H l xs/\aD K T H S ds xs/\oK ds=U es/\∀p ys H',aG H H'->H p=O->H' p=U (.lst ys)->aD K T (er H' p) S es ys->Q (.ref p) H'
def yV:eU X (.builtin "sorted") (rBs X.K T S):=by rintro pins s V H vs us Q I r ⟨l,xs,ds,es,rfl,hl,R,hs,q⟩;obtain⟨u,rfl,ru⟩:=r.one;cases ru;exact ET I hl R hs λp zs hp z=>q p zs _ (aG.upd hp) hp aW (by rw[iO hp];exact z)
end
variable {CX:aq}{G:GS}{T:Tx}{lv:Nat}
def cK{o:Option D}{ds:List D}(h:bP o=U ds):o=U (.tup ds):=by unfold bP at h;split at h;cases h;rfl;cases h
def mZ{o:Option Rs}{d:D}(h:bZ o=U d):o=U (.ok d):=by unfold bZ at h;split at h;cases h;rfl;cases h
def gA{o:Option D}{i:Int}(h:intOf o=U i):o=U (.int i):=by unfold intOf at h;split at h;cases h;rfl;cases h
def eQ{d:D}(h:PE X e (tD X.K T S B d))(hf:gR c e=J):PE X e (tD X.K T S B d)/\(gR c e=Y->∀ds,d=.lst ds->PE X e (ej X.K T S B ds)):=⟨h,λz=>by rw[hf]at z;cases z⟩
def eW{ds:List D}(h:PE X e (ej X.K T S B ds)):PE X e (tD X.K T S B (.lst ds))/\(gR c e=Y->∀es,D.lst ds=.lst es->PE X e (ej X.K T S B es)):=⟨KY h,λ_ es z=>by cases z;exact h⟩
def gJ(hE:gq CX G T lv n)(xc:XC CX X c G T lv){lo:Option Expr}{l:IE}{o:Option Int}(h:tZ (cE n c) lo=U l)(hp:part lo.isSome (ev G l B)=U o):PO X lo (jy X.K T S B o):=by
 cases lo with
 |none=>simp only[part,Option.isSome_none,uw,if_false,u4]at hp;subst hp;exact aDF
 |some e=>simp only[part,Option.isSome_some,if_true,v9]at hp;obtain⟨i,hi,rfl⟩:=hp;exact aDE (hE X c S B e l xc h _ (gA hi)).1
def FS(h:aBl c x=U i):aZ c x=U i:=by unfold aBl at h;exact(bA h).2
def dQ(h:eD c e=U i):∃x p,e=.Name x p/\aZ c x=U i:=by obtain⟨x,h1,h⟩:=aE h;exact⟨x.1,x.2,cU h1,FS h⟩
def sV{H1:Hp}{es:List D}{Q:VK}(s1:aG H H1)(s2:aG H1 H')(fr:tP K T S H1 H' (.lst es) v)(q:∀p xs H',aG H H'->H p=O->H' p=U (.lst xs)->aD K T (er H' p) S es xs->Q (.ref p) H'):Q v H':=by obtain⟨p,xs,rfl,hn,hs,z⟩:=fr es rfl;exact q p xs H' (s1.trans s2) (s1.free hn) hs z
def aBe(xc:XC CX X c G T lv){py q:Pos}{xs:List D}(hg:bG c "len"=Y)(hm:X.mg "len"=O)(e:aZ c y=U i)(hs:fH B i=U xs):PE X (.Call (.Name "len" p) [.Name y py] [] q) (tD X.K T S B (.int xs.length)):=by have st:starEach [.Name y py] X.env=(J,eval (.Name y py) X.env)::starEach [] X.env:=rfl;refine PE.mono (dX fS (xc.glob hg) hm zt (bT (fJ xc e) fN st) zt zt rfl rfl) λV H Q ⟨re,q⟩=>?_;obtain⟨p,ys,e1,e2,z⟩:=jU re hs;exact⟨_,e1,p,ys,rfl,.inl (SqL.of e2),by rw[<-z.len];exact q _ H (aG.refl H) eB⟩
def tH:bootBuiltins "sorted"=U (.builtin "sorted"):=zt
def oU{ds:List D}{d:D}(h:kE ds=U d):∃xs es,ds=[.lst xs]/\oK xs=U es/\d=.lst es:=by unfold kE at h;split at h;obtain⟨es,h1,rfl⟩:=v9.mp h;exact⟨_,es,rfl,h1,rfl⟩;cases h
def UK(xc:XC CX X c G T lv){py q:Pos}{xs es:List D}(hg:bG c "sorted"=Y)(hm:X.mg "sorted"=O)(e:aZ c y=U i)(hs:fH B i=U xs)(hd:oK xs=U es):PE X (.Call (.Name "sorted" p) [.Name y py] [] q) (ej X.K T S B es):=by have st:starEach [.Name y py] X.env=(J,eval (.Name y py) X.env)::starEach [] X.env:=rfl;refine PE.mono (dX (yV (T:=T) (S:=S)) (xc.glob hg) hm tH (bT (fJ xc e) fN st) zt zt rfl rfl) λV H Q ⟨re,q⟩=>?_;obtain⟨p,ys,e1,e2,z⟩:=jU re hs;exact⟨_,e1,p,ys,xs,es,rfl,SqL.of e2,z,hd,q⟩
def aCd:bootBuiltins "len"=U (.builtin "len"):=zt
def aCe:bootBuiltins "int"=U (.type "int"):=zt
def OZ:bootBuiltins "tuple"=U (.type "tuple"):=zt
def aCc:bootBuiltins "max"=U (.builtin "max"):=zt
def aCb:bootBuiltins "min"=U (.builtin "min"):=zt
def UO(xc:XC CX X c G T lv){b:BF}{ds:List D}{d:D}(hg:bG c x=Y)(hm:X.mg x=O)(hb:pG x=U b)(ha:PA X es (dq X.K T S B ds))(hs:starEach es X.env=es.map λe=>(J,eval e X.env))(hlen:ds.length=es.length)(hd:bf b ds=U d):PE X (.Call (.Name x p) es [] pos) (tD X.K T S B d)/\(x="list"\/x="sorted"->∀R,d=.lst R->PE X (.Call (.Name x p) es [] pos) (ej X.K T S B R)):=by
 cases es with
 |nil=>have:ds=[]:=vv.mp hlen;subst this;cases b<;>simp[bf,VD,VE,yH,vH,BC,OE,kE]at hd
 |cons e es=>
  obtain⟨h1,h2⟩:=qA (pos:=pos) hs;have W:=xc.glob hg;have go:∀{g:List D->Option D},g ds=U d->∀V H Q,tD X.K T S B d V H Q->tCB (om X.K T S g) (dq X.K T S B ds) V H Q:=λ{g} o7 V H Q ⟨re,q⟩=>⟨re,λvs H1 s1 r1=>⟨ds,d,(re.same s1).dom,r1,o7,λv H' s2 r2=>q v H' (s1.trans s2) r2⟩⟩;unfold pG at hb;split at hb;rename_i I;subst I;cases hb;exact⟨PE.mono (dX aEJ W hm aCd ha zt zt h1 h2) (go hd),λz=>absurd z zt⟩;split at hb;rename_i I;subst I;cases hb;exact⟨PE.mono (mY aEK W hm aCe ha zt zt h1 h2) (go hd),λz=>absurd z zt⟩;split at hb;rename_i I;subst I;cases hb;have hl:∃R,d=.lst R:=by simp only[bf]at hd;unfold yH at hd;split at hd<;>first|(cases hd;exact⟨_,rfl⟩)|cases hd
  obtain⟨R,rfl⟩:=hl;have pn:PE X (.Call (.Name "list" p) (e::es) [] pos) (ej X.K T S B R):=PE.mono (mY aCg W hm DS ha zt zt h1 h2) λV H Q ⟨re,q⟩=>⟨re,λvs H1 s1 r1=>⟨ds,R,r1,hd,λp ys H' s2 hn gz rl=>by
   refine q p ys H' (s1.trans s2) ?_ gz rl;cases I:H p with
   |none=>rfl
   |some o=>rw[s1 p o I]at hn;cases hn⟩⟩
  exact⟨KY pn,λ_ es2 z=>by cases z;exact pn⟩;split at hb;rename_i I;subst I;cases hb;exact⟨PE.mono (mY WA W hm OZ ha zt zt h1 h2) (go hd),λz=>absurd z zt⟩;split at hb;rename_i I;subst I;cases hb;exact⟨PE.mono (dX (aEI xc.calm) W hm aCc ha zt zt h1 h2) (go hd),λz=>absurd z zt⟩;split at hb;rename_i I;subst I;cases hb;exact⟨PE.mono (dX (aEH xc.calm) W hm aCb ha zt zt h1 h2) (go hd),λz=>absurd z zt⟩;split at hb;cases hb;cases hd;split at hb;rename_i I;subst I;cases hb;obtain⟨xs,R,rfl,qt,rfl⟩:=oU hd;have pn:PE X (.Call (.Name "sorted" p) (e::es) [] pos) (ej X.K T S B R):=PE.mono (dX (yV (T:=T) (S:=S)) W hm tH ha zt zt h1 h2) λV H Q ⟨re,q⟩=>⟨re,λvs H1 s1 r1=>by
   obtain⟨x,rfl,rx⟩:=rep1 r1;unfold Rep at rx;obtain⟨l,ys,rfl,_,hq,ry⟩:=rx;refine⟨l,ys,xs,R,rfl,SqL.of hq,ry,qt,λp zs H' s2 hn gz rl=>q p zs H' (s1.trans s2) ?_ gz rl⟩;cases I:H p with
   |none=>rfl
   |some o=>rw[s1 p o I]at hn;cases hn⟩
  exact⟨KY pn,λ_ es2 z=>by cases z;exact pn⟩;split at hb;cases hb;cases hd;cases hb
def aEF{b:BF}(h:pG x=U b):fT.contains x=Y:=by
 unfold pG at h
 repeat' split at h
 all_goals first|cases h;done|(rename_i e;subst e;decide +kernel)
def aCr(h:jS.contains x=Y):fT.contains x=Y:=by rw[List.contains_iff_mem]at h ⊢;unfold jS at h;simp only[vk,x8,or_false]at h;rw[<-List.contains_iff_mem];rcases h with h|h|h|h|h<;>subst h<;>decide +kernel
section
variable {n:Nat}{X:Cx}{c:CC}{S:Addr->Prop}{B:List Sl}{ir:IE}{d:D}
abbrev Tells(CX:aq)(T:Tx)(X:Cx)(c:CC)(S:Addr->Prop)(B:List Sl)(e:Expr)(d:D):Prop:=PE X e (tD X.K T S B d)/\(gR c e=Y->∀ds,d=.lst ds->PE X e (ej X.K T S B ds))
def aDn(hE:gq CX G T lv n)(hA:ko CX G T lv n)(xc:XC CX X c G T lv){q:Pos}{b:BF}(hg:bG c x=Y)(hf:c.fns.contains x=J)(hc:c.cls.contains x=J)(hb:pG x=U b)(h:FC (cE n c) c b args (cA n c args)=U ir)(hd:ev G ir B=U d):Tells CX T X c S B (.Call (.Name x p) args [] q) d:=by
 have hm:=iR xc (aEF hb) hf hc;have R:∀{y:IE},cA n c args=U y->ir=.ρ b y->Tells CX T X c S B (.Call (.Name x p) args [] q) d:=λ{y} hy e=>by subst e;simp only[ev,ur,u7]at hd;obtain⟨ds,bq,hd⟩:=hd;obtain⟨ds',e1,hl,pa,hs⟩:=hA X _ S B args y xc hy _ (cK bq);cases e1;have r:=UO (p:=p) (pos:=q) xc hg hm hb pa hs hl hd;refine⟨r.1,λz es e=>r.2 ?_ es e⟩;have z:((c.fns.contains x&&c.fresh.contains x) || (bG c x&&(x == "list" || x == "sorted")&&!own c x))=Y:=z;simp only[own,hf,hc,hg,Bool.false_and,Bool.false_or,Bool.true_and,Bool.or_false,Bool.not_false,Bool.and_true,or_eq_true,vz]at z;exact z
 have mb:(cA n c args).map (λx=>IE.ρ b x)=U ir->Tells CX T X c S B (.Call (.Name x p) args [] q) d:=λh=>by obtain⟨y,hy,e⟩:=aU h;exact R hy e
 unfold FC at h;cases W:XA c args with
 |some i=>
  rw[W]at h;obtain⟨e,h1,h2⟩:=aE W;obtain⟨y,py,rfl,dw⟩:=dQ h2;obtain rfl:=dH h1;cases b with
  |int=>exact mb h
  |list=>exact mb h
  |tuple=>exact mb h
  |max=>exact mb h
  |min=>exact mb h
  |str=>exact mb h
  |any=>exact mb h
  |len=>
   have h:U (if ([Expr.Name y py].any yB) then IE.lend i else IE.lenm i)=U ir:=h;have hx:x="len":=by
    unfold pG at hb
    repeat' split at hb
    all_goals first|assumption|cases hb
   cases sg:([Expr.Name y py].any yB) with
   |true=>rw[sg]at h;cases h;obtain⟨kvs,I,hd⟩:=aE hd;cases hd;subst hx;exact⟨aBf xc hg hm dw I,λ_ ds z=>by cases z⟩
   |false=>
   rw[sg]at h;clear hx;cases (show U (IE.lenm i)=U ir from h);simp only[ev,ur,u7,u4]at hd;obtain⟨xs,I,rfl⟩:=hd;have hx:x="len":=by
    unfold pG at hb
    repeat' split at hb
    all_goals first|assumption|cases hb
   subst hx;exact⟨aBe xc hg hm dw I,λ_ ds z=>by cases z⟩
  |sorted=>
   cases (show U (IE.sortm i)=U ir from h);simp only[ev,ur,u7]at hd;obtain⟨xs,I,hd⟩:=hd;obtain⟨xs',es,e0,qt,rfl⟩:=oU hd;cases e0;have hx:x="sorted":=by
    unfold pG at hb
    repeat' split at hb
    all_goals first|assumption|cases hb
   subst hx;exact eW (UK xc hg hm dw I qt)
 |none=>
  rw[W]at h;cases hr:zN c args with
  |none=>rw[hr]at h;exact mb (by cases b<;>exact h)
  |some a=>
   rw[hr]at h;cases b with
   |int=>exact mb h
   |len=>exact mb h
   |tuple=>exact mb h
   |max=>exact mb h
   |min=>exact mb h
   |str=>exact mb h
   |any=>exact mb h
   |sorted=>exact mb h
   |list=>
   clear R mb;obtain⟨z,hz,rfl⟩:=aU (show (cE n c a).map (λx=>IE.walk .rev x)=U ir from h);simp only[ev,ur,u7,v9]at hd;obtain⟨w,hw,ds,bq,rfl⟩:=hd;have hx:x="list":=by
    unfold pG at hb
    repeat' split at hb
    all_goals first|assumption|cases hb
   subst hx;obtain⟨e,h1,r1⟩:=aE hr;obtain⟨r,h2,r2⟩:=aE r1;obtain⟨hn,r3⟩:=bA r2;obtain⟨p1,p2,e5,o7,ho⟩:=oZ h2;obtain⟨y,as⟩:=r;have e6:y="reversed":=vz.mp hn;have e7:as=[a]:=dH r3;have e8:=dH h1;clear hr h1 r1 h2 r2 hn r3 W h;subst e6 e7;dsimp only at e5 o7 ho;subst e5;subst e8;obtain⟨ic,hc'⟩:=JW ho;have st:=(bV hz).star X.env [];exact eW (zX xc.calm (xc.glob o7) (iR xc zt ic hc') (xc.glob hg) hm (nE (hE X _ S B a z xc hz w hw).1 sP st) st bq)
def KD(hE:gq CX G T lv n)(hA:ko CX G T lv n)(xc:XC CX X c G T lv){q:Pos}(h:CG (cE n c) c x args (cA n c args)=U ir)(hd:ev G ir B=U d):Tells CX T X c S B (.Call (.Name x p) args [] q) d:=by
 obtain⟨hg,h⟩:=bA h;cases I:c.fns.contains x with
 |true=>
  rw[I]at h;obtain⟨y,hy,rfl⟩:=aU (show (cA n c args).map (λy=>IE.call x y)=U ir from h);simp only[ev,ur,u7]at hd;obtain⟨ds,bq,hd⟩:=hd;obtain⟨ds',e1,hl,W,hs⟩:=hA X _ S B args y xc hy _ (cK bq);cases e1;have r:=aBk (p:=p) (pos:=q) xc hg I W hs hl (mZ hd);refine⟨PE.mono r λV H Q ⟨re,q⟩=>⟨re,λv H1 H' s1 s2 rp _=>q v H' (s1.trans s2) rp⟩,λhf es e=>?_⟩;subst e;have ic:G.ff x=Y:=by have z:((c.fns.contains x&&c.fresh.contains x) || (bG c x&&(x == "list" || x == "sorted")&&!own c x))=Y:=hf;simp only[own,I,Bool.true_and,Bool.true_or,vq,Bool.and_false,Bool.or_false]at z;exact(xc.go.frs x z).1
  exact PE.mono r λV H Q ⟨re,q⟩=>⟨re,λv H1 H' s1 s2 rp fr=>sV s1 s2 (fr ic) q⟩
 |false=>
  rw[I]at h;cases aT:c.cls.contains x with
  |true=>rw[aT]at h;obtain⟨y,hy,rfl⟩:=aU (show (cA n c args).map (λy=>IE.mk x y)=U ir from h);simp only[ev,ur,u7]at hd;obtain⟨ds,bq,hd⟩:=hd;obtain⟨ds',e1,hl,W,hs⟩:=hA X _ S B args y xc hy _ (cK bq);cases e1;refine eQ (aFr xc hg aT W hs hl (mZ hd)) ?_;show ((c.fns.contains x&&c.fresh.contains x) || (bG c x&&(x == "list" || x == "sorted")&&!own c x))=J;simp only[own,I,aT,Bool.false_and,Bool.or_true,vq,Bool.and_false,Bool.or_false]
  |false=>
   rw[aT]at h;cases hi:x == "isinstance" with
   |false=>rw[hi]at h;obtain⟨b,hb,h⟩:=aE (show (pG x).bind (λb=>FC (cE n c) c b args (cA n c args))=U ir from h);exact aDn hE hA xc hg I aT hb h hd
   |true=>
    rw[hi]at h;obtain rfl:=vz.mp hi;have h:IV (cE n c) c args=U ir:=h;match args,h with
    |[a,y],h=>
     obtain⟨y',i5,h⟩:=aE h;obtain⟨hk,h⟩:=bA h;obtain⟨hk,hk3⟩:=cL hk;obtain⟨hk1,R⟩:=cL hk;obtain⟨z,hz,rfl⟩:=aU h;obtain rfl:=cU i5;obtain⟨kf,dO⟩:=JW (WV hk3);simp only[ev,ur,u7,v9]at hd;obtain⟨w,hw,k,hk,rfl⟩:=hd;have ht:∃tn,oh w=U tn:=by cases w<;>first|exact⟨_,rfl⟩|(simp only[qL,reduceCtorEq]at hk)
     obtain⟨tn,ht⟩:=ht;have st:=(bV hz).star X.env [.Name y'.1 y'.2];exact⟨aDM xc hg (iR xc zt I aT) hk1 (iR xc (aCr R) kf dO) R (hE X _ S B a z xc hz w hw).1 (by rw[st];rfl) ht hk,λ_ ds z=>by cases z⟩
def UB(hE:gq CX G T lv n)(hA:ko CX G T lv n)(xc:XC CX X c G T lv){o:Expr}{m:Str}{ap q:Pos}(h:(if jX o&&decide (args.length<30)&&(ap.endLine == q.line) then(match getM c o m with|some i=>(cA n c args).map λy=>IE.getd i y|none=>(cE n c o).bind λx=>(cA n c args).map λy=>IE.meth x m y) else O)=U ir)(hd:ev G ir B=U d):Tells CX T X c S B (.Call (.Attribute o m ap) args [] q) d:=by
 obtain⟨hc,h⟩:=bA h;obtain⟨hc,I⟩:=cL hc;obtain⟨W,gj⟩:=cL hc;cases hg:getM c o m with
 |some i=>rw[hg]at h;obtain⟨y,hy,rfl⟩:=aU h;obtain⟨hm,oz⟩:=bA (show (if m == "get" then eD c o else O)=U i from hg);obtain⟨x,px,rfl,dw⟩:=dQ oz;obtain rfl:m="get":=vz.mp hm;obtain⟨as,has,hd⟩:=aE hd;obtain⟨ds',e1,hl,R,hs⟩:=hA X _ S B args y xc hy _ (cK has);cases e1;split at hd;rename_i k d0;obtain⟨kvs,hk,hd⟩:=aE hd;split at hd;rename_i v hv;cases hd;have r:=aBi (d0:=.int d0) (i:=k) xc (DF xc.room) (p2:=px) dw R hs (by first|exact hl|exact hl.symm) I hk;rw[hv]at r;exact⟨r,λ_ es e=>by cases e⟩;cases hd;cases hd
 |none=>
 rw[hg]at h;obtain⟨x,hx,h⟩:=aE h;obtain⟨y,hy,rfl⟩:=aU h;simp only[ev,ur,u7]at hd;obtain⟨w,hw,hd⟩:=hd;cases w<;>first|exact nomatch (show O=U d from hd)|skip
 rename_i cn fs;obtain⟨z,hd⟩:=bA hd;obtain⟨ds,bq,hd⟩:=aE hd;obtain⟨ds',e1,hl,R,hs⟩:=hA X _ S B args y xc hy _ (cK bq);cases e1;have r:=aBd (pos:=q) xc (xR W hs (of_decide_eq_true gj) I) (hE X _ S B o x xc hx _ hw).1 (Option.isNone_iff_eq_none.mp z) R hs hl (mZ hd);refine⟨PE.mono r λV H Q ⟨re,q⟩=>⟨re,λv H1 H' s1 s2 rp _=>q v H' (s1.trans s2) rp⟩,λhf es e=>?_⟩;subst e;have ic:=(xc.go.frs m hf).2 cn;exact PE.mono r λV H Q ⟨re,q⟩=>⟨re,λv H1 H' s1 s2 rp fr=>sV s1 s2 (fr ic) q⟩
def MT(h:few es=Y):es.length<=sizeLine:=vi (of_decide_eq_true h) (vi zu gG)
def aAX(hE:gq CX G T lv n)(xc:XC CX X c G T lv){a i:Expr}(h:IU (cE n c) (yB a) (eD c a) (cE n c a) i=U ir)(hd:ev G ir B=U d):Tells CX T X c S B (.Subscript a i p) d:=by
 unfold IU at h;cases I:qa i with
 |some q=>
  rw[I]at h;obtain⟨lo,hi,st,pp⟩:=q;obtain rfl:=IL I;cases st with
  |some _=>exact nomatch (show O=U ir from h)
  |none=>
   obtain⟨l,hl,h⟩:=aE (show (tZ (cE n c) lo).bind _=U ir from h);obtain⟨u,hu,h⟩:=aE h;unfold aCO at h;cases hm:eD c a with
   |some j=>rw[hm]at h;cases h;obtain⟨x,px,rfl,I⟩:=dQ hm;simp only[ev,ur,u7,u4]at hd;obtain⟨xs,fe,ol,qw,ou,ml,rfl⟩:=hd;exact eW (aDC xc I fe (gJ hE xc hl qw) (gJ hE xc hu ml))
   |none=>
    rw[hm]at h;obtain⟨x,hx,rfl⟩:=aU h;simp only[ev,ur,u7]at hd;obtain⟨w,hw,ol,qw,ou,ml,hd⟩:=hd;have R:=(hE X _ S B a x xc hx w hw).1;cases w<;>first|exact nomatch (show O=U d from hd)|skip
    cases hd;exact eW (WW R (gJ hE xc hl qw) (gJ hE xc hu ml) (.inl rfl));simp only at hd;split at hd;cases hd;rename_i hw';cases hd;exact⟨aDD R (gJ hE xc hl qw) (gJ hE xc hu ml) hw',λ_ ds z=>by cases z⟩;cases hd;exact eW (WW R (gJ hE xc hl qw) (gJ hE xc hu ml) (.inr rfl))
 |none=>
  rw[I]at h;obtain⟨k,hk,h⟩:=aE h;refine eQ ?_ (by show (qa i).isSome=J;rw[I];rfl);unfold aCR at h;cases hm:eD c a with
  |some j=>
   rw[hm]at h;have h:U (if yB a then IE.ixd j k else IE.ixm j k)=U ir:=h;cases sg:yB a with
   |true=>rw[sg]at h;cases h;obtain⟨x,px,rfl,I⟩:=dQ hm;obtain⟨kvs,fe,hd⟩:=aE hd;obtain⟨ii,W,hd⟩:=aE hd;exact aDL xc (DF xc.room) I (hE X _ S B i k xc hk _ (gA W)).1 (bV hk).ix fe hd
   |false=>
   rw[sg]at h;have h:U (IE.ixm j k)=U ir:=h;cases h;obtain⟨x,px,rfl,I⟩:=dQ hm;simp only[ev,ur,u7]at hd;obtain⟨xs,fe,ii,W,hd⟩:=hd;exact aDK xc I (hE X _ S B i k xc hk _ (gA W)).1 (bV hk).ix fe hd
  |none=>
   rw[hm]at h;obtain⟨x,hx,rfl⟩:=aU h;simp only[ev,ur,u7]at hd;obtain⟨u,hu,v,hv,hd⟩:=hd;have R:=(hE X _ S B a x xc hx u hu).1;have pi:=(hE X _ S B i k xc hk v hv).1;cases v<;>first|(cases u<;>exact nomatch (show O=U d from hd))|skip
   cases u<;>first|exact nomatch (show O=U d from hd)|skip
   exact aBg R pi (bV hk).ix (.inl rfl) hd;exact aBg R pi (bV hk).ix (.inr (.inl rfl)) hd;exact aDS (DF xc.room) R pi (bV hk).ix hd;exact aBg R pi (bV hk).ix (.inr (.inr rfl)) hd
def DQ(hE:gq CX G T lv n)(hT:p5 CX G T lv n)(hI:OkI CX G T lv n)(xc:XC CX X c G T lv)(h:cE (n+1) c (.ListComp elt gs sc p)=U ir)(hd:ev G ir B=U d):∃tg iter ifs fr aj tp ds I f,gs=[⟨tg,iter,ifs,0⟩]/\d=.lst I/\gT c sc=Y/\freeOf c sc (sc.names.filter λx=>x.2 == .free)=U fr/\aj.all (λi=>(fr.lookup i).isNone)=Y/\cC {c with N:=ownNames sc,sc:=sc} tg=U (aj,tp) /\PI X tg iter (tI X.K T S B ds)/\(∀x,foldedSetIterable iter X.env x=pure x)/\bU f ds=U I /\(∀d o,f d=U o->∃ρ1,aX aj tp d (frame (ownNames sc).length fr B)=U ρ1/\TurnOk CX G T lv {c with N:=ownNames sc,sc:=sc} X.K ifs elt ρ1 o):=by
 obtain⟨g,ju,h⟩:=aE h;obtain⟨tg,iter,ifs,as⟩:=g;by_cases ha:as=0;subst ha;obtain⟨⟨aj,tp⟩,cx,h⟩:=aE (show zR c sc ⟨tg,iter,ifs,0⟩ (cI n c iter) (cT n {c with N:=ownNames sc,sc:=sc}) (cE n {c with N:=ownNames sc,sc:=sc} elt)=U ir from h);obtain⟨⟨k,src⟩,hk,h⟩:=aE h;obtain⟨test,cj,h⟩:=aE h;obtain⟨el,hel,h⟩:=aE h;obtain⟨fr,av,h⟩:=aE h;obtain⟨hok,h⟩:=bA h;obtain⟨hok,bw⟩:=cL hok;have tgk:HF k tg:=λe=>by rw[e]at bw;exact nomatch bw
 obtain⟨kf,dO⟩:=cL hok;cases h;obtain⟨s,hs,hd⟩:=aE hd;obtain⟨ds,bq,hd⟩:=aE hd;obtain⟨I,R,rfl⟩:=aU hd;obtain⟨hi,i7⟩:=hI X _ S B iter k src xc hk s ds hs bq;refine⟨tg,iter,ifs,fr,aj,tp,ds,I,_,dH ju,rfl,kf,av,dO,cx,hi tg tgk,i7,R,?_⟩;intro d o hf;obtain⟨ρ1,h1,hf⟩:=aE hf;obtain⟨w,hw,hf⟩:=aE hf;refine⟨ρ1,h1,λX' S' W hK=>?_⟩;cases w<;>first|exact nomatch (show O=U o from hf)|skip
 rename_i kk;have ho:kk=o.isSome/\∀y,o=U y->ev G el ρ1=U y:=by
  cases kk with
  |true=>obtain⟨y,hy,rfl⟩:=aU hf;exact⟨rfl,λz e=>by cases e;exact hy⟩
  |false=>cases hf;exact⟨rfl,λz e=>by cases e⟩
 obtain⟨rfl,hy⟩:=ho;refine⟨?_,λy e=>(hE X' _ S' ρ1 elt el W hel y (hy y e)).1⟩;match ifs,cj with
 |[],cj=>cases cj;simp only[ev,Lit.d,u4,D.bl.injEq]at hw;exact .inl ⟨rfl,hw.symm⟩
 |[e],cj=>exact .inr ⟨e,rfl,hT X' _ S' ρ1 e test W cj _ hw⟩
 exact nomatch (show O=U ir from(if_neg ha).symm.trans h)
def KC(hE:gq CX G T lv n)(xc:XC CX X c G T lv){a:Expr}{os:List CmpOp}{bs:List Expr}(h:IW c (cE n c) (cE n c a) os bs=U ir)(hd:ev G ir B=U d):PE X (.Compare a os bs p) (tD X.K T S B d)/\∀k,d=.bl k->PT X (.Compare a os bs p) (ip X.K T S B k):=by
 match os,bs,h with
 |[o],[b],h=>
  obtain⟨x,hx,h⟩:=aE h;cases hi:aEg c o b with
  |some q=>
   rw[hi]at h;cases h;obtain⟨k,hk,hi⟩:=aE hi;obtain⟨r,hr,hi⟩:=aE hi;obtain⟨hg,hi⟩:=bA hi;cases hi;obtain rfl:=cU hr;obtain rfl:o=UY k:=by cases o<;>first|exact nomatch (show O=U k from hk)|(cases hk;rfl)
   cases hu:ev G x B with
   |none=>simp only[ev,hu]at hd;cases hd
   |some u=>
    simp only[ev,hu,ur,wq]at hd;cases u<;>first|exact nomatch (show O=U d from hd)|skip
    rename_i s;obtain⟨kvs,hkv,rfl⟩:=aU hd;have I:=(hE X _ S B a x xc hx _ hu).1;exact⟨aDO xc (cL hg).1 hkv I k,λk' e=>by cases e;exact aBh xc (cL hg).1 hkv I k⟩
  |none=>
  rw[hi]at h;obtain⟨y,hy,rfl⟩:=aU h;simp only[ev,ur,u7]at hd;obtain⟨u,hu,v,hv,hd⟩:=hd;have I:=(hE X _ S B a x xc hx u hu).1;have R:=(hE X _ S B b y xc hy v hv).1;exact⟨aDT xc.units I R ((bV hy).marks o) hd,λk e=>by subst e;exact aBj xc.units I R ((bV hy).marks o) hd⟩
 |[o,o'],[b,b'],h=>
  obtain⟨x,hx,h⟩:=aE h;obtain⟨y,hy,h⟩:=aE h;obtain⟨z,hz,rfl⟩:=aU h;simp only[ev,ur,u7]at hd;obtain⟨v,hv,u,hu,w,hw,hd⟩:=hd;have I:=(hE X _ S B a x xc hx u hu).1;have R:=(hE X _ S B b y xc hy v hv).1;have lm:lastMarks [o,o'] [b,b']=J:=(bV hz).marks o';cases w<;>first|exact nomatch (show O=U d from hd)|skip
  rename_i kk;cases kk with
  |true=>obtain⟨w,hw',hd⟩:=aE hd;have pc:=(hE X _ S B b' z xc hz w hw').1;exact⟨UM xc.units I R pc lm hw (by rw[if_pos rfl];exact hd),λk e=>by subst e;exact KZ xc.units I R pc lm hw (by rw[if_pos rfl];exact hd)⟩
  |false=>cases hd;refine⟨PE.mono (xF (fE (T:=T) (S:=S) xc.units o) (fE (T:=T) (S:=S) xc.units o') I R (tc:=λ_ _ _=>False) (λ_ _ _ _ _ _ h=>h.elim) lm) λV H Q ⟨re,q⟩=>⟨re,λx H1 s1 r1=>⟨re.same s1,λy H2 s2 r2=>⟨u,v,.bl J,((re.same s1).same s2).dom,r1.same s2,r2,hw,λz H3 s3 W=>?_⟩⟩⟩,λk e=>?_⟩;unfold Rep at W;exact⟨J,W,xX (q _ H3 (s1.trans (s2.trans s3)) cP)⟩;cases e;refine PT.mono (xC (fE (T:=T) (S:=S) xc.units o) (fE (T:=T) (S:=S) xc.units o') I R (tc:=λ_ _ _=>False) (λ_ _ _ _ _ _ h=>h.elim) lm) λV H Q ⟨re,q⟩=>⟨re,λx H1 s1 r1=>⟨re.same s1,λy H2 s2 r2=>⟨u,v,.bl J,((re.same s1).same s2).dom,r1.same s2,r2,hw,λz H3 s3 W=>?_⟩⟩⟩;unfold Rep at W;exact⟨J,W,xX ⟨_,rfl,q H3 (s1.trans (s2.trans s3))⟩⟩
end
def KI(hE:gq CX G T lv n)(hT:p5 CX G T lv n)(hB:uc CX G T lv n)(hA:ko CX G T lv n)(hI:OkI CX G T lv n):gq CX G T lv (n+1):=by
 intro X c S B e ir xc h d hd;cases e<;>first|exact nomatch (show O=U ir from h)|skip
 case Name x p=>
  refine eQ ?_ rfl;have h:zP c x=U ir:=h;unfold zP at h;cases hs:aZ c x with
  |some i=>rw[hs]at h;cases h;simp only[ev]at hd;exact aDz xc hs hd
  |none=>rw[hs]at h;obtain⟨hg,h⟩:=bA h;cases h;simp only[ev]at hd;exact aDP xc (cL hg).1 (cL hg).2 hd
 case Constant v k p=>
  refine eQ ?_ rfl;have h:CF v=U ir:=h;cases v<;>first|exact nomatch (show O=U ir from h)|skip
  all_goals
   cases h;simp only[ev,Lit.d,u4]at hd;subst hd
  exact aDH;exact aFs;exact aDN;exact aDB
 case BinOp a o b p=>
  refine eQ ?_ rfl;obtain⟨o',ho,h⟩:=aE h;obtain⟨x,hx,h⟩:=aE h;obtain⟨y,hy,rfl⟩:=aU h;simp only[ev,ur,u7]at hd;obtain⟨u,hu,v,hv,hd⟩:=hd;exact aDU ho (hE X _ S B a x xc hx u hu).1 (hE X _ S B b y xc hy v hv).1 hd
 case UnaryOp o a p=>
  refine eQ ?_ rfl;have h:aCN (cE n c a) o=U ir:=h;cases o<;>first|exact nomatch (show O=U ir from h)|skip
  obtain⟨x,hx,rfl⟩:=aU h;simp only[ev,ur,u7,v9]at hd;obtain⟨u,⟨w,hw,k,hk,rfl⟩,hd⟩:=hd;cases hd;exact aDG (hE X _ S B a x xc hx w hw).1 hk;obtain⟨x,hx,rfl⟩:=aU h;simp only[ev,ur,u7]at hd;obtain⟨u,hu,hd⟩:=hd;cases u<;>first|exact nomatch (show O=U d from hd)|skip
  cases hd;exact aDJ (hE X _ S B a x xc hx _ hu).1
 case BoolOp o vs p=>
  refine eQ ?_ rfl;cases o with
  |And=>exact(hB X _ S B Y vs ir p xc).1 h d hd
  |Or=>exact(hB X _ S B J vs ir p xc).1 h d hd
 case IfExp t a b p=>
  refine eQ ?_ rfl;obtain⟨x,hx,h⟩:=aE h;obtain⟨y,hy,h⟩:=aE h;obtain⟨z,hz,rfl⟩:=aU h;simp only[ev,ur,u7]at hd;obtain⟨u,hu,hd⟩:=hd;cases u<;>first|exact nomatch (show O=U d from hd)|skip
  rename_i k;have pt:=hT X _ S B t x xc hx k hu;cases k with
  |true=>exact WZ pt (λ_=>(hE X _ S B a y xc hy d hd).1) (λz=>by cases z)
  |false=>exact WZ pt (λz=>by cases z) (λ_=>(hE X _ S B b z xc hz d hd).1)
 case Compare a os bs p=>exact eQ (KC hE xc h hd).1 rfl
 case Tuple es k p=>
  refine eQ ?_ rfl;obtain⟨R,h⟩:=bA h;obtain⟨x,hx,rfl⟩:=aU h;simp only[ev,v9]at hd;obtain⟨ds,bq,rfl⟩:=hd;obtain⟨ds',e1,hl,I,hs⟩:=hA X _ S B es x xc hx _ (cK bq);cases e1;exact aDA I (by rw[hl];exact MT R)
 case List es p=>
  obtain⟨R,h⟩:=bA h;obtain⟨x,hx,rfl⟩:=aU h;simp only[ev,v9]at hd;obtain⟨ds,bq,rfl⟩:=hd;obtain⟨ds',e1,hl,I,hs⟩:=hA X _ S B es x xc hx _ (cK bq);cases e1;exact eW (WY I (by rw[hl];exact MT R))
 case Subscript a i p=>exact aAX hE xc h hd
 case Attribute a f p=>
  refine eQ ?_ rfl;obtain⟨iq,h⟩:=bA h;obtain⟨x,hx,rfl⟩:=aU h;simp only[ev,ur,u7]at hd;obtain⟨u,hu,hd⟩:=hd;have I:=(hE X _ S B a x xc hx u hu).1;cases u<;>first|exact nomatch (show O=U d from hd)|skip
  obtain⟨hf,hd⟩:=bA hd;exact aDQ xc I (mL iq) hf hd
 case ListComp elt gs sc p=>
  obtain⟨tg,iter,ifs,fr,aj,tp,ds,outs,f,rfl,rfl,h1,h2,h3,h4,h5,h6,h7,h8⟩:=DQ (S:=S) hE hT hI xc h hd;exact eW (TF xc h1 h2 h3 h4 h5 h6 h7 h8)
 case Call f args kw p=>
  obtain⟨W,h⟩:=bA h;obtain rfl:=kS W;cases f<;>first|exact nomatch (show O=U ir from h)|skip
  exact UB hE hA xc h hd;exact KD hE hA xc h hd
variable {CX:aq}{G:GS}{T:Tx}{lv:Nat}
def KG(hE:gq CX G T lv n)(hT:p5 CX G T lv n)(I:uc CX G T lv n):p5 CX G T lv (n+1):=by
 intro X c S B e ir xc h k hk;have tr:(cE n c e).map .tr=U ir->(∀z,isTrue e X.env z=(do let v <-z;standAt e.pos;holding [v] (truthy v)))->PT X e (ip X.K T S B k):=λh he=>by obtain⟨x,hx,rfl⟩:=aU h;simp only[ev,ur,u7,v9,D.bl.injEq]at hk;obtain⟨w,hw,k',R,rfl⟩:=hk;exact UJ (hE X c S B e x xc hx w hw).1 he R
 cases e<;>first|exact tr h λ_=>rfl|skip
 case BoolOp o vs p=>
  cases o with
  |And=>exact PW.pt ((I X c S B Y vs ir p xc).2 h k hk)
  |Or=>exact PW.pt ((I X c S B J vs ir p xc).2 h k hk)
 case UnaryOp o a p=>
  cases o<;>first|exact tr h λ_=>rfl|skip
  obtain⟨x,hx,rfl⟩:=aU h;simp only[ev,ur,u7]at hk;obtain⟨w,hw,hk⟩:=hk;cases w<;>first|exact nomatch (show O=U (D.bl k) from hk)|skip
  cases hk;exact aBc (hT X c S B a x xc hx _ hw)
 case IfExp _ _ _ _=>exact nomatch (show O=U ir from h)
 case Compare a os bs p=>exact(KC hE xc h hk).2 k rfl
theorem cM:∀n,gq CX G T lv n/\p5 CX G T lv n/\uc CX G T lv n/\ko CX G T lv n/\OkI CX G T lv n
 | 0=>⟨λX c S B e ir xc h=>(nomatch (show O=U ir from h)),λX c S B e ir xc h=>(nomatch (show O=U ir from h)),λX c S B k vs ir pos xc=>⟨λh=>(nomatch (show O=U ir from h)),λh=>(nomatch (show O=U ir from h))⟩,λX c S B es ir xc h=>(nomatch (show O=U ir from h)),λX c S B e k ir xc h=>(nomatch (show O=U (k,ir) from h))⟩
 |n+1=>by obtain⟨hE,hT,z,hA,I⟩:=cM n;exact⟨KI hE hT z hA I,KG hE hT z,KJ hE hT z,KL hE hA,KH hE hA⟩
abbrev Dm(S₀:Addr->Prop)(H₀:Hp)(_:List Sl)(_:L2.St):Prop:=∀a,S₀ a->∃o,H₀ a=U o
def zA(K:xq)(T:Tx)(H₀:Hp)(S:Addr->Prop)(B:List Sl)(V:L2.St)(H:Hp)(i:Nat)(ls:List (List D)):Prop:=∃(p:Addr) (bs:List Addr),V[i]?=U (U (.ref p))/\(S p/\H₀ p=O)/\H p=U (.lst (bs.map σ.ref))/\p∉bs/\bs.Nodup/\bs.length=ls.length/\(∀b∈bs,S b/\H₀ b=O) /\(∀(j:Nat) b l,bs[j]?=U b->ls[j]?=U l->∃xs,H b=U (.lst xs)/\aD K T H S l xs)/\∀(j:Nat) d q,B[j]?=U (.mu d)->V[j]?=U (U (.ref q))->q≠p/\q∉bs
structure SInv (K:xq) (T:Tx) (S₀:Addr->Prop) (H₀:Hp) (S:Addr->Prop) (B:List Sl) (V:L2.St) (H:Hp):Prop where
 re:RE K T H S B V
 dom0:Dm S₀ H₀ B V
 sup:∀a,S₀ a->S a
 same:aG H₀ H
 dist:∀(i j:Nat) xs ys p,B[i]?=U (.mu xs)->B[j]?=U (.mu ys)->V[i]?=U (U (.ref p))->V[j]?=U (U (.ref p))->i=j
 own:∀(i:Nat) xs p,B[i]?=U (.mu xs)->V[i]?=U (U (.ref p))->H₀ p=O
 nm:∀(i:Nat) ls,B[i]?=U (.mm ls)->zA K T H₀ S B V H i ls
section
variable {K:xq}{T:Tx}{S₀ S S':Addr->Prop}{H₀ H H' uh:Hp}{B ρ1:List Sl}{V σ1:L2.St}
def aO.refl:aO K H H S S:=λa n _=>⟨n,λ_ e=>e⟩
def aO.same(h:aG H H'):aO K H H' S S:=λa n _=>⟨n,λo e=>h a o e⟩
def aO.trans{z:Addr->Prop}(h:aO K H H' S S')(g:aO K H' uh S' z):aO K H uh S z:=λa n q=>by obtain⟨n1,k1⟩:=h a n q;obtain⟨n2,k2⟩:=g a n1 (q.elim (λ⟨o,e⟩=>.inl ⟨o,k1 o e⟩) .inr);exact⟨n2,λo e=>k2 o (k1 o e)⟩
theorem qE{S':Addr->Prop}:∀{bs:List Addr} {ls:List (List D)},bs.length=ls.length->(∀a,S' a->S a)->(∀b,b∈bs->S' b->False)->(∀(j:Nat) b l,bs[j]?=U b->ls[j]?=U l->∃xs,H b=U (.lst xs)/\aD K T H S l xs)->aD K T H S' (ls.map D.lst) (bs.map σ.ref)
 |[],[],_,_,_,_=>aD.nil
 |b::bs,l::ls,hl,hs,h2,hc=>by obtain⟨xs,g,r⟩:=hc 0 b l rfl rfl;refine aD.cons ?_ (qE (by simpa using hl) hs (λc m=>h2 c (ux _ m)) λj c m e1 e2=>hc (j+1) c m e1 e2);unfold Rep;exact⟨b,xs,rfl,λz=>h2 b wu z,g,aD.mono hs (λ_ _ _ e=>e) _ _ r⟩
def zA.inn{ls:List (List D)}{bs:List Addr}(e:bs.length=ls.length)(h:∀(j:Nat) b l,bs[j]?=U b->ls[j]?=U l->∃xs,H b=U (.lst xs)/\aD K T H S l xs){b:Addr}(m:b∈bs):∃xs,H b=U (.lst xs):=by obtain⟨j,e1⟩:=List.mem_iff_getElem?.mp m;have z:=(u0.mp e1).1;obtain⟨xs,h1,_⟩:=h j b _ e1 (uk (by rw[<-e];exact z));exact⟨xs,h1⟩
theorem zA.gen{B':List Sl}{W:L2.St}{ls:List (List D)}(h:zA K T H₀ S B V H i ls)(mv:aO K H H' S S') (hS:∀q o,S q->H q=U o->(∀(j:Nat) d,B[j]?=U (.mu d)->V[j]?≠U (U (.ref q)))->S' q/\H' q=U o) (hσ:W[i]?=V[i]?) (R:∀(j:Nat) d q,B'[j]?=U (.mu d)->W[j]?=U (U (.ref q))->(∃d',B[j]?=U (.mu d')/\V[j]?=U (U (.ref q)))\/H q=O):zA K T H₀ S' B' W H' i ls:=by
 obtain⟨p,bs,e1,⟨s1,o1⟩,e2,np,nd,hl,hb,hc,I⟩:=h;obtain⟨t1,g1⟩:=hS p _ s1 e2 λj d e z=>(I j d p e z).1 rfl
 have dh:∀b∈bs,∃xs,H b=U (.lst xs):=λb m=>zA.inn hl hc m;refine⟨p,bs,hσ.trans e1,⟨t1,o1⟩,g1,np,nd,hl,λb m=>?_,λj b l z1 z2=>?_,λj d q e z=>?_⟩;obtain⟨xs,h1⟩:=dh b m;exact⟨(hS b _ (hb b m).1 h1 λj d e z=>(I j d b e z).2 m).1,(hb b m).2⟩;obtain⟨xs,h1,r⟩:=hc j b l z1 z2;have m:=u6 z1;exact⟨xs,(hS b _ (hb b m).1 h1 λj d e z=>(I j d b e z).2 m).2,aD.gen mv _ _ r⟩;rcases R j d q e z with ⟨d',q1,q2⟩|q';exact I j d' q q1 q2;refine⟨λz=>?_,λm=>?_⟩;subst z;rw[e2]at q';cases q';obtain⟨xs,h1⟩:=dh q m;rw[h1]at q';cases q'
def SInv.step(I:SInv K T S₀ H₀ S B V H)(h:aG H H'):SInv K T S₀ H₀ S B V H':=⟨I.re.same h,I.dom0,I.sup,I.same.trans h,I.dist,I.own,λi ls e=>(I.nm i ls e).gen (aO.same h) (λq o z e _=>⟨z,h q o e⟩) rfl λj d q e1 e2=>.inl ⟨d,e1,e2⟩⟩
def iG{j:Nat}{s t:Sl}(e:(B.set i s)[j]?=U t)(h:s≠t):j≠i:=by
 rintro rfl;have hl:j<B.length:=by simpa using (u0.mp e).1
 rw[vf hl]at e;exact h (v8 e)
theorem SInv.set(I:SInv K T S₀ H₀ S B V H){d:D}(r:Rep K T H S d v):SInv K T S₀ H₀ S (B.set i (.im d)) (V.set i (U v)) H:=by
 have old:∀(j:Nat) xs p,(B.set i (.im d))[j]?=U (.mu xs)->(V.set i (U v))[j]?=U (U (.ref p))->j≠i/\B[j]?=U (.mu xs)/\V[j]?=U (U (.ref p)):=λj xs p h1 h2=>by
  have ne:j≠i:=by
   rintro rfl;have hl:j<B.length:=by simpa using (u0.mp h1).1
   rw[vf hl]at h1;cases h1
  rw[vg (Ne.symm ne)]at h1 h2;exact⟨ne,h1,h2⟩
 refine⟨I.re.set r,I.dom0,I.sup,I.same,λa b xs ys p h1 h2 h3 h4=>?_,λa xs p h1 h2=>?_,λk ls e=>?_⟩;obtain⟨_,R,q2⟩:=old a xs p h1 h3;obtain⟨_,q3,W⟩:=old b ys p h2 h4;exact I.dist a b xs ys p R q3 q2 W;obtain⟨_,R,q2⟩:=old a xs p h1 h2;exact I.own a xs p R q2;have ne:=iG e (λz=>by cases z);rw[vg (Ne.symm ne)]at e;exact(I.nm k ls e).gen aO.refl (λq o z e _=>⟨z,e⟩) (vg (Ne.symm ne)) λj d q e1 e2=>.inl ⟨d,(old j d q e1 e2).2⟩
def SInv.setm(I:SInv K T S₀ H₀ S B V H){ds:D}{p:Addr}{xs:HO}(sm:aG H H')(hp:H p=O)(hk:K.lookup p=O)(fg:H' p=U xs)(rl:oE K T (er H' p) S ds xs):SInv K T S₀ H₀ (λa=>S a\/a=p) (B.set i (.mu ds)) (V.set i (U (.ref p))) H'/\aO K H H' S (λa=>S a\/a=p):=by
 have mv:aO K H H' S (λa=>S a\/a=p):=λa n q=>by
  have ne:a≠p:=by rintro rfl;rcases q with ⟨o,e⟩|⟨o,e⟩;rw[hp]at e;cases e;rw[hk]at e;cases e
  exact⟨λz=>z.elim n ne,λo e=>sm a o e⟩
 have dom:∀a,(S a\/a=p)->∃o,H' a=U o:=λa z=>z.elim (λz=>let ⟨o,e⟩:=I.re.dom a z;⟨o,sm a o e⟩) λz=>⟨xs,by rw[z];exact fg⟩;have re':RE K T H' (λa=>S a\/a=p) B V:=I.re.gen mv (λa ys z e _=>⟨.inl z,sm a _ e⟩) dom;have R:∀(j:Nat) ys,B[j]?=U (.mu ys)->V[j]?=U (U (.ref p))->False:=λj ys h1 h2=>by obtain⟨q,zs,e1,e2,e3,_⟩:=I.re.at_ j _ h1;rw[h2]at e1;cases e1;rw[hp]at e3;cases e3
 have at_:∀(j:Nat) ys q,(B.set i (.mu ds))[j]?=U (.mu ys)->(V.set i (U (.ref p)))[j]?=U (U (.ref q))->(j=i/\q=p)\/(j≠i/\B[j]?=U (.mu ys)/\V[j]?=U (U (.ref q))):=λj ys q h1 h2=>by
  by_cases e:j=i;subst e;have hl:j<B.length:=by simpa using (u0.mp h1).1
  rw[vf (by rw[<-I.re.len];exact hl)]at h2;cases h2;exact .inl ⟨rfl,rfl⟩;rw[vg (Ne.symm e)]at h1 h2;exact .inr ⟨e,h1,h2⟩
 refine⟨⟨⟨dom,by simp[I.re.len],λj s e=>?_⟩,I.dom0,λa z=>.inl (I.sup a z),I.same.trans sm,λa b ys zs q h1 h2 h3 h4=>?_,λa ys q h1 h2=>?_,λk ls e=>?_⟩,mv⟩;by_cases hj:j=i;subst hj;have hl:j<B.length:=by simpa using (u0.mp e).1
 rw[vf hl]at e;cases e;rw[vf (by rw[<-I.re.len];exact hl)];exact⟨p,xs,rfl,.inr rfl,fg,rl.gen (aO.own hk)⟩;rw[vg (Ne.symm hj)]at e ⊢;exact re'.at_ j s e;rcases at_ a ys q h1 h3 with ⟨ea,eq⟩|⟨na,W,q2⟩;rcases at_ b zs q h2 h4 with ⟨eb,_⟩|⟨nb,q3,q4⟩;rw[ea,eb];subst eq;exact(R b zs q3 q4).elim;rcases at_ b zs q h2 h4 with ⟨eb,eq⟩|⟨nb,q3,q4⟩;subst eq;exact(R a ys W q2).elim;exact I.dist a b ys zs q W q3 q2 q4;rcases at_ a ys q h1 h2 with ⟨ea,eq⟩|⟨na,W,q2⟩;subst eq;exact I.same.free hp;exact I.own a ys q W q2;have ne:=iG e (λz=>by cases z);rw[vg (Ne.symm ne)]at e;refine(I.nm k ls e).gen mv (λq o z e _=>⟨.inl z,sm q o e⟩) (vg (Ne.symm ne)) λj d q e1 e2=>?_;rcases at_ j d q e1 e2 with ⟨_,rfl⟩|⟨_,W,q2⟩;exact .inr hp;exact .inl ⟨d,W,q2⟩
def SInv.write(I:SInv K T S₀ H₀ S B V H){ds ds':D}{p:Addr}{xs':HO}(hi:B[i]?=U (.mu ds))(hp:V[i]?=U (U (.ref p)))(rl:oE K T H S ds' xs'):SInv K T S₀ H₀ S (B.set i (.mu ds')) V (upd H p xs')/\aO K H (upd H p xs') S S:=by
 obtain⟨q,zs,e1,e2,e3,_⟩:=I.re.at_ i _ hi;rw[hp]at e1;cases e1;have mv:aO K H (upd H p xs') S S:=λa n _=>⟨n,λo e=>by rw[aS (λz=>n (by rw[z];exact e2))];exact e⟩;have dom:∀a,S a->∃o,upd H p xs' a=U o:=λa z=>by by_cases e:a=p;exact⟨xs',by rw[e];exact aW⟩;obtain⟨o,q⟩:=I.re.dom a z;exact⟨o,by rw[aS e];exact q⟩
 have hl:i<B.length:=(u0.mp hi).1;have old:∀(j:Nat) ys,(B.set i (.mu ds'))[j]?=U (.mu ys)->∃zs,B[j]?=U (.mu zs):=λj ys h=>by by_cases e:j=i;exact⟨ds,by rw[e];exact hi⟩;rw[vg (Ne.symm e)]at h;exact⟨ys,h⟩
 refine⟨⟨⟨dom,by simp[I.re.len],λj s e=>?_⟩,I.dom0,I.sup,λb o e=>?_,λa b ys zs q h1 h2 h3 h4=>?_,λa ys q h1 h2=>?_,λk ls e=>?_⟩,mv⟩;by_cases hj:j=i;subst hj;rw[vf hl]at e;cases e;exact⟨p,xs',hp,e2,aW,rl.gen mv⟩;rw[vg (Ne.symm hj)]at e;have h:=I.re.at_ j s e;cases s with
 |un=>trivial
 |mm _=>trivial
 |im d=>obtain⟨v,W,r⟩:=h;exact⟨v,W,Rep.gen mv d v r⟩
 |mu ys=>obtain⟨q,ws,W,e5,e6,r⟩:=h;refine⟨q,ws,W,e5,?_,r.gen mv⟩;rw[aS];exact e6;rintro rfl;exact hj (I.dist j i ys ds q e hi W hp)
 have ne:b≠p:=by rintro rfl;rw[I.own i ds b hi hp]at e;cases e
 rw[aS ne];exact I.same b o e;obtain⟨jk,R⟩:=old a ys h1;obtain⟨zs',q2⟩:=old b zs h2;exact I.dist a b jk zs' q R q2 h3 h4;obtain⟨jk,R⟩:=old a ys h1;exact I.own a jk q R h2;have ne:=iG e (λz=>by cases z);rw[vg (Ne.symm ne)]at e;refine(I.nm k ls e).gen mv (λq o z e hq=>⟨z,?_⟩) rfl λj d q e1 e2=>.inl ?_;rw[aS (λz=>hq i ds hi (by rw[z];exact hp))];exact e;obtain⟨d',R⟩:=old j d e1;exact⟨d',R,e2⟩
theorem jM:∀{is:List Nat} {ds:List D} {B ρ1:List Sl} {j:Nat} {xs:D},bB is ds B=U ρ1->ρ1[j]?=U (.mu xs)->j∉is/\B[j]?=U (.mu xs)
 |[],[],B,ρ1,j,xs,h,e=>by simp only[bB,u4]at h;subst h;exact⟨zv,e⟩
 |i::is,d::ds,B,ρ1,j,xs,h,e=>by
  simp only[bB]at h;obtain⟨n,q⟩:=jM h e;have ne:j≠i:=by
   rintro rfl;have hl:j<B.length:=by simpa using (u0.mp q).1
   rw[vf hl]at q;cases q
  rw[vg (Ne.symm ne)]at q;exact⟨by simp[n,ne],q⟩
 |[],_::_,_,_,_,_,h,_=>by simp[bB]at h
 |_::_,[],_,_,_,_,h,_=>by simp[bB]at h
def mK{d:D}{j:Nat}{xs:D}(h:aX is tp d B=U ρ1)(e:ρ1[j]?=U (.mu xs)):j∉is/\B[j]?=U (.mu xs):=by unfold aX at h;split at h;split at h;exact jM h e;cases h;exact jM h e
theorem jN:∀{is:List Nat} {ds:List D} {B ρ1:List Sl} {j:Nat} {ls:List (List D)},bB is ds B=U ρ1->ρ1[j]?=U (.mm ls)->j∉is/\B[j]?=U (.mm ls)
 |[],[],B,ρ1,j,ls,h,e=>by simp only[bB,u4]at h;subst h;exact⟨zv,e⟩
 |i::is,d::ds,B,ρ1,j,ls,h,e=>by simp only[bB]at h;obtain⟨n,q⟩:=jN h e;have ne:=iG q (λz=>by cases z);rw[vg (Ne.symm ne)]at q;exact⟨by simp[n,ne],q⟩
 |[],_::_,_,_,_,_,h,_=>by simp[bB]at h
 |_::_,[],_,_,_,_,h,_=>by simp[bB]at h
def PB{d:D}{j:Nat}{ls:List (List D)}(h:aX is tp d B=U ρ1)(e:ρ1[j]?=U (.mm ls)):j∉is/\B[j]?=U (.mm ls):=by unfold aX at h;split at h;split at h;exact jN h e;cases h;exact jN h e
def SInv.bind(I:SInv K T S₀ H₀ S B V H){d:D}(h:aX is tp d B=U ρ1)(re:RE K T H S ρ1 σ1)(W:∀j,j∉is->σ1[j]?=V[j]?):SInv K T S₀ H₀ S ρ1 σ1 H:=by refine⟨re,I.dom0,I.sup,I.same,λa b xs ys p h1 h2 h3 h4=>?_,λa xs p h1 h2=>?_,λk ls e=>?_⟩;obtain⟨n1,R⟩:=mK h h1;obtain⟨n2,q2⟩:=mK h h2;rw[W a n1]at h3;rw[W b n2]at h4;exact I.dist a b xs ys p R q2 h3 h4;obtain⟨n1,R⟩:=mK h h1;rw[W a n1]at h2;exact I.own a xs p R h2;obtain⟨n1,R⟩:=PB h e;refine(I.nm k ls R).gen aO.refl (λq o z e _=>⟨z,e⟩) (W k n1) λj d' q e1 e2=>?_;obtain⟨n2,q2⟩:=mK h e1;rw[W j n2]at e2;exact .inl ⟨d',q2,e2⟩
theorem RE.view(re:RE K T H S B V):RE K T H (λ_=>False) (view B) V:=by
 refine⟨λa z=>z.elim,by simp[Z.view,re.len],λi s e=>?_⟩;unfold Z.view at e;rw[um]at e;cases h:B[i]? with
 |none=>rw[h]at e;cases e
 |some s'=>
  rw[h]at e;cases e;have r:=re.at_ i s' h;cases s' with
  |un=>trivial
  |mm _=>trivial
  |im d=>obtain⟨v,e1,r⟩:=r;exact⟨v,e1,Rep.mono (λ_ z=>z.elim) (λ_ _ _ e=>e) d v r⟩
  |mu ds=>obtain⟨p,xs,e1,_,I,r⟩:=r;exact⟨.ref p,e1,r.rep I (λz=>z) λ_ z=>z.elim⟩
def pW{j:Nat}{d:D}(e:(B.map fL)[j]?=U (.mu d)):B[j]?=U (.mu d):=by
 rw[um]at e;cases h:B[j]? with
 |none=>rw[h]at e;cases e
 |some s=>rw[h]at e;cases s<;>cases e;rfl
def ZE{j:Nat}{ls:List (List D)}(e:(B.map fL)[j]?=U (.mm ls)):False:=by
 rw[um]at e;cases h:B[j]? with
 |none=>rw[h]at e;cases e
 |some s=>rw[h]at e;cases s<;>cases e
def SInv.nmake(R:SInv K T S₀ H₀ S B V H){s:Sl}(hi:i<B.length)(hs:∀d,s≠.mu d)(mv:aO K H H' S S')(sup:∀a,S₀ a->S' a)(same:aG H₀ H')(dom:∀a,S' a->∃o,H' a=U o)(hl:σ1.length=V.length)(hσ:∀j,j≠i->σ1[j]?=V[j]?) (mus:∀(j:Nat) d q o,B[j]?=U (.mu d)->j≠i->V[j]?=U (U (.ref q))->S q->H q=U o->S' q/\H' q=U o) (at_:PQ K T H' S' s σ1[i]?) (nm:∀ls,s=.mm ls->zA K T H₀ S' ((B.map fL).set i s) σ1 H' i ls):SInv K T S₀ H₀ S' ((B.map fL).set i s) σ1 H':=by
 have old:∀(j:Nat) d,((B.map fL).set i s)[j]?=U (.mu d)->j≠i/\B[j]?=U (.mu d)/\σ1[j]?=V[j]?:=λj d e=>by have ne:=iG e (hs d);rw[vg (Ne.symm ne)]at e;exact⟨ne,pW e,hσ j ne⟩
 have rj:i<(B.map fL).length:=by rw[uo];exact hi
 refine⟨⟨dom,by rw[length_set,uo,hl];exact R.re.len,λj sl e=>?_⟩,R.dom0,sup,same,λj k d d' u h1 h2 h3 h4=>?_,λj d u h1 h2=>?_,λj ls e=>?_⟩;by_cases I:j=i;subst I;rw[vf rj]at e;cases e;exact at_;rw[vg (Ne.symm I),um]at e;cases h:B[j]? with
 |none=>rw[h]at e;cases e
 |some t=>
  rw[h]at e;have z:=R.re.at_ j t h;cases t with
  |un=>cases e;trivial
  |mm _=>cases e;trivial
  |im d=>cases e;obtain⟨v,W,r⟩:=z;exact⟨v,by rw[hσ j I];exact W,Rep.gen mv d v r⟩
  |mu d=>cases e;obtain⟨u,w,W,e5,e6,r⟩:=z;obtain⟨t1,t2⟩:=mus j d u w h I W e5 e6;exact⟨u,w,by rw[hσ j I];exact W,t1,t2,r.gen mv⟩
 obtain⟨_,q1,q2⟩:=old j d h1;obtain⟨_,q3,q4⟩:=old k d' h2;rw[q2]at h3;rw[q4]at h4;exact R.dist j k d d' u q1 q3 h3 h4;obtain⟨_,q1,q2⟩:=old j d h1;rw[q2]at h2;exact R.own j d u q1 h2;by_cases I:j=i;subst I;rw[vf rj]at e;exact nm ls (v8 e);rw[vg (Ne.symm I)]at e;exact(ZE e).elim
theorem SInv.viewN(I:SInv K T S₀ H₀ S B V H):RE K T H (λ_=>False) (viewN B) V:=by
 refine⟨λa z=>z.elim,by simp[Z.viewN,I.re.len],λi s e=>?_⟩;unfold Z.viewN at e;rw[um]at e;cases h:B[i]? with
 |none=>rw[h]at e;cases e
 |some s'=>
  rw[h]at e;cases e;cases s' with
  |un=>trivial
  |im d=>obtain⟨v,e1,r⟩:=I.re.at_ i _ h;exact⟨v,e1,Rep.mono (λ_ z=>z.elim) (λ_ _ _ e=>e) d v r⟩
  |mu ds=>obtain⟨p,xs,e1,_,R,r⟩:=I.re.at_ i _ h;exact⟨.ref p,e1,r.rep R (λz=>z) λ_ z=>z.elim⟩
  |mm ls=>obtain⟨p,bs,e1,_,e2,_,_,hl,_,hc,_⟩:=I.nm i ls h;exact⟨.ref p,e1,by unfold cg Rep;exact⟨p,_,rfl,λz=>z,e2,qE hl (λ_ z=>z.elim) (λ_ _ z=>z) hc⟩⟩
def IQ{d:D}(h:EY d=Y)(r:Rep K T H S d v):Rep K T H S' d v:=by cases d<;>first|(simp only[EY,uw]at h;done)|(unfold Rep at r ⊢;exact r)
end
variable {CX:aq}{G:GS}{T:Tx}{lv:Nat}{X:Cx}{c:CC}{S₀:Addr->Prop}{H₀:Hp}{fr:Bool}{EX:Str->Hp->Prop}{pos:Pos}
noncomputable def PR(K:xq)(T:Tx)(S₀:Addr->Prop)(H₀:Hp)(fr:Bool)(EX:Str->Hp->Prop)(H:Hp)(S:Addr->Prop)(D:Ends):Out->Prop
 |.nx B=>∀S' z H',SInv K T S₀ H₀ S' B z H'->aO K H H' S S'->D.nx z H'
 |.bk B=>∀S' z H',SInv K T S₀ H₀ S' B z H'->aO K H H' S S'->D.bk z H'
 |.ct B=>∀S' z H',SInv K T S₀ H₀ S' B z H'->aO K H H' S S'->D.ct z H'
 |.rt d=>∀v H',aG H₀ H'->Rep K T H' S₀ d v->(fr=Y->tP K T S₀ H₀ H' d v)->D.rt v H'
 |.er c=>∀H',aG H₀ H'->EX c H'
def bb(K:xq)(T:Tx)(S₀:Addr->Prop)(H₀:Hp)(fr:Bool)(EX:Str->Hp->Prop)(G:GS)(is:IS):TS:=λD V H=>∃B out S,ex G is B=U out/\SInv K T S₀ H₀ S B V H/\PR K T S₀ H₀ fr EX H S D out
structure XS (CX:aq) (T:Tx) (X:Cx) (c:CC) (EX:Str->Hp->Prop):Prop where
 kind:X.env.scope.kind=.function
 pass:PassesOwn (model X.prog X.w) X.A X.env X.xe
 rse:∀x m j p p' q pos,bG c x=Y->c.cls.contains x=Y->PS X (.Raise (U (.Call (.Name x p) [.Constant (.str m) j p'] [] q)) O pos) (λD V H=>EX x H)
 pss:∀E1:XK,(∀cls H',E1 cls O H'->∃k C,T.xc k=U C/\cls=.ref C/\EX k H')->gW CX X E1
 stk:X.stack=X.env::X.outer
 frm:X.env.frame=U X.env.locals
def PR.step{S':Addr->Prop}{D:Ends}{o:Out}(mv:aO K H H' S S')(h:PR K T S₀ H₀ fr EX H S D o):PR K T S₀ H₀ fr EX H' S' D o:=by
 cases o with
 |nx B=>exactλR z H2 I m=>h R z H2 I (mv.trans m)
 |bk B=>exactλR z H2 I m=>h R z H2 I (mv.trans m)
 |ct B=>exactλR z H2 I m=>h R z H2 I (mv.trans m)
 |rt d=>exact h
 |er c=>exact h
def rB{e:IE}{d:D}(h:fi G e B=U d):ev G e B=U d\/(ev G e (view B)=U d/\EY d=Y):=by unfold fi at h;split at h;rename_i h1;cases h;exact .inl h1;split at h;rename_i h2;split at h;rename_i h3;cases h;exact .inr ⟨h2,h3⟩;cases h;cases h
def qI(xc:XC CX X c G T lv){d:D}(he:cE n c e=U ir)(h:fi G ir B=U d):PE X e (tD X.K T S B d):=by rcases rB h with h|⟨h,hs⟩;exact((cM n).1 X c S B e ir xc he d h).1;exact PE.mono ((cM n).1 X c (λ_=>False) (view B) e ir xc he d h).1 λV H Q ⟨re,q⟩=>⟨re.view,λv H' z r=>q v H' z (IQ hs r)⟩
def QQ:PS X (.Pass pos) (bb X.K T S₀ H₀ fr EX G .nop):=λpins s V H D I ⟨B,out,S,hx,z,po⟩=>by simp only[ex,u4]at hx;subst hx;exact SN pins s V H D I (po S V H z aO.refl)
def QO:PS X (.Return O pos) (bb X.K T S₀ H₀ fr EX G .retn):=λpins s V H D I ⟨B,out,S,hx,z,po⟩=>by simp only[ex,u4]at hx;subst hx;exact SM pins s V H D I (po .non H z.same (by unfold Rep;rfl) λ_ ds e=>by cases e)
def QP(xc:XC CX X c G T lv)(e:aZ c x=U i):PS X (.Return (U (.Name x p)) pos) (bb X.K T S₀ H₀ fr EX G (.M i)):=λpins s V H D I ⟨B,out,S,hx,R,po⟩=>by
 simp only[ex]at hx;split at hx;rename_i ds hi;cases hx;obtain⟨q,xs,e1,e2,e3,rl⟩:=R.re.at_ i _ hi;have hn:=R.own i ds q hi e1;have n0:¬S₀ q:=λz=>by obtain⟨o,z⟩:=R.dom0 q z;rw[hn]at z;cases z
 refine uB (fJ xc e) pins s V H D I ⟨_,e1,po (.ref q) H R.same ?_ λ_ ds' z=>?_⟩;exact rl.rep e3 n0 R.sup;subst z;obtain⟨ys,rfl,W⟩:=rl.lst;exact⟨q,ys,rfl,hn,e3,aD.disown e2 R.sup W⟩;cases hx
def ZN(xc:XC CX X c G T lv){b:Bool}(he:cE n c e=U ir)(hb:b=Y->gR c e=Y)(av:fr=Y->b=Y):PS X (.Return (U e) pos) (bb X.K T S₀ H₀ fr EX G (.ret b ir)):=λpins s V H D I ⟨B,out,S,hx,R,po⟩=>by
 simp only[ex,v9]at hx;obtain⟨d,hd,rfl⟩:=hx;have plain:(∀ds,d=.lst ds->fr=J)->wpAny (model X.prog X.w) X.A (exec (.Return (U e) pos) X.env) (SP X pins D) X.xe s:=λhn=>uB (qI (S:=S) xc he hd) pins s V H D I ⟨R.re,λv H' W r=>po v H' (R.same.trans W) (Rep.mono R.sup (λ_ _ _ e=>e) d v r) λz ds e=>by rw[hn ds e]at z;cases z⟩;cases hf:fr with
 |false=>exact plain λ_ _=>hf
 |true=>
  by_cases hl:∃ds,d=.lst ds;obtain⟨ds,rfl⟩:=hl;have se:ev G ir B=U (.lst ds):=by rcases rB hd with h|⟨_,h⟩;exact h;cases h
  refine uB (((cM n).1 X c S B e ir xc he _ se).2 (hb (av hf)) ds rfl) pins s V H D I ⟨R.re,λp xs H' W hp fg rl=>po (.ref p) H' (R.same.trans W) ?_ λ_ ds' z=>?_⟩;unfold Rep;exact⟨p,xs,rfl,λz=>R.re.nS hp (R.sup p z),fg,aD.mono R.sup (λ_ _ _ e=>e) _ _ rl.er⟩;cases z;exact⟨p,xs,rfl,R.same.free hp,fg,aD.mono R.sup (λ_ _ _ e=>e) _ _ rl⟩;exact plain λds e=>(hl ⟨ds,e⟩).elim
def aCG(xc:XC CX X c G T lv){t:Expr}{a b:List Stmt}{ia ib:IS}(W:cT n c t=U ir)(ha:PSs X a (bb X.K T S₀ H₀ fr EX G ia))(hb:PSs X b (bb X.K T S₀ H₀ fr EX G ib)):PS X (.If t a b pos) (bb X.K T S₀ H₀ fr EX G (.g ir ia ib)):=λpins s V H D I ⟨B,out,S,hx,R,po⟩=>by
 simp only[ex,ur,u7]at hx;obtain⟨w,hw,hx⟩:=hx;cases w<;>first|(simp only[reduceCtorEq]at hx;done)|skip
 rename_i k;refine aDc ((cM n).2.1 X c (λ_=>False) (view B) t ir xc W k hw) ha hb pins s V H D I ⟨R.re.view,λH' z=>?_⟩;cases k with
 |true=>exact GC ⟨B,out,S,hx,R.step z,po.step (aO.same z)⟩
 |false=>exact xX ⟨B,out,S,hx,R.step z,po.step (aO.same z)⟩
def ZS:PSs X [] (bb X.K T S₀ H₀ fr EX G .nop):=λpins s V H D I ⟨B,out,S,hx,z,po⟩=>by simp only[ex,u4]at hx;subst hx;exact CI pins s V H D I (po S V H z aO.refl)
def ZL{rest:List Stmt}{a:IS}(ha:PS X st (bb X.K T S₀ H₀ fr EX G a))(hb:PSs X rest (bb X.K T S₀ H₀ fr EX G b)):PSs X (st::rest) (bb X.K T S₀ H₀ fr EX G (.seq a b)):=λpins s V H D I ⟨B,out,S,hx,z,po⟩=>by
 simp only[ex,ur,u7]at hx;obtain⟨o,ho,hx⟩:=hx;refine xD ha hb pins s V H D I ⟨B,o,S,ho,z,?_⟩;cases o with
 |nx B'=>exactλS' W H' R mv=>⟨B',out,S',hx,R,po.step mv⟩
 |bk B'=>simp only[u4]at hx;subst hx;exact po
 |ct B'=>simp only[u4]at hx;subst hx;exact po
 |rt d=>simp only[u4]at hx;subst hx;exact po
 |er d=>simp only[u4]at hx;subst hx;exact po
def MN(I:SInv K T S₀ H₀ S B V H):∃S',SInv K T S₀ H₀ S' (vE i B) V H/\aO K H H S S':=by
 unfold vE;split;rename_i d h;obtain⟨p,ob,e1,hp,e2,rm⟩:=I.re.at_ i _ h;have mv:aO K H H S (λa=>S a/\a≠p):=λa n _=>⟨λz=>n z.1,λ_ e=>e⟩;have hi:=(u0.mp h).1;have mu:∀{j:Nat} {x:D},(B.set i (.im d))[j]?=U (.mu x)->B[j]?=U (.mu x)/\j≠i:=λ{j x} q=>by by_cases e:j=i;subst e;rw[vf hi]at q;exact nomatch (v8 q);rw[vg (Ne.symm e)]at q;exact⟨q,e⟩
 refine⟨λa=>S a/\a≠p,⟨⟨λa z=>I.re.dom a z.1,by rw[length_set];exact I.re.len,λj s q=>?_⟩,I.dom0,λa z=>⟨I.sup a z,λe=>?_⟩,I.same,λj k x y r R q2=>I.dist j k x y r (mu R).1 (mu q2).1,λj x r q=>I.own j x r (mu q).1,λk ls q=>?_⟩,mv⟩;by_cases e:j=i;subst e;rw[vf hi]at q;cases q;exact⟨.ref p,e1,rm.rep e2 (λz=>z.2 rfl) λa z=>z.1⟩;rw[vg (Ne.symm e)]at q;have r:=I.re.at_ j s q;cases s with
 |un=>trivial
 |mm _=>trivial
 |im x=>obtain⟨v,h1,h2⟩:=r;exact⟨v,h1,Rep.gen mv _ _ h2⟩
 |mu x=>obtain⟨p',W,h1,h2,h3,h4⟩:=r;exact⟨p',W,h1,⟨h2,λz=>e (I.dist j i x d p' q h h1 (by rw[z];exact e1))⟩,h3,h4.gen mv⟩
 subst e;obtain⟨o,q⟩:=I.dom0 a z;rw[I.own i d a h e1]at q;exact nomatch q;have ne:=iG q (λz=>by cases z);rw[vg (Ne.symm ne)]at q;exact(I.nm k ls q).gen mv (λa o z e hq=>⟨⟨z,λw=>hq i d h (by rw[w];exact e1)⟩,e⟩) rfl λj x a R q2=>.inl ⟨x,(mu R).1,q2⟩;exact⟨S,I,aO.refl⟩
theorem DH{K:xq}{V:L2.St}{H:Hp}:∀(xs:List Nat) {S:Addr->Prop} {B:List Sl},SInv K T S₀ H₀ S B V H->∃S',SInv K T S₀ H₀ S' (freeze xs B) V H/\aO K H H S S'
 |[],S,_,z=>⟨S,z,aO.refl⟩
 |i::r,_,_,z=>by obtain⟨R,s1,m1⟩:=MN (i:=i) z;obtain⟨I,s2,m2⟩:=DH r s1;exact⟨I,s2,m1.trans m2⟩
def ZT{rest:List Stmt}{xs:List Nat}(hb:PSs X rest (bb X.K T S₀ H₀ fr EX G b)):PSs X rest (bb X.K T S₀ H₀ fr EX G (UZ xs b)):=by
 unfold UZ;cases h:xs.isEmpty with
 |true=>exact hb
 |false=>intro pins s V H D I ⟨B,out,S,hx,z,po⟩;obtain⟨S',R,mv⟩:=DH xs z;exact hb pins s V H D I ⟨freeze xs B,out,S',hx,R,po.step mv⟩
def ZM(xs:XS CX T X c EX){m:Str}{j:Nat}{p' q:Pos}(hg:bG c x=Y)(hc:c.cls.contains x=Y):PS X (.Raise (U (.Call (.Name x p) [.Constant (.str m) j p'] [] q)) O pos) (bb X.K T S₀ H₀ fr EX G (.rse x)):=λpins s V H D I ⟨B,out,S,hx,z,po⟩=>by simp only[ex]at hx;split at hx;cases hx;exact xs.rse x m j p p' q pos hg hc pins s V H D I (po H z.same);cases hx
def QL(xc:XC CX X c G T lv){k:Nat}(hn:fO c es=U is)(he:cE n c e=U ir)(hnt:∀vs k p,e≠.Tuple vs k p):PS X (.Assign [.Tuple es k p] e pos) (bb X.K T S₀ H₀ fr EX G (.t is ir)):=λpins s V H D I ⟨B,out,S,hx,R,po⟩=>by
 simp only[ex,ur,u7,v9]at hx;obtain⟨d,hd,ρ1,hb,rfl⟩:=hx;have cx:cC c (.Tuple es k p)=U (is,Y):=by simp only[cC,hn,wo]
 refine zU ((cM n).1 X c S B e ir xc he d hd).1 (TB xc (S:=S) cx hb) ?_ ?_ rfl pins s V H D I ⟨R.re,λv H' z r=>⟨R.re.same z,r,λV' W ag=>po S V' H' ((R.step z).bind hb W ag) (aO.same z)⟩⟩;cases e<;>rfl
 cases e<;>first|rfl|exact absurd rfl (hnt _ _ _)
variable {CX:aq}{G:GS}{T:Tx}{lv:Nat}{X:Cx}{c:CC}{S₀:Addr->Prop}{H₀:Hp}{fr:Bool}{EX:Str->Hp->Prop}{pos:Pos}
noncomputable def qN:Expr->Bool
 |.ListComp _ _ _ _=>Y
 |_=>J
def wI(h:cE n c e=U ir)(hc:qN e=J)(t:Expr)(l:Nat)(env:Env):swapsWith e (U t) l env=pure J:=by cases e<;>first|rfl|exact nomatch (show Y=J from hc)|(cases n<;>exact nomatch (show O=U ir from h))
def kW{l:Nat}{env:Env}:∃b,swapsWith (.ListComp elt gs sc p) (U (.Name x px)) l env=pure b:=⟨_,rfl⟩
def lH{d:D}(xc:XC CX X c G T lv)(h:cE n c (.ListComp elt gs sc p)=U ir)(hd:ev G ir B=U d)(S:Addr->Prop):∃tg iter ifs fr aj tp ds z f,gs=[⟨tg,iter,ifs,0⟩]/\d=.lst z/\gT c sc=Y/\freeOf c sc (sc.names.filter λx=>x.2 == .free)=U fr/\aj.all (λi=>(fr.lookup i).isNone)=Y/\cC {c with N:=ownNames sc,sc:=sc} tg=U (aj,tp) /\PI X tg iter (tI X.K T S B ds)/\(∀x,foldedSetIterable iter X.env x=pure x)/\bU f ds=U z /\(∀d o,f d=U o->∃ρ1,aX aj tp d (frame (ownNames sc).length fr B)=U ρ1/\TurnOk CX G T lv {c with N:=ownNames sc,sc:=sc} X.K ifs elt ρ1 o):=by
 cases n with
 |zero=>exact nomatch (show O=U ir from h)
 |succ n=>obtain⟨hE,hT,R,hA,I⟩:=cM (CX:=CX) (G:=G) (T:=T) (lv:=lv) n;exact DQ hE hT I xc h hd
def LL{pins:xv}{p:Addr}{o:HO}(I:Inv X pins V H s)(h:H p=U o):X.K.lookup p=O:=by
 cases e:X.K.lookup p with
 |none=>rfl
 |some u=>rw[LN I p u e]at h;cases h
def tNk(K:xq)(T:Tx)(S:Addr->Prop)(B:List Sl)(ds:List D):TE:=λV H Q=>RE K T H S B V/\∀p xs H',aG H H'->H p=O->K.lookup p=O->H' p=U (.lst xs)->aD K T (er H' p) S ds xs->Q (.ref p) H'
def aDI{ds:List D}(h:PE X e (ej X.K T S B ds)):PE X e (tNk X.K T S B ds):=λpins s V H Q I ⟨re,q⟩=>ae (h pins s V H (λv H'=>∃p xs,v=.ref p/\aG H H'/\H p=O/\H' p=U (.lst xs)/\aD X.K T (er H' p) S ds xs) I ⟨re,λp xs H' a b c d=>⟨p,xs,rfl,a,b,c,d⟩⟩) λu s1 ⟨v,H',z,r,p,xs,e,a,b,c,d⟩=>⟨v,H',z,r,by rw[e];exact q p xs H' a b (LL z c) c d⟩
def QN(xc:XC CX X c G T lv){W:Pos}(hx:eM c (.Name x qf)=U i):PS X (.Assign [.Name x px] (.Dict [] [] W) pos) (bb X.K T S₀ H₀ fr EX G (.setd i)):=λpins s V H D I ⟨B,out,S,R,si,po⟩=>by cases R;obtain⟨hN,hk⟩:=dY hx;obtain⟨hl,hf⟩:=xc.loc hk;have pn:PE X (.Dict [] [] W) (λV H Q=>∀p,H p=O->X.K.lookup p=O->Q (.ref p) (upd H p (.dK []))):=λpins s V H Q I q=>ae (JR pins s V H (λv H'=>∃p,v=.ref p/\H p=O/\H'=upd H p (.dK [])) I λp hp=>⟨p,rfl,hp,rfl⟩) λu s1 ⟨v,H',I',r,p,e1,hp,e2⟩=>⟨v,H',I',r,by subst e1 e2;exact q p hp (LL I' (aW))⟩;refine mW (by rw[xc.N];exact xc.nd) (by rw[xc.N];exact hN) hl pn rfl hf pins s V H D I λp hp z=>?_;obtain⟨cf,mv⟩:=si.setm (i:=i) (ds:=.dct []) (xs:=.dK []) (aG.upd hp) hp z aW (.inr ⟨_,_,rfl,rfl,bC.nil⟩);exact po _ _ _ cf mv
def ZK(xc:XC CX X c G T lv)(hx:eM c (.Name x qf)=U i)(he:cE n c e=U ir):PS X (.Assign [.Name x px] e pos) (bb X.K T S₀ H₀ fr EX G (.set i ir)):=λpins s V H D I ⟨B,out,S,hex,R,po⟩=>by
 simp only[ex,v9]at hex;obtain⟨d,hd,rfl⟩:=hex;obtain⟨hN,hk⟩:=dY hx;obtain⟨hl,hf⟩:=xc.loc hk;have plain:swapsWith e (U (.Name x px)) pos.line X.env=pure J->wpAny (model X.prog X.w) X.A (exec (.Assign [.Name x px] e pos) X.env) (SP X pins D) X.xe s:=λhs=>mW (by rw[xc.N];exact xc.nd) (by rw[xc.N];exact hN) hl (qI (S:=S) xc he hd) hs hf pins s V H D I ⟨R.re,λv H' z r=>po S _ H' ((R.step z).set r) (aO.same z)⟩;cases hc:qN e with
 |false=>exact plain (wI he hc _ _ _)
 |true=>
  cases e<;>simp only[qN,uw]at hc
  rename_i elt gs sc p;obtain⟨b,hb⟩:=kW (elt:=elt) (gs:=gs) (sc:=sc) (p:=p) (px:=px) (x:=x) (l:=pos.line) (env:=X.env);cases b with
  |false=>exact plain hb
  |true=>
   have se:ev G ir B=U d:=by rcases rB hd with h|⟨h,hs⟩;exact h;obtain⟨_,_,_,_,_,_,_,W,_,_,rfl,_⟩:=lH xc he h (λ_=>False);cases hs
   obtain⟨tg,iter,ifs,fr',aj,tp,ds,W,f,rfl,rfl,h1,h2,h3,h4,h5,h6,h7,h8⟩:=lH xc he se S;exact CJ xc h1 h2 h3 h4 h5 h6 (px:=px) (by simp only[eM]at hx ⊢;exact hx) hb h7 h8 pins s V H D I ⟨R.re,λp xs H' z hp fg rl=>po S _ H' ((R.step z).set (by unfold Rep;exact⟨p,xs,rfl,R.re.nS hp,fg,rl.er⟩)) (aO.same z)⟩
def QM(xc:XC CX X c G T lv)(hx:eM c (.Name x qf)=U i)(he:cE n c e=U ir)(av:gR c e=Y):PS X (.Assign [.Name x px] e pos) (bb X.K T S₀ H₀ fr EX G (.setm i ir)):=λpins s V H D I ⟨B,out,S,W,si,po⟩=>by
 simp only[ex,ur,u7]at W;obtain⟨d,hd,W⟩:=W;cases d<;>first|(simp only[reduceCtorEq]at W;done)|skip
 rename_i R;simp only[u4]at W;subst W;obtain⟨hN,hk⟩:=dY hx;obtain⟨hl,hf⟩:=xc.loc hk;have pn:=((cM n).1 X c S B e ir xc he _ hd).2 av R rfl;have plain:swapsWith e (U (.Name x px)) pos.line X.env=pure J->wpAny (model X.prog X.w) X.A (exec (.Assign [.Name x px] e pos) X.env) (SP X pins D) X.xe s:=λhs=>mW (by rw[xc.N];exact xc.nd) (by rw[xc.N];exact hN) hl (aDI pn) hs hf pins s V H D I ⟨si.re,λp xs H' sm hp hkp fg rl=>by obtain⟨cf,mv⟩:=si.setm (i:=i) (ds:=.lst R) sm hp hkp fg (.inl ⟨_,_,rfl,rfl,rl⟩);exact po _ _ H' cf mv⟩;cases hc:qN e with
 |false=>exact plain (wI he hc _ _ _)
 |true=>
  cases e<;>simp only[qN,uw]at hc
  rename_i elt gs sc p;obtain⟨b,hb⟩:=kW (elt:=elt) (gs:=gs) (sc:=sc) (p:=p) (px:=px) (x:=x) (l:=pos.line) (env:=X.env);cases b with
  |false=>exact plain hb
  |true=>
   obtain⟨tg,iter,ifs,fr',aj,tp,ds,outs',f,rfl,e1,h1,h2,h3,h4,h5,h6,h7,h8⟩:=lH xc he hd S;cases e1;refine wk (CJ xc h1 h2 h3 h4 h5 h6 (px:=px) (by simp only[eM]at hx ⊢;exact hx) hb h7 h8 pins s V H ⟨λV' H'=>∃p xs,V'=V.set i (U (.ref p))/\aG H H'/\H p=O/\H' p=U (.lst xs)/\aD X.K T (er H' p) S R xs,λ_ _=>False,λ_ _=>False,λ_ _=>False⟩ I ⟨si.re,λp xs H' sm hp fg rl=>⟨p,xs,rfl,sm,hp,fg,rl⟩⟩) (λf s' q=>?_) λ_ _ z=>z;cases f with
   |next=>obtain⟨V',H',I',p,xs,rfl,sm,hp,fg,rl⟩:=q;obtain⟨cf,mv⟩:=si.setm (i:=i) (ds:=.lst R) sm hp (LL I' fg) fg (.inl ⟨_,_,rfl,rfl,rl⟩);exact⟨_,H',I',po _ _ H' cf mv⟩
   |brk=>obtain⟨_,_,_,z⟩:=q;exact z.elim
   |cont=>obtain⟨_,_,_,z⟩:=q;exact z.elim
   |ret u=>obtain⟨_,_,_,_,_,z⟩:=q;exact z.elim
variable {CX:aq}{G:GS}{T:Tx}{lv:Nat}{X:Cx}{c:CC}{S₀:Addr->Prop}{H₀:Hp}{fr:Bool}{EX:Str->Hp->Prop}{pos:Pos}
def ZX(xc:XC CX X c G T lv)(hx:aZ c x=U i)(hl:(p2.endLine == p.line)=Y)(he:cE n c e=U ir):PS X (.Expr (.Call (.Attribute (.Name x p1) "append" p2) [e] [] p) pos) (bb X.K T S₀ H₀ fr EX G (.app i ir)):=λpins s V H D I ⟨B,out,S,z,W,po⟩=>by simp only[ex,ur,u7]at z;obtain⟨d,hd,z⟩:=z;split at z;rename_i ds hi;split at z;rename_i hz;cases z;obtain⟨q,ob,e1,e2,e3,rm⟩:=W.re.at_ i _ hi;obtain⟨xs,rfl,rl⟩:=rm.lst;have st:=(bV he).star X.env [];refine jW (xH plainAttrs_list PySem.F.slot_list_append PySem.F.type_list_append jY (fJ xc hx) (bT (qI (S:=S) xc he hd) fN st) rfl ?_ hl st rfl) rfl pins s V H D I ⟨.ref q,e1,.inl ⟨rfl,xs,SqL.of e3⟩,W.re,λv H' R r=>⟨q,xs,v,rfl,rfl,R _ _ e3,?_,?_⟩⟩;rw[st];rfl;rw[<-rl.len];exact vb hz gG;obtain⟨cf,mv⟩:=(W.step R).write (ds':=.lst (ds++[d])) hi e1 (.inl ⟨_,_,rfl,rfl,(rl.same R).app (aD.cons r aD.nil)⟩);exact po S V _ cf ((aO.same R).trans mv);cases z;cases z
def wV{ds:List D}(r:aD K T H S ds xs):aD K T H S ds.dropLast xs.dropLast:=by rw[List.dropLast_eq_take,List.dropLast_eq_take,r.len];exact r.take _
def ZQ(xc:XC CX X c G T lv)(hx:aZ c x=U i)(hl:(p2.endLine == p.line)=Y):PS X (.Expr (.Call (.Attribute (.Name x p1) "pop" p2) [] [] p) pos) (bb X.K T S₀ H₀ fr EX G (.pop i)):=λpins s V H D I ⟨B,out,S,z,R,po⟩=>by
 simp only[ex]at z;split at z;rename_i ds hi;split at z;cases z;rename_i hz;cases z;obtain⟨q,ob,e1,e2,e3,rm⟩:=R.re.at_ i _ hi;obtain⟨xs,rfl,W⟩:=rm.lst;have hn:xs.length-1<xs.length:=by
  rw[<-W.len];cases ds with
  |nil=>exact absurd rfl hz
  |cons a r=>exact wx _
 refine jW (aAI plainAttrs_list PySem.F.slot_list_pop PySem.F.type_list_pop aBm (fJ xc hx) rfl hl) rfl pins s V H D I ⟨.ref q,e1,.inl ⟨rfl,xs,SqL.of e3⟩,?_⟩;refine⟨q,xs,xs[xs.length-1],rfl,rfl,e3,uk hn,?_⟩;obtain⟨cf,mv⟩:=R.write (ds':=.lst ds.dropLast) hi e1 (.inl ⟨_,_,rfl,rfl,wV W⟩);exact po S V _ cf mv;cases z
def uP(n:Nat)(i:Int):Z.ixN n i=L2.ixN n i:=by unfold Z.ixN L2.ixN;rfl
def EM(h:cE n c e=U ir){o i:Expr}{l:Nat}{env:Env}:swapsWith e (U (.Subscript o i p)) l env=pure J:=by cases e<;>first|rfl|(cases n<;>exact nomatch (show O=U ir from h))
def ZP(xc:XC CX X c G T lv){k:Expr}(hx:aZ c x=U i)(hk:cE n c k=U kr)(he:cE n c e=U ir):PS X (.Assign [.Subscript (.Name x p1) k p2] e pos) (bb X.K T S₀ H₀ fr EX G (.put i kr ir)):=λpins s V H D I ⟨B,out,S,z,si,po⟩=>by
 simp only[ex,ur,u7]at z;obtain⟨d,hd,ki,kg,z⟩:=z;split at z;rename_i o hi;obtain⟨o',ho,rfl⟩:=v9.mp z;obtain⟨q,ob,e1,e2,e3,rm⟩:=si.re.at_ i _ hi;cases o<;>first|exact nomatch (show O=U o' from ho)|skip
 rename_i ds;obtain⟨j,hj,rfl⟩:=v9.mp ho;obtain⟨xs,rfl,rl⟩:=rm.lst;refine zU (qI (S:=S) xc he hd) (JO (fJ xc hx) (qI (S:=S) xc hk (gA kg)) set_list ?_) ?_ ?_ rfl pins s V H D I ⟨si.re,λv H' R r=>⟨.ref q,e1,(si.step R).re,λw H2 W r2=>?_⟩⟩;intro v;cases k<;>first|rfl|(cases n<;>exact nomatch (show O=U kr from hk))
 cases e<;>rfl
 cases e<;>rfl
 unfold Rep at r2;subst r2;refine⟨q,xs,ki,j,rfl,rfl,W _ _ (R _ _ e3),by rw[<-rl.len,<-uP];exact hj,?_⟩;obtain⟨cf,mv⟩:=(si.step (R.trans W)).write (ds':=.lst (ds.set j d)) hi e1 (.inl ⟨_,_,rfl,rfl,aD.set j (rl.same (R.trans W)) (r.same W)⟩);exact po S V _ cf ((aO.same (R.trans W)).trans mv);rename_i kvs;have ho:(if kvs.length<big then U (Z.D.dct (lT kvs ki d)) else O)=U o':=ho;split at ho;rename_i hz;cases ho;obtain⟨gs,rfl,rk⟩:=rm.dct;refine SO (DF xc.room) (fJ xc hx) (qI (S:=S) xc hk (gA kg)) (qI (S:=S) xc he hd) (EM he) pins s V H D I ⟨si.re,λv H' R r=>⟨.ref q,e1,(si.step R).re,λw H2 W r2=>?_⟩⟩;unfold Rep at r2;subst r2;refine⟨q,_,rfl,PU.k (k:=Sum.inl ki) (W _ _ (R _ _ e3)) (by rw[<-bC.len rk];exact vb hz gG),?_⟩;obtain⟨cf,mv⟩:=(si.step (R.trans W)).write (ds':=.dct (lT kvs ki d)) hi e1 (.inr ⟨_,_,rfl,rfl,bC.put (r.same W) (bC.gen (aO.same (S:=S) (R.trans W)) _ _ rk)⟩);exact po S V _ cf ((aO.same (R.trans W)).trans mv);cases ho;cases z
def ZR(xc:XC CX X c G T lv)(xs:XS CX T X c EX){a b:Expr}{ia ib:IE}{j:Nat}{py pt p':Pos}{kt k':Nat}(hx:eM c (.Name x px)=U i)(hy:eM c (.Name y py)=U j) (W:(i != j&&!(x == y)&&c.sc.names.lookup x == U .local&&c.sc.names.lookup y == U .local&&px.line == py.line&&!(foldedForSure 8 a&&foldedForSure 8 b)&&!(constantsAlone 8 a&&constantsAlone 8 b))=Y) (ha:cE n c a=U ia) (hb:cE n c b=U ib):PS X (.Assign [.Tuple [.Name x px,.Name y py] kt pt] (.Tuple [a,b] k' p') pos) (bb X.K T S₀ H₀ fr EX G (.par i j ia ib)):=λpins s V H D I ⟨B,out,S,hex,si,po⟩=>by
 simp only[ex,ur,u7,u4]at hex;obtain⟨u,hu,v,hv,rfl⟩:=hex;simp only[uz,Bool.not_eq_true',bne_iff_ne,ne_eq,vz]at W;obtain⟨⟨⟨⟨⟨⟨da,jq⟩,hlx⟩,hly⟩,fh⟩,hf⟩,hcs⟩:=W;obtain⟨hNi,_⟩:=dY hx;obtain⟨hNj,_⟩:=dY hy;have kx:X.env.kindOf x=U .local:=by have k:=xc.kd x;rw[hlx]at k;exact k
 have ky:X.env.kindOf y=U .local:=by have k:=xc.kd y;rw[hly]at k;exact k
 have st:=(bV ha).star X.env [b];have dt:=(bV hb).star X.env [];have blk:X.env.blockKind=.function:=by unfold Env.blockKind;rw[xs.kind];rfl
 have hnsa:∀e q,a≠.Starred e q:=λe q z=>by subst z;cases n<;>simp[cE]at ha
 have hnsb:∀e q,b≠.Starred e q:=λe q z=>by subst z;cases n<;>simp[cE]at hb
 refine aAx xc.calm (by rw[xc.N];exact xc.nd) (by rw[xc.N];exact hNi) (by rw[xc.N];exact hNj) da kx ky (nE ((cM n).1 X c S B a ia xc ha u hu).1 (nE ((cM n).1 X c S B b ib xc hb v hv).1 sP dt) st) ?_ rfl pins s V H D I ⟨si.re,λvs H' sm rl=>?_⟩
 .have bw:¬(x=y):=λz=>by rw[z]at jq;simp at jq
  have hed:([x,y]:List Str).eraseDups.length=2:=by
   rw[List.eraseDups_cons];have:([y]:List Str).filter (λb=>!b == x)=[y]:=by simp only[List.filter_cons,List.filter_nil];rw[show (y == x)=J from w6.mpr (Ne.symm bw)];rfl
   rw[this];rfl
  unfold swappedStores;have sa:∀(q:Bool),(match a with | .Starred _ _=>Y|_=>J)=J:=λ_=>by cases a<;>first|rfl|exact absurd rfl (hnsa _ _)
  have sb:∀(q:Bool),(match b with | .Starred _ _=>Y|_=>J)=J:=λ_=>by cases b<;>first|rfl|exact absurd rfl (hnsb _ _)
  have R:([Expr.Name x px,Expr.Name y py]:List Expr).filterMap (λ| .Name id pos=>if X.env.kindOf id == U .local&&pos.line == px.line then U id else O|_=>O)=[x,y]:=by simp[kx,ky,fh]
  have hall1:([a,b]:List Expr).all (foldedForSure 8)=J:=by simpa using hf
  have hall2:([a,b]:List Expr).all (constantsAlone 8)=J:=by simpa using hcs
  have hany:([a,b]:List Expr).any (λ| .Starred ..=>Y|_=>J)=J:=by simp only[any_cons,List.any_nil,Bool.or_false,Bool.or_eq_false_iff];first|done|exact⟨sa Y,sb Y⟩
  show (if (!(([Expr.Name x px,Expr.Name y py]:List Expr).length == 2 || ([Expr.Name x px,Expr.Name y py]:List Expr).length == 3) || ([a,b]:List Expr).length != ([Expr.Name x px,Expr.Name y py]:List Expr).length || X.env.blockKind != .function)=Y then _ else _)=_;rw[if_neg (by rw[blk];simp)];have key:∀names:List Str,names=[x,y]->¬(names.length != ([Expr.Name x px,Expr.Name y py]:List Expr).length || names.eraseDups.length != names.length)=Y:=λnames e=>by subst e;rw[hed];simp
  refine(if_neg λz=>Bool.noConfusion (z.symm.trans hany)).trans ?_;refine(if_neg (key _ R)).trans ?_;refine(if_neg (by rw[hall1];simp)).trans ?_;refine(if_neg (by rw[hall2];simp)).trans ?_;exact congrArg (λl=>(pure (U l):Sem (Option (List Str)))) R
 obtain⟨w1,w2,rfl,r1,r2⟩:=rep2 rl;exact⟨w1,w2,rfl,po S _ H' (((si.step sm).set r1).set r2) (aO.same sm)⟩
def AY{bind:D->List Sl->Option (List Sl)}{body:List Sl->Option Out}{d:D}{r:List D}{out:Out}(h:bQ bind body (d::r) B=U out):∃ρ1 o,bind d B=U ρ1/\body ρ1=U o /\((∃z,o=.nx z/\bQ bind body r z=U out)\/(∃z,o=.ct z/\bQ bind body r z=U out)\/(∃z,o=.bk z/\out=.nx z)\/(∃d,o=.rt d/\out=o)\/∃x,o=.er x/\out=o):=by
 simp only[bQ,ur,u7]at h;obtain⟨ρ1,h1,o,h2,h3⟩:=h;refine⟨ρ1,o,h1,h2,?_⟩;cases o<;>simp only[u4]at h3
 exact .inl ⟨_,rfl,h3⟩;exact .inr (.inr (.inr (.inl ⟨_,rfl,h3.symm⟩)));exact .inr (.inr (.inl ⟨_,rfl,h3.symm⟩));exact .inr (.inl ⟨_,rfl,h3⟩);exact .inr (.inr (.inr (.inr ⟨_,rfl,h3.symm⟩)))
def gEx(K:xq)(T:Tx)(is:List Nat)(tp:Bool):TG:=λv V H Q=>∃B S ρ1 d,aX is tp d B=U ρ1/\gD K T S is B ρ1 d v V H Q
def ZV(xc:XC CX X c G T lv)(xs:XS CX T X c EX){body:List Stmt}{k:Src}{src:IE}{ib:IS}(cx:cC c tg=U (aj,tp))(hi:cI n c iter=U (k,src))(ow:HF k tg)(hb:PSs X body (bb X.K T S₀ H₀ fr EX G ib)):PS X (.For tg iter body [] pos) (bb X.K T S₀ H₀ fr EX G (.loop aj tp k src ib)):=λpins s V H D I ⟨B,out,S,hex,si,po⟩=>by
 simp only[ex,ur,u7]at hex;obtain⟨d,hd,ds,bq,mz⟩:=hex;obtain⟨hit,i7⟩:=(cM n).2.2.2.2 X c S B iter k src xc hi d ds hd bq;have hg:PG X tg (gEx X.K T aj tp):=λpins s V H v u Q I r ⟨B,S,ρ1,d,hbn,h⟩=>TB xc cx hbn pins s V H v u Q I r h;refine aAy xs.pass xc.calm (hit tg ow) hg hb i7 pins s V H D I ⟨si.re,λæ H1 sm gy hlen=>?_⟩;refine⟨λi m V H=>∃R Si,m=ds.length-i/\i<=ds.length/\bQ (aX aj tp) (ex G ib) (ds.drop i) R=U out/\SInv X.K T S₀ H₀ Si R V H/\aO X.K H1 H S Si,⟨ds.length,B,S,zv,xg _,by simpa using mz,si.step sm,aO.refl⟩,?_⟩;rintro i m V' H' ⟨R,Si,rfl,hile,rn,W,mv⟩;obtain⟨qo,qm⟩:=gy H' Si mv W.re.dom;have po':PR X.K T S₀ H₀ fr EX H' Si D out:=po.step ((aO.same sm).trans mv);by_cases bt:i<ds.length;refine .inr ?_;have hdr:ds.drop i=ds[i]::ds.drop (i+1):=List.drop_eq_getElem_cons bt;rw[hdr]at rn;obtain⟨ρ1,o,hbn,hbo,hcase⟩:=AY rn;obtain⟨hgo',hy⟩:=qo i ds[i] (by simp[bt]);refine⟨hgo',λσ2 H2=>∃z S2,bQ (aX aj tp) (ex G ib) (ds.drop (i+1)) z=U out/\SInv X.K T S₀ H₀ S2 z σ2 H2/\aO X.K H1 H2 S S2,λσ2 H2 ⟨z,S2,a,b,c⟩=>⟨ds.length-(i+1),zq,z,S2,rfl,bt,a,b,c⟩,λx H2 hyl=>?_⟩;obtain⟨s2,rx⟩:=hy x H2 hyl;refine⟨R,Si,ρ1,ds[i],hbn,(W.step s2).re,rx,λσ3 re3 ag=>⟨ρ1,o,Si,hbo,(W.step s2).bind hbn re3 ag,?_⟩⟩;have mv2:aO X.K H1 H2 S Si:=mv.trans (aO.same s2);rcases hcase with ⟨z,rfl,hr⟩|⟨z,rfl,hr⟩|⟨z,rfl,rfl⟩|⟨d',rfl,rfl⟩|⟨x',rfl,rfl⟩;exactλS3 σ4 H4 qb qj=>⟨z,S3,hr,qb,mv2.trans qj⟩;exactλS3 σ4 H4 qb qj=>⟨z,S3,hr,qb,mv2.trans qj⟩;exactλS3 σ4 H4 qb qj=>po' S3 σ4 H4 qb ((aO.same s2).trans qj);exact po';exact po';have hn:i=ds.length:=by lia
 refine .inl ⟨qm i zq,?_⟩;rw[hn,xi]at rn;simp only[bQ,u4]at rn;subst rn;exact po' Si V' H' W aO.refl
variable {CX:aq}{G:GS}{T:Tx}{lv:Nat}{X:Cx}{c:CC}{S₀:Addr->Prop}{H₀:Hp}{fr:Bool}{EX:Str->Hp->Prop}{pos:Pos}
def UN(h:XC CX X c G T lv){ds:List D}{k:Str}(hg:bG c x=Y)(hf:c.fns.contains x=Y)(ha:PA X es (dq X.K T S B ds))(hs:starEach es X.env=es.map λe=>(J,eval e X.env))(hlen:ds.length=es.length) (hd:G.fn x ds=U (.er k)) (hT:T.xc k=U C) (hp:gW CX X E1):PE X (.Call (.Name x p) es [] pos) (λV H Q=>RE X.K T H S B V/\∀H',aG H H'->E1 (.ref C) O H'):=by
 obtain⟨f,fd,ps,hm,hk,hb,hl,F⟩:=h.go.fn x hf;have z:∀V H Q,(RE X.K T H S B V/\∀H',aG H H'->E1 (.ref C) O H')->BY (jn X.K T ps.length (G.fn x) (G.ff x)) [] E1 (dq X.K T S B ds) V H Q:=λV H Q ⟨re,q⟩=>⟨re,λvs H1 s1 I=>⟨by rw[vt,<-I.len];exact hl ds _ hd,S,ds,(re.same s1).dom,by rw[vt];exact I,.inr ⟨k,C,hd,hT,λH' s2=>q H' (s1.trans s2)⟩⟩⟩;cases es with
 |nil=>refine PE.mono (xG F h.room (h.glob hg) hm hk hb .nil hp (h.gne hg)) λV H Q hq=>?_;obtain⟨re,q⟩:=hq;have R:ds=[]:=vv.mp hlen;subst R;exact(z V H Q ⟨re,q⟩).2 [] H (aG.refl H) aD.nil
 |cons e es=>obtain⟨h1,h2⟩:=qA (pos:=pos) hs;exact PE.mono (CO F h.room (h.glob hg) hm hk hb .nil hp ha (h.gne hg) h1 h2) z
def UL(h:XC CX X c G T lv){ea:Expr}{m:Str}{fs:List (Str×D)}{ds:List D}{apos:Pos}{k:Str}(ht:rR X ea m es apos pos)(ho:PE X ea (tD X.K T S B (.obj cn fs)))(hn:fs.lookup m=O) (ha:PA X es (dq X.K T S B ds)) (hs:starEach es X.env=es.map λe=>(J,eval e X.env)) (hlen:ds.length=es.length) (hd:G.me cn m (.obj cn fs::ds)=U (.er k)) (hT:T.xc k=U C) (hp:gW CX X E1):PE X (.Call (.Attribute ea m apos) es [] pos) (λV H Q=>RE X.K T H S B V/\∀H',aG H H'->E1 (.ref C) O H'):=by
 obtain⟨pl,ht⟩:=ht;intro pins s V H Q I ⟨re,q⟩;refine PySem.W.methodCall_KW (pl:=pl) (ae (ho pins s V H (λv H'=>aG H H'/\Rep X.K T H' S (.obj cn fs) v) I ⟨re,λv H' a b=>⟨a,b⟩⟩) λu s1 ⟨x,H1,I1,rx,sm,ro⟩=>?_) ht;have ro':=ro;unfold Rep at ro;obtain⟨p,C',dx,gs,ex,_,ec,e,rf⟩:=ro;subst ex;obtain rfl:u=Value.ref p:=rx;obtain⟨f,fd,ps,hm,hb,hl,F⟩:=h.go.me cn C' m _ _ ec hd;refine qV I1 e (h.go.cls cn C' ec) hm ((cQ.look rf).2 hn) ?_;have z:∀(us:List Value) (vs:List σ) (s2:Shared) (H2:Hp),Inv X pins V H2 s2->aY vs us->aG H1 H2->aD X.K T H2 S ds vs->wpAny (model X.prog X.w) X.A (call (.ref f) (.ref p::us)) (EP X pins V Q) X.xe s2:=λus vs s2 H2 I2 r2 s12 R=>by refine tY (us:=.ref p::us) (vs:=.ref p::vs) (dvs:=[]) (ds:=[]) (E:=E1) F h.room hb .nil hp I2 (.cons rfl r2) ?_;refine⟨?_,S,.obj cn fs::ds,((re.same sm).same s12).dom,?_,.inr ⟨k,C,hd,hT,λH' s3=>q H' ((sm.trans s12).trans s3)⟩⟩;have:=hl _ _ hd;simp only[vt,wz]at this ⊢;rw[<-R.len];exact this;rw[vt];exact aD.cons (ro'.same s12) R
 cases es with
 |nil=>have bq:ds=[]:=vv.mp hlen;subst bq;exact callWith_K0 (first:=[.ref p]) I1.kIn hm.kp (z [] [] s1 H1 I1 .nil (aG.refl _) aD.nil)
 |cons e es=>obtain⟨h1,h2⟩:=qA (pos:=pos) hs;refine callWith_K (first:=[.ref p]) (h₀:=X.base) I.ok.mod.kin hm.kp (ae (ha pos pins s1 V H1 (λvs H'=>aG H1 H'/\aD X.K T H' S ds vs) I1 ⟨re.same sm,λvs H' a b=>⟨a,b⟩⟩) λus s2 ⟨vs,H2,I2,r,s12,R⟩=>⟨I2.kIn,?_⟩) h1 h2;exact z us vs s2 H2 I2 r s12 R
def aDR(xc:XC CX X c G T lv){f:Expr}{kw:List Keyword}{k:Str}(he:cE n c (.Call f args kw p)=U ir)(hr:tu G ir B=U (.er k))(hT:T.xc k=U C)(hp:gW CX X E1):PE X (.Call f args kw p) (λV H Q=>RE X.K T H S B V/\∀H',aG H H'->E1 (.ref C) O H'):=by
 cases n with
 |zero=>exact nomatch (show O=U ir from he)
 |succ n=>
  obtain⟨hE,nc,hB,hA,hI⟩:=cM (CX:=CX) (G:=G) (T:=T) (lv:=lv) n;obtain⟨hkw,he⟩:=bA he;obtain rfl:=kS hkw;cases f<;>first|exact nomatch (show O=U ir from he)|skip
  case Attribute o m ap _=>
   obtain⟨hc,he⟩:=bA he;obtain⟨hc,hc3⟩:=cL hc;obtain⟨hc1,gj⟩:=cL hc;cases W:getM c o m with
   |some i=>rw[W]at he;obtain⟨y,hy,rfl⟩:=aU he;exact nomatch (show (O:Option Rs)=U (.er k) from hr)
   |none=>
   rw[W]at he;obtain⟨x,hx,he⟩:=aE he;obtain⟨y,hy,rfl⟩:=aU he;simp only[tu]at hr;split at hr;rename_i cn fs hw;obtain⟨I,hr⟩:=bA hr;obtain⟨ds,bq,hd⟩:=aE hr;obtain⟨ds',e1,hl,pa,hs⟩:=hA X _ S B args y xc hy _ (cK bq);cases e1;exact UL xc (xR hc1 hs (of_decide_eq_true gj) hc3) (hE X _ S B o x xc hx _ hw).1 (Option.isNone_iff_eq_none.mp I) pa hs hl hd hT hp;cases hr
  case Name x px _=>
   obtain⟨hg,he⟩:=bA he;cases hf:c.fns.contains x with
   |true=>rw[hf]at he;obtain⟨y,hy,rfl⟩:=aU (show (cA n c args).map (λy=>IE.call x y)=U ir from he);obtain⟨ds,bq,hd⟩:=aE (show (bP (ev G y B)).bind (G.fn x)=U (.er k) from hr);obtain⟨ds',e1,hl,pa,hs⟩:=hA X _ S B args y xc hy _ (cK bq);cases e1;exact UN xc hg hf pa hs hl hd hT hp
   |false=>
    exfalso;rw[hf]at he;have no:∀{o:Option IE} {g:IE->IE},(∀y,tu G (g y) B=O)->o.map g=U ir->False:=λ{o g} hn z=>by obtain⟨y,_,rfl⟩:=aU z;rw[hn y]at hr;cases hr
    cases aT:c.cls.contains x with
    |true=>rw[aT]at he;exact no (g:=λy=>IE.mk x y) (λ_=>rfl) he
    |false=>
     rw[aT]at he;cases hi:x == "isinstance" with
     |true=>
      rw[hi]at he;have he:IV (cE n c) c args=U ir:=he;match args,he with
      |[a,y],he=>obtain⟨y',_,he⟩:=aE he;obtain⟨_,he⟩:=bA he;exact no (g:=λz=>IE.y z y'.1) (λ_=>rfl) he
     |false=>
      rw[hi]at he;obtain⟨b,hb,he⟩:=aE (show (pG x).bind (λb=>FC (cE n c) c b args (cA n c args))=U ir from he);unfold FC at he;have nb:∀b:BF,((cA n c args).map λz=>IE.ρ b z)=U ir->False:=λb he=>no (g:=λz=>IE.ρ b z) (λ_=>rfl) he;split at he
      .rename_i i _;cases b<;>first|exact nb _ he|(cases (show U _=U ir from he);first|(cases hr;done)|(generalize args.any yB=dv at hr;cases dv<;>cases hr))
      cases R:zN c args with
      |none=>rw[R]at he;exact nb b (by cases b<;>exact he)
      |some a=>rw[R]at he;cases b<;>first|exact nb _ he|exact no (g:=λz=>IE.walk .rev z) (λ_=>rfl) he
def QY(xc:XC CX X c G T lv)(xs:XS CX T X c EX){f:Expr}{kw:List Keyword}(he:cE n c (.Call f args kw p)=U ir):PS X (.Expr (.Call f args kw p) pos) (bb X.K T S₀ H₀ fr EX G (.drop ir)):=λpins s V H D I ⟨B,out,S,hx,W,po⟩=>by simp only[ex]at hx;split at hx;rename_i d hd;cases hx;exact jW ((cM n).1 X c (λ_=>False) (view B) _ ir xc he d hd).1 rfl pins s V H D I ⟨W.re.view,λv H' R _=>po S V H' (W.step R) (aO.same R)⟩;split at hx;rename_i k hk;split at hx;rename_i hn;cases hx;obtain⟨C,hT⟩:=xc.go.xns k hn;refine jW (aDR (S:=λ_=>False) (E1:=λcls _ H'=>∃k C,T.xc k=U C/\cls=.ref C/\EX k H') xc he hk hT (xs.pss _ λcls H' z=>z)) rfl pins s V H D I ⟨W.re.view,λH' R=>⟨k,C,hT,rfl,po H' (W.same.trans R)⟩⟩;cases hx;cases hx
def XC.re{z:Cx}(xc:XC CX X c G T lv)(h1:z.prog=X.prog)(h2:z.w=X.w)(h3:z.K=X.K)(h4:z.mg=X.mg)(h5:z.base=X.base)(h6:z.N=X.N)(h7:z.env=X.env)(h8:z.fn=X.fn)(h9:z.calm=X.calm)(I:z.A=X.A):XC CX z c G T lv:=by obtain⟨pr,w,K,mg,base,A,N,s0,H0,env,outer,stack,ex,fn,calm,pn,xe⟩:=X;obtain⟨pr',w',K',gf,base',A',N',s0',H0',env',W,R,ex',fn',calm',pn',xe'⟩:=z;dsimp only at h1 h2 h3 h4 h5 h6 h7 h8 h9 I;subst h1 h2 h3 h4 h5 h6 h7 h8 h9 I;exact⟨xc.N,xc.nd,xc.kd,xc.own,xc.dbg,xc.gdb,xc.calm,xc.room,⟨xc.go.fn,xc.go.me,xc.go.cls,xc.go.fld,xc.go.mo,xc.go.cst,xc.go.bi,xc.go.xcl,xc.go.frs,xc.go.cx0,xc.go.cxf,xc.go.xns,xc.go.xk,xc.go.sub,xc.go.wd,xc.go.dk⟩⟩
section
variable {CX:aq}{X:Cx}{c:CC}{G:GS}{T:Tx}{lv:Nat}{pins:xv}{V:L2.St}{H:Hp}{s:Shared}
def DX(CX:aq)(G:GS)(T:Tx)(lv:Nat)(I:CC)(K:xq)(elt:Expr)(ρ1:List Sl)(l:List D):Prop:=∀(z:Cx) (S:Addr->Prop),XC CX z I G T lv->z.K=K->PE z elt (ej z.K T S ρ1 l)
structure InnN (K:xq) (T:Tx) (H H':Hp) (S:Addr->Prop) (D:Addr) (bs:List Addr) (ls:List (List Z.D)):Prop where
 nd:bs.Nodup
 nD:D∉bs
 new:∀b∈bs,H b=O/\K.lookup b=O
 at_:∀(j:Nat) b,bs[j]?=U b->∃l xs,ls[j]?=U l/\H' b=U (.lst xs)/\aD K T H' (λa=>S a\/a=D\/a∈bs) l xs
def InnN.has{D:Addr}{bs:List Addr}{ls:List (List Z.D)}(h:InnN K T H H' S D bs ls){b:Addr}(m:b∈bs):∃o,H' b=U o:=by obtain⟨j,e⟩:=List.mem_iff_getElem?.mp m;obtain⟨l,xs,_,h1,_⟩:=h.at_ j b e;exact⟨_,h1⟩
def InnN.mv{D:Addr}{bs:List Addr}{ls:List (List Z.D)}(h:InnN K T H H' S D bs ls)(W:H D=O)(hK:K.lookup D=O)(R:aG H H'):aO K H H' S (λa=>S a\/a=D\/a∈bs):=λa n I=>by refine⟨λz=>z.elim n λz=>z.elim (λz=>?_) λm=>?_,λo e=>R a o e⟩;subst z;rcases I with ⟨u,e⟩|⟨u,e⟩;rw[W]at e;cases e;rw[hK]at e;cases e;rcases I with ⟨u,e⟩|⟨u,e⟩;rw[(h.new a m).1]at e;cases e;rw[(h.new a m).2]at e;cases e
theorem InnN.same{uh:Hp}{D:Addr}{bs:List Addr}{ls:List (List Z.D)}(h:InnN K T H H' S D bs ls)(z:aG H' uh):InnN K T H uh S D bs ls:=⟨h.nd,h.nD,h.new,λj b e=>let ⟨l,xs,h1,h2,h3⟩:=h.at_ j b e;⟨l,xs,h1,z _ _ h2,h3.same z⟩⟩
def InnN.snoc{W R:Hp}{D p:Addr}{bs:List Addr}{ls:List (List Z.D)}{l:List Z.D}{o:HO}(h:InnN K T H W S D bs ls)(sm:aG W R)(hl:ls[bs.length]?=U l)(hp:H p=O)(I:W p=O)(hD8:∃o,W D=U o)(kp:K.lookup p=O)(e:R p=U (.lst xs))(r:aD K T (er R p) (λa=>S a\/a=D\/a∈bs) l xs):InnN K T H (upd R D o) S D (bs++[p]) ls:=by
 have np:p∉bs:=λm=>by obtain⟨o,z⟩:=h.has m;rw[I]at z;cases z
 have nD:p≠D:=λz=>by obtain⟨o,y⟩:=hD8;rw[<-z,I]at y;cases y
 have sme:aG W (er R p):=λa o e=>rF.mpr ⟨λz=>(by rw[z,I]at e;cases e),sm a o e⟩;have mv:aO K (er R p) (upd R D o) (λa=>S a\/a=D\/a∈bs) (λa=>S a\/a=D\/a∈bs++[p]):=λa n hh=>by
  have ne:a≠p:=by rintro rfl;rcases hh with ⟨u,e⟩|⟨u,e⟩;exact(rF.mp e).1 rfl;rw[kp]at e;cases e
  refine⟨λz=>z.elim (λz=>n (.inl z)) λz=>z.elim (λz=>n (.inr (.inl z))) λm=>?_,λu e=>?_⟩;rcases xp.mp m with m|m;exact n (.inr (.inr m));exact ne (vj.mp m);rw[aS (λz=>n (.inr (.inl z)))];exact(rF.mp e).2
 refine⟨nodup_append.mpr ⟨h.nd,nodup_cons.mpr ⟨λz=>(nomatch z),List.nodup_nil⟩,λa ha b hb z=>?_⟩,λm=>?_,λb m=>?_,λj b e'=>?_⟩;rw[vj.mp hb]at z;exact np (z ▸ ha);rcases xp.mp m with m|m;exact h.nD m;exact nD (vj.mp m).symm;rcases xp.mp m with m|m;exact h.new b m;rw[vj.mp m];exact⟨hp,kp⟩;by_cases hj:j<bs.length;rw[xa hj]at e';obtain⟨l',xs',h1,h2,h3⟩:=h.at_ j b e';have m:=u6 e';have nb:b≠D:=λz=>h.nD (by rw[<-z];exact m);exact⟨l',xs',h1,by rw[aS nb];exact sm _ _ h2,aD.gen mv _ _ (h3.same sme)⟩;have rh:j=bs.length:=by have:=(u0.mp e').1;rw[vp,length_singleton]at this;lia
 subst rh;rw[xb (uq _),Nat.sub_self]at e';cases e';exact⟨l,xs,hl,by rw[aS nD];exact e,aD.gen mv _ _ r⟩
def oX(h:XC CX X c G T lv)(cs:ax c sc){cl:List (Str×Addr)}{fr:List (Nat×Nat)} {æ:It} {fp:List Addr} {it:Addr} {tn:Nat->Heap->Prop} {ds:List D} {ls:List (List D)} {RR:Value->Addr->Result->Shared->Prop} {E:xu} (av:freeOf c sc (sc.names.filter λx=>x.2 == .free)=U fr) (i6:aj.all (λi=>(fr.lookup i).isNone)=Y) (cx:cC {c with N:=ownNames sc,sc:=sc} tg=U (aj,tp)) (aT:∀x a,cl.lookup x=U a->X.env.cells.lookup x=U a) (bj:∀x,(x,NameKind.free)∈sc.names->∃a,cl.lookup x=U a) (I:Inv X pins V H s) (re:RE X.K T H S B V) (TU:Turn X.prog X.w X.K tg æ fp it tn) (st:tn 0 s.heap) (hf:∀b∈fp,jQ X pins H b) (gy:iu X.K T S H æ ds) (hlen:ds.length<=sizeLine) (o5:ls.length=ds.length) (bu:∀(i:Nat) d l,ds[i]?=U d->ls[i]?=U l->∃ρ1,aX aj tp d (frame (ownNames sc).length fr B)=U ρ1/\DX CX G T lv {c with N:=ownNames sc,sc:=sc} X.K elt ρ1 l) (hRR:∀(D C:Addr) (s':Shared) (H':Hp) (bs:List Addr) (m:xw),Inv X pins V H' s'->aG H H'->H D=O->X.K.lookup D=O->H' D=U (.lst (bs.map σ.ref))->bs.length=ls.length->InnN X.K T H H' S D bs ls->s'.heap.Ns C m ->(H' C=O/\C≠X.env.locals/\X.s₀.heap.objs.size<=C/\(∀x a,X.env.cells.lookup x=U a->a≠C)/\∀p∈X.pn++pins,p.1≠C)->RR (.ref D) C (.ok .next) s'):wpAny (model X.prog X.w) X.A (newList []) (λacc s₃=>wpAny (model X.prog X.w) X.A (newFunctionEnv sc X.env.globals cl [] X.env.qual O .none (U X.env)) (λjh s₄=>codeAny (model X.prog X.w) X.A (.compStart (.ListComp elt [⟨tg,iter,[],0⟩] sc pos) 0 (.ref it) acc {jh with scope:=relabel sc X.env}) (RR acc jh.locals) s₄) E s₃) E s:=by
 refine wpAny_newObj_type (wpAny_newFunctionEnv cs.nocell (by intro y hy;simp at hy) (λh₁ iN i8=>?_) cs.kind);dsimp only at iN i8 ⊢;have I3:=I.lnew (t':=s.toks) (its:=[]) (ys:=[]) .nil (xg _);have dy:∀b∈fp,b<s.heap.objs.size:=λb hb=>by obtain⟨o,e,_⟩:=TU.obj _ _ st b hb;exact vh e
 generalize hD:s.heap.objs.size=D at *;generalize qv:s.heap.push {cls:=.type "list",dict:=O,data:=.seq ([]:List Value).toArray}=h3 at *;have hC:h3.objs.size=D+1:=by rw[<-qv,size_push,hD]
 generalize jd:h3.objs.size=C at *;have gk:H D=O:=by rw[<-hD];exact I.hok.fresh (uq _)
 have ng:X.K.lookup D=O:=by
  cases q:X.K.lookup D with
  |none=>rfl
  |some o=>have e:=I.kIn D o q;exact absurd (vh e) (by rw[hD];exact we _)
 have k3:∀b o,s.heap.get? b=U o->h3.get? b=U o:=λb o e=>by rw[<-qv];exact uv _ e
 have k4:∀b o,h3.get? b=U o->h₁.get? b=U o:=λb o e=>i8.extBut b o (by rw[<-jd];exact w8 (vh e)) (uv _ e);have j4:∀b∈fp,jQ X pins (upd H D (.lst [])) b:=λb hb=>⟨by rw[aS (w8 (dy b hb))];exact(hf b hb).1,(hf b hb).2⟩;have fy:∀b∈fp,b<h3.objs.size:=λb hb=>by rw[jd,hC];exact Nat.lt_succ_of_lt (dy b hb)
 have loop:∀(E':xu) (s4:Shared),s4={s with heap:=h₁,toks:=s.toks+([]:List (Str×Value)).length} ->codeAny (model X.prog X.w) X.A (.compLoop (.ListComp elt [⟨tg,iter,[],0⟩] sc pos) 0 (.ref it) (.ref D) (compEnvC sc cl C X.env)) (RR (.ref D) C) s4:=by
  rintro E' s4 rfl;let EN:=notedBy (model X.prog X.w) X.A (compEnvC sc cl C X.env) λe s'=>RR (.ref D) C (.error e) s';let þ:=sZ X (ownNames sc) sc cl C {s with heap:=h3,toks:=s.toks} (upd H D (.lst [])) fp EN;have xY:XC CX þ {c with N:=ownNames sc,sc:=sc} G T lv:=yN h cs;have J0:Inv þ [] (dI (ownNames sc).length fr V) (upd H D (.lst [])) {s with heap:=h₁,toks:=s.toks+([]:List (Str×Value)).length}:=yC h I3 cs av aT bj j4 fy (by show h3.objs.size<=C;rw[jd];exact uq _) iN k4 rfl I3.bare;have cok:=jL (E:=EN) (N':=ownNames sc) I3 cs.kind (show h3.objs.size<=C by rw[jd];exact uq _) aT bj cs.nocell j4 fy;have c9:∀{H':Hp},(∀b∈fp,H' b=O)->∀b∈fp,jQ þ [] H' b:=λhn b hb=>⟨hn b hb,(cok.exf b hb).1,cok.exfs b hb,.inl hb,(cok.exf b hb).2,λp hp=>absurd (show p∈([]:xv) from hp) zv⟩;have qy:∀(R:L2.St) (H':Hp) (bs:List Addr),aG H H'->(∃o,H' D=U o)->InnN X.K T H H' S D bs ls->R.length=(ownNames sc).length->(∀j,j∉aj->R[j]?=(dI (ownNames sc).length fr V)[j]?) ->RE X.K T H' (λa=>S a\/a=D\/a∈bs) (frame (ownNames sc).length fr B) R:=λR H' bs sm hys inn hl ag=>by
   have r0:=yE (n:=(ownNames sc).length) (fr:=fr) re;have mv:=inn.mv gk ng sm;refine⟨λa hs=>?_,by simp[frame,hl],λj sl e=>?_⟩;rcases hs with z|z|z;obtain⟨o,e⟩:=re.dom a z;exact⟨o,sm a o e⟩;subst z;exact hys;exact inn.has z;have h0:=r0.at_ j sl e;by_cases hj:j∈aj;have hu:sl=.un:=by
    unfold frame at e;rw[um]at e;cases hr:(List.range (ownNames sc).length)[j]? with
    |none=>rw[hr]at e;cases e
    |some k=>
     have ek:k=j:=by obtain⟨_,e'⟩:=u0.mp hr;simpa using e'.symm
     subst ek;rw[hr]at e;simp only[wo,u4]at e;have:=all_eq_true.mp i6 k hj;cases q:fr.lookup k with
     |none=>rw[q]at e;simpa using e.symm
     |some z=>rw[q]at this;simp at this
   subst hu;trivial;rw[ag j hj];cases sl with
   |un=>trivial
   |mm _=>trivial
   |im d=>obtain⟨v,e1,r⟩:=h0;exact⟨v,e1,Rep.gen mv d v r⟩
   |mu ds'=>obtain⟨p,xs,e1,sp,hp,r⟩:=h0;exact⟨p,xs,e1,.inl sp,sm _ _ hp,r.gen mv⟩
  refine mJ (λk s'=>∃(i:Nat) (R:L2.St) (H':Hp) (bs:List Addr),k=ds.length+1-i/\i<=ds.length/\Inv þ [] R H' s'/\tn i s'.heap/\(∀b∈fp,H' b=O) /\aG H H'/\H' D=U (.lst (bs.map σ.ref))/\bs.length=i/\InnN X.K T H H' S D bs ls/\R.length=(ownNames sc).length/\(∀j,j∉aj->R[j]?=(dI (ownNames sc).length fr V)[j]?)) ?_ (ds.length+1) ⟨0,_,_,[],rfl,xg _,J0,TU.keep _ _ _ st λb _ o e=>k4 b o (k3 b o e),λb hb=>(j4 b hb).1,aG.upd gk,aW,rfl,⟨List.nodup_nil,λz=>(nomatch z),λb z=>(nomatch z),λj b z=>(nomatch z)⟩,by simp[dI],λ_ _=>rfl⟩;rintro k s' ⟨i,R,H',bs,rfl,hi,IY,pD,tq,same,kj,cq,inn,hlσ,so⟩;have qe:=qy R H' bs same ⟨_,kj⟩ inn hlσ so;obtain⟨qo,qm⟩:=gy H' _ (inn.mv gk ng same) qe.dom;by_cases bt:i<ds.length;obtain⟨d,hd⟩:∃d,ds[i]?=U d:=⟨ds[i],by simp[bt]⟩;obtain⟨l,hl⟩:∃l,ls[i]?=U l:=⟨ls[i],by simp[o5,bt]⟩;obtain⟨ρ1,hb,hok⟩:=bu i d l hd hl;obtain⟨go,yl⟩:=qo i d hd;refine ae (TU.item þ rfl rfl rfl h.calm i [] s' R H' EN IY (c9 tq) pD go) λr s5 ⟨u,hr,h5⟩=>?_;subst hr;refine ae h5 λ_ s6 ⟨x,H6,I6,r6,y6,k6,fr6⟩=>?_;obtain⟨i4,rd6⟩:=yl x H6 y6;have I6':=I6.pinned (c9 fr6) (TU.obj _ _ k6);refine ae (TB xY (S:=λa=>S a\/a=D\/a∈bs) cx hb _ s6 R H6 x u (λσ2 H2=>H2=H6/\RE X.K T H6 (λa=>S a\/a=D\/a∈bs) ρ1 σ2/\∀j,j∉aj->σ2[j]?=R[j]?) I6' r6 ⟨qe.same i4,rd6,λW jz nz=>⟨rfl,jz,nz⟩⟩) λ_ s7 ⟨W,H7,I7,e7,jz,nz⟩=>?_;subst e7;refine wpAny_tests_nil ?_;refine ae (hok þ (λa=>S a\/a=D\/a∈bs) xY rfl _ s7 W H7 (λv H9=>∃p xs,v=.ref p/\aG H7 H9/\H7 p=O/\H9 p=U (.lst xs)/\aD X.K T (er H9 p) (λa=>S a\/a=D\/a∈bs) l xs) I7 ⟨jz,λp xs H9 a b d e=>⟨p,xs,rfl,a,b,d,e⟩⟩) λu9 s9 ⟨v,H9,I9,r9,p,xs,ev,i3,hp7,hp9,rl⟩=>?_;subst ev;have su:H9 D=U (.lst (bs.map σ.ref)):=i3 _ _ (i4 _ _ kj);refine ae (jY (X:=þ) _ s9 W H9 (.ref D) [.ref p] (.ref D) [u9] (λ_ ug=>ug=upd H9 D (.lst (bs.map σ.ref++[.ref p]))) I9 rfl (.cons r9 .nil) ⟨D,_,_,rfl,rfl,su,by rw[uo];lia,rfl⟩) λ_ s10 ⟨_,ug,I10,_,tw⟩=>?_;subst tw;have kp:X.K.lookup p=O:=by
   cases e:X.K.lookup p with
   |none=>rfl
   |some w=>rw[LN I9 p w e]at hp9;cases hp9
  have smH:aG H H7:=same.trans i4;refine⟨ds.length+1-(i+1),zq,i+1,W,_,bs++[p],rfl,bt,I10.unpinned,?_,λb hb=>?_,?_,by rw[x5];exact aW,by rw[vp,cq];rfl,(inn.same i4).snoc i3 (by rw[cq];exact hl) (smH.free hp7) hp7 ⟨_,i4 _ _ kj⟩ kp hp9 rl,I10.len,λj hj=>(nz j hj).trans (so j hj)⟩;exact TU.keep _ _ _ k6 λb hb o e=>(I10.pin (b,o) (wa _ (wa _ (eY hb e)))).1;obtain⟨o,e,_⟩:=TU.obj _ _ k6 b hb;exact(I10.pin (b,o) (wa _ (wa _ (eY hb e)))).2.1;intro b ob e;rw[aS (bF e gk)];exact i3 _ _ (smH _ _ e);have ei:i=ds.length:=by lia
  subst ei;refine ae (TU.done þ rfl rfl rfl h.calm ds.length [] s' R H' EN IY (c9 tq) pD (qm _ (uq _))) λr s5 ⟨hr,I5⟩=>?_;subst hr;obtain⟨m,hnC,_⟩:=I5.loc;have I9:Inv X pins V H' s5:=I3.call' I5.os I5.base I5.hok I5.bare λb hb=>⟨(hf b hb).2.2.2.1,(hf b hb).2.1,(hf b hb).2.2.2.2.1,(hf b hb).2.2.2.2.2⟩;have j6:s.heap.objs.size<=C:=by rw[hD,hC];exact wt _
  refine hRR D C s5 H' bs m I9 same gk ng kj (by rw[cq,o5]) inn hnC ⟨I5.free,?_,vi I.sz j6,λx a e=>?_,λp hp=>?_⟩;intro z;have:=I.lt;rw[<-z]at this;exact absurd this (not_lt.mpr j6);intro z;obtain⟨v,ob,h5,_⟩:=I.cell x a e;rw[z]at h5;exact absurd (vh h5) (not_lt.mpr j6);intro z;have:=(I.pin p hp).1;rw[z]at this;exact absurd (vh this) (not_lt.mpr j6)
 exact codeAny_compStart_list (loop E _ rfl) (TU.self X.A 0 _ _ _ (TU.keep _ _ _ st λb _ o e=>k4 b o (k3 b o e)) (loop E _ rfl))
def InnN.pre{H2:Hp}{D:Addr}{bs:List Addr}{ls:List (List Z.D)}(h:InnN K T H2 H' S D bs ls)(z:aG H H2):InnN K T H H' S D bs ls:=⟨h.nd,h.nD,λb m=>⟨z.free (h.new b m).1,(h.new b m).2⟩,h.at_⟩
def tNN(K:xq)(T:Tx)(S:Addr->Prop)(B:List Sl)(ls:List (List D)):TE:=λV H Q=>RE K T H S B V/\∀p bs H',aG H H'->H p=O->K.lookup p=O->H' p=U (.lst (bs.map σ.ref))->bs.length=ls.length->InnN K T H H' S p bs ls->Q (.ref p) H'
def JS(h:XC CX X c G T lv)(nt:gT c sc=Y){fr:List (Nat×Nat)}{ds:List D}{ls:List (List D)} (av:freeOf c sc (sc.names.filter λx=>x.2 == .free)=U fr) (i6:aj.all (λi=>(fr.lookup i).isNone)=Y) (cx:cC {c with N:=ownNames sc,sc:=sc} tg=U (aj,tp)) (hi:PI X tg iter (tI X.K T S B ds)) (hs:∀x,foldedSetIterable iter X.env x=pure x) (o5:ls.length=ds.length) (bu:∀(i:Nat) d l,ds[i]?=U d->ls[i]?=U l->∃ρ1,aX aj tp d (frame (ownNames sc).length fr B)=U ρ1/\DX CX G T lv {c with N:=ownNames sc,sc:=sc} X.K elt ρ1 l):PE X (.ListComp elt [⟨tg,iter,[],0⟩] sc pos) (tNN X.K T S B ls):=by intro pins s V H Q I ⟨re,q⟩;have cs:=kI nt;obtain⟨cl,dc,aT,bj⟩:=iP (iK h I cs);rw[eval_ListComp];refine wpAny_comprehension_free (use:=O) rfl hs dc cs.kind cs.loc (ae (hi pins s V H (λæ H2=>aG H H2/\iu X.K T S H2 æ ds/\ds.length<=sizeLine) I ⟨re,λæ H2 a b z=>⟨a,b,z⟩⟩) λv s1 h1=>ae h1 λoq s2 h2=>?_);obtain⟨it,fp,tn,æ,H2,e,I2,TU,dt,f2,W,gy,R⟩:=h2;subst e;refine oX (RR:=λacc C=>compPost (model X.prog X.w) X.A X.xe O (EP X pins V Q) acc C) h cs av i6 cx aT bj I2 (re.same W) TU dt f2 gy R o5 bu ?_;intro D C s' H' bs m I' k7 hD hK nh cq inn hn ⟨c1,c2,c3,c4,c5⟩;exact⟨m,hn,λh' gz=>⟨.ref D,H',I'.turned (t':=s'.toks) (λb o hb e=>gz.extBut b o hb e) c1 c2.symm.symm (.inr c3) c4 c5,rfl,q D bs H' (W.trans k7) (W.free hD) hK nh cq (inn.pre W)⟩⟩
def JJ(h:XC CX X c G T lv)(nt:gT c sc=Y){iz:Pos}{fr:List (Nat×Nat)}{ds:List D}{ls:List (List D)} (av:freeOf c sc (sc.names.filter λx=>x.2 == .free)=U fr) (i6:aj.all (λi=>(fr.lookup i).isNone)=Y) (cx:cC {c with N:=ownNames sc,sc:=sc} tg=U (aj,tp)) (hi:PI X tg iter (tI X.K T S B ds)) (hs:∀x,foldedSetIterable iter X.env x=pure x) (hx:eM c (.Name x px)=U i) (hsw:swapsWith (.ListComp elt [⟨tg,iter,[],0⟩] sc pos) (U (.Name x px)) iz.line X.env=pure Y) (o5:ls.length=ds.length) (bu:∀(i:Nat) d l,ds[i]?=U d->ls[i]?=U l->∃ρ1,aX aj tp d (frame (ownNames sc).length fr B)=U ρ1/\DX CX G T lv {c with N:=ownNames sc,sc:=sc} X.K elt ρ1 l):PS X (.Assign [.Name x px] (.ListComp elt [⟨tg,iter,[],0⟩] sc pos) iz) (λD V H=>RE X.K T H S B V/\∀p bs H',aG H H'->H p=O->X.K.lookup p=O->H' p=U (.lst (bs.map σ.ref))->bs.length=ls.length->InnN X.K T H H' S p bs ls->D.nx (V.set i (U (.ref p))) H'):=by
 intro pins s V H DD I ⟨re,q⟩;have cs:=kI nt;obtain⟨cl,dc,aT,bj⟩:=iP (iK h I cs);rw[exec_Assign_Name_used _ _ _ _ hsw];refine wg (wpAny_standAt (wg ?_));show wpAny _ X.A (do let _ <-comprehension (.ListComp elt [⟨tg,iter,[],0⟩] sc pos) sc X.env _ (newList []) J (eval iter X.env) (U (assign (.Name x px) X.env))) _ _ s;refine wg (wk (wpAny_comprehension_free (use:=U (assign (.Name x px) X.env)) (Q:=λ_ s'=>SP X pins DD .next s') rfl hs dc cs.kind cs.loc (ae (hi pins s V H (λæ H2=>aG H H2/\iu X.K T S H2 æ ds/\ds.length<=sizeLine) I ⟨re,λæ H2 a b z=>⟨a,b,z⟩⟩) λv s1 h1=>ae h1 λoq s2 h2=>?_)) (λ_ s' hq=>wj (wj hq)) λ_ _ e=>e);obtain⟨it,fp,tn,æ,H2,e,I2,TU,dt,f2,W,gy,R⟩:=h2;subst e;refine oX (RR:=λacc C=>compPost (model X.prog X.w) X.A X.xe (U (assign (.Name x px) X.env)) (λ_ s'=>SP X pins DD .next s') acc C) h cs av i6 cx aT bj I2 (re.same W) TU dt f2 gy R o5 bu ?_;intro D C s' H' bs m I' k7 hD hK nh cq inn hn ⟨c1,c2,c3,c4,c5⟩;obtain⟨hN,hk⟩:=dY hx;obtain⟨hl,hf⟩:=h.loc hk;show wpAny _ X.A (assign (.Name x px) X.env (.ref D)) _ _ _;refine wpAny_assign_Name (mQ I' (by rw[h.N];exact h.nd) (by rw[h.N];exact hN) hl (v:=.ref D) (u:=.ref D) rfl (λk9 I'' ⟨a,sb,ha⟩=>?_) hf);have hCa:C≠a:=by rcases ha with z|z;rw[z];exact c2;exactλw=>c4 x a z w.symm
 refine⟨m,hn.sameBut sb hCa,λh' gz=>⟨_,H',I''.turned (t':=k9.toks) (λb o hb e=>gz.extBut b o hb e) c1 c2 (.inr c3) c4 c5,q D bs H' (W.trans k7) (W.free hD) hK nh cq (inn.pre W)⟩⟩
end
variable {CX:aq}{G:GS}{T:Tx}{lv:Nat}{X:Cx}{c:CC}{S₀:Addr->Prop}{H₀:Hp}{fr:Bool}{EX:Str->Hp->Prop}{pos:Pos}
theorem qK:∀{ds:List D} {ls:List (List D)},lA ds=U ls->ds=ls.map D.lst
 |[],ls,h=>by cases h;rfl
 |d::r,ls,h=>by
  cases d<;>first|exact nomatch (show O=U ls from h)|skip
  obtain⟨t,h1,rfl⟩:=aU h;rw[qK h1];rfl
theorem rK{f:D->Option (Option D)}(hf:∀d o,f d=U o->∃y,o=U y):∀{ds z:List D},bU f ds=U z->z.length=ds.length/\∀(i:Nat) d,ds[i]?=U d->∃y,z[i]?=U y/\f d=U (U y)
 |[],z,h=>by simp only[bU,u4]at h;subst h;exact⟨rfl,λi d e=>by simp at e⟩
 |d::r,z,h=>by
  obtain⟨o,t,h1,h2,rfl⟩:=oY h;obtain⟨y,rfl⟩:=hf d o h1;obtain⟨l,k⟩:=rK hf h2;refine⟨by simp[l],λi d' e=>?_⟩;cases i with
  |zero=>cases e;exact⟨y,rfl,h1⟩
  |succ i=>exact k i d' e
def OV(xc:XC CX X c G T lv){ls:List (List D)}(hn:KR c (.ListComp elt gs sc p)=Y)(h:cE n c (.ListComp elt gs sc p)=U ir)(hd:ev G ir B=U (cg ls)):∃tg iter fr aj tp ds,gs=[⟨tg,iter,[],0⟩]/\gT c sc=Y/\freeOf c sc (sc.names.filter λx=>x.2 == .free)=U fr/\aj.all (λi=>(fr.lookup i).isNone)=Y/\cC {c with N:=ownNames sc,sc:=sc} tg=U (aj,tp) /\PI X tg iter (tI X.K T S B ds)/\(∀x,foldedSetIterable iter X.env x=pure x)/\ls.length=ds.length /\(∀(i:Nat) d l,ds[i]?=U d->ls[i]?=U l->∃ρ1,aX aj tp d (frame (ownNames sc).length fr B)=U ρ1/\DX CX G T lv {c with N:=ownNames sc,sc:=sc} X.K elt ρ1 l):=by
 cases n with
 |zero=>exact nomatch (show O=U ir from h)
 |succ n=>
 obtain⟨hE,hT,hB,hA,hI⟩:=cM (CX:=CX) (G:=G) (T:=T) (lv:=lv) n;obtain⟨g,ju,h⟩:=aE h;have e0:=dH ju;subst e0;obtain⟨tg,iter,ifs,as⟩:=g;obtain⟨hif,hfe⟩:=cL hn;obtain rfl:ifs=[]:=kS hif;by_cases ha:as=0;subst ha;obtain⟨⟨aj,tp⟩,cx,h⟩:=aE (show zR c sc ⟨tg,iter,[],0⟩ (cI n c iter) (cT n {c with N:=ownNames sc,sc:=sc}) (cE n {c with N:=ownNames sc,sc:=sc} elt)=U ir from h);obtain⟨⟨k,src⟩,hk,h⟩:=aE h;obtain⟨test,cj,h⟩:=aE h;obtain⟨W,hel,h⟩:=aE h;obtain⟨fr,av,h⟩:=aE h;obtain⟨hok,h⟩:=bA h;obtain⟨hok,bw⟩:=cL hok;have tgk:HF k tg:=λe=>by rw[e]at bw;exact nomatch bw
 obtain⟨kf,dO⟩:=cL hok;cases h;cases cj;obtain⟨s,hs,hd⟩:=aE hd;obtain⟨ds,bq,hd⟩:=aE hd;obtain⟨R,I,e1⟩:=aU hd;have e1:ls.map D.lst=R:=by cases e1;rfl
 subst e1;obtain⟨hi,i7⟩:=hI X _ S B iter k src xc hk s ds hs bq;have one:∀d o,(do let ρ1 <-aX aj tp d (frame (ownNames sc).length fr B);match <-ev G (.L (.bl Y)) ρ1 with | .bl Y=>(ev G W ρ1).map U | .bl J=>U O|_=>O:Option (Option D))=U o->∃ρ1 y,aX aj tp d (frame (ownNames sc).length fr B)=U ρ1/\ev G W ρ1=U y/\o=U y:=λd o q=>by obtain⟨ρ1,q1,q⟩:=aE q;obtain⟨y,q2,q3⟩:=aU (show (ev G W ρ1).map U=U o from q);exact⟨ρ1,y,q1,q2,q3⟩
 obtain⟨hl,hat⟩:=rK (λd o q=>let ⟨_,y,_,_,z⟩:=one d o q;⟨y,z⟩) I;refine⟨tg,iter,fr,aj,tp,ds,rfl,kf,av,dO,cx,hi tg tgk,i7,by rw[<-hl,uo],λi d l e1 e2=>?_⟩;obtain⟨y,z1,z2⟩:=hat i d e1;obtain⟨ρ1,y',q1,q2,q3⟩:=one d _ z2;cases q3;rw[um,e2]at z1;cases z1;exact⟨ρ1,q1,λX' S' xc' hK=>(hE X' _ S' ρ1 elt W xc' hel _ q2).2 hfe l rfl⟩;exact nomatch (show O=U ir from(if_neg ha).symm.trans h)
def QR(xc:XC CX X c G T lv)(hx:eM c (.Name x px)=U i)(hn:KR c (.ListComp elt gs sc p)=Y)(he:cE n c (.ListComp elt gs sc p)=U ir):PS X (.Assign [.Name x px] (.ListComp elt gs sc p) pos) (bb X.K T S₀ H₀ fr EX G (.nset i ir)):=λpins s V H D I ⟨B,out,S,W,R,po⟩=>by
 simp only[ex]at W;split at W;rename_i ds hd;obtain⟨ls,hls,rfl⟩:=aU W;rw[qK hls]at hd;obtain⟨tg,iter,fr',aj,tp,ds,rfl,h1,h2,h3,h4,h5,h6,h7,h8⟩:=OV (S:=S) xc hn he hd;obtain⟨hN,hk⟩:=dY hx;obtain⟨hl,hf⟩:=xc.loc hk;have hi:i<V.length:=by rw[I.len,xc.N];exact(u0.mp hN).1
 have fin:∀q bs H',aG H H'->H q=O->X.K.lookup q=O->H' q=U (.lst (bs.map σ.ref))->bs.length=ls.length->InnN X.K T H H' S q bs ls->D.nx (V.set i (U (.ref q))) H':=λq bs H' sm hq kq cW cq inn=>by
  have mv:=inn.mv hq kq sm;have cf:SInv X.K T S₀ H₀ (λa=>S a\/a=q\/a∈bs) ((B.map fL).set i (.mm ls)) (V.set i (U (.ref q))) H':=by refine R.nmake (by rw[R.re.len];exact hi) (λd z=>by cases z) mv (λa z=>.inl (R.sup a z)) (R.same.trans sm) (λa z=>?_) zv (λj hj=>vg (Ne.symm hj)) (λj d q o _ _ _ z e=>⟨.inl z,sm q o e⟩) trivial λls' e=>?_;rcases z with z|z|z;obtain⟨o,e⟩:=R.re.dom a z;exact⟨o,sm a o e⟩;subst z;exact⟨_,cW⟩;exact inn.has z;cases e;refine⟨q,bs,vf hi,⟨.inr (.inl rfl),R.same.free hq⟩,cW,inn.nD,inn.nd,cq,λb m=>⟨.inr (.inr m),R.same.free (inn.new b m).1⟩,λj b l z1 z2=>?_,λj d u z1 z2=>?_⟩;obtain⟨l',xs,g1,g2,g3⟩:=inn.at_ j b z1;rw[z2]at g1;cases g1;exact⟨xs,g2,g3⟩;have ne:=iG z1 (λz=>by cases z);rw[vg (Ne.symm ne)]at z1 z2;obtain⟨u',ob,w1,_,w3,_⟩:=R.re.at_ j _ (pW z1);rw[z2]at w1;cases w1;refine⟨λz=>?_,λm=>?_⟩;subst z;rw[hq]at w3;cases w3;rw[(inn.new u m).1]at w3;cases w3
  exact po _ _ H' cf mv
 obtain⟨b,hb⟩:=kW (elt:=elt) (gs:=[⟨tg,iter,[],0⟩]) (sc:=sc) (p:=p) (px:=px) (x:=x) (l:=pos.line) (env:=X.env);cases b with
 |false=>exact mW (by rw[xc.N];exact xc.nd) (by rw[xc.N];exact hN) hl (JS xc h1 h2 h3 h4 h5 h6 h7 h8) hb hf pins s V H D I ⟨R.re,fin⟩
 |true=>exact JJ xc h1 h2 h3 h4 h5 h6 hx hb h7 h8 pins s V H D I ⟨R.re,fin⟩
 cases W
section
variable {K:xq}{S:Addr->Prop}{H:Hp}{B:List Sl}{V:L2.St}
def SInv.nwrite(si:SInv K T S₀ H₀ S B V H){j:Nat}{ls:List (List Z.D)}{q b:Addr}{bs:List Addr}{l':List Z.D}{xs':List σ}(hi:B[i]?=U (.mm ls))(e1:V[i]?=U (U (.ref q)))(sq:S q/\H₀ q=O)(e2:H q=U (.lst (bs.map σ.ref)))(np:q∉bs)(nd:bs.Nodup)(cq:bs.length=ls.length)(hb:∀b∈bs,S b/\H₀ b=O) (hc:∀(j:Nat) b l,bs[j]?=U b->ls[j]?=U l->∃xs,H b=U (.lst xs)/\aD K T H S l xs) (dm:∀(j:Nat) d q',B[j]?=U (.mu d)->V[j]?=U (U (.ref q'))->q'≠q/\q'∉bs) (eb:bs[j]?=U b) (r:aD K T H S l' xs'):SInv K T S₀ H₀ S ((B.map fL).set i (.mm (ls.set j l'))) V (upd H b (.lst xs'))/\aO K H (upd H b (.lst xs')) S S:=by have m:=u6 eb;have nq:q≠b:=λz=>np (by rw[z];exact m);have hj:j<bs.length:=(u0.mp eb).1;have mv:aO K H (upd H b (.lst xs')) S S:=λa n _=>⟨n,λu e=>by rw[aS (λz=>n (by rw[z];exact(hb b m).1))];exact e⟩;refine⟨si.nmake (u0.mp hi).1 (λd z=>by cases z) mv si.sup (λa o e=>?_) (λa z=>?_) rfl (λ_ _=>rfl) (λW d u o I _ R z3 z4=>⟨z3,?_⟩) trivial λls' e=>?_,mv⟩;rw[aS (λz=>by rw[z,(hb b m).2]at e;cases e)];exact si.same a o e;by_cases e:a=b;exact⟨_,by rw[e];exact aW⟩;obtain⟨o,q⟩:=si.re.dom a z;exact⟨o,by rw[aS e];exact q⟩;rw[aS (λz=>(dm W d u I R).2 (by rw[z];exact m))];exact z4;cases e;refine⟨q,bs,e1,sq,by rw[aS nq];exact e2,np,nd,by rw[length_set];exact cq,hb,λW b' l I R=>?_,λW d u I R=>?_⟩;by_cases kh:j=W;subst kh;rw[eb]at I;cases I;rw[vf (by rw[<-cq];exact hj)]at R;cases R;exact⟨xs',aW,aD.gen mv _ _ r⟩;rw[vg kh]at R;obtain⟨xs,h1,h2⟩:=hc W b' l I R;have ne:b'≠b:=λz=>kh ((List.getElem?_inj hj nd).mp (by rw[eb,I,z]));exact⟨xs,by rw[aS ne];exact h1,aD.gen mv _ _ h2⟩;have ne:=iG I (λz=>by cases z);rw[vg (Ne.symm ne)]at I;exact dm W d u (pW I) R
end
def QW(xc:XC CX X c G T lv){p0 ps:Pos}(hx:aZ c x=U i)(hl:(p2.endLine == p.line)=Y)(hk:cE n c ie=U kr)(he:cE n c e=U ir):PS X (.Expr (.Call (.Attribute (.Subscript (.Name x p0) ie ps) "append" p2) [e] [] p) pos) (bb X.K T S₀ H₀ fr EX G (.napp i kr ir)):=λpins s V H D I ⟨B,out,S,z,W,po⟩=>by simp only[ex]at z;split at z;rename_i d k ls hd kg hi;obtain⟨j,hj,z⟩:=aE z;obtain⟨l,qz,z⟩:=aE z;split at z;rename_i hz;cases z;obtain⟨q,bs,e1,sq,e2,np,nd,cq,hb,hc,dm⟩:=W.nm i ls hi;have j1:=(u0.mp qz).1;obtain⟨b,eb⟩:∃b,bs[j]?=U b:=⟨bs[j]'(by rw[cq];exact j1),uk _⟩;obtain⟨xs,fe,rl⟩:=hc j b l eb qz;have st:=(bV he).star X.env [];have pk:=((cM n).1 X c (λ_=>False) (viewN B) ie kr xc hk _ kg).1;refine jW (xH plainAttrs_list PySem.F.slot_list_append PySem.F.type_list_append jY (CL uO (fJ xc hx) pk (bV hk).ix) (bT (((cM n).1 X c S B e ir xc he _ hd).1) fN st) rfl ?_ hl st rfl) rfl pins s V H D I ⟨.ref q,e1,W.viewN,λy H2 s2 r2=>?_⟩;rw[st];rfl;unfold Rep at r2;refine .inl ⟨q,bs.map σ.ref,k,.ref b,rfl,r2,SqL.of (s2 _ _ e2),?_,.inl ⟨rfl,xs,SqL.of (s2 _ _ fe)⟩,W.re.same s2,λv H3 s3 r3=>⟨b,xs,v,rfl,rfl,s3 _ _ (s2 _ _ fe),?_,?_⟩⟩;unfold L2.atI;rw[uo,cq,<-uP,hj];show (bs.map σ.ref)[j]?=_;rw[um,eb];rfl;rw[<-rl.len];exact vb hz gG;have R:=s2.trans s3;obtain⟨cf,mv⟩:=(W.step R).nwrite (l':=l++[d]) (xs':=xs++[v]) hi e1 sq (R _ _ e2) np nd cq hb (λj b l a1 a2=>let ⟨xs,g1,g2⟩:=hc j b l a1 a2;⟨xs,R _ _ g1,g2.same R⟩) dm eb ((rl.same R).app (aD.cons r3 aD.nil));exact po S V _ cf ((aO.same R).trans mv);cases z;cases z
noncomputable def LY(xs:List σ)(i:Int)(y:σ):List σ:=xs.take (min i.toNat xs.length)++y::xs.drop (min i.toNat xs.length)
def RJ:σ->List σ->Hp->VK->Prop:=λx vs H Q=>∃l xs i y,x=.ref l/\vs=[.int i,y]/\H l=U (.lst xs)/\(0<=i/\i<2 ^ 63)/\xs.length<sizeLine/\Q .non (upd H l (.lst (LY xs i y)))
def FT:ue X "list.insert" RJ:=by intro pins s V H x vs v us Q I W rv h;obtain⟨l,xs,i,y,rfl,rfl,R,⟨h1,h2⟩,hz,q⟩:=h;cases W;obtain⟨u1,u,rfl,r1,ru⟩:=rv.two;obtain⟨t,rfl⟩:=r1;obtain⟨z,its,n,r,hl,e⟩:=I.lstM R;refine call_meets F.slot_list_insert ⟨_,e,rfl⟩ F.entry_list_insert (F.args_list_insert_3 _ _ _) (AutoSeq1.list_insert_list_int_val_1 l its.toArray n i t u (by rw[fitsIndex_both zq h2];decide) (by rw[uy];lia)) ⟨e,?_⟩;refine⟨.non,_,I.lset (its':=its.take (min i.toNat its.length)++u::its.drop (min i.toNat its.length)) R e ?_ ?_ ?_,rfl,q⟩;show ((its.toArray.extract 0 (if i<0 then(i+((its.toArray.size:Nat):Int)).toNat else min i.toNat its.toArray.size)).push u++its.toArray.extract (if i<0 then(i+((its.toArray.size:Nat):Int)).toNat else min i.toNat its.toArray.size))=_;rw[if_neg zq,uy];simp;exact take_of_length_le (by rw[xj];exact uq _);unfold LY;rw[hl];exact(r.take _).append (.cons ru (r.drop _));unfold LY;rw[vp,wz,w9,xj];lia
def QU(xc:XC CX X c G T lv){je:Expr}{jr:IE}{p0 ps:Pos}(hx:aZ c x=U i)(hl:(p2.endLine == p.line)=Y)(hk:cE n c ie=U kr)(hj:cE n c je=U jr)(he:cE n c e=U ir):PS X (.Expr (.Call (.Attribute (.Subscript (.Name x p0) ie ps) "insert" p2) [je,e] [] p) pos) (bb X.K T S₀ H₀ fr EX G (.nins i kr jr ir)):=λpins s V H D I ⟨B,out,S,z,W,po⟩=>by
 simp only[ex]at z;split at z;rename_i d k m ls hd kg hmj hi;obtain⟨j,kh,z⟩:=aE z;obtain⟨l,qz,z⟩:=aE z;split at z;rename_i hz;cases z;obtain⟨q,bs,e1,sq,e2,np,nd,cq,hb,hc,dm⟩:=W.nm i ls hi;have j1:=(u0.mp qz).1;obtain⟨b,eb⟩:∃b,bs[j]?=U b:=⟨bs[j]'(by rw[cq];exact j1),uk _⟩;obtain⟨xs,fe,rl⟩:=hc j b l eb qz;have st:=(bV he).star X.env [];have di:=(bV hj).star X.env [e];have pk:=((cM n).1 X c (λ_=>False) (viewN B) ie kr xc hk _ kg).1;have pj:=((cM n).1 X c (λ_=>False) (viewN B) je jr xc hj _ hmj).1;refine jW (xH plainAttrs_list PySem.F.slot_list_insert PySem.F.type_list_insert FT (CL uO (fJ xc hx) pk (bV hk).ix) (bT pj (bT (((cM n).1 X c S B e ir xc he _ hd).1) fN st) di) rfl ?_ hl di (by rw[st];rfl)) rfl pins s V H D I ⟨.ref q,e1,W.viewN,λy H2 s2 r2=>?_⟩;rw[di,st];rfl;unfold Rep at r2;refine .inl ⟨q,bs.map σ.ref,k,.ref b,rfl,r2,SqL.of (s2 _ _ e2),?_,.inl ⟨rfl,xs,SqL.of (s2 _ _ fe)⟩,W.viewN.same s2,λw H4 s4 r4=>?_⟩;unfold L2.atI;rw[uo,cq,<-uP,kh];show (bs.map σ.ref)[j]?=_;rw[um,eb];rfl;unfold Rep at r4;subst r4;refine⟨(W.re.same s2).same s4,λv H3 s3 r3=>⟨b,xs,m,v,rfl,rfl,s3 _ _ (s4 _ _ (s2 _ _ fe)),⟨hz.2.1,?_⟩,?_,?_⟩⟩;have:=hz.2.2;unfold big at this;have h63:(2:Int) ^ 63=9223372036854775808:=zu
 rw[h63];lia;rw[<-rl.len];exact vb hz.1 gG;have R:=(s2.trans s4).trans s3;have rl':=rl.same R;obtain⟨cf,mv⟩:=(W.step R).nwrite (l':=qO l m d) (xs':=LY xs m v) hi e1 sq (R _ _ e2) np nd cq hb (λj b l a1 a2=>let ⟨xs,g1,g2⟩:=hc j b l a1 a2;⟨xs,R _ _ g1,g2.same R⟩) dm eb (by unfold qO LY;rw[<-rl.len];exact(rl'.take _).app (aD.cons r3 (rl'.drop _)));exact po S V _ cf ((aO.same R).trans mv);cases z;cases z
def SInv.nfrz(I:SInv K T S₀ H₀ S B V H){ls:List (List Z.D)}(hi:B[i]?=U (.mm ls)):∃S' q,SInv K T S₀ H₀ S' ((B.map fL).set i (.im (cg ls))) V H/\aO K H H S S'/\V[i]?=U (U (.ref q))/\Rep K T H S' (cg ls) (.ref q):=by
 obtain⟨q,bs,e1,sq,e2,np,nd,cq,hb,hc,dm⟩:=I.nm i ls hi;have mv:aO K H H S (λa=>S a/\a≠q/\a∉bs):=λa n _=>⟨λz=>n z.1,λ_ e=>e⟩;have r:Rep K T H (λa=>S a/\a≠q/\a∉bs) (cg ls) (.ref q):=by unfold cg Rep;exact⟨q,_,rfl,λz=>z.2.1 rfl,e2,qE cq (λa z=>z.1) (λb m z=>z.2.2 m) hc⟩
 refine⟨_,q,I.nmake (u0.mp hi).1 (λd z=>by cases z) mv (λa z=>⟨I.sup a z,λw=>?_,λm=>?_⟩) I.same (λa z=>I.re.dom a z.1) rfl (λ_ _=>rfl) (λj d u o W _ R z3 z4=>⟨⟨z3,(dm j d u W R).1,(dm j d u W R).2⟩,z4⟩) ⟨.ref q,e1,r⟩ (λls' e=>by cases e),mv,e1,r⟩;obtain⟨o,y⟩:=I.dom0 a z;rw[w,sq.2]at y;cases y;obtain⟨o,y⟩:=I.dom0 a z;rw[(hb a m).2]at y;cases y
def QV{rest:List Stmt}{x:Nat}(hb:PSs X rest (bb X.K T S₀ H₀ fr EX G b)):PSs X rest (bb X.K T S₀ H₀ fr EX G (.nfrz x b)):=λpins s V H D I ⟨B,out,S,hx,z,po⟩=>by simp only[ex]at hx;split at hx;rename_i ls hi;obtain⟨S',q,R,mv,_,_⟩:=z.nfrz hi;exact hb pins s V H D I ⟨_,out,S',hx,R,po.step mv⟩;cases hx
def QS(xc:XC CX X c G T lv)(e:aZ c x=U i)(hf:fr=J):PS X (.Return (U (.Name x p)) pos) (bb X.K T S₀ H₀ fr EX G (.nret i)):=λpins s V H D I ⟨B,out,S,hx,R,po⟩=>by simp only[ex]at hx;split at hx;rename_i ls hi;cases hx;obtain⟨S',q,W,_,e1,r⟩:=R.nfrz hi;exact uB (fJ xc e) pins s V H D I ⟨_,e1,po (.ref q) H R.same (Rep.mono W.sup (λ_ _ _ e=>e) _ _ r) λz=>by rw[hf]at z;cases z⟩;cases hx
def QT(xc:XC CX X c G T lv){pl:Pos}(hx:aZ c x=U i)(hk:cE n c ie=U kr):PS X (.Assign [.Subscript (.Name x p1) ie p2] (.List [] pl) pos) (bb X.K T S₀ H₀ fr EX G (.nput i kr)):=λpins s V H D I ⟨B,out,S,hex,si,po⟩=>by
 simp only[ex]at hex;split at hex;rename_i k ls kg hi;obtain⟨j,hj,rfl⟩:=aU hex;obtain⟨q,bs,e1,sq,e2,np,nd,cq,hb,hc,dm⟩:=si.nm i ls hi;have pk:=((cM n).1 X c (λ_=>False) (viewN B) ie kr xc hk _ kg).1;refine zU (aDI (WY (S:=S) (B:=B) sP (xg _))) (JO (fJ xc hx) pk set_list ?_) rfl rfl rfl pins s V H D I ⟨si.re,λu xs H' sm hu ku hu' ru=>⟨.ref q,e1,si.viewN.same sm,λw H2 ft r2=>?_⟩⟩;intro v;cases ie<;>first|rfl|(cases n<;>exact nomatch (show O=U kr from hk))
 unfold Rep at r2;subst r2;have s12:=sm.trans ft;have j1:j<bs.length:=by rw[cq];unfold Z.ixN at hj;split at hj;split at hj;cases hj;lia;cases hj;split at hj;cases hj;lia;cases hj
 refine⟨q,bs.map σ.ref,k,j,rfl,rfl,s12 _ _ e2,by rw[uo,cq,<-uP];exact hj,?_⟩;have hin:∀b∈bs,∃o,H b=U o:=λb m=>let ⟨xs,h⟩:=zA.inn cq hc m;⟨_,h⟩
 have nu:u∉bs:=λm=>by obtain⟨o,z⟩:=hin u m;rw[hu]at z;cases z
 have nuq:u≠q:=λz=>by rw[z,e2]at hu;cases hu
 have mv:aO X.K H (upd H2 q (.lst ((bs.map σ.ref).set j (.ref u)))) S (λa=>S a\/a=u):=λa na hh=>by
  have ne:a≠u:=by rintro rfl;rcases hh with ⟨o,e⟩|⟨o,e⟩;rw[hu]at e;cases e;rw[ku]at e;cases e
  exact⟨λz=>z.elim na ne,λo e=>by rw[aS (λz=>na (by rw[z];exact sq.1))];exact s12 a o e⟩
 have hq2:upd H2 q (.lst ((bs.map σ.ref).set j (.ref u))) q=U (.lst ((bs.set j u).map σ.ref)):=by rw[map_set];exact aW
 have nd':(bs.set j u).Nodup:=by
  rw[List.set_eq_take_append_cons_drop,if_pos j1];have e:bs=bs.take j++bs.drop j:=(take_append_drop j bs).symm;rw[e]at nd;obtain⟨n1,n2,n3⟩:=nodup_append.mp nd;have sub:∀a,a∈bs.drop (j+1)->a∈bs.drop j:=λa m=>by rw[List.drop_eq_getElem_cons j1];exact ux _ m
  refine nodup_append.mpr ⟨n1,nodup_cons.mpr ⟨λm=>nu (mem_of_mem_drop m),?_⟩,λa ha b dh z=>?_⟩;rw[List.drop_eq_getElem_cons j1]at n2;exact(nodup_cons.mp n2).2;rcases vk.mp dh with w|w;exact nu (by rw[<-w,<-z];exact mem_of_mem_take ha);exact n3 a ha b (sub b w) z
 have W:∀b,b∈bs.set j u->b=u\/b∈bs:=λb m=>(List.mem_or_eq_of_mem_set m).symm;refine po _ V _ (si.nmake (u0.mp hi).1 (λd z=>by cases z) mv (λa z=>.inl (si.sup a z)) (λa o e=>?_) (λa z=>?_) rfl (λ_ _=>rfl) (λj' d v o R _ z2 z3 z4=>⟨.inl z3,?_⟩) trivial λls' e=>?_) mv;rw[aS (λz=>by rw[z,sq.2]at e;cases e)];exact s12 a o (si.same a o e);rcases z with z|z;by_cases w:a=q;exact⟨_,by rw[w];exact aW⟩;obtain⟨o,y⟩:=si.re.dom a z;exact⟨o,by rw[aS w];exact s12 a o y⟩;exact⟨_,by rw[z,aS nuq];exact ft _ _ hu'⟩;rw[aS (dm j' d v R z2).1];exact s12 _ _ z4;cases e;refine⟨q,bs.set j u,e1,⟨.inl sq.1,sq.2⟩,hq2,λm=>?_,nd',by rw[length_set,length_set];exact cq,λb m=>?_,λj' b l R z2=>?_,λj' d v R z2=>?_⟩;rcases W q m with w|w;exact nuq w.symm;exact np w;rcases W b m with w|w;rw[w];exact⟨.inr rfl,si.same.free hu⟩;exact⟨.inl (hb b w).1,(hb b w).2⟩;by_cases kh:j=j';subst kh;rw[vf j1]at R;cases R;rw[vf (by rw[<-cq];exact j1)]at z2;cases z2;unfold aD at ru;subst ru;exact⟨[],by rw[aS nuq];exact ft _ _ hu',aD.nil⟩;rw[vg kh]at R z2;obtain⟨xs,h1,h2⟩:=hc j' b l R z2;exact⟨xs,by rw[aS (λz=>np (by rw[<-z];exact u6 R))];exact s12 _ _ h1,aD.gen mv _ _ h2⟩;have ne:=iG R (λz=>by cases z);rw[vg (Ne.symm ne)]at R;obtain⟨w1,w2⟩:=dm j' d v (pW R) z2;refine⟨w1,λm=>?_⟩;rcases W v m with w|w;obtain⟨v',ob,y1,_,y3,_⟩:=si.re.at_ j' _ (pW R);rw[z2]at y1;cases y1;rw[w,hu]at y3;cases y3;exact w2 w;cases hex
variable {CX:aq}{G:GS}{T:Tx}{lv:Nat}{X:Cx}{c:CC}{S₀:Addr->Prop}{H₀:Hp}{fr:Bool}{EX:Str->Hp->Prop}{pos:Pos}
def aCk(CX:aq)(G:GS)(T:Tx)(lv:Nat)(S₀:Addr->Prop)(H₀:Hp)(fr:Bool)(EX:Str->Hp->Prop)(n:Nat):Prop:=∀(X:Cx) (c:CC) (st:Stmt) (is:IS),XC CX X c G T lv->XS CX T X c EX->cS n c st=U is->(fr=Y->gE is=Y)->PS X st (bb X.K T S₀ H₀ fr EX G is)
def WG(CX:aq)(G:GS)(T:Tx)(lv:Nat)(S₀:Addr->Prop)(H₀:Hp)(fr:Bool)(EX:Str->Hp->Prop)(n:Nat):Prop:=∀(X:Cx) (c:CC) (st:List Stmt) (is:IS),XC CX X c G T lv->XS CX T X c EX->j9 n c st=U is->(fr=Y->gE is=Y)->PSs X st (bb X.K T S₀ H₀ fr EX G is)
def HB{q:Nat×Expr}(h:WD c e=U q):∃x p1 p2 p,e=.Call (.Attribute (.Name x p1) "append" p2) [q.2] [] p/\aZ c x=U q.1/\(p2.endLine == p.line)=Y:=by obtain⟨r,h1,h⟩:=aE h;obtain⟨g,h2,h⟩:=aE h;obtain⟨j,h3,h⟩:=aE h;obtain⟨a,I,h⟩:=aE h;obtain⟨h5,h⟩:=bA h;obtain⟨h5,z⟩:=cL h5;obtain⟨h5,h6⟩:=cL h5;cases h;obtain⟨x,p1,R,hs⟩:=dQ h3;refine⟨x,p1,g.2.2,r.2.2.2,?_,hs,z⟩;rw[fA h1,iS h2,dH I,kS h5,R,vz.mp h6]
def FH{j:Nat}(h:SQ c e=U j):∃x p1 p2 p,e=.Call (.Attribute (.Name x p1) "pop" p2) [] [] p/\aZ c x=U j/\(p2.endLine == p.line)=Y:=by obtain⟨r,h1,h⟩:=aE h;obtain⟨g,h2,h⟩:=aE h;obtain⟨j,h3,h⟩:=aE h;obtain⟨h5,h⟩:=bA h;obtain⟨h5,z⟩:=cL h5;obtain⟨h5,h6⟩:=cL h5;obtain⟨I,h5⟩:=cL h5;cases h;obtain⟨x,p1,R,hs⟩:=dQ h3;refine⟨x,p1,g.2.2,r.2.2.2,?_,hs,z⟩;rw[fA h1,iS h2,kS I,kS h5,R,vz.mp h6]
def IH(xc:XC CX X c G T lv)(xs:XS CX T X c EX){is:IS}(h:zQ (cE n c) c e=U is):PS X (.Expr e pos) (bb X.K T S₀ H₀ fr EX G is):=by obtain⟨r,hr,h⟩:=aE h;obtain⟨u,hu,rfl⟩:=aU h;obtain rfl:=fA hr;exact QY xc xs hu
def EO{x:Expr×Expr×Pos}(h:aCC e=U x):e=.Subscript x.1 x.2.1 x.2.2:=by cases e<;>first|exact nomatch (show O=U x from h)|(cases (show U _=U x from h);rfl)
def nB(h:jG c e=U i):∃x p,e=.Name x p/\aZ c x=U i:=by obtain⟨x,h1,h⟩:=aE h;exact⟨x.1,x.2,cU h1,(bA h).2⟩
def MP{i:IS}(h:gE (pv o i)=Y):gE i=Y:=by cases o<;>exact h
def IG{x:Nat}(hb:PS X st (bb X.K T S₀ H₀ fr EX G b)):PS X st (bb X.K T S₀ H₀ fr EX G (.nfrz x b)):=λpins s V H D I ⟨B,out,S,hx,z,po⟩=>by simp only[ex]at hx;split at hx;rename_i ls hi;obtain⟨S',q,R,mv,_,_⟩:=z.nfrz hi;exact hb pins s V H D I ⟨_,out,S',hx,R,po.step mv⟩;cases hx
def ZU(hb:PS X st (bb X.K T S₀ H₀ fr EX G b)):PS X st (bb X.K T S₀ H₀ fr EX G (pv o b)):=by
 cases o with
 |none=>exact hb
 |some j=>exact IG hb
def QX{st:List Stmt}(hb:PSs X st (bb X.K T S₀ H₀ fr EX G b)):PSs X st (bb X.K T S₀ H₀ fr EX G (pv o b)):=by
 cases o with
 |none=>exact hb
 |some j=>exact QV hb
def aCF(xc:XC CX X c G T lv){q:Nat×Expr×Str×List Expr}{is:IS}(hq:uH c e=U q)(h:RI (cE n c) q=U is):PS X (.Expr e pos) (bb X.K T S₀ H₀ fr EX G is):=by obtain⟨r,h1,hq⟩:=aE hq;obtain⟨g,h2,hq⟩:=aE hq;obtain⟨s,h3,hq⟩:=aE hq;obtain⟨j,R,hq⟩:=aE hq;obtain⟨h5,hq⟩:=bA hq;obtain⟨h5,I⟩:=cL h5;cases hq;obtain⟨x,p1,W,hs⟩:=nB R;rw[fA h1,iS h2,EO h3,kS h5,W];unfold RI at h;split at h;rename_i a ea;obtain⟨hm,h⟩:=bA h;obtain⟨k,hk,h⟩:=aE h;obtain⟨y,hy,rfl⟩:=aU h;have ea:r.2.1=[a]:=ea;rw[ea,show g.2.1="append" from vz.mp hm];exact QW xc hs I hk hy;rename_i a b ea;obtain⟨hm,h⟩:=bA h;obtain⟨k,hk,h⟩:=aE h;obtain⟨m,z,h⟩:=aE h;obtain⟨y,hy,rfl⟩:=aU h;have ea:r.2.1=[a,b]:=ea;rw[ea,show g.2.1="insert" from vz.mp hm];exact QU xc hs I hk z hy;cases h
def ZW(xc:XC CX X c G T lv)(xs:XS CX T X c EX){t:Expr}{is:IS}(h:WR (cE n c) c e t=U is):PS X (.Assign [t] e pos) (bb X.K T S₀ H₀ fr EX G is):=by
 cases t<;>first|exact nomatch (show O=U is from h)|skip
 case Name x p=>
  obtain⟨i,hx,h⟩:=aE h;unfold IX at h;split at h;rename_i hz;obtain⟨y,hy,rfl⟩:=aU h;have hn:=(cL hz).2;cases e<;>first|exact nomatch (show J=Y from hn)|skip
  exact QR xc hx hn hy;split at h;split at h;rename_i hz;cases h;unfold DA at hz;split at hz;exact QN xc hx;cases hz;obtain⟨hf,h⟩:=bA h;obtain⟨y,hy,rfl⟩:=aU h;exact QM xc hx hy hf;obtain⟨y,hy,rfl⟩:=aU h;exact ZK xc hx hy
 case Subscript a i p=>
  have h:(match jG c a with|some j=>if isNil e then(cE n c i).map λk=>IS.nput j k else O|none=>(eD c a).bind λj=>(cE n c i).bind λk=>(cE n c e).map λy=>IS.put j k y)=U is:=h;cases W:jG c a with
  |some j=>rw[W]at h;obtain⟨hz,h⟩:=bA h;obtain⟨k,hk,rfl⟩:=aU h;obtain⟨x,p1,rfl,hs⟩:=nB W;unfold isNil at hz;split at hz;exact QT xc hs hk;cases hz
  |none=>
  rw[W]at h;obtain⟨j,hj,h⟩:=aE h;obtain⟨k,hkk,h⟩:=aE h;obtain⟨y,hy,rfl⟩:=aU h;obtain⟨x,p1,rfl,hs⟩:=dQ hj;exact ZP xc hs hkk hy
 case Tuple ts k p=>
  have h:zO (cE n c) c ts e=U is:=h;unfold zO at h;cases R:tupP e with
  |some q=>
   rw[R]at h;obtain⟨vs,k',p'⟩:=q;obtain rfl:=EK R;have h:WQ (cE n c) c ts vs=U is:=h;match ts,vs,h with
   |[t,u],[a,b],h=>obtain⟨x,h1,h⟩:=aE h;obtain⟨y,h2,h⟩:=aE h;obtain⟨i,hi,h⟩:=aE h;obtain⟨j,hj,h⟩:=aE h;obtain⟨I,h⟩:=bA h;obtain⟨u',hu,h⟩:=aE h;obtain⟨v',hv,rfl⟩:=aU h;obtain rfl:=cU h1;obtain rfl:=cU h2;exact ZR xc xs hi hj I hu hv
  |none=>rw[R]at h;obtain⟨is',his,h⟩:=aE h;obtain⟨u,hu,rfl⟩:=aU h;refine QL xc his hu λvs k p z=>?_;subst z;exact nomatch (show U _=O from R)
def ZO(xc:XC CX X c G T lv)(xs:XS CX T X c EX){is:IS}(h:rdR (cE n c) c e=U is)(av:fr=Y->gE is=Y):PS X (.Return (U e) pos) (bb X.K T S₀ H₀ fr EX G is):=by obtain⟨y,hy,I⟩:=aU h;subst I;exact ZN xc hy (λz=>z) λz=>av z
def FM(hS:WG CX G T lv S₀ H₀ fr EX n):aCk CX G T lv S₀ H₀ fr EX (n+1):=by
 intro X c st is xc xs h av;cases st<;>first|exact nomatch (show O=U is from h)|skip
 case Pass q=>cases (show U IS.nop=U is from h);exact QQ
 case Return v q=>
  obtain⟨W,h0,e0⟩:=aU h;subst e0;clear h;have I:fr=Y->gE W=Y:=λz=>MP (av z);refine ZU ?_;cases v with
  |none=>cases (show U IS.retn=U W from h0);exact QO
  |some e=>
   have h:(match eD c e with|some i=>U (IS.M i)|none=>match jG c e with|some i=>U (IS.nret i)|none=>rdR (cE n c) c e)=U W:=h0;clear h0;cases hm:eD c e with
   |some i=>rw[hm]at h;cases h;obtain⟨x,p,rfl,hs⟩:=dQ hm;exact QP xc hs
   |none=>
    rw[hm]at h;cases R:jG c e with
    |some i=>
     rw[R]at h;cases h;obtain⟨x,p,rfl,hs⟩:=nB R;refine QS xc hs ?_;cases hff:fr with
     |false=>rfl
     |true=>exact nomatch (show J=Y from I hff)
    |none=>rw[R]at h;exact ZO xc xs h I
 case Assign ts e q=>
  obtain⟨t,ht,h⟩:=aE h;obtain rfl:=dH ht;exact ZW xc xs h
 case If t a b q=>
  obtain⟨u,hu,h⟩:=aE h;obtain⟨v,hv,h⟩:=aE h;obtain⟨w,hw,h⟩:=aU h;obtain rfl:is=IS.g u (pv (frB c a) v) w:=h;have r8:fr=Y->gE v=Y/\gE w=Y:=λz=>(cL (av z)).imp (λq=>MP q) id;exact aCG xc hu (QX (hS X _ a v xc xs hv λz=>(r8 z).1)) (hS X _ b w xc xs hw λz=>(r8 z).2)
 case For tg iter body els q=>
  obtain⟨he,h⟩:=bA h;obtain rfl:=kS he;obtain⟨⟨aj,tp⟩,cx,h⟩:=aE h;obtain⟨⟨k,src⟩,hk,h⟩:=aE h;obtain⟨hen,h⟩:=bA h;have ow:HF k tg:=QH cx hen;obtain⟨v,hv,rfl⟩:=aU h;exact ZV xc xs cx hk ow (hS X _ body v xc xs hv λz=>av z)
 case Expr e q=>
  have h:(match uH c e with|some q=>RI (cE n c) q|none=>aCS (cE n c) c e)=U is:=h;cases qx:uH c e with
  |some r=>rw[qx]at h;exact aCF xc qx h
  |none=>
  rw[qx]at h;have h:(match WD c e with|some q=>(cE n c q.2).map λx=>IS.app q.1 x|none=>match SQ c e with|some j=>U (IS.pop j)|none=>zQ (cE n c) c e)=U is:=h;cases ha:WD c e with
  |some r=>rw[ha]at h;obtain⟨u,hu,rfl⟩:=aU h;obtain⟨x,p1,p2,p,rfl,hs,hp⟩:=HB ha;exact ZX xc hs hp hu
  |none=>
   rw[ha]at h;cases hp:SQ c e with
   |some j=>rw[hp]at h;cases h;obtain⟨x,p1,p2,p,rfl,hs,hl⟩:=FH hp;exact ZQ xc hs hl
   |none=>
   rw[hp]at h;exact IH xc xs h
 case Raise e f q=>
  obtain⟨e',he,h⟩:=aE h;obtain⟨r,h1,h⟩:=aE h;obtain⟨x,h2,h⟩:=aE h;obtain⟨a,h3,h⟩:=aE h;obtain⟨m,h4,h⟩:=aE h;obtain⟨h5,h⟩:=bA h;obtain⟨h5,h8⟩:=cL h5;obtain⟨h5,h7⟩:=cL h5;obtain⟨h5,h6⟩:=cL h5;cases h;obtain⟨j,p',ea⟩:=ER h4;rw[he,Option.isNone_iff_eq_none.mp h5,fA h1,cU h2,dH h3,kS h6,ea];exact ZM xs h7 h8
def FN(hS:aCk CX G T lv S₀ H₀ fr EX n)(R:WG CX G T lv S₀ H₀ fr EX n):WG CX G T lv S₀ H₀ fr EX (n+1):=by
 intro X c st is xc xs h av;rcases st with _|⟨s,_|⟨s2,r⟩⟩;cases (show U IS.nop=U is from h);exact ZS;exact SL (hS X c s is xc xs h av);obtain⟨u,hu,h⟩:=aE h;obtain⟨v,hv,rfl⟩:=aU h;have I:fr=Y->gE u=Y/\gE v=Y:=λz=>(cL (av z)).imp id λq=>by unfold UZ at q;split at q<;>exact q
 exact ZL (hS X c s u xc xs hu λz=>(I z).1) (ZT (R X c (s2::r) v xc xs hv λz=>(I z).2))
theorem pK:∀n,aCk CX G T lv S₀ H₀ fr EX n/\WG CX G T lv S₀ H₀ fr EX n
 | 0=>⟨λX c st is xc xs h=>(nomatch (show O=U is from h)),λX c st is xc xs h=>(nomatch (show O=U is from h))⟩
 |n+1=>⟨FM (pK n).2,FN (pK n).1 (pK n).2⟩
variable {CX:aq}{G:GS}{T:Tx}{lv:Nat}
noncomputable def jB(n:Nat)(ds:List D):List Sl:=ds.map .im++List.replicate (n-ds.length) .un
def pZ{ds:List D}{vs:List σ}(dom:∀a,S a->∃o,H a=U o)(W:aD K T H S ds vs):SInv K T S H S (jB N.length ds) (L2.start N vs) H:=by
 have hl:=W.len;have I:∀(i:Nat) xs,(jB N.length ds)[i]?≠U (.mu xs):=λi xs e=>by
  unfold jB at e;by_cases h:i<(ds.map Sl.im).length;rw[xa h,um]at e;cases h2:ds[i]? with
  |none=>rw[h2]at e;cases e
  |some d=>rw[h2]at e;cases e
  rw[xb zq,getElem?_replicate]at e;split at e<;>cases e
 have R:∀(i:Nat) ls,(jB N.length ds)[i]?≠U (.mm ls):=λi ls e=>by
  unfold jB at e;by_cases h:i<(ds.map Sl.im).length;rw[xa h,um]at e;cases h2:ds[i]? with
  |none=>rw[h2]at e;cases e
  |some d=>rw[h2]at e;cases e
  rw[xb zq,getElem?_replicate]at e;split at e<;>cases e
 refine⟨⟨dom,by simp[jB,L2.start,hl],λi s e=>?_⟩,dom,λ_ z=>z,aG.refl H,λi j xs ys p h=>absurd h (I i xs),λi xs p h=>absurd h (I i xs),λi ls h=>absurd h (R i ls)⟩;unfold jB at e;unfold L2.start;by_cases h:i<(ds.map Sl.im).length;rw[xa h,um]at e;cases h2:ds[i]? with
 |none=>rw[h2]at e;cases e
 |some d=>rw[h2]at e;cases e;obtain⟨v,h3,r⟩:=W.get h2;exact⟨v,by rw[xa (by rw[uo]at h ⊢;lia),um,h3];rfl,r⟩
 rw[xb zq,getElem?_replicate]at e;split at e;cases e;trivial;cases e
def xW(k:Option NameKind):vZ k k:=by
 cases k with
 |none=>trivial
 |some k=>cases k<;>first|rfl|trivial|exact .inl rfl
def oV(c:CC)(sc:Scope):Bool:=c.N.all (λx=>!(x == ("__debug__":Str))&&!(x == ("__classdict__":Str)))&&!(bG c "__debug__")
def HN{f:Addr}{cd:Value}{outer:List Env}{E:XK}(hN:c.N=N)(z:c.sc=sc)(fs:ah N ps sc)(hk:oV c sc=Y) (hr:Room lv (A.deeper (envOfC qual sc s.heap.objs.size f cd))) (go:ui CX (nY CX P w K mg base N qual sc f cd A outer s H E).nox c G T lv):XC CX (nY CX P w K mg base N qual sc f cd A outer s H E).nox c G T lv:=by unfold oV at hk;rw[uz,all_eq_true]at hk;refine⟨hN.symm,by rw[hN];exact fs.nd,λx=>?_,λ_ _=>rfl,λx hx=>?_,?_,rfl,hr,go⟩;rw[z];exact xW _;have:=hk.1 x hx;simpa using this;simpa using hk.2
def aBH{f:Addr}{ir:IS}(F:Fun K x qual st f fd)(fs:ah N ps (aH st))(hN:c.N=N)(qu:c.sc=aH st)(hk:oV c (aH st)=Y) (jc:j9 n c (bN st)=U ir) (av:fr=Y->gE ir=Y) (go:∀(X:Cx),X.prog=P->X.w=w->X.K=K->X.mg=mg->X.base=base->ui (gX P w) X c G T lv):FnOk P w K mg base (gX P w) (lv+1) f fd ps (jn K T ps.length (λds=>bL G N.length ir ds) fr):=by
 obtain⟨oc,od,kV,doc,pm,an,az,ct,lj,rfl,lk,ig⟩:=F.ex;refine MS lk ig fs (λvs H Q E h=>h.1) λA outer s H vs Q E hr c7=>?_;obtain⟨hlen,S,ds,dom,rl,R⟩:=c7;have xc:XC (gX P w) (nY (gX P w) P w K mg base N qual (aH st) f az A outer s H E) c G T lv:=(HN (CX:=gX P w) (E:=E) (P:=P) (w:=w) (mg:=mg) (base:=base) (outer:=outer) (s:=s) (H:=H) (f:=f) (cd:=az) (qual:=qual) hN qu fs hk hr (go _ rfl rfl rfl rfl rfl)).re rfl rfl rfl rfl rfl rfl rfl rfl rfl rfl;have xs:XS (gX P w) T (nY (gX P w) P w K mg base N qual (aH st) f az A outer s H E) c (λk H'=>∃C,T.xc k=U C/\E (.ref C) O H'):=by refine⟨fs.kind,PassesOwn.leaving,λy m j p p' q pos hg hc=>?_,λE1 h1=>TJ λcls H' z=>?_,rfl,rfl⟩;rintro pins s1 V H1 D I ⟨C,hT,hE⟩;exact JI (W:=λH'=>E (.ref C) O H') rfl (xc.glob hg) (xc.gne hg) (xc.go.xcl y C hT) (xc.go.xk y C hT) (λpins V H s h' e vs I hm hE=>AL I hm hE) pins s1 V H1 D I hE;obtain⟨k,C,hT,rfl,C',nc,hE⟩:=h1 cls H' z;rw[hT]at nc;cases nc;exact hE
 refine⟨_,(pK (S₀:=S) (H₀:=H) (fr:=fr) n).2 _ c _ ir xc xs jc av,?_⟩;have hs:jB N.length ds=ds.map .im++List.replicate (N.length-ds.length) .un:=rfl;rcases R with ⟨d,hd,q⟩|⟨e,C,he,hT,q⟩;dsimp only at hd;unfold bL at hd;rw[<-hs]at hd;split at hd;rename_i d' ho;cases hd;exact⟨_,_,S,ho,pZ dom rl,λv H' sm r fr'=>q v H' sm r fr'⟩;rename_i B' ho;cases hd;exact⟨_,_,S,ho,pZ dom rl,λS' V' H' si mv=>q .non H' si.same (by unfold Rep;rfl) λ_ ds' z=>by cases z⟩;cases hd;cases hd;dsimp only at he;unfold bL at he;rw[<-hs]at he;split at he;cases he;cases he;rename_i k ho;cases he;exact⟨_,_,S,ho,pZ dom rl,λH' sm=>⟨C,hT,q H' sm⟩⟩;cases he
structure Nm where
 fns:List Str
 cls:List Str
 csts:List Str
 fresh:List Str
noncomputable def Nm.cc(m:Nm)(N:List Str)(sc:Scope)(mus:List Str):CC:=⟨N,sc,m.fns,m.cls,m.csts,mus,m.fresh⟩
def MOk(P:xt)(w:World)(K:xq)(mg:xw)(base:Heap)(CX:aq)(m:Nm)(G:GS)(T:Tx)(lv:Nat):Prop:=∀(X:Cx) (c:CC),X.prog=P->X.w=w->X.K=K->X.mg=mg->X.base=base->c.fns=m.fns->c.cls=m.cls->c.csts=m.csts->c.fresh=m.fresh->ui CX X c G T lv
noncomputable def Nm.addF(m:Nm)(x:Str)(fr:Bool):Nm:={m with fns:=x::m.fns,fresh:=if fr then x::m.fresh else m.fresh}
noncomputable def GS.addF(G:GS)(x:Str)(g:List D->Option Rs)(fr:Bool):GS:={G with fn:=λy=>if y=x then g else G.fn y,ff:=λy=>if y=x then fr else G.ff y,mf:=λcn y=>if y=x then fr else G.mf cn y}
section
variable {P:xt}{w:World}{K:xq}{mg:xw}{base:Heap}{CX:aq}{m:Nm}{G:GS}{T:Tx}{lv:Nat}
theorem contains_cons{l:List Str}:(x::l).contains y=Y->y=x\/l.contains y=Y:=λh=>by rw[List.contains_cons,or_eq_true,vz]at h;exact h
theorem MOk.addF(h:MOk P w K mg base CX m G T lv){f:Addr}{g:List D->Option Rs}(hn:m.fns.contains x=J)(jb:∀cn ds,G.me cn x ds=O)(mw:m.fresh.contains x=J) (hm:mg x=U (.ref f)) (hk:keepIn K (.ref f)=Y) (hb:Binds K fd ps []) (hl:∀ds r,g ds=U r->ds.length=ps.length) (F:FnOk P w K mg base CX (lv+1) f fd ps (jn K T ps.length g fr)):MOk P w K mg base CX (m.addF x fr) (G.addF x g fr) T (lv+1):=by
 intro X c e1 e2 e3 e4 e5 e6 e7 e8 e9;subst e1 e2 e3 e4 e5;have o:=h X {c with fns:=m.fns,fresh:=m.fresh} rfl rfl rfl rfl rfl rfl e7 e8 rfl;refine⟨λy hy=>?_,λcn C mm ds r hT hr=>?_,o.cls,o.fld,λy hy ds d hd=>?_,λy d hd hc=>o.cst y d hd hc,λy hy h1 h2=>?_,o.xcl,λy hy=>?_,o.cx0,o.cxf,o.xns,o.xk,o.sub,λf k x C h1 h2=>let ⟨a,b,c,j,d,e⟩:=o.wd f k x C h1 h2;⟨a,b,c,j,le_succ_of_le d,e⟩,o.dk⟩;rw[e6]at hy;by_cases e:y=x;subst e;refine⟨f,fd,ps,hm,hk,hb,?_,?_⟩;intro ds r hr;simp only[GS.addF,if_true]at hr;exact hl ds r hr;simp only[GS.addF,if_true];exact F;rcases contains_cons hy with z|z;exact absurd z e;obtain⟨I,R,W,a1,a2,a3,a4,a5⟩:=o.fn y z;refine⟨I,R,W,a1,a2,a3,?_,?_⟩;intro ds r hr;simp only[GS.addF,if_neg e]at hr;exact a4 ds r hr;simp only[GS.addF,if_neg e];exact a5.mono (wt _);have bw:mm≠x:=by rintro rfl;have:G.me cn mm ds=U r:=hr;rw[jb]at this;cases this
 obtain⟨I,R,W,a1,a2,a3,a4⟩:=o.me cn C mm ds r hT hr;refine⟨I,R,W,a1,a2,a3,?_⟩;simp only[GS.addF,if_neg bw];exact a4.mono (wt _);obtain⟨C,I,R,W,j,a1,a2⟩:=o.mo y hy ds d hd;exact⟨C,I,R,W,j,le_succ_of_le a1,a2⟩;refine o.bi y hy ?_ h2;rw[e6]at h1;rw[Nm.addF,List.contains_cons,Bool.or_eq_false_iff]at h1;exact h1.2;rw[e9]at hy;by_cases e:y=x;subst e;cases av:fr with
 |true=>exact⟨by simp[GS.addF],λcn=>by simp[GS.addF]⟩
 |false=>exfalso;rw[av]at hy;have:m.fresh.contains y=Y:=hy;rw[mw]at this;cases this
 have:m.fresh.contains y=Y:=by unfold Nm.addF at hy;simp only at hy;split at hy;rcases contains_cons hy with z|z;exact absurd z e;exact z;exact hy
 obtain⟨b1,b2⟩:=o.frs y this;exact⟨by simp only[GS.addF,if_neg e];exact b1,λcn=>by simp only[GS.addF,if_neg e];exact b2 cn⟩
noncomputable def Nm.addM(m:Nm)(x:Str)(fr:Bool):Nm:={m with fresh:=if fr then x::m.fresh else m.fresh}
noncomputable def GS.addM(G:GS)(cn x:Str)(g:List D->Option Rs)(fr:Bool):GS:={G with me:=λc y=>if c=cn/\y=x then g else G.me c y,ff:=λy=>if y=x then fr else G.ff y,mf:=λc y=>if y=x then fr else G.mf c y}
theorem MOk.addM(h:MOk P w K mg base CX m G T lv){f:Addr}{g:List D->Option Rs}(hn:m.fns.contains x=J)(jb:∀cn ds,G.me cn x ds=O)(mw:m.fresh.contains x=J) (hT:T.cl cn=U C) (hm:jj K C x f) (hb:Binds K fd ps []) (hl:∀ds r,g ds=U r->ds.length=ps.length) (F:FnOk P w K mg base CX (lv+1) f fd ps (jn K T ps.length g fr)):MOk P w K mg base CX (m.addM x fr) (G.addM cn x g fr) T (lv+1):=by
 intro X c e1 e2 e3 e4 e5 e6 e7 e8 e9;subst e1 e2 e3 e4 e5;have o:=h X {c with fresh:=m.fresh} rfl rfl rfl rfl rfl e6 e7 e8 rfl;have nfn:∀y,c.fns.contains y=Y->y≠x:=λy hy z=>by subst z;rw[e6]at hy;have i5:m.fns.contains y=Y:=hy;rw[hn]at i5;cases i5
 refine⟨λy hy=>?_,λI C' mm ds r nc hr=>?_,o.cls,o.fld,λy hy ds d hd=>?_,λy d hd hc=>o.cst y d hd hc,λy hy h1 h2=>o.bi y hy h1 h2,o.xcl,λy hy=>?_,o.cx0,o.cxf,o.xns,o.xk,o.sub,λf k x C h1 h2=>let ⟨a,b,c,j,d,e⟩:=o.wd f k x C h1 h2;⟨a,b,c,j,le_succ_of_le d,e⟩,o.dk⟩;have e:=nfn y hy;obtain⟨R,W,cN,a1,a2,a3,a4,a5⟩:=o.fn y hy;refine⟨R,W,cN,a1,a2,a3,a4,?_⟩;simp only[GS.addM,if_neg e];exact a5.mono (wt _);by_cases e:mm=x;subst e;have ec:I=cn:=by by_cases e:I=cn;exact e;simp only[GS.addM,e,false_and,if_false]at hr;rw[jb]at hr;cases hr
 subst ec;rw[hT]at nc;cases nc;refine⟨f,fd,ps,hm,hb,?_,?_⟩;intro ds r hr;simp only[GS.addM,and_self,if_true]at hr;exact hl ds r hr;simp only[GS.addM,and_self,if_true];exact F;simp only[GS.addM,e,and_false,if_false]at hr;obtain⟨R,W,cN,a1,a2,a3,a4⟩:=o.me I C' mm ds r nc hr;refine⟨R,W,cN,a1,a2,?_,?_⟩;intro ds r hr;simp only[GS.addM,e,and_false,if_false]at hr;exact a3 ds r hr;simp only[GS.addM,e,and_false,if_false];exact a4.mono (wt _);obtain⟨C,R,W,cN,j,a1,a2⟩:=o.mo y hy ds d hd;exact⟨C,R,W,cN,j,le_succ_of_le a1,a2⟩;rw[e9]at hy;by_cases e:y=x;subst e;cases av:fr with
 |true=>exact⟨by simp[GS.addM],λcn=>by simp[GS.addM]⟩
 |false=>exfalso;rw[av]at hy;have:m.fresh.contains y=Y:=hy;rw[mw]at this;cases this
 have:m.fresh.contains y=Y:=by unfold Nm.addM at hy;simp only at hy;split at hy;rcases contains_cons hy with z|z;exact absurd z e;exact z;exact hy
 obtain⟨b1,b2⟩:=o.frs y this;exact⟨by simp only[GS.addM,if_neg e];exact b1,λcn=>by simp only[GS.addM,if_neg e];exact b2 cn⟩
def LJ{o:Option Rs}{r:Rs}{ds:List D}(h:(if ds.length=n then o else O)=U r):ds.length=n:=by by_cases e:ds.length=n;exact e;rw[if_neg e]at h;cases h
def MOk.defF(h:MOk P w K mg base (gX P w) m G T lv){f:Addr}{ir:IS}(hn:m.fns.contains x=J)(jb:∀cn ds,G.me cn x ds=O)(R:m.fresh.contains x=J)(hm:mg x=U (.ref f))(hb:Binds K fd ps []) (F:Fun K x x st f fd) (fs:ah N ps (aH st)) (hk:oV (m.cc N (aH st) mus) (aH st)=Y) (W:j9 n (m.cc N (aH st) mus) (bN st)=U ir) (av:fr=Y->gE ir=Y):MOk P w K mg base (gX P w) (m.addF x fr) (G.addF x (λds=>if ds.length=ps.length then bL G N.length ir ds else O) fr) T (lv+1):=by
 refine h.addF hn jb R hm F.kp hb (λds r hr=>LJ hr) ?_;have G1:=aBH (P:=P) (w:=w) (mg:=mg) (base:=base) (T:=T) (lv:=lv) F fs (c:=m.cc N (aH st) mus) rfl rfl hk W av (λX a1 a2 a3 a4 a5=>h X _ a1 a2 a3 a4 a5 rfl rfl rfl rfl);refine⟨λvs H Q E h=>h.1,λA outer s H args us vs Q E hr e0 I hv c7=>G1.run A outer s H args us vs Q E hr e0 I hv ?_⟩;obtain⟨h1,S,ds,dom,z,hc⟩:=c7;refine⟨h1,S,ds,dom,z,?_⟩;have el:ds.length=ps.length:=by rw[z.len];exact h1
 dsimp only at hc;rw[if_pos el]at hc;exact hc
def MOk.defM(h:MOk P w K mg base (gX P w) m G T lv){f:Addr}{ir:IS}(hn:m.fns.contains x=J)(jb:∀cn ds,G.me cn x ds=O)(R:m.fresh.contains x=J)(hT:T.cl cn=U C)(hm:jj K C x f)(hb:Binds K fd ps []) (F:Fun K x qual st f fd) (fs:ah N ps (aH st)) (hk:oV (m.cc N (aH st) mus) (aH st)=Y) (W:j9 n (m.cc N (aH st) mus) (bN st)=U ir) (av:fr=Y->gE ir=Y):MOk P w K mg base (gX P w) (m.addM x fr) (G.addM cn x (λds=>if ds.length=ps.length then bL G N.length ir ds else O) fr) T (lv+1):=by
 refine h.addM hn jb R hT hm hb (λds r hr=>LJ hr) ?_;have G1:=aBH (P:=P) (w:=w) (mg:=mg) (base:=base) (T:=T) (lv:=lv) F fs (c:=m.cc N (aH st) mus) rfl rfl hk W av (λX a1 a2 a3 a4 a5=>h X _ a1 a2 a3 a4 a5 rfl rfl rfl rfl);refine⟨λvs H Q E h=>h.1,λA outer s H args us vs Q E hr e0 I hv c7=>G1.run A outer s H args us vs Q E hr e0 I hv ?_⟩;obtain⟨h1,S,ds,dom,z,hc⟩:=c7;refine⟨h1,S,ds,dom,z,?_⟩;have el:ds.length=ps.length:=by rw[z.len];exact h1
 dsimp only at hc;rw[if_pos el]at hc;exact hc
end
variable {CX:aq}{G:GS}{T:Tx}{lv:Nat}{X:Cx}{c:CC}
noncomputable def aEM:Stmt->Option (List Expr×Expr×Pos)
 |.Assign ts e p=>U (ts,e,p)
 |_=>O
def GZ{s:Stmt}{x:List Expr×Expr×Pos}(h:aEM s=U x):s=.Assign x.1 x.2.1 x.2.2:=by cases s<;>first|exact nomatch (show O=U x from h)|(cases (show U _=U x from h);rfl)
noncomputable def rN(n:Nat)(c:CC):List Stmt->Option (List (Str×IE))
 |[]=>U []
 |st::r=>(aEM st).bind λq=>(one? q.1).bind λt=>(yX t).bind λa=>(nameP a.1).bind λs=>if aZ c s.1 == U 0 then(cE n c q.2.1).bind λy=>(rN n c r).map λz=>(a.2.1,y)::z else O
noncomputable def jx(G:GS)(B:List Sl):List (Str×IE)->Option (List (Str×D))
 |[]=>U []
 | (f,e)::r=>do U ((f,<-ev G e B)::(<-jx G B r))
def IT(G:GS)(cn:Str)(n:Nat)(fs:List (Str×IE))(ds:List D):Option Rs:=(jx G (.un::(ds.map .im++List.replicate (n-1-ds.length) .un)) fs).map λgs=>.ok (.obj cn gs)
theorem xB{f:Str}{v:σ}:∀{gs:List (Str×σ)},f∉gs.map (·.1)->iZ f v gs=gs++[(f,v)]
 |[],_=>rfl
 | (g,x)::r,h=>by simp only[vx,vk,not_or]at h;unfold iZ;rw[if_neg (Ne.symm h.1),xB h.2];rfl
theorem cQ.names:∀{fs:List (Str×D)} {gs:List (Str×σ)},cQ K T H S fs gs->gs.map (·.1)=fs.map (·.1)
 |[],gs,h=>by unfold cQ at h;subst h;rfl
 | (f,d)::fs,gs,h=>by unfold cQ at h;obtain⟨x,r,rfl,_,q⟩:=h;simp[cQ.names q]
theorem cQ.app1{f:Str}{d:D}(rv:Rep K T H S d v):∀{fs:List (Str×D)} {gs:List (Str×σ)},cQ K T H S fs gs->cQ K T H S (fs++[(f,d)]) (gs++[(f,v)])
 |[],gs,h=>by unfold cQ at h;subst h;show cQ K T H S [(f,d)] [(f,v)];unfold cQ;exact⟨v,[],rfl,rv,by unfold cQ;rfl⟩
 | (g,e)::fs,gs,h=>by unfold cQ at h;obtain⟨x,r,rfl,p,q⟩:=h;show cQ K T H S ((g,e)::(fs++[(f,d)])) _;unfold cQ;exact⟨x,r++[(f,v)],rfl,p,cQ.app1 rv q⟩
structure IInv (K:xq) (T:Tx) (S:Addr->Prop) (H₀:Hp) (C p dx:Addr) (B:List Sl) (fs:List (Str×D)) (V:L2.St) (H:Hp):Prop where
 re:RE K T H S B V
 sp:S p
 self:V[0]?=U (U (.ref p))
 at_:∃gs,H p=U (.ins C dx gs)/\cQ K T H S fs gs
 keep:∀b o,b≠p->H₀ b=U o->H b=U o
theorem sT(xc:XC CX X c G T lv){S:Addr->Prop}{H₀:Hp}{C p dx:Addr}{B:List Sl}{n:Nat}(hc:Cls X.K C):∀{body:List Stmt} {is:List (Str×IE)} {gs fs:List (Str×D)},rN n c body=U is->jx G B is=U gs->(∀x∈is,dP X.K C x.1)->((fs++gs).map (·.1)).Nodup->(fs++gs).length<1000 ->PSs X body (λD V H=>IInv X.K T S H₀ C p dx B fs V H/\∀V' H',IInv X.K T S H₀ C p dx B (fs++gs) V' H'->D.nx V' H')
 |[],is,gs,fs,h1,h2,_,_,_=>by simp only[rN,u4]at h1;subst h1;simp only[jx,u4]at h2;subst h2;exactλpins s V H D I ⟨R,q⟩=>CI pins s V H D I (q V H (by rw[vt];exact R))
 |st::body,is,gs,fs,h1,h2,oy,ox,W=>by
  obtain⟨q0,a1,h1⟩:=aE h1;obtain⟨t0,a2,h1⟩:=aE h1;obtain⟨a0,a3,h1⟩:=aE h1;obtain⟨s0,a4,h1⟩:=aE h1;obtain⟨hs,h1⟩:=bA h1;obtain⟨ir,jc,h1⟩:=aE h1;obtain⟨is',his,rfl⟩:=aU h1;have e0:st=.Assign [.Attribute (.Name s0.1 s0.2) a0.2.1 a0.2.2] q0.2.1 q0.2.2:=by rw[GZ a1,dH a2,iS a3,cU a4]
  subst e0;obtain⟨_,e,pe⟩:=q0;obtain⟨_,f,pf⟩:=a0;obtain⟨s,ps⟩:=s0;clear a1 a2 a3 a4;simp only[jx,ur,u7,u4]at h2;obtain⟨d,hd,gs',ju,rfl⟩:=h2;have gz:aZ c s=U 0:=vz.mp hs;have ih:=sT xc (S:=S) (H₀:=H₀) (p:=p) (dx:=dx) hc (fs:=fs++[(f,d)]) his ju (λx hx=>oy x (ux _ hx)) (by simpa using ox) (by simpa using W);intro pins s1 V H DD I ⟨R,q⟩;refine xD (aAz (fJ xc gz) ((cM n).1 X c S B e ir xc jc d hd).1 ?_) ih pins s1 V H DD I ⟨R.re,λv H' sm r=>⟨.ref p,R.self,?_⟩⟩;cases e<;>rfl
  obtain⟨ys,hy,rf⟩:=R.at_;have hX:f∉ys.map (·.1):=by rw[rf.names];have:=ox;simp only[x5,vx]at this;rw[nodup_append]at this;intro z;exact this.2.2 f z f zv rfl
  have hl:ys.length<1000:=by have e1:=congrArg List.length rf.names;simp only[uo]at e1;rw[e1];simp only[vp,wz]at W;lia
  refine⟨p,C,dx,ys,rfl,sm _ _ hy,hc,oy (f,ir) zv,hl,?_⟩;rw[xB hX];have mv:aO X.K H' (upd H' p (.ins C dx (ys++[(f,v)]))) S S:=λa na _=>⟨na,λo e=>by rw[aS (λz=>na (by rw[z];exact R.sp))];exact e⟩;have rf':cQ X.K T H' S fs ys:=cQ.gen (aO.same sm) _ _ rf;refine⟨⟨?_,R.sp,R.self,⟨_,aW,cQ.gen mv _ _ (cQ.app1 r rf')⟩,λb o hb e=>by rw[aS hb];exact sm _ _ (R.keep b o hb e)⟩,λV' H2 iv2=>q V' H2 (by simpa using iv2)⟩;refine(R.re.same sm).gen mv (λa xs z e hm=>⟨z,?_⟩) λa z=>?_;rw[aS];exact e;rintro rfl;rw[sm _ _ hy]at e;cases e;obtain⟨d',hm⟩:=hm;rcases hm with ⟨_,_,_,z,_⟩|⟨_,_,_,z,_⟩<;>cases z
  by_cases e:a=p;exact⟨.ins C dx (ys++[(f,v)]),by rw[e];exact aW⟩;obtain⟨o,e2⟩:=(R.re.same sm).dom a z;exact⟨o,by rw[aS e];exact e2⟩
variable {CX:aq}{G:GS}{T:Tx}{lv:Nat}
theorem sX{B:List Sl}:∀{is:List (Str×IE)} {gs:List (Str×D)},jx G B is=U gs->gs.map (·.1)=is.map (·.1)
 |[],gs,h=>by simp only[jx,u4]at h;subst h;rfl
 | (f,e)::r,gs,h=>by simp only[jx,ur,u7,u4]at h;obtain⟨d,_,z,h2,rfl⟩:=h;simp[sX h2]
def zI{ds:List D}{p:Addr}{ws:List σ}(dom:∀a,S a->∃o,H a=U o)(z:aD K T H S ds ws)(hN:ws.length+1<=N.length):RE K T H S (.un::(ds.map .im++List.replicate (N.length-1-ds.length) .un)) (L2.start N (.ref p::ws)):=by
 have hl:=z.len;refine⟨dom,by simp[L2.start,hl];lia,λi s e=>?_⟩;cases i with
 |zero=>cases e;trivial
 |succ i=>
  rw[getElem?_cons_succ]at e;unfold L2.start;rw[vx,List.cons_append,getElem?_cons_succ];by_cases h:i<(ds.map Sl.im).length;rw[xa h,um]at e;cases h2:ds[i]? with
  |none=>rw[h2]at e;cases e
  |some d=>rw[h2]at e;cases e;obtain⟨v,h3,r⟩:=z.get h2;exact⟨v,by rw[xa (by rw[uo]at h ⊢;lia),um,h3];rfl,r⟩
  rw[xb zq,getElem?_replicate]at e;split at e;cases e;trivial;cases e
def VA{f:Addr}{is:List (Str×IE)}(F:Fun K x qual st f fd)(fs:ah N ps (aH st))(hN:c.N=N)(qu:c.sc=aH st)(hk:oV c (aH st)=Y) (jc:rN n c (bN st)=U is) (hT:T.cl cn=U C) (aT:Cls K C) (oy:∀x∈is,dP K C x.1) (ox:(is.map (·.1)).Nodup) (hlen:is.length<1000) (go:∀(X:Cx),X.prog=P->X.w=w->X.K=K->X.mg=mg->X.base=base->ui CX X c G T lv):FnOk P w K mg base CX (lv+1) f fd ps (ZZ K T C ps.length (IT G cn N.length is)):=by
 obtain⟨oc,od,kV,doc,pm,an,az,ct,lj,rfl,lk,ig⟩:=F.ex;refine MS lk ig fs (λvs H Q E h=>h.1) λA outer s H vs Q E hr c7=>?_;obtain⟨hl,p,dx,ws,S,ds,d,rfl,hp,sp,dom,rl,hg,q⟩:=c7;have xc:=HN (E:=E) (P:=P) (w:=w) (mg:=mg) (base:=base) (outer:=outer) (s:=s) (H:=H) (f:=f) (cd:=az) (qual:=qual) hN qu fs hk hr (go _ rfl rfl rfl rfl rfl);unfold IT at hg;simp only[v9]at hg;obtain⟨gs,ju,hg⟩:=hg;cases hg;have R:=sX ju;have l9:ps.length<=N.length:=by have:=congrArg List.length fs.pre;rw[w9]at this;lia
 refine⟨_,PSs.nox (sT xc (S:=S) (H₀:=H) (C:=C) (p:=p) (dx:=dx) (fs:=[]) aT jc ju oy (by rw[nil_append,R];exact ox) (by rw[nil_append];have:=congrArg List.length R;simp only[uo]at this;lia)),?_,?_⟩;exact⟨zI dom rl (by simp only[wz]at hl;lia),sp,rfl,⟨[],hp,by unfold cQ;rfl⟩,λb o _ e=>e⟩;intro V' H' W;obtain⟨ys,hy,rf⟩:=W.at_;refine q H' W.keep λS' I=>?_;unfold Rep;exact⟨p,C,dx,ys,rfl,λz=>(I p z).2 rfl,hT,hy,cQ.gen (aO.mk (λa z=>(I a z).1) λb o _ e=>e) _ _ rf⟩
def PV(K:xq)(T:Tx)(mg:xw)(x:Str)(d:D):Prop:=∃u v,mg x=U u/\RelV v u/\∀(H:Hp) (S:Addr->Prop),(∀a o,K.lookup a=U o->H a=O)->(∀a,S a->∃o,H a=U o)->Rep K T H S d v
def G0(csts:List (Str×D))(fl:Str->List Str)(sub:Str->Str->Bool)(xn:Str->Bool)(wd:Str->Str->Option Str)(z:List (Str×List (Str×D)):=[]):GS:={fn:=λ_ _=>O,ff:=λ_=>J,me:=λ_ _ _=>O,mf:=λ_ _=>J,mo:=λ_ _=>O,cst:=λx=>csts.lookup x,sub:=sub,fl:=fl,xn:=xn,wd:=wd,dk:=λx=>z.lookup x}
def aFt{cls:List Str}{csts:List (Str×D)}{fl:Str->List Str}{sub:Str->Str->Bool}{xn:Str->Bool}{wd:Str->Str->Option Str}{R:List (Str×List (Str×D))}(hc:∀x d,csts.lookup x=U d->PV K T mg x d)(aT:∀cn C,T.cl cn=U C->Cls K C)(dy:∀cn C f,T.cl cn=U C->(fl cn).contains f=Y->dP K C f) (hbi:∀x,fT.contains x=Y->mg x=O) (hx:∀x C,T.xc x=U C->mg x=U (.ref C)) (W:∀k,xn k=Y->∃C,T.xc k=U C) (hxk:∀k C,T.xc k=U C->excIn K C nv "ValueError.__new__"=Y) (I:∀k k' C C',T.xc k=U C->T.xc k'=U C'->sub k k'=Y->qJ K C (.ref C')=Y) (hwd:∀f k x C,T.xc k=U C->wd f k=U x->∃fa fd ps j,j<=lv/\mg f=U (.ref fa)/\keepIn K (.ref fa)=Y/\Binds K fd ps []/\FnM P w K mg base j fa fd ps (spW C x)) (hdk:∀x kvs,R.lookup x=U kvs->∃a,mg x=U (.ref a)/\∀X:Cx,X.prog=P->X.w=w->X.K=K->aES X T a kvs:=by intro x kvs h;cases h):MOk P w K mg base (gX P w) ⟨[],cls,csts.map (·.1),[]⟩ (G0 csts fl sub xn wd R) T lv:=by intro X c e1 e2 e3 e4 e5 e6 e7 e8 e9;subst e1 e2 e3 e4 e5;refine⟨λx hx=>?_,λcn C m ds r _ hr=>(by cases hr),aT,dy,λx _ ds d hd=>(by cases hd),λx d hd _=>hc x d hd,λx hx _ _=>hbi x hx,hx,λx hx=>?_,XG,λ_ _ _ _ _ _ z=>z,W,hxk,I,hwd,λx kvs h=>let ⟨a,h1,h2⟩:=hdk x kvs h;⟨a,h1,h2 X rfl rfl rfl⟩⟩;rw[e6]at hx;simp at hx;rw[e9]at hx;simp at hx
noncomputable def GS.addC(G:GS)(x:Str)(g:List D->Option Rs):GS:={G with mo:=λy=>if y=x then g else G.mo y}
theorem MOk.addC{m:Nm}(h:MOk P w K mg base CX m G T lv){f:Addr}{g:List D->Option Rs}(hm:mg x=U (.ref C))(M:Mk K C f)(hb:Binds K fd ps [])(hl:∀ds d,g ds=U (.ok d)->ds.length+1=ps.length) (F:FnOk P w K mg base CX lv f fd ps (ZZ K T C ps.length g)):MOk P w K mg base CX m (G.addC x g) T (lv+1):=by intro X c e1 e2 e3 e4 e5 e6 e7 e8 e9;subst e1 e2 e3 e4 e5;have o:=h X c rfl rfl rfl rfl rfl e6 e7 e8 e9;refine⟨λy hy=>?_,λcn C mm ds r hT hr=>?_,o.cls,o.fld,λy hy ds d hd=>?_,λy d hd hc=>o.cst y d hd hc,λy hy h1 h2=>o.bi y hy h1 h2,o.xcl,o.frs,o.cx0,o.cxf,o.xns,o.xk,o.sub,λf k x C h1 h2=>let ⟨a,b,c,j,d,e⟩:=o.wd f k x C h1 h2;⟨a,b,c,j,le_succ_of_le d,e⟩,o.dk⟩;obtain⟨z,I,R,W,a2,a3,a4,a5⟩:=o.fn y hy;exact⟨z,I,R,W,a2,a3,a4,a5.mono (wt _)⟩;obtain⟨z,I,R,W,a2,a3,a4⟩:=o.me cn C mm ds r hT hr;exact⟨z,I,R,W,a2,a3,a4.mono (wt _)⟩;by_cases e:y=x;subst e;simp only[GS.addC,if_true]at hd ⊢;exact⟨C,f,fd,ps,lv,uq _,hm,M,hb,hl ds d hd,F⟩;simp only[GS.addC,if_neg e]at hd ⊢;obtain⟨C',z,I,R,j,W,a2⟩:=o.mo y hy ds d hd;exact⟨C',z,I,R,j,le_succ_of_le W,a2⟩
def MOk.defC{m:Nm}(h:MOk P w K mg base CX m G T lv){f:Addr}{is:List (Str×IE)}(hm:mg x=U (.ref C))(M:Mk K C f)(hb:Binds K fd ps []) (F:Fun K "__init__" qual st f fd) (fs:ah N ps (aH st)) (hk:oV (m.cc N (aH st) mus) (aH st)=Y) (jc:rN n (m.cc N (aH st) mus) (bN st)=U is) (hT:T.cl x=U C) (aT:Cls K C) (oy:∀x∈is,dP K C x.1) (ox:(is.map (·.1)).Nodup) (hlen:is.length<1000):MOk P w K mg base CX m (G.addC x λds=>if ds.length+1=ps.length then IT G x N.length is ds else O) T (lv+2):=by
 have G1:=VA (CX:=CX) (P:=P) (w:=w) (mg:=mg) (base:=base) (T:=T) (lv:=lv) F fs (c:=m.cc N (aH st) mus) rfl rfl hk jc hT aT oy ox hlen (λX z a2 a3 a4 a5=>h X _ z a2 a3 a4 a5 rfl rfl rfl rfl);have h':MOk P w K mg base CX m G T (lv+1):=by intro X c e1 e2 e3 e4 e5 e6 e7 e8 e9;subst e1 e2 e3 e4 e5;have o:=h X c rfl rfl rfl rfl rfl e6 e7 e8 e9;refine⟨λy hy=>?_,λcn C mm ds r hT hr=>?_,o.cls,o.fld,λy hy ds d hd=>?_,λy d hd hc=>o.cst y d hd hc,λy hy h1 h2=>o.bi y hy h1 h2,o.xcl,o.frs,o.cx0,o.cxf,o.xns,o.xk,o.sub,λf k x C h1 h2=>let ⟨a,b,c,j,d,e⟩:=o.wd f k x C h1 h2;⟨a,b,c,j,le_succ_of_le d,e⟩,o.dk⟩;obtain⟨I,R,W,z,a2,a3,a4,a5⟩:=o.fn y hy;exact⟨I,R,W,z,a2,a3,a4,a5.mono (wt _)⟩;obtain⟨I,R,W,z,a2,a3,a4⟩:=o.me cn C mm ds r hT hr;exact⟨I,R,W,z,a2,a3,a4.mono (wt _)⟩;obtain⟨C',I,R,W,j,z,a2⟩:=o.mo y hy ds d hd;exact⟨C',I,R,W,j,le_succ_of_le z,a2⟩
 refine h'.addC hm M hb (λds d hd=>?_) ?_;by_cases e:ds.length+1=ps.length;exact e;rw[if_neg e]at hd;cases hd;refine⟨λvs H Q E h=>h.1,λA outer s H args us vs Q E hr e0 sj hv c7=>G1.run A outer s H args us vs Q E hr e0 sj hv ?_⟩;obtain⟨h1,p,dx,ws,S,ds,d,e1,h2,h3,h4,h5,h6,h7⟩:=c7;refine⟨h1,p,dx,ws,S,ds,d,e1,h2,h3,h4,h5,?_,h7⟩;have el:ds.length+1=ps.length:=by by_cases e:ds.length+1=ps.length;exact e;dsimp only at h6;rw[if_neg e]at h6;cases h6
 dsimp only at h6;rw[if_pos el]at h6;exact h6
section
variable {X:Cx}
theorem BS:∀{bs:List Bool} {its:List Value},aY (bs.map σ.bl) its->its=bs.map Value.bool
 |[],its,h=>by cases h;rfl
 |b::bs,its,h=>by
  cases h with
  |cons h1 h2=>obtain rfl:=h1;rw[BS h2];rfl
noncomputable def eqT:Value->Bool
 |.bool a=>a == Y
 |_=>J
theorem aEC:∀bs:List Bool,(bs.map Value.bool).countP eqT=bs.count Y
 |[]=>rfl
 |b::bs=>by rw[vx,List.countP_cons,List.count_cons,aEC bs];cases b<;>rfl
def aCZ:σ->List σ->Hp->VK->Prop:=λx vs H Q=>∃(l:Addr) (bs:List Bool),x=.ref l/\vs=[.bl Y]/\H l=U (.lst (bs.map σ.bl))/\Q (.int (bs.count Y)) H
def aBn:ue X "list.count" aCZ:=by
 intro pins s V H x vs v us Q I R rv h;obtain⟨l,bs,rfl,rfl,hH,q⟩:=h;cases R;obtain⟨u,rfl,ru⟩:=rv.one;obtain rfl:u=.bool Y:=ru;obtain⟨z,its,n,r,hl,e⟩:=I.lstM hH;have hi:=BS r;subst hi;refine call_meets PySem.F.slot_list_count ⟨_,e,rfl⟩ PySem.F.entry_list_count (PySem.F.args_list_count_2 _ _) (SeqAt.list_countAt l (bs.map Value.bool).toArray n O #[] (.bool Y) eqT) ⟨e,λy hy=>?_,?_⟩;have W:y∈bs.map Value.bool:=by simpa using hy
 obtain⟨b,_,rfl⟩:=w4.mp W;exact SeqAt.EqAt.bool_bool b Y;refine⟨.int (bs.count Y),H,I.tok _,⟨s.toks,?_⟩,q⟩;rw[<-aEC bs]
end
noncomputable def lC(p:Nat->Pos)(k:Nat)(y:Str):Expr:=.Call (.Name "isinstance" (p k)) [.Name "e" (p (k+1)),.Name y (p (k+2))] [] (p (k+3))
noncomputable def gQ:List Str:=["NoSheet","NoFold","NoPlace","Ajar","Severed","Bolted","Loose","NoWord"]
section
variable {X:Cx}{p:Nat->Pos}
def ZI(K:xq)(c:Value):TE:=λV H Q=>∃a C b,V[0]?=U (U (.ref a))/\H a=U (.ext (isExc a C))/\XcK K C/\kitOne K (.ref C) c=U b/\Q (.bl b) H
def yR{c:Value}(rc:∀u,RelV v u->u=c):eU X (.builtin "isinstance") (λxs H Q=>∃a C b,xs=[.ref a,v]/\H a=U (.ext (isExc a C))/\XcK X.K C/\kitOne X.K (.ref C) c=U b/\Q (.bl b) H):=by
 rintro pins s V H xs us Q I r ⟨a,C,b,rfl,hx,F,hk,q⟩;cases r with
 |cons r1 R=>
  cases R with
  |cons R W=>cases W;obtain rfl:=r1;have ec:=rc _ R;subst ec;obtain⟨h1,_,_⟩:=I.hok a _ hx;exact kia_one (LM F) I.kIn h1 hk (λz=>by cases z) λtk=>⟨.bl b,H,I.tok tk,rfl,q⟩
def tJ:bootBuiltins "isinstance"=U (.builtin "isinstance"):=zt
def aEE:bootBuiltins "ValueError"=U (.type "ValueError"):=zt
structure WX (X:Cx) (cs:Str->Addr):Prop where
 N:X.N=(["e","kinds"]:List Str)
 le:X.env.kindOf "e"=U .local
 lk:X.env.kindOf "kinds"=U .local
 gi:Gl X "isinstance"
 gv:Gl X "ValueError"
 gx:∀y∈gQ,Gl X y
 mi:X.mg "isinstance"=O
 mv:X.mg "ValueError"=O
 mx:∀y∈gQ,X.mg y=U (.ref (cs y))
variable {cs:Str->Addr}
def aDg(W:WX X cs){q:Pos}:PE X (.Name "e" q) (EL 0):=uC (by rw[W.N];rfl) (.inl W.le) zt zt
def aDf(W:WX X cs){q:Pos}:PE X (.Name "kinds" q) (EL 1):=uC (by rw[W.N];rfl) (.inl W.lk) zt zt
def uD(W:WX X cs){k:Nat}(hy:y∈gQ):PE X (lC p k y) (ZI X.K (.ref (cs y))):=by
 have hd:(y == ("__debug__":Str))=J:=by
  have:gQ.all (λy=>!(y == ("__debug__":Str)))=Y:=zt
  have:=all_eq_true.mp this y hy;simpa using this
 refine PE.mono (dX (yR (v:=.ref (cs y)) λu h=>h) W.gi W.mi tJ (bT (aDg W) (bT (TC (v:=.ref (cs y)) (W.gx y hy) (W.mx y hy) rfl hd) fN)) zt zt rfl rfl) λV H Q z=>?_;obtain⟨a,C,b,h1,h2,h3,I,q⟩:=z;exact⟨.ref a,h1,a,C,b,rfl,h2,h3,I,q⟩
def aAF(W:WX X cs){k:Nat}:PE X (lC p k "ValueError") (ZI X.K (.type "ValueError")):=by refine PE.mono (dX (yR (v:=.ty "ValueError") λu h=>h) W.gi W.mi tJ (bT (aDg W) (bT (CP (v:=.ty "ValueError") W.gv W.mv aEE rfl zt zt) fN)) zt zt rfl rfl) λV H Q z=>?_;obtain⟨a,C,b,h1,h2,h3,I,q⟩:=z;exact⟨.ref a,h1,a,C,b,rfl,h2,h3,I,q⟩
def IF(K:xq)(c1 c2 c3 W:Value):TE:=λV H Q=>∃a C R b2 I z,V[0]?=U (U (.ref a))/\H a=U (.ext (isExc a C))/\XcK K C/\kitOne K (.ref C) c1=U R/\kitOne K (.ref C) c2=U b2/\kitOne K (.ref C) c3=U I/\kitOne K (.ref C) W=U z/\∀l,H l=O->Q (.ref l) (upd H l (.lst ([R,b2,I,z].map σ.bl)))
def CM(W:WX X cs){k1 k2 k3 k4:Nat}{q:Pos}{R y2 y3 I:Str}(h1:R∈gQ)(h2:y2∈gQ)(h3:y3∈gQ)(h4:I∈gQ):PE X (.List [lC p k1 R,lC p k2 y2,lC p k3 y3,lC p k4 I] q) (IF X.K (.ref (cs R)) (.ref (cs y2)) (.ref (cs y3)) (.ref (cs I))):=PE.mono (JP (bT (uD W h1) (bT (uD W h2) (bT (uD W h3) (bT (uD W h4) fN))))) λV H Q hh=>by obtain⟨a,C,b1,b2,b3,b4,e1,e2,z,f1,f2,f3,f4,q⟩:=hh;exact⟨a,C,b1,e1,e2,z,f1,a,C,b2,e1,e2,z,f2,a,C,b3,e1,e2,z,f3,a,C,b4,e1,e2,z,f4,by show 4<=sizeLine;rw[sizeLine_eq];decide,q⟩
def oP(h:gQ[i]?=U y):y∈gQ:=u6 h
section
variable (p)
abbrev wS1:Stmt:=.Assign [.Name "kinds" (p 0)] (.List [lC p 1 "NoSheet",lC p 5 "NoFold",lC p 9 "NoPlace",lC p 13 "Ajar"] (p 17)) (p 18)
abbrev wS2:Stmt:=.Assign [.Name "kinds" (p 19)] (.BinOp (.Name "kinds" (p 20)) .Add (.List [lC p 21 "Severed",lC p 25 "Bolted",lC p 29 "Loose",lC p 33 "NoWord"] (p 37)) (p 38)) (p 39)
abbrev wC1:Expr:=.Call (.Attribute (.Name "kinds" (p 40)) "count" (p 41)) [.Constant (.bool Y) 0 (p 42)] [] (p 43)
abbrev wT3:Expr:=.BoolOp .Or [.Compare (wC1 p) [.NotEq] [.Constant (.int 1) 0 (p 44)] (p 45),.UnaryOp .Not (lC p 46 "ValueError") (p 50)] (p 51)
end
def w1(W:WX X cs):PS X (wS1 p) (QJ (IF X.K (.ref (cs "NoSheet")) (.ref (cs "NoFold")) (.ref (cs "NoPlace")) (.ref (cs "Ajar"))) (sU 1)):=mW (i:=1) (by rw[W.N];decide +kernel) (by rw[W.N];rfl) (.inl W.lk) (CM W (oP (i:=0) rfl) (oP (i:=1) rfl) (oP (i:=2) rfl) (oP (i:=3) rfl)) rfl (.inr W.lk)
def w2(W:WX X cs):PS X (wS2 p) (QJ (ka aDb (EL 1) (IF X.K (.ref (cs "Severed")) (.ref (cs "Bolted")) (.ref (cs "Loose")) (.ref (cs "NoWord")))) (sU 1)):=mW (i:=1) (by rw[W.N];decide +kernel) (by rw[W.N];rfl) (.inl W.lk) (WT JZ (aDf W) (CM W (oP (i:=4) rfl) (oP (i:=5) rfl) (oP (i:=6) rfl) (oP (i:=7) rfl))) rfl (.inr W.lk)
def w3(W:WX X cs)(z:((p 41).endLine == (p 43).line)=Y):PT X (wT3 p) (tOr (ID (ka rNe (tBM X.K "list" aCZ (EL 1) (WM (tC (.bl Y)) ZH)) (tC (.int 1)))) (aCx (tB (ZI X.K (.type "ValueError"))))):=PW.pt (JB (CH aDh (xH plainAttrs_list PySem.F.slot_list_count PySem.F.type_list_count aBn (aDf W) (bT WU fN) rfl rfl z) JQ (aBa _)) (JA (JH (aAv (aAF W)))))
end
end Z
namespace Toy
open PySem PySem.Spec PyProof.Rows L2 Z
variable {g:GS}{ds:List D}{C:Str->Addr}{x m:Str}{st:Stmt}{ps:List Str}{fd:xr}{K:xq}{t c:Nat}{h:Heap}{mg:xw}{T:Tx}
noncomputable def nT:Str->List Str:=λc=>if c="Spot" then ["place","turned","lane","slanted","depth"] else if c="Strand" then ["first","second","here","there","track"] else []
noncomputable def jg:List Str:=["Spot","Strand"]
noncomputable def csts:List (Str×D):=[]
noncomputable def iy:List Str:=[]
def aCB:Str->Str->Bool:=λk k'=>iy.contains k&&(k' == "LeafError" || k == k')
noncomputable def wdX:Str->Str->Option Str:=λ_ _=>O
def m0:Nm:=⟨[],(["Spot","Strand"]:List Str),csts.map (·.1),[]⟩
def g0:GS:=G0 csts nT aCB (λk=>iy.contains k) wdX
abbrev Rd(z:List Str)(m:Nm)(N:List Str)(st:Stmt)(i:IS):Prop:=j9 60 (m.cc N (aH st) z) (bN st)=U i
abbrev Ok(z:List Str)(m:Nm)(N:List Str)(st:Stmt):Prop:=oV (m.cc N (aH st) z) (aH st)=Y
def sK{N P:List Str}{sc:Scope}(a:sc.kind=.function:=by rfl)(b:sc.isCoroutine=J:=by rfl)(c:sc.isGenerator=J:=by rfl)(d:N.Nodup:=by decide +kernel)(e:N.take P.length=P:=by rfl)(f:∀x∈P,sc.names.lookup x=U .local\/sc.names.lookup x=U .cell:=by decide +kernel)(h:∀y∈sc.names,y.2≠.free:=by decide +kernel):ah N P sc:=⟨a,b,c,d,e,f,h⟩
def fD(k:Nat)(g:GS)(n:Nat)(i:IS)(ds:List D):Option Rs:=if ds.length=k then bL g n i ds else O
def dD{k:Nat}{n:Nat}{i:IS}(h:ds.length=k):fD k g n i ds=bL g n i ds:=if_pos h
def g1:GS:=g0
def m1:Nm:=m0
noncomputable def qP:List (Str×IE):=[("place",.v 1),("turned",.v 2),("lane",.v 3),("slanted",.v 4),("depth",.v 5)]
def aAj:rN 60 (m1.cc (["self","place","turned","lane","slanted","depth"]:List Str) (aH (L2.inClass (top 3) 0)) []) (bN (L2.inClass (top 3) 0))=U qP:=zr
def BB(ds:List D):Option Rs:=if ds.length+1=6 then IT g1 "Spot" 6 qP ds else O
def g2:GS:=g1.addC "Spot" BB
def m2:Nm:=m1
noncomputable def iV:List Str:=["self"]
abbrev lI:List Str:=iV
def zT:Rd [] m2 iV (L2.inClass (top 3) 1) K08.DE:=zr
def zM:ah iV lI (aH (L2.inClass (top 3) 1)):=sK
def zZ:Ok [] m2 iV (L2.inClass (top 3) 1):=zt
def cY:=fD 1 g2 1 K08.DE
def zC:ds.length=1->cY ds=bL g2 1 K08.DE ds:=dD
def g3:GS:=g2.addM "Spot" zg cY J
def m3:Nm:=m2.addM zg J
noncomputable def gO:List Str:=["self"]
abbrev jP:List Str:=gO
def wZ:Rd [] m3 gO (L2.inClass (top 3) 2) K08.pN:=zr
def wU:ah gO jP (aH (L2.inClass (top 3) 2)):=sK
def xM:Ok [] m3 gO (L2.inClass (top 3) 2):=zt
def dM:=fD 1 g3 1 K08.pN
def wG:ds.length=1->dM ds=bL g3 1 K08.pN ds:=dD
def g4:GS:=g3.addM "Spot" ze dM J
def m4:Nm:=m3.addM ze J
noncomputable def gB:List (Str×IE):=[("first",.v 1),("second",.v 2),("here",.v 4),("there",.v 5),("track",.tup (.cons (.v 3) (.cons (.meth (.v 4) zg .nil) (.cons (.fld (.v 4) "lane") .nil))))]
def IZ:rN 60 (m4.cc (["self","first","second","level","here","there"]:List Str) (aH (L2.inClass (top 4) 0)) []) (bN (L2.inClass (top 4) 0))=U gB:=zr
def qZ(ds:List D):Option Rs:=if ds.length+1=6 then IT g4 "Strand" 6 gB ds else O
def g5:GS:=g4.addC "Strand" qZ
def m5:Nm:=m4
noncomputable def kM:List Str:=["self"]
abbrev oG:List Str:=kM
def FD:Rd [] m5 kM (L2.inClass (top 4) 1) K08.uV:=zr
def EZ:ah kM oG (aH (L2.inClass (top 4) 1)):=sK
def FP:Ok [] m5 kM (L2.inClass (top 4) 1):=zt
def fW:=fD 1 g5 1 K08.uV
def EG:ds.length=1->fW ds=bL g5 1 K08.uV ds:=dD
def g6:GS:=g5.addM "Strand" zi fW J
def m6:Nm:=m5.addM zi J
noncomputable def kN:List Str:=["self"]
abbrev oH:List Str:=kN
def FE:Rd [] m6 kN (L2.inClass (top 4) 2) K08.vC:=zr
def FA:ah kN oH (aH (L2.inClass (top 4) 2)):=sK
def FQ:Ok [] m6 kN (L2.inClass (top 4) 2):=zt
def hV:=fD 1 g6 1 K08.vC
def EH:ds.length=1->hV ds=bL g6 1 K08.vC ds:=dD
def g7:GS:=g6.addM "Strand" zh hV J
def m7:Nm:=m6.addM zh J
def NZ:=fD 2 g7 5 Pg.iJ
def g8:GS:=g7.addF yu NZ J
def m8:Nm:=m7.addF yu J
def YE:=fD 2 g8 6 K08.qU
def g9:GS:=g8.addF yo YE J
def m9:Nm:=m8.addF yo J
def YB:=fD 4 g9 17 K08.nL
def g10:GS:=g9.addF yp YB J
def m10:Nm:=m9.addF yp J
def XY:=fD 1 g10 2 K08.uU
def g11:GS:=g10.addF y7 XY J
def m11:Nm:=m10.addF y7 J
def NX:=fD 2 g11 4 K08.qQ
def g12:GS:=g11.addF zd NX J
def m12:Nm:=m11.addF zd J
def OA:=fD 2 g12 2 K08.nM
def g13:GS:=g12.addF yq OA J
def m13:Nm:=m12.addF yq J
def aBR:=fD 2 g13 4 K08.nP
def pq:GS:=g13.addF yb aBR J
def m14:Nm:=m13.addF yb J
def XW:=fD 2 pq 2 K08.vA
def g15:GS:=pq.addF zk XW J
def m15:Nm:=m14.addF zk J
def aEv:=fD 1 g15 4 K08.nN
def ni:GS:=g15.addF xy aEv J
def m16:Nm:=m15.addF xy J
def NS:=fD 5 ni 8 K08.uZ
def g17:GS:=ni.addF "fault" NS J
def m17:Nm:=m16.addF "fault" J
def aBO:=fD 2 g17 2 Pg.nO
def g18:GS:=g17.addF yd aBO J
def m18:Nm:=m17.addF yd J
def OB:=fD 1 g18 1 Pg.uT
def g19:GS:=g18.addF yt OB J
def m19:Nm:=m18.addF yt J
def aBQ:=fD 1 g19 3 Pg.gC
def aEV:ds.length=1->aBQ ds=bL g19 3 Pg.gC ds:=dD
def g20:GS:=g19.addF ya aBQ J
def m20:Nm:=m19.addF ya J
def NY:=fD 2 g20 2 Pg.uX
def g21:GS:=g20.addF zb NY J
def m21:Nm:=m20.addF zb J
def NV:=fD 5 g21 13 Pg.pO
def tm:GS:=g21.addF y8 NV J
def m22:Nm:=m21.addF y8 J
def VC:=fD 2 tm 7 Pg.hG
def aEU:ds.length=2->VC ds=bL tm 7 Pg.hG ds:=dD
def g23:GS:=tm.addF yg VC J
def m23:Nm:=m22.addF yg J
def aBP:=fD 3 g23 6 Pg.kC
def g24:GS:=g23.addF yf aBP J
def m24:Nm:=m23.addF yf J
def XX:=fD 1 g24 6 K08.uY
def g25:GS:=g24.addF yw XX J
def m25:Nm:=m24.addF yw J
def NU:=fD 2 g25 4 K08.AS
def g26:GS:=g25.addF za NU J
def m26:Nm:=m25.addF za J
def DI:=fD 2 g26 2 K08.AV
def g27:GS:=g26.addF y9 DI J
def m27:Nm:=m26.addF y9 J
def aBS:=fD 2 g27 2 K08.AW
def tj:GS:=g27.addF xx aBS J
def m28:Nm:=m27.addF xx J
def NW:=fD 3 tj 3 K08.AU
def g29:GS:=tj.addF zc NW J
def m29:Nm:=m28.addF zc J
def OC:=fD 4 g29 7 K08.uW
def g30:GS:=g29.addF yx OC J
def m30:Nm:=m29.addF yx J
def aBM:=fD 2 g30 2 K08.qT
def g31:GS:=g30.addF yh aBM J
def m31:Nm:=m30.addF yh J
def OD:=fD 2 g31 2 K08.vB
def g32:GS:=g31.addF yr OD J
def m32:Nm:=m31.addF yr J
def aBN:=fD 2 g32 2 K08.nK
def g33:GS:=g32.addF yc aBN J
def m33:Nm:=m32.addF yc J
def YD:=fD 3 g33 6 K08.qS
def sE:GS:=g33.addF yj YD J
def m34:Nm:=m33.addF yj J
def YC:=fD 4 sE 12 K08.jJ
def g35:GS:=sE.addF yk YC J
def m35:Nm:=m34.addF yk J
def YA:=fD 4 g35 8 K08.uS
def g36:GS:=g35.addF yv YA J
def m36:Nm:=m35.addF yv J
def aEu:=fD 3 g36 9 K08.qR
def j7:GS:=g36.addF yi aEu J
def m37:Nm:=m36.addF yi J
def NT:=fD 4 j7 14 K08.MB
def g38:GS:=j7.addF zf NT J
def m38:Nm:=m37.addF zf J
def XZ:=fD 2 g38 3 K08.kD
def f9:GS:=g38.addF yz XZ J
def qk:Nm:=m38.addF yz J
noncomputable def DY:List Str:=["script",zj,"rows","spots","cells","cell","wide","high","way","heaps","handed","found"]
noncomputable def yZ:List Str:=["script"]
def aCT:Rd [] qk DY (top 37) K08.DC:=zr
def aCJ:ah DY yZ (aH (top 37)):=sK
def aDr:Ok [] qk DY (top 37):=zt
def yG:=fD 1 f9 12 K08.DC
def WI:ds.length=1->yG ds=bL f9 12 K08.DC ds:=dD
def tx(C cs:Str->Addr):Tx:=⟨λx=>if jg.contains x=Y then U (C x) else O,λx=>if iy.contains x=Y then U (cs x) else O⟩
def ZG{cs:Str->Addr}(h:jg.contains x=Y):(tx C cs).cl x=U (C x):=if_pos h
def WJ{cs:Str->Addr}{cn:Str}{C':Addr}(h:(tx C cs).cl cn=U C'):jg.contains cn=Y/\C'=C cn:=by unfold tx at h;dsimp only at h;split at h;rename_i e;cases h;exact⟨e,rfl⟩;cases h
def BV{cs:Str->Addr}{k:Str}{C':Addr}(h:(tx C cs).xc k=U C'):iy.contains k=Y/\C'=cs k:=by unfold tx at h;dsimp only at h;split at h;rename_i e;cases h;exact⟨e,rfl⟩;cases h
structure Df (K:xq) (mg:xw) (x:Str) (st:Stmt) (ps:List Str) (f:Addr) (fd:xr):Prop where
 fn:Fun K x x st f fd
 at_:mg x=U (.ref f)
 bd:Binds K fd ps []
structure Mt (K:xq) (C:Addr) (x qual:Str) (st:Stmt) (ps:List Str) (f:Addr) (fd:xr):Prop where
 fn:Fun K x qual st f fd
 at_:jj K C x f
 bd:Binds K fd ps []
section
variable {P:xt}{w:World}{K:xq}{mg:xw}{base:Heap}{C cs:Str->Addr}
abbrev MO(P:xt)(w:World)(K:xq)(mg:xw)(base:Heap)(C cs:Str->Addr)(m:Nm)(g:GS)(k:Nat):Prop:=MOk P w K mg base (gX P w) m g (tx C cs) k
def aET:∀g k x C',(tx C cs).xc k=U C'->wdX g k=U x->∃fa fd ps j,j<=1/\mg g=U (.ref fa)/\keepIn K (.ref fa)=Y/\Binds K fd ps []/\FnM P w K mg base j fa fd ps (spW C' x):=by intro g k x C' h1 h2;exact nomatch (show O=U x from h2)
def mk0(hc:∀x d,csts.lookup x=U d->PV K (tx C cs) mg x d)(aT:∀cn,jg.contains cn=Y->Cls K (C cn))(dy:∀cn f,jg.contains cn=Y->(nT cn).contains f=Y->dP K (C cn) f)(W:∀x,fT.contains x=Y->mg x=O)(hx:∀k,iy.contains k=Y->mg k=U (.ref (cs k)))(I:∀k,iy.contains k=Y->excIn K (cs k) nv "ValueError.__new__"=Y) (z:∀k k',iy.contains k=Y->iy.contains k'=Y->aCB k k'=Y->qJ K (cs k) (.ref (cs k'))=Y) (R:∀g k x C',(tx C cs).xc k=U C'->wdX g k=U x->∃fa fd ps j,j<=1/\mg g=U (.ref fa)/\keepIn K (.ref fa)=Y/\Binds K fd ps []/\FnM P w K mg base j fa fd ps (spW C' x)):MO P w K mg base C cs m0 g0 1:=aFt hc (λcn C' h=>by obtain⟨a,rfl⟩:=WJ h;exact aT cn a) (λcn C' f h hf=>by obtain⟨a,rfl⟩:=WJ h;exact dy cn f a hf) W (λk C' h=>by obtain⟨h1,rfl⟩:=BV h;exact hx k h1) (λk h=>⟨cs k,if_pos h⟩) (λk C' h=>by obtain⟨h1,rfl⟩:=BV h;exact I k h1) (λk k' C1 C2 a b h=>by obtain⟨h1,rfl⟩:=BV a;obtain⟨h2,rfl⟩:=BV b;exact z k k' h1 h2 h) R
def mkM{fr:Bool}{m:Nm}{k:Nat}{q:Str}{N R:List Str}{i:IS}{f:Addr}(e:∀cn ds,g.me cn x ds=O)(s:ah N ps (aH st))(o:Ok R m N st)(r:Rd R m N st i)(h:MO P w K mg base C cs m g k){I:Str}(M:Mt K (C I) x q st ps f fd)(W:jg.contains I=Y:=by decide +kernel)(a1:m.fns.contains x=J:=by decide +kernel)(a3:m.fresh.contains x=J:=by decide +kernel)(a4:fr=Y->gE i=Y:=by first|(intro z;cases z;done)|decide +kernel):MO P w K mg base C cs (m.addM x fr) (g.addM I x (fD ps.length g N.length i) fr) (k+1):=h.defM a1 e a3 (ZG W) M.at_ M.bd M.fn s o r a4
def aAe:ah (["self","place","turned","lane","slanted","depth"]:List Str) (["self","place","turned","lane","slanted","depth"]:List Str) (aH (L2.inClass (top 3) 0)):=sK
def UQ{f:Addr}(h:MO P w K mg base C cs m1 g1 1)(hm:mg "Spot"=U (.ref (C "Spot")))(M:Mk K (C "Spot") f)(hb:Binds K fd (["self","place","turned","lane","slanted","depth"]:List Str) [])(F:Fun K "__init__" "Spot.__init__" (L2.inClass (top 3) 0) f fd)(aT:Cls K (C "Spot"))(dy:∀f,(nT "Spot").contains f=Y->dP K (C "Spot") f):MO P w K mg base C cs m2 g2 3:=h.defC hm M hb F aAe zt aAj (ZG zt) aT (λx hx=>dy x.1 (by
 have:qP.all (λx=>(nT "Spot").contains x.1)=Y:=zt
 exact all_eq_true.mp this x hx)) zt zu
def BH:∀cn ds,g2.me cn zg ds=O:=λcn ds=>by rfl
def yI:∀cn ds,g3.me cn ze ds=O:=λcn ds=>by show (if cn="Spot"/\(ze:Str) = zg then cY elseλ_=>O) ds=O;rw[if_neg (λz=>absurd z.2 zt)]
def IR:ah (["self","first","second","level","here","there"]:List Str) (["self","first","second","level","here","there"]:List Str) (aH (L2.inClass (top 4) 0)):=sK
def FU{f:Addr}(h:MO P w K mg base C cs m4 g4 5)(hm:mg "Strand"=U (.ref (C "Strand")))(M:Mk K (C "Strand") f)(hb:Binds K fd (["self","first","second","level","here","there"]:List Str) [])(F:Fun K "__init__" "Strand.__init__" (L2.inClass (top 4) 0) f fd)(aT:Cls K (C "Strand"))(dy:∀f,(nT "Strand").contains f=Y->dP K (C "Strand") f):MO P w K mg base C cs m5 g5 7:=h.defC hm M hb F IR zt IZ (ZG zt) aT (λx hx=>dy x.1 (by
 have:gB.all (λx=>(nT "Strand").contains x.1)=Y:=zt
 exact all_eq_true.mp this x hx)) zt zu
def GL:∀cn ds,g5.me cn zi ds=O:=λcn ds=>by show (if cn="Spot"/\(zi:Str) = ze then dM else if cn="Spot"/\(zi:Str) = zg then cY elseλ_=>O) ds=O;rw[if_neg (λz=>absurd z.2 zt),if_neg (λz=>absurd z.2 zt)]
def GM:∀cn ds,g6.me cn zh ds=O:=λcn ds=>by show (if cn="Strand"/\(zh:Str) = zi then fW else if cn="Spot"/\(zh:Str) = ze then dM else if cn="Spot"/\(zh:Str) = zg then cY elseλ_=>O) ds=O;rw[if_neg (λz=>absurd z.2 zt),if_neg (λz=>absurd z.2 zt),if_neg (λz=>absurd z.2 zt)]
def aDX(R:¬x = zg)(I:¬x = ze)(W:¬x = zi)(h_is_bend:¬x = zh):∀cn ds,g7.me cn x ds=O:=λcn ds=>by show (if cn="Strand"/\x = zh then hV else if cn="Strand"/\x = zi then fW else if cn="Spot"/\x = ze then dM else if cn="Spot"/\x = zg then cY elseλ_=>O) ds=O;rw[if_neg λz=>h_is_bend z.2,if_neg λz=>W z.2,if_neg λz=>I z.2,if_neg λz=>R z.2]
def b0(N I:List Str)(i:IS){m:Nm}{k:Nat}{f:Addr}(h:MO P w K mg base C cs m g k)(M:Df K mg x st ps f fd)(s:ah N ps (aH st):=by exact sK)(o:Ok I m N st:=by decide +kernel)(r:Rd I m N st i:=by kernel_rfl)(a1:m.fns.contains x=J:=by decide +kernel)(a2:∀cn ds,g.me cn x ds=O:=by exact aDX zt zt zt zt)(W:m.fresh.contains x=J:=by decide +kernel)(R:J=Y->gE i=Y:=by first|(intro z;cases z;done)|decide +kernel):MO P w K mg base C cs (m.addF x J) (g.addF x (fD ps.length g N.length i) J) (k+1):=h.defF a1 a2 W M.at_ M.bd M.fn s o r R
def aBo{f:Addr}(h:MO P w K mg base C cs qk f9 41)(M:Df K mg "law" (top 37) yZ f fd):FnOk P w K mg base (gX P w) 42 f fd yZ (jn K (tx C cs) 1 yG J):=((aBH (fr:=J) (n:=60) (c:=qk.cc DY (aH (top 37)) ([]:List Str)) M.fn aCJ rfl rfl aDr aCT (λz=>by cases z) (λX a1 a2 a3 W R=>h X _ a1 a2 a3 W R rfl rfl rfl rfl)).imp λvs H Q E ⟨h1,S,ds,dom,I,hc⟩=>⟨h1,S,ds,dom,I,by rw[WI (by rw[I.len];exact h1)]at hc;exact hc⟩)
end
def xI:g5.me "Spot" zg = cY:=zr
def uF:g5.me "Spot" ze = dM:=zr
def aAk:g9.fn yu = NZ:=zr
def VW:g9.mo "Spot"=BB:=zr
def GV:g9.mo "Strand"=qZ:=zr
def xK:g10.me "Strand" zi = fW:=zr
def SI:g12.fn zd = NX:=zr
def aAu:pq.fn yb = aBR:=zr
def SH:pq.fn yq = OA:=zr
def xJ:pq.me "Strand" zh = hV:=zr
def SG:g15.fn zk = XW:=zr
def SE:ni.fn yp = YB:=zr
def SF:ni.fn yo = YE:=zr
def aAt:ni.fn xy = aEv:=zr
def SD:ni.fn y7 = XY:=zr
def SC:tm.fn y8 = NV:=zr
def aAs:tj.fn xx = aBS:=zr
def SB:tj.fn y9 = DI:=zr
def aAr:g31.fn yh = aBM:=zr
def SA:g32.fn yr = OD:=zr
def RZ:sE.fn yj = YD:=zr
def RW:j7.fn y9 = DI:=zr
def RX:j7.fn zc = NW:=zr
def RV:j7.fn za = NU:=zr
def RY:j7.fn yx = OC:=zr
def aAp:j7.fn yi = aEu:=zr
def aAq:j7.fn yc = aBN:=zr
def RU:g38.fn yt = OB:=zr
def RQ:f9.fn yz = XZ:=zr
def aAm:f9.fn yd = aBO:=zr
def RN:f9.fn zf = NT:=zr
def RO:f9.fn zb = NY:=zr
def aAn:f9.fn yf = aBP:=zr
def aAl:f9.fn yg = VC:=zr
def RP:f9.fn yw = XX:=zr
def aAo:f9.fn ya = aBQ:=zr
def RT:f9.fn yk = YC:=zr
def RS:f9.fn yv = YA:=zr
def RM:f9.fn "fault"=NS:=zr
open Z.Pg
def ED(ns:List Int)(k:Nat):aBO [.frz (ns.map .int),.int k]=U (.ok (.int (cv ns k))):=(dD rfl).trans BK
def PX(i:Int):OB [.int i]=U (.ok (.bl Y)):=(dD rfl).trans HX
def EC(w h:Nat)(cell:Int)(hw:1<=w)(I:1<=h)(z:1<w*h):∃(sd:Side) (over:Bool) (k:Nat),1<=k/\(k<if sd.up then w else h)/\aBP [.int cell,.int w,.int h]=U (.ok (cG sd over k)):=by obtain⟨sd,over,k,a,b,e⟩:=AZ (G:=g23) (cell:=cell) hw I z;exact⟨sd,over,k,a,b,(dD rfl).trans e⟩
def QB(c r:Nat)(hc:1<=c)(I:c*r<=1000)(z:c<=1000):NY [.int c,.int r]=U (.ok (bX (dC c r))):=(dD rfl).trans (LH hc I z)
def QA(s:Spot)(sd:Side)(over:Bool)(c z:Nat)(top low:Int)(h1:1<=c)(hg:nQ c (s.al sd.up)<z):NV [b7 s,cG sd over c,.int z,.int top,.int low]=U (.ok (b7 (cO sd over c z top low s))):=(dD rfl).trans (LF h1 hg)
def EB(sp:List Spot)(sd:Side)(over:Bool)(c ex:Nat)(h1:1<=c)(h2:c<ex)(bw:sp≠[])(R:∀s∈sp,s.al sd.up<ex)(hex:∃s∈sp,s.al sd.up+1=ex):∃top low:Int,(∀s∈sp,s.z<=top)/\(∀s∈sp,low<=s.z)/\VC [bX sp,cG sd over c]=U (.ok (bX (sp.map (cO sd over c (max c (ex-c)) top low)))):=by rw[aEU rfl];exact AK (λs sd over c I top low a b=>by rw[SC];exact QA s sd over c I top low a b) h1 h2 bw R hex
def YW(c r:Nat)(h1:1<=c)(h2:1<=r)(h3:c*r<=64)(z:c<=64):NU [.int c,.int r]=U (.ok (.lst ((c6 c (c*r) (c*r)).map dz))):=(dD rfl).trans (K08.UG h1 h2 h3 z)
def HS(p:K08.Pl)(lv:Bool):DI [K08.plD p,.bl lv]=U (.ok (.int (K08.eG lv p:Nat))):=(dD rfl).trans K08.US
def YZ(p:K08.Pl)(lv:Bool):aBS [K08.plD p,.bl lv]=U (.ok (.int (K08.iW lv p:Nat))):=(dD rfl).trans K08.VZ
def YX(p q:K08.Pl)(lv:Bool):NW [K08.plD p,K08.plD q,.bl lv]=U (.ok (.bl (K08.meets lv p q))):=(dD rfl).trans (K08.UR (λp lv=>by rw[SB];exact HS p lv) (λp lv=>by rw[aAs];exact YZ p lv))
def PY(p q:K08.Pl)(lv:Bool)(N:Nat):OC [K08.plD p,K08.plD q,.bl lv,.int (N:Nat)]=U (.ok (.tup [K08.ld (K08.side J lv N p q),K08.ld (K08.side Y lv N p q)])):=(dD rfl).trans K08.JV
def HU(m a b:Int):aBM [.int m,.lst [.int a,.int b]]=U (.ok (.bl (K08.inB m a b))):=(dD rfl).trans K08.GE
def QC(u v:List Int)(a:u.length<=2)(b:v.length<=2):OD [K08.ld u,K08.ld v]=U (.ok (.bl (K08.bnd u v))):=(dD rfl).trans (K08.PF (λm a b=>by rw[aAr];exact HU m a b) a b)
def DZ(z h1 l2 h2:List Int)(a:z.length+h1.length=2)(b:l2.length+h2.length=2):aBN [.tup [K08.ld z,K08.ld h1],.tup [K08.ld l2,K08.ld h2]]=U (.ok (.bl (K08.lL z h1 l2 h2))):=(dD rfl).trans (K08.zF (λu v a b=>by rw[SA];exact QC u v a b) a b)
def aCp(c r w:Nat)(Hs:List aQ)(h1:1<=c)(h2:1<=r)(h3:c*r<=64)(R:c<=64)(hw:1<=w)(W:w<=1000)(I:K08.Hok (c*r) Hs):NT [.int c,.int r,.int w,K08.hsD Hs]=U (.ok (K08.vT c r w Hs (c6 c (c*r) (c*r)))):=(dD rfl).trans (K08.aBX h3 R I (λj z=>⟨AA z,K08.uJ z⟩) (vi (lW _) zq) (by rw[aAp];exact(dD rfl).trans (K08.EV zq hw W I)) (by rw[RV];exact YW c r h1 h2 h3 R) (λp q lv=>by rw[RX];exact YX p q lv) (λp lv=>by rw[RW];exact HS p lv) (λp q lv N=>by rw[RY];exact PY p q lv N) (λl1 h1 l2 h2 a b=>by rw[aAq];exact DZ l1 h1 l2 h2 a b))
def WH(p q:Nat)(a b:Bool)(l:Int):cY [K08.oSp p a q b l]=U (.ok (.int ((if a then p else p+1:Nat):Int))):=(zC rfl).trans (K08.aBI rfl)
def PZ(p q:Nat)(a b:Bool)(l:Int):dM [K08.oSp p a q b l]=U (.ok (.int ((if a then p+1 else p:Nat):Int))):=(wG rfl).trans (K08.KS rfl)
def YY(a b:Int)(p q p' q':Nat)(x y x' y':Bool)(l l':Int)(t:D):hV [K08.oSt a b (K08.oSp p x q y l) (K08.oSp p' x' q' y' l') t]=U (.ok (.bl ((p:Int) == p'))):=(EH rfl).trans (K08.VY rfl rfl)
def YV(p q:K08.Pl)(lv:Bool)(a b:Int)(k:D):fW [K08.oSt a b (K08.bD lv p) (K08.bD lv q) k]=U (.ok (.bl (!K08.meets lv p q))):=(EG rfl).trans (K08.QG rfl rfl (λp q a b l=>by rw[xI];exact WH p q a b l) (λp q a b l=>by rw[uF];exact PZ p q a b l))
def ZA(p q:Nat)(a b:Bool)(l:Int):BB [.int p,.bl a,.int q,.bl b,.int l]=U (.ok (K08.oSp p a q b l)):=rfl
def HV(a b:Int)(lv:Bool)(p q:K08.Pl):qZ [.int a,.int b,.bl lv,K08.bD lv p,K08.bD lv q]=U (.ok (K08.oSt a b (K08.bD lv p) (K08.bD lv q) (K08.trD lv p))):=by have e:ev g4 (.v 4) [.un,.im (.int a),.im (.int b),.im (.bl lv),.im (K08.bD lv p),.im (K08.bD lv q)]=U (K08.bD lv p):=rfl;have e1:=K08.tT (G:=g4) (m:=zg) rfl e (by rw[show g4.me "Spot" zg = cY by kernel_rfl];exact WH _ _ _ _ _);have e2:=K08.tU (G:=g4) rfl e;show (jx g4 [.un,.im (.int a),.im (.int b),.im (.bl lv),.im (K08.bD lv p),.im (K08.bD lv q)] gB).map _=_;unfold gB;simp only[jx,ur];rw[fP,aJ,aJ,e1,aJ,e2];unfold K08.trD;rw[K08.vG];rfl
def aCo(c r:Nat)(h1:1<=c)(h3:c*r<=64)(z:c<=64):NZ [.int c,.int r]=U (.ok (.lst ((c6 c (c*r) (c*r)).map dz))):=(dD rfl).trans (rT h1 h3 z)
def HP(a b:Int)(p q p' q' p2 q2:Nat)(x y x' y' x2 y2:Bool)(l l' l2:Int)(t:D):NX [K08.oSt a b (K08.oSp p x q y l) (K08.oSp p' x' q' y' l') t,K08.oSp p2 x2 q2 y2 l2]=U (.ok (.bl (((p2:Int) == p)&&K08.inB l2 l l'))):=(dD rfl).trans (K08.EF rfl rfl)
def EA(a b a2 b2:Int)(p q p' q' p2 q2 p3 q3:Nat)(x y x' y' x2 y2 x3 y3:Bool)(l l' l2 l3:Int)(t t2:D):OA [K08.oSt a b (K08.oSp p x q y l) (K08.oSp p' x' q' y' l') t,K08.oSt a2 b2 (K08.oSp p2 x2 q2 y2 l2) (K08.oSp p3 x3 q3 y3 l3) t2]=U (.ok (.bl (!((((p2:Int) == p)&&K08.inB l2 l l') == (((p3:Int) == p)&&K08.inB l3 l l'))))):=(dD rfl).trans (K08.zW rfl (λa b p q p' q' p2 q2 x y x' y' x2 y2 l l' l2 t=>by rw[SI];exact HP a b p q p' q' p2 q2 x y x' y' x2 y2 l l' l2 t))
def EE(a b a2 b2:Int)(p q p' q' p2 q2 p3 q3:Nat)(x y x' y' x2 y2 x3 y3:Bool)(l l' l2 l3:Int)(t t2:D):aBR [K08.oSt a b (K08.oSp p x q y l) (K08.oSp p' x' q' y' l') t,K08.oSt a2 b2 (K08.oSp p2 x2 q2 y2 l2) (K08.oSp p3 x3 q3 y3 l3) t2]=U (.ok (.bl (if (p:Int) == p2 then !(decide (l<l2) == decide (l'<l3)) else !(decide (l<l3) == decide (l'<l2))))):=(dD rfl).trans (K08.BL rfl rfl)
def aCq(c r w h:Nat)(Hs:List aQ)(h1:1<=c)(h3:c*r<=64)(h4:c<=64)(hw:1<=w)(l7:w<=1000)(W:K08.Hok (c*r) Hs):NS [.int (c:Nat),.int (r:Nat),.int (w:Nat),.int (h:Nat),K08.hsD Hs]=U (.ok (K08.vT c r w Hs (c6 c (c*r) (c*r)))):=by have hL:(c6 c (c*r) (c*r)).length<=1000:=vi (lW _) zq;refine(dD rfl).trans (K08.NR h4 (by rw[SF];exact(dD rfl).trans (K08.GY zq W)) (λone=>by rw[SE];exact(dD rfl).trans (K08.zH hw l7 W one (λj R=>⟨AA R,K08.uJ R⟩) hL (by rw[aAk];exact aCo c r h1 h3 h4) (λp q a b l=>by rw[VW];exact ZA p q a b l) (λa b lv p q=>by rw[GV];exact HV a b lv p q))) (by rw[SD];exact(dD rfl).trans (K08.IC rfl (λp q lv a b k=>by rw[xK];exact YV p q lv a b k))) (λone I=>by rw[aAt];refine(dD rfl).trans (K08.BI rfl hL λk a b ha hb st=>?_);rw[SG];have z:=u6 ha;have mb:=mem_of_mem_drop hb;refine((dD rfl).trans (K08.OU (λa b p q p' q' x y x' y' l l' t=>by rw[xJ];exact YY a b p q p' q' x y x' y' l l' t) (λa b a2 b2 p q p' q' p2 q2 p3 q3 x y x' y' x2 y2 x3 y3 l l' l2 l3 t t2=>by rw[SH];exact EA a b a2 b2 p q p' q' p2 q2 p3 q3 x y x' y' x2 y2 x3 y3 l l' l2 l3 t t2) (λa b a2 b2 p q p' q' p2 q2 p3 q3 x y x' y' x2 y2 x3 y3 l l' l2 l3 t t2=>by rw[aAu];exact EE a b a2 b2 p q p' q' p2 q2 p3 q3 x y x' y' x2 y2 x3 y3 l l' l2 l3 t t2))).trans ?_;rw[K08.agree (K08.zJ one) z mb (K08.uJ z) (K08.uJ mb) (K08.aDy ha hb) (I a z) (I b mb) st]))
def law_true(ns:List Int)(_:ns.length<=63):yG [.frz (ns.map .int)]=U (.ok (.bl Y)):=by rw[WI rfl];exact K08.aBr (λk=>by rw[aAm];exact ED ns k) (λcell=>by rw[aAo,aEV rfl];exact EU) (λc r a b d=>by rw[RO];exact QB c r a (vi b zu) (vi d zu)) (λsp sd over k ex a b d e f=>by rw[aAl];obtain⟨t,l,_,_,h⟩:=EB sp sd over k ex a b d e f;exact⟨t,l,h⟩) (λw h cell a b d=>by rw[aAn];exact EC w h cell a b d) (λsp n w h R a2 z I W a6 a7 a8 a9 b1=>by rw[RP];obtain⟨Hs,H,e⟩:=K08.MJ (G:=g24) R a2 z I W a6 a7 a8 a9 b1;exact⟨Hs,H,(dD rfl).trans e⟩) (λn m b Hs a y H R a2 z I W=>by rw[RT];obtain⟨gu,H1,e⟩:=K08.ES (G:=sE) H R a2 z I W (a:=a) (y:=y) (by rw[RZ];obtain⟨gu,H1,e⟩:=K08.FZ (G:=g33) H z zq (a:=a) (y:=y);exact⟨gu,H1,(dD rfl).trans e⟩);exact⟨gu,H1,(dD rfl).trans e⟩) (λn w h b Hs d H R a2 z I=>by rw[RS];obtain⟨w1,h1,gu,b1,b2,b3,e⟩:=K08.HW (G:=g35) H R a2 z I (d:=d);exact⟨w1,h1,gu,b1,b2,b3,(dD rfl).trans e⟩) (λc r w h Hs R a2 z I W a6 a7=>⟨_,by rw[RM];exact aCq c r w h Hs R z I W a6 a7,by rw[RN];exact aCp c r w Hs R a2 z I W a6 a7,by rw[RQ];exact(dD rfl).trans (K08.HE λi=>by rw[RU];exact PX i)⟩)
def t8{q:Str}{f:Addr}(F:Fun K x q st f fd)(l:ps.length=1)(h:∀(kV doc pm:Value) (an:Option Addr) (az ct a:Value),bindArgs (PySem.W.fnOf x q (dG st) (bN st) (aH st) .none kV doc pm an az ct) ⟨[a],[]⟩=pure (ps.zip [a])):Binds K fd ps []:=F.binds λ_ _ _ _ _ _ us hl=>by
 match us,hl.trans l with
 |[a],_=>exact h _ _ _ _ _ _ a
def bn2{q:Str}{f:Addr}(F:Fun K x q st f fd)(l:ps.length=2)(h:∀(kV doc pm:Value) (an:Option Addr) (az ct a b:Value),bindArgs (PySem.W.fnOf x q (dG st) (bN st) (aH st) .none kV doc pm an az ct) ⟨[a,b],[]⟩=pure (ps.zip [a,b])):Binds K fd ps []:=F.binds λ_ _ _ _ _ _ us hl=>by
 match us,hl.trans l with
 |[a,b],_=>exact h _ _ _ _ _ _ a b
def bn3{q:Str}{f:Addr}(F:Fun K x q st f fd)(l:ps.length=3)(h:∀(kV doc pm:Value) (an:Option Addr) (az ct a b c:Value),bindArgs (PySem.W.fnOf x q (dG st) (bN st) (aH st) .none kV doc pm an az ct) ⟨[a,b,c],[]⟩=pure (ps.zip [a,b,c])):Binds K fd ps []:=F.binds λ_ _ _ _ _ _ us hl=>by
 match us,hl.trans l with
 |[a,b,c],_=>exact h _ _ _ _ _ _ a b c
def bn4{q:Str}{f:Addr}(F:Fun K x q st f fd)(l:ps.length=4)(h:∀(kV doc pm:Value) (an:Option Addr) (az ct a b c d:Value),bindArgs (PySem.W.fnOf x q (dG st) (bN st) (aH st) .none kV doc pm an az ct) ⟨[a,b,c,d],[]⟩=pure (ps.zip [a,b,c,d])):Binds K fd ps []:=F.binds λ_ _ _ _ _ _ us hl=>by
 match us,hl.trans l with
 |[a,b,c,d],_=>exact h _ _ _ _ _ _ a b c d
def bn5{q:Str}{f:Addr}(F:Fun K x q st f fd)(l:ps.length=5)(h:∀(kV doc pm:Value) (an:Option Addr) (az ct a b c d e:Value),bindArgs (PySem.W.fnOf x q (dG st) (bN st) (aH st) .none kV doc pm an az ct) ⟨[a,b,c,d,e],[]⟩=pure (ps.zip [a,b,c,d,e])):Binds K fd ps []:=F.binds λ_ _ _ _ _ _ us hl=>by
 match us,hl.trans l with
 |[a,b,c,d,e],_=>exact h _ _ _ _ _ _ a b c d e
def bn6{q:Str}{f:Addr}(F:Fun K x q st f fd)(l:ps.length=6)(h:∀(kV doc pm:Value) (an:Option Addr) (az ct a b c d e f:Value),bindArgs (PySem.W.fnOf x q (dG st) (bN st) (aH st) .none kV doc pm an az ct) ⟨[a,b,c,d,e,f],[]⟩=pure (ps.zip [a,b,c,d,e,f])):Binds K fd ps []:=F.binds λ_ _ _ _ _ _ us hl=>by
 match us,hl.trans l with
 |[a,b,c,d,e,f],_=>exact h _ _ _ _ _ _ a b c d e f
def mF{n q:Str}{a:Addr}(e:fd=dF n q st m t c)(h:K.lookup a=U (oF fd))(h2:codeIn K (.ref c) q=Y)(h3:keepIn K (.ref a)=Y):Fun K n q st a fd:=⟨⟨_,_,_,_,_,_,_,_,_,e,h,h2⟩,h3⟩
def p4{f:Addr}(X:K.In h)(G:h.Ns mainGlobals mg)(e:fd=dF x x st m t c)(h1:K.lookup f=U (oF fd):=by kernel_rfl)(h2:codeIn K (.ref c) x=Y:=by kernel_rfl)(h3:keepIn K (.ref f)=Y:=by kernel_rfl)(z:nsIn K mainGlobals x=U (U (.ref f)):=by kernel_rfl)(l:ps.length=1:=by rfl)(hb:∀(kV doc pm:Value) (an:Option Addr) (az ct a:Value),bindArgs (PySem.W.fnOf x x (dG st) (bN st) (aH st) .none kV doc pm an az ct) ⟨[a],[]⟩=pure (ps.zip [a]):=by intros;rfl):Df K mg x st ps f fd:=⟨mF e h1 h2 h3,mg_of X G z,t8 (mF e h1 h2 h3) l hb⟩
def fk{f:Addr}(X:K.In h)(G:h.Ns mainGlobals mg)(e:fd=dF x x st m t c)(h1:K.lookup f=U (oF fd):=by kernel_rfl)(h2:codeIn K (.ref c) x=Y:=by kernel_rfl)(h3:keepIn K (.ref f)=Y:=by kernel_rfl)(z:nsIn K mainGlobals x=U (U (.ref f)):=by kernel_rfl)(l:ps.length=2:=by rfl)(hb:∀(kV doc pm:Value) (an:Option Addr) (az ct a b:Value),bindArgs (PySem.W.fnOf x x (dG st) (bN st) (aH st) .none kV doc pm an az ct) ⟨[a,b],[]⟩=pure (ps.zip [a,b]):=by intros;rfl):Df K mg x st ps f fd:=⟨mF e h1 h2 h3,mg_of X G z,bn2 (mF e h1 h2 h3) l hb⟩
def dn3{f:Addr}(X:K.In h)(G:h.Ns mainGlobals mg)(e:fd=dF x x st m t c)(h1:K.lookup f=U (oF fd):=by kernel_rfl)(h2:codeIn K (.ref c) x=Y:=by kernel_rfl)(h3:keepIn K (.ref f)=Y:=by kernel_rfl)(z:nsIn K mainGlobals x=U (U (.ref f)):=by kernel_rfl)(l:ps.length=3:=by rfl)(hb:∀(kV doc pm:Value) (an:Option Addr) (az ct a b c:Value),bindArgs (PySem.W.fnOf x x (dG st) (bN st) (aH st) .none kV doc pm an az ct) ⟨[a,b,c],[]⟩=pure (ps.zip [a,b,c]):=by intros;rfl):Df K mg x st ps f fd:=⟨mF e h1 h2 h3,mg_of X G z,bn3 (mF e h1 h2 h3) l hb⟩
def t6{f:Addr}(X:K.In h)(G:h.Ns mainGlobals mg)(e:fd=dF x x st m t c)(h1:K.lookup f=U (oF fd):=by kernel_rfl)(h2:codeIn K (.ref c) x=Y:=by kernel_rfl)(h3:keepIn K (.ref f)=Y:=by kernel_rfl)(z:nsIn K mainGlobals x=U (U (.ref f)):=by kernel_rfl)(l:ps.length=4:=by rfl)(hb:∀(kV doc pm:Value) (an:Option Addr) (az ct a b c d:Value),bindArgs (PySem.W.fnOf x x (dG st) (bN st) (aH st) .none kV doc pm an az ct) ⟨[a,b,c,d],[]⟩=pure (ps.zip [a,b,c,d]):=by intros;rfl):Df K mg x st ps f fd:=⟨mF e h1 h2 h3,mg_of X G z,bn4 (mF e h1 h2 h3) l hb⟩
def dn5{f:Addr}(X:K.In h)(G:h.Ns mainGlobals mg)(e:fd=dF x x st m t c)(h1:K.lookup f=U (oF fd):=by kernel_rfl)(h2:codeIn K (.ref c) x=Y:=by kernel_rfl)(h3:keepIn K (.ref f)=Y:=by kernel_rfl)(z:nsIn K mainGlobals x=U (U (.ref f)):=by kernel_rfl)(l:ps.length=5:=by rfl)(hb:∀(kV doc pm:Value) (an:Option Addr) (az ct a b c d e:Value),bindArgs (PySem.W.fnOf x x (dG st) (bN st) (aH st) .none kV doc pm an az ct) ⟨[a,b,c,d,e],[]⟩=pure (ps.zip [a,b,c,d,e]):=by intros;rfl):Df K mg x st ps f fd:=⟨mF e h1 h2 h3,mg_of X G z,bn5 (mF e h1 h2 h3) l hb⟩
noncomputable def gb:Str->Addr:=λx=>if x="Spot" then 52 else if x="Strand" then 87 else 0
section
variable (P:Params)
def iY:Fun (KK P) "__init__" "Spot.__init__" (L2.inClass (top 3) 0) 35 eZ:=mF rfl zr zr zr
def pH:Binds (KK P) eZ (["self","place","turned","lane","slanted","depth"]:List Str) []:=bn6 (iY P) rfl λ_ _ _ _ _ _ _ _ _ _ _ _=>rfl
def lJ:Fun (KK P) zg "Spot.far_line" (L2.inClass (top 3) 1) 42 gN:=mF rfl zr zr zr
def BN:Binds (KK P) gN lI []:=t8 (lJ P) rfl λ_ _ _ _ _ _ _=>rfl
def jR:Fun (KK P) ze "Spot.near_line" (L2.inClass (top 3) 2) 49 fR:=mF rfl zr zr zr
def yW:Binds (KK P) fR jP []:=t8 (jR P) rfl λ_ _ _ _ _ _ _=>rfl
def gP:Fun (KK P) "__init__" "Strand.__init__" (L2.inClass (top 4) 0) 70 eF:=mF rfl zr zr zr
def mM:Binds (KK P) eF (["self","first","second","level","here","there"]:List Str) []:=bn6 (gP P) rfl λ_ _ _ _ _ _ _ _ _ _ _ _=>rfl
def oI:Fun (KK P) zi "Strand.is_torn" (L2.inClass (top 4) 1) 77 iL:=mF rfl zr zr zr
def GW:Binds (KK P) iL oG []:=t8 (oI P) rfl λ_ _ _ _ _ _ _=>rfl
def oJ:Fun (KK P) zh "Strand.is_bend" (L2.inClass (top 4) 2) 84 iM:=mF rfl zr zr zr
def GX:Binds (KK P) iM oH []:=t8 (oJ P) rfl λ_ _ _ _ _ _ _=>rfl
def BR:Mt (KK P) (gb "Spot") zg "Spot.far_line" (L2.inClass (top 3) 1) lI 42 gN:=⟨lJ P,⟨zr,zr,(lJ P).kp⟩,BN P⟩
def zB:Mt (KK P) (gb "Spot") ze "Spot.near_line" (L2.inClass (top 3) 2) jP 49 fR:=⟨jR P,⟨zr,zr,(jR P).kp⟩,yW P⟩
def HG:Mt (KK P) (gb "Strand") zi "Strand.is_torn" (L2.inClass (top 4) 1) oG 77 iL:=⟨oI P,⟨zr,zr,(oI P).kp⟩,GW P⟩
def HJ:Mt (KK P) (gb "Strand") zh "Strand.is_bend" (L2.inClass (top 4) 2) oH 84 iM:=⟨oJ P,⟨zr,zr,(oJ P).kp⟩,GX P⟩
def pS:gb "Spot"=52:=zt
def aBE:Mk (KK P) (gb "Spot") 35:=by rw[pS];exact⟨zr,zr,zr,zr⟩
def OY:Cls (KK P) (gb "Spot"):=by rw[pS];exact⟨zr,zr,zr,zr⟩
def LA:∀f,(nT "Spot").contains f=Y->dP (KK P) (gb "Spot") f:=by
 intro f hf;have z:f∈nT "Spot":=by simpa using hf
 rw[show nT "Spot"=(["place","turned","lane","slanted","depth"]:List Str) from by decide +kernel]at z;simp only[vk,x8,or_false]at z;rw[pS];rcases z with rfl|rfl|rfl|rfl|rfl<;>exact(by kernel_rfl:findIn (KK P) (.ref 52) _=U O)
def kJ:gb "Strand"=87:=zt
def MC:Mk (KK P) (gb "Strand") 70:=by rw[kJ];exact⟨zr,zr,zr,zr⟩
def yT:Cls (KK P) (gb "Strand"):=by rw[kJ];exact⟨zr,zr,zr,zr⟩
def xP:∀f,(nT "Strand").contains f=Y->dP (KK P) (gb "Strand") f:=by
 intro f hf;have z:f∈nT "Strand":=by simpa using hf
 rw[show nT "Strand"=(["first","second","here","there","track"]:List Str) from by decide +kernel]at z;simp only[vk,x8,or_false]at z;rw[kJ];rcases z with rfl|rfl|rfl|rfl|rfl<;>exact(by kernel_rfl:findIn (KK P) (.ref 87) _=U O)
def YI:∀cn,jg.contains cn=Y->cn="Spot"\/cn="Strand":=λcn h=>by
 have h:cn∈jg:=by simpa using h
 unfold jg at h;simpa only [vk,x8,or_false] using h
def aED:∀cn,jg.contains cn=Y->Cls (KK P) (gb cn):=λcn h=>by rcases YI cn h with rfl|rfl;exact OY P;exact yT P
def aDV:∀cn f,jg.contains cn=Y->(nT cn).contains f=Y->dP (KK P) (gb cn) f:=λcn f h hf=>by rcases YI cn h with rfl|rfl;exact LA P f hf;exact xP P f hf
variable {P}{h:Heap}{mg:xw}(X:(KK P).In h)(G:h.Ns mainGlobals mg)
include X G
def YT:Df (KK P) mg "law" (top 37) yZ 297 BA:=p4 X G rfl
def aFB:∀x,fT.contains x=Y->mg x=O:=by
 intro x hx;have z:x∈fT:=by simpa using hx
 simp only[fT,vk,x8,or_false]at z;rcases z with rfl|rfl|rfl|rfl|rfl|rfl|rfl|rfl|rfl|rfl|rfl|rfl|rfl|rfl|rfl<;>exact PySem.W.mg_none_of X G zr
def aEj:∀x d,csts.lookup x=U d->PV (KK P) T mg x d:=λx d hx=>have _:=X;have _:=G;nomatch (show (O:Option D)=U d from hx)
end
def wK(K:xq):Sp:=λvs H Q _=>∃(a:Addr) (ns:List Int),vs=[.ref a]/\SqL K H a (ns.map σ.int)/\ns.length<=63/\∀H',Q (.bl Y) H'
theorem sJ{K:xq}{T:Tx}{H:Hp}{S:Addr->Prop}:∀ns:List Int,aD K T H S (ns.map D.int) (ns.map σ.int)
 |[]=>aD.nil
 |n::ns=>aD.cons (by exact rfl) (sJ ns)
def aBs{P:xt}{w:World}{base:Heap}{k:Nat}{f:Addr}{fr:Bool}(F:FnOk P w K mg base (gX P w) k f fd yZ (jn K T 1 yG fr))(hk:k<=60):FnOk P w K mg base oa 60 f fd ["script"] (wK K):=by
 have I:∀vs H Q E,wK K vs H Q E->jn K T 1 yG fr vs H Q E0:=by rintro vs H Q E ⟨a,ns,rfl,hS,hl,q⟩;refine⟨rfl,λ_=>False,[.frz (ns.map D.int)],λ_ z=>z.elim,aD.cons (show Exists _ from⟨a,ns.map σ.int,rfl,λz=>z,hS,sJ ns⟩) aD.nil,.inl ⟨.bl Y,law_true ns hl,λv H' W r _=>?_⟩⟩;obtain rfl:=r;exact q H'
 refine⟨λvs H Q E hs=>F.len _ _ _ _ (I vs H Q E hs),λA outer s H args us vs Q E hr R hb hv hs=>?_⟩;refine codeAny_mono (F.run A outer s H args us vs Q E0 (hr.mono hk) R hb hv (I vs H Q E hs)) λr s' hq=>?_;cases r with
 |error e=>exact(XG _ _ _ _ _ hq).elim
 |ok fl=>cases fl<;>exact hq
noncomputable def cs(y:Str):Addr:=0
set_option maxHeartbeats 0 in
def all_mk{l:PySem.W.OpenLaw}{w:World}{fa:Addr}(X:(KK w.params).In h)(G:h.Ns mainGlobals mg)(z:mg "law"=U (.ref fa)):∃fd:xr,(∀(s:Shared) (v:Value),BindsTo s fd ⟨[v],[]⟩ [("script",v)])/\∀base:Heap,(KK w.params).In base->base.Ns mainGlobals mg->FnOk l.prog w (KK w.params) mg base oa 60 fa fd ["script"] (wK (KK w.params)):=by have e:=z.symm.trans (YT X G).at_;cases e;refine⟨BA,λs v=>.of_eq rfl,λbase _ _=>?_⟩;have m:=mk0 (P:=l.prog) (w:=w) (base:=base) (C:=gb) (cs:=cs) (aEj X G) (aED _) (aDV _) (aFB X G) (λk hk=>absurd hk (by unfold iy;simp)) (λk hk=>absurd hk (by unfold iy;simp)) (λk _ hk=>absurd hk (by unfold iy;simp)) aET;replace m:MO _ _ _ _ _ _ _ m2 g2 3:=UQ m (by rw[pS];exact mg_of X G zr) (aBE _) (pH _) (iY _) (OY _) (LA _);replace m:MO _ _ _ _ _ _ _ m3 g3 4:=mkM (fr:=J) BH zM zZ zT m (BR _);replace m:MO _ _ _ _ _ _ _ m4 g4 5:=mkM (fr:=J) yI wU xM wZ m (zB _);replace m:MO _ _ _ _ _ _ _ m5 g5 7:=FU m (by rw[kJ];exact mg_of X G zr) (MC _) (mM _) (gP _) (yT _) (xP _);replace m:MO _ _ _ _ _ _ _ m6 g6 8:=mkM (fr:=J) GL EZ FP FD m (HG _);replace m:MO _ _ _ _ _ _ _ m7 g7 9:=mkM (fr:=J) GM FA FQ FE m (HJ _);replace m:MO _ _ _ _ _ _ _ m8 g8 10:=b0 [zj,"rows","cells","found","cell"] ["found"] Pg.iJ m (fk (f:=21) (fd:=ND) (ps:=[zj,"rows"]) X G rfl);replace m:MO _ _ _ _ _ _ _ m9 g9 11:=b0 ["cells","heaps","times","heap","told","cell"] ["times"] K08.qU m (fk (f:=105) (fd:=NQ) (ps:=["cells","heaps"]) X G rfl);replace m:MO _ _ _ _ _ _ _ m10 g10 12:=b0 [zj,"rows","wide","heaps","across_upright","across_level","number","heap","x","y","depth","told","found","first","second","level","spots"] ["across_upright","across_level","found"] K08.nL m (t6 (f:=112) (fd:=NN) (ps:=[zj,"rows","wide","heaps"]) X G rfl);replace m:MO _ _ _ _ _ _ _ m11 g11 13:=b0 ["strands","strand"] [] K08.uU m (p4 (f:=119) (fd:=NG) (ps:=["strands"]) X G rfl);replace m:MO _ _ _ _ _ _ _ m12 g12 14:=b0 ["bend","spot","least","greatest"] [] K08.qQ m (fk (f:=147) (fd:=NB) (ps:=["bend","spot"]) X G rfl);replace m:MO _ _ _ _ _ _ _ m13 g13 15:=b0 ["bend","strand"] [] K08.nM m (fk (f:=140) (fd:=NH) (ps:=["bend","strand"]) X G rfl);replace m:MO _ _ _ _ _ _ _ m14 pq 16:=b0 ["one","other","beside_here","beside_there"] [] K08.nP m (fk (f:=154) (fd:=XR) (ps:=["one","other"]) X G rfl);replace m:MO _ _ _ _ _ _ _ m15 g15 17:=b0 ["one","other"] [] K08.vA m (fk (f:=133) (fd:=MU) (ps:=["one","other"]) X G rfl);replace m:MO _ _ _ _ _ _ _ m16 ni 18:=b0 ["strands","number","one","other"] [] K08.nN m (p4 (f:=126) (fd:=XT) (ps:=["strands"]) X G rfl);replace m:MO _ _ _ _ _ _ _ m17 g17 19:=b0 [zj,"rows","wide","high","heaps","astray","strands","torn"] [] K08.uZ m (dn5 (f:=98) (fd:=MV) (ps:=[zj,"rows","wide","high","heaps"]) X G rfl);replace m:MO _ _ _ _ _ _ _ m18 g18 20:=b0 ["script","k"] [] Pg.nO m (fk (f:=161) (fd:=XN) (ps:=["script","k"]) X G rfl);replace m:MO _ _ _ _ _ _ _ m19 g19 21:=b0 ["found"] [] Pg.uT m (p4 (f:=168) (fd:=NJ) (ps:=["found"]) X G rfl);replace m:MO _ _ _ _ _ _ _ m20 g20 22:=b0 ["cell","way","more"] [] Pg.gC m (p4 (f:=175) (fd:=XQ) (ps:=["cell"]) X G rfl);replace m:MO _ _ _ _ _ _ _ m21 g21 23:=b0 [zj,"rows"] [] Pg.uX m (fk (f:=180) (fd:=NC) (ps:=[zj,"rows"]) X G rfl);replace m:MO _ _ _ _ _ _ _ m22 tm 24:=b0 ["one","fold","grown","top","low","side","over","crease","along","far","gap","place","spot"] ["spot"] Pg.pO m (dn5 (f:=187) (fd:=MZ) (ps:=["one","fold","grown","top","low"]) X G rfl);replace m:MO _ _ _ _ _ _ _ m23 g23 25:=b0 ["spots","fold","along","extent","grown","top","low"] [] Pg.hG m (fk (f:=192) (fd:=XI) (ps:=["spots","fold"]) X G rfl);replace m:MO _ _ _ _ _ _ _ m24 g24 26:=b0 ["cell","wide","high","level","extent","sides"] [] Pg.kC m (dn3 (f:=199) (fd:=XO) (ps:=["cell","wide","high"]) X G rfl);replace m:MO _ _ _ _ _ _ _ m25 g25 27:=b0 ["spots","wide","high","k","out","depth"] [] K08.uY m (p4 (f:=204) (fd:=NF) (ps:=["spots"]) X G rfl);replace m:MO _ _ _ _ _ _ _ m26 g26 28:=b0 [zj,"rows","out","k"] ["out"] K08.AS m (fk (f:=211) (fd:=MX) (ps:=[zj,"rows"]) X G rfl);replace m:MO _ _ _ _ _ _ _ m27 g27 29:=b0 ["one","level"] [] K08.AV m (fk (f:=218) (fd:=MY) (ps:=["one","level"]) X G rfl);replace m:MO _ _ _ _ _ _ _ m28 tj 30:=b0 ["one","level"] [] K08.AW m (fk (f:=225) (fd:=XU) (ps:=["one","level"]) X G rfl);replace m:MO _ _ _ _ _ _ _ m29 g29 31:=b0 ["one","other","level"] [] K08.AU m (dn3 (f:=232) (fd:=NA) (ps:=["one","other","level"]) X G rfl);replace m:MO _ _ _ _ _ _ _ m30 g30 32:=b0 ["one","other","level","line","along","low","high"] [] K08.uW m (t6 (f:=237) (fd:=NL) (ps:=["one","other","level","line"]) X G rfl);replace m:MO _ _ _ _ _ _ _ m31 g31 33:=b0 ["layer","bend"] [] K08.qT m (fk (f:=244) (fd:=XJ) (ps:=["layer","bend"]) X G rfl);replace m:MO _ _ _ _ _ _ _ m32 g32 34:=b0 ["low","other"] [] K08.vB m (fk (f:=251) (fd:=NM) (ps:=["low","other"]) X G rfl);replace m:MO _ _ _ _ _ _ _ m33 g33 35:=b0 ["one","other"] [] K08.nK m (fk (f:=258) (fd:=XM) (ps:=["one","other"]) X G rfl);replace m:MO _ _ _ _ _ _ _ m34 sE 36:=b0 ["heaps","at","way","heap","k","out"] ["out"] K08.qS m (dn3 (f:=263) (fd:=NP) (ps:=["heaps","at","way"]) X G rfl);replace m:MO _ _ _ _ _ _ _ m35 g35 37:=b0 ["heaps","at","way","count","out","first","other","k","names","odd","turn","j"] [] K08.jJ m (t6 (f:=268) (fd:=NO) (ps:=["heaps","at","way","count"]) X G rfl);replace m:MO _ _ _ _ _ _ _ m36 g36 38:=b0 ["heaps","wide","high","cell","at","out","y","row"] [] K08.uS m (t6 (f:=273) (fd:=NK) (ps:=["heaps","wide","high","cell"]) X G rfl);replace m:MO _ _ _ _ _ _ _ m37 j7 39:=b0 ["count","wide","heaps","k","out","place","layer","east","north"] [] K08.qR m (dn3 (f:=278) (fd:=XH) (ps:=["count","wide","heaps"]) X G rfl);replace m:MO _ _ _ _ _ _ _ m38 g38 40:=b0 [zj,"rows","wide","heaps","spots","k","found","first","second","level","one","other","line","place"] ["found"] K08.MB m (t6 (f:=285) (fd:=MW) (ps:=[zj,"rows","wide","heaps"]) X G rfl);replace m:MO _ _ _ _ _ _ _ qk f9 41:=b0 ["found","due","part"] [] K08.kD m (fk (f:=292) (fd:=NI) (ps:=["found","due"]) X G rfl);exact aBs (aBo m (YT X G)) zu
def walk{l:PySem.W.OpenLaw}{q:xt}{loose:List Str}{XP:(xw)->Heap->Prop}{YP:World->Heap->Prop}{d:DefRec}{K:Params->xq}(hn:l.most=U 63)(I:d.params.defaults=[]) (R:∀(w:World) (h:Heap),YP w h->(K w.params).In h) (F:∀(w:World) (mg:xw) (fa:Addr) (h:Heap),(K w.params).In h->h.Ns mainGlobals mg->mg d.name=U (.ref fa) ->∃fd:xr,(∀(s:Shared) (u:Value),BindsTo s fd ⟨[u],[]⟩ [("script",u)])/\∀base:Heap,(K w.params).In base->base.Ns mainGlobals mg->FnOk l.prog w (K w.params) mg base oa 60 fa fd ["script"] (wK (K w.params))):PySem.W.WalkO q loose XP YP l.row.toRowW d [] (λf vs=>PySem.call f vs):=L2.QD (n:=63) (k:=60) (x:="script") (CX:=λ_=>oa) (sp:=λw=>wK (K w.params)) hn zu I ⟨rfl,zu,zu⟩ R F (λ_ _ a ns hl _ hS=>⟨a,ns,rfl,hS,hl,λ_=>rfl⟩) λ_ _ _ _ _ z=>z
end Toy
open PySem PySem.W PyProof.Rows
set_option maxRecDepth 100000 in
set_option maxHeartbeats 0 in
theorem PySem.Challenge.cw_leaffold_k08_fault_holds : PySem.Challenge.rw_leaffold_k08_fault.Holds := by
 w_on;refine holds_law (by kernel_rfl) fun said=>?_
 refine holds_open (q:=Toy.vw) (loose:=[]) (Xt:=Toy.Xt) (XP:=XL Toy.vw []) (Yf:=Hook.obs Toy.HH) (Ya:=Hook.val Toy.HH) (YP:=Hook.says Toy.HH) (N:=3386) Toy.left (Hook.of Toy.HH) (Hook.keeps Toy.HH) (fun s e=>xl_of s (Bool.and_eq_true_iff.mp e).1) XL.keeps (by rfl) (by rfl) (by rfl) (fun s e=>recFacts_of (Bool.and_eq_true_iff.mp e).2) (by rfl) (by first|assumption|decide +kernel) (by decide +kernel) ⟨rfl,rfl,rfl,rfl,rfl,by decide +kernel⟩ ?hw ?hc
 case hw=>w_witness2
 case hc=>exact Toy.walk (l:=Toy.lw) (K:=Toy.KK) rfl rfl (fun w h Y=>PySem.W.kIn_of Y) fun w mg fa h KX G ja=>Toy.all_mk KX G ja
