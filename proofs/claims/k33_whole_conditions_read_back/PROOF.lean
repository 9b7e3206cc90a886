import PyProof.Rows.All
import Wide.All
import OpenK.AllK
import Wide.FinOn
import Lean
import PyProof.EqAt
import PyProof.EqKinds
import PyProof.TupleCall
import PyProof.StationsW
import KE.IntBitsLaws
import PyProof.ExcClass2
import PyProof.ExcInit
import PyProof.InstStoreFacts
import PyProof.ExcArgsOwn
import PyProof.ExcAttrAll.ValueError
import KE.KNestM
import KE.IntTextLaws
import KE.KIsAll
import PyProof.Rows.EqDataRows
import PyProof.StrCalls2
import PyProof.Rows.StrSplitJoin
import KE.KIntText
import PyProof.StrBlockI
import PyProof.StrLawsIn
import PyProof.StrLawsIdx
import KE.KRevIter
import KE.KLam
import KE.KSortTup
import PyProof.Rows.SortWalk
import PyProof.Conv_int_bool
import PyProof.Logic
import PyProof.StrLawsChain
import PyProof.StrLawsTight
import PySem.Challenge.RW_weather_k33_whole_conditions_read_back
set_option linter.all false
def ak:=@List.length_cons
def aq:=@List.length_append
def au:=@if_pos
def az:=@List.length_map
def aA:=@if_neg
def aB:=@Nat.le_refl
def aC:=@decide_eq_false
def aD:=@PySem.wpAny_bind
def aF:=@PySem.Heap.get?_push_of_some
def aG:=@Nat.lt_of_lt_of_le
def aH:=@PySem.F.plainAttrs_list
def aJ:=@Nat.le_trans
def aK:=@Bool.and_eq_true
def aL:=@List.cons.injEq
def aM:=@decide_eq_true_eq
def aN:=@List.getElem?_eq_getElem
def aO:=@List.getElem?_map
def aP:=@decide_eq_true
def aQ:=@List.getElem?_set_ne
def aR:=@List.map_cons
def aU:=@Bool.false_ne_true
def aV:=@congrArg
def aW:=@List.mem_cons_of_mem
def aX:=@List.getElem?_set_self
def aY:=@List.size_toArray
def aZ:=@List.append_assoc
def bc:=@List.getElem?_append_left
def bf:=@PySem.wpAny_pure
def bh:=@List.getElem?_append_right
def bj:=@PySem.F.slot_list_append
def bu:=@List.length_nil
def bw:=@PySem.F.type_list_append
def bz:=@List.append_nil
def bA:=@PySem.F.slot_list_pop
def bB:=@PySem.F.plainAttrs_str
def bC:=@PySem.Heap.get?_push_size
def bD:=@List.mem_append_right
def bF:=@List.length_singleton
def bG:=@PySem.F.type_list_pop
def bH:=@List.mem_cons_self
def bJ:=@List.length_replicate
def bK:=@Nat.le_of_ble_eq_true
def bL:=@PySem.wpAny_loadPart_at
def bM:=@Bool.or_eq_true
def bN:=@PySem.wpAny_mono
def bO:=@Nat.ne_of_lt
def bQ:=@Bool.eq_iff_iff
def bR:=@List.mem_singleton
def bU:=@List.map_append
def bV:=@List.nil_append
def bW:=@decide_false
def bY:=@List.getElem?_replicate
def bZ:=@decide_true
def b7:=@PySem.mem_of_lookup
def b8:=@Nat.lt_succ_self
def cj:=@List.filter_cons
def cu:=@List.getD_eq_getElem?_getD
def cA:=@Int.eq_ofNat_of_zero_le
def cB:=@List.any_cons
def cD:=@List.drop_eq_getElem_cons
def cF:=@List.all_cons
def cG:=@cond_false
def cH:=@Bool.and_true
def cI:=@List.length_set
def cJ:=@List.dropLast_concat_getLast
def cL:=@List.mem_append
def cM:=@List.length_take
def cN:=@PySem.Heap.get?_update_other
def cP:=@PySem.F.slot_str_count
def cQ:=@PySem.F.type_str_count
def cR:=@List.all_nil
def cT:=@List.length_drop
def cU:=@List.cons_append
def cV:=@Nat.ble_eq
def cX:=@PySem.sizeLine_eq
def cY:=@Ne.symm
def cZ:=@List.flatMap_cons
def c7:=@PySem.wpAny_execs_nil
def dh:=@PySem.wpAny_isSubtype_exc
def dj:=@PySem.F.slot_str_split
def dm:=@List.drop_eq_nil_of_le
def dq:=@Nat.lt_irrefl
def du:=@List.filter_append
def dw:=@PySem.wpAny_passesOwn
def dB:=@List.find?_cons
def dD:=@List.mem_append_left
def dF:=@PySem.wpAny_truthy_bool
def dG:=@if_true
def dH:=@PySem.wpAny_newObj_type
def dI:=@List.map_map
def dJ:=@Int.toNat_natCast
def dM:=@ne_true_of_eq_false
def dN:=@PySem.wpAny_getItem_str_slice
def dO:=@List.all_eq_true
def dR:=@Option.bind_some
def dU:=@List.lookup_cons
def dW:=@cond_true
def dX:=@Nat.le_max_right
def dY:=@Nat.zero_le
def dZ:=@List.eq_nil_of_length_eq_zero
def d7:=@PySem.wpAny_Call_Name_kw
def d8:=@List.contains_cons
def d9:=@Nat.le_max_left
def eE:=@PySem.Heap.get?_update_self
def eF:=@Nat.ble_eq_true_of_le
def eG:=@Bool.not_eq_true'
def eN:=@PySem.F.typeOf_object_class
def eQ:=@PySem.Heap.get?_none_of_le
def eU:=@Nat.le_succ
def eV:=@List.mem_of_getElem?
def eX:=@PySem.wpAny_field
def eY:=@List.replicate_succ
def eZ:=@List.map_congr_left
def fB:=@if_false
def fC:=@List.mem_cons
def fD:=@List.eq_of_mem_replicate
def fG:=@PySem.Calls.Constant_str
def fH:=@PySem.Obj.data_mapFields
def fJ:=@decide_eq_false_iff_not
def fK:=@PySem.codeAny_mono
def fL:=@PySem.Calls.callWith_builtin
def fM:=@List.map_nil
def fO:=@PySem.F.type_str_split
def fP:=@PySem.plainObj_wpAny_Assign_Attribute
def fQ:=@PyProof.Rows.slot_tuple_getitem
def fU:=@PySem.Obj.isFreed_of_fields
def fV:=@PySem.StrLaws.glued_eq_join
def fW:=@List.length_filter_le
def fX:=@PySem.wpAny_execs_cons
def fY:=@PySem.typeIs_str
def fZ:=@List.getElem_mem
def f9:=@Int.mul_le_mul_of_nonneg_right
def gf:=@Bool.or_false
def gh:=@PySem.wpAny_standAt
def gj:=@PySem.wpAny_loadName_local
def gm:=@PySem.codeAny_call_builtin
def gq:=@Nat.pow_le_pow_right
def gr:=@List.mem_of_mem_drop
def gw:=@List.mem_of_mem_take
def gA:=@PySem.post_val_or_str
def gB:=@PySem.Str.ofString_eq_toList
def gC:=@List.sum_append
def gD:=@List.filterMap_cons
def gF:=@Array.length_toList
def gG:=@PyProof.Rows.callWith_type1
def gH:=@PySem.W.callWith_K
def gJ:=@Bool.or_true
def gK:=@PySem.Txt.slice_le
def gM:=@PySem.F.slot_str_startswith
def gO:=@PySem.F.type_str_startswith
def gP:=@PySem.W.kia_one
def gQ:=@gt_iff_lt
def gR:=@PySem.Calls.Name_function_global
def gU:=@PySem.Calls.spliced_cons
def gW:=@beq_iff_eq
def gY:=@PySem.Code.quiet_builtin
def gZ:=@PySem.F.excBase_ValueError
def ie:=@PySem.F.args_str_split_2
def ig:=@Int.eq_of_mul_eq_mul_right
def ik:=@Int.emod_lt_of_pos
def il:=@Int.cast_ofNat_Int
def ir:=@PySem.wpAny_Assign_Name
def iu:=@PySem.F.entry_str_split
def iw:=@Bool.eq_false_iff
def iy:=@of_decide_eq_true
def iz:=@List.length_range
def iC:=@Int.mul_assoc
def iD:=@Nat.min_le_right
def iG:=@List.not_mem_nil
def iH:=@PySem.wpAny_Name
def iI:=@Nat.ne_of_gt
def iJ:=@PySem.wpAny_call
def iK:=@PySem.call_meets
def iM:=@Nat.lt_trans
def iQ:=@Int.le_of_lt
def iR:=@Nat.le_mul_of_pos_left
def iU:=@List.drop_of_length_le
def iV:=@List.take_of_length_le
def iW:=@List.any_nil
def iY:=@List.of_mem_zip
def iZ:=@Int.emod_nonneg
def jb:=@Nat.not_lt_zero
def jc:=@Array.getElem?_toList
def jd:=@List.getElem?_eq_none
def je:=@List.take_append_drop
def jf:=@PySem.Heap.size_push
def jg:=@PySem.wpAny_setField
def jh:=@PySem.F.store_object
def ji:=@Bool.or_eq_false_iff
def jk:=@Int.natAbs_mul
def jl:=@List.dropLast_concat
def jm:=@Nat.le_of_lt
def jr:=@Int.mul_comm
def jt:=@List.all_map
def ju:=@false_and
def jw:=@Int.mul_one
def jx:=@true_and
abbrev oR:List PySem.Str:=["tokens"]
abbrev rC:List PySem.Str:=["self","row"]
abbrev sJ:List PySem.Str:=["self"]
abbrev xB:List PySem.Str:=["self","places"]
abbrev zK:List PySem.Str:=["self","token"]
abbrev zL:List PySem.Str:=["self","bracket"]
abbrev Dt:List PySem.Str:=["_law_one"]
abbrev Du:List PySem.Str:=["_law_one","_law_other","_law_sign"]
abbrev Gu:List PySem.Str:=["_law_one","_law_least","_law_brackets"]
abbrev Jm:List PySem.Str:=["_law_found","_law_due"]
abbrev Ss:List PySem.Str:=["_law_script","_law_k"]
abbrev Su:List PySem.Str:=["_law_one","_law_other","_law_word"]
abbrev Yh:List PySem.Str:=["_law_top","_law_bottom"]
abbrev Yi:List PySem.Str:=["_law_head","_law_cell"]
abbrev Yj:List PySem.Str:=["_law_terms","_law_conds"]
abbrev Yk:List PySem.Str:=["_law_state","_law_cell","_law_head"]
abbrev Yl:List PySem.Str:=["_law_state","_law_word"]
abbrev Ym:List PySem.Str:=["_law_head","_law_cells","_law_word"]
abbrev Yn:List PySem.Str:=["_law_text","_law_cell"]
abbrev Yo:List PySem.Str:=["_law_text","_law_pair","_law_due"]
abbrev mW:=PySem.Value->PySem.Shared->Prop
abbrev nO:=PySem.Str->Option PySem.Value
abbrev Qq:Nat:=10000000000000000000000000000000000000000000000000000000000000000000000000000000000000000000000000000000000000000000000000000000000000000000000000000000000000000000000000000000000000000000000000000000000000000000000000000000000000000000000000000000000000000000000000000000000000000000000000000000000000000000000000000000000000000000000000000000000000000000000000000000000000000000000000000000000000000
noncomputable section
set_option Elab.async false
set_option maxRecDepth 100000
namespace L2
open PySem PySem.Spec PyProof.Rows
abbrev Key:=Sum Int Str
def Jh:Key->Value->Bool
 |.inl k,v=>Value.isInt k v
 |.inr x,v=>Value.isStrOf x v
def amx(w:World):Key->Int
 |.inl k=>hashInt k
 |.inr x=>hashStr w x
def Bg:∀{k} {v},Jh k v=true->(∃i t,k=Sum.inl i/\v=Value.int i t)\/(∃x t,k=Sum.inr x/\v=Value.str x t)
 |.inl i,v,h=>by obtain⟨t,e⟩:=Value.isInt_shape (k:=i) (v:=v) h;exact .inl ⟨i,t,rfl,e⟩
 |.inr x,v,h=>by obtain⟨t,e⟩:=Value.isStrOf_shape (x:=x) (v:=v) h;exact .inr ⟨x,t,rfl,e⟩
def amy(i:Int)(t):Jh (.inl i) (.int i t)=true:=by simp[Jh,Value.isInt]
def amz(x t):Jh (.inr x) (.str x t)=true:=by simp[Jh,Value.isStrOf]
def amB(a b:Int):decide ((Sum.inl a:Key)=Sum.inl b)=(a==b):=by
 by_cases e:a=b;·subst e;simp
 ·have h:¬(Sum.inl a:Key)=Sum.inl b:=λq=>e (Sum.inl.inj q);rw[aC h];exact(beq_eq_false_iff_ne.mpr e).symm
def amE(a b):decide ((Sum.inr a:Key)=Sum.inr b)=decide (a=b):=by
 by_cases e:a=b;·subst e;simp
 ·have h:¬(Sum.inr a:Key)=Sum.inr b:=λq=>e (Sum.inr.inj q);rw[aC h,aC e]
def amC(a:Int)(b):decide ((Sum.inl a:Key)=Sum.inr b)=false:=aC (λq=>nomatch q)
def amD(a)(b:Int):decide ((Sum.inr a:Key)=Sum.inl b)=false:=aC (λq=>nomatch q)
def u6(prog:Program)(w:World):PySem.KeyKind prog w Key where
 is:=Jh
 hash:=amx w
 inj:=λv a b ha hb=>by
  rcases Bg ha with⟨i,t,rfl,rfl⟩|⟨x,t,rfl,rfl⟩
  ·rcases Bg hb with⟨j,u,rfl,e⟩|⟨y,u,rfl,e⟩;·injection e with e1 _;rw[e1]
   ·exact nomatch e
  ·rcases Bg hb with⟨j,u,rfl,e⟩|⟨y,u,rfl,e⟩;·exact nomatch e
   ·injection e with e1 _;rw[e1]
 byValue:=λk v h=>by rcases Bg h with⟨i,t,rfl,rfl⟩|⟨x,t,rfl,rfl⟩<;>rfl
 pyHash:=λhv h=>by
  rcases Bg hv with⟨i,t,rfl,rfl⟩|⟨x,t,rfl,rfl⟩;·exact wpAny_pyHash_int h
  ·exact wpAny_pyHash_str h
 eqBool:=λhu hv h=>by
  rcases Bg hu with⟨i,t,rfl,rfl⟩|⟨x,t,rfl,rfl⟩
  ·rcases Bg hv with⟨j,u,rfl,rfl⟩|⟨y,u,rfl,rfl⟩;·rw[amB]at h;exact wpAny_eqBool_int h
   ·rw[amC]at h;exact SeqAt.EqAt.int_str i t y u _ _ _ _ h
  ·rcases Bg hv with⟨j,u,rfl,rfl⟩|⟨y,u,rfl,rfl⟩;·rw[amD]at h;exact SeqAt.EqAt.str_int x t j u _ _ _ _ h
   ·rw[amE]at h;exact wpAny_eqBool_str h
 «strs»:=λk x t v h=>by
  rcases Bg h with⟨i,u,rfl,e⟩|⟨y,u,rfl,e⟩;·exact nomatch e
  ·injection e with e1 _;subst e1;cases v<;>rfl
def anB(prog w)(i:Int)(t):(u6 prog w).is (.inl i) (.int i t)=true:=amy i t
def anC(prog w x t):(u6 prog w).is (.inr x) (.str x t)=true:=amz x t
inductive V where
 |non|bl(b:Bool)|int(i:Int)|str(x:Str)|vP(b:Array UInt8)|flt(b:UInt64)|ref(a:Addr)|ty(n:String)
 deriving DecidableEq
def RelV:V->Value->Prop
 |.non,u=>u=Value.none
 |.bl b,u=>u=Value.bool b
 |.int i,u=>∃t,u=Value.int i t
 |.str x,u=>∃t,u=Value.str x t
 |.vP b,u=>∃t,u=Value.bytes b t
 |.flt b,u=>∃t,u=Value.float b t
 |.ref a,u=>u=Value.ref a
 |.ty n,u=>u=Value.type n
abbrev Vals:List V->List Value->Prop:=Paired RelV
def Vals.length{xs:List V}{us:List Value}(r:Vals xs us):xs.length=us.length:=Paired.length r
theorem Vals.get:∀{xs:List V} {us:List Value} {i:Nat} {x:V},Vals xs us->xs[i]?=some x->∃u,us[i]?=some u/\RelV x u
 |_,_,_,_,.nil,e=>by simp at e
 |_,_,0,_,.cons r _,e=>by simp at e;subst e;exact⟨_,rfl,r⟩
 |_,_,i+1,x,.cons _ t,e=>by obtain⟨u,h1,h2⟩:=Vals.get (i:=i) (x:=x) t (by simpa using e);exact⟨u,by simpa using h1,h2⟩
theorem Vals.append:∀{xs ys} {us ws},Vals xs us->Vals ys ws->Vals (xs++ys) (us++ws)
 |_,_,_,_,.nil,s=>s
 |_,_,_,_,.cons r t,s=>.cons r (Vals.append t s)
theorem Vals.take:∀{xs} {us} n,Vals xs us->Vals (xs.take n) (us.take n)
 |_,_,0,_=>.nil
 |_,_,_+1,.nil=>.nil
 |_,_,n+1,.cons r t=>.cons r (Vals.take n t)
theorem Vals.drop:∀{xs} {us} n,Vals xs us->Vals (xs.drop n) (us.drop n)
 |_,_,0,r=>r
 |_,_,_+1,.nil=>.nil
 |_,_,n+1,.cons _ t=>Vals.drop n t
def tX:Option V->Option Value->Prop
 |some v,some u=>RelV v u
 |none,none=>True
 |_,_=>False
def KV{κ:Type}:List (κ×V)->List (κ×Value)->Prop:=Paired λ(p:κ×V) (q:κ×Value)=>p.1=q.1/\RelV p.2 q.2
def kV:Key->V
 |.inl i=>.int i
 |.inr x=>.str x
inductive HO where
  /-- a list -/
 |lst(xs:List V)
  /-- a tuple (never changes) -/
 |tup(xs:List V)
  /-- a dict whose keys are ints and texts; one whose keys are tuples of ints and texts (the empty one is both) -/
 |dK(kvs:List<|Key×V)|dT(kvs:List<|List Key×V)
  /-- a set of ints: its members, its size -/
 |set(S:Int->Bool)(n:Nat)
  /-- an instance of the class at C, its dict at dx, its attributes -/
 |ins(C dx:Addr)(fs:List<|Str×V)
  /-- the dict of the instance at x -/
 |own(x:Addr)
  /-- the dict of an exception -/
 |xd(fs:List<|Str×V)
  /-- a bound method, f of x -/
 |met(f x:Addr)
  /-- a range object lo, lo + 1, .. below hi -/
 |Ua(lo hi:Int)
  /-- a thing that is known to the object (the script; a dict while a loop walks it): read, never written while it is so -/
 |vV(o:Obj)(u:HO)
  /-- a code object's table -/
 |rE(ps:Array Value)
  /-- any other thing, by what is true of its one object (a def of one's own: SetO a S n := HO.ext λh => ..) -/
 |ext(φ:Heap->Prop)
abbrev Hp:=Addr->Option HO
def upd(H:Hp)(a:Addr)(o:HO):Hp:=λb=>if b=a then some o else H b
def ql:upd H a o a=some o:=by unfold upd;rw[au rfl]
def mz(h:b≠a):upd H a o b=H b:=by unfold upd;rw[aA h]
def anO{H:Hp}{u}(h:H a=some o)(h':H b=some u)(d:o≠u):a≠b:=by intro e;subst e;rw[h]at h';exact d (Option.some.inj h')
def yx{H:Hp}(h:H a=some o)(h':H b=none):a≠b:=by intro e;subst e;rw[h]at h';cases h'
section
variable(P:Program)(w:World)
def qL(H:Hp)(h:Heap)(a:Addr):HO->Prop
 |.lst xs=>xs.length<=sizeLine/\∃its n,Vals xs its/\h.get? a=some {cls:=.type "list",data:=.seq its.toArray n}
 |.tup xs=>xs.length<=sizeLine/\∃its:List Value,Vals xs its/\IsTup h a its.toArray
 |.dK kvs=>kvs.length<=sizeLine/\(a==sysModules)=false/\∃vs,KV kvs vs/\h.DictOf (u6 P w) a vs
 |.dT kvs=>kvs.length<=sizeLine/\(a==sysModules)=false/\∃xs:List (List Key×Addr×Value),
   Paired (λ(p:List Key×V) (q:List Key×Addr×Value)=>p.1=q.1/\H q.2.1=some (.tup<|p.1.map kV)/\RelV p.2 q.2.2) kvs xs/\
   ∃o es ep,h.get? a=some o/\o.ExactDict/\o.data=.dict es ep/\es.toList=xs.map (entryOfKey<|tupleKind<|u6 P w)/\(xs.map (·.1)).Nodup
 |.set S n=>h.SetOf (intKind P w) a S n
 |.ins C dx fs=>H dx=some (.own a)/\fs.length<=1000/\dx≠a/\h.get? a=some (W.instObj C dx)/\
   ∃mA,h.Ns1 dx mA/\(∀f,tX (fs.lookup f)<|mA f)/\PySem.Within mA (fs.map (·.1))
 |.own _=>∃o,h.get? a=some o
 |.xd fs=>∃mA,h.Ns1 a mA/\∀f,tX (fs.lookup f) (mA f)
 |.Ua lo hi=>∃t u v,h.get? a=some {cls:=.type "range",data:=.fields #[.int lo t,.int hi u,.int 1 v]}
 |.vV o u=>h.get? a=some o/\qL H h a u
 |.rE ps=>h.get? a=some {cls:=.none,data:=.fields ps}
 |.met f x=>h.get? a=some (W.methodObj (.ref f)<|.ref x)
 |.ext φ=>φ h/\(∃o,h.get? a=some o)/\∀h1 h2:Heap,φ h1->(∀o,h1.get? a=some o->h2.get? a=some o)->φ h2
def ph(H:Hp)(h:Heap):Prop:=∀a o,H a=some o->qL P w H h a o
end
section
variable{P:Program}{w:World}{H H':Hp}{h h':Heap}{a:Addr}{o:HO}
def qL.lt(x:qL P w H h a o):a<h.objs.size:=by
 cases o with
 |lst xs=>obtain⟨_,_,_,_,e⟩:=x;exact Heap.lt_size e
 |tup xs=>obtain⟨_,_,_,p⟩:=x;exact p.lt
 |dK kvs=>obtain⟨_,_,_,_,o,_,_,e,_⟩:=x;exact Heap.lt_size e
 |dT kvs=>obtain⟨_,_,_,_,o,_,_,e,_⟩:=x;exact Heap.lt_size e
 |set S n=>obtain⟨o,_,_,_,e,_⟩:=x;exact Heap.lt_size e
 |ins C dx fs=>obtain⟨_,_,_,e,_⟩:=x;exact Heap.lt_size e
 |own y=>obtain⟨_,e⟩:=x;exact Heap.lt_size e
 |xd fs=>obtain⟨_,⟨_,_,_,e,_⟩,_⟩:=x;exact Heap.lt_size e
 |Ua lo hi=>obtain⟨_,_,_,e⟩:=x;exact Heap.lt_size e
 |vV ob u=>obtain⟨e,_⟩:=x;exact Heap.lt_size e
 |rE ps=>exact Heap.lt_size (show h.get? a=some _ from x)
 |met f y=>exact Heap.lt_size (show h.get? a=some _ from x)
 |ext φ=>obtain⟨_,⟨_,e⟩,_⟩:=x;exact Heap.lt_size e
theorem Paired.tK{α β:Type}{F G:α->β->Prop}:∀{afk:List α} {afl:List β},Paired F afk afl->(∀a b,F a b->G a b)->Paired G afk afl
 |_,_,.nil,_=>.nil
 |_,_,.cons r t,f=>.cons (f _ _ r) (Paired.tK t f)
def qL.Bx(x:qL P w H h a o)(k:∀b u,(b=a\/H b=some (.own a))->h.get? b=some u->h'.get? b=some u)
    (ho:∀b,H b=some (.own a)->H' b=some (.own a))(ht:∀b xs,H b=some (.tup xs)->H' b=some (.tup xs)):qL P w H' h' a o:=by
 induction o with
 |lst xs=>obtain⟨z,its,n,r,e⟩:=x;exact⟨z,its,n,r,k _ _ (.inl rfl) e⟩
 |tup xs=>obtain⟨z,its,r,ob,e,c⟩:=x;exact⟨z,its,r,ob,k _ _ (.inl rfl) e,c⟩
 |dK kvs=>obtain⟨z,y,vs,r,ob,es,ep,e,c⟩:=x;exact⟨z,y,vs,r,ob,es,ep,k _ _ (.inl rfl) e,c⟩
 |dT kvs=>obtain⟨z,y,xs,r,ob,es,ep,e,c⟩:=x;exact⟨z,y,xs,Paired.tK r λp q z=>⟨z.1,ht _ _ z.2.1,z.2.2⟩,ob,es,ep,k _ _ (.inl rfl) e,c⟩
 |set S n=>obtain⟨ob,es,ep,t,e,c⟩:=x;exact⟨ob,es,ep,t,k _ _ (.inl rfl) e,c⟩
 |ins C dx fs=>obtain⟨d,z,ne,e,mA,⟨od,es,ep,e2,c⟩,r⟩:=x;exact⟨ho _ d,z,ne,k _ _ (.inl rfl) e,mA,⟨od,es,ep,k _ _ (.inr d) e2,c⟩,r⟩
 |own y=>obtain⟨ob,e⟩:=x;exact⟨ob,k _ _ (.inl rfl) e⟩
 |xd fs=>obtain⟨mA,⟨od,es,ep,e,c⟩,r⟩:=x;exact⟨mA,⟨od,es,ep,k _ _ (.inl rfl) e,c⟩,r⟩
 |Ua lo hi=>obtain⟨t,u,v,e⟩:=x;exact⟨t,u,v,k _ _ (.inl rfl) e⟩
 |vV ob u ih=>obtain⟨e,q⟩:=x;exact⟨k _ _ (.inl rfl) e,ih q⟩
 |rE ps=>have e:h.get? a=some {cls:=.none,data:=.fields ps}:=x;show h'.get? a=some {cls:=.none,data:=.fields ps};exact k a _ (.inl rfl) e
 |met f y=>have e:h.get? a=some (W.methodObj (.ref f)<|.ref y):=x;show h'.get? a=some (W.methodObj (.ref f)<|.ref y);exact k a _ (.inl rfl) e
 |ext φ=>obtain⟨p,⟨o,e⟩,st⟩:=x;exact⟨st _ _ p λo q=>k _ _ (.inl rfl) q,⟨o,k _ _ (.inl rfl) e⟩,st⟩
def ph.lt(x:ph P w H h)(e:H a=some o):a<h.objs.size:=(x a o e).lt
def ph.fresh(x:ph P w H h)(e:h.objs.size<=a):H a=none:=by
 cases q:H a with
 |none=>rfl
 |some u=>exact absurd (aG (x.lt q) e) (dq _)
def ph.kept(x:ph P w H h)(k:∀b u,h.get? b=some u->h'.get? b=some u):ph P w H h':=λa o e=>(x a o e).Bx (λb u _ q=>k b u q) (λ_ q=>q) λ_ _ q=>q
def ph.laid(x:ph P w H h)(k:∀b u,h.get? b=some u->h'.get? b=some u)(hp:h.objs.size<=a)(new:qL P w (upd H a o) h' a o):ph P w (upd H a o) h':=λb u e=>by
 have hn:=x.fresh hp;by_cases hb:b=a;·subst hb;rw[ql]at e;cases e;exact new
 ·rw[mz hb]at e;exact(x b u e).Bx (λc v _ q=>k c v q) (λc q=>by rw[mz<|yx q hn];exact q) λc xs q=>by rw[mz<|yx q hn];exact q
end
def Rd(H:Hp)(a:Addr)(u:HO):Prop:=H a=some u\/∃o,H a=some (.vV o u)
def Rd.ok{w u}(r:Rd H a u)(x:ph P w H h):qL P w H h a u:=by
 rcases r with r|⟨o,r⟩;·exact x a u r
 ·obtain⟨_,q⟩:=x a _ r;exact q
def KJ:Option HO->Prop
 |some (.lst _)=>True
 |some (.dK _)=>True
 |some (.dT _)=>True
 |some (.set _ _)=>True
 |some (.ins _ _ _)=>True
 |some (.ext _)=>True
 |_=>False
section
variable{P:Program}{w:World}{H:Hp}{h h':Heap}{x e:Addr}{o':HO}
def ph.write(ok:ph P w H h)(mu:KJ<|H x)(he:e=x\/H e=some (.own x))(k:∀b u,b≠e->h.get? b=some u->h'.get? b=some u)(heo:∃u,h'.get? e=some u)
 (new:qL P w (upd H x o') h' x o'):ph P w (upd H x o') h':=λb u q=>by
  have afz:∀c y,H c=some (.own y)->c≠x:=λc y r z=>by subst z;rw[r]at mu;exact mu
  have anY:∀c xs,H c=some (.tup xs)->c≠x:=λc xs r z=>by subst z;rw[r]at mu;exact mu
  by_cases hb:b=x;·subst hb;rw[ql]at q;cases q;exact new
  ·rw[mz hb]at q;by_cases hbe:b=e
   ·have q':H b=some (.own x):=by
     rcases he with z|z;·exact absurd (hbe.trans z) hb
     ·rw[hbe];exact z
    rw[q]at q';cases q';obtain⟨v,hv⟩:=heo;exact⟨v,by rw[hbe];exact hv⟩
   ·refine(ok b u q).Bx (λc v hc r=>k c v ?_ r) (λc r=>by rw[mz<|afz c b r];exact r) λc xs r=>by rw[mz<|anY c xs r];exact r
    rcases hc with rfl|hc;·exact hbe
    ·rintro rfl
     rcases he with z|z;·exact afz c b hc z
     ·rw[hc]at z;cases z;exact hb rfl
end
structure Un(fs ex:List Addr)(H H':Hp)(h h':Heap):Prop where
 keep:∀b o,h.get? b=some o->H b=none->b∉fs->b∉ex->h'.get? b=some o
 slot:∀b o,h.get? b=some o->H b=none->b∈fs->b∉ex->∃sl,h'.get? b=some {o with slots:=sl}
 free:∀b o,h.get? b=some o->H b=none->b∉ex->H' b=none
 there:∀b o,h.get? b=some o->b∉ex->∃o',h'.get? b=some o'
 tups:∀b xs,H b=some (.tup xs)->H' b=some (.tup xs)
 wI:∀b o u,H b=some (.vV o u)->H' b=some (.vV o u)
 wQ:∀b ps,H b=some (.rE ps)->∃more,H' b=some (.rE<|ps++more)
section
variable{fs Ij ex ex':List Addr}{H H1 H2:Hp}{h h1 h2 h':Heap}{a x e:Addr}{o:HO}
def Un.any(u:Un fs ex H H1 h h1){b:Addr}{ob:Obj}(q:h.get? b=some ob)(n:H b=none)(hx:b∉ex):∃sl,h1.get? b=some {ob with slots:=sl}:=by
 by_cases hb:b∈fs;·exact u.slot b ob q n hb hx
 ·exact⟨ob.slots,u.keep b ob q n hb hx⟩
def Un.kept(k:∀b u,h.get? b=some u->h'.get? b=some u):Un fs ex H H h h':=
 ⟨λb ob q _ _ _=>k b ob q,λb ob q _ _ _=>⟨ob.slots,k b ob q⟩,λ_ _ _ n _=>n,λb ob q _=>⟨ob,k b ob q⟩,λ_ _ q=>q,λ_ _ _ q=>q,λ_ ps q=>⟨#[],by rw[q];simp⟩⟩
def Un.refl:Un fs ex H H h h:=Un.kept λ_ _ q=>q
def Un.laid(k:∀b u,h.get? b=some u->h'.get? b=some u)(hp:h.objs.size<=a)(hn:H a=none):Un fs ex H (upd H a o) h h' where
 keep:=λb u q _ _ _=>k b u q
 slot:=λb u q _ _ _=>⟨u.slots,k b u q⟩
 free:=λb u q n _=>by rw[mz<|bO<|aG (Heap.lt_size q) hp];exact n
 there:=λb u q _=>⟨u,k b u q⟩
 tups:=λb xs q=>by rw[mz<|yx q hn];exact q
 wI:=λb u xs q=>by rw[mz<|yx q hn];exact q
 wQ:=λb ps q=>⟨#[],by rw[mz<|yx q hn,q];simp⟩
def Un.write(mu:KJ<|H x)(he:e=x\/H e=some (.own x))(k:∀b u,b≠e->h.get? b=some u->h'.get? b=some u)(heo:∃u,h'.get? e=some u):Un fs ex H (upd H x o) h h':=by
 have hx:∀b,H b=none->b≠x:=λb n z=>by subst z;rw[n]at mu;exact mu
 have hb:∀b,H b=none->b≠e:=λb n z=>by
  subst z;rcases he with r|r;·exact hx b n r
  ·rw[n]at r;cases r
 have hm:∀b u,H b=some u->¬KJ (some u)->b≠x:=λb u q nm z=>by subst z;rw[q]at mu;exact nm mu
 refine⟨λb u q n _ _=>k b u (hb b n) q,λb u q n _ _=>⟨u.slots,k b u (hb b n) q⟩,λb u q n _=>by rw[mz (hx b n)];exact n,λb u q _=>?_,
  λb xs q=>by rw[mz (hm b _ q λz=>z)];exact q,λb u xs q=>by rw[mz (hm b _ q λz=>z)];exact q,λb ps q=>⟨#[],by rw[mz (hm b _ q λz=>z),q];simp⟩⟩
 by_cases hbe:b=e;·subst hbe;exact heo
 ·exact⟨u,k b u hbe q⟩
end
def Uv(h:Heap)(H:Hp):List Addr:=(List.range h.objs.size).filter λa=>(H a).isSome
def zJ(h:Heap)(H:Hp):Heap:=W.hideAll h (Uv h H)
def alD(h H):(zJ h H).objs.size=h.objs.size:=W.hideAll_size _ _
def alC{h:Heap}{H:Hp}(e:h.get? b=some o)(n:H b=none):(zJ h H).get? b=some o:=
 W.hideAll_get _ e λhm=>by have q:(H b).isSome=true:=(List.mem_filter.mp hm).2;rw[n]at q;simp at q
def an7(e:(zJ h H).get? b=some o):h.get? b=some o/\H b=none:=by
 have e':h.get? b=some o:=W.of_hideAll (Uv h H) e;refine⟨e',?_⟩;cases q:H b with
 |none=>rfl
 |some x=>have hm:b∈Uv h H:=List.mem_filter.mpr ⟨List.mem_range.mpr<|Heap.lt_size e',by simp[q]⟩;have z:(zJ h H).get? b=none:=W.hideAll_none (Uv h H) hm;rw[z]at e;cases e
def ajz(g h:Heap)(L:Addr):List (Addr×Obj):=(List.range h.objs.size).filterMap λa=>if a=L\/(g.get? a).isSome=true then none else(h.get? a).map λo=>(a,o)
def rest(g h:Heap)(L d:Addr):List (Addr×Obj):=(ajz g h L).filter λp=>decide (p.1≠d)
structure Mod(K:W.Frag)(mg:nO)(base:Heap):Prop where
 Bh:K.In base
 glob:base.Ns mainGlobals mg
 blt:∃mb,base.Ns builtinsNs mb/\∀x:Str,x≠"__name__"->mb x=bootBuiltins x
 nolimit:base.NoLimit
structure Cx where
 prog:Program
 w:World
 K:W.Frag
 mg:nO
 base:Heap
 A:Around
 N:List Str
 s₀:Shared
 H₀:Hp
 env:Env
 outer:List Env
 stack:List Env
 ex:List Addr
 fn:Str->Bool
 calm:Bool
 pn:List (Addr×Obj)
 xe:mW
def frs(l:List Env):List Addr:=l.filterMap (·.frame)
abbrev Cx.fs(X:Cx):List Addr:=frs X.outer
def Hs(sc:Scope)(x:Str):Prop:=sc.names.lookup x=some .local\/sc.names.lookup x=some .cell\/sc.names.lookup x=some .free
def Loc(sc:Scope)(x:Str):Prop:=sc.names.lookup x=some .local\/sc.names.lookup x=some .cell
def Look(env:Env)(h:Heap)(m:nO)(x:Str)(u:Value):Prop:=
 (env.kindOf x=some .local/\m x=some u)\/((env.kindOf x=some .cell\/env.kindOf x=some .free)/\∃c,env.cells.lookup x=some c/\h.IsCell c (some u))
structure Cx.Ok(X:Cx):Prop where
 mod:Mod X.K X.mg X.base
 kind:X.env.scope.kind=.function
 glob:X.env.globals=mainGlobals
 blt:X.env.builtins=builtinsNs
 above:X.s₀.heap.objs.size<=X.env.locals
 inj:∀x y c,X.env.cells.lookup x=some c->X.env.cells.lookup y=some c->x=y
 has:∀x,(X.env.kindOf x=some .cell\/X.env.kindOf x=some .free)->∃c,X.env.cells.lookup x=some c
 cab:∀x c,X.fn x=true->X.env.cells.lookup x=some c->X.s₀.heap.objs.size<=c
 hd:X.calm=true->X.A.handled=none
 frames:X.A.frames=some X.stack
 Uj:X.stack=X.outer\/(X.stack=X.env::X.outer/\X.env.frame=some X.env.locals)
 WY:∀b∈X.ex,b≠X.env.locals/\∀x c,X.env.cells.lookup x=some c->c≠b
 bs:∀b o,X.base.get? b=some o->X.s₀.heap.get? b=some o/\X.H₀ b=none
 Al:X.base.objs.size<=X.s₀.heap.objs.size
 Nk:∀b o,X.base.get? b=some o->b∉X.ex
 Lk:∀b∈X.ex,b∉X.fs
 vW:X.s₀.heap.FunFrames X.base X.outer
 FW:∀b∈X.fs,X.H₀ b=none
structure Inv(X:Cx)(pins:List<|Addr×Obj)(σ:List<|Option V)(H:Hp)(s:Shared):Prop where
 ok:X.Ok
 os:s.os=X.s₀.os
 bare:AllBare s.gens
 base:Un X.fs X.ex X.H₀ H X.s₀.heap s.heap
 loc:∃m,s.heap.Ns X.env.locals m/\∀(i:Nat) (x:Str) (v:V),X.N[i]?=some x->σ[i]?=some (some v)->Hs X.env.scope x->∃u,RelV v u/\Look X.env s.heap m x u
 cell:∀x c,X.env.cells.lookup x=some c->∃v,s.heap.IsCell c v
 free:H X.env.locals=none
 xu:∀x c,X.env.cells.lookup x=some c->H c=none
 pin:∀p∈X.pn++pins,s.heap.get? p.1=some p.2/\H p.1=none/\p.1≠X.env.locals/\p.1∉X.fs/\∀v,p.2.data≠.cell v
 hok:ph X.prog X.w H s.heap
 len:σ.length=X.N.length
section
variable{X:Cx}{pins:List<|Addr×Obj}{σ:List<|Option V}{H H':Hp}{s:Shared}{h':Heap}
def Cx.Ok.anQ(ok:X.Ok)(e:X.base.get? b=some o):b∉X.fs:=λhb=>by have:=(ok.vW.mem hb).1;rw[e]at this;cases this
def Inv.bs(I:Inv X pins σ H s):∀b o,X.base.get? b=some o->s.heap.get? b=some o/\H b=none:=λb o e=>⟨I.base.keep b o (I.ok.bs b o e).1 (I.ok.bs b o e).2 (I.ok.anQ e) (I.ok.Nk b o e),I.base.free b o (I.ok.bs b o e).1 (I.ok.bs b o e).2 (I.ok.Nk b o e)⟩
def Inv.bk(I:Inv X pins σ H s):∀b o,X.base.get? b=some o->s.heap.get? b=some o:=λb o e=>(I.bs b o e).1
def Inv.mod(I:Inv X pins σ H s):Mod X.K X.mg X.base:=I.ok.mod
def Inv.o4(I:Inv X pins σ H s):X.K.In s.heap:=I.ok.mod.Bh.keeps I.bk
def Inv.lt(I:Inv X pins σ H s):X.env.locals<s.heap.objs.size:=let⟨_,hn,_⟩:=I.loc;hn.lt
def Inv.sz(I:Inv X pins σ H s):X.s₀.heap.objs.size<=s.heap.objs.size:=aJ I.ok.above (jm I.lt)
def Inv.anS(I:Inv X pins σ H s){a:Addr}(h:s.heap.objs.size<=a):a∉X.fs:=λhb=>by obtain⟨_,o,ho,_⟩:=I.ok.vW.mem hb;exact absurd (aG (Heap.lt_size ho)<|aJ I.sz h) (dq _)
def Inv.ye(I:Inv X pins σ H s):∀x c,X.env.cells.lookup x=some c->c≠X.env.locals:=λx c e z=>by obtain⟨v,o,ho,hd⟩:=I.cell x c e;obtain⟨m,⟨o',es,ep,Gj,Mx,_⟩,_⟩:=I.loc;rw[z,Gj]at ho;cases ho;rw[Mx]at hd;cases hd
def Inv.vW(I:Inv X pins σ H s):s.heap.FunFrames X.base X.outer:=by
 have all:∀(l:List Env),(∀b∈frs l,b∈X.fs)->X.s₀.heap.FunFrames X.base l->s.heap.FunFrames X.base l:=by
  intro l;induction l with
  |nil=>intro _ _;trivial
  |cons env r ih=>intro hs hl;obtain⟨hk,⟨L,o,hf,hn,ho,hd⟩,hr⟩:=hl;have hL:L∈X.fs:=hs L (by unfold frs;rw[gD,hf];exact bH);obtain⟨sl,e⟩:=I.base.slot L o ho (I.ok.FW L hL) hL λz=>I.ok.Lk L z hL;exact⟨hk,⟨L,_,hf,hn,e,hd⟩,ih (λb hb=>hs b (by unfold frs;rw[gD,hf];exact aW _ hb)) hr⟩
 exact all X.outer (λ_ hb=>hb) I.ok.vW
def Inv.stack(I:Inv X pins σ H s):s.heap.FunFrames X.base X.stack:=by
 rcases I.ok.Uj with e|⟨e,hf⟩;·rw[e];exact I.vW
 ·rw[e];obtain⟨m,hn,_⟩:=I.loc;refine .cons (by rw[I.ok.kind];decide) hf hn ?_ I.vW;exact eQ (aJ I.ok.Al I.ok.above)
def Inv.Uk(I:Inv X pins σ H s):∀b∈frs X.stack,b∈X.env.locals::X.fs:=λb hb=>by
 rcases I.ok.Uj with e|⟨e,hf⟩;·rw[e]at hb;exact aW _ hb
 ·rw[e]at hb;unfold frs at hb;rw[gD,hf]at hb;exact hb
def Inv.abK(I:Inv X pins σ H s):∀b∈frs X.stack,H b=none:=λb hb=>by
 rcases List.mem_cons.mp (I.Uk b hb)with e|hb;·rw[e];exact I.free
 ·obtain⟨_,o,ho,_⟩:=I.ok.vW.mem hb;exact I.base.free b o ho (I.ok.FW b hb) λz=>I.ok.Lk b z hb
def Inv.step{g':Array GenState}{t':Nat}{d':Drawn}{ch:List Addr}(I:Inv X pins σ H s)
    (hch:∀b∈ch,(b∈X.ex\/X.s₀.heap.objs.size<=b)/\b≠X.env.locals/\(∀x c,X.env.cells.lookup x=some c->c≠b)/\∀p∈X.pn++pins,p.1≠b)
    (keep:∀b o,b≠X.env.locals->b∉X.fs->b∉ch->s.heap.get? b=some o->H b=none->h'.get? b=some o)
    (slot:∀b o,b≠X.env.locals->b∈X.fs->b∉ch->s.heap.get? b=some o->H b=none->∃sl,h'.get? b=some {o with slots:=sl})(free:∀b o,b∉ch->s.heap.get? b=some o->H b=none->H' b=none)
    (there:∀b o,b∉ch->s.heap.get? b=some o->∃o',h'.get? b=some o')
    (tups:∀b xs,H b=some (.tup xs)->H' b=some (.tup xs))(wI:∀b o u,H b=some (.vV o u)->H' b=some (.vV o u))(wQ:∀b ps,H b=some (.rE ps)->∃more,H' b=some (.rE<|ps++more))
    (ns:∀m,s.heap.Ns X.env.locals m->h'.Ns X.env.locals m)(hok:ph X.prog X.w H' h')(hg:AllBare g'):
    Inv X pins σ H' {s with heap:=h',gens:=g',drawn:=d',toks:=t'}:=by
 have neL:∀b o,X.s₀.heap.get? b=some o->b≠X.env.locals:=λb o e=>bO (aG (Heap.lt_size e) I.ok.above);have S5:∀b o,X.s₀.heap.get? b=some o->b∉X.ex->b∉ch:=λb o e hx hb=>by
  rcases(hch b hb).1 with z|z;·exact hx z
  ·exact absurd (aG (Heap.lt_size e) z) (dq _)
 have cellK:∀x c,X.env.cells.lookup x=some c->∀v,s.heap.IsCell c v->h'.IsCell c v:=λx c e v ⟨o,ho,hd⟩=>by
  have Ni:c∉ch:=λz=>(hch c z).2.2.1 x c e rfl;by_cases hc:c∈X.fs
  ·obtain⟨sl,q⟩:=slot c o (I.ye x c e) hc Ni ho (I.xu x c e);exact⟨_,q,hd⟩
  ·exact⟨o,keep c o (I.ye x c e) hc Ni ho<|I.xu x c e,hd⟩
 refine⟨I.ok,I.os,hg,⟨λb o e n hb hx=>?_,λb o e n hb hx=>?_,λb o e n hx=>?_,λb o e hx=>?_,λb xs e=>tups b xs<|I.base.tups b xs e,λb o xs e=>wI b o xs<|I.base.wI b o xs e,λb ps e=>?_⟩,?_,λx c e=>?_,?_,λx c e=>?_,λp hp=>?_,hok,I.len⟩;·exact keep b o (neL b o e) hb (S5 b o e hx) (I.base.keep b o e n hb hx) (I.base.free b o e n hx)
 ·obtain⟨sl,e1⟩:=I.base.slot b o e n hb hx;obtain⟨sl',e2⟩:=slot b _ (neL b o e) hb (S5 b o e hx) e1 (I.base.free b o e n hx);exact⟨sl',e2⟩
 ·obtain⟨o',e1⟩:=I.base.there b o e hx;exact free b o' (S5 b o e hx) e1 (I.base.free b o e n hx)
 ·obtain⟨o',e1⟩:=I.base.there b o e hx;exact there b o' (S5 b o e hx) e1
 ·obtain⟨m1,e1⟩:=I.base.wQ b ps e;obtain⟨m2,e2⟩:=wQ b _ e1;exact⟨m1++m2,by rw[e2,Array.append_assoc]⟩
 ·obtain⟨m,hn,hl⟩:=I.loc;refine⟨m,ns m hn,λi x v e1 e2 e3=>?_⟩;obtain⟨u,r,l⟩:=hl i x v e1 e2 e3;refine⟨u,r,?_⟩;rcases l with l|⟨k,c,e,z⟩;·exact .inl l
  ·exact .inr ⟨k,c,e,cellK x c e _ z⟩
 ·obtain⟨v,z⟩:=I.cell x c e;exact⟨v,cellK x c e v z⟩
 ·obtain⟨m,⟨o,_,_,ho,_⟩,_⟩:=I.loc;exact free _ o (λz=>(hch _ z).2.1 rfl) ho I.free
 ·obtain⟨v,o,ho,hd⟩:=I.cell x c e;exact free c o (λz=>(hch c z).2.2.1 x c e rfl) ho (I.xu x c e)
 ·obtain⟨e,n,ne,nf,d⟩:=I.pin p hp;have Ni:p.1∉ch:=λz=>(hch p.1 z).2.2.2 p hp rfl;exact⟨keep p.1 p.2 ne nf Ni e n,free p.1 p.2 Ni e n,ne,nf,d⟩
def Inv.un{t':Nat}(I:Inv X pins σ H s)(u:Un X.fs [] H H' s.heap h')(hok:ph X.prog X.w H' h'):Inv X pins σ H' {s with heap:=h',toks:=t'}:=by obtain⟨m,⟨o,es,ep,ho,r⟩,_⟩:=id I.loc;obtain⟨sl,hL⟩:=u.any ho I.free (by simp);exact I.step (g':=s.gens) (d':=s.drawn) (ch:=[]) (λ_ z=>nomatch z) (λb o _ hb _ e n=>u.keep b o e n hb (by simp)) (λb o _ hb _ e n=>u.slot b o e n hb (by simp)) (λb o _ e n=>u.free b o e n (by simp)) (λb o _ e=>u.there b o e (by simp)) u.tups u.wI u.wQ (λm' hm=>by obtain⟨o',WW,WT,Gj,r'⟩:=hm;rw[ho]at Gj;cases Gj;exact⟨_,WW,WT,hL,r'⟩) hok I.bare
def Inv.call{g':Array GenState}{t':Nat}{d':Drawn}{ch:List Addr}(I:Inv X pins σ H s)(u:Un (frs X.stack) ch H H' s.heap h')(hok:ph X.prog X.w H' h')(hg:AllBare g')
    (hch:∀b∈ch,(b∈X.ex\/X.s₀.heap.objs.size<=b)/\b≠X.env.locals/\(∀x c,X.env.cells.lookup x=some c->c≠b)/\∀p∈X.pn++pins,p.1≠b):
    Inv X pins σ H' {s with heap:=h',gens:=g',drawn:=d',toks:=t'}:=by
 obtain⟨m,⟨o,es,ep,ho,r⟩,_⟩:=id I.loc;obtain⟨sl,hL⟩:=u.any ho I.free λz=>(hch _ z).2.1 rfl;exact I.step (ch:=ch) hch (λb o hL hb hc e n=>u.keep b o e n (λz=>(List.mem_cons.mp (I.Uk b z)).elim hL hb) hc) (λb o _ _ hc e n=>u.any e n hc) (λb o hc e n=>u.free b o e n hc) (λb o hc e=>u.there b o e hc) u.tups u.wI u.wQ (λm' hm=>by obtain⟨o',WW,WT,Gj,r'⟩:=hm;rw[ho]at Gj;cases Gj;exact⟨_,WW,WT,hL,r'⟩) hok hg
def Inv.turned{t':Nat}{it:Addr}(I:Inv X pins σ H s)(k:∀b o,b≠it->s.heap.get? b=some o->h'.get? b=some o)(hn:H it=none)(hL:it≠X.env.locals)
    (h1:it∈X.ex\/X.s₀.heap.objs.size<=it)(h2:∀x c,X.env.cells.lookup x=some c->c≠it)(h3:∀p∈X.pn++pins,p.1≠it):Inv X pins σ H {s with heap:=h',toks:=t'}:=by
 have nit:∀b u,H b=some u->b≠it:=λb u e z=>by rw[z,hn]at e;cases e
 refine I.step (g':=s.gens) (d':=s.drawn) (ch:=[it]) (λb hb=>?_) (λb o _ _ hc e _=>k b o (λz=>hc<|by simp[z]) e) (λb o _ _ hc e _=>⟨o.slots,k b o (λz=>hc<|by simp[z]) e⟩) (λ_ _ _ _ n=>n)
  (λb o hc e=>⟨o,k b o (λz=>hc<|by simp[z]) e⟩) (λ_ _ e=>e) (λ_ _ _ e=>e) (λb ps e=>⟨#[],by rw[e];simp⟩) (λm hm=>?_) (λb u e=>?_) I.bare
 ·have e:b=it:=by simpa using hb
  subst e;exact⟨h1,hL,h2,h3⟩
 ·obtain⟨o,es,ep,ho,r⟩:=hm;exact⟨o,es,ep,k _ o (cY hL) ho,r⟩
 ·refine(I.hok b u e).Bx (λc v hc q=>k c v ?_ q) (λ_ q=>q) λ_ _ q=>q;rcases hc with z|z;·rw[z];exact nit b u e
  ·exact nit c _ z
def Inv.tok(I:Inv X pins σ H s)(t:Nat):Inv X pins σ H {s with toks:=t}:=I.un (h':=s.heap) (t':=t) Un.refl I.hok
def Inv.kept{t':Nat}(I:Inv X pins σ H s)(k:∀b u,s.heap.get? b=some u->h'.get? b=some u):Inv X pins σ H {s with heap:=h',toks:=t'}:=I.un (Un.kept k) (I.hok.kept k)
def Inv.laid{a:Addr}{o:HO}{t':Nat}(I:Inv X pins σ H s)(k:∀b u,s.heap.get? b=some u->h'.get? b=some u)(hp:s.heap.objs.size<=a)(new:qL X.prog X.w (upd H a o) h' a o):
    Inv X pins σ (upd H a o) {s with heap:=h',toks:=t'}:=I.un (Un.laid k hp<|I.hok.fresh hp) (I.hok.laid k hp new)
def Inv.write{x e:Addr}{o:HO}{t':Nat}(I:Inv X pins σ H s)(mu:KJ<|H x)(he:e=x\/H e=some (.own x))(k:∀b u,b≠e->s.heap.get? b=some u->h'.get? b=some u)(heo:∃u,h'.get? e=some u)
    (new:qL X.prog X.w (upd H x o) h' x o):Inv X pins σ (upd H x o) {s with heap:=h',toks:=t'}:=I.un (Un.write mu he k heo) (I.hok.write mu he k heo new)
def Inv.weak{σ':List<|Option V}(I:Inv X pins σ H s)(hl:σ'.length=σ.length)(w:∀(i:Nat) v,σ'[i]?=some (some v)->σ[i]?=some (some v)):Inv X pins σ' H s:=
 ⟨I.ok,I.os,I.bare,I.base,let⟨m,hn,hl'⟩:=I.loc;⟨m,hn,λi x v e1 e2 e3=>hl' i x v e1 (w i v e2) e3⟩,I.cell,I.free,I.xu,I.pin,I.hok,hl.trans I.len⟩
def Inv.af3{JC:List<|Addr×Obj}(I:Inv X pins σ H s)(h:∀p∈JC,s.heap.get? p.1=some p.2/\H p.1=none/\p.1≠X.env.locals/\p.1∉X.fs/\∀v,p.2.data≠.cell v):Inv X JC σ H s:=
 ⟨I.ok,I.os,I.bare,I.base,I.loc,I.cell,I.free,I.xu,λp hp=>(List.mem_append.mp hp).elim (λz=>I.pin p<|dD _ z) (h p),I.hok,I.len⟩
def YB{N:List Str}(hN:N.Nodup){i j:Nat}{x:Str}(a:N[i]?=some x)(b:N[j]?=some x):i=j:=by obtain⟨h1,e1⟩:=List.getElem?_eq_some_iff.mp a;obtain⟨h2,e2⟩:=List.getElem?_eq_some_iff.mp b;exact(List.getElem_inj hN).mp (e1.trans e2.symm)
def ahB{M:Model}{A:Around}{E:mW}{i:Nat}{x:Str}{v:V}{u:Value}{Q:Unit->Shared->Prop}(I:Inv X pins σ H s)(hN:X.N.Nodup)(hi:X.N[i]?=some x)(hx:Loc X.env.scope x)(r:RelV v u)
    (h:∀s',Inv X pins (σ.set i<|some v) H s'->(∃a,Heap.SameBut a s.heap s'.heap/\(a=X.env.locals\/X.env.cells.lookup x=some a))->Q () s')(hf:X.fn x=true\/X.env.scope.names.lookup x=some .local:=by first|exact .inl rfl|exact .inr rfl|assumption):wpAny M A (storeName X.env x u) Q E s:=by
 obtain⟨m,hn,hl⟩:=id I.loc;have Xm:(X.env.scope.kind==.class||(X.env.scope.kind==.module&&X.env.locals !=X.env.globals))=false:=by rw[I.ok.kind];rfl
 have RL:i<σ.length:=by rw[I.len];exact(List.getElem?_eq_some_iff.mp hi).1
 have ye:=I.ye;have tracked:∀{a:Addr} {h':Heap},(∃o,s.heap.get? a=some o/\H a=none)->Heap.SameBut a s.heap h'->ph X.prog X.w H h':=λ{a h'} ha hs b ob e=>by
  obtain⟨_,_,hfree⟩:=ha;refine(I.hok b ob e).Bx (λc w' hc q=>(hs.2 c ?_).trans q) (λ_ q=>q) λ_ _ q=>q
  rintro rfl
  rcases hc with rfl|hc;·rw[hfree]at e;cases e
  ·rw[hfree]at hc;cases hc
 rcases hx with hk|hk
 ·refine wpAny_storeName_local hk hn (λh' Dn hs=>?_) Xm;obtain⟨oL,_,_,Xy,_⟩:=id hn;refine h _ ⟨I.ok,I.os,I.bare,⟨λb o e n hb hx=>?_,λb o e n hb hx=>?_,I.base.free,λb o e hx=>?_,I.base.tups,I.base.wI,I.base.wQ⟩,⟨_,Dn,λj y v' e1 e2 e3=>?_⟩,λy c e=>?_,I.free,I.xu,λp hp=>?_,tracked ⟨oL,Xy,I.free⟩ hs,by simpa using I.len⟩ ⟨_,hs,.inl rfl⟩;·exact(hs.2 b<|bO<|aG (Heap.lt_size e) I.ok.above).trans (I.base.keep b o e n hb hx)
  ·obtain⟨sl,e1⟩:=I.base.slot b o e n hb hx;exact⟨sl,(hs.2 b<|bO<|aG (Heap.lt_size e) I.ok.above).trans e1⟩
  ·obtain⟨o',e1⟩:=I.base.there b o e hx;exact⟨o',(hs.2 b<|bO<|aG (Heap.lt_size e) I.ok.above).trans e1⟩
  ·by_cases hj:j=i
   ·subst hj;rw[hi]at e1;cases e1;rw[aX RL]at e2;cases e2;exact⟨u,r,.inl ⟨hk,by simp⟩⟩
   ·rw[aQ<|cY hj]at e2;obtain⟨u',r',q⟩:=hl j y v' e1 e2 e3;refine⟨u',r',?_⟩;rcases q with⟨k,e⟩|⟨k,c,e,z⟩
    ·refine .inl ⟨k,?_⟩;have:y≠x:=λe=>hj (YB hN e1<|e▸hi);simp[this,e]
    ·exact .inr ⟨k,c,e,z.sameBut hs<|ye y c e⟩
  ·obtain⟨w',z⟩:=I.cell y c e;exact⟨w',z.sameBut hs<|ye y c e⟩
  ·obtain⟨e,n,ne,nf,d⟩:=I.pin p hp;exact⟨(hs.2 p.1 ne).trans e,n,ne,nf,d⟩
 ·have Mz:X.fn x=true:=by
   rcases hf with z|z;·exact z
   ·rw[z]at hk;cases hk
  obtain⟨c,hc⟩:=I.ok.has x (.inl hk);obtain⟨w',z⟩:=I.cell x c hc;refine wpAny_storeName_cell I.ok.kind hk hc z (λh' Gh hs=>?_);obtain⟨oc,hoc,alS⟩:=id z;refine h {s with heap:=h'} ⟨I.ok,I.os,I.bare,⟨λb o e n hb hx=>?_,λb o e n hb hx=>?_,I.base.free,λb o e hx=>?_,I.base.tups,I.base.wI,I.base.wQ⟩,⟨m,hn.sameBut hs<|cY<|ye x c hc,λj y v' e1 e2 e3=>?_⟩,λy c' e=>?_,I.free,I.xu,λp hp=>?_,tracked ⟨oc,hoc,I.xu x c hc⟩ hs,by simpa using I.len⟩ ⟨c,hs,.inr hc⟩;·exact(hs.2 b<|bO<|aG (Heap.lt_size e)<|I.ok.cab x c Mz hc).trans (I.base.keep b o e n hb hx)
  ·obtain⟨sl,e1⟩:=I.base.slot b o e n hb hx;exact⟨sl,(hs.2 b<|bO<|aG (Heap.lt_size e)<|I.ok.cab x c Mz hc).trans e1⟩
  ·obtain⟨o',e1⟩:=I.base.there b o e hx;exact⟨o',(hs.2 b<|bO<|aG (Heap.lt_size e)<|I.ok.cab x c Mz hc).trans e1⟩
  ·by_cases hj:j=i
   ·subst hj;rw[hi]at e1;cases e1;rw[aX RL]at e2;cases e2;exact⟨u,r,.inr ⟨.inl hk,c,hc,Gh⟩⟩
   ·rw[aQ<|cY hj]at e2;obtain⟨u',r',q⟩:=hl j y v' e1 e2 e3;refine⟨u',r',?_⟩;rcases q with q|⟨k,c',e,z'⟩;·exact .inl q
    ·refine .inr ⟨k,c',e,z'.sameBut hs ?_⟩
     rintro rfl
     exact hj (YB hN e1<|I.ok.inj _ _ _ e hc▸hi)
  ·by_cases RD:c'=c;·subst RD;exact⟨_,Gh⟩
   ·obtain⟨w2,z2⟩:=I.cell y c' e;exact⟨w2,z2.sameBut hs RD⟩
  ·obtain⟨e,n,ne,nf,d⟩:=I.pin p hp;refine⟨(hs.2 p.1 ?_).trans e,n,ne,nf,d⟩;intro q;rw[q,hoc]at e;have q':oc=p.2:=Option.some.inj e;exact d w' (by rw[<-q'];exact alS)
def abL{M:Model}{A:Around}{E:mW}{i:Nat}{x:Str}{v:V}{u:Value}{Q:Unit->Shared->Prop}(I:Inv X pins σ H s)(hN:X.N.Nodup)(hi:X.N[i]?=some x)(hx:Loc X.env.scope x)(r:RelV v u)
    (h:∀s',Inv X pins (σ.set i<|some v) H s'->Q () s')(hf:X.fn x=true\/X.env.scope.names.lookup x=some .local:=by first|exact .inl rfl|exact .inr rfl|assumption):wpAny M A (storeName X.env x u) Q E s:=
 ahB I hN hi hx r (λs' I' _=>h s' I') hf
def Inv.adl{s':Shared}{ch:List Addr}(I:Inv X pins σ H s)(ho:s'.os=s.os)(u:Un (frs X.stack) ch H H' s.heap s'.heap)(hok:ph X.prog X.w H' s'.heap)(hg:AllBare s'.gens)
    (hch:∀b∈ch,(b∈X.ex\/X.s₀.heap.objs.size<=b)/\b≠X.env.locals/\(∀x c,X.env.cells.lookup x=some c->c≠b)/\∀p∈X.pn++pins,p.1≠b):Inv X pins σ H' s':=by
 obtain⟨h',g',d',t',o'⟩:=s';have e:o'=s.os:=ho;subst e;exact I.call (g':=g') (t':=t') (d':=d') u hok hg hch
end
abbrev XK:=Value->Option Addr->Hp->Prop
abbrev St:=List (Option V)
abbrev VK:=V->Hp->Prop
abbrev TE:=St->Hp->VK->Prop
abbrev TT:=St->Hp->(Bool->Hp->Prop)->Prop
abbrev TA:=St->Hp->(List V->Hp->Prop)->Prop
structure Ends where
 nx:St->Hp->Prop
 rt:VK
 bk:St->Hp->Prop:=λ_ _=>False
 ct:St->Hp->Prop:=λ_ _=>False
abbrev TS:=Ends->St->Hp->Prop
def EP(X:Cx)(pins:List<|Addr×Obj)(σ:St)(Q:VK)(u:Value)(s':Shared):Prop:=∃v H',Inv X pins σ H' s'/\RelV v u/\Q v H'
def TP(X:Cx)(pins:List<|Addr×Obj)(σ:St)(Q:Bool->Hp->Prop)(b:Bool)(s':Shared):Prop:=∃H',Inv X pins σ H' s'/\Q b H'
def AP(X:Cx)(pins:List<|Addr×Obj)(σ:St)(Q:List V->Hp->Prop)(us:List Value)(s':Shared):Prop:=∃vs H',Inv X pins σ H' s'/\Vals vs us/\Q vs H'
def SP(X:Cx)(pins:List<|Addr×Obj)(D:Ends)(f:Flow)(s':Shared):Prop:=
 match f with
 |.next=>∃σ' H',Inv X pins σ' H' s'/\D.nx σ' H'
 |.brk=>∃σ' H',Inv X pins σ' H' s'/\D.bk σ' H'
 |.cont=>∃σ' H',Inv X pins σ' H' s'/\D.ct σ' H'
 |.ret u=>∃v σ' H',Inv X pins σ' H' s'/\RelV v u/\D.rt v H'
def PE(X:Cx)(e:Expr)(t:TE):Prop:=
 ∀(pins:List<|Addr×Obj) (s:Shared) (σ:St) (H:Hp) (Q:VK),Inv X pins σ H s->t σ H Q->wpAny (model X.prog X.w) X.A (eval e X.env) (EP X pins σ Q) X.xe s
def PT(X:Cx)(e:Expr)(t:TT):Prop:=
 ∀(pins:List<|Addr×Obj) (s:Shared) (σ:St) (H:Hp) (Q:Bool->Hp->Prop),Inv X pins σ H s->t σ H Q->wpAny (model X.prog X.w) X.A (isTrue e X.env<|eval e X.env) (TP X pins σ Q) X.xe s
def PW(X:Cx)(e:Expr)(t:TT):Prop:=
 ∀(whole:Sem Value) (pins:List<|Addr×Obj) (s:Shared) (σ:St) (H:Hp) (Q:Bool->Hp->Prop),Inv X pins σ H s->t σ H Q->wpAny (model X.prog X.w) X.A (isTrue e X.env whole) (TP X pins σ Q) X.xe s
def PW.pt(h:PW X e t):PT X e t:=h _
def PA(X:Cx)(es:List Expr)(t:TA):Prop:=
 ∀(pos:Pos) (pins:List<|Addr×Obj) (s:Shared) (σ:St) (H:Hp) (Q:List V->Hp->Prop),Inv X pins σ H s->t σ H Q->wpAny (model X.prog X.w) X.A (spliced<|backTo pos<|starEach es X.env) (AP X pins σ Q) X.xe s
def PS(X:Cx)(st:Stmt)(t:TS):Prop:=
 ∀(pins:List<|Addr×Obj) (s:Shared) (σ:St) (H:Hp) (D:Ends),Inv X pins σ H s->t D σ H->wpAny (model X.prog X.w) X.A (exec st X.env) (SP X pins D) X.xe s
def uH(X:Cx)(st:List Stmt)(t:TS):Prop:=
 ∀(pins:List<|Addr×Obj) (s:Shared) (σ:St) (H:Hp) (D:Ends),Inv X pins σ H s->t D σ H->wpAny (model X.prog X.w) X.A (execs st X.env) (SP X pins D) X.xe s
def lE{α:Type}{t:Sem α}{Q Q':α->Shared->Prop}{M:Model}{A:Around}{E:mW}{s:Shared}(h:wpAny M A t Q E s)(hQ:∀a s,Q a s->Q' a s):wpAny M A t Q' E s:=bN h hQ λ_ _ x=>x
section
variable{X:Cx}
def auc(i:Nat):TE:=λσ H Q=>∃v,σ[i]?=some (some v)/\Q v H
def tC(v:V):TE:=λ_ H Q=>Q v H
def JB{i:Nat}{x:Str}{pos:Pos}(hN:X.N[i]?=some x)(hv:Hs X.env.scope x)(hd:(x==("__debug__":Str))=false:=by decide)(hcd:(x==("__classdict__":Str))=false:=by decide):PE X (.Name x pos) (auc i):=by
 intro pins s σ H Q I h;obtain⟨v,e,h⟩:=h;obtain⟨m,hn,hl⟩:=I.loc;obtain⟨u,r,l⟩:=hl i x v hN e hv;have fin:EP X pins σ Q u s:=⟨v,H,I,r,h⟩;rcases l with⟨hk,hm⟩|⟨hk,c,hc,hcell⟩;·exact iH (gj I.ok.kind hk hn hm fin) hd
 ·rcases hk with hk|hk;·exact iH (wpAny_loadName_cell I.ok.kind hk hc hcell fin) hd
  ·exact iH (wpAny_loadName_free I.ok.kind hk hc hcell fin hcd) hd
def apK{i j pos}:PE X (.Constant (.int i) j pos) (tC<|.int i):=λ_ _ _ H _ I h=>wpAny_Constant_int ⟨.int i,H,I.tok _,⟨_,rfl⟩,h⟩
def apz{b j pos}:PE X (.Constant (.bool b) j pos) (tC<|.bl b):=λ_ _ _ H _ I h=>Constant_bool ⟨.bl b,H,I,rfl,h⟩
def apQ{j pos}:PE X (.Constant .none j pos) (tC .non):=λ_ _ _ H _ I h=>Constant_none ⟨.non,H,I,rfl,h⟩
def afY{x j pos}:PE X (.Constant (.str x) j pos) (tC<|.str x):=λ_ _ _ H _ I h=>fG ⟨.str x,H,I.tok _,⟨_,rfl⟩,h⟩
def Gl(X:Cx)(x:Str):Prop:=X.env.kindOf x=some .globalImplicit
def Gr{E:mW}{pins:List<|Addr×Obj}{s:Shared}{σ:St}{H:Hp}{x:Str}{u:Value}{pos:Pos}{Q:mW}(I:Inv X pins σ H s)(hg:Gl X x)(hm:X.mg x=some u)(h:Q u s)
    (hd:(x==("__debug__":Str))=false:=by decide):wpAny (model X.prog X.w) X.A (eval (.Name x pos) X.env) Q E s:=
 gR I.ok.kind hg (Calls.loadGlobal_global (by rw[I.ok.glob];exact I.mod.glob.keeps I.bk) hm h) hd
def Sh{E:mW}{pins:List<|Addr×Obj}{s:Shared}{σ:St}{H:Hp}{x:Str}{u:Value}{pos:Pos}{Q:mW}(I:Inv X pins σ H s)(hg:Gl X x)(hm:X.mg x=none)(hv:bootBuiltins x=some u)(h:Q u s)
    (hn:x≠"__name__":=by decide)(hd:(x==("__debug__":Str))=false:=by decide):wpAny (model X.prog X.w) X.A (eval (.Name x pos) X.env) Q E s:=by
 obtain⟨mb,h1,h2⟩:=I.mod.blt;exact gR I.ok.kind hg (Calls.loadGlobal_builtin (by rw[I.ok.glob];exact I.mod.glob.keeps I.bk) hm (by rw[I.ok.blt];exact h1.keeps I.bk) ((h2 x hn).trans hv) h) hd
def apJ{u pos}(hg:Gl X x)(hm:X.mg x=some u)(r:RelV v u)(hd:(x==("__debug__":Str))=false:=by decide):PE X (.Name x pos) (tC v):=
 λ_ _ _ H _ I h=>Gr I hg hm ⟨v,H,I,r,h⟩ hd
def apA{u pos}(hg:Gl X x)(hm:X.mg x=none)(hv:bootBuiltins x=some u)(r:RelV v u)(hn:x≠"__name__":=by decide)(hd:(x==("__debug__":Str))=false:=by decide):PE X (.Name x pos) (tC v):=
 λ_ _ _ H _ I h=>Sh I hg hm hv ⟨v,H,I,r,h⟩ hn hd
variable{a b:Expr}{ta tb:TE}{pos:Pos}
def tB(t:TE):TT:=λσ H Q=>t σ H λx H1=>∃c,x=.bl c/\Q c H1
variable{tA Um:TT}{rest:List Expr}
def atE(t u:TT):TT:=λσ H Q=>t σ H λc H1=>if c=true then u σ H1 Q else Q false H1
def tOr(t u:TT):TT:=λσ H Q=>t σ H λc H1=>if c=true then Q true H1 else u σ H1 Q
def atZ(t:TT):TT:=λσ H Q=>t σ H λc H1=>Q (!c) H1
def agh(ha:PT X a tA):PW X (.BoolOp .And [a] pos) tA:=by
 intro wh pins s σ H Q I h;refine isTrue_and (lE (ha pins s σ H Q I h) λc s1 e=>?_);cases c with
 |true=>exact isTrue_and_nil e
 |false=>exact e
def aqw(ha:PT X a tA):PW X (.BoolOp .Or [a] pos) tA:=by
 intro wh pins s σ H Q I h;refine isTrue_or (lE (ha pins s σ H Q I h) λc s1 e=>?_);cases c with
 |false=>exact isTrue_or_nil e
 |true=>exact e
def agg(ha:PT X a tA)(hb:PW X (.BoolOp .And (b::rest) pos) Um):PW X (.BoolOp .And (a::b::rest) pos) (atE tA Um):=by
 intro wh pins s σ H Q I h;refine isTrue_and (lE (ha pins s σ H _ I h) λc s1 ⟨H1,I1,q1⟩=>?_);cases c with
 |true=>exact hb wh pins s1 σ H1 Q I1 q1
 |false=>exact⟨H1,I1,q1⟩
def aqv(ha:PT X a tA)(hb:PW X (.BoolOp .Or (b::rest) pos) Um):PW X (.BoolOp .Or (a::b::rest) pos) (tOr tA Um):=by
 intro wh pins s σ H Q I h;refine isTrue_or (lE (ha pins s σ H _ I h) λc s1 ⟨H1,I1,q1⟩=>?_);cases c with
 |true=>exact⟨H1,I1,q1⟩
 |false=>exact hb wh pins s1 σ H1 Q I1 q1
def aqp(ha:PT X a tA):PT X (.UnaryOp .Not a pos) (atZ tA):=by intro pins s σ H Q I h;exact isTrue_not (ha pins s σ H (λc H1=>Q (!c) H1) I h)
def atF(ta tb:TE):TE:=λσ H Q=>ta σ H λx H1=>∃c,x=.bl c/\if c=true then tb σ H1 Q else Q (.bl false) H1
def at4(ta tb:TE):TE:=λσ H Q=>ta σ H λx H1=>∃c,x=.bl c/\if c=true then Q (.bl true) H1 else tb σ H1 Q
def at3(ta:TE):TE:=λσ H Q=>ta σ H λx H1=>∃c,x=.bl c/\Q (.bl<|!c) H1
def apS{op}(h:PE X a t):PE X (.BoolOp op [a] pos) t:=λpins s σ H Q I hw=>BoolOp_one (h pins s σ H Q I hw)
def apy(ha:PE X a ta)(hb:PE X (.BoolOp .And (b::rest) pos) tb):PE X (.BoolOp .And (a::b::rest) pos) (atF ta tb):=by
 intro pins s σ H Q I h;refine BoolOp_and (lE (ha pins s σ H _ I h) λv s1 ⟨x,H1,I1,r1,q1⟩=>?_);obtain⟨c,rfl,q1⟩:=q1;cases r1;refine dF ?_;cases c with
 |true=>exact hb pins s1 σ H1 Q I1 q1
 |false=>exact⟨.bl false,H1,I1,rfl,q1⟩
def apT(ha:PE X a ta)(hb:PE X (.BoolOp .Or (b::rest) pos) tb):PE X (.BoolOp .Or (a::b::rest) pos) (at4 ta tb):=by
 intro pins s σ H Q I h;refine BoolOp_or (lE (ha pins s σ H _ I h) λv s1 ⟨x,H1,I1,r1,q1⟩=>?_);obtain⟨c,rfl,q1⟩:=q1;cases r1;refine dF ?_;cases c with
 |false=>exact hb pins s1 σ H1 Q I1 q1
 |true=>exact⟨.bl true,H1,I1,rfl,q1⟩
def apR(ha:PE X a ta):PE X (.UnaryOp .Not a pos) (at3 ta):=by intro pins s σ H Q I h;refine UnaryOp_ (lE (ha pins s σ H _ I h) λv s1 ⟨x,H1,I1,r1,q1⟩=>?_);obtain⟨c,rfl,q1⟩:=q1;cases r1;exact not_of (dF ⟨.bl<|!c,H1,I1,rfl,q1⟩)
def tIf(t:TT)(ta tb:TE):TE:=λσ H Q=>t σ H λc H1=>if c=true then ta σ H1 Q else tb σ H1 Q
def afV{c:Expr}(hc:PT X c tA)(ha:PE X a ta)(hb:PE X b tb):PE X (.IfExp c a b pos) (tIf tA ta tb):=by
 intro pins s σ H Q I h;refine wpAny_IfExp (lE (hc pins s σ H _ I h) λd s1 ⟨H1,I1,q1⟩=>?_);cases d with
 |true=>exact ha pins s1 σ H1 Q I1 q1
 |false=>exact hb pins s1 σ H1 Q I1 q1
end
def sE(K:W.Frag)(H:Hp)(a:Addr)(xs:List V):Prop:=
 Rd H a (.lst xs)\/
  ∃(o:Obj) (its:Array Value) (n:Nat),K.lookup a=some o/\o.cls=.type "list"/\o.dict=none/\o.data=.seq its n/\its.size<=sizeLine/\Vals xs its.toList
def uW(K:W.Frag)(H:Hp)(a:Addr)(xs:List V):Prop:=
 Rd H a (.tup xs)\/
  ∃(o:Obj) (its:Array Value) (n:Nat),K.lookup a=some o/\o.cls=.type "tuple"/\o.data=.seq its n/\its.size<=sizeLine/\Vals xs its.toList
def ajs:Value->Option V
 |.none=>some .non
 |.bool b=>some (.bl b)
 |.int i _=>some (.int i)
 |.str x _=>some (.str x)
 |.bytes b _=>some (.vP b)
 |.float b _=>some (.flt b)
 |.ref a=>some (.ref a)
 |.type n=>some (.ty n)
 |_=>none
def RelV.abs{u}(r:RelV x u):ajs u=some x:=by
 cases x with
 |non=>cases r;rfl
 |bl _=>cases r;rfl
 |int _=>obtain⟨t,rfl⟩:=r;rfl
 |str _=>obtain⟨t,rfl⟩:=r;rfl
 |vP _=>obtain⟨t,rfl⟩:=r;rfl
 |flt _=>obtain⟨t,rfl⟩:=r;rfl
 |ref _=>cases r;rfl
 |ty _=>cases r;rfl
def RelV.inj{x y:V}{u:Value}(r:RelV x u)(q:RelV y u):x=y:=Option.some.inj (r.abs.symm.trans q.abs)
theorem Vals.inj:∀{xs ys:List V} {us:List Value},Vals xs us->Vals ys us->xs=ys
 |_,_,_,.nil,.nil=>rfl
 |_,_,_,.cons r t,.cons r' t'=>by rw[r.inj r',Vals.inj t t']
section
variable{X:Cx}{pins:List<|Addr×Obj}{σ:St}{H:Hp}{s:Shared}{a:Addr}{xs ys:List V}
def Inv.list(I:Inv X pins σ H s)(h:sE X.K H a xs):∃its:List Value,Vals xs its/\PlainL s.heap a its.toArray/\xs.length<=sizeLine:=by
 rcases h with h|⟨o,its,n,hk,hc,hd,hs,hz,r⟩
 ·obtain⟨z,its,n,r,e⟩:=h.ok I.hok;exact⟨its,r,⟨_,n,e,rfl,rfl,rfl⟩,z⟩
 ·refine⟨its.toList,r,⟨o,n,I.o4 a o hk,hc,hd,by simpa using hs⟩,?_⟩;have e:=r.length;simp only[gF]at e;omega
def Inv.tuple(I:Inv X pins σ H s)(h:uW X.K H a xs):∃its:List Value,Vals xs its/\IsTup s.heap a its.toArray/\xs.length<=sizeLine:=by
 rcases h with h|⟨o,its,n,hk,hc,hs,hz,r⟩
 ·obtain⟨z,its,r,p⟩:=h.ok I.hok;exact⟨its,r,p,z⟩
 ·refine⟨its.toList,r,⟨o,I.o4 a o hk,hc,n,by simpa using hs⟩,?_⟩;have e:=r.length;simp only[gF]at e;omega
def Inv.amK(I:Inv X pins σ H s)(h:sE X.K H a xs)(h':sE X.K H a ys):xs=ys:=by
 obtain⟨its,r,⟨o,n,e,_,_,d⟩,_⟩:=I.list h;obtain⟨its',r',⟨o',n',e',_,_,d'⟩,_⟩:=I.list h';rw[e]at e';cases e';rw[d]at d';injection d' with d1 _;have:its=its':=by simpa using aV Array.toList d1
 subst this;exact r.inj r'
def Inv.auH(I:Inv X pins σ H s)(h:uW X.K H a xs)(h':uW X.K H a ys):xs=ys:=by
 obtain⟨its,r,⟨o,e,_,n,d⟩,_⟩:=I.tuple h;obtain⟨its',r',⟨o',e',_,n',d'⟩,_⟩:=I.tuple h';rw[e]at e';cases e';rw[d]at d';injection d' with d1 _;have:its=its':=by simpa using aV Array.toList d1
 subst this;exact r.inj r'
end
abbrev Cx.xN(X:Cx)(E:mW):Cx:={X with xe:=E}
abbrev Cx.zN(X:Cx):Cx:=X.xN λ_ _=>False
def Cx.Ok.xN{X:Cx}(ok:X.Ok)(E):(X.xN E).Ok:=
 ⟨ok.mod,ok.kind,ok.glob,ok.blt,ok.above,ok.inj,ok.has,ok.cab,ok.hd,ok.frames,ok.Uj,ok.WY,ok.bs,ok.Al,ok.Nk,ok.Lk,ok.vW,ok.FW⟩
def Cx.Ok.wR{X:Cx}(ok:(X.xN E).Ok):X.Ok:=
 ⟨ok.mod,ok.kind,ok.glob,ok.blt,ok.above,ok.inj,ok.has,ok.cab,ok.hd,ok.frames,ok.Uj,ok.WY,ok.bs,ok.Al,ok.Nk,ok.Lk,ok.vW,ok.FW⟩
section
variable{X:Cx}{pins:List<|Addr×Obj}{σ:St}{H:Hp}{s:Shared}{E:mW}
def Inv.xN(I:Inv X pins σ H s)(E):Inv (X.xN E) pins σ H s:=⟨I.ok.xN E,I.os,I.bare,I.base,I.loc,I.cell,I.free,I.xu,I.pin,I.hok,I.len⟩
def Inv.wR(I:Inv (X.xN E) pins σ H s):Inv X pins σ H s:=⟨I.ok.wR,I.os,I.bare,I.base,I.loc,I.cell,I.free,I.xu,I.pin,I.hok,I.len⟩
def SP.wR{D}(h:SP (X.xN E) pins D f s'):SP X pins D f s':=by
 cases f with
 |next=>obtain⟨σ',H',I,q⟩:=h;exact⟨σ',H',I.wR,q⟩
 |brk=>obtain⟨σ',H',I,q⟩:=h;exact⟨σ',H',I.wR,q⟩
 |cont=>obtain⟨σ',H',I,q⟩:=h;exact⟨σ',H',I.wR,q⟩
 |ret u=>obtain⟨v,σ',H',I,r,q⟩:=h;exact⟨v,σ',H',I.wR,r,q⟩
def uH.zN{st:List Stmt}{t:TS}(h:uH X.zN st t):uH X st t:=λpins s σ H D I hw=>bN (h pins s σ H D (I.xN _) hw) (λ_ _ q=>q.wR) λ_ _ z=>False.elim z
end
section
variable{X:Cx}{st:Stmt}{rest:List Stmt}{t u:TS}{e:Expr}{te:TE}{pos:Pos}
def atX:TS:=λD σ H=>D.nx σ H
def at9(t u:TS):TS:=λD σ H=>t {D with nx:=u D} σ H
def agc:uH X [] atX:=λ_ _ σ H _ I h=>c7 ⟨σ,H,I,h⟩
def agb(h1:PS X st t)(h2:uH X rest u):uH X (st::rest) (at9 t u):=by
 intro pins s σ H D I h;refine fX (lE (h1 pins s σ H {D with nx:=u D} I h) λf s1 q=>?_);cases f with
 |next=>obtain⟨σ',H',I',q⟩:=q;exact h2 pins s1 σ' H' D I' q
 |ret v=>exact q
 |brk=>exact q
 |cont=>exact q
def aaa(h1:PS X st t):uH X [st] t:=by
 intro pins s σ H D I h;refine fX (lE (h1 pins s σ H D I h) λf s1 q=>?_);cases f with
 |next=>exact c7 q
 |ret v=>exact q
 |brk=>exact q
 |cont=>exact q
def atH:TS:=λD σ H=>D.bk σ H
def aqf:PS X (.Break pos) atH:=λ_ _ σ H _ I h=>wpAny_Break ⟨σ,H,I,h⟩
def Inv.quiet(I:Inv X pins σ H s):interactive X.env=false:=by simp[interactive,I.ok.kind]
def atN(te:TE):TS:=λD σ H=>te σ H λ_ H1=>D.nx σ H1
def af5(he:PE X e te)(hs:swapsWith e none pos.line X.env=pure false:=by rfl):PS X (.Expr e pos) (atN te):=by intro pins s σ H D I h;exact wpAny_Expr_any (lE (he pins s σ H _ I h) λv s1 ⟨x,H1,I1,r1,q1⟩=>⟨σ,H1,I1,q1⟩) I.quiet hs
def at8(te:TE):TS:=λD σ H=>te σ H D.rt
def af8(he:PE X e te):PS X (.Return (some e) pos) (at8 te):=by intro pins s σ H D I h;exact wpAny_Return_some (lE (he pins s σ H _ I h) λv s1 ⟨x,H1,I1,r1,q1⟩=>⟨x,σ,H1,I1,r1,q1⟩)
def atR(c:TT)(t u:TS):TS:=λD σ H=>c σ H λb H1=>if b=true then t D σ H1 else u D σ H1
def af7(hc:PT X c tc)(ha:uH X a t)(hb:uH X b u):PS X (.If c a b pos) (atR tc t u):=by
 intro pins s σ H D I h;refine wpAny_If (lE (hc pins s σ H _ I h) λd s1 ⟨H1,I1,q1⟩=>?_);cases d with
 |true=>exact ha pins s1 σ H1 D I1 q1
 |false=>exact hb pins s1 σ H1 D I1 q1
end
abbrev TG:=V->St->Hp->(St->Hp->Prop)->Prop
def PG(X:Cx)(target:Expr)(t:TG):Prop:=
 ∀pins s σ H v u Q,Inv X pins σ H s->RelV v u->t v σ H Q->
  wpAny (model X.prog X.w) X.A (assign target X.env u) (λ_ s'=>∃σ' H',Inv X pins σ' H' s'/\Q σ' H') X.xe s
section
variable{X:Cx}{pos:Pos}
def W8(i:Nat):TG:=λv σ H Q=>Q (σ.set i<|some v) H
def af0(hN:X.N.Nodup)(hi:X.N[i]?=some x)(hx:Loc X.env.scope x)(hf:X.fn x=true\/X.env.scope.names.lookup x=some .local:=by first|exact .inl rfl|exact .inr rfl|assumption):PG X (.Name x pos) (W8 i):=by intro pins s σ H v u Q I r h;exact wpAny_assign_Name (abL I hN hi hx r (λs' I'=>⟨_,H,I',h⟩) hf)
def ahH(te:TE)(g:TG):TS:=λD σ H=>te σ H λx H1=>g x σ H1 D.nx
def af9(hN:X.N.Nodup)(hi:X.N[i]?=some x)(hx:Loc X.env.scope x)(he:PE X e te)(hs:swapsWith e (some<|.Name x pos') pos.line X.env=pure false:=by rfl)(hf:X.fn x=true\/X.env.scope.names.lookup x=some .local:=by first|exact .inl rfl|exact .inr rfl|assumption):
    PS X (.Assign [.Name x pos'] e pos) (ahH te<|W8 i):=by
 intro pins s σ H D I h;refine ir (lE (he pins s σ H _ I h) λv s1 ⟨y,H1,I1,r1,q1⟩=>?_) hs;exact abL I1 hN hi hx r1 (λs2 I2=>⟨_,H1,I2,q1⟩) hf
end
section
variable{X:Cx}{pos:Pos}
def aud(c:TT)(tb:TS):TS:=λD σ H=>∃W:Nat->St->Hp->Prop,(∃m,W m σ H)/\∀m σ H,W m σ H->
 c σ H λb H1=>if b=true then∃N:St->Hp->Prop,(∀σ' H',N σ' H'->∃m',m'<m/\W m' σ' H')/\tb {D with nx:=N,ct:=N,bk:=D.nx} σ H1 else D.nx σ H1
def aga(hp:PassesOwn (model X.prog X.w) X.A X.env X.xe)(hc:PT X c tc)(hb:uH X body tb):PS X (.While c body [] pos) (aud tc tb):=by
 intro pins s σ H D I h;obtain⟨W,⟨m0,w0⟩,turn⟩:=h;refine wpAny_While (codeAny_whileLoop (λn s'=>∃σ' H',Inv X pins σ' H' s'/\W n σ' H') ?_ m0 ⟨σ,H,I,w0⟩)
 rintro n s1 ⟨oW,H1,I1,w1⟩
 refine dw hp (lE (hc pins s1 oW H1 _ I1<|turn n oW H1 w1) λb s2 ⟨H2,I2,q2⟩=>?_);cases b with
 |true=>
  obtain⟨N,hN,q2⟩:=q2;rw[au rfl];refine dw hp (lE (hb pins s2 oW H2 _ I2 q2) λf s3 q3=>?_);cases f with
  |next=>obtain⟨uC,H3,I3,n3⟩:=q3;obtain⟨m',hm,w3⟩:=hN uC H3 n3;exact⟨m',hm,uC,H3,I3,w3⟩
  |cont=>obtain⟨uC,H3,I3,n3⟩:=q3;obtain⟨m',hm,w3⟩:=hN uC H3 n3;exact⟨m',hm,uC,H3,I3,w3⟩
  |brk=>exact q3
  |ret v=>exact q3
 |false=>rw[aA aU];exact c7 ⟨oW,H2,I2,q2⟩
end
structure It where
 go:Nat->Hp->Prop
 UW:Nat->Hp->V->Hp->Prop
 stop:Nat->Hp->Prop
def Aa(X:Cx)(pins:List<|Addr×Obj)(H:Hp)(b:Addr):Prop:=
 H b=none/\b≠X.env.locals/\b∉X.fs/\(b∈X.ex\/X.s₀.heap.objs.size<=b)/\(∀x c,X.env.cells.lookup x=some c->c≠b)/\∀p∈X.pn++pins,p.1≠b
def Inv.Lq{H':Hp}(I:Inv X pins σ H s)(hb:s.heap.objs.size<=b)(hn:H' b=none):Aa X pins H' b:=by
 refine⟨hn,iI<|aG I.lt hb,I.anS hb,.inr<|aJ I.sz hb,λx c e z=>?_,λp hp z=>?_⟩
 ·obtain⟨v,q⟩:=I.cell x c e;exact absurd (aG q.lt (by rw[z];exact hb)) (dq _)
 ·exact absurd (aG (Heap.lt_size (I.pin p hp).1)<|by rw[z];exact hb) (dq _)
structure Turn(P:Program)(w:World)(K:W.Frag)(tg:Expr)(J:It)(fp:List Addr)(it:Addr)(tn:Nat->Heap->Prop):Prop where
 mem:it∈fp
 obj:∀i h,tn i h->∀b∈fp,∃o,h.get? b=some o/\∀v,o.data≠.cell v
 keep:∀i h h',tn i h->(∀b∈fp,∀o,h.get? b=some o->h'.get? b=some o)->tn i h'
 item:∀(X:Cx),X.prog=P->X.w=w->X.K=K->X.calm=true->∀(i:Nat) (pins:List<|Addr×Obj) (s:Shared) (σ:St) (H:Hp) (E:mW),Inv X pins σ H s->(∀b∈fp,Aa X pins H b)->tn i s.heap->J.go i H->
  wpAny (model P w) X.A (pyNext (.ref it)) (λr s1=>∃u,r=some u/\
   wpAny (model P w) X.A (letOwnedTupleGo tg (.ref it) u) (λ_ s2=>∃x H',Inv X pins σ H' s2/\RelV x u/\J.UW i H x H'/\tn (i+1) s2.heap/\∀b∈fp,H' b=none) E s1) E s
 done:∀(X:Cx),X.prog=P->X.w=w->X.K=K->X.calm=true->∀(i:Nat) (pins:List<|Addr×Obj) (s:Shared) (σ:St) (H:Hp) (E:mW),Inv X pins σ H s->(∀b∈fp,Aa X pins H b)->tn i s.heap->J.stop i H->
  wpAny (model P w) X.A (pyNext<|.ref it) (λr s1=>r=none/\Inv X pins σ H s1) E s
 self:∀(A:Around) (i:Nat) (s:Shared) (Q:mW) (E:mW),tn i s.heap->Q (.ref it) s->wpAny (model P w) A (pyIter<|.ref it) Q E s
abbrev TI:=St->Hp->(It->Hp->Prop)->Prop
def PIE(X:Cx)(pins:List<|Addr×Obj)(σ:St)(tg:Expr)(R:It->Hp->Prop)(itv:Value)(s2:Shared):Prop:=
 ∃it fp tn J H',itv=.ref it/\Inv X pins σ H' s2/\Turn X.prog X.w X.K tg J fp it tn/\tn 0 s2.heap/\(∀b∈fp,Aa X pins H' b)/\R J H'
def PI(X:Cx)(tg iter:Expr)(wi:TI):Prop:=
 ∀pins s σ H R,Inv X pins σ H s->wi σ H R->
  wpAny (model X.prog X.w) X.A (eval iter X.env) (λv s1=>wpAny (model X.prog X.w) X.A (pyIter v) (PIE X pins σ tg R) X.xe s1) X.xe s
def I8{s:Shared}{u n}{Q:Unit->Shared->Prop}(ho:s.heap.get? it=some o)(hc:o.cls=.type n)(hd:o.data=.fields vs)
 (hn:["enumerate","zip","dict_itemiterator","dict_reverseitemiterator","odict_iterator","itertools.zip_longest","itertools.pairwise"].contains n=false)(hQ:Q () s):wpAny M A (letOwnedTupleGo tg (.ref it) u) Q E s:=by
  unfold letOwnedTupleGo
  cases tg<;>first
   |exact bf hQ
   |(cases u<;>first
      |exact bf hQ
      |(refine aD (wpAny_load ho ?_)
        rw[hc,hd];show wpAny M A (if(["enumerate","zip","dict_itemiterator","dict_reverseitemiterator","odict_iterator","itertools.zip_longest","itertools.pairwise"].contains n&&vs[0]?==some (rawInt _))=true then _ else _) Q E s;rw[aA (by intro h;rw[hn,Bool.false_and]at h;cases h)];exact bf hQ))
def Ve(K:W.Frag)(a:Addr):It:=
 ⟨λi H=>∃xs x,sE K H a xs/\xs[i]?=some x,λi H x H'=>H'=H/\∀xs,sE K H a xs->xs[i]?=some x,λi H=>∃xs,sE K H a xs/\xs.length<=i⟩
def Vf(K:W.Frag)(a:Addr):It:=
 ⟨λi H=>∃xs x,uW K H a xs/\xs[i]?=some x,λi H x H'=>H'=H/\∀xs,uW K H a xs->xs[i]?=some x,λi H=>∃xs,uW K H a xs/\xs.length<=i⟩
def Qa(lo:Int)(n:Nat):It:=⟨λi _=>i<n,λi H x H'=>H'=H/\x=.int (lo+i),λi _=>n<=i⟩
def auK{P:Program}{w:World}{K:W.Frag}{tg:Expr}(a it:Addr):Turn P w K tg (Ve K a) [it] it (λi h=>h.IsListIter it a i) where
 mem:=by simp
 obj:=λi h st b hb=>by
  have e:b=it:=by simpa using hb
  subst e;obtain⟨o,e,c,d⟩:=st;exact⟨o,e,λv z=>by rw[d]at z;cases z⟩
 keep:=λi h h' st k=>st.at λo e=>k it (by simp) o e
 item:=by intro X hP hw hK hc i pins s σ H E I hf st hg;subst hP hw hK;obtain⟨xs,x,hq,hx⟩:=hg;obtain⟨its,rv,p,hz⟩:=I.list hq;obtain⟨u,hu,ru⟩:=rv.get hx;obtain⟨f0,f1,f2,f3,f4,f5⟩:=hf it (by simp);refine wpAny_pyNext_list_item st p.isList (x:=u) (by simpa using hu) λh' uR sb=>?_;have I1:Inv X pins σ H {s with heap:=h'}:=I.turned (t':=s.toks) (λb o hb e=>(sb.2 b hb).trans e) f0 f1 f3 f4 f5;obtain⟨o,e,c,d⟩:=id uR;exact⟨u,rfl,I8 (s:={s with heap:=h'}) e c d (by decide) ⟨x,H,I1,ru,⟨rfl,λys hy=>by rw[I.amK hy hq];exact hx⟩,uR,λb hb=>(hf b hb).1⟩⟩
 done:=by intro X hP hw hK hc i pins s σ H E I hf st hg;subst hP hw hK;obtain⟨xs,hq,hx⟩:=hg;obtain⟨its,rv,p,hz⟩:=I.list hq;obtain⟨f0,f1,f2,f3,f4,f5⟩:=hf it (by simp);have hl:=rv.length;exact wpAny_pyNext_list_end (I.ok.hd hc) st p.isList (by simp;omega) λh' eb=>⟨rfl,I.turned (t':=s.toks) (λb o hb e=>eb b o hb e) f0 f1 f3 f4 f5⟩
 self:=λ_ _ _ _ _ st h=>wpAny_pyIter_listiter st h
def auM{P:Program}{w:World}{K:W.Frag}{tg:Expr}(a it:Addr):Turn P w K tg (Vf K a) [it] it (λi h=>h.IsTupleIter it a i) where
 mem:=by simp
 obj:=λi h st b hb=>by
  have e:b=it:=by simpa using hb
  subst e;obtain⟨o,e,c,d⟩:=st;exact⟨o,e,λv z=>by rw[d]at z;cases z⟩
 keep:=λi h h' st k=>st.at λo e=>k it (by simp) o e
 item:=by intro X hP hw hK hc i pins s σ H E I hf st hg;subst hP hw hK;obtain⟨xs,x,hq,hx⟩:=hg;obtain⟨its,rv,p,hz⟩:=I.tuple hq;obtain⟨u,hu,ru⟩:=rv.get hx;obtain⟨f0,f1,f2,f3,f4,f5⟩:=hf it (by simp);refine wpAny_pyNext_tuple_item st (show s.heap.IsTuple a its.toArray from p) (x:=u) (by simpa using hu) λh' uR sb=>?_;have I1:Inv X pins σ H {s with heap:=h'}:=I.turned (t':=s.toks) (λb o hb e=>(sb.2 b hb).trans e) f0 f1 f3 f4 f5;obtain⟨o,e,c,d⟩:=id uR;exact⟨u,rfl,I8 (s:={s with heap:=h'}) e c d (by decide) ⟨x,H,I1,ru,⟨rfl,λys hy=>by rw[I.auH hy hq];exact hx⟩,uR,λb hb=>(hf b hb).1⟩⟩
 done:=by intro X hP hw hK hc i pins s σ H E I hf st hg;subst hP hw hK;obtain⟨xs,hq,hx⟩:=hg;obtain⟨its,rv,p,hz⟩:=I.tuple hq;obtain⟨f0,f1,f2,f3,f4,f5⟩:=hf it (by simp);have hl:=rv.length;exact wpAny_pyNext_tuple_end (I.ok.hd hc) st (show s.heap.IsTuple a its.toArray from p) (by simp;omega) λh' eb=>⟨rfl,I.turned (t':=s.toks) (λb o hb e=>eb b o hb e) f0 f1 f3 f4 f5⟩
 self:=λ_ _ _ _ _ st h=>wpAny_pyIter_tupleiter st h
def auL{P:Program}{w:World}{K:PySem.W.Frag}{tg:Expr}(it:Addr)(lo:Int)(n:Nat):Turn P w K tg (Qa lo n) [it] it (λi h=>IsRangeIter h it (lo+(i:Nat)*1) ((n:Int) - (i:Nat)) 1) where
 mem:=by simp
 obj:=λi h st b hb=>by
  have e:b=it:=by simpa using hb
  subst e;exact⟨_,st,λv z=>by have z':Data.fields _=Data.cell v:=z;cases z'⟩
 keep:=λi h h' st k=>k it (by simp) _ st
 item:=by intro X hP hw hK hc i pins s σ H E I hf st hg;subst hP hw hK;obtain⟨f0,f1,f2,f3,f4,f5⟩:=hf it (by simp);have W:=Walks.range (prog:=X.prog) (w:=X.w) (I.ok.hd hc) it lo 1 n;refine W.item i s _ _ hg st λv h' tk hv uR kk=>?_;obtain⟨t,rfl⟩:=hv;have I1:Inv X pins σ H {s with heap:=h',toks:=tk}:=I.turned (λb o hb e=>kk b o (by simpa using hb) e) f0 f1 f3 f4 f5;refine⟨_,rfl,I8 (s:={s with heap:=h',toks:=tk}) (n:="range_iterator") uR rfl rfl (by decide) ⟨.int<|lo+i,H,I1,⟨t,?_⟩,⟨rfl,rfl⟩,uR,λb hb=>(hf b hb).1⟩⟩;rw[jw]
 done:=by intro X hP hw hK hc i pins s σ H E I hf st hg;subst hP hw hK;obtain⟨f0,f1,f2,f3,f4,f5⟩:=hf it (by simp);exact wpAny_pyNext_range_end (I.ok.hd hc) st (by have:n<=i:=hg;omega) λh' eb=>⟨rfl,I.turned (t':=s.toks) (λb o hb e=>eb b o hb e) f0 f1 f3 f4 f5⟩
 self:=λ_ _ _ _ _ st h=>wpAny_pyIter_rangeiter st h
section
variable{X:Cx}{tg:Expr}
def amb(K:W.Frag)(tl:TE):TI:=λσ H R=>tl σ H λx H1=>∃a,x=.ref a/\(∃xs,sE K H1 a xs)/\R (Ve K a) H1
def ame(K:W.Frag)(tl:TE):TI:=λσ H R=>tl σ H λx H1=>∃a,x=.ref a/\(∃xs,uW K H1 a xs)/\R (Vf K a) H1
def apZ{l:Expr}{tl:TE}(hl:PE X l tl):PI X tg l (amb X.K tl):=by
 intro pins s σ H R I h;refine lE (hl pins s σ H _ I h) λv s1 ⟨x,H1,I1,r1,q1⟩=>?_;obtain⟨a,e,⟨xs,hq⟩,q⟩:=q1;subst e;cases r1;obtain⟨its,rv,p,hz⟩:=I1.list hq;refine wpAny_pyIter_list p.isList ?_;refine⟨s1.heap.objs.size,[s1.heap.objs.size],_,_,H1,rfl,I1.kept (t':=s1.toks) λb o e=>aF _ e,auK a _,⟨_,bC _ rfl,rfl,rfl⟩,λb hb=>?_,q⟩;have e:b=s1.heap.objs.size:=by simpa using hb
 subst e;exact I1.Lq (aB _) (I1.hok.fresh<|aB _)
def ap2{l:Expr}{tl:TE}(hl:PE X l tl):PI X tg l (ame X.K tl):=by
 intro pins s σ H R I h;refine lE (hl pins s σ H _ I h) λv s1 ⟨x,H1,I1,r1,q1⟩=>?_;obtain⟨a,e,⟨xs,hq⟩,q⟩:=q1;subst e;cases r1;obtain⟨its,rv,p,hz⟩:=I1.tuple hq;refine wpAny_pyIter_tuple (show s1.heap.IsTuple a its.toArray from p) ?_;refine⟨s1.heap.objs.size,[s1.heap.objs.size],_,_,H1,rfl,I1.kept (t':=s1.toks) λb o e=>aF _ e,auM a _,⟨_,bC _ rfl,rfl,rfl⟩,λb hb=>?_,q⟩;have e:b=s1.heap.objs.size:=by simpa using hb
 subst e;exact I1.Lq (aB _) (I1.hok.fresh<|aB _)
def arW{R:It->Hp->Prop}{lo hi:Int}{t u v:Tok}{tk:Nat}(I:Inv X pins σ H s)(h1: -(2^62)<=lo)(h2:lo<2^62)(h3: -(2^62)<=hi)(h4:hi<2^62)
 (q:R (Qa lo (hi - lo).toNat) H):wpAny (model X.prog X.w) X.A (pyIter<|.ref s.heap.objs.size) (PIE X pins σ tg R) E {s with heap:=s.heap.push {cls:=.type "range",data:=.fields #[.int lo t,.int hi u,.int 1 v]},toks:=tk}:=by
  refine wpAny_pyIter_range (IsRange.new ..) (small_one h1 h2 h3 h4) ?_;have I1:Inv X pins σ H {s with heap:=s.heap.push {cls:=.type "range",data:=.fields #[.int lo t,.int hi u,.int 1 v]},toks:=tk}:=I.kept λb o e=>aF _ e
  refine⟨(s.heap.push {cls:=.type "range",data:=.fields #[.int lo t,.int hi u,.int 1 v]}).objs.size,[(s.heap.push {cls:=.type "range",data:=.fields #[.int lo t,.int hi u,.int 1 v]}).objs.size],_,_,H,rfl,
   I1.kept (t':=tk) λb o e=>aF _ e,auL _ lo (hi - lo).toNat,?_,λb hb=>?_,q⟩
  ·have e1:lo+((0:Nat):Int)*1=lo:=by simp
   have e2:(((hi - lo).toNat:Nat):Int) - ((0:Nat):Int)=Builtin.Range.rangeSize lo hi 1:=by rw[rangeSize_one];split<;>omega
   show IsRangeIter _ _ (lo+((0:Nat):Int)*1) ((((hi - lo).toNat:Nat):Int) - ((0:Nat):Int)) 1;rw[e1,e2];exact bC _ rfl
  ·have e:b=(s.heap.push {cls:=.type "range",data:=.fields #[.int lo t,.int hi u,.int 1 v]}).objs.size:=by simpa using hb
   subst e;exact I1.Lq (aB _) (I1.hok.fresh<|aB _)
def amc(ta:TA):TI:=λσ H R=>ta σ H λvs H1=>∃j:Int,vs=[.int j]/\ -(2^62)<=j/\j<2^62/\R (Qa 0 j.toNat) H1
def ap0{pos}(hg:Gl X "range")(hm:X.mg "range"=none)(ha:PA X [a] ta)(hs:starEach [a] X.env=[(false,eval a X.env)]:=by rfl):PI X tg (.Call (.Name "range" p) [a] [] pos) (amc ta):=by
 intro pins s σ H R I h;refine Call_ (Sh I hg hm boot_range<|gG (lE (ha pos pins s σ H _ I h) λus s1 ⟨vs,H1,I1,r1,q1⟩=>?_) hs rfl);obtain⟨j,e,q1,q2,q⟩:=q1;subst e;cases r1 with
 |cons r rr=>cases rr;obtain⟨t,rfl⟩:=r;exact call_range_1 (arW I1 (by omega) (by omega) q1 q2<|by simpa using q)
def atP(wi:TI)(g:TG)(tb:TS):TS:=λD σ H=>wi σ H λJ H1=>∃W:Nat->Nat->St->Hp->Prop,(∃m,W 0 m σ H1)/\∀i m σ H,W i m σ H->
 (J.stop i H/\D.nx σ H)\/(J.go i H/\∃N:St->Hp->Prop,(∀σ' H',N σ' H'->∃m',m'<m/\W (i+1) m' σ' H')/\∀x H',J.UW i H x H'->g x σ H' λvK H2=>tb {D with nx:=N,ct:=N,bk:=D.nx} vK H2)
def NB(fp:List Addr)(h:Heap):List (Addr×Obj):=fp.filterMap λb=>(h.get? b).map λo=>(b,o)
def SJ{h:Heap}(hb:b∈fp)(e:h.get? b=some o):(b,o)∈NB fp h:=List.mem_filterMap.mpr ⟨b,hb,by rw[e];rfl⟩
def an8(hp:p∈NB fp h):p.1∈fp/\h.get? p.1=some p.2:=by
 obtain⟨b,hb,e⟩:=List.mem_filterMap.mp hp;cases q:h.get? b with
 |none=>rw[q]at e;cases e
 |some o=>rw[q]at e;have e':(b,o)=p:=Option.some.inj e;subst e';exact⟨hb,q⟩
def Inv.pinned(I:Inv X pins σ H s)(hf:∀b∈fp,Aa X pins H b)(ho:∀b∈fp,∃o,s.heap.get? b=some o/\∀v,o.data≠.cell v):Inv X (pins++NB fp s.heap) σ H s:=
 I.af3 λp hp=>(List.mem_append.mp hp).elim (λz=>I.pin p (bD _ z)) λz=>by obtain⟨hb,e⟩:=an8 z;obtain⟨f0,f1,f2,_⟩:=hf p.1 hb;obtain⟨o,e',d⟩:=ho p.1 hb;rw[e]at e';cases e';exact⟨e,f0,f1,f2,d⟩
def Inv.Uz(I:Inv X (pins++pl) σ H s):Inv X pins σ H s:=I.af3 λp hp=>I.pin p (bD _<|dD _ hp)
def af6{g pos}(hp:PassesOwn (model X.prog X.w) X.A X.env X.xe)(hc:X.calm=true)(hi:PI X tg iter wi)(hg:PG X tg g)(hb:uH X body tb)
 (hs:∀x,foldedSetIterable iter X.env x=pure x:=by intro _;rfl):PS X (.For tg iter body [] pos) (atP wi g tb):=by
  intro pins s σ H D I h;refine wpAny_For (lE (hi pins s σ H _ I h) λv s1 h1=>lE h1 λitv s2 h2=>?_) hs;obtain⟨it,fp,tn,J,H2,e,I2,T,st2,f2,W,⟨m0,w0⟩,turn⟩:=h2;subst e
  have stat:∀{H':Hp},(∀b∈fp,H' b=none)->∀b∈fp,Aa X pins H' b:=λhn b hb=>⟨hn b hb,(f2 b hb).2⟩;refine codeAny_forLoop_any (λn s'=>∃i σ' H',Inv X pins σ' H' s'/\tn i s'.heap/\(∀b∈fp,H' b=none)/\W i n σ' H') ?_ m0 ⟨0,σ,H2,I2,st2,λb hb=>(f2 b hb).1,w0⟩
  rintro n s3 ⟨i,uC,H3,I3,Ha,fr3,w3⟩
  rcases turn i n uC H3 w3 with⟨stop,qn⟩|⟨go,N,hN,step⟩
  ·refine dw hp (lE (T.done X rfl rfl rfl hc i pins s3 uC H3 X.xe I3 (stat fr3) Ha stop) λr s4 ⟨hr,I4⟩=>?_);subst hr;exact c7 ⟨uC,H3,I4,qn⟩
  ·refine dw hp (lE (T.item X rfl rfl rfl hc i pins s3 uC H3 X.xe I3 (stat fr3) Ha go) λr s4 ⟨u,hr,h4⟩=>?_);subst hr;refine dw hp (lE h4 λ_ s5 ⟨x,H5,I5,r5,y5,Oq,W4⟩=>?_);have I5':=I5.pinned (stat W4) (T.obj _ _ Oq);refine dw hp (lE (hg _ s5 uC H5 x u _ I5' r5<|step x H5 y5) λ_ s6 ⟨σ6,H6,I6,q6⟩=>?_);refine dw hp (lE (hb _ s6 σ6 H6 _ I6 q6) λf s7 q7=>?_);have again:∀{yN:St} {H7:Hp},Inv X (pins++NB fp s5.heap) yN H7 s7->N yN H7->∃m,m<n/\∃i σ' H',Inv X pins σ' H' s7/\tn i s7.heap/\(∀b∈fp,H' b=none)/\W i m σ' H':=λ{yN H7} I7 n7=>by
    obtain⟨m',hm,w7⟩:=hN yN H7 n7;refine⟨m',hm,i+1,yN,H7,I7.Uz,T.keep _ _ _ Oq λb hb o e=>(I7.pin (b,o)<|bD _<|bD _<|SJ hb e).1,λb hb=>?_,w7⟩;obtain⟨o,e,d⟩:=T.obj _ _ Oq b hb;exact(I7.pin (b,o)<|bD _<|bD _<|SJ hb e).2.1
   cases f with
   |next=>obtain⟨yN,H7,I7,n7⟩:=q7;exact again I7 n7
   |cont=>obtain⟨yN,H7,I7,n7⟩:=q7;exact again I7 n7
   |brk=>obtain⟨yN,H7,I7,q7⟩:=q7;exact⟨yN,H7,I7.Uz,q7⟩
   |ret v=>obtain⟨x7,yN,H7,I7,r7,q7⟩:=q7;exact⟨x7,yN,H7,I7.Uz,r7,q7⟩
end
abbrev R2:=V->V->Hp->VK->Prop
def qb(X:Cx)(f:Value->Value->Sem Value)(r:R2):Prop:=
 ∀pins s σ H x y v u Q,Inv X pins σ H s->RelV x v->RelV y u->r x y H Q->
  wpAny (model X.prog X.w) X.A (f v u) (EP X pins σ Q) X.xe s
def Qe(X:Cx)(f:Value->Sem Value)(r:V->Hp->VK->Prop):Prop:=
 ∀pins s σ H x v Q,Inv X pins σ H s->RelV x v->r x H Q->
  wpAny (model X.prog X.w) X.A (f v) (EP X pins σ Q) X.xe s
def sV(X:Cx)(f:Value)(r:List V->Hp->VK->Prop):Prop:=
 ∀pins s σ H xs us Q,Inv X pins σ H s->Vals xs us->r xs H Q->
  wpAny (model X.prog X.w) X.A (call f us) (EP X pins σ Q) X.xe s
def ajn(X:Cx)(r:V->Hp->(Bool->Hp->Prop)->Prop):Prop:=
 ∀(pins:List<|Addr×Obj) (s:Shared) (σ:St) (H:Hp) (x:V) (v:Value) (Q:Bool->Hp->Prop),Inv X pins σ H s->RelV x v->r x H Q->
  wpAny (model X.prog X.w) X.A (truthy v) (TP X pins σ Q) X.xe s
def Uo(r:R2)(ta tb:TE):TE:=λσ H Q=>ta σ H λx H1=>tb σ H1 λy H2=>r x y H2 Q
def tUn(r:V->Hp->VK->Prop)(ta:TE):TE:=λσ H Q=>ta σ H λx H1=>r x H1 Q
def rI(C:Int->Int->Prop)(g:Int->Int->V):R2:=λx y H Q=>∃i j,x=.int i/\y=.int j/\C i j/\Q (g i j) H
def Ec(g:Int->Int->V):R2:=λx y H Q=>∃i j,x=.int i/\y=.int j/\Q (g i j) H
def rU(g:Int->V):V->Hp->VK->Prop:=λx H Q=>∃i,x=.int i/\Q (g i) H
section
variable{X:Cx}{a b c:Expr}{ta tb tc:TE}{pos:Pos}
def V0(ha:PE X a ta)(hb:PE X b tb){R:V->V->Hp->Prop}(I:Inv X pins σ H s)
 (h:ta σ H λx H1=>tb σ H1 λy H2=>R x y H2){f:Value->Value->Sem Value}
 (hf:∀v u s2 x y H2,Inv X pins σ H2 s2->RelV x v->RelV y u->R x y H2->wpAny (model X.prog X.w) X.A (f v u) Q X.xe s2):
   wpAny (model X.prog X.w) X.A (eval a X.env) (λv s₁=>wpAny (model X.prog X.w) X.A (eval b X.env) (λu s₂=>wpAny (model X.prog X.w) X.A (f v u) Q X.xe s₂) X.xe s₁) X.xe s:=by
  refine lE (ha pins s σ H _ I h) λv s1 ⟨x,H1,I1,r1,q1⟩=>?_;refine lE (hb pins s1 σ H1 _ I1 q1) λu s2 ⟨y,H2,I2,r2,q2⟩=>?_;exact hf v u s2 x y H2 I2 r1 r2 q2
def afX(ho:qb X (binaryOp op) r)(ha:PE X a ta)(hb:PE X b tb):PE X (.BinOp a op b pos) (Uo r ta tb):=by intro pins s σ H Q I h;exact wpAny_BinOp (V0 ha hb I h λv u s2 x y H2 I2 rx ry q=>ho pins s2 σ H2 x y v u Q I2 rx ry q)
def apV(ho:Qe X (unaryOp op) r)(ha:PE X a ta):PE X (.UnaryOp op a pos) (tUn r ta):=by intro pins s σ H Q I h;exact UnaryOp_ (lE (ha pins s σ H _ I h) λv s1 ⟨x,H1,I1,r1,q1⟩=>ho pins s1 σ H1 x v Q I1 r1 q1)
def Nx{f:Value->Value->Sem Value}{C:Int->Int->Prop}{g:Int->Int->Int}
 (rule:∀(i j:Int) t u (s:Shared) (Q:mW) E,C i j->Q (.int (g i j) s.toks) {s with toks:=s.toks+1}->wpAny (model X.prog X.w) X.A (f (.int i t)<|.int j u) Q E s):
   qb X f (rI C λi j=>.int<|g i j):=by
  intro pins s σ H x y v u Q I rx ry h;obtain⟨i,j,rfl,rfl,hc,q⟩:=h;obtain⟨t,rfl⟩:=rx;obtain⟨t',rfl⟩:=ry;exact rule i j t t' s _ _ hc ⟨.int<|g i j,H,I.tok _,⟨_,rfl⟩,q⟩
def afI{f:Value->Value->Sem Value}{g:Int->Int->Int}
 (rule:∀(i j:Int) t u (s:Shared) Q E,Q (.int (g i j) s.toks) {s with toks:=s.toks+1}->wpAny (model X.prog X.w) X.A (f (.int i t)<|.int j u) Q E s):
   qb X f (Ec λi j=>.int<|g i j):=by
  intro pins s σ H x y v u Q I rx ry h;obtain⟨i,j,rfl,rfl,q⟩:=h;obtain⟨t,rfl⟩:=rx;obtain⟨t',rfl⟩:=ry;exact rule i j t t' s _ _ ⟨.int<|g i j,H,I.tok _,⟨_,rfl⟩,q⟩
def YJ{f:Value->Value->Sem Value}{g:Int->Int->Bool}
 (rule:∀(i j:Int) t u s Q E,Q (.bool<|g i j) s->wpAny (model X.prog X.w) X.A (f (.int i t)<|.int j u) Q E s):
   qb X f (Ec λi j=>.bl<|g i j):=by
  intro pins s σ H x y v u Q I rx ry h;obtain⟨i,j,rfl,rfl,q⟩:=h;obtain⟨t,rfl⟩:=rx;obtain⟨t',rfl⟩:=ry;exact rule i j t t' s _ _ ⟨.bl<|g i j,H,I,rfl,q⟩
def aiT(i j:Int):Prop:=0<=j/\j<=1000000/\i.natAbs<2^64
def U9(i j:Int):Prop:=(-(2^64)<i/\i<2^64)\/(-(2^64)<j/\j<2^64)
def U9.ok{i j:Int}(h:U9 i j):IntMulOk i j:=by
 rcases h with⟨h1,h2⟩|⟨h1,h2⟩;·exact .of_left (intBits_le_64 h1 h2)
 ·exact .of_right (intBits_le_64 h1 h2)
def ao8:qb X (binaryOp .Add) (Ec λi j=>.int<|i+j):=afI λ_ _ _ _ _ _ _ q=>add_int q
def apq:qb X (binaryOp .Sub) (Ec λi j=>.int<|i - j):=afI λ_ _ _ _ _ _ _ q=>sub_int q
def apj:qb X (binaryOp .Mult) (rI U9 λi j=>.int<|i*j):=Nx λ_ _ _ _ _ _ _ hc q=>mul_int q hc.ok
def api:qb X (binaryOp .Mod) (rI (λ_ j=>j≠0) λi j=>.int<|i.fmod j):=Nx λ_ _ _ _ _ _ _ hc q=>mod_int' hc q
def apn:qb X (binaryOp .Pow) (rI aiT λi j=>.int<|i^j.toNat):=Nx λ_ _ _ _ _ _ _ hc q=>pow_int_small hc.1 hc.2.1 hc.2.2 q
def unI{f:Value->Sem Value}{g:Int->Int}
 (rule:∀(i:Int) t (s:Shared) Q E,Q (.int (g i) s.toks) {s with toks:=s.toks+1}->wpAny (model X.prog X.w) X.A (f<|.int i t) Q E s):
   Qe X f (rU λi=>.int<|g i):=by
  intro pins s σ H x v Q I rx h;obtain⟨i,rfl,q⟩:=h;obtain⟨t,rfl⟩:=rx;exact rule i t s _ _ ⟨.int<|g i,H,I.tok _,⟨_,rfl⟩,q⟩
def auP:Qe X (unaryOp .USub) (rU λi=>.int<|-i):=unI λ_ _ _ _ _ q=>neg_int q
end
def aaR:V->V->Bool
 |.non,.non=>true|.non,.int _=>true|.int _,.non=>true|.non,.bl _=>true|.bl _,.non=>true|.non,.str _=>true|.str _,.non=>true
 |.int _,.int _=>true|.bl _,.bl _=>true|.str _,.str _=>true|.vP _,.vP _=>true
 |.int _,.str _=>true|.str _,.int _=>true|.bl _,.str _=>true|.str _,.bl _=>true
 |_,_=>false
def rEq:R2:=λx y H Q=>aaR x y=true/\Q (.bl<|decide<|x=y) H
def rNe:R2:=λx y H Q=>aaR x y=true/\Q (.bl<|!decide (x=y)) H
def adL{i j:Int}:decide (V.int i=V.int j)=(i==j):=by rw[bQ];simp
def adJ:decide (V.bl i=V.bl j)=(i==j):=by rw[bQ];simp
def adM:decide (V.str i=V.str j)=(i==j):=by rw[bQ];simp
def adK:decide (V.vP i=V.vP j)=(i.toList==j.toList):=by rw[bQ];cases i;cases j;simp
section
variable{X:Cx}{a b c:Expr}{ta tb tc:TE}{pos:Pos}
def pL{Q:VK}{k}(I:Inv X pins σ H s)(q:Q (.bl k) H)(e:k=k'):EP X pins σ Q (.bool k') s:=by subst e;exact⟨.bl k,H,I,rfl,q⟩
def apb:qb X (compareOp .Eq) rEq:=by
 intro pins s σ H x y v u Q I rx ry h;obtain⟨hs,q⟩:=h;cases x with
 |non=>
  cases rx;cases y with
  |non=>cases ry;exact PySem.EqNone.eq_none_none (pL I q<|by simp)
  |bl j=>cases ry;exact PySem.EqNone.eq_none_bool (pL I q<|by simp)
  |int j=>obtain⟨t',rfl⟩:=ry;exact PySem.EqNone.eq_none_int (pL I q<|by simp)
  |str j=>obtain⟨t',rfl⟩:=ry;exact PySem.EqNone.eq_none_str (pL I q<|by simp)
  |_=>exact absurd (show false=true from hs) aU
 |bl i=>
  cases rx;cases y with
  |non=>cases ry;exact PySem.EqNone.eq_bool_none (pL I q<|by simp)
  |bl j=>cases ry;exact eq_bool (pL I q adJ)
  |str j=>obtain⟨t',rfl⟩:=ry;exact PySem.EqMixed.eq_bool_str (pL I q<|by simp)
  |_=>exact absurd (show false=true from hs) aU
 |int i=>
  obtain⟨t,rfl⟩:=rx;cases y with
  |non=>cases ry;exact PySem.EqNone.eq_int_none (pL I q<|by simp)
  |int j=>obtain⟨t',rfl⟩:=ry;exact eq_int (pL I q adL)
  |str j=>obtain⟨t',rfl⟩:=ry;exact PySem.EqMixed.eq_int_str (pL I q<|by simp)
  |_=>exact absurd (show false=true from hs) aU
 |str i=>
  obtain⟨t,rfl⟩:=rx;cases y with
  |non=>cases ry;exact PySem.EqNone.eq_str_none (pL I q<|by simp)
  |bl j=>cases ry;exact PySem.EqMixed.eq_str_bool (pL I q<|by simp)
  |int j=>obtain⟨t',rfl⟩:=ry;exact PySem.EqMixed.eq_str_int (pL I q<|by simp)
  |str j=>obtain⟨t',rfl⟩:=ry;exact eq_str (pL I q adM)
  |_=>exact absurd (show false=true from hs) aU
 |vP i=>
  obtain⟨t,rfl⟩:=rx;cases y with
  |vP j=>obtain⟨t',rfl⟩:=ry;exact W.eq_bytes (pL I q adK)
  |_=>exact absurd (show false=true from hs) aU
 |_=>cases y<;>exact absurd (show false=true from hs) aU
def apm:qb X (compareOp .NotEq) rNe:=by
 intro pins s σ H x y v u Q I rx ry h;obtain⟨hs,q⟩:=h;cases x with
 |non=>
  cases rx;cases y with
  |non=>cases ry;exact PySem.EqNone.ne_none_none (pL I q<|by simp)
  |bl j=>cases ry;exact PySem.EqNone.ne_none_bool (pL I q<|by simp)
  |int j=>obtain⟨t',rfl⟩:=ry;exact PySem.EqNone.ne_none_int (pL I q<|by simp)
  |str j=>obtain⟨t',rfl⟩:=ry;exact PySem.EqNone.ne_none_str (pL I q<|by simp)
  |_=>exact absurd (show false=true from hs) aU
 |bl i=>
  cases rx;cases y with
  |non=>cases ry;exact PySem.EqNone.ne_bool_none (pL I q<|by simp)
  |bl j=>cases ry;exact ne_bool (pL I q<|aV not adJ)
  |str j=>obtain⟨t',rfl⟩:=ry;exact PySem.EqMixed.ne_bool_str (pL I q<|by simp)
  |_=>exact absurd (show false=true from hs) aU
 |int i=>
  obtain⟨t,rfl⟩:=rx;cases y with
  |non=>cases ry;exact PySem.EqNone.ne_int_none (pL I q<|by simp)
  |int j=>obtain⟨t',rfl⟩:=ry;exact ne_int (pL I q<|aV not adL)
  |str j=>obtain⟨t',rfl⟩:=ry;exact PySem.EqMixed.ne_int_str (pL I q<|by simp)
  |_=>exact absurd (show false=true from hs) aU
 |str i=>
  obtain⟨t,rfl⟩:=rx;cases y with
  |non=>cases ry;exact PySem.EqNone.ne_str_none (pL I q<|by simp)
  |bl j=>cases ry;exact PySem.EqMixed.ne_str_bool (pL I q<|by simp)
  |int j=>obtain⟨t',rfl⟩:=ry;exact PySem.EqMixed.ne_str_int (pL I q<|by simp)
  |str j=>obtain⟨t',rfl⟩:=ry;exact ne_str (pL I q<|aV not adM)
  |_=>exact absurd (show false=true from hs) aU
 |vP i=>
  obtain⟨t,rfl⟩:=rx;cases y with
  |vP j=>obtain⟨t',rfl⟩:=ry;exact W.ne_bytes (pL I q<|aV not adK)
  |_=>exact absurd (show false=true from hs) aU
 |_=>cases y<;>exact absurd (show false=true from hs) aU
def aph:qb X (compareOp .Lt) (Ec λi j=>.bl<|decide<|i<j):=YJ λ_ _ _ _ _ _ _ q=>lt_int q
def apf:qb X (compareOp .Gt) (Ec λi j=>.bl<|decide<|j<i):=YJ λ_ _ _ _ _ _ _ q=>gt_int q
def ape:qb X (compareOp .GtE) (Ec λi j=>.bl<|decide<|j<=i):=YJ λ_ _ _ _ _ _ _ q=>ge_int q
def apg:qb X (compareOp .In) (λx y H Q=>∃i j,x=.str i/\y=.str j/\Q (.bl<|!(Builtin.Str.occurrences j i 0 j.length 1).isEmpty) H):=by intro pins s σ H x y v u Q I rx ry h;obtain⟨i,j,rfl,rfl,q⟩:=h;obtain⟨t,rfl⟩:=rx;obtain⟨t',rfl⟩:=ry;exact in_str (pL I q rfl)
def YC(b)(h:op≠.In:=by decide)(h2:op≠.NotIn:=by decide):behindInMarks op b=false:=by
 have e1:(op==CmpOp.In)=false:=by cases op<;>first|rfl|exact absurd rfl h
 have e2:(op==CmpOp.NotIn)=false:=by cases op<;>first|rfl|exact absurd rfl h2
 cases b<;>simp[behindInMarks,e1,e2]
def apE(ho:qb X (compareOp op) r)(ha:PE X a ta)(hb:PE X b tb)(hm:behindInMarks op b=false):PE X (.Compare a [op] [b] pos) (Uo r ta tb):=by intro pins s σ H Q I h;exact wpAny_Compare1 (V0 ha hb I h λv u s2 x y H2 I2 rx ry q=>ho pins s2 σ H2 x y v u Q I2 rx ry q) hm
def aua(t:TE):TT:=λσ H Q=>t σ H λx H'=>∃k,x=.bl k/\Q k H'
def age(ho:qb X (compareOp op) r)(ha:PE X a ta)(hb:PE X b tb)(hm:behindInMarks op b=false):PT X (.Compare a [op] [b] pos) (aua<|Uo r ta tb):=by
 intro pins s σ H Q I h
 refine wpAny_isTrue_Compare1 (lE (ha pins s σ H _ I h) λv s1 ⟨x,H1,I1,r1,q1⟩=>lE (hb pins s1 σ H1 _ I1 q1) λu s2 ⟨y,H2,I2,r2,q2⟩=>lE (ho pins s2 σ H2 x y v u _ I2 r1 r2 q2) λc s3 ⟨z,H3,I3,r3,k,e,q3⟩=>?_) hm
 subst e;cases r3;exact dF ⟨H3,I3,q3⟩
def Vt(K:W.Frag)(x:V)(H:Hp)(k:Bool):Prop:=
 match x with
 |.non=>k=false
 |.bl b=>k=b
 |.int i=>k=(i !=0)
 |.str y=>y.length<=sizeLine/\k=((y.length:Int)!=0)
 |.vP y=>y.size<=sizeLine/\k=((y.size:Int)!=0)
 |.ref p=>(∃xs,sE K H p xs/\k=!xs.isEmpty)\/(∃xs,uW K H p xs/\k=!xs.isEmpty)\/∃kvs,H p=some (.dK kvs)/\k=!kvs.isEmpty
 |_=>False
def aml{κ:Type}{kvs:List<|κ×V}{vs:List<|κ×Value}(r:KV kvs vs):(!vs.isEmpty)=!kvs.isEmpty:=by cases r<;>rfl
def aeK{xs:List V}{its:List Value}(r:Vals xs its):(!its.toArray.isEmpty)=!xs.isEmpty:=by cases r<;>simp
def Jl:(sizeLine:Nat)<2^63:=by rw[cX];decide
def auG:ajn X (λx H Q=>∃k,Vt X.K x H k/\Q k H):=by
 intro pins s σ H x v Q I rx h;obtain⟨k,e,q⟩:=h;have hl:=Jl;have hs:sizeLine=16777216:=cX;cases x with
 |non=>cases rx;have e':k=false:=e;subst e';exact truthy_none ⟨H,I,q⟩
 |bl b=>cases rx;have e':k=b:=e;subst e';exact dF ⟨H,I,q⟩
 |int i=>obtain⟨t,rfl⟩:=rx;have e':k=(i !=0):=e;subst e';exact PySem.P.truthy_int ⟨H,I,q⟩
 |str y=>obtain⟨t,rfl⟩:=rx;obtain⟨hy,e'⟩:y.length<=sizeLine/\k=((y.length:Int)!=0):=e;subst e';exact PySem.P.truthy_str (by omega) ⟨H,I.tok _,q⟩
 |vP y=>obtain⟨t,rfl⟩:=rx;obtain⟨hy,e'⟩:y.size<=sizeLine/\k=((y.size:Int)!=0):=e;subst e';exact W.truthy_bytes (by omega) ⟨H,I.tok _,q⟩
 |ref p=>
  cases rx;have e':(∃xs,sE X.K H p xs/\k=!xs.isEmpty)\/(∃xs,uW X.K H p xs/\k=!xs.isEmpty)\/∃kvs,H p=some (.dK kvs)/\k=!kvs.isEmpty:=e;rcases e' with⟨xs,hx,e'⟩|⟨xs,hx,e'⟩|⟨kvs,hx,e'⟩
  ·subst e';obtain⟨its,r,pl,hz⟩:=I.list hx;have hlen:=r.length;exact wpAny_truthy_list pl.isList (by simp only[aY];omega) ⟨H,I.tok _,by rw[aeK r];exact q⟩
  ·subst e';obtain⟨its,r,pl,hz⟩:=I.tuple hx;have hlen:=r.length;exact truthy_tuple pl (by simp only[aY];omega) ⟨H,I.tok _,by rw[aeK r];exact q⟩
  ·subst e';obtain⟨hz,hS,vs,r,m⟩:kvs.length<=sizeLine/\(p==sysModules)=false/\∃vs,KV kvs vs/\s.heap.DictOf (u6 X.prog X.w) p vs:=I.hok p _ hx;have hlen:kvs.length=vs.length:=Paired.length r;exact wpAny_truthy_dict hS m (by omega) ⟨H,I.tok _,by rw[aml r];exact q⟩
 |_=>exact(show False from e).elim
def aqr(ha:PE X a ta)(he:∀whole,isTrue a X.env whole=(do let v<-whole;standAt a.pos;holding [v]<|truthy v)):
    PT X a (λσ H Q=>ta σ H λx H'=>∃k,Vt X.K x H' k/\Q k H'):=by
 intro pins s σ H Q I h;exact isTrue_plain (lE (ha pins s σ H _ I h) λv s1 ⟨x,H1,I1,r1,q1⟩=>auG pins s1 σ H1 x v Q I1 r1 q1) (he _)
def ao9:qb X (binaryOp .Add) (λx y H Q=>∃i j,x=.str i/\y=.str j/\i.length+j.length<=sizeLine/\Q (.str<|i++j) H):=by intro pins s σ H x y v u Q I rx ry h;obtain⟨i,j,rfl,rfl,hz,q⟩:=h;obtain⟨t,rfl⟩:=rx;obtain⟨t',rfl⟩:=ry;exact add_str (λt' tk=>⟨.str<|i++j,H,I.tok _,⟨_,rfl⟩,q⟩) hz
def vals1(r:Vals [x] us):∃u,us=[u]/\RelV x u:=by
 cases r with
 |cons r1 r2=>cases r2;exact⟨_,rfl,r1⟩
def vals2{y}(r:Vals [x,y] us):∃u w',us=[u,w']/\RelV x u/\RelV y w':=by
 cases r with
 |cons r1 r2=>
  cases r2 with
  |cons r3 r4=>cases r4;exact⟨_,_,rfl,r1,r3⟩
def ajZ:sV X (.builtin "abs") (λxs H Q=>∃i,xs=[.int i]/\Q (.int<|if i<0 then -i else i) H):=by intro pins s σ H xs us Q I r h;obtain⟨i,rfl,q⟩:=h;obtain⟨u,rfl,t,rfl⟩:=vals1 r;exact call_abs_int λu tk=>⟨.int<|if i<0 then -i else i,H,I.tok _,⟨_,rfl⟩,q⟩
def aj8(hc:X.calm=true):sV X (.builtin "max") (λxs H Q=>∃i j,xs=[.int i,.int j]/\Q (.int<|if j>i then j else i) H):=by
 intro pins s σ H xs us Q I r h;obtain⟨i,j,rfl,q⟩:=h;obtain⟨u,w',rfl,⟨t,rfl⟩,⟨t',rfl⟩⟩:=vals2 r;refine max_two_ints (I.ok.hd hc) λh' tk k=>⟨_,H,I.kept k,?_,q⟩;by_cases hj:j>i;·rw[au hj,au hj];exact⟨_,rfl⟩
 ·rw[aA hj,aA hj];exact⟨_,rfl⟩
def aj9:sV X (.type "str") (λxs H Q=>∃i,xs=[.int i]/\i.natAbs.log2<1920/\Q (.str<|toString i) H):=by intro pins s σ H xs us Q I r h;obtain⟨i,rfl,hz,q⟩:=h;obtain⟨u,rfl,t,rfl⟩:=vals1 r;exact PySem.P.str_of_int hz ⟨.str _,H,I.tok _,⟨_,rfl⟩,q⟩
end
structure Ey(h:Heap)(x dx C:Addr)(mA:nO):Prop where
 obj:h.get? x=some (W.instObj C dx)
 ns:h.Ns1 dx mA
 ne:dx≠x
def amN{h:Heap}(n:h.Ns1 dx mA):∃od,h.get? dx=some od/\∀name,W.lookIn name od=some (mA name):=by
 obtain⟨o,es,ep,ho,hd,hk,_,hm⟩:=n;refine⟨o,ho,λname=>?_⟩;have e:=hm name;unfold nsFind findBy at e;rw[<-Array.find?_toList]at e;unfold W.lookIn;rw[hd];dsimp only;split
 ·rename_i y q;rw[q]at e;exact aV some e
 ·rename_i q;rw[q]at e;have a:es.toList.any (·.refKey)=false:=by
   rw[List.any_eq_false];intro y hy;obtain⟨z,t,alE⟩:=hk y (Array.mem_toList_iff.mp hy);simp[DictEntry.refKey,alE]
  have a':¬es.toList.any (·.refKey)=true:=by rw[a];exact aU
  rw[aA a'];exact aV some e
def Ey.look(I:Ey h x dx C mA):∃od,W.InstAt h x (W.instObj C dx) C (some od)/\∀name,W.lookIn name od=some (mA name):=
 let⟨od,ho,hl⟩:=amN I.ns
 ⟨od,⟨I.obj,rfl,rfl,ho⟩,hl⟩
section
variable{prog:Program}{w:World}{A:Around}{E:mW}{s:Shared}{K:W.Frag}{x dx C f:Addr}{mA:nO}{name:Str}{v:Value}
def get_map{Q:mW}(X:K.In s.heap)(I:Ey s.heap x dx C mA)(hg:W.plainGet K C name=true)(hh:W.hasDictIn K C=true)
 (ha:W.findIn K (.ref C) name=some none)(hv:mA name=some v)(hv':W.handedIn v=true)(h:Q v {s with toks:=s.toks+1}):
   wpAny (model prog w) A (getAttr (.ref x) name expr) Q E s:=by
  obtain⟨od,J,hl⟩:=I.look;exact W.get_value X J (W.plainGet_of hg).1 (W.findObj_own hh ha rfl<|by rw[hl,hv]) hv' h
def alf{Q:Value×List Value->Shared->Prop}(X:K.In s.heap)(I:Ey s.heap x dx C mA)(hg:W.plainGet K C name=true)
 (hf:W.findIn K (.ref C) name=some (some<|.ref f))(ht:W.isFn K (.ref f)=true)(hv:mA name=none)(h:Q (.ref f,[.ref x]) s):
   wpAny (model prog w) A (getMethod (.ref x) name pl) Q E s:=by
  obtain⟨od,J,hl⟩:=I.look;exact W.method_fn X J (W.plainGet_of hg).1 (W.plainGet_of hg).2 hf (beq_iff_eq.mp ht) (by show(W.lookIn name od).map (·.isSome)=some false;rw[hl,hv];rfl) h
def as7{Q:Unit->Shared->Prop}(X:K.In s.heap)(I:Ey s.heap x dx C mA)
 (hs:W.findIn K (.ref C) "__setattr__"=some (some<|.builtin "object.__setattr__"))(hp:W.plainOver K C=true)(ht:W.takerIn K C name=some none)(hh:W.hasDictIn K C=true)
 (hw:PySem.Within mA ns)(hsz:ns.length<=sizeLine)
 (h:∀h',Ey h' x dx C (λy=>if y=name then some v else mA y)->Heap.SameBut dx s.heap h'->Q () {s with heap:=h',toks:=s.toks+2}):
   wpAny (model prog w) A (setAttr (.ref x) name v) Q E s:=by
  obtain⟨od,J,hl⟩:=I.look;refine W.set_plain X J hs (W.osa_open (s:={s with toks:=s.toks+1}) (r:=none) X J hp ht λb=>?_);obtain⟨cd,hc,Mx⟩:=W.any_some hh;have hx:s.heap.get? x=some ⟨.ref C,some dx,.plain,#[]⟩:=I.obj;refine aD (bf<|aD<|aD<|wpAny_loadPart hx<|aD<|W.Looks.here (s:={s with toks:=s.toks+1}) (W.looks_clsIn X hc) ?_);rw[Mx];refine bf (a:=some dx) (aD<|bf<|aD ?_);refine wpAny_nsSet1 (s:={s with toks:=s.toks+1}) I.ns λh' yp hs2=>?_;obtain⟨oD,esD,epD,hoD,hdD,hcD⟩:=yp.count (PySem.Within.cons name v hw);refine aD (wpAny_lookBehind hoD (by rw[hdD];exact pastItsLine_dict (aJ hcD (by rw[ak];omega))) ?_);exact bf (h _ ⟨(hs2.2 _<|cY I.ne).trans I.obj,yp,I.ne⟩ hs2)
def anw{R}(X:K.In s.heap)(hm:W.makesIn K C=true)
 (hi:W.findIn K (.ref C) "__init__"=some (some<|.ref f))(hf:W.typeIn K (.ref f)=some (.type "function"))
 (h:codeAny (model prog w) (A.under (.builtin "type.__call__" ⟨.ref C::vs,kw⟩)) (.call (.ref f) ⟨.ref (s.heap.objs.size+1)::vs,kw⟩) (W.InitBack (s.heap.objs.size+1) R)
 {s with heap:=(s.heap.push W.emptyDict).push (W.instObj C s.heap.objs.size)}):
   codeAny (model prog w) A (.call (.ref C) ⟨vs,kw⟩) R s:=by
  obtain⟨hh,g,d,t,os⟩:=s;exact W.make_core (W.makes_of X hm) (W.looks_findIn X hi) (λself=>W.bind_fn X self hf) (.inl rfl) h
end
def qH(f:Str)(v:V):List (Str×V)->List (Str×V)
 |[]=>[(f,v)]
 |(g,x)::r=>if g=f then(g,v)::r else(g,x)::qH f v r
theorem ae9(f g v):∀fs:List (Str×V),(qH f v fs).lookup g=if g=f then some v else fs.lookup g
 |[]=>by
  show List.lookup g [(f,v)]=_;by_cases h:g=f
  ·have hb:(g==f)=true:=beq_iff_eq.mpr h;simp only[List.lookup,hb,au h]
  ·have hb:(g==f)=false:=beq_eq_false_iff_ne.mpr h;simp only[List.lookup,hb,aA h]
 |(k,x)::r=>by
  have ih:=ae9 f g v r;rw[show qH f v ((k,x)::r)=(if k=f then(k,v)::r else(k,x)::qH f v r)from rfl];by_cases hk:k=f
  ·rw[au hk];by_cases h:g=k
   ·have hb:(g==k)=true:=beq_iff_eq.mpr h;simp only[List.lookup,hb,au<|h.trans hk]
   ·have hb:(g==k)=false:=beq_eq_false_iff_ne.mpr h;simp only[List.lookup,hb,aA (λe:g=f=>h<|e.trans hk.symm)]
  ·rw[aA hk];by_cases h:g=k
   ·have hb:(g==k)=true:=beq_iff_eq.mpr h;simp only[List.lookup,hb,aA (λe:g=f=>hk<|h.symm.trans e)]
   ·have hb:(g==k)=false:=beq_eq_false_iff_ne.mpr h;simp only[List.lookup,hb];exact ih
theorem X7(f v):∀fs:List (Str×V),f∈(qH f v fs).map (·.1)/\∀g,g∈fs.map (·.1)->g∈(qH f v fs).map (·.1)
 |[]=>⟨by simp[qH],λg h=>by simp at h⟩
 |(k,x)::r=>by
  obtain⟨i1,i2⟩:=X7 f v r;rw[show qH f v ((k,x)::r)=(if k=f then(k,v)::r else(k,x)::qH f v r)from rfl];by_cases hk:k=f
  ·rw[au hk];subst hk;exact⟨by simp,λg h=>by simpa using h⟩
  ·rw[aA hk];refine⟨?_,λg h=>?_⟩
   ·rw[aR];exact aW _ i1
   ·rw[aR]at h⊢;rcases List.mem_cons.mp h with e|e;·exact List.mem_cons.mpr (.inl e)
    ·exact aW _ (i2 g e)
theorem ae6(f v):∀fs:List (Str×V),(qH f v fs).length<=fs.length+1
 |[]=>by simp[qH]
 |(k,x)::r=>by
  have ih:=ae6 f v r;rw[show qH f v ((k,x)::r)=(if k=f then(k,v)::r else(k,x)::qH f v r)from rfl];by_cases hk:k=f;·rw[au hk,ak,ak];omega
  ·rw[aA hk,ak,ak];omega
def tX.some_of(r:tX (some v) o):∃u,o=some u/\RelV v u:=by
 cases o with
 |none=>exact(show False from r).elim
 |some u=>exact⟨u,rfl,r⟩
def tX.none_of(r:tX none o):o=none:=by
 cases o with
 |none=>rfl
 |some u=>exact(show False from r).elim
def alu{u}(r:RelV v u):W.handedIn u=true:=by
 cases v with
 |non=>cases(show u=Value.none from r);rfl
 |bl b=>cases(show u=Value.bool b from r);rfl
 |int i=>obtain⟨t,e⟩:=(show∃t,u=Value.int i t from r);cases e;rfl
 |str x=>obtain⟨t,e⟩:=(show∃t,u=Value.str x t from r);cases e;rfl
 |vP b=>obtain⟨t,e⟩:=(show∃t,u=Value.bytes b t from r);cases e;rfl
 |flt b=>obtain⟨t,e⟩:=(show∃t,u=Value.float b t from r);cases e;rfl
 |ref a=>cases(show u=Value.ref a from r);rfl
 |ty n=>cases(show u=Value.type n from r);rfl
section
variable{P:Program}{w:World}{H H':Hp}{h h':Heap}{a C dx:Addr}{fs Ij:List<|Str×V}
def XN(hok:ph P w H h)(e:H a=some (.ins C dx fs)):∃mA,Ey h a dx C mA/\(∀f,tX (fs.lookup f) (mA f))/\PySem.Within mA (fs.map (·.1))/\fs.length<=1000/\H dx=some (.own a):=by obtain⟨d,z,ne,ob,mA,n,r,q⟩:=(show qL P w H h a (.ins C dx fs)from hok a _ e);exact⟨mA,⟨ob,n,ne⟩,r,q,z,d⟩
end
structure uE(K:W.Frag)(C:Addr):Prop where
 pg:W.plainGet K C Str.empty=true
 hd:W.hasDictIn K C=true
 po:W.plainOver K C=true
 sa:W.findIn K (.ref C) "__setattr__"=some (some<|.builtin "object.__setattr__")
def uE.get{K:W.Frag}{C:Addr}(c:uE K C)(f:Str):W.plainGet K C f=true:=c.pg
def vN(K:W.Frag)(C:Addr)(f:Str):Prop:=W.findIn K (.ref C) f=some none
def vN.auw{K:W.Frag}{C:Addr}{f:Str}(n:vN K C f):W.takerIn K C f=some none:=by unfold W.takerIn;rw[show W.findIn K (.ref C) f=some none from n];rfl
structure Con(K:W.Frag)(C:Addr)(f:Str)(v:V)(u:Value):Prop where
 at_:W.findIn K (.ref C) f=some (some u)
 rel:RelV v u
 get:W.specialIn K u "__get__"=some none
 cp:W.copiedNames.contains f=false
structure Meth(K:W.Frag)(C:Addr)(m:Str)(f:Addr):Prop where
 at_:W.findIn K (.ref C) m=some (some<|.ref f)
 fn:W.isFn K (.ref f)=true
 kp:W.keepIn K (.ref f)=true
section
variable{X:Cx}{pins:List<|Addr×Obj}{σ:St}{H:Hp}{s:Shared}{a C dx:Addr}{fs:List<|Str×V}{f:Str}{v:V}{A:Around}{E:mW}
def aek{Q:mW}(I:Inv X pins σ H s)(e:H a=some (.ins C dx fs))(c:uE X.K C)(n:vN X.K C f)(l:fs.lookup f=some v)
 (h:∀u s',Inv X pins σ H s'->RelV v u->Q u s'):wpAny (model X.prog X.w) A (getAttr (.ref a) f b) Q E s:=by obtain⟨mA,O,r,_,_,_⟩:=XN I.hok e;obtain⟨u,hu,ru⟩:=tX.some_of (v:=v) (o:=mA f) (by rw[<-l];exact r f);exact get_map I.o4 O (c.get f) c.hd n hu (alu ru) (h u _ (I.tok _) ru)
def ael{g}{Q:Value×List Value->Shared->Prop}(I:Inv X pins σ H s)(e:H a=some (.ins C dx fs))(c:uE X.K C)(k:Meth X.K C m g)(l:fs.lookup m=none)
 (h:Q (.ref g,[.ref a]) s):wpAny (model X.prog X.w) A (getMethod (.ref a) m pl) Q E s:=by obtain⟨mA,O,r,_,_,_⟩:=XN I.hok e;have hn:mA m=none:=tX.none_of (by rw[<-l];exact r m);exact alf I.o4 O (c.get m) k.at_ k.fn hn h
def ahs{y u}{Q:Unit->Shared->Prop}(I:Inv X pins σ H s)(e:H a=some (.ins C dx fs))(c:uE X.K C)(n:vN X.K C f)(hl:fs.length<1000)(ry:RelV y u)
 (h:∀s',Inv X pins σ (upd H a<|.ins C dx<|qH f y fs) s'->Q () s'):wpAny (model X.prog X.w) A (setAttr (.ref a) f u) Q E s:=by
  obtain⟨mA,O,r,wi,_,ho⟩:=XN I.hok e;have hz:(fs.map (·.1)).length<=sizeLine:=by rw[az,cX];omega
  refine as7 I.o4 O c.sa c.po n.auw c.hd wi hz λh' O' sb=>h _ ?_;have hd:∃o,h'.get? dx=some o:=let⟨o,_,_,e',_⟩:=O'.ns;⟨o,e'⟩;refine I.write (x:=a) (e:=dx) (by rw[e];exact True.intro) (.inr ho) (λb q hb z=>(sb.2 b hb).trans z) hd ?_;refine⟨by rw[mz O.ne];exact ho,?_,O.ne,O'.obj,_,O'.ns,λg=>?_,λg hg=>?_⟩;·have:=ae6 f y fs;omega
  ·show tX ((qH f y fs).lookup g) (if g=f then some u else mA g);rw[ae9];by_cases q:g=f;·rw[au q,au q];exact ry
   ·rw[aA q,aA q];exact r g
  ·by_cases q:g=f;·rw[q];exact(X7 f y fs).1
   ·refine(X7 f y fs).2 g (wi g λz=>hg ?_);show(if g=f then some u else mA g)=none;rw[aA q];exact z
def Inv.made(I:Inv X pins σ H s):Inv X pins σ (upd (upd H s.heap.objs.size<|.own<|s.heap.objs.size+1) (s.heap.objs.size+1)<|.ins C s.heap.objs.size [])
    {s with heap:=(s.heap.push W.emptyDict).push (W.instObj C s.heap.objs.size)}:=by
 have e1:(s.heap.push W.emptyDict).get? s.heap.objs.size=some W.emptyDict:=bC s.heap rfl;have e2:((s.heap.push W.emptyDict).push (W.instObj C s.heap.objs.size)).get? (s.heap.objs.size+1)=some (W.instObj C s.heap.objs.size):=by
  have:=bC (s.heap.push W.emptyDict) (o:=W.instObj C s.heap.objs.size) rfl
  rwa [jf]at this
 have e3:(s.heap.push W.emptyDict).Ns s.heap.objs.size (λ_=>none):=⟨W.emptyDict,#[],_,e1,rfl,(λe he=>absurd he<|by simp),λ_=>rfl⟩;have I1:=I.laid (a:=s.heap.objs.size) (o:=.own<|s.heap.objs.size+1) (h':=s.heap.push W.emptyDict) (t':=s.toks) (λb u q=>aF _ q) (aB _) ⟨_,e1⟩;refine I1.laid (a:=s.heap.objs.size+1) (o:=.ins C s.heap.objs.size []) (t':=s.toks) (λb u q=>aF _ q) (Nat.le_of_eq<|jf _ _) ?_;have ne:s.heap.objs.size≠s.heap.objs.size+1:=bO (b8 _);refine⟨by rw[mz ne,ql],dY _,ne,e2,λ_=>none,(Heap.Ns1.of_empty e3).at λo q=>aF _ q,λ_=>True.intro,λy hy=>absurd rfl hy⟩
def ajF{w pos}(hb:attributeBase e f env (eval e env)=eval e env)
 (h:wpAny (model prog w) A (eval e env) (λo s₁=>wpAny (model prog w) A (getAttr o f true) Q E s₁) E s):wpAny (model prog w) A (eval (.Attribute e f pos) env) Q E s:=
  Attribute_any_ h (by rw[arm_eval_Attribute,hb])
end
def atO(K:W.Frag)(ta:TE)(f:Str):TE:=λσ H Q=>ta σ H λx H1=>∃a C dx fs v,x=.ref a/\H1 a=some (.ins C dx fs)/\uE K C/\vN K C f/\fs.lookup f=some v/\Q v H1
def ash(K:W.Frag)(ta tv:TE)(f:Str):TS:=λD σ H=>tv σ H λy H1=>ta σ H1 λx H2=>∃a C dx fs,x=.ref a/\H2 a=some (.ins C dx fs)/\uE K C/\vN K C f/\fs.length<1000/\
 D.nx σ (upd H2 a<|.ins C dx<|qH f y fs)
def Ho(X:Cx)(op:Operator)(rd:V->V->Hp->VK->Prop):Prop:=
 ∀pins s σ H x y u v Q,Inv X pins σ H s->RelV x u->RelV y v->rd x y H Q->wpAny (model X.prog X.w) X.A (inplaceOp op u v) (EP X pins σ Q) X.xe s
def asi(K:W.Frag)(ta tv:TE)(rd:V->V->Hp->VK->Prop)(f:Str):TS:=λD σ H=>ta σ H λx H1=>∃a C dx fs v,x=.ref a/\H1 a=some (.ins C dx fs)/\uE K C/\vN K C f/\fs.lookup f=some v/\
 tv σ H1 λy H2=>rd v y H2 λz H3=>∃WM Ij,H3 a=some (.ins C WM Ij)/\Ij.length<1000/\D.nx σ (upd H3 a<|.ins C WM<|qH f z Ij)
section
variable{X:Cx}{o e value:Expr}{f:Str}{pos pos' Uu:Pos}{ta tv:TE}
def apI(he:PE X e ta)(hb:attributeBase e f X.env (eval e X.env)=eval e X.env):PE X (.Attribute e f pos) (atO X.K ta f):=by intro pins s σ H Q I h;refine ajF hb (lE (he pins s σ H _ I h) λu s1 ⟨x,H1,I1,rx,a,C,dx,fs,v,ex,ea,c,n,l,q⟩=>?_);subst ex;obtain rfl:u=Value.ref a:=rx;exact aek I1 ea c n l λu' s2 I2 ru=>⟨v,H1,I2,ru,q⟩
def aqh(ha:PE X o ta)(hv:PE X value tv)(hs:swapsWith value (some<|.Attribute o f pos') pos.line X.env=pure false):PS X (.Assign [.Attribute o f pos'] value pos) (ash X.K ta tv f):=by intro pins s σ H D I h;refine fP (lE (hv pins s σ H _ I h) λu s1 ⟨y,H1,I1,ry,q⟩=>lE (ha pins s1 σ H1 _ I1 q) λov s2 ⟨x,H2,I2,rx,a,C,dx,fs,ex,ea,c,n,l,q2⟩=>?_) hs;subst ex;obtain rfl:ov=Value.ref a:=rx;exact ahs I2 ea c n l ry λs3 I3=>⟨σ,_,I3,q2⟩
def aqj(ha:PE X o ta)(hv:PE X value tv)(hop:Ho X op rd):PS X (.AugAssign (.Attribute o f Uu) op value pos) (asi X.K ta tv rd f):=by intro pins s σ H D I h;refine wpAny_AugAssign_AttributeAny (lE (ha pins s σ H _ I h) λov s1 ⟨x,H1,I1,rx,a,C,dx,fs,v,ex,ea,c,n,l,q⟩=>?_);subst ex;obtain rfl:ov=Value.ref a:=rx;refine aek I1 ea c n l λu s2 I2 ru=>lE (hv pins s2 σ H1 _ I2 q) λw3 s3 ⟨y,H2,I3,ry,q3⟩=>lE (hop pins s3 σ H2 v y u w3 _ I3 ru ry q3) λw4 s4 ⟨z,H3,I4,rz,WM,Ij,ea',l',q4⟩=>?_;exact ahs I4 ea' c n l' rz λs5 I5=>⟨σ,_,I5,q4⟩
def arM:V->V->Hp->VK->Prop:=λx y H Q=>∃i j,x=.int i/\y=.int j/\Q (.int<|i+j) H
def arU:V->V->Hp->VK->Prop:=λx y H Q=>∃i j,x=.int i/\y=.int j/\Q (.int<|i - j) H
def amf:Ho X .Add arM:=by
 rintro pins s σ H x y u v Q I rx ry ⟨i,j,rfl,rfl,q⟩
 obtain⟨t,rfl⟩:=(show∃t,u=Value.int i t from rx);obtain⟨t',rfl⟩:=(show∃t',v=Value.int j t' from ry);exact PyProof.Rows.iadd_int ⟨.int<|i+j,H,I.tok _,⟨_,rfl⟩,q⟩
def amh:Ho X .Sub arU:=by
 rintro pins s σ H x y u v Q I rx ry ⟨i,j,rfl,rfl,q⟩
 obtain⟨t,rfl⟩:=(show∃t,u=Value.int i t from rx);obtain⟨t',rfl⟩:=(show∃t',v=Value.int j t' from ry);exact PyProof.Rows.isub_int ⟨.int<|i - j,H,I.tok _,⟨_,rfl⟩,q⟩
end
section
variable{X:Cx}{pins:List<|Addr×Obj}{σ:St}{H:Hp}{s:Shared}{A:Around}{E Q:mW}{c:Value}{b:Bool}
inductive xW(K:W.Frag)(H:Hp):V->Value->Prop where
 |non:xW K H .non (.type "NoneType")
 |bl (x:Bool):xW K H (.bl x) (.type "bool")
 |int (i:Int):xW K H (.int i) (.type "int")
 |str (x:Str):xW K H (.str x) (.type "str")
 |flt (x:UInt64):xW K H (.flt x) (.type "float")
 |lst {a:Addr} {xs:List V} (e:H a=some (.lst xs)):xW K H (.ref a) (.type "list")
 |vV {a:Addr} {o:Obj} {xs:List V} (e:H a=some (.vV o<|.lst xs)):xW K H (.ref a) (.type "list")
 |tup {a:Addr} {xs:List V} (e:H a=some (.tup xs)):xW K H (.ref a) (.type "tuple")
 |dK {a:Addr} {kvs:List<|Key×V} (e:H a=some (.dK kvs)):xW K H (.ref a) (.type "dict")
 |dT {a:Addr} {kvs:List<|List Key×V} (e:H a=some (.dT kvs)):xW K H (.ref a) (.type "dict")
 |ins {a C dx:Addr} {fs:List<|Str×V} (e:H a=some (.ins C dx fs)) (cl:uE K C) (ha:W.findIn K (.ref C) "__class__"=some (some<|.builtin "object.__class__"))
   (hn:W.specialIn K (.builtin "object.__class__") "__get__"=some (some<|.builtin "getset_descriptor.__get__")) (htk:W.takesIn K (.builtin "object.__class__")=some true)
   (hm:W.mroIn K C (.type "object")=some true):xW K H (.ref a) (.ref C)
end
structure n6(k:Nat)(A:Around):Prop where
 hd:A.handled=none
 dp:A.depth+3*k+5<recursionLimit
 un:A.units+16*k+200<cLine
def n6.mono{k}(r:n6 k A)(h:j<=k):n6 j A:=⟨r.hd,by have:=r.dp;omega,by have:=r.un;omega⟩
def n6.deeper{k}(r:n6 (k+1) A)(env):n6 k (A.deeper env):=
 ⟨r.hd,by have:=r.dp;show A.depth+1+3*k+5<_;omega,by have:=r.un;show A.units+3+16*k+200<_;omega⟩
def anu{A:Around}:(A.under<|.builtin "type.__call__" ⟨.ref C::us,kw⟩).depth=A.depth+1:=by first|rfl|simp[Around.under,Code.weight,Code.isCreation,Code.isGuard,Code.isCaller,Code.frames,Code.isFrame,guardIds]
def anx{A:Around}:(A.under<|.builtin "type.__call__" ⟨.ref C::us,kw⟩).units=A.units+1:=by first|rfl|simp[Around.under,Code.cUnits,Code.frames,Code.isFrame]
def n6.make{k}(r:n6 (k+1) A)(C us kw):n6 k (A.under<|.builtin "type.__call__" ⟨.ref C::us,kw⟩):=
 ⟨r.hd,by have:=r.dp;rw[anu];omega,by have:=r.un;rw[anx];omega⟩
def n6.depth{k}(r:n6 k A):A.depth<recursionLimit:=by have:=r.dp;omega
def n6.units{k}(r:n6 k A):A.units+64<cLine:=by have:=r.un;omega
def ahK:TA:=λ_ H Q=>Q [] H
def atJ(ta:TE)(tr:TA):TA:=λσ H Q=>ta σ H λx H1=>tr σ H1 λxs H2=>Q (x::xs) H2
section
variable{X:Cx}{e:Expr}{es:List Expr}{te:TE}{t:TA}{pos:Pos}
def Tn:PA X [] ahK:=λ_ _ _ _ H Q I h=>Calls.spliced_nil ⟨[],H,I,.nil,h⟩
def Tj(ha:PE X e te)(hr:PA X es t)(hs:starEach (e::es) X.env=(false,eval e X.env)::starEach es X.env:=by rfl):PA X (e::es) (atJ te t):=by intro pos pins s σ H Q I h;rw[hs];show wpAny _ _ (spliced<|(false,eval e X.env)::backTo pos (starEach es X.env)) _ _ s;refine gU (lE (ha pins s σ H _ I h) λu s1 ⟨x,H1,I1,r1,q1⟩=>?_);exact lE (hr pos pins s1 σ H1 _ I1 q1) λus s2 ⟨xs,H2,I2,r2,q2⟩=>⟨x::xs,H2,I2,.cons r1 r2,q2⟩
def aub(t:TA):TE:=λσ H Q=>t σ H λxs H1=>xs.length<=sizeLine/\∀p,H1 p=none->Q (.ref p) (upd H1 p<|.tup xs)
def atU(t:TA):TE:=λσ H Q=>t σ H λxs H1=>xs.length<=sizeLine/\∀p,H1 p=none->Q (.ref p) (upd H1 p<|.lst xs)
def afZ{x1}(h:PA X es t):PE X (.Tuple es x1 pos) (aub t):=by intro pins s σ H Q I hq;refine wpAny_Tuple_spliced (lE (h pos pins s σ H _ I hq) λus s1 ⟨xs,H1,I1,r,z,q⟩=>⟨by rw[<-r.length];exact z,?_⟩);have hf:H1 s1.heap.objs.size=none:=I1.hok.fresh (aB _);refine⟨.ref s1.heap.objs.size,upd H1 s1.heap.objs.size<|.tup xs,I1.laid (t':=s1.toks) (λb u e=>aF _ e) (aB _) ?_,rfl,q _ hf⟩;exact⟨z,us,r,⟨_,bC _ rfl,rfl,_,rfl⟩⟩
def apL(h:PA X es t):PE X (.List es pos) (atU t):=by intro pins s σ H Q I hq;refine wpAny_List_spliced (lE (h pos pins s σ H _ I hq) λus s1 ⟨xs,H1,I1,r,z,q⟩=>⟨by rw[<-r.length];exact z,?_⟩);have hf:H1 s1.heap.objs.size=none:=I1.hok.fresh (aB _);refine⟨.ref s1.heap.objs.size,upd H1 s1.heap.objs.size<|.lst xs,I1.laid (t':=s1.toks) (λb u e=>aF _ e) (aB _) ?_,rfl,q _ hf⟩;exact⟨z,us,0,r,bC _ rfl⟩
end
abbrev Sp:=List V->Hp->VK->XK->Prop
abbrev vL:=List Env->Hp->Shared->XK->mW
structure Em(P:Program)(w:World)(K:W.Frag)(mg:nO)(base:Heap)(A:Around)(outer:List Env)(s:Shared)(H:Hp):Prop where
 frames:A.frames=some outer
 mod:Mod K mg base
 bs:∀b o,base.get? b=some o->s.heap.get? b=some o/\H b=none
 Al:base.objs.size<=s.heap.objs.size
 vW:s.heap.FunFrames base outer
 FW:∀b∈frs outer,H b=none
 hok:ph P w H s.heap
 bare:AllBare s.gens
def CE(outer:List Env)(P:Program)(w:World)(H:Hp)(s:Shared)(Q:VK)(u:Value)(s':Shared):Prop:=
 ∃v H',s'.os=s.os/\AllBare s'.gens/\Un (frs outer) [] H H' s.heap s'.heap/\ph P w H' s'.heap/\RelV v u/\Q v H'
def CR(CX:vL)(outer:List Env)(P:Program)(w:World)(H:Hp)(s:Shared)(Q:VK)(E:XK)(r:Result)(s':Shared):Prop:=
 match r with
 |.ok (.ret u)=>CE outer P w H s Q u s'
 |.ok _=>False
 |.error e=>CX outer H s E e s'
structure jZ(P:Program)(w:World)(K:W.Frag)(mg:nO)(base:Heap)(CX:vL)(k:Nat)(f:Addr)(fd:FuncData)(ps:List Str)(sp:Sp):Prop where
 len:∀vs H Q E,sp vs H Q E->vs.length=ps.length
 run:∀A outer s H args us vs Q E,n6 k A->Em P w K mg base A outer s H->BindsTo s fd args (ps.zip us)->Vals vs us->sp vs H Q E->
  codeAny (model P w) A (.call (.ref f) args) (CR CX outer P w H s Q E) s
def jZ.mono{P:Program}{w:World}{K:W.Frag}{mg:nO}{base:Heap}{CX:vL}{j k:Nat}{f:Addr}{fd:FuncData}{ps:List Str}{sp:Sp}(F:jZ P w K mg base CX j f fd ps sp)(h:j<=k):
    jZ P w K mg base CX k f fd ps sp:=⟨F.len,λA outer s H args us vs Q E hr=>F.run A outer s H args us vs Q E<|hr.mono h⟩
def jZ.imp{P:Program}{w:World}{K:W.Frag}{mg:nO}{base:Heap}{CX:vL}{k:Nat}{f:Addr}{fd:FuncData}{ps:List Str}{sp sp':Sp}(F:jZ P w K mg base CX k f fd ps sp)
    (h:∀vs H Q E,sp' vs H Q E->sp vs H Q E):jZ P w K mg base CX k f fd ps sp':=
 ⟨λvs H Q E q=>F.len vs H Q E<|h _ _ _ _ q,λA outer s H args us vs Q E hr he hb hv hs=>F.run A outer s H args us vs Q E hr he hb hv<|h _ _ _ _ hs⟩
def Em.make{P:Program}{w:World}{K:W.Frag}{mg:nO}{base:Heap}{A:Around}{outer:List Env}{s:Shared}{H:Hp}(e:Em P w K mg base A outer s H)(C:Addr)(us:List Value)(kw:List<|Str×Value):
    Em P w K mg base (A.under<|.builtin "type.__call__" ⟨.ref C::us,kw⟩) outer s H:=⟨by first|exact e.frames|(simpa [Around.under,Code.envs,Code.isFrame,pushEnvs]using e.frames),e.mod,e.bs,e.Al,e.vW,e.FW,e.hok,e.bare⟩
section
variable{X:Cx}{pins:List<|Addr×Obj}{σ:St}{H:Hp}{s s':Shared}
def Inv.QR(I:Inv X pins σ H s):Em X.prog X.w X.K X.mg X.base X.A X.stack s H:=
 ⟨I.ok.frames,I.ok.mod,I.bs,aJ I.ok.Al I.sz,I.stack,I.abK,I.hok,I.bare⟩
def Inv.after{u}(I:Inv X pins σ H s)(h:CE X.stack X.prog X.w H s Q u s'):EP X pins σ Q u s':=by obtain⟨v,H',os,bare,un,hok,r,q⟩:=h;obtain⟨hh,g,d,t,Ti⟩:=s';obtain rfl:Ti=s.os:=os;exact⟨v,H',I.call (h':=hh) (g':=g) (d':=d) (t':=t) (ch:=[]) un hok bare<|λb z=>absurd z<|by simp,r,q⟩
end
def ahI(sp:Sp)(oN:List V)(E:XK)(t:TA):TE:=λσ H Q=>t σ H λvs H1=>sp (vs++oN) H1 Q E
def ahJ(C:Addr)(m:Str)(sp:Sp)(oN:List V)(E:XK)(ta:TE)(t:TA):TE:=λσ H Q=>ta σ H λx H1=>∃a dx fs,x=.ref a/\H1 a=some (.ins C dx fs)/\fs.lookup m=none/\
 t σ H1 λvs H2=>sp (x::(vs++oN)) H2 Q E
def atV(C:Addr)(sp:Sp)(oN:List V)(E:XK)(t:TA):TE:=λσ H Q=>t σ H λvs H1=>∀x dx,H1 x=none->H1 dx=none->dx≠x->
 sp (.ref x::(vs++oN)) (upd (upd H1 dx<|.own x) x<|.ins C dx []) (λv H2=>v=.non/\Q (.ref x) H2) E
def Binds(K:W.Frag)(fd:FuncData)(ps:List Str)(ds:List Value):Prop:=
 ∀(s:Shared) us,K.In s.heap->(us++ds).length=ps.length->BindsTo s fd ⟨us,[]⟩ (ps.zip<|us++ds)
def Binds.all{K:W.Frag}{fd:FuncData}{ps:List Str}(h:∀us:List Value,us.length=ps.length->bindArgs fd ⟨us,[]⟩=pure (ps.zip us)):Binds K fd ps []:=λs us _ hl=>by rw[bz]at hl⊢;exact .of_eq (h us hl)
def Passes(CX:vL)(X:Cx)(E:XK):Prop:=∀pins σ H s e s',Inv X pins σ H s->CX X.stack H s E e s'->X.xe e s'
section
variable{X:Cx}{CX:vL}{k:Nat}{f C:Addr}{fd:FuncData}{ps:List Str}{sp:Sp}{oN:List V}{ds:List Value}{E:XK}{x m:Str}{p pos apos:Pos}{e o:Expr}{es:List Expr}{ta:TE}{t:TA}
def aax(F:jZ X.prog X.w X.K X.mg X.base CX k f fd ps sp)(hr:n6 k X.A)(hb:Binds X.K fd ps ds)(hd:Vals oN ds)(hx:Passes CX X E)
 (I:Inv X pins σ H s)(r:Vals vs us)(h:sp (vs++oN) H Q E):wpAny (model X.prog X.w) X.A (call (.ref f) us) (EP X pins σ Q) X.xe s:=by
  have r2:Vals (vs++oN) (us++ds):=r.append hd;have hl:(us++ds).length=ps.length:=by rw[<-r2.length];exact F.len _ _ _ _ h
  refine iJ (fK (F.run X.A X.stack s H ⟨us,[]⟩ (us++ds) (vs++oN) Q E hr I.QR (hb s us I.o4 hl) r2 h) λr s' hq=>?_);cases r with
  |error e=>exact hx pins σ H s e s' I hq
  |ok fl=>
   cases fl with
   |ret u=>exact I.after hq
   |next=>exact False.elim hq
   |brk=>exact False.elim hq
   |cont=>exact False.elim hq
def apC(F:jZ X.prog X.w X.K X.mg X.base CX k f fd ps sp)(hr:n6 k X.A)(hg:Gl X x)(hm:X.mg x=some (.ref f))(hk:W.keepIn X.K (.ref f)=true)(hb:Binds X.K fd ps ds)(hd:Vals oN ds)(hx:Passes CX X E)
 (ha:PA X (e::es) t)(hdb:(x==("__debug__":Str))=false:=by decide)(he:starEach (e::es) X.env=(false,eval e X.env)::starEach es X.env:=by rfl)(hpl:(backTo pos<|starEach es X.env).any (·.1)=false:=by rfl):
   PE X (.Call (.Name x p) (e::es) [] pos) (ahI sp oN E t):=by
  intro pins s σ H Q I h;refine d7 (Gr I hg hm ?_ hdb);refine gH (h₀:=X.base) I.ok.mod.Bh hk (lE (ha pos pins s σ H _ I h) λus s1 ⟨vs,H1,I1,r,q⟩=>⟨I1.o4,?_⟩) he hpl;exact aax F hr hb hd hx I1 r q
def apO(he:PE X o ta)(c:uE X.K C)(hm:Meth X.K C m f)(F:jZ X.prog X.w X.K X.mg X.base CX k f fd ps sp)(hr:n6 k X.A)(hb:Binds X.K fd ps ds)(hd:Vals oN ds)(hx:Passes CX X E)(ha:PA X (e::es) t)
 (hst:starEach (e::es) X.env=(false,eval e X.env)::starEach es X.env:=by rfl)(hpl:(backTo pos<|starEach es X.env).any (·.1)=false:=by rfl)
 (ht:eval (.Call (.Attribute o m apos) (e::es) [] pos) X.env=(do
 let ov<-eval o X.env
 standAt apos.atName
 let(f,first)<-holding [ov] (getMethod ov m pl)
 callWith pos f first (backTo pos (starEach (e::es) X.env)) (backToKw pos (keywordEach [] X.env))):=by rfl):
  PE X (.Call (.Attribute o m apos) (e::es) [] pos) (ahJ C m sp oN E ta t):=by
  intro pins s σ H Q I h;refine W.methodCall_KW (pl:=pl) (lE (he pins s σ H _ I h) λu s1 ⟨x,H1,I1,rx,a,dx,fs,ex,ea,l,q⟩=>?_) ht;subst ex;obtain rfl:u=Value.ref a:=rx;refine ael I1 ea c hm l ?_;refine gH (first:=[.ref a]) (h₀:=X.base) I.ok.mod.Bh hm.kp (lE (ha pos pins s1 σ H1 _ I1 q) λus s2 ⟨vs,H2,I2,r,q2⟩=>⟨I2.o4,?_⟩) hst hpl;exact aax (us:=.ref a::us) (vs:=.ref a::vs) F hr hb hd hx I2 (.cons rfl r) q2
def apP(he:PE X o ta)(c:uE X.K C)(hm:Meth X.K C m f)(F:jZ X.prog X.w X.K X.mg X.base CX k f fd ps sp)(hr:n6 k X.A)(hb:Binds X.K fd ps ds)(hd:Vals oN ds)(hx:Passes CX X E)
 (ht:eval (.Call (.Attribute o m apos) [] [] pos) X.env=(do
 let ov<-eval o X.env
 standAt apos.atName
 let(f,first)<-holding [ov] (getMethod ov m pl)
 callWith pos f first (backTo pos (starEach [] X.env)) (backToKw pos (keywordEach [] X.env))):=by rfl):
  PE X (.Call (.Attribute o m apos) [] [] pos) (ahJ C m sp oN E ta ahK):=by
  intro pins s σ H Q I h;refine W.methodCall_KW (pl:=pl) (lE (he pins s σ H _ I h) λu s1 ⟨x,H1,I1,rx,a,dx,fs,ex,ea,l,q⟩=>?_) ht;subst ex;obtain rfl:u=Value.ref a:=rx;refine ael I1 ea c hm l ?_;exact W.callWith_K0 (first:=[.ref a]) I1.o4 hm.kp (aax (us:=[.ref a]) (vs:=[.ref a]) F hr hb hd hx I1 (.cons rfl .nil) q)
structure Mk(K:W.Frag)(C f:Addr):Prop where
 makes:W.makesIn K C=true
 init:W.findIn K (.ref C) "__init__"=some (some<|.ref f)
 fn:W.isFn K (.ref f)=true
 kp:W.keepIn K (.ref C)=true
def asd{Q:VK}(M:Mk X.K C f)(F:jZ X.prog X.w X.K X.mg X.base CX k f fd ps sp)(hr:n6 (k+1) X.A)(hb:Binds X.K fd ps ds)(hd:Vals oN ds)
 (hx:Passes CX X E)(I:Inv X pins σ H s)(r:Vals vs us)
 (h:∀x dx,H x=none->H dx=none->dx≠x->sp (.ref x::(vs++oN)) (upd (upd H dx<|.own x) x<|.ins C dx []) (λv H2=>v=.non/\Q (.ref x) H2) E):
   wpAny (model X.prog X.w) X.A (call (.ref C) us) (EP X pins σ Q) X.xe s:=by
  have hq:=h (s.heap.objs.size+1) s.heap.objs.size (I.hok.fresh<|eU _) (I.hok.fresh<|aB _) (bO<|b8 _);have I2:=Inv.made (C:=C) I;have r2:Vals (V.ref (s.heap.objs.size+1)::(vs++oN)) (Value.ref (s.heap.objs.size+1)::(us++ds)):=.cons rfl (r.append hd);have hl:(Value.ref (s.heap.objs.size+1)::us++ds).length=ps.length:=by have e:=r2.length;rw[F.len _ _ _ _ hq]at e;exact e.symm
  refine iJ (anw (f:=f) I.o4 M.makes M.init (beq_iff_eq.mp M.fn) (fK (F.run _ X.stack _ _ ⟨Value.ref (s.heap.objs.size+1)::us,[]⟩ (Value.ref (s.heap.objs.size+1)::(us++ds)) _ _ E (hr.make C us [])
   (I2.QR.make C us []) (hb _ (Value.ref (s.heap.objs.size+1)::us) I2.o4 hl) r2 hq) λr s' Gk=>?_))
  cases r with
  |error e=>exact hx pins σ _ _ e s' I2 Gk
  |ok fl=>
   cases fl with
   |ret u=>obtain⟨v,H',I3,rv,ev,q3⟩:=I2.after Gk;subst ev;exact⟨rv,⟨V.ref<|s.heap.objs.size+1,H',I3,rfl,q3⟩⟩
   |next=>exact False.elim Gk
   |brk=>exact False.elim Gk
   |cont=>exact False.elim Gk
def apM(M:Mk X.K C f)(F:jZ X.prog X.w X.K X.mg X.base CX k f fd ps sp)(hr:n6 (k+1) X.A)(hg:Gl X x)(hm:X.mg x=some (.ref C))(hb:Binds X.K fd ps ds)(hd:Vals oN ds)(hx:Passes CX X E)
 (ha:PA X (e::es) t)(hdb:(x==("__debug__":Str))=false:=by decide)(he:starEach (e::es) X.env=(false,eval e X.env)::starEach es X.env:=by rfl)(hpl:(backTo pos<|starEach es X.env).any (·.1)=false:=by rfl):
   PE X (.Call (.Name x p) (e::es) [] pos) (atV C sp oN E t):=by
  intro pins s σ H Q I h;refine d7 (Gr I hg hm ?_ hdb);refine gH (h₀:=X.base) I.ok.mod.Bh M.kp (lE (ha pos pins s σ H _ I h) λus s1 ⟨vs,H1,I1,r,q⟩=>⟨I1.o4,?_⟩) he hpl;exact asd M F hr hb hd hx I1 r q
end
section
variable{X:Cx}{CX:vL}{k:Nat}{f C:Addr}{fd:FuncData}{ps ks:List Str}{sp:Sp}{E:XK}{x m:Str}{p pos apos avO:Pos}{e o:Expr}{es:List Expr}{kws:List Keyword}{te ta:TE}{t tk:TA}{nm:Option Str}
structure avD(K:W.Frag)(fd:FuncData)(ps ks:List Str)(g:List Value->List Value->List Value)(gV:List V->List V->List V):Prop where
 to:∀(s:Shared) (us ws:List Value),K.In s.heap->(g us ws).length=ps.length->BindsTo s fd ⟨us,ks.zip ws⟩ (ps.zip<|g us ws)
 rel:∀{vs:List V} {us:List Value} {zs:List V} {ws:List Value},Vals vs us->Vals zs ws->Vals (gV vs zs) (g us ws)
variable{g:List Value->List Value->List Value}{gV:List V->List V->List V}
end
structure lU(N P:List Str)(sc:Scope):Prop where
 kind:sc.kind=.function
 co:sc.isCoroutine=false
 gen:sc.isGenerator=false
 nd:N.Nodup
 pre:N.take P.length=P
 par:∀x∈P,sc.names.lookup x=some .local\/sc.names.lookup x=some .cell
 anR:∀y∈sc.names,y.2≠.free
theorem ac8{kindOf:Str->Option NameKind}{x:Str}:∀{binds:List<|Str×Value} {m:nO},(∀v,(x,v)∉binds)->bindL kindOf binds m x=m x
 |[],_,_=>rfl
 |(n,v)::r,m,h=>by
  unfold bindL;rw[ac8 λw hw=>h w<|aW _ hw];split
  ·have:x≠n:=by rintro rfl;exact h v bH
   simp[this]
  ·rfl
theorem ac6{kindOf:Str->Option NameKind}{x:Str}:∀{binds:List<|Str×Value} {m:nO},(∀v,(x,v)∉binds)->bindC kindOf binds m x=m x
 |[],_,_=>rfl
 |(n,v)::r,m,h=>by
  unfold bindC;rw[ac6 λw hw=>h w<|aW _ hw];split;·rfl
  ·have:x≠n:=by rintro rfl;exact h v bH
   simp[this]
theorem ac7{kindOf:Str->Option NameKind}{x:Str}{v:Value}:∀{P:List Str} {vs:List Value} {i:Nat} {m:nO},P.Nodup->P[i]?=some x->vs[i]?=some v->kindOf x=some .local->
 bindL kindOf (P.zip vs) m x=some v
 |[],_,_,_,_,h,_,_=>by simp at h
 |_::_,[],_,_,_,_,h,_=>by simp at h
 |p::P,w::vs,0,m,nd,h1,h2,hk=>by simp at h1 h2;subst h1;subst h2;show bindL kindOf ((p,w)::P.zip vs) m p=_;unfold bindL;rw[ac8 λv hv=>(List.nodup_cons.mp nd).1 (iY hv).1,au hk];simp
 |p::P,w::vs,i+1,m,nd,h1,h2,hk=>by show bindL kindOf ((p,w)::P.zip vs) m x=_;unfold bindL;exact ac7 (i:=i) (List.nodup_cons.mp nd).2 (by simpa using h1) (by simpa using h2) hk
theorem ac5{kindOf:Str->Option NameKind}{x:Str}{v:Value}:∀{P:List Str} {vs:List Value} {i:Nat} {m:nO},P.Nodup->P[i]?=some x->vs[i]?=some v->kindOf x≠some .local->
 bindC kindOf (P.zip vs) m x=some v
 |[],_,_,_,_,h,_,_=>by simp at h
 |_::_,[],_,_,_,_,h,_=>by simp at h
 |p::P,w::vs,0,m,nd,h1,h2,hk=>by simp at h1 h2;subst h1;subst h2;show bindC kindOf ((p,w)::P.zip vs) m p=_;unfold bindC;rw[ac6 λv hv=>(List.nodup_cons.mp nd).1 (iY hv).1,aA hk];simp
 |p::P,w::vs,i+1,m,nd,h1,h2,hk=>by show bindC kindOf ((p,w)::P.zip vs) m x=_;unfold bindC;exact ac5 (i:=i) (List.nodup_cons.mp nd).2 (by simpa using h1) (by simpa using h2) hk
def start(N:List Str)(vs:List V):St:=vs.map some++List.replicate (N.length - vs.length) none
def nG(CX:vL)(P:Program)(w:World)(K:W.Frag)(mg:nO)(base:Heap)(N:List Str)(qual:Str)(scope:Scope)(f:Addr)(cd:Value)(A:Around)(outer:List Env)(s:Shared)(H:Hp)(E:XK):Cx where
 prog:=P
 w:=w
 K:=K
 mg:=mg
 base:=base
 A:=A.deeper (envOfC qual scope s.heap.objs.size f cd)
 N:=N
 s₀:=s
 H₀:=H
 env:=envOfC qual scope s.heap.objs.size f cd
 outer:=outer
 stack:=envOfC qual scope s.heap.objs.size f cd::outer
 ex:=[]
 calm:=true
 fn:=λ_=>true
 pn:=[]
 xe:=λe s'=>wpAny (model P w) (A.deeper<|envOfC qual scope s.heap.objs.size f cd) (leaving (envOfC qual scope s.heap.objs.size f cd) e) (λ_ Og=>CX outer H s E e Og) (λe' Og=>CX outer H s E e' Og) s'
def adv{sc:Scope}{n}(h:sc.names.lookup x=some .cell):∃c,(cellsFrom n sc.names []).lookup x=some c:=by have q:=W.cellsFrom_some sc.names n [] (.inl h);exact Option.isSome_iff_exists.mp q
def amk{CX:vL}{P:Program}{w:World}{K:W.Frag}{mg:nO}{base:Heap}{N ps:List Str}{qual:Str}{scope:Scope}{f:Addr}{cd:Value}{A:Around}{outer:List Env}{s s1:Shared}{H:Hp}{E:XK}{us:List Value}{vs:List V}
    (S:lU N ps scope)(hd:A.handled=none)(e0:Em P w K mg base A outer s H)(hl:vs.length=ps.length)(r:Vals vs us)
    (x:InCallC s s.heap.objs.size (bindL (envOfC qual scope s.heap.objs.size f cd).kindOf (ps.zip us) λ_=>none) (cellsFrom (s.heap.objs.size+1) scope.names []) (bindC (envOfC qual scope s.heap.objs.size f cd).kindOf (ps.zip us) λ_=>none) s1):
    Inv (nG CX P w K mg base N qual scope f cd A outer s H E) [] (start N vs) H s1:=by
 have hpl:ps.length<=N.length:=by have:=aV List.length S.pre;rw[cM]at this;omega
 obtain⟨h1,tk,rfl,hk⟩:=x.done;have Nj:∀b:Addr,b∉(nG CX P w K mg base N qual scope f cd A outer s H E).ex:=λb z=>absurd (show b∈([]:List Addr)from z) (by simp)
 refine⟨⟨e0.mod,S.kind,rfl,rfl,aB _,λy z c h1 h2=>?_,λy hy=>?_,λy c _ h=>?_,λ_=>hd,Around.frames_deeper e0.frames,.inr ⟨rfl,rfl⟩,λb z=>absurd z (Nj b),e0.bs,e0.Al,λb _ _=>Nj b,λb z=>absurd z (Nj b),e0.vW,e0.FW⟩,
  rfl,e0.bare,Un.kept hk,⟨_,x.toInCall.ns,λi y v h1 h2 h3=>?_⟩,λy c h=>⟨_,x.cell y c h⟩,e0.hok.fresh (aB _),λy c h=>?_,λp hp=>absurd (show p∈([]:List (Addr×Obj))from hp) (by simp),e0.hok.kept hk,?_⟩
 ·exact name_of_addr x.apart (b7 h1) (b7 h2)
 ·have hy:scope.names.lookup y=some .cell\/scope.names.lookup y=some .free:=hy;rcases hy with hy|hy;·exact adv hy
  ·exact absurd rfl (S.anR _<|b7 hy)
 ·exact jm (x.above y c<|b7 h)
 ·have hi:i<vs.length:=by
   unfold start at h2;by_cases hi:i<vs.length;·exact hi
   ·rw[bh<|by simpa using hi]at h2;rw[bY]at h2;split at h2<;>cases h2
  have ha:vs[i]?=some v:=by
   unfold start at h2;rw[bc<|by simpa using hi,aO]at h2;cases e:vs[i]? with
   |none=>rw[e]at h2;cases h2
   |some a=>rw[e]at h2;cases h2;rfl
  obtain⟨u,hu,rv⟩:=r.get ha;have hp:ps[i]?=some y:=by rw[<-S.pre,List.getElem?_take_of_lt<|by omega];exact h1
  have ndP:ps.Nodup:=by rw[<-S.pre];exact S.nd.sublist (List.take_sublist _ _)
  refine⟨u,rv,?_⟩;rcases S.par y (eV hp)with k|k;·exact .inl ⟨k,ac7 ndP hp hu k⟩
  ·obtain⟨c,e⟩:=adv (n:=s.heap.objs.size+1) k;refine .inr ⟨.inl k,c,e,?_⟩;have q:=x.cell y c e;rw[ac5 ndP hp hu (by show scope.names.lookup y≠_;rw[k];decide)]at q;exact q
 ·exact e0.hok.fresh (jm<|x.above y c<|b7 h)
 ·unfold start;show _=N.length;rw[aq,az,bJ];omega
def W3{w}{K:W.Frag}{k dV kV}
 {sp:Sp}(lk:K.lookup f=some ⟨oc,od,.func<|W.fnOf name qual params body scope dV kV doc pm an cdv ct,osl⟩)(hcd:W.codeIn K cdv qual=true)(S:lU N ps scope)
 (len:∀vs H Q E,sp vs H Q E->vs.length=ps.length)
 (hbody:∀(A:Around) outer (s:Shared) H vs Q E,n6 k (A.deeper (envOfC qual scope s.heap.objs.size f cdv))->sp vs H Q E->
 ∃t,uH (nG CX P w K mg base N qual scope f cdv A outer s H E) body t/\t {nx:=λ_ H'=>Q .non H',rt:=Q} (start N vs) H):
   jZ P w K mg base CX (k+1) f (W.fnOf name qual params body scope dV kV doc pm an cdv ct) ps sp:=by
  refine⟨len,λA outer s H args us vs Q E hr e0 hb r hsp=>?_⟩;have hl:=len _ _ _ _ hsp;have KX:K.In s.heap:=e0.mod.Bh.keeps λb o e=>(e0.bs b o e).1;have lim:s.heap.NoLimit:=e0.mod.nolimit.keeps λb o e=>(e0.bs b o e).1;have hkind:∀y∈ps.zip us,scope.names.lookup y.1=some .local\/(scope.names.lookup y.1=some .cell/\((cellsFrom (s.heap.objs.size+1) scope.names []).lookup y.1).isSome=true):=λ⟨n,v⟩ hy=>by
   rcases S.par n (iY hy).1 with q|q;·exact .inl q
   ·exact .inr ⟨q,W.cellsFrom_some _ _ _<|.inl q⟩
  refine codeAny_call_function hr.depth (KX _ _ lk) rfl S.co S.gen rfl (W.codeRec_of KX hcd) (hb _ _ _ _ ?_);refine wpAny_newFunctionEnv_cells S.kind hkind λenv he s1 x=>?_;subst he;refine⟨lim.keeps x.toInCall.keep,codeAny_func ?_⟩;obtain⟨t,ht,hq⟩:=hbody A outer s H vs Q E (hr.deeper _) hsp;have I:Inv (nG CX P w K mg base N qual scope f cdv A outer s H E) [] (start N vs) H s1:=amk S hr.hd e0 hl r x;refine bN (ht [] s1 (start N vs) H _ I hq) (λfl s' hs=>?_) λe s' hs=>hs
  have fin:∀{σ':St} {H':Hp} {v:V} {u:Value},Inv (nG CX P w K mg base N qual scope f cdv A outer s H E) [] σ' H' s'->RelV v u->Q v H'->CE outer P w H s Q u s':=
   λ{σ' H' v u} J rv q=>⟨v,H',J.os,J.bare,J.base,J.hok,rv,q⟩
  cases fl with
  |ret u=>obtain⟨v,σ',H',J,rv,q⟩:=hs;exact fin J rv q
  |next=>obtain⟨σ',H',J,q⟩:=hs;exact fin (v:=V.non) (u:=Value.none) J rfl q
  |brk=>obtain⟨_,_,_,q⟩:=hs;exact False.elim q
  |cont=>obtain⟨_,_,_,q⟩:=hs;exact False.elim q
section
variable{X:Cx}{x:Str}{p pos:Pos}{e:Expr}{es:List Expr}{t:TA}{id T:String}{r:List V->Hp->VK->Prop}
def tCB(r:List V->Hp->VK->Prop)(t:TA):TE:=λσ H Q=>t σ H λvs H1=>r vs H1 Q
def Z7(hc:sV X (.builtin id) r)(hg:Gl X x)(hm:X.mg x=none)(hv:bootBuiltins x=some (.builtin id))(ha:PA X (e::es) t)(hn:x≠"__name__":=by decide)(hdb:(x==("__debug__":Str))=false:=by decide)
 (he:starEach (e::es) X.env=(false,eval e X.env)::starEach es X.env:=by rfl)(hpl:(backTo pos<|starEach es X.env).any (·.1)=false:=by rfl):PE X (.Call (.Name x p) (e::es) [] pos) (tCB r t):=by intro pins s σ H Q I h;refine d7 (Sh I hg hm hv ?_ hn hdb);exact PyProof.Rows.callWith_builtin1 (lE (ha pos pins s σ H _ I h) λus s1 ⟨vs,H1,I1,r1,q1⟩=>hc pins s1 σ H1 vs us Q I1 r1 q1) he hpl
def apD(hc:sV X (.type T) r)(hg:Gl X x)(hm:X.mg x=none)(hv:bootBuiltins x=some (.type T))(ha:PA X (e::es) t)(hn:x≠"__name__":=by decide)(hdb:(x==("__debug__":Str))=false:=by decide)
 (he:starEach (e::es) X.env=(false,eval e X.env)::starEach es X.env:=by rfl)(hpl:(backTo pos<|starEach es X.env).any (·.1)=false:=by rfl):PE X (.Call (.Name x p) (e::es) [] pos) (tCB r t):=by intro pins s σ H Q I h;refine d7 (Sh I hg hm hv ?_ hn hdb);exact gG (lE (ha pos pins s σ H _ I h) λus s1 ⟨vs,H1,I1,r1,q1⟩=>hc pins s1 σ H1 vs us Q I1 r1 q1) he hpl
end
end L2
namespace HT
open PySem PyProof.Rows
section
open PySem.SeqAt
open PySem.AutoSeq1 (wpAny_loadPart')
open PySem.MeetsSeq PySem.MeetsSeq2 PySem.MeetsSeq3
end
section
variable{prog:Program}{w:World}{A:Around}{E:mW}{s:Shared}
def mJ(n d:Nat):Option Int->Nat
 |none=>d
 |some v=>if v<0 then(v+(n:Int)).toNat else min v.toNat n
def asl(n d)(hd:d<=n)(o):mJ n d o<=n:=by
 cases o with
 |none=>exact hd
 |some v=>
  show(if v<0 then(v+(n:Int)).toNat else min v.toNat n)<=n;by_cases hv:v<0;·rw[au hv];omega
  ·rw[aA hv];exact iD _ _
def adz(v:Int)(n d:Nat):(if v<0 then max (v+(n:Int)) 0 else min v (n:Int))=((mJ n d<|some v:Nat):Int):=by
 show(if v<0 then max (v+(n:Int)) 0 else min v (n:Int))=(((if v<0 then(v+(n:Int)).toNat else min v.toNat n):Nat):Int);by_cases hv:v<0;·simp only[au hv];omega
 ·simp only[aA hv];omega
def ajt(lo hi:Option Int)(n:Nat):Builtin.Slice.sliceAdjust lo hi 1 (n:Int)=(((mJ n 0 lo:Nat):Int),((mJ n n hi:Nat):Int)):=by
 have h1:¬((1:Int)<0):=by omega
 unfold Builtin.Slice.sliceAdjust;simp only[h1,fB];refine Prod.ext ?_ ?_
 ·cases lo with
  |none=>rfl
  |some v=>exact adz v n 0
 ·cases hi with
  |none=>rfl
  |some v=>exact adz v n n
def ap6(i j:Nat):Builtin.Slice.slicePlaces (i:Int) (j:Int) 1=j - i:=by
 unfold Builtin.Slice.slicePlaces;have h1:(1:Int)>0:=by omega
 simp only[h1,dG,Int.ediv_one];split<;>omega
def ahu{Q:Option Int->Shared->Prop}(p:IsPart v o)(h:Q o s):wpAny (model prog w) A (Builtin.Slice.slicePartIndex v) Q E s:=by
 cases p with
 |none=>exact slicePart_none h
 |int i t=>exact slicePart_int h
def atk{sl:Addr}{vl vu:Value}{lo hi:Option Int}{n:Nat}{Q:Int×Int×Nat->Shared->Prop}(hs:s.heap.IsSliceOf sl vl vu .none)(pl:IsPart vl lo)(pu:IsPart vu hi)
    (h:Q (((mJ n 0 lo:Nat):Int),1,mJ n n hi - mJ n 0 lo) s):wpAny (model prog w) A (Builtin.Slice.sliceApplied (.ref sl)<|pure (n:Int)) Q E s:=by
 obtain⟨os,MK,hcs,RJ⟩:=id hs;unfold Builtin.Slice.sliceApplied Builtin.Slice.sliceFields;refine aD (aD<|eX MK RJ (x:=vl) rfl<|aD<|eX MK RJ (x:=vu) rfl<|aD<|eX MK RJ (x:=.none) rfl<|bf ?_);refine aD (slicePart_none ?_);show wpAny _ _ (if((1:Int)==0)=true then _ else _) _ _ s;rw[aA<|by decide];refine aD (ahu pl<|aD<|ahu pu<|aD<|bf ?_);show wpAny _ _ (match Builtin.Slice.sliceAdjust lo hi 1 (n:Int)with|(lo,hi)=>pure (lo,(1:Int),Builtin.Slice.slicePlaces lo hi 1)) _ _ s;rw[ajt lo hi n];show wpAny _ _ (pure (((mJ n 0 lo:Nat):Int),(1:Int),Builtin.Slice.slicePlaces ((mJ n 0 lo:Nat):Int) ((mJ n n hi:Nat):Int) 1)) _ _ s;rw[ap6];exact bf h
def ap3(xs:Array Value)(i k:Nat):((List.range k).filterMap λ(m:Nat)=>xs[((i:Int)+(m:Int)*1).toNat]?).toArray=((xs.toList.drop i).take k).toArray:=by
 have e:(λ(m:Nat)=>xs[((i:Int)+(m:Int)*1).toNat]?)=λm=>xs[i+m]?:=by
  funext m;have:((i:Int)+(m:Int)*1).toNat=i+m:=by omega
  rw[this]
 rw[e];have:=pick_run xs i k;rw[List.filterMap_map]at this;have e2:((λx=>xs[x]?)∘λx=>i+x)=λm=>xs[i+m]?:=rfl;rw[e2]at this;rw[this]
def ale{t sl:Addr}{items:Array Value}{vl vu:Value}{lo hi:Option Int}{Q:mW}(ht:IsTup s.heap t items)(hs:s.heap.IsSliceOf sl vl vu .none)(pl:IsPart vl lo)(pu:IsPart vu hi)
    (hw:¬(mJ items.size 0 lo=0/\mJ items.size items.size hi=items.size))
    (h:Q (.ref s.heap.objs.size) {s with heap:=s.heap.push {cls:=.type "tuple",data:=.seq ((items.toList.drop<|mJ items.size 0 lo).take (mJ items.size items.size hi - mJ items.size 0 lo)).toArray}})
    (hsz:items.size<=sizeLine):wpAny (model prog w) A (getItem (.ref t)<|.ref sl) Q E s:=by
 have RW:sizeOk (.seq ((items.toList.drop<|mJ items.size 0 lo).take (mJ items.size items.size hi - mJ items.size 0 lo)).toArray):=by show((items.toList.drop<|mJ items.size 0 lo).take (mJ items.size items.size hi - mJ items.size 0 lo)).toArray.size<=sizeLine;rw[aY,cM,cT,gF];omega
 have hj:mJ items.size items.size hi<=items.size:=asl _ _ (aB _) hi;obtain⟨os,MK,hcs,RJ⟩:=id hs;have hTs:s.TypeIs (.ref sl) "slice":=⟨os,MK,hcs⟩;unfold getItem;try with_reducible refine wpAny_holding ?_
 first|refine aD (bf ?_)|skip
 refine aD (wpAny_sequenceKey ht.typeIs (by decide) ?_)
 refine aD (wpAny_callSpecial?_slot (name:=Str.ofString "__getitem__") ht.typeIs fQ
  (wpAny_call_entry fQ ht.typeIs entry_tuple_getitem ?_ (args_tuple_getitem _ _)))
 show wpAny _ _ (Builtin.Tuple.tupleItemsOf (.ref t)>>=_) _ _ s;refine aD (tupleItemsOf_ ht ?_);refine aD (wpAny_typeOf hTs ?_);rw[au<|by decide];refine aD (atk hs pl pu ?_);have hno:¬((((mJ items.size 0 lo:Nat):Int)==0&&(1:Int)==1&&(mJ items.size items.size hi - mJ items.size 0 lo)==items.size)=true):=by intro q;rw[aK,aK]at q;have q1:((mJ items.size 0 lo:Nat):Int)=0:=eq_of_beq q.1.1;have q2:mJ items.size items.size hi - mJ items.size 0 lo=items.size:=eq_of_beq q.2;exact hw ⟨by omega,by omega⟩
 show wpAny _ _ (if(((mJ items.size 0 lo:Nat):Int)==0&&(1:Int)==1&&(mJ items.size items.size hi - mJ items.size 0 lo)==items.size)=true then _ else _) _ _ s;rw[aA hno,ap3]
 first
  |exact aD (m:=Builtin.Tuple.tupleExact _) (dH (bf ⟨_,rfl,bf h⟩) RW)
  |exact aD (m:=Builtin.Tuple.tupleExact _) (dH (aD<|bf<|bf ⟨_,rfl,bf h⟩) RW)
  |exact aD (aD (m:=Builtin.Tuple.tupleExact _)<|dH (bf<|bf ⟨_,rfl,bf h⟩) RW)
  |exact aD (aD (m:=Builtin.Tuple.tupleExact _)<|dH (bf ⟨_,rfl,bf h⟩) RW)
end
end HT
namespace L2
open PySem PySem.Spec PyProof.Rows
abbrev TO:=St->Hp->(Option Int->Hp->Prop)->Prop
def PO(X:Cx)(e:Option Expr)(t:TO):Prop:=
 ∀pins s σ H Q,Inv X pins σ H s->t σ H Q->
  wpAny (model X.prog X.w) X.A (evalPart e X.env) (λu s'=>∃o H',Inv X pins σ H' s'/\IsPart u o/\Q o H') X.xe s
def atY:TO:=λ_ H Q=>Q none H
def at5(t:TE):TO:=λσ H Q=>t σ H λx H1=>∃i,x=.int i/\Q (some i) H1
section
variable{X:Cx}{e:Expr}{te:TE}{lo hi:Option Expr}{tl th:TO}{pos p2:Pos}
def ap9:PO X none atY:=by intro pins s σ H Q I h;rw[evalPart_none];exact bf ⟨none,H,I,.none,h⟩
def aqa(h:PE X e te):PO X (some e) (at5 te):=by intro pins s σ H Q I hw;rw[evalPart_some];refine lE (h pins s σ H _ I hw) λu s1 ⟨x,H1,I1,r1,q1⟩=>?_;obtain⟨i,rfl,q⟩:=q1;obtain⟨t,rfl⟩:=r1;exact⟨some i,H1,I1,.int i t,q⟩
def Ab(X:Cx)(r:V->Option Int->Option Int->Hp->VK->Prop):Prop:=
 ∀pins s σ H x v vl vu lo hi sl Q,Inv X pins σ H s->RelV x v->s.heap.IsSliceOf sl vl vu .none->IsPart vl lo->IsPart vu hi->r x lo hi H Q->
  ∃T id,typeLookup (.type T) "__getitem__"=pure (some<|.builtin id)/\s.TypeIs v T/\wpAny (model X.prog X.w) X.A (getItem v<|.ref sl) (EP X pins σ Q) X.xe s
def Ab.or{r r':V->Option Int->Option Int->Hp->VK->Prop}(h:Ab X r)(h':Ab X r'):Ab X (λx lo hi H Q=>r x lo hi H Q\/r' x lo hi H Q):=by
 intro pins s σ H x v vl vu lo hi sl Q I rx hs pl pu q;rcases q with q|q;·exact h pins s σ H x v vl vu lo hi sl Q I rx hs pl pu q
 ·exact h' pins s σ H x v vl vu lo hi sl Q I rx hs pl pu q
def tSl(r:V->Option Int->Option Int->Hp->VK->Prop)(te:TE)(tl th:TO):TE:=λσ H Q=>te σ H λx H1=>tl σ H1 λl H2=>th σ H2 λu H3=>r x l u H3 Q
def apU(hr:Ab X r)(he:PE X e te)(hl:PO X lo tl)(hu:PO X hi th):PE X (.Subscript e (.Slice lo hi none p2) pos) (tSl r te tl th):=by intro pins s σ H Q I h;refine Subscript_ (lE (he pins s σ H _ I h) λv s1 ⟨x,H1,I1,r1,q1⟩=>?_);refine wpAny_Slice (lE (hl pins s1 σ H1 _ I1 q1) λvl s2 ⟨l,H2,I2,pl,q2⟩=>lE (hu pins s2 σ H2 _ I2 q2) λvu s3 ⟨u,H3,I3,pu,q3⟩=>?_);rw[evalPart_none];refine bf ?_;have I4:Inv X pins σ H3 {s3 with heap:=s3.heap.push {cls:=.type "slice",data:=.fields #[vl,vu,.none]}}:=I3.kept (t':=s3.toks) λb ob q=>aF _ q;obtain⟨T,id,hT,ht,hg⟩:=hr pins {s3 with heap:=s3.heap.push {cls:=.type "slice",data:=.fields #[vl,vu,.none]}} σ H3 x v vl vu l u s3.heap.objs.size Q I4 r1 (Heap.IsSliceOf.new ..) pl pu q3;show wpAny (model X.prog X.w) X.A (subscriptTail e (.Slice lo hi none p2) v<|.ref s3.heap.objs.size) (EP X pins σ Q) X.xe {s3 with heap:=s3.heap.push {cls:=.type "slice",data:=.fields #[vl,vu,.none]}};exact tail_any (ops:=[.ref s3.heap.objs.size,v]) ht hT hg (by with_unfolding_all rfl)
def Dc(xs:List V)(lo hi:Option Int):List V:=(xs.drop<|HT.mJ xs.length 0 lo).take (HT.mJ xs.length xs.length hi - HT.mJ xs.length 0 lo)
def adF(xs lo hi):(Dc xs lo hi).length<=xs.length:=by unfold Dc;rw[cM,cT];omega
def arT(K:W.Frag):V->Option Int->Option Int->Hp->VK->Prop:=λx lo hi H Q=>∃a xs,x=.ref a/\uW K H a xs/\
 ¬(HT.mJ xs.length 0 lo=0/\HT.mJ xs.length xs.length hi=xs.length)/\∀p,H p=none->Q (.ref p) (upd H p<|.tup<|Dc xs lo hi)
def atj:Ab X (arT X.K):=by
 intro pins s σ H x v vl vu lo hi sl Q I rx hs pl pu h;obtain⟨a,xs,rfl,hx,hw,q⟩:=h;cases rx;obtain⟨its,r,ht,hz⟩:=I.tuple hx;have hlen:its.toArray.size=xs.length:=by rw[aY];exact r.length.symm
 refine⟨"tuple",_,PyProof.Rows.slot_tuple_getitem.lookup,ht.typeIs,?_⟩;refine HT.ale ht hs pl pu (by rw[hlen];exact hw) ?_ (by rw[hlen];exact hz);rw[hlen];refine⟨.ref s.heap.objs.size,_,I.laid (t':=s.toks) (o:=.tup<|Dc xs lo hi) (λb ob q=>aF _ q) (aB _) ?_,rfl,q _<|I.hok.fresh<|aB _⟩;exact⟨aJ (adF xs lo hi) hz,_,(r.drop<|HT.mJ xs.length 0 lo).take (HT.mJ xs.length xs.length hi - HT.mJ xs.length 0 lo),IsTup.new _ _⟩
end
def Bf(n:Nat)(i:Int):Option Nat:=if 0<=i then(if i<n then some i.toNat else none)else if -(n:Int)<=i then some (i+n).toNat else none
def lH{α:Type}(xs:List α)(i:Int):Option α:=(Bf xs.length i).bind λj=>xs[j]?
def amq{n}{i:Int}(h:Bf n i=some j):seqIndex? i n=some j/\j<n/\ -(n:Int)<=i/\i<n:=by
 unfold Bf at h;by_cases h0:0<=i
 ·rw[au h0]at h;by_cases h1:i<n
  ·rw[au h1]at h;have e:i.toNat=j:=Option.some.inj h;exact⟨by rw[seqIndex_of h0 h1,e],by omega,by omega,h1⟩
  ·rw[aA h1]at h;cases h
 ·rw[aA h0]at h;by_cases h1: -(n:Int)<=i
  ·rw[au h1]at h;have e:(i+n).toNat=j:=Option.some.inj h;exact⟨by rw[seqIndex_neg (by omega) h1,e],by omega,h1,by omega⟩
  ·rw[aA h1]at h;cases h
def VF{α:Type}{xs:List α}{i:Int}{v:α}(h:lH xs i=some v):∃j,seqIndex? i xs.length=some j/\xs[j]?=some v/\j<xs.length/\ -(xs.length:Int)<=i/\i<xs.length:=by
 unfold lH at h;cases e:Bf xs.length i with
 |none=>rw[e]at h;cases h
 |some j=>rw[e]at h;obtain⟨h1,h2,h3,h4⟩:=amq e;exact⟨j,h1,h,h2,h3,h4⟩
def CW{α:Type}{xs:List α}{j:Nat}{v:α}(h:xs[j]?=some v):lH xs (j:Int)=some v:=by
 have hj:j<xs.length:=(List.getElem?_eq_some_iff.mp h).1;have e:Bf xs.length (j:Int)=some j:=by unfold Bf;rw[au<|by omega,au<|by omega];simp
 unfold lH;rw[e];exact h
def Vq(b:Expr):Prop:=∀o i,subscripted b false o i=operate [o,i] (getItem o i)
def yR(X:Cx)(r:R2):Prop:=
 ∀(value slice:Expr) (pins:List<|Addr×Obj) (s:Shared) (σ:St) (H:Hp) (x y:V) (v u:Value) (Q:VK),Inv X pins σ H s->RelV x v->RelV y u->r x y H Q->
  subscripted slice false v u=operate [v,u] (getItem v u)->wpAny (model X.prog X.w) X.A (subscriptTail value slice v u) (EP X pins σ Q) X.xe s
def Ew(X:Cx)(id:String)(r:V->List V->Hp->VK->Prop):Prop:=
 ∀pins s σ H x xs v us Q,Inv X pins σ H s->RelV x v->Vals xs us->r x xs H Q->
  wpAny (model X.prog X.w) X.A (call (.builtin id)<|v::us) (EP X pins σ Q) X.xe s
section
variable{X:Cx}{a b:Expr}{ta tb:TE}{pos:Pos}
def yR.or{r r':R2}(h:yR X r)(h':yR X r'):yR X (λx y H Q=>r x y H Q\/r' x y H Q):=by
 intro value slice pins s σ H x y v u Q I rx ry q hs;rcases q with q|q;·exact h value slice pins s σ H x y v u Q I rx ry q hs
 ·exact h' value slice pins s σ H x y v u Q I rx ry q hs
def afW(hr:yR X r)(ha:PE X a ta)(hb:PE X b tb)(hs:Vq b):PE X (.Subscript a b pos) (Uo r ta tb):=by intro pins s σ H Q I h;exact Subscript_ (V0 ha hb I h λv u s2 x y H2 I2 rx ry q=>hr a b pins s2 σ H2 x y v u Q I2 rx ry q<|hs _ _)
def agM(K:W.Frag):R2:=λx y H Q=>∃p xs i v,x=.ref p/\y=.int i/\sE K H p xs/\lH xs i=some v/\Q v H
def agO(K:W.Frag):R2:=λx y H Q=>∃p xs i v,x=.ref p/\y=.int i/\uW K H p xs/\lH xs i=some v/\Q v H
def agN:R2:=λx y H Q=>∃z i c,x=.str z/\y=.int i/\z.length<=sizeLine/\lH z.cps.toList i=some c/\Q (.str ⟨#[c]⟩) H
def amr:yR X (agM X.K):=by
 intro value slice pins s σ H x y v u Q I rx ry h hs;obtain⟨p,xs,i,z,rfl,rfl,hq,he,q⟩:=h;cases rx;obtain⟨t,rfl⟩:=ry;obtain⟨its,r,pl,hz⟩:=I.list hq;obtain⟨j,h1,h2,h3,h4,h5⟩:=VF he;obtain⟨w,ew,uP⟩:=r.get h2;have hl:=r.length;have hn:=Jl;have fin:EP X pins σ Q w s:=⟨z,H,I,uP,q⟩;by_cases h0:0<=i
 ·have hj:i.toNat=j:=by
   rw[seqIndex_of h0 h5]at h1;exact Option.some.inj h1
  exact item_listR pl.isList h0 (by omega) (by rw[hj];simpa using ew) fin hs
 ·have hj:(i+(its.toArray.size:Int)).toNat=j:=by
   rw[seqIndex_neg (by omega) h4]at h1;rw[aY,<-hl];exact Option.some.inj h1
  exact subscriptTail_builtinR (x:=w) pl.isList.typeIs slot_list_getitem.lookup
   (wpAny_getItem_list_neg (Q:=λr s'=>r=w/\EP X pins σ Q r s') pl.isList (by omega) (by rw[aY]<;>omega) (by omega) (by rw[hj];simpa using ew) ⟨rfl,fin⟩) hs
def amu:yR X (agO X.K):=by
 intro value slice pins s σ H x y v u Q I rx ry h hs;obtain⟨p,xs,i,z,rfl,rfl,hq,he,q⟩:=h;cases rx;obtain⟨t,rfl⟩:=ry;obtain⟨its,r,pl,hz⟩:=I.tuple hq;obtain⟨j,h1,h2,h3,h4,h5⟩:=VF he;obtain⟨w,ew,uP⟩:=r.get h2;have hl:=r.length;have hn:=Jl;have fin:EP X pins σ Q w s:=⟨z,H,I,uP,q⟩
 exact subscriptTail_builtinR (x:=w) pl.typeIs slot_tuple_getitem.lookup
  (getItem_tuple (j:=j) (Q:=λr s'=>r=w/\EP X pins σ Q r s') pl (by omega) (by omega) (by rw[aY,<-hl];exact h1) (by simpa using ew) ⟨rfl,fin⟩) hs
def amt:yR X agN:=by
 intro value slice pins s σ H x y v u Q I rx ry h hs;obtain⟨z,i,c,rfl,rfl,hz,he,q⟩:=h;obtain⟨t,rfl⟩:=rx;obtain⟨t',rfl⟩:=ry;obtain⟨j,h1,h2,h3,h4,h5⟩:=VF he;have hl:z.cps.toList.length=z.length:=by simp[Str.length]
 rw[hl]at h1 h4 h5;have hn:=Jl;exact tail_any (fY s z t) slot_str_getitem.lookup (getItem_str (c:=c) (by have e1:decide (i< -(2^63:Int))=false:=aC (by omega);have e2:decide (i≥2^63)=false:=aC (by omega);rw[e1,e2,gf]) (by rw[h1];simpa using h2) ⟨.str ⟨#[c]⟩,H,I.tok _,⟨_,rfl⟩,q⟩) hs
def rIx(K:W.Frag):R2:=λx y H Q=>agM K x y H Q\/agO K x y H Q\/agN x y H Q
def ams:yR X (rIx X.K):=amr.or (amu.or amt)
def atm(lo hi n):(sliceBounds lo hi none n).1=((HT.mJ n 0 lo:Nat):Int)/\(sliceBounds lo hi none n).2.1=((HT.mJ n n hi:Nat):Int)/\(sliceBounds lo hi none n).2.2=1:=by
 refine⟨?_,?_,rfl⟩
 ·cases lo with
  |none=>simp[sliceBounds,HT.mJ]
  |some i=>
   simp only[sliceBounds,HT.mJ,Option.getD_none,show(1:Int)>0 by decide,dG];by_cases h:i<0;·simp only[h,dG]<;>omega
   ·simp only[h,fB]<;>omega
 ·cases hi with
  |none=>simp[sliceBounds,HT.mJ]
  |some i=>
   simp only[sliceBounds,HT.mJ,Option.getD_none,show(1:Int)>0 by decide,dG];by_cases h:i<0;·simp only[h,dG]<;>omega
   ·simp only[h,fB]<;>omega
def atl(its:List Value)(lo hi):slicePick its.toArray lo hi none=((its.drop (HT.mJ its.length 0 lo)).take (HT.mJ its.length its.length hi - HT.mJ its.length 0 lo)).toArray:=by obtain⟨h1,h2,h3⟩:=atm lo hi its.toArray.size;unfold slicePick;rw[h1,h2,h3];simp only[sliceRange_one,pick_run,aY]<;>rfl
def arR(K:W.Frag):V->Option Int->Option Int->Hp->VK->Prop:=λx lo hi H Q=>∃a xs,x=.ref a/\sE K H a xs/\∀p,H p=none->Q (.ref p) (upd H p<|.lst<|Dc xs lo hi)
def ath:Ab X (arR X.K):=by intro pins s σ H x v vl vu lo hi sl Q I rx hs pl pu h;obtain⟨a,xs,rfl,hx,q⟩:=h;cases rx;obtain⟨its,r,ht,hz⟩:=I.list hx;have hlen:=r.length;refine⟨"list",_,slot_list_getitem.lookup,ht.isList.typeIs,?_⟩;refine wpAny_getItem_list_slice ht.isList hs pl pu .none (by simp) ?_ (by rw[aY]<;>omega);rw[atl,<-hlen];refine⟨.ref s.heap.objs.size,_,I.laid (t':=s.toks) (o:=.lst<|Dc xs lo hi) (λb ob q=>aF _ q) (aB _) ?_,rfl,q _<|I.hok.fresh<|aB _⟩;exact⟨aJ (adF xs lo hi) hz,_,0,(r.drop<|HT.mJ xs.length 0 lo).take (HT.mJ xs.length xs.length hi - HT.mJ xs.length 0 lo),bC _ rfl⟩
def adn:sV X (.builtin "len") (λxs H Q=>∃p ys,xs=[.ref p]/\(sE X.K H p ys\/uW X.K H p ys)/\Q (.int ys.length) H):=by
 intro pins s σ H xs us Q I r h;obtain⟨p,ys,rfl,hq,q⟩:=h;obtain⟨u,rfl,rx⟩:=vals1 r;cases rx;have hn:=Jl;rcases hq with hq|hq
 ·obtain⟨its,r',pl,hz⟩:=I.list hq;have hlen:=r'.length;exact Calls.call_len_list pl.isList (by simp only[aY]<;>omega) ⟨.int ys.length,H,I.tok _,⟨s.toks+1,by rw[aY,hlen]⟩,q⟩
 ·obtain⟨its,r',pl,hz⟩:=I.tuple hq;have hlen:=r'.length;exact len_tuple pl (by simp only[aY]<;>omega) ⟨.int ys.length,H,I.tok _,⟨s.toks+1,by rw[aY,hlen]⟩,q⟩
def aj7:sV X (.builtin "len") (λxs H Q=>∃z,xs=[.str z]/\z.length<=sizeLine/\Q (.int z.length) H):=by intro pins s σ H xs us Q I r h;obtain⟨z,rfl,hz,q⟩:=h;obtain⟨u,rfl,t,rfl⟩:=vals1 r;have hn:=Jl;exact len_str (by omega) ⟨.int z.length,H,I.tok _,⟨_,rfl⟩,q⟩
def sV.or{f:Value}{r r':List V->Hp->VK->Prop}(h:sV X f r)(h':sV X f r'):sV X f (λxs H Q=>r xs H Q\/r' xs H Q):=by
 intro pins s σ H xs us Q I rs q;rcases q with q|q;·exact h pins s σ H xs us Q I rs q
 ·exact h' pins s σ H xs us Q I rs q
def Uy(K:W.Frag)(T:String)(x:V)(H:Hp):Prop:=match x with
 |.str _=>T="str"
 |.int _=>T="int"
 |.ref p=>(T="list"/\∃xs,sE K H p xs)\/(T="tuple"/\∃o,K.lookup p=some o/\o.cls=.type "tuple"/\o.dict=none)\/
   (T="dict"/\((∃kvs,H p=some (.dK kvs))\/∃kvs,H p=some (.dT kvs)))\/(T="set"/\∃S n,H p=some (.set S n))
 |_=>False
def ah5(I:Inv X pins σ H s)(r:RelV x v)(ty:Uy X.K T x H):
    s.TypeIs v T/\∀a,v=.ref a->∃ob,s.heap.get? a=some ob/\ob.dict=none:=by
 cases x with
 |str z=>obtain⟨t,rfl⟩:=r;cases(show T="str" from ty);exact⟨fY s z t,λ_ e=>nomatch e⟩
 |int i=>obtain⟨t,rfl⟩:=r;cases(show T="int" from ty);exact⟨typeIs_int s i t,λ_ e=>nomatch e⟩
 |ref p=>
  cases r;rcases ty with⟨rfl,xs,hq⟩|⟨rfl,o,hk,hc,hd⟩|⟨rfl,hk⟩|⟨rfl,S,n,hk⟩
  ·obtain⟨its,_,pl,_⟩:=I.list hq;refine⟨pl.isList.typeIs,λa e=>?_⟩;cases e;obtain⟨o,n,e,c,hd,_⟩:=pl;exact⟨o,e,hd⟩
  ·refine⟨⟨o,I.o4 p o hk,hc⟩,λa e=>?_⟩;cases e;exact⟨o,I.o4 _ o hk,hd⟩
  ·have z:∃o,s.heap.get? p=some o/\o.ExactDict:=by
    rcases hk with⟨kvs,hk⟩|⟨kvs,hk⟩
    ·obtain⟨_,_,_,_,o,_,_,e,ex,_⟩:=I.hok p _ hk;exact⟨o,e,ex⟩
    ·obtain⟨_,_,_,_,o,_,_,e,ex,_⟩:=I.hok p _ hk;exact⟨o,e,ex⟩
   obtain⟨o,e,ex⟩:=z;refine⟨⟨o,e,ex.1⟩,λa e2=>?_⟩;cases e2;exact⟨o,e,ex.2.1⟩
  ·obtain⟨o,_,_,_,e,ex,_⟩:=I.hok p _ hk;refine⟨⟨o,e,ex.1⟩,λa e2=>?_⟩;cases e2;exact⟨o,e,ex.2.1⟩
 |_=>exact False.elim ty
def atG(K:W.Frag)(T:String)(r:V->List V->Hp->VK->Prop)(to:TE):TE:=λσ H Q=>to σ H λx H1=>Uy K T x H1/\r x [] H1 Q
def tBM(K:W.Frag)(T:String)(r:V->List V->Hp->VK->Prop)(to:TE)(t:TA):TE:=λσ H Q=>to σ H λx H1=>Uy K T x H1/\t σ H1 λxs H2=>r x xs H2 Q
variable{o e:Expr}{es:List Expr}{to:TE}{t:TA}{name:Str}{apos cpos:Pos}{T id:String}{r:V->List V->Hp->VK->Prop}
def apB(pa:PlainAttrs T)(slot:Slot T name id)(hty:typeOf (.builtin id)=pure (.type "method_descriptor"))(hm:Ew X id r)(ho:PE X o to)
 (hbase:attributeBase o name X.env (eval o X.env)=eval o X.env:=by rfl)(hline:(apos.endLine==cpos.line)=true:=by rfl):PE X (.Call (.Attribute o name apos) [] [] cpos) (atG X.K T r to):=by intro pins s σ H Q I h;refine wpAny_Call_method0_late hbase hline (lE (ho pins s σ H _ I h) λv s1 ⟨x,H1,I1,r1,ty,q1⟩=>?_);obtain⟨h1,h2⟩:=ah5 I1 r1 ty;exact⟨T,id,pa,slot,hty,h1,h2,fL rfl<|PySem.evalArgs_none<|hm pins s1 σ H1 x [] v [] Q I1 r1 .nil q1⟩
def afU(pa:PlainAttrs T)(slot:Slot T name id)(hty:typeOf (.builtin id)=pure (.type "method_descriptor"))(hm:Ew X id r)(ho:PE X o to)(ha:PA X (e::es) t)
 (hbase:attributeBase o name X.env (eval o X.env)=eval o X.env:=by rfl)
 (hfew:((backTo cpos (starEach (e::es) X.env)).all (λx=>!x.1)&&(backToKw cpos (keywordEach [] X.env)).all (λx=>x.1.isSome)
 &&decide ((e::es).length+([]:List Keyword).length+(if([]:List Keyword).isEmpty then 0 else 1)<30))=true:=by rfl)
 (hline:(apos.endLine==cpos.line)=true:=by rfl)(hs:starEach (e::es) X.env=(false,eval e X.env)::starEach es X.env:=by rfl)(hplain:(backTo cpos<|starEach es X.env).any (·.1)=false:=by rfl):
   PE X (.Call (.Attribute o name apos) (e::es) [] cpos) (tBM X.K T r to t):=by
  intro pins s σ H Q I h;refine wpAny_Call_method_late hbase hfew hline rfl (lE (ho pins s σ H _ I h) λv s1 ⟨x,H1,I1,r1,ty,q1⟩=>?_);obtain⟨h1,h2⟩:=ah5 I1 r1 ty;refine⟨T,id,pa,slot,hty,h1,h2,?_⟩;have hA:=ha cpos pins s1 σ H1 _ I1 q1;rw[hs]at hA⊢;refine fL (by show(false||(backTo cpos (starEach es X.env)).any (·.1))=false;rw[hplain]<;>rfl) (Calls.evalArgs_plain ?_);exact lE hA λus s2 ⟨vs,H2,I2,r2,q2⟩=>hm pins s2 σ H2 x vs v us Q I2 r1 r2 q2
end
def MtM(X:Cx)(id:String)(r:V->List V->Hp->VK->Prop):Prop:=
 ∀pins s σ H x xs v us Q,Inv X pins σ H s->RelV x v->Vals xs us->r x xs H Q->
  wpAny (model X.prog X.w) X.A (call (.builtin id)<|v::us) (EP X pins σ Q) X.xe s
def Vals.one:∀{x} {us},Vals [x] us->∃u,us=[u]/\RelV x u
 |_,_,.cons r .nil=>⟨_,rfl,r⟩
def Vals.zero:∀{us},Vals [] us->us=[]
 |_,.nil=>rfl
def Vals.dropLast(h:Vals xs us):Vals xs.dropLast us.dropLast:=by
 induction h with
 |nil=>exact .nil
 |cons r t ih=>
  cases t with
  |nil=>exact .nil
  |cons q t'=>exact .cons r ih
def akW{α:Type}(l:List α):l.eraseIdx (l.length - 1)=l.dropLast:=by
 induction l with
 |nil=>rfl
 |cons a r ih=>
  cases r with
  |nil=>rfl
  |cons b r=>
   have e:(a::b::r).length - 1=((b::r).length - 1)+1:=by have h1:(a::b::r).length=r.length+2:=rfl;have h2:(b::r).length=r.length+1:=rfl;omega
   rw[e,List.eraseIdx_cons_succ,ih];all_goals rfl
section
variable{X:Cx}{pins:List<|Addr×Obj}{σ:St}{H:Hp}{s:Shared}{l b:Addr}{xs ys zs:List V}
def Inv.afd{its its':List Value}{n}{f:Array Value->Array Value}{t':Nat}(I:Inv X pins σ H s)(hH:H l=some (.lst xs))
 (e:s.heap.get? l=some {cls:=.type "list",data:=.seq its.toArray n})(hf:f its.toArray=its'.toArray)(hv:Vals ys its')(hz:ys.length<=sizeLine):
   Inv X pins σ (upd H l<|.lst ys) {s with heap:=s.heap.update l<|Obj.mapSeq f,toks:=t'}:=by
  have q:=PySem.IsL.update e f;rw[hf]at q;refine I.write (x:=l) (e:=l) (by rw[hH];exact trivial) (.inl rfl) (λb' u hb hu=>(cN s.heap (Obj.mapSeq f)<|cY hb).trans hu) ⟨_,q⟩ ?_;exact⟨hz,its',_,hv,q⟩
def Inv.ae8{t':Nat}(I:Inv X pins σ H s)(hv:Vals ys its)(hz:ys.length<=sizeLine):
    Inv X pins σ (upd H s.heap.objs.size<|.lst ys) {s with heap:=s.heap.push {cls:=.type "list",data:=.seq its.toArray},toks:=t'}:=
 I.laid (λ_ _ q=>aF _ q) (aB _) ⟨hz,its,0,hv,bC _ rfl⟩
def Inv.fresh(I:Inv X pins σ H s):H s.heap.objs.size=none:=I.hok.fresh (aB _)
def Inv.afg(I:Inv X pins σ H s)(hH:H l=some (.lst xs)):xs.length<=sizeLine/\∃(its:List Value) (n:Nat),Vals xs its/\xs.length=its.length/\s.heap.get? l=some {cls:=.type "list",data:=.seq its.toArray n}:=by obtain⟨z,its,n,r,e⟩:=I.hok l _ hH;exact⟨z,its,n,r,r.length,e⟩
end
section
variable{X:Cx}
def arN:V->List V->Hp->VK->Prop:=λx vs H Q=>∃l xs y,x=.ref l/\vs=[y]/\H l=some (.lst xs)/\xs.length<sizeLine/\Q .non (upd H l<|.lst<|xs++[y])
def aft:MtM X "list.append" arN:=by intro pins s σ H x vs v us Q I rx rv h;obtain⟨l,xs,y,rfl,rfl,hH,hz,q⟩:=h;cases rx;obtain⟨u,rfl,ru⟩:=rv.one;obtain⟨z,its,n,r,hl,e⟩:=I.afg hH;refine iK bj ⟨_,e,rfl⟩ F.entry_list_append (F.args_list_append_2 _ _) (PySem.list_append l its.toArray n u (by rw[aY];omega)) ⟨e,?_⟩;refine⟨.non,_,I.afd (its':=its++[u]) hH e (by simp) (r.append<|.cons ru .nil) ?_,rfl,q⟩;rw[aq,bF];omega
def arQ:V->List V->Hp->VK->Prop:=λx vs H Q=>∃l xs y,x=.ref l/\vs=[]/\H l=some (.lst xs)/\xs[xs.length - 1]?=some y/\Q y (upd H l<|.lst xs.dropLast)
def anH:MtM X "list.pop" arQ:=by
 intro pins s σ H x vs v us Q I rx rv h;obtain⟨l,xs,y,rfl,rfl,hH,hy,q⟩:=h;cases rx;have hus:=rv.zero;subst hus;obtain⟨z,its,n,r,hl,e⟩:=I.afg hH;obtain⟨u,hu,ru⟩:=r.get hy;have hy':its.toArray[its.toArray.size - 1]?=some u:=by show its.toArray[its.length - 1]?=some u;rw[<-jc,<-hl];exact hu
 refine iK bA ⟨_,e,rfl⟩ F.entry_list_pop (F.args_list_pop_1 _) (MeetsSeq.list_pop_last l its.toArray n u hy'<|by rw[aY];omega) ⟨e,?_⟩;refine⟨y,_,I.afd (its':=its.dropLast) hH e ?_ r.dropLast ?_,ru,q⟩
 ·show its.toArray.eraseIdxIfInBounds (its.toArray.size - 1)=its.dropLast.toArray;rw[aY,List.eraseIdxIfInBounds_toArray,akW]
 ·rw[List.length_dropLast];omega
end
section
variable{prog:Program}{w:World}{A:Around}{E:mW}{s:Shared}
end
section
variable{X:Cx}
end
end L2
namespace Att
open PySem PySem.W PySem.Calls PyProof.Rows
def amj:∀(ns:List Int) vs,WellAll P h vs (ns.map WData.int)->IntsAre vs ns:=by
 intro ns;induction ns with
 |nil=>intro vs w;rw[fM]at w;cases w;exact .nil
 |cons n ns ih=>
  intro vs w;rw[aR]at w;cases w with
  |cons a b=>cases a;exact .cons _ _ (ih _ b)
def asS{l:OpenLaw}{n}(hn:l.most=some n)
 (hpre:l.row.toRowW.claim.pre args=true)(hwl:WellAll P h vals args):
   ∃a vs ns,vals=[Value.ref a]/\args=[WData.list<|ns.map WData.int]/\h.get? a=some {cls:=.type "list",data:=.seq vs.toArray}/\IntsAre vs ns/\ns.length<=n:=by
  have hsh:WShape.hasAll [] args [.list .int]=true:=(pre_splitW hpre).1;have hc:l.pre.holds [] {args:=args}=true:=(pre_splitW hpre).2;obtain⟨d,r,rfl,h1,h2⟩:=hasAllW_cons hsh;obtain rfl:=hasAllW_nil h2;obtain⟨xs,rfl,h3⟩:=hasW_list h1;obtain⟨ns,rfl⟩:=items_int h3;have hlen:ns.length<=n:=by
   unfold OpenLaw.pre at hc;have h4:(WTm.not<|.lt (.lit<|.int (n:Int))<|.len<|.arg 0).holds [] {args:=[.list<|ns.map .int]}=true:=by have h4:=(holds_andW hc).1;rw[hn]at h4;exact h4
   have h5:=condW_of h4 (w_not<|w_lt w_lit<|w_len_list<|w_arg rfl);rw[az]at h5;refine Nat.le_of_not_lt λq=>?_;have q':(n:Int)<((ns.length:Nat):Int):=by omega
   first
    |(rw[aP q']at h5;exact absurd h5 (by decide))
    |(simp at h5;omega)
  cases hwl with
  |cons w1 w2=>
   cases w2;cases w1 with
   |list ho hall=>exact⟨_,_,ns,rfl,rfl,ho,amj ns _ hall,hlen⟩
def aqb(l:OpenLaw)(args):l.row.toRowW.claim.post args (.bool true) args=true:=
 postW_of (r:=l.row.toRowW) (X:=(true==true))
  (show WShape.has [] (.bool true) .bool=true by first|rfl|decide|simp[WShape.has,WShape.arms,WShape.armsAll])
  (show(WTm.eq .res<|.lit<|.bool true).value [] {args:=args,res:=some<|.bool true,after:=args}=some (.bool<|true==true)from w_eq_bool (w_res rfl) w_lit) rfl
def ajE{l:OpenLaw}{n XP}{YP:World->Heap->Prop}{d:DefRec}
 (hn:l.most=some n)(hdf:d.params.defaults=[])
 (call:∀w (s₀ s₁:Shared) mg mb fa o pm cd doc a (vs:List Value) ns,
 Ground q loose [] XP w s₀ mg mb s₁.heap->YP w s₁.heap->
 s₁.heap.get? fa=some o->o.data=.func (docDef d.name d.params d.body d.scope pm cd doc)->s₁.heap.CodeRec cd d.name->mg d.name=some (.ref fa)->
 s₁.heap.get? a=some {cls:=.type "list",data:=.seq vs.toArray}->IntsAre vs ns->ns.length<=n->s₁.gens=#[]->
 codeAny (model l.prog w) callerA (.call (.ref fa) ⟨[.ref a],[]⟩) (λr s'=>r=.ok (.ret (.bool true))/\OldK s₁.heap s'.heap/\s'.os=s₁.os/\AllBare s'.gens) s₁):
  WalkO q loose XP YP l.row.toRowW d [] (λf vs=>PySem.call f vs):=by
  intro w s₀ s₁ mg mb G Y fa o pm cd doc dV kV ho hd hcd hD MJ hg args vals as hpre avL hrd hwl hlo;obtain rfl:dV=.none:=Dflts.none hD hdf;obtain rfl:kV=.none:=Dflts.noKw hD;obtain⟨a,vs,ns,rfl,rfl,RM,hints,hlen⟩:=asS hn hpre hwl;refine enter_call (fK (call w s₀ s₁ mg mb fa o pm cd doc a vs ns G Y ho (fd_plain hd) hcd MJ RM hints hlen hg) λr s' hq=>?_);obtain⟨rfl,h2,h3,h4⟩:=hq;exact⟨.inl ⟨.bool true,.bool true,[],rfl,λ_=>rfl,.bool true,aqb l _,λ_=>⟨List.Pairwise.nil,λ_ hm=>(nomatch hm)⟩⟩,h2,h3,h4⟩
section
variable{prog:Program}{w:World}{A:Around}{E:mW}{s:Shared}{K:Frag}
end
end Att
namespace L2
open PySem PySem.Spec PyProof.Rows
theorem ain:∀{vs} {ns},IntsAre vs ns->Vals (ns.map V.int) vs
 |_,_,.nil=>.nil
 |_,_,.cons n t h=>.cons ⟨t,rfl⟩ (ain h)
def inClass(s:Stmt)(j:Nat):Stmt:=match s with
 |.ClassDef _ _ _ body _ _ _ _ _ _ _=>body.getD j (.Pass ⟨0,0,0,0⟩)
 |_=>.Pass ⟨0,0,0,0⟩
def pJ(s:Stmt):Arguments:=match s with
 |.FunctionDef _ a _ _ _ _ _ _ _ _=>a
 |_=>{posonlyargs:=[],args:=[],vararg:=none,kwonlyargs:=[],kw_defaults:=[],kwarg:=none,defaults:=[]}
def oM(s:Stmt):List Stmt:=match s with
 |.FunctionDef _ _ b _ _ _ _ _ _ _=>b
 |_=>[]
def j8(s:Stmt):Scope:=match s with
 |.FunctionDef _ _ _ _ _ _ sc _ _ _=>sc
 |_=>{kind:=.function,names:=[],isGenerator:=false,isCoroutine:=false}
abbrev vz:vL:=λ_ _ _ _ _ _=>False
abbrev E0:XK:=λ_ _ _=>False
structure lO(K:W.Frag)(x qual:Str)(st:Stmt)(f:Addr)(fd:FuncData):Prop where
 ex:∃oc od kV doc pm an cdv ct osl,
  fd=W.fnOf x qual (pJ st) (oM st) (j8 st) .none kV doc pm an cdv ct/\K.lookup f=some ⟨oc,od,.func fd,osl⟩/\W.codeIn K cdv qual=true
 kp:W.keepIn K (.ref f)=true
section
variable{P:Program}{w:World}{K:W.Frag}{mg:nO}{base:Heap}
def lO.ok{x qual:Str}{st:Stmt}{f:Addr}{fd:FuncData}{N ps:List Str}{k:Nat}{sp:Sp}(F:lO K x qual st f fd)(S:lU N ps<|j8 st)(len:∀vs H Q E,sp vs H Q E->vs.length=ps.length)
    (hbody:∀(cdv:Value) (A:Around) (outer:List Env) (s:Shared) (H:Hp) (vs:List V) (Q:VK) (E:XK),n6 k (A.deeper (envOfC qual (j8 st) s.heap.objs.size f cdv))->sp vs H Q E->
      ∃t,uH (nG vz P w K mg base N qual (j8 st) f cdv A outer s H E).zN (oM st) t/\t {nx:=λ_ H'=>Q .non H',rt:=Q} (start N vs) H):jZ P w K mg base vz (k+1) f fd ps sp:=by
 obtain⟨oc,od,kV,doc,pm,an,cdv,ct,osl,rfl,lk,hcd⟩:=F.ex;refine W3 lk hcd S len λA outer s H vs Q E hr hsp=>?_;obtain⟨t,h,q⟩:=hbody cdv A outer s H vs Q E hr hsp;exact⟨t,h.zN,q⟩
def lO.binds{x qual:Str}{st:Stmt}{f:Addr}{fd:FuncData}{ps:List Str}(F:lO K x qual st f fd)
    (h:∀(kV doc pm:Value) (an:Option Addr) (cdv ct:Value) (us:List Value),us.length=ps.length->bindArgs (W.fnOf x qual (pJ st) (oM st) (j8 st) .none kV doc pm an cdv ct) ⟨us,[]⟩=pure (ps.zip us)):Binds K fd ps []:=by
 obtain⟨oc,od,kV,doc,pm,an,cdv,ct,osl,rfl,lk,hcd⟩:=F.ex;exact .all (h kV doc pm an cdv ct)
def W7{x qual:Str}{st:Stmt}{f:Addr}{oc:Value}{od an:Option Addr}{osl:Array<|Option Value}{kV doc pm cdv ct:Value}(l:K.lookup f=some ⟨oc,od,.func<|W.fnOf x qual (pJ st) (oM st) (j8 st) .none kV doc pm an cdv ct,osl⟩)
    (c:W.codeIn K cdv qual=true)(k:W.keepIn K (.ref f)=true):lO K x qual st f (W.fnOf x qual (pJ st) (oM st) (j8 st) .none kV doc pm an cdv ct):=⟨⟨oc,od,kV,doc,pm,an,cdv,ct,osl,rfl,l,c⟩,k⟩
end
section
variable{X:Cx}
end
def yt{A B:Prop}(h:B):if false=true then A else B:=by rw[aA aU];exact h
def yu{A B:Prop}(h:A):if true=true then A else B:=by rw[au rfl];exact h
def pY(H H':Hp):Prop:=∀b o,H b=some o->H' b=some o
end L2
namespace Fx
open PySem
def adO(o:Obj)(f):(o.mapFields f).dict=o.dict:=by rcases o with⟨c,d,dt,sl⟩;cases dt<;>rfl
def Dk(h:Heap)(e:Addr)(d:Option Addr):Prop:=∀dx,d=some dx->∃oe,h.get? e=some oe/\oe.dict=some dx
def vA(B:Heap)(l:List Env)(e:Addr)(cls:Value)(d:Option Addr)(h:Heap):Prop:=
 (∃a0,Heap.FlyingW B l e cls a0 h)/\Dk h e d
def PQ(B:Heap)(l:List Env)(e:Addr)(cls:Value)(d:Option Addr)(L:Addr)(h:Heap):Prop:=
 (∃a0,Heap.HeldW B l e cls a0 L h)/\Dk h e d
def adS{h:Heap}{d}(hb:h.get? b=some o)(hd:o.data=.fields vs)(k:Dk h e d):
    Dk (h.update b<|Obj.mapFields f) e d:=by
 intro dx hx;obtain⟨oe,h1,h2⟩:=k dx hx;by_cases q:b=e
 ·subst q;rw[hb]at h1;cases h1;exact⟨_,eE _ hb<|fU<|fH hd f,by rw[adO];exact h2⟩
 ·exact⟨oe,by rw[cN _ _ q];exact h1,h2⟩
section
variable{M:Model}{A:Around}{E:mW}{s:Shared}{B:Heap}{env:Env}{outer l:List Env}{L e:Addr}{cls:Value}{d:Option Addr}{Q:Unit->Shared->Prop}
def adZ(hfr:A.frames=some (env::outer))(ff:s.heap.FunFrames B<|env::outer)(hf:env.frame=some L)
 (he:s.heap.get? e=some oe)(st:B.StaysIn s.heap)(fe:B.get? e=none)(hd:oe.data=.fields vs)(hz:1<vs.size)(h0:vs[0]?=some a0)(dk:Dk s.heap e d)
 (hQ:∀h1,PQ B (env::outer) e oe.cls d L h1->s.heap.UpToSlots h1->Q () {s with heap:=h1}):
   wpAny M A (do
    let fr<-frameOf env
    let at_<-entryPlaceOf L more
    let tb<-EntryCells.newEntry head fr .none (rawInt L) .none at_
    setField (.ref e) 1 tb) Q E s:=by
  have ne:e∉(env::outer).filterMap (·.frame):=λz=>by obtain⟨_,o2,g1,g2⟩:=ff.mem z;rw[he]at g1;cases g1;exact g2 vs hd
  refine aD (wpAny_frameOf_fun hfr ff hf λh2 so=>?_);refine aD (wpAny_entryPlaceOf λplaces ok=>?_);unfold EntryCells.newEntry newFields;refine aD (dH ?_ (ok.sizeOk5 _ _ _ _ _));have he2:h2.get? e=some oe:=by rw[so.2.1 e ne];exact he
  have st2:B.StaysIn h2:=λb o q=>by rw[so.2.1 b λz=>by rw[(ff.mem z).1]at q;cases q];exact st b o q
  generalize hO:({cls:=.type "traceback",dict:=none,data:=.fields ([head,.ref L,.none,rawInt L,.none]++(if places.isEmpty then List.replicate 6 Value.none else places)).toArray}:Obj)=Ou;have he3:(h2.push Ou).get? e=some oe:=aF _ he2;refine jg he3 hd hz (hQ _ ?_ ?_)
  all_goals
   have nT:h2.objs.size≠e:=iI (Heap.lt_size he2);have keep:∀b o,b≠e->h2.get? b=some o->((h2.push Ou).update e (Obj.mapFields (·.setIfInBounds 1 (Value.ref h2.objs.size)))).get? b=some o:=λb o nb hb=>by rw[cN _ _<|cY nb];exact aF _ hb
   have Dz:∀b o,s.heap.get? b=some o->(∀ws,o.data≠.fields ws)->b≠e:=λb o hb nf z=>by subst z;rw[he]at hb;cases hb;exact nf vs hd
  ·have hd4:=fH hd (·.setIfInBounds 1 (Value.ref h2.objs.size));have he4:=eE (Obj.mapFields (·.setIfInBounds 1 (Value.ref h2.objs.size))) he3 (fU hd4);have hT4:((h2.push Ou).update e (Obj.mapFields (·.setIfInBounds 1 (Value.ref h2.objs.size)))).get? h2.objs.size=some Ou:=by
    rw[cN _ _<|cY nT];exact bC h2 (by rw[<-hO];rfl)
   refine⟨⟨a0,λb o q=>keep b o (λz=>by rw[z,fe]at q;cases q)<|st2 b o q,fe,ff.of_keeps λb o hb nf=>?_,?_⟩,λdx hx=>?_⟩
   ·obtain⟨sl,z⟩:=so.2.2 b o hb;exact⟨_,keep b _ (Dz b o hb nf) z,rfl⟩
   ·refine⟨_,_,h2.objs.size,Ou,_,he4,⟨Obj.cls_mapFields _ _,?_⟩,hd4,by simp[hz],st2.fresh,nT,hT4,by rw[<-hO],?_⟩;·rw[Array.getElem?_setIfInBounds_ne<|by decide];exact h0
    ·rcases ok with z|⟨_,_,_,_,_,_,_,z⟩<;>(rw[z];simp)
   ·obtain⟨o1,g1,g2⟩:=dk dx hx;rw[he]at g1;cases g1;exact⟨_,he4,by rw[adO];exact g2⟩
  ·intro b o hb nf;obtain⟨sl,z⟩:=so.2.2 b o hb;exact⟨sl,keep b _ (Dz b o hb nf) z⟩
def ad6(hfr:A.frames=some (env::outer))(hf:env.frame=some L)(x:vA B (env::outer) e cls d s.heap)
 (hQ:∀h1,PQ B (env::outer) e cls d L h1->s.heap.UpToSlots h1->Q () {s with heap:=h1}):wpAny M A (noteFrame (.ref e) env) Q E s:=by
  obtain⟨⟨a0,st,fe,ff,oe,vs,T,oT,ts,he,⟨hc,h0⟩,hd,h1,bT,Te,hT,hdT,h3⟩,dk⟩:=x;subst hc;unfold noteFrame;simp only[hf];refine aD (eX he hd h1 ?_);rw[au<|by simp];refine aD (eX hT hdT h3 ?_);rw[aA<|by simp[rawInt]];refine aD (jg hT hdT (Array.getElem?_eq_some_iff.mp h3).1 ?_);have Bm:∀b,b≠T->(s.heap.update T<|Obj.mapFields (·.setIfInBounds 3 Value.none)).get? b=s.heap.get? b:=λb z=>cN _ _ (cY z);have Dz:∀b o,s.heap.get? b=some o->(∀ws,o.data≠.fields ws)->b≠T:=λb o hb nf z=>by subst z;rw[hT]at hb;cases hb;exact nf ts hdT
  refine adZ (s:={s with heap:=s.heap.update T<|Obj.mapFields (·.setIfInBounds 3 Value.none)}) hfr (ff.of_keeps λb o hb nf=>⟨o,by rw[Bm b<|Dz b o hb nf];exact hb,rfl⟩) hf
   (by rw[Bm e<|cY Te];exact he) (λb o q=>by rw[Bm b λz=>by rw[z,bT]at q;cases q];exact st b o q) fe hd (Array.getElem?_eq_some_iff.mp h1).1 h0 (adS hT hdT dk) λh5 hl up=>?_
  exact hQ h5 hl λb o hb nf=>up b o (by rw[Bm b<|Dz b o hb nf];exact hb) nf
def arY{oe:Obj}{vs:Array Value}{a0:Value}(hfr:A.frames=some (env::outer))(ff:s.heap.FunFrames B<|env::outer)(hf:env.frame=some L)(he:s.heap.get? e=some oe)(st:B.StaysIn s.heap)
    (fe:B.get? e=none)(hd:oe.data=.fields vs)(h1:vs[1]?=some .none)(h0:vs[0]?=some a0)(dk:Dk s.heap e d)
    (hQ:∀h1,PQ B (env::outer) e oe.cls d L h1->s.heap.UpToSlots h1->Q () {s with heap:=h1}):wpAny M A (noteFrame (.ref e) env) Q E s:=by
 unfold noteFrame;simp only[hf];refine aD (eX he hd h1 ?_);rw[aA<|by decide];exact adZ hfr ff hf he st fe hd (Array.getElem?_eq_some_iff.mp h1).1 h0 dk hQ
def ae0(st:B.StaysIn s.heap)(fe:B.get? e=none)(ff:s.heap.FunFrames B l)(tr:s.heap.TracedAtW B e cls a0 fl)(dk:Dk s.heap e d)
 (hQ:∀h1,vA B l e cls d h1->s.heap.UpToSlots h1->Q () {s with heap:=h1}):wpAny M A (setFlight (.ref e) none) Q E s:=by
  obtain⟨oe,vs,T,oT,ts,he,hc,hd,h1,bT,Te,hT,hdT,h3⟩:=tr;have z3:3<ts.size:=(Array.getElem?_eq_some_iff.mp h3).1;unfold setFlight;refine aD (eX he hd h1 ?_);rw[au<|by simp];refine jg hT hdT z3 (hQ _ ⟨⟨a0,?_⟩,adS hT hdT dk⟩ ?_)
  all_goals
   have Bm:∀b,b≠T->(s.heap.update T<|Obj.mapFields (·.setIfInBounds 3 ((none:Option Addr).elim Value.none λf=>rawInt f))).get? b=s.heap.get? b:=λb z=>cN _ _ (cY z);have Dz:∀b o,s.heap.get? b=some o->(∀ws,o.data≠.fields ws)->b≠T:=λb o hb nf z=>by subst z;rw[hT]at hb;cases hb;exact nf ts hdT
  ·refine⟨λb o q=>by rw[Bm b λz=>by rw[z,bT]at q;cases q];exact st b o q,fe,ff.of_keeps λb o hb nf=>⟨o,by rw[Bm b<|Dz b o hb nf];exact hb,rfl⟩,?_⟩;exact⟨oe,vs,T,_,_,by rw[Bm e<|cY Te];exact he,hc,hd,h1,bT,Te,eE _ hT<|fU<|fH hdT _,fH hdT _,by simp[z3]⟩
  ·exact λb o hb nf=>⟨o.slots,by rw[Bm b<|Dz b o hb nf];exact hb⟩
def Xo(x:PQ B l e cls d L s.heap)(hQ:∀h1,vA B l e cls d h1->s.heap.UpToSlots h1->Q () {s with heap:=h1}):wpAny M A (setFlight (.ref e) none) Q E s:=by obtain⟨⟨a0,st,fe,ff,tr⟩,dk⟩:=x;exact ae0 st fe ff tr dk hQ
def ak6(x:vA B l e cls d s.heap)(hQ:∀h1,vA B l e cls d h1->s.heap.UpToSlots h1->Q () {s with heap:=h1}):wpAny M A (setFlight (.ref e) none) Q E s:=by obtain⟨⟨a0,st,fe,ff,tr⟩,dk⟩:=x;exact ae0 st fe ff tr.at dk hQ
def vA.less(x:vA B (env::outer) e cls d s.heap):vA B outer e cls d s.heap:=by obtain⟨⟨a0,st,fe,⟨_,_,ff⟩,tr⟩,dk⟩:=x;exact⟨⟨a0,st,fe,ff,tr⟩,dk⟩
def ak7(hfr:A.frames=some (env::outer))(hf:env.frame=some L)(x:vA B (env::outer) e cls d s.heap)
 (hQ:∀h1,vA B outer e cls d h1->s.heap.UpToSlots h1->Q () {s with heap:=h1}):wpAny M A (leaving env<|.ref e) Q E s:=by unfold leaving;exact aD (ad6 hfr hf x λh1 x1 u1=>Xo (s:={s with heap:=h1}) x1 λh2 x2 u2=>hQ h2 (vA.less (s:={s with heap:=h2}) x2)<|u1.trans u2)
def arX{oe:Obj}{vs:Array Value}{a0:Value}(hfr:A.frames=some (env::outer))(ff:s.heap.FunFrames B<|env::outer)(hf:env.frame=some L)(he:s.heap.get? e=some oe)(st:B.StaysIn s.heap)
    (fe:B.get? e=none)(hd:oe.data=.fields vs)(h1:vs[1]?=some .none)(h0:vs[0]?=some a0)(dk:Dk s.heap e d)
    (hQ:∀h1,vA B outer e oe.cls d h1->s.heap.UpToSlots h1->Q () {s with heap:=h1}):wpAny M A (leaving env<|.ref e) Q E s:=by
 unfold leaving;exact aD (arY hfr ff hf he st fe hd h1 h0 dk λh3 x1 u1=>Xo (s:={s with heap:=h3}) x1 λh2 x2 u2=>hQ h2 (vA.less (s:={s with heap:=h2}) x2)<|u1.trans u2)
end
end Fx
set_option maxHeartbeats 4000000
namespace L2
open PySem PySem.Spec PyProof.Rows Fx
def jF(P:Program)(w:World):vL:=λouter H s E e s'=>
 ∃ea cls d H1 B,e=.ref ea/\s'.os=s.os/\AllBare s'.gens/\vA B outer ea cls d s'.heap/\
  (∀h5:Heap,B.StaysIn h5->s'.heap.UpToSlots h5->Un (frs outer) [] H H1 s.heap h5/\ph P w H1 h5)/\H1 ea=none/\s.heap.get? ea=none/\E cls d H1
structure Vn(X:Cx)(pins:List<|Addr×Obj)(e:Addr):Prop where
 old:X.s₀.heap.get? e=none
 pin:∀p∈X.pn++pins,p.1≠e
 loc:e≠X.env.locals
 cel:∀x c,X.env.cells.lookup x=some c->c≠e
 frm:e∉X.fs
def XP(X:Cx)(pins:List<|Addr×Obj)(σ:St)(R:XK)(e:Value)(s':Shared):Prop:=
 ∃ea cls d H1 B,e=.ref ea/\vA B X.stack ea cls d s'.heap/\
  (∀h5:Heap,B.StaysIn h5->s'.heap.UpToSlots h5->Inv X pins σ H1 {s' with heap:=h5})/\H1 ea=none/\Vn X pins ea/\R cls d H1
section
variable{X:Cx}{pins:List<|Addr×Obj}{σ:St}{H:Hp}{s s':Shared}{e:Value}{E:XK}
def Inv.Yz(I:Inv X pins σ H s)(n:s.heap.get? ea=none)(hex:X.ex=[]):Vn X pins ea:=by
 have z:∀b o,s.heap.get? b=some o->b≠ea:=λb o q w=>by rw[w,n]at q;cases q
 refine⟨?_,λp hp=>z _ _ (I.pin p hp).1,λw=>?_,λx c hc=>?_,λhb=>?_⟩
 ·cases q:X.s₀.heap.get? ea with
  |none=>rfl
  |some o=>obtain⟨o1,q1⟩:=I.base.there ea o q (by rw[hex];simp);rw[n]at q1;cases q1
 ·obtain⟨m,⟨o,_,_,ho,_⟩,_⟩:=I.loc;exact z _ _ ho w.symm
 ·obtain⟨v,o,ho,_⟩:=I.cell x c hc;exact z _ _ ho
 ·obtain⟨_,o,ho,_⟩:=I.vW.mem hb;exact z _ _ ho rfl
def aiG(I:Inv X pins σ H s)(h:jF X.prog X.w X.stack H s E e s')(hex:X.ex=[]):XP X pins σ E e s':=by obtain⟨ea,cls,d,H1,B,rfl,os,bare,fl,cl,en,fr,hE⟩:=h;refine⟨ea,cls,d,H1,B,rfl,fl,λh5 b5 u5=>?_,en,I.Yz fr hex,hE⟩;obtain⟨un,hok⟩:=cl h5 b5 u5;exact I.adl (s':={s' with heap:=h5}) (ch:=[]) os un hok bare λb z=>absurd z (by simp)
end
def qL.there{w}(x:qL P w H h a o):∃ob,h.get? a=some ob:=by
 cases o with
 |lst xs=>obtain⟨_,_,_,_,q⟩:=x;exact⟨_,q⟩
 |tup xs=>obtain⟨_,_,_,ob,q,_⟩:=x;exact⟨_,q⟩
 |dK kvs=>obtain⟨_,_,_,_,ob,_,_,q,_⟩:=x;exact⟨_,q⟩
 |dT kvs=>obtain⟨_,_,_,_,ob,_,_,q,_⟩:=x;exact⟨_,q⟩
 |set S n=>obtain⟨ob,_,_,_,q,_⟩:=x;exact⟨_,q⟩
 |ins C dx fs=>obtain⟨_,_,_,q,_⟩:=x;exact⟨_,q⟩
 |own y=>exact x
 |xd fs=>obtain⟨_,⟨_,_,_,q,_⟩,_⟩:=x;exact⟨_,q⟩
 |Ua lo hi=>obtain⟨_,_,_,q⟩:=x;exact⟨_,q⟩
 |vV ob u=>obtain⟨q,_⟩:=x;exact⟨_,q⟩
 |rE ps=>exact⟨_,(show h.get? a=some _ from x)⟩
 |met f y=>exact⟨_,(show h.get? a=some _ from x)⟩
 |ext φ=>obtain⟨_,q,_⟩:=x;exact q
def ph.no{w}(x:ph P w H h)(n:h.get? a=none):H a=none:=by
 cases q:H a with
 |none=>rfl
 |some o=>obtain⟨ob,z⟩:=(x a o q).there;rw[n]at z;cases z
section
variable{P:Program}{w:World}{K:W.Frag}{mg:nO}{base:Heap}{N:List Str}{qual:Str}{scope:Scope}{f:Addr}{cd:Value}{A:Around}{outer:List Env}{s:Shared}{H:Hp}{E:XK}
def jV:Passes (jF P w) (nG (jF P w) P w K mg base N qual scope f cd A outer s H E) E:=λpins σ H1 s1 e s' I h=>by obtain⟨ea,cls,d,H2,B,rfl,fl,cl,en,na,hE⟩:=aiG I h rfl;have J:=λh5 b5 u5=>cl h5 b5 u5;obtain⟨a0,st,_⟩:=fl.1;have J0:=J s'.heap st (Heap.UpToSlots.refl _);show wpAny _ _ (leaving _<|.ref ea) _ _ s';refine ak7 (outer:=outer) (L:=s.heap.objs.size) I.ok.frames rfl fl λh1 fl1 u1=>?_;exact⟨ea,cls,d,H2,B,rfl,J0.os,J0.bare,fl1,λh5 b5 u5=>⟨(J h5 b5<|u1.trans u5).base,(J h5 b5<|u1.trans u5).hok⟩,en,na.old,hE⟩
def agQ{d}
 (I:Inv (nG (jF P w) P w K mg base N qual scope f cd A outer s H E) pins σ H2 s2)(he:s2.heap.get? e=some oe)(fr:s.heap.get? e=none)(hd:oe.data=.fields vs)(h1:vs[1]?=some .none)(h0:vs[0]?=some a0)
 (dk:Dk s2.heap e d)(en:H2 e=none)(hE:E oe.cls d H2):(nG (jF P w) P w K mg base N qual scope f cd A outer s H E).xe (.ref e) s2:=by
  let X:=nG (jF P w) P w K mg base N qual scope f cd A outer s H E
  let B:=W.hideAll s2.heap (e::frs X.stack)
  have st:B.StaysIn s2.heap:=λb o q=>W.of_hideAll _ q;have fe:B.get? e=none:=W.hideAll_none _ (List.Mem.head _);have ff:s2.heap.FunFrames B X.stack:=W.funFrames_hide I.stack λenv hm b hb=>List.Mem.tail _ (List.mem_filterMap.mpr ⟨env,hm,hb⟩);show wpAny _ _ (leaving _ (.ref e)) _ _ s2;refine arX (B:=B) (outer:=outer) (L:=s.heap.objs.size) I.ok.frames ff rfl he st fe hd h1 h0 dk λh3 fl3 u3=>?_;refine⟨e,oe.cls,d,H2,B,rfl,I.os,I.bare,fl3,λh5 b5 u5=>?_,en,fr,hE⟩;have up:s2.heap.UpToSlots h5:=u3.trans u5;have keep:∀b o,s2.heap.get? b=some o->b≠e->b∉frs X.stack->h5.get? b=some o:=λb o q n1 n2=>b5 b o (W.hideAll_get _ q λz=>by
   rcases List.mem_cons.mp z with z|z;· exact n1 z
   · exact n2 z)
  have Uw:∀b o,H2 b=some o->b≠e/\b∉frs X.stack:=λb o q=>⟨λz=>(by subst z;rw[en]at q;cases q),λz=>(by rw[I.abK b z]at q;cases q)⟩;have old:∀b o,s.heap.get? b=some o->b∉frs outer->b≠e/\b∉frs X.stack:=λb o q n=>⟨λz=>(by subst z;rw[fr]at q;cases q),λz=>(List.mem_cons.mp (I.Uk b z)).elim (λz=>absurd (Heap.lt_size q) (by rw[z];exact dq _)) (λz=>n z)⟩;have aea:∀b o,s2.heap.get? b=some o->b∈frs outer->∃sl,h5.get? b=some {o with slots:=sl}:=λb o q hb=>by obtain⟨_,o2,q2,nf⟩:=I.vW.mem hb;rw[q]at q2;cases q2;exact up b o q nf
  refine⟨⟨λb o q n hb _=>?_,λb o q n hb _=>?_,λb o q n hx=>I.base.free b o q n hx,λb o q hx=>?_,I.base.tups,I.base.wI,I.base.wQ⟩,λa o ea=>?_⟩
  ·obtain⟨n1,n2⟩:=old b o q hb;exact keep b o (I.base.keep b o q n hb (by intro z;exact absurd (show b∈([]:List Addr)from z) (by simp))) n1 n2
  ·obtain⟨sl,q1⟩:=I.base.slot b o q n hb (by intro z;exact absurd (show b∈([]:List Addr)from z) (by simp));obtain⟨sl2,q2⟩:=aea b _ q1 hb;exact⟨sl2,q2⟩
  ·obtain⟨o1,q1⟩:=I.base.there b o q hx;by_cases hb:b∈frs outer
   ·obtain⟨sl2,q2⟩:=aea b _ q1 hb;exact⟨_,q2⟩
   ·obtain⟨n1,n2⟩:=old b o q hb;exact⟨o1,keep b o1 q1 n1 n2⟩
  ·refine(I.hok a o ea).Bx (λb u hb q=>?_) (λ_ q=>q) λ_ _ q=>q;rcases hb with rfl|hb;·exact keep b u q (Uw b _ ea).1 (Uw b _ ea).2
   ·exact keep b u q (Uw b _ hb).1 (Uw b _ hb).2
end
def ad1{K:W.Frag}(X:K.In h)(q:W.excIn K C bmB newId=true):
    ∃bm N nm qn bs hdct sn sub ab col dd k0 k1 k2 k3 k5 mN,h.get? C=some (excClassObj nm qn C N bs bm hdct sn sub ab col dd k0 k1 k2 k3 k5 newId)/\h.Ns N mN/\mN "__init__"=none/\OwnTail h bmB bm:=by
 unfold W.excIn at q;split at q
 next dd cd sl ho=>
  split at q
  next C' bm k0 k1 k2 k3 n k5 hm hs=>
   simp only[aK,gW,eG]at q;obtain⟨⟨⟨⟨⟨rfl,rfl⟩,My⟩,tl⟩,hok⟩,Dp⟩:=q;rcases cd with⟨nm,bs,mro,ns,qn,RG,sn,sub,ab,col,del⟩;dsimp only at hm My hok Dp;subst hm My;have es:sl=#[k0,k1,k2,k3,some (.builtin n),k5]:=by rcases sl with⟨l⟩;simp only at hs;rw[hs]
   subst es;exact⟨bm,ns,nm,qn,bs,RG,sn,sub,ab,col,dd,k0,k1,k2,k3,k5,_,X _ _ ho,.of_isNs<|W.isNs_of_in X hok,W.nsMap_none_of_in X hok Dp,W.tail_of_in X tl⟩
  next=>cases q
 next=>cases q
section
variable{P:Program}{w:World}{K:W.Frag}{mg:nO}{base:Heap}{N:List Str}{qual:Str}{scope:Scope}{f:Addr}{cd:Value}{A:Around}{outer:List Env}{s:Shared}{H:Hp}{E:XK}
def at6(E:XK)(C:Addr):TS:=λ_ _ H=>E (.ref C) none H
def aql{pos}(FB:ExcBaseFacts B newId R6 bmB)(q:W.excIn K C bmB newId=true)
 (hg:Gl (nG (jF P w) P w K mg base N qual scope f cd A outer s H E) x)(hm:mg x=some (.ref C))(hdb:(x==("__debug__":Str))=false:=by decide):
   PS (nG (jF P w) P w K mg base N qual scope f cd A outer s H E) (.Raise (some<|.Call (.Name x np) [] [] cpos) none pos) (at6 E C):=by
  intro pins s1 σ H1 D I h;obtain⟨bm,NS,nm,qn,bs,hdct,sn,sub,ab,col,dd,k0,k1,k2,k3,k5,mN,hC,hN,Dp,TL⟩:=ad1 I.o4 q;refine wpAny_Raise_call_subT (bm:=bm) FB (mN:=mN) (TL.hasType FB.hasBase) (I.ok.hd rfl) rfl Dp (Gr I hg hm ⟨rfl,evalArgs_empty ⟨rfl,dY _,hC,hN,TL,λh2 e mk=>?_⟩⟩ hdb);obtain⟨t,he,_,_⟩:=mk.there;have I2:Inv (nG (jF P w) P w K mg base N qual scope f cd A outer s H E) pins σ H1 {s1 with heap:=h2}:=I.kept (t':=s1.toks) mk.keeps;refine agQ I2 he ?_ rfl rfl rfl (by intro dx z;cases z) (I.hok.no mk.new) h;cases z:s.heap.get? e with
  |none=>rfl
  |some o=>obtain⟨o1,q1⟩:=I.base.there e o z (by intro y;exact absurd (show e∈([]:List Addr)from y) (by simp));rw[mk.new]at q1;cases q1
end
section
variable{P:Program}{w:World}{K:W.Frag}{mg:nO}{base:Heap}
def lO.okX{x qual:Str}{st:Stmt}{f:Addr}{fd:FuncData}{N ps:List Str}{k:Nat}{sp:Sp}(F:lO K x qual st f fd)(S:lU N ps<|j8 st)(len:∀vs H Q E,sp vs H Q E->vs.length=ps.length)
    (hbody:∀(cdv:Value) (A:Around) (outer:List Env) (s:Shared) (H:Hp) (vs:List V) (Q:VK) (E:XK),n6 k (A.deeper (envOfC qual (j8 st) s.heap.objs.size f cdv))->sp vs H Q E->
      ∃t,uH (nG (jF P w) P w K mg base N qual (j8 st) f cdv A outer s H E) (oM st) t/\t {nx:=λ_ H'=>Q .non H',rt:=Q} (start N vs) H):jZ P w K mg base (jF P w) (k+1) f fd ps sp:=by
 obtain⟨oc,od,kV,doc,pm,an,cdv,ct,osl,rfl,lk,hcd⟩:=F.ex;exact W3 lk hcd S len λA outer s H vs Q E hr hsp=>hbody cdv A outer s H vs Q E hr hsp
end
abbrev TX:=St->Hp->VK->XK->Prop
def EX(X:Cx)(e:Expr)(t:TX):Prop:=
 ∀pins s σ H Q R,Inv X pins σ H s->t σ H Q R->wpAny (model X.prog X.w) X.A (eval e X.env) (EP X pins σ Q) (XP X pins σ R) s
abbrev TB:=Ends->(St->XK)->St->Hp->Prop
def BX(X:Cx)(body:List Stmt)(t:TB):Prop:=
 ∀pins s σ H D R,Inv X pins σ H s->t D R σ H->
  wpAny (model X.prog X.w) X.A (execs body X.env) (SP X pins D) (λe s'=>∃oW,XP X pins oW (R oW) e s') s
section
variable{X:Cx}{k:Nat}{f:Addr}{fd:FuncData}{ps:List Str}{sp:Sp}{oN:List V}{ds:List Value}{x:Str}{p pos:Pos}{e:Expr}{es:List Expr}{t:TA}
def asa{R}(F:jZ X.prog X.w X.K X.mg X.base (jF X.prog X.w) k f fd ps sp)(hr:n6 k X.A)(hb:Binds X.K fd ps ds)(hd:Vals oN ds)
 (hex:X.ex=[])(I:Inv X pins σ H s)(r:Vals vs us)(h:sp (vs++oN) H Q R):wpAny (model X.prog X.w) X.A (call (.ref f) us) (EP X pins σ Q) (XP X pins σ R) s:=by
  have r2:Vals (vs++oN) (us++ds):=r.append hd;have hl:(us++ds).length=ps.length:=by rw[<-r2.length];exact F.len _ _ _ _ h
  refine iJ (fK (F.run X.A X.stack s H ⟨us,[]⟩ (us++ds) (vs++oN) Q R hr I.QR (hb s us I.o4 hl) r2 h) λres s1 hq=>?_);cases res with
  |error ex=>exact aiG I hq hex
  |ok fl=>
   cases fl with
   |ret u=>exact I.after hq
   |next=>exact False.elim hq
   |brk=>exact False.elim hq
   |cont=>exact False.elim hq
def aiF(sp:Sp)(oN:List V)(t:TA):TX:=λσ H Q R=>t σ H λvs H1=>sp (vs++oN) H1 Q R
def akX(F:jZ X.prog X.w X.K X.mg X.base (jF X.prog X.w) k f fd ps sp)(hr:n6 k X.A)(hg:Gl X x)(hm:X.mg x=some (.ref f))(hk:W.keepIn X.K (.ref f)=true)(hb:Binds X.K fd ps ds)(hd:Vals oN ds)
 (ha:PA X.zN (e::es) t)(hex:X.ex=[]:=by rfl)(hdb:(x==("__debug__":Str))=false:=by decide)(he:starEach (e::es) X.env=(false,eval e X.env)::starEach es X.env:=by rfl)(hpl:(backTo pos<|starEach es X.env).any (·.1)=false:=by rfl):
   EX X (.Call (.Name x p) (e::es) [] pos) (aiF sp oN t):=by
  intro pins s σ H Q R I h;refine d7 (Gr I hg hm ?_ hdb);refine gH (h₀:=X.base) I.ok.mod.Bh hk (bN (ha pos pins s σ H _ (I.xN _) h) (λus s1 q=>?_) λ_ _ z=>z.elim) he hpl;obtain⟨vs,H1,I1,r,q⟩:=q;have I2:Inv X pins σ H1 s1:=I1.wR;exact⟨I2.o4,asa F hr hb hd hex I2 r q⟩
def ajT{y}(hN:X.N.Nodup)(hi:X.N[i]?=some y)(hy:Loc X.env.scope y)(he:EX X e te)(hs:swapsWith e (some<|.Name y pos') pos.line X.env=pure false:=by rfl)
 (hf:X.fn y=true\/X.env.scope.names.lookup y=some .local:=by first|exact .inl rfl|exact .inr rfl|assumption):
   BX X [.Assign [.Name y pos'] e pos] (λD R σ H=>te σ H (λv H1=>D.nx (σ.set i<|some v) H1)<|R σ):=by
  intro pins s σ H D R I h;refine fX (ir (bN (he pins s σ H _ _ I h) (λv s1 q=>?_) λex s1 q=>⟨σ,q⟩) hs);obtain⟨z,H1,I1,r1,q1⟩:=q;exact abL I1 hN hi hy r1 (λs2 I2=>c7 ⟨_,H1,I2,q1⟩) hf
end
abbrev Cx.vI(X:Cx)(ea:Addr):Cx:={X with A:=X.A.mark<|some<|.ref ea,calm:=false}
section
variable{X:Cx}{pins:List<|Addr×Obj}{σ:St}{H:Hp}{s:Shared}{ea:Addr}
def Inv.vI(I:Inv X pins σ H s)(ea):Inv (X.vI ea) pins σ H s:=by obtain⟨ok,r1,r2,r3,r4,r5,r6,r7,r8,r9,r10⟩:=I;obtain⟨m1,m2,m3,m4,m5,m6,m7,m8,m9,m10,m11,m12,m13,m14,m15,m16,m17,m18⟩:=ok;exact⟨⟨m1,m2,m3,m4,m5,m6,m7,m8,(λz=>nomatch z),m10,m11,m12,m13,m14,m15,m16,m17,m18⟩,r1,r2,r3,r4,r5,r6,r7,r8,r9,r10⟩
def Inv.J2(ok:X.Ok)(I:Inv (X.vI ea) pins σ H s):Inv X pins σ H s:=by obtain⟨_,r1,r2,r3,r4,r5,r6,r7,r8,r9,r10⟩:=I;exact⟨ok,r1,r2,r3,r4,r5,r6,r7,r8,r9,r10⟩
def SP.J2{D}(ok:X.Ok)(h:SP (X.vI ea).zN pins D fl s):SP X pins D fl s:=by
 cases fl with
 |next=>obtain⟨σ',H',J,q⟩:=h;exact⟨σ',H',Inv.J2 ok J.wR,q⟩
 |brk=>obtain⟨σ',H',J,q⟩:=h;exact⟨σ',H',Inv.J2 ok J.wR,q⟩
 |cont=>obtain⟨σ',H',J,q⟩:=h;exact⟨σ',H',Inv.J2 ok J.wR,q⟩
 |ret u=>obtain⟨v,σ',H',J,r,q⟩:=h;exact⟨v,σ',H',Inv.J2 ok J.wR,r,q⟩
end
section
variable{X:Cx}
end
section
variable{X:Cx}
def aiS(i j:Int):Prop:=Builtin.Int.intBits i<=1048576/\Builtin.Int.intBits j<=1048576
def apk:qb X (binaryOp .Mult) (rI aiS λi j=>.int<|i*j):=Nx λ_ _ _ _ _ _ _ hc q=>mul_int q (IntMulOk.of_le hc.1 hc.2<|by decide)
def acx(_ j:Int):Prop:=j≠0/\Builtin.Int.intBits j<=9000
def amM{j:Int}(h:Builtin.Int.intBits j<=9000):j.natAbs.log2<9000:=by
 by_cases z:j.natAbs=0;·rw[z];decide+kernel
 ·exact(Nat.log2_lt z).mpr (intBits_le_iff.mp h)
def apd:qb X (binaryOp .FloorDiv) (rI acx λi j=>.int<|i.fdiv j):=Nx λ_ _ _ _ _ _ _ hc q=>floordiv_int hc.1 q (.inl<|PyProof.noPylong_of_log2<|amM hc.2)
end
def km(P:Program)(w:World)(K:W.Frag)(mg:nO)(base:Heap)(CX:vL)(k:Nat)(x:Str)(ps:List Str)(sp:Sp):Prop:=
 ∃f fd,jZ P w K mg base CX k f fd ps sp/\Binds K fd ps []/\W.keepIn K (.ref f)=true/\mg x=some (.ref f)
def afT{w}:Passes (jF P w) X E0:=λ_ _ _ _ _ _ _ h=>by obtain⟨_,_,_,_,_,_,_,_,_,_,_,_,z⟩:=h;exact z.elim
section
variable{X:Cx}{CX:vL}{k:Nat}{ps:List Str}{sp:Sp}{E:XK}{x:Str}{p pos:Pos}{e:Expr}{es:List Expr}{t:TA}
def Z8(h:km X.prog X.w X.K X.mg X.base CX k x ps sp)(hr:n6 k X.A)(hg:Gl X x)(hx:Passes CX X E)(ha:PA X (e::es) t)(hdb:(x==("__debug__":Str))=false:=by decide)
 (he:starEach (e::es) X.env=(false,eval e X.env)::starEach es X.env:=by rfl)(hpl:(backTo pos (starEach es X.env)).any (·.1)=false:=by rfl):PE X (.Call (.Name x p) (e::es) [] pos) (ahI sp [] E t):=by obtain⟨f,fd,F,b,kp,m⟩:=h;exact apC F hr hg m kp b .nil hx ha hdb he hpl
def akY(h:km X.prog X.w X.K X.mg X.base (jF X.prog X.w) k x ps sp)(hr:n6 k X.A)(hg:Gl X x)(ha:PA X.zN (e::es) t)(hex:X.ex=[]:=by rfl)(hdb:(x==("__debug__":Str))=false:=by decide)
 (he:starEach (e::es) X.env=(false,eval e X.env)::starEach es X.env:=by rfl)(hpl:(backTo pos (starEach es X.env)).any (·.1)=false:=by rfl):EX X (.Call (.Name x p) (e::es) [] pos) (aiF sp [] t):=by obtain⟨f,fd,F,b,kp,m⟩:=h;exact akX F hr hg m kp b .nil ha hex hdb he hpl
end
end L2
namespace Fx
open PySem
section
variable{prog:Program}{w:World}{A:Around}{E:mW}{h:Heap}{g:Array GenState}{d:Drawn}{t:Nat}{os:OsState}
variable{nm q:Str}{C N:Addr}{bs bm bmB:List Value}{hdct:Bool}{sn:List Str}{sub:List Value}{ab:Bool}{col:Option Bool}{dd:Option Addr}{k0 k1 k2 k3 k5:Option Value}{B newId R6:String}
def auO(F:ExcBaseFacts B newId R6 bmB)(T:OwnTail h bmB bm){Q:Fin->Shared->Prop}
 (hC:h.get? C=some (excClassObj nm q C N bs bm hdct sn sub ab col dd k0 k1 k2 k3 k5 newId))(hn:h.Ns N mN)(hi:mN "__init__"=some (.ref fI))(hfI:h.get? fI=some oI)(hfc:oI.cls=.type "function")
 (hq:∀h1 e,Heap.MadeExcOf h h1 e (.ref C) vals->h.objs.size<=e->wpAny (model prog w) A (call (.ref fI)<|.ref e::vals) (λr s1=>r=.none/\Q (.done<|.ret<|.ref e) s1) E ⟨h1,g,d,t,os⟩)(hz:vals.length<=sizeLine):
   wpAny (model prog w) A (Builtin.«type.__call__» ⟨.ref C::vals,[]⟩) Q E ⟨h,g,d,t,os⟩:=by
  repeat(first|with_reducible refine bL hC ?_|with_reducible refine wpAny_madeBy_exc hC ?_|wp_step)
  refine codeAny_call_builtin_code (gY _ F.quiet) (wpAny_check_new_subT F T hC<|codeAny_exc_new_subT F T hC ?_ hz);show wpAny _ _ _ _ _ _;generalize hp:(h.push {cls:=.type "tuple",data:=.seq vals.toArray}).push {cls:=.ref C,data:=.fields #[.ref h.objs.size,.none,.none,.none,.bool false,.none]}=MN;have kp:∀b o,h.get? b=some o->MN.get? b=some o:=λb o z=>by rw[<-hp];exact aF _ (aF _ z)
  have ge:MN.get? (h.objs.size+1)=some {cls:=.ref C,data:=.fields #[.ref h.objs.size,.none,.none,.none,.bool false,.none]}:=by rw[<-hp];heap_get
  have gt:MN.get? h.objs.size=some {cls:=.type "tuple",data:=.seq vals.toArray}:=by rw[<-hp];exact aF _ (Heap.get?_push_at rfl rfl)
  have cC:(Value.ref C::bm).contains (.ref C)=true:=by simp
  unfold isInstance;repeat(first|with_reducible refine bL ge ?_|(with_reducible refine dh (kp _ _ hC) ?_;rw[cC])|wp_step)
  show wpAny _ _ (typeLookup (.ref C) _) _ _ _;refine wpAny_typeLookup_tail (kp _ _ hC) (hn.keeps kp) (T.keeps kp) F.mroIs F.init.lookup ?_;rw[hi];refine wpAny_holding (aD ?_);unfold bindSpecial;refine aD (wpAny_typeOf (T:="function") ⟨_,kp _ _ hfI,hfc⟩ ?_);rw[au<|by decide];refine bf (aD<|bN (hq _ (h.objs.size+1) ⟨kp,eQ<|eU _,h.objs.size,ge,eQ<|aB _,gt⟩<|eU _) (λr s1 z=>?_) λ_ _ z=>z);obtain⟨rfl,z⟩:=z
  wp_walk
  exact z
def aj1(F:ExcBaseFacts B newId R6 bmB)(T:OwnTail h bmB bm){Q:mW}
 (hC:h.get? C=some (excClassObj nm q C N bs bm hdct sn sub ab col dd k0 k1 k2 k3 k5 newId))(hn:h.Ns N mN)(hi:mN "__init__"=some (.ref fI))(hfI:h.get? fI=some oI)(hfc:oI.cls=.type "function")
 (hq:∀h1 e,Heap.MadeExcOf h h1 e (.ref C) vals->h.objs.size<=e->wpAny (model prog w) (A.under<|.builtin "type.__call__" ⟨.ref C::vals,[]⟩) (call (.ref fI)<|.ref e::vals) (λr s1=>r=.none/\Q (.ref e) s1) E ⟨h1,g,d,t,os⟩)(hz:vals.length<=sizeLine):
   wpAny (model prog w) A (call (.ref C) vals) Q E ⟨h,g,d,t,os⟩:=by
  have f1:=tc_lookup;have f2:=tc_bind (.ref C);have hT:(⟨h,g,d,t,os⟩:Shared).TypeIs (.ref C) "type":=⟨_,hC,rfl⟩;refine iJ (codeAny_of_tree ?_);show wpAny _ _ (callAny (.ref C) _) _ _ _;repeat(any_goals(first|assumption|with_reducible refine bL hC ?_|wp_step))
  refine⟨rfl,codeAny_call_builtin_at (gY _<|by decide+kernel) entry_typeCall<|wpAny_check_type_call_sub hC<|auO F T hC hn hi hfI hfc (λh1 e z y=>hq h1 e z y) hz⟩
def arV(hbase:bm.contains (.type "BaseException")=true)(hh:A.handled=none)
 (hx:wpAny M A x (λv s1=>∃e oe vs,v=.ref e/\s1.heap.get? C=some (excClassObj nm q C N bs bm hdct sn sub ab col dd k0 k1 k2 k3 k5 newId)/\s1.heap.get? e=some oe/\oe.cls=.ref C/\oe.data=.fields vs/\vs[1]?=some .none/\E (.ref e) s1) E s):
   wpAny M A (raiseStmt env (some x) none) Q E s:=by
  have Ax:(Value.ref C::bm).contains (.type "BaseException")=true:=by rw[d8,hbase,gJ]
  unfold raiseStmt;refine aD (bN hx (λv s1 z=>?_) λ_ _ z=>z);obtain⟨e,oe,vs,rfl,hC,he,hc,hd,hv1,hE⟩:=z;obtain⟨hp,gg,dr,tk,Ti⟩:=s1;have al8:∀{Q':mW} {E':mW},Q' .none ⟨hp,gg,dr,tk,Ti⟩->wpAny M A (field (.ref e) 1) Q' E' ⟨hp,gg,dr,tk,Ti⟩:=λz=>eX he hd hv1 z;repeat(first|with_reducible refine al8 ?_|(with_reducible refine bL he ?_;rw[hc])|with_reducible refine bL hC ?_|(with_reducible refine dh hC ?_;rw[Ax])|wp_step)
  exact wpAny_raiseNew_none hh hE
abbrev xV(h:Heap)(C:Addr)(n:Str)(y:Option Value):Prop:=∀M A E g d t os (Q:Option Value->Shared->Prop),
 Q y ⟨h,g,d,t,os⟩->wpAny M A (typeLookup (.ref C) n) Q E ⟨h,g,d,t,os⟩
open Builtin Builtin.ObjectAttr in
def atv{tk}{Q:Fin->Shared->Prop}(hC:h.get? C=some (excClassObj nm q C N bs bm true sn sub ab col dd k0 k1 k2 k3 k5 newId))
 (hpass:refuseLoop (.ref x) "__setattr__" bm=pure ())(l2:xV h C name none)(hx:h.get? x=some o)(hc:o.cls=.ref C)(hdt:o.data=.fields vs)(hdn:o.dict=none)
 (hq:∀h1 Eh,h1.get? x=some {o with dict:=some h.objs.size}->h1.Ns1 h.objs.size (λy=>if y=name then some v else none)->(∀b ob,b≠x->h.get? b=some ob->h1.get? b=some ob)->Q (.done<|.ret .none) ⟨h1,g,d,Eh,os⟩):
   wpAny (model prog w) A (Builtin.«object.__setattr__» ⟨[.ref x,.str name tk,v],[]⟩) Q E ⟨h,g,d,t,os⟩:=by
  unfold Builtin.«object.__setattr__»;repeat(first|rw[refuse_eq]|(rw[refuseLoop_ref,hpass])|(with_reducible refine bL hx ?_;rw[hc])|with_reducible refine wpAny_mroOf_exc hC ?_|with_reducible refine l2 _ _ _ _ _ _ _ _ ?_|wp_step)
  rw[hdn,aA<|by simp[typeHasDict]];split
  ·rename_i z;cases z
  split
  ·rename_i c z;rw[hdt]at z;cases z
  ·have MP:(h.push {cls:=.type "dict",data:=.dict #[]}).get? x=some o:=aF _ hx;have ne:x≠h.objs.size:=bO (Heap.lt_size hx);refine aD (wpAny_alloc'<|aD<|wpAny_update' MP<|bf ?_);generalize hu:(h.push {cls:=.type "dict",data:=.dict #[]}).update x (λo=>{cls:=o.cls,dict:=some h.objs.size,data:=o.data,slots:=o.slots})=R0;have gd:R0.get? h.objs.size=some {cls:=.type "dict",data:=.dict #[]}:=by rw[<-hu];exact(Heap.get?_update_ne _ _ _ _ ne.symm).trans (Heap.get?_push_at rfl rfl)
   have gx:R0.get? x=some {o with dict:=some h.objs.size}:=by rw[<-hu];refine eE _ MP ?_;rcases o with⟨oc,od,odt,osl⟩;simp only at hdt;subst hdt;rfl
   have gk:∀b ob,b≠x->h.get? b=some ob->R0.get? b=some ob:=λb ob nb hb=>by rw[<-hu];exact(Heap.get?_update_ne _ _ _ _ nb).trans (aF _ hb)
   have nd:R0.Ns h.objs.size (λ_=>none):=⟨_,#[],_,gd,rfl,λe he=>absurd he<|by simp,λ_=>rfl⟩;show wpAny _ _ (storeInDict h.objs.size (.str name tk) name v) _ _ _;unfold storeInDict newKeyGuard;refine aD (bf<|aD<|wpAny_nsSet1 (Heap.Ns1.of_empty nd) λh1 n1 s1=>?_);obtain⟨oD,esD,epD,g1,g2,g3⟩:=n1.count (Within.cons name v Within.nil);refine aD (wpAny_lookBehind g1 (by rw[g2];exact pastItsLine_dict (aJ g3 (by rw[ak,bu,cX];omega))) ?_)
   wp_walk
   exact hq h1 _ ((s1.2 x ne).trans gx) n1 λb ob nb hb=>(s1.2 b<|bO<|Heap.lt_size hb).trans (gk b ob nb hb)
def akf{Q:Unit->Shared->Prop}(hC:h.get? C=some (excClassObj nm q C N bs bm true sn sub ab col dd k0 k1 k2 k3 k5 newId))
 (hob:bm.contains (.type "object")=true)(hx:h.get? x=some o)(hc:o.cls=.ref C)(hq:Q () ⟨h,g,d,t,os⟩):wpAny M A (checkBuiltinCall "object.__setattr__" ⟨[.ref x,nv,v],[]⟩) Q E ⟨h,g,d,t,os⟩:=by
  have SF:=jh;have Ax:(Value.ref C::bm).contains (.type "object")=true:=by rw[d8,hob,gJ]
  have ha:=SF.args (.ref x) nv v;simp only[checkBuiltinCall,SF.kind,SF.split];refine aD ?_;unfold isInstance;repeat(first|(with_reducible refine bL hx ?_;rw[hc])|(with_reducible refine dh hC ?_;rw[Ax])|wp_step)
  exact hq
def atw{Q:Unit->Shared->Prop}(hC:h.get? C=some (excClassObj nm q C N bs bm true sn sub ab col dd k0 k1 k2 k3 k5 newId))
 (hob:bm.contains (.type "object")=true)(hpass:refuseLoop (.ref x) "__setattr__" bm=pure ())(l1:xV h C "__setattr__"<|some<|.builtin "object.__setattr__")(l2:xV h C name none)(hx:h.get? x=some o)(hc:o.cls=.ref C)(hdt:o.data=.fields vs)(hdn:o.dict=none)
 (hq:∀h1 Eh,h1.get? x=some {o with dict:=some h.objs.size}->h1.Ns1 h.objs.size (λy=>if y=name then some v else none)->(∀b ob,b≠x->h.get? b=some ob->h1.get? b=some ob)->Q () ⟨h1,g,d,Eh,os⟩):
   wpAny (model prog w) A (setAttr (.ref x) name v) Q E ⟨h,g,d,t,os⟩:=by
  have SF:=jh;have f3:=SF.slot.bind (.ref x);unfold setAttr callSpecial? specialOf;repeat(any_goals(first|assumption|(with_reducible refine bL hx ?_;rw[hc])|with_reducible refine l1 _ _ _ _ _ _ _ _ ?_|wp_step))
  refine gm SF.slot.plain SF.entry (akf hC hob hx hc<|atv hC hpass l2 hx hc hdt hdn λh1 Eh a b c=>?_);repeat(any_goals(first|assumption|wp_step))
  exact hq h1 Eh a b c
end
end Fx
namespace L2
open PySem PySem.Spec PyProof.Rows Fx
def wN(e C t:Addr)(d:Option Addr):HO:=.ext λh=>h.get? e=some {cls:=.ref C,dict:=d,data:=.fields #[.ref t,.none,.none,.none,.bool false,.none]}
def QV(e C:Addr)(d:Option Addr):HO:=.ext λh=>∃oe vs,h.get? e=some oe/\oe.cls=.ref C/\(∀dx,d=some dx->oe.dict=some dx)/\oe.data=.fields vs
def agP{w}{h:Heap}{d}(q:h.get? e=some {cls:=.ref C,dict:=d,data:=.fields #[.ref t,.none,.none,.none,.bool false,.none]}):qL P w H h e (wN e C t d):=
 ⟨q,⟨_,q⟩,λh1 h2 z k=>k _ z⟩
section
variable{X:Cx}{pins:List<|Addr×Obj}{σ:St}{H:Hp}{s:Shared}{e:Addr}{o:HO}
def Inv.ahZ(I:Inv X pins σ H s)(n:Vn X pins e)(hn:H e=none)(new:qL X.prog X.w (upd H e o) s.heap e o):Inv X pins σ (upd H e o) s:=by
 obtain⟨ok,r1,r2,ba,r4,r5,W5,W6,pin,hok,len⟩:=I;have ne:∀b u,H b=some u->b≠e:=λb u q z=>by rw[z,hn]at q;cases q
 refine⟨ok,r1,r2,⟨ba.keep,ba.slot,λb ob q h0 hx=>?_,ba.there,λb xs q=>?_,λb ob u q=>?_,λb ps q=>?_⟩,r4,r5,?_,λx c hc=>?_,λp hp=>?_,λb u q=>?_,len⟩;·rw[mz<|λz=>by rw[z,n.old]at q;cases q];exact ba.free b ob q h0 hx
 ·have z:=ba.tups b xs q;rw[mz<|ne _ _ z];exact z
 ·have z:=ba.wI b ob u q;rw[mz<|ne _ _ z];exact z
 ·obtain⟨m,z⟩:=ba.wQ b ps q;exact⟨m,by rw[mz (ne _ _ z)];exact z⟩
 ·rw[mz<|cY n.loc];exact W5
 ·rw[mz<|n.cel x c hc];exact W6 x c hc
 ·obtain⟨p1,p2,p3⟩:=pin p hp;exact⟨p1,by rw[mz (n.pin p hp)];exact p2,p3⟩
 ·by_cases z:b=e;·subst z;rw[ql]at q;cases q;exact new
  ·rw[mz z]at q;exact(hok b u q).Bx (λ_ _ _ y=>y) (λc y=>by rw[mz<|ne _ _ y];exact y) λc xs y=>by rw[mz<|ne _ _ y];exact y
def drop(H:Hp)(e:Addr):Hp:=λb=>if b=e then none else H b
def Ib(h:b≠e):drop H e b=H b:=aA h
def Inv.forget(I:Inv X pins σ H s)(q:H e=some (.ext φ)):Inv X pins σ (drop H e) s:=by
 obtain⟨ok,r1,r2,ba,r4,r5,W5,W6,pin,hok,len⟩:=I;have dn:∀b,H b=none->drop H e b=none:=λb z=>by unfold drop;split<;>first|rfl|exact z
 have ne:∀b u,H b=some u->(∀ψ,u≠.ext ψ)->b≠e:=λb u y z x=>by rw[x,q]at y;cases y;exact z _ rfl
 refine⟨ok,r1,r2,⟨ba.keep,ba.slot,λb ob y h0 hx=>dn b<|ba.free b ob y h0 hx,ba.there,λb xs y=>?_,λb ob u y=>?_,λb ps y=>?_⟩,r4,r5,dn _ W5,λx c hc=>dn _<|W6 x c hc,λp hp=>?_,λb u y=>?_,len⟩
 ·have z:=ba.tups b xs y;rw[Ib<|ne _ _ z λψ y=>nomatch y];exact z
 ·have z:=ba.wI b ob u y;rw[Ib<|ne _ _ z λψ y=>nomatch y];exact z
 ·obtain⟨m,z⟩:=ba.wQ b ps y;exact⟨m,by rw[Ib (ne _ _ z λψ y=>nomatch y)];exact z⟩
 ·obtain⟨p1,p2,p3⟩:=pin p hp;exact⟨p1,dn _ p2,p3⟩
 ·have nb:b≠e:=λz=>by subst z;unfold drop at y;rw[au rfl]at y;cases y
  rw[Ib nb]at y;exact(hok b u y).Bx (λ_ _ _ z=>z) (λc z=>by rw[Ib<|ne _ _ z λψ y=>nomatch y];exact z) λc xs z=>by rw[Ib<|ne _ _ z λψ y=>nomatch y];exact z
end
def QT(K:W.Frag)(C fI:Addr)(bmB:List Value)(newId:String):Bool:=match K.lookup C with
 |some ⟨.type "type",_,.cls cd,sl⟩=>(match cd.mro,sl.toList with
  |.ref C1::bm,[_,_,_,_,some (.builtin n),_]=>C1==C&&n==newId&&!cd.hasDel&&cd.hasDict&&W.tailIn K bmB bm&&W.nsOkIn K cd.ns&&W.nsIn K cd.ns "__init__"==some (some<|.ref fI)
  |_,_=>false)
 |_=>false
def anT{K:W.Frag}(X:K.In h)(G:h.Ns N m)(e:W.nsIn K N n=some (some v)):m n=some v:=by
 obtain⟨o,es,ep,ho,hd,_,hf⟩:=G;unfold W.nsIn at e;split at e
 next c d es1 n1 sl q=>
  have z:=X _ _ q;rw[ho]at z;cases z;cases hd;split at e
  next en he=>cases e;rw[<-hf];unfold nsFind findBy;rw[<-Array.find?_toList,he];rfl
  next=>split at e<;>cases e
 next=>cases e
def WX{K:W.Frag}{C fI:Addr}{bmB:List Value}{newId:String}(q:QT K C fI bmB newId=true):
    ∃bm N nm qn bs sn sub ab col dd k0 k1 k2 k3 k5,∀h:Heap,K.In h->h.get? C=some (excClassObj nm qn C N bs bm true sn sub ab col dd k0 k1 k2 k3 k5 newId)/\OwnTail h bmB bm/\∃mN,h.Ns N mN/\mN "__init__"=some (.ref fI):=by
 unfold QT at q;split at q
 next dd cd sl ho=>
  split at q
  next C1 bm k0 k1 k2 k3 n k5 hm hs=>
   simp only[aK,gW,eG]at q;obtain⟨⟨⟨⟨⟨⟨rfl,rfl⟩,My⟩,RG⟩,tl⟩,hok⟩,Dp⟩:=q;rcases cd with⟨nm,bs,mro,ns,qn,avJ,sn,sub,ab,col,del⟩;dsimp only at hm My hok Dp RG;subst hm My RG;have es:sl=#[k0,k1,k2,k3,some (.builtin n),k5]:=by rcases sl with⟨l⟩;simp only at hs;rw[hs]
   subst es;refine⟨bm,ns,nm,qn,bs,sn,sub,ab,col,dd,k0,k1,k2,k3,k5,λh X=>?_⟩;have G:h.Ns ns (h.nsMap ns):=.of_isNs (W.isNs_of_in X hok);exact⟨X _ _ ho,W.tail_of_in X tl,_,G,anT X G Dp⟩
  next=>cases q
 next=>cases q
structure CP(K:W.Frag)(C fI:Addr)(field:Str):Prop where
 cls:QT K C fI [.type "ValueError",.type "Exception",.type "BaseException",.type "object"] "ValueError.__new__"=true
 fn:W.isFn K (.ref fI)=true
 kp:W.keepIn K (.ref C)=true
 sa:W.findIn K (.ref C) "__setattr__"=some (some<|.builtin "object.__setattr__")
 ga:W.findIn K (.ref C) "__getattribute__"=some (some<|.builtin "BaseException.__getattribute__")
 gn:W.findIn K (.ref C) "__getattr__"=some none
 fl:W.findIn K (.ref C) field=some none
def Ox{K:W.Frag}{y}(X:K.In h)(e:W.findIn K (.ref C) n=some y):xV h C n y:=λM A E g d t os Q hq=>(W.looks_findIn (M:=M) X e).here (s:=⟨h,g,d,t,os⟩) hq
theorem agT:∀{bm},OwnTail h [.type "ValueError",.type "Exception",.type "BaseException",.type "object"] bm->refuseLoop (.ref x) "__setattr__" bm=pure ()
 |_,.base=>PySem.F.store_ValueError.passes (.ref x)
 |_,.own _ _ _ t=>by rw[refuseLoop_ref];exact agT t
def wO(C:Addr)(field:Str):Sp:=λvs H Q _=>∃e t v,vs=[.ref e,v]/\H e=some (wN e C t none)/\∀dx,H dx=none->dx≠e->Q .non (upd (upd H e<|wN e C t<|some dx) dx<|.xd [(field,v)])
section
variable{X:Cx}{o value:Expr}{field:Str}{pos pos':Pos}{ta tv:TE}{C fI:Addr}
def asj(C:Addr)(ta tv:TE)(field:Str):TS:=λD σ H=>tv σ H λy H1=>ta σ H1 λx H2=>∃e t,x=.ref e/\H2 e=some (wN e C t none)/\∀dx,H2 dx=none->dx≠e->D.nx σ (upd (upd H2 e<|wN e C t<|some dx) dx<|.xd [(field,y)])
def aqi(c:CP X.K C fI field)(ha:PE X o ta)(hv:PE X value tv)(hs:swapsWith value (some<|.Attribute o field pos') pos.line X.env=pure false)(hex:X.ex=[]:=by rfl):PS X (.Assign [.Attribute o field pos'] value pos) (asj C ta tv field):=by
 intro pins s σ H D I h;refine fP (lE (hv pins s σ H _ I h) λu s1 ⟨y,H1,I1,r1,q1⟩=>lE (ha pins s1 σ H1 _ I1 q1) λxv s2 ⟨x,H2,I2,r2,e,t,ex,he,k⟩=>?_) hs;subst ex;cases r2;obtain⟨bm,N,nm,qn,bs,sn,sub,ab,col,dd,k0,k1,k2,k3,k5,all⟩:=WX c.cls;obtain⟨hC,T,mN,hN,hi⟩:=all _ I2.o4;obtain⟨hx,_,_⟩:=I2.hok e _ he;have R1:s2.heap.get? e=some {cls:=.ref C,dict:=none,data:=.fields #[.ref t,.none,.none,.none,.bool false,.none]}:=hx;obtain⟨hp,g,d,tk,os⟩:=s2;refine atw hC (T.hasType<|by rfl) (agT T) (Ox I2.o4 c.sa) (Ox I2.o4 c.fl) R1 rfl rfl rfl λh1 Eh g1 g2 g3=>?_;have fresh:H2 hp.objs.size=none:=I2.hok.fresh (aB _);have ne:hp.objs.size≠e:=iI (Heap.lt_size R1)
 have I3:Inv X pins σ (upd H2 e<|wN e C t<|some hp.objs.size) ⟨h1,g,d,Eh,os⟩:=by refine I2.write (x:=e) (e:=e) (o:=wN e C t<|some hp.objs.size) (h':=h1) (t':=Eh) (by rw[he];trivial) (.inl rfl) (λb u nb q=>g3 b u nb q) ⟨_,g1⟩ (agP g1)
 refine⟨σ,_,I3.ahZ (e:=hp.objs.size) (o:=.xd [(field,y)]) (I2.Yz (eQ<|aB _) hex) ?_ ?_,k _ fresh ne⟩;·rw[mz ne];exact fresh
 ·refine⟨_,g2,λf=>?_⟩;show tX (List.lookup f [(field,y)]) (if f=field then some u else none);by_cases z:f=field
  ·subst z;rw[au rfl];simp[List.lookup,tX];exact r1
  ·rw[aA z];have:(f==field)=false:=by simpa using z
   simp[List.lookup,this,tX]
end
section
variable{P:Program}{w:World}{K:W.Frag}{mg:nO}{base:Heap}{N:List Str}{qual:Str}{scope:Scope}{f:Addr}{cd:Value}{A:Around}{outer:List Env}{s:Shared}{H:Hp}{E:XK}
def at7(E:XK)(C:Addr)(field:Str)(t:TA):TS:=λ_ σ H=>t σ H λvs H1=>∃v,vs=[v]/\∀dx,H1 dx=none->E (.ref C) (some dx) (upd H1 dx<|.xd [(field,v)])
def akG{H:Hp}(he:H e=none)(ne:dx≠e):drop (upd (upd (upd H e a) e b) dx c) e=upd H dx c:=by
 funext y;unfold drop;by_cases z:y=e;·subst z;rw[au rfl,mz<|cY ne];exact he.symm
 ·rw[aA z];by_cases z2:y=dx;·subst z2;rw[ql,ql]
  ·rw[mz z2,mz z2,mz z,mz z]
def ala{K:W.Frag}(X:K.In h)(q:W.isFn K (.ref fI)=true):∃oI,h.get? fI=some oI/\oI.cls=.type "function":=by have z:W.typeIn K (.ref fI)=some (.type "function"):=beq_iff_eq.mp q;obtain⟨o,h1,h2⟩:=Option.map_eq_some_iff.mp (show(K.lookup fI).map (·.cls)=some (.type "function")from z);exact⟨o,X _ _ h1,h2⟩
def aqm{x:Str}{C fI:Addr}{field:Str}{k:Nat}{Ln:FuncData}{p1 p2:Str}{np cpos pos:Pos}{arg:Expr}{t:TA}(c:CP K C fI field)(FI:jZ P w K mg base vz k fI Ln [p1,p2]<|wO C field)(bI:Binds K Ln [p1,p2] [])
    (hr:n6 (k+1) (nG (jF P w) P w K mg base N qual scope f cd A outer s H E).A)(hg:Gl (nG (jF P w) P w K mg base N qual scope f cd A outer s H E) x)(hm:mg x=some (.ref C))(ha:PA (nG (jF P w) P w K mg base N qual scope f cd A outer s H E) [arg] t)
    (hdb:(x==("__debug__":Str))=false:=by decide)
    (he:starEach [arg] (nG (jF P w) P w K mg base N qual scope f cd A outer s H E).env=(false,eval arg (nG (jF P w) P w K mg base N qual scope f cd A outer s H E).env)::starEach [] (nG (jF P w) P w K mg base N qual scope f cd A outer s H E).env:=by rfl)
    (hpl:(backTo cpos<|starEach [] (nG (jF P w) P w K mg base N qual scope f cd A outer s H E).env).any (·.1)=false:=by rfl):
    PS (nG (jF P w) P w K mg base N qual scope f cd A outer s H E) (.Raise (some<|.Call (.Name x np) [arg] [] cpos) none pos) (at7 E C field t):=by
 intro pins s1 σ H1 D I h;obtain⟨bm,NS,nm,qn,bs,sn,sub,ab,col,dd,k0,k1,k2,k3,k5,all⟩:=WX c.cls;have T1:=(all _ I.o4).2.1;rw[arm_exec_Raise]
 refine aD (gh (arV (C:=C) (nm:=nm) (q:=qn) (N:=NS) (bs:=bs) (bm:=bm) (hdct:=true) (sn:=sn) (sub:=sub) (ab:=ab) (col:=col) (dd:=dd) (k0:=k0) (k1:=k1) (k2:=k2) (k3:=k3) (k5:=k5) (newId:="ValueError.__new__")
  (T1.hasType (by rfl)) (I.ok.hd rfl) (aD (bN (wpAny_Call_ofName (Gr I hg hm ?_ hdb)) (λv s3 z=>aD (gh (bf z))) λ_ _ z=>z))))
 refine gH (h₀:=base) I.ok.mod.Bh c.kp (lE (ha cpos pins s1 σ H1 _ I h) λus s2 ⟨vs,H2,I2,r,v,ev,kk⟩=>⟨I2.o4,?_⟩) he hpl;subst ev;obtain⟨u,rfl,ru⟩:=vals1 r;obtain⟨hC,T,mN,hN,hi⟩:=all _ I2.o4;obtain⟨oI,hfI,hfc⟩:=ala I2.o4 c.fn;obtain⟨hp,g,d,tk,os⟩:=s2;refine aj1 gZ T hC hN hi hfI hfc (λh1 e mk ge=>?_) (by show 1<=sizeLine;decide);obtain⟨tt,hte,_,_⟩:=mk.there;have na:=I2.Yz mk.new rfl;have en:H2 e=none:=I2.hok.no mk.new;have I3:Inv (nG (jF P w) P w K mg base N qual scope f cd A outer s H E) pins σ H2 ⟨h1,g,d,tk,os⟩:=I2.kept (t':=tk) mk.keeps;have I4:=I3.ahZ (e:=e) (o:=wN e C tt none) na en (agP hte)
 refine iJ (fK (FI.run _ (nG (jF P w) P w K mg base N qual scope f cd A outer s H E).stack ⟨h1,g,d,tk,os⟩ _ ⟨[.ref e,u],[]⟩ ([.ref e,u]++[]) [.ref e,v] (λv1 H5=>v1=.non/\∃dx,H2 dx=none/\dx≠e/\H5=upd (upd (upd H2 e (wN e C tt none)) e (wN e C tt (some dx))) dx (.xd [(field,v)])) E0
  (hr.make C [u] []) (I4.QR.make C [u] []) (bI _ [.ref e,u] I4.o4 rfl) (.cons rfl (.cons ru .nil)) ⟨e,tt,v,rfl,ql,λdx q1 q2=>⟨rfl,dx,?_,q2,rfl⟩⟩) λres s5 hq=>?_)
 ·rw[mz q2]at q1;exact q1
 cases res with
 |error ex=>exact hq.elim
 |ok fl=>
  cases fl with
  |next=>exact False.elim hq
  |brk=>exact False.elim hq
  |cont=>exact False.elim hq
  |ret u1=>
   obtain⟨v1,H5,I5,rv,rfl,dx,q1,q2,rfl⟩:=I4.after hq;have he5:upd (upd (upd H2 e<|wN e C tt none) e<|wN e C tt<|some dx) dx (.xd [(field,v)]) e=some (wN e C tt<|some dx):=by rw[mz<|cY q2,ql]
   obtain⟨hx,_,_⟩:=I5.hok e _ he5;have XH:s5.heap.get? e=some {cls:=.ref C,dict:=some dx,data:=.fields #[.ref tt,.none,.none,.none,.bool false,.none]}:=hx;have I6:=I5.forget he5;rw[akG en q2]at I6;refine⟨rv,e,_,_,rfl,(all _ I5.o4).1,XH,rfl,rfl,rfl,?_⟩;exact agQ I6 XH na.old rfl rfl rfl (λdx1 z=>by cases z;exact⟨_,XH,rfl⟩) (by rw[mz (cY q2)];exact en) (kk dx q1)
end
section
variable{X:Cx}{pins:List<|Addr×Obj}{σ:St}{H:Hp}{s:Shared}
end
section
variable{X:Cx}{e:Expr}{field:Str}{pos:Pos}{ta:TE}{C fI:Addr}
end
end L2
namespace P2
open PySem L2
inductive D where
 |non|bl(b:Bool)|int(i:Int)|str(x:Str)|ty(n:String)|ref(a:Addr)
 |tup(ds:List D)|lst(ds:List D)|exc(c:Addr)(ns:List Str)(ds:List D)
inductive R(α:Type) where
 |ok(a:α)|ex(c:Addr)(ns:List Str)(ds:List D)|bad
abbrev jO:=List D->R D
noncomputable def R.bind{α β:Type}:R α->(α->R β)->R β
 |.ok a,f=>f a
 |.ex c ns ds,_=>.ex c ns ds
 |.bad,_=>.bad
def ac9{α β:Type}{r:R α}{g:α->R β}{y:β}(h:r.bind g=.ok y):∃x,r=.ok x/\g x=.ok y:=by
 cases r with
 |ok x=>exact⟨x,rfl,h⟩
 |ex c ns ds=>cases h
 |bad=>cases h
def KL(K:W.Frag)(a:Addr)(vs:List V):Prop:=∃(its:List Value) (n:Nat),K.lookup a=some {cls:=.type "list",data:=.seq its.toArray n}/\its.length<=sizeLine/\Vals vs its
def KL.sq(h:KL K a vs):sE K H a vs:=let⟨its,n,h1,h2,h3⟩:=h;.inr ⟨_,its.toArray,n,h1,rfl,rfl,rfl,by simpa using h2,by simpa using h3⟩
def KT(K:W.Frag)(a:Addr)(vs:List V):Prop:=∃o its n,K.lookup a=some o/\o.cls=.type "tuple"/\o.data=.seq its n/\its.size<=sizeLine/\Vals vs its.toList
def namesOf(K:W.Frag):List Str:=match K.lookup mainGlobals with
 |some ⟨_,_,.dict es _,_⟩=>es.toList.filterMap λe=>match e.key with
  |.str x _=>some x
  |_=>none
 |_=>[]
def ap7(K:W.Frag)(x:Str):Bool:=match W.nsIn K mainGlobals x with
 |some (some (.ref f))=>(match K.lookup f with
  |some ⟨_,_,.func fd,_⟩=>(match fd.defaults,fd.kwdefaults with
   |.none,.none=>true
   |_,_=>false)
  |_=>false)
 |_=>false
def ue(K:W.Frag):List (Str×Addr×Addr):=(namesOf K).filterMap λx=>if ap7 K x then(W.tabIn K x).map λq=>(x,q.1,q.2)else none
def uo(c:Addr)(q:Str):HO:=.ext λh=>h.CodeRec (.ref c) q
def tY(K:W.Frag)(H:Hp):Prop:=∀t∈ue K,∃ps,H t.2.2=some (.rE ps)/\TriplesOk ps.toList/\∀pos cv,codeAmong pos ps.toList=some cv->∃c',cv=.ref c'/\H c'=some (uo c'<|t.1++".<locals>.<lambda>")
def NT(o:HO):Prop:=∀ps,o≠.rE ps
def Bk:NT (.lst l):=λ_ h=>nomatch h
def anW:NT (.tup l):=λ_ h=>nomatch h
def afA:NT (.vV o u):=λ_ h=>nomatch h
def S8:NT (.xd l):=λ_ h=>nomatch h
def S7:NT (.ext φ):=λ_ h=>nomatch h
structure pY(K:W.Frag)(H H':Hp):Prop where
 at':∀b o,NT o->H b=some o->H' b=some o
 fr:∀b,H' b=none->H b=none
 tt:tY K H->tY K H'
def pY.refl(H):pY K H H:=⟨λ_ _ _ h=>h,λ_ h=>h,λh=>h⟩
def pY.trans(a:pY K H H1)(b:pY K H1 H2):pY K H H2:=⟨λc o n h=>b.at' c o n<|a.at' c o n h,λc h=>a.fr c<|b.fr c h,λh=>b.tt<|a.tt h⟩
def pY.free(e:pY K H H')(h:H' l=Option.none):H l=Option.none:=e.fr l h
def tY.off{H':Hp}(t:tY K H)(hp:∀ps,H p≠some (.rE ps))(hc:∀q,H p≠some (uo p q))(e:∀b,b≠p->H' b=H b):tY K H':=λx hx=>by obtain⟨ps,h1,h2,h3⟩:=t x hx;refine⟨ps,by rw[e _ λw=>hp ps (by rw[<-w];exact h1)];exact h1,h2,λpos cv e0=>?_⟩;obtain⟨c',e1,e2⟩:=h3 pos cv e0;exact⟨c',e1,by rw[e _ λw=>hc _ (by rw[<-w];exact e2)];exact e2⟩
def Sv{H:Hp}(h:H p=some (.lst l)):(∀ps,H p≠some (.rE ps))/\∀q,H p≠some (uo p q):=
 ⟨λps w=>(by rw[h]at w;exact nomatch w),λq w=>(by rw[h]at w;unfold uo at w;exact nomatch w)⟩
def tY.upd(t:tY K H)(hp:∀ps,H p≠some (.rE ps))(hc:∀q,H p≠some (uo p q)):tY K (upd H p o):=λx hx=>by obtain⟨ps,h1,h2,h3⟩:=t x hx;refine⟨ps,by rw[mz λw=>hp ps (by rw[<-w];exact h1)];exact h1,h2,λpos cv e=>?_⟩;obtain⟨c',e1,e2⟩:=h3 pos cv e;exact⟨c',e1,by rw[mz λw=>hc _ (by rw[<-w];exact e2)];exact e2⟩
mutual
inductive Rep(K:W.Frag)(al:Addr->Prop)(H:Hp):V->D->Prop
 |non:Rep K al H .non .non
 |bl (b:Bool):Rep K al H (.bl b) (.bl b)
 |int (i:Int):Rep K al H (.int i) (.int i)
 |str (x:Str):Rep K al H (.str x) (.str x)
 |ty (n:String):Rep K al H (.ty n) (.ty n)
 |ref (a:Addr):Rep K al H (.ref a) (.ref a)
 |tup {a:Addr} {vs:List V} {ds:List D}:(al a/\Rd H a (.tup vs))\/KT K a vs->kI K al H vs ds->Rep K al H (.ref a) (.tup ds)
 |lst {a:Addr} {vs:List V} {ds:List D}:(al a/\Rd H a (.lst vs))\/KL K a vs->kI K al H vs ds->Rep K al H (.ref a) (.lst ds)
 |exc {a c dx:Addr} {ns:List Str} {vs:List V} {ds:List D}:al a->H a=some (QV a c<|some dx)->al dx->H dx=some (.xd<|ns.zip vs)->kI K al H vs ds->Rep K al H (.ref a) (.exc c ns ds)
 |Lj {a c:Addr}:al a->H a=some (QV a c none)->Rep K al H (.ref a) (.exc c [] [])
inductive kI(K:W.Frag)(al:Addr->Prop)(H:Hp):List V->List D->Prop
 |nil:kI K al H [] []
 |cons {v:V} {d:D} {vs:List V} {ds:List D}:Rep K al H v d->kI K al H vs ds->kI K al H (v::vs) (d::ds)
end
def Xt(al:Addr->Prop)(H:Hp)(jK:Addr->Prop)(H':Hp):Prop:=∀a o,NT o->al a->H a=some o->jK a/\H' a=some o
def Xt.refl:Xt al H al H:=λ_ _ _ h e=>⟨h,e⟩
def Xt.trans(x:Xt al H lV H1)(y:Xt lV H1 mH H2):Xt al H mH H2:=λa o n h e=>y a o n (x a o n h e).1 (x a o n h e).2
def Xt.of(s:pY K H H'):Xt al H al H':=λa o n h e=>⟨h,s.at' a o n e⟩
def Xt.sub{al jK:Addr->Prop}(s:∀a,al a->jK a):Xt al H jK H:=λa o _ h e=>⟨s a h,e⟩
def agR(h:Xt al H jK H')(n:NT u)(z:al a/\Rd H a u):jK a/\Rd H' a u:=by
 obtain⟨z1,z2|⟨o,z2⟩⟩:=z;·exact⟨(h a _ n z1 z2).1,.inl (h a _ n z1 z2).2⟩
 ·exact⟨(h a _ afA z1 z2).1,.inr ⟨o,(h a _ afA z1 z2).2⟩⟩
mutual
theorem Rep.mv(h:Xt al H jK H'):∀{v} {d},Rep K al H v d->Rep K jK H' v d
 |_,_,.non=>.non
 |_,_,.bl b=>.bl b
 |_,_,.int b=>.int b
 |_,_,.str b=>.str b
 |_,_,.ty b=>.ty b
 |_,_,.ref b=>.ref b
 |_,_,.tup p q=>.tup (p.elim (λz=>.inl<|agR h anW z) .inr) (q.mv h)
 |_,_,.lst p q=>.lst (p.elim (λz=>.inl<|agR h Bk z) .inr) (q.mv h)
 |_,_,.exc p1 p2 p3 p4 q=>.exc (h _ _ S7 p1 p2).1 (h _ _ S7 p1 p2).2 (h _ _ S8 p3 p4).1 (h _ _ S8 p3 p4).2 (q.mv h)
 |_,_,.Lj p1 p2=>.Lj (h _ _ S7 p1 p2).1 (h _ _ S7 p1 p2).2
theorem kI.mv(h:Xt al H jK H'):∀{v} {d},kI K al H v d->kI K jK H' v d
 |_,_,.nil=>.nil
 |_,_,.cons p q=>.cons (p.mv h) (q.mv h)
end
section
variable{K:W.Frag}{al jK:Addr->Prop}{H H':Hp}{v:V}{d:D}{vs ws:List V}{ds es:List D}
def Rep.up(r:Rep K al H v d)(s:pY K H H'):Rep K al H' v d:=r.mv (.of s)
def kI.up(r:kI K al H vs ds)(s:pY K H H'):kI K al H' vs ds:=r.mv (.of s)
def kI.length(r:kI K al H vs ds):vs.length=ds.length:=by
 induction ds generalizing vs with
 |nil=>cases r;rfl
 |cons d ds ih=>cases r with|cons a b=>rw[ak,ak,ih b]
def kI.append(r:kI K al H vs ds)(q:kI K al H ws es):kI K al H (vs++ws) (ds++es):=by
 induction ds generalizing vs with
 |nil=>cases r;exact q
 |cons d ds ih=>cases r with|cons a b=>exact .cons a (ih b)
def kI.get(r:kI K al H vs ds){i:Nat}{x:V}(e:vs[i]?=some x):∃y,ds[i]?=some y/\Rep K al H x y:=by
 induction ds generalizing vs i with
 |nil=>cases r;simp at e
 |cons d ds ih=>
  cases r with
  |cons a b=>
   cases i with
   |zero=>simp at e;subst e;exact⟨_,rfl,a⟩
   |succ i=>simpa using ih b (by simpa using e)
def kI.getD(r:kI K al H vs ds){i:Nat}{y:D}(e:ds[i]?=some y):∃x,vs[i]?=some x/\Rep K al H x y:=by
 have hl:=r.length;have hi:i<vs.length:=by rw[hl];exact(List.getElem?_eq_some_iff.mp e).1
 obtain⟨z,e2,q⟩:=r.get (aN hi);rw[e]at e2;cases e2;exact⟨_,aN hi,q⟩
def kI.drop(r:kI K al H vs ds)(n):kI K al H (vs.drop n) (ds.drop n):=by
 induction n generalizing vs ds with
 |zero=>exact r
 |succ n ih=>
  cases r with
  |nil=>exact .nil
  |cons a b=>exact ih b
def kI.take(r:kI K al H vs ds)(n):kI K al H (vs.take n) (ds.take n):=by
 induction n generalizing vs ds with
 |zero=>exact .nil
 |succ n ih=>
  cases r with
  |nil=>exact .nil
  |cons a b=>exact .cons a (ih b)
def Rep.J1(r:Rep K al H v<|.tup ds):∃a vs,v=.ref a/\uW K H a vs/\kI K al H vs ds:=by
 cases r with
 |tup p q=>exact⟨_,_,rfl,p.elim (λz=>.inl z.2) .inr,q⟩
def Rep.Gv(r:Rep K al H v<|.lst ds):∃a vs,v=.ref a/\sE K H a vs/\kI K al H vs ds:=by
 cases r with
 |lst p q=>exact⟨_,_,rfl,p.elim (λz=>.inl z.2) KL.sq,q⟩
def Rep.afh(r:Rep K al H v<|.lst ds):∃a vs,v=.ref a/\(Rd H a (.lst vs)\/KL K a vs)/\kI K al H vs ds:=by
 cases r with
 |lst p q=>exact⟨_,_,rfl,p.imp (λz=>z.2) id,q⟩
def vg(h:H p=none):pY K H (upd H p o):=⟨λb u _ q=>by rw[mz (yx q h)];exact q,λb q=>by
    by_cases z:b=p;· rw[z];exact h
    · rw[mz z]at q;exact q,λt=>t.upd (λps w=>by rw[h]at w;cases w) λq w=>by rw[h]at w;cases w⟩
def kI.abQ(r:kI K al H vs ds)(h:H p=none)(a:al p):Rep K al (upd H p<|.tup vs) (.ref p) (.tup ds):=.tup (.inl ⟨a,.inl ql⟩) (r.up<|vg h)
def kI.M8(r:kI K al H vs ds)(h:H p=none)(a:al p):Rep K al (upd H p<|.lst vs) (.ref p) (.lst ds):=.lst (.inl ⟨a,.inl ql⟩) (r.up<|vg h)
end
inductive Sl where
 |no|sh(d:D)|ow(ds:List D)
abbrev Ev:=List Sl
abbrev lA:=Ev->R D
structure RS(K:W.Frag)(P:Addr->Prop)(H0:Hp)(al:Addr->Prop)(H:Hp)(σ:St)(ρ:Ev):Prop where
 same:pY K H0 H
 tt:tY K H
 fresh:∀a,H a=none->al a
 sub:∀a,al a->P a
 pf:∀a,H0 a=none->P a
 len:ρ.length=σ.length
 sh:∀(i:Nat) (d:D),ρ[i]?=some (.sh d)->∃v,σ[i]?=some (some v)/\Rep K al H v d
 ow:∀(i:Nat) (ds:List D),ρ[i]?=some (.ow ds)->∃a vs,σ[i]?=some (some<|.ref a)/\H a=some (.lst vs)/\kI K al H vs ds/\¬al a/\H0 a=none
 apart:∀(i j:Nat) (ds Lf:List D) (a:Addr),ρ[i]?=some (.ow ds)->ρ[j]?=some (.ow Lf)->σ[i]?=some (some<|.ref a)->σ[j]?=some (some<|.ref a)->i=j
section
variable{K:W.Frag}{P al:Addr->Prop}{H0 H H':Hp}{σ:St}{ρ:Ev}
def RS.grow(r:RS K P H0 al H σ ρ)(s:pY K H H'):RS K P H0 al H' σ ρ where
 same:=r.same.trans s
 tt:=s.tt r.tt
 fresh:=λa h=>r.fresh a (s.free h)
 sub:=r.sub
 pf:=r.pf
 len:=r.len
 sh:=λi d e=>let⟨v,a,b⟩:=r.sh i d e;⟨v,a,b.up s⟩
 ow:=λi ds e=>let⟨a,vs,h1,h2,h3,h4⟩:=r.ow i ds e;⟨a,vs,h1,s.at' _ _ Bk h2,h3.up s,h4⟩
 apart:=r.apart
def RS.set(r:RS K P H0 al H σ ρ){i:Nat}{v:V}{d:D}(hi:i<ρ.length)(q:Rep K al H v d):RS K P H0 al H (σ.set i<|some v) (ρ.set i<|.sh d) where
 same:=r.same
 tt:=r.tt
 fresh:=r.fresh
 sub:=r.sub
 pf:=r.pf
 len:=by rw[cI,cI];exact r.len
 sh:=λj e h=>by
  by_cases z:i=j
  ·subst z;rw[aX hi]at h;cases h;exact⟨v,aX<|by rw[<-r.len];exact hi,q⟩
  ·rw[aQ z]at h;obtain⟨w,a,b⟩:=r.sh j e h;exact⟨w,by rw[aQ z];exact a,b⟩
 ow:=λj ds h=>by
  by_cases z:i=j
  ·subst z;rw[aX hi]at h;cases h
  ·rw[aQ z]at h;obtain⟨a,vs,h1,h2⟩:=r.ow j ds h;exact⟨a,vs,by rw[aQ z];exact h1,h2⟩
 apart:=λj k ds Lf a h1 h2 h3 h4=>by
  by_cases z:i=j;·subst z;rw[aX hi]at h1;cases h1
  ·by_cases y:i=k;·subst y;rw[aX hi]at h2;cases h2
   ·rw[aQ z]at h1 h3;rw[aQ y]at h2 h4;exact r.apart j k ds Lf a h1 h2 h3 h4
end
def XR(K:W.Frag)(al:Addr->Prop)(H:Hp)(dx:Option Addr)(ns:List Str)(ds:List D):Prop:=
 match dx with
 |none=>ns=[]/\ds=[]
 |some d=>al d/\∃vs,H d=some (.xd<|ns.zip vs)/\kI K al H vs ds
def XR.mv(h:Xt al H jK H')(r:XR K al H dx ns ds):XR K jK H' dx ns ds:=by
 cases dx with
 |none=>exact r
 |some d=>obtain⟨a,vs,e,q⟩:=r;exact⟨(h _ _ S8 a e).1,vs,(h _ _ S8 a e).2,q.mv h⟩
def Aft{α:Type}(K:W.Frag)(al:Addr->Prop)(E:XK)(H:Hp)(r:R α)(k:α->Hp->Prop):Prop:=
 match r with
 |.ok a=>∀H',pY K H H'->k a H'
 |.ex c ns ds=>∀dx H',pY K H H'->XR K al H' dx ns ds->E (.ref c) dx H'
 |.bad=>False
section
variable{α β:Type}{K:W.Frag}{al:Addr->Prop}{E:XK}{H H':Hp}{r:R α}{k k':α->Hp->Prop}
def Aft.up(a:Aft K al E H r k)(s:pY K H H'):Aft K al E H' r k:=by
 cases r with
 |ok x=>exact λH1 s1=>a H1 (s.trans s1)
 |ex c ns ds=>exact λdx H1 s1=>a dx H1 (s.trans s1)
 |bad=>exact a
def Aft.mono(a:Aft K al E H r k)(m:∀x H1,pY K H H1->k x H1->k' x H1):Aft K al E H r k':=by
 cases r with
 |ok x=>exact λH1 s1=>m x H1 s1 (a H1 s1)
 |ex c ns ds=>exact a
 |bad=>exact a
def Aft.split{g:α->R β}{k:β->Hp->Prop}(a:Aft K al E H (r.bind g) k):Aft K al E H r (λx H1=>Aft K al E H1 (g x) k):=by
 cases r with
 |ok x=>exact λH1 s1=>Aft.up a s1
 |ex c ns ds=>exact a
 |bad=>exact a
end
def DE(X:Cx)(E:XK)(e:Expr)(f:lA):Prop:=∃t:TE,PE X e t/\
 ∀P H0 al H σ ρ (Q:VK),RS X.K P H0 al H σ ρ->Aft X.K al E H (f ρ) (λd H'=>∀v,Rep X.K al H' v d->Q v H')->t σ H Q
def DT(X:Cx)(E:XK)(e:Expr)(f:Ev->R Bool):Prop:=∃t:TT,PT X e t/\
 ∀P H0 al H σ ρ (Q:Bool->Hp->Prop),RS X.K P H0 al H σ ρ->Aft X.K al E H (f ρ) Q->t σ H Q
def DW(X:Cx)(E:XK)(e:Expr)(f:Ev->R Bool):Prop:=∃t:TT,PW X e t/\
 ∀P H0 al H σ ρ (Q:Bool->Hp->Prop),RS X.K P H0 al H σ ρ->Aft X.K al E H (f ρ) Q->t σ H Q
def DA(X:Cx)(E:XK)(es:List Expr)(f:Ev->R (List D)):Prop:=∃t:TA,PA X es t/\
 (∀P H0 al H σ ρ (Q:List V->Hp->Prop),RS X.K P H0 al H σ ρ->Aft X.K al E H (f ρ) (λds H'=>∀vs,kI X.K al H' vs ds->Q vs H')->t σ H Q)/\∀ρ ds,f ρ=.ok ds->ds.length=es.length
def DN(X:Cx)(E:XK)(e:Expr)(f:Ev->R (List D)):Prop:=∃t:TE,PE X e t/\
 ∀P H0 al H σ ρ (Q:VK),RS X.K P H0 al H σ ρ->Aft X.K al E H (f ρ) (λds H'=>∀p vs,H' p=none->kI X.K al H' vs ds->Q (.ref p) (upd H' p<|.lst vs))->t σ H Q
def rK(X:Cx)(E:XK)(op:Value->Value->Sem Value)(g:D->D->R D):Prop:=∃r:R2,qb X op r/\
 ∀al H x y dx dy (Q:VK),(∀a,H a=none->al a)->Rep X.K al H x dx->Rep X.K al H y dy->Aft X.K al E H (g dx dy) (λd H'=>∀v,Rep X.K al H' v d->Q v H')->r x y H Q
def Vg(X:Cx)(E:XK)(g:D->D->R D):Prop:=∃r:R2,yR X r/\
 ∀al H x y dx dy (Q:VK),(∀a,H a=none->al a)->Rep X.K al H x dx->Rep X.K al H y dy->Aft X.K al E H (g dx dy) (λd H'=>∀v,Rep X.K al H' v d->Q v H')->r x y H Q
def UnD(X:Cx)(E:XK)(op:Value->Sem Value)(g:D->R D):Prop:=∃r:V->Hp->VK->Prop,Qe X op r/\
 ∀al H x dx (Q:VK),(∀a,H a=none->al a)->Rep X.K al H x dx->Aft X.K al E H (g dx) (λd H'=>∀v,Rep X.K al H' v d->Q v H')->r x H Q
def xf(X:Cx)(E:XK)(f:Value)(g:jO):Prop:=∃r:List V->Hp->VK->Prop,sV X f r/\
 ∀al H xs ds (Q:VK),(∀a,H a=none->al a)->kI X.K al H xs ds->Aft X.K al E H (g ds) (λd H'=>∀v,Rep X.K al H' v d->Q v H')->r xs H Q
def KD(X:Cx)(E:XK)(T id:String)(g:D->jO):Prop:=∃r:V->List V->Hp->VK->Prop,Ew X id r/\
 ∀al H x xs d ds (Q:VK),(∀a,H a=none->al a)->Rep X.K al H x d->kI X.K al H xs ds->Aft X.K al E H (g d ds) (λd H'=>∀v,Rep X.K al H' v d->Q v H')->r x xs H Q
noncomputable def dV(i:Nat):lA:=λρ=>match ρ[i]? with
 |some (.sh d)=>.ok d
 |_=>.bad
noncomputable def dC(d:D):lA:=λ_=>.ok d
def d1(g:D->R D)(a:lA):lA:=λρ=>(a ρ).bind g
def d2(g:D->D->R D)(a b:lA):lA:=λρ=>(a ρ).bind λx=>(b ρ).bind λy=>g x y
def tB(d:D):R Bool:=match d with
 |.bl b=>.ok b
 |_=>.bad
def tT(d:D):R Bool:=match d with
 |.non=>.ok false
 |.bl b=>.ok b
 |.int i=>.ok (i !=0)
 |.str y=>if y.length<=sizeLine then .ok ((y.length:Int)!=0)else .bad
 |.lst ds=>.ok (!ds.isEmpty)
 |.tup ds=>.ok (!ds.isEmpty)
 |_=>.bad
def b1(t:D->R Bool)(a:lA):Ev->R Bool:=λρ=>(a ρ).bind t
def xY(a b:Ev->R Bool):Ev->R Bool:=λρ=>(a ρ).bind λc=>if c=true then b ρ else .ok false
def uv(a b:Ev->R Bool):Ev->R Bool:=λρ=>(a ρ).bind λc=>if c=true then .ok true else b ρ
def rP(a:Ev->R Bool):Ev->R Bool:=λρ=>(a ρ).bind λc=>.ok (!c)
def Dd(a b:lA):lA:=λρ=>((a ρ).bind tB).bind λc=>if c=true then b ρ else .ok (.bl false)
def Lb(a b:lA):lA:=λρ=>((a ρ).bind tB).bind λc=>if c=true then .ok (.bl true)else b ρ
def De(a:lA):lA:=λρ=>((a ρ).bind tB).bind λc=>.ok (.bl<|!c)
def vR(c:Ev->R Bool)(a b:lA):lA:=λρ=>(c ρ).bind λk=>if k=true then a ρ else b ρ
noncomputable def jE:Ev->R (List D):=λ_=>.ok []
def jy(a:lA)(r:Ev->R (List D)):Ev->R (List D):=λρ=>(a ρ).bind λx=>(r ρ).bind λxs=>.ok (x::xs)
def dA(g:jO)(a:Ev->R (List D)):lA:=λρ=>(a ρ).bind g
def lB(ds:List D):R D:=if ds.length<=sizeLine then .ok (.tup ds)else .bad
def tD(ds:List D):R (List D):=if ds.length<=sizeLine then .ok ds else .bad
def rO(g:Ev->R (List D)):lA:=λρ=>(g ρ).bind λds=>.ok (.lst ds)
section
variable{X:Cx}{E:XK}{e a b c:Expr}{f fa fb:lA}{pos:Pos}
def jA(i:Nat){x:Str}(hN:X.N[i]?=some x:=by rfl)(hv:Hs X.env.scope x:=by first|exact Or.inl rfl|exact Or.inr (Or.inl rfl)|exact Or.inr (Or.inr rfl))(hd:(x==("__debug__":Str))=false:=by decide)
    (hcd:(x==("__classdict__":Str))=false:=by decide):DE X E (.Name x pos) (dV i):=by
 refine⟨_,JB hN hv hd hcd,λP H0 al H σ ρ Q r h=>?_⟩;unfold dV at h;cases q:ρ[i]? with
 |none=>rw[q]at h;exact h.elim
 |some s=>
  cases s with
  |sh d=>rw[q]at h;obtain⟨v,e1,e2⟩:=r.sh i d q;exact⟨v,e1,h H (.refl H) v e2⟩
  |no=>rw[q]at h;exact h.elim
  |ow _=>rw[q]at h;exact h.elim
def jG{i j}:DE X E (.Constant (.int i) j pos) (dC<|.int i):=⟨_,apK,λ_ _ _ H _ _ _ _ h=>h H (.refl H) _<|.int i⟩
def Df{i j}:DE X E (.Constant (.bool i) j pos) (dC<|.bl i):=⟨_,apz,λ_ _ _ H _ _ _ _ h=>h H (.refl H) _<|.bl i⟩
def aky{j}:DE X E (.Constant .none j pos) (dC .non):=⟨_,apQ,λ_ _ _ H _ _ _ _ h=>h H (.refl H) _ .non⟩
def jL{i j}:DE X E (.Constant (.str i) j pos) (dC<|.str i):=⟨_,afY,λ_ _ _ H _ _ _ _ h=>h H (.refl H) _<|.str i⟩
def Ws{d}(hg:Gl X x)(hm:X.mg x=some u)(r:RelV v u)(hd:∀al H,Rep X.K al H v d)(hdb:(x==("__debug__":Str))=false:=by decide):DE X E (.Name x pos) (dC d):=
 ⟨_,apJ hg hm r hdb,λ_ _ al H _ _ _ _ h=>h H (.refl H) _<|hd al H⟩
def zx(hg:Gl X x)(hm:X.mg x=none)(hv:bootBuiltins x=some (.type n))(hn:x≠"__name__":=by decide)(hd:(x==("__debug__":Str))=false:=by decide):DE X E (.Name x pos) (dC<|.ty n):=
 ⟨_,apA (v:=.ty n) hg hm hv rfl hn hd,λ_ _ al H _ _ _ _ h=>h H (.refl H) _<|.ty n⟩
def jY{g}(ho:rK X E (binaryOp op) g)(ha:DE X E a fa)(hb:DE X E b fb):DE X E (.BinOp a op b pos) (d2 g fa fb):=by obtain⟨r,ro,rr⟩:=ho;obtain⟨ta,pa,ra⟩:=ha;obtain⟨tb,pb,rb⟩:=hb;refine⟨_,afX ro pa pb,λP H0 al H σ ρ Q s h=>ra _ _ _ _ _ _ _ s<|Aft.mono (Aft.split h) λx H1 s1 h1 v rv=>rb _ _ _ _ _ _ _ (s.grow s1)<|Aft.mono (Aft.split h1) λy H2 s2 h2 u ru=>?_⟩;exact rr _ _ _ _ _ _ _ ((s.grow s1).grow s2).fresh (rv.up s2) ru h2
def adI{g}(ho:UnD X E (unaryOp op) g)(ha:DE X E a fa):DE X E (.UnaryOp op a pos) (d1 g fa):=by obtain⟨r,ro,rr⟩:=ho;obtain⟨ta,pa,ra⟩:=ha;exact⟨_,apV ro pa,λP H0 al H σ ρ Q s h=>ra _ _ _ _ _ _ _ s<|Aft.mono (Aft.split h) λx H1 s1 h1 v rv=>rr _ _ _ _ _ (s.grow s1).fresh rv h1⟩
def zq{g}(ho:rK X E (compareOp op) g)(ha:DE X E a fa)(hb:DE X E b fb)(hm:behindInMarks op b=false:=by first|exact YC _|with_unfolding_all rfl):DE X E (.Compare a [op] [b] pos) (d2 g fa fb):=by obtain⟨r,ro,rr⟩:=ho;obtain⟨ta,pa,ra⟩:=ha;obtain⟨tb,pb,rb⟩:=hb;refine⟨_,apE ro pa pb hm,λP H0 al H σ ρ Q s h=>ra _ _ _ _ _ _ _ s<|Aft.mono (Aft.split h) λx H1 s1 h1 v rv=>rb _ _ _ _ _ _ _ (s.grow s1)<|Aft.mono (Aft.split h1) λy H2 s2 h2 u ru=>?_⟩;exact rr _ _ _ _ _ _ _ ((s.grow s1).grow s2).fresh (rv.up s2) ru h2
def Oc{d k}(r:Rep K al H v d)(h:Aft K al E H (tB d) k):∃c,v=.bl c/\k c H:=by
 cases r with
 |bl b=>exact⟨b,rfl,h H<|.refl H⟩
 |_=>exact(h:False).elim
def lQ{g}(ho:rK X E (compareOp op) g)(ha:DE X E a fa)(hb:DE X E b fb)(hm:behindInMarks op b=false:=by first|exact YC _|with_unfolding_all rfl):DT X E (.Compare a [op] [b] pos) (b1 tB<|d2 g fa fb):=by
 obtain⟨r,ro,rr⟩:=ho;obtain⟨ta,pa,ra⟩:=ha;obtain⟨tb,pb,rb⟩:=hb;refine⟨_,age ro pa pb hm,λP H0 al H σ ρ Q s h=>ra _ _ _ _ _ _ _ s<|Aft.mono (Aft.split<|Aft.split h) λx H1 s1 h1 v rv=>?_⟩;refine rb _ _ _ _ _ _ _ (s.grow s1) (Aft.mono (Aft.split (g:=λy=>g x y) (k:=λd H2=>Aft X.K al E H2 (tB d) Q) ?_) λy H2 s2 h2 u ru=>?_);·exact h1
 ·exact rr _ _ _ _ _ _ _ ((s.grow s1).grow s2).fresh (rv.up s2) ru (Aft.mono h2 λd H3 s3 h3 w uP=>Oc uP h3)
def ar5{d k}(r:Rep K al H v d)(h:Aft K al E H (tT d) k):∃c,Vt K v H c/\k c H:=by
 cases r with
 |non=>exact⟨_,rfl,h H<|.refl H⟩
 |bl b=>exact⟨_,rfl,h H<|.refl H⟩
 |int b=>exact⟨_,rfl,h H<|.refl H⟩
 |str b=>
  unfold tT at h;by_cases z:b.length<=sizeLine
  ·simp only[z,dG]at h;exact⟨_,⟨z,rfl⟩,h H<|.refl H⟩
  ·simp only[z,fB]at h;exact h.elim
 |tup p q=>refine⟨_,.inr<|.inl ⟨_,p.elim (λz=>.inl z.2) .inr,?_⟩,h H<|.refl H⟩;cases q<;>rfl
 |lst p q=>refine⟨_,.inl ⟨_,p.elim (λz=>.inl z.2) KL.sq,?_⟩,h H<|.refl H⟩;cases q<;>rfl
 |_=>exact(h:False).elim
def uY(ha:DE X E e fa)(he:∀whole,isTrue e X.env whole=(do let v<-whole;standAt e.pos;holding [v] (truthy v)):=by intro _;rfl):DT X E e (b1 tT fa):=by obtain⟨ta,pa,ra⟩:=ha;exact⟨_,aqr pa he,λP H0 al H σ ρ Q s h=>ra _ _ _ _ _ _ _ s<|Aft.mono (Aft.split h) λx H1 s1 h1 v rv=>ar5 rv h1⟩
variable{ga gb:Ev->R Bool}{rest:List Expr}
def DW.dt(h:DW X E e ga):DT X E e ga:=let⟨t,p,r⟩:=h;⟨t,p.pt,r⟩
def Lh(h:DT X E a ga):DW X E (.BoolOp .And [a] pos) ga:=let⟨t,p,r⟩:=h;⟨t,agh p,r⟩
def Di(h:DT X E a ga):DW X E (.BoolOp .Or [a] pos) ga:=let⟨t,p,r⟩:=h;⟨t,aqw p,r⟩
def Lg(ha:DT X E a ga)(hb:DW X E (.BoolOp .And (b::rest) pos) gb):DW X E (.BoolOp .And (a::b::rest) pos) (xY ga gb):=by
 obtain⟨ta,pa,ra⟩:=ha;obtain⟨tb,pb,rb⟩:=hb;refine⟨_,agg pa pb,λP H0 al H σ ρ Q s h=>ra _ _ _ _ _ _ _ s<|Aft.mono (Aft.split h) λc H1 s1 h1=>?_⟩;cases c with
 |true=>exact yu (rb _ _ _ _ _ _ _ (s.grow s1) h1)
 |false=>exact yt (h1 H1<|.refl H1)
def yh(ha:DT X E a ga)(hb:DW X E (.BoolOp .Or (b::rest) pos) gb):DW X E (.BoolOp .Or (a::b::rest) pos) (uv ga gb):=by
 obtain⟨ta,pa,ra⟩:=ha;obtain⟨tb,pb,rb⟩:=hb;refine⟨_,aqv pa pb,λP H0 al H σ ρ Q s h=>ra _ _ _ _ _ _ _ s<|Aft.mono (Aft.split h) λc H1 s1 h1=>?_⟩;cases c with
 |true=>exact yu (h1 H1<|.refl H1)
 |false=>exact yt (rb _ _ _ _ _ _ _ (s.grow s1) h1)
def xq(ha:DT X E a ga):DT X E (.UnaryOp .Not a pos) (rP ga):=by obtain⟨ta,pa,ra⟩:=ha;exact⟨_,aqp pa,λP H0 al H σ ρ Q s h=>ra _ _ _ _ _ _ _ s<|Aft.mono (Aft.split h) λc H1 s1 h1=>h1 H1<|.refl H1⟩
def FJ(h:DE X E a fa):DE X E (.BoolOp op [a] pos) fa:=let⟨t,p,r⟩:=h;⟨t,apS p,r⟩
def HX(ha:DE X E a fa)(hb:DE X E (.BoolOp .And (b::rest) pos) fb):DE X E (.BoolOp .And (a::b::rest) pos) (Dd fa fb):=by
 obtain⟨ta,pa,ra⟩:=ha;obtain⟨tb,pb,rb⟩:=hb;refine⟨_,apy pa pb,λP H0 al H σ ρ Q s h=>ra _ _ _ _ _ _ _ s<|Aft.mono (Aft.split<|Aft.split h) λx H1 s1 h1 v rv=>?_⟩;obtain⟨c,e,h2⟩:=Oc rv h1;refine⟨c,e,?_⟩;cases c with
 |true=>exact yu (rb _ _ _ _ _ _ _ (s.grow s1) h2)
 |false=>exact yt (h2 H1 (.refl H1) _<|.bl false)
def adH(ha:DE X E a fa)(hb:DE X E (.BoolOp .Or (b::rest) pos) fb):DE X E (.BoolOp .Or (a::b::rest) pos) (Lb fa fb):=by
 obtain⟨ta,pa,ra⟩:=ha;obtain⟨tb,pb,rb⟩:=hb;refine⟨_,apT pa pb,λP H0 al H σ ρ Q s h=>ra _ _ _ _ _ _ _ s<|Aft.mono (Aft.split<|Aft.split h) λx H1 s1 h1 v rv=>?_⟩;obtain⟨c,e,h2⟩:=Oc rv h1;refine⟨c,e,?_⟩;cases c with
 |true=>exact yu (h2 H1 (.refl H1) _<|.bl true)
 |false=>exact yt (rb _ _ _ _ _ _ _ (s.grow s1) h2)
def QG(ha:DE X E a fa):DE X E (.UnaryOp .Not a pos) (De fa):=by obtain⟨ta,pa,ra⟩:=ha;refine⟨_,apR pa,λP H0 al H σ ρ Q s h=>ra _ _ _ _ _ _ _ s<|Aft.mono (Aft.split<|Aft.split h) λx H1 s1 h1 v rv=>?_⟩;obtain⟨c,e,h2⟩:=Oc rv h1;exact⟨c,e,h2 H1 (.refl H1) _<|.bl _⟩
def HY(hc:DT X E c ga)(ha:DE X E a fa)(hb:DE X E b fb):DE X E (.IfExp c a b pos) (vR ga fa fb):=by
 obtain⟨tc,pc,rc⟩:=hc;obtain⟨ta,pa,ra⟩:=ha;obtain⟨tb,pb,rb⟩:=hb;refine⟨_,afV pc pa pb,λP H0 al H σ ρ Q s h=>rc _ _ _ _ _ _ _ s<|Aft.mono (Aft.split h) λc H1 s1 h1=>?_⟩;cases c with
 |true=>exact yu (ra _ _ _ _ _ _ _ (s.grow s1) h1)
 |false=>exact yt (rb _ _ _ _ _ _ _ (s.grow s1) h1)
variable{es:List Expr}{fs:Ev->R (List D)}
def jH:DA X E [] jE:=⟨_,Tn,λ_ _ _ H _ _ _ _ h=>h H (.refl H) _ .nil,λ_ _ h=>by cases h;rfl⟩
def jD(ha:DE X E e fa)(hr:DA X E es fs)(hs:starEach (e::es) X.env=(false,eval e X.env)::starEach es X.env:=by rfl):DA X E (e::es) (jy fa fs):=by
 obtain⟨ta,pa,ra⟩:=ha;obtain⟨tb,pb,rb,lb⟩:=hr;refine⟨_,Tj pa pb hs,λP H0 al H σ ρ Q s h=>ra _ _ _ _ _ _ _ s<|Aft.mono (Aft.split h) λx H1 s1 h1 v rv=>rb _ _ _ _ _ _ _ (s.grow s1)<|Aft.mono (Aft.split h1) λy H2 s2 h2 u ru=>?_,λρ ds h=>?_⟩;·exact h2 H2 (.refl H2) _ (.cons (rv.up s2) ru)
 ·obtain⟨x,_,h1⟩:=ac9 h;obtain⟨y,h2,h3⟩:=ac9 h1;cases h3;rw[ak,ak,lb ρ y h2]
def nY{x1}(ha:DA X E es fs):DE X E (.Tuple es x1 pos) (dA lB fs):=by
 obtain⟨ta,pa,ra,_⟩:=ha;refine⟨_,afZ pa,λP H0 al H σ ρ Q s h=>ra _ _ _ _ _ _ _ s<|Aft.mono (Aft.split h) λx H1 s1 h1 v rv=>?_⟩;unfold lB at h1;by_cases z:x.length<=sizeLine
 ·rw[au z]at h1;exact⟨by rw[rv.length];exact z,λp hp=>h1 _ (vg hp) _<|rv.abQ hp<|(s.grow s1).fresh p hp⟩
 ·rw[aA z]at h1;exact h1.elim
def zA(ha:DA X E es fs):DN X E (.List es pos) (λρ=>(fs ρ).bind tD):=by
 obtain⟨ta,pa,ra,_⟩:=ha;refine⟨_,apL pa,λP H0 al H σ ρ Q s h=>ra _ _ _ _ _ _ _ s<|Aft.mono (Aft.split h) λx H1 s1 h1 v rv=>?_⟩;unfold tD at h1;by_cases z:x.length<=sizeLine
 ·rw[au z]at h1;exact⟨by rw[rv.length];exact z,λp hp=>h1 H1 (.refl H1) p v hp rv⟩
 ·rw[aA z]at h1;exact h1.elim
def DN.de{g}(h:DN X E e g):DE X E e (rO g):=by obtain⟨t,p,r⟩:=h;exact⟨t,p,λP H0 al H σ ρ Q s h=>r _ _ _ _ _ _ _ s<|Aft.mono (Aft.split h) λx H1 s1 h1 p vs hp rv=>h1 _ (vg hp) _<|rv.M8 hp<|(s.grow s1).fresh p hp⟩
def lN{g}(ho:Vg X E g)(ha:DE X E a fa)(hb:DE X E b fb)(hs:Vq b:=by exact λ_ _=>rfl):DE X E (.Subscript a b pos) (d2 g fa fb):=by obtain⟨r,ro,rr⟩:=ho;obtain⟨ta,pa,ra⟩:=ha;obtain⟨tb,pb,rb⟩:=hb;refine⟨_,afW ro pa pb hs,λP H0 al H σ ρ Q s h=>ra _ _ _ _ _ _ _ s<|Aft.mono (Aft.split h) λx H1 s1 h1 v rv=>rb _ _ _ _ _ _ _ (s.grow s1)<|Aft.mono (Aft.split h1) λy H2 s2 h2 u ru=>?_⟩;exact rr _ _ _ _ _ _ _ ((s.grow s1).grow s2).fresh (rv.up s2) ru h2
variable{x:Str}{p:Pos}
def n8{id:String}{g:jO}(hc:xf X E (.builtin id) g)(hg:Gl X x)(hm:X.mg x=none)(hv:bootBuiltins x=some (.builtin id))(ha:DA X E (e::es) fs)(hn:x≠"__name__":=by decide)(hdb:(x==("__debug__":Str))=false:=by decide)
    (he:starEach (e::es) X.env=(false,eval e X.env)::starEach es X.env:=by rfl)(hpl:(backTo pos<|starEach es X.env).any (·.1)=false:=by rfl):DE X E (.Call (.Name x p) (e::es) [] pos) (dA g fs):=by
 obtain⟨r,rc,rr⟩:=hc;obtain⟨ta,pa,ra,_⟩:=ha;exact⟨_,Z7 rc hg hm hv pa hn hdb he hpl,λP H0 al H σ ρ Q s h=>ra _ _ _ _ _ _ _ s<|Aft.mono (Aft.split h) λx H1 s1 h1 v rv=>rr _ _ _ _ _ (s.grow s1).fresh rv h1⟩
def yf{g}(hc:xf X E (.type T) g)(hg:Gl X x)(hm:X.mg x=none)(hv:bootBuiltins x=some (.type T))(ha:DA X E (e::es) fs)(hn:x≠"__name__":=by decide)(hdb:(x==("__debug__":Str))=false:=by decide)
 (he:starEach (e::es) X.env=(false,eval e X.env)::starEach es X.env:=by rfl)(hpl:(backTo pos (starEach es X.env)).any (·.1)=false:=by rfl):DE X E (.Call (.Name x p) (e::es) [] pos) (dA g fs):=by obtain⟨r,rc,rr⟩:=hc;obtain⟨ta,pa,ra,_⟩:=ha;exact⟨_,apD rc hg hm hv pa hn hdb he hpl,λP H0 al H σ ρ Q s h=>ra _ _ _ _ _ _ _ s<|Aft.mono (Aft.split h) λx H1 s1 h1 v rv=>rr _ _ _ _ _ (s.grow s1).fresh rv h1⟩
end
def kj(n:Nat)(K:W.Frag)(F:jO):Sp:=λvs H Q E=>vs.length=n/\tY K H/\∃al ds,(∀a,H a=none->al a)/\kI K al H vs ds/\Aft K al E H (F ds) (λd H'=>∀v,Rep K al H' v d->Q v H')
section
variable{X:Cx}{E:XK}{e:Expr}{es:List Expr}{fs:Ev->R (List D)}{x:Str}{p pos:Pos}{k n:Nat}{ps:List Str}{F:jO}
def mC(G:km X.prog X.w X.K X.mg X.base (jF X.prog X.w) k x ps<|kj n X.K F)(hr:n6 k X.A)(hg:Gl X x)(hx:Passes (jF X.prog X.w) X E)(hn:(e::es).length=n)(ha:DA X E (e::es) fs)(hdb:(x==("__debug__":Str))=false:=by decide)
 (he:starEach (e::es) X.env=(false,eval e X.env)::starEach es X.env:=by rfl)(hpl:(backTo pos<|starEach es X.env).any (·.1)=false:=by rfl):DE X E (.Call (.Name x p) (e::es) [] pos) (dA F fs):=by
  obtain⟨ta,pa,ra,lb⟩:=ha;refine⟨_,Z8 G hr hg hx pa hdb he hpl,λP H0 al H σ ρ Q s h=>ra _ _ _ _ _ _ _ s ?_⟩;unfold dA at h;cases q:fs ρ with
  |ok ds=>rw[q]at h;intro H1 s1 vs rv;rw[bz];exact⟨by rw[rv.length,lb ρ ds q];exact hn,(s.grow s1).tt,al,ds,(s.grow s1).fresh,rv,Aft.up h s1⟩
  |ex c ns ds=>rw[q]at h;exact h
  |bad=>rw[q]at h;exact h.elim
end
inductive RT where
 |nx(ρ:Ev)|rt(d:D)|bk(ρ:Ev)|ct(ρ:Ev)|ex(c:Addr)(ns:List Str)(ds:List D)|bad
abbrev lG:=Ev->RT
noncomputable def toS{α:Type}(r:R α)(k:α->RT):RT:=match r with
 |.ok a=>k a
 |.ex c ns ds=>.ex c ns ds
 |.bad=>.bad
def G6(r:RT)(k:lG):RT:=match r with
 |.nx ρ=>k ρ
 |r=>r
def qw(K:W.Frag)(P:Addr->Prop)(H0:Hp)(E:XK)(D:Ends)(al:Addr->Prop)(H:Hp):RT->Prop
 |.nx ρ=>∀jK H' σ',Xt al H jK H'->RS K P H0 jK H' σ' ρ->D.nx σ' H'
 |.bk ρ=>∀jK H' σ',Xt al H jK H'->RS K P H0 jK H' σ' ρ->D.bk σ' H'
 |.ct ρ=>∀jK H' σ',Xt al H jK H'->RS K P H0 jK H' σ' ρ->D.ct σ' H'
 |.rt d=>∀v H',pY K H0 H'->Rep K P H' v d->D.rt v H'
 |.ex c ns ds=>∀dx H',pY K H0 H'->XR K P H' dx ns ds->E (.ref c) dx H'
 |.bad=>False
section
variable{K:W.Frag}{P al jK:Addr->Prop}{H0 H H':Hp}{E:XK}{D:Ends}{s:RT}{σ:St}{ρ:Ev}
def qw.ext(h:qw K P H0 E D al H s)(x:Xt al H jK H'):qw K P H0 E D jK H' s:=by
 cases s with
 |nx ρ=>exact λa h1 oW y r=>h a h1 oW (x.trans y) r
 |bk ρ=>exact λa h1 oW y r=>h a h1 oW (x.trans y) r
 |ct ρ=>exact λa h1 oW y r=>h a h1 oW (x.trans y) r
 |rt d=>exact h
 |ex c ns ds=>exact h
 |bad=>exact h
def qw.Jv{α:Type}{r:R α}{k:α->RT}(h:qw K P H0 E D al H<|toS r k)(s:RS K P H0 al H σ ρ):Aft K al E H r (λx H1=>qw K P H0 E D al H1<|k x):=by
 cases r with
 |ok x=>exact λH1 s1=>qw.ext h (.of s1)
 |ex c ns ds=>exact λdx H1 s1 q=>h dx H1 (s.same.trans s1) (q.mv<|.sub s.sub)
 |bad=>exact h
end
def DS(X:Cx)(E:XK)(st:Stmt)(g:lG):Prop:=∃t:TS,PS X st t/\
 ∀P H0 al H σ ρ (D:Ends),RS X.K P H0 al H σ ρ->qw X.K P H0 E D al H (g ρ)->t D σ H
def yO(X:Cx)(E:XK)(st:List Stmt)(g:lG):Prop:=∃t:TS,uH X st t/\
 ∀P H0 al H σ ρ (D:Ends),RS X.K P H0 al H σ ρ->qw X.K P H0 E D al H (g ρ)->t D σ H
def nA:lG:=.nx
def j6(a b:lG):lG:=λρ=>G6 (a ρ) b
def asf(f:lA):lG:=λρ=>toS (f ρ) λ_=>.nx ρ
def lM(f:lA):lG:=λρ=>toS (f ρ) .rt
def lR(i:Nat)(f:lA):lG:=λρ=>toS (f ρ) λd=>if i<ρ.length then .nx (ρ.set i<|.sh d)else .bad
def mZ(c:Ev->R Bool)(a b:lG):lG:=λρ=>toS (c ρ) λk=>if k=true then a ρ else b ρ
section
variable{X:Cx}{E:XK}{st:Stmt}{rest sa sb:List Stmt}{g u ga gb:lG}{e c:Expr}{f:lA}{fc:Ev->R Bool}{pos:Pos}
def oU:yO X E [] nA:=⟨_,agc,λ_ _ al H σ ρ _ s h=>h al H σ .refl s⟩
def lq(h:DS X E st g):yO X E [st] g:=let⟨t,p,r⟩:=h;⟨t,aaa p,r⟩
def kW(h1:DS X E st g)(h2:yO X E rest u):yO X E (st::rest) (j6 g u):=by
 obtain⟨t1,p1,r1⟩:=h1;obtain⟨t2,p2,r2⟩:=h2;refine⟨_,agb p1 p2,λP H0 al H σ ρ D s h=>r1 P H0 al H σ ρ _ s ?_⟩;unfold j6 at h;cases q:g ρ with
 |nx oG=>rw[q]at h;exact λjK H' σ' x s'=>r2 P H0 jK H' σ' oG D s' (qw.ext h x)
 |bk oG=>rw[q]at h;exact h
 |ct oG=>rw[q]at h;exact h
 |rt d=>rw[q]at h;exact h
 |ex c ns ds=>rw[q]at h;exact h
 |bad=>rw[q]at h;exact h
def mD(he:DE X E e f):DS X E (.Return (some e) pos) (lM f):=by obtain⟨t,p,r⟩:=he;exact⟨_,af8 p,λP H0 al H σ ρ D s h=>r _ _ _ _ _ _ _ s<|Aft.mono (qw.Jv h s) λd H1 s1 h1 v rv=>h1 v H1 (s.same.trans s1)<|rv.mv<|.sub s.sub⟩
def mU(i)(hN:X.N.Nodup)(hi:X.N[i]?=some x)(hx:Loc X.env.scope x)(he:DE X E e f)(hs:swapsWith e (some<|.Name x pos') pos.line X.env=pure false:=by rfl)(hf:X.fn x=true\/X.env.scope.names.lookup x=some .local:=by first|exact .inl rfl|exact .inr rfl|assumption):
    DS X E (.Assign [.Name x pos'] e pos) (lR i f):=by
 obtain⟨t,p,r⟩:=he;refine⟨_,af9 hN hi hx p hs hf,λP H0 al H σ ρ D s h=>r _ _ _ _ _ _ _ s<|Aft.mono (qw.Jv h s) λd H1 s1 h1 v rv=>?_⟩;by_cases z:i<ρ.length
 ·simp only[z,dG]at h1;exact h1 al H1 _ .refl ((s.grow s1).set z rv)
 ·simp only[z,fB]at h1;exact h1.elim
def oH(hc:DT X E c fc)(ha:yO X E sa ga)(hb:yO X E sb gb):DS X E (.If c sa sb pos) (mZ fc ga gb):=by
 obtain⟨tc,pc,rc⟩:=hc;obtain⟨ta,pa,ra⟩:=ha;obtain⟨tb,pb,rb⟩:=hb;refine⟨_,af7 pc pa pb,λP H0 al H σ ρ D s h=>rc _ _ _ _ _ _ _ s<|Aft.mono (qw.Jv h s) λk H1 s1 h1=>?_⟩;cases k with
 |true=>exact yu (ra _ _ _ _ _ _ _ (s.grow s1) h1)
 |false=>exact yt (rb _ _ _ _ _ _ _ (s.grow s1) h1)
def turnT(r:RT)(k:lG):RT:=match r with
 |.nx ρ=>k ρ
 |.ct ρ=>k ρ
 |.bk ρ=>.nx ρ
 |r=>r
def yI(c:Ev->R Bool)(b:lG):Nat->lG
 |0,_=>.bad
 |n+1,ρ=>toS (c ρ) λk=>if k=true then turnT (b ρ) (yI c b n)else .nx ρ
def ah3{K:W.Frag}{P al:Addr->Prop}{H0 H:Hp}{D:Ends}{r:RT}{k:lG}{N:St->Hp->Prop}(h:qw K P H0 E D al H<|turnT r k)
    (hN:∀jK H' σ' mO,Xt al H jK H'->RS K P H0 jK H' σ' mO->qw K P H0 E D jK H' (k mO)->N σ' H'):qw K P H0 E {D with nx:=N,ct:=N,bk:=D.nx} al H r:=by
 cases r with
 |nx ρ=>exact λjK H' σ' x s=>hN jK H' σ' ρ x s (qw.ext h x)
 |ct ρ=>exact λjK H' σ' x s=>hN jK H' σ' ρ x s (qw.ext h x)
 |bk ρ=>exact h
 |rt d=>exact h
 |ex c ns ds=>exact h
 |bad=>exact h
def adV(n)(hp:PassesOwn (model X.prog X.w) X.A X.env X.xe)(hc:DT X E c fc)(hb:yO X E sb gb):DS X E (.While c sb [] pos) (yI fc gb n):=by
 obtain⟨tc,pc,rc⟩:=hc;obtain⟨tb,pb,rb⟩:=hb;refine⟨_,aga hp pc pb,λP H0 al H σ ρ D s h=>⟨λm oW H1=>∃lV oG,RS X.K P H0 lV H1 oW oG/\qw X.K P H0 E D lV H1 (yI fc gb m oG),⟨n,al,ρ,s,h⟩,?_⟩⟩
 rintro m oW H1 ⟨lV,oG,s1,h1⟩
 cases m with
 |zero=>exact h1.elim
 |succ m=>
  refine rc _ _ _ _ _ _ _ s1 (Aft.mono (qw.Jv h1 s1) λk H2 s2 h2=>?_);cases k with
  |true=>refine yu ⟨λσ' H'=>∃lV oG,RS X.K P H0 lV H' σ' oG/\qw X.K P H0 E D lV H' (yI fc gb m oG),λσ' H' z=>⟨m,b8 m,z⟩,rb _ _ _ _ _ _ _ (s1.grow s2)<|ah3 (k:=yI fc gb m) h2 λjK H' σ' mO _ s' h'=>⟨jK,mO,s',h'⟩⟩
  |false=>exact yt (h2 lV H2 oW .refl<|s1.grow s2)
end
def Wk(K:W.Frag)(al:Addr->Prop)(H:Hp)(J:It)(ds:List D):Prop:=∀jK H',Xt al H jK H'->(∀a,H' a=none->jK a)->
 (∀i d,ds[i]?=some d->J.go i H'/\∀x Hm,J.UW i H' x Hm->Hm=H'/\Rep K jK H' x d)/\∀i,ds.length<=i->J.stop i H'
def DI(X:Cx)(E:XK)(tg iter:Expr)(f:Ev->R (List D)):Prop:=∃wi:TI,PI X tg iter wi/\
 ∀P H0 al H σ ρ (R:It->Hp->Prop),RS X.K P H0 al H σ ρ->Aft X.K al E H (f ρ) (λds H'=>∀J,Wk X.K al H' J ds->R J H')->wi σ H R
def Kp(l:List Nat)(σ σ':St):Prop:=σ'.length=σ.length/\∀j,j∉l->σ'[j]?=σ[j]?
def DG(X:Cx)(tg:Expr)(l:List Nat)(a:D->Ev->Option Ev):Prop:=∃g:TG,PG X tg g/\
 ∀P H0 al H σ ρ v d (Q:St->Hp->Prop),RS X.K P H0 al H σ ρ->Rep X.K al H v d->(∃mO,a d ρ=some mO/\∀σ',Kp l σ σ'->RS X.K P H0 al H σ' mO->Q σ' H)->g v σ H Q
def gV(i:Nat):D->Ev->Option Ev:=λd ρ=>if i<ρ.length then some (ρ.set i<|.sh d)else none
def toO{α:Type}(r:Option α)(k:α->RT):RT:=match r with
 |some a=>k a
 |none=>.bad
def wH(a:D->Ev->Option Ev)(b:lG):List D->lG
 |[],ρ=>.nx ρ
 |d::r,ρ=>toO (a d ρ) λoG=>turnT (b oG) (wH a b r)
section
variable{X:Cx}{E:XK}{tg iter:Expr}{body:List Stmt}{fi:Ev->R (List D)}{a:D->Ev->Option Ev}{gb:lG}{pos:Pos}
def Oh(fi:Ev->R (List D))(a:D->Ev->Option Ev)(gb:lG):lG:=λρ=>toS (fi ρ) λds=>wH a gb ds ρ
def zy(i:Nat){x:Str}(hN:X.N.Nodup)(hi:X.N[i]?=some x)(hx:Loc X.env.scope x)(hf:X.fn x=true\/X.env.scope.names.lookup x=some .local:=by first|exact .inl rfl|exact .inr rfl|assumption):DG X (.Name x pos) [i] (gV i):=by
 refine⟨_,af0 hN hi hx hf,λP H0 al H σ ρ v d Q s rv h=>?_⟩;obtain⟨mO,e,q⟩:=h;unfold gV at e;by_cases z:i<ρ.length
 ·rw[au z]at e;cases e;exact q _ ⟨cI ..,λj hj=>aQ<|λw=>hj<|by simp[w]⟩ (s.set z rv)
 ·rw[aA z]at e;cases e
def WK(hp:PassesOwn (model X.prog X.w) X.A X.env X.xe)(hc:X.calm=true)(hi:DI X E tg iter fi)(hg:DG X tg l a)(hb:yO X E body gb)(hs:∀x,foldedSetIterable iter X.env x=pure x:=by intro _;rfl):
    DS X E (.For tg iter body [] pos) (Oh fi a gb):=by
 obtain⟨wi,pi,ri⟩:=hi;obtain⟨g,pg,rg⟩:=hg;obtain⟨tb,pb,rb⟩:=hb;refine⟨_,af6 hp hc pi pg pb hs,λP H0 al H σ ρ D s h=>ri _ _ _ _ _ _ _ s<|Aft.mono (qw.Jv h s) λds H1 s1 h1 J wk=>?_⟩;refine⟨λi m vK H2=>∃mH vy,RS X.K P H0 mH H2 vK vy/\Wk X.K mH H2 J ds/\qw X.K P H0 E D mH H2 (wH a gb (ds.drop i) vy)/\m=ds.length - i,⟨_,al,ρ,s.grow s1,wk,h1,rfl⟩,?_⟩
 rintro i m vK H2 ⟨mH,vy,s2,O6,h2,rfl⟩
 obtain⟨w1,w2⟩:=O6 mH H2 .refl s2.fresh;by_cases hi:i<ds.length
 ·right;have ed:ds[i]?=some ds[i]:=aN hi;obtain⟨go,yl⟩:=w1 i _ ed;rw[cD hi]at h2;refine⟨go,λσ' H'=>∃mH vy,RS X.K P H0 mH H' σ' vy/\Wk X.K mH H' J ds/\qw X.K P H0 E D mH H' (wH a gb (ds.drop<|i+1) vy),λσ' H' ⟨Fe,Hl,z1,z2,z3⟩=>⟨ds.length - (i+1),by omega,Fe,Hl,z1,z2,z3,rfl⟩,λx H3 y=>?_⟩;obtain⟨rfl,rx⟩:=yl x H3 y;unfold wH at h2;cases q:a ds[i] vy with
  |some Hl=>rw[q]at h2;refine rg _ _ _ _ _ _ _ _ _ s2 rx ⟨Hl,q,λuC _ s3=>rb _ _ _ _ _ _ _ s3<|ah3 (k:=wH a gb<|ds.drop<|i+1) h2 λjK H' σ' mO x' s' h'=>⟨jK,mO,s',λVD H4 x4=>O6 VD H4<|x'.trans x4,h'⟩⟩
  |none=>rw[q]at h2;exact h2.elim
 ·left;have e:ds.drop i=[]:=dm (by omega);rw[e]at h2;exact⟨w2 i<|by omega,h2 mH H2 vK .refl s2⟩
end
def jP(n:Nat)(ds:List D):Ev:=ds.map .sh++List.replicate (n - ds.length) .no
noncomputable def jM:RT->R D
 |.rt d=>.ok d
 |.nx _=>.ok .non
 |.ex c ns ds=>.ex c ns ds
 |_=>.bad
def ar9{al:Addr->Prop}(tt:tY K H)(fr:∀a,H a=none->al a)(r:kI K al H vs ds):RS K al H al H (L2.start N vs) (jP N.length ds) where
 same:=.refl H
 tt:=tt
 fresh:=fr
 sub:=λ_ h=>h
 pf:=fr
 len:=by unfold L2.start jP;simp[r.length]
 sh:=λi d h=>by
  unfold jP at h;by_cases hi:i<ds.length
  ·rw[bc<|by simpa using hi,aO]at h;cases q:ds[i]? with
   |none=>rw[q]at h;cases h
   |some y=>rw[q]at h;cases h;obtain⟨v,e1,e2⟩:=r.getD q;refine⟨v,?_,e2⟩;unfold L2.start;rw[bc<|by simpa [r.length]using hi,aO,e1];rfl
  ·rw[bh<|by simpa using hi,bY]at h;split at h<;>cases h
 ow:=λi d h=>by
  unfold jP at h;by_cases hi:i<ds.length
  ·rw[bc<|by simpa using hi,aO]at h;cases q:ds[i]? with
   |none=>rw[q]at h;cases h
   |some y=>rw[q]at h;cases h
  ·rw[bh<|by simpa using hi,bY]at h;split at h<;>cases h
 apart:=λi j d d' a h _ _ _=>by
  unfold jP at h;by_cases hi:i<ds.length
  ·rw[bc<|by simpa using hi,aO]at h;cases q:ds[i]? with
   |none=>rw[q]at h;cases h
   |some y=>rw[q]at h;cases h
  ·rw[bh<|by simpa using hi,bY]at h;split at h<;>cases h
section
variable{P:Program}{w:World}{K:W.Frag}{mg:nO}{base:Heap}
def pC{k g}(F:lO K x x st f fd)(S:lU N ps<|j8 st)
 (body:∀cdv A outer s H E,n6 k (nG (jF P w) P w K mg base N x (j8 st) f cdv A outer s H E).A->yO (nG (jF P w) P w K mg base N x (j8 st) f cdv A outer s H E) E (oM st) g):
   jZ P w K mg base (jF P w) (k+1) f fd ps (kj ps.length K λds=>jM<|g<|jP N.length ds):=by
  refine F.okX S (λvs H Q E h=>h.1) (λcdv A outer s H vs Q E hr h=>?_);obtain⟨hl,tt,al,ds,fr,rv,h⟩:=h;obtain⟨t,p,r⟩:=body cdv A outer s H E hr;dsimp only at h;refine⟨t,p,r al H al H (L2.start N vs) (jP N.length ds) _ (ar9 tt fr rv) ?_⟩;cases q:g (jP N.length ds)with
  |nx ρ=>rw[q]at h;exact λjK H' σ' _ s'=>h H' s'.same .non .non
  |rt d=>rw[q]at h;exact λv H' s' rv=>h H' s' v rv
  |ex c ns es=>rw[q]at h;exact h
  |bk ρ=>rw[q]at h;exact h.elim
  |ct ρ=>rw[q]at h;exact h.elim
  |bad=>rw[q]at h;exact h.elim
def km.up{k}(G:km P w K mg base (jF P w) j x ps sp)(h:j<=k):km P w K mg base (jF P w) k x ps sp:=let⟨f,fd,fo,r⟩:=G;⟨f,fd,fo.mono h,r⟩
variable{N:List Str}{qual:Str}{scope:Scope}{f:Addr}{cd:Value}{A:Around}{outer:List Env}{s:Shared}{H:Hp}{E:XK}
end
def Jc(T:String):D->Bool
 |.str _=>T=="str"
 |.int _=>T=="int"
 |.lst _=>T=="list"
 |_=>false
def alx{d}(r:Rep K al H v d)(h:Jc T d=true):Uy K T v H:=by
 cases r with
 |str x=>exact beq_iff_eq.mp h
 |int x=>exact beq_iff_eq.mp h
 |lst p q=>exact .inl ⟨beq_iff_eq.mp h,_,p.elim (λz=>.inl z.2) KL.sq⟩
 |_=>exact absurd h (by simp[Jc])
def qt(T:String)(g:D->jO)(o:lA)(a:Ev->R (List D)):lA:=λρ=>(o ρ).bind λx=>if Jc T x=true then(a ρ).bind λxs=>g x xs else .bad
section
variable{X:Cx}{E:XK}{o e:Expr}{es:List Expr}{fo:lA}{fs:Ev->R (List D)}{name:Str}{apos cpos:Pos}{T id:String}{g:D->jO}
def xn(pa:PlainAttrs T)(slot:Slot T name id)(hty:typeOf (.builtin id)=pure (.type "method_descriptor"))(hm:KD X E T id g)(ho:DE X E o fo)(ha:DA X E (e::es) fs)
 (hbase:attributeBase o name X.env (eval o X.env)=eval o X.env:=by rfl)
 (hfew:((backTo cpos (starEach (e::es) X.env)).all (λx=>!x.1)&&(backToKw cpos (keywordEach [] X.env)).all (λx=>x.1.isSome)
 &&decide ((e::es).length+([]:List Keyword).length+(if([]:List Keyword).isEmpty then 0 else 1)<30))=true:=by rfl)
 (hline:(apos.endLine==cpos.line)=true:=by rfl)(hs:starEach (e::es) X.env=(false,eval e X.env)::starEach es X.env:=by rfl)(hplain:(backTo cpos<|starEach es X.env).any (·.1)=false:=by rfl):
   DE X E (.Call (.Attribute o name apos) (e::es) [] cpos) (qt T g fo fs):=by
  obtain⟨r,rm,rr⟩:=hm;obtain⟨to,po,ro⟩:=ho;obtain⟨ta,qa,ra,_⟩:=ha;refine⟨_,afU pa slot hty rm po qa hbase hfew hline hs hplain,λP H0 al H σ ρ Q s h=>ro _ _ _ _ _ _ _ s<|Aft.mono (Aft.split h) λx H1 s1 h1 v rv=>?_⟩;by_cases z:Jc T x=true
  ·rw[au z]at h1;exact⟨alx rv z,ra _ _ _ _ _ _ _ (s.grow s1)<|Aft.mono (Aft.split h1) λxs H2 s2 h2 vs Oe=>rr _ _ _ _ _ _ _ ((s.grow s1).grow s2).fresh (rv.up s2) Oe h2⟩
  ·rw[aA z]at h1;exact h1.elim
def DO(X:Cx)(E:XK)(e:Option Expr)(f:Ev->R (Option Int)):Prop:=∃t:TO,PO X e t/\
 ∀P H0 al H σ ρ (Q:Option Int->Hp->Prop),RS X.K P H0 al H σ ρ->Aft X.K al E H (f ρ) Q->t σ H Q
def Vs(X:Cx)(E:XK)(g:D->Option Int->Option Int->R D):Prop:=∃r,Ab X r/\
 ∀al H x dx lo hi (Q:VK),(∀a,H a=none->al a)->Rep X.K al H x dx->Aft X.K al E H (g dx lo hi) (λd H'=>∀v,Rep X.K al H' v d->Q v H')->r x lo hi H Q
def pI(d:D):R (Option Int):=match d with
 |.int i=>.ok (some i)
 |_=>.bad
def QJ:DO X E none (λ_=>.ok none):=⟨_,ap9,λ_ _ _ H _ _ _ _ h=>h H<|.refl H⟩
def Dg(h:DE X E e fo):DO X E (some e) (λρ=>(fo ρ).bind pI):=by
 obtain⟨t,p,r⟩:=h;refine⟨_,aqa p,λP H0 al H σ ρ Q s h=>r _ _ _ _ _ _ _ s<|Aft.mono (Aft.split h) λx H1 s1 h1 v rv=>?_⟩;cases rv with
 |int i=>exact⟨i,rfl,h1 H1<|.refl H1⟩
 |_=>exact(h1:False).elim
def qT(g:D->Option Int->Option Int->R D)(a:lA)(l u:Ev->R (Option Int)):lA:=λρ=>(a ρ).bind λx=>(l ρ).bind λi=>(u ρ).bind λj=>g x i j
def Ia{g pos}(hr:Vs X E g)(he:DE X E e fo)(hl:DO X E lo fl)(hu:DO X E hi fu):DE X E (.Subscript e (.Slice lo hi none p2) pos) (qT g fo fl fu):=by obtain⟨r,rm,rr⟩:=hr;obtain⟨to,po,ro⟩:=he;obtain⟨tl,pl,rl⟩:=hl;obtain⟨tu,pu,ru⟩:=hu;refine⟨_,apU rm po pl pu,λP H0 al H σ ρ Q s h=>ro _ _ _ _ _ _ _ s<|Aft.mono (Aft.split h) λx H1 s1 h1 v rv=>?_⟩;refine rl _ _ _ _ _ _ _ (s.grow s1) (Aft.mono (Aft.split h1) λi H2 s2 h2=>ru _ _ _ _ _ _ _ ((s.grow s1).grow s2)<|Aft.mono (Aft.split h2) λj H3 s3 h3=>?_);exact rr _ _ _ _ _ _ _ (((s.grow s1).grow s2).grow s3).fresh ((rv.up s2).up s3) h3
end
def af1(h1:PI X tg iter w1)(h2:PI X tg iter w2):PI X tg iter (λσ H R=>w1 σ H R\/w2 σ H R):=λpins s σ H R I h=>h.elim (h1 pins s σ H R I) (h2 pins s σ H R I)
section
variable{X:Cx}{E:XK}{tg e:Expr}{f:lA}
def avm(r:Rep K al H (.ref a)<|.lst ds):Wk K al H (Ve K a) ds:=by intro jK H' x fr;obtain⟨a',vs,e,q,rs⟩:=(r.mv x).Gv;cases e;refine⟨λi d h=>?_,λi h=>⟨vs,q,by rw[rs.length];exact h⟩⟩;obtain⟨v,e1,e2⟩:=rs.getD h;refine⟨⟨vs,v,q,e1⟩,λy Hm z=>⟨z.1,?_⟩⟩;have:=z.2 vs q;rw[e1]at this;cases this;exact e2
def avp(r:Rep K al H (.ref a)<|.tup ds):Wk K al H (Vf K a) ds:=by intro jK H' x fr;obtain⟨a',vs,e,q,rs⟩:=(r.mv x).J1;cases e;refine⟨λi d h=>?_,λi h=>⟨vs,q,by rw[rs.length];exact h⟩⟩;obtain⟨v,e1,e2⟩:=rs.getD h;refine⟨⟨vs,v,q,e1⟩,λy Hm z=>⟨z.1,?_⟩⟩;have:=z.2 vs q;rw[e1]at this;cases this;exact e2
def Ed(lo:Int)(n:Nat):List D:=(List.range n).map λ(k:Nat)=>D.int (lo+(k:Int))
def avn{lo:Int}:Wk K al H (Qa lo n) (Ed lo n):=by
 intro jK H' x fr;refine⟨λi d h=>?_,λi h=>?_⟩
 ·unfold Ed at h;rw[aO]at h;by_cases hi:i<n
  ·rw[List.getElem?_range hi]at h;cases h;exact⟨hi,λy Hm z=>⟨z.1,by rw[z.2];exact .int _⟩⟩
  ·rw[jd<|by simpa using hi]at h;cases h
 ·unfold Ed at h;show n<=i;simpa using h
def vf(ds:List D):R (List D):=match ds with
 |[.int j]=>if -(2^62)<=j/\j<2^62 then .ok (Ed 0 j.toNat)else .bad
 |_=>.bad
def Ww{fs pos}(hg:Gl X "range")(hm:X.mg "range"=none)(ha:DA X E [a] fs)(hs:starEach [a] X.env=[(false,eval a X.env)]:=by rfl):DI X E tg (.Call (.Name "range" p) [a] [] pos) (λρ=>(fs ρ).bind vf):=by
 obtain⟨t,q,r,_⟩:=ha;refine⟨_,ap0 hg hm q hs,λP H0 al H σ ρ R s h=>r _ _ _ _ _ _ _ s<|Aft.mono (Aft.split h) λds H1 s1 h1 vs rv=>?_⟩;unfold vf at h1;split at h1
 ·rename_i j;cases rv with
  |cons r1 r2=>
   cases r2;cases r1;split at h1
   ·rename_i z;exact⟨j,rfl,z.1,z.2,h1 H1 (.refl H1) _ avn⟩
   ·exact h1.elim
 ·exact h1.elim
end
section
variable{K:W.Frag}{P al:Addr->Prop}{H0 H:Hp}{σ:St}{ρ:Ev}
def aeb(i:Nat)(ρ:Ev):Ev:=match ρ[i]? with
 |some (.ow ds)=>ρ.set i (.sh<|.lst ds)
 |_=>ρ
end
section
variable{X:Cx}{E:XK}{e:Expr}{sts:List Stmt}{st:Stmt}{g:lG}{f:lA}{fn:Ev->R (List D)}{pos:Pos}
def anP{α:Type}(r:R α):R α:=match r with
 |.ok a=>.ok a
 |_=>.bad
def asm(i:Nat)(f:Ev->R (List D)):lG:=λρ=>toS (f ρ) λds=>if i<ρ.length then .nx (ρ.set i<|.ow ds)else .bad
def ag4(i:Nat)(f:lA):lG:=λρ=>match ρ[i]? with
 |some (.ow ds)=>toS (f ρ) λd=>if ds.length<sizeLine then .nx (ρ.set i<|.ow<|ds++[d])else .bad
 |_=>.bad
end
section
variable{P:Program}{w:World}{K:W.Frag}{mg:nO}{base:Heap}{N:List Str}{qual:Str}{scope:Scope}{f:Addr}{cd:Value}{A:Around}{outer:List Env}{s:Shared}{H:Hp}{E:XK}
def wC{x:Str}{C fI:Addr}{field:Str}{k:Nat}{Ln:FuncData}{p1 p2:Str}{np cpos pos:Pos}{arg:Expr}{fs:Ev->R (List D)}(c:CP K C fI field)(FI:jZ P w K mg base vz k fI Ln [p1,p2]<|wO C field)(bI:Binds K Ln [p1,p2] [])
    (hr:n6 (k+1) (nG (jF P w) P w K mg base N qual scope f cd A outer s H E).A)(hg:Gl (nG (jF P w) P w K mg base N qual scope f cd A outer s H E) x)(hm:mg x=some (.ref C))(ha:DA (nG (jF P w) P w K mg base N qual scope f cd A outer s H E) E [arg] fs)
    (hdb:(x==("__debug__":Str))=false:=by decide)
    (he:starEach [arg] (nG (jF P w) P w K mg base N qual scope f cd A outer s H E).env=(false,eval arg (nG (jF P w) P w K mg base N qual scope f cd A outer s H E).env)::starEach [] (nG (jF P w) P w K mg base N qual scope f cd A outer s H E).env:=by rfl)
    (hpl:(backTo cpos<|starEach [] (nG (jF P w) P w K mg base N qual scope f cd A outer s H E).env).any (·.1)=false:=by rfl):
    DS (nG (jF P w) P w K mg base N qual scope f cd A outer s H E) E (.Raise (some<|.Call (.Name x np) [arg] [] cpos) none pos) (λρ=>toS (fs ρ) λds=>.ex C [field] ds):=by
 obtain⟨t,p,r,l⟩:=ha;refine⟨_,aqm c FI bI hr hg hm p hdb he hpl,λP0 H0 al H1 σ ρ D s1 h=>r _ _ _ _ _ _ _ s1 ?_⟩;dsimp only at h;cases q:fs ρ with
 |bad=>rw[q]at h;exact h.elim
 |ex c ns ds=>rw[q]at h;exact λdx H2 s2 z=>h dx H2 (s1.same.trans s2) (z.mv<|.sub s1.sub)
 |ok ds=>
  rw[q]at h;intro H2 s2 vs rv;have hl:=l ρ ds q;cases rv with
  |nil=>cases hl
  |cons r1 r2=>
   cases r2 with
   |cons _ _=>cases hl
   |nil=>refine⟨_,rfl,λdx Xn=>h (some dx) _ ((s1.same.trans s2).trans (vg Xn)) ⟨s1.sub _<|(s1.grow s2).fresh dx Xn,[_],ql,?_⟩⟩;exact .cons ((r1.up<|vg Xn).mv (.sub s1.sub)) .nil
def akI{pos}(FB:ExcBaseFacts B newId R6 bmB)(q:W.excIn K C bmB newId=true)
 (hg:Gl (nG (jF P w) P w K mg base N qual scope f cd A outer s H E) x)(hm:mg x=some (.ref C))(hdb:(x==("__debug__":Str))=false:=by decide):
   DS (nG (jF P w) P w K mg base N qual scope f cd A outer s H E) E (.Raise (some<|.Call (.Name x np) [] [] cpos) none pos) (λ_=>.ex C [] []):=
  ⟨_,aql FB q hg hm hdb,λP0 H0 al H1 σ ρ D s1 h=>h none H1 s1.same ⟨rfl,rfl⟩⟩
end
section
variable{X:Cx}{E:XK}
def DX(X:Cx)(e:Expr)(f:lA):Prop:=∃t:TX,EX X e t/\
 ∀P H0 al H σ ρ (Q:VK) (R:XK),RS X.K P H0 al H σ ρ->Aft X.K al R H (f ρ) (λd H'=>∀v,Rep X.K al H' v d->Q v H')->t σ H Q R
def QF(F:jO)(fs:Ev->R (List D)):lA:=λρ=>match fs ρ with
 |.ok ds=>F ds
 |_=>.bad
def akP{k fs pos}(G:km X.prog X.w X.K X.mg X.base (jF X.prog X.w) k x ps<|kj n X.K F)(hr:n6 k X.A)(hg:Gl X x)(hn:(e::es).length=n)(ha:DA X.zN (λ_ _ _=>False) (e::es) fs)
 (hex:X.ex=[]:=by rfl)(hdb:(x==("__debug__":Str))=false:=by decide)
 (he:starEach (e::es) X.env=(false,eval e X.env)::starEach es X.env:=by rfl)(hpl:(backTo pos<|starEach es X.env).any (·.1)=false:=by rfl):DX X (.Call (.Name x p) (e::es) [] pos) (QF F fs):=by
  obtain⟨ta,pa,ra,lb⟩:=ha;refine⟨_,akY G hr hg pa hex hdb he hpl,λP H0 al H σ ρ Q R s h=>ra P H0 al H σ ρ _ s ?_⟩;unfold QF at h;cases q:fs ρ with
  |ok ds=>rw[q]at h;intro H1 s1 vs rv;rw[bz];exact⟨by rw[rv.length,lb ρ ds q];exact hn,(s.grow s1).tt,al,ds,(s.grow s1).fresh,rv,Aft.up h s1⟩
  |ex c ns ds=>rw[q]at h;exact h.elim
  |bad=>rw[q]at h;exact h.elim
def DB(X:Cx)(body:List Stmt)(f:Ev->R Ev):Prop:=∃t:TB,BX X body t/\
 ∀P H0 al H σ ρ (D:Ends) (R:St->XK),RS X.K P H0 al H σ ρ->Aft X.K al (R σ) H (f ρ) (λmO H'=>∀σ',RS X.K P H0 al H' σ' mO->D.nx σ' H')->t D R σ H
def aku(i){y}{pos:Pos}(hN:X.N.Nodup)(hi:X.N[i]?=some y)(hy:Loc X.env.scope y)(he:DX X e f)(hs:swapsWith e (some<|.Name y pos') pos.line X.env=pure false:=by rfl)
 (hf:X.fn y=true\/X.env.scope.names.lookup y=some .local:=by first|exact .inl rfl|exact .inr rfl|assumption):DB X [.Assign [.Name y pos'] e pos] (λρ=>(f ρ).bind λd=>if i<ρ.length then .ok (ρ.set i<|.sh d)else .bad):=by
  obtain⟨t,p,r⟩:=he;refine⟨_,ajT hN hi hy p hs hf,λP H0 al H σ ρ D R s h=>r _ _ _ _ _ _ _ _ s<|Aft.mono (Aft.split h) λd H1 s1 h1 v rv=>?_⟩;by_cases z:i<ρ.length
  ·simp only[z,dG]at h1;exact h1 H1 (.refl H1) _ ((s.grow s1).set z rv)
  ·simp only[z,fB]at h1;exact h1.elim
end
end P2
namespace L2
open PySem PySem.Spec PyProof.Rows
section
variable{prog:Program}{w:World}{A:Around}{R:Result->Shared->Prop}{s:Shared}
def akk{pos}(I:Nat->Shared->Prop)
 (turn:∀n s,I n s->wpAny (model prog w) A (pyNext it) (λr s₁=>match r with
 |none=>R (.ok .next) s₁
 |some v=>wpAny (model prog w) A (letOwnedTupleGo target it v) (λ_ s₀=>wpAny (model prog w) A (assign target env v) (λ_ s₂=>
 wpAny (model prog w) A (forIn ifs true λc r=>if r=true then do let ok<-isTrue c env (eval c env);pure (ForInStep.yield ok)else pure (ForInStep.yield r)) (λok Eg=>
 if ok=true then wpAny (model prog w) A (eval elt env) (λx Ul=>
 wpAny (model prog w) A (call (.builtin "list.append") [acc,x]) (λ_ ahG=>∃m,m<n/\I m ahG) (notedBy (model prog w) A env λe s'=>R (.error e) s') Ul) (notedBy (model prog w) A env λe s'=>R (.error e) s') Eg
 else∃m,m<n/\I m Eg) (notedBy (model prog w) A env λe s'=>R (.error e) s') s₂) (notedBy (model prog w) A env λe s'=>R (.error e) s') s₀) (notedBy (model prog w) A env λe s'=>R (.error e) s') s₁) (notedBy (model prog w) A env λe s'=>R (.error e) s') s)
 (n)(h:I n s):codeAny (model prog w) A (.compLoop (.ListComp elt [⟨target,iter,ifs,0⟩] scope pos) 0 it acc env) R s:=by
  refine codeAny_loop rfl I (λn s hI=>?_) n h;show wpAny _ A ((compTurn (.ListComp elt [⟨target,iter,ifs,0⟩] scope pos) 0 it acc env).onRaise (λx=>do noteFrame x env;theTreesLotGoes x)) _ _ s;refine wpAny_noted ?_;rw[compTurn_list];refine aD (gh<|aD<|bN (turn n s hI) (λr s₁ Dr=>?_) λ_ _ h'=>h');cases r with
  |none=>exact bf Dr
  |some v=>
   refine aD (bN Dr (λ_ s₀ h₀=>?_) λ_ _ h'=>h');refine aD (bN h₀ (λ_ s₂ MT=>aD<|bN MT (λok Eg R3=>?_) λ_ _ h'=>h') λ_ _ h'=>h');cases ok with
   |false=>exact bf ⟨rfl,R3⟩
   |true=>exact aD (aD<|bN R3 (λx Ul al9=>aD<|bN al9 (λ_ ahG ama=>bf<|bf ⟨rfl,ama⟩) λ_ _ h'=>h') λ_ _ h'=>h')
end
abbrev Cx.comp(X:Cx)(scope:Scope)(N':List Str)(cl:List<|Str×Addr)(fp:List Addr)(s3:Shared)(H3:Hp)(C:Addr):Cx:=
 {X with N:=N',s₀:=s3,H₀:=H3,env:=compEnvC scope cl C X.env,outer:=X.stack,ex:=fp,fn:=λ_=>false,pn:=[],xe:=λ_ _=>False}
inductive xR(X:Cx)(cl:List<|Str×Addr):List Str->List Nat->Prop
 |nil:xR X cl [] []
 |cons {x:Str} {i:Nat} {N:List Str} {ci:List Nat}:X.N[i]?=some x->(X.env.kindOf x=some .cell\/X.env.kindOf x=some .free)->cl.lookup x=X.env.cells.lookup x->xR X cl N ci->xR X cl (x::N) (i::ci)
def xR.length(h:xR X cl N ci):N.length=ci.length:=by
 induction h with
 |nil=>rfl
 |cons _ _ _ _ ih=>rw[ak,ak,ih]
def xR.get{X:Cx}{cl:List<|Str×Addr}{N:List Str}{ci:List Nat}(h:xR X cl N ci){k:Nat}{x:Str}(e:N[k]?=some x):∃i,ci[k]?=some i/\X.N[i]?=some x/\(X.env.kindOf x=some .cell\/X.env.kindOf x=some .free)/\cl.lookup x=X.env.cells.lookup x:=by
 induction h generalizing k with
 |nil=>simp at e
 |cons h1 h2 h3 _ ih=>
  cases k with
  |zero=>simp at e;subst e;exact⟨_,rfl,h1,h2,h3⟩
  |succ k=>simpa using ih (by simpa using e)
def vQ(tn:Nat)(ci:List Nat)(σ:St):St:=List.replicate tn none++ci.map λi=>(σ[i]?).getD none
def adp(h:(vQ tn ci σ)[j]?=some (some v)):∃k i,j=tn+k/\ci[k]?=some i/\σ[i]?=some (some v):=by
 unfold vQ at h;by_cases hj:j<tn;·rw[bc<|by simpa using hj,bY,au hj]at h;cases h
 ·rw[bh<|by simpa using hj,bJ,aO]at h;cases q:ci[j - tn]? with
  |none=>rw[q]at h;cases h
  |some i=>
   rw[q]at h;refine⟨j - tn,i,by omega,q,?_⟩;have h':(σ[i]?).getD none=some v:=Option.some.inj h;cases z:σ[i]? with
   |none=>rw[z]at h';cases h'
   |some y=>rw[z]at h';exact aV some h'
def Wa:(vQ tn ci σ).length=tn+ci.length:=by unfold vQ;simp
def abN(wi:TI)(tn:Nat)(ci:List Nat)(g:TG)(tc:TT)(te:TE):TE:=λσ H Q=>wi σ H λJ H1=>∀l,H1 l=none->∃W:Nat->Nat->Hp->Prop,(∃m,W 0 m<|upd H1 l<|.lst [])/\∀i m H2,W i m H2->
 (J.stop i H2/\Q (.ref l) H2)\/(J.go i H2/\∀x H3,J.UW i H2 x H3->g x (vQ tn ci σ) H3 λvK H4=>(vK.length=tn+ci.length/\∀j,tn<=j->vK[j]?=(vQ tn ci σ)[j]?)/\tc vK H4 λb H5=>if b=true then te vK H5 λv H6=>∃acc,H6 l=some (.lst acc)/\acc.length<sizeLine/\∃m',m'<m/\W (i+1) m' (upd H6 l<|.lst<|acc++[v])else∃m',m'<m/\W (i+1) m' H5)
def PF(X:Cx)(ifs:List Expr)(t:TT):Prop:=
 ∀pins s σ H Q,Inv X pins σ H s->t σ H Q->
  wpAny (model X.prog X.w) X.A (forIn ifs true λc r=>if r=true then do let ok<-isTrue c X.env (eval c X.env);pure (ForInStep.yield ok)else pure (ForInStep.yield r)) (TP X pins σ Q) X.xe s
def apW:PF X [] (λ_ H Q=>Q true H):=λ_ _ _ H _ I h=>wpAny_tests_nil ⟨H,I,h⟩
def apY(h:PT X c t):PF X [c] t:=λpins s σ H Q I hq=>wpAny_tests_one (h pins s σ H Q I hq)
section
variable{X:Cx}{tg iter elt:Expr}{ifs:List Expr}{scope:Scope}{pos:Pos}{wi:TI}{g:TG}{tc:TT}{te:TE}{cl:List<|Str×Addr}{tn:Nat}{Nt Nc:List Str}{ci:List Nat}
def adC{pins:List<|Addr×Obj}{s:Shared}{σ:St}{H:Hp}{Q:VK}{RR:Value->Addr->Result->Shared->Prop}(I:Inv X pins σ H s)(hc:X.calm=true)(hi:PI X tg iter wi)
    (hg:∀fp s3 H3 C,PG (X.comp scope (Nt++Nc) cl fp s3 H3 C) tg g)(hf:∀fp s3 H3 C,PF (X.comp scope (Nt++Nc) cl fp s3 H3 C) ifs tc)(he:∀fp s3 H3 C,PE (X.comp scope (Nt++Nc) cl fp s3 H3 C) elt te)
    (hkind:scope.kind=.function)(hcell:∀y∈scope.names,y.2≠.cell)(Ay:xR X cl Nc ci)(ux:Nt.length=tn)
    (hsub:∀x c,cl.lookup x=some c->X.env.cells.lookup x=some c)(hhas:∀x,((relabel scope X.env).names.lookup x=some .cell\/(relabel scope X.env).names.lookup x=some .free)->∃c,cl.lookup x=some c)
    (vY:∀x∈Nc,(relabel scope X.env).names.lookup x=some .cell\/(relabel scope X.env).names.lookup x=some .free)
    (h:abN wi tn ci g tc te σ H Q)
    (fin:∀l C H' s' m,s'.heap.Ns C m->Inv X pins σ H' s'->H' C=none->C≠X.env.locals->X.s₀.heap.objs.size<=C->(∀x c,X.env.cells.lookup x=some c->c≠C)->(∀p∈X.pn++pins,p.1≠C)->Q (.ref l) H'->RR (.ref l) C (.ok .next) s'):
    wpAny (model X.prog X.w) X.A (eval iter X.env) (λx s₁=>wpAny (model X.prog X.w) X.A (pyIter x) (λit s₂=>wpAny (model X.prog X.w) X.A (newList []) (λacc Eg=>wpAny (model X.prog X.w) X.A (newFunctionEnv scope X.env.globals cl [] X.env.qual none .none<|some X.env) (λadw Ul=>codeAny (model X.prog X.w) X.A (.compStart (.ListComp elt [⟨tg,iter,ifs,0⟩] scope pos) 0 it acc {adw with scope:=relabel scope X.env}) (RR acc adw.locals) Ul) X.xe Eg) X.xe s₂) X.xe s₁) X.xe s:=by
 refine lE (hi pins s σ H _ I h) λv s1 h1=>lE h1 λitv s2 h2=>?_;obtain⟨it,fp,tk,J,H2,rfl,I2,T,st2,f2,hW⟩:=h2;refine dH (wpAny_newFunctionEnv hcell (by intro y hy;simp at hy) (λDr Xx hsb₁=>?_) hkind);dsimp only at Xx hsb₁⊢;generalize hG:s2.heap.push {cls:=.type "list",dict:=none,data:=.seq ([]:List Value).toArray}=G at Xx hsb₁⊢;have hGs:G.objs.size=s2.heap.objs.size+1:=by rw[<-hG,jf]
 have hl:H2 s2.heap.objs.size=none:=I2.hok.fresh (aB _);obtain⟨W,⟨m0,w0⟩,turn⟩:=hW _ hl;have I3:Inv X pins σ (upd H2 s2.heap.objs.size<|.lst []) {s2 with heap:=G}:=by rw[<-hG];exact I2.laid (t':=s2.toks) (λb u e=>aF _ e) (aB _) ⟨dY _,[],0,.nil,bC _ rfl⟩
 generalize hH3:upd H2 s2.heap.objs.size (.lst [])=H3 at w0 I3;have keep:∀b o,G.get? b=some o->Dr.get? b=some o:=λb o e=>hsb₁.extBut b o (bO<|Heap.lt_size e) (aF _ e);have lt2:∀b∈fp,b<s2.heap.objs.size:=λb hb=>by obtain⟨o,e,_⟩:=T.obj 0 _ st2 b hb;exact Heap.lt_size e
 have fpC:∀b∈fp,b≠G.objs.size:=λb hb=>bO (aG (lt2 b hb)<|by rw[hGs];exact eU _);have fpH:∀b∈fp,H3 b=none:=λb hb=>by rw[<-hH3,mz<|bO<|lt2 b hb];exact(f2 b hb).1
 let X':=X.comp scope (Nt++Nc) cl fp {s2 with heap:=G} H3 G.objs.size
 have ok':X'.Ok:=by
  refine⟨I3.ok.mod,(by show(relabel scope X.env).kind=_;exact hkind),I3.ok.glob,I3.ok.blt,aB _,λx y c e1 e2=>I3.ok.inj x y c (hsub x c e1)<|hsub y c e2,λx hx=>hhas x hx,(λx c z=>nomatch z),I3.ok.hd,I3.ok.frames,.inl rfl,λb hb=>⟨fpC b hb,λx c e=>(f2 b hb).2.2.2.2.1 x c (hsub x c e)⟩,λb o e=>I3.bs b o e,aJ I3.ok.Al I3.sz,λb o e hb=>?_,λb hb z=>?_,I3.stack,I3.abK⟩
  ·rcases(f2 b hb).2.2.2.1 with z|z;·exact I3.ok.Nk b o e z
   ·exact absurd (aG (Heap.lt_size e)<|aJ I3.ok.Al z) (dq _)
  ·rcases List.mem_cons.mp (I3.Uk b z)with e|e;·exact(f2 b hb).2.1 e
   ·exact(f2 b hb).2.2.1 e
 have J0:Inv X' [] (vQ tn ci σ) H3 {s2 with heap:=Dr,toks:=s2.toks+0}:=by
  refine⟨ok',rfl,I3.bare,Un.kept keep,⟨_,Xx,λi x v e1 e2 e3=>?_⟩,λx c e=>?_,I3.hok.fresh<|aB _,λx c e=>I3.xu x c<|hsub x c e,λp hp=>absurd (show p∈([]:List<|Addr×Obj)from hp)<|by simp,I3.hok.kept keep,?_⟩
  ·obtain⟨k,j,rfl,q1,q2⟩:=adp e2;have e1':Nc[k]?=some x:=by
    rw[bh<|by omega]at e1;rw[show tn+k - Nt.length=k by omega]at e1;exact e1
   obtain⟨j',z1,z2,z3,z4⟩:=Ay.get e1';rw[q1]at z1;cases z1;obtain⟨m,hn,hlk⟩:=I3.loc;obtain⟨u,r,lk⟩:=hlk j x v z2 q2 (z3.elim (λz=>.inr<|.inl z) λz=>.inr<|.inr z);refine⟨u,r,.inr ⟨vY x<|eV e1',?_⟩⟩;rcases lk with⟨k1,_⟩|⟨_,c,k2,k3⟩;·rcases z3 with z|z<;>(rw[k1]at z;cases z)
   ·refine⟨c,z4.trans k2,?_⟩;obtain⟨o,ho,hd⟩:=k3;exact⟨o,keep _ _ ho,hd⟩
  ·obtain⟨v,o,ho,hd⟩:=I3.cell x c (hsub x c e);exact⟨v,o,keep _ _ ho,hd⟩
  ·rw[Wa];show _=(Nt++Nc).length;rw[aq,Ay.length,ux]
 have stat:∀{JC:List<|Addr×Obj} {H':Hp},(∀p∈JC,p.1∉fp)->(∀b∈fp,H' b=none)->∀b∈fp,Aa X' JC H' b:=λ{JC H'} hp hn b hb=>⟨hn b hb,fpC b hb,λz=>ok'.Lk b hb z,.inl hb,λx c e=>(ok'.WY b hb).2 x c e,λp hpm z=>hp p ((List.mem_append.mp hpm).elim (λw=>absurd (show p∈([]:List<|Addr×Obj)from w)<|by simp) λw=>w)<|by rw[z];exact hb⟩
 have mk:∀(s5:Shared),(∀i H5,Inv X' [] (vQ tn ci σ) H5 s5->tk i s5.heap->(∀b∈fp,H5 b=none)->∀n,W i n H5->
  codeAny (model X.prog X.w) X.A (.compLoop (.ListComp elt [⟨tg,iter,ifs,0⟩] scope pos) 0 (.ref it) (.ref s2.heap.objs.size) (compEnvC scope cl G.objs.size X.env)) (RR (.ref s2.heap.objs.size) G.objs.size) s5):=by
  intro s5 i5 H5 J5 Oq W4 n5 w5;refine akk (λn s'=>∃i H',Inv X' [] (vQ tn ci σ) H' s'/\tk i s'.heap/\(∀b∈fp,H' b=none)/\W i n H') ?_ n5 ⟨i5,H5,J5,Oq,W4,w5⟩
  rintro n s6 ⟨i,H6,J6,st6,fr6,w6⟩
  rcases turn i n H6 w6 with⟨stop,q⟩|⟨go,step⟩
  ·refine bN (T.done X' rfl rfl rfl hc i [] s6 _ H6 (λ_ _=>False) J6 (stat (by simp) fr6) st6 stop) (λr s7 ⟨hr,J7⟩=>?_) λ_ _ z=>z.elim;subst hr;obtain⟨m,hn,_⟩:=J7.loc;have IX:Inv X pins σ H6 s7:=I3.adl (ch:=fp) J7.os J7.base J7.hok J7.bare λb hb=>⟨(f2 b hb).2.2.2.1,(f2 b hb).2.1,(f2 b hb).2.2.2.2.1,(f2 b hb).2.2.2.2.2⟩;refine fin _ _ H6 s7 m hn IX J7.free (iI I3.lt) (aJ I3.sz<|aB _) (λx c e z=>?_) (λp hp z=>?_) q
   ·obtain⟨v,o,ho,_⟩:=I3.cell x c e;exact absurd (Heap.lt_size ho) (by rw[z];exact dq _)
   ·exact absurd (Heap.lt_size (I3.pin p hp).1) (by rw[z];exact dq _)
  ·refine bN (T.item X' rfl rfl rfl hc i [] s6 _ H6 (λ_ _=>False) J6 (stat (by simp) fr6) st6 go) (λr s7 ⟨u,hr,h7⟩=>?_) λ_ _ z=>z.elim;subst hr;refine bN h7 (λ_ s8 ⟨x,H8,J8,r8,y8,st8,fr8⟩=>?_) λ_ _ z=>z.elim;have J8':=J8.pinned (stat (by simp) fr8) (T.obj _ _ st8)
   have back:∀{El:St} {H9:Hp} {s9:Shared},Inv X' ([]++NB fp s8.heap) El H9 s9->El.length=tn+ci.length->(∀j,tn<=j->El[j]?=(vQ tn ci σ)[j]?)->∀m',m'<n->W (i+1) m' H9->
    ∃m,m<n/\∃i H',Inv X' [] (vQ tn ci σ) H' s9/\tk i s9.heap/\(∀b∈fp,H' b=none)/\W i m H':=λ{El H9 s9} J9 hl9 hk9 m' hm w9=>by
    refine⟨m',hm,i+1,H9,J9.Uz.weak (by rw[Wa,hl9]) λj v e=>?_,T.keep _ _ _ st8 λb hb o e=>(J9.pin (b,o)<|bD _<|bD _<|SJ hb e).1,λb hb=>?_,w9⟩
    ·obtain⟨k,_,rfl,_⟩:=adp e;rw[hk9 _<|by omega];exact e
    ·obtain⟨o,e,d⟩:=T.obj _ _ st8 b hb;exact(J9.pin (b,o)<|bD _<|bD _<|SJ hb e).2.1
   refine bN (hg fp _ _ _ _ s8 _ H8 x u _ J8' r8<|step x H8 y8) (λ_ s9 ⟨El,H9,J9,⟨l9,k9⟩,q9⟩=>?_) λ_ _ z=>z.elim;refine bN (hf fp _ _ _ _ s9 El H9 _ J9 q9) (λb Ub ⟨Vc,J10,Tv⟩=>?_) λ_ _ z=>z.elim;cases b with
   |false=>rw[aA aU]at Tv⊢;obtain⟨m',hm,w10⟩:=Tv;exact back J10 l9 k9 m' hm w10
   |true=>rw[au rfl]at Tv⊢;refine bN (he fp _ _ _ _ Ub El Vc _ J10 Tv) (λy s11 ⟨v,PK,J11,r11,acc,e11,z11,m',hm,w11⟩=>?_) λ_ _ z=>z.elim;refine bN (aft (X:=X') _ s11 El PK (.ref _) [v] (.ref _) [y] (λ_ PL=>W (i+1) m' PL) J11 rfl (.cons r11 .nil) ⟨_,acc,v,rfl,rfl,e11,z11,w11⟩) (λ_ s12 ⟨_,PL,J12,_,w12⟩=>?_) λ_ _ z=>z.elim;exact back J12 l9 k9 m' hm w12
 have st4:tk 0 Dr:=T.keep _ _ _ st2 λb _ o e=>keep b o (by rw[<-hG];exact aF _ e);exact codeAny_compStart_list (mk _ 0 H3 J0 st4 fpH m0 w0) (T.self _ 0 _ _ _ st4<|mk _ 0 H3 J0 st4 fpH m0 w0)
def apF(hc:X.calm=true)(hi:PI X tg iter wi)(hg:∀fp s3 H3 C,PG (X.comp scope (Nt++Nc) cl fp s3 H3 C) tg g)(hf:∀fp s3 H3 C,PF (X.comp scope (Nt++Nc) cl fp s3 H3 C) ifs tc)(he:∀fp s3 H3 C,PE (X.comp scope (Nt++Nc) cl fp s3 H3 C) elt te)
 (hclos:closureFor scope X.env=pure cl)(hkind:scope.kind=.function)(hcell:∀y∈scope.names,y.2≠.cell)(hnames:∀x∈scope.names,x.2=.local->scope.names.lookup x.1=some .local)(Ay:xR X cl Nc ci)(ux:Nt.length=tn)
 (hsub:∀x c,cl.lookup x=some c->X.env.cells.lookup x=some c)(hhas:∀x,((relabel scope X.env).names.lookup x=some .cell\/(relabel scope X.env).names.lookup x=some .free)->∃c,cl.lookup x=some c)
 (vY:∀x∈Nc,(relabel scope X.env).names.lookup x=some .cell\/(relabel scope X.env).names.lookup x=some .free)
 (hs:∀x,foldedSetIterable iter X.env x=pure x:=by intro _;rfl):PE X (.ListComp elt [⟨tg,iter,ifs,0⟩] scope pos) (abN wi tn ci g tc te):=by intro pins s σ H Q I h;rw[eval_ListComp];refine wpAny_comprehension_free (use:=none) rfl hs hclos hkind hnames (adC (Nt:=Nt) (Nc:=Nc) I hc hi hg hf he hkind hcell Ay ux hsub hhas vY h ?_);intro l C H' s' m hn I' h1 h2 h3 h4 h5 q;exact⟨m,hn,λh'' hs''=>⟨.ref l,H',I'.turned (t':=s'.toks) (λb o hb e=>hs''.extBut b o hb e) h1 h2 (.inr h3) h4 h5,rfl,q⟩⟩
def Vp(X:Cx)(e:Expr)(t:TE):Prop:=
 ∀(i:Nat) (x:Str) (pos':Pos) (_:X.N.Nodup) (_:X.N[i]?=some x) (_:Loc X.env.scope x) (_:X.fn x=true\/X.env.scope.names.lookup x=some .local) (pins:List<|Addr×Obj) (s:Shared) (σ:St) (H:Hp) (Q:VK),Inv X pins σ H s->t σ H Q->
  wpAny (model X.prog X.w) X.A (evalThenUse e X.env<|assign (.Name x pos') X.env) (λ_ s'=>∃v H',Inv X pins (σ.set i<|some v) H' s'/\Q v H') X.xe s
def aqs(hc:X.calm=true)(hi:PI X tg iter wi)(hg:∀fp s3 H3 C,PG (X.comp scope (Nt++Nc) cl fp s3 H3 C) tg g)(hf:∀fp s3 H3 C,PF (X.comp scope (Nt++Nc) cl fp s3 H3 C) ifs tc)(he:∀fp s3 H3 C,PE (X.comp scope (Nt++Nc) cl fp s3 H3 C) elt te)
    (hclos:closureFor scope X.env=pure cl)(hkind:scope.kind=.function)(hcell:∀y∈scope.names,y.2≠.cell)(hnames:∀x∈scope.names,x.2=.local->scope.names.lookup x.1=some .local)(Ay:xR X cl Nc ci)(ux:Nt.length=tn)
    (hsub:∀x c,cl.lookup x=some c->X.env.cells.lookup x=some c)(hhas:∀x,((relabel scope X.env).names.lookup x=some .cell\/(relabel scope X.env).names.lookup x=some .free)->∃c,cl.lookup x=some c)
    (vY:∀x∈Nc,(relabel scope X.env).names.lookup x=some .cell\/(relabel scope X.env).names.lookup x=some .free)
    (hs:∀x,foldedSetIterable iter X.env x=pure x:=by intro _;rfl):Vp X (.ListComp elt [⟨tg,iter,ifs,0⟩] scope pos) (abN wi tn ci g tc te):=by
 intro i x pos' hN hxi hx Mz pins s σ H Q I h;unfold evalThenUse;refine aD (wpAny_comprehension_free (use:=some<|assign (.Name x pos') X.env) rfl hs hclos hkind hnames<|adC (Nt:=Nt) (Nc:=Nc) I hc hi hg hf he hkind hcell Ay ux hsub hhas vY h ?_);intro l C H' s' m hn I' h1 h2 h3 h4 h5 q;show wpAny _ _ (assign (.Name x pos') X.env<|.ref l) _ _ _;refine aD (gh<|wpAny_bindName<|ahB I' hN hxi hx (v:=.ref l) rfl (λs2 I2 ha=>?_) Mz);obtain⟨a,sb,ha⟩:=ha;have ne:C≠a:=by
  rcases ha with rfl|ha;·exact h2
  ·exact λz=>h4 _ _ ha z.symm
 obtain⟨o,es,ep,e,r⟩:=hn;refine⟨m,⟨o,es,ep,(sb.2 C ne).trans e,r⟩,λh'' hs''=>bf ⟨.ref l,H',I2.turned (t':=s2.toks) (λb o hb e=>hs''.extBut b o hb e) h1 h2 (.inr h3) h4 h5,q⟩⟩
def aqo{i:Nat}{x:Str}{e:Expr}{te:TE}{pos' ahy:Pos}(hN:X.N.Nodup)(hi:X.N[i]?=some x)(hx:Loc X.env.scope x)(he:Vp X e te)(hs:swapsWith e (some<|.Name x pos') ahy.line X.env=pure true:=by rfl)(hf:X.fn x=true\/X.env.scope.names.lookup x=some .local:=by first|exact .inl rfl|exact .inr rfl|assumption):
    PS X (.Assign [.Name x pos'] e ahy) (ahH te<|W8 i):=by
 intro pins s σ H D I h;rw[exec_Assign_Name_used _ _ _ _ hs];refine aD (gh<|aD<|lE (he i x pos' hN hi hx hf pins s σ H _ I h) λ_ s' ⟨v,H',I',q⟩=>bf ⟨_,H',I',q⟩)
end
end L2
namespace P2
open PySem L2 PyProof.Rows
abbrev bits(x:Int):Nat:=Builtin.Int.intBits x
def Th(h:qb X f r)(h':qb X f r'):qb X f (λx y H Q=>r x y H Q\/r' x y H Q):=
 λpins s σ H x y v u Q I rx ry q=>q.elim (h pins s σ H x y v u Q I rx ry) (h' pins s σ H x y v u Q I rx ry)
def iB(C:Int->Int->Bool)(g:Int->Int->D)(x y:D):R D:=match x,y with
 |.int i,.int j=>if C i j=true then .ok (g i j)else .bad
 |_,_=>.bad
section
variable{X:Cx}{E:XK}
def YK{op:Value->Value->Sem Value}{C:Int->Int->Prop}{Cb:Int->Int->Bool}{g:Int->Int->V}{gd:Int->Int->D}(ho:qb X op<|rI C g)(hC:∀i j,Cb i j=true->C i j)(hg:∀i j K al H,Rep K al H (g i j)<|gd i j):rK X E op (iB Cb gd):=by
 refine⟨_,ho,λal H x y dx dy Q fr rx ry h=>?_⟩;unfold iB at h;split at h
 ·rename_i i j;cases rx;cases ry;split at h
  ·rename_i z;exact⟨i,j,rfl,rfl,hC i j z,h H (.refl H) _<|hg i j _ _ _⟩
  ·exact h.elim
 ·exact h.elim
def Tg{op:Value->Value->Sem Value}{g:Int->Int->V}{gd:Int->Int->D}(ho:qb X op<|Ec g)(hg:∀i j K al H,Rep K al H (g i j)<|gd i j):rK X E op (iB (λ_ _=>true) gd):=by
 refine⟨_,ho,λal H x y dx dy Q fr rx ry h=>?_⟩;unfold iB at h;split at h
 ·rename_i i j;cases rx;cases ry;exact⟨i,j,rfl,rfl,h H (.refl H) _<|hg i j _ _ _⟩
 ·exact h.elim
def vm:D->D->R D:=iB (λ_ _=>true) λi j=>.int (i - j)
def DQ:rK X E (binaryOp .Sub) vm:=Tg apq λ_ _ _ _ _=>.int _
def afE(i j:Int):Bool:=decide (bits i<=1048576)&&decide (bits j<=1048576)
def Nr(_ j:Int):Bool:=decide (j≠0)&&decide (bits j<=9000)
def afG(i j:Int):Bool:=decide (0<=j)&&decide (j<=1000000)&&decide (i.natAbs<2^64)
def pK:D->D->R D:=iB Nr λi j=>.int (i.fdiv j)
def tM:rK X E (binaryOp .FloorDiv) pK:=YK apd (λi j h=>by unfold Nr at h;simpa [acx]using h) λ_ _ _ _ _=>.int _
def o6:D->D->R D:=iB (λ_ j=>decide<|j≠0) λi j=>.int (i.fmod j)
def qP:rK X E (binaryOp .Mod) o6:=YK api (λi j h=>by simpa using h) λ_ _ _ _ _=>.int _
def Z9:D->D->R D:=iB afG λi j=>.int (i^j.toNat)
def apo:rK X E (binaryOp .Pow) Z9:=YK apn (λi j h=>by unfold afG at h;simp only[aK,aM]at h;exact⟨h.1.1,h.1.2,h.2⟩) λ_ _ _ _ _=>.int _
def v5:D->D->R D:=iB (λ_ _=>true) λi j=>.bl (decide<|i<j)
def leD:D->D->R D:=iB (λ_ _=>true) λi j=>.bl (decide<|i<=j)
def oV:D->D->R D:=iB (λ_ _=>true) λi j=>.bl (decide<|j<i)
def Q8:D->D->R D:=iB (λ_ _=>true) λi j=>.bl (decide<|j<=i)
def DP:rK X E (compareOp .Lt) v5:=Tg aph λ_ _ _ _ _=>.bl _
def u9:rK X E (compareOp .Gt) oV:=Tg apf λ_ _ _ _ _=>.bl _
def afJ:rK X E (compareOp .GtE) Q8:=Tg ape λ_ _ _ _ _=>.bl _
def Jt:D->R D
 |.int i=>.ok (.int<|-i)
 |_=>.bad
def aij:UnD X E (unaryOp .USub) Jt:=by
 refine⟨_,auP,λal H x dx Q fr rx h=>?_⟩;unfold Jt at h;split at h;·cases rx;exact⟨_,rfl,h H (.refl H) _<|.int _⟩
 ·exact h.elim
def Qd(K:W.Frag)(H:Hp)(a:Addr)(xs:List V):Prop:=Rd H a (.lst xs)\/KL K a xs
def Qd.is(I:Inv X pins σ H s)(h:Qd X.K H a xs):∃its n,Vals xs its/\s.heap.get? a=some {cls:=.type "list",data:=.seq its.toArray n}:=by
 rcases h with h|⟨its,n,h1,h2,h3⟩
 ·obtain⟨z,its,n,r,e⟩:=h.ok I.hok;exact⟨its,n,r,e⟩
 ·exact⟨its,n,h3,I.o4 a _ h1⟩
def arO(K:W.Frag):R2:=λx y H Q=>∃l b xs zs,x=.ref l/\y=.ref b/\Qd K H l xs/\Qd K H b zs/\xs.length+zs.length<=sizeLine/\∀p,H p=none->Q (.ref p) (upd H p<|.lst<|xs++zs)
def apa:qb X (binaryOp .Add) (arO X.K):=by
 intro pins s σ H x y v u Q I rx ry h;obtain⟨l,b,xs,zs,rfl,rfl,hH,hB,hz,q⟩:=h;cases rx;cases ry;obtain⟨its,n,r,e⟩:=hH.is I;obtain⟨aeM,n2,r2,e2⟩:=hB.is I;have hl:=r.length;have hl2:=r2.length;refine PySem.P.add_list e e2 ?_ (by rw[aY,aY];omega);have ea:its.toArray++aeM.toArray=(its++aeM).toArray:=by simp
 rw[ea];exact⟨.ref _,_,I.ae8 (t':=s.toks) (r.append r2)<|by rw[aq];omega,rfl,q _ I.fresh⟩
def jT:D->D->R D
 |.int i,.int j=>.ok (.int<|i+j)
 |.str i,.str j=>if i.length+j.length<=sizeLine then .ok (.str<|i++j)else .bad
 |.lst xs,.lst ys=>if xs.length+ys.length<=sizeLine then .ok (.lst<|xs++ys)else .bad
 |_,_=>.bad
def lZ:rK X E (binaryOp .Add) jT:=by
 refine⟨_,Th ao8<|Th ao9 apa,λal H x y dx dy Q fr rx ry h=>?_⟩;unfold jT at h;split at h;·cases rx;cases ry;exact .inl ⟨_,_,rfl,rfl,h H (.refl H) _<|.int _⟩
 ·cases rx;cases ry;split at h;·rename_i z;exact .inr (.inl ⟨_,_,rfl,rfl,z,h H (.refl H) _<|.str _⟩)
  ·exact h.elim
 ·split at h
  ·rename_i z;obtain⟨a,vs,rfl,h1,h2⟩:=rx.afh;obtain⟨b,ws,rfl,h3,h4⟩:=ry.afh;exact .inr (.inr ⟨a,b,vs,ws,rfl,rfl,h1,h3,by rw[h2.length,h4.length];exact z,λp hp=>h _ (vg hp) _ ((h2.append h4).M8 hp (fr p hp))⟩)
  ·exact h.elim
 ·exact h.elim
def GC(x:Str)(n:Int):Bool:=!(decide (n< -(2^63:Int))||decide (n≥2^63))&&decide (x.length*n.toNat<=1000000)&&decide (x.length<=1000000)&&decide (n<=1000000)
def apl:qb X (binaryOp .Mult) (λx y H Q=>∃i n,x=.str i/\y=.int n/\MulOk i n/\Q (.str<|Txt.mul i n) H):=by intro pins s σ H x y v u Q I rx ry h;obtain⟨i,j,rfl,rfl,hz,q⟩:=h;obtain⟨t,rfl⟩:=rx;obtain⟨t',rfl⟩:=ry;exact SB.mul hz λt'' k=>⟨.str _,H,I.tok _,⟨_,rfl⟩,q⟩
def mulOk_of{n:Int}(h:GC x n=true):MulOk x n:=by
 unfold GC at h;simp only[aK,aM,eG]at h;obtain⟨⟨⟨h1,h2⟩,h3⟩,h4⟩:=h;refine⟨h1,λh5 _=>?_,λ_ _=>?_⟩
 ·have h6:(1:Int)<=n:=by omega
  have h7:(1000000:Int)<=(2^63 - 1)/n:=by apply(Int.le_ediv_iff_mul_le<|by omega).mpr;have:(1000000:Int)*n<=1000000*1000000:=Int.mul_le_mul_of_nonneg_left h4 (by decide);omega
  omega
 ·have:sizeLine=16777216:=cX;unfold Builtin.Str.tooLong;simp only[fJ];omega
def Ii:D->D->Option Bool
 |.non,.non=>some true
 |.int i,.int j=>some (decide<|i=j)
 |.str i,.str j=>some (decide<|i=j)
 |.bl i,.bl j=>some (decide<|i=j)
 |.non,.int _=>some false
 |.int _,.non=>some false
 |.non,.str _=>some false
 |.str _,.non=>some false
 |.non,.bl _=>some false
 |.bl _,.non=>some false
 |.int _,.str _=>some false
 |.str _,.int _=>some false
 |_,_=>none
def mV(x y:D):R D:=match Ii x y with
 |some b=>.ok (.bl b)
 |none=>.bad
def pM(x y:D):R D:=match Ii x y with
 |some b=>.ok (.bl<|!b)
 |none=>.bad
def ad5{K:W.Frag}{al:Addr->Prop}{H:Hp}{x y:V}{dx dy:D}{b:Bool}(rx:Rep K al H x dx)(ry:Rep K al H y dy)(h:Ii dx dy=some b):aaR x y=true/\decide (x=y)=b:=by unfold Ii at h;split at h<;>first|(cases h;done)|(cases rx;cases ry;cases h;refine⟨rfl,?_⟩;simp)
def o8:rK X E (compareOp .Eq) mV:=by
 refine⟨_,apb,λal H x y dx dy Q fr rx ry h=>?_⟩;unfold mV at h;cases q:Ii dx dy with
 |none=>rw[q]at h;exact h.elim
 |some b=>rw[q]at h;obtain⟨h1,h2⟩:=ad5 rx ry q;exact⟨h1,by rw[h2];exact h H (.refl H) _ (.bl b)⟩
def yz:rK X E (compareOp .NotEq) pM:=by
 refine⟨_,apm,λal H x y dx dy Q fr rx ry h=>?_⟩;unfold pM at h;cases q:Ii dx dy with
 |none=>rw[q]at h;exact h.elim
 |some b=>rw[q]at h;obtain⟨h1,h2⟩:=ad5 rx ry q;exact⟨h1,by rw[h2];exact h H (.refl H) _ (.bl _)⟩
def vH:D->D->R D
 |.str i,.str j=>.ok (.bl<|Txt.contains j i)
 |_,_=>.bad
def Tf:rK X E (compareOp .In) vH:=by
 refine⟨_,apg,λal H x y dx dy Q fr rx ry h=>?_⟩;unfold vH at h;split at h;·cases rx;cases ry;exact⟨_,_,rfl,rfl,h H (.refl H) _<|.bl _⟩
 ·exact h.elim
def kI.lH{K:W.Frag}{al:Addr->Prop}{H:Hp}{vs:List V}{ds:List D}(r:kI K al H vs ds){i:Int}{d:D}(h:L2.lH ds i=some d):∃v,L2.lH vs i=some v/\Rep K al H v d:=by
 unfold L2.lH at h⊢;rw[r.length];cases q:Bf ds.length i with
 |none=>rw[q]at h;cases h
 |some j=>rw[q]at h;exact r.getD h
def jR:D->D->R D
 |.lst ds,.int i=>match L2.lH ds i with
  |some d=>.ok d
  |none=>.bad
 |.tup ds,.int i=>match L2.lH ds i with
  |some d=>.ok d
  |none=>.bad
 |.str z,.int i=>if z.length<=sizeLine then(match L2.lH z.cps.toList i with
  |some c=>.ok (.str ⟨#[c]⟩)
  |none=>.bad)else .bad
 |_,_=>.bad
def lL:Vg X E jR:=by
 refine⟨_,ams,λal H x y dx dy Q fr rx ry h=>?_⟩;unfold jR at h;split at h
 ·rename_i ds i;cases ry;cases q:L2.lH ds i with
  |none=>rw[q]at h;exact h.elim
  |some d=>rw[q]at h;obtain⟨a,vs,rfl,h1,h2⟩:=rx.Gv;obtain⟨v,e1,e2⟩:=kI.lH h2 q;exact .inl ⟨a,vs,i,v,rfl,rfl,h1,e1,h H (.refl H) _ e2⟩
 ·rename_i ds i;cases ry;cases q:L2.lH ds i with
  |none=>rw[q]at h;exact h.elim
  |some d=>rw[q]at h;obtain⟨a,vs,rfl,h1,h2⟩:=rx.J1;obtain⟨v,e1,e2⟩:=kI.lH h2 q;exact .inr (.inl ⟨a,vs,i,v,rfl,rfl,h1,e1,h H (.refl H) _ e2⟩)
 ·rename_i z i;cases rx;cases ry;split at h
  ·rename_i hz;cases q:L2.lH z.cps.toList i with
   |none=>rw[q]at h;exact h.elim
   |some c=>rw[q]at h;exact .inr (.inr ⟨z,i,c,rfl,rfl,hz,q,h H (.refl H) _<|.str _⟩)
  ·exact h.elim
 ·exact h.elim
def arS:V->Option Int->Option Int->Hp->VK->Prop:=λx lo hi H Q=>∃z,x=.str z/\z.length<=sizeLine/\Q (.str<|Txt.slice z lo hi) H
def ati:Ab X arS:=by
 intro pins s σ H x v vl vu lo hi sl Q I rx hs pl pu h;obtain⟨z,rfl,hz,q⟩:=h;obtain⟨t,rfl⟩:=rx;refine⟨"str",_,PySem.F.slot_str_getitem.lookup,fY s z t,?_⟩;obtain⟨o,h1,h2,h3⟩:=hs;cases pl with
 |none=>
  cases pu with
  |none=>exact dN (l:=none) (u:=none) (st:=none) ⟨o,h1,h2,h3⟩ rfl (gA ⟨aJ (gK z none none) hz,λt' k=>⟨.str _,H,I.tok _,⟨_,rfl⟩,q⟩⟩)
  |int j u=>exact dN (l:=none) (u:=some (j,u)) (st:=none) ⟨o,h1,h2,h3⟩ rfl (gA ⟨aJ (gK z none<|some j) hz,λt' k=>⟨.str _,H,I.tok _,⟨_,rfl⟩,q⟩⟩)
 |int i ui=>
  cases pu with
  |none=>exact dN (l:=some (i,ui)) (u:=none) (st:=none) ⟨o,h1,h2,h3⟩ rfl (gA ⟨aJ (gK z (some i) none) hz,λt' k=>⟨.str _,H,I.tok _,⟨_,rfl⟩,q⟩⟩)
  |int j u=>exact dN (l:=some (i,ui)) (u:=some (j,u)) (st:=none) ⟨o,h1,h2,h3⟩ rfl (gA ⟨aJ (gK z (some i)<|some j) hz,λt' k=>⟨.str _,H,I.tok _,⟨_,rfl⟩,q⟩⟩)
def cutD(xs:List D)(lo hi:Option Int):List D:=(xs.drop<|HT.mJ xs.length 0 lo).take (HT.mJ xs.length xs.length hi - HT.mJ xs.length 0 lo)
def kI.cut{K:W.Frag}{al:Addr->Prop}{H:Hp}{vs:List V}{ds:List D}(r:kI K al H vs ds)(lo hi:Option Int):kI K al H (Dc vs lo hi) (cutD ds lo hi):=by unfold Dc cutD;rw[r.length];exact(r.drop _).take _
def Oo:D->Option Int->Option Int->R D
 |.lst ds,lo,hi=>.ok (.lst<|cutD ds lo hi)
 |.str z,lo,hi=>if z.length<=sizeLine then .ok (.str<|Txt.slice z lo hi)else .bad
 |_,_,_=>.bad
def atg:Vs X E Oo:=by
 refine⟨_,ath.or ati,λal H x dx lo hi Q fr rx h=>?_⟩;unfold Oo at h;split at h
 ·obtain⟨a,vs,rfl,h1,h2⟩:=rx.Gv;exact .inl ⟨a,vs,rfl,h1,λp hp=>h _ (vg hp) _<|(h2.cut lo hi).M8 hp (fr p hp)⟩
 ·cases rx;split at h;·rename_i hz;exact .inr ⟨_,rfl,hz,h H (.refl H) _<|.str _⟩
  ·exact h.elim
 ·exact h.elim
def lY:jO
 |[.str z]=>if z.length<=sizeLine then .ok (.int z.length)else .bad
 |[.lst ds]=>.ok (.int ds.length)
 |[.tup ds]=>.ok (.int ds.length)
 |_=>.bad
def kI.one{K:W.Frag}{al:Addr->Prop}{H:Hp}{vs:List V}{d:D}(r:kI K al H vs [d]):∃v,vs=[v]/\Rep K al H v d:=by
 cases r with
 |cons a b=>cases b;exact⟨_,rfl,a⟩
def kI.two{K:W.Frag}{al:Addr->Prop}{H:Hp}{vs:List V}{d e:D}(r:kI K al H vs [d,e]):∃v u,vs=[v,u]/\Rep K al H v d/\Rep K al H u e:=by
 cases r with
 |cons a b=>obtain⟨u,rfl,q⟩:=kI.one b;exact⟨_,_,rfl,a,q⟩
def rR:xf X E (.builtin "len") lY:=by
 refine⟨_,aj7.or adn,λal H xs ds Q fr r h=>?_⟩;unfold lY at h;split at h
 ·obtain⟨v,rfl,q⟩:=kI.one r;cases q;split at h;·rename_i hz;exact .inl ⟨_,rfl,hz,h H (.refl H) _<|.int _⟩
  ·exact h.elim
 ·obtain⟨v,rfl,q⟩:=kI.one r;obtain⟨a,vs,rfl,h1,h2⟩:=q.Gv;exact .inr ⟨a,vs,rfl,.inl h1,by rw[h2.length];exact h H (.refl H) _ (.int _)⟩
 ·obtain⟨v,rfl,q⟩:=kI.one r;obtain⟨a,vs,rfl,h1,h2⟩:=q.J1;exact .inr ⟨a,vs,rfl,.inr h1,by rw[h2.length];exact h H (.refl H) _ (.int _)⟩
 ·exact h.elim
def Fd:jO
 |[.int i]=>.ok (.int<|if i<0 then -i else i)
 |_=>.bad
def V8:xf X E (.builtin "abs") Fd:=by
 refine⟨_,ajZ,λal H xs ds Q fr r h=>?_⟩;unfold Fd at h;split at h
 ·obtain⟨v,rfl,q⟩:=kI.one r;cases q;exact⟨_,rfl,h H (.refl H) _<|.int _⟩
 ·exact h.elim
def v7:jO
 |[.int i,.int j]=>.ok (.int<|if j>i then j else i)
 |_=>.bad
def V9(hc:X.calm=true):xf X E (.builtin "max") v7:=by
 refine⟨_,aj8 hc,λal H xs ds Q fr r h=>?_⟩;unfold v7 at h;split at h
 ·obtain⟨v,u,rfl,q,q2⟩:=kI.two r;cases q;cases q2;exact⟨_,_,rfl,h H (.refl H) _<|.int _⟩
 ·exact h.elim
def yE:jO
 |[.int i]=>if i.natAbs.log2<1920 then .ok (.str<|toString i)else .bad
 |_=>.bad
def K9:xf X E (.type "str") yE:=by
 refine⟨_,aj9,λal H xs ds Q fr r h=>?_⟩;unfold yE at h;split at h
 ·obtain⟨v,rfl,q⟩:=kI.one r;cases q;split at h;·rename_i hz;exact⟨_,rfl,hz,h H (.refl H) _<|.str _⟩
  ·exact h.elim
 ·exact h.elim
def aj3:sV X (.type "int") (λxs H Q=>∃z n,xs=[.str z]/\PySem.intText? z=some n/\z.length<=640/\Q (.int n) H):=by intro pins s σ H xs us Q I r h;obtain⟨z,n,rfl,h1,h2,q⟩:=h;obtain⟨u,rfl,t,rfl⟩:=vals1 r;exact W.KIN.call_text h1 h2 ⟨.int n,H,I.tok _,⟨_,rfl⟩,q⟩
def intD:jO
 |[.str z]=>match PySem.intText? z with
  |some n=>if z.length<=640 then .ok (.int n)else .bad
  |none=>.bad
 |_=>.bad
def K8:xf X E (.type "int") intD:=by
 refine⟨_,aj3,λal H xs ds Q fr r h=>?_⟩;unfold intD at h;split at h
 ·rename_i z;obtain⟨v,rfl,q⟩:=kI.one r;cases q;cases e:PySem.intText? z with
  |none=>rw[e]at h;exact h.elim
  |some n=>
   rw[e]at h;dsimp only at h;split at h;·rename_i hz;exact⟨z,n,rfl,e,hz,h H (.refl H) _<|.int _⟩
   ·exact h.elim
 ·exact h.elim
theorem aim:∀{bs:List Bool} {us},Vals (bs.map V.bl) us->us=bs.map Value.bool
 |[],_,r=>by cases r;rfl
 |b::bs,_,r=>by
  cases r with
  |cons r1 r2=>cases r1;rw[aim r2];rfl
def all_range(bs:List Bool):(List.range bs.length).all (λi=>bs.getD i false)=bs.all id:=by
 rw[bQ];simp only[dO,List.mem_range,id];constructor
 ·intro h b hb;obtain⟨i,hi,rfl⟩:=List.getElem_of_mem hb;have:=h i hi
  rwa [cu,aN hi]at this
 ·intro h i hi;rw[cu,aN hi];exact h _ (fZ hi)
def aj0(hc:X.calm=true):sV X (.builtin "all") (λxs H Q=>∃(a:Addr) (bs:List Bool),xs=[.ref a]/\sE X.K H a (bs.map V.bl)/\Q (.bl<|bs.all id) H):=by
 intro pins s σ H xs us Q I r h;obtain⟨a,bs,rfl,ha,q⟩:=h;obtain⟨u,rfl,ru⟩:=vals1 r;cases ru;obtain⟨its,rv,pl,hz⟩:=I.list ha;have ei:=aim rv;subst ei;refine call_all_walk (wpAny_pyIter_list pl.isList ?_);have hd:(X.A.in1).handled=none:=I.ok.hd hc;have hne:a≠s.heap.objs.size:=bO (by obtain⟨o,e,_⟩:=pl.isList;exact Heap.lt_size e);refine⟨s.heap.objs.size,_,_,_,_,_,λi=>bs.getD i false,rfl,Walks.list hd s.heap.objs.size a hne (bs.map Value.bool).toArray,⟨⟨_,bC _ rfl,rfl,rfl⟩,pl.isList.at λo e=>aF _ e⟩,?_,λh' tk k=>?_⟩
 ·intro i v s2 Q2 E2 hv hq;have:v=Value.bool (bs.getD i false):=by
   simp only[List.getElem?_toArray,aO]at hv;cases e:bs[i]? with
   |none=>rw[e]at hv;cases hv
   |some b=>rw[e]at hv;cases hv;rw[cu,e];rfl
  subst this;exact dF hq
 ·refine⟨.bl<|bs.all id,H,I.kept (t':=tk) λb o e=>k b o (by simp only[bR];exact bO (Heap.lt_size e))<|aF _ e,?_,q⟩;show Value.bool _=Value.bool _;rw[aY,az,all_range]
def vB:List D->Option (List Bool)
 |[]=>some []
 |.bl b::r=>(vB r).map (b:: ·)
 |_=>none
theorem kI.bools{K:W.Frag}{al:Addr->Prop}{H:Hp}:∀{vs:List V} {ds:List D} {bs:List Bool},kI K al H vs ds->vB ds=some bs->vs=bs.map V.bl
 |_,[],bs,r,h=>by cases r;cases h;rfl
 |_,.bl b::ds,bs,r,h=>by
  unfold vB at h;obtain⟨bs',h1,h2⟩:=Option.map_eq_some_iff.mp h;subst h2;cases r with
  |cons a q=>cases a;rw[kI.bools q h1];rfl
 |_,.non::_,_,_,h=>by cases h
 |_,.int _::_,_,_,h=>by cases h
 |_,.str _::_,_,_,h=>by cases h
 |_,.ty _::_,_,_,h=>by cases h
 |_,.ref _::_,_,_,h=>by cases h
 |_,.tup _::_,_,_,h=>by cases h
 |_,.lst _::_,_,_,h=>by cases h
 |_,.exc _ _ _::_,_,_,h=>by cases h
def Ag:jO
 |[.lst ds]=>match vB ds with
  |some bs=>.ok (.bl<|bs.all id)
  |none=>.bad
 |_=>.bad
def ajC:jO
 |[.lst ds]=>match vB ds with
  |some bs=>.ok (.bl<|bs.any id)
  |none=>.bad
 |_=>.bad
def Qx(hc:X.calm=true):xf X E (.builtin "all") Ag:=by
 refine⟨_,aj0 hc,λal H xs ds Q fr r h=>?_⟩;unfold Ag at h;split at h
 ·rename_i ds;obtain⟨v,rfl,q⟩:=kI.one r;obtain⟨a,vs,rfl,h1,h2⟩:=q.Gv;cases e:vB ds with
  |none=>rw[e]at h;exact h.elim
  |some bs=>rw[e]at h;have e2:=kI.bools h2 e;subst e2;exact⟨a,bs,rfl,h1,h H (.refl H) _<|.bl _⟩
 ·exact h.elim
def anJ:Ew X "str.startswith" (λx xs H Q=>∃i j,x=.str i/\xs=[.str j]/\Q (.bl<|Txt.startswith i j) H):=by intro pins s σ H x xs v us Q I rx rs h;obtain⟨i,j,rfl,rfl,q⟩:=h;obtain⟨t,rfl⟩:=rx;obtain⟨u,rfl,t',rfl⟩:=vals1 rs;exact SC.startswith ⟨.bl _,H,I,rfl,q⟩
def JV:D->jO
 |.str i,[.str j]=>.ok (.bl<|Txt.startswith i j)
 |_,_=>.bad
def afu:KD X E "str" "str.startswith" JV:=by
 refine⟨_,anJ,λal H x xs d ds Q fr rx rs h=>?_⟩;unfold JV at h;split at h
 ·cases rx;obtain⟨v,rfl,q⟩:=kI.one rs;cases q;exact⟨_,_,rfl,rfl,h H (.refl H) _<|.bl _⟩
 ·exact h.elim
def avx:D->jO
 |.str z,[.int i]=>if PadOk i=true then .ok (.str<|Txt.zfill z i)else .bad
 |_,_=>.bad
def nH:D->R D
 |.str z=>if z.length<=sizeLine then .ok (.str z)else .bad
 |.int i=>if i.natAbs.log2<1920 then .ok (.str<|toString i)else .bad
 |_=>.bad
def yg{pos}(he:DE X E e f):DE X E (.FormattedValue e (-1) none pos) (d1 nH f):=by
 obtain⟨t,p,r⟩:=he;refine⟨λσ H Q=>t σ H λv H1=>(∃z,v=.str z/\z.length<=sizeLine/\Q (.str z) H1)\/∃i,v=.int i/\i.natAbs.log2<1920/\Q (.str<|toString i) H1,λpins s σ H Q I h=>?_,λP H0 al H σ ρ Q s h=>r _ _ _ _ _ _ _ s<|Aft.mono (Aft.split h) λd H1 s1 h1 v rv=>?_⟩
 ·refine FormattedValue_plain (lE (p pins s σ H _ I h) λu s1 ⟨v,H1,I1,r1,q1⟩=>?_);rcases q1 with⟨z,rfl,hz,q⟩|⟨i,rfl,hz,q⟩
  ·obtain⟨t1,rfl⟩:=r1;exact formatField_str (λt' tk=>⟨.str z,H1,I1.tok _,⟨_,rfl⟩,q⟩) hz
  ·obtain⟨t1,rfl⟩:=r1;exact formatField_int_small hz ⟨.str _,H1,I1.tok _,⟨_,rfl⟩,q⟩
 ·unfold nH at h1;split at h1
  ·cases rv;split at h1;·rename_i hz;exact .inl ⟨_,rfl,hz,h1 H1 (.refl H1) _<|.str _⟩
   ·exact h1.elim
  ·cases rv;split at h1;·rename_i hz;exact .inr ⟨_,rfl,hz,h1 H1 (.refl H1) _<|.str _⟩
   ·exact h1.elim
  ·exact h1.elim
def DJ(X:Cx)(E:XK)(es:List Expr)(f:Str->lA):Prop:=∃t:Str->TE,(∀out pins s σ H Q,Inv X pins σ H s->t out σ H Q->wpAny (model X.prog X.w) X.A (joinParts out<|evalEach es X.env) (EP X pins σ Q) X.xe s)/\
 ∀out P H0 al H σ ρ (Q:VK),RS X.K P H0 al H σ ρ->Aft X.K al E H (f out ρ) (λd H'=>∀v,Rep X.K al H' v d->Q v H')->t out σ H Q
def rB(out:Str):lA:=λ_=>if out.length<=sizeLine then .ok (.str out)else .bad
def lW(a:lA)(r:Str->lA)(out:Str):lA:=λρ=>(a ρ).bind λx=>match x with
 |.str y=>if(out++y).length<=sizeLine then r (out++y) ρ else .bad
 |_=>.bad
def FN:DJ X E [] rB:=by
 refine⟨λout _ H Q=>out.length<=sizeLine/\Q (.str out) H,λout pins s σ H Q I h=>joinParts_nil ⟨.str out,H,I.tok _,⟨_,rfl⟩,h.2⟩ h.1,λout P H0 al H σ ρ Q s h=>?_⟩;unfold rB at h;split at h;·rename_i z;exact⟨z,h H (.refl H) _<|.str _⟩
 ·exact h.elim
def rA{fr}(ha:DE X E e fa)(hr:DJ X E es fr):DJ X E (e::es) (lW fa fr):=by
 obtain⟨ta,pa,ra⟩:=ha;obtain⟨tr,pr,rr⟩:=hr;refine⟨λout σ H Q=>ta σ H λv H1=>∃y,v=.str y/\(out++y).length<=sizeLine/\tr (out++y) σ H1 Q,λout pins s σ H Q I h=>?_,λout P H0 al H σ ρ Q s h=>ra _ _ _ _ _ _ _ s<|Aft.mono (Aft.split h) λd H1 s1 h1 v rv=>?_⟩
 ·show wpAny _ _ (joinParts out<|eval e X.env::evalEach es X.env) _ _ _;refine joinParts_cons (lE (pa pins s σ H _ I h) λu s1 ⟨v,H1,I1,r1,y,e1,z,q⟩=>?_);subst e1;obtain⟨t1,rfl⟩:=r1;exact⟨z,pr _ pins s1 σ H1 Q I1 q⟩
 ·cases rv with
  |str y=>
   dsimp only at h1;split at h1;·rename_i z;exact⟨y,rfl,z,rr _ _ _ _ _ _ _ _ (s.grow s1) h1⟩
   ·exact h1.elim
  |_=>exact(h1:False).elim
def Fz{pos}(h:DJ X E (e1::e2::es) f):DE X E (.JoinedStr (e1::e2::es) pos) (f Str.empty):=by obtain⟨t,p,r⟩:=h;exact⟨t Str.empty,λpins s σ H Q I h=>JoinedStr_many<|p Str.empty pins s σ H Q I h,r Str.empty⟩
end
def wE(K:W.Frag)(E:XK)(f:lA):TE:=λσ H Q=>∃P H0 al ρ,RS K P H0 al H σ ρ/\Aft K al E H (f ρ) (λd H'=>∀v,Rep K al H' v d->Q v H')
def wT(K:W.Frag)(E:XK)(f:Ev->R Bool):TT:=λσ H Q=>∃P H0 al ρ,RS K P H0 al H σ ρ/\Aft K al E H (f ρ) Q
def wG(K:W.Frag)(l:List Nat)(a:D->Ev->Option Ev):TG:=λv σ H Q=>∃P H0 al ρ d,RS K P H0 al H σ ρ/\Rep K al H v d/\∃mO,a d ρ=some mO/\∀σ',Kp l σ σ'->RS K P H0 al H σ' mO->Q σ' H
def DE.w{X:Cx}{E:XK}{e:Expr}{f:lA}(h:DE X E e f):PE X e (wE X.K E f):=by obtain⟨t,p,r⟩:=h;intro pins s σ H Q I hq;obtain⟨P,H0,al,ρ,s1,a⟩:=hq;exact p pins s σ H Q I (r P H0 al H σ ρ Q s1 a)
def DT.w{X:Cx}{E:XK}{e:Expr}{f:Ev->R Bool}(h:DT X E e f):PT X e (wT X.K E f):=by obtain⟨t,p,r⟩:=h;intro pins s σ H Q I hq;obtain⟨P,H0,al,ρ,s1,a⟩:=hq;exact p pins s σ H Q I (r P H0 al H σ ρ Q s1 a)
def DG.w{X:Cx}{tg:Expr}{l:List Nat}{a:D->Ev->Option Ev}(h:DG X tg l a):PG X tg (wG X.K l a):=by obtain⟨t,p,r⟩:=h;intro pins s σ H v u Q I rv hq;obtain⟨P,H0,al,ρ,d,s1,rd,a⟩:=hq;exact p pins s σ H v u Q I rv (r P H0 al H σ ρ v d Q s1 rd a)
def Ci(X:Cx)(ifs:List Expr)(f:Ev->R Bool):Prop:=PF X ifs (wT X.K (λ_ _ _=>False) f)
def Le:Ci X [] (λ_=>.ok true):=λpins s σ H Q I h=>by obtain⟨P,H0,al,ρ,s1,a⟩:=h;exact apW pins s σ H Q I (a H<|.refl H)
def adN(h:DT X (λ_ _ _=>False) c f):Ci X [c] f:=apY h.w
def t7(tn:Nat)(ci:List Nat)(ρ:Ev):Ev:=List.replicate tn .no++ci.map λi=>match ρ[i]? with
 |some (.sh d)=>.sh d
 |_=>.no
def Nu{α:Type}:R α->Option α
 |.ok a=>some a
 |_=>none
def Nq{α:Type}:Option α->R α
 |some a=>.ok a
 |none=>.bad
def sH(a:D->Ev->Option Ev)(c:Ev->R Bool)(e:lA)(uU:Ev):List D->Option (List D)
 |[]=>some []
 |d::r=>(a d uU).bind λoG=>(Nu<|c oG).bind λb=>if b=true then(Nu<|e oG).bind λv=>(sH a c e uU r).bind λvs=>some (v::vs)else sH a c e uU r
def uw(fi:Ev->R (List D))(tn:Nat)(ci:List Nat)(a:D->Ev->Option Ev)(c:Ev->R Bool)(e:lA):Ev->R (List D):=λρ=>(fi ρ).bind λds=>if ds.length<=sizeLine then Nq (sH a c e (t7 tn ci ρ) ds)else .bad
def afF{α:Type}{r:R α}{a:α}(h:Nu r=some a):r=.ok a:=by
 cases r with
 |ok x=>cases h;rfl
 |ex _ _ _=>cases h
 |bad=>cases h
def ar8{K:W.Frag}{P:Addr->Prop}{H0 H2:Hp}{al jK:Addr->Prop}{σ:L2.St}{ρ:Ev}{H1:Hp}(s:RS K P H0 al H1 σ ρ)(x:Xt al H1 jK H2)(sm:pY K H1 H2)(fr:∀a,H2 a=none->jK a)(sub:∀a,jK a->al a)(tn:Nat)(ci:List Nat):
    RS K al H1 jK H2 (vQ tn ci σ) (t7 tn ci ρ) where
 same:=sm
 tt:=sm.tt s.tt
 fresh:=fr
 sub:=sub
 pf:=s.fresh
 len:=by unfold vQ t7;simp
 sh:=λj d h=>by
  unfold t7 at h;by_cases hj:j<tn;·rw[bc<|by simpa using hj,bY,au hj]at h;cases h
  ·rw[bh<|by simpa using hj,bJ,aO]at h;cases q:ci[j - tn]? with
   |none=>rw[q]at h;cases h
   |some i=>
    rw[q]at h;have h':(match ρ[i]? with|some (.sh d)=>Sl.sh d|_=>.no)=.sh d:=Option.some.inj h;cases z:ρ[i]? with
    |none=>rw[z]at h';cases h'
    |some y=>
     rw[z]at h';cases y with
     |sh e=>cases h';obtain⟨v,e1,e2⟩:=s.sh i d z;refine⟨v,?_,e2.mv x⟩;unfold vQ;rw[bh<|by simpa using hj,bJ,aO,q];show some ((σ[i]?).getD none)=_;rw[e1];rfl
     |no=>cases h'
     |ow _=>cases h'
 ow:=λj d h=>by
  unfold t7 at h;by_cases hj:j<tn;·rw[bc<|by simpa using hj,bY,au hj]at h;cases h
  ·rw[bh<|by simpa using hj,bJ,aO]at h;cases q:ci[j - tn]? with
   |none=>rw[q]at h;cases h
   |some i=>rw[q]at h;have h':(match ρ[i]? with|some (.sh d)=>Sl.sh d|_=>.no)=.ow d:=Option.some.inj h;split at h'<;>cases h'
 apart:=λj k d d' b h _ _ _=>by
  exfalso;unfold t7 at h;by_cases hj:j<tn;·rw[bc<|by simpa using hj,bY,au hj]at h;cases h
  ·rw[bh<|by simpa using hj,bJ,aO]at h;cases q:ci[j - tn]? with
   |none=>rw[q]at h;cases h
   |some i=>rw[q]at h;have h':(match ρ[i]? with|some (.sh d)=>Sl.sh d|_=>.no)=.ow d:=Option.some.inj h;split at h'<;>cases h'
section
variable{X:Cx}{E:XK}{tg iter elt:Expr}{ifs:List Expr}{scope:Scope}{pos:Pos}{fi:Ev->R (List D)}{a:D->Ev->Option Ev}{fc:Ev->R Bool}{fe:lA}{cl:List<|Str×Addr}{tn:Nat}{Nt Nc:List Str}{ci l:List Nat}
def Cj(X:Cx)(E:XK)(e:Expr)(f:Ev->R (List D)):Prop:=∃t:TE,PE X e t/\Vp X e t/\
 ∀P H0 al H σ ρ (Q:VK),RS X.K P H0 al H σ ρ->Aft X.K al E H (f ρ) (λds H'=>∀p vs,H' p=none->kI X.K al H' vs ds->Q (.ref p) (upd H' p<|.lst vs))->t σ H Q
def Cj.dn(h:Cj X E e f):DN X E e f:=let⟨t,p,_,r⟩:=h;⟨t,p,r⟩
def Wy(hc:X.calm=true)(hi:DI X E tg iter fi)(hg:∀fp s3 H3 C,DG (X.comp scope (Nt++Nc) cl fp s3 H3 C) tg l a)(hl:∀j∈l,j<tn)(hf:∀fp s3 H3 C,Ci (X.comp scope (Nt++Nc) cl fp s3 H3 C) ifs fc)
    (he:∀fp s3 H3 C,DE (X.comp scope (Nt++Nc) cl fp s3 H3 C) (λ_ _ _=>False) elt fe)
    (hclos:closureFor scope X.env=pure cl)(hkind:scope.kind=.function)(hcell:∀y∈scope.names,y.2≠.cell)(hnames:∀x∈scope.names,x.2=.local->scope.names.lookup x.1=some .local)(Ay:xR X cl Nc ci)(ux:Nt.length=tn)
    (hsub:∀x c,cl.lookup x=some c->X.env.cells.lookup x=some c)(hhas:∀x,((relabel scope X.env).names.lookup x=some .cell\/(relabel scope X.env).names.lookup x=some .free)->∃c,cl.lookup x=some c)
    (vY:∀x∈Nc,(relabel scope X.env).names.lookup x=some .cell\/(relabel scope X.env).names.lookup x=some .free)
    (hs:∀x,foldedSetIterable iter X.env x=pure x:=by intro _;rfl):Cj X E (.ListComp elt [⟨tg,iter,ifs,0⟩] scope pos) (uw fi tn ci a fc fe):=by
 obtain⟨wi,pi,ri⟩:=hi;refine⟨_,apF (te:=wE X.K (λ_ _ _=>False) fe) (tc:=wT X.K (λ_ _ _=>False) fc) (g:=wG X.K l a) hc pi (λfp s3 H3 C=>(hg fp s3 H3 C).w) hf (λfp s3 H3 C=>(he fp s3 H3 C).w) hclos hkind hcell hnames Ay ux hsub hhas vY hs,aqs (te:=wE X.K (λ_ _ _=>False) fe) (tc:=wT X.K (λ_ _ _=>False) fc) (g:=wG X.K l a) hc pi (λfp s3 H3 C=>(hg fp s3 H3 C).w) hf (λfp s3 H3 C=>(he fp s3 H3 C).w) hclos hkind hcell hnames Ay ux hsub hhas vY hs,λP H0 al H σ ρ Q s h=>ri _ _ _ _ _ _ _ s<|Aft.mono (Aft.split h) λds H1 s1 h1 J wk=>?_⟩;intro p hp;by_cases hz:ds.length<=sizeLine
 ·rw[au hz]at h1;cases q:sH a fc fe (t7 tn ci ρ) ds with
  |none=>rw[q]at h1;exact h1.elim
  |some out=>
   rw[q]at h1;have s2:=s.grow s1
   let jK:Addr->Prop:=λb=>al b/\b≠p
   refine⟨λi m H2=>∃done rest Af,out=done++rest/\sH a fc fe (t7 tn ci ρ) (ds.drop i)=some rest/\H2 p=some (.lst Af)/\kI X.K jK H2 Af done/\pY X.K H1 H2/\(∀b,H2 b=none->jK b)/\m=ds.length - i/\i<=ds.length/\done.length<=i,⟨_,[],out,[],rfl,q,ql,.nil,vg hp,λb hb=>?_,rfl,dY _,aB _⟩,?_⟩
   ·have z:b≠p:=λw=>by rw[w,ql]at hb;cases hb
    rw[mz z]at hb;exact⟨s2.fresh b hb,z⟩
   ·rintro i m H2 ⟨done,rest,Af,e1,e2,e3,e4,e5,e6,rfl,e7,e8⟩
    have x12:Xt al H1 jK H2:=λb o n hb w=>⟨⟨hb,yx w hp⟩,e5.at' _ _ n w⟩;obtain⟨w1,w2⟩:=wk jK H2 x12 e6;by_cases hi:i<ds.length
    ·right;have ed:ds[i]?=some ds[i]:=aN hi;obtain⟨go,yl⟩:=w1 i _ ed;refine⟨go,λx H3 y=>?_⟩;obtain⟨rfl,rx⟩:=yl x H3 y;rw[cD hi]at e2;unfold sH at e2;obtain⟨oG,a1,a2⟩:=Option.bind_eq_some_iff.mp e2;obtain⟨b,a3,a4⟩:=Option.bind_eq_some_iff.mp a2;refine⟨al,H1,jK,t7 tn ci ρ,ds[i],ar8 s2 x12 e5 e6 (λ_ z=>z.1) tn ci,rx,oG,a1,λvK kp s3=>⟨⟨?_,λj hj=>kp.2 j λw=>absurd (hl j w)<|by omega⟩,al,H1,jK,oG,s3,?_⟩⟩;·rw[kp.1,Wa]
     ·rw[afF a3];intro H5 s5;cases b with
      |false=>rw[aA aU]at a4⊢;exact⟨ds.length - (i+1),by omega,done,rest,Af,e1,a4,s5.at' _ _ Bk e3,e4.up s5,e5.trans s5,λb hb=>e6 b<|s5.free hb,rfl,hi,by omega⟩
      |true=>
       rw[au rfl]at a4⊢;obtain⟨v,a5,a6⟩:=Option.bind_eq_some_iff.mp a4;obtain⟨vs,a7,a8⟩:=Option.bind_eq_some_iff.mp a6;cases a8;refine⟨al,H1,jK,oG,s3.grow s5,?_⟩;rw[afF a5];intro H6 s6 u ru;have WQ:=s6.at' _ _ Bk (s5.at' _ _ Bk e3);have x6:Xt jK H6 jK (upd H6 p (.lst (Af++[u]))):=λc o _ hc w=>⟨hc,by rw[mz hc.2];exact w⟩;refine⟨Af,WQ,by rw[e4.length];omega,ds.length - (i+1),by omega,done++[v],vs,Af++[u],by rw[e1];simp,a7,ql,((((e4.up s5).up s6).append (.cons ru .nil)).mv x6),?_,λc hc=>?_,rfl,hi,by rw[aq];simp;omega⟩
       ·exact⟨λc o n w=>by
         rw[mz<|yx w hp];exact s6.at' _ _ n (s5.at' _ _ n<|e5.at' _ _ n w),λc w=>by
         by_cases z:c=p;· rw[z];exact hp
         · rw[mz z]at w;exact e5.fr c (s5.fr c (s6.fr c w)),λt=>(s6.tt (s5.tt (e5.tt t))).upd (Sv WQ).1 (Sv WQ).2⟩
       ·have z:c≠p:=λw=>by rw[w,ql]at hc;cases hc
        rw[mz z]at hc;exact e6 c (s5.free<|s6.free hc)
    ·left;have ei:i=ds.length:=by omega
     rw[dm<|by omega]at e2;cases e2;rw[bz]at e1;subst e1;refine⟨w2 i<|by omega,?_⟩
     let H':Hp:=λb=>if b=p then none else H2 b
     have hH:upd H' p (.lst Af)=H2:=by
      funext b;by_cases z:b=p;·subst z;rw[ql,e3]
      ·rw[mz z];show(if b=p then none else H2 b)=_;rw[aA z]
     have sm:pY X.K H1 H':=⟨λb o n w=>by
      show(if b=p then none else H2 b)=_;rw[aA<|yx w hp];exact e5.at' _ _ n w,λb w=>by
      by_cases z:b=p;· rw[z];exact hp
      · have w':(if b=p then none else H2 b)=none:=w;rw[aA z]at w';exact e5.fr b w',λt=>(e5.tt t).off (Sv e3).1 (Sv e3).2 λb z=>by show(if b=p then none else H2 b)=_;rw[aA z]⟩
     rw[<-hH];refine h1 H' sm p Af (by show(if p=p then none else H2 p)=_;rw[au rfl]) (e4.mv λb o _ hb w=>⟨hb.1,?_⟩);show(if b=p then none else H2 b)=_;rw[aA hb.2];exact w
 ·rw[aA hz]at h1;exact h1.elim
def adT(hc:X.calm=true)(hi:DI X E tg iter fi)(hg:∀fp s3 H3 C,DG (X.comp scope Nt [] fp s3 H3 C) tg l a)(hl:∀j∈l,j<tn)(hf:∀fp s3 H3 C,Ci (X.comp scope Nt [] fp s3 H3 C) ifs fc)
 (he:∀fp s3 H3 C,DE (X.comp scope Nt [] fp s3 H3 C) (λ_ _ _=>False) elt fe)
 (hfree:∀y∈scope.names,y.2≠.free)(hkind:scope.kind=.function)(hcell:∀y∈scope.names,y.2≠.cell)(hnames:∀x∈scope.names,x.2=.local->scope.names.lookup x.1=some .local)(ux:Nt.length=tn)
 (hs:∀x,foldedSetIterable iter X.env x=pure x:=by intro _;rfl):Cj X E (.ListComp elt [⟨tg,iter,ifs,0⟩] scope pos) (uw fi tn [] a fc fe):=by
  have e:relabel scope X.env=scope:=by
   have:scope.names.map (λ(n,k)=>if(k==NameKind.free&&X.env.scope.kind==.function&&X.env.kindOf n==some .cell)then(n,NameKind.cell)else(n,k))=scope.names:=by
    refine map_eq_self λy hy=>?_;obtain⟨n,k⟩:=y;have:(k==NameKind.free)=false:=by simpa using hfree _ hy
    simp[this]
   unfold relabel;rw[this]
  refine Wy (cl:=[]) (Nc:=[]) (ci:=[]) hc hi (by rw[bz];exact hg) hl (by rw[bz];exact hf) (by rw[bz];exact he) (closureFor_none hfree) hkind hcell hnames .nil ux (λx c z=>nomatch z) (λx z=>?_) (λx z=>nomatch z) hs;rw[e]at z;rcases z with z|z;·exact absurd rfl (hcell _<|b7 z)
  ·exact absurd rfl (hfree _<|b7 z)
def QH(hc:X.calm=true)(hi:DI X E tg iter fi)(hg:∀fp s3 H3 C,DG (X.comp scope Nt [] fp s3 H3 C) tg l a)(hl:∀j∈l,j<tn)(hf:∀fp s3 H3 C,Ci (X.comp scope Nt [] fp s3 H3 C) ifs fc)
 (he:∀fp s3 H3 C,DE (X.comp scope Nt [] fp s3 H3 C) (λ_ _ _=>False) elt fe)
 (hfree:∀y∈scope.names,y.2≠.free)(hkind:scope.kind=.function)(hcell:∀y∈scope.names,y.2≠.cell)(hnames:∀x∈scope.names,x.2=.local->scope.names.lookup x.1=some .local)(ux:Nt.length=tn)
 (hs:∀x,foldedSetIterable iter X.env x=pure x:=by intro _;rfl):DN X E (.ListComp elt [⟨tg,iter,ifs,0⟩] scope pos) (uw fi tn [] a fc fe):=(adT hc hi hg hl hf he hfree hkind hcell hnames ux hs).dn
end
def Qc(x:Str):It:=⟨λi _=>i<x.cps.size,λi H v H'=>H'=H/\∃c,x.cps[i]?=some c/\v=.str ⟨#[c]⟩,λi _=>x.cps.size<=i⟩
def auJ{P:Program}{w:World}{K:W.Frag}{tg:Expr}(x:Str)(t:Tok)(it:Addr):Turn P w K tg (Qc x) [it] it (λi h=>h.IsStrIter it "str_ascii_iterator" x t i) where
 mem:=by simp
 obj:=λi h st b hb=>by
  have e:b=it:=by simpa using hb
  subst e;obtain⟨o,e,c,d⟩:=st;exact⟨o,e,λv z=>by rw[d]at z;cases z⟩
 keep:=λi h h' st k=>let⟨o,ho,r⟩:=st;⟨o,k it (by simp) o ho,r⟩
 item:=by intro X hP hw hK Mw i pins s σ H E I hf st hg;subst hP hw hK;obtain⟨f0,f1,f2,f3,f4,f5⟩:=hf it (by simp);have Ba:i<x.cps.size:=hg;refine wpAny_pyNext_ascii_item st (c:=x.cps[i]) (by simp[Ba]) λh' uR sb=>?_;have I1:Inv X pins σ H {s with heap:=h',toks:=s.toks+1}:=I.turned (λb o hb e=>(sb.2 b hb).trans e) f0 f1 f3 f4 f5;obtain⟨o,e,c,d⟩:=id uR;exact⟨_,rfl,I8 (s:={s with heap:=h',toks:=s.toks+1}) e c d (by decide) ⟨.str ⟨#[x.cps[i]]⟩,H,I1,⟨_,rfl⟩,⟨rfl,x.cps[i],by simp[Ba],rfl⟩,uR,λb hb=>(hf b hb).1⟩⟩
 done:=by intro X hP hw hK Mw i pins s σ H E I hf st hg;subst hP hw hK;obtain⟨f0,f1,f2,f3,f4,f5⟩:=hf it (by simp);have Ba:x.cps.size<=i:=hg;exact wpAny_pyNext_ascii_end (I.ok.hd Mw) st (by simp[Ba]) λh' eb=>⟨rfl,I.turned (t':=s.toks) (λb o hb e=>eb b o hb e) f0 f1 f3 f4 f5⟩
 self:=λ_ _ _ _ _ st h=>wpAny_pyIter_striter_ascii st h
def auN{P:Program}{w:World}{K:W.Frag}{tg:Expr}(x:Str)(t:Tok)(it:Addr):Turn P w K tg (Qc x) [it] it (λi h=>h.IsStrIter it "str_iterator" x t i) where
 mem:=by simp
 obj:=λi h st b hb=>by
  have e:b=it:=by simpa using hb
  subst e;obtain⟨o,e,c,d⟩:=st;exact⟨o,e,λv z=>by rw[d]at z;cases z⟩
 keep:=λi h h' st k=>let⟨o,ho,r⟩:=st;⟨o,k it (by simp) o ho,r⟩
 item:=by intro X hP hw hK Mw i pins s σ H E I hf st hg;subst hP hw hK;obtain⟨f0,f1,f2,f3,f4,f5⟩:=hf it (by simp);have Ba:i<x.cps.size:=hg;refine wpAny_pyNext_wide_item st (c:=x.cps[i]) (by simp[Ba]) λh' uR sb=>?_;have I1:Inv X pins σ H {s with heap:=h',toks:=s.toks+1}:=I.turned (λb o hb e=>(sb.2 b hb).trans e) f0 f1 f3 f4 f5;obtain⟨o,e,c,d⟩:=id uR;exact⟨_,rfl,I8 (s:={s with heap:=h',toks:=s.toks+1}) e c d (by decide) ⟨.str ⟨#[x.cps[i]]⟩,H,I1,⟨_,rfl⟩,⟨rfl,x.cps[i],by simp[Ba],rfl⟩,uR,λb hb=>(hf b hb).1⟩⟩
 done:=by intro X hP hw hK Mw i pins s σ H E I hf st hg;subst hP hw hK;obtain⟨f0,f1,f2,f3,f4,f5⟩:=hf it (by simp);have Ba:x.cps.size<=i:=hg;exact wpAny_pyNext_wide_end (I.ok.hd Mw) st (by simp[Ba]) λh' eb=>⟨rfl,I.turned (t':=s.toks) (λb o hb e=>eb b o hb e) f0 f1 f3 f4 f5⟩
 self:=λ_ _ _ _ _ st h=>wpAny_pyIter_striter_wide st h
section
variable{X:Cx}{E:XK}{tg e:Expr}{f:lA}
def amd(tl:TE):TI:=λσ H R=>tl σ H λx H1=>∃z,x=.str z/\R (Qc z) H1
def ap1{l:Expr}{tl:TE}(hl:PE X l tl):PI X tg l (amd tl):=by
 intro pins s σ H R I h;refine lE (hl pins s σ H _ I h) λv s1 ⟨x,H1,I1,r1,q1⟩=>?_;obtain⟨z,e,q⟩:=q1;subst e;obtain⟨t,rfl⟩:=r1;have fp:∀b∈[s1.heap.objs.size],Aa X pins H1 b:=λb hb=>by
  have e:b=s1.heap.objs.size:=by simpa using hb
  subst e;exact I1.Lq (aB _) (I1.hok.fresh<|aB _)
 cases ha:z.cps.all (· <128)with
 |true=>refine wpAny_pyIter_ascii ha ?_;exact⟨s1.heap.objs.size,[s1.heap.objs.size],_,_,H1,rfl,I1.kept (t':=s1.toks) λb o e=>aF _ e,auJ z t _,⟨_,bC _ rfl,rfl,rfl⟩,fp,q⟩
 |false=>refine wpAny_pyIter_wide ha ?_;exact⟨s1.heap.objs.size,[s1.heap.objs.size],_,_,H1,rfl,I1.kept (t':=s1.toks) λb o e=>aF _ e,auN z t _,⟨_,bC _ rfl,rfl,rfl⟩,fp,q⟩
def signs(z:Str):List D:=z.cps.toList.map λc=>.str ⟨#[c]⟩
def avo{K:W.Frag}{al:Addr->Prop}{H:Hp}{z:Str}:Wk K al H (Qc z) (signs z):=by
 intro jK H' x fr;refine⟨λi d h=>?_,λi h=>?_⟩
 ·unfold signs at h;rw[aO,jc]at h;cases q:z.cps[i]? with
  |none=>rw[q]at h;cases h
  |some c=>rw[q]at h;cases h;refine⟨(Array.getElem?_eq_some_iff.mp q).1,λy Hm w=>⟨w.1,?_⟩⟩;obtain⟨c',e1,e2⟩:=w.2;rw[q]at e1;cases e1;subst e2;exact .str _
 ·unfold signs at h;show z.cps.size<=i;simpa using h
def sX(d:D):R (List D):=match d with
 |.lst ds=>.ok ds
 |.tup ds=>.ok ds
 |.str z=>.ok (signs z)
 |_=>.bad
def An(he:DE X E e f):DI X E tg e (λρ=>(f ρ).bind sX):=by
 obtain⟨t,p,r⟩:=he;refine⟨_,af1 (apZ p)<|af1 (ap2 p)<|ap1 p,λP H0 al H σ ρ R s h=>?_⟩;dsimp only at h;cases q:f ρ with
 |bad=>rw[q]at h;exact h.elim
 |ex c ns ds=>rw[q]at h;exact .inl (r _ _ _ _ _ _ _ s<|by rw[q];exact h)
 |ok d=>
  rw[q]at h;cases d with
  |lst ds=>left;refine r _ _ _ _ _ _ _ s ?_;rw[q];intro H1 s1 v rv;obtain⟨a,vs,e1,e2,e3⟩:=rv.Gv;subst e1;exact⟨a,rfl,⟨vs,e2⟩,h H1 s1 _<|avm rv⟩
  |tup ds=>right;left;refine r _ _ _ _ _ _ _ s ?_;rw[q];intro H1 s1 v rv;obtain⟨a,vs,e1,e2,e3⟩:=rv.J1;subst e1;exact⟨a,rfl,⟨vs,e2⟩,h H1 s1 _<|avp rv⟩
  |str z=>right;right;refine r _ _ _ _ _ _ _ s ?_;rw[q];intro H1 s1 v rv;cases rv;exact⟨z,rfl,h H1 s1 _ avo⟩
  |_=>exact(h:False).elim
end
def tyName:D->Option String
 |.non=>some "NoneType"
 |.bl _=>some "bool"
 |.int _=>some "int"
 |.str _=>some "str"
 |.lst _=>some "list"
 |.tup _=>some "tuple"
 |_=>none
def Jj:List String:=["NoneType","bool","int","str","list","tuple"]
def amF(K):∀T∈Jj,∀n∈Jj,W.kitOne K (.type T) (.type n)=some (T==n||(T=="bool"&&n=="int")):=by intro T hT n hn;simp only[Jj,fC,iG,or_false]at hT hn;rcases hT with rfl|rfl|rfl|rfl|rfl|rfl<;>rcases hn with rfl|rfl|rfl|rfl|rfl|rfl<;>first|rfl|kernel_rfl
def isD:jO
 |[d,.ty n]=>match tyName d with
  |some T=>if Jj.contains n then .ok (.bl<|T==n||(T=="bool"&&n=="int"))else .bad
  |none=>.bad
 |_=>.bad
section
variable{X:Cx}{E:XK}
def arP(X:Cx):List V->Hp->VK->Prop:=λxs H Q=>∃x n T,xs=[x,.ty n]/\Jj.contains T=true/\Jj.contains n=true/\
 ((x=.non/\T="NoneType")\/(∃b,x=.bl b/\T="bool")\/(∃i,x=.int i/\T="int")\/(∃z,x=.str z/\T="str")\/(∃a vs,x=.ref a/\sE X.K H a vs/\T="list")\/(∃a vs,x=.ref a/\uW X.K H a vs/\T="tuple"))/\Q (.bl<|T==n||(T=="bool"&&n=="int")) H
def aj4:sV X (.builtin "isinstance") (arP X):=by
 intro pins s σ H xs us Q I r h;obtain⟨x,n,T,rfl,kT,kn,hx,q⟩:=h;obtain⟨u,c,rfl,ru,rc⟩:=vals2 r;cases rc;have e:=amF X.K T (by simpa using kT) n (by simpa using kn);have fin:∀tk,EP X pins σ Q (.bool<|T==n||(T=="bool"&&n=="int")) {s with toks:=tk}:=λtk=>⟨.bl _,H,I.tok tk,rfl,q⟩;rcases hx with⟨rfl,rfl⟩|⟨b,rfl,rfl⟩|⟨i,rfl,rfl⟩|⟨z,rfl,rfl⟩|⟨a,vs,rfl,ha,rfl⟩|⟨a,vs,rfl,ha,rfl⟩;·cases ru;exact gP W.kitx_none I.o4 True.intro e (λz=>nomatch z) fin
 ·cases ru;exact gP W.kitx_bool I.o4 True.intro e (λz=>nomatch z) fin
 ·obtain⟨t,rfl⟩:=ru;exact gP W.kitx_int I.o4 True.intro e (λz=>nomatch z) fin
 ·obtain⟨t,rfl⟩:=ru;exact gP W.kitx_str I.o4 True.intro e (λz=>nomatch z) fin
 ·cases ru;obtain⟨its,_,pl,_⟩:=I.list ha;obtain⟨o,k,e1,e2,_⟩:=pl;exact gP W.kitx_list I.o4 ⟨o,e1,e2⟩ e (λz=>nomatch z) fin
 ·cases ru;obtain⟨its,_,pl,_⟩:=I.tuple ha;obtain⟨o,e1,e2,_⟩:=pl;exact gP W.kitx_tuple I.o4 ⟨o,e1,e2⟩ e (λz=>nomatch z) fin
def aj6:xf X E (.builtin "isinstance") isD:=by
 refine⟨_,aj4,λal H xs ds Q fr r h=>?_⟩;unfold isD at h;split at h
 ·rename_i d n;obtain⟨v,u,rfl,q,q2⟩:=kI.two r;cases q2;cases e:tyName d with
  |none=>rw[e]at h;exact h.elim
  |some T=>
   rw[e]at h;dsimp only at h;split at h
   ·rename_i hn;have hq:=h H (.refl H) _ (.bl _);cases q with
    |non=>cases e;exact⟨_,n,_,rfl,rfl,hn,.inl ⟨rfl,rfl⟩,hq⟩
    |bl b=>cases e;exact⟨_,n,_,rfl,rfl,hn,.inr<|.inl ⟨b,rfl,rfl⟩,hq⟩
    |int b=>cases e;exact⟨_,n,_,rfl,rfl,hn,.inr<|.inr<|.inl ⟨b,rfl,rfl⟩,hq⟩
    |str b=>cases e;exact⟨_,n,_,rfl,rfl,hn,.inr<|.inr<|.inr<|.inl ⟨b,rfl,rfl⟩,hq⟩
    |lst p _=>cases e;exact⟨_,n,_,rfl,rfl,hn,.inr<|.inr<|.inr<|.inr<|.inl ⟨_,_,rfl,p.elim (λz=>.inl z.2) KL.sq,rfl⟩,hq⟩
    |tup p _=>cases e;exact⟨_,n,_,rfl,rfl,hn,.inr<|.inr<|.inr<|.inr<|.inr ⟨_,_,rfl,p.elim (λz=>.inl z.2) .inr,rfl⟩,hq⟩
    |_=>cases e
   ·exact h.elim
 ·exact h.elim
end
def zj:bootBuiltins "isinstance"=some (.builtin "isinstance"):=by decide+kernel
def qM:bootBuiltins "len"=some (.builtin "len"):=by decide+kernel
def V2:bootBuiltins "abs"=some (.builtin "abs"):=by decide+kernel
def V3:bootBuiltins "max"=some (.builtin "max"):=by decide+kernel
def Qu:bootBuiltins "all"=some (.builtin "all"):=by decide+kernel
def CZ:bootBuiltins "int"=some (.type "int"):=by decide+kernel
def adf:bootBuiltins "bool"=some (.type "bool"):=by decide+kernel
def Am:bootBuiltins "str"=some (.type "str"):=by decide+kernel
def adg:bootBuiltins "tuple"=some (.type "tuple"):=by decide+kernel
section
variable{X:Cx}{E:XK}{x:Str}{pos:Pos}
inductive wB(mg:nO)(x:Str):D->Prop
 |int {i:Int} {t:Tok}:mg x=some (.int i t)->wB mg x (.int i)
 |str {z:Str} {t:Tok}:mg x=some (.str z t)->wB mg x (.str z)
def zu{d}(hg:Gl X x)(h:wB X.mg x d)(hdb:(x==("__debug__":Str))=false:=by decide):DE X E (.Name x pos) (dC d):=by
 cases h with
 |@int i t h=>exact Ws (v:=.int i) hg h ⟨t,rfl⟩ (λ_ _=>.int _) hdb
 |@str z t h=>exact Ws (v:=.str z) hg h ⟨t,rfl⟩ (λ_ _=>.str _) hdb
end
section
variable{P:Program}{w:World}{K:W.Frag}{mg:nO}{base:Heap}
def aoo{cn:Str}{st:Stmt}{fI:Addr}{fd:FuncData}{C:Addr}{field:Str}{k:Nat}{body:List Stmt}(c:CP K C fI field)(F:lO K "__init__" cn st fI fd)(S:lU ["self",field] ["self",field]<|j8 st){p1 p2 p3 p4:Pos}
    (hb:oM st=[.Assign [.Attribute (.Name "self" p1) field p2] (.Name field p3) p4])(h1:(j8 st).names.lookup ("self":Str)=some .local)(h2:(j8 st).names.lookup field=some .local)(hd:(field==("__debug__":Str))=false)(hd2:(field==("__classdict__":Str))=false):
    jZ P w K mg base vz (k+1) fI fd ["self",field] (wO C field):=by
 refine F.ok S (λvs H Q E h=>?_) (λcdv A outer s H vs Q E hr h=>?_);·obtain⟨e,t,v,rfl,_⟩:=h;rfl
 obtain⟨e,t,v,rfl,he,q⟩:=h;rw[hb];refine⟨_,aaa<|aqi c (JB (i:=0) rfl<|.inl h1) (JB (i:=1) rfl (.inl h2) hd hd2)<|by rfl,?_⟩;exact⟨v,rfl,.ref e,rfl,e,t,rfl,he,λdx h3 h4=>q dx h3 h4⟩
end
end P2
namespace Fx
open PySem
section
variable{prog:Program}{w:World}{A:Around}{E:mW}{h:Heap}{g:Array GenState}{d:Drawn}{t:Nat}{os:OsState}
variable{nm q:Str}{C N:Addr}{bs bm bmB:List Value}{hdct:Bool}{sn:List Str}{sub:List Value}{ab:Bool}{col:Option Bool}{dd:Option Addr}{k0 k1 k2 k3 k5:Option Value}{newId:String}
def akj{R:Result->Shared->Prop}(hC:h.get? C=some (excClassObj nm q C N bs bm hdct sn sub ab col dd k0 k1 k2 k3 k5 newId))(hob:bm.contains (.type "object")=true)
 (hx:h.get? x=some o)(hc:o.cls=.ref C)(hq:R (.ok<|.ret<|.ref C) ⟨h,g,d,t,os⟩):
   codeAny (model prog w) A (.call (.builtin "getset_descriptor.__get__") ⟨[.builtin "object.__class__",.ref x,.ref C],[]⟩) R ⟨h,g,d,t,os⟩:=by
  have Ry:(⟨h,g,d,t,os⟩:Shared).TypeIs (.builtin "object.__class__") "getset_descriptor":=eN;have ow:".".intercalate ("object.__class__".cutAt '.').dropLast="object":=by decide+kernel
  have Ax:(Value.ref C::bm).contains (.type<|".".intercalate ("object.__class__".cutAt '.').dropLast)=true:=by rw[ow,d8,hob,gJ]
  refine gm PySem.F.slot_gs_get.plain PySem.F.entry_gs_get (PySem.F.slot_gs_get.check _ _ _ _ _ _ _ _ Ry (PySem.F.args_gs_get _ _ _) ?_);repeat(any_goals(first|assumption|(with_reducible refine bL hx ?_;rw[hc])|(with_reducible refine dh hC ?_;rw[Ax])|wp_step))
  refine⟨gY _<|by decide+kernel,codeAny_builtin PySem.F.entry_object_class ?_⟩;repeat(any_goals(first|assumption|(with_reducible refine bL hx ?_;rw[hc])|wp_step))
def aki{tk}{Q:Fin->Shared->Prop}(hC:h.get? C=some (excClassObj nm q C N bs bm hdct sn sub ab col dd k0 k1 k2 k3 k5 newId))(hob:bm.contains (.type "object")=true)
 (l3:xV h C "__class__"<|some<|.builtin "object.__class__")(hx:h.get? x=some o)(hc:o.cls=.ref C)(hq:Q (.done<|.ret<|.ref C) ⟨h,g,d,t,os⟩):
   wpAny (model prog w) A (Builtin.«object.__getattribute__» ⟨[.ref x,.str "__class__" tk],[]⟩) Q E ⟨h,g,d,t,os⟩:=by
  have Ry:(⟨h,g,d,t,os⟩:Shared).TypeIs (.builtin "object.__class__") "getset_descriptor":=eN;have f5:=eN;have f6:=PySem.F.slot_gs_get.lookup;have f7:=PySem.F.slot_gs_set.lookup;repeat(any_goals(first|assumption|(with_reducible refine bL hx ?_;rw[hc])|with_reducible refine l3 _ _ _ _ _ _ _ _ ?_|wp_step))
  refine akj hC hob hx hc ?_;repeat(any_goals(first|assumption|wp_step))
def ake{Q:Unit->Shared->Prop}(hC:h.get? C=some (excClassObj nm q C N bs bm hdct sn sub ab col dd k0 k1 k2 k3 k5 newId))
 (hob:bm.contains (.type "BaseException")=true)(hx:h.get? x=some o)(hc:o.cls=.ref C)(hq:Q () ⟨h,g,d,t,os⟩):wpAny M A (checkBuiltinCall "BaseException.__getattribute__" ⟨[.ref x,nv],[]⟩) Q E ⟨h,g,d,t,os⟩:=by
  have hk:builtinKind "BaseException.__getattribute__"=some .slot:=by decide+kernel
  have hsp:splitId "BaseException.__getattribute__"=some ("BaseException","__getattribute__"):=by decide+kernel
  have Ax:(Value.ref C::bm).contains (.type "BaseException")=true:=by rw[d8,hob,gJ]
  have ha:=PySem.F.args_bexc_ga (.ref x) nv;simp only[checkBuiltinCall,hk,hsp];refine aD ?_;unfold isInstance;repeat(first|(with_reducible refine bL hx ?_;rw[hc])|(with_reducible refine dh hC ?_;rw[Ax])|wp_step)
  exact hq
def akh{tk}{Q:mW}(hC:h.get? C=some (excClassObj nm q C N bs bm hdct sn sub ab col dd k0 k1 k2 k3 k5 newId))(hb:bm.contains (.type "BaseException")=true)(hob:bm.contains (.type "object")=true)
 (l1:xV h C "__getattribute__"<|some<|.builtin "BaseException.__getattribute__")(l2:xV h C "__getattr__" none)(l3:xV h C "__class__"<|some<|.builtin "object.__class__")(hx:h.get? x=some o)(hc:o.cls=.ref C)(hq:Q (.ref C) ⟨h,g,d,t,os⟩):
   wpAny (model prog w) A (getAttrBy (.ref x) (.str "__class__" tk) false) Q E ⟨h,g,d,t,os⟩:=by
  have FB:=PySem.F.attr_ValueError;have f3:=FB.ga.bind (.ref x);have z2:(Value.builtin "BaseException.__getattribute__"==Value.builtin "object.__getattribute__")=false:=by decide+kernel
  have z1:(onTheHeap (Value.ref C)&&Value.builtin "BaseException.__getattribute__"==Value.builtin "object.__getattribute__")=false:=by rw[z2];rfl
  repeat(any_goals(first|assumption|(with_reducible refine bL hx ?_;rw[hc])|with_reducible refine l1 _ _ _ _ _ _ _ _ ?_|with_reducible refine l2 _ _ _ _ _ _ _ _ ?_|wp_step))
  refine gm FB.ga.plain PySem.F.entry_bexc_ga (ake hC hb hx hc<|aki hC hob l3 hx hc ?_);repeat(any_goals(first|assumption|wp_step))
def akg{Q:Option Value->Shared->Prop}(hC:h.get? C=some (excClassObj nm q C N bs bm hdct sn sub ab col dd k0 k1 k2 k3 k5 newId))(hb:bm.contains (.type "BaseException")=true)(hob:bm.contains (.type "object")=true)
 (l1:xV h C "__getattribute__"<|some<|.builtin "BaseException.__getattribute__")(l2:xV h C "__getattr__" none)(l3:xV h C "__class__"<|some<|.builtin "object.__class__")(hx:h.get? x=some o)(hc:o.cls=.ref C)(hq:Q (some<|.ref C) ⟨h,g,d,t+1,os⟩):
   wpAny (model prog w) A (getAttr? (.ref x) "__class__") Q E ⟨h,g,d,t,os⟩:=by
  unfold getAttr? getAttrBy?;repeat(any_goals(first|assumption|with_reducible apply akh hC hb hob l1 l2 l3 hx hc|wp_step))
end
end Fx
namespace L2
open PySem PySem.Spec PyProof.Rows
structure yV(K:W.Frag)(C:Addr):Prop where
 ob:∀h:Heap,K.In h->∃nm q N bs bm hdct sn sub ab col dd k0 k1 k2 k3 k5 newId,h.get? C=some (excClassObj nm q C N bs bm hdct sn sub ab col dd k0 k1 k2 k3 k5 newId)/\bm.contains (.type "BaseException")=true/\bm.contains (.type "object")=true
 ga:W.findIn K (.ref C) "__getattribute__"=some (some<|.builtin "BaseException.__getattribute__")
 gn:W.findIn K (.ref C) "__getattr__"=some none
 cl:W.findIn K (.ref C) "__class__"=some (some<|.builtin "object.__class__")
def CP.y{K:W.Frag}{C fI:Addr}{field:Str}(c:CP K C fI field)(cl:W.findIn K (.ref C) "__class__"=some (some<|.builtin "object.__class__")):yV K C:=by refine⟨λh k=>?_,c.ga,c.gn,cl⟩;obtain⟨bm,N,nm,qn,bs,sn,sub,ab,col,dd,k0,k1,k2,k3,k5,all⟩:=WX c.cls;obtain⟨hC,T,_⟩:=all _ k;exact⟨_,_,_,_,_,_,_,_,_,_,_,_,_,_,_,_,_,hC,T.hasType<|by rfl,T.hasType<|by rfl⟩
structure Ht(K:W.Frag)(C:Addr):Prop where
 cls:W.excIn K C [.type "ValueError",.type "Exception",.type "BaseException",.type "object"] "ValueError.__new__"=true
 kp:W.keepIn K (.ref C)=true
 ga:W.findIn K (.ref C) "__getattribute__"=some (some<|.builtin "BaseException.__getattribute__")
 gn:W.findIn K (.ref C) "__getattr__"=some none
 cl:W.findIn K (.ref C) "__class__"=some (some<|.builtin "object.__class__")
def Ht.y{K:W.Frag}{C:Addr}(c:Ht K C):yV K C:=by refine⟨λh k=>?_,c.ga,c.gn,c.cl⟩;obtain⟨bm,NS,nm,qn,bs,hdct,sn,sub,ab,col,dd,k0,k1,k2,k3,k5,mN,hC,hN,Dp,TL⟩:=ad1 k c.cls;exact⟨_,_,_,_,_,_,_,_,_,_,_,_,_,_,_,_,_,hC,TL.hasType<|by rfl,TL.hasType<|by rfl⟩
def amG{K:W.Frag}{x C:Addr}(c:yV K C):W.KitX K (.ref x) (.ref C) (λh=>∃o,h.get? x=some o/\o.cls=.ref C) where
 ty:=λM h k p=>by obtain⟨o,h1,h2⟩:=p;exact h2▸(W.Looks.ld h1).andThen .now
 it:=λM h k p=>by obtain⟨nm,q,N,bs,bm,hdct,sn,sub,ab,col,dd,k0,k1,k2,k3,k5,ni,hC,_⟩:=c.ob h k;intro A' Q' E' s' k' q';unfold isType loadHead;exact aD (wpAny_loadPart (k' _ _ hC)<|bf q')
 ne:=λh tp dd its n sl k htp=>by obtain⟨nm,q,N,bs,bm,hdct,sn,sub,ab,col,zp,k0,k1,k2,k3,k5,ni,hC,_⟩:=c.ob h k;refine Bool.eq_false_iff.mpr λz=>?_;have e:C=tp:=Value.ref.inj (beq_iff_eq.mp z);subst e;have z:=aV Obj.cls (Option.some.inj<|hC.symm.trans htp);have z2:Value.type "type"=Value.type "tuple":=z;exact absurd (Value.type.inj z2) (by decide)
 ca:=λ{prog w A E Q s} k p hq=>by obtain⟨o,h1,h2⟩:=p;obtain⟨nm,q,N,bs,bm,hdct,sn,sub,ab,col,zp,k0,k1,k2,k3,k5,ni,hC,e1,e2⟩:=c.ob _ k;obtain⟨h,g,d,t,os⟩:=s;exact Fx.akg hC e1 e2 (Ox k c.ga) (Ox k c.gn) (Ox k c.cl) h1 h2 hq
section
variable{X:Cx}
def aj5:sV X (.builtin "isinstance") (λxs H Q=>∃a c d cv u b,xs=[.ref a,cv]/\H a=some (QV a c d)/\yV X.K c/\(∀z,RelV cv z->z=u)/\W.kitOne X.K (.ref c) u=some b/\Q (.bl b) H):=by intro pins s σ H xs us Q I r h;obtain⟨a,c,d,cv,u,b,rfl,ha,yc,un,e,q⟩:=h;obtain⟨u1,u2,rfl,r1,r2⟩:=vals2 r;cases un u2 r2;cases r1;obtain⟨⟨oe,vs,h1,h2,h3,h4⟩,_,_⟩:=I.hok a _ ha;exact gP (amG yc) I.o4 ⟨oe,h1,h2⟩ e (λz=>nomatch z) λtk=>⟨.bl b,H,I.tok tk,rfl,q⟩
def anK{K:PySem.W.Frag}{W:Addr}(cW:yV K W){Ce:Addr}(hs:PySem.W.kitOne K (.ref Ce) (.ref W)=some true)(h:Heap)(g:Array GenState)(d:Drawn)(tk:Nat)(os:OsState)(e:Addr)(oe:Obj)(M:Model)(A:Around)(E:mW)(Q:Bool->Shared->Prop)
    (k:K.In h)(he:h.get? e=some oe)(ho:oe.cls=.ref Ce)(hq:Q true ⟨h,g,d,tk,os⟩):wpAny M A (excMatches (.ref e)<|.ref W) Q E ⟨h,g,d,tk,os⟩:=by
 obtain⟨nm,q,N,bs,bm,hdct,sn,sub,ab,col,zp,k0,k1,k2,k3,k5,ni,hC,e1,e2⟩:=cW.ob _ k;unfold PySem.W.kitOne at hs;split at hs
 ·rename_i z;have:Ce=W:=Value.ref.inj (beq_iff_eq.mp z);subst this;exact wpAny_excMatches_sub_self hC he ho e1 hq
 ·obtain⟨_,_,L⟩:=PySem.W.kit_cls (M:=M) k hs;have Ax:(Value.ref W::bm).contains (.type "BaseException")=true:=by rw[d8,e1,gJ]
  have f:=tc_notTuple;unfold excMatches;repeat(first|(with_reducible refine bL he ?_;rw[ho])|with_reducible refine bL hC ?_|(with_reducible refine dh hC ?_;rw[Ax])|wp_step)
  refine L.at ?_;repeat wp_step
  exact hq
end
end L2
namespace P2
open PySem L2 PySem.Spec
open PyProof.Rows hiding St
section
variable{X:Cx}{E:XK}{x:Str}{pos:Pos}
def aka(h:sV X f r)(h':sV X f r'):sV X f (λxs H Q=>r xs H Q\/r' xs H Q):=
 λpins s σ H xs us Q I rx q=>q.elim (h pins s σ H xs us Q I rx) (h' pins s σ H xs us Q I rx)
def adA:D->Option Value
 |.ref C=>some (.ref C)
 |.ty T=>some (.type T)
 |_=>none
def oZ(q:Addr->Value->Option Bool)(ds:List D):R D:=match ds with
 |[.exc c _ _,d]=>(match(adA d).bind (q c)with
  |some b=>.ok (.bl b)
  |none=>.bad)
 |ds=>isD ds
def Kz(K:W.Frag)(q:Addr->Value->Option Bool):Prop:=∀c u b,q c u=some b->yV K c/\W.kitOne K (.ref c) u=some b
def zm(hI:Kz X.K q):xf X E (.builtin "isinstance") (oZ q):=by
 obtain⟨r0,c0,d0⟩:=aj6 (X:=X) (E:=E);refine⟨_,aka aj5 c0,λal H xs ds Q fr r h=>?_⟩;unfold oZ at h;split at h
 ·rename_i c ns es d;obtain⟨v,u,rfl,p,p2⟩:=kI.two r;left;cases z:(adA d).bind (q c)with
  |none=>rw[z]at h;exact h.elim
  |some b=>
   rw[z]at h;have hq:=h H (.refl H) _ (.bl _);obtain⟨w,z1,z2⟩:=Option.bind_eq_some_iff.mp z;obtain⟨yc,kk⟩:=hI _ _ _ z2;have ha:∃a dx,v=.ref a/\H a=some (QV a c dx):=by
    cases p with
    |exc p1 p2 p3 p4 p5=>exact⟨_,_,rfl,p2⟩
    |Lj p1 p2=>exact⟨_,_,rfl,p2⟩
   obtain⟨a,dx,rfl,ha⟩:=ha;refine⟨a,c,dx,u,w,b,rfl,ha,yc,λy hy=>?_,kk,hq⟩;cases p2 with
   |ref C=>cases z1;exact hy
   |ty T=>cases z1;exact hy
   |_=>cases z1
 ·exact .inr (d0 al H xs ds Q fr r h)
mutual
def NZ:D->Option PyData
 |.non=>some .none
 |.bl b=>some (.bool b)
 |.int i=>some (.int i)
 |.str z=>some (.str z)
 |.tup ds=>(v9 ds).map .tuple
 |.lst ds=>(v9 ds).map .list
 |_=>none
def v9:List D->Option (List PyData)
 |[]=>some []
 |d::ds=>(NZ d).bind λp=>(v9 ds).map (p:: ·)
end
mutual
theorem T9(I:Inv X pins σ H s):∀{v} {d} {u} {p},Rep X.K al H v d->RelV v u->NZ d=some p->∃as,Reads s.heap u p as
 |_,_,_,_,.non,r,e=>by cases r;cases e;exact⟨_,.none⟩
 |_,_,_,_,.bl b,r,e=>by cases r;cases e;exact⟨_,.bool _⟩
 |_,_,_,_,.int b,r,e=>by obtain⟨t,rfl⟩:=r;cases e;exact⟨_,.int _ _⟩
 |_,_,_,_,.str b,r,e=>by obtain⟨t,rfl⟩:=r;cases e;exact⟨_,.str _ _⟩
 |_,_,_,_,.ty b,r,e=>by cases e
 |_,_,_,_,.ref b,r,e=>by cases e
 |_,_,_,_,.tup (vs:=vs) z q,r,e=>by cases r;have e':(v9 _).map PyData.tuple=some _:=e;obtain⟨ps,e1,rfl⟩:=Option.map_eq_some_iff.mp e';have z':uW X.K H _ vs:=z.elim (λz=>.inl z.2) .inr;obtain⟨its,rv,⟨o,h1,h2,n,h3⟩,_⟩:=I.tuple z';obtain⟨as,w⟩:=aau I q rv e1;exact⟨as,reads_tuple_at h1 h2 h3<|by simpa using w⟩
 |_,_,_,_,.lst (vs:=vs) z q,r,e=>by cases r;have e':(v9 _).map PyData.list=some _:=e;obtain⟨ps,e1,rfl⟩:=Option.map_eq_some_iff.mp e';have z':sE X.K H _ vs:=z.elim (λz=>.inl z.2) KL.sq;obtain⟨its,rv,⟨o,n,h1,h2,h3,h4⟩,_⟩:=I.list z';obtain⟨as,w⟩:=aau I q rv e1;exact⟨_,reads_list_at h1 h2 h4<|by simpa using w⟩
 |_,_,_,_,.exc _ _ _ _ _,r,e=>by cases e
 |_,_,_,_,.Lj _ _,r,e=>by cases e
theorem aau(I:Inv X pins σ H s):∀{vs} {ds} {us} {ps},kI X.K al H vs ds->Vals vs us->v9 ds=some ps->∃as,ReadsAll s.heap us ps as
 |_,_,_,_,.nil,r,e=>by cases r;cases e;exact⟨_,.nil⟩
 |_,_,_,_,.cons p q,r,e=>by
  cases r with
  |cons r1 r2=>obtain⟨p1,e1,e2⟩:=Option.bind_eq_some_iff.mp e;obtain⟨ps,e3,rfl⟩:=Option.map_eq_some_iff.mp e2;obtain⟨as,w1⟩:=T9 I p r1 e1;obtain⟨bs,w2⟩:=aau I q r2 e3;exact⟨_,.cons w1 w2⟩
end
end
section
variable{X:Cx}{E:XK}{tg iter elt:Expr}{ifs:List Expr}{scope:Scope}{pos:Pos}{fi:Ev->R (List D)}{l:List Nat}{a:D->Ev->Option Ev}{fc:Ev->R Bool}{fe:lA}{tn:Nat}{Nt:List Str}
def akE(i nm)(hc:X.calm=true)(hi:DI X E tg iter fi)(hg:∀fp s3 H3 C,DG (X.comp scope (Nt++[x]) [(x,c)] fp s3 H3 C) tg l a)(hl:∀j∈l,j<tn)(hf:∀fp s3 H3 C,Ci (X.comp scope (Nt++[x]) [(x,c)] fp s3 H3 C) ifs fc)
 (he:∀fp s3 H3 C,DE (X.comp scope (Nt++[x]) [(x,c)] fp s3 H3 C) (λ_ _ _=>False) elt fe)
 (hkind:scope.kind=.function)(hcell:∀y∈scope.names,y.2≠.cell)(hnames:∀x∈scope.names,x.2=.local->scope.names.lookup x.1=some .local)(ux:Nt.length=tn)
 (hN:X.N[i]?=some x)(hk:X.env.kindOf x=some .cell)(hcl:X.env.cells.lookup x=some c)(hclos:closureFor scope X.env=pure [(x,c)])(hrl:(relabel scope X.env).names=nm)
 (hnm:∀p∈nm,(p.2=.cell\/p.2=.free)->p.1=x)(vY:nm.lookup x=some .cell\/nm.lookup x=some .free)
 (hs:∀x,foldedSetIterable iter X.env x=pure x:=by intro _;rfl):Cj X E (.ListComp elt [⟨tg,iter,ifs,0⟩] scope pos) (uw fi tn [i] a fc fe):=by
  refine Wy (cl:=[(x,c)]) (Nc:=[x]) (ci:=[i]) hc hi hg hl hf he hclos hkind hcell hnames (.cons hN (.inl hk) (by rw[hcl];simp[List.lookup]) .nil) ux (λy d z=>?_) (λy z=>?_) (λy hy=>?_) hs
  ·by_cases w:y=x;·subst w;simp[List.lookup]at z;rw[hcl,z]
   ·have:(y==x)=false:=by simpa using w
    simp[List.lookup,this]at z
  ·rw[hrl]at z;have:y=x:=z.elim (λq=>hnm _ (b7 q)<|.inl rfl) λq=>hnm _ (b7 q) (.inr rfl);subst this;exact⟨c,by simp[List.lookup]⟩
  ·rw[bR]at hy;subst hy;rw[hrl];exact vY
def akD(i nm)(hc:X.calm=true)(hi:DI X E tg iter fi)(hg:∀fp s3 H3 C,DG (X.comp scope (Nt++[x]) [(x,c)] fp s3 H3 C) tg l a)(hl:∀j∈l,j<tn)(hf:∀fp s3 H3 C,Ci (X.comp scope (Nt++[x]) [(x,c)] fp s3 H3 C) ifs fc)
 (he:∀fp s3 H3 C,DE (X.comp scope (Nt++[x]) [(x,c)] fp s3 H3 C) (λ_ _ _=>False) elt fe)
 (hkind:scope.kind=.function)(hcell:∀y∈scope.names,y.2≠.cell)(hnames:∀x∈scope.names,x.2=.local->scope.names.lookup x.1=some .local)(ux:Nt.length=tn)
 (hN:X.N[i]?=some x)(hk:X.env.kindOf x=some .cell)(hcl:X.env.cells.lookup x=some c)(hclos:closureFor scope X.env=pure [(x,c)])(hrl:(relabel scope X.env).names=nm)
 (hnm:∀p∈nm,(p.2=.cell\/p.2=.free)->p.1=x)(vY:nm.lookup x=some .cell\/nm.lookup x=some .free)
 (hs:∀x,foldedSetIterable iter X.env x=pure x:=by intro _;rfl):DN X E (.ListComp elt [⟨tg,iter,ifs,0⟩] scope pos) (uw fi tn [i] a fc fe):=
  (akE i nm hc hi hg hl hf he hkind hcell hnames ux hN hk hcl hclos hrl hnm vY hs).dn
end
def Dw(q:Addr->Value->Option Bool)(W c:Addr):Bool:=q c (.ref W)==some true
def anD{K:W.Frag}{q:Addr->Value->Option Bool}{W:Addr}(hI:Kz K q)(yW:yV K W)(h:Heap)(g:Array GenState)(d:Drawn)(tk:Nat)(os:OsState)(e Ce:Addr)(oe:Obj)(M:Model)(A:Around)(E:mW)(Q:Bool->Shared->Prop)
    (k:K.In h)(hc:Dw q W Ce=true)(he:h.get? e=some oe)(ho:oe.cls=.ref Ce)(hq:Q true ⟨h,g,d,tk,os⟩):wpAny M A (excMatches (.ref e)<|.ref W) Q E ⟨h,g,d,tk,os⟩:=
 anK yW (hI _ _ _<|beq_iff_eq.mp hc).2 h g d tk os e oe M A E Q k he ho hq
open PySem.Builtin PySem.Builtin.Str
open PyProof.Rows hiding St
section
variable{prog:Program}{w:World}{A:Around}{E:mW}{s:Shared}{x y:PySem.Str}{t u:Tok}{Q:mW}
def atp(hy:(y.length==0)=false)(hz:x.length+2<=sizeLine)
 (hq:∀(l:List<|PySem.Str×Tok) k,l.map (·.1)=Txt.split x y->Q (.ref s.heap.objs.size) {s with heap:=s.heap.push {cls:=.type "list",data:=.seq (strValues l).toArray},toks:=k}):
   wpAny (model prog w) A (call (.builtin "str.split") [.str x t,.str y u]) Q E s:=by
  have hsz:x.length<=sizeLine:=by omega
  cases h1:(decide (x.length<y.length)||decide (strKind x<strKind y))
  ·cases hf:(occurrences x y 0 x.length<|x.length+1).isEmpty
   ·have al5:(partsBetween x (occurrences x y 0 x.length<|x.length+1) y.length).length<=sizeLine:=by
     have e:Txt.split x y=partsBetween x (occurrences x y 0 x.length<|x.length+1) y.length:=(aA<|dM h1).trans (aA<|dM hf);rw[<-e];exact aJ (split_le x y) hz
    refine iK dj (fY _ _ _) iu (ie _ _) (meets_str_split_sep x y t u h1 hy hf hsz al5) ?_;show wants Q E _ {s with toks:=_,heap:=s.heap.push {cls:=.type "list",data:=.seq (strsFrom s.toks<|partsBetween x (occurrences x y 0 x.length<|x.length+1) y.length).toArray}};rw[strsFrom_eq];exact hq (numbered s.toks _) _ ((numbered_texts _ _).trans ((aA<|dM h1).trans (aA<|dM hf)).symm)
   ·exact iK dj (fY _ _ _) iu (ie _ _) (meets_str_split_not_found x y t u h1 hy hf)
     (hq [(x,t)] _ ((aA<|dM h1).trans (au hf)).symm)
  ·exact iK dj (fY _ _ _) iu (ie _ _) (meets_str_split_cannot_occur x y t u h1)
    (hq [(x,t)] _ (au h1).symm)
end
theorem aio:∀(l:List<|PySem.Str×Tok),Vals ((l.map (·.1)).map V.str) (strValues l)
 |[]=>.nil
 |(a,t)::l=>.cons ⟨t,rfl⟩ (aio l)
section
variable{X:Cx}{E:XK}
def anI:Ew X "str.split" (λx xs H Q=>∃z y,x=.str z/\xs=[.str y]/\(y.length==0)=false/\z.length+2<=sizeLine/\∀p,H p=none->Q (.ref p) (upd H p<|.lst<|(Txt.split z y).map V.str)):=by intro pins s σ H x xs v us Q I rx rs h;obtain⟨z,y,rfl,rfl,hy,hz,q⟩:=h;obtain⟨t,rfl⟩:=rx;obtain⟨u,rfl,t',rfl⟩:=vals1 rs;refine atp hy hz λl k e=>?_;have hv:=aio l;rw[e]at hv;exact⟨.ref _,_,I.ae8 (t':=k) hv (by rw[az];exact aJ (split_le z y) hz),rfl,q _ I.fresh⟩
def Bv:D->jO
 |.str z,[.str y]=>if(y.length==0)=false/\z.length+2<=sizeLine then .ok (.lst<|(Txt.split z y).map D.str)else .bad
 |_,_=>.bad
theorem agX{K:W.Frag}{al:Addr->Prop}{H:Hp}:∀l:List PySem.Str,kI K al H (l.map V.str) (l.map D.str)
 |[]=>.nil
 |_::l=>.cons (.str _) (agX l)
def Yx:KD X E "str" "str.split" Bv:=by
 refine⟨_,anI,λal H x xs d ds Q fr rx rs h=>?_⟩;unfold Bv at h;split at h
 ·cases rx;obtain⟨v,rfl,q⟩:=kI.one rs;cases q;split at h
  ·rename_i z;exact⟨_,_,rfl,rfl,z.1,z.2,λp hp=>h _ (vg hp) _<|kI.M8 (agX _) hp<|fr p hp⟩
  ·exact h.elim
 ·exact h.elim
def Tc(i j:Int):Bool:=(decide (-18446744073709551616<i)&&decide (i<18446744073709551616))||(decide (-18446744073709551616<j)&&decide (j<18446744073709551616))
end
end P2
namespace P2
open PySem L2 PySem.Spec
open PyProof.Rows hiding St
def xF{CX:vL}{P:Program}{w:World}{K:W.Frag}{mg:nO}{base:Heap}{N:List Str}{qual:Str}{scope:Scope}{f:Addr}{cd:Value}{A:Around}{outer:List Env}{s:Shared}{H:Hp}{E:XK}:
    PassesOwn (model (nG CX P w K mg base N qual scope f cd A outer s H E).prog (nG CX P w K mg base N qual scope f cd A outer s H E).w) (nG CX P w K mg base N qual scope f cd A outer s H E).A (nG CX P w K mg base N qual scope f cd A outer s H E).env (nG CX P w K mg base N qual scope f cd A outer s H E).xe:=
 PassesOwn.leaving (Q₁:=λe Og=>CX outer H s E e Og)
section
variable{X:Cx}{E:XK}{e a b c tg:Expr}{f fa fb fc:lA}{pos:Pos}
def asn(i j:Nat)(fs:Ev->R (List D)):lG:=λρ=>toS (fs ρ) λds=>match ds with
 |[d1,d2]=>if i<ρ.length/\j<ρ.length then .nx ((ρ.set i<|.sh d1).set j (.sh d2))else .bad
 |_=>.bad
def ag6:D->D->Option Bool
 |.non,.non=>some true
 |.bl a,.bl b=>some (a==b)
 |.bl _,.non=>some false
 |.int _,.non=>some false
 |.str _,.non=>some false
 |.tup _,.non=>some false
 |.lst _,.non=>some false
 |_,_=>none
def XQ(x y:D):R D:=match ag6 x y with
 |some b=>.ok (.bl b)
 |none=>.bad
def XS(x y:D):R D:=match ag6 x y with
 |some b=>.ok (.bl<|!b)
 |none=>.bad
def qI:D->Option Int->Option Int->R D
 |.tup ds,lo,hi=>if¬(HT.mJ ds.length 0 lo=0/\HT.mJ ds.length ds.length hi=ds.length)then .ok (.tup<|cutD ds lo hi)else .bad
 |d,lo,hi=>Oo d lo hi
def JT:Vs X E qI:=by
 obtain⟨r0,s0,d0⟩:=atg (X:=X) (E:=E);refine⟨_,atj.or s0,λal H x dx lo hi Q fr rx h=>?_⟩;unfold qI at h;split at h
 ·obtain⟨a,vs,rfl,h1,h2⟩:=rx.J1;split at h
  ·rename_i z;exact .inl ⟨a,vs,rfl,h1,by rw[h2.length];exact z,λp hp=>h _ (vg hp) _ ((h2.cut lo hi).abQ hp (fr p hp))⟩
  ·exact h.elim
 ·exact .inr (d0 _ _ _ _ _ _ _ fr rx h)
end
open PyProof.Rows hiding St
section
variable{X:Cx}{E:XK}
def uM(x:D)(ys:List D):Option Bool:=(NZ x).bind λp=>(v9 ys).bind λps=>if(PyData.canLayAll0 ps&&PyData.canLay0 p&&decide (p.depth<=63))=true then some (ps.any λy=>PyData.eqv y p)else none
def mQ(x y:D):R D:=match y with
 |.lst ys=>(match uM x ys with
  |some b=>.ok (.bl b)
  |none=>.bad)
 |.tup ys=>(match uM x ys with
  |some b=>.ok (.bl b)
  |none=>.bad)
 |_=>vH x y
def Gx(x y:D):R D:=match y with
 |.lst ys=>(match uM x ys with
  |some b=>.ok (.bl<|!b)
  |none=>.bad)
 |.tup ys=>(match uM x ys with
  |some b=>.ok (.bl<|!b)
  |none=>.bad)
 |_=>.bad
def aev(I:Inv X pins σ H s)(hu:X.A.units+64<cLine){y d}(rd:Rep X.K al H x d)(rl:Rep X.K al H y (.lst ys)\/Rep X.K al H y (.tup ys))(rx:RelV x u)(ry:RelV y v)(e:uM d ys=some b):
    ∃p ps as bs,(Reads s.heap v (.list ps) as\/Reads s.heap v (.tuple ps) as)/\Reads s.heap u p bs/\PyData.canLayAll0 ps=true/\PyData.canLay0 p=true/\X.A.units+1+min (PyData.depthAll ps) p.depth<cLine/\(ps.any λy=>PyData.eqv y p)=b:=by
 obtain⟨p,e1,e2⟩:=Option.bind_eq_some_iff.mp e;obtain⟨ps,e3,e4⟩:=Option.bind_eq_some_iff.mp e2;split at e4
 ·rename_i z;simp only[aK,aM]at z;obtain⟨bs,w2⟩:=T9 I rd rx e1;have:=iD (PyData.depthAll ps) p.depth;rcases rl with rl|rl
  ·obtain⟨as,w1⟩:=T9 (p:=.list ps) I rl ry (show(v9 ys).map PyData.list=some _ by rw[e3];rfl);exact⟨p,ps,as,bs,.inl w1,w2,z.1.1,z.1.2,by omega,Option.some.inj e4⟩
  ·obtain⟨as,w1⟩:=T9 (p:=.tuple ps) I rl ry (show(v9 ys).map PyData.tuple=some _ by rw[e3];rfl);exact⟨p,ps,as,bs,.inr w1,w2,z.1.1,z.1.2,by omega,Option.some.inj e4⟩
 ·cases e4
def xD(hu:X.A.units+64<cLine):rK X E (compareOp .In) mQ:=by
 obtain⟨r0,o0,d0⟩:=Tf (X:=X) (E:=E);refine⟨λx y H Q=>(∃al d ys b,Rep X.K al H x d/\(Rep X.K al H y (.lst ys)\/Rep X.K al H y (.tup ys))/\uM d ys=some b/\Q (.bl b) H)\/r0 x y H Q,λpins s σ H x y v u Q I rx ry h=>?_,λal H x y dx dy Q fr rx ry h=>?_⟩
 ·rcases h with⟨al,d,ys,b,h1,h2,h3,h4⟩|h
  ·obtain⟨p,ps,as,bs,w1,w2,w3,w4,w5,w6⟩:=aev I hu h1 h2 rx ry h3;rcases w1 with w1|w1;·exact SeqAt.in_list_reads w1 w2 w3 w4 w5 (by rw[w6];exact⟨.bl b,H,I,rfl,h4⟩)
   ·exact SeqAt.in_tuple_reads w1 w2 w3 w4 w5 (by rw[w6];exact⟨.bl b,H,I,rfl,h4⟩)
  ·exact o0 pins s σ H x y v u Q I rx ry h
 ·unfold mQ at h;split at h
  ·rename_i ys;cases q:uM dx ys with
   |none=>rw[q]at h;exact h.elim
   |some b=>rw[q]at h;exact .inl ⟨al,dx,ys,b,rx,.inl ry,q,h H (.refl H) _<|.bl b⟩
  ·rename_i ys;cases q:uM dx ys with
   |none=>rw[q]at h;exact h.elim
   |some b=>rw[q]at h;exact .inl ⟨al,dx,ys,b,rx,.inr ry,q,h H (.refl H) _<|.bl b⟩
  ·exact .inr (d0 _ _ _ _ _ _ _ fr rx ry h)
def afK(hu:X.A.units+64<cLine):rK X E (compareOp .NotIn) Gx:=by
 refine⟨λx y H Q=>∃al d ys b,Rep X.K al H x d/\(Rep X.K al H y (.lst ys)\/Rep X.K al H y (.tup ys))/\uM d ys=some b/\Q (.bl<|!b) H,λpins s σ H x y v u Q I rx ry h=>?_,λal H x y dx dy Q fr rx ry h=>?_⟩
 ·obtain⟨al,d,ys,b,h1,h2,h3,h4⟩:=h;obtain⟨p,ps,as,bs,w1,w2,w3,w4,w5,w6⟩:=aev I hu h1 h2 rx ry h3;rcases w1 with w1|w1;·exact SeqAt.notIn_list_reads w1 w2 w3 w4 w5 (by rw[w6];exact⟨.bl (!b),H,I,rfl,h4⟩)
  ·exact SeqAt.notIn_tuple_reads w1 w2 w3 w4 w5 (by rw[w6];exact⟨.bl<|!b,H,I,rfl,h4⟩)
 ·unfold Gx at h;split at h
  ·rename_i ys;cases q:uM dx ys with
   |none=>rw[q]at h;exact h.elim
   |some b=>rw[q]at h;exact⟨al,dx,ys,b,rx,.inl ry,q,h H (.refl H) _<|.bl<|!b⟩
  ·rename_i ys;cases q:uM dx ys with
   |none=>rw[q]at h;exact h.elim
   |some b=>rw[q]at h;exact⟨al,dx,ys,b,rx,.inr ry,q,h H (.refl H) _<|.bl<|!b⟩
  ·exact h.elim
end
end P2
namespace L2
open PySem PySem.Spec PyProof.Rows
section
variable{X:Cx}{pos:Pos}
end
end L2
namespace P2
open PySem L2 PySem.Spec
open PyProof.Rows hiding St
section
variable{X:Cx}{E:XK}{a b c:Expr}{pos:Pos}
end
inductive Ep:V->D->Prop
 |non:Ep .non .non
 |bl (b:Bool):Ep (.bl b) (.bl b)
 |int (i:Int):Ep (.int i) (.int i)
 |str (x:Str):Ep (.str x) (.str x)
inductive Er:List V->List D->Prop
 |nil:Er [] []
 |cons {v:V} {d:D} {vs:List V} {ds:List D}:Ep v d->Er vs ds->Er (v::vs) (d::ds)
def Ep.rep{K:W.Frag}{al:Addr->Prop}{H:Hp}{v:V}{d:D}(h:Ep v d):Rep K al H v d:=by
 cases h with
 |non=>exact .non
 |bl b=>exact .bl b
 |int i=>exact .int i
 |str x=>exact .str x
theorem Er.agV{K:W.Frag}{al:Addr->Prop}{H:Hp}:∀{vs:List V} {ds:List D},Er vs ds->kI K al H vs ds
 |_,_,.nil=>.nil
 |_,_,.cons p q=>.cons p.rep q.agV
structure Kw(K:W.Frag)(mg:nO)(x:Str)(ds:List D):Prop where
 ex:∃(a:Addr) (vs:List V),mg x=some (.ref a)/\KT K a vs/\Er vs ds
def akx{pos}(hg:Gl X x)(h:Kw X.K X.mg x ds)(hdb:(x==("__debug__":Str))=false:=by decide):DE X E (.Name x pos) (dC (.tup ds)):=by obtain⟨a,vs,h1,h2,h3⟩:=h.ex;exact Ws (v:=.ref a) hg h1 rfl (λ_ _=>.tup (.inr h2) h3.agV) hdb
theorem ahF:∀l:List (Str×Tok),Vals (l.map λp=>V.str p.1) (l.map λp=>Value.str p.1 p.2)
 |[]=>.nil
 |(_,t)::l=>.cons ⟨t,rfl⟩ (ahF l)
theorem ahE:∀l:List (Str×Tok),Er (l.map λp=>V.str p.1) (l.map λp=>D.str p.1)
 |[]=>.nil
 |(_,_)::l=>.cons (.str _) (ahE l)
def Kw.strs{K:W.Frag}{mg:nO}{l:List<|Str×Tok}(hm:mg x=some (.ref a))(hl:K.lookup a=some ⟨.type "tuple",dd,.seq (l.map λp=>Value.str p.1 p.2).toArray n,sl⟩)(hz:l.length<=sizeLine):
    Kw K mg x (l.map λp=>.str p.1):=by
 refine⟨a,l.map λp=>.str p.1,hm,⟨_,_,n,hl,rfl,rfl,by simpa using hz,?_⟩,?_⟩
 ·rw[List.toList_toArray];exact ahF l
 ·exact ahE l
open PyProof.Rows hiding St
section
variable{X:Cx}{E:XK}{e:Expr}{fn:Ev->R (List D)}{pos:Pos}
def akJ(i)(hN:X.N.Nodup)(hi:X.N[i]?=some x)(hx:Loc X.env.scope x)(he:Cj X E e fn)(hs:swapsWith e (some<|.Name x pos') pos.line X.env=pure true:=by rfl)(hf:X.fn x=true\/X.env.scope.names.lookup x=some .local:=by first|exact .inl rfl|exact .inr rfl|assumption):
    DS X E (.Assign [.Name x pos'] e pos) (lR i<|rO fn):=by
 obtain⟨t,_,p,r⟩:=he;refine⟨_,aqo hN hi hx p hs hf,λP H0 al H σ ρ D s h=>?_⟩;have h':qw X.K P H0 E D al H (toS (fn ρ) λds=>if i<ρ.length then .nx (ρ.set i<|.sh<|.lst ds)else .bad):=by
  unfold lR rO at h;cases q:fn ρ with
  |ok ds=>rw[q]at h;exact h
  |ex c ns es=>rw[q]at h;exact h
  |bad=>rw[q]at h;exact h.elim
 refine r _ _ _ _ _ _ _ s (Aft.mono (qw.Jv h' s) λds H1 s1 h1 q vs hq rv=>?_);by_cases z:i<ρ.length
 ·simp only[z,dG]at h1;have sm:=vg (K:=X.K) (o:=HO.lst vs) hq;exact h1 al _ _ (.of sm) (((s.grow s1).grow sm).set z (rv.M8 hq<|(s.grow s1).fresh q hq))
 ·simp only[z,fB]at h1;exact h1.elim
end
open PyProof.Rows hiding St
section
variable{X:Cx}{E:XK}{tg iter elt:Expr}{ifs:List Expr}{scope:Scope}{pos:Pos}{fi:Ev->R (List D)}{l:List Nat}{a:D->Ev->Option Ev}{fc:Ev->R Bool}{fe:lA}{tn:Nat}{Nt:List Str}
def akF{y}(i j){d}(nm)(hxy:x≠y)(hc:X.calm=true)(hi:DI X E tg iter fi)(hg:∀fp s3 H3 C,DG (X.comp scope (Nt++[x,y]) [(y,d),(x,c)] fp s3 H3 C) tg l a)(hl:∀j∈l,j<tn)(hf:∀fp s3 H3 C,Ci (X.comp scope (Nt++[x,y]) [(y,d),(x,c)] fp s3 H3 C) ifs fc)
 (he:∀fp s3 H3 C,DE (X.comp scope (Nt++[x,y]) [(y,d),(x,c)] fp s3 H3 C) (λ_ _ _=>False) elt fe)
 (hkind:scope.kind=.function)(hcell:∀y∈scope.names,y.2≠.cell)(hnames:∀x∈scope.names,x.2=.local->scope.names.lookup x.1=some .local)(ux:Nt.length=tn)
 (hN:X.N[i]?=some x)(hk:X.env.kindOf x=some .cell)(hcl:X.env.cells.lookup x=some c)(hN2:X.N[j]?=some y)(hk2:X.env.kindOf y=some .cell)(aew:X.env.cells.lookup y=some d)(hclos:closureFor scope X.env=pure [(y,d),(x,c)])(hrl:(relabel scope X.env).names=nm)
 (hnm:∀p∈nm,(p.2=.cell\/p.2=.free)->p.1=x\/p.1=y)(vY:∀z∈[x,y],nm.lookup z=some .cell\/nm.lookup z=some .free)
 (hs:∀x,foldedSetIterable iter X.env x=pure x:=by intro _;rfl):Cj X E (.ListComp elt [⟨tg,iter,ifs,0⟩] scope pos) (uw fi tn [i,j] a fc fe):=by
  have b1:(x==y)=false:=by simpa using hxy
  have l1:([(y,d),(x,c)]:List<|Str×Addr).lookup x=some c:=by simp[List.lookup,b1]
  have l2:([(y,d),(x,c)]:List<|Str×Addr).lookup y=some d:=by simp[List.lookup]
  refine Wy (cl:=[(y,d),(x,c)]) (Nc:=[x,y]) (ci:=[i,j]) hc hi hg hl hf he hclos hkind hcell hnames (.cons hN (.inl hk) (by rw[hcl,l1])<|.cons hN2 (.inl hk2) (by rw[aew,l2]) .nil) ux (λz e q=>?_) (λz q=>?_) (λz hz=>?_) hs
  ·by_cases w:z=y;·subst w;rw[l2]at q;cases q;exact aew
   ·by_cases w2:z=x;·subst w2;rw[l1]at q;cases q;exact hcl
    ·have e1:(z==y)=false:=by simpa using w
     have e2:(z==x)=false:=by simpa using w2
     simp[List.lookup,e1,e2]at q
  ·rw[hrl]at q;have:z=x\/z=y:=q.elim (λq=>hnm _ (b7 q)<|.inl rfl) λq=>hnm _ (b7 q) (.inr rfl);rcases this with rfl|rfl;·exact⟨c,l1⟩
   ·exact⟨d,l2⟩
  ·rw[hrl];exact vY z hz
end
section
variable{X:Cx}{E:XK}
def Hb:List D->Option (List PySem.Str)
 |[]=>some []
 |.str x::r=>(Hb r).map (x:: ·)
 |_=>none
def R7:D->jO
 |.str sep,[.lst ds]=>(match Hb ds with
  |some xs=>if JoinOk sep xs=true then .ok (.str<|Txt.join sep xs)else .bad
  |none=>.bad)
 |_,_=>.bad
theorem ahD{K:W.Frag}{al:Addr->Prop}{H:Hp}:∀{vs:List V} {ds:List D} {xs:List PySem.Str},kI K al H vs ds->Hb ds=some xs->vs=xs.map V.str
 |_,_,_,.nil,e=>by cases e;rfl
 |_,_,_,.cons r q,e=>by
  cases r with
  |str x=>obtain⟨ys,e1,rfl⟩:=Option.map_eq_some_iff.mp (show(Hb _).map (x:: ·)=some _ from e);rw[ahD q e1];rfl
  |_=>cases e
theorem aip:∀{xs:List PySem.Str} {us},Vals (xs.map V.str) us->∃l:List (PySem.Str×Tok),us=strValues l/\l.map (·.1)=xs
 |[],_,.nil=>⟨[],rfl,rfl⟩
 |x::xs,_,.cons r q=>by obtain⟨t,rfl⟩:=r;obtain⟨l,rfl,e⟩:=aip q;exact⟨(x,t)::l,rfl,by simp[e]⟩
def anF:Ew X "str.join" (λx xs H Q=>∃sep ys p,x=.str sep/\xs=[.ref p]/\sE X.K H p (ys.map V.str)/\JoinOk sep ys=true/\Q (.str<|Txt.join sep ys) H):=by intro pins s σ H x xs v us Q I rx rs h;obtain⟨sep,ys,p,rfl,rfl,hq,ok,q⟩:=h;obtain⟨t,rfl⟩:=rx;obtain⟨u,rfl,ru⟩:=vals1 rs;cases ru;obtain⟨its,rv,pl,_⟩:=I.list hq;obtain⟨l,rfl,e⟩:=aip rv;exact SC.join pl.isList e ok λt' k=>⟨.str _,H,I.tok _,⟨_,rfl⟩,q⟩
def anG:KD X E "str" "str.join" R7:=by
 refine⟨_,anF,λal H x xs d ds Q fr rx rs h=>?_⟩;unfold R7 at h;split at h
 ·cases rx;obtain⟨v,rfl,q⟩:=kI.one rs;split at h
  ·rename_i ys e;split at h
   ·rename_i ok;obtain⟨a,vs,rfl,h1,h2⟩:=q.Gv;have ev:=ahD h2 e;subst ev;exact⟨_,ys,a,rfl,rfl,h1,ok,h H (.refl H) _<|.str _⟩
   ·exact h.elim
  ·exact h.elim
 ·exact h.elim
end
open PyProof.Rows hiding St
section
variable{X:Cx}{E:XK}{a b:Expr}{fa fb:lA}{pos:Pos}
end
open PyProof.Rows hiding St
section
variable{X:Cx}{E:XK}
def anA:jO
 |[.int i,.int j]=>.ok (.int<|if j<i then j else i)
 |_=>.bad
end
end P2
namespace TM
open PySem PySem.NumText PySem.StrLaws Builtin Builtin.Str
def jB(x:Str):List Nat:=x.cps.toList
def ext{y}(h:jB x=jB y):x=y:=by obtain⟨x⟩:=x;obtain⟨y⟩:=y;have:x=y:=Array.toList_inj.mp h;rw[this]
def qi(x y):jB (x++y)=jB x++jB y:=by show(x.cps++y.cps).toList=x.cps.toList++y.cps.toList;simp
def tH(x:Str):x.length=(jB x).length:=by simp[Str.length,jB]
def num(m:Nat):List Nat:=(Nat.toDigits 10 m).map Char.toNat
def Wc(m):jB (Str.ofString<|toString ((m:Nat):Int))=num m:=W.KIN.signs_num m
def S9(m):digitsVal (num m)=m:=W.KIN.val_back m
def akB{c:Char}(h:c.isDigit=true):48<=c.toNat/\c.toNat<=57:=by unfold Char.isDigit at h;simp only[aK,aM,ge_iff_le]at h;obtain⟨h1,h2⟩:=h;have a:(48:UInt32).toNat<=c.val.toNat:=UInt32.le_iff_toNat_le.mp h1;have b:c.val.toNat<=(57:UInt32).toNat:=UInt32.le_iff_toNat_le.mp h2;exact⟨a,b⟩
def Nm(m):AllDigits (num m):=by intro c hc;obtain⟨ch,h,rfl⟩:=List.mem_map.mp hc;exact akB (Nat.isDigit_of_mem_toDigits (by decide) (by decide) h)
def Np(m):num m≠[]:=by intro h;have:=S9 m;rw[h]at this;have e:m=0:=this.symm;subst e;exact absurd h (by decide)
def Canon(cs:List Nat):Prop:=AllDigits cs/\cs≠[]/\(cs=[48]\/∃c r,cs=c::r/\c≠48)
def anZ(m):Canon (num m):=by
 refine⟨Nm m,Np m,?_⟩;have hd:=Nm m;cases q:num m with
 |nil=>exact absurd q (Np m)
 |cons c r=>
  by_cases hc:c=48
  ·left;subst hc;cases r with
   |nil=>rfl
   |cons d r=>
    exfalso;have e:=toDigits_all (num m) hd;rw[S9,q,List.dropWhile_cons,au<|by rfl]at e;have l1:(num m).length=r.length+2:=by rw[q];rfl
    have l2:(List.dropWhile (λx=>x==48)<|d::r).length<=r.length+1:=List.Sublist.length_le (List.dropWhile_sublist _);unfold num at l1;rw[e,az]at l1;cases z:List.dropWhile (λx=>x==48) (d::r)with
    |nil=>rw[z]at l1;simp at l1
    |cons a b=>rw[z]at l1 l2;simp only[az,ak]at l1 l2;omega
  ·right;exact⟨c,r,rfl,hc⟩
def YH(h:m<10):num m=[48+m]:=by
 have:∀m:Nat,m<10->num m=[48+m]:=by decide
 exact this m h
def an1(h:10<=m):num m=num (m/10)++[48+m%10]:=by have hm:m%10<10:=Nat.mod_lt m (by decide);have t:Nat.toDigits 10 (m/10)++Nat.toDigits 10 (m%10)=Nat.toDigits 10 (10*(m/10)+m%10):=Nat.toDigits_append_toDigits (by decide) (by omega) hm;rw[Nat.div_add_mod]at t;rw[<-YH hm];unfold num;rw[<-t,bU]
def Gz{k}:∀{m},m<10^(k+1)->(num m).length<=k+1:=by
 induction k with
 |zero=>intro m h;rw[YH<|by omega];simp
 |succ k ih=>
  intro m h;by_cases hm:m<10;·rw[YH hm];simp
  ·rw[an1<|by omega,aq];have:m/10<10^(k+1):=by rw[Nat.pow_succ]at h;omega
   have:=ih this;simp only[bF];omega
def auQ:∀cs,AllDigits cs->digitsVal cs<10^cs.length:=by
 intro cs;induction h:cs.length generalizing cs with
 |zero=>intro _;rw[List.length_eq_zero_iff.mp h];decide
 |succ n ih=>
  intro hd;have hne:cs≠[]:=by intro e;rw[e]at h;simp at h
  have e:=cJ hne;generalize cs.dropLast=ini at e;generalize cs.getLast hne=c at e;subst e;rw[digitsVal_snoc];have h1:=ih ini (by rw[aq]at h;simpa using h) (λd Mx=>hd d<|dD _ Mx);have h2:=hd c (bD _<|by simp);rw[Nat.pow_succ];omega
def two(n:Nat):List Nat:=[48+n/10,48+n%10]
def intText_of(h:AllDigits<|jB x)(h1:jB x≠[])(h2:x.length<=640):intText? x=some ((digitsVal<|jB x:Nat):Int):=intText_digits h h1 (by omega)
def sx(n d:Nat):Option Int->Nat
 |none=>d
 |some v=>if v<0 then(v+(n:Int)).toNat else min v.toNat n
def Ot(n d)(h:d<=n)(o):sx n d o<=n:=by
 cases o with
 |none=>exact h
 |some i=>show(if i<0 then(i+(n:Int)).toNat else min i.toNat n)<=n;split<;>omega
def adx(i:Int)(n d:Nat):max 0 (min (if i<0 then i+(n:Int)else i) n)=((sx n d<|some i:Nat):Int):=by show _=(((if i<0 then(i+(n:Int)).toNat else min i.toNat n):Nat):Int);split<;>omega
def ady{k n:Nat}(h:k<=n):max 0 (min (if(k:Int)<0 then(k:Int)+n else k) n)=(k:Int):=by rw[aA<|by omega];omega
def aeG(l u n):strSliceIndices l u 1 n=strSliceIndices (some ((sx n 0 l:Nat):Int)) (some ((sx n n u:Nat):Int)) 1 n:=by unfold strSliceIndices;simp only[show(1:Int)>0 by decide,dG,ady<|Ot n 0 (dY _) l,ady<|Ot n n (aB _) u];cases l<;>cases u<;>simp only[adx _ n 0,adx _ n n]<;>rfl
def Qz(x l u):jB (Txt.slice x l u)=((jB x).drop (sx (jB x).length 0 l)).take (sx (jB x).length (jB x).length u - sx (jB x).length 0 l):=by
 have hn:x.length=(jB x).length:=tH x;have e:Txt.slice x l u=sliceText x (some ((sx x.length 0 l:Nat):Int)) (some ((sx x.length x.length u:Nat):Int)):=by unfold Txt.slice sliceText;rw[<-aeG]
 rw[<-hn];by_cases h:sx x.length 0 l<=sx x.length x.length u;·rw[e,sliceText_nat x h<|Ot _ _ (aB _) _];rfl
 ·have h0:sx x.length x.length u - sx x.length 0 l=0:=by omega
  rw[h0,List.take_zero];unfold Txt.slice;have z:strSliceIndices l u 1 x.length=[]:=by
   rw[aeG];have s1:=Ot x.length 0 (dY _) l;have s2:=Ot x.length x.length (aB _) u;unfold strSliceIndices;simp only[show(1:Int)>0 by decide,dG];have a1:¬((sx x.length 0 l:Nat):Int)<0:=by omega
   have a2:¬((sx x.length x.length u:Nat):Int)<0:=by omega
   simp only[a1,a2,fB];have e1:max 0 (min ((sx x.length 0 l:Nat):Int) x.length)=((sx x.length 0 l:Nat):Int):=by omega
   have e2:max 0 (min ((sx x.length x.length u:Nat):Int) x.length)=((sx x.length x.length u:Nat):Int):=by omega
   rw[e1,e2];unfold sliceRange;simp only[show(1:Int)>0 by decide,dG];split;·omega
   ·simp
  rw[z];by_cases hx:x.length=0
  ·simp only[bu,hx];have hc:jB x=[]:=List.length_eq_zero_iff.mp (by rw[<-tH];exact hx);simpa [jB]using hc
  ·have:¬((1:Int)==1&&([]:List Nat).length==x.length)=true:=by simp;omega
   rw[aA this];rfl
def Jd(x c):Txt.contains x ⟨#[c]⟩=decide (c∈jB x):=found_one x c
def Yu{l:List Nat}{f:Nat->Bool}(h1:∀c<128,decide (c∈l)=f c)(h2:∀x∈l,x<128)(h3:∀c,128<=c->f c=false)(c:Nat):decide (c∈l)=f c:=by
 by_cases h:c<128;·exact h1 c h
 ·rw[h3 c<|by omega];exact aC λz=>h (h2 c z)
def ahz(x):Txt.startswith x (Str.ofString "0")=decide ((jB x).head?=some 48):=by
 obtain⟨⟨l⟩⟩:=x;unfold Txt.startswith subAt;cases l with
 |nil=>rfl
 |cons c r=>
  have h1:(Str.ofString "0").length=1:=by decide
  have h2:(Str.ofString "0").cps=#[48]:=by decide
  rw[h1,h2];show(decide (0+1<=(c::r).length)&&((c::r).toArray.extract 0 (0+1)==#[48]))=_;have:((c::r).toArray.extract 0 (0+1))=#[c]:=by simp
  rw[this,bQ];simp[jB]
end TM
namespace P2
open PySem L2
theorem HS{a:D->Ev->Option Ev}{c:Ev->R Bool}{e:lA}(oG:D->Ev)(h:D->D):∀ds,(∀d∈ds,a d uU=some (oG d)/\c (oG d)=.ok true/\e (oG d)=.ok (h d))->sH a c e uU ds=some (ds.map h)
 |[],_=>rfl
 |d::r,H=>by obtain⟨h1,h2,h3⟩:=H d (bH ..);unfold sH;rw[h1];simp only[dR,h2,h3,Nu,dG];rw[HS oG h r λx hx=>H x<|aW _ hx];rfl
theorem Qt{α:Type}(f:α->Bool):∀l:List α,vB (l.map λx=>.bl<|f x)=some (l.map f)
 |[]=>rfl
 |x::l=>by show(vB<|l.map λx=>.bl<|f x).map (f x:: ·)=_;rw[Qt f l];rfl
def size_of(h:n<=1000000):n<=sizeLine:=aJ h (by decide)
def bits_le{i:Int}{k}(h:i.natAbs<2^k):bits i<=k:=intBits_le_iff.mpr h
def log2_lt{i:Int}{k}(hk:0<k)(h:i.natAbs<2^k):i.natAbs.log2<k:=by
 by_cases z:i.natAbs=0;·rw[z];exact hk
 ·exact(Nat.log2_lt z).mpr h
section
variable{α β:Type}{a:α}{c:Addr}{ns:List Str}{es:List D}{k:α->RT}{h:α->R β}{ρ:Ev}{g u:lG}{f fa fb:lA}{fc fd:Ev->R Bool}{fs:Ev->R (List D)}{i j:Int}{x y:Str}{b b2:Bool}{ds WD:List D}{d:D}{n m:Nat}{gd gd2:D->D->R D}{g1:D->R D}{gl:jO}{gt:D->jO}
variable{t:String}{g3:D->Option Int->Option Int->R D}{fl fu:Ev->R (Option Int)}{cs:List Nat}{ga:D->Ev->Option Ev}{lo hi:Option Int}{fj:Str->lA}
def jX:(R.ok a).bind h=h a:=rfl
def agp:(R.ex c ns es:R α).bind h=.ex c ns es:=rfl
def aqE:(R.bad:R α).bind h=.bad:=rfl
def Eb:toS (R.ok a) k=k a:=rfl
def arA:toS (R.ex c ns es:R α) k=.ex c ns es:=rfl
def arz:toS (R.bad:R α) k=.bad:=rfl
def agE:G6 (.nx ρ) g=g ρ:=rfl
def aap:G6 (.rt d) g=.rt d:=rfl
def arj:G6 (.ex c ns es) g=.ex c ns es:=rfl
def ari:G6 .bad g=.bad:=rfl
def T5:turnT (.nx ρ) g=g ρ:=rfl
def arC:turnT (.ct ρ) g=g ρ:=rfl
def arD:turnT (.bk ρ) g=.nx ρ:=rfl
def arE:turnT (.rt d) g=.rt d:=rfl
def arB:turnT .bad g=.bad:=rfl
def arF:turnT (.ex c ns es) g=.ex c ns es:=rfl
def N6:jM (.rt d)=.ok d:=rfl
def aqI:jM (.nx ρ)=.ok .non:=rfl
def aqJ:jM (.ex c ns es)=.ex c ns es:=rfl
def ara:anP (R.ok a)=.ok a:=rfl
def arb:Nu (R.ok a)=some a:=rfl
def agD:Nq (some a)=.ok a:=rfl
def arh:j6 g u ρ=G6 (g ρ) u:=rfl
def arf:nA ρ=.nx ρ:=rfl
def T3:lM f ρ=toS (f ρ) .rt:=rfl
def ard:asf f ρ=toS (f ρ) λ_=>.nx ρ:=rfl
def JH:lR n f ρ=toS (f ρ) λd=>if n<ρ.length then .nx (ρ.set n<|.sh d)else .bad:=rfl
def Oa:mZ fc g u ρ=toS (fc ρ) λk=>if k=true then g ρ else u ρ:=rfl
def sS:dC d ρ=.ok d:=rfl
def aae:d1 g1 f ρ=(f ρ).bind g1:=rfl
def qY:d2 gd fa fb ρ=(fa ρ).bind λx=>(fb ρ).bind λy=>gd x y:=rfl
def Br:b1 P2.tB f ρ=(f ρ).bind P2.tB:=rfl
def Tz:b1 tT f ρ=(f ρ).bind tT:=rfl
def agn:xY fc fd ρ=(fc ρ).bind λc=>if c=true then fd ρ else .ok false:=rfl
def aad:uv fc fd ρ=(fc ρ).bind λc=>if c=true then .ok true else fd ρ:=rfl
def TF:rP fc ρ=(fc ρ).bind λc=>.ok (!c):=rfl
def aqF:Dd fa fb ρ=((fa ρ).bind P2.tB).bind λc=>if c=true then fb ρ else .ok (.bl false):=rfl
def TJ:Lb fa fb ρ=((fa ρ).bind P2.tB).bind λc=>if c=true then .ok (.bl true)else fb ρ:=rfl
def aag:De fa ρ=((fa ρ).bind P2.tB).bind λc=>.ok (.bl<|!c):=rfl
def agq:vR fc fa fb ρ=(fc ρ).bind λk=>if k=true then fa ρ else fb ρ:=rfl
def vd:dA gl fs ρ=(fs ρ).bind gl:=rfl
def tR:jE ρ=.ok []:=rfl
def pO:jy f fs ρ=(f ρ).bind λx=>(fs ρ).bind λxs=>.ok (x::xs):=rfl
def Tw:rO fs ρ=(fs ρ).bind λds=>.ok (.lst ds):=rfl
def agr:qt t gt f fs ρ=(f ρ).bind λx=>if Jc t x=true then(fs ρ).bind λxs=>gt x xs else .bad:=rfl
def N5:qT g3 f fl fu ρ=(f ρ).bind λx=>(fl ρ).bind λi=>(fu ρ).bind λj=>g3 x i j:=rfl
def aaf:uw fs n cs ga fc f ρ=(fs ρ).bind λds=>if ds.length<=sizeLine then Nq (sH ga fc f (t7 n cs ρ) ds)else .bad:=rfl
def TY:Oh fs ga g ρ=toS (fs ρ) λds=>wH ga g ds ρ:=rfl
def aaj:wH ga g (d::ds) ρ=toO (ga d ρ) λoG=>turnT (g oG) (wH ga g ds):=rfl
def arx:toO (some a) k=k a:=rfl
def aqN:gV n d ρ=if n<ρ.length then some (ρ.set n<|.sh d)else none:=rfl
def JK:P2.tB (.bl b)=.ok b:=rfl
def agH:tT (.bl b)=.ok b:=rfl
def art:tT (.int i)=.ok (i !=0):=rfl
def arv:tT .non=.ok false:=rfl
def aru:tT (.lst ds)=.ok (!ds.isEmpty):=rfl
def arw:tT (.tup ds)=.ok (!ds.isEmpty):=rfl
def agl:jT (.int i) (.int j)=.ok (.int<|i+j):=rfl
def aqz:jT (.str x) (.str y)=if x.length+y.length<=sizeLine then .ok (.str<|x++y)else .bad:=rfl
def aqx:jT (.lst ds) (.lst WD)=if ds.length+WD.length<=sizeLine then .ok (.lst<|ds++WD)else .bad:=rfl
def ars:vm (.int i) (.int j)=.ok (.int<|i - j):=rfl
def ags:pK (.int i) (.int j)=if Nr i j=true then .ok (.int<|i.fdiv j)else .bad:=rfl
def aq5:o6 (.int i) (.int j)=if decide (j≠0)=true then .ok (.int<|i.fmod j)else .bad:=rfl
def agB:P2.v5 (.int i) (.int j)=.ok (.bl<|decide<|i<j):=rfl
def aq2:leD (.int i) (.int j)=.ok (.bl<|decide<|i<=j):=rfl
def aak:oV (.int i) (.int j)=.ok (.bl<|decide<|j<i):=rfl
def aqO:Q8 (.int i) (.int j)=.ok (.bl<|decide<|j<=i):=rfl
def aq9:Jt (.int i)=.ok (.int<|-i):=rfl
def aqH:mV (.int i) (.int j)=.ok (.bl<|decide<|i=j):=rfl
def aah:mV (.str x) (.str y)=.ok (.bl<|decide<|x=y):=rfl
def aqG:mV (.bl b) (.bl b2)=.ok (.bl<|decide<|b=b2):=rfl
def aq8:pM (.int i) (.int j)=.ok (.bl<|!decide (i=j)):=rfl
def agC:pM (.str x) (.str y)=.ok (.bl<|!decide (x=y)):=rfl
def agv:vH (.str x) (.str y)=.ok (.bl<|Txt.contains y x):=rfl
def agw:jR (.lst ds) (.int i)=match L2.lH ds i with|some d=>.ok d|none=>.bad:=rfl
def aal:jR (.tup ds) (.int i)=match L2.lH ds i with|some d=>.ok d|none=>.bad:=rfl
def aq1:jR (.str x) (.int i)=if x.length<=sizeLine then(match L2.lH x.cps.toList i with|some c=>.ok (.str ⟨#[c]⟩)|none=>.bad)else .bad:=rfl
def arn:Oo (.lst ds) lo hi=.ok (.lst<|cutD ds lo hi):=rfl
def aro:Oo (.str x) lo hi=if x.length<=sizeLine then .ok (.str<|Txt.slice x lo hi)else .bad:=rfl
def arc:pI (.int i)=.ok (some i):=rfl
def aan:lY [.str x]=if x.length<=sizeLine then .ok (.int x.length)else .bad:=rfl
def agz:lY [.lst ds]=.ok (.int ds.length):=rfl
def agA:lY [.tup ds]=.ok (.int ds.length):=rfl
def agk:Fd [.int i]=.ok (.int<|if i<0 then -i else i):=rfl
def aq3:v7 [.int i,.int j]=.ok (.int<|if j>i then j else i):=rfl
def arq:yE [.int i]=if i.natAbs.log2<1920 then .ok (.str<|toString i)else .bad:=rfl
def aqP:intD [.str x]=match PySem.intText? x with|some n=>if x.length<=640 then .ok (.int n)else .bad|none=>.bad:=rfl
def agm:Ag [.lst ds]=match vB ds with|some bs=>.ok (.bl<|bs.all id)|none=>.bad:=rfl
def aqB:ajC [.lst ds]=match vB ds with|some bs=>.ok (.bl<|bs.any id)|none=>.bad:=rfl
def agG:JV (.str x) [.str y]=.ok (.bl<|Txt.startswith x y):=rfl
def arL:avx (.str x) [.int i]=if PadOk i=true then .ok (.str<|Txt.zfill x i)else .bad:=rfl
def agu:Jc "str" (.str x)=true:=by rfl
def aq4:lB ds=if ds.length<=sizeLine then .ok (.tup ds)else .bad:=rfl
def aqK:tD ds=if ds.length<=sizeLine then .ok ds else .bad:=rfl
def aac:sX (.lst ds)=.ok ds:=rfl
def aqD:sX (.tup ds)=.ok ds:=rfl
def aqC:sX (.str x)=.ok (signs x):=rfl
def agt:nH (.str x)=if x.length<=sizeLine then .ok (.str x)else .bad:=rfl
def aqM:nH (.int i)=if i.natAbs.log2<1920 then .ok (.str<|toString i)else .bad:=rfl
def agy:rB x ρ=if x.length<=sizeLine then .ok (.str x)else .bad:=rfl
def agx:lW f fj x ρ=(f ρ).bind λz=>match z with|.str y=>if(x++y).length<=sizeLine then fj (x++y) ρ else .bad|_=>.bad:=rfl
def xG:dV 0 (.sh d::r)=.ok d:=rfl
def Bs:dV 1 (s0::.sh d::r)=.ok d:=rfl
def GX:dV 2 (s0::s1::.sh d::r)=.ok d:=rfl
def Ob:dV 3 (s0::s1::s2::.sh d::r)=.ok d:=rfl
def T6:dV 4 (s0::s1::s2::s3::.sh d::r)=.ok d:=rfl
def T7:dV 5 (s0::s1::s2::s3::s4::.sh d::r)=.ok d:=rfl
def agI:dV 6 (s0::s1::s2::s3::s4::s5::.sh d::r)=.ok d:=rfl
def arK:dV 7 (s0::s1::s2::s3::s4::s5::s6::.sh d::r)=.ok d:=rfl
def agJ:dV 8 (s0::s1::s2::s3::s4::s5::s6::s7::.sh d::r)=.ok d:=rfl
def agK:dV 9 (s0::s1::s2::s3::s4::s5::s6::s7::s8::.sh d::r)=.ok d:=rfl
def arG:dV 10 (s0::s1::s2::s3::s4::s5::s6::s7::s8::s9::.sh d::r)=.ok d:=rfl
def arH:dV 11 (s0::s1::s2::s3::s4::s5::s6::s7::s8::s9::Ub::.sh d::r)=.ok d:=rfl
def arI:dV 12 (s0::s1::s2::s3::s4::s5::s6::s7::s8::s9::Ub::s11::.sh d::r)=.ok d:=rfl
def arJ:dV 13 (s0::s1::s2::s3::s4::s5::s6::s7::s8::s9::Ub::s11::s12::.sh d::r)=.ok d:=rfl
def N8(hj:0<j):o6 (.int i) (.int j)=.ok (.int<|i%j):=by rw[aq5,au<|by simp;omega,Int.fmod_eq_emod_of_nonneg _<|by omega]
def TV(hj:0<j)(h2:j<18446744073709551616):pK (.int i) (.int j)=.ok (.int<|i/j):=by have hb:bits j<=64:=bits_le (by omega);rw[ags,au<|by unfold Nr;simp only[aK,aM];omega,Int.fdiv_eq_ediv_of_nonneg _<|by omega]
def aqA{x y:Str}(h1:x.length<=1000)(h2:y.length<=1000):jT (.str x) (.str y)=.ok (.str<|x++y):=by rw[aqz,au<|aJ (Nat.add_le_add h1 h2)<|by decide]
def aqy{x y:List D}(h1:x.length<=1000)(h2:y.length<=1000):jT (.lst x) (.lst y)=.ok (.lst<|x++y):=by rw[aqx,au<|aJ (Nat.add_le_add h1 h2)<|by decide]
def aqL{x:List D}(h1:x.length<=1000):tD x=.ok x:=by rw[aqK,au<|aJ h1<|by decide]
def N7{x:List D}(h1:x.length<=1000):lB x=.ok (.tup x):=by rw[aq4,au<|aJ h1<|by decide]
end
end P2
namespace P2
open PySem L2 PySem.Spec
open PyProof.Rows hiding St
section
variable{X:Cx}{E:XK}
def Jw(i j:Int):Bool:=afE i j||Tc i j
def uz:D->D->R D
 |.int i,.int j=>if Jw i j=true then .ok (.int<|i*j)else .bad
 |.str x,.int n=>if GC x n=true then .ok (.str<|Txt.mul x n)else .bad
 |_,_=>.bad
def GF:rK X E (binaryOp .Mult) uz:=by
 refine⟨_,Th (Th apj apk) apl,λal H x y dx dy Q fr rx ry h=>?_⟩;unfold uz at h;split at h
 ·cases rx;cases ry;split at h
  ·rename_i z;unfold Jw at z;rw[bM]at z;rcases z with z|z
   ·unfold afE at z;simp only[aK,aM]at z;exact .inl (.inr ⟨_,_,rfl,rfl,z,h H (.refl H) _<|.int _⟩)
   ·refine .inl (.inl ⟨_,_,rfl,rfl,?_,h H (.refl H) _<|.int _⟩);unfold Tc at z;simp only[bM,aK,aM]at z;exact z
  ·exact h.elim
 ·cases rx;cases ry;split at h;·rename_i z;exact .inr ⟨_,_,rfl,rfl,mulOk_of z,h H (.refl H) _<|.str _⟩
  ·exact h.elim
 ·exact h.elim
end
def ZC:(10:Nat)^400<2^1500:=by decide+kernel
def ajQ{i:Int}(h:i.natAbs<10^400):bits i<=1500:=bits_le (iM h ZC)
def aq7{i j:Int}(h1: -18446744073709551616<j)(h2:j<18446744073709551616):uz (.int i) (.int j)=.ok (.int<|i*j):=by show(if Jw i j=true then R.ok (D.int<|i*j)else .bad)=_;rw[au<|by unfold Jw Tc;simp only[bM,aK,aM];right;right;exact⟨h1,h2⟩]
def aq6{i j:Int}(h1: -18446744073709551616<i)(h2:i<18446744073709551616):uz (.int i) (.int j)=.ok (.int<|i*j):=by show(if Jw i j=true then R.ok (D.int<|i*j)else .bad)=_;rw[au<|by unfold Jw Tc;simp only[bM,aK,aM];right;left;exact⟨h1,h2⟩]
def aao{n:Int}(h:GC x n=true):uz (.str x) (.int n)=.ok (.str<|Txt.mul x n):=by show(if GC x n=true then R.ok (D.str<|Txt.mul x n)else .bad)=_;rw[au h]
def TQ{i j:Int}(hj:j≠0)(h2:j.natAbs<10^400):pK (.int i) (.int j)=.ok (.int<|i.fdiv j):=by have hb:=ajQ h2;rw[ags,au<|by unfold Nr;simp only[aK,aM];omega]
def aaq{i:Int}(h:i.natAbs<10^400):yE [.int i]=.ok (.str<|toString i):=by have p:(2:Nat)^1500<=2^1920:=gq (by decide) (by decide);rw[arq,au<|log2_lt (by decide)<|aG (iM h ZC) p]
def aai{i:Int}(h:i.natAbs<10^400):nH (.int i)=.ok (.str<|toString i):=by have p:(2:Nat)^1500<=2^1920:=gq (by decide) (by decide);rw[aqM,au<|log2_lt (by decide)<|aG (iM h ZC) p]
def aqR{i:Int}:oZ q [.int i,.ty "int"]=.ok (.bl true):=rfl
def aqQ{i:Int}:oZ q [.int i,.ty "bool"]=.ok (.bl false):=rfl
def aqT:oZ q [.str x,.ty "str"]=.ok (.bl true):=rfl
def aqU:oZ q [.tup ds,.ty "tuple"]=.ok (.bl true):=rfl
def aqS:oZ q [.lst ds,.ty "list"]=.ok (.bl true):=rfl
def ark{ds:List D}{lo hi:Option Int}:qI (.lst ds) lo hi=.ok (.lst<|cutD ds lo hi):=rfl
def arl{x:Str}{lo hi:Option Int}:qI (.str x) lo hi=if x.length<=sizeLine then .ok (.str<|Txt.slice x lo hi)else .bad:=rfl
def aqV:XQ (.bl a) (.bl b)=.ok (.bl<|a==b):=rfl
def aqY:XS (.bl a) (.bl b)=.ok (.bl<|!(a==b)):=rfl
def aqW:XQ .non .non=.ok (.bl true):=rfl
def aqZ:XS .non .non=.ok (.bl false):=rfl
def aqX:XQ (.tup ds) .non=.ok (.bl false):=rfl
def aq0:XS (.tup ds) .non=.ok (.bl true):=rfl
def agL:yI c b (n+1) ρ=toS (c ρ) λk=>if k=true then turnT (b ρ) (yI c b n)else .nx ρ:=rfl
open PyProof.Rows hiding St
section
variable{X:Cx}{σ:L2.St}{pins:List<|Addr×Obj}{f l it S:Addr}{dv:Value}{vs:List V}{H0:Hp}{R:Result->Shared->Prop}
end
section
variable{X:Cx}{σ:L2.St}{pins:List<|Addr×Obj}{f l it S:Addr}{dv:Value}{vs:List V}{H0:Hp}{R:Result->Shared->Prop}
end
section
variable{X:Cx}{E:XK}{k:Nat}{x fn p:Str}{F:jO}{fa fb:lA}{e de:Expr}{pos p0 p1 p2 p3:Pos}
end
end P2
namespace PySem.F
end PySem.F
namespace P2
open PySem
section
variable{prog:Program}{w:World}{A:Around}{E:mW}{s:Shared}{R:Result->Shared->Prop}
variable{I:Addr}{fp wr:List Addr}{G:Array GenState->Array GenState->Prop}{n:Nat}{P:Nat->Value->Prop}{St:Nat->Shared->Prop}
end
end P2
namespace P2
open PySem L2 PySem.Spec
open PyProof.Rows hiding St
section
variable{X:Cx}{E:XK}{e:Expr}{ta:TE}{f:lA}{p1 p2 pos Tq:Pos}
end
open PyProof.Rows hiding St
section
variable{X:Cx}{E:XK}{a b:Expr}{rest:List Expr}{pos:Pos}{ta tb:TE}{fa fb:lA}
def akr(a b:lA):lA:=λρ=>(a ρ).bind λx=>(tT x).bind λc=>if c=true then .ok x else b ρ
def avS:akr fa fb ρ=(fa ρ).bind λx=>(tT x).bind λc=>if c=true then .ok x else fb ρ:=rfl
end
end P2
namespace P2
open PySem L2 PySem.Spec PySem.Calls
open PyProof.Rows hiding St
def BM(mg:nO)(h:Heap):Prop:=∃bm ob,mg "__builtins__"=some (.ref bm)/\bm≠builtinsNs/\h.get? bm=some ob/\ob.cls=.type "module"/\ob.dict=some builtinsNs/\ob.data=.plain
section
variable{X:Cx}{pins:List<|Addr×Obj}{σ:List<|Option V}{H:Hp}{s:Shared}
end
section
variable{X:Cx}{E:XK}{k:Nat}{p:Str}{fa fb g:lA}{e de body:Expr}{pos p0 p2 p3 p4:Pos}{x qual:Str}{c P:Addr}{params:Arguments}{scope:Scope}{N:List Str}
end
section
variable{P:Program}{w:World}{K:W.Frag}{mg:nO}{base:Heap}
end
end P2
namespace WP
open PySem L2 P2
structure Ad where
 WeatherError:Addr:=0
 NoFraction:Addr:=0
 NoText:Addr:=0
 Twice:Addr:=0
 TooMany:Addr:=0
 NoRow:Addr:=0
 Tokens:Addr:=0
 Book:Addr:=0
 Sight:Addr:=0
 Desk:Addr:=0
 rW:Addr:=0
 avH:Addr:=0
 avI:Addr:=0
 oO:Addr->Value->Option Bool:=λ_ _=>none
def Q6(a:Ad):lG:=(lM<|Dd (d2 pM (dV 0)<|dC<|.str "")<|dA Ag<|jy (rO<|uw (λρ=>((dV 0) ρ).bind sX) 1 [] (gV 0) (λ_=>.ok true)<|d2 vH (dV 0)<|dC<|.str "0123456789") jE)
def Q3(a:Ad)(Ph:jO):lG:=(j6 (mZ (uv (b1 tB (d2 oV (dA lY (jy (dV 0) jE)) (dV 1))) (rP (b1 tT (dA Ph (jy (dV 0) jE))))) (lM (dC (.bl false))) nA)
    (lM (Lb (d2 mV (dV 0) (dC (.str "0"))) (De (qt "str" JV (dV 0) (jy (dC (.str "0")) jE))))))
def Rw(a:Ad)(xg:jO):lG:=(j6 (mZ (rP (b1 tT (dA xg (jy (dV 0) (jy (dA lY (jy (dA yE (jy (dV 2) jE)) jE)) jE))))) (λρ=>toS ((jy (dC (.int 1)) jE) ρ) λds=>.ex a.NoText ["row"] ds) nA)
    (j6 (lR 3 (dA intD (jy (dV 0) jE)))
    (j6 (mZ (uv (b1 tB (d2 v5 (dV 3) (dV 1))) (b1 tB (d2 oV (dV 3) (dV 2)))) (λρ=>toS ((jy (dC (.int 1)) jE) ρ) λds=>.ex a.NoText ["row"] ds) nA)
    (lM (dV 3)))))
def VG(a:Ad):lG:=(j6 (lR 2 (d2 o6 (dV 0) (dV 1)))
    (j6 (lR 0 (dV 1))
    (lR 1 (dV 2))))
def QZ(a:Ad):lG:=(j6 (yI (b1 tB (d2 pM (dV 1) (dC (.int 0)))) (VG a) Qq)
    (lM (dV 0)))
def Q4(a:Ad):lG:=(lM<|Dd (dA (oZ a.oO)<|jy (dV 0)<|jy (dC<|.ty "int") jE)<|De<|dA (oZ a.oO)<|jy (dV 0)<|jy (dC<|.ty "bool") jE)
def Q0(a:Ad)(Ko Pb:jO):lG:=(j6 (mZ (uv (rP (b1 tT (dA Ko (jy (dV 0) jE)))) (uv (rP (b1 tT (dA Ko (jy (dV 1) jE)))) (b1 tB (d2 mV (dV 1) (dC (.int 0)))))) (λ_=>.ex a.NoFraction [] []) nA)
    (j6 (lR 2 (dA Pb (jy (dA Fd (jy (dV 0) jE)) (jy (dA Fd (jy (dV 1) jE)) jE))))
    (j6 (mZ (b1 tB (d2 v5 (dV 1) (dC (.int 0)))) (lR 2 (d1 Jt (dV 2))) nA)
    (lM (dA lB (jy (d2 pK (dV 0) (dV 2)) (jy (d2 pK (dV 1) (dV 2)) jE)))))))
def Lw(a:Ad):lG:=(j6 (lR 1 (d2 jR (dV 0) (dC (.int 0))))
    (j6 (lR 2 (d2 jR (dV 0) (dC (.int 1))))
    (j6 (mZ (b1 tB (d2 mV (dV 2) (dC (.int 1)))) (lM (dA yE (jy (dV 1) jE))) nA)
    (lM ((lW (d1 nH (dV 1)) (lW (dC (.str "/")) (lW (d1 nH (dV 2)) rB))) Str.empty)))))
def Ru(a:Ad)(xg Cm wz:jO):lG:=(j6 (lR 1 (qt "str" JV (dV 0) (jy (dC (.str "-")) jE)))
    (j6 (lR 2 (vR (b1 tT (dV 1)) (qt "str" Bv (qT qI (dV 0) (λρ=>((dC (.int 1)) ρ).bind pI) (λ_=>.ok none)) (jy (dC (.str "/")) jE)) (qt "str" Bv (dV 0) (jy (dC (.str "/")) jE))))
    (j6 (mZ (uv (b1 tB (d2 oV (dA lY (jy (dV 2) jE)) (dC (.int 2)))) (rP (b1 tT (dA Ag (jy (rO (uw (λρ=>((dV 2) ρ).bind sX) 1 [] (gV 0) (λ_=>.ok true) (dA xg (jy (dV 0) (jy (dC (.int 60)) jE))))) jE))))) (λρ=>toS ((jy (dC (.int 1)) jE) ρ) λds=>.ex a.NoText ["row"] ds) nA)
    (j6 (lR 3 (vR (b1 tT (dV 1)) (d1 Jt (dA intD (jy (d2 jR (dV 2) (dC (.int 0))) jE))) (dA intD (jy (d2 jR (dV 2) (dC (.int 0))) jE))))
    (j6 (lR 4 (vR (b1 tB (d2 mV (dA lY (jy (dV 2) jE)) (dC (.int 2)))) (dA intD (jy (d2 jR (dV 2) (dC (.int 1))) jE)) (dC (.int 1))))
    (j6 (mZ (b1 tB (d2 mV (dV 4) (dC (.int 0)))) (λρ=>toS ((jy (dC (.int 1)) jE) ρ) λds=>.ex a.NoText ["row"] ds) nA)
    (j6 (lR 5 (dA Cm (jy (dV 3) (jy (dV 4) jE))))
    (j6 (mZ (b1 tB (d2 pM (dA wz (jy (dV 5) jE)) (dV 0))) (λρ=>toS ((jy (dC (.int 1)) jE) ρ) λds=>.ex a.NoText ["row"] ds) nA)
    (lM (dV 5))))))))))
def Rv(a:Ad)(Pz:jO):lG:=(j6 (lR 1 (dA Pz (jy (dV 0) jE)))
    (j6 (mZ (uv (b1 tB (d2 Q8 (dA Fd (jy (d2 jR (dV 1) (dC (.int 0))) jE)) (dC (.int 1000000000)))) (b1 tB (d2 Q8 (d2 jR (dV 1) (dC (.int 1))) (dC (.int 1000000))))) (λρ=>toS ((jy (dC (.int 1)) jE) ρ) λds=>.ex a.NoText ["row"] ds) nA)
    (lM (dV 1))))
def Q5(a:Ad):lG:=(j6 (mZ (uv (rP (b1 tT (dA (oZ a.oO) (jy (dV 0) (jy (dC (.ty "str")) jE))))) (uv (b1 tB (d2 mV (dV 0) (dC (.str "")))) (b1 tB (d2 oV (dA lY (jy (dV 0) jE)) (dC (.int 8)))))) (lM (dC (.bl false))) nA)
    (lM (Dd (dA Ag (jy (rO (uw (λρ=>((dV 0) ρ).bind sX) 1 [] (gV 0) (λ_=>.ok true) (d2 vH (dV 0) (dC (.str "abcdefghijklmnopqrstuvwxyz"))))) jE)) (d2 Gx (dV 0) (dC (.tup [(.str "mark"),(.str "fill"),(.str "here"),(.str "back"),(.str "on"),(.str "at"),(.str "ago"),(.str "until"),(.str "abs"),(.str "and"),(.str "or"),(.str "not")]))))))
def Rx(a:Ad)(Pg:jO):lG:=(j6 (mZ (rP (b1 tT (dA Pg (jy (dV 0) jE)))) (λρ=>toS ((jy (dC (.int 1)) jE) ρ) λds=>.ex a.NoText ["row"] ds) nA)
    (lM (dV 0)))
def Lr(a:Ad):lG:=(lM<|(lW (d1 nH<|dV 0)<|lW (dC<|.str " ")<|lW (d1 nH<|dV 1)<|lW (dC<|.str " ")<|lW (d1 nH<|dV 2) rB) Str.empty)
def Ly(a:Ad)(vM:jO):lG:=(j6 (lR 2 (dA vM (jy (dV 0) jE)))
    (lM (vR (b1 tB (d2 mQ (d2 jR (dV 0) (dC (.int 0))) (dV 1))) ((lW (dC (.str "(")) (lW (d1 nH (dV 2)) (lW (dC (.str ")")) rB))) Str.empty) (dV 2))))
def tE(a:Ad)(Kq vM xT wz:jO):lG:=(j6 (lR 1 (d2 jR (dV 0) (dC (.int 0))))
    (j6 (mZ (b1 tB (d2 mQ (dV 1) (dA lB (jy (dC (.str "+")) (jy (dC (.str "-")) jE))))) (lM (dA xT (jy (dA vM (jy (d2 jR (dV 0) (dC (.int 1))) jE)) (jy (dV 1) (jy (dA Kq (jy (d2 jR (dV 0) (dC (.int 2))) (jy (dA lB (jy (dC (.str "+")) (jy (dC (.str "-")) jE))) jE))) jE))))) nA)
    (j6 (mZ (b1 tB (d2 mV (dV 1) (dC (.str "times")))) (lM (dA xT (jy (dA wz (jy (d2 jR (dV 0) (dC (.int 1))) jE)) (jy (dC (.str "*")) (jy (dA Kq (jy (d2 jR (dV 0) (dC (.int 2))) (jy (dA lB (jy (dC (.str "+")) (jy (dC (.str "-")) (jy (dC (.str "times")) jE)))) jE))) jE))))) nA)
    (j6 (mZ (b1 tB (d2 mV (dV 1) (dC (.str "abs")))) (j6 (lR 2 (dA vM (jy (d2 jR (dV 0) (dC (.int 1))) jE)))
    (lM ((lW (dC (.str "abs(")) (lW (d1 nH (dV 2)) (lW (dC (.str ")")) rB))) Str.empty))) nA)
    (j6 (mZ (b1 tB (d2 mV (dV 1) (dC (.str "num")))) (lM (dA wz (jy (d2 jR (dV 0) (dC (.int 1))) jE))) nA)
    (j6 (mZ (b1 tB (d2 mV (dV 1) (dC (.str "here")))) (lM (dV 1)) nA)
    (j6 (lR 3 (d2 jR (dV 0) (dC (.int 1))))
    (lM ((lW (d1 nH (dV 1)) (lW (dC (.str " ")) (lW (d1 nH (dV 3)) rB))) Str.empty)))))))))
def Ls(a:Ad)(uV:jO):lG:=(j6 (lR 2 (dA uV (jy (dV 0) jE)))
    (lM (vR (b1 tB (d2 mQ (d2 jR (dV 0) (dC (.int 0))) (dV 1))) ((lW (dC (.str "[")) (lW (d1 nH (dV 2)) (lW (dC (.str "]")) rB))) Str.empty) (dV 2))))
def vG(a:Ad)(En uV xT vM:jO):lG:=(j6 (lR 1 (d2 jR (dV 0) (dC (.int 0))))
    (j6 (mZ (b1 tB (d2 mV (dV 1) (dC (.str "or")))) (lM (dA xT (jy (dA uV (jy (d2 jR (dV 0) (dC (.int 1))) jE)) (jy (dV 1) (jy (dA En (jy (d2 jR (dV 0) (dC (.int 2))) (jy (dA lB (jy (dC (.str "or")) jE)) jE))) jE))))) nA)
    (j6 (mZ (b1 tB (d2 mV (dV 1) (dC (.str "and")))) (lM (dA xT (jy (dA En (jy (d2 jR (dV 0) (dC (.int 1))) (jy (dA lB (jy (dC (.str "or")) jE)) jE))) (jy (dV 1) (jy (dA En (jy (d2 jR (dV 0) (dC (.int 2))) (jy (dA lB (jy (dC (.str "or")) (jy (dC (.str "and")) jE))) jE))) jE))))) nA)
    (j6 (mZ (b1 tB (d2 mV (dV 1) (dC (.str "not")))) (lM (d2 jT (dC (.str "not ")) (dA En (jy (d2 jR (dV 0) (dC (.int 1))) (jy (dA lB (jy (dC (.str "or")) (jy (dC (.str "and")) jE))) jE))))) nA)
    (lM (dA xT (jy (dA vM (jy (d2 jR (dV 0) (dC (.int 1))) jE)) (jy (dV 1) (jy (dA vM (jy (d2 jR (dV 0) (dC (.int 2))) jE)) jE)))))))))
end WP
namespace P2
open PySem PySem.W PyProof.Rows
section
variable{n:Nat}{c:Nat->Nat->Bool}{rk:Nat->Int}
def KK(rk:Nat->Int)(p:Array Nat)(i:Nat):Int:=rk ((p[i]?).getD 0)
variable(hc:∀i j,i<n->j<n->c i j=decide (rk i<rk j))
include hc
def mY(rk:Nat->Int)(p:Array Nat)(m:Nat):Prop:=∀i j,i<=j->j<m->KK rk p i<=KK rk p j
omit hc in
omit hc in
omit hc in
end
end P2
namespace P2
open PySem L2 PySem.Spec PySem.Calls
open PyProof.Rows hiding St
section
variable{X:Cx}{E:XK}{e:Expr}{ta:TE}{f:lA}{p1 pos:Pos}
end
end P2
namespace P2
open PySem L2 PySem.Spec PySem.Calls PySem.W
open PyProof.Rows hiding St K
section
variable{prog:Program}{w:World}{A:Around}{E:mW}{s:Shared}
end
open PyProof.Rows hiding St K
inductive Hr:List D->List D->Prop
 |nil:Hr [] []
 |int (i j:Int) {xs ys:List D}:Hr xs ys->Hr (.int i::xs) (.int j::ys)
 |str (i j:Str) {xs ys:List D}:Hr xs ys->Hr (.str i::xs) (.str j::ys)
inductive Vu:D->D->Prop
 |int (i j:Int):Vu (.int i) (.int j)
 |str (i j:Str):Vu (.str i) (.str j)
 |tup {a b:List D} {d e:D}:Hr (d::a) (e::b)->Vu (.tup<|d::a) (.tup<|e::b)
open PyProof.Rows hiding St K
def Va:D->Value->Prop
 |.int i,.int j _=>i=j
 |.str x,.str y _=>x=y
 |_,_=>False
inductive Pk:List D->List Value->Prop
 |nil:Pk [] []
 |cons {d:D} {v:Value} {ds:List D} {vs:List Value}:Va d v->Pk ds vs->Pk (d::ds) (v::vs)
def TupAt(h:Heap)(u:Value)(ds:List D):Prop:=∃a o xs n,u=.ref a/\h.get? a=some o/\o.cls=.type "tuple"/\o.data=.seq xs n/\Pk ds xs.toList
def aiX(h:Heap)(u:Value):D->Prop
 |.int i=>Va (.int i) u
 |.str x=>Va (.str x) u
 |.tup ds=>TupAt h u ds
 |_=>False
section
variable{prog:Program}{w:World}{A:Around}{E:mW}{s:Shared}
end
section
variable{prog:Program}{w:World}{A:Around}{E:mW}{s:Shared}
inductive Vd(h:Heap):List Value->List D->Prop
 |nil:Vd h [] []
 |cons {u:Value} {d:D} {us:List Value} {ds:List D}:aiX h u d->Vd h us ds->Vd h (u::us) (d::ds)
def ald{α:Type}(l:List α)(x):(List.range l.length).map (λi=>l.getD i x)=l:=by
 apply List.ext_getElem;·simp
 ·intro i h1 h2;simp[List.getElem_map,h2]
end
open PyProof.Rows hiding St K
section
variable{X:Cx}{E:XK}{e:Expr}{ta:TE}{f:lA}{p1 pos:Pos}
end
end P2
namespace P2
open PySem L2
inductive Z where
 |d(x:D)|loc(n:Nat)|tk(ks:List Key)
inductive Cell where
 |li(zs:List Z)|ob(C:Addr)(fs:List<|Str×Z)|dk(kvs:List<|Key×Z)|dt(kvs:List<|List Key×Z)|no|mk
abbrev lD:=List Cell
abbrev Lo:=Nat->Option Addr
abbrev lr:=List (Option Z)
def qe(K:W.Frag)(al:Addr->Prop)(lo:Lo)(H:Hp)(v:V):Z->Prop
 |.d x=>Rep K al H v x
 |.loc n=>∃a,lo n=some a/\v=.ref a
 |.tk ks=>∃a,al a/\H a=some (.tup<|ks.map kV)/\v=.ref a
inductive oK(K:W.Frag)(al:Addr->Prop)(lo:Lo)(H:Hp):List V->List Z->Prop
 |nil:oK K al lo H [] []
 |cons {v:V} {z:Z} {vs:List V} {zs:List Z}:qe K al lo H v z->oK K al lo H vs zs->oK K al lo H (v::vs) (z::zs)
inductive oA{κ:Type}(K:W.Frag)(al:Addr->Prop)(lo:Lo)(H:Hp):List (κ×V)->List (κ×Z)->Prop
 |nil:oA K al lo H [] []
 |cons {k:κ} {v:V} {z:Z} {vs:List<|κ×V} {zs:List<|κ×Z}:qe K al lo H v z->oA K al lo H vs zs->oA K al lo H ((k,v)::vs) ((k,z)::zs)
def tV(K:W.Frag)(al:Addr->Prop)(lo:Lo)(H:Hp)(a:Addr):Cell->Prop
 |.li zs=>∃vs,H a=some (.lst vs)/\oK K al lo H vs zs
 |.ob C fs=>∃dx us,H a=some (.ins C dx us)/\oA K al lo H us fs
 |.dk kvs=>∃us,H a=some (.dK us)/\oA K al lo H us kvs
 |.dt kvs=>∃us,H a=some (.dT us)/\oA K al lo H us kvs
 |.no=>False
 |.mk=>False
def acQ(o:HO):Prop:=(∃ys,o=.tup ys)\/∃ps,o=.rE ps
structure CN(K:W.Frag)(al:Addr->Prop)(lo:Lo)(H:Hp)(S:lD):Prop where
 at':∀n a,lo n=some a->∃c,S[n]?=some c/\tV K al lo H a c
 has:∀n c,S[n]?=some c->c≠.no->c≠.mk->∃a,lo n=some a
 na:∀n a,lo n=some a->¬al a
 inj:∀m n a,lo m=some a->lo n=some a->m=n
 tl:S[0]?=some .mk->∀b o,H b=some o->acQ o->al b
structure Z0 where
 H:Hp
 al:Addr->Prop
 lo:Lo
 n:Nat
structure EZ(K:W.Frag)(B:Z0)(al:Addr->Prop)(lo:Lo)(H:Hp)(S:lD):Prop where
 fr:∀b o,NT o->B.H b=some o->(∀n,B.lo n≠some b)->H b=some o
 hf:∀b,H b=none->B.H b=none
 tt:tY K H
 fresh:∀a,H a=none->al a
 st:CN K al lo H S
 lx:∀n a,B.lo n=some a->lo n=some a
 nw:∀n a,lo n=some a->B.lo n=some a\/(B.H a=none/\B.n<=n)
 bd:∀n a,B.lo n=some a->n<B.n
 sz:B.n<=S.length
 xt:Xt B.al B.H al H
 sb:∀a,al a->B.al a\/B.H a=none
structure RZ(K:W.Frag)(B:Z0)(al:Addr->Prop)(lo:Lo)(H:Hp)(σ:St)(ρ:lr)(S:lD):Prop extends EZ K B al lo H S where
 len:ρ.length=σ.length
 vr:∀(i:Nat) (z:Z),ρ[i]?=some (some z)->∃v,σ[i]?=some (some v)/\qe K al lo H v z
def Lx(lo kh:Lo):Prop:=∀n a,lo n=some a->kh n=some a
def Lx.refl:Lx lo lo:=λ_ _ h=>h
def Lx.trans(x:Lx lo lo1)(y:Lx lo1 o5):Lx lo o5:=λn a h=>y n a (x n a h)
section
variable{K:W.Frag}{al jK:Addr->Prop}{lo kh:Lo}{H H':Hp}
def qe.mv(x:Xt al H jK H')(y:Lx lo kh){v:V}{z:Z}(r:qe K al lo H v z):qe K jK kh H' v z:=by
 cases z with
 |d d=>exact Rep.mv x r
 |loc n=>obtain⟨a,h1,h2⟩:=r;exact⟨a,y n a h1,h2⟩
 |tk ks=>obtain⟨a,h1,h2,h3⟩:=r;obtain⟨g1,g2⟩:=x a (.tup<|ks.map kV) (λ_ h=>nomatch h) h1 h2;exact⟨a,g1,g2,h3⟩
def oK.mv(x:Xt al H jK H')(y:Lx lo kh){vs:List V}{zs:List Z}(r:oK K al lo H vs zs):oK K jK kh H' vs zs:=by
 induction r with
 |nil=>exact .nil
 |cons a _ ih=>exact .cons (a.mv x y) ih
def oA.mv{κ:Type}(x:Xt al H jK H')(y:Lx lo kh){vs:List<|κ×V}{zs:List<|κ×Z}(r:oA K al lo H vs zs):oA K jK kh H' vs zs:=by
 induction r with
 |nil=>exact .nil
 |cons a _ ih=>exact .cons (a.mv x y) ih
def oK.length(r:oK K al lo H vs zs):vs.length=zs.length:=by
 induction r with
 |nil=>rfl
 |cons _ _ ih=>rw[ak,ak,ih]
def oK.append(r:oK K al lo H vs zs)(q:oK K al lo H ws ys):oK K al lo H (vs++ws) (zs++ys):=by
 induction r with
 |nil=>exact q
 |cons a _ ih=>exact .cons a ih
def oK.get{vs:List V}{zs:List Z}(r:oK K al lo H vs zs){i:Nat}{z:Z}(e:zs[i]?=some z):∃v,vs[i]?=some v/\qe K al lo H v z:=by
 induction r generalizing i with
 |nil=>simp at e
 |cons a _ ih=>
  cases i with
  |zero=>simp at e;subst e;exact⟨_,rfl,a⟩
  |succ i=>simpa using ih (by simpa using e)
def oK.ofD(r:kI K al H vs ds):oK K al lo H vs (ds.map .d):=by
 induction ds generalizing vs with
 |nil=>cases r;exact .nil
 |cons d ds ih=>cases r with|cons a b=>exact .cons a (ih b)
def oK.toD{ds:List D}(r:oK K al lo H vs<|ds.map .d):kI K al H vs ds:=by
 induction ds generalizing vs with
 |nil=>cases r;exact .nil
 |cons d ds ih=>cases r with|cons a b=>exact .cons a (ih b)
def tV.mv(x:Xt al H jK H')(y:Lx lo kh){a:Addr}{c:Cell}(e:∀o,NT o->H a=some o->H' a=some o)(r:tV K al lo H a c):tV K jK kh H' a c:=by
 cases c with
 |li zs=>obtain⟨vs,h1,h2⟩:=r;exact⟨vs,e _ Bk h1,h2.mv x y⟩
 |ob C fs=>obtain⟨dx,us,h1,h2⟩:=r;exact⟨dx,us,e _ (λ_ h=>nomatch h) h1,h2.mv x y⟩
 |dk kvs=>obtain⟨us,h1,h2⟩:=r;exact⟨us,e _ (λ_ h=>nomatch h) h1,h2.mv x y⟩
 |dt kvs=>obtain⟨us,h1,h2⟩:=r;exact⟨us,e _ (λ_ h=>nomatch h) h1,h2.mv x y⟩
 |no=>exact r
 |mk=>exact r
def tV.oh(r:tV K al lo H a c):H a≠none/\(∀ps,H a≠some (.rE ps))/\(∀q,H a≠some (uo a q)):=by
 cases c with
 |li zs=>obtain⟨vs,h1,h2⟩:=r;rw[h1];exact⟨nofun,λ_=>nofun,λ_ w=>by unfold uo at w;exact nomatch w⟩
 |ob C fs=>obtain⟨dx,us,h1,h2⟩:=r;rw[h1];exact⟨nofun,λ_=>nofun,λ_ w=>by unfold uo at w;exact nomatch w⟩
 |dk kvs=>obtain⟨us,h1,h2⟩:=r;rw[h1];exact⟨nofun,λ_=>nofun,λ_ w=>by unfold uo at w;exact nomatch w⟩
 |dt kvs=>obtain⟨us,h1,h2⟩:=r;rw[h1];exact⟨nofun,λ_=>nofun,λ_ w=>by unfold uo at w;exact nomatch w⟩
 |no=>exact r.elim
 |mk=>exact r.elim
def tV.nTT(r:tV K al lo H a c)(h:H a=some o):¬acQ o:=by
 rintro (⟨ys,rfl⟩|⟨ps,rfl⟩)
 ·cases c with
  |li zs=>obtain⟨vs,h1,h2⟩:=r;rw[h]at h1;cases h1
  |ob C fs=>obtain⟨dx,us,h1,h2⟩:=r;rw[h]at h1;cases h1
  |dk kvs=>obtain⟨us,h1,h2⟩:=r;rw[h]at h1;cases h1
  |dt kvs=>obtain⟨us,h1,h2⟩:=r;rw[h]at h1;cases h1
  |no=>exact r.elim
  |mk=>exact r.elim
 ·exact r.oh.2.1 ps h
end
section
variable{K:W.Frag}{B:Z0}{al:Addr->Prop}{lo:Lo}{H H':Hp}{σ:St}{ρ:lr}{S:lD}
def EZ.start{zs:List Z}(tt:tY K H)(fr:∀a,H a=none->al a)(st:CN K al lo H S):EZ K ⟨H,al,lo,S.length⟩ al lo H S where
 fr:=λ_ _ _ h _=>h
 hf:=λ_ h=>h
 tt:=tt
 fresh:=fr
 st:=st
 lx:=λ_ _ h=>h
 nw:=λ_ _ h=>.inl h
 bd:=λn a h=>by obtain⟨c,e,_⟩:=st.at' n a h;exact(List.getElem?_eq_some_iff.mp e).1
 sz:=aB _
 xt:=.refl
 sb:=λ_ h=>.inl h
def EZ.grow(r:EZ K B al lo H S)(s:pY K H H'):EZ K B al lo H' S where
 fr:=λb o n h w=>s.at' b o n (r.fr b o n h w)
 hf:=λb h=>r.hf b (s.fr b h)
 tt:=s.tt r.tt
 fresh:=λa h=>r.fresh a (s.fr a h)
 st:={
  at':=λn a h=>by obtain⟨c,e,q⟩:=r.st.at' n a h;exact⟨c,e,q.mv (.of s) .refl λo no h=>s.at' _ o no h⟩
  has:=r.st.has
  na:=r.st.na
  inj:=r.st.inj
  tl:=λm b o hb ho=>by
   cases q:H b with
   |none=>exact r.fresh b q
   |some o0=>
    by_cases nt:NT o0
    · have e:=s.at' b o0 nt q;rw[hb]at e;cases e;exact r.st.tl m b o q ho
    · exact r.st.tl m b o0 q (.inr (Classical.byContradiction λw=>nt λps e=>w ⟨ps,e⟩))}
 lx:=r.lx
 nw:=r.nw
 bd:=r.bd
 sz:=r.sz
 xt:=r.xt.trans (.of s)
 sb:=r.sb
def RZ.grow(r:RZ K B al lo H σ ρ S)(s:pY K H H'):RZ K B al lo H' σ ρ S:=
 ⟨r.toEZ.grow s,r.len,λi z e=>let⟨v,h1,h2⟩:=r.vr i z e;⟨v,h1,h2.mv (.of s) .refl⟩⟩
def agf:Option Z->Sl
 |some (.d x)=>.sh x
 |_=>.no
def nQ(ρ:lr):Ev:=ρ.map agf
def RZ.rs(r:RZ K B al lo H σ ρ S):RS K al H al H σ (nQ ρ) where
 same:=.refl H
 tt:=r.tt
 fresh:=r.fresh
 sub:=λ_ h=>h
 pf:=r.fresh
 len:=by unfold nQ;rw[az];exact r.len
 sh:=λi d h=>by
  unfold nQ at h;rw[aO]at h;obtain⟨z,h1,h2⟩:=Option.map_eq_some_iff.mp h;cases z with
  |none=>cases h2
  |some z=>
   cases z with
   |d x=>cases h2;exact r.vr i _ h1
   |loc n=>cases h2
   |tk ks=>cases h2
 ow:=λi ds h=>by
  unfold nQ at h;rw[aO]at h;obtain⟨z,h1,h2⟩:=Option.map_eq_some_iff.mp h;cases z with
  |none=>cases h2
  |some z=>cases z<;>cases h2
 apart:=λi j ds Lf a h _ _ _=>by
  unfold nQ at h;rw[aO]at h;obtain⟨z,h1,h2⟩:=Option.map_eq_some_iff.mp h;cases z with
  |none=>cases h2
  |some z=>cases z<;>cases h2
def RZ.set(r:RZ K B al lo H σ ρ S){i:Nat}{v:V}{z:Z}(hi:i<ρ.length)(q:qe K al lo H v z):RZ K B al lo H (σ.set i<|some v) (ρ.set i<|some z) S where
 toEZ:=r.toEZ
 len:=by rw[cI,cI];exact r.len
 vr:=λj e h=>by
  by_cases w:i=j
  ·subst w;rw[aX hi]at h;cases h;exact⟨v,aX<|by rw[<-r.len];exact hi,q⟩
  ·rw[aQ w]at h;obtain⟨u,a,b⟩:=r.vr j e h;exact⟨u,by rw[aQ w];exact a,b⟩
def ud(lo:Lo)(n:Nat)(p:Addr):Lo:=λm=>if m=n then some p else lo m
def CN.none(st:CN K al lo H S):lo S.length=Option.none:=by
 cases h:lo S.length with
 |none=>rfl
 |some a=>obtain⟨c,e,_⟩:=st.at' _ a h;have:=(List.getElem?_eq_some_iff.mp e).1;omega
def Ds(st:CN K al lo H S)(p):Lx lo (ud lo S.length p):=λn a h=>by
 unfold ud;rw[aA];·exact h
 ·intro w;rw[w,st.none]at h;cases h
def Ke(hp:H p=none):Xt al H (λb=>al b/\b≠p) (upd H p o):=λb u _ hb e=>⟨⟨hb,yx e hp⟩,by rw[mz<|yx e hp];exact e⟩
def EZ.new(r:EZ K B al lo H S)(hp:H p=none)(no:NT o)(hc:tV K (λb=>al b/\b≠p) (ud lo S.length p) (upd H p o) p c)(cn:c≠.no):
    EZ K B (λb=>al b/\b≠p) (ud lo S.length p) (upd H p o) (S++[c]):=by
 have s:pY K H (upd H p o):=vg hp;have x:Xt al H (λb=>al b/\b≠p) (upd H p o):=Ke hp;have g:=r.grow s;refine⟨g.fr,g.hf,g.tt,λa h=>⟨g.fresh a h,λw=>by rw[w,ql]at h;cases h⟩,⟨λn a h=>?_,λn c' h w w'=>?_,λn a h w=>?_,λm n a h1 h2=>?_,λm b u hb hu=>?_⟩,λn a h=>Ds r.st p n a<|r.lx n a h,λn a h=>?_,r.bd,by rw[aq];have:=r.sz;omega,r.xt.trans x,λb hb=>r.sb b hb.1⟩
 ·unfold ud at h;by_cases w:n=S.length
  ·rw[au w]at h;cases h;exact⟨c,by rw[w];simp,hc⟩
  ·rw[aA w]at h;obtain⟨c',e,q⟩:=r.st.at' n a h;have ne:a≠p:=λz=>q.oh.1 (by rw[z];exact hp);exact⟨c',by rw[bc (List.getElem?_eq_some_iff.mp e).1];exact e,q.mv x (Ds r.st p) λu _ h=>by rw[mz ne];exact h⟩
 ·by_cases z:n<S.length
  ·rw[bc z]at h;obtain⟨a,h1⟩:=r.st.has n c' h w w';exact⟨a,Ds r.st p n a h1⟩
  ·have:n=S.length:=by
    have:=(List.getElem?_eq_some_iff.mp h).1;rw[aq,bF]at this;omega
   exact⟨p,by unfold ud;rw[au this]⟩
 ·unfold ud at h;by_cases z:n=S.length;·rw[au z]at h;cases h;exact w.2 rfl
  ·rw[aA z]at h;exact r.st.na n a h w.1
 ·have old:∀k b,lo k=some b->b≠p:=λk b hk z=>by
   obtain⟨c',_,q⟩:=r.st.at' k b hk;exact q.oh.1 (by rw[z];exact hp)
  unfold ud at h1 h2;by_cases z:m=S.length
  ·rw[au z]at h1;cases h1;by_cases y:n=S.length;·omega
   ·rw[aA y]at h2;exact absurd rfl (old n _ h2)
  ·rw[aA z]at h1;by_cases y:n=S.length;·rw[au y]at h2;cases h2;exact absurd rfl (old m _ h1)
   ·rw[aA y]at h2;exact r.st.inj m n a h1 h2
 ·have m':S[0]?=some .mk:=by
   cases S with
   |nil=>have e:some c=some Cell.mk:=m;cases e;exact hc.elim
   |cons d r=>exact m
  by_cases z:b=p
  ·rw[z]at hb;exact absurd hu (hc.nTT hb)
  ·rw[mz z]at hb;exact⟨r.st.tl m' b u hb hu,z⟩
 ·unfold ud at h;by_cases z:n=S.length;·rw[au z]at h;cases h;exact .inr ⟨r.hf _ hp,by rw[z];exact r.sz⟩
  ·rw[aA z]at h;exact r.nw n a h
def RZ.new(r:RZ K B al lo H σ ρ S){p:Addr}{o:HO}{c:Cell}(hp:H p=none)(no:NT o)(hc:tV K (λb=>al b/\b≠p) (ud lo S.length p) (upd H p o) p c)(cn:c≠.no):
    RZ K B (λb=>al b/\b≠p) (ud lo S.length p) (upd H p o) σ ρ (S++[c]):=
 ⟨r.toEZ.new hp no hc cn,r.len,λi z e=>let⟨v,h1,h2⟩:=r.vr i z e;⟨v,h1,h2.mv (Ke hp)<|Ds r.st p⟩⟩
def EZ.write(r:EZ K B al lo H S)(hn:lo n=some a)(no:NT o)(nc:∀q,o≠uo a q)(hc:tV K al lo (upd H a o) a c)(cn:c≠.no):EZ K B al lo (upd H a o) (S.set n c)/\Xt al H al (upd H a o):=by
 obtain⟨c0,e0,q0⟩:=r.st.at' n a hn;have hl:n<S.length:=(List.getElem?_eq_some_iff.mp e0).1;have na:=r.st.na n a hn;have x:Xt al H al (upd H a o):=λb u _ hb e=>⟨hb,by rw[mz λw=>na (by rw[<-w];exact hb)];exact e⟩;refine⟨⟨λb u nu h w=>?_,λb h=>?_,r.tt.upd q0.oh.2.1 q0.oh.2.2,λb h=>?_,⟨λm b h=>?_,λm c' h w w'=>?_,r.st.na,r.st.inj,λm b u hb hu=>?_⟩,r.lx,r.nw,r.bd,by rw[cI];exact r.sz,r.xt.trans x,r.sb⟩,x⟩
 ·have:=r.fr b u nu h w;by_cases z:b=a
  ·subst z;rcases r.nw n b hn with q|q;·exact absurd q (w n)
   ·rw[q.1]at h;cases h
  ·rw[mz z];exact this
 ·by_cases z:b=a;·rw[z,ql]at h;cases h
  ·rw[mz z]at h;exact r.hf b h
 ·by_cases z:b=a;·rw[z,ql]at h;cases h
  ·rw[mz z]at h;exact r.fresh b h
 ·by_cases z:n=m
  ·subst z;rw[hn]at h;cases h;exact⟨c,aX hl,hc⟩
  ·obtain⟨c',e,q⟩:=r.st.at' m b h;refine⟨c',by rw[aQ z];exact e,q.mv x .refl λu _ h'=>?_⟩;rw[mz λw=>z (r.st.inj n m a hn (by rw[<-w];exact h))];exact h'
 ·by_cases z:n=m;·subst z;exact⟨a,hn⟩
  ·rw[aQ z]at h;exact r.st.has m c' h w w'
 ·have m':S[0]?=some .mk:=by
   by_cases z:n=0
   ·subst z;rw[aX hl]at m;cases m;exact hc.elim
   ·rw[aQ z]at m;exact m
  by_cases z:b=a
  ·rw[z]at hb;exact absurd hu (hc.nTT hb)
  ·rw[mz z]at hb;exact r.st.tl m' b u hb hu
def RZ.write(r:RZ K B al lo H σ ρ S){n:Nat}{a:Addr}{o:HO}{c:Cell}(hn:lo n=some a)(no:NT o)(nc:∀q,o≠uo a q)(hc:tV K al lo (upd H a o) a c)(cn:c≠.no):RZ K B al lo (upd H a o) σ ρ (S.set n c)/\Xt al H al (upd H a o):=
 let⟨e,x⟩:=r.toEZ.write hn no nc hc cn
 ⟨⟨e,r.len,λi z e=>let⟨v,h1,h2⟩:=r.vr i z e;⟨v,h1,h2.mv x .refl⟩⟩,x⟩
end
inductive RX(α:Type) where
 |ok(a:α)(S:lD)|ex(c:Addr)(ns:List Str)(ds:List D)(S:lD)|bad
abbrev nC:=lr->lD->RX Z
abbrev lX:=List Z->lD->RX Z
noncomputable def RX.bind{α β:Type}:RX α->(α->lD->RX β)->RX β
 |.ok a S,f=>f a S
 |.ex c ns ds S,_=>.ex c ns ds S
 |.bad,_=>.bad
def qQ{α:Type}(r:R α)(S:lD):RX α:=match r with
 |.ok a=>.ok a S
 |.ex c ns ds=>.ex c ns ds S
 |.bad=>.bad
def j9{α:Type}(K:W.Frag)(B:Z0)(E:XK)(al:Addr->Prop)(lo:Lo)(H:Hp)(σ:St)(ρ:lr)(r:RX α)(k:α->(Addr->Prop)->Lo->Hp->lD->Prop):Prop:=match r with
 |.ok x S'=>∀jK kh H',RZ K B jK kh H' σ ρ S'->Xt al H jK H'->Lx lo kh->k x jK kh H' S'
 |.ex c ns ds S'=>∀jK kh H' dx,EZ K B jK kh H' S'->XR K jK H' dx ns ds->E (.ref c) dx H'
 |.bad=>False
section
variable{α β:Type}{K:W.Frag}{B:Z0}{E:XK}{al jK:Addr->Prop}{lo kh:Lo}{H H':Hp}{σ:St}{ρ:lr}{S S':lD}{k k':α->(Addr->Prop)->Lo->Hp->lD->Prop}
def j9.up(h:j9 K B E al lo H σ ρ r k)(x:Xt al H jK H')(y:Lx lo kh):j9 K B E jK kh H' σ ρ r k:=by
 cases r with
 |ok a S=>exact λmH o5 H2 z x2 y2=>h mH o5 H2 z (x.trans x2) (y.trans y2)
 |ex c ns ds S=>exact h
 |bad=>exact h
def j9.mono(h:j9 K B E al lo H σ ρ r k)(m:∀x jK kh H' S',RZ K B jK kh H' σ ρ S'->Xt al H jK H'->Lx lo kh->k x jK kh H' S'->k' x jK kh H' S'):j9 K B E al lo H σ ρ r k':=by
 cases r with
 |ok a S=>exact λmH o5 H2 z x2 y2=>m _ _ _ _ _ z x2 y2 (h mH o5 H2 z x2 y2)
 |ex c ns ds S=>exact h
 |bad=>exact h
def j9.split{r:RX α}{g:α->lD->RX β}{k:β->(Addr->Prop)->Lo->Hp->lD->Prop}(h:j9 K B E al lo H σ ρ (r.bind g) k):j9 K B E al lo H σ ρ r (λx jK kh H' S'=>j9 K B E jK kh H' σ ρ (g x S') k):=by
 cases r with
 |ok a S=>exact λmH o5 H2 z x2 y2=>j9.up h x2 y2
 |ex c ns ds S=>exact h
 |bad=>exact h
def j9.toAft(z:RZ K B al lo H σ ρ S)(h:j9 K B E al lo H σ ρ (qQ r S) k):Aft K al E H r (λx H'=>k x al lo H' S):=by
 cases r with
 |ok a=>exact λH1 s1=>h al lo H1 (z.grow s1) (.of s1) .refl
 |ex c ns ds=>exact λdx H1 s1 q=>h al lo H1 dx (z.toEZ.grow s1) q
 |bad=>exact h
end
def ZE(X:Cx)(E:XK)(e:Expr)(f:nC):Prop:=∃t:TE,PE X e t/\
 ∀B al lo H σ ρ S (Q:VK),RZ X.K B al lo H σ ρ S->j9 X.K B E al lo H σ ρ (f ρ S) (λz jK kh H' _=>∀v,qe X.K jK kh H' v z->Q v H')->t σ H Q
def ZT(X:Cx)(E:XK)(e:Expr)(f:lr->lD->RX Bool):Prop:=∃t:TT,PT X e t/\
 ∀B al lo H σ ρ S (Q:Bool->Hp->Prop),RZ X.K B al lo H σ ρ S->j9 X.K B E al lo H σ ρ (f ρ S) (λb _ _ H' _=>Q b H')->t σ H Q
def ZA(X:Cx)(E:XK)(es:List Expr)(f:lr->lD->RX (List Z)):Prop:=∃t:TA,PA X es t/\
 (∀B al lo H σ ρ S (Q:List V->Hp->Prop),RZ X.K B al lo H σ ρ S->j9 X.K B E al lo H σ ρ (f ρ S) (λzs jK kh H' _=>∀vs,oK X.K jK kh H' vs zs->Q vs H')->t σ H Q)/\∀ρ S zs S',f ρ S=.ok zs S'->zs.length=es.length
noncomputable def zD(f:lA):nC:=λρ S=>(qQ (f<|nQ ρ) S).bind λd S=>.ok (.d d) S
def zB(f:Ev->R Bool):lr->lD->RX Bool:=λρ S=>qQ (f<|nQ ρ) S
noncomputable def zV(i:Nat):nC:=λρ S=>match ρ[i]? with
 |some (some z)=>.ok z S
 |_=>.bad
def rN:List Z->Option (List D)
 |[]=>some []
 |.d x::r=>(rN r).map (x:: ·)
 |_::_=>none
theorem Hx:∀{zs} {ds},rN zs=some ds->zs=ds.map .d
 |[],_,h=>by cases h;rfl
 |.d x::r,ds,h=>by obtain⟨t,h1,h2⟩:=Option.map_eq_some_iff.mp (show(rN r).map (x:: ·)=some ds from h);subst h2;rw[aR,<-Hx h1]
 |.loc _::_,_,h=>by cases h
theorem Hy:∀ds:List D,rN (ds.map .d)=some ds
 |[]=>rfl
 |d::r=>by show(rN<|r.map .d).map (d:: ·)=_;rw[Hy r];rfl
def z1(g:D->R D)(a:nC):nC:=λρ S=>(a ρ S).bind λx S1=>match x with
 |.d x=>(qQ (g x) S1).bind λd S=>.ok (.d d) S
 |_=>.bad
def z2(g:D->D->R D)(a b:nC):nC:=λρ S=>(a ρ S).bind λx S1=>(b ρ S1).bind λy S2=>match x,y with
 |.d x,.d y=>(qQ (g x y) S2).bind λd S=>.ok (.d d) S
 |_,_=>.bad
def qK(t:D->R Bool)(a:nC):lr->lD->RX Bool:=λρ S=>(a ρ S).bind λx S1=>match x with
 |.d x=>qQ (t x) S1
 |_=>.bad
def U0(c:lr->lD->RX Bool)(a b:nC):nC:=λρ S=>(c ρ S).bind λk S1=>if k=true then a ρ S1 else b ρ S1
def BW(a b:lr->lD->RX Bool):lr->lD->RX Bool:=λρ S=>(a ρ S).bind λk S1=>if k=true then b ρ S1 else .ok false S1
noncomputable def jW:lr->lD->RX (List Z):=λ_ S=>.ok [] S
def jQ(a:nC)(r:lr->lD->RX (List Z)):lr->lD->RX (List Z):=λρ S=>(a ρ S).bind λx S1=>(r ρ S1).bind λxs S2=>.ok (x::xs) S2
def zF(g:jO)(a:lr->lD->RX (List Z)):nC:=λρ S=>(a ρ S).bind λzs S1=>match rN zs with
 |some ds=>(qQ (g ds) S1).bind λd S=>.ok (.d d) S
 |none=>.bad
def zZ(F:lX)(a:lr->lD->RX (List Z)):nC:=λρ S=>(a ρ S).bind F
section
variable{X:Cx}{E:XK}{e a b c:Expr}{es rest:List Expr}{pos:Pos}{f fa fb:nC}{ga gb:lr->lD->RX Bool}{fs:lr->lD->RX (List Z)}
def kJ{f:lA}(h:DE X E e f):ZE X E e (zD f):=by obtain⟨t,p,r⟩:=h;refine⟨t,p,λB al lo H σ ρ S Q z h=>r _ _ _ _ _ _ _ z.rs ?_⟩;have:=j9.toAft z (j9.split h);exact Aft.mono this λd H1 s1 h1 v rv=>h1 al lo H1 (z.grow s1) .refl .refl v rv
def Cd{f:Ev->R Bool}(h:DT X E e f):ZT X E e (zB f):=by obtain⟨t,p,r⟩:=h;exact⟨t,p,λB al lo H σ ρ S Q z h=>r _ _ _ _ _ _ _ z.rs<|j9.toAft z h⟩
def lu(i)(hN:X.N[i]?=some x:=by rfl)(hv:Hs X.env.scope x:=by first|exact Or.inl rfl|exact Or.inr (Or.inl rfl)|exact Or.inr (Or.inr rfl))(hd:(x==("__debug__":Str))=false:=by decide)
 (hcd:(x==("__classdict__":Str))=false:=by decide):ZE X E (.Name x pos) (zV i):=by
  refine⟨_,JB hN hv hd hcd,λB al lo H σ ρ S Q z h=>?_⟩;unfold zV at h;split at h
  ·rename_i z0 q;obtain⟨v,e1,e2⟩:=z.vr i z0 q;exact⟨v,e1,h al lo H z .refl .refl v e2⟩
  ·exact h.elim
def Kh{op:Operator}{g:D->D->R D}(ho:rK X E (binaryOp op) g)(ha:ZE X E a fa)(hb:ZE X E b fb):ZE X E (.BinOp a op b pos) (z2 g fa fb):=by
 obtain⟨r,ro,rr⟩:=ho;obtain⟨ta,pa,ra⟩:=ha;obtain⟨tb,pb,rb⟩:=hb;refine⟨_,afX ro pa pb,λB al lo H σ ρ S Q s h=>ra _ _ _ _ _ _ _ _ s<|j9.mono (j9.split h) λx lV lo1 H1 S1 s1 x1 y1 h1 v rv=>rb _ _ _ _ _ _ _ _ s1<|j9.mono (j9.split h1) λy mH o5 H2 S2 s2 x2 y2 h2 u ru=>?_⟩;split at h2;·exact rr _ _ _ _ _ _ _ s2.fresh (qe.mv x2 y2 rv) ru (Aft.mono (j9.toAft s2<|j9.split h2) λd H3 s3 h3 w uP=>h3 mH o5 H3 (s2.grow s3) .refl .refl w uP)
 ·exact h2.elim
def wy{op:CmpOp}{g:D->D->R D}(ho:rK X E (compareOp op) g)(ha:ZE X E a fa)(hb:ZE X E b fb)(hm:behindInMarks op b=false:=by first|exact YC _|with_unfolding_all rfl):ZT X E (.Compare a [op] [b] pos) (qK tB<|z2 g fa fb):=by
 obtain⟨r,ro,rr⟩:=ho;obtain⟨ta,pa,ra⟩:=ha;obtain⟨tb,pb,rb⟩:=hb;refine⟨_,age ro pa pb hm,λB al lo H σ ρ S Q s h=>ra _ _ _ _ _ _ _ _ s<|j9.mono (j9.split<|j9.split h) λx lV lo1 H1 S1 s1 x1 y1 h1 v rv=>rb _ _ _ _ _ _ _ _ s1<|j9.mono (j9.split h1) λy mH o5 H2 S2 s2 x2 y2 h2 u ru=>?_⟩;split at h2
 ·refine rr _ _ _ _ _ _ _ s2.fresh (qe.mv x2 y2 rv) ru (Aft.mono (j9.toAft s2<|j9.split h2) λd H3 s3 h3 w uP=>?_);have h4:=h3 mH o5 H3 (s2.grow s3) .refl .refl;exact Oc uP (Aft.mono (j9.toAft (s2.grow s3) h4) λ_ _ _ q=>q)
 ·exact h2.elim
def ZW(X:Cx)(E:XK)(e:Expr)(f:lr->lD->RX Bool):Prop:=∃t:TT,PW X e t/\
 ∀B al lo H σ ρ S (Q:Bool->Hp->Prop),RZ X.K B al lo H σ ρ S->j9 X.K B E al lo H σ ρ (f ρ S) (λb _ _ H' _=>Q b H')->t σ H Q
def ZW.zt(h:ZW X E e ga):ZT X E e ga:=let⟨t,p,r⟩:=h;⟨t,p.pt,r⟩
def avB(h:ZT X E a ga):ZW X E (.BoolOp .And [a] pos) ga:=let⟨t,p,r⟩:=h;⟨t,agh p,r⟩
def aiQ(ha:ZT X E a ga)(hb:ZW X E (.BoolOp .And (b::rest) pos) gb):ZW X E (.BoolOp .And (a::b::rest) pos) (BW ga gb):=by
 obtain⟨ta,pa,ra⟩:=ha;obtain⟨tb,pb,rb⟩:=hb;refine⟨_,agg pa pb,λB al lo H σ ρ S Q s h=>ra _ _ _ _ _ _ _ _ s<|j9.mono (j9.split h) λc lV lo1 H1 S1 s1 _ _ h1=>?_⟩;cases c with
 |true=>exact yu (rb _ _ _ _ _ _ _ _ s1 h1)
 |false=>exact yt (h1 lV lo1 H1 s1 .refl .refl)
def avt(hc:ZT X E c ga)(ha:ZE X E a fa)(hb:ZE X E b fb):ZE X E (.IfExp c a b pos) (U0 ga fa fb):=by
 obtain⟨tc,pc,rc⟩:=hc;obtain⟨ta,pa,ra⟩:=ha;obtain⟨tb,pb,rb⟩:=hb;refine⟨_,afV pc pa pb,λB al lo H σ ρ S Q s h=>rc _ _ _ _ _ _ _ _ s<|j9.mono (j9.split h) λc lV lo1 H1 S1 s1 _ _ h1=>?_⟩;cases c with
 |true=>exact yu (ra _ _ _ _ _ _ _ _ s1 h1)
 |false=>exact yt (rb _ _ _ _ _ _ _ _ s1 h1)
def avu{g:D->D->R D}(ho:Vg X E g)(ha:ZE X E a fa)(hb:ZE X E b fb)(hs:Vq b:=by exact λ_ _=>rfl):ZE X E (.Subscript a b pos) (z2 g fa fb):=by
 obtain⟨r,ro,rr⟩:=ho;obtain⟨ta,pa,ra⟩:=ha;obtain⟨tb,pb,rb⟩:=hb;refine⟨_,afW ro pa pb hs,λB al lo H σ ρ S Q s h=>ra _ _ _ _ _ _ _ _ s<|j9.mono (j9.split h) λx lV lo1 H1 S1 s1 x1 y1 h1 v rv=>rb _ _ _ _ _ _ _ _ s1<|j9.mono (j9.split h1) λy mH o5 H2 S2 s2 x2 y2 h2 u ru=>?_⟩;split at h2;·exact rr _ _ _ _ _ _ _ s2.fresh (qe.mv x2 y2 rv) ru (Aft.mono (j9.toAft s2<|j9.split h2) λd H3 s3 h3 w uP=>h3 mH o5 H3 (s2.grow s3) .refl .refl w uP)
 ·exact h2.elim
def mK:ZA X E [] jW:=⟨_,Tn,λB al lo H σ ρ S Q s h=>h al lo H s .refl .refl _ .nil,λ_ _ _ _ h=>by cases h;rfl⟩
def kO(ha:ZE X E e fa)(hr:ZA X E es fs)(hs:starEach (e::es) X.env=(false,eval e X.env)::starEach es X.env:=by rfl):ZA X E (e::es) (jQ fa fs):=by
 obtain⟨ta,pa,ra⟩:=ha;obtain⟨tb,pb,rb,lb⟩:=hr;refine⟨_,Tj pa pb hs,λB al lo H σ ρ S Q s h=>ra _ _ _ _ _ _ _ _ s<|j9.mono (j9.split h) λx lV lo1 H1 S1 s1 x1 y1 h1 v rv=>rb _ _ _ _ _ _ _ _ s1<|j9.mono (j9.split h1) λy mH o5 H2 S2 s2 x2 y2 h2 u ru=>?_,λρ S zs S' h=>?_⟩;·exact h2 mH o5 H2 s2 .refl .refl _ (.cons (rv.mv x2 y2) ru)
 ·unfold jQ at h;cases q:fa ρ S with
  |bad=>rw[q]at h;cases h
  |ex c ns ds S1=>rw[q]at h;cases h
  |ok x S1=>
   rw[q]at h;have h':(fs ρ S1).bind (λxs S2=>.ok (x::xs) S2)=RX.ok zs S':=h;cases q2:fs ρ S1 with
   |bad=>rw[q2]at h';cases h'
   |ex c ns ds S1=>rw[q2]at h';cases h'
   |ok xs S2=>rw[q2]at h';cases h';rw[ak,ak,lb _ _ _ _ q2]
def z7{x1}(ha:ZA X E es fs):ZE X E (.Tuple es x1 pos) (zF lB fs):=by
 obtain⟨ta,pa,ra,_⟩:=ha;refine⟨_,afZ pa,λB al lo H σ ρ S Q s h=>ra _ _ _ _ _ _ _ _ s<|j9.mono (j9.split h) λx lV lo1 H1 S1 s1 x1 y1 h1 v rv=>?_⟩;split at h1
 ·rename_i ds e;have:=Hx e;subst this;have rv':=rv.toD;have h2:=Aft.mono (j9.toAft s1<|j9.split h1) λd H3 s3 h3=>h3 lV lo1 H3 (s1.grow s3) .refl .refl;unfold lB at h2;by_cases z:ds.length<=sizeLine
  ·rw[au z]at h2;exact⟨by rw[rv'.length];exact z,λp hp=>h2 _ (vg hp) _<|rv'.abQ hp<|s1.fresh p hp⟩
  ·rw[aA z]at h2;exact h2.elim
 ·exact h1.elim
variable{x:Str}{p:Pos}
def aiL{id:String}{g:jO}(hc:xf X E (.builtin id) g)(hg:Gl X x)(hm:X.mg x=none)(hv:bootBuiltins x=some (.builtin id))(ha:ZA X E (e::es) fs)(hn:x≠"__name__":=by decide)(hdb:(x==("__debug__":Str))=false:=by decide)
    (he:starEach (e::es) X.env=(false,eval e X.env)::starEach es X.env:=by rfl)(hpl:(backTo pos<|starEach es X.env).any (·.1)=false:=by rfl):ZE X E (.Call (.Name x p) (e::es) [] pos) (zF g fs):=by
 obtain⟨r,rc,rr⟩:=hc;obtain⟨ta,pa,ra,_⟩:=ha;refine⟨_,Z7 rc hg hm hv pa hn hdb he hpl,λB al lo H σ ρ S Q s h=>ra _ _ _ _ _ _ _ _ s<|j9.mono (j9.split h) λx lV lo1 H1 S1 s1 x1 y1 h1 v rv=>?_⟩;split at h1
 ·rename_i ds e;have:=Hx e;subst this;exact rr _ _ _ _ _ s1.fresh rv.toD (Aft.mono (j9.toAft s1<|j9.split h1) λd H3 s3 h3=>h3 lV lo1 H3 (s1.grow s3) .refl .refl)
 ·exact h1.elim
variable{k n:Nat}{ps:List Str}{F:jO}
def xO(G:km X.prog X.w X.K X.mg X.base (jF X.prog X.w) k x ps<|kj n X.K F)(hr:n6 k X.A)(hg:Gl X x)(hx:Passes (jF X.prog X.w) X E)(hn:(e::es).length=n)(ha:ZA X E (e::es) fs)(hdb:(x==("__debug__":Str))=false:=by decide)
    (he:starEach (e::es) X.env=(false,eval e X.env)::starEach es X.env:=by rfl)(hpl:(backTo pos<|starEach es X.env).any (·.1)=false:=by rfl):ZE X E (.Call (.Name x p) (e::es) [] pos) (zF F fs):=by
 obtain⟨ta,pa,ra,lb⟩:=ha;refine⟨_,Z8 G hr hg hx pa hdb he hpl,λB al lo H σ ρ S Q s h=>ra _ _ _ _ _ _ _ _ s ?_⟩;unfold zF at h;cases q:fs ρ S with
 |bad=>rw[q]at h;exact h.elim
 |ex c ns ds S1=>rw[q]at h;exact h
 |ok zs S1=>
  rw[q]at h;intro lV lo1 H1 s1 x1 y1 vs rv;have ll:=lb _ _ _ _ q;have h1:j9 X.K B E al lo H σ ρ (match rN zs with|some ds=>(qQ (F ds) S1).bind λd S=>.ok (.d d) S|none=>.bad) (λz jK kh H' _=>∀v,qe X.K jK kh H' v z->Q v H'):=h;split at h1
  ·rename_i ds e;have:=Hx e;subst this;have rv':=rv.toD;rw[bz];exact⟨by rw[rv'.length];rw[az]at ll;rw[ll];exact hn,s1.tt,lV,ds,s1.fresh,rv',Aft.mono (j9.toAft s1 (j9.split (j9.up h1 x1 y1))) λd H3 s3 h3=>h3 lV lo1 H3 (s1.grow s3) .refl .refl⟩
  ·exact h1.elim
end
def aiR(K:W.Frag)(B:Z0)(E:XK)(r:RX Z)(Q:VK):Prop:=match r with
 |.ok z S'=>∀jK kh H' v,EZ K B jK kh H' S'->qe K jK kh H' v z->Q v H'
 |.ex c ns ds S'=>∀jK kh H' dx,EZ K B jK kh H' S'->XR K jK H' dx ns ds->E (.ref c) dx H'
 |.bad=>False
def kY(n:Nat)(K:W.Frag)(F:lX):Sp:=λvs H Q E=>vs.length=n/\tY K H/\∃al lo zs S,(∀a,H a=none->al a)/\CN K al lo H S/\oK K al lo H vs zs/\aiR K ⟨H,al,lo,S.length⟩ E (F zs S) Q
def EZ.trans(r:EZ K B al lo H S)(q:EZ K ⟨H,al,lo,S.length⟩ jK kh H' S'):EZ K B jK kh H' S' where
 fr:=λb o n h w=>q.fr b o n (r.fr b o n h w) λm hm=>by
  rcases r.nw m b hm with z|z;·exact w m z
  ·rw[z.1]at h;cases h
 hf:=λb h=>r.hf b (q.hf b h)
 tt:=q.tt
 fresh:=q.fresh
 st:=q.st
 lx:=λn a h=>q.lx n a (r.lx n a h)
 nw:=λn a h=>by
  rcases q.nw n a h with z|z;·exact r.nw n a z
  ·exact .inr ⟨r.hf a z.1,aJ r.sz z.2⟩
 bd:=r.bd
 sz:=aJ r.sz q.sz
 xt:=r.xt.trans q.xt
 sb:=λa h=>by
  rcases q.sb a h with z|z;·exact r.sb a z
  ·exact .inr (r.hf a z)
def RZ.after(r:RZ K B al lo H σ ρ S)(q:EZ K ⟨H,al,lo,S.length⟩ jK kh H' S'):RZ K B jK kh H' σ ρ S':=
 ⟨r.toEZ.trans q,r.len,λi z e=>let⟨v,h1,h2⟩:=r.vr i z e;⟨v,h1,h2.mv q.xt q.lx⟩⟩
section
variable{X:Cx}{E:XK}{e:Expr}{es:List Expr}{pos p:Pos}{fs:lr->lD->RX (List Z)}{x:Str}{k n:Nat}{ps:List Str}{F:lX}
def tU(G:km X.prog X.w X.K X.mg X.base (jF X.prog X.w) k x ps<|kY n X.K F)(hr:n6 k X.A)(hg:Gl X x)(hx:Passes (jF X.prog X.w) X E)(hn:(e::es).length=n)(ha:ZA X E (e::es) fs)(hdb:(x==("__debug__":Str))=false:=by decide)
 (he:starEach (e::es) X.env=(false,eval e X.env)::starEach es X.env:=by rfl)(hpl:(backTo pos<|starEach es X.env).any (·.1)=false:=by rfl):ZE X E (.Call (.Name x p) (e::es) [] pos) (zZ F fs):=by
  obtain⟨ta,pa,ra,lb⟩:=ha;refine⟨_,Z8 G hr hg hx pa hdb he hpl,λB al lo H σ ρ S Q s h=>ra _ _ _ _ _ _ _ _ s ?_⟩;unfold zZ at h;cases q:fs ρ S with
  |bad=>rw[q]at h;exact h.elim
  |ex c ns ds S1=>rw[q]at h;exact h
  |ok zs S1=>
   rw[q]at h;intro lV lo1 H1 s1 x1 y1 vs rv;have ll:=lb _ _ _ _ q;have h1:j9 X.K B E al lo H σ ρ (F zs S1) (λz jK kh H' _=>∀v,qe X.K jK kh H' v z->Q v H'):=h;rw[bz];refine⟨by rw[rv.length,ll];exact hn,s1.tt,lV,lo1,zs,S1,s1.fresh,s1.st,rv,?_⟩;cases q2:F zs S1 with
   |bad=>rw[q2]at h1;exact h1.elim
   |ex c ns ds S2=>rw[q2]at h1;exact λmH o5 H2 dx e2 xr=>h1 mH o5 H2 dx (s1.toEZ.trans e2) xr
   |ok z S2=>rw[q2]at h1;exact λmH o5 H2 v e2 rv2=>h1 mH o5 H2 (s1.after e2) (x1.trans e2.xt) (y1.trans e2.lx) v rv2
end
inductive pq where
 |nx(ρ:lr)(S:lD)|rt(z:Z)(S:lD)|bk(ρ:lr)(S:lD)|ct(ρ:lr)(S:lD)|ex(c:Addr)(ns:List Str)(ds:List D)(S:lD)|bad
abbrev lF:=lr->lD->pq
noncomputable def toZ{α:Type}(r:RX α)(k:α->lD->pq):pq:=match r with
 |.ok a S=>k a S
 |.ex c ns ds S=>.ex c ns ds S
 |.bad=>.bad
def uA(r:pq)(k:lF):pq:=match r with
 |.nx ρ S=>k ρ S
 |r=>r
def o7(K:W.Frag)(B:Z0)(E:XK)(D:Ends)(al:Addr->Prop)(H:Hp):pq->Prop
 |.nx ρ S=>∀jK kh H' σ',Xt al H jK H'->RZ K B jK kh H' σ' ρ S->D.nx σ' H'
 |.bk ρ S=>∀jK kh H' σ',Xt al H jK H'->RZ K B jK kh H' σ' ρ S->D.bk σ' H'
 |.ct ρ S=>∀jK kh H' σ',Xt al H jK H'->RZ K B jK kh H' σ' ρ S->D.ct σ' H'
 |.rt z S=>∀jK kh H' v,EZ K B jK kh H' S->qe K jK kh H' v z->D.rt v H'
 |.ex c ns ds S=>∀jK kh H' dx,EZ K B jK kh H' S->XR K jK H' dx ns ds->E (.ref c) dx H'
 |.bad=>False
section
variable{K:W.Frag}{B:Z0}{E:XK}{D:Ends}{al jK:Addr->Prop}{lo:Lo}{H H':Hp}{s:pq}{σ:St}{ρ:lr}
def o7.ext(h:o7 K B E D al H s)(x:Xt al H jK H'):o7 K B E D jK H' s:=by
 cases s with
 |nx ρ S=>exact λa l h1 oW y r=>h a l h1 oW (x.trans y) r
 |bk ρ S=>exact λa l h1 oW y r=>h a l h1 oW (x.trans y) r
 |ct ρ S=>exact λa l h1 oW y r=>h a l h1 oW (x.trans y) r
 |rt d S=>exact h
 |ex c ns ds S=>exact h
 |bad=>exact h
def o7.v8{α:Type}{r:RX α}{k:α->lD->pq}(h:o7 K B E D al H<|toZ r k):j9 K B E al lo H σ ρ r (λx jK kh H' S'=>o7 K B E D jK H'<|k x S'):=by
 cases r with
 |ok x S=>exact λlV lo1 H1 s1 x1 y1=>o7.ext h x1
 |ex c ns ds S=>exact h
 |bad=>exact h
end
def ZS(X:Cx)(E:XK)(b:Nat)(st:Stmt)(g:lF):Prop:=∃t:TS,PS X st t/\
 ∀B:Z0,B.n=b->∀al lo H σ ρ S (D:Ends),RZ X.K B al lo H σ ρ S->o7 X.K B E D al H (g ρ S)->t D σ H
def yX(X:Cx)(E:XK)(b:Nat)(st:List Stmt)(g:lF):Prop:=∃t:TS,uH X st t/\
 ∀B:Z0,B.n=b->∀al lo H σ ρ S (D:Ends),RZ X.K B al lo H σ ρ S->o7 X.K B E D al H (g ρ S)->t D σ H
def pP:lF:=.nx
def j5(a b:lF):lF:=λρ S=>uA (a ρ S) b
def pD(f:nC):lF:=λρ S=>toZ (f ρ S) λ_ S1=>.nx ρ S1
def o9(f:nC):lF:=λρ S=>toZ (f ρ S) .rt
def mR(i:Nat)(f:nC):lF:=λρ S=>toZ (f ρ S) λz S1=>if i<ρ.length then .nx (ρ.set i<|some z) S1 else .bad
def nZ(c:lr->lD->RX Bool)(a b:lF):lF:=λρ S=>toZ (c ρ S) λk S1=>if k=true then a ρ S1 else b ρ S1
section
variable{X:Cx}{E:XK}{b:Nat}{st:Stmt}{rest sa sb:List Stmt}{g u ga gb:lF}{e c:Expr}{f:nC}{fc:lr->lD->RX Bool}{pos:Pos}
def uh:yX X E b [] pP:=⟨_,agc,λB hb al lo H σ ρ S _ s h=>h al lo H σ .refl s⟩
def mG(h:ZS X E b st g):yX X E b [st] g:=let⟨t,p,r⟩:=h;⟨t,aaa p,r⟩
def lC(h1:ZS X E b st g)(h2:yX X E b rest u):yX X E b (st::rest) (j5 g u):=by
 obtain⟨t1,p1,r1⟩:=h1;obtain⟨t2,p2,r2⟩:=h2;refine⟨_,agb p1 p2,λB hb al lo H σ ρ S D s h=>r1 B hb al lo H σ ρ S _ s ?_⟩;unfold j5 at h;cases q:g ρ S with
 |nx oG S1=>rw[q]at h;exact λjK kh H' σ' x s'=>r2 B hb jK kh H' σ' oG S1 D s' (o7.ext h x)
 |bk oG S1=>rw[q]at h;exact h
 |ct oG S1=>rw[q]at h;exact h
 |rt d S1=>rw[q]at h;exact h
 |ex c ns ds S1=>rw[q]at h;exact h
 |bad=>rw[q]at h;exact h
def avz:ZS X E b (.Break pos) .bk:=⟨_,aqf,λB hb al lo H σ ρ S _ s h=>h al lo H σ .refl s⟩
def ug(he:ZE X E e f)(hs:swapsWith e none pos.line X.env=pure false:=by rfl):ZS X E b (.Expr e pos) (pD f):=by obtain⟨t,p,r⟩:=he;exact⟨_,af5 p hs,λB hb al lo H σ ρ S D s h=>r _ _ _ _ _ _ _ _ s<|j9.mono (o7.v8 h) λz lV lo1 H1 S1 s1 x1 y1 h1 v rv=>h1 lV lo1 H1 σ .refl s1⟩
def rH(he:ZE X E e f):ZS X E b (.Return (some e) pos) (o9 f):=by obtain⟨t,p,r⟩:=he;exact⟨_,af8 p,λB hb al lo H σ ρ S D s h=>r _ _ _ _ _ _ _ _ s<|j9.mono (o7.v8 h) λz lV lo1 H1 S1 s1 x1 y1 h1 v rv=>h1 lV lo1 H1 v s1.toEZ rv⟩
def pF(i:Nat){x:Str}{pos':Pos}(hN:X.N.Nodup)(hi:X.N[i]?=some x)(hx:Loc X.env.scope x)(he:ZE X E e f)(hs:swapsWith e (some<|.Name x pos') pos.line X.env=pure false:=by rfl)(hf:X.fn x=true\/X.env.scope.names.lookup x=some .local:=by first|exact .inl rfl|exact .inr rfl|assumption):
    ZS X E b (.Assign [.Name x pos'] e pos) (mR i f):=by
 obtain⟨t,p,r⟩:=he;refine⟨_,af9 hN hi hx p hs hf,λB hb al lo H σ ρ S D s h=>r _ _ _ _ _ _ _ _ s<|j9.mono (o7.v8 h) λz lV lo1 H1 S1 s1 x1 y1 h1 v rv=>?_⟩;by_cases w:i<ρ.length
 ·simp only[w,dG]at h1;exact h1 lV lo1 H1 _ .refl (s1.set w rv)
 ·simp only[w,fB]at h1;exact h1.elim
def q8(hc:ZT X E c fc)(ha:yX X E b sa ga)(hb:yX X E b sb gb):ZS X E b (.If c sa sb pos) (nZ fc ga gb):=by
 obtain⟨tc,pc,rc⟩:=hc;obtain⟨ta,pa,ra⟩:=ha;obtain⟨tb,pb,rb⟩:=hb;refine⟨_,af7 pc pa pb,λB hb al lo H σ ρ S D s h=>rc _ _ _ _ _ _ _ _ s<|j9.mono (o7.v8 h) λk lV lo1 H1 S1 s1 x1 y1 h1=>?_⟩;cases k with
 |true=>exact yu (ra _ hb _ _ _ _ _ _ _ s1 h1)
 |false=>exact yt (rb _ hb _ _ _ _ _ _ _ s1 h1)
def vp(r:pq)(k:lF):pq:=match r with
 |.nx ρ S=>k ρ S
 |.ct ρ S=>k ρ S
 |.bk ρ S=>.nx ρ S
 |r=>r
def uB(c:lr->lD->RX Bool)(b:lF):Nat->lF
 |0,_,_=>.bad
 |n+1,ρ,S=>toZ (c ρ S) λk S1=>if k=true then vp (b ρ S1) (uB c b n)else .nx ρ S1
def ah1{K:W.Frag}{B:Z0}{E:XK}{al:Addr->Prop}{H:Hp}{D:Ends}{r:pq}{k:lF}{N:St->Hp->Prop}(h:o7 K B E D al H<|vp r k)
    (hN:∀jK kh H' σ' mO S',Xt al H jK H'->RZ K B jK kh H' σ' mO S'->o7 K B E D jK H' (k mO S')->N σ' H'):o7 K B E {D with nx:=N,ct:=N,bk:=D.nx} al H r:=by
 cases r with
 |nx ρ S=>exact λjK kh H' σ' x s=>hN jK kh H' σ' ρ S x s (o7.ext h x)
 |ct ρ S=>exact λjK kh H' σ' x s=>hN jK kh H' σ' ρ S x s (o7.ext h x)
 |bk ρ S=>exact h
 |rt d S=>exact h
 |ex c ns ds S=>exact h
 |bad=>exact h
def O9(n:Nat)(hp:PassesOwn (model X.prog X.w) X.A X.env X.xe)(hc:ZT X E c fc)(hb:yX X E b sb gb):ZS X E b (.While c sb [] pos) (uB fc gb n):=by
 obtain⟨tc,pc,rc⟩:=hc;obtain⟨tb,pb,rb⟩:=hb;refine⟨_,aga hp pc pb,λB hb al lo H σ ρ S D s h=>⟨λm oW H1=>∃lV lo1 oG S1,RZ X.K B lV lo1 H1 oW oG S1/\o7 X.K B E D lV H1 (uB fc gb m oG S1),⟨n,al,lo,ρ,S,s,h⟩,?_⟩⟩
 rintro m oW H1 ⟨lV,lo1,oG,S1,s1,h1⟩
 cases m with
 |zero=>exact h1.elim
 |succ m=>
  refine rc _ _ _ _ _ _ _ _ s1 (j9.mono (o7.v8 h1) λk mH o5 H2 S2 s2 x2 y2 h2=>?_);cases k with
  |true=>refine yu ⟨λσ' H'=>∃lV lo1 oG S1,RZ X.K B lV lo1 H' σ' oG S1/\o7 X.K B E D lV H' (uB fc gb m oG S1),λσ' H' z=>⟨m,b8 m,z⟩,rb _ hb _ _ _ _ _ _ _ s2<|ah1 (k:=uB fc gb m) h2 λjK kh H' σ' mO S' _ s' h'=>⟨jK,kh,mO,S',s',h'⟩⟩
  |false=>exact yt (h2 mH o5 H2 oW .refl s2)
end
def ZG(X:Cx)(tg:Expr)(a:D->lr->Option lr):Prop:=∃g:TG,PG X tg g/\
 ∀B al lo H σ ρ S v d (Q:St->Hp->Prop),RZ X.K B al lo H σ ρ S->Rep X.K al H v d->(∃mO,a d ρ=some mO/\∀σ',RZ X.K B al lo H σ' mO S->Q σ' H)->g v σ H Q
def hV(i:Nat):D->lr->Option lr:=λd ρ=>if i<ρ.length then some (ρ.set i<|some<|.d d)else none
def hN:List D->lr->Option lr:=λds ρ=>match ds with
 |[]=>some ρ
 |_=>none
def hT(n:Nat)(a:List D->lr->Option lr):D->lr->Option lr:=λd ρ=>match d with
 |.tup ds=>if ds.length=n then a ds ρ else none
 |_=>none
def ahQ{α:Type}(r:Option α)(k:α->pq):pq:=match r with
 |some a=>k a
 |none=>.bad
def zH(a:D->lr->Option lr)(b:lF):List D->lF
 |[],ρ,S=>.nx ρ S
 |d::r,ρ,S=>ahQ (a d ρ) λoG=>vp (b oG S) (zH a b r)
section
variable{X:Cx}{E:XK}{b:Nat}{tg iter:Expr}{body:List Stmt}{fi:Ev->R (List D)}{a:D->lr->Option lr}{gb:lF}{pos:Pos}{e:Expr}{f:nC}
def Kf(fi:Ev->R (List D))(a:D->lr->Option lr)(gb:lF):lF:=λρ S=>toZ (qQ (fi<|nQ ρ) S) λds S1=>zH a gb ds ρ S1
def aiM(i)(hN:X.N.Nodup)(hi:X.N[i]?=some x)(hx:Loc X.env.scope x)(hf:X.fn x=true\/X.env.scope.names.lookup x=some .local:=by first|exact .inl rfl|exact .inr rfl|assumption):ZG X (.Name x pos) (hV i):=by
 refine⟨_,af0 hN hi hx hf,λB al lo H σ ρ S v d Q s rv h=>?_⟩;obtain⟨mO,e,q⟩:=h;unfold hV at e;by_cases z:i<ρ.length
 ·rw[au z]at e;cases e;exact q _ (s.set z rv)
 ·rw[aA z]at e;cases e
def aiP(hp:PassesOwn (model X.prog X.w) X.A X.env X.xe)(hc:X.calm=true)(hi:DI X E tg iter fi)(hg:ZG X tg a)(hb:yX X E b body gb)(hs:∀x,foldedSetIterable iter X.env x=pure x:=by intro _;rfl):
    ZS X E b (.For tg iter body [] pos) (Kf fi a gb):=by
 obtain⟨wi,pi,ri⟩:=hi;obtain⟨g,pg,rg⟩:=hg;obtain⟨tb,pb,rb⟩:=hb;refine⟨_,af6 hp hc pi pg pb hs,λB hb al lo H σ ρ S D s h=>ri _ _ _ _ _ _ _ s.rs<|Aft.mono (j9.toAft (k:=λds jK kh H' S'=>o7 X.K B E D jK H'<|zH a gb ds ρ S') s<|o7.v8 h) λds H1 s1 h1 J wk=>?_⟩;refine⟨λi m vK H2=>∃mH o5 vy S2,RZ X.K B mH o5 H2 vK vy S2/\Wk X.K mH H2 J ds/\o7 X.K B E D mH H2 (zH a gb (ds.drop i) vy S2)/\m=ds.length - i,⟨_,al,lo,ρ,S,s.grow s1,wk,h1,rfl⟩,?_⟩
 rintro i m vK H2 ⟨mH,o5,vy,S2,s2,O6,h2,rfl⟩
 obtain⟨w1,w2⟩:=O6 mH H2 .refl s2.fresh;by_cases hi:i<ds.length
 ·right;have ed:ds[i]?=some ds[i]:=aN hi;obtain⟨go,yl⟩:=w1 i _ ed;rw[cD hi]at h2;refine⟨go,λσ' H'=>∃mH o5 vy S2,RZ X.K B mH o5 H' σ' vy S2/\Wk X.K mH H' J ds/\o7 X.K B E D mH H' (zH a gb (ds.drop<|i+1) vy S2),λσ' H' ⟨Fe,M7,Hl,S3,z1,z2,z3⟩=>⟨ds.length - (i+1),by omega,Fe,M7,Hl,S3,z1,z2,z3,rfl⟩,λx H3 y=>?_⟩;obtain⟨rfl,rx⟩:=yl x H3 y;unfold zH at h2;cases q:a ds[i] vy with
  |some Hl=>rw[q]at h2;refine rg _ _ _ _ _ _ _ _ _ _ s2 rx ⟨Hl,q,λuC s3=>rb _ hb _ _ _ _ _ _ _ s3<|ah1 (k:=zH a gb<|ds.drop<|i+1) h2 λjK kh H' σ' mO S' x' s' h'=>⟨jK,kh,mO,S',s',λVD H4 x4=>O6 VD H4<|x'.trans x4,h'⟩⟩
  |none=>rw[q]at h2;exact h2.elim
 ·left;have e:ds.drop i=[]:=dm (by omega);rw[e]at h2;exact⟨w2 i<|by omega,h2 mH o5 H2 vK .refl s2⟩
end
def lg(n:Nat)(zs:List Z):lr:=zs.map some++List.replicate (n - zs.length) none
noncomputable def kE:pq->RX Z
 |.rt z S=>.ok z S
 |.nx _ S=>.ok (.d .non) S
 |.ex c ns ds S=>.ex c ns ds S
 |_=>.bad
def ag3{al:Addr->Prop}(tt:tY K H)(fr:∀a,H a=none->al a)(st:CN K al lo H S)(r:oK K al lo H vs zs):RZ K ⟨H,al,lo,S.length⟩ al lo H (L2.start N vs) (lg N.length zs) S where
 toEZ:=EZ.start (zs:=zs) tt fr st
 len:=by unfold L2.start lg;simp[r.length]
 vr:=λi z h=>by
  unfold lg at h;by_cases hi:i<zs.length
  ·rw[bc<|by simpa using hi,aO]at h;cases q:zs[i]? with
   |none=>rw[q]at h;cases h
   |some y=>rw[q]at h;cases h;obtain⟨v,e1,e2⟩:=r.get q;refine⟨v,?_,e2⟩;unfold L2.start;rw[bc<|by simpa [r.length]using hi,aO,e1];rfl
  ·rw[bh<|by simpa using hi,bY]at h;split at h<;>cases h
section
variable{P:Program}{w:World}{K:W.Frag}{mg:nO}{base:Heap}
def vU{x:Str}{st:Stmt}{f:Addr}{fd:FuncData}{N ps:List Str}{k:Nat}{g:Nat->lF}(F:lO K x x st f fd)(S:lU N ps<|j8 st)
    (body:∀(b:Nat) (cdv:Value) (A:Around) (outer:List Env) (s:Shared) (H:Hp) (E:XK),n6 k (nG (jF P w) P w K mg base N x (j8 st) f cdv A outer s H E).A->yX (nG (jF P w) P w K mg base N x (j8 st) f cdv A outer s H E) E b (oM st) (g b)):
    jZ P w K mg base (jF P w) (k+1) f fd ps (kY ps.length K λzs S=>kE<|g S.length (lg N.length zs) S):=by
 refine F.okX S (λvs H Q E h=>h.1) (λcdv A outer s H vs Q E hr h=>?_);obtain⟨hl,tt,al,lo,zs,S0,fr,st,rv,h⟩:=h;obtain⟨t,p,r⟩:=body S0.length cdv A outer s H E hr;dsimp only at h;refine⟨t,p,r ⟨H,al,lo,S0.length⟩ rfl al lo H (L2.start N vs) (lg N.length zs) S0 _ (ag3 tt fr st rv) ?_⟩;cases q:g S0.length (lg N.length zs) S0 with
 |nx ρ S1=>rw[q]at h;exact λjK kh H' σ' _ s'=>h jK kh H' .non s'.toEZ .non
 |rt z S1=>rw[q]at h;exact h
 |ex c ns es S1=>rw[q]at h;exact h
 |bk ρ S1=>rw[q]at h;exact h.elim
 |ct ρ S1=>rw[q]at h;exact h.elim
 |bad=>rw[q]at h;exact h.elim
def clo:RX Z->R D
 |.ok (.d x) _=>.ok x
 |.ex c ns ds _=>.ex c ns ds
 |_=>.bad
def atu:CN K al (λ_=>none) H []:=
 {at':=λ_ _ h=>(by cases h),has:=λn c h _ _=>(by simp at h),na:=λ_ _ h=>(by cases h),inj:=λ_ _ _ h=>(by cases h),tl:=λh=>(by simp at h)}
def ato{F:lX}(h:kj n K (λds=>clo<|F (ds.map .d) []) vs H Q E):kY n K F vs H Q E:=by
 obtain⟨hl,tt,al,ds,fr,rv,h⟩:=h;refine⟨hl,tt,al,λ_=>none,ds.map .d,[],fr,atu,.ofD rv,?_⟩;have same:∀{jK kh H' S'},EZ K ⟨H,al,λ_=>none,([]:lD).length⟩ jK kh H' S'->pY K H H':=λe=>⟨λb o no hb=>e.fr b o no hb λ_=>nofun,e.hf,λ_=>e.tt⟩;have sub:∀{jK kh H' S'},EZ K ⟨H,al,λ_=>none,([]:lD).length⟩ jK kh H' S'->∀a,jK a->al a:=λe a ha=>(e.sb a ha).elim id (fr a);dsimp only at h;cases q:F (ds.map .d) []with
 |bad=>rw[q]at h;exact h.elim
 |ex c ns es S1=>rw[q]at h;exact λjK kh H' dx e xr=>h dx H' (same e) (xr.mv<|.sub<|sub e)
 |ok z S1=>
  rw[q]at h;cases z with
  |loc m=>exact h.elim
  |tk ks=>exact h.elim
  |d x=>exact λjK kh H' v e rv=>h H' (same e) v (Rep.mv (.sub<|sub e) rv)
def jZ.close{k}(h:jZ P w K mg base (jF P w) k f fd ps<|kY n K F):jZ P w K mg base (jF P w) k f fd ps (kj n K<|λds=>clo<|F (ds.map .d) []):=
 h.imp λvs H Q E q=>ato q
end
def leave(r:RT)(S:lD):pq:=match r with
 |.rt d=>.rt (.d d) S
 |.ex c ns ds=>.ex c ns ds S
 |_=>.bad
section
variable{X:Cx}{E:XK}{b:Nat}{st:Stmt}{e:Expr}{pos:Pos}
def Kl{g}(h:DS X E st g):ZS X E b st (λρ S=>leave (g<|nQ ρ) S):=by
 obtain⟨t,p,r⟩:=h;refine⟨t,p,λB hb al lo H σ ρ S D s h=>r _ _ _ _ _ _ _ s.rs ?_⟩;dsimp only at h;cases q:g (nQ ρ)with
 |rt d=>rw[q]at h;exact λv H' sm rv=>h al lo H' v (s.toEZ.grow sm) rv
 |ex c ns ds=>rw[q]at h;exact λdx H' sm xr=>h al lo H' dx (s.toEZ.grow sm) xr
 |nx _=>rw[q]at h;exact h.elim
 |bk _=>rw[q]at h;exact h.elim
 |ct _=>rw[q]at h;exact h.elim
 |bad=>rw[q]at h;exact h.elim
def BZ(fn:Ev->R (List D)):nC:=λρ S=>(qQ (fn<|nQ ρ) S).bind λds S1=>.ok (.loc S1.length) (S1++[.li<|ds.map .d])
def U4(he:DN X E e fn):ZE X E e (BZ fn):=by obtain⟨t,p,r⟩:=he;refine⟨t,p,λB al lo H σ ρ S Q s h=>r _ _ _ _ _ _ _ s.rs<|Aft.mono (j9.toAft s<|j9.split h) λds H1 s1 h1 p vs hp rv=>?_⟩;have s2:=s.grow s1;have hc:tV X.K (λb=>al b/\b≠p) (ud lo S.length p) (upd H1 p<|.lst vs) p (.li<|ds.map .d):=⟨vs,ql,oK.mv (Ke hp) (Ds s2.st p)<|.ofD rv⟩;exact h1 _ _ _ (s2.new hp Bk hc nofun) (Ke hp) (Ds s2.st p) _ ⟨p,by unfold ud;rw[au rfl],rfl⟩
end
section
variable{X:Cx}{E:XK}{b:Nat}{e:Expr}{pos:Pos}{f:nC}
def rF(i:Nat)(f:nC):lF:=λρ S=>match ρ[i]? with
 |some (some (.loc n))=>(match S[n]? with
  |some (.li _)=>toZ (f ρ S) λz S1=>(match S1[n]? with
   |some (.li zs)=>if zs.length<sizeLine then .nx ρ (S1.set n<|.li<|zs++[z])else .bad
   |_=>.bad)
  |_=>.bad)
 |_=>.bad
def RZ.cell(s:RZ K B al lo H σ ρ S)(hn:lo n=some a)(h:S[n]?=some c):tV K al lo H a c:=by obtain⟨c',h1,h2⟩:=s.st.at' n a hn;rw[h]at h1;cases h1;exact h2
def xP(i){apos:Pos}(pa:PlainAttrs "list")(slot:Slot "list" "append" "list.append")(hty:typeOf (.builtin "list.append")=pure (.type "method_descriptor"))(he:ZE X E e f)
 (hN:X.N[i]?=some x:=by rfl)(hv:Hs X.env.scope x:=by first|exact Or.inl rfl|exact Or.inr (Or.inl rfl)|exact Or.inr (Or.inr rfl))(hd:(x==("__debug__":Str))=false:=by decide)
 (hcd:(x==("__classdict__":Str))=false:=by decide)
 (hbase:attributeBase (.Name x DR) "append" X.env (eval (.Name x DR) X.env)=eval (.Name x DR) X.env:=by rfl)
 (hfew:((backTo cpos (starEach [e] X.env)).all (λx=>!x.1)&&(backToKw cpos (keywordEach [] X.env)).all (λx=>x.1.isSome)
 &&decide ([e].length+([]:List Keyword).length+(if([]:List Keyword).isEmpty then 0 else 1)<30))=true:=by rfl)
 (hline:(apos.endLine==cpos.line)=true:=by rfl)(hs:starEach [e] X.env=(false,eval e X.env)::starEach [] X.env:=by rfl)(hplain:(backTo cpos<|starEach [] X.env).any (·.1)=false:=by rfl)
 (hsw:swapsWith (.Call (.Attribute (.Name x DR) "append" apos) [e] [] cpos) none pos.line X.env=pure false:=by rfl):
   ZS X E b (.Expr (.Call (.Attribute (.Name x DR) "append" apos) [e] [] cpos) pos) (rF i f):=by
  obtain⟨t,p,r⟩:=he;refine⟨_,af5 (afU pa slot hty aft (JB hN hv hd hcd) (Tj p Tn hs) hbase hfew hline hs hplain) hsw,λB hb al lo H σ ρ S D s h=>?_⟩;unfold rF at h;split at h
  ·rename_i n q;split at h
   ·rename_i zs0 q0;obtain⟨v,e1,a,hn,rfl⟩:=s.vr i _ q;obtain⟨vs,e2,e3⟩:=s.cell hn q0;refine⟨_,e1,.inl ⟨rfl,vs,.inl<|.inl e2⟩,r _ _ _ _ _ _ _ _ s<|j9.mono (o7.v8 h) λz lV lo1 H1 S1 s1 x1 y1 h1 u ru=>?_⟩;split at h1
    ·rename_i zs q1;have Be:=y1 n a hn;obtain⟨ws,g2,g3⟩:=s1.cell Be q1;by_cases w:zs.length<sizeLine
     ·rw[au w]at h1;have x2:Xt lV H1 lV (upd H1 a (.lst (ws++[u]))):=λb o _ hb eb=>⟨hb,by rw[mz λz=>s1.st.na n a Be (by rw[<-z];exact hb)];exact eb⟩;obtain⟨s2,x3⟩:=s1.write Be (o:=.lst (ws++[u])) (c:=.li (zs++[z])) Bk (λq w=>by unfold uo at w;cases w) ⟨_,ql,oK.mv x2 .refl (g3.append (.cons ru .nil))⟩ nofun;exact⟨a,ws,u,rfl,rfl,g2,by rw[g3.length];exact w,h1 _ _ _ _ x3 s2⟩
     ·rw[aA w]at h1;exact h1.elim
    ·exact h1.elim
   ·exact h.elim
  ·exact h.elim
def sr(i:Nat):nC:=λρ S=>match ρ[i]? with
 |some (some (.loc n))=>(match S[n]? with
  |some (.li zs)=>(match zs[zs.length - 1]? with
   |some z=>.ok z (S.set n<|.li zs.dropLast)
   |none=>.bad)
  |_=>.bad)
 |_=>.bad
def oK.dropLast(r:oK K al lo H vs zs):oK K al lo H vs.dropLast zs.dropLast:=by
 induction r with
 |nil=>exact .nil
 |cons a b ih=>
  cases b with
  |nil=>exact .nil
  |cons c d=>exact .cons a ih
def wZ(i){apos cpos:Pos}(pa:PlainAttrs "list")(slot:Slot "list" "pop" "list.pop")(hty:typeOf (.builtin "list.pop")=pure (.type "method_descriptor"))
 (hN:X.N[i]?=some x:=by rfl)(hv:Hs X.env.scope x:=by first|exact Or.inl rfl|exact Or.inr (Or.inl rfl)|exact Or.inr (Or.inr rfl))(hd:(x==("__debug__":Str))=false:=by decide)
 (hcd:(x==("__classdict__":Str))=false:=by decide)
 (hbase:attributeBase (.Name x DR) "pop" X.env (eval (.Name x DR) X.env)=eval (.Name x DR) X.env:=by rfl)(hline:(apos.endLine==cpos.line)=true:=by rfl):
   ZE X E (.Call (.Attribute (.Name x DR) "pop" apos) [] [] cpos) (sr i):=by
  refine⟨_,apB pa slot hty anH (JB hN hv hd hcd) hbase hline,λB al lo H σ ρ S Q s h=>?_⟩;unfold sr at h;split at h
  ·rename_i n q;split at h
   ·rename_i zs q0;split at h
    ·rename_i z qz;obtain⟨v,e1,a,hn,rfl⟩:=s.vr i _ q;obtain⟨vs,e2,e3⟩:=s.cell hn q0;obtain⟨u,e4,e5⟩:=e3.get qz;have x2:Xt al H al (upd H a (.lst vs.dropLast)):=λb o _ hb eb=>⟨hb,by rw[mz λz=>s.st.na n a hn (by rw[<-z];exact hb)];exact eb⟩;obtain⟨s2,x3⟩:=s.write hn (o:=.lst vs.dropLast) (c:=.li zs.dropLast) Bk (λq w=>by unfold uo at w;cases w) ⟨_,ql,oK.mv x2 .refl e3.dropLast⟩ nofun;refine⟨_,e1,.inl ⟨rfl,vs,.inl (.inl e2)⟩,a,vs,u,rfl,rfl,e2,by rw[e3.length];exact e4,h _ _ _ s2 x3 .refl u (e5.mv x3 .refl)⟩
    ·exact h.elim
   ·exact h.elim
  ·exact h.elim
end
section
variable{X:Cx}{E:XK}{b:Nat}{e k:Expr}{pos:Pos}{f:nC}{fk:lA}
end
mutual
def qG:D->Bool
 |.lst _=>false
 |.tup ds=>xC ds
 |.exc _ _ _=>false
 |_=>true
def xC:List D->Bool
 |[]=>true
 |d::r=>qG d&&xC r
end
def zT(S:lD):Option Z->Sl
 |some (.d x)=>.sh x
 |some (.loc n)=>(match S[n]? with
  |some (.li zs)=>(match rN zs with
   |some ds=>.sh (.lst ds)
   |none=>.no)
  |_=>.no)
 |_=>.no
def vw(S:lD)(ρ:lr):Ev:=ρ.map (zT S)
section
variable{K:W.Frag}{B:Z0}{al:Addr->Prop}{lo:Lo}{H H':Hp}{σ:St}{ρ:lr}{S:lD}
def Qk(al:Addr->Prop)(lo:Lo):Addr->Prop:=λa=>al a\/∃n,lo n=some a
def RZ.rsV(r:RZ K B al lo H σ ρ S):RS K (Qk al lo) H (Qk al lo) H σ (vw S ρ) where
 same:=.refl H
 tt:=r.tt
 fresh:=λa h=>.inl (r.fresh a h)
 sub:=λ_ h=>h
 pf:=λa h=>.inl (r.fresh a h)
 len:=by unfold vw;rw[az];exact r.len
 sh:=λi d h=>by
  unfold vw at h;rw[aO]at h;obtain⟨z,h1,h2⟩:=Option.map_eq_some_iff.mp h;cases z with
  |none=>cases h2
  |some z=>
   obtain⟨v,e1,e2⟩:=r.vr i z h1;refine⟨v,e1,?_⟩;cases z with
   |d x=>cases h2;exact Rep.mv (.sub λ_ h=>.inl h) e2
   |tk ks=>cases h2
   |loc n=>
    unfold zT at h2;dsimp only at h2;split at h2
    ·rename_i zs q;split at h2
     ·rename_i ds qd;cases h2;have:=Hx qd;subst this;obtain⟨a,hn,rfl⟩:=e2;obtain⟨vs,g1,g2⟩:=r.cell hn q;exact .lst (.inl ⟨.inr ⟨n,hn⟩,.inl g1⟩) (kI.mv (.sub λ_ h=>.inl h) g2.toD)
     ·cases h2
    ·cases h2
 ow:=λi ds h=>by
  unfold vw at h;rw[aO]at h;obtain⟨z,h1,h2⟩:=Option.map_eq_some_iff.mp h;unfold zT at h2;split at h2;·cases h2
  ·split at h2;·split at h2<;>cases h2
   ·cases h2
  ·cases h2
 apart:=λi j ds Lf a h _ _ _=>by
  unfold vw at h;rw[aO]at h;obtain⟨z,h1,h2⟩:=Option.map_eq_some_iff.mp h;unfold zT at h2;split at h2;·cases h2
  ·split at h2;·split at h2<;>cases h2
   ·cases h2
  ·cases h2
mutual
theorem Rep.qG(na:∀n a,lo n=some a->¬∃vs,Rd H a<|.tup vs):∀{v} {d},Rep K (Qk al lo) H v d->P2.qG d=true->Rep K al H v d
 |_,_,.non,_=>.non
 |_,_,.bl b,_=>.bl b
 |_,_,.int b,_=>.int b
 |_,_,.str b,_=>.str b
 |_,_,.ty b,_=>.ty b
 |_,_,.ref b,_=>.ref b
 |_,_,.tup p q,h=>.tup (p.elim (λz=>.inl ⟨z.1.elim id λ⟨n,hn⟩=>absurd ⟨_,z.2⟩<|na n _ hn,z.2⟩) .inr) (kI.qG na q h)
 |_,_,.lst p q,h=>by cases h
 |_,_,.exc p1 p2 p3 p4 q,h=>by cases h
 |_,_,.Lj p1 p2,h=>by cases h
theorem kI.qG(na:∀n a,lo n=some a->¬∃vs,Rd H a<|.tup vs):∀{v} {d},kI K (Qk al lo) H v d->xC d=true->kI K al H v d
 |_,_,.nil,_=>.nil
 |_,_,.cons (d:=d) (ds:=ds) p q,h=>by have h':(P2.qG d&&xC ds)=true:=h;rw[aK]at h';exact .cons (Rep.qG na p h'.1) (kI.qG na q h'.2)
end
def RZ.noT(r:RZ K B al lo H σ ρ S):∀n a,lo n=some a->¬∃vs,Rd H a (.tup vs):=λn a hn ⟨vs,h⟩=>by
 obtain⟨c,_,q⟩:=r.st.at' n a hn;cases c with
 |li zs=>obtain⟨ws,g,_⟩:=q;rcases h with h|⟨o,h⟩<;>(rw[g]at h;cases h)
 |ob C fs=>obtain⟨dx,ws,g,_⟩:=q;rcases h with h|⟨o,h⟩<;>(rw[g]at h;cases h)
 |dk kvs=>obtain⟨ws,g,_⟩:=q;rcases h with h|⟨o,h⟩<;>(rw[g]at h;cases h)
 |dt kvs=>obtain⟨ws,g,_⟩:=q;rcases h with h|⟨o,h⟩<;>(rw[g]at h;cases h)
 |no=>exact q
 |mk=>exact q
end
def zR(f:lA):nC:=λρ S=>match f (vw S ρ)with
 |.ok d=>if qG d=true then .ok (.d d) S else .bad
 |_=>.bad
def pQ(f:Ev->R Bool):lr->lD->RX Bool:=λρ S=>match f (vw S ρ)with
 |.ok d=>.ok d S
 |_=>.bad
section
variable{X:Cx}{E:XK}{b:Nat}{e:Expr}{pos:Pos}
def avw(h:DE X E e f):ZE X E e (zR f):=by
 obtain⟨t,p,r⟩:=h;refine⟨t,p,λB al lo H σ ρ S Q z h=>r _ _ _ _ _ _ _ z.rsV ?_⟩;unfold zR at h;cases q:f (vw S ρ)with
 |bad=>rw[q]at h;exact h.elim
 |ex c ns ds=>rw[q]at h;exact h.elim
 |ok d=>
  rw[q]at h;dsimp only at h;by_cases w:qG d=true
  ·rw[au w]at h;exact λH1 s1 v rv=>h al lo H1 (z.grow s1) (.of s1) .refl v (Rep.qG (z.grow s1).noT rv w)
  ·rw[aA w]at h;exact h.elim
def Cg(h:DT X E e f):ZT X E e (pQ f):=by
 obtain⟨t,p,r⟩:=h;refine⟨t,p,λB al lo H σ ρ S Q z h=>r _ _ _ _ _ _ _ z.rsV ?_⟩;unfold pQ at h;cases q:f (vw S ρ)with
 |bad=>rw[q]at h;exact h.elim
 |ex c ns ds=>rw[q]at h;exact h.elim
 |ok d=>rw[q]at h;exact λH1 s1=>h al lo H1 (z.grow s1) (.of s1) .refl
end
def Ow(n:Nat)(d:D):Option Z->Option Z
 |some (.loc m)=>if m=n then some (.d d)else some (.loc m)
 |o=>o
def yo(n:Nat):Z->Bool
 |.loc m=>decide (m=n)
 |_=>false
def QB(n:Nat):Cell->Bool
 |.li zs=>zs.any (yo n)
 |.ob _ fs=>fs.any λp=>yo n p.2
 |.dk kvs=>kvs.any λp=>yo n p.2
 |.dt kvs=>kvs.any λp=>yo n p.2
 |.no=>false
 |.mk=>false
def QW(b i:Nat)(ρ:lr)(S:lD):Option (lr×lD):=match ρ[i]? with
 |some (some (.loc n))=>(match S[n]? with
  |some (.li zs)=>(match rN zs with
   |some ds=>if b<=n/\(S.any<|QB n)=false then some (ρ.map<|Ow n<|.lst ds,S.set n .no)else none
   |none=>none)
  |_=>none)
 |some _=>some (ρ,S)
 |none=>none
section
variable{K:W.Frag}{B:Z0}{al:Addr->Prop}{lo:Lo}{H:Hp}{σ:St}{ρ mO:lr}{S S':lD}
def qe.out{jK:Addr->Prop}{kh:Lo}{n:Nat}(x:Xt al H jK H)(y:∀m a,m≠n->lo m=some a->kh m=some a){v:V}{z:Z}(r:qe K al lo H v z)(h:yo n z=false):qe K jK kh H v z:=by
 cases z with
 |d d=>exact Rep.mv x r
 |loc m=>obtain⟨a,h1,h2⟩:=r;exact⟨a,y m a (by simpa [yo]using h) h1,h2⟩
 |tk ks=>obtain⟨a,h1,h2,h3⟩:=r;obtain⟨g1,g2⟩:=x a (.tup<|ks.map kV) (λ_ h=>nomatch h) h1 h2;exact⟨a,g1,g2,h3⟩
def oK.out{jK:Addr->Prop}{kh:Lo}{n:Nat}(x:Xt al H jK H)(y:∀m a,m≠n->lo m=some a->kh m=some a){vs:List V}{zs:List Z}(r:oK K al lo H vs zs)(h:zs.any (yo n)=false):oK K jK kh H vs zs:=by
 induction r with
 |nil=>exact .nil
 |cons a _ ih=>rw[cB,ji]at h;exact .cons (a.out x y h.1) (ih h.2)
def oA.out{κ:Type}{jK:Addr->Prop}{kh:Lo}{n:Nat}(x:Xt al H jK H)(y:∀m a,m≠n->lo m=some a->kh m=some a){vs:List<|κ×V}{zs:List<|κ×Z}(r:oA K al lo H vs zs)(h:(zs.any λp=>yo n p.2)=false):oA K jK kh H vs zs:=by
 induction r with
 |nil=>exact .nil
 |cons a _ ih=>rw[cB,ji]at h;exact .cons (a.out x y h.1) (ih h.2)
def tV.out{jK:Addr->Prop}{kh:Lo}{n:Nat}(x:Xt al H jK H)(y:∀m a,m≠n->lo m=some a->kh m=some a){a:Addr}{c:Cell}(r:tV K al lo H a c)(h:QB n c=false):tV K jK kh H a c:=by
 cases c with
 |li zs=>obtain⟨vs,h1,h2⟩:=r;exact⟨vs,h1,h2.out x y h⟩
 |ob C fs=>obtain⟨dx,us,h1,h2⟩:=r;exact⟨dx,us,h1,h2.out x y h⟩
 |dk kvs=>obtain⟨us,h1,h2⟩:=r;exact⟨us,h1,h2.out x y h⟩
 |dt kvs=>obtain⟨us,h1,h2⟩:=r;exact⟨us,h1,h2.out x y h⟩
 |no=>exact r
 |mk=>exact r
def RZ.freeze(r:RZ K B al lo H σ ρ S)(h:QW B.n i ρ S=some (mO,S')):∃jK kh,RZ K B jK kh H σ mO S'/\Xt al H jK H/\∀n,ρ[i]?=some (some<|.loc n)->∀m a,m≠n->lo m=some a->kh m=some a:=by
 unfold QW at h;split at h
 ·rename_i n q;split at h
  ·rename_i zs q0;split at h
   ·rename_i ds qd;split at h
    ·rename_i w;cases h;obtain⟨v,e1,a,hn,rfl⟩:=r.vr i _ q;have:=Hx qd;subst this;obtain⟨vs,g1,g2⟩:=r.cell hn q0;have hl:n<S.length:=(List.getElem?_eq_some_iff.mp q0).1;have x:Xt al H (λb=>al b\/b=a) H:=λb o _ hb e=>⟨.inl hb,e⟩;have hB:B.H a=none:=by
      rcases r.nw n a hn with z|z;·exact absurd (r.bd n a z) (by omega)
      ·exact z.1
     refine⟨λb=>al b\/b=a,λm=>if m=n then none else lo m,?_,x,λn' e m b hm hb=>?_⟩;rotate_left;·rw[q]at e;cases e;dsimp only;rw[aA hm];exact hb
     have y:∀m b,m≠n->lo m=some b->(λm=>if m=n then none else lo m) m=some b:=λm b hm h=>by dsimp only;rw[aA hm];exact h
     have back:∀m b,(if m=n then none else lo m)=some b->m≠n/\lo m=some b:=λm b h=>by
      by_cases z:m=n;·rw[au z]at h;cases h
      ·rw[aA z]at h;exact⟨z,h⟩
     have cl:∀c∈S,QB n c=false:=λc hc=>by have:=List.any_eq_false.mp w.2 c hc;simpa using this
     refine {fr:=r.fr,hf:=r.hf,tt:=r.tt,fresh:=λb hb=>.inl<|r.fresh b hb,st:=⟨λm b hm=>?_,λm c hm hc Gh=>?_,λm b hm hb=>?_,λm m' b h1 h2=>?_,λm b u hb hu=>.inl<|r.st.tl ?_ b u hb hu⟩,lx:=λm b hm=>?_,nw:=λm b hm=>r.nw m b (back m b hm).2,bd:=r.bd,sz:=by rw[cI];exact r.sz,xt:=r.xt.trans x,sb:=λb hb=>?_,len:=by rw[az];exact r.len,vr:=λj z hz=>?_}
     ·obtain⟨z1,z2⟩:=back m b hm;obtain⟨c,k1,k2⟩:=r.st.at' m b z2;exact⟨c,by rw[aQ (cY z1)];exact k1,k2.out x y (cl c (eV k1))⟩
     ·by_cases z:n=m
      ·subst z;rw[aX hl]at hm;cases hm;exact absurd rfl hc
      ·rw[aQ z]at hm;obtain⟨b,k⟩:=r.st.has m c hm hc Gh;exact⟨b,by show(if m=n then none else lo m)=some b;rw[aA<|cY z];exact k⟩
     ·obtain⟨z1,z2⟩:=back m b hm;rcases hb with hb|rfl;·exact r.st.na m b z2 hb
      ·exact z1 (r.st.inj m n _ z2 hn)
     ·exact r.st.inj m m' b (back m b h1).2 (back m' b h2).2
     ·by_cases z:n=0
      ·subst z;rw[aX hl]at m;cases m
      ·rw[aQ z]at m;exact m
     ·have:=r.bd m b hm;show(if m=n then none else lo m)=some b;rw[aA<|by omega];exact r.lx m b hm
     ·rcases hb with hb|rfl;·exact r.sb b hb
      ·exact .inr hB
     ·rw[aO]at hz;obtain⟨o,k1,k2⟩:=Option.map_eq_some_iff.mp hz;cases o with
      |none=>cases k2
      |some z0=>
       obtain⟨u,m1,m2⟩:=r.vr j z0 k1;refine⟨u,m1,?_⟩;cases z0 with
       |d x0=>cases k2;exact Rep.mv x m2
       |tk ks=>cases k2;obtain⟨a9,j1,j2,j3⟩:=m2;obtain⟨i1,i2⟩:=x a9 (.tup<|ks.map kV) (λ_ h=>nomatch h) j1 j2;exact⟨a9,i1,i2,j3⟩
       |loc m=>
        have k2:(if m=n then some (Z.d<|.lst ds)else some (Z.loc m))=some z:=k2;by_cases zz:m=n
        ·rw[au zz]at k2;cases k2;obtain⟨b,k3,rfl⟩:=m2;rw[zz,hn]at k3;cases k3;exact .lst (.inl ⟨.inr rfl,.inl g1⟩) (kI.mv x g2.toD)
        ·rw[aA zz]at k2;cases k2;obtain⟨b,k3,rfl⟩:=m2;exact⟨b,by dsimp only;rw[aA zz];exact k3,rfl⟩
    ·cases h
   ·cases h
  ·cases h
 ·cases h;exact⟨al,lo,r,.refl,λ_ _ _ _ _ h=>h⟩
 ·cases h
end
section
variable{X:Cx}{E:XK}{b:Nat}{sts:List Stmt}{st:Stmt}{g:lF}
def UT(b i:Nat)(g:lF):lF:=λρ S=>match QW b i ρ S with
 |some (mO,S')=>g mO S'
 |none=>.bad
def avA(i)(h:ZS X E b st g):ZS X E b st (UT b i g):=by
 obtain⟨t,p,r⟩:=h;refine⟨t,p,λB hb al lo H σ ρ S D s h=>?_⟩;unfold UT at h;split at h
 ·rename_i mO S' q;rw[<-hb]at q;obtain⟨jK,kh,s',x,_⟩:=s.freeze q;exact r B hb _ _ _ _ _ _ _ s' (o7.ext h x)
 ·exact h.elim
end
end P2
namespace L2
open PySem PySem.Spec PyProof.Rows
section
variable{κ:Type}[DecidableEq κ]
def wU(kvs:List<|κ×V)(k:κ):Option V:=(kvs.find? λkv=>decide<|kv.1=k).map (·.2)
def putK(kvs:List<|κ×V)(k:κ)(v:V):List (κ×V):=
 if(kvs.any λkv=>decide<|kv.1=k)=true then kvs.map (λkv=>if kv.1=k then(kv.1,v)else kv)else kvs++[(k,v)]
def abT{p:κ×V}{k}(e:p.1=k):wU (p::r) k=some p.2:=by simp[wU,dB,e]
def abS{p:κ×V}{k}(e:¬p.1=k):wU (p::r) k=wU r k:=by simp[wU,dB,e]
theorem ail(k):∀kvs:List (κ×V),(kvs.any λkv=>decide<|kv.1=k)=(wU kvs k).isSome
 |[]=>rfl
 |p::r=>by
  rw[cB];by_cases e:p.1=k;·simp only[abT e,aP e,Bool.true_or,Option.isSome_some]
  ·rw[abS e,aC e,Bool.false_or];exact ail k r
def Ye(kvs:List<|κ×V)(k:κ)(v:V):(putK kvs k v).length<=kvs.length+1:=by
 unfold putK;split;·rw[az];omega
 ·rw[aq,ak,bu];omega
def tX.amo{u}(r:tX o u):o.isSome=u.isSome:=by
 cases o with
 |none=>cases u with
  |none=>rfl
  |some _=>exact(show False from r).elim
 |some _=>cases u with
  |none=>exact(show False from r).elim
  |some _=>rfl
def KV.val{kvs:List<|κ×V}{vs:List<|κ×Value}(r:KV kvs vs)(k:κ):tX (wU kvs k) (valueAt vs k):=by
 unfold KV at r;induction r with
 |nil=>exact True.intro
 |@cons p q ps qs h t ih=>
  obtain⟨h1,h2⟩:=h;by_cases e:p.1=k
  ·have e':q.1=k:=h1.symm.trans e;have b:valueAt (q::qs) k=some q.2:=by simp[valueAt,dB,e']
   rw[abT e,b];exact h2
  ·have e':¬q.1=k:=λz=>e (h1.trans z);have b:valueAt (q::qs) k=valueAt qs k:=by simp[valueAt,dB,e']
   rw[abS e,b];exact ih
def KV.any{kvs:List<|κ×V}{vs:List<|κ×Value}(r:KV kvs vs)(k:κ):(kvs.any λkv=>decide<|kv.1=k)=vs.any λkv=>decide (kv.1=k):=by
 unfold KV at r;induction r with
 |nil=>rfl
 |cons h t ih=>rw[cB,cB,ih,h.1]
def KV.aas(r:KV kvs vs)(k:κ){y u}(ry:RelV y u):
    KV (kvs.map λkv=>if kv.1=k then(kv.1,y)else kv) (vs.map λkv=>if kv.1=k then(kv.1,u)else kv):=by
 unfold KV at r⊢;induction r with
 |nil=>exact .nil
 |@cons p q ps qs h t ih=>
  rw[aR,aR];refine .cons ?_ ih;obtain⟨h1,h2⟩:=h;by_cases e:p.1=k;·rw[au e,au<|h1.symm.trans e];exact⟨h1,ry⟩
  ·rw[aA e,aA<|λz=>e<|h1.trans z];exact⟨h1,h2⟩
def KV.put{kvs:List<|κ×V}{vs:List<|κ×Value}(r:KV kvs vs)(k:κ){y:V}{u:Value}(ry:RelV y u):KV (putK kvs k y) (stored vs k u):=by
 unfold putK stored;rw[r.any k];by_cases e:(vs.any λkv=>decide<|kv.1=k)=true;·rw[au e,au e];exact r.aas k ry
 ·rw[aA e,aA e];exact Paired.snoc r ⟨rfl,ry⟩
def KV.length(r:KV kvs vs):kvs.length=vs.length:=Paired.length r
end
def R9{w k u}(r:RelV (kV k) u):(u6 P w).is k u=true:=by
 cases k with
 |inl i=>obtain⟨t,e⟩:=(show∃t,u=Value.int i t from r);subst e;exact anB P w i t
 |inr x=>obtain⟨t,e⟩:=(show∃t,u=Value.str x t from r);subst e;exact anC P w x t
theorem aeL{w}:∀{ks:List Key} {us},Vals (ks.map kV) us->ItemsAre (u6 P w) ks us
 |[],_,r=>by rw[fM]at r;cases r;exact .nil
 |k::ks,_,r=>by
  rw[aR]at r;cases r with
  |cons h t=>exact .cons (R9 h) (aeL t)
abbrev KT(H:Hp):List (List Key×V)->List (List Key×Addr×Value)->Prop:=Paired λp q=>p.1=q.1/\H q.2.1=some (.tup<|p.1.map kV)/\RelV p.2 q.2.2
def KT.val(r:KT H kvs xs)(k):tX (wU kvs k) ((atKey xs k).map (·.2)):=by
 induction r with
 |nil=>exact True.intro
 |@cons p q ps qs h t ih=>
  obtain⟨h1,_,h2⟩:=h;by_cases e:p.1=k
  ·have e':q.1=k:=h1.symm.trans e;have b:atKey (q::qs) k=some q.2:=by simp[atKey,dB,e']
   rw[abT e,b];exact h2
  ·have e':¬q.1=k:=λz=>e (h1.trans z);have b:atKey (q::qs) k=atKey qs k:=by simp[atKey,dB,e']
   rw[abS e,b];exact ih
def KT.aas(r:KT H kvs xs)(k:List Key){y u}(ry:RelV y u):
    KT H (kvs.map λkv=>if kv.1=k then(kv.1,y)else kv) (xs.map<|putAt k u):=by
 induction r with
 |nil=>exact .nil
 |@cons p q ps qs h t ih=>
  rw[aR,aR];refine .cons ?_ ih;obtain⟨h1,h2,h3⟩:=h;unfold putAt;by_cases e:p.1=k;·rw[au e,au<|h1.symm.trans e];exact⟨h1,h2,ry⟩
  ·rw[aA e,aA<|λz=>e<|h1.trans z];exact⟨h1,h2,h3⟩
def KT.put(r:KT H kvs xs)(k:List Key){y u}(hb:H b=some (.tup<|k.map kV))(ry:RelV y u):
    KT H (putK kvs k y) (storedH xs k b u):=by
 have e:(kvs.any λkv=>decide<|kv.1=k)=(atKey xs k).isSome:=by rw[ail,(r.val k).amo,Option.isSome_map]
 unfold putK storedH;rw[e];by_cases q:(atKey xs k).isSome=true;·rw[au q,au q];exact r.aas k ry
 ·rw[aA q,aA q];exact Paired.snoc r ⟨rfl,hb,ry⟩
def KT.keeps{H':Hp}(r:KT H kvs xs)(ht:∀b ys,H b=some (.tup ys)->H' b=some (.tup ys)):KT H' kvs xs:=
 Paired.tK r λ_ _ z=>⟨z.1,ht _ _ z.2.1,z.2.2⟩
section
variable{P:Program}{w:World}{H:Hp}{h:Heap}{a:Addr}
def agS{u}(ok:ph P w H h)(e:Rd H a u):qL P w H h a u:=e.ok ok
def Wx(ok:ph P w H h)(e:Rd H a<|.dK kvs):kvs.length<=sizeLine/\(a==sysModules)=false/\∃vs,KV kvs vs/\h.DictOf (u6 P w) a vs:=
 show qL P w H h a (.dK kvs)from agS ok e
def adR(ok:ph P w H h)(e:H a=some (.dK kvs)):kvs.length<=sizeLine/\(a==sysModules)=false/\∃vs,KV kvs vs/\h.DictOf (u6 P w) a vs:=Wx ok (.inl e)
def X6{ks:List Key}(ok:ph P w H h)(e:H a=some (.tup (ks.map kV))):(tupleKind (u6 P w)).is h ks a:=by obtain⟨_,its,r,o,h1,h2,n,h3⟩:=(show qL P w H h a (.tup<|ks.map kV)from ok a _ e);exact⟨o,its.toArray,n,h1,h2,h3,by simpa using aeL r⟩
def WL(ok:ph P w H h)(e:Rd H a<|.dT kvs):kvs.length<=sizeLine/\(a==sysModules)=false/\
    ∃xs,KT H kvs xs/\h.DictOfH (tupleKind<|u6 P w) a xs:=by
 obtain⟨z,y,xs,r,o,es,ep,h1,h2,h3,h4,h5⟩:=(show qL P w H h a (.dT kvs)from agS ok e);refine⟨z,y,xs,r,o,es,ep,h1,h2,h3,h4,λx hx=>?_,h5⟩;have all:∀{l:List<|List Key×V} {m:List<|List Key×Addr×Value},KT H l m->∀x∈m,(tupleKind<|u6 P w).is h x.1 x.2.1:=by
  intro l m q;induction q with
  |nil=>intro x hx;exact nomatch hx
  |@cons p q ps qs hq t ih=>
   intro x hx;rcases List.mem_cons.mp hx with e|hx
   ·subst e;exact X6 ok (by rw[<-hq.1];exact hq.2.1)
   ·exact ih x hx
 exact all r x hx
def akM(ok:ph P w H h)(e:H a=some (.dT kvs)):kvs.length<=sizeLine/\(a==sysModules)=false/\
    ∃xs,KT H kvs xs/\h.DictOfH (tupleKind<|u6 P w) a xs:=WL ok (.inl e)
end
def Km(H:Hp)(a:Addr)(y:V)(r:Option V):Prop:=
 (∃kvs k,Rd H a (.dK kvs)/\y=kV k/\r=wU kvs k)\/∃kvs k b,Rd H a (.dT kvs)/\y=.ref b/\H b=some (.tup<|k.map kV)/\r=wU kvs k
def Pa(H:Hp)(a:Addr)(y v:V)(H':Hp):Prop:=
 (∃kvs k,H a=some (.dK kvs)/\y=kV k/\kvs.length<sizeLine/\H'=upd H a (.dK<|putK kvs k v))\/
 ∃kvs k b,H a=some (.dT kvs)/\y=.ref b/\H b=some (.tup<|k.map kV)/\kvs.length<sizeLine/\H'=upd H a (.dT<|putK kvs k v)
def Km.k{H:Hp}{k}(e:H a=some (.dK kvs)):Km H a (kV k) (wU kvs k):=.inl ⟨kvs,k,.inl e,rfl,rfl⟩
def Pa.k{H:Hp}{k}(e:H a=some (.dK kvs))(hl:kvs.length<sizeLine):Pa H a (kV k) v (upd H a<|.dK<|putK kvs k v):=.inl ⟨kvs,k,e,rfl,hl,rfl⟩
section
variable{X:Cx}{pins:List<|Addr×Obj}{σ:St}{H:Hp}{s:Shared}{a:Addr}{y v:V}{u r:Value}{o:Option V}{A:Around}{E:mW}
def Inv.big(I:Inv X pins σ H s):sysModules<s.heap.objs.size:=by have h:mainGlobals<s.heap.objs.size:=(I.mod.glob.keeps I.bk).lt;exact iM (by decide) h
def aks{Q:mW}(hu:A.units+1<cLine)(I:Inv X pins σ H s)(g:Km H a y<|some v)(ry:RelV y u)(h:∀w' s',Inv X pins σ H s'->RelV v w'->Q w' s'):
    wpAny (model X.prog X.w) A (getItem (.ref a) u) Q E s:=by
 rcases g with⟨kvs,k,e,ey,l⟩|⟨kvs,k,b,e,ey,eb,l⟩
 ·subst ey;obtain⟨z,hd,vs,rel,dd⟩:=Wx I.hok e;obtain⟨w',hw,uP⟩:=tX.some_of (v:=v) (o:=valueAt vs k) (by rw[l];exact rel.val k);exact wpAny_getItem_of (R9 ry) dd.mapOf hw (h w' _ (I.tok _) uP)
 ·subst ey;cases(show u=Value.ref b from ry);obtain⟨z,hd,xs,rel,dd⟩:=WL I.hok e;obtain⟨w',hw,uP⟩:=tX.some_of (v:=v) (o:=(atKey xs k).map (·.2)) (by rw[l];exact rel.val k);obtain⟨p,hp,MN⟩:=Option.map_eq_some_iff.mp hw;refine wpAny_getItem_heap (tupleKind_room_in1 hu) (X6 I.hok eb) dd hp ?_;rw[MN];exact h w' _ (I.tok _) uP
def Wr{t':Nat}(I:Inv X pins σ H s)(mu:KJ<|H a)(hs:Heap.SameBut a s.heap h')(he:∃q,h'.get? a=some q)(new:qL X.prog X.w (upd H a ob) h' a ob):
    Inv X pins σ (upd H a ob) {s with heap:=h',toks:=t'}:=
 I.write (x:=a) (e:=a) mu (.inl rfl) (λb q hb z=>(hs.2 b hb).trans z) he new
def adQ{w}{h':Heap}{kvs:List<|Key×V}(z:kvs.length<=sizeLine)(hd:(a==sysModules)=false)(rel:KV kvs vs)(dd:h'.DictOf (u6 P w) a vs):
    qL P w H' h' a (.dK kvs):=⟨z,hd,vs,rel,dd⟩
def akt{H':Hp}{Q:Unit->Shared->Prop}(hu:A.units+1<cLine)(I:Inv X pins σ H s)(g:Pa H a y v H')(ry:RelV y u)(rv:RelV v r)(h:∀s',Inv X pins σ H' s'->Q () s'):
    wpAny (model X.prog X.w) A (setItem (.ref a) u r) Q E s:=by
 rcases g with⟨kvs,k,e,ey,l,eH⟩|⟨kvs,k,b,e,ey,eb,l,eH⟩
 ·subst ey eH;obtain⟨z,hd,vs,rel,dd⟩:=adR I.hok e;have hz:vs.length<=sizeLine:=by rw[<-rel.length];exact z
  have hl:(putK kvs k v).length<=sizeLine:=by have:=Ye kvs k v;omega
  refine wpAny_setItem_pairs (hsz:=hz) (R9 ry) dd λh' zp hs=>h _ ?_;have he:∃q,h'.get? a=some q:=let⟨q,_,_,hq,_⟩:=zp;⟨q,hq⟩;exact Wr I (by rw[e];exact True.intro) hs he (adQ hl hd (rel.put k rv) zp)
 ·subst ey eH;cases(show u=Value.ref b from ry);obtain⟨z,hd,xs,rel,dd⟩:=akM I.hok e;have hz:xs.length<=sizeLine:=by rw[<-Paired.length rel];exact z
  have hl:(putK kvs k v).length<=sizeLine:=by have:=Ye kvs k v;omega
  refine wpAny_setItem_heap (hsz:=hz) (tupleKind_room_in1 hu) (X6 I.hok eb) dd λh' zp hs=>h _ ?_;obtain⟨q,es,ep,hq,h2,h3,h4,_,h5⟩:=zp;refine Wr I (by rw[e];exact True.intro) hs ⟨q,hq⟩ ⟨hl,hd,_,(rel.put k eb rv).keeps λc ys ec=>?_,q,es,ep,hq,h2,h3,h4,h5⟩;rw[mz<|anO ec e<|λz=>nomatch z];exact ec
end
section
variable{X:Cx}{pins:List<|Addr×Obj}{σ:St}{H:Hp}{s:Shared}{a:Addr}{kvs:List<|Key×V}{k:Key}{u:Value}{A:Around}{E:mW}
end
def Vo(i:Expr):Prop:=∀ov iv,subscripted i false ov iv=operate [ov,iv] (getItem ov iv)
def atD{prog:Program}{w:World}{A:Around}{E:mW}{s:Shared}{env:Env}{value slice:Expr}{pos:Pos}{T id:String}{Q:mW}
    (hl:typeLookup (.type T) "__getitem__"=pure (some<|.builtin id))(hs:Vo slice)
    (h:wpAny (model prog w) A (eval value env) (λo s₁=>wpAny (model prog w) A (eval slice env) (λi s₂=>s₂.TypeIs o T/\wpAny (model prog w) A (getItem o i) Q E s₂) E s₁) E s):
    wpAny (model prog w) A (eval (.Subscript value slice pos) env) Q E s:=by
 refine Subscript_ (bN h (λo s₁ Dr=>bN Dr (λi s₂ MT=>?_) λ_ _ x=>x) λ_ _ x=>x);obtain⟨hT,MT⟩:=MT;unfold subscriptTail;refine aD ?_;rw[getitemInPython_of_ne hT.not_modules];refine aD (wpAny_specialOf hT hl ?_);have fin:wpAny (model prog w) A (subscripted slice false o i) (λr Eg=>wpAny (model prog w) A (letTemporaryGo value o r>>=λ_=>pure r) Q E Eg) E s₂:=by rw[hs o i];exact wpAny_operating (bN MT (λr Eg R3=>aD<|wpAny_letTemporaryGo<|bf R3) λ_ _ x=>x)
 first
  |exact bf (aD fin)
  |exact aD (bf<|aD fin)
  |exact aD fin
def akA{y}(I:Inv X pins σ H s)(g:Km H a y o):s.TypeIs (.ref a) "dict":=by
 rcases g with⟨kvs,k,e,_,_⟩|⟨kvs,k,b,e,_,_,_⟩
 ·obtain⟨_,_,vs,_,dd⟩:=Wx I.hok e;exact dd.typeIs
 ·obtain⟨_,_,xs,_,dd⟩:=WL I.hok e;exact dd.typeIs
def atL(td ty:TE):TE:=λσ H Q=>td σ H λx H1=>ty σ H1 λy H2=>∃a v,x=.ref a/\Km H2 a y (some v)/\Q v H2
def ase(td ty tv:TE):TS:=λD σ H=>tv σ H λv H1=>td σ H1 λx H2=>ty σ H2 λy H3=>∃a H4,x=.ref a/\Pa H3 a y v H4/\D.nx σ H4
section
variable{X:Cx}{o i e value:Expr}{pos pos' Uu:Pos}{td ty tv:TE}
def apG(hu:X.A.units+1<cLine)(ho:PE X o td)(hi:PE X i ty)(hs:Vo i):PE X (.Subscript o i pos) (atL td ty):=by intro pins s σ H Q I h;refine atD PySem.F.slot_dict_getitem.lookup hs (lE (ho pins s σ H _ I h) λu s1 ⟨x,H1,I1,rx,q1⟩=>lE (hi pins s1 σ H1 _ I1 q1) λiv s2 ⟨y,H2,I2,ry,a,v,ex,g,q2⟩=>?_);subst ex;obtain rfl:u=Value.ref a:=rx;exact⟨akA I2 g,aks hu I2 g ry λw' s3 I3 uP=>⟨v,H2,I3,uP,q2⟩⟩
def aqg(hu:X.A.units+1<cLine)(ho:PE X o td)(hi:PE X i ty)(hv:PE X value tv)(hs:swapsWith value (some<|.Subscript o i pos') pos.line X.env=pure false):
    PS X (.Assign [.Subscript o i pos'] value pos) (ase td ty tv):=by
 intro pins s σ H D I h;refine wpAny_Assign_Subscript (lE (hv pins s σ H _ I h) λr s1 ⟨v,H1,I1,rv,q1⟩=>lE (ho pins s1 σ H1 _ I1 q1) λu s2 ⟨x,H2,I2,rx,q2⟩=>lE (hi pins s2 σ H2 _ I2 q2) λiv s3 ⟨y,H3,I3,ry,a,H4,ex,g,q3⟩=>?_) hs;subst ex;obtain rfl:u=Value.ref a:=rx;exact akt hu I3 g ry rv λs4 I4=>⟨σ,H4,I4,q3⟩
end
def akC{w}(h:Heap)(hb:sysModules<h.objs.size):qL P w H (h.push {cls:=.type "dict",data:=.dict #[]}) h.objs.size (.dK []):=
 ⟨dY _,beq_eq_false_iff_ne.mpr<|cY<|bO hb,[],.nil,Heap.DictOf.new h⟩
section
variable{X:Cx}{pos:Pos}
end
def Up:List (TE×TE)->St->Hp->(List (V×V)->Hp->Prop)->Prop
 |[],_,H,Q=>Q [] H
 |(tk,tv)::r,σ,H,Q=>tk σ H λx H1=>tv σ H1 λy H2=>Up r σ H2 λps H3=>Q ((x,y)::ps) H3
abbrev VV:List (V×V)->List (Value×Value)->Prop:=Paired λp q=>RelV p.1 q.1/\RelV p.2 q.2
def KN(X:Cx)(pos:Pos)(keys:List<|Option Expr)(values:List Expr)(xK:List<|TE×TE):Prop:=
 ∀pins s σ H Q,Inv X pins σ H s->Up xK σ H Q->
  wpAny (model X.prog X.w) X.A (evalPairs<|pairTrees keys values X.env pos) (λvs s'=>∃ps H',Inv X pins σ H' s'/\VV ps vs/\Q ps H') X.xe s
def aqd{pos}:KN X pos [] [] []:=λpins s σ H Q I h=>pairTrees_nil_walk ⟨[],H,I,.nil,h⟩
def aqc{pos k tk}(hk:PE X k tk)(hv:PE X v tv)(hr:KN X pos ks vs xK):
    KN X pos (some k::ks) (v::vs) ((tk,tv)::xK):=λpins s σ H Q I h=>
 pairTrees_cons_walk (lE (hk pins s σ H _ I h) λu s1 ⟨x,H1,I1,rx,q1⟩=>lE (hv pins s1 σ H1 _ I1 q1) λw2 s2 ⟨y,H2,I2,ry,q2⟩=>lE (hr pins s2 σ H2 _ I2 q2) λws s3 ⟨ps,H3,I3,rel,q3⟩=>⟨(x,y)::ps,H3,I3,.cons ⟨rx,ry⟩ rel,q3⟩)
def Dv(kvs more:List<|Key×V):List (Key×V):=more.foldl (λacc kv=>putK acc kv.1 kv.2) kvs
def KV.merge:∀{more:List<|Key×V} {rs:List<|Key×Value} {kvs:List<|Key×V} {vs:List<|Key×Value},KV more rs->KV kvs vs->KV (Dv kvs more) (merged vs rs):=by
 intro more rs kvs vs r;unfold KV at r;induction r generalizing kvs vs with
 |nil=>intro q;exact q
 |@cons p q ps qs h t ih=>
  intro r0;have e:KV (putK kvs p.1 p.2) (stored vs q.1 q.2):=by have:=r0.put p.1 h.2;rw[<-h.1];exact this
  exact ih e
theorem ae5:∀(more kvs:List<|Key×V),(Dv kvs more).length<=kvs.length+more.length
 |[],kvs=>by show kvs.length<=kvs.length+0;omega
 |p::r,kvs=>by have h1:=ae5 r (putK kvs p.1 p.2);have h2:=Ye kvs p.1 p.2;show(Dv (putK kvs p.1 p.2) r).length<=_;rw[ak];omega
theorem adq{w}:∀{kvs:List<|Key×V} {ws},VV (kvs.map λkv=>(kV kv.1,kv.2)) ws->∃rs,Carries (u6 P w) ws rs/\KV kvs rs
 |[],_,r=>by rw[fM]at r;cases r;exact⟨[],True.intro,.nil⟩
 |p::kvs,_,r=>by
  rw[aR]at r;cases r with
  |@cons a b as bs h t=>obtain⟨rs,c,q⟩:=adq (P:=P) (w:=w) t;obtain⟨b1,b2⟩:=b;exact⟨(p.1,b2)::rs,⟨R9 h.1,rfl,c⟩,.cons ⟨rfl,h.2⟩ q⟩
def atM(xK:List<|TE×TE):TE:=λσ H Q=>∀p,H p=none->Up xK σ (upd H p<|.dK []) λps H2=>H2 p=some (.dK [])/\∃kvs:List (Key×V),ps=kvs.map (λkv=>(kV kv.1,kv.2))/\kvs.length<=15/\Q (.ref p) (upd H2 p<|.dK<|Dv [] kvs)
def apH{pos}(h:KN X pos keys values xK)(hall:keys.all (·.isSome)=true)(hl:keys.length=values.length)(h0:keys≠[])
 (h15:keys.length<=15):PE X (.Dict keys values pos) (atM xK):=by
  intro pins s σ H Q I q;have hn:=I.hok.fresh (aB s.heap.objs.size);have I1:=I.laid (a:=s.heap.objs.size) (o:=.dK []) (h':=s.heap.push {cls:=.type "dict",data:=.dict #[]}) (t':=s.toks) (λ_ _ q=>aF _ q) (aB _) (akC s.heap I.big);refine wpAny_Dict_walk (knd:=u6 X.prog X.w) hall hl h0 h15 (lE (h pins _ σ _ _ I1<|q _ hn) λws s2 ⟨ps,H2,I2,rel,e,kvs,ep,lk,q2⟩=>?_);subst ep;obtain⟨rs,c,rk⟩:=adq (P:=X.prog) (w:=X.w) rel;obtain⟨z,hd,vs0,r0,dd⟩:=adR I2.hok e;cases r0;refine⟨rs,c,dd,λh' zp hs=>⟨.ref s.heap.objs.size,_,?_,rfl,q2⟩⟩;have hz:(Dv [] kvs).length<=sizeLine:=by have h1:=ae5 kvs [];rw[bu]at h1;rw[cX];omega
  have he:∃q,h'.get? s.heap.objs.size=some q:=let⟨q,_,_,hq,_⟩:=zp;⟨q,hq⟩;exact Wr I2 (by rw[e];exact True.intro) hs he (adQ hz hd (rk.merge .nil) zp)
structure M1(X:Cx)(o:Expr)(m:Str)(apos:Pos)(e:Expr)(cpos:Pos):Prop where
 base:attributeBase o m X.env (eval o X.env)=eval o X.env
 few:((backTo cpos (starEach [e] X.env)).all (λx=>!x.1)&&(backToKw cpos (keywordEach [] X.env)).all (λx=>x.1.isSome)
  &&decide (([e]:List Expr).length+([]:List Keyword).length+(if([]:List Keyword).isEmpty then 0 else 1)<30))=true
 line:(apos.endLine==cpos.line)=true
 trees:backTo cpos (starEach [e] X.env)=[(false,eval e X.env)]
structure M2(X:Cx)(o:Expr)(m:Str)(apos:Pos)(e f:Expr)(cpos:Pos):Prop where
 base:attributeBase o m X.env (eval o X.env)=eval o X.env
 few:((backTo cpos (starEach [e,f] X.env)).all (λx=>!x.1)&&(backToKw cpos (keywordEach [] X.env)).all (λx=>x.1.isSome)
  &&decide (([e,f]:List Expr).length+([]:List Keyword).length+(if([]:List Keyword).isEmpty then 0 else 1)<30))=true
 line:(apos.endLine==cpos.line)=true
 trees:backTo cpos (starEach [e,f] X.env)=[(false,eval e X.env),(false,eval f X.env)]
section
variable{X:Cx}{pins:List<|Addr×Obj}{σ:St}{H:Hp}{s:Shared}{a:Addr}{y d:V}{u r:Value}{o:Option V}{A:Around}{E:mW}
end
section
variable{X:Cx}{o e f:Expr}{apos cpos:Pos}{td ty tx:TE}
end
section
variable{X:Cx}{pins:List<|Addr×Obj}{σ:St}{H:Hp}{s:Shared}{a:Addr}{kvs:List<|Key×V}{A:Around}{E:mW}
end
section
variable{X:Cx}{pins:List<|Addr×Obj}{σ:St}{H:Hp}{s:Shared}{a:Addr}{y:V}{u:Value}{A:Around}{E:mW}
end
end L2
namespace P2
open PySem L2
section
variable{κ:Type}[DecidableEq κ]{K:W.Frag}{al:Addr->Prop}{lo:Lo}{H:Hp}
def valZ(kvs:List<|κ×Z)(k:κ):Option Z:=(kvs.find? λkv=>decide<|kv.1=k).map (·.2)
def NQ(kvs:List<|κ×Z)(k:κ)(v:Z):List (κ×Z):=
 if(kvs.any λkv=>decide<|kv.1=k)=true then kvs.map λkv=>if kv.1=k then(kv.1,v)else kv else kvs++[(k,v)]
def oA.val{us:List<|κ×V}{zs:List<|κ×Z}(r:oA K al lo H us zs){k:κ}{z:Z}(h:valZ zs k=some z):∃v,wU us k=some v/\qe K al lo H v z:=by
 induction r with
 |nil=>cases h
 |@cons k' v z' vs zs a _ ih=>
  unfold valZ at h;unfold wU;rw[dB]at h⊢;by_cases e:k'=k
  ·simp only[e,bZ]at h⊢;cases h;exact⟨v,rfl,a⟩
  ·simp only[e,bW]at h⊢;exact ih h
def oA.length(r:oA K al lo H us zs):us.length=zs.length:=by
 induction r with
 |nil=>rfl
 |cons _ _ ih=>rw[ak,ak,ih]
def oA.any{us:List<|κ×V}{zs:List<|κ×Z}(r:oA K al lo H us zs)(k:κ):(us.any λkv=>decide<|kv.1=k)=zs.any λkv=>decide (kv.1=k):=by
 induction r with
 |nil=>rfl
 |cons _ _ ih=>rw[cB,cB,ih]
def oA.put{us:List<|κ×V}{zs:List<|κ×Z}(r:oA K al lo H us zs)(k:κ){v:V}{z:Z}(q:qe K al lo H v z):oA K al lo H (putK us k v) (NQ zs k z):=by
 unfold putK NQ;rw[r.any k];split
 ·rename_i hh;clear hh;induction r with
  |nil=>exact .nil
  |@cons k' v' z' vs zs a _ ih=>
   rw[aR,aR];by_cases e:k'=k
   ·simp only[e,dG];exact .cons q ih
   ·simp only[e,fB];exact .cons a ih
 ·rename_i hh;clear hh;induction r with
  |nil=>exact .cons q .nil
  |cons a _ ih=>exact .cons a ih
end
def X5:D->Option Key
 |.int i=>some (.inl i)
 |.str x=>some (.inr x)
 |_=>none
def aeT{d k}(r:Rep K al H v d)(h:X5 d=some k):v=kV k:=by
 cases r with
 |int i=>cases h;rfl
 |str i=>cases h;rfl
 |_=>cases h
def pX(fo:nC)(fk:lA):nC:=λρ S=>(fo ρ S).bind λz S1=>(qQ (fk<|nQ ρ) S1).bind λd S2=>match z,X5 d with
 |.loc n,some k=>(match S2[n]? with
  |some (.dk kvs)=>(match valZ kvs k with
   |some z=>.ok z S2
   |none=>.bad)
  |_=>.bad)
 |_,_=>.bad
def BR(fo:nC)(fk:lA)(f:nC):lF:=λρ S=>toZ (f ρ S) λv S0=>toZ (fo ρ S0) λz S1=>toZ (qQ (fk<|nQ ρ) S1) λd S2=>match z,X5 d with
 |.loc n,some k=>(match S2[n]? with
  |some (.dk kvs)=>if kvs.length<sizeLine then .nx ρ (S2.set n<|.dk<|NQ kvs k v)else .bad
  |_=>.bad)
 |_,_=>.bad
def Ek(f:nC):nC:=λρ S=>(f ρ S).bind λz S1=>match z with
 |.loc n=>(match S1[n]? with
  |some (.li zs)=>.ok (.d<|.int zs.length) S1
  |_=>.bad)
 |_=>.bad
section
variable{X:Cx}{E:XK}{b:Nat}{o k e:Expr}{fo f:nC}{fk:lA}{pos:Pos}
def YD:NT (.dK l):=λ_ h=>nomatch h
def yL(hu:X.A.units+64<cLine)(ho:ZE X E o fo)(hk:DE X E k fk)(hs:Vo k:=by exact λ_ _=>rfl):ZE X E (.Subscript o k pos) (pX fo fk):=by
 obtain⟨to,po,ro⟩:=ho;obtain⟨tk,pk,rk⟩:=hk;refine⟨_,apG (by omega) po pk hs,λB al lo H σ ρ S Q s h=>ro _ _ _ _ _ _ _ _ s<|j9.mono (j9.split h) λz lV lo1 H1 S1 s1 x1 y1 h1 v rv=>rk _ _ _ _ _ _ _ s1.rs<|Aft.mono (j9.toAft s1<|j9.split h1) λd H2 s2 h2 u ru=>?_⟩;have s3:=s1.grow s2;split at h2
 ·rename_i n k0 Gi;split at h2
  ·rename_i kvs q;split at h2
   ·rename_i z0 q0;obtain⟨a,hn,rfl⟩:=rv;have ek:=aeT ru Gi;subst ek;obtain⟨us,g1,g2⟩:=s3.cell hn q;obtain⟨w,e1,e2⟩:=g2.val q0;refine⟨a,w,rfl,?_,h2 lV lo1 H2 s3 .refl .refl w e2⟩;rw[<-e1];exact .k g1
   ·exact h2.elim
  ·exact h2.elim
 ·exact h2.elim
def aiO{pos':Pos}(hu:X.A.units+64<cLine)(ho:ZE X E o fo)(hk:DE X E k fk)(hv:ZE X E e f)(hs:swapsWith e (some<|.Subscript o k pos') pos.line X.env=pure false:=by rfl):
    ZS X E b (.Assign [.Subscript o k pos'] e pos) (BR fo fk f):=by
 obtain⟨to,po,ro⟩:=ho;obtain⟨tk,pk,rk⟩:=hk;obtain⟨tv,pv,rv⟩:=hv;refine⟨_,aqg (by omega) po pk pv hs,λB hb al lo H σ ρ S D s h=>rv _ _ _ _ _ _ _ _ s<|j9.mono (o7.v8 h) λy al0 lo0 H0 S0 s0 x0 y0 h0 v0 r0=>ro _ _ _ _ _ _ _ _ s0<|j9.mono (o7.v8 h0) λz lV lo1 H1 S1 s1 x1 y1 h1 v1 r1=>rk _ _ _ _ _ _ _ s1.rs<|Aft.mono (j9.toAft s1<|o7.v8 h1) λd H2 s2 h2 u ru=>?_⟩;have s3:=s1.grow s2;split at h2
 ·rename_i n k0 Gi;split at h2
  ·rename_i kvs q;split at h2
   ·rename_i hl;obtain⟨a,hn,rfl⟩:=r1;have ek:=aeT ru Gi;subst ek;obtain⟨us,g1,g2⟩:=s3.cell hn q;have r0':qe X.K lV lo1 H2 v0 y:=(r0.mv x1 y1).mv (.of s2) .refl;have x2:Xt lV H2 lV (upd H2 a (.dK (putK us k0 v0))):=λb o _ hb eb=>⟨hb,by rw[mz λz=>s3.st.na n a hn (by rw[<-z];exact hb)];exact eb⟩;obtain⟨s4,x4⟩:=s3.write hn (o:=.dK (putK us k0 v0)) (c:=.dk (NQ kvs k0 y)) YD (λq w=>by unfold uo at w;cases w) ⟨_,ql,oA.mv x2 .refl (g2.put k0 r0')⟩ nofun;exact⟨a,_,rfl,.k g1 (by rw[g2.length];exact hl),h2 _ _ _ _ x4 s4⟩
   ·exact h2.elim
  ·exact h2.elim
 ·exact h2.elim
def acp{x:Str}{p:Pos}(hx:x="len")(hg:Gl X x)(hm:X.mg x=none)(hv:bootBuiltins x=some (.builtin "len"))(ha:ZE X E e f)(hn:x≠"__name__":=by decide)(hdb:(x==("__debug__":Str))=false:=by decide)
    (he:starEach [e] X.env=(false,eval e X.env)::starEach [] X.env:=by rfl)(hpl:(backTo pos<|starEach [] X.env).any (·.1)=false:=by rfl):ZE X E (.Call (.Name x p) [e] [] pos) (Ek f):=by
 obtain⟨ta,pa,ra⟩:=ha;refine⟨_,Z7 adn hg hm hv (Tj pa Tn he) hn hdb he hpl,λB al lo H σ ρ S Q s h=>ra _ _ _ _ _ _ _ _ s<|j9.mono (j9.split h) λz lV lo1 H1 S1 s1 x1 y1 h1 v rv=>?_⟩;split at h1
 ·rename_i n;split at h1
  ·rename_i zs q;obtain⟨a,hn,rfl⟩:=rv;obtain⟨vs,g1,g2⟩:=s1.cell hn q;rw[<-g2.length]at h1;exact⟨a,vs,rfl,.inl<|.inl<|.inl g1,h1 lV lo1 H1 s1 .refl .refl _<|.int _⟩
  ·exact h1.elim
 ·exact h1.elim
end
def Yw(kvs more:List<|Key×Z):List (Key×Z):=more.foldl (λacc kv=>NQ acc kv.1 kv.2) kvs
def oA.merge{K:W.Frag}{al:Addr->Prop}{lo:Lo}{H:Hp}{ms:List<|Key×V}{ns:List<|Key×Z}(q:oA K al lo H ms ns):∀{us:List<|Key×V} {zs:List<|Key×Z},oA K al lo H us zs->oA K al lo H (Dv us ms) (Yw zs ns):=by
 induction q with
 |nil=>exact λr=>r
 |cons a _ ih=>exact λr=>ih (r.put _ a)
def oA.zip{ks:List Key}(r:oK K al lo H vs zs):oA K al lo H (ks.zip vs) (ks.zip zs):=by
 induction r generalizing ks with
 |nil=>rw[List.zip_nil_right,List.zip_nil_right];exact .nil
 |cons a _ ih=>
  cases ks with
  |nil=>exact .nil
  |cons k ks=>exact .cons a ih
def Qf(X:Cx)(E:XK)(pos:Pos)(ks:List Key)(keys:List<|Option Expr)(es:List Expr)(f:lr->lD->RX (List Z)):Prop:=∃xK:List (TE×TE),KN X pos keys es xK/\ks.length=es.length/\
 (∀B al lo H σ ρ S (Q:List (V×V)->Hp->Prop),RZ X.K B al lo H σ ρ S->j9 X.K B E al lo H σ ρ (f ρ S) (λzs jK kh H' _=>∀vs,vs.length=ks.length->oK X.K jK kh H' vs zs->Q ((ks.map kV).zip vs) H')->Up xK σ H Q)
def ab6(ks:List Key)(f:lr->lD->RX (List Z)):nC:=λρ S=>(f ρ<|S++[.dk []]).bind λzs S1=>match S1[S.length]? with
 |some (.dk [])=>.ok (.loc S.length) (S1.set S.length<|.dk<|Yw []<|ks.zip zs)
 |_=>.bad
section
variable{X:Cx}{E:XK}{b:Nat}{e:Expr}{f:nC}{fs:lr->lD->RX (List Z)}{pos:Pos}{ks:List Key}{keys:List<|Option Expr}{es:List Expr}
def avy:Qf X E pos [] [] [] jW:=⟨_,aqd,rfl,λB al lo H σ ρ S Q s h=>h al lo H s .refl .refl [] rfl .nil⟩
def U5{j p1}(he:ZE X E e f)(hr:Qf X E pos ks keys es fs):Qf X E pos (.inr x::ks) (some (.Constant (.str x) j p1)::keys) (e::es) (jQ f fs):=by obtain⟨t,p,r⟩:=he;obtain⟨xK,ps,hl,rr⟩:=hr;refine⟨_,aqc afY p ps,by rw[ak,ak,hl],λB al lo H σ ρ S Q s h=>?_⟩;refine r _ _ _ _ _ _ _ _ s (j9.mono (j9.split h) λz lV lo1 H1 S1 s1 x1 y1 h1 v rv=>rr _ _ _ _ _ _ _ _ s1<|j9.mono (j9.split h1) λzs mH o5 H2 S2 s2 x2 y2 h2 vs hv Oe=>?_);exact h2 mH o5 H2 s2 .refl .refl (v::vs) (by rw[ak,ak,hv]) (.cons (rv.mv x2 y2) Oe)
theorem aiN:∀(ks:List Key) (vs:List V),(ks.map kV).zip vs=(ks.zip vs).map λkv=>(kV kv.1,kv.2)
 |[],_=>by simp
 |_::_,[]=>by simp
 |k::ks,v::vs=>by rw[aR,List.zip_cons_cons,List.zip_cons_cons,aR,aiN ks vs]
def avs(h:Qf X E pos ks keys es fs)(hall:keys.all (·.isSome)=true:=by rfl)(hl:keys.length=es.length:=by rfl)(h0:keys≠[]:=by simp)(h15:keys.length<=15:=by decide):ZE X E (.Dict keys es pos) (ab6 ks fs):=by
 obtain⟨xK,ps,hk,rr⟩:=h;refine⟨_,apH ps hall hl h0 h15,λB al lo H σ ρ S Q s h=>λp hp=>?_⟩;have hc:tV X.K (λb=>al b/\b≠p) (ud lo S.length p) (upd H p<|.dK []) p (.dk []):=⟨[],ql,.nil⟩;have s1:=s.new hp YD hc nofun;have hn:ud lo S.length p S.length=some p:=by unfold ud;rw[au rfl]
 refine rr _ _ _ _ _ _ _ _ s1 (j9.mono (j9.up (j9.split h) (Ke hp)<|Ds s.st p) λzs mH o5 H2 S2 s2 x2 y2 h2 vs hv Oe=>?_);split at h2
 ·rename_i q;have yp:=y2 _ _ hn;obtain⟨us,g1,g2⟩:=s2.cell yp q;cases g2;have x3:Xt mH H2 mH (upd H2 p (.dK (Dv [] (ks.zip vs)))):=λb o _ hb eb=>⟨hb,by rw[mz λz=>s2.st.na _ p yp (by rw[<-z];exact hb)];exact eb⟩;obtain⟨s4,x4⟩:=s2.write yp (o:=.dK (Dv [] (ks.zip vs))) (c:=.dk (Yw [] (ks.zip zs))) YD (λq w=>by unfold uo at w;cases w) ⟨_,ql,oA.mv x3 .refl ((oA.zip Oe).merge .nil)⟩ nofun;refine⟨g1,ks.zip vs,aiN ks vs,?_,h2 _ _ _ s4 x4 .refl _ ⟨p,yp,rfl⟩⟩;rw[List.length_zip];omega
 ·exact h2.elim
end
section
variable{P:Program}{w:World}{K:W.Frag}{mg:nO}{base:Heap}{f:Addr}{fd:FuncData}{x:Str}{ps:List Str}
def ak9{k}:jZ P w K mg base (jF P w) k f fd ps (kj ps.length K λ_=>.bad):=
 ⟨λvs H Q E h=>h.1,λA outer s H args us vs Q E _ _ _ _ h=>by obtain⟨_,_,_,_,_,_,h⟩:=h;exact h.elim⟩
def FT{k}:jZ P w K mg base (jF P w) k f fd ps (kY ps.length K λ_ _=>.bad):=
 ⟨λvs H Q E h=>h.1,λA outer s H args us vs Q E _ _ _ _ h=>by obtain⟨_,_,_,_,_,_,_,_,_,h⟩:=h;exact h.elim⟩
noncomputable def t8(F0:(jO)->jO):Nat->jO
 |0=>λ_=>.bad
 |m+1=>F0 (t8 F0 m)
theorem T8{F0:(jO)->jO}(hn:n=ps.length)
 (aes:∀{k} {sp},jZ P w K mg base (jF P w) k f fd ps sp->km P w K mg base (jF P w) k x ps sp)
 (step:∀Fs k,k0<=k->km P w K mg base (jF P w) k x ps (kj n K Fs)->jZ P w K mg base (jF P w) (k+st) f fd ps (kj n K<|F0 Fs)):∀m:Nat,jZ P w K mg base (jF P w) (k0+m*st) f fd ps (kj n K<|t8 F0 m)
  |0=>by subst hn;exact ak9
  |m+1=>by have:=step (t8 F0 m) (k0+m*st) (Nat.le_add_right _ _) (aes<|T8 hn aes step m);rw[Nat.succ_mul,<-Nat.add_assoc];exact this
end
section
variable{X:Cx}{E:XK}
def aj2:sV X (.type "int") (λxs H Q=>∃b:Bool,xs=[.bl b]/\Q (.int<|if b then 1 else 0) H):=by intro pins s σ H xs us Q I r h;obtain⟨b,rfl,q⟩:=h;obtain⟨u,rfl,ru⟩:=vals1 r;cases ru;exact call_int_bool ⟨.int _,H,I.tok _,⟨_,rfl⟩,q⟩
def Gp:jO
 |[.bl b]=>.ok (.int<|if b then 1 else 0)
 |ds=>intD ds
def adm:xf X E (.type "int") Gp:=by
 obtain⟨r0,o0,d0⟩:=K8 (X:=X) (E:=E);refine⟨_,aj2.or o0,λal H xs ds Q fr r h=>?_⟩;unfold Gp at h;split at h
 ·obtain⟨v,rfl,q⟩:=kI.one r;cases q;exact .inl ⟨_,rfl,h H (.refl H) _<|.int _⟩
 ·exact .inr (d0 _ _ _ _ _ fr r h)
end
def Bq(f:Str)(v:Z):List (Str×Z)->List (Str×Z)
 |[]=>[(f,v)]
 |(g,x)::r=>if g=f then(g,v)::r else(g,x)::Bq f v r
section
variable{K:W.Frag}{al:Addr->Prop}{lo:Lo}{H:Hp}
def oA.look{us:List<|Str×V}{zs:List<|Str×Z}(r:oA K al lo H us zs){f:Str}{z:Z}(h:zs.lookup f=some z):∃v,us.lookup f=some v/\qe K al lo H v z:=by
 induction r with
 |nil=>cases h
 |@cons k v z' vs zs' q _ ih=>
  rw[dU]at h⊢;cases e:f==k with
  |true=>rw[e]at h;cases h;exact⟨v,rfl,q⟩
  |false=>rw[e]at h;exact ih h
def oA.afx{us:List<|Str×V}{zs:List<|Str×Z}(r:oA K al lo H us zs){f:Str}(h:zs.lookup f=Option.none):us.lookup f=Option.none:=by
 induction r with
 |nil=>rfl
 |@cons k v z' vs zs' q _ ih=>
  rw[dU]at h⊢;cases e:f==k with
  |true=>rw[e]at h;cases h
  |false=>rw[e]at h;exact ih h
def oA.qH(r:oA K al lo H us zs)(f)(q:qe K al lo H v z):oA K al lo H (L2.qH f v us) (Bq f z zs):=by
 induction r with
 |nil=>exact .cons q .nil
 |@cons k v' z' vs zs' q' r' ih=>
  unfold L2.qH Bq;by_cases e:k=f;·rw[au e,au e];exact .cons q r'
  ·rw[aA e,aA e];exact .cons q' ih
def YF:NT (.ins C dx us):=λ_ h=>nomatch h
end
def wu(C:Addr)(fo:nC)(f:Str):nC:=λρ S=>(fo ρ S).bind λz S1=>match z with
 |.loc n=>(match S1[n]? with
  |some (.ob C' fs)=>if C'=C then(match fs.lookup f with
   |some z=>.ok z S1
   |none=>.bad)else .bad
  |_=>.bad)
 |_=>.bad
def BV(C:Addr)(fo:nC)(f:Str)(fv:nC):lF:=λρ S=>toZ (fv ρ S) λv S0=>toZ (fo ρ S0) λz S1=>match z with
 |.loc n=>(match S1[n]? with
  |some (.ob C' fs)=>if C'=C/\fs.length<1000 then .nx ρ (S1.set n<|.ob C'<|Bq f v fs)else .bad
  |_=>.bad)
 |_=>.bad
def wX(C:Addr)(fo:nC)(f:Str)(g:Int->Int->Int)(fv:nC):lF:=λρ S=>toZ (fo ρ S) λz S1=>match z with
 |.loc n=>(match S1[n]? with
  |some (.ob C' fs)=>if C'=C then(match fs.lookup f with
   |some (.d (.int i))=>toZ (fv ρ S1) λv S2=>(match v,S2[n]? with
    |.d (.int j),some (.ob C2 QX)=>if C2=C/\QX.length<1000 then .nx ρ (S2.set n<|.ob C2<|Bq f (.d<|.int<|g i j) QX)else .bad
    |_,_=>.bad)
   |_=>.bad)else .bad
  |_=>.bad)
 |_=>.bad
def aar(g:Int->Int->Int):V->V->Hp->VK->Prop:=λx y H Q=>∃i j,x=.int i/\y=.int j/\Q (.int<|g i j) H
def XM:Ho X .Add (aar λi j=>i+j):=amf
def ami:Ho X .Sub (aar λi j=>i - j):=amh
def mL(C:Addr)(m:Str)(F:lX)(dz:List D)(fo:nC)(fs:lr->lD->RX (List Z)):nC:=λρ S=>(fo ρ S).bind λz S1=>match z with
 |.loc n=>(match S1[n]? with
  |some (.ob C' us)=>if C'=C/\us.lookup m=none then(fs ρ S1).bind λzs S2=>F (.loc n::(zs++dz.map .d)) S2 else .bad
  |_=>.bad)
 |_=>.bad
def Kg(C:Addr)(F:lX)(fs:lr->lD->RX (List Z)):nC:=λρ S=>(fs ρ S).bind λzs S1=>match F (.loc S1.length::zs) (S1++[.ob C []])with
 |.ok (.d .non) S2=>.ok (.loc S1.length) S2
 |.ex c ns ds S2=>.ex c ns ds S2
 |_=>.bad
def nJ(P:Program)(w:World)(K:W.Frag)(mg:nO)(base:Heap)(k:Nat)(C:Addr)(m:Str)(ps:List Str)(dz:List D)(sp:Sp):Prop:=
 ∃f fd ds oN,jZ P w K mg base (jF P w) k f fd ps sp/\Binds K fd ps ds/\Vals oN ds/\(∀al H,kI K al H oN dz)/\Meth K C m f
def nJ.up{w k}(G:nJ P w K mg base j C m ps dz sp)(h:j<=k):nJ P w K mg base k C m ps dz sp:=
 let⟨f,fd,ds,oN,fo,r⟩:=G;⟨f,fd,ds,oN,fo.mono h,r⟩
def yQ(P:Program)(w:World)(K:W.Frag)(mg:nO)(base:Heap)(k:Nat)(C:Addr)(ps:List Str)(sp:Sp):Prop:=
 ∃f fd,jZ P w K mg base (jF P w) k f fd ps sp/\Binds K fd ps []/\Mk K C f
def yQ.up{w k}(G:yQ P w K mg base j C ps sp)(h:j<=k):yQ P w K mg base k C ps sp:=
 let⟨f,fd,fo,r⟩:=G;⟨f,fd,fo.mono h,r⟩
section
variable{X:Cx}{E:XK}{b:Nat}{o e value:Expr}{es:List Expr}{pos p apos pos' Uu:Pos}{fo fv:nC}{fs:lr->lD->RX (List Z)}{f m x:Str}{C:Addr}{k n:Nat}{ps:List Str}{dz:List D}{F:lX}
def O8(c:uE X.K C)(na:vN X.K C f)(ho:ZE X E o fo)(hb:attributeBase o f X.env (eval o X.env)=eval o X.env:=by rfl):ZE X E (.Attribute o f pos) (wu C fo f):=by
 obtain⟨to,po,ro⟩:=ho;refine⟨_,apI po hb,λB al lo H σ ρ S Q s h=>ro _ _ _ _ _ _ _ _ s<|j9.mono (j9.split h) λz lV lo1 H1 S1 s1 x1 y1 h1 v rv=>?_⟩;split at h1
 ·rename_i n;split at h1
  ·rename_i C' us q;split at h1
   ·rename_i hc;subst hc;split at h1
    ·rename_i z0 q0;obtain⟨a,hn,rfl⟩:=rv;obtain⟨dx,vs,g1,g2⟩:=s1.cell hn q;obtain⟨w,e1,e2⟩:=g2.look q0;exact⟨a,_,dx,vs,w,rfl,g1,c,na,e1,h1 lV lo1 H1 s1 .refl .refl w e2⟩
    ·exact h1.elim
   ·exact h1.elim
  ·exact h1.elim
 ·exact h1.elim
def U6(c:uE X.K C)(na:vN X.K C f)(ho:ZE X E o fo)(hv:ZE X E value fv)(hs:swapsWith value (some<|.Attribute o f pos') pos.line X.env=pure false:=by rfl):ZS X E b (.Assign [.Attribute o f pos'] value pos) (BV C fo f fv):=by
 obtain⟨to,po,ro⟩:=ho;obtain⟨tv,pv,rv⟩:=hv;refine⟨_,aqh po pv hs,λB hb al lo H σ ρ S D s h=>rv _ _ _ _ _ _ _ _ s<|j9.mono (o7.v8 h) λy al0 lo0 H0 S0 s0 x0 y0 h0 v0 r0=>ro _ _ _ _ _ _ _ _ s0<|j9.mono (o7.v8 h0) λz lV lo1 H1 S1 s1 x1 y1 h1 v1 r1=>?_⟩;split at h1
 ·rename_i n;split at h1
  ·rename_i C' us q;split at h1
   ·rename_i hc;obtain⟨hc,hl⟩:=hc;subst hc;obtain⟨a,hn,rfl⟩:=r1;obtain⟨dx,vs,g1,g2⟩:=s1.cell hn q;have r0':qe X.K lV lo1 H1 v0 y:=r0.mv x1 y1;have x2:Xt lV H1 lV (upd H1 a (.ins C' dx (L2.qH f v0 vs))):=λb o _ hb eb=>⟨hb,by rw[mz λz=>s1.st.na n a hn (by rw[<-z];exact hb)];exact eb⟩;obtain⟨s4,x4⟩:=s1.write hn (o:=.ins C' dx (L2.qH f v0 vs)) (c:=.ob C' (Bq f y us)) YF (λq w=>by unfold uo at w;cases w) ⟨_,_,ql,oA.mv x2 .refl (g2.qH f r0')⟩ nofun;exact⟨a,_,dx,vs,rfl,g1,c,na,by rw[g2.length];exact hl,h1 _ _ _ _ x4 s4⟩
   ·exact h1.elim
  ·exact h1.elim
 ·exact h1.elim
def U7{op:Operator}{g:Int->Int->Int}(hop:Ho X op<|aar g)(c:uE X.K C)(na:vN X.K C f)(ho:ZE X E o fo)(hv:ZE X E value fv):ZS X E b (.AugAssign (.Attribute o f Uu) op value pos) (wX C fo f g fv):=by
 obtain⟨to,po,ro⟩:=ho;obtain⟨tv,pv,rv⟩:=hv;refine⟨_,aqj po pv hop,λB hb al lo H σ ρ S D s h=>ro _ _ _ _ _ _ _ _ s<|j9.mono (o7.v8 h) λz lV lo1 H1 S1 s1 x1 y1 h1 v1 r1=>?_⟩;split at h1
 ·rename_i n;split at h1
  ·rename_i C' us q;split at h1
   ·rename_i hc;subst hc;split at h1
    ·rename_i i q0;obtain⟨a,hn,rfl⟩:=r1;obtain⟨dx,vs,g1,g2⟩:=s1.cell hn q;obtain⟨w,e1,e2⟩:=g2.look q0;have ew:w=.int i:=by cases e2;rfl
     subst ew;refine⟨a,_,dx,vs,_,rfl,g1,c,na,e1,rv _ _ _ _ _ _ _ _ s1<|j9.mono (o7.v8 h1) λv mH o5 H2 S2 s2 x2 y2 h2 u ru=>?_⟩;split at h2
     ·rename_i j C2 QX q2;split at h2
      ·rename_i hc;obtain⟨hc,hl⟩:=hc;subst hc;have eu:u=.int j:=by cases ru;rfl
       subst eu;have yp:=y2 n a hn;obtain⟨WN,vs2,g3,g4⟩:=s2.cell yp q2;have x3:Xt mH H2 mH (upd H2 a (.ins C2 WN (L2.qH f (.int (g i j)) vs2))):=λb o _ hb eb=>⟨hb,by rw[mz λz=>s2.st.na n a yp (by rw[<-z];exact hb)];exact eb⟩;obtain⟨s4,x4⟩:=s2.write yp (o:=.ins C2 WN (L2.qH f (.int (g i j)) vs2)) (c:=.ob C2 (Bq f (.d (.int (g i j))) QX)) YF (λq w=>by unfold uo at w;cases w) ⟨_,_,ql,oA.mv x3 .refl (g4.qH f (.int _))⟩ nofun;exact⟨i,j,rfl,rfl,WN,vs2,g3,by rw[g4.length];exact hl,h2 _ _ _ _ x4 s4⟩
      ·exact h2.elim
     ·exact h2.elim
    ·exact h1.elim
   ·exact h1.elim
  ·exact h1.elim
 ·exact h1.elim
def agW(r:oK K al lo H vs zs)(q:kI K al H ws ds):oK K al lo H (vs++ws) (zs++ds.map .d):=r.append (.ofD q)
def afq{Q:VK}(s:RZ X.K B al lo H σ ρ S)(rv:oK X.K al lo H vs zs)(hl:vs.length=n)
 (h:j9 X.K B E al lo H σ ρ (F zs S) (λz jK kh H' _=>∀v,qe X.K jK kh H' v z->Q v H')):kY n X.K F vs H Q E:=by
  refine⟨hl,s.tt,al,lo,zs,S,s.fresh,s.st,rv,?_⟩;cases q2:F zs S with
  |bad=>rw[q2]at h;exact h.elim
  |ex c ns ds S2=>rw[q2]at h;exact λmH o5 H2 dx e2 xr=>h mH o5 H2 dx (s.toEZ.trans e2) xr
  |ok z S2=>rw[q2]at h;exact λmH o5 H2 v e2 rv2=>h mH o5 H2 (s.after e2) e2.xt e2.lx v rv2
def yM{pl:Sem Bool}(G:nJ X.prog X.w X.K X.mg X.base k C m ps dz<|kY n X.K F)(c:uE X.K C)(hr:n6 k X.A)(hx:Passes (jF X.prog X.w) X E)(ho:ZE X E o fo)(ha:ZA X E (e::es) fs)(hn:(e::es).length+1+dz.length=n)
    (hst:starEach (e::es) X.env=(false,eval e X.env)::starEach es X.env:=by rfl)(hpl:(backTo pos<|starEach es X.env).any (·.1)=false:=by rfl)
    (ht:eval (.Call (.Attribute o m apos) (e::es) [] pos) X.env=(do
      let ov<-eval o X.env
      standAt apos.atName
      let(f,first)<-holding [ov] (getMethod ov m pl)
      callWith pos f first (backTo pos (starEach (e::es) X.env)) (backToKw pos (keywordEach [] X.env))):=by rfl):
    ZE X E (.Call (.Attribute o m apos) (e::es) [] pos) (mL C m F dz fo fs):=by
 obtain⟨to,po,ro⟩:=ho;obtain⟨ta,pa,ra,lb⟩:=ha;obtain⟨f,fd,ds,oN,Lp,bi,va,rd,me⟩:=G;refine⟨_,apO po c me Lp hr bi va hx pa hst hpl ht,λB al lo H σ ρ S Q s h=>ro _ _ _ _ _ _ _ _ s<|j9.mono (j9.split h) λz lV lo1 H1 S1 s1 x1 y1 h1 v rv=>?_⟩;split at h1
 ·rename_i j;split at h1
  ·rename_i C' us q;split at h1
   ·rename_i hc;obtain⟨hc,hl⟩:=hc;subst hc;obtain⟨a,Be,rfl⟩:=rv;obtain⟨dx,vs,g1,g2⟩:=s1.cell Be q;refine⟨a,dx,vs,rfl,g1,g2.afx hl,ra _ _ _ _ _ _ _ _ s1 ?_⟩;cases q2:fs ρ S1 with
    |bad=>rw[q2]at h1;exact h1.elim
    |ex c ns ds S2=>rw[q2]at h1;exact h1
    |ok zs S2=>rw[q2]at h1;have ll:=lb _ _ _ _ q2;intro mH o5 H2 s2 x2 y2 ws rw2;refine afq s2 (zs:=.loc j::(zs++dz.map .d)) (.cons ⟨a,y2 _ _ Be,rfl⟩<|agW rw2<|rd mH H2) ?_ (j9.up h1 x2 y2);have:=(rd mH H2).length;rw[ak,aq,rw2.length,this,ll,<-hn];omega
   ·exact h1.elim
  ·exact h1.elim
 ·exact h1.elim
def rG{pl:Sem Bool}(G:nJ X.prog X.w X.K X.mg X.base k C m ps dz<|kY n X.K F)(c:uE X.K C)(hr:n6 k X.A)(hx:Passes (jF X.prog X.w) X E)(ho:ZE X E o fo)(hn:1+dz.length=n)
    (ht:eval (.Call (.Attribute o m apos) [] [] pos) X.env=(do
      let ov<-eval o X.env
      standAt apos.atName
      let(f,first)<-holding [ov] (getMethod ov m pl)
      callWith pos f first (backTo pos (starEach [] X.env)) (backToKw pos (keywordEach [] X.env))):=by rfl):
    ZE X E (.Call (.Attribute o m apos) [] [] pos) (mL C m F dz fo jW):=by
 obtain⟨to,po,ro⟩:=ho;obtain⟨f,fd,ds,oN,Lp,bi,va,rd,me⟩:=G;refine⟨_,apP po c me Lp hr bi va hx ht,λB al lo H σ ρ S Q s h=>ro _ _ _ _ _ _ _ _ s<|j9.mono (j9.split h) λz lV lo1 H1 S1 s1 x1 y1 h1 v rv=>?_⟩;split at h1
 ·rename_i j;split at h1
  ·rename_i C' us q;split at h1
   ·rename_i hc;obtain⟨hc,hl⟩:=hc;subst hc;obtain⟨a,Be,rfl⟩:=rv;obtain⟨dx,vs,g1,g2⟩:=s1.cell Be q;refine⟨a,dx,vs,rfl,g1,g2.afx hl,?_⟩;have h1:j9 X.K B E lV lo1 H1 σ ρ (F (.loc j::([]++dz.map .d)) S1) (λz jK kh H' _=>∀v,qe X.K jK kh H' v z->Q v H'):=h1;refine afq s1 (zs:=.loc j::([]++dz.map .d)) (.cons ⟨a,Be,rfl⟩<|agW .nil<|rd lV H1) ?_ h1;have:=(rd lV H1).length;rw[ak,aq,this,<-hn];simp;omega
   ·exact h1.elim
  ·exact h1.elim
 ·exact h1.elim
def anv{Q:VK}(s:RZ X.K B al lo H σ ρ S)(rv:oK X.K al lo H vs zs)(hl:vs.length+1=n)
 (h:j9 X.K B E al lo H σ ρ (match F (.loc S.length::zs) (S++[.ob C []])with
 |.ok (.d .non) S2=>RX.ok (Z.loc S.length) S2
 |.ex c ns ds S2=>.ex c ns ds S2
 |_=>.bad) (λz jK kh H' _=>∀v,qe X.K jK kh H' v z->Q v H')){y}(hy:H y=none)(hd:H dx=none)(ne:dx≠y):kY n X.K F (.ref y::(vs++[])) (upd (upd H dx (.own y)) y (.ins C dx [])) (λv H2=>v=.non/\Q (.ref y) H2) E:=by
  have s1:=s.grow (vg (K:=X.K) (o:=.own y) hd);have hy1:(upd H dx<|.own y) y=none:=by rw[mz<|cY ne];exact hy
  have hc:tV X.K (λb=>al b/\b≠y) (ud lo S.length y) (upd (upd H dx<|.own y) y<|.ins C dx []) y (.ob C []):=⟨dx,[],ql,.nil⟩;have s2:=s1.new hy1 YF hc nofun;have x2:Xt al H (λb=>al b/\b≠y) (upd (upd H dx<|.own y) y<|.ins C dx []):=(Xt.of<|vg (K:=X.K) (o:=.own y) hd).trans (Ke hy1);have y2:=Ds s1.st y;have hn:ud lo S.length y S.length=some y:=by unfold ud;rw[au rfl]
  refine⟨by rw[bz,ak];exact hl,s2.tt,_,_,.loc S.length::zs,S++[.ob C []],s2.fresh,s2.st,.cons ⟨y,hn,rfl⟩<|by rw[bz];exact rv.mv x2 y2,?_⟩;cases q2:F (.loc S.length::zs) (S++[.ob C []])with
  |bad=>rw[q2]at h;exact h.elim
  |ex c ns ds S2=>rw[q2]at h;exact λFe M7 H3 dx e3 xr=>h Fe M7 H3 dx (s2.toEZ.trans e3) xr
  |ok z S2=>
   rw[q2]at h;cases z with
   |loc j=>exact h.elim
   |tk ks=>exact h.elim
   |d d=>
    cases d with
    |non=>
     intro Fe M7 H3 v e3 rv3;have ev:v=.non:=by cases rv3;rfl
     exact⟨ev,h Fe M7 H3 (s2.after e3) (x2.trans e3.xt) (y2.trans e3.lx) _ ⟨y,e3.lx _ _ hn,rfl⟩⟩
    |_=>exact h.elim
def avv(G:yQ X.prog X.w X.K X.mg X.base k C ps<|kY n X.K F)(hr:n6 (k+1) X.A)(hg:Gl X x)(hm:X.mg x=some (.ref C))(hx:Passes (jF X.prog X.w) X E)(ha:ZA X E (e::es) fs)(hn:(e::es).length+1=n)
 (hdb:(x==("__debug__":Str))=false:=by decide)(he:starEach (e::es) X.env=(false,eval e X.env)::starEach es X.env:=by rfl)(hpl:(backTo pos<|starEach es X.env).any (·.1)=false:=by rfl):
   ZE X E (.Call (.Name x p) (e::es) [] pos) (Kg C F fs):=by
  obtain⟨ta,pa,ra,lb⟩:=ha;obtain⟨f,fd,Lp,bi,mk⟩:=G;refine⟨_,apM mk Lp hr hg hm bi .nil hx pa hdb he hpl,λB al lo H σ ρ S Q s h=>ra _ _ _ _ _ _ _ _ s ?_⟩;unfold Kg at h;cases q:fs ρ S with
  |bad=>rw[q]at h;exact h.elim
  |ex c ns ds S1=>rw[q]at h;exact h
  |ok zs S1=>rw[q]at h;intro lV lo1 H1 s1 x1 y1 vs rv y dx hy hd ne;have ll:=lb _ _ _ _ q;exact anv s1 rv (by rw[rv.length,ll];exact hn) (j9.up h x1 y1) hy hd ne
end
structure sW(K:W.Frag)(x qual:Str)(st:Stmt)(dV:Value)(f:Addr)(fd:FuncData):Prop where
 ex:∃(oc:Value) (od:Option Addr) (kV doc pm:Value) (an:Option Addr) (cdv ct:Value) (osl:Array<|Option Value),
  fd=W.fnOf x qual (pJ st) (oM st) (j8 st) dV kV doc pm an cdv ct/\K.lookup f=some ⟨oc,od,.func fd,osl⟩/\W.codeIn K cdv qual=true
 kp:W.keepIn K (.ref f)=true
section
variable{P:Program}{w:World}{K:W.Frag}{mg:nO}{base:Heap}
def aed{x qual:Str}{st:Stmt}{f:Addr}{oc:Value}{od an:Option Addr}{osl:Array<|Option Value}{dV kV doc pm cdv ct:Value}(l:K.lookup f=some ⟨oc,od,.func<|W.fnOf x qual (pJ st) (oM st) (j8 st) dV kV doc pm an cdv ct,osl⟩)
    (c:W.codeIn K cdv qual=true)(k:W.keepIn K (.ref f)=true):sW K x qual st dV f (W.fnOf x qual (pJ st) (oM st) (j8 st) dV kV doc pm an cdv ct):=⟨⟨oc,od,kV,doc,pm,an,cdv,ct,osl,rfl,l,c⟩,k⟩
def Dl{x qual:Str}{st:Stmt}{dV:Value}{f:Addr}{fd:FuncData}{N ps:List Str}{k:Nat}{g:Nat->lF}(F:sW K x qual st dV f fd)(S:lU N ps<|j8 st)
    (body:∀(b:Nat) (cdv:Value) (A:Around) (outer:List Env) (s:Shared) (H:Hp) (E:XK),n6 k (nG (jF P w) P w K mg base N qual (j8 st) f cdv A outer s H E).A->yX (nG (jF P w) P w K mg base N qual (j8 st) f cdv A outer s H E) E b (oM st) (g b)):
    jZ P w K mg base (jF P w) (k+1) f fd ps (kY ps.length K λzs S=>kE<|g S.length (lg N.length zs) S):=by
 obtain⟨oc,od,kV,doc,pm,an,cdv,ct,osl,rfl,lk,hcd⟩:=F.ex;refine W3 lk hcd S (λvs H Q E h=>h.1) λA outer s H vs Q E hr h=>?_;obtain⟨hl,tt,al,lo,zs,S0,fr,st,rv,h⟩:=h;obtain⟨t,p,r⟩:=body S0.length cdv A outer s H E hr;dsimp only at h;refine⟨t,p,r ⟨H,al,lo,S0.length⟩ rfl al lo H (L2.start N vs) (lg N.length zs) S0 _ (ag3 tt fr st rv) ?_⟩;cases q:g S0.length (lg N.length zs) S0 with
 |nx ρ S1=>rw[q]at h;exact λjK kh H' σ' _ s'=>h jK kh H' .non s'.toEZ .non
 |rt z S1=>rw[q]at h;exact h
 |ex c ns es S1=>rw[q]at h;exact h
 |bk ρ S1=>rw[q]at h;exact h.elim
 |ct ρ S1=>rw[q]at h;exact h.elim
 |bad=>rw[q]at h;exact h.elim
def sW.binds{x qual:Str}{st:Stmt}{dV:Value}{f:Addr}{fd:FuncData}{ps:List Str}(F:sW K x qual st dV f fd)
    (h:∀(kV doc pm:Value) (an:Option Addr) (cdv ct:Value) (us:List Value),us.length=ps.length->bindArgs (W.fnOf x qual (pJ st) (oM st) (j8 st) dV kV doc pm an cdv ct) ⟨us,[]⟩=pure (ps.zip us)):Binds K fd ps []:=by
 obtain⟨oc,od,kV,doc,pm,an,cdv,ct,osl,rfl,lk,hcd⟩:=F.ex;exact .all (h kV doc pm an cdv ct)
def sW.ada{x qual:Str}{st:Stmt}{tA f:Addr}{fd:FuncData}{ps:List Str}{ds:List Value}{o:Obj}{items:Array Value}{n:Nat}(F:sW K x qual st (.ref tA) f fd)(ho:K.lookup tA=some o)(hs:o.data=.seq items n)
    (h:∀(kV doc pm:Value) (an:Option Addr) (cdv ct:Value) (us:List Value),us.length+ds.length=ps.length->∃k:Option (Array Value)->Sem (List<|Str×Value),bindArgs (W.fnOf x qual (pJ st) (oM st) (j8 st) (.ref tA) kV doc pm an cdv ct) ⟨us,[]⟩=seqItems? (.ref tA)>>=k/\k (some items)=pure (ps.zip<|us++ds)):Binds K fd ps ds:=by
 obtain⟨oc,od,kV,doc,pm,an,cdv,ct,osl,rfl,lk,hcd⟩:=F.ex;intro s us Bh hl;rw[aq]at hl;obtain⟨k,h1,h2⟩:=h kV doc pm an cdv ct us hl;exact .of_defaults rfl (Bh _ _ ho) hs h1 h2
end
end P2
namespace WR
open PySem L2 P2 WP
def Q7(a:Ad):lG:=(j6 (lR 1 (rO (uw (λρ=>((dV 0) ρ).bind sX) 1 [] (gV 0) (λ_=>.ok true) (vR (b1 tB (d2 vH (dV 0) (dC (.str "abcdefghijklmnopqrstuvwxyz0123456789/")))) (dV 0) ((lW (dC (.str " ")) (lW (d1 nH (dV 0)) (lW (dC (.str " ")) rB))) Str.empty)))))
    (lM (rO (uw (λρ=>((qt "str" Bv (qt "str" R7 (dC (.str "")) (jy (dV 1) jE)) (jy (dC (.str " ")) jE)) ρ).bind sX) 1 [] (gV 0) (b1 tB (d2 pM (dV 0) (dC (.str "")))) (dV 0)))))
def Dm(a:Ad)(Pj:jO)(b:Nat):lF:=(j5 (BV a.Tokens (zV 0) "tokens" (zD (dA Pj (jy (dV 1) jE))))
    (j5 (BV a.Tokens (zV 0) "place" (zD (dC (.int 0))))
    (j5 (BV a.Tokens (zV 0) "parts" (zD (dC (.int 0))))
    (BV a.Tokens (zV 0) "brackets" (zD (dC (.int 0)))))))
def Mm(a:Ad)(b:Nat):lF:=(j5 (mR 2 (z2 jT (wu a.Tokens (zV 0) "place") (zD (dV 1))))
    (o9 (U0 (qK tB (z2 v5 (zD (dV 2)) (zF lY (jQ (wu a.Tokens (zV 0) "tokens") jW)))) (z2 jR (wu a.Tokens (zV 0) "tokens") (zD (dV 2))) (zD (dC (.str ""))))))
def Ge(a:Ad)(oE:lX)(b:Nat):lF:=(j5 (mR 1 (mL a.Tokens "ahead" oE [(.int 0)] (zV 0) jW))
    (j5 (nZ (zB (b1 tB (d2 mV (dV 1) (dC (.str ""))))) (λρ S=>leave ((λρ=>toS ((jy (dC (.int 1)) jE) ρ) λds=>.ex a.NoText ["row"] ds) (nQ ρ)) S) pP)
    (j5 (wX a.Tokens (zV 0) "place" (λi j=>i+j) (zD (dC (.int 1))))
    (o9 (zD (dV 1))))))
def Gd(a:Ad)(qR:lX)(b:Nat):lF:=(nZ (qK tB<|z2 pM (mL a.Tokens "take" qR [] (zV 0) jW)<|zD<|dV 1) (λρ S=>leave ((λρ=>toS ((jy (dC<|.int 1) jE) ρ) λds=>.ex a.NoText ["row"] ds) (nQ ρ)) S) pP)
def Mr(a:Ad)(oE:lX)(b:Nat):lF:=(nZ (qK tB<|z2 pM (mL a.Tokens "ahead" oE [(.int 0)] (zV 0) jW)<|zD<|dC<|.str "") (λρ S=>leave ((λρ=>toS ((jy (dC<|.int 1) jE) ρ) λds=>.ex a.NoText ["row"] ds) (nQ ρ)) S) pP)
def Mp(a:Ad)(b:Nat):lF:=(j5 (wX a.Tokens (zV 0) "parts" (λi j=>i+j) (zD (dC (.int 1))))
    (nZ (qK tB (z2 oV (wu a.Tokens (zV 0) "parts") (zD (dC (.int 30))))) (λρ S=>leave ((λρ=>toS ((jy (dC (.int 1)) jE) ρ) λds=>.ex a.NoText ["row"] ds) (nQ ρ)) S) pP))
def Mq(a:Ad)(qg:lX)(b:Nat):lF:=(j5 (pD (mL a.Tokens "expect" qg [] (zV 0) (jQ (zD (dV 1)) jW)))
    (j5 (wX a.Tokens (zV 0) "brackets" (λi j=>i+j) (zD (dC (.int 1))))
    (nZ (qK tB (z2 oV (wu a.Tokens (zV 0) "brackets") (zD (dC (.int 16))))) (λρ S=>leave ((λρ=>toS ((jy (dC (.int 1)) jE) ρ) λds=>.ex a.NoText ["row"] ds) (nQ ρ)) S) pP)))
def Ms(a:Ad)(qg:lX)(b:Nat):lF:=(j5 (pD (mL a.Tokens "expect" qg [] (zV 0) (jQ (zD (dV 1)) jW)))
    (wX a.Tokens (zV 0) "brackets" (λi j=>i - j) (zD (dC (.int 1)))))
def LQ(a:Ad)(CT Ae CV:lX)(b:Nat):lF:=(j5 (pD (mL a.Tokens "enter" CT [] (zV 0) (jQ (zD (dC (.str "("))) jW)))
    (j5 (mR 1 (zZ Ae (jQ (zV 0) jW)))
    (j5 (pD (mL a.Tokens "leave" CV [] (zV 0) (jQ (zD (dC (.str ")"))) jW)))
    (o9 (zD (dV 1))))))
def Mi(a:Ad)(PB PJ CG:jO)(oE KR pA qR:lX)(b:Nat):lF:=(j5 (nZ (qK tB (z2 mV (mL a.Tokens "ahead" oE [(.int 0)] (zV 0) jW) (zD (dC (.str "("))))) (o9 (zZ KR (jQ (zV 0) jW))) pP)
    (j5 (pD (mL a.Tokens "begin_part" pA [] (zV 0) jW))
    (j5 (mR 1 (mL a.Tokens "take" qR [] (zV 0) jW))
    (j5 (nZ (zB (b1 tB (d2 mV (dV 1) (dC (.str "here"))))) (o9 (zD (dA lB (jy (dC (.str "here")) jE)))) pP)
    (j5 (nZ (zB (b1 tB (d2 mQ (dV 1) (dA lB (jy (dC (.str "back")) (jy (dC (.str "on")) (jy (dC (.str "ago")) (jy (dC (.str "until")) jE)))))))) (o9 (zF lB (jQ (zD (dV 1)) (jQ (zF PB (jQ (mL a.Tokens "take" qR [] (zV 0) jW) (jQ (zD (dC (.int 1))) (jQ (zD (dC (.int 9))) jW)))) jW)))) pP)
    (j5 (nZ (zB (b1 tB (d2 mV (dV 1) (dC (.str "at"))))) (o9 (zF lB (jQ (zD (dC (.str "at"))) (jQ (zF PJ (jQ (mL a.Tokens "take" qR [] (zV 0) jW) jW)) jW)))) pP)
    (j5 (nZ (zB (b1 tB (d2 mV (dV 1) (dC (.str "abs"))))) (o9 (zF lB (jQ (zD (dC (.str "abs"))) (jQ (zZ KR (jQ (zV 0) jW)) jW)))) pP)
    (o9 (zD (dA lB (jy (dC (.str "num")) (jy (dA CG (jy (dV 1) jE)) jE))))))))))))
def Mh(a:Ad)(CG:jO)(oE KY qR qg pA:lX)(b:Nat):lF:=(j5 (nZ (qK tB (z2 pM (mL a.Tokens "ahead" oE [] (zV 0) (jQ (zD (dC (.int 1))) jW)) (zD (dC (.str "*"))))) (o9 (zZ KY (jQ (zV 0) jW))) pP)
    (j5 (mR 1 (zF CG (jQ (mL a.Tokens "take" qR [] (zV 0) jW) jW)))
    (j5 (pD (mL a.Tokens "expect" qg [] (zV 0) (jQ (zD (dC (.str "*"))) jW)))
    (j5 (pD (mL a.Tokens "begin_part" pA [] (zV 0) jW))
    (o9 (zF lB (jQ (zD (dC (.str "times"))) (jQ (zD (dV 1)) (jQ (zZ KY (jQ (zV 0) jW)) jW)))))))))
def VJ(a:Ad)(EY oE qR pA:lX):lF:=(j5 (mR 2 (mL a.Tokens "take" qR [] (zV 0) jW))
    (j5 (pD (mL a.Tokens "begin_part" pA [] (zV 0) jW))
    (mR 1 (zF lB (jQ (zD (dV 2)) (jQ (zD (dV 1)) (jQ (zZ EY (jQ (zV 0) jW)) jW)))))))
def Mj(a:Ad)(EY oE qR pA:lX)(b:Nat):lF:=(j5 (mR 1 (zZ EY (jQ (zV 0) jW)))
    (j5 (uB (qK tB (z2 mQ (mL a.Tokens "ahead" oE [(.int 0)] (zV 0) jW) (zD (dA lB (jy (dC (.str "+")) (jy (dC (.str "-")) jE)))))) (VJ a EY oE qR pA) 100)
    (o9 (zD (dV 1)))))
def LR(a:Ad)(pA Ae qR:lX)(b:Nat):lF:=(j5 (pD (mL a.Tokens "begin_part" pA [] (zV 0) jW))
    (j5 (mR 1 (zZ Ae (jQ (zV 0) jW)))
    (j5 (mR 2 (mL a.Tokens "take" qR [] (zV 0) jW))
    (j5 (nZ (zB (b1 tB (d2 Gx (dV 2) (dA lB (jy (dC (.str "<")) (jy (dC (.str "=")) jE)))))) (λρ S=>leave ((λρ=>toS ((jy (dC (.int 1)) jE) ρ) λds=>.ex a.NoText ["row"] ds) (nQ ρ)) S) pP)
    (o9 (zF lB (jQ (zD (dV 2)) (jQ (zD (dV 1)) (jQ (zZ Ae (jQ (zV 0) jW)) jW)))))))))
def Mf(a:Ad)(oE qg pA xX CT CQ CV Qg:lX)(b:Nat):lF:=(j5 (nZ (qK tB (z2 mV (mL a.Tokens "ahead" oE [(.int 0)] (zV 0) jW) (zD (dC (.str "not"))))) (j5 (pD (mL a.Tokens "expect" qg [] (zV 0) (jQ (zD (dC (.str "not"))) jW)))
    (j5 (pD (mL a.Tokens "begin_part" pA [] (zV 0) jW))
    (o9 (zF lB (jQ (zD (dC (.str "not"))) (jQ (zZ xX (jQ (zV 0) jW)) jW)))))) pP)
    (j5 (nZ (qK tB (z2 mV (mL a.Tokens "ahead" oE [(.int 0)] (zV 0) jW) (zD (dC (.str "["))))) (j5 (pD (mL a.Tokens "enter" CT [] (zV 0) (jQ (zD (dC (.str "["))) jW)))
    (j5 (mR 1 (zZ CQ (jQ (zV 0) jW)))
    (j5 (pD (mL a.Tokens "leave" CV [] (zV 0) (jQ (zD (dC (.str "]"))) jW)))
    (o9 (zD (dV 1)))))) pP)
    (o9 (zZ Qg (jQ (zV 0) jW)))))
def acZ(a:Ad)(xX oE qg pA:lX):lF:=(j5 (pD (mL a.Tokens "expect" qg [] (zV 0) (jQ (zD (dC (.str "and"))) jW)))
    (j5 (pD (mL a.Tokens "begin_part" pA [] (zV 0) jW))
    (mR 1 (zF lB (jQ (zD (dC (.str "and"))) (jQ (zD (dV 1)) (jQ (zZ xX (jQ (zV 0) jW)) jW)))))))
def LK(a:Ad)(xX oE qg pA:lX)(b:Nat):lF:=(j5 (mR 1 (zZ xX (jQ (zV 0) jW)))
    (j5 (uB (qK tB (z2 mV (mL a.Tokens "ahead" oE [(.int 0)] (zV 0) jW) (zD (dC (.str "and"))))) (acZ a xX oE qg pA) 100)
    (o9 (zD (dV 1)))))
def ac0(a:Ad)(Ez oE qg pA:lX):lF:=(j5 (pD (mL a.Tokens "expect" qg [] (zV 0) (jQ (zD (dC (.str "or"))) jW)))
    (j5 (pD (mL a.Tokens "begin_part" pA [] (zV 0) jW))
    (mR 1 (zF lB (jQ (zD (dC (.str "or"))) (jQ (zD (dV 1)) (jQ (zZ Ez (jQ (zV 0) jW)) jW)))))))
def Mg(a:Ad)(Ez oE qg pA:lX)(b:Nat):lF:=(j5 (mR 1 (zZ Ez (jQ (zV 0) jW)))
    (j5 (uB (qK tB (z2 mV (mL a.Tokens "ahead" oE [(.int 0)] (zV 0) jW) (zD (dC (.str "or"))))) (ac0 a Ez oE qg pA) 100)
    (o9 (zD (dV 1)))))
def Ml(a:Ad)(CQ Qj:lX)(b:Nat):lF:=(j5 (mR 1 (zZ CQ (jQ (zV 0) jW)))
    (j5 (pD (mL a.Tokens "expect_end" Qj [] (zV 0) jW))
    (o9 (zD (dV 1)))))
def Ma(a:Ad)(Qi Qh:lX)(b:Nat):lF:=(o9<|zZ Qh<|jQ (Kg a.Tokens Qi<|jQ (zD<|dV 0) jW) jW)
end WR
namespace WC
open PySem L2 P2 WP
def VH(a:Ad):lG:=(j6 (lR 4 (d2 o6 (dV 2) (dV 3)))
    (j6 (lR 2 (dV 3))
    (lR 3 (dV 4))))
def Rg(a:Ad):lG:=(j6 (lR 2 (dV 0))
    (j6 (lR 3 (dV 1))
    (j6 (yI (b1 tB (d2 oV (dV 3) (dC (.int 0)))) (VH a) Qq)
    (lM (dA lB (jy (d2 pK (dV 0) (dV 2)) (jy (d2 pK (dV 1) (dV 2)) jE)))))))
def IV(a:Ad)(Ks:jO):lG:=(j6 (mZ (b1 tB (d2 mV (d2 o6 (dV 0) (dC (.int 3))) (dC (.int 0)))) (lM (dA lB (jy (d2 o6 (d2 pK (dV 0) (dC (.int 3))) (dC (.int 9))) (jy (dC (.int 1)) jE)))) nA)
    (j6 (mZ (b1 tB (d2 mV (d2 o6 (dV 0) (dC (.int 3))) (dC (.int 1)))) (lM (dA Ks (jy (d2 o6 (d2 pK (dV 0) (dC (.int 3))) (dC (.int 12))) (jy (d2 jT (dC (.int 1)) (d2 o6 (d2 pK (dV 0) (dC (.int 36))) (dC (.int 7)))) jE)))) nA)
    (lM (dA Ks (jy (d2 o6 (d2 pK (dV 0) (dC (.int 3))) (d2 Z9 (dC (.int 10)) (dC (.int 9)))) (jy (d2 jT (dC (.int 1)) (d2 o6 (d2 uz (dV 0) (dC (.int 48271))) (dC (.int 999983)))) jE))))))
def Rh(a:Ad):lG:=(j6 (lR 2 (d2 jT (dC (.int 1)) (d2 o6 (dV 0) (dC (.int 8)))))
    (j6 (lR 3 (d2 o6 (d2 pK (dV 0) (dC (.int 8))) (dV 2)))
    (lM (d2 jT (d2 jT (d2 uz (dC (.str "q")) (dV 3)) (d2 jR (dC (.str "zbxk")) (d2 o6 (dV 1) (dC (.int 4))))) (d2 uz (dC (.str "q")) (d2 vm (d2 vm (dV 2) (dC (.int 1))) (dV 3)))))))
def Rn(a:Ad):lG:=(j6 (lR 1 (dA yE (jy (d2 jR (dV 0) (dC (.int 0))) jE)))
    (j6 (mZ (b1 tB (d2 oV (d2 jR (dV 0) (dC (.int 1))) (dC (.int 1)))) (lR 1 (d2 jT (d2 jT (dV 1) (dC (.str "/"))) (dA yE (jy (d2 jR (dV 0) (dC (.int 1))) jE)))) nA)
    (lM (dV 1))))
def FZ(a:Ad)(Cu Cy Pu:jO):lG:=(j6 (lR 2 (d2 o6 (dV 1) (dC (.int 8))))
    (j6 (lR 3 (d2 jT (dC (.int 1)) (d2 o6 (d2 pK (dV 1) (dC (.int 8))) (dC (.int 9)))))
    (j6 (mZ (b1 tB (d2 v5 (dV 2) (dC (.int 2)))) (j6 (lR 4 (dA Cu (jy (d2 pK (dV 1) (dC (.int 8))) jE)))
    (lM (dA lB (jy (dA lB (jy (dC (.str "num")) (jy (dV 4) jE))) (jy (dA Cy (jy (dV 4) jE)) (jy (dC (.int 3)) jE)))))) nA)
    (j6 (mZ (b1 tB (d2 mV (dV 2) (dC (.int 2)))) (lM (dA lB (jy (dA lB (jy (dC (.str "here")) jE)) (jy (dC (.str "here")) (jy (dC (.int 3)) jE))))) nA)
    (j6 (mZ (b1 tB (d2 mV (dV 2) (dC (.int 7)))) (j6 (lR 5 (dA Pu (jy (dV 0) (jy (d2 pK (dV 1) (dC (.int 8))) jE))))
    (lM (dA lB (jy (dA lB (jy (dC (.str "at")) (jy (dV 5) jE))) (jy (d2 jT (dC (.str "at ")) (dV 5)) (jy (dC (.int 3)) jE)))))) nA)
    (j6 (lR 6 (d2 jR (rO (λρ=>((jy (dC (.str "back")) (jy (dC (.str "on")) (jy (dC (.str "ago")) (jy (dC (.str "until")) jE)))) ρ).bind tD)) (d2 vm (dV 2) (dC (.int 3)))))
    (lM (dA lB (jy (dA lB (jy (dV 6) (jy (dV 3) jE))) (jy (d2 jT (d2 jT (dV 6) (dC (.str " "))) (dA yE (jy (dV 3) jE))) (jy (dC (.int 3)) jE)))))))))))
def Rk(a:Ad):lG:=(j6 (mZ (b1 tB (d2 v5 (d2 jR (dV 0) (dC (.int 2))) (dV 1))) (lM (d2 jT (d2 jT (d2 jR (dV 2) (dC (.int 0))) (d2 jR (dV 0) (dC (.int 1)))) (d2 jR (dV 2) (dC (.int 1))))) nA)
    (lM (d2 jR (dV 0) (dC (.int 1)))))
def Rq(a:Ad)(uq:jO):lG:=(j6 (lR 3 (d2 jT (d2 jT (d2 jT (d2 jT (dA uq (jy (dV 0) (jy (dC (.int 1)) (jy (dC (.str "()")) jE)))) (dC (.str " "))) (dV 2)) (dC (.str " "))) (dA uq (jy (dV 1) (jy (dC (.int 2)) (jy (dC (.str "()")) jE))))))
    (lM (dA lB (jy (dA lB (jy (dV 2) (jy (d2 jR (dV 0) (dC (.int 0))) (jy (d2 jR (dV 1) (dC (.int 0))) jE)))) (jy (dV 3) (jy (dC (.int 1)) jE))))))
def LC(a:Ad)(Cu Cy uq:jO):lG:=(j6 (mZ (b1 tB (d2 mV (d2 o6 (dV 1) (dC (.int 2))) (dC (.int 0)))) (lM (dA lB (jy (dA lB (jy (dC (.str "abs")) (jy (d2 jR (dV 0) (dC (.int 0))) jE))) (jy (d2 jT (d2 jT (dC (.str "abs(")) (d2 jR (dV 0) (dC (.int 1)))) (dC (.str ")"))) (jy (dC (.int 3)) jE))))) nA)
    (j6 (lR 2 (dA Cu (jy (d2 pK (dV 1) (dC (.int 2))) jE)))
    (lM (dA lB (jy (dA lB (jy (dC (.str "times")) (jy (dV 2) (jy (d2 jR (dV 0) (dC (.int 0))) jE)))) (jy (d2 jT (d2 jT (dA Cy (jy (dV 2) jE)) (dC (.str " * "))) (dA uq (jy (dV 0) (jy (dC (.int 3)) (jy (dC (.str "()")) jE))))) (jy (dC (.int 2)) jE)))))))
def Q9(a:Ad):lG:=(lM<|dA lB<|jy (dA lB<|jy (dV 2)<|jy (d2 jR (dV 0)<|dC<|.int 0)<|jy (d2 jR (dV 1)<|dC<|.int 0) jE)<|jy (d2 jT (d2 jT (d2 jT (d2 jT (d2 jR (dV 0)<|dC<|.int 1)<|dC<|.str " ")<|dV 2)<|dC<|.str " ")<|d2 jR (dV 1)<|dC<|.int 1)<|jy (dC<|.int 4) jE)
def Rf(a:Ad)(uq:jO):lG:=(j6 (lR 3 (d2 jT (dC (.int 1)) (dA Gp (jy (d2 mV (dV 2) (dC (.str "and"))) jE))))
    (j6 (lR 4 (d2 jT (d2 jT (d2 jT (d2 jT (dA uq (jy (dV 0) (jy (dV 3) (jy (dC (.str "[]")) jE)))) (dC (.str " "))) (dV 2)) (dC (.str " "))) (dA uq (jy (dV 1) (jy (d2 jT (dV 3) (dC (.int 1))) (jy (dC (.str "[]")) jE))))))
    (lM (dA lB (jy (dA lB (jy (dV 2) (jy (d2 jR (dV 0) (dC (.int 0))) (jy (d2 jR (dV 1) (dC (.int 0))) jE)))) (jy (dV 4) (jy (dV 3) jE)))))))
def Rb(a:Ad)(uq:jO):lG:=(lM<|dA lB<|jy (dA lB<|jy (dC<|.str "not")<|jy (d2 jR (dV 0)<|dC<|.int 0) jE)<|jy (d2 jT (dC<|.str "not ")<|dA uq<|jy (dV 0)<|jy (dC<|.int 3)<|jy (dC<|.str "[]") jE)<|jy (dC<|.int 3) jE)
def Rm(a:Ad):lG:=(j6 (lR 2 (d2 jT (dV 1) (d2 pK (d2 jT (dV 0) (dC (.int 1))) (dC (.int 2)))))
    (lM (d2 jT (d2 jT (d2 jT (d2 pK (d2 jT (dV 0) (dC (.int 1))) (dC (.int 2))) (d2 o6 (dV 0) (dC (.int 2)))) (dA v7 (jy (dC (.int 0)) (jy (d2 vm (dV 2) (dC (.int 1))) jE)))) (d2 uz (dC (.int 3)) (dA Gp (jy (d2 mV (dV 2) (dC (.int 0))) jE))))))
def Ro(a:Ad)(Py Px xj Pn xm Pq:jO)(b:Nat):lF:=(j5 (mR 3 (pX (zV 0) (dC (.str "terms"))))
    (j5 (mR 4 (pX (zV 0) (dC (.str "conds"))))
    (j5 (mR 5 (zD (d2 o6 (dV 1) (dC (.int 16)))))
    (j5 (nZ (pQ (xY (b1 tB (d2 mQ (dV 5) (dA lB (jy (dC (.int 6)) (jy (dC (.int 7)) jE))))) (b1 tB (d2 oV (dA lY (jy (dV 3) jE)) (dC (.int 1)))))) (j5 (mR 6 (sr 3))
    (rF 3 (zF Py (jQ (sr 3) (jQ (zD (dV 6)) (jQ (zD (d2 jR (rO (λρ=>((jy (dC (.str "+")) (jy (dC (.str "-")) jE)) ρ).bind tD)) (d2 vm (dV 5) (dC (.int 6))))) jW)))))) (nZ (BW (zB (b1 tB (d2 mQ (dV 5) (dA lB (jy (dC (.int 8)) (jy (dC (.int 9)) jE)))))) (BW (pQ (b1 tB (d2 oV (dA lY (jy (dV 3) jE)) (dC (.int 0))))) (qK tB (z2 v5 (pX (zV 0) (dC (.str "over"))) (zD (dC (.int 3))))))) (j5 (rF 3 (zF Px (jQ (sr 3) (jQ (zD (d2 pK (dV 1) (dC (.int 16)))) jW))))
    (BR (zV 0) (dC (.str "over")) (z2 jT (pX (zV 0) (dC (.str "over"))) (zD (dC (.int 1)))))) (nZ (pQ (xY (b1 tB (d2 mQ (dV 5) (dA lB (jy (dC (.int 10)) (jy (dC (.int 11)) jE))))) (b1 tB (d2 oV (dA lY (jy (dV 3) jE)) (dC (.int 1)))))) (j5 (mR 6 (sr 3))
    (rF 4 (zF xj (jQ (sr 3) (jQ (zD (dV 6)) (jQ (zD (d2 jR (rO (λρ=>((jy (dC (.str "<")) (jy (dC (.str "=")) jE)) ρ).bind tD)) (d2 vm (dV 5) (dC (.int 10))))) jW)))))) (nZ (pQ (xY (b1 tB (d2 mV (dV 5) (dC (.int 12)))) (b1 tB (d2 oV (dA lY (jy (dV 4) jE)) (dC (.int 0)))))) (rF 4 (zF Pn (jQ (sr 4) jW))) (nZ (pQ (xY (b1 tB (d2 mQ (dV 5) (dA lB (jy (dC (.int 13)) (jy (dC (.int 14)) jE))))) (b1 tB (d2 oV (dA lY (jy (dV 4) jE)) (dC (.int 1)))))) (j5 (mR 6 (sr 4))
    (rF 4 (zF xm (jQ (sr 4) (jQ (zD (dV 6)) (jQ (zD (d2 jR (rO (λρ=>((jy (dC (.str "and")) (jy (dC (.str "or")) jE)) ρ).bind tD)) (d2 vm (dV 5) (dC (.int 13))))) jW)))))) (rF 3 (zD (dA Pq (jy (dV 2) (jy (d2 pK (dV 1) (dC (.int 16))) jE))))))))))
    (BR (zV 0) (dC (.str "parts")) (z2 jT (pX (zV 0) (dC (.str "parts"))) (zD (dC (.int 1)))))))))
def HD(a:Ad)(xj xm:jO):lF:=(j5 (mR 5 (sr 2))
    (rF 3 (zF xj (jQ (sr 2) (jQ (zD (dV 5)) (jQ (zD (dC (.str "<"))) jW))))))
def HH(a:Ad)(xj xm:jO):lF:=(j5 (mR 5 (sr 3))
    (rF 3 (zF xm (jQ (sr 3) (jQ (zD (dV 5)) (jQ (zD (dV 1)) jW))))))
def Rc(a:Ad)(xj xm:jO)(b:Nat):lF:=(j5 (mR 2 (pX (zV 0) (dC (.str "terms"))))
    (j5 (mR 3 (pX (zV 0) (dC (.str "conds"))))
    (j5 (mR 4 (zD (dA lB (jy (dA lB (jy (dC (.str "here")) jE)) (jy (dC (.str "here")) (jy (dC (.int 3)) jE))))))
    (j5 (nZ (pQ (b1 tB (d2 mV (d2 jT (dA lY (jy (dV 2) jE)) (dA lY (jy (dV 3) jE))) (dC (.int 0))))) (rF 2 (zD (dV 4))) pP)
    (j5 (nZ (pQ (b1 tB (d2 mV (d2 o6 (dA lY (jy (dV 2) jE)) (dC (.int 2))) (dC (.int 1))))) (rF 2 (zD (dV 4))) pP)
    (j5 (uB (pQ (b1 tB (d2 oV (dA lY (jy (dV 2) jE)) (dC (.int 0))))) (HD a xj xm) 100)
    (j5 (uB (pQ (b1 tB (d2 oV (dA lY (jy (dV 3) jE)) (dC (.int 1))))) (HH a xj xm) 100)
    (o9 (zR (d2 jR (dV 3) (dC (.int 0))))))))))))
def Ah(a:Ad)(Eo:jO)(Hv Hu:lX):lF:=(j5 (mR 5 (Ek (pX (zV 3) (dC (.str "conds")))))
    (j5 (mR 6 (zF v7 (jQ (zF Eo (jQ (Ek (pX (zV 3) (dC (.str "terms")))) (jQ (zD (dV 5)) jW))) (jQ (zF Eo (jQ (z2 jT (Ek (pX (zV 3) (dC (.str "terms")))) (zD (dC (.int 1)))) (jQ (zD (dV 5)) jW))) jW))))
    (j5 (nZ (qK tB (z2 oV (z2 jT (z2 jT (pX (zV 3) (dC (.str "parts"))) (zD (dC (.int 1)))) (zD (dV 6))) (zD (dC (.int 30))))) pq.bk pP)
    (pD (zZ Hv (jQ (zV 3) (jQ (zD (dV 4)) (jQ (zD (dV 0)) jW))))))))
def Ra(a:Ad)(Eo:jO)(Hv Hu:lX)(b:Nat):lF:=(j5 (mR 3 (ab6 [.inr "terms",.inr "conds",.inr "parts",.inr "over"] (jQ (BZ (λρ=>(jE ρ).bind tD)) (jQ (BZ (λρ=>(jE ρ).bind tD)) (jQ (zD (dC (.int 0))) (jQ (zD (dC (.int 0))) jW))))))
    (j5 (Kf (λρ=>((dV 1) ρ).bind sX) (hV 4) (Ah a Eo Hv Hu))
    (o9 (zZ Hu (jQ (zV 3) (jQ (zD (dV 2)) jW))))))
end WC
namespace P2
open PySem L2 PySem.Spec PySem.Calls
open PyProof.Rows hiding St
def amH{w}{K:W.Frag}{k}{s₁:Shared}{vs:List Value}
 (KX:K.In s₁.heap)(hns:s₁.heap.Ns mainGlobals mg)(hb:s₁.heap.Ns builtinsNs mb)(hbb:∀x:Str,x≠"__name__"->mb x=bootBuiltins x)(hlim:s₁.heap.NoLimit)(hg:s₁.gens=#[])
 (ha:s₁.heap.get? a=some {cls:=.type "list",data:=.seq vs.toArray})(hi:IntsAre vs ns)(hl:ns.length<=sizeLine)(hr:n6 k callerA)(hT:∀t∈ue K,W.CodeHd s₁.heap t.2.1 t.2.2/\s₁.heap.get? t.2.2=some (W.tabObj #[]))(hN:W.noTabs K=true)
 (hB:BM mg s₁.heap)
 (F:∀base:Heap,K.In base->base.Ns mainGlobals mg->BM mg base->jZ P w K mg base CX k fa fd [x] sp)(hbind:∀s u,BindsTo s fd ⟨[u],[]⟩ [(x,u)])
 (hsp:∀H:Hp,tY K H->sE K H a (ns.map V.int)->sp [.ref a] H (λv _=>v=.bl true) λ_ _ _=>False)
 (hCX:∀H e s',CX [] H s₁ (λ_ _ _=>False) e s'->False):
   codeAny (model P w) callerA (.call (.ref fa) ⟨[.ref a],[]⟩) (λr s'=>r=.ok (.ret<|.bool true)/\OldK s₁.heap s'.heap/\s'.os=s₁.os/\AllBare s'.gens) s₁:=by
  have rv:=ain hi;have amI:=hi.length;have na:∀t∈ue K,t.2.2≠a:=λt ht e=>by have:=(hT t ht).2;rw[e,ha]at this;cases this
  have nK:∀t∈ue K,K.lookup t.2.2=none:=λt ht=>by
   cases q:K.lookup t.2.2 with
   |none=>rfl
   |some o=>have e1:=KX _ _ q;rw[(hT t ht).2]at e1;cases e1;have h2:=List.all_eq_true.mp hN (t.2.2,W.tabObj #[]) (W.mem_of_lookupK q);exact absurd (show false=true from h2) aU
  have core:∀H:Hp,(∀b,H b=none\/(∃o xs,H b=some (.vV o<|.lst xs)/\b=a/\K.lookup a=none)\/∃t∈ue K,b=t.2.2/\H b=some (.rE #[]))->(∀t∈ue K,H t.2.2=some (.rE #[]))->sE K H a (ns.map V.int)->ph P w H s₁.heap->
   codeAny (model P w) callerA (.call (.ref fa) ⟨[.ref a],[]⟩) (λr s'=>r=.ok (.ret<|.bool true)/\OldK s₁.heap s'.heap/\s'.os=s₁.os/\AllBare s'.gens) s₁:=by
   intro H hO hTb hS hok;have VP:∀{b:Addr} {o:Obj},s₁.heap.get? b=some o->H b=none->(zJ s₁.heap H).get? b=some o:=λe n=>alC e n;have Nj:∀{b:Addr} {o:Obj} {es:Array DictEntry} {ep:Nat},s₁.heap.get? b=some o->o.data=.dict es ep->H b=none:=λ{b o es ep} e d=>by
    rcases hO b with z|⟨ob,xs,z,e',_⟩|⟨t,ht,e',z⟩;·exact z
    ·subst e';rw[ha]at e;cases e;have d':Data.seq vs.toArray _=Data.dict es ep:=d;cases d'
    ·subst e';rw[(hT t ht).2]at e;cases e;have d':Data.fields #[]=Data.dict es ep:=d;cases d'
   have S6:∀{b:Addr} {m:nO},s₁.heap.Ns b m->(zJ s₁.heap H).Ns b m:=λ{b m} ⟨o,es,ep,e,d,r⟩=>⟨o,es,ep,VP e (Nj e d),d,r⟩;have hKb:K.In (zJ s₁.heap H):=λb o e=>VP (KX b o e) (by
    rcases hO b with z|⟨ob,xs,z,e',hk⟩|⟨t,ht,e',z⟩;· exact z
    · subst e';rw[hk]at e;cases e
    · subst e';rw[nK t ht]at e;cases e)
   have hBb:BM mg (zJ s₁.heap H):=by
    obtain⟨bm,ob,b1,b2,b3,b4,b5,b6⟩:=hB;refine⟨bm,ob,b1,b2,VP b3 ?_,b4,b5,b6⟩;rcases hO bm with z|⟨o2,xs,z,e',_⟩|⟨t,ht,e',z⟩;·exact z
    ·subst e';rw[ha]at b3;cases b3;cases b6
    ·subst e';rw[(hT t ht).2]at b3;cases b3;cases b6
   have hM:Mod K mg (zJ s₁.heap H):=⟨hKb,S6 hns,⟨mb,S6 hb,hbb⟩,let⟨mc,h1,h2⟩:=hlim;⟨mc,S6 h1,h2⟩⟩;have e0:Em P w K mg (zJ s₁.heap H) callerA [] s₁ H:=⟨rfl,hM,λb o e=>an7 e,Nat.le_of_eq<|alD _ _,trivial,λb hb=>absurd (show b∈([]:List Addr)from hb)<|by simp,hok,.of_eq hg⟩;have tb:tY K H:=λt ht=>⟨#[],hTb t ht,trivial,λpos cv e=>by cases e⟩;refine fK ((F _ hKb (S6 hns) hBb).run callerA [] s₁ H ⟨[.ref a],[]⟩ [.ref a] [.ref a] _ _ hr e0 (hbind s₁<|.ref a) (.cons rfl .nil) (hsp H tb hS)) λr s' h=>?_;cases r with
   |error e=>exact(hCX H e s' h).elim
   |ok fl=>
    cases fl with
    |next=>exact False.elim h
    |brk=>exact False.elim h
    |cont=>exact False.elim h
    |ret u=>
     obtain⟨v,H',os,bare,un,aeA,r',q⟩:=h;have q':v=.bl true:=q;subst q';obtain rfl:u=Value.bool true:=r';have kept:∀b o,s₁.heap.get? b=some o->s'.heap.get? b=some o\/∃t∈ue K,b=t.2.2/\∃ps,s'.heap.get? b=some (W.tabObj ps):=λb o e=>by
      rcases hO b with z|⟨ob,xs,z,_⟩|⟨t,ht,e',z⟩;·exact .inl (un.keep b o e z (by intro y;exact absurd (show b∈([]:List Addr)from y) (by simp)) (by simp))
      ·have z2:=un.wI b ob _ z;obtain⟨e1,_⟩:=hok b _ z;obtain⟨e2,_⟩:=aeA b _ z2;rw[e]at e1;cases e1;exact .inl e2
      ·obtain⟨more,z2⟩:=un.wQ b #[] z;have e2:s'.heap.get? b=some {cls:=.none,data:=.fields<|#[]++more}:=aeA b _ z2;exact .inr ⟨t,ht,e',_,e2⟩
     refine⟨rfl,⟨λb o e=>?_,λb o e=>?_⟩,os,bare⟩
     ·rcases kept b o e with z|⟨t,ht,e',ps,z⟩;·exact .inl z
      ·subst e';have e2:=(hT t ht).2;rw[e]at e2;cases e2;exact .inr (.inl ⟨((hT t ht).1.tab (hT t ht).2).isCodeTable,rfl,#[],ps,rfl,by rw[Array.empty_append];exact z⟩)
     ·rcases kept b o e with z|⟨_,_,_,ps,z⟩;·exact⟨o,z⟩
      ·exact⟨_,z⟩
  have nz:¬∃t∈ue K,a=t.2.2:=λ⟨t,ht,e⟩=>na t ht e.symm;have rE:∀(H:Hp) (b:Addr),(∃t∈ue K,b=t.2.2)->qL P w H s₁.heap b (.rE #[]):=λH b ⟨t,ht,e⟩=>by subst e;exact(hT t ht).2
  cases hk:K.lookup a with
  |some o=>
   have e:=KX a o hk;rw[ha]at e;cases e;refine core (λb=>if(∃t∈ue K,b=t.2.2)then some (.rE #[])else none) (λb=>?_) (λt ht=>au ⟨t,ht,rfl⟩) (.inr ⟨_,vs.toArray,_,hk,rfl,rfl,rfl,by rw[aY,amI];exact hl,by simpa using rv⟩) (λb u e=>?_)
   ·by_cases z:∃t∈ue K,b=t.2.2
    ·obtain⟨t,ht,e⟩:=z;exact .inr (.inr ⟨t,ht,e,au ⟨t,ht,e⟩⟩)
    ·exact .inl (aA z)
   ·by_cases z:∃t∈ue K,b=t.2.2
    ·have e':=(au z).symm.trans e;cases e';exact rE _ b z
    ·have e':=(aA z).symm.trans e;cases e'
  |none=>
   refine core (λb=>if(∃t∈ue K,b=t.2.2)then some (.rE #[])else if b=a then some (.vV {cls:=.type "list",data:=.seq vs.toArray}<|.lst<|ns.map V.int)else none) (λb=>?_) (λt ht=>au ⟨t,ht,rfl⟩) (.inl<|.inr ⟨{cls:=.type "list",data:=.seq vs.toArray},(aA nz).trans (au rfl)⟩) (λb u e=>?_)
   ·by_cases z:∃t∈ue K,b=t.2.2
    ·obtain⟨t,ht,e⟩:=z;exact .inr (.inr ⟨t,ht,e,au ⟨t,ht,e⟩⟩)
    ·by_cases y:b=a;·exact .inr (.inl ⟨_,_,(aA z).trans (au y),y,hk⟩)
     ·exact .inl ((aA z).trans (aA y))
   ·by_cases z:∃t∈ue K,b=t.2.2
    ·have e':=(au z).symm.trans e;cases e';exact rE _ b z
    ·by_cases y:b=a
     ·have e':=((aA z).trans (au y)).symm.trans e;cases e';subst y;exact⟨ha,by rw[az];exact hl,vs,_,rv,ha⟩
     ·have e':=((aA z).trans (aA y)).symm.trans e;cases e'
def auv{K:W.Frag}(T:Top p loose avP mg mb h)(X:K.In h)(hq:(ue K).all (λt=>((recsOf p).find? λe=>e.name==t.1).isSome)=true):
    ∀t∈ue K,W.CodeHd h t.2.1 t.2.2/\h.get? t.2.2=some (W.tabObj #[]):=λt ht=>by
 have h1:=List.all_eq_true.mp hq t ht;obtain⟨d,hd⟩:=Option.isSome_iff_exists.mp h1;unfold ue at ht;obtain⟨x,_,e⟩:=List.mem_filterMap.mp ht;split at e
 ·obtain⟨q,e1,e2⟩:=Option.map_eq_some_iff.mp e;subst e2;exact W.tab_of T X hd e1
 ·cases e
end P2
namespace P2
open PySem L2
section
variable{X:Cx}{E:XK}
end
section
variable{X:Cx}{E:XK}
def anE:Ew X "str.count" (λx xs H Q=>∃i j,x=.str i/\xs=[.str j]/\Q (.int<|Txt.count i j) H):=by intro pins s σ H x xs v us Q I rx rs h;obtain⟨i,j,rfl,rfl,q⟩:=h;obtain⟨t,rfl⟩:=rx;obtain⟨u,rfl,t',rfl⟩:=vals1 rs;exact SC.count ⟨.int _,H,I.tok _,⟨_,rfl⟩,q⟩
def rn:D->jO
 |.str i,[.str j]=>.ok (.int<|Txt.count i j)
 |_,_=>.bad
def Jr:KD X E "str" "str.count" rn:=by
 refine⟨_,anE,λal H x xs d ds Q fr rx rs h=>?_⟩;unfold rn at h;split at h
 ·cases rx;obtain⟨v,rfl,q⟩:=kI.one rs;cases q;exact⟨_,_,rfl,rfl,h H (.refl H) _<|.int _⟩
 ·exact h.elim
end
end P2
namespace P2
open PySem
def aay{fs}(h:Runs M Γ p t fs s e s'):s.toks<=s'.toks:=by
 induction h with
 |fresh _ ih=>exact aJ (eU _) ih
 |call _ _ qF qW=>exact aJ qF qW
 |resumeFresh _ _ _ _ qF qW=>exact aJ qF qW
 |resumeSuspended _ _ _ _ qF qW=>exact aJ qF qW
 |segRet _ _ qF qW=>exact aJ qF qW
 |segGen _ _ qF qW=>exact aJ qF qW
 |segSuspGen _ _ _ _ qF qW=>exact aJ qF qW
 |done=>exact aB _
 |raise=>exact aB _
 |yield=>exact aB _
 |again _ _ ih=>exact ih
 |rule _ ih=>exact ih
 |«at» _ ih=>exact ih
 |load _ _ ih=>exact ih
 |update _ _ ih=>exact ih
 |loadIfAlive _ ih=>exact ih
 |point _ ih=>exact ih
 |alloc _ ih=>exact ih
 |ask _ ih=>exact ih
 |choose _ _ ih=>exact ih
 |os _ ih=>exact ih
 |handled _ ih=>exact ih
 |genState _ _ ih=>exact ih
 |stack _ ih=>exact ih
 |thread _ ih=>exact ih
 |newGen _ ih=>exact ih
 |callSusp _ ih=>exact ih
 |resumeJustStarted _ _ _ ih=>exact ih
 |resumeThrowFresh _ _ ih=>exact ih
 |resumeRunning _ _ ih=>exact ih
 |resumeFinished _ _ ih=>exact ih
 |segSuspOut _ _ ih=>exact ih
def avf{g}(h:Wakes M Γ p g r s res s'):s.toks<=s'.toks:=by
 unfold Wakes at h;cases q:s.gens[g]? with
 |none=>rw[q]at h;exact h.elim
 |some st=>
  rw[q]at h;cases st with
  |fresh c=>
   cases r with
   |send v=>cases v<;>first|(obtain⟨rfl,rfl⟩:=h;exact aB _)|(obtain⟨e1,s1,h1,_,_,rfl⟩:=h;have:=aay h1;exact this)
   |throw x=>obtain⟨rfl,rfl⟩:=h;exact aB _
  |suspended k0 l0 c0 p0 fs cl=>obtain⟨e1,s1,h1,_,_,rfl⟩:=h;have:=aay h1;exact this
  |running=>obtain⟨rfl,rfl⟩:=h;exact aB _
  |finished=>obtain⟨rfl,rfl⟩:=h;exact aB _
def wp_toks{X:Type}{M:Model}{Γ:Ctx}{n:Nat}(t:Sem X):∀{Q:X->Pos->Shared->Prop} {E:Value->Pos->Shared->Prop} {p:Pos} {s:Shared},n<=s.toks->Sem.wp M Γ t Q E p s->Sem.wp M Γ t (λa p' s'=>n<=s'.toks/\Q a p' s') (λe p' s'=>n<=s'.toks/\E e p' s') p s:=by
 induction t with
 |pure x=>exact λhn h=>⟨hn,h⟩
 |raise v=>exact λhn h=>⟨hn,h⟩
 |unsupported|finish|yield|fork|await|register=>exact λ_ h=>h
 |rule _ k ih|«at» _ k ih|loadIfAlive _ k ih|point _ k ih|ask k ih|handled _ k ih|stack k ih|thread k ih=>exact λhn h=>ih _ hn h
 |alloc _ k ih=>intro Q E p s hn h;exact ih _ (s:={s with heap:=s.heap.push _}) hn h
 |os _ _ k ih=>intro Q E p s hn h;exact ih _ (s:={s with os:=_}) hn h
 |newGen _ k ih=>intro Q E p s hn h;exact ih _ (s:={s with gens:=_}) hn h
 |fresh k ih=>intro Q E p s hn h;exact ih _ (s:={s with toks:=s.toks+1}) (aJ hn<|eU _) h
 |load a _ k ih=>exact λhn ⟨o,ho,h⟩=>⟨o,ho,ih _ hn h⟩
 |genState a k ih=>exact λhn ⟨o,ho,h⟩=>⟨o,ho,ih _ hn h⟩
 |update a _ f k ih=>intro Q E p s hn ⟨ha,h⟩;exact⟨ha,ih _ (s:={s with heap:=_}) hn h⟩
 |choose _ _ k ih=>intro Q E p s hn ⟨ha,h⟩;exact⟨ha,ih _ (s:={s with drawn:=_}) hn h⟩
 |call c h g l k ih=>exact λhn ⟨r,s',h1,h2⟩=>⟨r,s',h1,ih r (aJ hn<|aay h1) h2⟩
 |resume g r l k ih=>exact λhn ⟨res,s',hw,h⟩=>⟨res,s',hw,ih _ (aJ hn<|avf hw) h⟩
def wpAny_toks{X:Type}{M:Model}{A:Around}{t:Sem X}{Q:X->Shared->Prop}{E:mW}{s:Shared}(h:wpAny M A t Q E s):
    wpAny M A t (λa s'=>s.toks<=s'.toks/\Q a s') (λe s'=>s.toks<=s'.toks/\E e s') s:=λΓ p hΓ=>wp_toks t (aB _) (h Γ p hΓ)
end P2
set_option maxHeartbeats 400000
namespace L2
open PySem PySem.Spec PyProof.Rows
section
variable{X:Cx}{pins:List<|Addr×Obj}{σ:St}{H:Hp}{s:Shared}
def ahA{Q:Unit->Shared->Prop}(I:Inv X pins σ H s)(hN:X.N.Nodup)(hi:X.N[i]?=some x)(hk:X.env.scope.names.lookup x=some .local)(r:RelV v u)
 (h:∀s' m',Inv X pins (σ.set i<|some v) H s'->s'.heap.Ns X.env.locals m'->m' x=some u->s.toks<=s'.toks->Heap.SameBut X.env.locals s.heap s'.heap->Q () s'):wpAny M A (storeName X.env x u) Q E s:=by
  obtain⟨m,hn,hl⟩:=id I.loc;have Xm:(X.env.scope.kind==.class||(X.env.scope.kind==.module&&X.env.locals !=X.env.globals))=false:=by rw[I.ok.kind];rfl
  have RL:i<σ.length:=by rw[I.len];exact(List.getElem?_eq_some_iff.mp hi).1
  have ye:=I.ye;have tracked:∀{a:Addr} {h':Heap},(∃o,s.heap.get? a=some o/\H a=none)->Heap.SameBut a s.heap h'->ph X.prog X.w H h':=λ{a h'} ha hs b ob e=>by
   obtain⟨_,_,hfree⟩:=ha;refine(I.hok b ob e).Bx (λc w' hc q=>(hs.2 c ?_).trans q) (λ_ q=>q) λ_ _ q=>q
   rintro rfl
   rcases hc with rfl|hc;·rw[hfree]at e;cases e
   ·rw[hfree]at hc;cases hc
  refine wpAny_storeName_local hk hn (λh' Dn hs=>?_) Xm;obtain⟨oL,_,_,Xy,_⟩:=id hn;refine h _ _ ⟨I.ok,I.os,I.bare,⟨λb o e n hb hx=>?_,λb o e n hb hx=>?_,I.base.free,λb o e hx=>?_,I.base.tups,I.base.wI,I.base.wQ⟩,⟨_,Dn,λj y v' e1 e2 e3=>?_⟩,λy c e=>?_,I.free,I.xu,λp hp=>?_,tracked ⟨oL,Xy,I.free⟩ hs,by simpa using I.len⟩ Dn (by simp) (eU _) hs;·exact(hs.2 b<|bO<|aG (Heap.lt_size e) I.ok.above).trans (I.base.keep b o e n hb hx)
  ·obtain⟨sl,e1⟩:=I.base.slot b o e n hb hx;exact⟨sl,(hs.2 b<|bO<|aG (Heap.lt_size e) I.ok.above).trans e1⟩
  ·obtain⟨o',e1⟩:=I.base.there b o e hx;exact⟨o',(hs.2 b<|bO<|aG (Heap.lt_size e) I.ok.above).trans e1⟩
  ·by_cases hj:j=i
   ·subst hj;rw[hi]at e1;cases e1;rw[aX RL]at e2;cases e2;exact⟨u,r,.inl ⟨hk,by simp⟩⟩
   ·rw[aQ<|cY hj]at e2;obtain⟨u',r',q⟩:=hl j y v' e1 e2 e3;refine⟨u',r',?_⟩;rcases q with⟨k,e⟩|⟨k,c,e,z⟩
    ·refine .inl ⟨k,?_⟩;have:y≠x:=λe=>hj (YB hN e1<|e▸hi);simp[this,e]
    ·exact .inr ⟨k,c,e,z.sameBut hs<|ye y c e⟩
  ·obtain⟨w',z⟩:=I.cell y c e;exact⟨w',z.sameBut hs<|ye y c e⟩
  ·obtain⟨e,n,ne,nf,d⟩:=I.pin p hp;exact⟨(hs.2 p.1 ne).trans e,n,ne,nf,d⟩
def acS{w}{s:Shared}{x y:Str}{Q:mW}(hx:(x.length==0)=false)(hy:(y.length==0)=false)(hl:(x++y).length<=sizeLine)(h:Q (.str (x++y) s.toks) {s with toks:=s.toks+1}):
    wpAny (model prog w) A (binaryOp .Add (.str x t)<|.str y u) Q E s:=by
 refine P.add_str ?_;rw[hx,hy];exact⟨hl,h⟩
end
def Bt(p q:Str):List Nat->Str->Option Str
 |[],x=>some x
 |c::r,x=>if x.length<=1000000 then Bt p q r (Txt.replace x (p++⟨#[c]⟩++q) ⟨#[c]⟩)else none
section
variable{X:Cx}
def atQ(iS iT:Nat)(p q txt:Str):TS:=λD σ H=>∃x z,σ[iT]?=some (some<|.str x)/\Bt p q txt.cps.toList x=some z/\∀c,txt.cps.toList.getLast?=some c->D.nx ((σ.set iS<|some<|.str ⟨#[c]⟩).set iT (some<|.str z)) H
def aqk{p q txt:Str}{qs:Pos}{pos}(hc:X.calm=true)(hN:X.N.Nodup)(RK:X.N[iS]?=some S)(hiT:X.N[iT]?=some T)
 (hkS:X.env.scope.names.lookup S=some .local)(Je:X.env.scope.names.lookup T=some .local)(hne:iS≠iT)
 (hp1:(p.length==0)=false)(hq1:(q.length==0)=false)(hpl:p.length+1+q.length<=1000)(hasc:txt.cps.all (· <128)=true)(hnil:txt.cps.toList≠[])
 (hdS:(S==("__debug__":Str))=false)(hdT:(T==("__debug__":Str))=false)
 (hs:∀x,foldedSetIterable (.Constant (.str txt) j0 p0) X.env x=pure x:=by intro _;rfl)
 (hsw:swapsWith (.Call (.Attribute (.Name T p1) "replace" p2) [.BinOp (.BinOp (.Constant (.str p) j1 p3) .Add (.Name S p4) p5) .Add (.Constant (.str q) j2 p6) p7,.Name S p8] [] p9) (some<|.Name T Tq) qs.line X.env=pure false:=by rfl)
 (hbase:attributeBase (.Name T p1) "replace" X.env (eval (.Name T p1) X.env)=eval (.Name T p1) X.env:=by rfl)(hline:(p2.endLine==p9.line)=true:=by rfl):
   PS X (.For (.Name S pos) (.Constant (.str txt) j0 p0) [.Assign [.Name T Tq] (.Call (.Attribute (.Name T p1) "replace" p2) [.BinOp (.BinOp (.Constant (.str p) j1 p3) .Add (.Name S p4) p5) .Add (.Constant (.str q) j2 p6) p7,.Name S p8] [] p9) qs] [] pos') (atQ iS iT p q txt):=by
  intro pins s σ H D I h;obtain⟨x0,z0,hx0,hz0,alA⟩:=h;have avK:iS<σ.length:=by rw[I.len];exact(List.getElem?_eq_some_iff.mp RK).1
  have alB:iT<σ.length:=by rw[I.len];exact(List.getElem?_eq_some_iff.mp hiT).1
  refine wpAny_For (fG ?_) hs;have I1:Inv X pins σ H {s with toks:=s.toks+1}:=I.tok _;refine wpAny_pyIter_ascii hasc ?_;have fp:Aa X pins H s.heap.objs.size:=I1.Lq (aB _) (I1.hok.fresh<|aB _);obtain⟨f0,f1,f2,f3,f4,f5⟩:=fp;have I2:=I1.kept (t':=s.toks+1) (h':=s.heap.push {cls:=.type "str_ascii_iterator",data:=.fields #[.str txt s.toks,.int 0 0]}) λb o e=>aF _ e;generalize hit:s.heap.objs.size=it at*;generalize htk:s.toks=tk at*
  refine codeAny_forLoop_any (λn s'=>∃i σ' x,Inv X pins σ' H s'/\s'.heap.IsStrIter it "str_ascii_iterator" txt tk i/\i+n=txt.cps.size/\0<s'.toks/\σ'[iT]?=some (some (.str x))/\Bt p q (txt.cps.toList.drop i) x=some z0/\
   (∀c y,(σ'.set iS c).set iT y=(σ.set iS c).set iT y)/\(i=0\/∃c,txt.cps.toList[i - 1]?=some c/\σ'=(σ.set iS (some (.str ⟨#[c]⟩))).set iT (some (.str x)))) ?_ txt.cps.size ⟨0,σ,x0,I2,⟨_,by rw[<-hit];exact bC _ rfl,rfl,rfl⟩,by omega,Nat.succ_pos _,hx0,by simpa using hz0,λ_ _=>rfl,.inl rfl⟩
  rintro n s3 ⟨i,uC,x,I3,Ha,hin,htp,hxT,RV,hσ,alz⟩
  by_cases Bd:i<txt.cps.size
  ·have hci:txt.cps[i]?=some txt.cps[i]:=by simp[Bd]
   have hcl:txt.cps.toList[i]?=some txt.cps[i]:=by simp[Bd]
   generalize RD:txt.cps[i]=c at*;refine wpAny_pyNext_ascii_item Ha (c:=c) hci λh' uR sb=>?_;have I4:Inv X pins uC H {s3 with heap:=h',toks:=s3.toks+1}:=I3.turned (λb o hb e=>(sb.2 b hb).trans e) f0 f1 f3 f4 f5;dsimp only;obtain⟨oi,ei,ci,di⟩:=id uR;refine I8 (s:={s3 with heap:=h',toks:=s3.toks+1}) ei ci di (by decide) ?_;refine wpAny_assign_Name (ahA I4 hN RK hkS (v:=.str ⟨#[c]⟩) ⟨_,rfl⟩ λs5 m5 I5 hn5 hm5 ht5 hs5=>?_);have avN:s3.toks+1<=s5.toks:=ht5;refine fX ?_;refine ir ?_ hsw
   have Ry:(uC.set iS<|some<|V.str ⟨#[c]⟩)[iT]?=some (some<|.str x):=by rw[aQ hne];exact hxT
   obtain⟨m6,hn6,hl6⟩:=id I5.loc;obtain⟨uT,rT,lk⟩:=hl6 iT T _ hiT Ry (.inl Je);obtain⟨tT,rfl⟩:=rT;have hmT:m6 T=some (.str x tT):=by
    rcases lk with⟨_,z⟩|⟨z,_⟩;·exact z
    ·rcases z with z|z<;>(rw[show X.env.kindOf T=some .local from Je]at z;cases z)
   refine wpAny_Call_method_late hbase rfl hline rfl (iH (gj I5.ok.kind Je hn6 hmT ?_) hdT)
   have ldS:∀{k:Nat} {ps:Pos} {E:mW} {Q:mW},Q (.str ⟨#[c]⟩ s3.toks) {s5 with toks:=k}->wpAny (model X.prog X.w) X.A (eval (.Name S ps) X.env) Q E {s5 with toks:=k}:=λ{k ps E Q} hq=>iH (gj (s:={s5 with toks:=k}) I5.ok.kind hkS hn5 hm5 hq) hdS
   refine⟨"str","str.replace",bB,PySem.F.slot_str_replace,PySem.F.type_str_replace,fY _ _ _,(λa e=>nomatch e),?_⟩;refine fL rfl (Calls.evalArgs_plain ?_);show wpAny _ _ (spliced [(false,eval (.BinOp (.BinOp (.Constant (.str p) j1 p3) .Add (.Name S p4) p5) .Add (.Constant (.str q) j2 p6) p7) X.env),(false,eval (.Name S p8) X.env)]) _ _ _;refine gU ?_;have l1:((⟨#[c]⟩:Str).length==0)=false:=rfl;have lc:(⟨#[c]⟩:Str).length=1:=rfl;have lp:(p++⟨#[c]⟩:Str).length=p.length+1:=by rw[Str.length_append,lc]
   have lpq:(p++⟨#[c]⟩++q:Str).length=p.length+1+q.length:=by rw[Str.length_append,lp]
   have sl:=cX;refine wpAny_BinOp (wpAny_BinOp<|fG<|ldS<|acS hp1 l1 (by rw[lp];omega) ?_);refine fG (acS (by rw[lp];simp) hq1 (by rw[lpq];omega) ?_);refine gU (ldS ?_);refine Calls.spliced_nil ?_;have Jg:Bt p q (c::txt.cps.toList.drop (i+1)) x=some z0:=by
    have e:=cD (l:=txt.cps.toList) (i:=i) (by simpa using Bd);have e2:txt.cps.toList[i]'(by simpa using Bd)=c:=by simpa using RD
    rw[e,e2]at RV;exact RV
   unfold Bt at Jg;by_cases MP:x.length<=1000000
   ·rw[au MP]at Jg;have lcq:(p++⟨#[c]⟩++q:Str)≠⟨#[c]⟩:=λe=>by
     have:=aV Str.length e;rw[lpq,lc]at this;have:p.length≠0:=by simpa using hp1
     omega
    obtain⟨z1,XJ⟩:∃z1,z1=Txt.replace x (p++⟨#[c]⟩++q) ⟨#[c]⟩:=⟨_,rfl⟩;rw[<-XJ]at Jg;refine bN (P2.wpAny_toks (SC.replace (Q:=λv s'=>∃t' k,v=.str z1 t'/\s'={s5 with toks:=k}) (by show s5.toks+1+1+1≠0;omega) (by show s3.toks≠0;omega) (by show s5.toks+1+1+1≠s3.toks;omega) (by simpa using lcq) (by rw[lc];omega) λt' k=>⟨t',k,by rw[XJ],rfl⟩)) (λv s' hv=>?_) (λ_ _ h=>h.2);obtain⟨Gi,t',k,rfl,rfl⟩:=hv;have hk1:s5.toks+1+1+1+1<=k:=Gi;have I6:Inv X pins (uC.set iS<|some<|V.str ⟨#[c]⟩) H {s5 with toks:=k}:=I5.tok k;clear XJ;refine ahA I6 hN hiT Je (v:=.str z1) (u:=.str z1 t') ⟨t',rfl⟩ λs7 m7 I7 hn7 hm7 ht7 hs7=>?_;refine c7 ?_;have iti:s7.heap.IsStrIter it "str_ascii_iterator" txt tk (i+1):=by obtain⟨oi,e1,e2⟩:=uR;refine⟨oi,?_,e2⟩;rw[hs7.2 it f1];show s5.heap.get? it=some oi;rw[hs5.2 it f1];exact e1
    refine⟨n - 1,by omega,i+1,_,_,I7,iti,by omega,?_,aX<|by rw[cI];rw[I3.len,<-I.len];exact alB,Jg,λc' y=>?_,.inr ⟨c,by rw[Nat.add_sub_cancel];exact hcl,hσ _ _⟩⟩
    ·have:k<=s7.toks:=ht7;omega
    ·rw[List.set_comm _ c'<|λe=>hne e.symm,List.set_set,List.set_set];exact hσ _ _
   ·rw[aA MP]at Jg;cases Jg
  ·have hi:i=txt.cps.size:=by omega
   refine wpAny_pyNext_ascii_end (I3.ok.hd hc) Ha (by simp[hi]) λh' eb=>?_;refine c7 ⟨uC,H,I3.turned (t':=s3.toks) (λb o hb e=>eb b o hb e) f0 f1 f3 f4 f5,?_⟩;rw[hi,dm<|by simp]at RV;cases RV;rcases alz with h0|⟨c,h1,h2⟩
   ·exfalso;apply hnil;rw[hi]at h0;simpa using h0
   ·rw[h2];refine alA c ?_;rw[List.getLast?_eq_getElem?,<-h1,hi];simp
end
end L2
namespace P2
open PySem L2
section
variable{X:Cx}{E:XK}
def aaz(iS iT:Nat)(p q txt:Str):lG:=λρ=>match ρ[iT]? with
 |some (.sh (.str x))=>(match Bt p q txt.cps.toList x,txt.cps.toList.getLast? with
  |some z,some c=>if iS<ρ.length then .nx ((ρ.set iS<|.sh<|.str ⟨#[c]⟩).set iT (.sh<|.str z))else .bad
  |_,_=>.bad)
 |_=>.bad
def akH(iS iT){p q txt:Str}{qs:Pos}{pos}(hc:X.calm=true)(hN:X.N.Nodup)(RK:X.N[iS]?=some S)(hiT:X.N[iT]?=some T)
 (hkS:X.env.scope.names.lookup S=some .local)(Je:X.env.scope.names.lookup T=some .local)(hne:iS≠iT)
 (hp1:(p.length==0)=false)(hq1:(q.length==0)=false)(hpl:p.length+1+q.length<=1000)(hasc:txt.cps.all (· <128)=true)(hnil:txt.cps.toList≠[])
 (hdS:(S==("__debug__":Str))=false)(hdT:(T==("__debug__":Str))=false)
 (hs:∀x,foldedSetIterable (.Constant (.str txt) j0 p0) X.env x=pure x:=by intro _;rfl)
 (hsw:swapsWith (.Call (.Attribute (.Name T p1) "replace" p2) [.BinOp (.BinOp (.Constant (.str p) j1 p3) .Add (.Name S p4) p5) .Add (.Constant (.str q) j2 p6) p7,.Name S p8] [] p9) (some<|.Name T Tq) qs.line X.env=pure false:=by rfl)
 (hbase:attributeBase (.Name T p1) "replace" X.env (eval (.Name T p1) X.env)=eval (.Name T p1) X.env:=by rfl)(hline:(p2.endLine==p9.line)=true:=by rfl):
   DS X E (.For (.Name S pos) (.Constant (.str txt) j0 p0) [.Assign [.Name T Tq] (.Call (.Attribute (.Name T p1) "replace" p2) [.BinOp (.BinOp (.Constant (.str p) j1 p3) .Add (.Name S p4) p5) .Add (.Constant (.str q) j2 p6) p7,.Name S p8] [] p9) qs] [] pos') (aaz iS iT p q txt):=by
  refine⟨_,aqk hc hN RK hiT hkS Je hne hp1 hq1 hpl hasc hnil hdS hdT hs hsw hbase hline,λP H0 al H σ ρ D s h=>?_⟩;unfold aaz at h;split at h
  ·rename_i x hx;split at h
   ·rename_i z c hz hcl;split at h
    ·rename_i Bd;obtain⟨v,e1,rv⟩:=s.sh iT _ hx;cases rv;refine⟨x,z,e1,hz,λc' Gh=>?_⟩;rw[hcl]at Gh;cases Gh;have hT:iT<ρ.length:=(List.getElem?_eq_some_iff.mp hx).1;exact h al H _ .refl ((s.set Bd (.str _)).set (by rw[cI];exact hT) (.str _))
    ·exact h.elim
   ·exact h.elim
  ·exact h.elim
end
end P2
namespace L2
open PySem PySem.Spec PyProof.Rows Fx
section
variable{X:Cx}
def aqn{vI}{mt:Addr->Prop}{pos}(hX:X.stack=X.env::X.outer)(hfr:X.env.frame=some X.env.locals)
 (hb:BX X body tb)(hs:∀ea,uH (X.vI ea).zN (b0::vI) ts)
 (hmt:∀h g d tk os e Ce oe M A E (Q:Bool->Shared->Prop),X.K.In h->mt Ce->h.get? e=some oe->oe.cls=.ref Ce->Q true ⟨h,g,d,tk,os⟩->wpAny M A (excMatches (.ref e)<|.ref C) Q E ⟨h,g,d,tk,os⟩)
 (hg:Gl X x)(hm:X.mg x=some (.ref C))(hdb:(x==("__debug__":Str))=false:=by decide):
   PS X (.Try body [.ExceptHandler (some<|.Name x np) none (b0::vI) alT] [] [] pos) (λD σ H=>tb D (λoW cls _ H1=>∃Ce,cls=.ref Ce/\mt Ce/\ts {nx:=D.nx,rt:=D.rt} oW H1) σ H):=by
  intro pins s σ H D I h;refine wpAny_Try_except (bN (hb pins s σ H D _ I h) (λfl s1 q1=>?_)<|λex s1 q1=>?_)
  ·cases fl with
   |next=>exact c7 q1
   |brk=>exact q1
   |cont=>exact q1
   |ret u=>exact q1
  ·obtain⟨oW,ea,cls,d,H1,B,rfl,fl,cl,en,na,Ce,rfl,hce,hts⟩:=q1;rw[hX]at fl;refine ad6 (outer:=X.outer) (I.ok.frames.trans<|aV some hX) hfr fl λh1 x1 u1=>Xo (s:={s1 with heap:=h1}) x1 λh2 x2 u2=>?_;obtain⟨a0,st2,_⟩:=id x2.1;have I2:Inv X pins oW H1 {s1 with heap:=h2}:=cl h2 st2 (u1.trans u2);obtain⟨⟨a1,fw⟩,_⟩:=id x2;obtain⟨ob,hob,alR⟩:=fw.there;refine wpAny_handleBy_cons (codeAny_handlers_test (Gr (X:=X.vI ea) (I2.vI ea) hg hm ?_ hdb)) (by intro z;cases z);obtain⟨hp,g,dr,tk,os⟩:=s1;refine hmt h2 g dr tk os ea Ce ob _ _ _ _ I2.o4 hce hob alR (codeAny_handlers_suite ?_);refine ak6 (s:=⟨h2,g,dr,tk,os⟩) x2 λh3 x3 u3=>?_;obtain⟨a3,Ha,_⟩:=id x3.1;have I3:Inv X pins oW H1 ⟨h3,g,dr,tk,os⟩:=cl h3 Ha ((u1.trans u2).trans u3);refine bN (hs ea pins ⟨h3,g,dr,tk,os⟩ oW H1 {nx:=D.nx,rt:=D.rt} ((I3.vI ea).xN _) hts) (λf s4 q4=>?_) (λ_ _ z=>z.elim);have q5:=SP.J2 I.ok q4;cases f with
   |next=>exact q5
   |brk=>obtain⟨_,_,_,z⟩:=q5;exact z.elim
   |cont=>obtain⟨_,_,_,z⟩:=q5;exact z.elim
   |ret u=>exact q5
end
end L2
namespace P2
open PySem L2
section
variable{X:Cx}{E:XK}
def ado:RT->RT
 |.nx ρ=>.nx ρ
 |.rt d=>.rt d
 |_=>.bad
def Oi(mt:Addr->Bool)(f:Ev->R Ev)(g:lG):lG:=λρ=>match f ρ with
 |.ok mO=>.nx mO
 |.ex c _ _=>if mt c=true then ado (g ρ)else .bad
 |.bad=>.bad
def akK{vI g pos}(mt:Addr->Bool)(hX:X.stack=X.env::X.outer)(hfr:X.env.frame=some X.env.locals)
 (hb:DB X body fb)(hs:∀ea,yO (X.vI ea).zN (λ_ _ _=>False) (b0::vI) g)
 (hmt:∀h g d tk os e Ce oe M A E (Q:Bool->Shared->Prop),X.K.In h->mt Ce=true->h.get? e=some oe->oe.cls=.ref Ce->Q true ⟨h,g,d,tk,os⟩->wpAny M A (excMatches (.ref e)<|.ref C) Q E ⟨h,g,d,tk,os⟩)
 (hg:Gl X x)(hm:X.mg x=some (.ref C))(hdb:(x==("__debug__":Str))=false:=by decide):
   DS X E (.Try body [.ExceptHandler (some<|.Name x np) none (b0::vI) alT] [] [] pos) (Oi mt fb g):=by
  obtain⟨tb,pb,rb⟩:=hb;refine⟨_,aqn (mt:=λc=>mt c=true) (ts:=λD σ H=>∃P H0 al ρ,RS X.K P H0 al H σ ρ/\qw X.K P H0 (λ_ _ _=>False) D al H (g ρ)) hX hfr pb (λea=>?_) hmt hg hm hdb,λP H0 al H σ ρ D s h=>?_⟩
  ·obtain⟨t,p,r⟩:=hs ea;intro pins s1 oW H1 D1 I1 h1;obtain⟨P,H0,al,ρ,s,h⟩:=h1;exact p pins s1 oW H1 D1 I1 (r P H0 al H1 oW ρ D1 s h)
  ·refine rb _ _ _ _ _ _ _ _ s ?_;unfold Oi at h;cases q:fb ρ with
   |bad=>rw[q]at h;exact h.elim
   |ok mO=>rw[q]at h;exact λH1 s1 σ' s'=>h al H1 σ' (.of s1) s'
   |ex c ns ds=>
    rw[q]at h;intro dx H1 s1 xr;dsimp only at h;by_cases z:mt c=true
    ·rw[au z]at h;refine⟨c,rfl,z,P,H0,al,ρ,s.grow s1,?_⟩;cases q2:g ρ with
     |nx vy=>rw[q2]at h;exact λjK H' σ' x' s'=>h jK H' _ ((Xt.of s1).trans x') s'
     |rt d=>rw[q2]at h;exact h
     |bk _=>rw[q2]at h;exact h.elim
     |ct _=>rw[q2]at h;exact h.elim
     |ex _ _ _=>rw[q2]at h;exact h.elim
     |bad=>rw[q2]at h;exact h.elim
    ·rw[aA z]at h;exact h.elim
def FQ:D->D->R D
 |.str w,.str z=>.ok (.bl<|decide<|w=z)
 |.tup _,.str _=>.ok (.bl false)
 |_,_=>.bad
def apc(hu:X.A.units+64<cLine):rK X E (compareOp .Eq) FQ:=by
 refine⟨λx y H Q=>∃z,y=.str z/\((∃w,x=.str w/\Q (.bl<|decide<|w=z) H)\/∃a vs,x=.ref a/\uW X.K H a vs/\Q (.bl false) H),λpins s σ H x y v u Q I rx ry h=>?_,λal H x y dx dy Q fr rx ry h=>?_⟩
 ·obtain⟨z,rfl,h⟩:=h;obtain⟨t,rfl⟩:=ry;rcases h with⟨w,rfl,q⟩|⟨a,vs,rfl,hs,q⟩
  ·obtain⟨t',rfl⟩:=rx;refine SeqAt.RcAt.str_str w t' z t X.prog X.w X.xe _ ⟨.bl<|decide<|w=z,H,I,?_,q⟩;show Value.bool (w==z)=Value.bool (decide<|w=z);have e:(w==z)=decide (w=z):=by
    by_cases e:w=z;·subst e;simp
    ·simp[e]
   rw[e]
  ·obtain rfl:v=.ref a:=rx;obtain⟨its,q1,ht,_⟩:=I.tuple hs;exact SeqAt.RcAt.tuple_str z t ht (by omega) X.prog X.w X.xe _ ⟨.bl false,H,I,rfl,q⟩
 ·unfold FQ at h;split at h
  ·cases rx;cases ry;exact⟨_,rfl,.inl ⟨_,rfl,h H (.refl H) _<|.bl _⟩⟩
  ·cases ry;obtain⟨a,vs,rfl,h1,h2⟩:=rx.J1;exact⟨_,rfl,.inr ⟨a,vs,rfl,h1,h H (.refl H) _<|.bl _⟩⟩
  ·exact h.elim
end
end P2
namespace Ac
open PySem L2 P2 WP WR WC
def at_(i:Nat):Stmt:=PySem.Challenge.pw_weather_k33_whole_conditions_read_back.main.body.getD i (.Pass ⟨0,0,0,0⟩)
abbrev abD:Stmt:=inClass (at_ 30) 0
abbrev Ui:Stmt:=inClass (at_ 30) 1
abbrev abJ:Stmt:=inClass (at_ 30) 2
abbrev abG:Stmt:=inClass (at_ 30) 3
abbrev abH:Stmt:=inClass (at_ 30) 4
abbrev abE:Stmt:=inClass (at_ 30) 5
abbrev abF:Stmt:=inClass (at_ 30) 6
abbrev abI:Stmt:=inClass (at_ 30) 7
abbrev aaH:Stmt:=at_ 6
abbrev aaD:Stmt:=at_ 7
abbrev abB:Stmt:=at_ 8
abbrev aaB:Stmt:=at_ 13
abbrev aaE:Stmt:=at_ 14
abbrev aaA:Stmt:=at_ 15
abbrev aaK:Stmt:=at_ 16
abbrev abt:Stmt:=at_ 17
abbrev aby:Stmt:=at_ 18
abbrev aaF:Stmt:=at_ 23
abbrev abC:Stmt:=at_ 24
abbrev aaN:Stmt:=at_ 29
abbrev abr:Stmt:=at_ 33
abbrev abA:Stmt:=at_ 34
abbrev abv:Stmt:=at_ 35
abbrev abo:Stmt:=at_ 36
abbrev abu:Stmt:=at_ 37
abbrev abq:Stmt:=at_ 38
abbrev abz:Stmt:=at_ 39
abbrev abw:Stmt:=at_ 40
abbrev abx:Stmt:=at_ 41
abbrev abp:Stmt:=at_ 42
abbrev aaJ:Stmt:=at_ 44
abbrev aaI:Stmt:=at_ 45
abbrev aaL:Stmt:=at_ 46
abbrev aaM:Stmt:=at_ 47
abbrev aaG:Stmt:=at_ 48
abbrev aa2:Stmt:=at_ 50
abbrev aba:Stmt:=at_ 51
abbrev aa7:Stmt:=at_ 52
abbrev abb:Stmt:=at_ 53
abbrev abi:Stmt:=at_ 54
abbrev aa9:Stmt:=at_ 55
abbrev abg:Stmt:=at_ 56
abbrev abl:Stmt:=at_ 57
abbrev abe:Stmt:=at_ 58
abbrev aa3:Stmt:=at_ 59
abbrev aa8:Stmt:=at_ 60
abbrev aa5:Stmt:=at_ 61
abbrev abh:Stmt:=at_ 62
abbrev abj:Stmt:=at_ 63
abbrev aa6:Stmt:=at_ 64
abbrev aa4:Stmt:=at_ 65
abbrev aa1:Stmt:=at_ 66
abbrev abk:Stmt:=at_ 67
abbrev abf:Stmt:=at_ 68
abbrev abd:Stmt:=at_ 69
abbrev G3:Stmt:=at_ 70
structure Tx(K:PySem.W.Frag)(mg:nO)(a:Ad):Prop where
 Qm:mg "abs"=none
 K6:mg "all"=none
 VL:mg "bool"=none
 Ai:mg "int"=none
 xZ:mg "isinstance"=none
 qD:mg "len"=none
 Qn:mg "max"=none
 Qo:mg "range"=none
 za:mg "str"=none
 VM:mg "tuple"=none
 Il:wB mg "FIGURES" (.str "0123456789")
 Iu:wB mg "MOST_FIGURES" (.int 60)
 IK:wB mg "TOP_BOUND" (.int 1000000000)
 Ik:wB mg "BOTTOM_BOUND" (.int 1000000)
 Ip:wB mg "LETTERS" (.str "abcdefghijklmnopqrstuvwxyz")
 Iv:wB mg "MOST_LETTERS" (.int 8)
 Im:Kw K mg "KEY_WORDS" [(.str "mark"),(.str "fill"),(.str "here"),(.str "back"),(.str "on"),(.str "at"),(.str "ago"),(.str "until"),(.str "abs"),(.str "and"),(.str "or"),(.str "not")]
 Iz:wB mg "RUN_SIGNS" (.str "abcdefghijklmnopqrstuvwxyz0123456789/")
 Iw:wB mg "MOST_PARTS" (.int 30)
 Ir:wB mg "MOST_BRACKETS" (.int 16)
 Io:wB mg "LAST_PLACE" (.int 9)
 ajU:mg "WeatherError"=some (.ref a.WeatherError)
 adh:mg "NoFraction"=some (.ref a.NoFraction)
 vD:mg "NoText"=some (.ref a.NoText)
 adi:mg "Tokens"=some (.ref a.Tokens)
 vJ:CP K a.NoText a.rW "row"
 avr:Ht K a.WeatherError
 aiI:Ht K a.NoFraction
 aiH:yV K a.NoText
 avq:yV K a.WeatherError
 nj:uE K a.Tokens
 SX:vN K a.Tokens "tokens"
 SQ:vN K a.Tokens "place"
 SN:vN K a.Tokens "parts"
 Nh:vN K a.Tokens "brackets"
 xx:Kz K a.oO
section
variable{P:Program}{w:World}{K:PySem.W.Frag}{mg:nO}{base:Heap}{f:Addr}{fd sZ:FuncData}
variable{Pb Cm xg Ko Pg xT uG yP xj Cr Pn Cu xm Pq Ks Pu Cv Px Cw uq Eo Cy Cz Py Ph wA Pz CG PB PJ En uV wz vM Kq Pj:jO}{Qi oE pA CT qg Qj CV qR Hu Hv Ez KR Qg xX CQ EY KY Ae Qh:lX}
local macro_rules|`(tactic|walk_at "sc")=>`(tactic|exact⟨rfl,rfl,rfl,by decide+kernel,rfl,by decide+kernel,by decide+kernel⟩)
def ahd:lU ["text","parted"] ["text"] (j8 aaN):=by walk_at "sc"
def aon(T:Tx K mg a)(F:lO K "split_row" "split_row" aaN f fd):
    jZ P w K mg base (jF P w) 1 f fd ["text"] (kj 1 K λds=>jM<|Q7 a<|jP 2 ds):=
 pC F ahd λcdv A outer s H E hr=>(kW (akJ 1 ahd.nd rfl (Or.inl rfl) (adT (Nt:=["sign"]) (tn:=1) rfl (An (jA 0)) (λ_ _ _ _=>(zy 0 (show List.Nodup (["sign"]:List Str)from by decide+kernel) rfl (Or.inl rfl))) (by simp) (λ_ _ _ _=>Le) (λ_ _ _ _=>(HY (lQ Tf (jA 0) (zu rfl T.Iz)) (jA 0) (Fz (rA jL (rA (yg (jA 0)) (rA jL FN)))))) (by decide+kernel) rfl (by decide+kernel) (by decide+kernel) rfl))
  (lq (mD (DN.de (QH (Nt:=["token"]) (tn:=1) rfl (An (xn bB dj fO Yx (xn bB PySem.F.slot_str_join PySem.F.type_str_join anG jL (jD (jA 1) jH)) (jD jL jH))) (λ_ _ _ _=>(zy 0 (show List.Nodup (["token"]:List Str)from by decide+kernel) rfl (Or.inl rfl))) (by simp) (λ_ _ _ _=>adN (lQ yz (jA 0) jL)) (λ_ _ _ _=>(jA 0)) (by decide+kernel) rfl (by decide+kernel) (by decide+kernel) rfl)))))
def asT:lU ["self","text"] ["self","text"] (j8 abD):=by walk_at "sc"
def aoX{dV}(T:Tx K mg a)(F:sW K "__init__" "Tokens.__init__" abD dV f fd)
 (als:km P w K mg base (jF P w) 1 "split_row" ["text"]<|kj 1 K Pj):
   jZ P w K mg base (jF P w) 2 f fd ["self","text"] (kY 2 K λzs S=>kE<|Dm a Pj S.length (lg 2 zs) S):=
  Dl F asT λb cdv A outer s H E hr=>(lC (U6 T.nj T.SX (lu 0) (kJ (mC als hr rfl jV rfl (jD (jA 1) jH))))
   (lC (U6 T.nj T.SQ (lu 0) (kJ jG))
   (lC (U6 T.nj T.SN (lu 0) (kJ jG))
   (mG (U6 T.nj T.Nh (lu 0) (kJ jG))))))
def aho:lU ["self","places","place"] xB (j8 Ui):=by walk_at "sc"
def aoY{dV}(T:Tx K mg a)(F:sW K "ahead" "Tokens.ahead" Ui dV f fd):
    jZ P w K mg base (jF P w) 1 f fd xB (kY 2 K λzs S=>kE<|Mm a S.length (lg 3 zs) S):=
 Dl F aho λb cdv A outer s H E hr=>(lC (pF 2 aho.nd rfl (Or.inl rfl) (Kh lZ (O8 T.nj T.SQ (lu 0)) (kJ (jA 1))))
  (mG (rH (avt (wy DP (kJ (jA 2)) (aiL rR rfl T.qD qM (kO (O8 T.nj T.SX (lu 0)) mK))) (avu lL (O8 T.nj T.SX (lu 0)) (kJ (jA 2))) (kJ jL)))))
def ahp:lU zK sJ (j8 abJ):=by walk_at "sc"
def ao4{dV}(T:Tx K mg a)(F:sW K "take" "Tokens.take" abJ dV f fd)
 (rY:jZ P w K mg base vz 1 a.rW sZ rC<|wO a.NoText "row")(rQ:Binds K sZ rC [])
 (vX:nJ P w K mg base 2 a.Tokens "ahead" xB [(.int 0)]<|kY 2 K oE):
   jZ P w K mg base (jF P w) 3 f fd sJ (kY 1 K λzs S=>kE<|Ge a oE S.length (lg 2 zs) S):=
  Dl F ahp λb cdv A outer s H E hr=>(lC (pF 1 ahp.nd rfl (Or.inl rfl) (rG vX T.nj hr jV (lu 0) rfl))
   (lC (q8 (Cd (lQ o8 (jA 1) jL)) (mG (Kl (wC (x:="NoText") T.vJ rY rQ (hr.mono (by decide)) rfl T.vD (jD jG jH)))) uh)
   (lC (U7 XM T.nj T.SQ (lu 0) (kJ jG))
   (mG (rH (kJ (jA 1)))))))
def asW:lU zK zK (j8 abG):=by walk_at "sc"
def ao1{dV}(T:Tx K mg a)(F:sW K "expect" "Tokens.expect" abG dV f fd)
 (rY:jZ P w K mg base vz 1 a.rW sZ rC<|wO a.NoText "row")(rQ:Binds K sZ rC [])
 (yr:nJ P w K mg base 3 a.Tokens "take" sJ []<|kY 1 K qR):
   jZ P w K mg base (jF P w) 4 f fd zK (kY 2 K λzs S=>kE<|Gd a qR S.length (lg 2 zs) S):=
  Dl F asW λb cdv A outer s H E hr=>(mG<|q8 (wy yz (rG yr T.nj hr jV (lu 0) rfl)<|kJ<|jA 1) (mG<|Kl<|wC (x:="NoText") T.vJ rY rQ (hr.mono<|by decide) rfl T.vD<|jD jG jH) uh)
def asY:lU sJ sJ (j8 abH):=by walk_at "sc"
def ao2{dV}(T:Tx K mg a)(F:sW K "expect_end" "Tokens.expect_end" abH dV f fd)
 (rY:jZ P w K mg base vz 1 a.rW sZ rC<|wO a.NoText "row")(rQ:Binds K sZ rC [])
 (vX:nJ P w K mg base 2 a.Tokens "ahead" xB [(.int 0)]<|kY 2 K oE):
   jZ P w K mg base (jF P w) 3 f fd sJ (kY 1 K λzs S=>kE<|Mr a oE S.length (lg 1 zs) S):=
  Dl F asY λb cdv A outer s H E hr=>(mG<|q8 (wy yz (rG vX T.nj hr jV (lu 0) rfl)<|kJ jL) (mG<|Kl<|wC (x:="NoText") T.vJ rY rQ (hr.mono<|by decide) rfl T.vD<|jD jG jH) uh)
def asU:lU sJ sJ (j8 abE):=by walk_at "sc"
def aoZ{dV}(T:Tx K mg a)(F:sW K "begin_part" "Tokens.begin_part" abE dV f fd)
 (rY:jZ P w K mg base vz 1 a.rW sZ rC<|wO a.NoText "row")(rQ:Binds K sZ rC []):
   jZ P w K mg base (jF P w) 3 f fd sJ (kY 1 K λzs S=>kE<|Mp a S.length (lg 1 zs) S):=
  Dl F asU λb cdv A outer s H E hr=>(lC (U7 XM T.nj T.SN (lu 0) (kJ jG))
   (mG (q8 (wy u9 (O8 T.nj T.SN (lu 0)) (kJ (zu rfl T.Iw))) (mG (Kl (wC (x:="NoText") T.vJ rY rQ (hr.mono (by decide)) rfl T.vD (jD jG jH)))) uh)))
def asV:lU zL zL (j8 abF):=by walk_at "sc"
def ao0{dV}(T:Tx K mg a)(F:sW K "enter" "Tokens.enter" abF dV f fd)
 (rY:jZ P w K mg base vz 1 a.rW sZ rC<|wO a.NoText "row")(rQ:Binds K sZ rC [])
 (yq:nJ P w K mg base 4 a.Tokens "expect" zK []<|kY 2 K qg):
   jZ P w K mg base (jF P w) 5 f fd zL (kY 2 K λzs S=>kE<|Mq a qg S.length (lg 2 zs) S):=
  Dl F asV λb cdv A outer s H E hr=>(lC (ug (yM yq T.nj hr jV (lu 0) (kO (kJ (jA 1)) mK) rfl))
   (lC (U7 XM T.nj T.Nh (lu 0) (kJ jG))
   (mG (q8 (wy u9 (O8 T.nj T.Nh (lu 0)) (kJ (zu rfl T.Ir))) (mG (Kl (wC (x:="NoText") T.vJ rY rQ (hr.mono (by decide)) rfl T.vD (jD jG jH)))) uh))))
def asZ:lU zL zL (j8 abI):=by walk_at "sc"
def ao3{dV}(T:Tx K mg a)(F:sW K "leave" "Tokens.leave" abI dV f fd)
 (yq:nJ P w K mg base 4 a.Tokens "expect" zK []<|kY 2 K qg):
   jZ P w K mg base (jF P w) 5 f fd zL (kY 2 K λzs S=>kE<|Ms a qg S.length (lg 2 zs) S):=
  Dl F asZ λb cdv A outer s H E hr=>(lC (ug (yM yq T.nj hr jV (lu 0) (kO (kJ (jA 1)) mK) rfl))
   (mG (U7 ami T.nj T.Nh (lu 0) (kJ jG))))
def asG:lU ["text"] ["text"] (j8 aaH):=by walk_at "sc"
def aoh(T:Tx K mg a)(F:lO K "only_figures" "only_figures" aaH f fd):
    jZ P w K mg base (jF P w) 1 f fd ["text"] (kj 1 K λds=>jM<|Q6 a<|jP 1 ds):=
 pC F asG λcdv A outer s H E hr=>(lq<|mD<|HX (zq yz (jA 0) jL)<|FJ<|n8 (Qx rfl) rfl T.K6 Qu<|jD (DN.de<|QH (Nt:=["sign"]) (tn:=1) rfl (An<|jA 0) (λ_ _ _ _=>(zy 0 (show List.Nodup (["sign"]:List Str)from by decide+kernel) rfl<|Or.inl rfl)) (by simp) (λ_ _ _ _=>Le) (λ_ _ _ _=>(zq Tf (jA 0)<|zu rfl T.Il)) (by decide+kernel) rfl (by decide+kernel) (by decide+kernel) rfl) jH)
def asz:lU ["text","most_figures"] ["text","most_figures"] (j8 aaD):=by walk_at "sc"
def aob(T:Tx K mg a)(F:lO K "is_number" "is_number" aaD f fd)
 (alr:km P w K mg base (jF P w) 1 "only_figures" ["text"]<|kj 1 K Ph):
   jZ P w K mg base (jF P w) 2 f fd ["text","most_figures"] (kj 2 K λds=>jM<|Q3 a Ph<|jP 2 ds):=
  pC F asz λcdv A outer s H E hr=>(kW (oH (DW.dt (yh (lQ u9 (n8 rR rfl T.qD qM (jD (jA 0) jH)) (jA 1)) (Di (xq (uY (mC alr hr rfl jV rfl (jD (jA 0) jH))))))) (lq (mD Df)) oU)
   (lq (mD (adH (zq o8 (jA 0) jL) (FJ (QG (xn bB gM gO afu (jA 0) (jD jL jH))))))))
def ahn:lU ["text","least","most","number"] ["text","least","most"] (j8 abB):=by walk_at "sc"
def aoV(T:Tx K mg a)(F:lO K "read_whole" "read_whole" abB f fd)
 (rY:jZ P w K mg base vz 1 a.rW sZ rC<|wO a.NoText "row")(rQ:Binds K sZ rC [])
 (Xk:km P w K mg base (jF P w) 2 "is_number" ["text","most_figures"]<|kj 2 K xg):
   jZ P w K mg base (jF P w) 3 f fd ["text","least","most"] (kj 3 K λds=>jM<|Rw a xg<|jP 4 ds):=
  pC F ahn λcdv A outer s H E hr=>(kW (oH (xq (uY (mC Xk hr rfl jV rfl (jD (jA 0) (jD (n8 rR rfl T.qD qM (jD (yf K9 rfl T.za Am (jD (jA 2) jH)) jH)) jH))))) (lq (wC T.vJ rY rQ (hr.mono (by decide)) rfl T.vD (jD jG jH))) oU)
   (kW (mU 3 ahn.nd rfl (Or.inl rfl) (yf K8 rfl T.Ai CZ (jD (jA 0) jH)))
   (kW (oH (DW.dt (yh (lQ DP (jA 3) (jA 1)) (Di (lQ u9 (jA 3) (jA 2))))) (lq (wC T.vJ rY rQ (hr.mono (by decide)) rfl T.vD (jD jG jH))) oU)
   (lq (mD (jA 3))))))
def Uc:lU ["one","other","rest"] ["one","other"] (j8 aaA):=by walk_at "sc"
def an9(T:Tx K mg a)(F:lO K "common_divisor" "common_divisor" aaA f fd):
    jZ P w K mg base (jF P w) 1 f fd ["one","other"] (kj 2 K λds=>jM<|QZ a<|jP 3 ds):=
 pC F Uc λcdv A outer s H E hr=>(kW (adV Qq xF (lQ yz (jA 1) jG) (kW (mU 2 Uc.nd rfl (Or.inl rfl) (jY qP (jA 0) (jA 1)))
  (kW (mU 0 Uc.nd rfl (Or.inl rfl) (jA 1))
  (lq (mU 1 Uc.nd rfl (Or.inl rfl) (jA 2))))))
  (lq (mD (jA 0))))
def asA:lU ["thing"] ["thing"] (j8 aaE):=by walk_at "sc"
def aoc(T:Tx K mg a)(F:lO K "is_whole" "is_whole" aaE f fd):
    jZ P w K mg base (jF P w) 1 f fd ["thing"] (kj 1 K λds=>jM<|Q4 a<|jP 1 ds):=
 pC F asA λcdv A outer s H E hr=>(lq<|mD<|HX (n8 (zm T.xx) rfl T.xZ zj<|jD (jA 0)<|jD (zx rfl T.Ai CZ) jH)<|FJ<|QG<|n8 (zm T.xx) rfl T.xZ zj<|jD (jA 0)<|jD (zx rfl T.VL adf) jH)
def aaP:lU ["top","bottom","divisor"] ["top","bottom"] (j8 aaB):=by walk_at "sc"
def aoa(T:Tx K mg a)(F:lO K "fraction" "fraction" aaB f fd)
 (aet:km P w K mg base (jF P w) 2 "is_whole" ["thing"]<|kj 1 K Ko)
 (alo:km P w K mg base (jF P w) 2 "common_divisor" ["one","other"]<|kj 2 K Pb):
   jZ P w K mg base (jF P w) 3 f fd ["top","bottom"] (kj 2 K λds=>jM<|Q0 a Ko Pb<|jP 3 ds):=
  pC F aaP λcdv A outer s H E hr=>(kW (oH (DW.dt (yh (xq (uY (mC aet hr rfl jV rfl (jD (jA 0) jH)))) (yh (xq (uY (mC aet hr rfl jV rfl (jD (jA 1) jH)))) (Di (lQ o8 (jA 1) jG))))) (lq (akI gZ T.aiI.cls rfl T.adh)) oU)
   (kW (mU 2 aaP.nd rfl (Or.inl rfl) (mC alo hr rfl jV rfl (jD (n8 V8 rfl T.Qm V2 (jD (jA 0) jH)) (jD (n8 V8 rfl T.Qm V2 (jD (jA 1) jH)) jH))))
   (kW (oH (lQ DP (jA 1) jG) (lq (mU 2 aaP.nd rfl (Or.inl rfl) (adI aij (jA 2)))) oU)
   (lq (mD (nY (jD (jY tM (jA 0) (jA 2)) (jD (jY tM (jA 1) (jA 2)) jH))))))))
def aaQ:lU ["one","top","bottom"] ["one"] (j8 aaK):=by walk_at "sc"
def aok(T:Tx K mg a)(F:lO K "show_fraction" "show_fraction" aaK f fd):
    jZ P w K mg base (jF P w) 1 f fd ["one"] (kj 1 K λds=>jM<|Lw a<|jP 3 ds):=
 pC F aaQ λcdv A outer s H E hr=>(kW (mU 1 aaQ.nd rfl (Or.inl rfl) (lN lL (jA 0) jG))
  (kW (mU 2 aaQ.nd rfl (Or.inl rfl) (lN lL (jA 0) jG))
  (kW (oH (lQ o8 (jA 2) jG) (lq (mD (yf K9 rfl T.za Am (jD (jA 1) jH)))) oU)
  (lq (mD (Fz (rA (yg (jA 1)) (rA jL (rA (yg (jA 2)) FN)))))))))
def JP:lU ["text","below","parts","top","bottom","found"] ["text"] (j8 abt):=by walk_at "sc"
def aoN(T:Tx K mg a)(F:lO K "read_fraction" "read_fraction" abt f fd)
 (rY:jZ P w K mg base vz 1 a.rW sZ rC<|wO a.NoText "row")(rQ:Binds K sZ rC [])
 (Xk:km P w K mg base (jF P w) 3 "is_number" ["text","most_figures"]<|kj 2 K xg)
 (alp:km P w K mg base (jF P w) 3 "fraction" ["top","bottom"]<|kj 2 K Cm)
 (RB:km P w K mg base (jF P w) 3 "show_fraction" ["one"]<|kj 1 K wz):
   jZ P w K mg base (jF P w) 4 f fd ["text"] (kj 1 K λds=>jM<|Ru a xg Cm wz<|jP 6 ds):=
  pC F JP λcdv A outer s H E hr=>(kW (mU 1 JP.nd rfl (Or.inl rfl) (xn bB gM gO afu (jA 0) (jD jL jH)))
   (kW (mU 2 JP.nd rfl (Or.inl rfl) (HY (uY (jA 1)) (xn bB dj fO Yx (Ia JT (jA 0) (Dg jG) QJ) (jD jL jH)) (xn bB dj fO Yx (jA 0) (jD jL jH))))
   (kW (oH (DW.dt (yh (lQ u9 (n8 rR rfl T.qD qM (jD (jA 2) jH)) jG) (Di (xq (uY (n8 (Qx rfl) rfl T.K6 Qu (jD (DN.de (QH (Nt:=["part"]) (tn:=1) rfl (An (jA 2)) (λ_ _ _ _=>(zy 0 (show List.Nodup (["part"]:List Str)from by decide+kernel) rfl (Or.inl rfl))) (by simp) (λ_ _ _ _=>Le) (λ_ _ _ _=>(mC Xk hr rfl afT rfl (jD (jA 0) (jD (zu rfl T.Iu) jH)))) (by decide+kernel) rfl (by decide+kernel) (by decide+kernel) rfl)) jH))))))) (lq (wC T.vJ rY rQ (hr.mono (by decide)) rfl T.vD (jD jG jH))) oU)
   (kW (mU 3 JP.nd rfl (Or.inl rfl) (HY (uY (jA 1)) (adI aij (yf K8 rfl T.Ai CZ (jD (lN lL (jA 2) jG) jH))) (yf K8 rfl T.Ai CZ (jD (lN lL (jA 2) jG) jH))))
   (kW (mU 4 JP.nd rfl (Or.inl rfl) (HY (lQ o8 (n8 rR rfl T.qD qM (jD (jA 2) jH)) jG) (yf K8 rfl T.Ai CZ (jD (lN lL (jA 2) jG) jH)) jG))
   (kW (oH (lQ o8 (jA 4) jG) (lq (wC T.vJ rY rQ (hr.mono (by decide)) rfl T.vD (jD jG jH))) oU)
   (kW (mU 5 JP.nd rfl (Or.inl rfl) (mC alp hr rfl jV rfl (jD (jA 3) (jD (jA 4) jH))))
   (kW (oH (lQ yz (mC RB hr rfl jV rfl (jD (jA 5) jH)) (jA 0)) (lq (wC T.vJ rY rQ (hr.mono (by decide)) rfl T.vD (jD jG jH))) oU)
   (lq (mD (jA 5)))))))))))
def ahl:lU ["text","found"] ["text"] (j8 aby):=by walk_at "sc"
def aoS(T:Tx K mg a)(F:lO K "read_small_fraction" "read_small_fraction" aby f fd)
 (rY:jZ P w K mg base vz 1 a.rW sZ rC<|wO a.NoText "row")(rQ:Binds K sZ rC [])
 (alW:km P w K mg base (jF P w) 4 "read_fraction" ["text"]<|kj 1 K Pz):
   jZ P w K mg base (jF P w) 5 f fd ["text"] (kj 1 K λds=>jM<|Rv a Pz<|jP 2 ds):=
  pC F ahl λcdv A outer s H E hr=>(kW (mU 1 ahl.nd rfl (Or.inl rfl) (mC alW hr rfl jV rfl (jD (jA 0) jH)))
   (kW (oH (DW.dt (yh (lQ afJ (n8 V8 rfl T.Qm V2 (jD (lN lL (jA 1) jG) jH)) (zu rfl T.IK)) (Di (lQ afJ (lN lL (jA 1) jG) (zu rfl T.Ik))))) (lq (wC T.vJ rY rQ (hr.mono (by decide)) rfl T.vD (jD jG jH))) oU)
   (lq (mD (jA 1)))))
def asB:lU ["thing"] ["thing"] (j8 aaF):=by walk_at "sc"
def aod(T:Tx K mg a)(F:lO K "is_word" "is_word" aaF f fd):
    jZ P w K mg base (jF P w) 1 f fd ["thing"] (kj 1 K λds=>jM<|Q5 a<|jP 1 ds):=
 pC F asB λcdv A outer s H E hr=>(kW (oH (DW.dt (yh (xq (uY (n8 (zm T.xx) rfl T.xZ zj (jD (jA 0) (jD (zx rfl T.za Am) jH))))) (yh (lQ o8 (jA 0) jL) (Di (lQ u9 (n8 rR rfl T.qD qM (jD (jA 0) jH)) (zu rfl T.Iv)))))) (lq (mD Df)) oU)
  (lq (mD (HX (n8 (Qx rfl) rfl T.K6 Qu (jD (DN.de (QH (Nt:=["sign"]) (tn:=1) rfl (An (jA 0)) (λ_ _ _ _=>(zy 0 (show List.Nodup (["sign"]:List Str)from by decide+kernel) rfl (Or.inl rfl))) (by simp) (λ_ _ _ _=>Le) (λ_ _ _ _=>(zq Tf (jA 0) (zu rfl T.Ip))) (by decide+kernel) rfl (by decide+kernel) (by decide+kernel) rfl)) jH)) (FJ (zq (afK hr.units) (jA 0) (akx rfl T.Im)))))))
def asR:lU ["text"] ["text"] (j8 abC):=by walk_at "sc"
def aoW(T:Tx K mg a)(F:lO K "read_word" "read_word" abC f fd)
 (rY:jZ P w K mg base vz 1 a.rW sZ rC<|wO a.NoText "row")(rQ:Binds K sZ rC [])
 (alq:km P w K mg base (jF P w) 2 "is_word" ["thing"]<|kj 1 K Pg):
   jZ P w K mg base (jF P w) 3 f fd ["text"] (kj 1 K λds=>jM<|Rx a Pg<|jP 1 ds):=
  pC F asR λcdv A outer s H E hr=>(kW (oH (xq (uY (mC alq hr rfl jV rfl (jD (jA 0) jH)))) (lq (wC T.vJ rY rQ (hr.mono (by decide)) rfl T.vD (jD jG jH))) oU)
   (lq (mD (jA 0))))
def Ug:lU ["tokens","term","sign"] oR (j8 abz):=by walk_at "sc"
def aoT{k}(T:Tx K mg a)(F:lO K "read_sum" "read_sum" abz f fd)
 (aeD:km P w K mg base (jF P w) k "read_product" oR<|kY 1 K EY)
 (vX:nJ P w K mg base k a.Tokens "ahead" xB [(.int 0)]<|kY 2 K oE)
 (yr:nJ P w K mg base k a.Tokens "take" sJ []<|kY 1 K qR)
 (wJ:nJ P w K mg base k a.Tokens "begin_part" sJ []<|kY 1 K pA):
   jZ P w K mg base (jF P w) (k+1) f fd oR (kY 1 K λzs S=>kE<|Mj a EY oE qR pA S.length (lg 3 zs) S):=
  vU F Ug λb cdv A outer s H E hr=>(lC (pF 1 Ug.nd rfl (Or.inl rfl) (tU aeD hr rfl jV rfl (kO (lu 0) mK)))
   (lC (O9 100 xF (wy (xD hr.units) (rG vX T.nj hr jV (lu 0) rfl) (kJ (nY (jD jL (jD jL jH))))) (lC (pF 2 Ug.nd rfl (Or.inl rfl) (rG yr T.nj hr jV (lu 0) rfl))
   (lC (ug (rG wJ T.nj hr jV (lu 0) rfl))
   (mG (pF 1 Ug.nd rfl (Or.inl rfl) (z7 (kO (kJ (jA 2)) (kO (kJ (jA 1)) (kO (tU aeD hr rfl jV rfl (kO (lu 0) mK)) mK)))))))))
   (mG (rH (kJ (jA 1))))))
def ahj:lU ["tokens","factor"] oR (j8 abw):=by walk_at "sc"
def aoQ{k}(T:Tx K mg a)(F:lO K "read_product" "read_product" abw f fd)
 (XC:km P w K mg base (jF P w) k "read_small_fraction" ["text"]<|kj 1 K CG)
 (aeE:km P w K mg base (jF P w) k "read_single" oR<|kY 1 K KY)
 (al6:nJ P w K mg base k a.Tokens "ahead" xB []<|kY 2 K oE)
 (yr:nJ P w K mg base k a.Tokens "take" sJ []<|kY 1 K qR)
 (yq:nJ P w K mg base k a.Tokens "expect" zK []<|kY 2 K qg)
 (wJ:nJ P w K mg base k a.Tokens "begin_part" sJ []<|kY 1 K pA):
   jZ P w K mg base (jF P w) (k+1) f fd oR (kY 1 K λzs S=>kE<|Mh a CG oE KY qR qg pA S.length (lg 2 zs) S):=
  vU F ahj λb cdv A outer s H E hr=>(lC (q8 (wy yz (yM al6 T.nj hr jV (lu 0) (kO (kJ jG) mK) rfl) (kJ jL)) (mG (rH (tU aeE hr rfl jV rfl (kO (lu 0) mK)))) uh)
   (lC (pF 1 ahj.nd rfl (Or.inl rfl) (xO XC hr rfl jV rfl (kO (rG yr T.nj hr jV (lu 0) rfl) mK)))
   (lC (ug (yM yq T.nj hr jV (lu 0) (kO (kJ jL) mK) rfl))
   (lC (ug (rG wJ T.nj hr jV (lu 0) rfl))
   (mG (rH (z7 (kO (kJ jL) (kO (kJ (jA 1)) (kO (tU aeE hr rfl jV rfl (kO (lu 0) mK)) mK))))))))))
def ahk:lU ["tokens","word"] oR (j8 abx):=by walk_at "sc"
def aoR{k}(T:Tx K mg a)(F:lO K "read_single" "read_single" abx f fd)
 (alY:km P w K mg base (jF P w) k "read_whole" ["text","least","most"]<|kj 3 K PB)
 (alZ:km P w K mg base (jF P w) k "read_word" ["text"]<|kj 1 K PJ)
 (XC:km P w K mg base (jF P w) k "read_small_fraction" ["text"]<|kj 1 K CG)
 (aeC:km P w K mg base (jF P w) k "read_bracketed" oR<|kY 1 K KR)
 (vX:nJ P w K mg base k a.Tokens "ahead" xB [(.int 0)]<|kY 2 K oE)
 (wJ:nJ P w K mg base k a.Tokens "begin_part" sJ []<|kY 1 K pA)
 (yr:nJ P w K mg base k a.Tokens "take" sJ []<|kY 1 K qR):
   jZ P w K mg base (jF P w) (k+1) f fd oR (kY 1 K λzs S=>kE<|Mi a PB PJ CG oE KR pA qR S.length (lg 2 zs) S):=
  vU F ahk λb cdv A outer s H E hr=>(lC (q8 (wy o8 (rG vX T.nj hr jV (lu 0) rfl) (kJ jL)) (mG (rH (tU aeC hr rfl jV rfl (kO (lu 0) mK)))) uh)
   (lC (ug (rG wJ T.nj hr jV (lu 0) rfl))
   (lC (pF 1 ahk.nd rfl (Or.inl rfl) (rG yr T.nj hr jV (lu 0) rfl))
   (lC (q8 (Cd (lQ o8 (jA 1) jL)) (mG (rH (kJ (nY (jD jL jH))))) uh)
   (lC (q8 (Cd (lQ (xD hr.units) (jA 1) (nY (jD jL (jD jL (jD jL (jD jL jH))))))) (mG (rH (z7 (kO (kJ (jA 1)) (kO (xO alY hr rfl jV rfl (kO (rG yr T.nj hr jV (lu 0) rfl) (kO (kJ jG) (kO (kJ (zu rfl T.Io)) mK)))) mK))))) uh)
   (lC (q8 (Cd (lQ o8 (jA 1) jL)) (mG (rH (z7 (kO (kJ jL) (kO (xO alZ hr rfl jV rfl (kO (rG yr T.nj hr jV (lu 0) rfl) mK)) mK))))) uh)
   (lC (q8 (Cd (lQ o8 (jA 1) jL)) (mG (rH (z7 (kO (kJ jL) (kO (tU aeC hr rfl jV rfl (kO (lu 0) mK)) mK))))) uh)
   (mG (rH (kJ (nY (jD jL (jD (mC XC hr rfl jV rfl (jD (jA 1) jH)) jH)))))))))))))
def ahh:lU ["tokens","term"] oR (j8 abp):=by walk_at "sc"
def aoK{k}(T:Tx K mg a)(F:lO K "read_bracketed" "read_bracketed" abp f fd)
 (RQ:km P w K mg base (jF P w) k "read_sum" oR<|kY 1 K Ae)
 (XD:nJ P w K mg base k a.Tokens "enter" zL []<|kY 2 K CT)
 (XF:nJ P w K mg base k a.Tokens "leave" zL []<|kY 2 K CV):
   jZ P w K mg base (jF P w) (k+1) f fd oR (kY 1 K λzs S=>kE<|LQ a CT Ae CV S.length (lg 2 zs) S):=
  vU F ahh λb cdv A outer s H E hr=>(lC (ug (yM XD T.nj hr jV (lu 0) (kO (kJ jL) mK) rfl))
   (lC (pF 1 ahh.nd rfl (Or.inl rfl) (tU RQ hr rfl jV rfl (kO (lu 0) mK)))
   (lC (ug (yM XF T.nj hr jV (lu 0) (kO (kJ jL) mK) rfl))
   (mG (rH (kJ (jA 1)))))))
def aaW:lU ["tokens","left","sign"] oR (j8 abq):=by walk_at "sc"
def aoL(T:Tx K mg a)(F:lO K "read_comparison" "read_comparison" abq f fd)
 (rY:jZ P w K mg base vz 1 a.rW sZ rC<|wO a.NoText "row")(rQ:Binds K sZ rC [])
 (RQ:km P w K mg base (jF P w) 80 "read_sum" oR<|kY 1 K Ae)
 (wJ:nJ P w K mg base 80 a.Tokens "begin_part" sJ []<|kY 1 K pA)
 (yr:nJ P w K mg base 80 a.Tokens "take" sJ []<|kY 1 K qR):
   jZ P w K mg base (jF P w) 81 f fd oR (kY 1 K λzs S=>kE<|LR a pA Ae qR S.length (lg 3 zs) S):=
  vU F aaW λb cdv A outer s H E hr=>(lC (ug (rG wJ T.nj hr jV (lu 0) rfl))
   (lC (pF 1 aaW.nd rfl (Or.inl rfl) (tU RQ hr rfl jV rfl (kO (lu 0) mK)))
   (lC (pF 2 aaW.nd rfl (Or.inl rfl) (rG yr T.nj hr jV (lu 0) rfl))
   (lC (q8 (Cd (lQ (afK hr.units) (jA 2) (nY (jD jL (jD jL jH))))) (mG (Kl (wC (x:="NoText") T.vJ rY rQ (hr.mono (by decide)) rfl T.vD (jD jG jH)))) uh)
   (mG (rH (z7 (kO (kJ (jA 2)) (kO (kJ (jA 1)) (kO (tU RQ hr rfl jV rfl (kO (lu 0) mK)) mK))))))))))
def aaX:lU ["tokens","condition"] oR (j8 abv):=by walk_at "sc"
def aoP{k}(T:Tx K mg a)(F:lO K "read_or" "read_or" abv f fd)
 (aeB:km P w K mg base (jF P w) k "read_and" oR<|kY 1 K Ez)
 (vX:nJ P w K mg base k a.Tokens "ahead" xB [(.int 0)]<|kY 2 K oE)
 (yq:nJ P w K mg base k a.Tokens "expect" zK []<|kY 2 K qg)
 (wJ:nJ P w K mg base k a.Tokens "begin_part" sJ []<|kY 1 K pA):
   jZ P w K mg base (jF P w) (k+1) f fd oR (kY 1 K λzs S=>kE<|Mg a Ez oE qg pA S.length (lg 2 zs) S):=
  vU F aaX λb cdv A outer s H E hr=>(lC (pF 1 aaX.nd rfl (Or.inl rfl) (tU aeB hr rfl jV rfl (kO (lu 0) mK)))
   (lC (O9 100 xF (wy o8 (rG vX T.nj hr jV (lu 0) rfl) (kJ jL)) (lC (ug (yM yq T.nj hr jV (lu 0) (kO (kJ jL) mK) rfl))
   (lC (ug (rG wJ T.nj hr jV (lu 0) rfl))
   (mG (pF 1 aaX.nd rfl (Or.inl rfl) (z7 (kO (kJ jL) (kO (kJ (jA 1)) (kO (tU aeB hr rfl jV rfl (kO (lu 0) mK)) mK)))))))))
   (mG (rH (kJ (jA 1))))))
def aaV:lU ["tokens","condition"] oR (j8 abo):=by walk_at "sc"
def aoJ{k}(T:Tx K mg a)(F:lO K "read_and" "read_and" abo f fd)
 (RP:km P w K mg base (jF P w) k "read_not" oR<|kY 1 K xX)
 (vX:nJ P w K mg base k a.Tokens "ahead" xB [(.int 0)]<|kY 2 K oE)
 (yq:nJ P w K mg base k a.Tokens "expect" zK []<|kY 2 K qg)
 (wJ:nJ P w K mg base k a.Tokens "begin_part" sJ []<|kY 1 K pA):
   jZ P w K mg base (jF P w) (k+1) f fd oR (kY 1 K λzs S=>kE<|LK a xX oE qg pA S.length (lg 2 zs) S):=
  vU F aaV λb cdv A outer s H E hr=>(lC (pF 1 aaV.nd rfl (Or.inl rfl) (tU RP hr rfl jV rfl (kO (lu 0) mK)))
   (lC (O9 100 xF (wy o8 (rG vX T.nj hr jV (lu 0) rfl) (kJ jL)) (lC (ug (yM yq T.nj hr jV (lu 0) (kO (kJ jL) mK) rfl))
   (lC (ug (rG wJ T.nj hr jV (lu 0) rfl))
   (mG (pF 1 aaV.nd rfl (Or.inl rfl) (z7 (kO (kJ jL) (kO (kJ (jA 1)) (kO (tU RP hr rfl jV rfl (kO (lu 0) mK)) mK)))))))))
   (mG (rH (kJ (jA 1))))))
def ahi:lU ["tokens","condition"] oR (j8 abu):=by walk_at "sc"
def aoO{k}(T:Tx K mg a)(F:lO K "read_not" "read_not" abu f fd)
 (RP:km P w K mg base (jF P w) k "read_not" oR<|kY 1 K xX)
 (Xz:km P w K mg base (jF P w) k "read_or" oR<|kY 1 K CQ)
 (alU:km P w K mg base (jF P w) k "read_comparison" oR<|kY 1 K Qg)
 (vX:nJ P w K mg base k a.Tokens "ahead" xB [(.int 0)]<|kY 2 K oE)
 (yq:nJ P w K mg base k a.Tokens "expect" zK []<|kY 2 K qg)
 (wJ:nJ P w K mg base k a.Tokens "begin_part" sJ []<|kY 1 K pA)
 (XD:nJ P w K mg base k a.Tokens "enter" zL []<|kY 2 K CT)
 (XF:nJ P w K mg base k a.Tokens "leave" zL []<|kY 2 K CV):
   jZ P w K mg base (jF P w) (k+1) f fd oR (kY 1 K λzs S=>kE<|Mf a oE qg pA xX CT CQ CV Qg S.length (lg 2 zs) S):=
  vU F ahi λb cdv A outer s H E hr=>(lC (q8 (wy o8 (rG vX T.nj hr jV (lu 0) rfl) (kJ jL)) (lC (ug (yM yq T.nj hr jV (lu 0) (kO (kJ jL) mK) rfl))
   (lC (ug (rG wJ T.nj hr jV (lu 0) rfl))
   (mG (rH (z7 (kO (kJ jL) (kO (tU RP hr rfl jV rfl (kO (lu 0) mK)) mK))))))) uh)
   (lC (q8 (wy o8 (rG vX T.nj hr jV (lu 0) rfl) (kJ jL)) (lC (ug (yM XD T.nj hr jV (lu 0) (kO (kJ jL) mK) rfl))
   (lC (pF 1 ahi.nd rfl (Or.inl rfl) (tU Xz hr rfl jV rfl (kO (lu 0) mK)))
   (lC (ug (yM XF T.nj hr jV (lu 0) (kO (kJ jL) mK) rfl))
   (mG (rH (kJ (jA 1))))))) uh)
   (mG (rH (tU alU hr rfl jV rfl (kO (lu 0) mK))))))
def ahm:lU ["tokens","condition"] oR (j8 abA):=by walk_at "sc"
def aoU(T:Tx K mg a)(F:lO K "read_to_end" "read_to_end" abA f fd)
 (Xz:km P w K mg base (jF P w) 166 "read_or" oR<|kY 1 K CQ)
 (al7:nJ P w K mg base 166 a.Tokens "expect_end" sJ []<|kY 1 K Qj):
   jZ P w K mg base (jF P w) 167 f fd oR (kY 1 K λzs S=>kE<|Ml a CQ Qj S.length (lg 2 zs) S):=
  vU F ahm λb cdv A outer s H E hr=>(lC (pF 1 ahm.nd rfl (Or.inl rfl) (tU Xz hr rfl jV rfl (kO (lu 0) mK)))
   (lC (ug (rG al7 T.nj hr jV (lu 0) rfl))
   (mG (rH (kJ (jA 1))))))
def asQ:lU ["text"] ["text"] (j8 abr):=by walk_at "sc"
def aoM(T:Tx K mg a)(F:lO K "read_condition" "read_condition" abr f fd)
 (alX:km P w K mg base (jF P w) 167 "read_to_end" oR<|kY 1 K Qh)
 (aln:yQ P w K mg base 166 a.Tokens ["self","text"]<|kY 2 K Qi):
   jZ P w K mg base (jF P w) 168 f fd ["text"] (kY 1 K λzs S=>kE<|Ma a Qi Qh S.length (lg 1 zs) S):=
  vU F asQ λb cdv A outer s H E hr=>(mG<|rH<|tU alX hr rfl jV rfl<|kO (avv aln hr rfl T.adi jV (kO (kJ<|jA 0) mK) rfl) mK)
def asC:lU ["left","sign","right"] ["left","sign","right"] (j8 aaG):=by walk_at "sc"
def aoe(T:Tx K mg a)(F:lO K "joined" "joined" aaG f fd):
    jZ P w K mg base (jF P w) 1 f fd ["left","sign","right"] (kj 3 K λds=>jM<|Lr a<|jP 3 ds):=
 pC F asC λcdv A outer s H E hr=>(lq<|mD<|Fz<|rA (yg<|jA 0)<|rA jL<|rA (yg<|jA 1)<|rA jL<|rA (yg<|jA 2) FN)
def ahc:lU ["term","loose","text"] ["term","loose"] (j8 aaM):=by walk_at "sc"
def aom{k}(T:Tx K mg a)(F:lO K "show_tight" "show_tight" aaM f fd)
 (Gg:km P w K mg base (jF P w) k "show_term" ["term"]<|kj 1 K vM):
   jZ P w K mg base (jF P w) (k+1) f fd ["term","loose"] (kj 2 K λds=>jM<|Ly a vM<|jP 3 ds):=
  pC F ahc λcdv A outer s H E hr=>(kW (mU 2 ahc.nd rfl (Or.inl rfl) (mC Gg hr rfl jV rfl (jD (jA 0) jH)))
   (lq (mD (HY (lQ (xD hr.units) (lN lL (jA 0) jG) (jA 1)) (Fz (rA jL (rA (yg (jA 2)) (rA jL FN)))) (jA 2)))))
def Ud:lU ["term","kind","inner","place"] ["term"] (j8 aaL):=by walk_at "sc"
def aol{k}(T:Tx K mg a)(F:lO K "show_term" "show_term" aaL f fd)
 (aeu:km P w K mg base (jF P w) k "show_tight" ["term","loose"]<|kj 2 K Kq)
 (Gg:km P w K mg base (jF P w) k "show_term" ["term"]<|kj 1 K vM)
 (Jb:km P w K mg base (jF P w) k "joined" ["left","sign","right"]<|kj 3 K xT)
 (RB:km P w K mg base (jF P w) k "show_fraction" ["one"]<|kj 1 K wz):
   jZ P w K mg base (jF P w) (k+1) f fd ["term"] (kj 1 K λds=>jM<|tE a Kq vM xT wz<|jP 4 ds):=
  pC F Ud λcdv A outer s H E hr=>(kW (mU 1 Ud.nd rfl (Or.inl rfl) (lN lL (jA 0) jG))
   (kW (oH (lQ (xD hr.units) (jA 1) (nY (jD jL (jD jL jH)))) (lq (mD (mC Jb hr rfl jV rfl (jD (mC Gg hr rfl jV rfl (jD (lN lL (jA 0) jG) jH)) (jD (jA 1) (jD (mC aeu hr rfl jV rfl (jD (lN lL (jA 0) jG) (jD (nY (jD jL (jD jL jH))) jH))) jH)))))) oU)
   (kW (oH (lQ o8 (jA 1) jL) (lq (mD (mC Jb hr rfl jV rfl (jD (mC RB hr rfl jV rfl (jD (lN lL (jA 0) jG) jH)) (jD jL (jD (mC aeu hr rfl jV rfl (jD (lN lL (jA 0) jG) (jD (nY (jD jL (jD jL (jD jL jH)))) jH))) jH)))))) oU)
   (kW (oH (lQ o8 (jA 1) jL) (kW (mU 2 Ud.nd rfl (Or.inl rfl) (mC Gg hr rfl jV rfl (jD (lN lL (jA 0) jG) jH)))
   (lq (mD (Fz (rA jL (rA (yg (jA 2)) (rA jL FN))))))) oU)
   (kW (oH (lQ o8 (jA 1) jL) (lq (mD (mC RB hr rfl jV rfl (jD (lN lL (jA 0) jG) jH)))) oU)
   (kW (oH (lQ o8 (jA 1) jL) (lq (mD (jA 1))) oU)
   (kW (mU 3 Ud.nd rfl (Or.inl rfl) (lN lL (jA 0) jG))
   (lq (mD (Fz (rA (yg (jA 1)) (rA jL (rA (yg (jA 3)) FN)))))))))))))
def aha:lU ["condition","loose","text"] ["condition","loose"] (j8 aaI):=by walk_at "sc"
def aoi{k}(T:Tx K mg a)(F:lO K "show_bound" "show_bound" aaI f fd)
 (Mv:km P w K mg base (jF P w) k "show_condition" ["condition"]<|kj 1 K uV):
   jZ P w K mg base (jF P w) (k+1) f fd ["condition","loose"] (kj 2 K λds=>jM<|Ls a uV<|jP 3 ds):=
  pC F aha λcdv A outer s H E hr=>(kW (mU 2 aha.nd rfl (Or.inl rfl) (mC Mv hr rfl jV rfl (jD (jA 0) jH)))
   (lq (mD (HY (lQ (xD hr.units) (lN lL (jA 0) jG) (jA 1)) (Fz (rA jL (rA (yg (jA 2)) (rA jL FN)))) (jA 2)))))
def ahb:lU ["condition","kind"] ["condition"] (j8 aaJ):=by walk_at "sc"
def aoj{k}(T:Tx K mg a)(F:lO K "show_condition" "show_condition" aaJ f fd)
 (Rz:km P w K mg base (jF P w) k "show_bound" ["condition","loose"]<|kj 2 K En)
 (Mv:km P w K mg base (jF P w) k "show_condition" ["condition"]<|kj 1 K uV)
 (Jb:km P w K mg base (jF P w) k "joined" ["left","sign","right"]<|kj 3 K xT)
 (Gg:km P w K mg base (jF P w) k "show_term" ["term"]<|kj 1 K vM):
   jZ P w K mg base (jF P w) (k+1) f fd ["condition"] (kj 1 K λds=>jM<|vG a En uV xT vM<|jP 2 ds):=
  pC F ahb λcdv A outer s H E hr=>(kW (mU 1 ahb.nd rfl (Or.inl rfl) (lN lL (jA 0) jG))
   (kW (oH (lQ o8 (jA 1) jL) (lq (mD (mC Jb hr rfl jV rfl (jD (mC Mv hr rfl jV rfl (jD (lN lL (jA 0) jG) jH)) (jD (jA 1) (jD (mC Rz hr rfl jV rfl (jD (lN lL (jA 0) jG) (jD (nY (jD jL jH)) jH))) jH)))))) oU)
   (kW (oH (lQ o8 (jA 1) jL) (lq (mD (mC Jb hr rfl jV rfl (jD (mC Rz hr rfl jV rfl (jD (lN lL (jA 0) jG) (jD (nY (jD jL jH)) jH))) (jD (jA 1) (jD (mC Rz hr rfl jV rfl (jD (lN lL (jA 0) jG) (jD (nY (jD jL (jD jL jH))) jH))) jH)))))) oU)
   (kW (oH (lQ o8 (jA 1) jL) (lq (mD (jY lZ jL (mC Rz hr rfl jV rfl (jD (lN lL (jA 0) jG) (jD (nY (jD jL (jD jL jH))) jH)))))) oU)
   (lq (mD (mC Jb hr rfl jV rfl (jD (mC Gg hr rfl jV rfl (jD (lN lL (jA 0) jG) jH)) (jD (jA 1) (jD (mC Gg hr rfl jV rfl (jD (lN lL (jA 0) jG) jH)) jH))))))))))
def asJ:lU Ss Ss (j8 aa2):=by walk_at "sc"
def Lz(a:Ad):lG:=(j6 (mZ (b1 tB (d2 v5 (dV 1) (dA lY (jy (dV 0) jE)))) (lM (d2 jR (dV 0) (dV 1))) nA)
    (lM (dC (.int 0))))
def aoq(T:Tx K mg a)(F:lO K "_law_cell_at" "_law_cell_at" aa2 f fd):
    jZ P w K mg base (jF P w) 1 f fd Ss (kj 2 K λds=>jM<|Lz a<|jP 2 ds):=
 pC F asJ λcdv A outer s H E hr=>(kW (oH (lQ DP (jA 1) (n8 rR rfl T.qD qM (jD (jA 0) jH))) (lq (mD (lN lL (jA 0) (jA 1)))) oU)
  (lq (mD jG)))
def JN:lU ["_law_top","_law_bottom","_law_one","_law_other","_law_rest_here"] Yh (j8 aba):=by walk_at "sc"
def aoy(T:Tx K mg a)(F:lO K "_law_lowest" "_law_lowest" aba f fd):
    jZ P w K mg base (jF P w) 1 f fd Yh (kj 2 K λds=>jM<|Rg a<|jP 5 ds):=
 pC F JN λcdv A outer s H E hr=>(kW (mU 2 JN.nd rfl (Or.inl rfl) (jA 0))
  (kW (mU 3 JN.nd rfl (Or.inl rfl) (jA 1))
  (kW (adV Qq xF (lQ u9 (jA 3) jG) (kW (mU 4 JN.nd rfl (Or.inl rfl) (jY qP (jA 2) (jA 3)))
  (kW (mU 2 JN.nd rfl (Or.inl rfl) (jA 3))
  (lq (mU 3 JN.nd rfl (Or.inl rfl) (jA 4))))))
  (lq (mD (nY (jD (jY tM (jA 0) (jA 2)) (jD (jY tM (jA 1) (jA 2)) jH))))))))
def asM:lU ["_law_cell"] ["_law_cell"] (j8 aa7):=by walk_at "sc"
def aov(T:Tx K mg a)(F:lO K "_law_fraction" "_law_fraction" aa7 f fd)
 (aey:km P w K mg base (jF P w) 1 "_law_lowest" Yh<|kj 2 K Ks):
   jZ P w K mg base (jF P w) 2 f fd ["_law_cell"] (kj 1 K λds=>jM<|IV a Ks<|jP 1 ds):=
  pC F asM λcdv A outer s H E hr=>(kW (oH (lQ o8 (jY qP (jA 0) jG) jG) (lq (mD (nY (jD (jY qP (jY tM (jA 0) jG) jG) (jD jG jH))))) oU)
   (kW (oH (lQ o8 (jY qP (jA 0) jG) jG) (lq (mD (mC aey hr rfl jV rfl (jD (jY qP (jY tM (jA 0) jG) jG) (jD (jY lZ jG (jY qP (jY tM (jA 0) jG) jG)) jH))))) oU)
   (lq (mD (mC aey hr rfl jV rfl (jD (jY qP (jY tM (jA 0) jG) (jY apo jG jG)) (jD (jY lZ jG (jY qP (jY GF (jA 0) jG) jG)) jH)))))))
def aaT:lU ["_law_cell","_law_k","_law_size","_law_place"] ["_law_cell","_law_k"] (j8 abb):=by walk_at "sc"
def aoz(T:Tx K mg a)(F:lO K "_law_mast" "_law_mast" abb f fd):
    jZ P w K mg base (jF P w) 1 f fd ["_law_cell","_law_k"] (kj 2 K λds=>jM<|Rh a<|jP 4 ds):=
 pC F aaT λcdv A outer s H E hr=>(kW (mU 2 aaT.nd rfl (Or.inl rfl) (jY lZ jG (jY qP (jA 0) jG)))
  (kW (mU 3 aaT.nd rfl (Or.inl rfl) (jY qP (jY tM (jA 0) jG) (jA 2)))
  (lq (mD (jY lZ (jY lZ (jY GF jL (jA 3)) (lN lL jL (jY qP (jA 1) jG))) (jY GF jL (jY DQ (jY DQ (jA 2) jG) (jA 3))))))))
def aaU:lU ["_law_one","_law_text"] Dt (j8 abi):=by walk_at "sc"
def aoF(T:Tx K mg a)(F:lO K "_law_show" "_law_show" abi f fd):
    jZ P w K mg base (jF P w) 1 f fd Dt (kj 1 K λds=>jM<|Rn a<|jP 2 ds):=
 pC F aaU λcdv A outer s H E hr=>(kW (mU 1 aaU.nd rfl (Or.inl rfl) (yf K9 rfl T.za Am (jD (lN lL (jA 0) jG) jH)))
  (kW (oH (lQ u9 (lN lL (jA 0) jG) jG) (lq (mU 1 aaU.nd rfl (Or.inl rfl) (jY lZ (jY lZ (jA 1) jL) (yf K9 rfl T.za Am (jD (lN lL (jA 0) jG) jH))))) oU)
  (lq (mD (jA 1)))))
def JM:lU ["_law_head","_law_cell","_law_kind","_law_n","_law_f","_law_mast_here","_law_word"] Yi (j8 aa9):=by walk_at "sc"
def aox(T:Tx K mg a)(F:lO K "_law_leaf" "_law_leaf" aa9 f fd)
 (Xr:km P w K mg base (jF P w) 2 "_law_fraction" ["_law_cell"]<|kj 1 K Cu)
 (Xv:km P w K mg base (jF P w) 2 "_law_show" Dt<|kj 1 K Cy)
 (alJ:km P w K mg base (jF P w) 2 "_law_mast" ["_law_cell","_law_k"]<|kj 2 K Pu):
   jZ P w K mg base (jF P w) 3 f fd Yi (kj 2 K λds=>jM<|FZ a Cu Cy Pu<|jP 7 ds):=
  pC F JM λcdv A outer s H E hr=>(kW (mU 2 JM.nd rfl (Or.inl rfl) (jY qP (jA 1) jG))
   (kW (mU 3 JM.nd rfl (Or.inl rfl) (jY lZ jG (jY qP (jY tM (jA 1) jG) jG)))
   (kW (oH (lQ DP (jA 2) jG) (kW (mU 4 JM.nd rfl (Or.inl rfl) (mC Xr hr rfl jV rfl (jD (jY tM (jA 1) jG) jH)))
   (lq (mD (nY (jD (nY (jD jL (jD (jA 4) jH))) (jD (mC Xv hr rfl jV rfl (jD (jA 4) jH)) (jD jG jH))))))) oU)
   (kW (oH (lQ o8 (jA 2) jG) (lq (mD (nY (jD (nY (jD jL jH)) (jD jL (jD jG jH)))))) oU)
   (kW (oH (lQ o8 (jA 2) jG) (kW (mU 5 JM.nd rfl (Or.inl rfl) (mC alJ hr rfl jV rfl (jD (jA 0) (jD (jY tM (jA 1) jG) jH))))
   (lq (mD (nY (jD (nY (jD jL (jD (jA 5) jH))) (jD (jY lZ jL (jA 5)) (jD jG jH))))))) oU)
   (kW (mU 6 JM.nd rfl (Or.inl rfl) (lN lL (DN.de (zA (jD jL (jD jL (jD jL (jD jL jH)))))) (jY DQ (jA 2) jG)))
   (lq (mD (nY (jD (nY (jD (jA 6) (jD (jA 3) jH))) (jD (jY lZ (jY lZ (jA 6) jL) (yf K9 rfl T.za Am (jD (jA 3) jH))) (jD jG jH))))))))))))
def asO:lU Gu Gu (j8 abg):=by walk_at "sc"
def aoD(T:Tx K mg a)(F:lO K "_law_put" "_law_put" abg f fd):
    jZ P w K mg base (jF P w) 1 f fd Gu (kj 3 K λds=>jM<|Rk a<|jP 3 ds):=
 pC F asO λcdv A outer s H E hr=>(kW (oH (lQ DP (lN lL (jA 0) jG) (jA 1)) (lq (mD (jY lZ (jY lZ (lN lL (jA 2) jG) (lN lL (jA 0) jG)) (lN lL (jA 2) jG)))) oU)
  (lq (mD (lN lL (jA 0) jG))))
def ahg:lU ["_law_one","_law_other","_law_sign","_law_text"] Du (j8 abl):=by walk_at "sc"
def aoI(T:Tx K mg a)(F:lO K "_law_sum" "_law_sum" abl f fd)
 (Bc:km P w K mg base (jF P w) 1 "_law_put" Gu<|kj 3 K uq):
   jZ P w K mg base (jF P w) 2 f fd Du (kj 3 K λds=>jM<|Rq a uq<|jP 4 ds):=
  pC F ahg λcdv A outer s H E hr=>(kW (mU 3 ahg.nd rfl (Or.inl rfl) (jY lZ (jY lZ (jY lZ (jY lZ (mC Bc hr rfl jV rfl (jD (jA 0) (jD jG (jD jL jH)))) jL) (jA 2)) jL) (mC Bc hr rfl jV rfl (jD (jA 1) (jD jG (jD jL jH))))))
   (lq (mD (nY (jD (nY (jD (jA 2) (jD (lN lL (jA 0) jG) (jD (lN lL (jA 1) jG) jH)))) (jD (jA 3) (jD jG jH)))))))
def ahe:lU ["_law_one","_law_cell","_law_f"] ["_law_one","_law_cell"] (j8 abe):=by walk_at "sc"
def aoB(T:Tx K mg a)(F:lO K "_law_over_term" "_law_over_term" abe f fd)
 (Xr:km P w K mg base (jF P w) 2 "_law_fraction" ["_law_cell"]<|kj 1 K Cu)
 (Xv:km P w K mg base (jF P w) 2 "_law_show" Dt<|kj 1 K Cy)
 (Bc:km P w K mg base (jF P w) 2 "_law_put" Gu<|kj 3 K uq):
   jZ P w K mg base (jF P w) 3 f fd ["_law_one","_law_cell"] (kj 2 K λds=>jM<|LC a Cu Cy uq<|jP 3 ds):=
  pC F ahe λcdv A outer s H E hr=>(kW (oH (lQ o8 (jY qP (jA 1) jG) jG) (lq (mD (nY (jD (nY (jD jL (jD (lN lL (jA 0) jG) jH))) (jD (jY lZ (jY lZ jL (lN lL (jA 0) jG)) jL) (jD jG jH)))))) oU)
   (kW (mU 2 ahe.nd rfl (Or.inl rfl) (mC Xr hr rfl jV rfl (jD (jY tM (jA 1) jG) jH)))
   (lq (mD (nY (jD (nY (jD jL (jD (jA 2) (jD (lN lL (jA 0) jG) jH)))) (jD (jY lZ (jY lZ (mC Xv hr rfl jV rfl (jD (jA 2) jH)) jL) (mC Bc hr rfl jV rfl (jD (jA 0) (jD jG (jD jL jH))))) (jD jG jH))))))))
def asK:lU Du Du (j8 aa3):=by walk_at "sc"
def aor(T:Tx K mg a)(F:lO K "_law_compared" "_law_compared" aa3 f fd):
    jZ P w K mg base (jF P w) 1 f fd Du (kj 3 K λds=>jM<|Q9 a<|jP 3 ds):=
 pC F asK λcdv A outer s H E hr=>(lq<|mD<|nY<|jD (nY<|jD (jA 2)<|jD (lN lL (jA 0) jG)<|jD (lN lL (jA 1) jG) jH)<|jD (jY lZ (jY lZ (jY lZ (jY lZ (lN lL (jA 0) jG) jL)<|jA 2) jL)<|lN lL (jA 1) jG)<|jD jG jH)
def aaS:lU ["_law_one","_law_other","_law_word","_law_rank","_law_text"] Su (j8 aa8):=by walk_at "sc"
def aow(T:Tx K mg a)(F:lO K "_law_joined" "_law_joined" aa8 f fd)
 (Bc:km P w K mg base (jF P w) 1 "_law_put" Gu<|kj 3 K uq):
   jZ P w K mg base (jF P w) 2 f fd Su (kj 3 K λds=>jM<|Rf a uq<|jP 5 ds):=
  pC F aaS λcdv A outer s H E hr=>(kW (mU 3 aaS.nd rfl (Or.inl rfl) (jY lZ jG (yf adm rfl T.Ai CZ (jD (zq o8 (jA 2) jL) jH))))
   (kW (mU 4 aaS.nd rfl (Or.inl rfl) (jY lZ (jY lZ (jY lZ (jY lZ (mC Bc hr rfl jV rfl (jD (jA 0) (jD (jA 3) (jD jL jH)))) jL) (jA 2)) jL) (mC Bc hr rfl jV rfl (jD (jA 1) (jD (jY lZ (jA 3) jG) (jD jL jH))))))
   (lq (mD (nY (jD (nY (jD (jA 2) (jD (lN lL (jA 0) jG) (jD (lN lL (jA 1) jG) jH)))) (jD (jA 4) (jD (jA 3) jH))))))))
def asL:lU Dt Dt (j8 aa5):=by walk_at "sc"
def aot(T:Tx K mg a)(F:lO K "_law_denied" "_law_denied" aa5 f fd)
 (Bc:km P w K mg base (jF P w) 1 "_law_put" Gu<|kj 3 K uq):
   jZ P w K mg base (jF P w) 2 f fd Dt (kj 1 K λds=>jM<|Rb a uq<|jP 1 ds):=
  pC F asL λcdv A outer s H E hr=>(lq<|mD<|nY<|jD (nY<|jD jL<|jD (lN lL (jA 0) jG) jH)<|jD (jY lZ jL<|mC Bc hr rfl jV rfl<|jD (jA 0)<|jD jG<|jD jL jH)<|jD jG jH)
def ahf:lU ["_law_terms","_law_conds","_law_made"] Yj (j8 abh):=by walk_at "sc"
def aoE(T:Tx K mg a)(F:lO K "_law_rest" "_law_rest" abh f fd):
    jZ P w K mg base (jF P w) 1 f fd Yj (kj 2 K λds=>jM<|Rm a<|jP 3 ds):=
 pC F ahf λcdv A outer s H E hr=>(kW (mU 2 ahf.nd rfl (Or.inl rfl) (jY lZ (jA 1) (jY tM (jY lZ (jA 0) jG) jG)))
  (lq (mD (jY lZ (jY lZ (jY lZ (jY tM (jY lZ (jA 0) jG) jG) (jY qP (jA 0) jG)) (n8 (V9 rfl) rfl T.Qn V3 (jD jG (jD (jY DQ (jA 2) jG) jH)))) (jY GF jG (yf adm rfl T.Ai CZ (jD (zq o8 (jA 2) jG) jH)))))))
def G4:lU ["_law_state","_law_cell","_law_head","_law_terms","_law_conds","_law_kind","_law_other"] Yk (j8 abj):=by walk_at "sc"
def aoG(T:Tx K mg a)(F:lO K "_law_step" "_law_step" abj f fd)
 (alQ:km P w K mg base (jF P w) 3 "_law_sum" Du<|kj 3 K Py)
 (alL:km P w K mg base (jF P w) 3 "_law_over_term" ["_law_one","_law_cell"]<|kj 2 K Px)
 (Xq:km P w K mg base (jF P w) 3 "_law_compared" Du<|kj 3 K xj)
 (alG:km P w K mg base (jF P w) 3 "_law_denied" Dt<|kj 1 K Pn)
 (Xu:km P w K mg base (jF P w) 3 "_law_joined" Su<|kj 3 K xm)
 (alI:km P w K mg base (jF P w) 3 "_law_leaf" Yi<|kj 2 K Pq):
   jZ P w K mg base (jF P w) 4 f fd Yk (kY 3 K λzs S=>kE<|Ro a Py Px xj Pn xm Pq S.length (lg 7 zs) S):=
  vU F G4 λb cdv A outer s H E hr=>(lC (pF 3 G4.nd rfl (Or.inl rfl) (yL hr.units (lu 0) jL))
   (lC (pF 4 G4.nd rfl (Or.inl rfl) (yL hr.units (lu 0) jL))
   (lC (pF 5 G4.nd rfl (Or.inl rfl) (kJ (jY qP (jA 1) jG)))
   (lC (q8 (Cg (DW.dt (Lg (lQ (xD hr.units) (jA 5) (nY (jD jG (jD jG jH)))) (Lh (lQ u9 (n8 rR rfl T.qD qM (jD (jA 3) jH)) jG))))) (lC (pF 6 G4.nd rfl (Or.inl rfl) (wZ 3 aH bA bG))
   (mG (xP 3 aH bj bw (xO alQ hr rfl jV rfl (kO (wZ 3 aH bA bG) (kO (kJ (jA 6)) (kO (kJ (lN lL (DN.de (zA (jD jL (jD jL jH)))) (jY DQ (jA 5) jG))) mK))))))) (mG (q8 (ZW.zt (aiQ (Cd (lQ (xD hr.units) (jA 5) (nY (jD jG (jD jG jH))))) (aiQ (Cg (lQ u9 (n8 rR rfl T.qD qM (jD (jA 3) jH)) jG)) (avB (wy DP (yL hr.units (lu 0) jL) (kJ jG)))))) (lC (xP 3 aH bj bw (xO alL hr rfl jV rfl (kO (wZ 3 aH bA bG) (kO (kJ (jY tM (jA 1) jG)) mK))))
   (mG (aiO hr.units (lu 0) jL (Kh lZ (yL hr.units (lu 0) jL) (kJ jG))))) (mG (q8 (Cg (DW.dt (Lg (lQ (xD hr.units) (jA 5) (nY (jD jG (jD jG jH)))) (Lh (lQ u9 (n8 rR rfl T.qD qM (jD (jA 3) jH)) jG))))) (lC (pF 6 G4.nd rfl (Or.inl rfl) (wZ 3 aH bA bG))
   (mG (xP 4 aH bj bw (xO Xq hr rfl jV rfl (kO (wZ 3 aH bA bG) (kO (kJ (jA 6)) (kO (kJ (lN lL (DN.de (zA (jD jL (jD jL jH)))) (jY DQ (jA 5) jG))) mK))))))) (mG (q8 (Cg (DW.dt (Lg (lQ o8 (jA 5) jG) (Lh (lQ u9 (n8 rR rfl T.qD qM (jD (jA 4) jH)) jG))))) (mG (xP 4 aH bj bw (xO alG hr rfl jV rfl (kO (wZ 4 aH bA bG) mK)))) (mG (q8 (Cg (DW.dt (Lg (lQ (xD hr.units) (jA 5) (nY (jD jG (jD jG jH)))) (Lh (lQ u9 (n8 rR rfl T.qD qM (jD (jA 4) jH)) jG))))) (lC (pF 6 G4.nd rfl (Or.inl rfl) (wZ 4 aH bA bG))
   (mG (xP 4 aH bj bw (xO Xu hr rfl jV rfl (kO (wZ 4 aH bA bG) (kO (kJ (jA 6)) (kO (kJ (lN lL (DN.de (zA (jD jL (jD jL jH)))) (jY DQ (jA 5) jG))) mK))))))) (mG (xP 3 aH bj bw (kJ (mC alI hr rfl jV rfl (jD (jA 2) (jD (jY tM (jA 1) jG) jH)))))))))))))))
   (mG (aiO hr.units (lu 0) jL (Kh lZ (yL hr.units (lu 0) jL) (kJ jG))))))))
def JL:lU ["_law_state","_law_word","_law_terms","_law_conds","_law_here","_law_other"] Yl (j8 aa6):=by walk_at "sc"
def aou(T:Tx K mg a)(F:lO K "_law_ended" "_law_ended" aa6 f fd)
 (Xq:km P w K mg base (jF P w) 2 "_law_compared" Du<|kj 3 K xj)
 (Xu:km P w K mg base (jF P w) 2 "_law_joined" Su<|kj 3 K xm):
   jZ P w K mg base (jF P w) 3 f fd Yl (kY 2 K λzs S=>kE<|Rc a xj xm S.length (lg 6 zs) S):=
  vU F JL λb cdv A outer s H E hr=>(lC (pF 2 JL.nd rfl (Or.inl rfl) (yL hr.units (lu 0) jL))
   (lC (pF 3 JL.nd rfl (Or.inl rfl) (yL hr.units (lu 0) jL))
   (lC (pF 4 JL.nd rfl (Or.inl rfl) (kJ (nY (jD (nY (jD jL jH)) (jD jL (jD jG jH))))))
   (lC (q8 (Cg (lQ o8 (jY lZ (n8 rR rfl T.qD qM (jD (jA 2) jH)) (n8 rR rfl T.qD qM (jD (jA 3) jH))) jG)) (mG (xP 2 aH bj bw (kJ (jA 4)))) uh)
   (lC (q8 (Cg (lQ o8 (jY qP (n8 rR rfl T.qD qM (jD (jA 2) jH)) jG) jG)) (mG (xP 2 aH bj bw (kJ (jA 4)))) uh)
   (lC (O9 100 xF (Cg (lQ u9 (n8 rR rfl T.qD qM (jD (jA 2) jH)) jG)) (lC (pF 5 JL.nd rfl (Or.inl rfl) (wZ 2 aH bA bG))
   (mG (xP 3 aH bj bw (xO Xq hr rfl jV rfl (kO (wZ 2 aH bA bG) (kO (kJ (jA 5)) (kO (kJ jL) mK))))))))
   (lC (O9 100 xF (Cg (lQ u9 (n8 rR rfl T.qD qM (jD (jA 3) jH)) jG)) (lC (pF 5 JL.nd rfl (Or.inl rfl) (wZ 3 aH bA bG))
   (mG (xP 3 aH bj bw (xO Xu hr rfl jV rfl (kO (wZ 3 aH bA bG) (kO (kJ (jA 5)) (kO (kJ (jA 1)) mK))))))))
   (mG (rH (avw (lN lL (jA 3) jG)))))))))))
def Oj:lU ["_law_head","_law_cells","_law_word","_law_state","_law_cell","_law_many","_law_rest_here"] Ym (j8 aa4):=by walk_at "sc"
def aos(T:Tx K mg a)(F:lO K "_law_condition" "_law_condition" aa4 f fd)
 (aez:km P w K mg base (jF P w) 4 "_law_rest" Yj<|kj 2 K Eo)
 (alO:km P w K mg base (jF P w) 4 "_law_step" Yk<|kY 3 K Hv)
 (alH:km P w K mg base (jF P w) 4 "_law_ended" Yl<|kY 2 K Hu):
   jZ P w K mg base (jF P w) 5 f fd Ym (kY 3 K λzs S=>kE<|Ra a Eo Hv Hu S.length (lg 7 zs) S):=
  vU F Oj λb cdv A outer s H E hr=>(lC (pF 3 Oj.nd rfl (Or.inl rfl) (avs (U5 (U4 (zA jH)) (U5 (U4 (zA jH)) (U5 (kJ jG) (U5 (kJ jG) avy))))))
   (lC (aiP xF rfl (An (jA 1)) (aiM 4 Oj.nd rfl (Or.inl rfl)) (lC (pF 5 Oj.nd rfl (Or.inl rfl) (acp rfl rfl T.qD qM (yL hr.units (lu 3) jL)))
   (lC (pF 6 Oj.nd rfl (Or.inl rfl) (aiL (V9 rfl) rfl T.Qn V3 (kO (xO aez hr rfl jV rfl (kO (acp rfl rfl T.qD qM (yL hr.units (lu 3) jL)) (kO (kJ (jA 5)) mK))) (kO (xO aez hr rfl jV rfl (kO (Kh lZ (acp rfl rfl T.qD qM (yL hr.units (lu 3) jL)) (kJ jG)) (kO (kJ (jA 5)) mK))) mK))))
   (lC (q8 (wy u9 (Kh lZ (Kh lZ (yL hr.units (lu 3) jL) (kJ jG)) (kJ (jA 6))) (kJ jG)) (mG avz) uh)
   (mG (ug (tU alO hr rfl jV rfl (kO (lu 3) (kO (kJ (jA 4)) (kO (kJ (jA 0)) mK))))))))))
   (mG (rH (tU alH hr rfl jV rfl (kO (lu 3) (kO (kJ (jA 2)) mK)))))))
def asH:lU Jm Jm (j8 aa1):=by walk_at "sc"
def pW(a:Ad)(uG:jO):lG:=(j6 (mZ (b1 tT (dA (oZ a.oO) (jy (dV 1) (jy (dC (.ty "tuple")) jE)))) (j6 (mZ (uv (rP (b1 tT (dA (oZ a.oO) (jy (dV 0) (jy (dC (.ty "tuple")) jE))))) (b1 tB (d2 pM (dA lY (jy (dV 0) jE)) (dA lY (jy (dV 1) jE))))) (lM (dC (.bl false))) nA)
    (lM (dA Ag (jy (rO (uw (λρ=>((jy (dA lY (jy (dV 1) jE)) jE) ρ).bind vf) 1 [1,0] (gV 0) (λ_=>.ok true) (dA uG (jy (d2 jR (dV 2) (dV 0)) (jy (d2 jR (dV 1) (dV 0)) jE))))) jE)))) nA)
    (j6 (mZ (b1 tT (dA (oZ a.oO) (jy (dV 1) (jy (dC (.ty "str")) jE)))) (lM (Dd (dA (oZ a.oO) (jy (dV 0) (jy (dC (.ty "str")) jE))) (d2 mV (dV 0) (dV 1)))) nA)
    (lM (Dd (dA (oZ a.oO) (jy (dV 0) (jy (dC (.ty "int")) jE))) (Dd (De (dA (oZ a.oO) (jy (dV 0) (jy (dC (.ty "bool")) jE)))) (d2 mV (dV 0) (dV 1)))))))
def aop{k}(T:Tx K mg a)(F:lO K "_law_alike" "_law_alike" aa1 f fd)
 (Jf:km P w K mg base (jF P w) k "_law_alike" Jm<|kj 2 K uG):
   jZ P w K mg base (jF P w) (k+1) f fd Jm (kj 2 K λds=>jM<|pW a uG<|jP 2 ds):=
  pC F asH λcdv A outer s H E hr=>(kW (oH (uY (n8 (zm T.xx) rfl T.xZ zj (jD (jA 1) (jD (zx rfl T.VM adg) jH)))) (kW (oH (DW.dt (yh (xq (uY (n8 (zm T.xx) rfl T.xZ zj (jD (jA 0) (jD (zx rfl T.VM adg) jH))))) (Di (lQ yz (n8 rR rfl T.qD qM (jD (jA 0) jH)) (n8 rR rfl T.qD qM (jD (jA 1) jH)))))) (lq (mD Df)) oU)
   (lq (mD (n8 (Qx rfl) rfl T.K6 Qu (jD (DN.de (Cj.dn (akF (Nt:=["_law_k"]) (tn:=1) (x:="_law_due") (y:="_law_found") 1 0 [(".0",.local),("_law_k",.local),("_law_alike",.globalImplicit),("_law_due",.cell),("_law_found",.cell)] (by decide) rfl (Ww rfl T.Qo (jD (n8 rR rfl T.qD qM (jD (jA 1) jH)) jH)) (λ_ _ _ _=>(zy 0 (show List.Nodup (["_law_k","_law_due","_law_found"]:List Str)from by decide+kernel) rfl (Or.inl rfl))) (by simp) (λ_ _ _ _=>Le) (λ_ _ _ _=>(mC Jf hr rfl afT rfl (jD (lN lL (jA 2) (jA 0)) (jD (lN lL (jA 1) (jA 0)) jH)))) rfl (by decide+kernel) (by decide+kernel) rfl rfl rfl rfl rfl rfl rfl rfl rfl (by decide+kernel) (by decide+kernel)))) jH))))) oU)
   (kW (oH (uY (n8 (zm T.xx) rfl T.xZ zj (jD (jA 1) (jD (zx rfl T.za Am) jH)))) (lq (mD (HX (n8 (zm T.xx) rfl T.xZ zj (jD (jA 0) (jD (zx rfl T.za Am) jH))) (FJ (zq o8 (jA 0) (jA 1)))))) oU)
   (lq (mD (HX (n8 (zm T.xx) rfl T.xZ zj (jD (jA 0) (jD (zx rfl T.Ai CZ) jH))) (HX (QG (n8 (zm T.xx) rfl T.xZ zj (jD (jA 0) (jD (zx rfl T.VL adf) jH)))) (FJ (zq o8 (jA 0) (jA 1)))))))))
def G5:lU ["_law_text","_law_cell","_law_some","_law_k"] Yn (j8 abk):=by walk_at "sc"
def Fy(a:Ad):lG:=(mZ (b1 tB (d2 mQ (d2 jR (dV 0) (dV 3)) (dC (.str "()[]+-*<=")))) (j6 (lR 2 (d2 jT (dV 2) (d2 uz (dC (.str " ")) (d2 o6 (d2 pK (dV 1) (d2 jT (dC (.int 1)) (d2 o6 (dV 3) (dC (.int 7))))) (dC (.int 3))))))
    (lR 2 (d2 jT (d2 jT (dV 2) (d2 jR (dV 0) (dV 3))) (d2 uz (dC (.str " ")) (d2 o6 (d2 pK (dV 1) (d2 jT (dC (.int 1)) (d2 o6 (dV 3) (dC (.int 5))))) (dC (.int 2))))))) (mZ (b1 tB (d2 mV (d2 jR (dV 0) (dV 3)) (dC (.str " ")))) (lR 2 (d2 jT (dV 2) (d2 uz (dC (.str " ")) (d2 jT (dC (.int 1)) (d2 o6 (d2 pK (dV 1) (d2 jT (dC (.int 1)) (d2 o6 (dV 3) (dC (.int 3))))) (dC (.int 2))))))) (lR 2 (d2 jT (dV 2) (d2 jR (dV 0) (dV 3))))))
def Rp(a:Ad):lG:=(j6 (lR 2 (dC (.str "")))
    (j6 (Oh (λρ=>((jy (dA lY (jy (dV 0) jE)) jE) ρ).bind vf) (gV 3) (Fy a))
    (lM (dV 2))))
def aoH(T:Tx K mg a)(F:lO K "_law_strewn" "_law_strewn" abk f fd):
    jZ P w K mg base (jF P w) 1 f fd Yn (kj 2 K λds=>jM<|Rp a<|jP 4 ds):=
 pC F G5 λcdv A outer s H E hr=>(kW (mU 2 G5.nd rfl (Or.inl rfl) jL)
  (kW (WK xF rfl (Ww rfl T.Qo (jD (n8 rR rfl T.qD qM (jD (jA 0) jH)) jH)) (zy 3 G5.nd rfl (Or.inl rfl)) (lq (oH (lQ (xD hr.units) (lN lL (jA 0) (jA 3)) jL) (kW (mU 2 G5.nd rfl (Or.inl rfl) (jY lZ (jA 2) (jY GF jL (jY qP (jY tM (jA 1) (jY lZ jG (jY qP (jA 3) jG))) jG))))
  (lq (mU 2 G5.nd rfl (Or.inl rfl) (jY lZ (jY lZ (jA 2) (lN lL (jA 0) (jA 3))) (jY GF jL (jY qP (jY tM (jA 1) (jY lZ jG (jY qP (jA 3) jG))) jG)))))) (lq (oH (lQ o8 (lN lL (jA 0) (jA 3)) jL) (lq (mU 2 G5.nd rfl (Or.inl rfl) (jY lZ (jA 2) (jY GF jL (jY lZ jG (jY qP (jY tM (jA 1) (jY lZ jG (jY qP (jA 3) jG))) jG)))))) (lq (mU 2 G5.nd rfl (Or.inl rfl) (jY lZ (jA 2) (lN lL (jA 0) (jA 3))))))))))
  (lq (mD (jA 2)))))
def Ue:lU ["_law_text","_law_pairs_here","_law_waiting","_law_k"] ["_law_text"] (j8 abf):=by walk_at "sc"
def HF(a:Ad):lF:=(j5 (nZ (zB (b1 tB (d2 mQ (d2 jR (dV 0) (dV 3)) (dC (.str "(["))))) (rF 2 (zD (dV 3))) pP)
    (nZ (zB (b1 tB (d2 mQ (d2 jR (dV 0) (dV 3)) (dC (.str ")]"))))) (rF 1 (zF lB (jQ (sr 2) (jQ (zD (dV 3)) jW)))) pP))
def Rj(a:Ad)(b:Nat):lF:=(j5 (mR 1 (BZ (λρ=>(jE ρ).bind tD)))
    (j5 (mR 2 (BZ (λρ=>(jE ρ).bind tD)))
    (j5 (Kf (λρ=>((jy (dA lY (jy (dV 0) jE)) jE) ρ).bind vf) (hV 3) (HF a))
    (UT b 1 (o9 (zD (rO (uw (λρ=>((dV 1) ρ).bind sX) 1 [0] (gV 0) (b1 tB (d2 pM (qT qI (dV 1) (λρ=>((dA v7 (jy (dC (.int 0)) (jy (d2 vm (d2 jR (dV 0) (dC (.int 0))) (dC (.int 3))) jE))) ρ).bind pI) (λρ=>((d2 jR (dV 0) (dC (.int 0))) ρ).bind pI)) (dC (.str "abs")))) (dV 0)))))))))
def aoC(T:Tx K mg a)(F:lO K "_law_pairs" "_law_pairs" abf f fd):
    jZ P w K mg base (jF P w) 1 f fd ["_law_text"] (kY 1 K λzs S=>kE<|Rj a S.length (lg 4 zs) S):=
 vU F Ue λb cdv A outer s H E hr=>(lC (pF 1 Ue.nd rfl (Or.inl rfl) (U4 (zA jH)))
  (lC (pF 2 Ue.nd rfl (Or.inl rfl) (U4 (zA jH)))
  (lC (aiP xF rfl (Ww rfl T.Qo (jD (n8 rR rfl T.qD qM (jD (jA 0) jH)) jH)) (aiM 3 Ue.nd rfl (Or.inl rfl)) (lC (q8 (Cd (lQ (xD hr.units) (lN lL (jA 0) (jA 3)) jL)) (mG (xP 2 aH bj bw (kJ (jA 3)))) uh)
  (mG (q8 (Cd (lQ (xD hr.units) (lN lL (jA 0) (jA 3)) jL)) (mG (xP 1 aH bj bw (z7 (kO (wZ 2 aH bA bG) (kO (kJ (jA 3)) mK))))) uh))))
  (mG (avA 1 (rH (kJ (DN.de (akD (Nt:=["_law_pair"]) (tn:=1) (x:="_law_text") 0 [(".0",.local),("_law_pair",.local),("max",.globalImplicit),("_law_text",.cell)] rfl (An (jA 1)) (λ_ _ _ _=>(zy 0 (show List.Nodup (["_law_pair","_law_text"]:List Str)from by decide+kernel) rfl (Or.inl rfl))) (by simp) (λ_ _ _ _=>adN (lQ yz (Ia JT (jA 1) (Dg (n8 (V9 rfl) rfl T.Qn V3 (jD jG (jD (jY DQ (lN lL (jA 0) jG) jG) jH)))) (Dg (lN lL (jA 0) jG))) jL)) (λ_ _ _ _=>(jA 0)) rfl (by decide+kernel) (by decide+kernel) rfl rfl rfl rfl rfl rfl (by decide+kernel) (by decide+kernel))))))))))
def Ol:lU ["_law_text","_law_pair","_law_due","_law_bare","_law_found"] Yo (j8 abd):=by walk_at "sc"
def Ri(a:Ad)(wA uG:jO):lG:=(j6 (lR 3 (d2 jT (d2 jT (qT qI (dV 0) (λ_=>.ok none) (λρ=>((d2 jR (dV 1) (dC (.int 0))) ρ).bind pI)) (qT qI (dV 0) (λρ=>((d2 jT (d2 jR (dV 1) (dC (.int 0))) (dC (.int 1))) ρ).bind pI) (λρ=>((d2 jR (dV 1) (dC (.int 1))) ρ).bind pI))) (qT qI (dV 0) (λρ=>((d2 jT (d2 jR (dV 1) (dC (.int 1))) (dC (.int 1))) ρ).bind pI) (λ_=>.ok none))))
    (j6 (lR 4 (dC .non))
    (j6 (Oi (Dw a.oO a.NoText) (λρ=>((QF wA (jy (dV 3) jE)) ρ).bind λd=>if 4<ρ.length then .ok (ρ.set 4 (.sh d))else .bad) (lR 4 (dC (.str "refused"))))
    (lM (Lb (d2 FQ (dV 4) (dC (.str "refused"))) (De (dA uG (jy (dV 4) (jy (dV 2) jE)))))))))
def aoA(T:Tx K mg a)(F:lO K "_law_needed" "_law_needed" abd f fd)
 (RN:km P w K mg base (jF P w) 168 "read_condition" ["text"]<|kj 1 K wA)
 (Jf:km P w K mg base (jF P w) 168 "_law_alike" Jm<|kj 2 K uG):
   jZ P w K mg base (jF P w) 169 f fd Yo (kj 3 K λds=>jM<|Ri a wA uG<|jP 5 ds):=
  pC F Ol λcdv A outer s H E hr=>(kW (mU 3 Ol.nd rfl (Or.inl rfl) (jY lZ (jY lZ (Ia JT (jA 0) QJ (Dg (lN lL (jA 1) jG))) (Ia JT (jA 0) (Dg (jY lZ (lN lL (jA 1) jG) jG)) (Dg (lN lL (jA 1) jG)))) (Ia JT (jA 0) (Dg (jY lZ (lN lL (jA 1) jG) jG)) QJ)))
   (kW (mU 4 Ol.nd rfl (Or.inl rfl) aky)
   (kW (akK (Dw a.oO a.NoText) rfl rfl (aku 4 Ol.nd rfl (Or.inl rfl) (akP RN hr rfl rfl (jD (jA 3) jH))) (λ_=>(lq (mU 4 Ol.nd rfl (Or.inl rfl) jL))) (anD T.xx T.aiH) rfl T.vD)
   (lq (mD (adH (zq (apc hr.units) (jA 4) jL) (FJ (QG (mC Jf hr rfl jV rfl (jD (jA 4) (jD (jA 2) jH)))))))))))
def zQ:lU ["_law_script","_law_made","_law_due","_law_text","_law_cell","_law_wide","_law_tight","_law_sign","_law_some","_law_pair"] ["_law_script"] (j8 G3):=by walk_at "sc"
def K4(a:Ad)(yP Cr uV Cz wA uG Cw Cv:jO):lG:=(mZ (rP<|b1 tT<|dA uG<|jy (dA wA<|jy (dV 8) jE)<|jy (dV 2) jE) (lM<|dC<|.bl false) nA)
def K5(a:Ad)(yP Cr uV Cz wA uG Cw Cv:jO):lG:=(mZ (rP<|b1 tT<|dA Cv<|jy (dV 3)<|jy (dV 9)<|jy (dV 2) jE) (lM<|dC<|.bl false) nA)
def W9(a:Ad)(yP Cr uV Cz wA uG Cw Cv:jO):lG:=(j6 (lR 1 (dA Cr (jy (dA yP (jy (dV 0) (jy (dC (.int 0)) jE))) (jy (qT qI (dV 0) (λρ=>((dC (.int 2)) ρ).bind pI) (λ_=>.ok none)) (jy (d2 jR (rO (λρ=>((jy (dC (.str "and")) (jy (dC (.str "or")) jE)) ρ).bind tD)) (d2 o6 (dA yP (jy (dV 0) (jy (dC (.int 1)) jE))) (dC (.int 2)))) jE)))))
    (j6 (lR 2 (d2 jR (dV 1) (dC (.int 0))))
    (j6 (lR 3 (dA uV (jy (dV 2) jE)))
    (j6 (mZ (uv (rP (b1 tT (dA (oZ a.oO) (jy (dV 3) (jy (dC (.ty "str")) jE))))) (uv (b1 tB (d2 pM (qt "str" rn (dV 3) (jy (dC (.str "(")) jE)) (qt "str" rn (dV 3) (jy (dC (.str ")")) jE)))) (b1 tB (d2 pM (qt "str" rn (dV 3) (jy (dC (.str "[")) jE)) (qt "str" rn (dV 3) (jy (dC (.str "]")) jE)))))) (lM (dC (.bl false))) nA)
    (j6 (lR 4 (dA yP (jy (dV 0) (jy (dC (.int 1)) jE))))
    (j6 (lR 5 (dA Cz (jy (dV 3) (jy (dV 4) jE))))
    (j6 (lR 6 (dV 3))
    (j6 (aaz 7 6 " " " " "+-*<=")
    (j6 (Oh (λρ=>((rO (λρ=>((jy (dV 3) (jy (dV 5) (jy (d2 jT (d2 jT (dC (.str "  ")) (dV 5)) (dC (.str " "))) (jy (dV 6) jE)))) ρ).bind tD)) ρ).bind sX) (gV 8) (K4 a yP Cr uV Cz wA uG Cw Cv))
    (j6 (mZ (xY (b1 tB (d2 v5 (d2 jT (qt "str" rn (dV 3) (jy (dC (.str "[")) jE)) (qt "str" rn (dV 3) (jy (dC (.str "(")) jE))) (dC (.int 15)))) (rP (b1 tT (dA uG (jy (dA wA (jy (d2 jT (d2 jT (dC (.str "[")) (dV 5)) (dC (.str "]"))) jE)) (jy (dV 2) jE)))))) (lM (dC (.bl false))) nA)
    (j6 (Oh (λρ=>((dA Cw (jy (dV 3) jE)) ρ).bind sX) (gV 9) (K5 a yP Cr uV Cz wA uG Cw Cv))
    (lM (dC (.bl true))))))))))))))
def aof(T:Tx K mg a)(F:lO K "law" "law" G3 f fd)
 (Xp:km P w K mg base (jF P w) 169 "_law_cell_at" Ss<|kj 2 K yP)
 (alF:km P w K mg base (jF P w) 169 "_law_condition" Ym<|kj 3 K Cr)
 (Mv:km P w K mg base (jF P w) 169 "show_condition" ["condition"]<|kj 1 K uV)
 (alP:km P w K mg base (jF P w) 169 "_law_strewn" Yn<|kj 2 K Cz)
 (RN:km P w K mg base (jF P w) 169 "read_condition" ["text"]<|kj 1 K wA)
 (Jf:km P w K mg base (jF P w) 169 "_law_alike" Jm<|kj 2 K uG)
 (alN:km P w K mg base (jF P w) 169 "_law_pairs" ["_law_text"]<|kj 1 K Cw)
 (alK:km P w K mg base (jF P w) 169 "_law_needed" Yo<|kj 3 K Cv):
   jZ P w K mg base (jF P w) 170 f fd ["_law_script"] (kj 1 K λds=>jM<|W9 a yP Cr uV Cz wA uG Cw Cv<|jP 10 ds):=
  pC F zQ λcdv A outer s H E hr=>(kW (mU 1 zQ.nd rfl (Or.inl rfl) (mC alF hr rfl jV rfl (jD (mC Xp hr rfl jV rfl (jD (jA 0) (jD jG jH))) (jD (Ia JT (jA 0) (Dg jG) QJ) (jD (lN lL (DN.de (zA (jD jL (jD jL jH)))) (jY qP (mC Xp hr rfl jV rfl (jD (jA 0) (jD jG jH))) jG)) jH)))))
   (kW (mU 2 zQ.nd rfl (Or.inl rfl) (lN lL (jA 1) jG))
   (kW (mU 3 zQ.nd rfl (Or.inl rfl) (mC Mv hr rfl jV rfl (jD (jA 2) jH)))
   (kW (oH (DW.dt (yh (xq (uY (n8 (zm T.xx) rfl T.xZ zj (jD (jA 3) (jD (zx rfl T.za Am) jH))))) (yh (lQ yz (xn bB cP cQ Jr (jA 3) (jD jL jH)) (xn bB cP cQ Jr (jA 3) (jD jL jH))) (Di (lQ yz (xn bB cP cQ Jr (jA 3) (jD jL jH)) (xn bB cP cQ Jr (jA 3) (jD jL jH))))))) (lq (mD Df)) oU)
   (kW (mU 4 zQ.nd rfl (Or.inl rfl) (mC Xp hr rfl jV rfl (jD (jA 0) (jD jG jH))))
   (kW (mU 5 zQ.nd rfl (Or.inl rfl) (mC alP hr rfl jV rfl (jD (jA 3) (jD (jA 4) jH))))
   (kW (mU 6 zQ.nd rfl (Or.inl rfl) (jA 3))
   (kW (akH 7 6 rfl zQ.nd rfl rfl rfl rfl (by decide) rfl rfl (by decide) (by decide+kernel) (by decide+kernel) rfl rfl)
   (kW (WK xF rfl (An (DN.de (zA (jD (jA 3) (jD (jA 5) (jD (jY lZ (jY lZ jL (jA 5)) jL) (jD (jA 6) jH))))))) (zy 8 zQ.nd rfl (Or.inl rfl)) (lq (oH (xq (uY (mC Jf hr rfl jV rfl (jD (mC RN hr rfl jV rfl (jD (jA 8) jH)) (jD (jA 2) jH))))) (lq (mD Df)) oU)))
   (kW (oH (DW.dt (Lg (lQ DP (jY lZ (xn bB cP cQ Jr (jA 3) (jD jL jH)) (xn bB cP cQ Jr (jA 3) (jD jL jH))) jG) (Lh (xq (uY (mC Jf hr rfl jV rfl (jD (mC RN hr rfl jV rfl (jD (jY lZ (jY lZ jL (jA 5)) jL) jH)) (jD (jA 2) jH)))))))) (lq (mD Df)) oU)
   (kW (WK xF rfl (An (mC alN hr rfl jV rfl (jD (jA 3) jH))) (zy 9 zQ.nd rfl (Or.inl rfl)) (lq (oH (xq (uY (mC alK hr rfl jV rfl (jD (jA 3) (jD (jA 9) (jD (jA 2) jH)))))) (lq (mD Df)) oU)))
   (lq (mD Df)))))))))))))
end
end Ac
namespace FM
def g(a b:Int):Int:=(Int.gcd a b:Int)
def aeh{a:Int}(ha:0<=a):g a 0=a:=by unfold g;rw[Int.gcd_zero_right];omega
def aeg{a b:Int}(ha:0<=a)(hb:0<b):g b (a%b)=g a b:=by
 unfold g
 congr 1
 obtain⟨m,rfl⟩:=cA ha;obtain⟨n,rfl⟩:=cA (iQ hb);show Nat.gcd n ((m:Int)%(n:Int)).natAbs=Nat.gcd m n;rw[show((m:Int)%(n:Int)).natAbs=m%n from by omega];rw[Nat.gcd_comm m n,Nat.gcd_rec n m,Nat.gcd_comm]
def alb(a b:Int):g (if a<0 then -a else a) (if b<0 then -b else b)=g a b:=by
 unfold g
 congr 1
 unfold Int.gcd
 congr 1
 ·split<;>omega
 ·split<;>omega
def Xa{a b:Int}(hb:b≠0):0<g a b:=by unfold g;have h:=Int.gcd_pos_of_ne_zero_right a hb;omega
def aee(a b:Int):g a b∣a:=Int.gcd_dvd_left ..
def aef(a b:Int):g a b∣b:=Int.gcd_dvd_right ..
def dv(t b:Int):Int:=if b<0 then -(g t b)else g t b
def top(t b:Int):Int:=t.fdiv (dv t b)
def bot(t b:Int):Int:=b.fdiv (dv t b)
def FP{t b:Int}(hb:b≠0):dv t b≠0:=by have:=Xa (a:=t) hb;unfold dv;split<;>omega
def ad4{a d q:Int}(hd:d≠0)(h:a=d*q):a.fdiv d=q:=by subst h;rw[jr];exact Int.mul_fdiv_cancel q hd
def split{t b:Int}(hb:b≠0):t=dv t b*top t b/\b=dv t b*bot t b:=by
 have hd:=FP (t:=t) hb;have h1:dv t b∣t:=by
  unfold dv;split;·exact Int.neg_dvd.mpr (aee t b)
  ·exact aee t b
 have h2:dv t b∣b:=by
  unfold dv;split;·exact Int.neg_dvd.mpr (aef t b)
  ·exact aef t b
 obtain⟨p,hp⟩:=h1;obtain⟨q,hq⟩:=h2;constructor
 ·show t=dv t b*t.fdiv (dv t b);rw[ad4 hd hp];exact hp
 ·show b=dv t b*b.fdiv (dv t b);rw[ad4 hd hq];exact hq
structure yS(p q:Int):Prop where
 pos:0<q
 one:Int.gcd p q=1
def Yg{t b:Int}(hb:b≠0):yS (top t b) (bot t b):=by
 obtain⟨h1,h2⟩:=split (t:=t) hb;have hd:=FP (t:=t) hb;have hg:=Xa (a:=t) hb;have hab:(dv t b).natAbs=Int.gcd t b:=by unfold dv g;split<;>omega
 refine⟨?_,?_⟩
 ·rcases Int.lt_trichotomy b 0 with h|h|h
  ·have e:dv t b= -(g t b):=by unfold dv;rw[au h]
   rw[e]at h2;refine Int.lt_of_not_ge λhn=>?_;have:0<= -(g t b)*bot t b:=by have:=Int.mul_nonneg_of_nonpos_of_nonpos (show -(g t b)<=0 by omega) hn;exact this
   omega
  ·exact absurd h hb
  ·have e:dv t b=g t b:=by unfold dv;rw[aA<|by omega]
   rw[e]at h2;refine Int.lt_of_not_ge λhn=>?_;have:g t b*bot t b<=0:=Int.mul_nonpos_of_nonneg_of_nonpos (iQ hg) hn;omega
 ·have e:Int.gcd (dv t b*top t b) (dv t b*bot t b)=(dv t b).natAbs*Int.gcd (top t b) (bot t b):=Int.gcd_mul_left ..;rw[<-h1,<-h2,hab]at e;have hz:0<Int.gcd t b:=by unfold g at hg;omega
  exact(Nat.eq_of_mul_eq_mul_left hz<|by rw[Nat.mul_one];exact e).symm
def akn{t b:Int}(hb:b≠0):top t b*b=t*bot t b:=by
 obtain⟨h1,h2⟩:=split (t:=t) hb;have e1:top t b*b=top t b*(dv t b*bot t b):=by rw[<-h2]
 have e2:t*bot t b=(dv t b*top t b)*bot t b:=by rw[<-h1]
 rw[e1,e2];rw[<-iC,jr<|top t b]
def cop{a b c:Int}(h:Int.gcd a b=1)(d:a∣b*c):a∣c:=by
 have h':Nat.Coprime a.natAbs b.natAbs:=h;have d':a.natAbs∣b.natAbs*c.natAbs:=by rw[<-jk];exact Int.natAbs_dvd_natAbs.mpr d
 exact Int.natAbs_dvd_natAbs.mp (h'.dvd_of_dvd_mul_left d')
def amO{p q p' q':Int}(a:yS p q)(b:yS p' q')(h:p*q'=p'*q):p=p'/\q=q':=by
 obtain⟨hq,g1⟩:=a;obtain⟨Gk,g2⟩:=b;have d1:q∣q':=by
  have:q∣p*q':=by rw[h];exact Int.dvd_mul_left ..
  exact cop (by rw[Int.gcd_comm];exact g1) this
 have d2:q'∣q:=by
  have:q'∣p'*q:=by rw[<-h];exact Int.dvd_mul_left ..
  exact cop (by rw[Int.gcd_comm];exact g2) this
 have e:q=q':=Int.dvd_antisymm (iQ hq) (iQ Gk) d1 d2;subst e;exact⟨ig (by omega) h,rfl⟩
def scaled{p q k:Int}(L:yS p q)(hk:k≠0):top (p*k) (q*k)=p/\bot (p*k) (q*k)=q:=by
 have hq:q≠0:=by have:=L.pos;omega
 have hb:q*k≠0:=Int.mul_ne_zero hq hk;refine amO (Yg hb) L ?_;have c:=akn (t:=p*k) hb
 refine ig hk ?_;rw[iC,c,iC,iC,jr k]
def turned{p q k:Int}(L:yS p q)(hk:k≠0):top (0 - p*k) (0 - q*k)=p/\bot (0 - p*k) (0 - q*k)=q:=by
 have e1:0 - p*k=p*(-k):=by rw[Int.mul_neg];omega
 have e2:0 - q*k=q*(-k):=by rw[Int.mul_neg];omega
 rw[e1,e2];exact scaled L (by omega)
def adW{t b:Int}(hb:0<b):dv t b=g t b:=by unfold dv;rw[aA<|by omega]
def akN(t b:Int):(dv t b).natAbs=Int.gcd t b:=by unfold dv g;split<;>omega
def akO{t b:Int}(hb:b≠0):(dv t b).natAbs<=b.natAbs:=by rw[akN];exact Nat.le_of_dvd (by omega) (Nat.gcd_dvd_right ..)
end FM
namespace T2
open PySem PySem.NumText TM
def nD(t:Int):List Nat:=if t<0 then 45::num t.natAbs else num t.natAbs
def my(t b:Int):List Nat:=if b=1 then nD t else nD t++47::num b.natAbs
def Qy(t:Int):jB (Str.ofString<|toString t)=nD t:=by
 cases t with
 |ofNat n=>unfold nD;rw[aA<|by simp];exact Wc n
 |negSucc n=>
  unfold nD;rw[au<|Int.negSucc_lt_zero n];have e:jB (Str.ofString<|toString<|Int.negSucc n)=45::jB (Str.ofString<|toString (((n+1:Nat)):Int)):=by unfold jB;rw[gB,gB];show("-"++Nat.repr (n+1)).toList.map Char.toNat=45::((Nat.repr<|n+1).toList.map Char.toNat);rw[String.toList_append,bU];rfl
  rw[e,Wc];rfl
def kZ(c:Nat):List Nat->List (List Nat)
 |[]=>[[]]
 |x::r=>if x=c then[]::kZ c r else match kZ c r with
  |p::ps=>(x::p)::ps
  |[]=>[[x]]
def yD:kZ c (c::r)=[]::kZ c r:=by show(if c=c then[]::kZ c r else _)=_;rw[au rfl]
def Bw(h:x≠c)(e:kZ c r=p::ps):kZ c (x::r)=(x::p)::ps:=by show(if x=c then[]::kZ c r else match kZ c r with|p::ps=>(x::p)::ps|[]=>[[x]])=_;rw[aA h,e]
theorem G8:∀{l},c∉l->kZ c l=[l]
 |[],_=>rfl
 |x::r,h=>Bw (λz=>h<|by rw[z];exact bH ..) (G8 λz=>h<|aW _ z)
theorem Uh:∀{l},c∉l->kZ c (l++c::r)=l::kZ c r
 |[],_=>yD
 |x::l,h=>Bw (λz=>h<|by rw[z];exact bH ..) (Uh λz=>h<|aW _ z)
def R8(c:Nat):List (List Nat)->List Nat
 |[]=>[]
 |[p]=>p
 |p::q::r=>p++c::R8 c (q::r)
theorem ahx:∀{ps},ps≠[]->(∀p∈ps,c∉p)->kZ c (R8 c ps)=ps
 |[],h,_=>absurd rfl h
 |[p],_,h=>G8 (h p<|by simp)
 |p::q::r,_,h=>by show kZ c (p++c::R8 c (q::r))=_;rw[Uh<|h p<|by simp,ahx (by simp) λx hx=>h x<|aW _ hx]
theorem HR(c):∀l:List Str,jB (Str.join ⟨#[c]⟩ l)=R8 c (l.map jB)
 |[]=>rfl
 |[p]=>rfl
 |p::q::r=>by show jB (p++⟨#[c]⟩++Str.join ⟨#[c]⟩ (q::r))=_;rw[qi,qi,HR c<|q::r];show jB p++[c]++_=jB p++c::_;simp
def abn(x c):(Txt.split x ⟨#[c]⟩).map jB=kZ c (jB x):=by
 have h1:=StrLaws.join_split x ⟨#[c]⟩;have h2:=StrLaws.split_free x c;have h3:Txt.split x ⟨#[c]⟩≠[]:=λz=>by
  have h4:=aV jB h1;rw[z]at h4;unfold Txt.split at z;split at z;·cases z
  ·split at z;·cases z
   ·rw[StrLaws.partsBetween_eq]at z;obtain⟨p,r,e⟩:=StrLaws.partsFrom_ne x (Str.length ⟨#[c]⟩) 0 (Builtin.Str.occurrences x ⟨#[c]⟩ 0 x.length<|x.length+1);rw[e]at z;cases z
 have h5:=aV jB h1;rw[HR]at h5;rw[<-h5];refine(ahx (by simpa using h3) λp hp=>?_).symm;obtain⟨q,hq,rfl⟩:=List.mem_map.mp hp;exact h2 q hq
def dg(c:Nat):Bool:=decide (48<=c)&&decide (c<=57)
def zG(cs:List Nat):Bool:=decide (cs≠[])&&cs.all dg
def qO(cs:List Nat)(k:Nat):Bool:=decide (cs.length<=k)&&zG cs&&(decide (cs=[48])||!decide (cs.head?=some 48))
def W2(h:zG cs=true):AllDigits cs/\cs≠[]:=by unfold zG at h;simp only[aK,aM]at h;refine⟨λc hc=>?_,h.1⟩;have:=List.all_eq_true.mp h.2 c hc;unfold dg at this;simpa using this
def ak5(h:AllDigits cs)(h1:cs≠[]):zG cs=true:=by unfold zG;simp only[aK,aM];refine⟨h1,List.all_eq_true.mpr λc hc=>?_⟩;have:=h c hc;unfold dg;simpa using this
def YG{k}(h:qO cs k=true):cs.length<=k/\zG cs=true:=by unfold qO at h;simp only[aK,aM]at h;exact h.1
def afB{k}(h:(num m).length<=k):qO (num m) k=true:=by
 unfold qO;obtain⟨h1,h2,h3⟩:=anZ m;simp only[aK,aM];refine⟨⟨h,ak5 h1 h2⟩,?_⟩;rcases h3 with e|⟨c,r,e,hc⟩;·rw[e];rfl
 ·rw[e];simp[hc]
def afy(h:c<48\/57<c):c∉num m:=λz=>by have:=Nm m c z;omega
def qu(cs:List Nat):Bool:=decide (cs.head?=some 45)
def pB(cs:List Nat):List Nat:=if qu cs=true then cs.drop 1 else cs
def yF(neg:Bool)(ps:List<|List Nat):Int:=if neg=true then -((digitsVal<|ps.getD 0 []:Nat):Int)else((digitsVal<|ps.getD 0 []:Nat):Int)
def vC(ps:List<|List Nat):Int:=if ps.length=2 then((digitsVal<|ps.getD 1 []:Nat):Int)else 1
def DK(ps:List<|List Nat):Bool:=decide (ps.length<=2)&&ps.all (qO · 60)
def wg(cs:List Nat):Option (Int×Int):=
 if DK (kZ 47<|pB cs)=true then
  if vC (kZ 47<|pB cs)=0 then none else
  if my (FM.top (yF (qu cs)<|kZ 47<|pB cs)<|vC<|kZ 47<|pB cs) (FM.bot (yF (qu cs)<|kZ 47<|pB cs)<|vC<|kZ 47<|pB cs)=cs then
   some (FM.top (yF (qu cs)<|kZ 47<|pB cs)<|vC<|kZ 47<|pB cs,FM.bot (yF (qu cs)<|kZ 47<|pB cs)<|vC<|kZ 47<|pB cs)
  else none
 else none
structure Ok(t b:Int):Prop where
 low:FM.yS t b
 ht:t.natAbs<10^60
 hb:b.natAbs<10^60
def afc{t b:Int}(L:FM.yS t b):FM.top t b=t/\FM.bot t b=b:=by
 have:=FM.scaled (k:=1) L (by decide)
 rwa [jw,jw]at this
def aex(m):(num m).head?≠some 45:=λz=>afy (m:=m) (c:=45) (.inl<|by decide) (List.mem_of_mem_head? z)
def apx{t b:Int}(O:Ok t b):qu (my t b)=decide (t<0)/\kZ 47 (pB<|my t b)=if b=1 then[num t.natAbs]else[num t.natAbs,num b.natAbs]:=by
 have Ih:∀m,47∉num m:=λm=>afy (.inl<|by decide);have hd:∀r,(num t.natAbs++r).head?≠some 45:=λr z=>by
  cases e:num t.natAbs with
  |nil=>exact Np _ e
  |cons c l=>rw[e]at z;have:=aex t.natAbs;rw[e]at this;exact this z
 by_cases ht:t<0
 ·have hn:qu (my t b)=true:=by
   unfold qu my nD;rw[au ht];split<;>rfl
  refine⟨by rw[hn];simp[ht],?_⟩;unfold pB;rw[au hn];unfold my nD;rw[au ht];split;·exact G8 (Ih _)
  ·show kZ 47 (num t.natAbs++47::num b.natAbs)=_;rw[Uh<|Ih _,G8<|Ih _]
 ·have hn:qu (my t b)=false:=by
   unfold qu my nD;rw[aA ht];split;·exact aC (aex _)
   ·exact aC (hd _)
  refine⟨by rw[hn];simp[ht],?_⟩;unfold pB;rw[aA<|by rw[hn];simp];unfold my nD;rw[aA ht];split;·exact G8 (Ih _)
  ·rw[Uh<|Ih _,G8<|Ih _]
def ar0{t b:Int}(O:Ok t b):wg (my t b)=some (t,b):=by
 obtain⟨h1,h2⟩:=apx O;have hb:=O.low.pos;have lt:(num t.natAbs).length<=60:=Gz (k:=59) O.ht;have lb:(num b.natAbs).length<=60:=Gz (k:=59) O.hb;have ok:DK (kZ 47<|pB<|my t b)=true:=by rw[h2];unfold DK;split<;>simp[afB lt,afB lb]
 have tp:yF (qu<|my t b) (kZ 47<|pB<|my t b)=t:=by
  rw[h1,h2];unfold yF;have e:digitsVal ((if b=1 then[num t.natAbs]else[num t.natAbs,num b.natAbs]).getD 0 [])=t.natAbs:=by split<;>exact S9 _
  rw[e];by_cases ht:t<0;·rw[au<|by simp[ht]];omega
  ·rw[aA<|by simp[ht]];omega
 have bt:vC (kZ 47<|pB<|my t b)=b:=by
  rw[h2];unfold vC;by_cases h:b=1;·rw[au h,aA<|by simp,h]
  ·rw[aA h,au<|show[num t.natAbs,num b.natAbs].length=2 from rfl];show((digitsVal<|num b.natAbs:Nat):Int)=b;rw[S9];omega
 unfold wg;rw[au ok,tp,bt,aA<|by omega,(afc O.low).1,(afc O.low).2,au rfl]
def auE(t:Int){b:Int}(hb:b≠0):(FM.top t b).natAbs<=t.natAbs/\(FM.bot t b).natAbs<=b.natAbs:=by
 obtain⟨h1,h2⟩:=FM.split (t:=t) hb;have hd:=FM.FP (t:=t) hb;have hd1:1<=(FM.dv t b).natAbs:=by omega
 have e1:t.natAbs=(FM.dv t b).natAbs*(FM.top t b).natAbs:=by rw[<-jk,<-h1]
 have e2:b.natAbs=(FM.dv t b).natAbs*(FM.bot t b).natAbs:=by rw[<-jk,<-h2]
 rw[e1,e2];exact⟨iR _ hd1,iR _ hd1⟩
def aik(h:qO cs 60=true):digitsVal cs<10^60:=by obtain⟨h1,h2⟩:=YG h;exact aG (auQ _ (W2 h2).1) (gq (by decide) h1)
def G9(c):∀l,kZ c l≠[]
 |[]=>by simp[kZ]
 |x::r=>by
  show(if x=c then[]::kZ c r else match kZ c r with|p::ps=>(x::p)::ps|[]=>[[x]])≠[];split;·simp
  ·split<;>simp
def auy(h:DK (kZ 47<|pB cs)=true):(yF (qu cs)<|kZ 47<|pB cs).natAbs<10^60/\(vC<|kZ 47<|pB cs).natAbs<10^60/\0<=vC (kZ 47<|pB cs):=by
 generalize hp:kZ 47 (pB cs)=ps at h;have ne:ps≠[]:=hp▸G9 47 _;unfold DK at h;simp only[aK,aM,dO]at h;obtain⟨hl,ha⟩:=h;cases ps with
 |nil=>exact absurd rfl ne
 |cons p r=>
  have v0:=aik (ha p<|by simp);refine⟨?_,?_⟩
  ·unfold yF;show(if _ then -((digitsVal p:Nat):Int)else((digitsVal p:Nat):Int)).natAbs<_;split<;>omega
  ·unfold vC;split
   ·rename_i h2;cases r with
    |nil=>simp at h2
    |cons q r=>have v1:=aik (ha q<|by simp);show((digitsVal q:Nat):Int).natAbs<_/\0<=((digitsVal q:Nat):Int);omega
   ·exact⟨by decide,by decide⟩
end T2
namespace T4
open PySem PySem.NumText TM
def qZ(t:Nat):List Nat:=num (t/1440)++32::(two (t%1440/60)++58::two (t%1440%60))
def dg(c:Nat):Bool:=decide (48<=c)&&decide (c<=57)
def ae3(h:t<=1000000000):(qZ t).length<=12/\(qZ t).length=(num<|t/1440).length+6:=by have:(num<|t/1440).length<=5+1:=Gz (by omega);unfold qZ two;simp;omega
def avE(t):((qZ t).drop 0).take ((qZ t).length - 6 - 0)=num (t/1440):=by
 have:(qZ t).length=(num<|t/1440).length+6:=by unfold qZ two;simp
 rw[this];unfold qZ;simp
def avF(t):((qZ t).drop ((qZ t).length - 5)).take ((qZ t).length - 3 - ((qZ t).length - 5))=two (t%1440/60):=by
 have e:(qZ t).length=(num<|t/1440).length+6:=by unfold qZ two;simp
 rw[e,show(num<|t/1440).length+6 - 5=(num<|t/1440).length+1 by omega,show(num<|t/1440).length+6 - 3 - ((num<|t/1440).length+1)=2 by omega];unfold qZ two;have z:List.drop ((num<|t/1440).length+1) (num<|t/1440)=[]:=iU (by omega);simp[List.drop_append,z]
def avG(t):((qZ t).drop ((qZ t).length - 2)).take ((qZ t).length - ((qZ t).length - 2))=two (t%1440%60):=by
 have e:(qZ t).length=(num<|t/1440).length+6:=by unfold qZ two;simp
 rw[e,show(num<|t/1440).length+6 - 2=(num<|t/1440).length+4 by omega,show(num<|t/1440).length+6 - ((num<|t/1440).length+4)=2 by omega];unfold qZ two;have z:List.drop ((num<|t/1440).length+4) (num<|t/1440)=[]:=iU (by omega);simp[List.drop_append,z]
end T4
namespace TR
open PySem PySem.NumText TM T2
def M4:List (List Nat):=[[109,97,114,107],[102,105,108,108],[104,101,114,101],[98,97,99,107],[111,110],[97,116],[97,103,111],[117,110,116,105,108],[97,98,115],[97,110,100],[111,114],[110,111,116]]
def zM(c:Nat):Bool:=decide (97<=c)&&decide (c<=122)
def uf(m:List Nat):Bool:=decide (m≠[])&&decide (m.length<=8)&&m.all zM&&!decide (m∈M4)
structure Ok(m:List Nat)(t u:Nat)(n:Int):Prop where
 m:uf m=true
 t:t<=1000000000
 u:u<=1000000000
 n:n.natAbs<10^60
def aiE(h:uf m=true):m≠[]/\m.length<=8/\(∀c∈m,97<=c/\c<=122)/\m∉M4:=by unfold uf at h;simp only[aK,aM,eG,fJ,dO]at h;refine⟨h.1.1.1,h.1.1.2,λc hc=>?_,h.2⟩;have:=h.1.2 c hc;unfold zM at this;simpa using this
end TR
set_option exponentiation.threshold 500
local macro_rules|`(tactic|walk_at "d")=>`(tactic|try simp(disch:=first|assumption|decide|exact bK rfl)only[P2.jX,P2.agp,P2.aqE,P2.Eb,P2.arA,P2.arz,P2.agE,P2.aap,P2.arj,P2.ari,P2.T5,P2.arC,P2.arD,P2.arE,P2.arB,P2.arF,P2.N6,P2.aqI,P2.aqJ,P2.ara,P2.arb,P2.agD,P2.arh,P2.arf,P2.T3,P2.ard,P2.JH,P2.Oa,P2.sS,P2.aae,P2.qY,P2.Br,P2.Tz,P2.agn,P2.aad,P2.TF,P2.aqF,P2.TJ,P2.aag,P2.agq,P2.vd,P2.tR,P2.pO,P2.Tw,P2.agr,P2.N5,P2.aaf,P2.TY,P2.arx,P2.aqN,P2.JK,P2.agH,P2.art,P2.arv,P2.aru,P2.arw,P2.agl,P2.ars,P2.TV,P2.N8,P2.agB,P2.aq2,P2.aak,P2.aqO,P2.aq9,P2.aqH,P2.aah,P2.aqG,P2.aq8,P2.agC,P2.agv,P2.agw,P2.aal,P2.aq1,P2.arn,P2.aro,P2.arc,P2.aan,P2.agz,P2.agA,P2.agk,P2.aq3,P2.aqP,P2.agm,P2.aqB,P2.agG,P2.arL,P2.agu,P2.aqL,P2.aqA,P2.aqy,P2.N7,P2.aac,P2.aqD,P2.aqC,P2.agt,P2.agy,P2.agx,P2.aqR,P2.aqQ,P2.aqT,P2.aqU,P2.aqS,P2.ark,P2.arl,P2.aqV,P2.aqY,P2.aqW,P2.aqZ,P2.aqX,P2.aq0,P2.xG,P2.Bs,P2.GX,P2.Ob,P2.T6,P2.T7,P2.agI,P2.arK,P2.agJ,P2.agK,P2.arG,P2.arH,P2.arI,P2.arJ,P2.jP,aR,fM,ak,bu,Nat.sub_self,Nat.reduceAdd,Nat.reduceSub,List.replicate_zero,eY,bz,bV,cU,List.set_cons_zero,List.set_cons_succ,dG,fB,Nat.reduceLT,Nat.zero_lt_succ,Bool.not_true,Bool.not_false,Bool.false_eq_true,reduceIte,bZ,bW,Int.reduceLT,Int.reduceEq,Int.reduceNeg,Int.reducePow,Int.reduceSub,Int.reduceAdd,Int.reduceMul,cI])
namespace WP
open PySem L2 P2 TM T2 PySem.NumText
def akz(c):Txt.contains (Str.ofString "0123456789") ⟨#[c]⟩=dg c:=by
 rw[Jd];have e:jB (Str.ofString "0123456789")=[48,49,50,51,52,53,54,55,56,57]:=by decide
 rw[e];exact TM.Yu (by decide+kernel) (by decide+kernel) (λc h=>by rw[iw];unfold dg;simp only[ne_eq,aK,aM];omega) c
def QM(z):(z=Str.ofString "")↔jB z=[]:=by
 constructor;·rintro rfl;decide
 ·intro h;exact ext (by rw[h];decide)
variable{a:Ad}
def ane(z:Str)(hz:z.length<=1000000):jM (Q6 a<|jP 1 [.str z])=.ok (.bl<|zG<|jB z):=by
 have hc:sH (gV 0) (λ_=>.ok true) (d2 vH (dV 0)<|dC<|.str "0123456789") (t7 1 [] [.sh<|.str z]) (signs z)=some ((jB z).map λc=>.bl<|dg c):=by
  have:=HS (a:=gV 0) (c:=λ_=>.ok true) (e:=d2 vH (dV 0) (dC (.str "0123456789"))) (uU:=t7 1 [] [.sh (.str z)]) (λd=>[.sh d]) (λd=>match d with|.str y=>.bl (Txt.contains "0123456789" y)|_=>.non) (signs z) λd hd=>by obtain⟨c,_,rfl⟩:=List.mem_map.mp hd;exact⟨rfl,rfl,rfl⟩
  rw[this];unfold signs;rw[dI]
  congr 1
  refine eZ λc _=>?_;show D.bl (Txt.contains "0123456789" ⟨#[c]⟩)=_;rw[akz]
 have hl:(signs z).length<=sizeLine:=by unfold signs;rw[az];exact size_of (show(jB z).length<=_ by rw[<-tH];exact hz)
 unfold Q6;walk_at "d"
 simp only[hl,dG,hc,agD,jX,agm,Qt];unfold zG;by_cases h0:z=Str.ofString ""
 ·have h1:=(QM z).mp h0;rw[h1];simp[h0,Eb,N6]
 ·have h1:jB z≠[]:=λw=>h0 ((QM z).mpr w);simp[h0,h1,Eb,N6,jt];try rfl
def am2{F:jO}(hF:∀z:Str,z.length<=1000000->F [.str z]=.ok (.bl<|zG<|jB z))(z:Str)(k:Nat)(hz:z.length<=1000000):jM (Q3 a F<|jP 2 [.str z,.int k])=.ok (.bl<|qO (jB z) k):=by
 unfold Q3;have hs:=size_of hz;walk_at "d"
 simp only[hs,hF z hz,dG,ahz,jX,aak,JK,agH];have e0:decide (z=Str.ofString "0")=decide (jB z=[48]):=by rw[bQ];simp only[aM];exact⟨λh=>by rw[h];decide,λh=>ext<|by rw[h];decide⟩
 unfold qO;have el:z.length=(jB z).length:=tH z;by_cases h1:(k:Int)<z.length
 ·have h2:¬(jB z).length<=k:=by omega
  simp[h1,h2,Eb,aap,N6]
 ·have h2:(jB z).length<=k:=by omega
  cases h3:zG (jB z)<;>by_cases h4:jB z=[48]<;>simp[h1,h2,h3,h4,e0,Eb,aap,agE,N6,T3,TJ,qY,xG,sS,jX,aah,JK,aag,agr,agu,pO,tR,agG,ahz];rw[h4]at h2;exact h2
def jz(cs:List Nat):Str:=⟨cs.toArray⟩
def uX(cs):jB (jz cs)=cs:=rfl
def uN(z):jz (jB z)=z:=ext (uX _)
def yw(cs):(jz cs).length=cs.length:=by rw[tH,uX]
def ant(i:Int):jM (Q4 a<|jP 1 [.int i])=.ok (.bl true):=by unfold Q4;iterate 3 (walk_at "d")
theorem aiw:∀(n:Nat) (x y:Int) (s2:Sl),0<=x->0<=y->y<n->
 ∃s,yI (b1 tB<|d2 pM (dV 1)<|dC<|.int 0) (VG a) n [.sh<|.int x,.sh<|.int y,s2]=.nx [.sh<|.int<|FM.g x y,.sh<|.int 0,s]
 |0,x,y,s2,hx,hy,h=>by omega
 |n+1,x,y,s2,hx,hy,h=>by
  rw[agL];by_cases z:y=0
  ·subst z;refine⟨s2,?_⟩;walk_at "d"
   rw[FM.aeh hx]
  ·have hp:0<y:=by omega
   have hm:=ik x hp;obtain⟨s,e⟩:=aiw n y (x%y) (.sh<|.int<|x%y) hy (iZ x z) (by omega);refine⟨s,?_⟩;unfold VG;iterate 4 (walk_at "d";try simp only[z,N8 hp])
   rw[<-FM.aeg hx hp];exact e
def am0(x y:Int)(hx:0<=x)(hy:0<=y)(h:y.natAbs<10^400):jM (QZ a<|jP 3 [.int x,.int y])=.ok (.int<|FM.g x y):=by
 obtain⟨s,e⟩:=aiw (a:=a) 10000000000000000000000000000000000000000000000000000000000000000000000000000000000000000000000000000000000000000000000000000000000000000000000000000000000000000000000000000000000000000000000000000000000000000000000000000000000000000000000000000000000000000000000000000000000000000000000000000000000000000000000000000000000000000000000000000000000000000000000000000000000000000000000000000000000000000 x y .no hx hy (by omega);unfold QZ;walk_at "d"
 rw[e];walk_at "d"
def QK{t b:Int}(hb:b≠0)(h:b.natAbs<10^400):(FM.dv t b).natAbs<10^400:=by have:=FM.akO (t:=t) (b:=b) hb;omega
abbrev fr(t b:Int):D:=.tup [.int<|FM.top t b,.int<|FM.bot t b]
def amY{Fw Fg:jO}(hw:∀i:Int,Fw [.int i]=.ok (.bl true))(hg:∀x y:Int,0<=x->0<=y->y.natAbs<10^400->Fg [.int x,.int y]=.ok (.int<|FM.g x y))(t b:Int)(hb:b≠0)(h:b.natAbs<10^400):
    jM (Q0 a Fw Fg<|jP 3 [.int t,.int b])=.ok (fr t b):=by
 have g1:=hg (if t<0 then -t else t) (if b<0 then -b else b) (by split<;>omega) (by split<;>omega) (by split<;>omega);rw[FM.alb t b]at g1;have d1:=TQ (i:=t) (FM.FP (t:=t) (b:=b) hb) (QK hb h);have d2:=TQ (i:=b) (FM.FP (t:=t) (b:=b) hb) (QK hb h);unfold Q0;by_cases b1:b<0
 ·have e:FM.dv t b= -(FM.g t b):=by unfold FM.dv;rw[au b1]
  rw[au b1]at g1;rw[e]at d1 d2;iterate 8 (walk_at "d";try simp only[hw,hb,b1,g1,d1,d2,bW,bZ])
  unfold fr FM.top FM.bot;rw[e]
 ·have e:FM.dv t b=FM.g t b:=by unfold FM.dv;rw[aA b1]
  rw[aA b1]at g1;rw[e]at d1 d2;iterate 8 (walk_at "d";try simp only[hw,hb,b1,g1,d1,d2,bW,bZ])
  unfold fr FM.top FM.bot;rw[e]
def amJ{t:Int}(h:t.natAbs<10^400):(nD t).length<=402:=by
 have:=Gz (k:=399) (m:=t.natAbs) h;unfold nD;split;·rw[ak];omega
 ·omega
def len_str{t:Int}(h:t.natAbs<10^400):(Str.ofString<|toString t).length<=402:=by rw[tH,Qy];exact amJ h
def Ys(t b:Int)(hb:0<b)(h1:t.natAbs<10^400)(h2:b.natAbs<10^400):jM (Lw a<|jP 3 [.tup [.int t,.int b]])=.ok (.str<|jz<|my t b):=by
 have i0:L2.lH [D.int t,D.int b] 0=some (.int t):=rfl;have i1:L2.lH [D.int t,D.int b] 1=some (.int b):=rfl;have s1:=aaq h1;have f1:=aai h1;have f2:=aai h2;have l1:=len_str h1;have l2:=len_str h2;have e1:=Qy t;have e2:=Qy b;generalize hx:Str.ofString (toString t)=x at*;generalize hy:Str.ofString (toString b)=y at*;have c0:jB Str.empty=[]:=rfl;have c1:jB (Str.ofString "/")=[47]:=by decide
 have z1:(Str.empty++x).length<=sizeLine:=size_of (by rw[tH,qi,c0,bV,<-tH];omega);have z2:(Str.empty++x++Str.ofString "/").length<=sizeLine:=size_of (by rw[tH,qi,qi,c0,c1,bV,aq,<-tH,bF];omega);have z3:(Str.empty++x++Str.ofString "/"++y).length<=sizeLine:=size_of (by rw[tH,qi,qi,qi,c0,c1,bV,aq,aq,<-tH,<-tH,bF];omega);unfold Lw;by_cases RC:b=1
 ·have ez:x=jz (my t b):=ext (by rw[uX,e1];unfold my;rw[au RC]);subst RC;rw[<-ez];iterate 6 (walk_at "d";try simp only[i0,i1,s1,bZ])
 ·have ez:Str.empty++x++Str.ofString "/"++y=jz (my t b):=ext (by
   rw[uX];simp only[qi,c0,c1,e1,e2];unfold my;rw[aA RC];have:nD b=num b.natAbs:=by unfold nD;rw[aA<|by omega]
   rw[this];simp)
  iterate 8 (walk_at "d";try simp only[i0,i1,RC,f1,f2,au z1,au z2,au z3,bW])
  rw[<-ez]
variable{a:Ad}
def atr(x):Txt.startswith x (Str.ofString "-")=qu (jB x):=by
 obtain⟨⟨l⟩⟩:=x;unfold Txt.startswith Builtin.Str.subAt qu;cases l with
 |nil=>rfl
 |cons c r=>
  have h1:(Str.ofString "-").length=1:=by decide
  have h2:(Str.ofString "-").cps=#[45]:=by decide
  rw[h1,h2];show(decide (0+1<=(c::r).length)&&((c::r).toArray.extract 0 (0+1)==#[45]))=_;have:((c::r).toArray.extract 0 (0+1))=#[c]:=by simp
  rw[this,bQ];simp[jB]
def akb(z):jB (Txt.slice z (some 1) none)=(jB z).drop 1:=by
 rw[Qz];have e1:sx (jB z).length 0 (some 1)=min 1 (jB z).length:=rfl;have e2:sx (jB z).length (jB z).length none=(jB z).length:=rfl;rw[e1,e2];by_cases h:1<=(jB z).length
 ·rw[Nat.min_eq_left h];exact iV (by rw[cT];omega)
 ·have:jB z=[]:=List.length_eq_zero_iff.mp (by omega);rw[this];rfl
def Uq(a:Ad)(xg Cm wz:jO):lG:=
    (j6 (mZ (uv (b1 tB (d2 oV (dA lY (jy (dV 2) jE)) (dC (.int 2)))) (rP (b1 tT (dA Ag (jy (rO (uw (λρ=>((dV 2) ρ).bind sX) 1 [] (gV 0) (λ_=>.ok true) (dA xg (jy (dV 0) (jy (dC (.int 60)) jE))))) jE))))) (λρ=>toS ((jy (dC (.int 1)) jE) ρ) λds=>.ex a.NoText ["row"] ds) nA)
    (j6 (lR 3 (vR (b1 tT (dV 1)) (d1 Jt (dA intD (jy (d2 jR (dV 2) (dC (.int 0))) jE))) (dA intD (jy (d2 jR (dV 2) (dC (.int 0))) jE))))
    (j6 (lR 4 (vR (b1 tB (d2 mV (dA lY (jy (dV 2) jE)) (dC (.int 2)))) (dA intD (jy (d2 jR (dV 2) (dC (.int 1))) jE)) (dC (.int 1))))
    (j6 (mZ (b1 tB (d2 mV (dV 4) (dC (.int 0)))) (λρ=>toS ((jy (dC (.int 1)) jE) ρ) λds=>.ex a.NoText ["row"] ds) nA)
    (j6 (lR 5 (dA Cm (jy (dV 3) (jy (dV 4) jE))))
    (j6 (mZ (b1 tB (d2 pM (dA wz (jy (dV 5) jE)) (dV 0))) (λρ=>toS ((jy (dC (.int 1)) jE) ρ) λds=>.ex a.NoText ["row"] ds) nA)
    (lM (dV 5))))))))
def ar3:Ru a xg Cm wz=j6 (lR 1<|qt "str" JV (dV 0)<|jy (dC<|.str "-") jE)
    (j6 (lR 2 (vR (b1 tT (dV 1)) (qt "str" Bv (qT qI (dV 0) (λρ=>((dC (.int 1)) ρ).bind pI) (λ_=>.ok none)) (jy (dC (.str "/")) jE)) (qt "str" Bv (dV 0) (jy (dC (.str "/")) jE))))
    (Uq a xg Cm wz)):=rfl
def outF(a:Ad)(o:Option<|Int×Int):R D:=match o with
 |some (t,b)=>.ok (.tup [.int t,.int b])
 |none=>.ex a.NoText ["row"] [.int 1]
def aeJ(h:qO (jB p) 60=true):PySem.intText? p=some ((digitsVal<|jB p:Nat):Int)/\p.length<=640:=by
 obtain⟨h1,h2⟩:=YG h;obtain⟨h3,h4⟩:=W2 h2;have hl:p.length<=640:=by rw[tH];omega
 exact⟨intText_of h3 h4 hl,hl⟩
section
variable{Fn Ff Fs:jO}(hn:∀(z:Str) (k:Nat),z.length<=1000000->Fn [.str z,.int k]=.ok (.bl<|qO (jB z) k))
 (hf:∀t b:Int,b≠0->b.natAbs<10^400->Ff [.int t,.int b]=.ok (.tup [.int<|FM.top t b,.int<|FM.bot t b]))
 (hs:∀t b:Int,0<b->t.natAbs<10^400->b.natAbs<10^400->Fs [.tup [.int t,.int b]]=.ok (.str<|jz<|my t b))
include hn hf hs
theorem anr(z:Str)(ps:List Str)(hz:z.length<=1000000)(hl:∀p∈ps,p.length<=1000000)(hlen:ps.length<=1000002)(hp:ps.map jB=kZ 47 (pB<|jB z)):
 jM (Uq a Fn Ff Fs [.sh<|.str z,.sh<|.bl<|qu<|jB z,.sh<|.lst<|ps.map D.str,.no,.no,.no])=outF a (wg<|jB z):=by
 have Az:sH (gV 0) (λ_=>.ok true) (dA Fn<|jy (dV 0)<|jy (dC<|.int 60) jE) (t7 1 [] [.sh<|.str z,.sh<|.bl<|qu<|jB z,.sh<|.lst<|ps.map D.str,.no,.no,.no]) (ps.map D.str)=some (ps.map λp=>.bl<|qO (jB p) 60):=by
  have:=HS (a:=gV 0) (c:=λ_=>.ok true) (e:=dA Fn (jy (dV 0) (jy (dC (.int 60)) jE))) (uU:=t7 1 [] [.sh (.str z),.sh (.bl (qu (jB z))),.sh (.lst (ps.map D.str)),.no,.no,.no]) (λd=>[.sh d]) (λd=>match d with|.str y=>.bl (qO (jB y) 60)|_=>.non) (ps.map D.str) λd hd=>by obtain⟨p,hp,rfl⟩:=List.mem_map.mp hd;exact⟨rfl,rfl,hn p 60<|hl p hp⟩
  rw[this,dI];rfl
 have hsz:(ps.map D.str).length<=sizeLine:=by rw[az];exact aJ hlen (by decide)
 have hall:vB (ps.map λp=>D.bl<|qO (jB p) 60)=some (ps.map λp=>qO (jB p) 60):=Qt _ ps;have hok:DK (kZ 47<|pB<|jB z)=(decide (ps.length<=2)&&(ps.map λp=>qO (jB p) 60).all id):=by
  rw[<-hp];unfold DK;rw[az]
  congr 1
  simp[jt,Function.comp_def]
 have MF:(decide<|(2:Int)<((ps.map D.str).length:Nat))=!decide (ps.length<=2):=by rw[az,bQ];simp only[aM,eG,fJ];omega
 unfold Uq;cases ok:DK (kZ 47<|pB<|jB z)with
 |false=>
  have er:wg (jB z)=none:=by unfold wg;rw[aA<|by rw[ok];simp]
  rw[er];rw[ok]at hok;iterate 3 (walk_at "d";try simp only[MF,au hsz,Az,hall])
  by_cases h2:ps.length<=2
  ·have ha:(ps.map λp=>qO (jB p) 60).all id=false:=by simpa [h2]using hok.symm
   iterate 4 (walk_at "d";try simp only[h2,ha])
   rfl
  ·iterate 4 (walk_at "d";try simp only[h2])
   rfl
 |true=>
  rw[ok]at hok;have h2:ps.length<=2:=by
   by_cases h:ps.length<=2;·exact h
   ·simp[h]at hok
  have ha:(ps.map λp=>qO (jB p) 60).all id=true:=by simpa [h2]using hok.symm
  have ne:ps≠[]:=λw=>by rw[w]at hp;exact G9 47 _ hp.symm
  obtain⟨v1,v2,v3⟩:=auy ok;have er:∀T B,yF (qu<|jB z) (kZ 47<|pB<|jB z)=T->vC (kZ 47<|pB<|jB z)=B->wg (jB z)=if B=0 then none else if my (FM.top T B) (FM.bot T B)=jB z then some (FM.top T B,FM.bot T B)else none:=by intro T B e1 e2;unfold wg;rw[au ok,e1,e2]
  have fin:∀(T B:Int) (ρ:Ev),yF (qu<|jB z) (kZ 47<|pB<|jB z)=T->vC (kZ 47<|pB<|jB z)=B->∀s1 s2,
   jM ((j6 (mZ (b1 tB (d2 mV (dV 4) (dC (.int 0)))) (λρ=>toS ((jy (dC (.int 1)) jE) ρ) λds=>.ex a.NoText ["row"] ds) nA)
  (j6 (lR 5 (dA Ff (jy (dV 3) (jy (dV 4) jE))))
  (j6 (mZ (b1 tB (d2 pM (dA Fs (jy (dV 5) jE)) (dV 0))) (λρ=>toS ((jy (dC (.int 1)) jE) ρ) λds=>.ex a.NoText ["row"] ds) nA)
  (lM (dV 5))))) [.sh (.str z),s1,s2,.sh (.int T),.sh (.int B),.no])=outF a (wg (jB z)):=by
    intro T B ρ e1 e2 s1 s2;rw[e1]at v1;rw[e2]at v2 v3;rw[er T B e1 e2];by_cases hB:B=0
    ·subst hB;iterate 4 (walk_at "d")
     rfl
    ·have hB0:0<B:=by omega
     have f1:=hf T B hB (by omega);obtain⟨l1,l2⟩:=auE T hB;have low:=FM.Yg (t:=T) hB;have g1:=hs (FM.top T B) (FM.bot T B) low.pos (by omega) (by omega);rw[aA hB];by_cases e:my (FM.top T B) (FM.bot T B)=jB z
     ·have ez:jz (my (FM.top T B)<|FM.bot T B)=z:=by rw[e];exact uN z
      rw[au e];rw[ez]at g1;iterate 8 (walk_at "d";try simp only[hB,f1,g1,bZ,bW])
      rfl
     ·have ez:jz (my (FM.top T B)<|FM.bot T B)≠z:=λw=>e (by rw[<-w];rfl);rw[aA e];iterate 8 (walk_at "d";try simp only[hB,f1,g1,ez,bZ,bW])
      rfl
  obtain⟨p,r,Dq⟩:=List.exists_cons_of_ne_nil ne;have np:qO (jB p) 60=true:=by rw[Dq]at ha;simp only[aR,cF,aK]at ha;exact ha.1
  obtain⟨ip,jp⟩:=aeJ np;have i0:L2.lH (ps.map D.str) 0=some (.str p):=by rw[Dq];exact CW (j:=0) rfl
  have e1:yF (qu<|jB z) (kZ 47<|pB<|jB z)=if qu (jB z)=true then -((digitsVal<|jB p:Nat):Int)else((digitsVal<|jB p:Nat):Int):=by rw[<-hp,Dq];rfl
  have n2:¬(!decide (ps.length<=2))=true:=by simp[h2]
  by_cases hq:ps.length=2
  ·obtain⟨q,hr⟩:∃q,r=[q]:=by
    cases r with
    |nil=>rw[Dq]at hq;simp at hq
    |cons q l=>cases l with
     |nil=>exact⟨q,rfl⟩
     |cons _ _=>rw[Dq]at hq;simp at hq
   subst hr;have nq:qO (jB q) 60=true:=by rw[Dq]at ha;simp only[aR,cF,aK]at ha;exact ha.2.1
   obtain⟨iq,jq⟩:=aeJ nq;have i1:L2.lH (ps.map D.str) 1=some (.str q):=by rw[Dq];exact CW (j:=1) rfl
   have e2:vC (kZ 47<|pB<|jB z)=((digitsVal<|jB q:Nat):Int):=by rw[<-hp,Dq];rfl
   have hq2:(((ps.map D.str).length:Nat):Int)=2:=by rw[az];omega
   have F:=fin _ _ [] e1 e2 (.sh<|.bl<|qu<|jB z) (.sh<|.lst<|ps.map D.str);rw[<-F];cases hN:qu (jB z)with
   |true=>
    rw[hN]at Az;iterate 10 (walk_at "d";try simp only[MF,au hsz,Az,hall,ha,ip,iq,au jp,au jq,i0,i1,n2,hq2])
    try rfl
   |false=>
    rw[hN]at Az;iterate 10 (walk_at "d";try simp only[MF,au hsz,Az,hall,ha,ip,iq,au jp,au jq,i0,i1,n2,hq2])
    try rfl
  ·have e2:vC (kZ 47<|pB<|jB z)=1:=by
    unfold vC;rw[<-hp,az,aA hq]
   have hq2:¬(((ps.map D.str).length:Nat):Int)=2:=by rw[az];omega
   have F:=fin _ _ [] e1 e2 (.sh<|.bl<|qu<|jB z) (.sh<|.lst<|ps.map D.str);rw[<-F];cases hN:qu (jB z)with
   |true=>
    rw[hN]at Az;iterate 10 (walk_at "d";try simp only[MF,au hsz,Az,hall,ha,ip,au jp,i0,n2,hq2])
    try rfl
   |false=>
    rw[hN]at Az;iterate 10 (walk_at "d";try simp only[MF,au hsz,Az,hall,ha,ip,au jp,i0,n2,hq2])
    try rfl
end
section
variable{Fn Ff Fs:jO}(hn:∀(z:Str) (k:Nat),z.length<=1000000->Fn [.str z,.int k]=.ok (.bl<|qO (jB z) k))
 (hf:∀t b:Int,b≠0->b.natAbs<10^400->Ff [.int t,.int b]=.ok (.tup [.int<|FM.top t b,.int<|FM.bot t b]))
 (hs:∀t b:Int,0<b->t.natAbs<10^400->b.natAbs<10^400->Fs [.tup [.int t,.int b]]=.ok (.str<|jz<|my t b))
include hn hf hs
theorem agF{z:Str}(hz:z.length<=1000):Bv (.str z) [.str "/"]=.ok (.lst<|(Txt.split z ⟨#[47]⟩).map D.str):=by show(if((Str.ofString "/").length==0)=false/\z.length+2<=sizeLine then R.ok (D.lst<|(Txt.split z<|Str.ofString "/").map D.str)else .bad)=_;rw[au ⟨by decide,size_of<|by omega⟩];rfl
theorem anh(z:Str)(hz:z.length<=1000):jM (Ru a Fn Ff Fs<|jP 6 [.str z])=outF a (wg<|jB z):=by
 have sz:z.length<=sizeLine:=size_of (by omega);rw[ar3]
 have go:∀x:Str,x.length<=1000->jB x=pB (jB z)->jM (Uq a Fn Ff Fs [.sh<|.str z,.sh<|.bl<|qu<|jB z,.sh<|.lst<|(Txt.split x ⟨#[47]⟩).map D.str,.no,.no,.no])=outF a (wg<|jB z):=λx hx e=>anr hn hf hs z _ (by omega) (λp hp=>aJ (PyProof.Rows.part_short hp)<|by omega) (aJ (PyProof.Rows.split_le x _)<|by omega) (by rw[abn,e])
 have st:=atr z;cases hN:qu (jB z)with
 |true=>
  have lx:(Txt.slice z (some 1) none).length<=1000:=aJ (gK z _ _) hz;have G:=go (Txt.slice z (some 1) none) lx (by rw[akb];unfold pB;rw[au hN]);have sp:=agF hn hf hs lx;rw[hN]at st G;iterate 5 (walk_at "d";try simp only[st,au sz,sp])
  exact G
 |false=>
  have G:=go z hz (by unfold pB;rw[aA<|by rw[hN];simp]);have sp:=agF hn hf hs hz;rw[hN]at st G;iterate 5 (walk_at "d";try simp only[st,au sz,sp])
  exact G
end
open T4 (qZ ae3)
variable{a:Ad}
open T4 (qZ ae3)
variable{a:Ad}
def amQ(c):Txt.contains (Str.ofString "abcdefghijklmnopqrstuvwxyz") ⟨#[c]⟩=TR.zM c:=by
 rw[Jd];have e:jB (Str.ofString "abcdefghijklmnopqrstuvwxyz")=[97,98,99,100,101,102,103,104,105,106,107,108,109,110,111,112,113,114,115,116,117,118,119,120,121,122]:=by decide
 rw[e];exact TM.Yu (by decide+kernel) (by decide+kernel) (λc h=>by rw[iw];unfold TR.zM;simp only[ne_eq,aK,aM];omega) c
theorem agi:∀ks:List Str,v9 (ks.map D.str)=some (ks.map PyData.str)
 |[]=>rfl
 |k::ks=>by show((NZ<|.str k).bind λp=>(v9<|ks.map D.str).map (p:: ·))=_;rw[agi ks];rfl
theorem M5:∀ks:List Str,(∀k∈ks,PyData.strOk k=true)->PyData.canLayAll0 (ks.map PyData.str)=true
 |[],_=>rfl
 |k::ks,h=>by show(PyData.canLay0 (.str k)&&PyData.canLayAll0 (ks.map PyData.str))=true;rw[M5 ks λx hx=>h x<|aW _ hx,cH];exact h k (bH ..)
theorem KZ(z):∀ks:List Str,((ks.map PyData.str).any λy=>PyData.eqv y<|.str z)=decide (z∈ks)
 |[]=>by simp
 |k::ks=>by
  rw[aR,cB,KZ z ks,bQ];have e:PyData.eqv (.str k) (.str z)=(k==z):=by simp[PyData.eqv]
  rw[e];simp only[bM,gW,aM,fC];exact⟨λh=>h.imp Eq.symm id,λh=>h.imp Eq.symm id⟩
def Xl{z:Str}{ks:List Str}(hz:PyData.strOk z=true)(hk:∀k∈ks,PyData.strOk k=true):uM (.str z) (ks.map D.str)=some (decide<|z∈ks):=by show((some<|PyData.str z).bind λp=>(v9<|ks.map D.str).bind λps=>if(PyData.canLayAll0 ps&&PyData.canLay0 p&&decide (p.depth<=63))=true then some (ps.any λy=>PyData.eqv y p)else none)=_;rw[agi,dR,dR,M5 ks hk,KZ,au];show(true&&PyData.strOk z&&decide (PyData.depth (.str z)<=63))=true;rw[hz];rfl
def Ji:List Str:=[Str.ofString "mark",Str.ofString "fill",Str.ofString "here",Str.ofString "back",Str.ofString "on",Str.ofString "at",Str.ofString "ago",Str.ofString "until",Str.ofString "abs",Str.ofString "and",Str.ofString "or",Str.ofString "not"]
def amA:Ji.map jB=TR.M4:=by decide
def aeU(z):(z∈Ji)↔jB z∈TR.M4:=by rw[<-amA,List.mem_map];exact⟨λh=>⟨z,h,rfl⟩,λ⟨y,h,e⟩=>by rw[<-ext e];exact h⟩
def am3(z:Str)(hz:z.length<=1000000):jM (Q5 a<|jP 1 [.str z])=.ok (.bl<|TR.uf<|jB z):=by
 have hs:=size_of hz;have hc:sH (gV 0) (λ_=>.ok true) (d2 vH (dV 0)<|dC<|.str "abcdefghijklmnopqrstuvwxyz") (t7 1 [] [.sh<|.str z]) (signs z)=some ((jB z).map λc=>.bl<|TR.zM c):=by
  have:=HS (a:=gV 0) (c:=λ_=>.ok true) (e:=d2 vH (dV 0) (dC (.str "abcdefghijklmnopqrstuvwxyz"))) (uU:=t7 1 [] [.sh (.str z)]) (λd=>[.sh d]) (λd=>match d with|.str y=>.bl (Txt.contains "abcdefghijklmnopqrstuvwxyz" y)|_=>.non) (signs z) λd hd=>by obtain⟨c,_,rfl⟩:=List.mem_map.mp hd;exact⟨rfl,rfl,rfl⟩
  rw[this];unfold signs;rw[dI]
  congr 1
  refine eZ λc _=>?_;show D.bl (Txt.contains "abcdefghijklmnopqrstuvwxyz" ⟨#[c]⟩)=_;rw[amQ]
 have hl:(signs z).length<=sizeLine:=by unfold signs;rw[az];exact size_of (show(jB z).length<=_ by rw[<-tH];exact hz)
 have el:=tH z;have hb:=Qt TR.zM (jB z);have hid:(((jB z).map TR.zM).all id)=(jB z).all TR.zM:=by rw[jt];rfl
 unfold Q5 TR.uf;by_cases h0:z=Str.ofString ""
 ·have h1:=(QM z).mp h0;iterate 5 (walk_at "d";try simp only[h0,h1,bZ])
  have e0:jB (Str.ofString "")=[]:=by decide
  simp[e0]
 ·have h1:jB z≠[]:=λw=>h0 ((QM z).mpr w);by_cases h8:z.length<=8
  ·have hg:¬((8:Int)<((z.length:Nat):Int)):=by omega
   have Xj:(jB z).length<=8:=by omega
   cases hA:(jB z).all TR.zM with
   |false=>
    iterate 9 (walk_at "d";try simp only[h0,h1,au hs,hg,au hl,hc,hb,hid,hA,bW])
    simp
   |true=>
    have ok:PyData.strOk z=true:=by unfold PyData.strOk;rw[<-Array.all_toList];refine List.all_eq_true.mpr λc hc=>?_;have:=List.all_eq_true.mp hA c hc;unfold TR.zM at this;simp only[aK,aM]at this⊢;omega
    have kok:∀k∈Ji,PyData.strOk k=true:=by decide+kernel
    have hv:=Xl ok kok;have nin:Gx (.str z) (.tup [(.str "mark"),(.str "fill"),(.str "here"),(.str "back"),(.str "on"),(.str "at"),(.str "ago"),(.str "until"),(.str "abs"),(.str "and"),(.str "or"),(.str "not")])=.ok (.bl<|!decide (z∈Ji)):=by show(match uM (.str z) (Ji.map D.str)with|some b=>R.ok (D.bl<|!b)|none=>.bad)=_;rw[hv]
    iterate 9 (walk_at "d";try simp only[h0,h1,au hs,hg,au hl,hc,hb,hid,hA,nin,bW])
    by_cases hk:z∈Ji;·simp[hk,(aeU z).mp hk]
    ·have hk2:¬jB z∈TR.M4:=λw=>hk ((aeU z).mpr w);simp[hk,hk2,Xj,h1]
  ·have hg:(8:Int)<((z.length:Nat):Int):=by omega
   have Xj:¬(jB z).length<=8:=by omega
   iterate 7 (walk_at "d";try simp only[h0,h1,au hs,hg,bZ,bW])
   simp[Xj]
def Ej(cs:List Nat)(lo hi:Nat):Option Nat:=if qO cs (num hi).length=true/\lo<=digitsVal cs/\digitsVal cs<=hi then some (digitsVal cs)else none
def Bo(a:Ad)(o:Option Nat):R D:=match o with
 |some v=>.ok (.int (v:Nat))
 |none=>.ex a.NoText ["row"] [.int 1]
def anj{Fn:jO}(hn:∀(z:Str) (k:Nat),z.length<=1000000->Fn [.str z,.int k]=.ok (.bl<|qO (jB z) k))(z:Str)(lo hi:Nat)(hz:z.length<=1000000)(hh:hi<10^400):
    jM (Rw a Fn<|jP 4 [.str z,.int lo,.int hi])=Bo a (Ej (jB z) lo hi):=by
 have s1:yE [.int (hi:Nat)]=.ok (.str<|toString ((hi:Nat):Int)):=aaq (by omega);have c1:=Wc hi;have l1:(num hi).length<=400:=Gz (k:=399) hh;generalize hw:Str.ofString (toString ((hi:Nat):Int))=w at c1 s1;have lw:w.length=(num hi).length:=by rw[tH,c1]
 have Sw:w.length<=sizeLine:=size_of (by omega);have n1:=hn z (num hi).length hz;rw[<-lw]at n1;have Js:Fn [.str z,.int ((w.length:Nat):Int)]=.ok (.bl<|qO (jB z) (num hi).length):=by rw[n1,lw]
 unfold Rw Ej;cases hb:qO (jB z) (num hi).length with
 |false=>
  rw[hb]at Js;iterate 6 (walk_at "d";try simp only[s1,au Sw,Js])
  simp[Bo]
 |true=>
  rw[hb]at Js;obtain⟨k1,k2⟩:=YG hb;obtain⟨k3,k4⟩:=W2 k2;have j1:z.length<=640:=by rw[tH];omega
  have i1:intText? z=some ((digitsVal<|jB z:Nat):Int):=intText_of k3 k4 j1;by_cases h1:digitsVal (jB z)<lo
  ·have Av:((digitsVal<|jB z:Nat):Int)<(lo:Int):=by omega
   iterate 8 (walk_at "d";try simp only[s1,au Sw,Js,i1,au j1,Av,bZ])
   have:¬lo<=digitsVal (jB z):=by omega
   simp[Bo,this]
  ·have Av:¬((digitsVal<|jB z:Nat):Int)<(lo:Int):=by omega
   by_cases h2:hi<digitsVal (jB z)
   ·have Gf:(hi:Int)<((digitsVal<|jB z:Nat):Int):=by omega
    iterate 8 (walk_at "d";try simp only[s1,au Sw,Js,i1,au j1,Av,Gf,bZ,bW])
    have:¬digitsVal (jB z)<=hi:=by omega
    simp[Bo,this]
   ·have Gf:¬(hi:Int)<((digitsVal<|jB z:Nat):Int):=by omega
    iterate 9 (walk_at "d";try simp only[s1,au Sw,Js,i1,au j1,Av,Gf,bZ,bW])
    have g1:lo<=digitsVal (jB z):=by omega
    have g2:digitsVal (jB z)<=hi:=by omega
    simp[g1,g2,Bo]
def Nz(a:Ad)(z:Str):R D:=if TR.uf (jB z)=true then .ok (.str z)else .ex a.NoText ["row"] [.int 1]
def ank{Fi:jO}(hw:∀z:Str,z.length<=1000000->Fi [.str z]=.ok (.bl<|TR.uf<|jB z))(z:Str)(hz:z.length<=1000000):jM (Rx a Fi<|jP 1 [.str z])=Nz a z:=by
 have h:=hw z hz;unfold Rx Nz;cases e:TR.uf (jB z)with
 |false=>
  rw[e]at h;iterate 5 (walk_at "d";try simp only[h])
  try rfl
 |true=>
  rw[e]at h;iterate 5 (walk_at "d";try simp only[h])
  try rfl
def aam{f:lA}{y}(h:f ρ=.ok (.str y))(hl:(x++y).length<=sizeLine):lW f fj x ρ=fj (x++y) ρ:=by rw[agx,h];show(if(x++y).length<=sizeLine then fj (x++y) ρ else .bad)=_;rw[au hl]
end WP
namespace WR
open PySem L2 P2 WP TM T2 PySem.NumText
abbrev Tk:=List Nat
inductive Pr where
 |ok(d:D)(r:List Tk)(k b:Nat)|no|bad
abbrev PF:=List Tk->Nat->Nat->Pr
def jU:List Nat->List Nat->Bool
 |[],[]=>true
 |x::xs,y::ys=>Nat.beq x y&&jU xs ys
 |_,_=>false
theorem wD:∀x y:List Nat,jU x y=true↔x=y
 |[],[]=>by simp[jU]
 |[],_::_=>by simp[jU]
 |_::_,[]=>by simp[jU]
 |x::xs,y::ys=>by unfold jU;rw[aK,wD xs ys,Nat.beq_eq];simp
abbrev tS(t:Tk):D:=.str (jz t)
def Wv(t s):decide (jz t=s)=jU t (jB s):=by rw[bQ,aM,wD];exact⟨λh=>by rw[<-h,uX],λh=>by rw[h,uN]⟩
def ahL(t s):mV (tS t) (.str s)=.ok (.bl<|jU t<|jB s):=by rw[aah,Wv]
def ahN(t s):pM (tS t) (.str s)=.ok (.bl<|!jU t (jB s)):=by rw[agC,Wv]
theorem Wu(t):∀ks:List Str,decide (jz t∈ks)=(ks.map jB).any (jU t)
 |[]=>by simp
 |k::ks=>by rw[aR,cB,<-Wu t ks,<-Wv,bQ];simp
def ahM(t:Tk)(ks:List Str)(h:PyData.strOk (jz t)=true)(hk:∀k∈ks,PyData.strOk k=true):mQ (tS t) (.tup<|ks.map D.str)=.ok (.bl<|(ks.map jB).any (jU t)):=by show(match uM (.str<|jz t) (ks.map D.str)with|some b=>R.ok (D.bl b)|none=>.bad)=_;rw[Xl h hk,Wu]
def aus(t:Tk)(ks:List Str)(h:PyData.strOk (jz t)=true)(hk:∀k∈ks,PyData.strOk k=true):Gx (tS t) (.tup<|ks.map D.str)=.ok (.bl<|!(ks.map jB).any (jU t)):=by show(match uM (.str<|jz t) (ks.map D.str)with|some b=>R.ok (D.bl<|!b)|none=>.bad)=_;rw[Xl h hk,Wu]
def pH(x:Pr)(f:D->PF):Pr:=match x with
 |.ok d r k b=>f d r k b
 |.no=>.no
 |.bad=>.bad
def tK(f:D->D)(x:Pr):Pr:=pH x λd r k b=>.ok (f d) r k b
def nx:List Tk->Tk
 |[]=>[]
 |t::_=>t
def tk(r:List Tk)(f:Tk->List Tk->Pr):Pr:=match r with
 |[]=>.no
 |t::r=>f t r
def xp(c:Tk)(r:List Tk)(f:List Tk->Pr):Pr:=tk r λx r=>bif jU x c then f r else .no
def bg(k:Nat)(f:Nat->Pr):Pr:=bif Nat.ble k 29 then f (k+1)else .no
def en(t:Tk)(r:List Tk)(b:Nat)(f:List Tk->Nat->Pr):Pr:=tk r λx r=>bif jU x t then(bif Nat.ble b 15 then f r (b+1)else .no)else .no
def lv(t:Tk)(d:D)(r:List Tk)(k b:Nat):Pr:=tk r λx r=>bif jU x t then(match b with
 |b+1=>.ok d r k b
 |0=>.bad)else .no
def xH(t:Tk):Option (Int×Int):=match wg t with
 |some (p,q)=>if p.natAbs<1000000000/\q<1000000 then some (p,q)else none
 |none=>none
def opt{α:Type}(o:Option α)(f:α->Pr):Pr:=match o with
 |some v=>f v
 |none=>.no
def JD:List Tk:=[[98,97,99,107],[111,110],[97,103,111],[117,110,116,105,108]]
def Tr(v:Int×Int):D:=.tup [.int v.1,.int v.2]
def Jy(ps:PF):PF:=λr k b=>en [40] r b λr b=>pH (ps r k b) λd r k b=>lv [41] d r k b
def DY(pb:PF):PF:=λr k b=>bif jU (nx r) [40]then pb r k b else bg k λk=>tk r λw r=>
    bif jU w [104,101,114,101]then .ok (.tup [.str "here"]) r k b else
    bif JD.any (jU w)then tk r λt r=>opt (Ej t 1 9) λn=>.ok (.tup [tS w,.int (n:Nat)]) r k b else
    bif jU w [97,116]then tk r λt r=>(bif TR.uf t then .ok (.tup [.str "at",tS t]) r k b else .no)else
    bif jU w [97,98,115]then tK (λd=>.tup [.str "abs",d]) (pb r k b)else
    opt (xH w) λv=>.ok (.tup [.str "num",Tr v]) r k b
def Bp(psg:PF):PF:=λr k b=>bif jU (nx r.tail) [42]then tk r λf r=>opt (xH f) λv=>xp [42] r λr=>bg k λk=>tK (λd=>.tup [.str "times",Tr v,d]) (psg r k b)
 else psg r k b
def wM(pp:PF):Nat->D->PF
 |0,_,_,_,_=>.bad
 |n+1,d,r,k,b=>bif [[43],[45]].any (jU<|nx r)then tk r λs r=>bg k λk=>pH (pp r k b) λe r k b=>wM pp n (.tup [tS s,d,e]) r k b else .ok d r k b
def Jz(pp:PF):PF:=λr k b=>pH (pp r k b) λd r k b=>wM pp 100 d r k b
def GK(ps:PF):PF:=λr k b=>bg k λk=>pH (ps r k b) λd r k b=>tk r λs r=>bif [[60],[61]].any (jU s)then tK (λe=>.tup [tS s,d,e]) (ps r k b)else .no
def GQ(pn po pc:PF):PF:=λr k b=>
 bif jU (nx r) [110,111,116]then xp [110,111,116] r λr=>bg k λk=>tK (λd=>.tup [.str "not",d]) (pn r k b)else
 bif jU (nx r) [91]then en [91] r b λr b=>pH (po r k b) λd r k b=>lv [93] d r k b else pc r k b
def rZ(w:Tk)(s:Str)(pp:PF):Nat->D->PF
 |0,_,_,_,_=>.bad
 |n+1,d,r,k,b=>bif jU (nx r) w then xp w r λr=>bg k λk=>pH (pp r k b) λe r k b=>rZ w s pp n (.tup [.str s,d,e]) r k b else .ok d r k b
def xE(w:Tk)(s:Str)(pp:PF):PF:=λr k b=>pH (pp r k b) λd r k b=>rZ w s pp 100 d r k b
structure aiU where
 (su pr sg br:PF)
def f0:Nat->aiU
 |0=>⟨λ_ _ _=>.bad,λ_ _ _=>.bad,λ_ _ _=>.bad,λ_ _ _=>.bad⟩
 |n+1=>⟨Jz (f0 n).pr,Bp (f0 n).sg,DY (f0 n).br,Jy (f0 n).su⟩
structure aiV where
 (or and not:PF)
def f1:Nat->aiV
 |0=>⟨λ_ _ _=>.bad,λ_ _ _=>.bad,λ_ _ _=>.bad⟩
 |n+1=>⟨xE [111,114] "or" (f1 n).and,xE [97,110,100] "and" (f1 n).not,GQ (f1 n).not (f1 n).or (GK (f0 75).su)⟩
def pEnd(x:Pr):Pr:=pH x λd r k b=>match r with
 |[]=>.ok d r k b
 |_::_=>.no
def nF(c:Nat):Bool:=(Nat.ble 97 c&&Nat.ble c 122)||(Nat.ble 47 c&&Nat.ble c 57)
def lK(cs:List Nat):List Tk:=(kZ 32<|cs.flatMap λc=>bif nF c then[c]else[32,c,32]).filter λt=>!t.isEmpty
def parse(cs:List Nat):Pr:=pEnd ((f1 85).or (lK cs) 0 0)
def jJ(a:Ad)(T:List Tk)(p k b:Nat):lD:=[.ob a.Tokens [("tokens",.d<|.lst<|T.map tS),("place",.d<|.int p),("parts",.d<|.int k),("brackets",.d<|.int b)]]
def Rl(a:Ad)(T:List Tk)(x:RX Z):Pr->Prop
 |.ok d r k b=>∃p,T.drop p=r/\x=.ok (.d d) (jJ a T p k b)
 |.no=>∃S,x=.ex a.NoText ["row"] [.int 1] S
 |.bad=>True
def oX(a:Ad)(T:List Tk)(F:lX)(G:PF):Prop:=∀p k b,Rl a T (F [.loc 0]<|jJ a T p k b) (G (T.drop p) k b)
structure rM(T:List Tk):Prop where
 n:∀t∈T,t≠[]
 s:∀t∈T,PyData.strOk (jz t)=true
 l:T.length<=100000
section
variable{a:Ad}{T:List Tk}{p k b:Nat}{ρ:lr}{α β:Type}
def Kd:toZ (.ok x S) f=f x S:=rfl
def aiC:toZ (.ex c ns ds S) f=.ex c ns ds S:=rfl
def vq:(RX.ok x S).bind f=f x S:=rfl
def ait:(RX.ex c ns ds S).bind f=.ex c ns ds S:=rfl
def Kc:uA (.nx ρ S) f=f ρ S:=rfl
def aiB:uA (.ex c ns ds S) f=.ex c ns ds S:=rfl
def au7:uA (.rt z S) f=.rt z S:=rfl
def au9:vp (.nx ρ S) f=f ρ S:=rfl
def ava:vp (.ex c ns ds S) f=.ex c ns ds S:=rfl
def auX:kE (.rt z S)=.ok z S:=rfl
def aiv:kE (.nx ρ S)=.ok (.d .non) S:=rfl
def auY:kE (.ex c ns ds S)=.ex c ns ds S:=rfl
def wV:qQ (.ok x) S=.ok x S:=rfl
def aiD:qQ (.ex c ns ds:R α) S=.ex c ns ds S:=rfl
def qy{g}:j5 f g ρ S=uA (f ρ S) g:=rfl
def BP:pD f ρ S=toZ (f ρ S) λ_ S1=>.nx ρ S1:=rfl
def Ei:o9 f ρ S=toZ (f ρ S) .rt:=rfl
def Hd{y}:mR 1 f (z::y::ρ) S=toZ (f (z::y::ρ) S) λx S1=>.nx (z::some x::ρ) S1:=by
 unfold mR
 congr 1
 try funext x S1
 try exact au (by simp)
def abV{y}:mR 2 f (z::y::x::ρ) S=toZ (f (z::y::x::ρ) S) λv S1=>.nx (z::y::some v::ρ) S1:=by
 unfold mR
 congr 1
 try funext v S1
 try exact au (by simp)
def O5{g}:nZ c f g ρ S=toZ (c ρ S) λk S1=>bif k then f ρ S1 else g ρ S1:=by
 unfold nZ
 congr 1
 funext k S1;cases k<;>rfl
def avb:pP ρ S=.nx ρ S:=rfl
def Hj:zZ F f ρ S=(f ρ S).bind F:=rfl
def xM:jW ρ S=.ok [] S:=rfl
def wW{g}:jQ f g ρ S=(f ρ S).bind λx S1=>(g ρ S1).bind λxs S2=>.ok (x::xs) S2:=rfl
def Hi:zV 0 (some z::ρ) S=.ok z S:=rfl
def ave{y}:zV 1 (y::some z::ρ) S=.ok z S:=rfl
def yG:zD f ρ S=(qQ (f<|nQ ρ) S).bind λd S=>.ok (.d d) S:=rfl
def avc:zB f ρ S=qQ (f<|nQ ρ) S:=rfl
def Hf{g}:z2 g f h ρ S=(f ρ S).bind λx S1=>(h ρ S1).bind λy S2=>match x,y with
 |.d x,.d y=>(qQ (g x y) S2).bind λd S=>.ok (.d d) S
 |_,_=>.bad:=rfl
def Hg{g}:qK g f ρ S=(f ρ S).bind λx S1=>match x with
 |.d x=>qQ (g x) S1
 |_=>.bad:=rfl
def avd{g}:U0 c f g ρ S=(c ρ S).bind λk S1=>bif k then f ρ S1 else g ρ S1:=by
 unfold U0
 congr 1
 funext k S1;cases k<;>rfl
def zW{g}:zF g f ρ S=(f ρ S).bind λzs S1=>match rN zs with
 |some ds=>(qQ (g ds) S1).bind λd S=>.ok (.d d) S
 |none=>.bad:=rfl
def auR:rN []=some []:=rfl
def abU:rN [.d x]=some [x]:=rfl
def auS{y}:rN [.d x,.d y]=some [x,y]:=rfl
def ais{y}:rN [.d x,.d y,.d z]=some [x,y,z]:=rfl
def UG:nQ []=[]:=rfl
def UL:nQ (some (.loc n)::ρ)=.no::nQ ρ:=rfl
def UJ:nQ (some (.d x)::ρ)=.sh x::nQ ρ:=rfl
def au4:nQ (none::ρ)=.no::nQ ρ:=rfl
def auZ{d}:lB [d]=.ok (.tup [d]):=N7 (by simp)
def aiy{d}:lB [d,e]=.ok (.tup [d,e]):=N7 (by simp)
def aiz{d}:lB [d,e,f]=.ok (.tup [d,e,f]):=N7 (by simp)
def aiA{d g}:lB [d,e,f,g]=.ok (.tup [d,e,f,g]):=N7 (by simp)
def au5:leave ((λρ=>toS ((jy (dC<|.int 1) jE) ρ) λds=>RT.ex a.NoText ["row"] ds) (nQ ρ)) S=.ex a.NoText ["row"] [.int 1] S:=rfl
def au6:leave (toS (R.ok [D.int 1]) λds=>RT.ex a.NoText ["row"] ds) S=.ex a.NoText ["row"] [.int 1] S:=rfl
def au8:wu a.Tokens (zV 0) "tokens" (some (.loc 0)::ρ) (jJ a T p k b)=.ok (.d<|.lst<|T.map tS) (jJ a T p k b):=by unfold wu jJ;show(if a.Tokens=a.Tokens then _ else _)=_;rw[au rfl];rfl
def au2:wu a.Tokens (zV 0) "place" (some (.loc 0)::ρ) (jJ a T p k b)=.ok (.d<|.int p) (jJ a T p k b):=by unfold wu jJ;show(if a.Tokens=a.Tokens then _ else _)=_;rw[au rfl];rfl
def au0:wu a.Tokens (zV 0) "parts" (some (.loc 0)::ρ) (jJ a T p k b)=.ok (.d<|.int k) (jJ a T p k b):=by unfold wu jJ;show(if a.Tokens=a.Tokens then _ else _)=_;rw[au rfl];rfl
def auT:wu a.Tokens (zV 0) "brackets" (some (.loc 0)::ρ) (jJ a T p k b)=.ok (.d<|.int b) (jJ a T p k b):=by unfold wu jJ;show(if a.Tokens=a.Tokens then _ else _)=_;rw[au rfl];rfl
def au3:wX a.Tokens (zV 0) "place" (λi j=>i+j) (zD<|dC<|.int 1) (some (.loc 0)::ρ) (jJ a T p k b)=.nx (some (.loc 0)::ρ) (jJ a T (p+1) k b):=by unfold wX jJ;show(if a.Tokens=a.Tokens then _ else _)=_;rw[au rfl];show(if a.Tokens=a.Tokens/\_ then _ else _)=_;rw[au ⟨rfl,by simp⟩];rfl
def au1:wX a.Tokens (zV 0) "parts" (λi j=>i+j) (zD<|dC<|.int 1) (some (.loc 0)::ρ) (jJ a T p k b)=.nx (some (.loc 0)::ρ) (jJ a T p (k+1) b):=by unfold wX jJ;show(if a.Tokens=a.Tokens then _ else _)=_;rw[au rfl];show(if a.Tokens=a.Tokens/\_ then _ else _)=_;rw[au ⟨rfl,by simp⟩];rfl
def auU:wX a.Tokens (zV 0) "brackets" (λi j=>i+j) (zD<|dC<|.int 1) (some (.loc 0)::ρ) (jJ a T p k b)=.nx (some (.loc 0)::ρ) (jJ a T p k<|b+1):=by unfold wX jJ;show(if a.Tokens=a.Tokens then _ else _)=_;rw[au rfl];show(if a.Tokens=a.Tokens/\_ then _ else _)=_;rw[au ⟨rfl,by simp⟩];rfl
def auV:wX a.Tokens (zV 0) "brackets" (λi j=>i - j) (zD<|dC<|.int 1) (some (.loc 0)::ρ) (jJ a T p k<|b+1)=.nx (some (.loc 0)::ρ) (jJ a T p k b):=by
 unfold wX jJ;show(if a.Tokens=a.Tokens then _ else _)=_;rw[au rfl];show(if a.Tokens=a.Tokens/\_ then _ else _)=_;rw[au ⟨rfl,by simp⟩];have e:(((b+1:Nat):Int) - 1)=(b:Nat):=by omega
 show pq.nx _ [Cell.ob a.Tokens [("tokens",.d<|.lst<|T.map tS),("place",.d<|.int p),("parts",.d<|.int k),("brackets",.d<|.int<|((b+1:Nat):Int) - 1)]]=_;rw[e]
def BL{m:Str}{F:lX}{dz:List D}{fs:lr->lD->RX (List Z)}{zs:List Z}(hm:(m=="tokens")=false/\(m=="place")=false/\(m=="parts")=false/\(m=="brackets")=false)(h:fs (some (.loc 0)::ρ) (jJ a T p k b)=.ok zs (jJ a T p k b)):
    mL a.Tokens m F dz (zV 0) fs (some (.loc 0)::ρ) (jJ a T p k b)=F (.loc 0::(zs++dz.map .d)) (jJ a T p k b):=by
 unfold mL;obtain⟨h1,h2,h3,h4⟩:=hm;show(if a.Tokens=a.Tokens/\List.lookup m [("tokens",Z.d<|.lst<|T.map tS),("place",.d<|.int p),("parts",.d<|.int k),("brackets",.d<|.int b)]=none then _ else _)=_;rw[au ⟨rfl,by rw[dU,h1,dU,h2,dU,h3,dU,h4];rfl⟩,h];rfl
end
end WR
namespace P2
open PySem
end P2
namespace WC
open PySem L2 P2 WP TM T2 PySem.NumText
variable{a:Ad}
def afr(x y):jz x++jz y=jz (x++y):=by apply TM.ext;rw[qi];rfl
def Ng(x):(jz x).length=x.length:=by rw[tH];rfl
def afs(i:Int):Str.ofString (toString i)=jz (nD i):=by apply TM.ext;rw[Qy];rfl
def fits(h:n<=100000):n<=sizeLine:=size_of (by omega)
def pU{x y:List Nat}(h1:x.length<=50000)(h2:y.length<=50000):jT (.str<|jz x) (.str<|jz y)=.ok (.str<|jz<|x++y):=by show(if(jz x).length+(jz y).length<=sizeLine then R.ok (D.str<|jz x++jz y)else .bad)=_;rw[Ng,Ng,au<|fits<|by omega,afr]
def Dj{x:List Nat}(h:x.length<=50000):nH (.str<|jz x)=.ok (.str<|jz x):=by show(if(jz x).length<=sizeLine then R.ok (D.str<|jz x)else .bad)=_;rw[Ng,au<|fits<|by omega]
def ak8{i:Int}(h:i.natAbs<10^400):nH (.int i)=.ok (.str<|jz<|nD i):=by rw[aai h,afs]
def abM{i:Int}(h:i.natAbs<10^400):yE [.int i]=.ok (.str<|jz<|nD i):=by rw[aaq h,afs]
def jC{f:lA}{x:List Nat}{y}(h:f ρ=.ok (.str<|jz y))(hl:x.length+y.length<=100000):lW f fj (jz x) ρ=fj (jz<|x++y) ρ:=by show(f ρ).bind (λz=>match z with|.str y=>if(jz x++y).length<=sizeLine then fj (jz x++y) ρ else .bad|_=>.bad)=_;rw[h];show(if(jz x++jz y).length<=sizeLine then fj (jz x++jz y) ρ else .bad)=_;rw[afr,Ng,aq,au<|fits hl]
def jN{x:List Nat}(hl:x.length<=100000):rB (jz x) ρ=.ok (.str<|jz x):=by show(if(jz x).length<=sizeLine then R.ok (D.str<|jz x)else .bad)=_;rw[Ng,au<|fits hl]
def em:Str.empty=jz []:=rfl
def M9{x y z:List Nat}(h1:x.length<=30000)(h2:y.length<=100)(h3:z.length<=30000):jM (Lr a<|jP 3 [.str<|jz x,.str<|jz y,.str<|jz z])=.ok (.str<|jz<|x++32::(y++32::z)):=by have s:(dC<|.str<|Str.ofString " ") [.sh<|.str<|jz x,.sh<|.str<|jz y,.sh<|.str<|jz z]=.ok (.str<|jz [32]):=rfl;have v0:(d1 nH<|dV 0) [.sh<|.str<|jz x,.sh<|.str<|jz y,.sh<|.str<|jz z]=.ok (.str<|jz x):=Dj (by omega);have v1:(d1 nH<|dV 1) [.sh<|.str<|jz x,.sh<|.str<|jz y,.sh<|.str<|jz z]=.ok (.str<|jz y):=Dj (by omega);have v2:(d1 nH<|dV 2) [.sh<|.str<|jz x,.sh<|.str<|jz y,.sh<|.str<|jz z]=.ok (.str<|jz z):=Dj (by omega);show jM (toS ((lW (d1 nH<|dV 0)<|lW (dC<|.str " ")<|lW (d1 nH<|dV 1)<|lW (dC<|.str " ")<|lW (d1 nH<|dV 2) rB) (jz []) [.sh<|.str<|jz x,.sh<|.str<|jz y,.sh<|.str<|jz z]) RT.rt)=_;rw[jC v0<|by simp;omega,jC s<|by simp;omega,jC v1<|by simp;omega,jC s<|by simp;omega,jC v2<|by simp;omega,jN<|by simp;omega];show R.ok (D.str _)=_;simp
abbrev pr(p q:Int):D:=.tup [.int p,.int q]
inductive Tm where
 |num(p q:Int)|here|pN(w:Nat)(n:Int)|at(m:List Nat)|bin(s:Bool)(x y:Tm)|times(p q:Int)(x:Tm)|abs(x:Tm)
def wd(w:Nat):Str:=if w=0 then"back" else if w=1 then"on" else if w=2 then"ago" else"until"
def sg(s:Bool):Str:=if s=true then"+" else"-"
def Tm.k:Tm->Str
 |.num _ _=>"num"
 |.here=>"here"
 |.pN w _=>wd w
 |.at _=>"at"
 |.bin s _ _=>sg s
 |.times _ _ _=>"times"
 |.abs _=>"abs"
def Tm.d:Tm->D
 |.num p q=>.tup [.str "num",pr p q]
 |.here=>.tup [.str "here"]
 |.pN w n=>.tup [.str<|wd w,.int n]
 |.at m=>.tup [.str "at",.str<|jz m]
 |.bin s x y=>.tup [.str<|sg s,x.d,y.d]
 |.times p q x=>.tup [.str "times",pr p q,x.d]
 |.abs x=>.tup [.str "abs",x.d]
def Tm.rk:Tm->Int
 |.bin _ _ _=>1
 |.times _ _ _=>2
 |_=>3
def brk(o c:Nat)(b:Bool)(x:List Nat):List Nat:=if b=true then o::(x++[c])else x
def Tm.tx:Tm->List Nat
 |.num p q=>my p q
 |.here=>jB "here"
 |.pN w n=>jB (wd w)++32::nD n
 |.at m=>jB "at"++32::m
 |.bin s x y=>x.tx++32::(jB (sg s)++32::brk 40 41 (decide<|y.rk<2) y.tx)
 |.times p q x=>my p q++32::([42]++32::brk 40 41 (decide<|x.rk<3) x.tx)
 |.abs x=>[97,98,115,40]++(x.tx++[41])
def Tm.sz:Tm->Nat
 |.bin _ x y=>x.sz+y.sz+1
 |.times _ _ x=>x.sz+1
 |.abs x=>x.sz+1
 |_=>1
structure Fq(p q:Int):Prop where
 nn:0<=p
 low:FM.yS p q
 p:p.natAbs<10^9
 q:0<q/\q.natAbs<10^6
def Tm.Ok:Tm->Prop
 |.num p q=>Fq p q
 |.pN _ n=>1<=n/\n<=9
 |.at m=>m.length<=8/\m≠[]/\(∀c∈m,97<=c/\c<=122)/\TR.uf m=true
 |.bin _ x y=>x.Ok/\y.Ok
 |.times p q x=>Fq p q/\x.Ok
 |.abs x=>x.Ok
 |.here=>True
def Gy{i:Int}(h:i.natAbs<10^9):(nD i).length<=10:=by
 have:=Gz (k:=8) (m:=i.natAbs) h;unfold nD;split;·rw[ak];omega
 ·omega
def JR{p q:Int}(h:Fq p q):(my p q).length<=20:=by
 have h1:=Gy h.p;have h2:=Gz (k:=8) (m:=q.natAbs) (aG h.q.2<|by decide);unfold my;split;·omega
 ·rw[aq,ak];omega
def abW(w):(jB<|wd w).length<=5:=by
 unfold wd;split;·decide
 ·split;·decide
  ·split<;>decide
def aaY(s):(jB<|sg s).length=1:=by cases s<;>decide
def sG(o c b x):(brk o c b x).length<=x.length+2:=by
 unfold brk;split;·simp
 ·omega
theorem Tm.len:∀{t:Tm},t.Ok->t.tx.length<=40*t.sz
 |.num p q,h=>by have:=JR h;show(my p q).length<=40*1;omega
 |.here,_=>by decide
 |.pN w n,h=>by have h1:=abW w;have h':1<=n/\n<=9:=h;have h2:=Gy (i:=n) (by omega);show(jB (wd w)++32::nD n).length<=40*1;rw[aq,ak];omega
 |.at m,h=>by have h':m.length<=8:=h.1;show(jB "at"++32::m).length<=40*1;rw[aq,ak,show(jB "at").length=2 by decide];omega
 |.bin s x y,h=>by have h1:=Tm.len h.1;have h2:=Tm.len h.2;have h3:=aaY s;have h4:=sG 40 41 (decide<|y.rk<2) y.tx;show(x.tx++32::(jB (sg s)++32::brk 40 41 (decide<|y.rk<2) y.tx)).length<=40*(x.sz+y.sz+1);rw[aq,ak,aq,ak];omega
 |.times p q x,h=>by have h1:=JR h.1;have h2:=Tm.len h.2;have h4:=sG 40 41 (decide<|x.rk<3) x.tx;show(my p q++32::([42]++32::brk 40 41 (decide<|x.rk<3) x.tx)).length<=40*(x.sz+1);simp only[aq,ak,bu];omega
 |.abs x,h=>by have h2:=Tm.len (t:=x) h;show([97,98,115,40]++(x.tx++[41])).length<=40*(x.sz+1);simp;omega
def Tm.pos(t:Tm):1<=t.sz:=by cases t<;>simp[Tm.sz]
def Tm.d0(t:Tm):∃r,t.d=.tup (.str t.k::r):=by cases t<;>exact⟨_,rfl⟩
def afo{Fs:jO}{t:Tm}(h:Fs [t.d]=.ok (.str<|jz t.tx))(hl:t.tx.length<=20000)(hb:mQ (.str t.k) L=.ok (.bl b)):
    jM (Ly a Fs<|jP 3 [t.d,L])=.ok (.str<|jz<|brk 40 41 b t.tx):=by
 obtain⟨r,e⟩:=t.d0;rw[e]at h⊢;have M3:L2.lH (D.str t.k::r) ((0:Nat):Int)=some (.str t.k):=CW rfl;have i0:L2.lH (D.str t.k::r) 0=some (.str t.k):=M3;have s1:(dC<|.str<|Str.ofString "(") [.sh<|.tup<|.str t.k::r,.sh L,.sh<|.str<|jz t.tx]=.ok (.str<|jz [40]):=rfl;have s2:(dC<|.str<|Str.ofString ")") [.sh<|.tup<|.str t.k::r,.sh L,.sh<|.str<|jz t.tx]=.ok (.str<|jz [41]):=rfl;have v2:(d1 nH<|dV 2) [.sh<|.tup<|.str t.k::r,.sh L,.sh<|.str<|jz t.tx]=.ok (.str<|jz t.tx):=Dj (by omega);have qJ:(P2.b1 tB (d2 mQ (d2 jR (dV 0) (dC (.int 0))) (dV 1))) [.sh (.tup (.str t.k::r)),.sh L,.sh (.str (jz t.tx))]=.ok b:=by iterate 4 (walk_at "d";try simp only[i0,hb])
 unfold Ly;generalize(P2.b1 tB<|d2 mQ (d2 jR (dV 0)<|dC<|.int 0)<|dV 1)=tt at qJ⊢;have j:((lW (dC<|.str "(")<|lW (d1 nH<|dV 2)<|lW (dC<|.str ")") rB) Str.empty) [.sh<|.tup<|.str t.k::r,.sh L,.sh<|.str<|jz t.tx]=.ok (.str<|jz<|40::(t.tx++[41])):=by rw[em,jC s1<|by simp,jC v2<|by simp;omega,jC s2<|by simp;omega,jN<|by simp;omega];rfl
 generalize((lW (dC<|.str "(")<|lW (d1 nH<|dV 2)<|lW (dC<|.str ")") rB) Str.empty)=jj at j⊢;cases b with
 |true=>iterate 7 (walk_at "d";try simp only[h,qJ,j]);try rfl
 |false=>iterate 7 (walk_at "d";try simp only[h,qJ,j]);try rfl
def F0T(a:Ad)(Fs:jO):jO:=λds=>jM (tE a (λds=>jM<|Ly a Fs<|jP 3 ds) Fs (λds=>jM<|Lr a<|jP 3 ds) (λds=>jM<|Lw a<|jP 3 ds)<|jP 4 ds)
theorem agj:∀ys:List Str,v9 (ys.map D.str)=some (ys.map PyData.str)
 |[]=>rfl
 |y::ys=>by show(NZ<|.str y).bind (λp=>(v9<|ys.map D.str).map (p:: ·))=_;rw[agj ys];rfl
theorem M5:∀ys:List Str,(∀y∈ys,PyData.strOk y=true)->PyData.canLayAll0 (ys.map PyData.str)=true
 |[],_=>by simp[PyData.canLayAll0]
 |y::ys,h=>by have:=M5 ys λz hz=>h z (.tail _ hz);simp[PyData.canLayAll0,PyData.canLay0,this,h y<|.head _]
theorem KZ(x):∀ys:List Str,((ys.map PyData.str).any λy=>PyData.eqv y<|.str x)=ys.any λy=>y==x
 |[]=>rfl
 |y::ys=>by rw[aR,cB,cB,KZ x ys];simp[PyData.eqv]
def aly{x:Str}{ys:List Str}(hx:PyData.strOk x=true)(hy:∀y∈ys,PyData.strOk y=true):uM (.str x) (ys.map D.str)=some (ys.any λy=>y==x):=by unfold uM;rw[agj];show(if(PyData.canLayAll0 (ys.map PyData.str)&&PyData.canLay0 (.str x)&&decide ((PyData.str x).depth<=63))=true then some ((ys.map PyData.str).any λy=>PyData.eqv y<|.str x)else none)=_;rw[M5 ys hy,KZ,au];simp[PyData.canLay0,hx,PyData.depth]
def R4{x:Str}{ys:List Str}(hx:PyData.strOk x=true)(hy:∀y∈ys,PyData.strOk y=true):mQ (.str x) (.tup<|ys.map D.str)=.ok (.bl<|ys.any λy=>y==x):=by unfold mQ;dsimp only;rw[aly hx hy]
def k_is(t:Tm):(t.k,t.rk)∈([("+",1),("-",1),("times",2),("num",3),("here",3),("back",3),("on",3),("ago",3),("until",3),("at",3),("abs",3)]:List<|Str×Int):=by
 cases t with
 |bin s x y=>cases s<;>repeat(first|exact List.Mem.head _|refine List.Mem.tail _ ?_)
 |pN w n=>
  simp only[Tm.k,Tm.rk];unfold wd;split;·repeat(first|exact List.Mem.head _|refine List.Mem.tail _ ?_)
  ·split;·repeat(first|exact List.Mem.head _|refine List.Mem.tail _ ?_)
   ·split<;>repeat(first|exact List.Mem.head _|refine List.Mem.tail _ ?_)
 |_=>repeat(first|exact List.Mem.head _|refine List.Mem.tail _ ?_)
def aeR(t:Tm):PyData.strOk t.k=true:=by
 have h:=k_is t;have al:∀p∈([("+",1),("-",1),("times",2),("num",3),("here",3),("back",3),("on",3),("ago",3),("until",3),("at",3),("abs",3)]:List<|Str×Int),PyData.strOk p.1=true:=by decide+kernel
 exact al _ h
def Gm(t:Tm):mQ (.str t.k) (.tup [.str "+",.str "-"])=.ok (.bl<|decide<|t.rk<2):=by
 have h:=R4 (x:=t.k) (ys:=["+","-"]) (aeR t) (by decide+kernel);have al:∀p∈([("+",1),("-",1),("times",2),("num",3),("here",3),("back",3),("on",3),("ago",3),("until",3),("at",3),("abs",3)]:List<|Str×Int),((["+","-"]:List Str).any λy=>y==p.1)=decide (p.2<2):=by decide+kernel
 rw[al _<|k_is t]at h;exact h
def amg(t:Tm):mQ (.str t.k) (.tup [.str "+",.str "-",.str "times"])=.ok (.bl<|decide<|t.rk<3):=by
 have h:=R4 (x:=t.k) (ys:=["+","-","times"]) (aeR t) (by decide+kernel);have al:∀p∈([("+",1),("-",1),("times",2),("num",3),("here",3),("back",3),("on",3),("ago",3),("until",3),("at",3),("abs",3)]:List<|Str×Int),((["+","-","times"]:List Str).any λy=>y==p.1)=decide (p.2<3):=by decide+kernel
 rw[al _<|k_is t]at h;exact h
def Tm.dp:Tm->Nat
 |.bin _ x y=>max x.dp y.dp+1
 |.times _ _ x=>x.dp+1
 |.abs x=>x.dp+1
 |_=>1
def Tm.Wz(t:Tm):t.dp<=t.sz:=by
 induction t with
 |bin s x y qF qW=>show max x.dp y.dp+1<=x.sz+y.sz+1;omega
 |times p q x ih=>show x.dp+1<=x.sz+1;omega
 |abs x ih=>show x.dp+1<=x.sz+1;omega
 |_=>exact aB _
def Sg(t:Tm):∀x:Str,(t.k==x)=false->decide (t.k=x)=false:=λx h=>by apply aC;intro w;rw[w]at h;simp at h
section
variable{Ft Fs Fj Ff:jO}{z:List Nat}
def aut{p q:Int}(f:Ff [pr p q]=.ok (.str<|jz z)):jM (tE a Ft Fs Fj Ff<|jP 4 [(Tm.num p q).d])=.ok (.str<|jz z):=by
 have k:mQ (.str<|Str.ofString "num") (.tup [.str<|Str.ofString "+",.str<|Str.ofString "-"])=.ok (.bl false):=Gm (.num p q);have i0:L2.lH [D.str<|Str.ofString "num",pr p q] 0=some (.str<|Str.ofString "num"):=rfl;have i1:L2.lH [D.str<|Str.ofString "num",pr p q] 1=some (pr p q):=rfl;have l2:2<=sizeLine:=by decide
 have e1:decide (Str.ofString "num"=Str.ofString "times")=false:=by decide+kernel
 have e2:decide (Str.ofString "num"=Str.ofString "abs")=false:=by decide+kernel
 show jM (tE a Ft Fs Fj Ff<|jP 4 [.tup [.str<|Str.ofString "num",pr p q]])=_;unfold tE;iterate 9 (walk_at "d";try simp only[i0,i1,k,e1,e2,f,au l2])
def aur:jM (tE a Ft Fs Fj Ff<|jP 4 [Tm.here.d])=.ok (.str<|jz<|Tm.here.tx):=by
 have k:mQ (.str<|Str.ofString "here") (.tup [.str<|Str.ofString "+",.str<|Str.ofString "-"])=.ok (.bl false):=Gm .here;have i0:L2.lH [D.str<|Str.ofString "here"] 0=some (.str<|Str.ofString "here"):=rfl;have l2:2<=sizeLine:=by decide
 have e1:decide (Str.ofString "here"=Str.ofString "times")=false:=by decide+kernel
 have e2:decide (Str.ofString "here"=Str.ofString "abs")=false:=by decide+kernel
 have e3:decide (Str.ofString "here"=Str.ofString "num")=false:=by decide+kernel
 show jM (tE a Ft Fs Fj Ff<|jP 4 [.tup [.str<|Str.ofString "here"]])=_;unfold tE;iterate 9 (walk_at "d";try simp only[i0,k,e1,e2,e3,au l2])
 rfl
def ahO{t:Tm}{y w}(ht:t.d=.tup [.str t.k,y])(hr:¬t.rk<2)(ne:∀x∈(["times","abs","num","here"]:List Str),(t.k==x)=false)(f:nH y=.ok (.str<|jz w))(hw:w.length<=1000):
    jM (tE a Ft Fs Fj Ff<|jP 4 [t.d])=.ok (.str<|jz<|jB t.k++32::w):=by
 have k:mQ (.str t.k) (.tup [.str<|Str.ofString "+",.str<|Str.ofString "-"])=.ok (.bl<|decide<|t.rk<2):=Gm t;rw[aC hr]at k;have e1:decide (t.k=Str.ofString "times")=false:=Sg t _ (ne _<|by simp);have e2:decide (t.k=Str.ofString "abs")=false:=Sg t _ (ne _<|by simp);have e3:decide (t.k=Str.ofString "num")=false:=Sg t _ (ne _<|by simp);have e4:decide (t.k=Str.ofString "here")=false:=Sg t _ (ne _<|by simp);have lk:(jB t.k).length<=10:=by
  have al:∀p∈([("+",1),("-",1),("times",2),("num",3),("here",3),("back",3),("on",3),("ago",3),("until",3),("at",3),("abs",3)]:List<|Str×Int),(jB p.1).length<=10:=by decide+kernel
  exact al _ (k_is t)
 have mk:t.k=jz (jB t.k):=(uN _).symm;rw[ht];generalize t.k=kk at*;have i0:L2.lH [D.str kk,y] 0=some (.str kk):=rfl;have i1:L2.lH [D.str kk,y] 1=some y:=rfl;have l2:2<=sizeLine:=by decide
 have s:∀ρ:Ev,(dC<|.str<|Str.ofString " ") ρ=.ok (.str<|jz [32]):=λ_=>rfl;have v1:(d1 nH<|dV 1) [.sh<|.tup [.str kk,y],.sh<|.str kk,.no,.sh y]=.ok (.str<|jz<|jB kk):=by show nH (.str kk)=_;rw[mk];exact Dj (by omega)
 have v3:(d1 nH<|dV 3) [.sh<|.tup [.str kk,y],.sh<|.str kk,.no,.sh y]=.ok (.str<|jz w):=f;have j:((lW (d1 nH<|dV 1)<|lW (dC<|.str " ")<|lW (d1 nH<|dV 3) rB) Str.empty) [.sh<|.tup [.str kk,y],.sh<|.str kk,.no,.sh y]=.ok (.str<|jz<|jB kk++32::w):=by rw[em,jC v1<|by simp;omega,jC (s _)<|by simp;omega,jC v3<|by simp;omega,jN<|by simp;omega];simp
 unfold tE;generalize((lW (d1 nH<|dV 1)<|lW (dC<|.str " ")<|lW (d1 nH<|dV 3) rB) Str.empty)=jj at j⊢;iterate 9 (walk_at "d";try simp only[i0,i1,k,e1,e2,e3,e4,j,au l2])
def auq{x y:Tm}(f1:Fs [x.d]=.ok (.str<|jz u))(f2:Ft [y.d,.tup [.str<|Str.ofString "+",.str<|Str.ofString "-"]]=.ok (.str<|jz v))(f3:Fj [.str<|jz u,.str<|sg s,.str<|jz v]=.ok (.str<|jz z)):
    jM (tE a Ft Fs Fj Ff<|jP 4 [(Tm.bin s x y).d])=.ok (.str<|jz z):=by
 have k:mQ (.str<|sg s) (.tup [.str<|Str.ofString "+",.str<|Str.ofString "-"])=.ok (.bl true):=Gm (.bin s x y);have i0:L2.lH [D.str<|sg s,x.d,y.d] 0=some (.str<|sg s):=rfl;have i1:L2.lH [D.str<|sg s,x.d,y.d] 1=some x.d:=rfl;have i2:L2.lH [D.str<|sg s,x.d,y.d] 2=some y.d:=rfl;have l2:2<=sizeLine:=by decide
 show jM (tE a Ft Fs Fj Ff<|jP 4 [.tup [.str<|sg s,x.d,y.d]])=_;generalize sg s=ss at*;generalize x.d=xd at*;generalize y.d=yd at*;unfold tE;iterate 9 (walk_at "d";try simp only[i0,i1,i2,k,f1,f2,f3,au l2])
def auu{p q:Int}{x:Tm}(f1:Ff [pr p q]=.ok (.str<|jz u))(f2:Ft [x.d,.tup [.str<|Str.ofString "+",.str<|Str.ofString "-",.str<|Str.ofString "times"]]=.ok (.str<|jz v))(f3:Fj [.str<|jz u,.str<|Str.ofString "*",.str<|jz v]=.ok (.str<|jz z)):
    jM (tE a Ft Fs Fj Ff<|jP 4 [(Tm.times p q x).d])=.ok (.str<|jz z):=by
 have k:mQ (.str<|Str.ofString "times") (.tup [.str<|Str.ofString "+",.str<|Str.ofString "-"])=.ok (.bl false):=Gm (.times p q x);have i0:L2.lH [D.str<|Str.ofString "times",pr p q,x.d] 0=some (.str<|Str.ofString "times"):=rfl;have i1:L2.lH [D.str<|Str.ofString "times",pr p q,x.d] 1=some (pr p q):=rfl;have i2:L2.lH [D.str<|Str.ofString "times",pr p q,x.d] 2=some x.d:=rfl;have l2:2<=sizeLine:=by decide
 have l3:3<=sizeLine:=by decide
 show jM (tE a Ft Fs Fj Ff<|jP 4 [.tup [.str<|Str.ofString "times",pr p q,x.d]])=_;generalize x.d=xd at*;unfold tE;iterate 9 (walk_at "d";try simp only[i0,i1,i2,k,f1,f2,f3,au l2,au l3])
def aup{x:Tm}(f1:Fs [x.d]=.ok (.str<|jz z))(hz:z.length<=20000):
    jM (tE a Ft Fs Fj Ff<|jP 4 [(Tm.abs x).d])=.ok (.str<|jz<|[97,98,115,40]++(z++[41])):=by
 have k:mQ (.str<|Str.ofString "abs") (.tup [.str<|Str.ofString "+",.str<|Str.ofString "-"])=.ok (.bl false):=Gm (.abs x);have i0:L2.lH [D.str<|Str.ofString "abs",x.d] 0=some (.str<|Str.ofString "abs"):=rfl;have i1:L2.lH [D.str<|Str.ofString "abs",x.d] 1=some x.d:=rfl;have l2:2<=sizeLine:=by decide
 have e1:decide (Str.ofString "abs"=Str.ofString "times")=false:=by decide+kernel
 show jM (tE a Ft Fs Fj Ff<|jP 4 [.tup [.str<|Str.ofString "abs",x.d]])=_;generalize x.d=xd at*;have s1:∀ρ:Ev,(dC<|.str<|Str.ofString "abs(") ρ=.ok (.str<|jz [97,98,115,40]):=λ_=>rfl;have s2:∀ρ:Ev,(dC<|.str<|Str.ofString ")") ρ=.ok (.str<|jz [41]):=λ_=>rfl;have v2:(d1 nH<|dV 2) [.sh<|.tup [.str<|Str.ofString "abs",xd],.sh<|.str<|Str.ofString "abs",.sh<|.str<|jz z,.no]=.ok (.str<|jz z):=Dj (by omega);have j:((lW (dC<|.str "abs(")<|lW (d1 nH<|dV 2)<|lW (dC<|.str ")") rB) Str.empty) [.sh<|.tup [.str<|Str.ofString "abs",xd],.sh<|.str<|Str.ofString "abs",.sh<|.str<|jz z,.no]=.ok (.str<|jz<|[97,98,115,40]++(z++[41])):=by rw[em,jC (s1 _)<|by simp,jC v2<|by simp;omega,jC (s2 _)<|by simp;omega,jN<|by simp;omega];simp
 unfold tE;generalize((lW (dC<|.str "abs(")<|lW (d1 nH<|dV 2)<|lW (dC<|.str ")") rB) Str.empty)=jj at j⊢;iterate 9 (walk_at "d";try simp only[i0,i1,k,e1,f1,j,au l2])
end
theorem Om:∀(t:Tm),t.Ok->t.sz<=300->∀n,t.dp<=n->t8 (F0T a) n [t.d]=.ok (.str<|jz t.tx)
 |t,hO,hs,0,hn=>by cases t<;>simp[Tm.dp]at hn
 |.num p q,hO,hs,n+1,hn=>by have hO:Fq p q:=hO;exact aut (Ys (a:=a) p q hO.q.1 (aG hO.p<|by decide)<|aG hO.q.2<|by decide)
 |.here,hO,hs,n+1,hn=>aur
 |.pN w m,hO,hs,n+1,hn=>by
  have hO':1<=m/\m<=9:=hO;have hO:m.natAbs<10^9:=by omega
  refine ahO (t:=.pN w m) (w:=nD m) rfl (by show¬(3:Int)<2;decide) (λx hx=>?_) (ak8<|aG hO<|by decide) (by have:=Gy hO;omega);have al:∀y∈(["back","on","ago","until"]:List Str),∀x∈(["times","abs","num","here"]:List Str),(y==x)=false:=by decide+kernel
  refine al (wd w) ?_ x hx;unfold wd;split;·simp
  ·split;·simp
   ·split<;>simp
 |.at m,hO,hs,n+1,hn=>by
  have hO:m.length<=8:=hO.1;refine ahO (t:=.at m) (w:=m) rfl (by show¬(3:Int)<2;decide) (λx hx=>?_) (Dj<|by omega) (by omega);have al:∀x∈(["times","abs","num","here"]:List Str),((Str.ofString "at")==x)=false:=by decide+kernel
  exact al x hx
 |.bin s x y,hO,hs,n+1,hn=>by have hs:x.sz+y.sz+1<=300:=hs;have hn:max x.dp y.dp+1<=n+1:=hn;have l1:=Tm.len hO.1;have l2:=Tm.len hO.2;have b:=sG 40 41 (decide<|y.rk<2) y.tx;have h1:=Om x hO.1 (by omega) n (by omega);have h2:=Om y hO.2 (by omega) n (by omega);refine auq h1 (afo h2 (by omega)<|Gm y) ?_;have j:=M9 (a:=a) (x:=x.tx) (y:=jB<|sg s) (z:=brk 40 41 (decide<|y.rk<2) y.tx) (by omega) (by rw[aaY];omega) (by omega);rw[uN]at j;exact j
 |.times p q x,hO,hs,n+1,hn=>by have hs:x.sz+1<=300:=hs;have hn:x.dp+1<=n+1:=hn;have l1:=JR hO.1;have l2:=Tm.len hO.2;have b:=sG 40 41 (decide<|x.rk<3) x.tx;have h2:=Om x hO.2 (by omega) n (by omega);have f:=Ys (a:=a) p q hO.1.q.1 (aG hO.1.p<|by decide) (aG hO.1.q.2<|by decide);exact auu f (afo h2 (by omega)<|amg x) (M9 (a:=a) (x:=my p q) (y:=[42]) (z:=brk 40 41 (decide<|x.rk<3) x.tx) (by omega) (by simp)<|by omega)
 |.abs x,hO,hs,n+1,hn=>by have hs:x.sz+1<=300:=hs;have hn:x.dp+1<=n+1:=hn;have l2:=Tm.len (t:=x) hO;exact aup (Om x hO (by omega) n<|by omega) (by omega)
inductive Cn where
 |cmp(s:Bool)(x y:Tm)|not(c:Cn)|two(s:Bool)(c d:Cn)
def cg(s:Bool):Str:=if s=true then"<" else"="
def cw(s:Bool):Str:=if s=true then"and" else"or"
def Cn.k:Cn->Str
 |.cmp s _ _=>cg s
 |.not _=>"not"
 |.two s _ _=>cw s
def Cn.d:Cn->D
 |.cmp s x y=>.tup [.str<|cg s,x.d,y.d]
 |.not c=>.tup [.str "not",c.d]
 |.two s c e=>.tup [.str<|cw s,c.d,e.d]
def Cn.rk:Cn->Int
 |.cmp _ _ _=>4
 |.not _=>3
 |.two s _ _=>if s=true then 2 else 1
def Cn.tx:Cn->List Nat
 |.cmp s x y=>x.tx++32::(jB (cg s)++32::y.tx)
 |.not c=>[110,111,116,32]++brk 91 93 (decide<|c.rk<3) c.tx
 |.two s c e=>brk 91 93 (decide<|c.rk<if s=true then 2 else 1) c.tx++32::(jB (cw s)++32::brk 91 93 (decide<|e.rk<if s=true then 3 else 2) e.tx)
def Cn.sz:Cn->Nat
 |.cmp _ x y=>x.sz+y.sz+1
 |.not c=>c.sz+1
 |.two _ c e=>c.sz+e.sz+1
def Cn.dp:Cn->Nat
 |.cmp _ _ _=>1
 |.not c=>c.dp+1
 |.two _ c e=>max c.dp e.dp+1
def Cn.tm:Cn->Nat
 |.cmp _ x y=>max x.sz y.sz
 |.not c=>c.tm
 |.two _ c e=>max c.tm e.tm
def Cn.Ok:Cn->Prop
 |.cmp _ x y=>x.Ok/\y.Ok
 |.not c=>c.Ok
 |.two _ c e=>c.Ok/\e.Ok
def QC(s):(jB<|cg s).length=1:=by cases s<;>decide
def Wq(s):(jB<|cw s).length<=3:=by cases s<;>decide
theorem Cn.len:∀{c:Cn},c.Ok->c.tx.length<=40*c.sz
 |.cmp s x y,h=>by have h1:=Tm.len h.1;have h2:=Tm.len h.2;have h3:=QC s;show(x.tx++32::(jB (cg s)++32::y.tx)).length<=40*(x.sz+y.sz+1);simp only[aq,ak];omega
 |.not c,h=>by have h1:=Cn.len (c:=c) h;have h2:=sG 91 93 (decide<|c.rk<3) c.tx;show([110,111,116,32]++brk 91 93 (decide<|c.rk<3) c.tx).length<=40*(c.sz+1);simp only[aq,ak,bu];omega
 |.two s c e,h=>by have h1:=Cn.len h.1;have h2:=Cn.len h.2;have h3:=Wq s;have h4:=sG 91 93 (decide<|c.rk<if s=true then 2 else 1) c.tx;have h5:=sG 91 93 (decide<|e.rk<if s=true then 3 else 2) e.tx;show(brk 91 93 (decide<|c.rk<if s=true then 2 else 1) c.tx++32::(jB (cw s)++32::brk 91 93 (decide<|e.rk<if s=true then 3 else 2) e.tx)).length<=40*(c.sz+e.sz+1);simp only[aq,ak];omega
def Cn.d0(c:Cn):∃r,c.d=.tup (.str c.k::r):=by cases c<;>exact⟨_,rfl⟩
def Cn.Wz(c:Cn):c.dp<=c.sz:=by
 induction c with
 |cmp s x y=>show 1<=x.sz+y.sz+1;omega
 |not c ih=>show c.dp+1<=c.sz+1;omega
 |two s c e qF qW=>show max c.dp e.dp+1<=c.sz+e.sz+1;omega
def Cn.auA(c:Cn):c.tm<=c.sz:=by
 induction c with
 |cmp s x y=>show max x.sz y.sz<=x.sz+y.sz+1;omega
 |not c ih=>show c.tm<=c.sz+1;omega
 |two s c e qF qW=>show max c.tm e.tm<=c.sz+e.sz+1;omega
def Sx{Fs:jO}{c:Cn}(h:Fs [c.d]=.ok (.str<|jz c.tx))(hl:c.tx.length<=20000)(hb:mQ (.str c.k) L=.ok (.bl b)):
    jM (Ls a Fs<|jP 3 [c.d,L])=.ok (.str<|jz<|brk 91 93 b c.tx):=by
 obtain⟨r,e⟩:=c.d0;rw[e]at h⊢;generalize c.tx=tx at*;generalize c.k=ck at*;have M3:L2.lH (D.str ck::r) ((0:Nat):Int)=some (.str ck):=CW rfl;have i0:L2.lH (D.str ck::r) 0=some (.str ck):=M3;have s1:(dC<|.str<|Str.ofString "[") [.sh<|.tup<|.str ck::r,.sh L,.sh<|.str<|jz tx]=.ok (.str<|jz [91]):=rfl;have s2:(dC<|.str<|Str.ofString "]") [.sh<|.tup<|.str ck::r,.sh L,.sh<|.str<|jz tx]=.ok (.str<|jz [93]):=rfl;have v2:(d1 nH<|dV 2) [.sh<|.tup<|.str ck::r,.sh L,.sh<|.str<|jz tx]=.ok (.str<|jz tx):=Dj (by omega);have qJ:(P2.b1 tB (d2 mQ (d2 jR (dV 0) (dC (.int 0))) (dV 1))) [.sh (.tup (.str ck::r)),.sh L,.sh (.str (jz tx))]=.ok b:=by iterate 4 (walk_at "d";try simp only[i0,hb])
 unfold Ls;generalize(P2.b1 tB<|d2 mQ (d2 jR (dV 0)<|dC<|.int 0)<|dV 1)=tt at qJ⊢;have j:((lW (dC<|.str "[")<|lW (d1 nH<|dV 2)<|lW (dC<|.str "]") rB) Str.empty) [.sh<|.tup<|.str ck::r,.sh L,.sh<|.str<|jz tx]=.ok (.str<|jz<|91::(tx++[93])):=by rw[em,jC s1<|by simp,jC v2<|by simp;omega,jC s2<|by simp;omega,jN<|by simp;omega];rfl
 generalize((lW (dC<|.str "[")<|lW (d1 nH<|dV 2)<|lW (dC<|.str "]") rB) Str.empty)=jj at j⊢;cases b with
 |true=>iterate 7 (walk_at "d";try simp only[h,qJ,j]);try rfl
 |false=>iterate 7 (walk_at "d";try simp only[h,qJ,j]);try rfl
def X4(c:Cn):(c.k,c.rk)∈([("<",4),("=",4),("not",3),("and",2),("or",1)]:List<|Str×Int):=by
 cases c with
 |cmp s x y=>cases s<;>simp[Cn.k,Cn.rk,cg]
 |not c=>simp[Cn.k,Cn.rk]
 |two s x y=>cases s<;>simp[Cn.k,Cn.rk,cw]
def aeS(c:Cn):PyData.strOk c.k=true:=by
 have al:∀p∈([("<",4),("=",4),("not",3),("and",2),("or",1)]:List<|Str×Int),PyData.strOk p.1=true:=by decide+kernel
 exact al _ (X4 c)
def aeI(c:Cn):mQ (.str c.k) (.tup [.str "or"])=.ok (.bl<|decide<|c.rk<2):=by
 have h:=R4 (x:=c.k) (ys:=["or"]) (aeS c) (by decide+kernel);have al:∀p∈([("<",4),("=",4),("not",3),("and",2),("or",1)]:List<|Str×Int),((["or"]:List Str).any λy=>y==p.1)=decide (p.2<2):=by decide+kernel
 rw[al _<|X4 c]at h;exact h
def aeH(c:Cn):mQ (.str c.k) (.tup [.str "or",.str "and"])=.ok (.bl<|decide<|c.rk<3):=by
 have h:=R4 (x:=c.k) (ys:=["or","and"]) (aeS c) (by decide+kernel);have al:∀p∈([("<",4),("=",4),("not",3),("and",2),("or",1)]:List<|Str×Int),((["or","and"]:List Str).any λy=>y==p.1)=decide (p.2<3):=by decide+kernel
 rw[al _<|X4 c]at h;exact h
def ar7(c:Cn):¬c.rk<1:=by
 cases c with
 |cmp s x y=>show¬(4:Int)<1;decide
 |not c=>show¬(3:Int)<1;decide
 |two s x y=>show¬(if s=true then(2:Int)else 1)<1;split<;>decide
section
variable{Fb Fs Fj Ft:jO}{z:List Nat}
def ajY{c e:Cn}(f1:Fs [c.d]=.ok (.str<|jz u))(f2:Fb [e.d,.tup [.str<|Str.ofString "or"]]=.ok (.str<|jz v))(f3:Fj [.str<|jz u,.str<|Str.ofString "or",.str<|jz v]=.ok (.str<|jz z)):
    jM (vG a Fb Fs Fj Ft<|jP 2 [(Cn.two false c e).d])=.ok (.str<|jz z):=by
 have i0:L2.lH [D.str<|Str.ofString "or",c.d,e.d] 0=some (.str<|Str.ofString "or"):=rfl;have i1:L2.lH [D.str<|Str.ofString "or",c.d,e.d] 1=some c.d:=rfl;have i2:L2.lH [D.str<|Str.ofString "or",c.d,e.d] 2=some e.d:=rfl;have l1:1<=sizeLine:=by decide
 show jM (vG a Fb Fs Fj Ft<|jP 2 [.tup [.str<|Str.ofString "or",c.d,e.d]])=_;generalize c.d=cd at*;generalize e.d=ed at*;unfold vG;iterate 9 (walk_at "d";try simp only[i0,i1,i2,f1,f2,f3,au l1])
def ajV{c e:Cn}(f1:Fb [c.d,.tup [.str<|Str.ofString "or"]]=.ok (.str<|jz u))(f2:Fb [e.d,.tup [.str<|Str.ofString "or",.str<|Str.ofString "and"]]=.ok (.str<|jz v))(f3:Fj [.str<|jz u,.str<|Str.ofString "and",.str<|jz v]=.ok (.str<|jz z)):
    jM (vG a Fb Fs Fj Ft<|jP 2 [(Cn.two true c e).d])=.ok (.str<|jz z):=by
 have i0:L2.lH [D.str<|Str.ofString "and",c.d,e.d] 0=some (.str<|Str.ofString "and"):=rfl;have i1:L2.lH [D.str<|Str.ofString "and",c.d,e.d] 1=some c.d:=rfl;have i2:L2.lH [D.str<|Str.ofString "and",c.d,e.d] 2=some e.d:=rfl;have l1:1<=sizeLine:=by decide
 have l2:2<=sizeLine:=by decide
 have e1:decide (Str.ofString "and"=Str.ofString "or")=false:=by decide+kernel
 show jM (vG a Fb Fs Fj Ft<|jP 2 [.tup [.str<|Str.ofString "and",c.d,e.d]])=_;generalize c.d=cd at*;generalize e.d=ed at*;unfold vG;iterate 9 (walk_at "d";try simp only[i0,i1,i2,e1,f1,f2,f3,au l1,au l2])
def ajX{c:Cn}(f1:Fb [c.d,.tup [.str<|Str.ofString "or",.str<|Str.ofString "and"]]=.ok (.str<|jz u))(hu:u.length<=30000):
    jM (vG a Fb Fs Fj Ft<|jP 2 [(Cn.not c).d])=.ok (.str<|jz<|[110,111,116,32]++u):=by
 have i0:L2.lH [D.str<|Str.ofString "not",c.d] 0=some (.str<|Str.ofString "not"):=rfl;have i1:L2.lH [D.str<|Str.ofString "not",c.d] 1=some c.d:=rfl;have l2:2<=sizeLine:=by decide
 have e1:decide (Str.ofString "not"=Str.ofString "or")=false:=by decide+kernel
 have e2:decide (Str.ofString "not"=Str.ofString "and")=false:=by decide+kernel
 have ad:jT (.str<|Str.ofString "not ") (.str<|jz u)=.ok (.str<|jz<|[110,111,116,32]++u):=pU (x:=[110,111,116,32]) (by simp) (by omega);show jM (vG a Fb Fs Fj Ft<|jP 2 [.tup [.str<|Str.ofString "not",c.d]])=_;generalize c.d=cd at*;unfold vG;generalize jT=xQ at*;iterate 9 (walk_at "d";try simp only[i0,i1,e1,e2,f1,ad,au l2])
def ajW{x y:Tm}(f1:Ft [x.d]=.ok (.str<|jz u))(f2:Ft [y.d]=.ok (.str<|jz v))(f3:Fj [.str<|jz u,.str<|cg s,.str<|jz v]=.ok (.str<|jz z)):
    jM (vG a Fb Fs Fj Ft<|jP 2 [(Cn.cmp s x y).d])=.ok (.str<|jz z):=by
 have i0:L2.lH [D.str<|cg s,x.d,y.d] 0=some (.str<|cg s):=rfl;have i1:L2.lH [D.str<|cg s,x.d,y.d] 1=some x.d:=rfl;have i2:L2.lH [D.str<|cg s,x.d,y.d] 2=some y.d:=rfl;have e1:decide (cg s=Str.ofString "or")=false:=by cases s<;>decide+kernel
 have e2:decide (cg s=Str.ofString "and")=false:=by cases s<;>decide+kernel
 have e3:decide (cg s=Str.ofString "not")=false:=by cases s<;>decide+kernel
 show jM (vG a Fb Fs Fj Ft<|jP 2 [.tup [.str<|cg s,x.d,y.d]])=_;generalize x.d=xd at*;generalize y.d=yd at*;generalize cg s=ss at*;unfold vG;iterate 9 (walk_at "d";try simp only[i0,i1,i2,e1,e2,e3,f1,f2,f3])
end
def F0C(a:Ad)(Ft Fs:jO):jO:=λds=>jM (vG a (λds=>jM<|Ls a Fs<|jP 3 ds) Fs (λds=>jM<|Lr a<|jP 3 ds) Ft<|jP 2 ds)
theorem JS{Ft:jO}(hT:∀t:Tm,t.Ok->t.sz<=m->Ft [t.d]=.ok (.str<|jz t.tx)):∀(c:Cn),c.Ok->c.sz<=300->c.tm<=m->∀n,c.dp<=n->t8 (F0C a Ft) n [c.d]=.ok (.str<|jz c.tx)
 |c,hO,hs,hm,0,hn=>by cases c<;>simp[Cn.dp]at hn
 |.cmp s x y,hO,hs,hm,n+1,hn=>by have hs:x.sz+y.sz+1<=300:=hs;have hm:max x.sz y.sz<=m:=hm;have l1:=Tm.len hO.1;have l2:=Tm.len hO.2;refine ajW (hT x hO.1<|by omega) (hT y hO.2<|by omega) ?_;have j:=M9 (a:=a) (x:=x.tx) (y:=jB<|cg s) (z:=y.tx) (by omega) (by rw[QC];omega) (by omega);rw[uN]at j;exact j
 |.not c,hO,hs,hm,n+1,hn=>by have hs:c.sz+1<=300:=hs;have hn:c.dp+1<=n+1:=hn;have l1:=Cn.len (c:=c) hO;have b:=sG 91 93 (decide<|c.rk<3) c.tx;exact ajX (Sx (JS hT c hO (by omega) hm n<|by omega) (by omega)<|aeH c) (by omega)
 |.two true c e,hO,hs,hm,n+1,hn=>by have hs:c.sz+e.sz+1<=300:=hs;have hn:max c.dp e.dp+1<=n+1:=hn;have hm:max c.tm e.tm<=m:=hm;have l1:=Cn.len hO.1;have l2:=Cn.len hO.2;have b1:=sG 91 93 (decide<|c.rk<2) c.tx;have b2:=sG 91 93 (decide<|e.rk<3) e.tx;exact ajV (Sx (JS hT c hO.1 (by omega) (by omega) n<|by omega) (by omega)<|aeI c) (Sx (JS hT e hO.2 (by omega) (by omega) n<|by omega) (by omega)<|aeH e) (M9 (a:=a) (x:=brk 91 93 (decide<|c.rk<2) c.tx) (y:=jB<|Str.ofString "and") (z:=brk 91 93 (decide<|e.rk<3) e.tx) (by omega) (by decide)<|by omega)
 |.two false c e,hO,hs,hm,n+1,hn=>by
  have hs:c.sz+e.sz+1<=300:=hs;have hn:max c.dp e.dp+1<=n+1:=hn;have hm:max c.tm e.tm<=m:=hm;have l1:=Cn.len hO.1;have l2:=Cn.len hO.2;have b2:=sG 91 93 (decide<|e.rk<2) e.tx;have r:=ar7 c;have eb:brk 91 93 (decide<|c.rk<1) c.tx=c.tx:=by unfold brk;rw[aC r];rfl
  have j:=M9 (a:=a) (x:=c.tx) (y:=jB<|Str.ofString "or") (z:=brk 91 93 (decide<|e.rk<2) e.tx) (by omega) (by decide) (by omega);have tx:(Cn.two false c e).tx=c.tx++32::(jB (Str.ofString "or")++32::brk 91 93 (decide<|e.rk<2) e.tx):=by show brk 91 93 (decide<|c.rk<1) c.tx++_=_;rw[eb];rfl
  rw[tx];exact ajY (JS hT c hO.1 (by omega) (by omega) n<|by omega) (Sx (JS hT e hO.2 (by omega) (by omega) n<|by omega) (by omega)<|aeI e) j
def sO:Tm->Nat
 |.bin _ x y=>sO x+sO y
 |.times _ _ x=>sO x+1
 |.abs x=>sO x+1
 |_=>0
def qx:Cn->Nat
 |.cmp _ x y=>sO x+sO y
 |.not c=>qx c
 |.two _ c e=>qx c+qx e
def apt{t:Tm}(h:t.sz=1):sO t=0:=by
 cases t with
 |bin s x y=>have:=x.pos;have:=y.pos;have h':x.sz+y.sz+1=1:=h;omega
 |times p q x=>have:=x.pos;have h':x.sz+1=1:=h;omega
 |abs x=>have:=x.pos;have h':x.sz+1=1:=h;omega
 |_=>rfl
end WC
namespace WS
open PySem L2 P2 WP TM T2 PySem.NumText WR WC
def nU(o c:Tk)(b:Bool)(x:List Tk):List Tk:=if b=true then o::(x++[c])else x
def mj:Tm->List Tk
 |.num p q=>[my p q]
 |.here=>[jB "here"]
 |.pN w n=>[jB<|wd w,nD n]
 |.at m=>[jB "at",m]
 |.bin s x y=>mj x++jB (sg s)::nU [40] [41] (decide<|y.rk<2) (mj y)
 |.times p q x=>my p q::[42]::nU [40] [41] (decide<|x.rk<3) (mj x)
 |.abs x=>jB "abs"::[40]::(mj x++[[41]])
def oY:Tm->Nat
 |.bin _ x y=>max (oY x) (oY y+if y.rk<2 then 1 else 0)
 |.times _ _ x=>oY x+if x.rk<3 then 1 else 0
 |.abs x=>oY x+1
 |_=>0
def uy:Tm->Prop
 |.at m=>TR.uf m=true
 |.bin _ x y=>uy x/\uy y
 |.times _ _ x=>uy x
 |.abs x=>uy x
 |_=>True
def wK:Tm->Nat
 |.bin _ x _=>wK x+1
 |_=>0
def amL(t):wK t<=t.sz:=by
 induction t with
 |bin s x y qF qW=>show wK x+1<=x.sz+y.sz+1;omega
 |_=>exact dY _
def an0(n):∃c r,num n=c::r/\48<=c/\c<=57:=by
 cases e:num n with
 |nil=>exact absurd e (Np n)
 |cons c r=>exact⟨c,r,rfl,Nm n c<|by rw[e];exact bH ..⟩
def JQ{p q:Int}(h:Fq p q):∃c r,my p q=c::r/\48<=c/\c<=57:=by
 have hn:nD p=num p.natAbs:=by unfold nD;rw[aA (by have:=h.nn;omega)]
 obtain⟨c,r,e,hc⟩:=an0 p.natAbs;unfold my;rw[hn,e];split;·exact⟨c,r,rfl,hc⟩
 ·exact⟨c,_,rfl,hc⟩
def ad0{d}(h:c≠d):jU (c::r) (d::s)=false:=by unfold jU;rw[show Nat.beq c d=false from by rw[<-Bool.not_eq_true,Nat.beq_eq];exact h];rfl
def uZ{d}(e:t=c::r)(hc:48<=c/\c<=57)(hd:d<48\/57<d):jU t (d::s)=false:=by subst e;exact ad0 (by omega)
def ahv{p q:Int}(h:Fq p q):xH (my p q)=some (p,q):=by unfold xH;rw[ar0 ⟨h.low,aG h.p<|by decide,aG h.q.2<|by decide⟩];have h1:=h.p;have h2:=h.q;dsimp only;rw[au ⟨by omega,by omega⟩]
def avl{n:Int}(h:1<=n/\n<=9):Ej (nD n) 1 9=some n.toNat:=by
 have:n=1\/n=2\/n=3\/n=4\/n=5\/n=6\/n=7\/n=8\/n=9:=by omega
 rcases this with rfl|rfl|rfl|rfl|rfl|rfl|rfl|rfl|rfl<;>decide+kernel
def QS(t):jU t t=true:=(wD t t).mpr rfl
def avh(w):JD.any (jU<|jB<|wd w)=true/\jU (jB<|wd w) [104,101,114,101]=false/\jU (jB<|wd w) [40]=false:=by
 unfold wd;split;·decide
 ·split;·decide
  ·split<;>decide
def nS(r:List Tk):Prop:=jU (nx r) [42]=false
def nM(r:List Tk):Prop:=jU (nx r) [42]=false/\[[43],[45]].any (jU<|nx r)=false
def zf{k}(h:k<=29):bg k f=f (k+1):=by unfold bg;rw[eF h];rfl
def adY(h:b<=15):en t (t::r) b f=f r (b+1):=by unfold en tk;show(bif jU t t then(bif Nat.ble b 15 then f r (b+1)else .no)else .no)=_;rw[QS,eF h];rfl
def afj{d k}:lv t d (t::r) k (b+1)=.ok d r k b:=by unfold lv tk;show(bif jU t t then Pr.ok d r k b else .no)=_;rw[QS];rfl
def Hw{α:Type}(x:List α)(c:α)(r:List α):x++[c]++r=x++c::r:=by simp
def ahP{t:Tm}(h:t.Ok)(kw:uy t)(r):jU (nx<|mj t++r) [42]=false/\(t.rk=3->nS r->jU (nx (mj t++r).tail) [42]=false)/\jU (nx<|mj t++r) [41]=false:=by
 induction t generalizing r with
 |num p q=>obtain⟨c,s,e,hc⟩:=JQ h;exact⟨uZ e hc<|.inl<|by decide,λ_ z=>z,uZ e hc<|.inl<|by decide⟩
 |here=>exact⟨(show jU (jB "here") [42]=false by decide),λ_ z=>z,(show jU (jB "here") [41]=false by decide)⟩
 |pN w n=>
  have h':1<=n/\n<=9:=h;refine⟨?_,λ_ _=>?_,?_⟩
  ·show jU (jB<|wd w) [42]=false;unfold wd;split;·decide
   ·split;·decide
    ·split<;>decide
  ·show jU (nD n) [42]=false;have:n=1\/n=2\/n=3\/n=4\/n=5\/n=6\/n=7\/n=8\/n=9:=by omega
   rcases this with rfl|rfl|rfl|rfl|rfl|rfl|rfl|rfl|rfl<;>decide+kernel
  ·show jU (jB<|wd w) [41]=false;unfold wd;split;·decide
   ·split;·decide
    ·split<;>decide
 |«at» m=>
  have hm:TR.uf m=true:=kw;obtain⟨h1,h2,h3,h4⟩:=TR.aiE hm;refine⟨(show jU (jB "at") [42]=false by decide),λ_ _=>?_,(show jU (jB "at") [41]=false by decide)⟩;show jU m [42]=false;cases m with
  |nil=>exact absurd rfl h1
  |cons c s=>exact ad0 (by have:=h3 c<|bH ..;omega)
 |bin s x y qF qW=>
  have:=qF h.1 kw.1 (jB (sg s)::nU [40] [41] (decide<|y.rk<2) (mj y)++r);have e:mj (.bin s x y)++r=mj x++(jB (sg s)::nU [40] [41] (decide<|y.rk<2) (mj y)++r):=by show(mj x++jB (sg s)::nU [40] [41] (decide<|y.rk<2) (mj y))++r=_;rw[aZ]
  rw[e];exact⟨this.1,λz=>(by cases z),this.2.2⟩
 |times p q x ih=>obtain⟨c,s,e,hc⟩:=JQ h.1;exact⟨uZ e hc<|.inl<|by decide,λz=>(by cases z),uZ e hc<|.inl<|by decide⟩
 |abs x ih=>exact⟨(show jU (jB "abs") [42]=false by decide),λ_ _=>(show jU [40] [42]=false by decide),(show jU (jB "abs") [41]=false by decide)⟩
def aaZ(s):[[43],[45]].any (jU<|jB<|sg s)=true/\jU (jB<|sg s) [42]=false/\tS (jB<|sg s)=.str (sg s):=by
 cases s;·exact⟨by decide,by decide,aV D.str<|uN _⟩
 ·exact⟨by decide,by decide,aV D.str<|uN _⟩
def zg{d k}:pH (.ok d r k b) f=f d r k b:=rfl
def ak0(n):(f0<|n+1).pr=Bp (f0 n).sg:=rfl
def ak1(n):(f0<|n+1).sg=DY (f0 n).br:=rfl
def akZ(n):(f0<|n+1).br=Jy (f0 n).su:=rfl
def afP{d k}(hb:b<=15)(h:(f0 n).su (x++[41]::r) k (b+1)=.ok d ([41]::r) k' (b+1)):(f0<|n+1).br ([40]::(x++[[41]])++r) k b=.ok d r k' b:=by rw[akZ];unfold Jy;rw[show[40]::(x++[[41]])++r=[40]::(x++[41]::r)by simp,adY hb,h,zg,afj]
def afQ{d k}(hb:b<=15)(h:(f0 n).su (x++[41]::r) k (b+1)=.ok d ([41]::r) k' (b+1)):(f0<|n+2).sg ([40]::(x++[[41]])++r) k b=.ok d r k' b:=by rw[show n+2=(n+1)+1 from rfl,ak1];unfold DY;rw[show jU (nx<|[40]::(x++[[41]])++r) [40]=true from rfl,dW,afP hb h]
def SG(t:Tm):Prop:=∀r k b n,t.rk=3->k+t.sz<=30->b+oY t<=16->4*oY t+1<=n->(f0 n).sg (mj t++r) k b=.ok t.d r (k+t.sz) b
def PR(t:Tm):Prop:=∀r k b n,2<=t.rk->k+t.sz<=30->b+oY t<=16->4*oY t+2<=n->nS r->(f0 n).pr (mj t++r) k b=.ok t.d r (k+t.sz) b
def LP(t:Tm):Prop:=∀r k b n m,k+t.sz<=30->b+oY t<=16->4*oY t+2<=n->nS r->
    pH ((f0 n).pr (mj t++r) k b) (λd r k b=>wM (f0 n).pr (m+wK t) d r k b)=wM (f0 n).pr m t.d r (k+t.sz) b
def SU(t:Tm):Prop:=∀r k b n,k+t.sz<=30->b+oY t<=16->4*oY t+3<=n->nM r->(f0 n).su (mj t++r) k b=.ok t.d r (k+t.sz) b
def as9{t:Tm}(h:t.Ok)(kw:uy t)(IH:∀x:Tm,x.sz<t.sz->x.Ok->uy x->SU x):SG t:=by
 intro r k b n h3 hk hb hn;obtain⟨n,rfl⟩:∃m,n=m+1:=⟨n - 1,by omega⟩;show DY (f0 n).br (mj t++r) k b=_;unfold DY;have kp:k<=29:=by have:=t.pos;omega
 cases t with
 |bin s x y=>exact absurd (show(1:Int)=3 from h3) (by decide)
 |times p q x=>exact absurd (show(2:Int)=3 from h3) (by decide)
 |num p q=>
  obtain⟨c,s,e,hc⟩:=JQ h;have e1:jU (nx<|mj (.num p q)++r) [40]=false:=uZ e hc (.inl<|by decide);have e2:jU (my p q) [104,101,114,101]=false:=uZ e hc (.inr<|by decide);have e3:JD.any (jU<|my p q)=false:=by unfold JD;simp only[cB,iW,uZ e hc<|.inr<|show 57<98 by decide,uZ e hc<|.inr<|show 57<111 by decide,uZ e hc<|.inr<|show 57<97 by decide,uZ e hc<|.inr<|show 57<117 by decide,gf]
  have e4:jU (my p q) [97,116]=false:=uZ e hc (.inr<|by decide);have e5:jU (my p q) [97,98,115]=false:=uZ e hc (.inr<|by decide);rw[e1,cG,zf kp];show(bif jU (my p q) [104,101,114,101]then _ else _)=_;rw[e2,cG,e3,cG,e4,cG,e5,cG,ahv h];rfl
 |here=>rw[show jU (nx<|mj .here++r) [40]=false from(show jU (jB "here") [40]=false by decide),cG,zf kp];rfl
 |pN w v=>
  obtain⟨e1,e2,e3⟩:=avh w;have h':1<=v/\v<=9:=h;rw[show jU (nx<|mj (.pN w v)++r) [40]=false from e3,cG,zf kp];show(bif jU (jB<|wd w) [104,101,114,101]then _ else _)=_;rw[e2,cG,e1,dW];show opt (Ej (nD v) 1 9) _=_;rw[avl h'];have:((v.toNat:Nat):Int)=v:=by omega
  show Pr.ok (.tup [.str<|jz<|jB<|wd w,.int ((v.toNat:Nat):Int)]) r (k+1) b=_;rw[this,uN];rfl
 |«at» m=>
  have hm:TR.uf m=true:=kw;have e:(bif TR.uf m then Pr.ok (.tup [.str "at",tS m]) r (k+1) b else .no)=.ok (Tm.at m).d r (k+(Tm.at m).sz) b:=by rw[hm];rfl
  rw[show jU (nx<|mj (.at m)++r) [40]=false from(show jU (jB "at") [40]=false by decide),cG,zf kp];exact e
 |abs x=>
  have Bb:k+(x.sz+1)<=30:=hk;have hb':b+(oY x+1)<=16:=hb;have Dn:4*(oY x+1)+1<=n+1:=hn;obtain⟨n,rfl⟩:∃m,n=m+1:=⟨n - 1,by omega⟩;have hs:=IH x (b8 _) h kw ([41]::r) (k+1) (b+1) n (by omega) (by omega) (by omega) ⟨rfl,rfl⟩;have e:tK (λd=>.tup [.str "abs",d]) ((f0<|n+1).br ([40]::(mj x++[[41]])++r) (k+1) b)=.ok (Tm.abs x).d r (k+(Tm.abs x).sz) b:=by rw[afP (by omega) hs];show Pr.ok _ r (k+1+x.sz) b=Pr.ok _ r (k+(x.sz+1)) b;rw[show k+1+x.sz=k+(x.sz+1)by omega];rfl
  rw[show jU (nx<|mj (.abs x)++r) [40]=false from(show jU (jB "abs") [40]=false by decide),cG,zf kp];exact e
def aqe{t:Tm}(h:t.Ok)(kw:uy t)(gs:SG t)(IH:∀x:Tm,x.sz<t.sz->x.Ok->uy x->SU x/\SG x):PR t:=by
 intro r k b n h2 hk hb hn hr;obtain⟨n,rfl⟩:∃m,n=m+1:=⟨n - 1,by omega⟩;show Bp (f0 n).sg (mj t++r) k b=_;unfold Bp;by_cases h3:t.rk=3
 ·rw[(ahP h kw r).2.1 h3 hr,cG];exact gs r k b n h3 hk hb (by omega)
 ·cases t with
  |bin s x y=>exact absurd (show(2:Int)<=1 from h2) (by decide)
  |num p q=>exact absurd rfl h3
  |here=>exact absurd rfl h3
  |pN w v=>exact absurd rfl h3
  |«at» m=>exact absurd rfl h3
  |abs x=>exact absurd rfl h3
  |times p q x=>
   have Bb:k+(x.sz+1)<=30:=hk;have hp:=x.pos;have fin:(f0 n).sg (nU [40] [41] (decide<|x.rk<3) (mj x)++r) (k+1) b=.ok x.d r (k+1+x.sz) b:=by
    by_cases hx:x.rk<3
    ·have e1:oY (.times p q x)=oY x+1:=by show oY x+(if x.rk<3 then 1 else 0)=_;rw[au hx]
     rw[e1]at hb hn;rw[aP hx];obtain⟨n,rfl⟩:∃m,n=m+2:=⟨n - 2,by omega⟩;exact afQ (by omega) ((IH x (b8 _) h.2 kw).1 ([41]::r) (k+1) (b+1) n (by omega) (by omega) (by omega) ⟨rfl,rfl⟩)
    ·have e0:oY (.times p q x)=oY x:=by show oY x+(if x.rk<3 then 1 else 0)=_;rw[aA hx];rfl
     rw[e0]at hb hn;rw[aC hx];have h3:x.rk=3:=by cases x<;>first|rfl|exact absurd (show(1:Int)<3 by decide) hx|exact absurd (show(2:Int)<3 by decide) hx
     exact(IH x (b8 _) h.2 kw).2 r (k+1) b n h3 (by omega) hb (by omega)
   have e:opt (xH<|my p q) (λv=>xp [42] ([42]::(nU [40] [41] (decide<|x.rk<3) (mj x)++r)) λr=>bg k λk=>tK (λd=>.tup [.str "times",Tr v,d])<|(f0 n).sg r k b)=.ok (Tm.times p q x).d r (k+(Tm.times p q x).sz) b:=by rw[ahv h.1];show bg k (λk=>tK (λd=>.tup [.str "times",Tr (p,q),d])<|(f0 n).sg (nU [40] [41] (decide<|x.rk<3) (mj x)++r) k b)=_;rw[zf<|by omega,fin];show Pr.ok _ r (k+1+x.sz) b=Pr.ok _ r (k+(x.sz+1)) b;rw[show k+1+x.sz=k+(x.sz+1)by omega];rfl
   exact e
def amP{t:Tm}(h:t.Ok)(kw:uy t)(gp:PR t)(IH:∀x:Tm,x.sz<t.sz->x.Ok->uy x->SU x/\PR x/\LP x):LP t:=by
 intro r k b n m hk hb hn hr;by_cases h2:2<=t.rk
 ·rw[gp r k b n h2 hk hb hn hr,zg];have:wK t=0:=by
   cases t<;>first|rfl|exact absurd (show(2:Int)<=1 from h2) (by decide)
  rw[this];rfl
 ·cases t with
  |times p q x=>exact absurd (show(2:Int)<=2 by decide) h2
  |num p q=>exact absurd (show(2:Int)<=3 by decide) h2
  |here=>exact absurd (show(2:Int)<=3 by decide) h2
  |pN w v=>exact absurd (show(2:Int)<=3 by decide) h2
  |«at» m=>exact absurd (show(2:Int)<=3 by decide) h2
  |abs x=>exact absurd (show(2:Int)<=3 by decide) h2
  |bin s x y=>
   have Bb:k+(x.sz+y.sz+1)<=30:=hk;have hp:=y.pos;have l1:x.sz<(Tm.bin s x y).sz:=by show x.sz<x.sz+y.sz+1;omega
   have l2:y.sz<(Tm.bin s x y).sz:=by show y.sz<x.sz+y.sz+1;omega
   have hbx:oY x<=oY (.bin s x y):=d9 ..;have hby:oY y+(if y.rk<2 then 1 else 0)<=oY (.bin s x y):=dX ..;obtain⟨s1,s2,s3⟩:=aaZ s;have e:mj (.bin s x y)++r=mj x++(jB (sg s)::(nU [40] [41] (decide<|y.rk<2) (mj y)++r)):=by show(mj x++jB (sg s)::nU [40] [41] (decide<|y.rk<2) (mj y))++r=_;rw[aZ];rfl
   have ih:=(IH x l1 h.1 kw.1).2.2 (jB (sg s)::(nU [40] [41] (decide<|y.rk<2) (mj y)++r)) k b n (m+1) (by omega) (by omega) (by omega) s2;rw[e];show pH _ (λd r k b=>wM (f0 n).pr (m+(wK x+1)) d r k b)=_;rw[show m+(wK x+1)=m+1+wK x by omega,ih];show(bif [[43],[45]].any (jU<|jB<|sg s)then bg (k+x.sz) (λk=>pH ((f0 n).pr (nU [40] [41] (decide<|y.rk<2) (mj y)++r) k b) λe r k b=>wM (f0 n).pr m (.tup [tS<|jB<|sg s,x.d,e]) r k b)else _)=_;rw[s1,dW,zf<|by omega,s3];have fin:(f0 n).pr (nU [40] [41] (decide<|y.rk<2) (mj y)++r) (k+x.sz+1) b=.ok y.d r (k+x.sz+1+y.sz) b:=by
    by_cases hy:y.rk<2
    ·rw[au hy]at hby;rw[aP hy];obtain⟨n,rfl⟩:∃j,n=j+3:=⟨n - 3,by omega⟩;rw[show n+3=(n+2)+1 from rfl,ak0];show Bp (f0<|n+2).sg ([40]::(mj y++[[41]])++r) (k+x.sz+1) b=_;unfold Bp;have hd:=(ahP h.2 kw.2<|[41]::r).1;have ht:([40]::(mj y++[[41]])++r).tail=mj y++[41]::r:=by simp
     rw[ht,hd,cG];exact afQ (by omega) ((IH y l2 h.2 kw.2).1 ([41]::r) (k+x.sz+1) (b+1) n (by omega) (by omega) (by omega) ⟨rfl,rfl⟩)
    ·rw[aA hy]at hby;rw[aC hy];exact(IH y l2 h.2 kw.2).2.1 r (k+x.sz+1) b n (by omega) (by omega) (by omega) (by omega) hr
   rw[fin,zg];show wM _ m _ r (k+x.sz+1+y.sz) b=wM _ m _ r (k+(x.sz+y.sz+1)) b;rw[show k+x.sz+1+y.sz=k+(x.sz+y.sz+1)by omega];rfl
def atB(gl:LP t):SU t:=by intro r k b n hk hb hn hr;obtain⟨n,rfl⟩:∃m,n=m+1:=⟨n - 1,by omega⟩;show Jz (f0 n).pr (mj t++r) k b=_;unfold Jz;have hl:=amL t;have:=gl r k b n (100 - wK t) hk hb (by omega) hr.1;rw[show 100 - wK t+wK t=100 by omega]at this;rw[this];obtain⟨m,e⟩:∃m,100 - wK t=m+1:=⟨99 - wK t,by omega⟩;rw[e];unfold wM;rw[hr.2,cG]
theorem afO:∀s (t:Tm),t.sz<s->t.Ok->uy t->SU t/\SG t/\PR t/\LP t
 |0,t,hs,_,_=>absurd hs (jb _)
 |s+1,t,hs,h,kw=>by have IH:∀x:Tm,x.sz<t.sz->x.Ok->uy x->SU x/\SG x/\PR x/\LP x:=λx hx ho hk=>afO s x (by omega) ho hk;have a:=as9 h kw λx hx ho hk=>(IH x hx ho hk).1;have b:=aqe h kw a λx hx ho hk=>⟨(IH x hx ho hk).1,(IH x hx ho hk).2.1⟩;have c:=amP h kw b λx hx ho hk=>⟨(IH x hx ho hk).1,(IH x hx ho hk).2.2.1,(IH x hx ho hk).2.2.2⟩;exact⟨atB c,a,b,c⟩
def afR{t:Tm}(h:t.Ok)(kw:uy t):SU t:=(afO (t.sz+1) t (b8 _) h kw).1
def bl(s:Bool):Int:=if s=true then 2 else 1
def uI(s:Bool):Int:=if s=true then 3 else 2
def mX:Cn->List Tk
 |.cmp s x y=>mj x++jB (cg s)::mj y
 |.not c=>jB "not"::nU [91] [93] (decide<|c.rk<3) (mX c)
 |.two s c e=>nU [91] [93] (decide<|c.rk<bl s) (mX c)++jB (cw s)::nU [91] [93] (decide<|e.rk<uI s) (mX e)
def qp:Cn->Nat
 |.cmp _ x y=>max (oY x) (oY y)
 |.not c=>qp c+if c.rk<3 then 1 else 0
 |.two s c e=>max (qp c+if c.rk<bl s then 1 else 0) (qp e+if e.rk<uI s then 1 else 0)
def qU:Cn->Nat
 |.cmp _ _ _=>0
 |.not c=>qU c+if c.rk<3 then 4 else 1
 |.two s c e=>max (qU c+if c.rk<bl s then 3 else 0) (qU e+if e.rk<uI s then 3 else 0)
def vZ:Cn->Prop
 |.cmp _ x y=>uy x/\uy y
 |.not c=>vZ c
 |.two _ c e=>vZ c/\vZ e
def pZ(s:Bool):Cn->Nat
 |.two s' c _=>if s'=s then(if c.rk<bl s then 0 else pZ s c)+1 else 0
 |_=>0
def ae7(s c):pZ s c<=c.sz:=by
 induction c with
 |two s' x y qF qW=>
  show(if s'=s then(if x.rk<bl s then 0 else pZ s x)+1 else 0)<=x.sz+y.sz+1;split;·split<;>omega
  ·omega
 |_=>exact dY _
def Cn.three(c:Cn):3<=c.sz:=by
 induction c with
 |cmp s x y=>have:=x.pos;have:=y.pos;show 3<=x.sz+y.sz+1;omega
 |not c ih=>show 3<=c.sz+1;omega
 |two s c e qF qW=>show 3<=c.sz+e.sz+1;omega
def aec(c):qU c+6<=2*c.sz/\(c.rk<3->qU c+11<=2*c.sz):=by
 induction c with
 |cmp s x y=>have:=x.pos;have:=y.pos;exact⟨by show 0+6<=2*(x.sz+y.sz+1);omega,λh=>absurd h<|by show¬(4:Int)<3;decide⟩
 |not c ih=>
  refine⟨?_,λh=>absurd h<|by show¬(3:Int)<3;decide⟩;show(qU c+if c.rk<3 then 4 else 1)+6<=2*(c.sz+1);split;·have:=ih.2 (by assumption);omega
  ·have:=ih.1;omega
 |two s c e qF qW=>
  have h1:=Cn.three c;have h2:=Cn.three e;have a:=qF.1;have b:=qW.1;have k:max (qU c+if c.rk<bl s then 3 else 0) (qU e+if e.rk<uI s then 3 else 0)+11<=2*(c.sz+e.sz+1):=by split<;>split<;>omega
  exact⟨by show max _ _+6<=2*(c.sz+e.sz+1);omega,λ_=>k⟩
def avi(w):jU (jB<|wd w) [110,111,116]=false/\jU (jB<|wd w) [91]=false:=by
 unfold wd;split;·decide
 ·split;·decide
  ·split<;>decide
def auz{t:Tm}(h:t.Ok)(r):jU (nx<|mj t++r) [110,111,116]=false/\jU (nx<|mj t++r) [91]=false:=by
 induction t generalizing r with
 |num p q=>obtain⟨c,s,e,hc⟩:=JQ h;exact⟨uZ e hc<|.inr<|by decide,uZ e hc<|.inr<|by decide⟩
 |here=>exact⟨(show jU (jB "here") [110,111,116]=false by decide),(show jU (jB "here") [91]=false by decide)⟩
 |pN w n=>exact avi w
 |«at» m=>exact⟨(show jU (jB "at") [110,111,116]=false by decide),(show jU (jB "at") [91]=false by decide)⟩
 |bin s x y qF qW=>
  have:=qF h.1 (jB (sg s)::nU [40] [41] (decide<|y.rk<2) (mj y)++r);have e:mj (.bin s x y)++r=mj x++(jB (sg s)::nU [40] [41] (decide<|y.rk<2) (mj y)++r):=by show(mj x++jB (sg s)::nU [40] [41] (decide<|y.rk<2) (mj y))++r=_;rw[aZ]
  rw[e];exact this
 |times p q x ih=>obtain⟨c,s,e,hc⟩:=JQ h.1;exact⟨uZ e hc<|.inr<|by decide,uZ e hc<|.inr<|by decide⟩
 |abs x ih=>exact⟨(show jU (jB "abs") [110,111,116]=false by decide),(show jU (jB "abs") [91]=false by decide)⟩
def Wd(s):[[60],[61]].any (jU<|jB<|cg s)=true/\jU (jB<|cg s) [42]=false/\[[43],[45]].any (jU<|jB<|cg s)=false/\tS (jB<|cg s)=.str (cg s):=by
 cases s;·exact⟨by decide,by decide,by decide,aV D.str<|uN _⟩
 ·exact⟨by decide,by decide,by decide,aV D.str<|uN _⟩
def wL(s:Bool):Tk:=if s=true then[97,110,100]else[111,114]
def aiq(s r):nM (wL s::r):=by
 cases s;·exact⟨(show jU [111,114] [42]=false by decide),(show[[43],[45]].any (jU [111,114])=false by decide)⟩
 ·exact⟨(show jU [97,110,100] [42]=false by decide),(show[[43],[45]].any (jU [97,110,100])=false by decide)⟩
def nW(s:Bool)(r:List Tk):Prop:=jU (nx r) (wL s)=false
def ak2(n):(f1<|n+1).or=xE [111,114] "or" (f1 n).and:=rfl
def ad2(n):(f1<|n+1).and=xE [97,110,100] "and" (f1 n).not:=rfl
def ad3(n):(f1<|n+1).not=GQ (f1 n).not (f1 n).or (GK (f0 75).su):=rfl
def Qv{d k}(hb:b<=15)(h:(f1 n).or (x++[93]::r) k (b+1)=.ok d ([93]::r) k' (b+1)):(f1<|n+1).not ([91]::(x++[[93]])++r) k b=.ok d r k' b:=by rw[ad3];unfold GQ;rw[show[91]::(x++[[93]])++r=[91]::(x++[93]::r)by simp];rw[show jU (nx<|[91]::(x++[93]::r)) [110,111,116]=false from rfl,cG,show jU (nx<|[91]::(x++[93]::r)) [91]=true from rfl,dW,adY hb,h,zg,afj]
def NT(c:Cn):Prop:=∀r k b n,3<=c.rk->k+c.sz<=30->b+qp c<=16->qU c+1<=n->nM r->(f1 n).not (mX c++r) k b=.ok c.d r (k+c.sz) b
def AL(c:Cn):Prop:=∀r k b n m,2<=c.rk->k+c.sz<=30->b+qp c<=16->qU c+1<=n->nM r->
    pH ((f1 n).not (mX c++r) k b) (λd r k b=>rZ [97,110,100] "and" (f1 n).not (m+pZ true c) d r k b)=rZ [97,110,100] "and" (f1 n).not m c.d r (k+c.sz) b
def AN(c:Cn):Prop:=∀r k b n,2<=c.rk->k+c.sz<=30->b+qp c<=16->qU c+2<=n->nM r->nW true r->(f1 n).and (mX c++r) k b=.ok c.d r (k+c.sz) b
def OL(c:Cn):Prop:=∀r k b n m,k+c.sz<=30->b+qp c<=16->qU c+2<=n->nM r->nW true r->
    pH ((f1 n).and (mX c++r) k b) (λd r k b=>rZ [111,114] "or" (f1 n).and (m+pZ false c) d r k b)=rZ [111,114] "or" (f1 n).and m c.d r (k+c.sz) b
def OR(c:Cn):Prop:=∀r k b n,k+c.sz<=30->b+qp c<=16->qU c+3<=n->nM r->nW true r->nW false r->(f1 n).or (mX c++r) k b=.ok c.d r (k+c.sz) b
def QQ(r):nM ([93]::r)/\nW true ([93]::r)/\nW false ([93]::r):=⟨⟨rfl,rfl⟩,rfl,rfl⟩
def acY{q:Int}(no:NT c)(oo:OR c)(hq:q<=3)(hq2:¬c.rk<q->3<=c.rk)(r k b n)(hk:k+c.sz<=30)(hb:b+(qp c+if c.rk<q then 1 else 0)<=16)(hn:(qU c+if c.rk<q then 3 else 0)+1<=n)(hr:nM r):
    (f1 n).not (nU [91] [93] (decide<|c.rk<q) (mX c)++r) k b=.ok c.d r (k+c.sz) b:=by
 by_cases h:c.rk<q
 ·rw[au h]at hb hn;rw[aP h];obtain⟨n,rfl⟩:∃m,n=m+1:=⟨n - 1,by omega⟩;obtain⟨m1,m2,m3⟩:=QQ r;exact Qv (by omega) (oo ([93]::r) k (b+1) n hk (by omega) (by omega) m1 m2 m3)
 ·rw[aA h]at hb hn;rw[aC h];exact no r k b n (hq2 h) hk (by omega) (by omega) hr
def anV{c:Cn}(h:c.Ok)(kw:vZ c)(IH:∀x:Cn,x.sz<c.sz->x.Ok->vZ x->NT x/\OR x):NT c:=by
 intro r k b n h3 hk hb hn hr;obtain⟨n,rfl⟩:∃m,n=m+1:=⟨n - 1,by omega⟩;have kp:k<=29:=by have:=Cn.three c;omega
 rw[ad3];unfold GQ;cases c with
 |two s x y=>
  exfalso;have Mu:(3:Int)<=if s=true then 2 else 1:=h3
  cases s;·exact absurd (show(3:Int)<=1 from Mu) (by decide)
  ·exact absurd (show(3:Int)<=2 from Mu) (by decide)
 |cmp s x y=>
  have Bb:k+(x.sz+y.sz+1)<=30:=hk;have hx:=x.pos;have hy:=y.pos;have b1:oY x<=qp (.cmp s x y):=d9 ..;have b2:oY y<=qp (.cmp s x y):=dX ..;obtain⟨c1,c2,c3,c4⟩:=Wd s;have e:mX (.cmp s x y)++r=mj x++(jB (cg s)::(mj y++r)):=by show(mj x++jB (cg s)::mj y)++r=_;rw[aZ];rfl
  obtain⟨d1,d2⟩:=auz h.1 (jB (cg s)::(mj y++r));rw[e,d1,cG,d2,cG];unfold GK;rw[zf kp,afR h.1 kw.1 (jB (cg s)::(mj y++r)) (k+1) b 75 (by omega) (by omega) (by omega) ⟨c2,c3⟩,zg];show(bif [[60],[61]].any (jU<|jB<|cg s)then tK (λe=>.tup [tS<|jB<|cg s,x.d,e]) ((f0 75).su (mj y++r) (k+1+x.sz) b)else _)=_;rw[c1,dW,afR h.2 kw.2 r (k+1+x.sz) b 75 (by omega) (by omega) (by omega) hr,c4];show Pr.ok _ r (k+1+x.sz+y.sz) b=Pr.ok _ r (k+(x.sz+y.sz+1)) b;rw[show k+1+x.sz+y.sz=k+(x.sz+y.sz+1)by omega];rfl
 |not c=>
  have Bb:k+(c.sz+1)<=30:=hk;obtain⟨no,oo⟩:=IH c (b8 _) h kw;have hb':b+(qp c+if c.rk<3 then 1 else 0)<=16:=hb;have Dn:(qU c+if c.rk<3 then 4 else 1)+1<=n+1:=hn;have g:(qU c+if c.rk<3 then 3 else 0)+1<=n:=by
   by_cases z:c.rk<3;·rw[au z]at Dn⊢;omega
   ·rw[aA z]at Dn⊢;omega
  have fin:=acY (q:=3) no oo (by decide) (λz=>by omega) r (k+1) b n (by omega) hb' g hr;have e:xp [110,111,116] (jB "not"::(nU [91] [93] (decide<|c.rk<3) (mX c)++r)) (λr=>bg k λk=>tK (λd=>.tup [.str "not",d])<|(f1 n).not r k b)=.ok (Cn.not c).d r (k+(Cn.not c).sz) b:=by show(bif jU (jB "not") [110,111,116]then bg k (λk=>tK (λd=>.tup [.str "not",d])<|(f1 n).not (nU [91] [93] (decide<|c.rk<3) (mX c)++r) k b)else .no)=_;rw[show jU (jB "not") [110,111,116]=true by decide,dW,zf kp,fin];show Pr.ok _ r (k+1+c.sz) b=Pr.ok _ r (k+(c.sz+1)) b;rw[show k+1+c.sz=k+(c.sz+1)by omega];rfl
  rw[show jU (nx<|mX (.not c)++r) [110,111,116]=true from(show jU (jB "not") [110,111,116]=true by decide),dW];exact e
def ac4{w}{pp:PF}{d k}(hk:k<=29)(h:pp r (k+1) b=.ok e r' k' b):rZ w s pp (m+1) d (w::r) k b=rZ w s pp m (.tup [.str s,d,e]) r' k' b:=by show(bif jU w w then xp w (w::r) (λr=>bg k λk=>pH (pp r k b) λe r k b=>rZ w s pp m (.tup [.str s,d,e]) r k b)else .ok d (w::r) k b)=_;rw[QS,dW];show(bif jU w w then bg k (λk=>pH (pp r k b) λe r k b=>rZ w s pp m (.tup [.str s,d,e]) r k b)else .no)=_;rw[QS,dW,zf hk,h,zg]
def VR{w d k}(h:jU (nx r) w=false):rZ w s pp (m+1) d r k b=.ok d r k b:=by unfold rZ;rw[h,cG]
def ar6(c:Cn):1<=c.rk:=by
 cases c with
 |cmp s x y=>show(1:Int)<=4;decide
 |not c=>show(1:Int)<=3;decide
 |two s x y=>show(1:Int)<=if s=true then 2 else 1;split<;>decide
def ajx{c:Cn}(h:c.Ok)(kw:vZ c)(no:NT c)(IH:∀x:Cn,x.sz<c.sz->x.Ok->vZ x->NT x/\AL x/\OR x):AL c:=by
 intro r k b n m h2 hk hb hn hr;by_cases h3:3<=c.rk
 ·rw[no r k b n h3 hk hb hn hr,zg];have:pZ true c=0:=by
   cases c with
   |two s x y=>
    exfalso;have Mu:(3:Int)<=if s=true then 2 else 1:=h3
    cases s;·exact absurd (show(3:Int)<=1 from Mu) (by decide)
    ·exact absurd (show(3:Int)<=2 from Mu) (by decide)
   |_=>rfl
  rw[this];rfl
 ·cases c with
  |cmp s x y=>exact absurd (show(3:Int)<=4 by decide) h3
  |not c=>exact absurd (show(3:Int)<=3 by decide) h3
  |two s x y=>
   cases s with
   |false=>exact absurd (show(2:Int)<=1 from h2) (by decide)
   |true=>
    have Bb:k+(x.sz+y.sz+1)<=30:=hk;have y3:=Cn.three y;have l1:x.sz<(Cn.two true x y).sz:=by show x.sz<x.sz+y.sz+1;omega
    have l2:y.sz<(Cn.two true x y).sz:=by show y.sz<x.sz+y.sz+1;omega
    obtain⟨nx',ax,ox⟩:=IH x l1 h.1 kw.1;obtain⟨ny,ay,oy⟩:=IH y l2 h.2 kw.2;have bx:qp x+(if x.rk<2 then 1 else 0)<=qp (.two true x y):=d9 ..;have V4:qp y+(if y.rk<3 then 1 else 0)<=qp (.two true x y):=dX ..;have fx:qU x+(if x.rk<2 then 3 else 0)<=qU (.two true x y):=d9 ..;have fy:qU y+(if y.rk<3 then 3 else 0)<=qU (.two true x y):=dX ..;have e:mX (.two true x y)++r=nU [91] [93] (decide<|x.rk<2) (mX x)++([97,110,100]::(nU [91] [93] (decide<|y.rk<3) (mX y)++r)):=by show(nU [91] [93] (decide<|x.rk<2) (mX x)++jB (cw true)::nU [91] [93] (decide<|y.rk<3) (mX y))++r=_;rw[aZ,show jB (cw true)=[97,110,100]by decide];rfl
    have fin:=acY (q:=3) ny oy (by decide) (λz=>by omega) r (k+x.sz+1) b n (by omega) (by omega) (by omega) hr;have st:∀m:Nat,rZ [97,110,100] "and" (f1 n).not (m+1) x.d ([97,110,100]::(nU [91] [93] (decide<|y.rk<3) (mX y)++r)) (k+x.sz) b=rZ [97,110,100] "and" (f1 n).not m (Cn.two true x y).d r (k+(Cn.two true x y).sz) b:=λm=>by rw[ac4 (by omega) fin];show rZ _ _ _ m _ r (k+x.sz+1+y.sz) b=rZ _ _ _ m _ r (k+(x.sz+y.sz+1)) b;rw[show k+x.sz+1+y.sz=k+(x.sz+y.sz+1)by omega];rfl
    have hm:nM ([97,110,100]::(nU [91] [93] (decide<|y.rk<3) (mX y)++r)):=aiq true _;rw[e];by_cases hx:x.rk<2
    ·rw[au hx]at bx fx;rw[aP hx,show pZ true (.two true x y)=0+1 by show(if true=true then(if x.rk<2 then 0 else pZ true x)+1 else 0)=_;rw[au rfl,au hx]];obtain⟨n,rfl⟩:∃j,n=j+1:=⟨n - 1,by omega⟩;obtain⟨m1,m2,m3⟩:=QQ ([97,110,100]::(nU [91] [93] (decide<|y.rk<3) (mX y)++r));have:=Qv (r:=[97,110,100]::(nU [91] [93] (decide<|y.rk<3) (mX y)++r)) (by omega) (ox _ k (b+1) n (by omega) (by omega) (by omega) m1 m2 m3);show pH ((f1<|n+1).not ([91]::(mX x++[[93]])++_) k b) _=_;rw[this,zg];exact st m
    ·rw[aA hx]at bx fx;rw[aC hx,show pZ true (.two true x y)=pZ true x+1 by show(if true=true then(if x.rk<2 then 0 else pZ true x)+1 else 0)=_;rw[au rfl,aA hx]];have ih:=ax ([97,110,100]::(nU [91] [93] (decide<|y.rk<3) (mX y)++r)) k b n (m+1) (by omega) (by omega) (by omega) (by omega) hm;show pH ((f1 n).not (mX x++_) k b) _=_;rw[show m+(pZ true x+1)=m+1+pZ true x by omega,ih];exact st m
def ajB(al:AL c):AN c:=by intro r k b n h2 hk hb hn hr hw;obtain⟨n,rfl⟩:∃j,n=j+1:=⟨n - 1,by omega⟩;have hl:=ae7 true c;rw[ad2];unfold xE;have:=al r k b n (100 - pZ true c) h2 hk hb (by omega) hr;rw[show 100 - pZ true c+pZ true c=100 by omega]at this;rw[this];obtain⟨m,e⟩:∃m,100 - pZ true c=m+1:=⟨99 - pZ true c,by omega⟩;rw[e];exact VR hw
def ao5{c:Cn}(h:c.Ok)(kw:vZ c)(an:AN c)(IH:∀x:Cn,x.sz<c.sz->x.Ok->vZ x->AN x/\OL x/\OR x):OL c:=by
 intro r k b n m hk hb hn hr hw;by_cases h2:2<=c.rk
 ·rw[an r k b n h2 hk hb hn hr hw,zg];have:pZ false c=0:=by
   cases c with
   |two s x y=>
    cases s with
    |false=>exact absurd (show(2:Int)<=1 from h2) (by decide)
    |true=>rfl
   |_=>rfl
  rw[this];rfl
 ·cases c with
  |cmp s x y=>exact absurd (show(2:Int)<=4 by decide) h2
  |not c=>exact absurd (show(2:Int)<=3 by decide) h2
  |two s x y=>
   cases s with
   |true=>exact absurd (show(2:Int)<=2 by decide) h2
   |false=>
    have Bb:k+(x.sz+y.sz+1)<=30:=hk;have y3:=Cn.three y;have l1:x.sz<(Cn.two false x y).sz:=by show x.sz<x.sz+y.sz+1;omega
    have l2:y.sz<(Cn.two false x y).sz:=by show y.sz<x.sz+y.sz+1;omega
    obtain⟨ax,lx,ox⟩:=IH x l1 h.1 kw.1;obtain⟨ay,ly,oy⟩:=IH y l2 h.2 kw.2;have hx:¬x.rk<1:=by have:=ar6 x;omega
    have bx:qp x+(if x.rk<1 then 1 else 0)<=qp (.two false x y):=d9 ..;have V4:qp y+(if y.rk<2 then 1 else 0)<=qp (.two false x y):=dX ..;have fx:qU x+(if x.rk<1 then 3 else 0)<=qU (.two false x y):=d9 ..;have fy:qU y+(if y.rk<2 then 3 else 0)<=qU (.two false x y):=dX ..;rw[aA hx]at bx fx;have e:mX (.two false x y)++r=mX x++([111,114]::(nU [91] [93] (decide<|y.rk<2) (mX y)++r)):=by show(nU [91] [93] (decide<|x.rk<1) (mX x)++jB (cw false)::nU [91] [93] (decide<|y.rk<2) (mX y))++r=_;rw[aZ,show jB (cw false)=[111,114]by decide,aC hx];rfl
    have fin:(f1 n).and (nU [91] [93] (decide<|y.rk<2) (mX y)++r) (k+x.sz+1) b=.ok y.d r (k+x.sz+1+y.sz) b:=by
     by_cases hy:y.rk<2
     ·rw[au hy]at V4 fy;rw[aP hy];obtain⟨n,rfl⟩:∃j,n=j+2:=⟨n - 2,by omega⟩;obtain⟨m1,m2,m3⟩:=QQ r;have:=Qv (r:=r) (by omega) (oy ([93]::r) (k+x.sz+1) (b+1) n (by omega) (by omega) (by omega) m1 m2 m3);rw[show n+2=(n+1)+1 from rfl,ad2];unfold xE;show pH ((f1<|n+1).not ([91]::(mX y++[[93]])++r) (k+x.sz+1) b) _=_;rw[this,zg];exact VR (m:=99) hw
     ·rw[aA hy]at V4 fy;rw[aC hy];exact ay r (k+x.sz+1) b n (by omega) (by omega) (by omega) (by omega) hr hw
    have ih:=lx ([111,114]::(nU [91] [93] (decide<|y.rk<2) (mX y)++r)) k b n (m+1) (by omega) (by omega) (by omega) (aiq false _) rfl;rw[e,show pZ false (.two false x y)=pZ false x+1 by show(if false=false then(if x.rk<1 then 0 else pZ false x)+1 else 0)=_;rw[au rfl,aA hx],show m+(pZ false x+1)=m+1+pZ false x by omega,ih,ac4 (by omega) fin];show rZ _ _ _ m _ r (k+x.sz+1+y.sz) b=rZ _ _ _ m _ r (k+(x.sz+y.sz+1)) b;rw[show k+x.sz+1+y.sz=k+(x.sz+y.sz+1)by omega];rfl
def aps(ol:OL c):OR c:=by intro r k b n hk hb hn hr hw hv;obtain⟨n,rfl⟩:∃j,n=j+1:=⟨n - 1,by omega⟩;have hl:=ae7 false c;rw[ak2];unfold xE;have:=ol r k b n (100 - pZ false c) hk hb (by omega) hr hw;rw[show 100 - pZ false c+pZ false c=100 by omega]at this;rw[this];obtain⟨m,e⟩:∃m,100 - pZ false c=m+1:=⟨99 - pZ false c,by omega⟩;rw[e];exact VR hv
theorem V7:∀s (c:Cn),c.sz<s->c.Ok->vZ c->NT c/\AL c/\AN c/\OL c/\OR c
 |0,c,hs,_,_=>absurd hs (jb _)
 |s+1,c,hs,h,kw=>by have IH:∀x:Cn,x.sz<c.sz->x.Ok->vZ x->NT x/\AL x/\AN x/\OL x/\OR x:=λx hx ho hk=>V7 s x (by omega) ho hk;have a:=anV h kw λx hx ho hk=>⟨(IH x hx ho hk).1,(IH x hx ho hk).2.2.2.2⟩;have b:=ajx h kw a λx hx ho hk=>⟨(IH x hx ho hk).1,(IH x hx ho hk).2.1,(IH x hx ho hk).2.2.2.2⟩;have c':=ajB b;have d:=ao5 h kw c' λx hx ho hk=>⟨(IH x hx ho hk).2.2.1,(IH x hx ho hk).2.2.2.1,(IH x hx ho hk).2.2.2.2⟩;exact⟨a,b,c',d,aps d⟩
def arZ{c:Cn}(h:c.Ok)(kw:vZ c)(hz:c.sz<=30)(hb:qp c<=16):pEnd ((f1 85).or (mX c) 0 0)=.ok c.d [] c.sz 0:=by have hf:=(aec c).1;have:=(V7 (c.sz+1) c (b8 _) h kw).2.2.2.2 [] 0 0 85 (by omega) (by omega) (by omega) ⟨rfl,rfl⟩ rfl rfl;rw[bz,Nat.zero_add]at this;rw[this];rfl
end WS
namespace WR
open PySem L2 P2 WP TM T2 PySem.NumText
local macro_rules|`(tactic|walk_at "zw")=>`(tactic|simp only[Kd,aiC,vq,ait,Kc,aiB,au7,au9,ava,auX,aiv,auY,wV,aiD,qy,BP,Ei,Hd,abV,O5,avb,Hj,xM,wW,Hi,ave,yG,avc,Hf,Hg,avd,zW,auR,abU,auS,ais,UG,UL,UJ,au4,auZ,aiy,aiz,aiA,au5,au6,au8,au2,au0,auT,au3,au1,auU,auV,sS,aae,qY,Br,vd,tR,pO,jX,agp,JK,agl,agB,aak,agz,xG,Bs,GX,ahL,ahN,dW,cG,Bool.not_true,Bool.not_false,az])
abbrev Za(a:Ad):lX:=λzs S=>kE (Mm a S.length (lg 3 zs) S)
abbrev Zt(a:Ad):lX:=λzs S=>kE (Ge a (Za a) S.length (lg 2 zs) S)
abbrev Ze(a:Ad):lX:=λzs S=>kE (Gd a (Zt a) S.length (lg 2 zs) S)
abbrev Zx(a:Ad):lX:=λzs S=>kE (Mr a (Za a) S.length (lg 1 zs) S)
abbrev Zb(a:Ad):lX:=λzs S=>kE (Mp a S.length (lg 1 zs) S)
abbrev Zn(a:Ad):lX:=λzs S=>kE (Mq a (Ze a) S.length (lg 2 zs) S)
abbrev Zl(a:Ad):lX:=λzs S=>kE (Ms a (Ze a) S.length (lg 2 zs) S)
def K7:jB (Str.ofString "")=[]:=by decide
def emp:(.str<|Str.ofString "":D)=tS []:=aV D.str (ext<|by decide)
section
variable{a:Ad}{T:List Tk}{p k b:Nat}{ρ:lr}
def afm(j):Za a [.loc 0,.d<|.int (j:Nat)] (jJ a T p k b)=.ok (.d<|tS<|nx<|T.drop<|p+j) (jJ a T p k b):=by
 show kE (Mm a 1 [some<|.loc 0,some<|.d<|.int (j:Nat),none]<|jJ a T p k b)=_;unfold Mm;by_cases h:p+j<T.length
 ·have h1:((p:Nat):Int)+((j:Nat):Int)<((T.length:Nat):Int):=by omega
  have h2:L2.lH (T.map tS) (((p:Nat):Int)+((j:Nat):Int))=some (tS<|nx<|T.drop<|p+j):=by rw[<-Int.natCast_add];refine CW ?_;rw[aO,aN h,cD h];rfl
  (repeat(first|walk_at "zw"|simp only[aP h1,agw,h2]))
 ·have h1:¬((p:Nat):Int)+((j:Nat):Int)<((T.length:Nat):Int):=by omega
  have h2:T.drop (p+j)=[]:=dm (by omega)
  (repeat(first|walk_at "zw"|simp only[aC h1,h2,emp]))
  rfl
def Hc:mL a.Tokens "ahead" (Za a) [.int 0] (zV 0) jW (some (.loc 0)::ρ) (jJ a T p k b)=.ok (.d<|tS<|nx<|T.drop p) (jJ a T p k b):=by rw[BL (by decide) xM];exact afm 0
def air:mL a.Tokens "ahead" (Za a) [] (zV 0) (jQ (zD<|dC<|.int 1) jW) (some (.loc 0)::ρ) (jJ a T p k b)=.ok (.d<|tS<|nx (T.drop p).tail) (jJ a T p k b):=by rw[BL (zs:=[.d<|.int 1]) (by decide) rfl];have:=afm (a:=a) (T:=T) (p:=p) (k:=k) (b:=b) 1;rw[List.tail_drop];exact this
def eq_nil(h:t≠[]):jU t []=false:=by
 cases t with
 |nil=>exact absurd rfl h
 |cons=>rfl
def Dh(h:T.drop p=t::r):T.drop (p+1)=r:=by rw[<-List.tail_drop,h];rfl
def mem_of(h:T.drop p=t::r):t∈T:=gr (by rw[h];exact bH ..)
def Jp(h:T.drop p=[]):Zt a [.loc 0] (jJ a T p k b)=.ex a.NoText ["row"] [.int 1] (jJ a T p k b):=by
 show kE (Ge a (Za a) 1 [some<|.loc 0,none]<|jJ a T p k b)=_;unfold Ge
 (repeat(first|walk_at "zw"|simp only[Hc,K7,h,nx,jU]))
def Jo(O:rM T)(h:T.drop p=t::r):Zt a [.loc 0] (jJ a T p k b)=.ok (.d<|tS t) (jJ a T (p+1) k b):=by
 show kE (Ge a (Za a) 1 [some<|.loc 0,none]<|jJ a T p k b)=_;unfold Ge;have e:=eq_nil (O.n t<|mem_of h)
 (repeat(first|walk_at "zw"|simp only[Hc,K7,h,nx,e]))
def zU:mL a.Tokens "take" (Zt a) [] (zV 0) jW (some (.loc 0)::ρ) (jJ a T p k b)=Zt a [.loc 0] (jJ a T p k b):=BL (m:="take") (by decide) xM
def Yr(h:T.drop p=[]):Ze a [.loc 0,.d<|.str s] (jJ a T p k b)=.ex a.NoText ["row"] [.int 1] (jJ a T p k b):=by show kE (Gd a (Zt a) 1 [some<|.loc 0,some<|.d<|.str s]<|jJ a T p k b)=_;unfold Gd;simp only[O5,Hg,Hf,zU];rw[Jp h];rfl
def Yq(O:rM T)(h:T.drop p=t::r):Ze a [.loc 0,.d<|.str s] (jJ a T p k b)=bif jU t (jB s)then .ok (.d .non) (jJ a T (p+1) k b)else .ex a.NoText ["row"] [.int 1] (jJ a T (p+1) k b):=by show kE (Gd a (Zt a) 1 [some<|.loc 0,some<|.d<|.str s]<|jJ a T p k b)=_;unfold Gd;simp only[O5,Hg,Hf,zU];rw[Jo O h];cases e:jU t (jB s)<;>(repeat(first|walk_at "zw"|simp only[e]))
def auW:mL a.Tokens "expect" (Ze a) [] (zV 0) (jQ (zD<|dC<|.str s) jW) (some (.loc 0)::ρ) (jJ a T p k b)=Ze a [.loc 0,.d<|.str s] (jJ a T p k b):=BL (m:="expect") (zs:=[.d<|.str s]) (by decide) rfl
def aiu:mL a.Tokens "expect" (Ze a) [] (zV 0) (jQ (zD<|dV 1) jW) (some (.loc 0)::some (.d<|.str s)::ρ) (jJ a T p k b)=Ze a [.loc 0,.d<|.str s] (jJ a T p k b):=BL (m:="expect") (zs:=[.d<|.str s]) (by decide) rfl
def amW:Zx a [.loc 0] (jJ a T p k b)=bif jU (nx<|T.drop p) []then .ok (.d .non) (jJ a T p k b)else .ex a.NoText ["row"] [.int 1] (jJ a T p k b):=by show kE (Mr a (Za a) 1 [some<|.loc 0]<|jJ a T p k b)=_;unfold Mr;cases e:jU (nx<|T.drop p) []<;>(repeat(first|walk_at "zw"|simp only[Hc,K7,e]))
def amR:Zb a [.loc 0] (jJ a T p k b)=bif Nat.ble k 29 then .ok (.d .non) (jJ a T p (k+1) b)else .ex a.NoText ["row"] [.int 1] (jJ a T p (k+1) b):=by
 show kE (Mp a 1 [some<|.loc 0]<|jJ a T p k b)=_;unfold Mp;cases e:Nat.ble k 29 with
 |true=>
  have h:¬(30:Int)<(((k+1:Nat):Nat):Int):=by have:=bK e;omega
  (repeat(first|walk_at "zw"|simp only[aC h]))
 |false=>
  have h:(30:Int)<(((k+1:Nat):Nat):Int):=by
   have:¬k<=29:=λz=>by rw[eF z]at e;cases e
   omega
  (repeat(first|walk_at "zw"|simp only[aP h]))
def Rt(a:Ad)(T:List Tk)(x:pq):Pr->Prop
 |.ok d r k b=>∃p,T.drop p=r/\x=.rt (.d d) (jJ a T p k b)
 |.no=>∃S,x=.ex a.NoText ["row"] [.int 1] S
 |.bad=>True
def Rt.fin(h:Rt a T x P):Rl a T (kE x) P:=by
 cases P with
 |ok d r k b=>obtain⟨p,e,h⟩:=h;exact⟨p,e,by rw[h];rfl⟩
 |no=>obtain⟨S,h⟩:=h;exact⟨S,by rw[h];rfl⟩
 |bad=>trivial
def Rt.seq(h:Rt a T x P):Rt a T (uA x f) P:=by
 cases P with
 |ok d r k b=>obtain⟨p,e,h⟩:=h;exact⟨p,e,by rw[h];rfl⟩
 |no=>obtain⟨S,h⟩:=h;exact⟨S,by rw[h];rfl⟩
 |bad=>trivial
def IW{f:Nat->Pr}{rest:lF}(H:Rt a T (rest (some (.loc 0)::ρ)<|jJ a T p (k+1) b)<|f<|k+1):
    Rt a T (j5 (pD<|mL a.Tokens "begin_part" (Zb a) [] (zV 0) jW) rest (some (.loc 0)::ρ)<|jJ a T p k b) (bg k f):=by
 rw[qy,BP,BL (by decide) xM];show Rt a T (uA (toZ (Zb a [.loc 0]<|jJ a T p k b) _) _) _;rw[amR];unfold bg;cases Nat.ble k 29 with
 |true=>exact H
 |false=>exact⟨_,rfl⟩
def Xf{f:List Tk->Pr}{rest:lF}(O:rM T)(hc:jB s=c)(H:Rt a T (rest (some (.loc 0)::ρ)<|jJ a T (p+1) k b)<|f<|T.drop<|p+1):
    Rt a T (j5 (pD<|mL a.Tokens "expect" (Ze a) [] (zV 0)<|jQ (zD<|dC<|.str s) jW) rest (some (.loc 0)::ρ)<|jJ a T p k b) (xp c (T.drop p) f):=by
 rw[qy,BP,auW];subst hc;unfold xp tk;cases h:T.drop p with
 |nil=>rw[Yr h];exact⟨_,rfl⟩
 |cons t r=>
  rw[Yq O h];rw[Dh h]at H;dsimp only;cases jU t (jB s)with
  |true=>exact H
  |false=>exact⟨_,rfl⟩
def afn{rest:lF}{f:List Tk->Nat->Pr}(O:rM T)(hc:jB s=c)(H:Rt a T (rest (some (.loc 0)::ρ)<|jJ a T (p+1) k<|b+1)<|f (T.drop<|p+1)<|b+1):
    Rt a T (j5 (pD<|mL a.Tokens "enter" (Zn a) [] (zV 0)<|jQ (zD<|dC<|.str s) jW) rest (some (.loc 0)::ρ)<|jJ a T p k b) (en c (T.drop p) b f):=by
 rw[qy,BP,BL (zs:=[.d<|.str s]) (by decide) rfl];show Rt a T (uA (toZ (kE<|Mq a (Ze a) 1 [some<|.loc 0,some<|.d<|.str s]<|jJ a T p k b) _) _) _;unfold Mq;rw[qy,BP,aiu];subst hc;unfold en tk;cases h:T.drop p with
 |nil=>rw[Yr h];exact⟨_,rfl⟩
 |cons t r=>
  rw[Yq O h];rw[Dh h]at H;dsimp only;cases jU t (jB s)with
  |false=>exact⟨_,rfl⟩
  |true=>
   cases e:Nat.ble b 15 with
   |true=>
    have h:¬(16:Int)<(((b+1:Nat):Nat):Int):=by have:=bK e;omega
    (repeat(first|walk_at "zw"|simp only[aC h]))
    exact H
   |false=>
    have h:(16:Int)<(((b+1:Nat):Nat):Int):=by
     have:¬b<=15:=λz=>by rw[eF z]at e;cases e
     omega
    (repeat(first|walk_at "zw"|simp only[aP h]))
    exact⟨_,rfl⟩
def aem{d}(O:rM T)(hc:jB s=c):
    Rt a T (j5 (pD<|mL a.Tokens "leave" (Zl a) [] (zV 0)<|jQ (zD<|dC<|.str s) jW) (o9<|zD<|dV 1) (some (.loc 0)::some (.d d)::ρ)<|jJ a T p k b) (lv c d (T.drop p) k b):=by
 rw[qy,BP,BL (zs:=[.d<|.str s]) (by decide) rfl];show Rt a T (uA (toZ (kE<|Ms a (Ze a) 1 [some<|.loc 0,some<|.d<|.str s]<|jJ a T p k b) _) _) _;unfold Ms;rw[qy,BP,aiu];subst hc;unfold lv tk;cases h:T.drop p with
 |nil=>rw[Yr h];exact⟨_,rfl⟩
 |cons t r=>
  rw[Yq O h];dsimp only;cases jU t (jB s)with
  |false=>exact⟨_,rfl⟩
  |true=>
   cases b with
   |zero=>trivial
   |succ b=>refine⟨p+1,Dh h,?_⟩;walk_at "zw"
def Ga(hF:oX a T F G){f:D->PF}{y}{rest:lF}(H:∀d p k b,Rt a T (rest (some (.loc 0)::some (.d d)::ρ)<|jJ a T p k b)<|f d (T.drop p) k b):
    Rt a T (j5 (mR 1<|zZ F<|jQ (zV 0) jW) rest (some (.loc 0)::y::ρ)<|jJ a T p k b) (pH (G (T.drop p) k b) f):=by
 have h:=hF p k b;simp only[qy,Hd,Hj,wW,Hi,xM,vq];cases e:G (T.drop p) k b with
 |bad=>trivial
 |no=>rw[e]at h;obtain⟨S,h⟩:=h;rw[h];exact⟨_,rfl⟩
 |ok d r k' b'=>rw[e]at h;obtain⟨p',e',h⟩:=h;rw[h];subst e';exact H _ _ _ _
def alj{f:Tk->List Tk->Pr}(O:rM T){y}{rest:lF}(H:∀t r,T.drop p=t::r->Rt a T (rest (some (.loc 0)::some (.d<|tS t)::ρ)<|jJ a T (p+1) k b) (f t<|T.drop<|p+1)):
    Rt a T (j5 (mR 1<|mL a.Tokens "take" (Zt a) [] (zV 0) jW) rest (some (.loc 0)::y::ρ)<|jJ a T p k b) (tk (T.drop p) f):=by
 simp only[qy,Hd,zU];unfold tk;cases h:T.drop p with
 |nil=>rw[Jp h];exact⟨_,rfl⟩
 |cons t r=>rw[Jo O h];have:=H t r h;rw[Dh h]at this;exact this
def aeo{f:Tk->List Tk->Pr}(O:rM T){y}{rest:lF}(H:∀t r,T.drop p=t::r->Rt a T (rest (some (.loc 0)::y::some (.d<|tS t)::ρ)<|jJ a T (p+1) k b) (f t<|T.drop<|p+1)):
    Rt a T (j5 (mR 2<|mL a.Tokens "take" (Zt a) [] (zV 0) jW) rest (some (.loc 0)::y::z::ρ)<|jJ a T p k b) (tk (T.drop p) f):=by
 simp only[qy,abV,zU];unfold tk;cases h:T.drop p with
 |nil=>rw[Jp h];exact⟨_,rfl⟩
 |cons t r=>rw[Jo O h];have:=H t r h;rw[Dh h]at this;exact this
def Xe{A rest:lF}(hc:jB s=c)(h1:Rt a T (A (some (.loc 0)::ρ)<|jJ a T p k b) P)(h2:Rt a T (rest (some (.loc 0)::ρ)<|jJ a T p k b) Q):
    Rt a T (j5 (nZ (qK tB<|z2 mV (mL a.Tokens "ahead" (Za a) [.int 0] (zV 0) jW)<|zD<|dC<|.str s) A pP) rest (some (.loc 0)::ρ)<|jJ a T p k b) (bif jU (nx<|T.drop p) c then P else Q):=by
 subst hc;cases e:jU (nx<|T.drop p) (jB s)with
 |true=>(repeat(first|walk_at "zw"|simp only[Hc,e]));exact h1.seq
 |false=>(repeat(first|walk_at "zw"|simp only[Hc,e]));exact h2
def Xd{A rest:lF}(hc:jB s=c)(h1:Rt a T (A (some (.loc 0)::some (.d<|tS t)::ρ)<|jJ a T p k b) P)(h2:Rt a T (rest (some (.loc 0)::some (.d<|tS t)::ρ)<|jJ a T p k b) Q):
    Rt a T (j5 (nZ (zB<|b1 tB<|d2 mV (dV 1)<|dC<|.str s) A pP) rest (some (.loc 0)::some (.d<|tS t)::ρ)<|jJ a T p k b) (bif jU t c then P else Q):=by
 subst hc;cases e:jU t (jB s)with
 |true=>(repeat(first|walk_at "zw"|simp only[e]));exact h1.seq
 |false=>(repeat(first|walk_at "zw"|simp only[e]));exact h2
def aaw(hF:oX a T F G):Rt a T (o9 (zZ F<|jQ (zV 0) jW) (some (.loc 0)::ρ)<|jJ a T p k b) (G (T.drop p) k b):=by
 have h:=hF p k b;simp only[Ei,Hj,wW,Hi,xM,vq];cases e:G (T.drop p) k b with
 |bad=>trivial
 |no=>rw[e]at h;obtain⟨S,h⟩:=h;rw[h];exact⟨_,rfl⟩
 |ok d r k' b'=>rw[e]at h;obtain⟨p',e',h⟩:=h;rw[h];exact⟨p',e',rfl⟩
def ag0(hF:oX a T F G){x:lA}{d0}(h0:x (nQ<|some (.loc 0)::ρ)=.ok d0):
    Rt a T (o9 (zF lB<|jQ (zD x)<|jQ (zZ F<|jQ (zV 0) jW) jW) (some (.loc 0)::ρ)<|jJ a T p k b) (tK (λd=>.tup [d0,d])<|G (T.drop p) k b):=by
 have h:=hF p k b;simp only[Ei,zW,yG,h0,wV,Hj,wW,Hi,xM,vq];unfold tK pH;cases e:G (T.drop p) k b with
 |bad=>trivial
 |no=>rw[e]at h;obtain⟨S,h⟩:=h;rw[h];exact⟨_,rfl⟩
 |ok d r k' b'=>rw[e]at h;obtain⟨p',e',h⟩:=h;rw[h];refine⟨p',e',?_⟩;walk_at "zw"
def agZ(hF:oX a T F G){x y:lA}{d0 d1}(h0:x (nQ<|some (.loc 0)::ρ)=.ok d0)(h1:y (nQ<|some (.loc 0)::ρ)=.ok d1):
    Rt a T (o9 (zF lB<|jQ (zD x)<|jQ (zD y)<|jQ (zZ F<|jQ (zV 0) jW) jW) (some (.loc 0)::ρ)<|jJ a T p k b) (tK (λd=>.tup [d0,d1,d])<|G (T.drop p) k b):=by
 have h:=hF p k b;simp only[Ei,zW,yG,h0,h1,wV,Hj,wW,Hi,xM,vq];unfold tK pH;cases e:G (T.drop p) k b with
 |bad=>trivial
 |no=>rw[e]at h;obtain⟨S,h⟩:=h;rw[h];exact⟨_,rfl⟩
 |ok d r k' b'=>rw[e]at h;obtain⟨p',e',h⟩:=h;rw[h];refine⟨p',e',?_⟩;walk_at "zw"
def asp(O:rM T)(hF:oX a T F G):oX a T (λzs S=>kE<|LQ a (Zn a) F (Zl a) S.length (lg 2 zs) S) (Jy G):=by intro p k b;refine Rt.fin ?_;show Rt a T (LQ a (Zn a) F (Zl a) 1 [some<|.loc 0,none]<|jJ a T p k b) _;unfold LQ Jy;refine afn O (by decide) ?_;refine Ga hF λd p k b=>?_;exact aem O (by decide)
end
section
variable{a:Ad}{T:List Tk}{p k b:Nat}{ρ:lr}
def alg{ks:List Str}{fx:lA}{A rest:lF}(hx:∀e,fx e=.ok (.tup<|ks.map D.str))(hs:PyData.strOk (jz t)=true)(hk:∀k∈ks,PyData.strOk k=true)(hc:ks.map jB=cs)
 (h1:Rt a T (A (some (.loc 0)::some (.d<|tS t)::ρ)<|jJ a T p k b) P)(h2:Rt a T (rest (some (.loc 0)::some (.d<|tS t)::ρ)<|jJ a T p k b) Q):
   Rt a T (j5 (nZ (zB<|b1 tB<|d2 mQ (dV 1) fx) A pP) rest (some (.loc 0)::some (.d<|tS t)::ρ)<|jJ a T p k b) (bif cs.any (jU t)then P else Q):=by
  subst hc;have e0:=ahM t ks hs hk;cases e:(ks.map jB).any (jU t)with
  |true=>rw[e]at e0;(repeat(first|walk_at "zw"|simp only[hx,e0]));exact h1.seq
  |false=>rw[e]at e0;(repeat(first|walk_at "zw"|simp only[hx,e0]));exact h2
def ali{ks:List Str}{y}{fx:lA}{rest:lF}(hx:∀e,fx e=.ok (.tup<|ks.map D.str))(hs:PyData.strOk (jz t)=true)(hk:∀k∈ks,PyData.strOk k=true)(hc:ks.map jB=cs)
 (h1:Rt a T (rest (some (.loc 0)::y::some (.d<|tS t)::ρ)<|jJ a T p k b) P)(hy:∃d,y=some (.d d)):
   Rt a T (j5 (nZ (zB<|b1 tB<|d2 Gx (dV 2) fx) (λρ S=>leave ((λρ=>toS ((jy (dC<|.int 1) jE) ρ) λds=>.ex a.NoText ["row"] ds) (nQ ρ)) S) pP) rest (some (.loc 0)::y::some (.d<|tS t)::ρ)<|jJ a T p k b) (bif cs.any (jU t)then P else .no):=by
  subst hc;obtain⟨d,rfl⟩:=hy;have e0:=aus t ks hs hk;cases e:(ks.map jB).any (jU t)with
  |true=>rw[e]at e0;(repeat(first|walk_at "zw"|simp only[hx,e0]));exact h1
  |false=>rw[e]at e0;(repeat(first|walk_at "zw"|simp only[hx,e0]));exact⟨_,rfl⟩
def alh{A rest:lF}(hc:jB s=c)(h1:Rt a T (A (some (.loc 0)::ρ)<|jJ a T p k b) P)(h2:Rt a T (rest (some (.loc 0)::ρ)<|jJ a T p k b) Q):
    Rt a T (j5 (nZ (qK tB<|z2 pM (mL a.Tokens "ahead" (Za a) [] (zV 0)<|jQ (zD<|dC<|.int 1) jW)<|zD<|dC<|.str s) A pP) rest (some (.loc 0)::ρ)<|jJ a T p k b) (bif jU (nx (T.drop p).tail) c then Q else P):=by
 subst hc;cases e:jU (nx (T.drop p).tail) (jB s)with
 |true=>simp only[qy,O5,Hg,Hf,air];(repeat(first|walk_at "zw"|simp only[e]));exact h2
 |false=>simp only[qy,O5,Hg,Hf,air];(repeat(first|walk_at "zw"|simp only[e]));exact h1.seq
def atx(e):(dA lB<|jy (dC<|.str "back")<|jy (dC<|.str "on")<|jy (dC<|.str "ago")<|jy (dC<|.str "until") jE) e=.ok (.tup<|([Str.ofString "back",Str.ofString "on",Str.ofString "ago",Str.ofString "until"]:List Str).map D.str):=by simp only[vd,pO,tR,sS,jX,aiA];rfl
def ahC(x y e):(dA lB<|jy (dC<|.str x)<|jy (dC<|.str y) jE) e=.ok (.tup<|([x,y]:List Str).map D.str):=by simp only[vd,pO,tR,sS,jX,aiy];rfl
def aog(O:rM T):PyData.strOk (jz<|nx<|T.drop p)=true:=by
 cases h:T.drop p with
 |nil=>decide+kernel
 |cons t r=>exact O.s t (mem_of h)
def asv(O:rM T){Fw Fo Fs:jO}(hW:∀t∈T,Fw [tS t,.int 1,.int 9]=Bo a (Ej t 1 9))(hO:∀t∈T,Fo [tS t]=Nz a (jz t))(hS:∀t∈T,Fs [tS t]=outF a (xH t))(hF:oX a T F G):
    oX a T (λzs S=>kE<|Mi a Fw Fo Fs (Za a) F (Zb a) (Zt a) S.length (lg 2 zs) S) (DY G):=by
 intro p k b;refine Rt.fin ?_;show Rt a T (Mi a Fw Fo Fs (Za a) F (Zb a) (Zt a) 1 [some<|.loc 0,none]<|jJ a T p k b) _;unfold Mi DY;refine Xe (by decide) (aaw hF) ?_;refine IW ?_;refine alj O λw r h=>?_;have hw:=mem_of h;refine Xd (by decide) ⟨_,rfl,by walk_at "zw"⟩ ?_;refine alg atx (O.s w hw) (by decide+kernel) (by decide) ?_ ?_
 ·unfold tk;cases h2:T.drop (p+1)with
  |nil=>simp only[Ei,zW,wW,yG,UL,UJ,UG,Bs,wV,vq,zU];rw[Jp h2];exact⟨_,rfl⟩
  |cons t r2=>
   simp only[Ei,zW,wW,yG,UL,UJ,UG,Bs,wV,vq,zU];rw[Jo O h2];have e:=hW t (mem_of h2);unfold opt;cases e2:Ej t 1 9 with
   |none=>rw[e2]at e;unfold Bo at e;(repeat(first|walk_at "zw"|simp only[e]));exact⟨_,rfl⟩
   |some v=>rw[e2]at e;unfold Bo at e;(repeat(first|walk_at "zw"|simp only[e]));exact⟨_,Dh h2,rfl⟩
 refine Xd (by decide) ?_ ?_
 ·unfold tk;cases h2:T.drop (p+1)with
  |nil=>simp only[Ei,zW,wW,yG,sS,wV,vq,zU];rw[Jp h2];exact⟨_,rfl⟩
  |cons t r2=>
   simp only[Ei,zW,wW,yG,sS,wV,vq,zU];rw[Jo O h2];have e:=hO t (mem_of h2);unfold Nz at e;rw[uX]at e;try dsimp only
   cases e2:TR.uf t with
   |false=>rw[e2,aA<|by simp]at e;(repeat(first|walk_at "zw"|simp only[e]));exact⟨_,rfl⟩
   |true=>rw[e2,au rfl]at e;(repeat(first|walk_at "zw"|simp only[e]));exact⟨_,Dh h2,rfl⟩
 refine Xd (by decide) (ag0 hF rfl) ?_;have e:=hS w hw;unfold opt;cases e2:xH w with
 |none=>rw[e2]at e;unfold outF at e;(repeat(first|walk_at "zw"|simp only[e]));exact⟨_,rfl⟩
 |some v=>rw[e2]at e;unfold outF at e;(repeat(first|walk_at "zw"|simp only[e]));exact⟨_,rfl,rfl⟩
def asu(O:rM T){Fs:jO}(hS:∀t∈T,Fs [tS t]=outF a (xH t))(hF:oX a T F G):
    oX a T (λzs S=>kE<|Mh a Fs (Za a) F (Zt a) (Ze a) (Zb a) S.length (lg 2 zs) S) (Bp G):=by
 intro p k b;refine Rt.fin ?_;show Rt a T (Mh a Fs (Za a) F (Zt a) (Ze a) (Zb a) 1 [some<|.loc 0,none]<|jJ a T p k b) _;unfold Mh Bp;refine alh (by decide) (aaw hF) ?_;unfold tk;cases h:T.drop p with
 |nil=>rw[qy];simp only[Hd,zW,wW,zU];rw[Jp h];exact⟨_,rfl⟩
 |cons t r=>
  rw[qy];simp only[Hd,zW,wW,zU];rw[Jo O h];have e:=hS t (mem_of h);unfold opt;cases e2:xH t with
  |none=>rw[e2]at e;unfold outF at e;simp only[vq,xM,abU,e,aiD,ait,aiC,aiB];exact⟨_,rfl⟩
  |some v=>
   rw[e2]at e;unfold outF at e;simp only[vq,xM,abU,e,wV,Kd,Kc];try dsimp only
   rw[<-Dh h];refine Xf O (by decide) ?_;refine IW ?_;exact agZ hF rfl rfl
def abR{R}:uA (vp (j5 (pD f) B ρ S) K) R=j5 (pD f) (λρ S=>uA (vp (B ρ S) K) R) ρ S:=by rw[qy,qy,BP];cases f ρ S<;>rfl
def auI{R y}:uA (vp (j5 (mR 2 f) B (x::y::z::ρ) S) K) R=j5 (mR 2 f) (λρ S=>uA (vp (B ρ S) K) R) (x::y::z::ρ) S:=by rw[qy,qy,abV];cases f (x::y::z::ρ) S<;>rfl
def ah2{R y}:uA (vp (mR 1 f (x::y::ρ) S) K) R=j5 (mR 1 f) (λρ S=>uA (K ρ S) R) (x::y::ρ) S:=by rw[qy,Hd];cases f (x::y::ρ) S<;>rfl
def aen(hF:oX a T F G){f:D->PF}{x y:lA}{d0 d1}(h0:x (nQ<|some (.loc 0)::y0::ρ)=.ok d0)(h1:y (nQ<|some (.loc 0)::y0::ρ)=.ok d1){rest:lF}
 (H:∀d p k b,Rt a T (rest (some (.loc 0)::some (.d<|.tup [d0,d1,d])::ρ)<|jJ a T p k b)<|f d (T.drop p) k b):
   Rt a T (j5 (mR 1<|zF lB<|jQ (zD x)<|jQ (zD y)<|jQ (zZ F<|jQ (zV 0) jW) jW) rest (some (.loc 0)::y0::ρ)<|jJ a T p k b) (pH (G (T.drop p) k b) f):=by
  have h:=hF p k b;simp only[qy,Hd,zW,yG,h0,h1,wV,Hj,wW,Hi,xM,vq];unfold pH;cases e:G (T.drop p) k b with
  |bad=>trivial
  |no=>rw[e]at h;obtain⟨S,h⟩:=h;rw[h];exact⟨_,rfl⟩
  |ok d r k' b'=>rw[e]at h;obtain⟨p',e',h⟩:=h;rw[h];subst e';simp only[vq,ais,aiz,wV,Kd,Kc];exact H _ _ _ _
theorem aeZ(O:rM T)(hF:oX a T F G):∀n d x p k b,
 Rt a T (uA (uB (qK tB<|z2 mQ (mL a.Tokens "ahead" (Za a) [.int 0] (zV 0) jW)<|zD<|dA lB<|jy (dC<|.str "+")<|jy (dC<|.str "-") jE) (VJ a F (Za a) (Zt a)<|Zb a) n [some<|.loc 0,some<|.d d,x]<|jJ a T p k b)<|o9<|zD<|dV 1) (wM G n d (T.drop p) k b)
 |0,_,_,_,_,_=>trivial
 |n+1,d,x,p,k,b=>by
  have e0:=ahM (nx<|T.drop p) [Str.ofString "+",Str.ofString "-"] (aog O) (by decide+kernel);rw[show([Str.ofString "+",Str.ofString "-"]:List Str).map jB=[[43],[45]]by decide]at e0;unfold uB wM;simp only[Hg,Hf,Hc,yG,ahC,vq,wV,e0,JK,Kd];cases e:[[43],[45]].any (jU<|nx<|T.drop p)with
  |false=>
   rw[aA<|by simp];cases x with
   |none=>exact⟨_,rfl,by walk_at "zw"⟩
   |some x=>cases x<;>exact⟨_,rfl,by walk_at "zw"⟩
  |true=>
   rw[au rfl,dW];unfold VJ;rw[auI];refine aeo O λt r h=>?_;try dsimp only
   rw[abR];refine IW ?_;try dsimp only
   rw[ah2];refine aen hF rfl rfl λe p k b=>?_;exact aeZ O hF n _ _ p k b
def asw(O:rM T)(hF:oX a T F G):oX a T (λzs S=>kE<|Mj a F (Za a) (Zt a) (Zb a) S.length (lg 3 zs) S) (Jz G):=by intro p k b;refine Rt.fin ?_;show Rt a T (Mj a F (Za a) (Zt a) (Zb a) 1 [some<|.loc 0,none,none]<|jJ a T p k b) _;unfold Mj Jz;refine Ga hF λd p k b=>?_;rw[qy];exact aeZ O hF 100 d none p k b
def asq(O:rM T)(hF:oX a T F G):oX a T (λzs S=>kE<|LR a (Zb a) F (Zt a) S.length (lg 3 zs) S) (GK G):=by intro p k b;refine Rt.fin ?_;show Rt a T (LR a (Zb a) F (Zt a) 1 [some<|.loc 0,none,none]<|jJ a T p k b) _;unfold LR GK;refine IW ?_;refine Ga hF λd p k b=>?_;refine aeo O λt r h=>?_;refine ali (ahC _ _) (O.s t<|mem_of h) (by decide+kernel) (by decide) ?_ ⟨_,rfl⟩;exact agZ hF rfl rfl
theorem Yc(O:rM T)(hc:jB s=c)(hF:oX a T F G):∀n d p k b,
 Rt a T (uA (uB (qK tB<|z2 mV (mL a.Tokens "ahead" (Za a) [.int 0] (zV 0) jW)<|zD<|dC<|.str s) (j5 (pD<|mL a.Tokens "expect" (Ze a) [] (zV 0)<|jQ (zD<|dC<|.str s) jW)<|j5 (pD<|mL a.Tokens "begin_part" (Zb a) [] (zV 0) jW)<|mR 1<|zF lB<|jQ (zD<|dC<|.str s)<|jQ (zD<|dV 1)<|jQ (zZ F<|jQ (zV 0) jW) jW) n [some<|.loc 0,some<|.d d]<|jJ a T p k b)<|o9<|zD<|dV 1) (rZ c s G n d (T.drop p) k b)
 |0,_,_,_,_=>trivial
 |n+1,d,p,k,b=>by
  unfold uB rZ;simp only[Hg,Hf,Hc,yG,sS,vq,wV,ahL,hc,JK,Kd];cases e:jU (nx<|T.drop p) c with
  |false=>rw[aA<|by simp];exact⟨_,rfl,by walk_at "zw"⟩
  |true=>
   rw[au rfl,dW];rw[abR];refine Xf O hc ?_;try dsimp only
   rw[abR];refine IW ?_;try dsimp only
   rw[ah2];refine aen hF rfl rfl λe p k b=>?_;exact Yc O hc hF n _ p k b
def aso(O:rM T)(hF:oX a T F G):oX a T (λzs S=>kE<|LK a F (Za a) (Ze a) (Zb a) S.length (lg 2 zs) S) (xE [97,110,100] "and" G):=by intro p k b;refine Rt.fin ?_;show Rt a T (LK a F (Za a) (Ze a) (Zb a) 1 [some<|.loc 0,none]<|jJ a T p k b) _;unfold LK xE acZ;refine Ga hF λd p k b=>?_;rw[qy];exact Yc O (by decide) hF 100 d p k b
def ass(O:rM T)(hF:oX a T F G):oX a T (λzs S=>kE<|Mg a F (Za a) (Ze a) (Zb a) S.length (lg 2 zs) S) (xE [111,114] "or" G):=by intro p k b;refine Rt.fin ?_;show Rt a T (Mg a F (Za a) (Ze a) (Zb a) 1 [some<|.loc 0,none]<|jJ a T p k b) _;unfold Mg xE ac0;refine Ga hF λd p k b=>?_;rw[qy];exact Yc O (by decide) hF 100 d p k b
def asr(O:rM T)(hn:oX a T Fn Gn)(ho:oX a T Fo Go)(hc:oX a T Fc Gc):oX a T (λzs S=>kE<|Mf a (Za a) (Ze a) (Zb a) Fn (Zn a) Fo (Zl a) Fc S.length (lg 2 zs) S) (GQ Gn Go Gc):=by
 intro p k b;refine Rt.fin ?_;show Rt a T (Mf a (Za a) (Ze a) (Zb a) Fn (Zn a) Fo (Zl a) Fc 1 [some<|.loc 0,none]<|jJ a T p k b) _;unfold Mf GQ;refine Xe (by decide) ?_ ?_
 ·refine Xf O (by decide) ?_;refine IW ?_;exact ag0 hn rfl
 refine Xe (by decide) ?_ ?_
 ·refine afn O (by decide) ?_;refine Ga ho λd p k b=>?_;exact aem O (by decide)
 exact aaw hc
def s_end(O:rM T)(hF:oX a T F G):oX a T (λzs S=>kE<|Ml a F (Zx a) S.length (lg 2 zs) S) (λr k b=>pEnd<|G r k b):=by
 intro p k b;refine Rt.fin ?_;show Rt a T (Ml a F (Zx a) 1 [some<|.loc 0,none]<|jJ a T p k b) _;unfold Ml pEnd;refine Ga hF λd p k b=>?_;rw[qy,BP,BL (by decide) xM];show Rt a T (uA (toZ (Zx a [.loc 0]<|jJ a T p k b) _) _) _;rw[amW];cases h:T.drop p with
 |nil=>exact⟨p,h,rfl⟩
 |cons t r=>have:jU (nx<|t::r) []=false:=eq_nil (O.n t<|mem_of h);rw[this];exact⟨_,rfl⟩
def am1{Fp:jO}(h:Fp [.str s]=.ok (.lst<|T.map tS)):kE (Dm a Fp 1 [some<|.loc 0,some<|.d<|.str s] [.ob a.Tokens []])=.ok (.d .non) (jJ a T 0 0 0):=by
 unfold Dm;have f0:∀(f:Str) (v:D) (fs:List<|Str×Z) (ρ:lr),fs.length<1000->BV a.Tokens (zV 0) f (zD<|dC v) (some (.loc 0)::ρ) [.ob a.Tokens fs]=.nx (some (.loc 0)::ρ) [.ob a.Tokens<|Bq f (.d v) fs]:=λf v fs ρ hl=>by unfold BV;show(if a.Tokens=a.Tokens/\fs.length<1000 then _ else _)=_;rw[au ⟨rfl,hl⟩];rfl
 have f1:BV a.Tokens (zV 0) "tokens" (zD<|dA Fp<|jy (dV 1) jE) [some<|.loc 0,some<|.d<|.str s] [.ob a.Tokens []]=.nx [some<|.loc 0,some<|.d<|.str s] [.ob a.Tokens<|Bq "tokens" (.d<|.lst<|T.map tS) []]:=by unfold BV;simp only[yG,UL,UJ,UG,vd,pO,tR,Bs,jX,h,wV,vq,Kd,Hi];show(if a.Tokens=a.Tokens/\(0<1000)then _ else _)=_;rw[au ⟨rfl,by decide⟩];rfl
 rw[qy,f1,Kc,qy,f0 _ _ _ _<|bK rfl,Kc,qy,f0 _ _ _ _<|bK rfl,Kc,f0 _ _ _ _<|bK rfl,aiv];rfl
def afN(a:Ad):Pr->R D->Prop
 |.ok d _ _ _,x=>x=.ok d
 |.no,x=>x=.ex a.NoText ["row"] [.int 1]
 |.bad,_=>True
def amU{Fp:jO}(h:Fp [.str s]=.ok (.lst<|T.map tS))(hF:oX a T F G):
    afN a (G T 0 0) (clo<|kE<|Ma a (λzs S=>kE<|Dm a Fp S.length (lg 2 zs) S) F ([]:lD).length (lg 1<|[D.str s].map .d) []):=by
 have e:kE (Ma a (λzs S=>kE<|Dm a Fp S.length (lg 2 zs) S) F ([]:lD).length (lg 1<|[D.str s].map .d) [])=kE (toZ (F [.loc 0]<|jJ a T 0 0 0) .rt):=by
  unfold Ma;show kE (toZ (zZ F (jQ (Kg a.Tokens _<|jQ (zD<|dV 0) jW) jW) [some<|.d<|.str s] []) .rt)=_;rw[Hj,wW];have e1:Kg a.Tokens (λzs S=>kE<|Dm a Fp S.length (lg 2 zs) S) (jQ (zD<|dV 0) jW) [some<|.d<|.str s] []=.ok (.loc 0) (jJ a T 0 0 0):=by
   unfold Kg
   show(match kE (Dm a Fp 1 [some (.loc 0),some (.d (.str s))] [.ob a.Tokens []])with
    |.ok (.d .non) S2=>RX.ok (Z.loc 0) S2
    |.ex c ns ds S2=>.ex c ns ds S2
    |_=>.bad)=_
   rw[am1 h]
  rw[e1];rfl
 rw[e];have q:=hF 0 0 0;rw[List.drop_zero]at q;cases z:G T 0 0 with
 |bad=>trivial
 |no=>rw[z]at q;obtain⟨S,q⟩:=q;rw[q];rfl
 |ok d r k b=>rw[z]at q;obtain⟨p,e',q⟩:=q;rw[q];rfl
end
variable{a:Ad}
def anm{Fr:jO}(hr:∀z:Str,z.length<=1000->Fr [.str z]=outF a (wg<|jB z))(t:Tk)(ht:t.length<=1000):jM (Rv a Fr<|jP 2 [tS t])=outF a (xH t):=by
 have h:=hr (jz t) (by rw[yw];exact ht);rw[uX]at h;unfold Rv xH;cases e:wg t with
 |none=>
  rw[e]at h;unfold outF at h;iterate 4 (walk_at "d";try simp only[h])
  rfl
 |some v=>
  obtain⟨p,q⟩:=v;rw[e]at h;unfold outF at h;dsimp only at h;have i0:jR (.tup [D.int p,D.int q]) (.int 0)=.ok (.int p):=rfl;have i1:jR (.tup [D.int p,D.int q]) (.int 1)=.ok (.int q):=rfl;have ap:Fd [.int p]=.ok (.int (p.natAbs:Nat)):=by
   rw[agk]
   congr 2
   split<;>omega
  generalize hw:D.tup [D.int p,D.int q]=w at h i0 i1;have ha:(if p<0 then -p else p)=((p.natAbs:Nat):Int):=by split<;>omega
  by_cases h1:p.natAbs<1000000000
  ·have Av:¬(1000000000:Int)<=((p.natAbs:Nat):Int):=by omega
   by_cases h2:q<1000000
   ·have Gf:¬(1000000:Int)<=q:=by omega
    iterate 7 (walk_at "d";try simp only[h,i0,i1,ha,Av,Gf,bW])
    rw[au ⟨h1,h2⟩];unfold outF;rw[<-hw]
   ·have Gf:(1000000:Int)<=q:=by omega
    iterate 7 (walk_at "d";try simp only[h,i0,i1,ha,Av,Gf,bW,bZ])
    rw[aA λz=>h2 z.2];rfl
  ·have Av:(1000000000:Int)<=((p.natAbs:Nat):Int):=by omega
   iterate 7 (walk_at "d";try simp only[h,i0,i1,ha,Av,bZ])
   rw[aA λz=>h1 z.1];rfl
def asb(c):Txt.contains (Str.ofString "abcdefghijklmnopqrstuvwxyz0123456789/") ⟨#[c]⟩=nF c:=by
 rw[Jd];have e:jB (Str.ofString "abcdefghijklmnopqrstuvwxyz0123456789/")=[97,98,99,100,101,102,103,104,105,106,107,108,109,110,111,112,113,114,115,116,117,118,119,120,121,122,48,49,50,51,52,53,54,55,56,57,47]:=by decide
 rw[e];exact TM.Yu (by decide+kernel) (by decide+kernel) (λc h=>by rw[iw];unfold nF;simp only[ne_eq,bM,aK,cV];omega) c
def mF(c:Nat):List Nat:=bif nF c then[c]else[32,c,32]
def aqq(c):(vR (b1 tB<|d2 vH (dV 0)<|dC<|.str "abcdefghijklmnopqrstuvwxyz0123456789/") (dV 0)<|(lW (dC<|.str " ")<|lW (d1 nH<|dV 0)<|lW (dC<|.str " ") rB) Str.empty) [.sh<|.str ⟨#[c]⟩]=.ok (tS<|mF c):=by
 have h:=asb c;unfold mF;have f1:d1 nH (dV 0) [.sh<|.str ⟨#[c]⟩]=.ok (.str ⟨#[c]⟩):=by rw[aae,xG,jX,agt,au<|by show 1<=sizeLine;decide]
 cases e:nF c with
 |true=>
  rw[e]at h;iterate 3 (walk_at "d";try simp only[h])
  try rfl
 |false=>
  rw[e]at h;have L:∀z:Str,(jB z).length<=1000->z.length<=sizeLine:=λz hz=>size_of (by rw[tH];omega);have s1:∀ρ:Ev,dC (.str " ") ρ=.ok (.str<|Str.ofString " "):=λ_=>rfl;have e0:b1 tB (d2 vH (dV 0)<|dC<|.str "abcdefghijklmnopqrstuvwxyz0123456789/") [.sh<|.str ⟨#[c]⟩]=.ok false:=by rw[Br,qY,xG,jX,sS,jX,agv,h];rfl
  rw[agq,e0,jX,aA<|by simp];rw[aam (s1 _)<|L _<|by rw[qi];decide,aam f1<|L _<|by rw[qi,qi];exact bK rfl,aam (s1 _)<|L _<|by rw[qi,qi,qi];exact bK rfl,agy,au<|L _<|by rw[qi,qi,qi];exact bK rfl];exact aV (λz=>R.ok<|D.str z) (ext<|by rw[qi,qi,qi];rfl)
theorem adu:∀l:List Str,jB (Str.join (Str.ofString "") l)=(l.map jB).flatten
 |[]=>rfl
 |[p]=>by simp[Str.join]
 |p::q::r=>by show jB (p++Str.ofString ""++Str.join (Str.ofString "") (q::r))=_;rw[qi,qi,adu<|q::r,K7,bz];rfl
theorem strs_map{α:Type}(f:α->Tk):∀l:List α,Hb (l.map λc=>tS<|f c)=some (l.map λc=>jz<|f c)
 |[]=>rfl
 |x::r=>by show(Hb<|r.map λc=>tS<|f c).map (jz (f x):: ·)=_;rw[strs_map f r];rfl
theorem adB(uU)(h0:∀d,gV 0 d uU=some [.sh d]):∀L:List Tk,sH (gV 0) (b1 tB<|d2 pM (dV 0)<|dC<|.str "") (dV 0) uU (L.map tS)=some ((L.filter λt=>!t.isEmpty).map tS)
 |[]=>rfl
 |t::r=>by
  have e:(b1 tB<|d2 pM (dV 0)<|dC<|.str "") [.sh<|tS t]=.ok (!t.isEmpty):=by rw[Br,qY,xG,jX,sS,jX,ahN,K7];cases t<;>rfl
  rw[aR];unfold sH;rw[h0,dR,e,adB uU h0 r];cases t<;>rfl
theorem ae2:∀cs:List Nat,(cs.map λc=>(jz<|mF c).length).sum<=3*cs.length
 |[]=>by simp
 |c::r=>by
  have:=ae2 r;have l:(jz<|mF c).length<=3:=by rw[yw];unfold mF;cases nF c<;>simp
  rw[aR,List.sum_cons,ak];omega
theorem Sq:∀cs:List Nat,(cs.flatMap mF).length<=3*cs.length
 |[]=>by simp
 |c::r=>by
  have:=Sq r;have l:(mF c).length<=3:=by unfold mF;cases nF c<;>simp
  rw[cZ,aq,ak];omega
theorem Yd(c):∀l:List Nat,(kZ c l).length<=l.length+1
 |[]=>by simp[kZ]
 |x::r=>by
  have:=Yd c r;by_cases e:x=c;·subst e;rw[yD,ak,ak];omega
  ·cases q:kZ c r with
   |nil=>exact absurd q (G9 c r)
   |cons p ps=>rw[q]at this;rw[Bw e q];simp only[ak]at this⊢;omega
theorem SM:∀{l t},t∈kZ c l->(∀x∈t,x∈l)/\t.length<=l.length
 |[],t,h=>by rw[show kZ c []=[[]]from rfl,bR]at h;subst h;simp
 |x::r,t,h=>by
  by_cases e:x=c
  ·subst e;rw[yD,fC]at h;rcases h with rfl|h;·simp
   ·obtain⟨h1,h2⟩:=SM h;exact⟨λy hy=>aW _ (h1 y hy),by rw[ak];omega⟩
  ·cases q:kZ c r with
   |nil=>exact absurd q (G9 c r)
   |cons p ps=>
    rw[Bw e q,fC]at h;have hp:=SM (c:=c) (l:=r) (t:=p) (by rw[q];exact bH ..);rcases h with rfl|h
    ·refine⟨λy hy=>?_,by rw[ak,ak];omega⟩;rcases List.mem_cons.mp hy with rfl|hy;·exact bH ..
     ·exact aW _ (hp.1 y hy)
    ·obtain⟨h1,h2⟩:=SM (c:=c) (l:=r) (t:=t) (by rw[q];exact aW _ h);exact⟨λy hy=>aW _ (h1 y hy),by rw[ak];omega⟩
end WR
namespace WS
open PySem L2 P2 WP TM T2 PySem.NumText WR WC
theorem ahw(c y):∀x:List Nat,kZ c (x++c::y)=kZ c x++kZ c y
 |[]=>by rw[bV,yD];rfl
 |a::x=>by
  have ih:=ahw c y x;by_cases h:a=c
  ·subst h;rw[cU,yD,yD,ih];rfl
  ·cases e:kZ c x with
   |nil=>exact absurd e (G9 c x)
   |cons p ps=>rw[e]at ih;rw[cU,Bw h ih,Bw h e];rfl
def xJ(l:List Nat):List Tk:=(kZ 32 l).filter λt=>!t.isEmpty
def Us(x y):xJ (x++32::y)=xJ x++xJ y:=by unfold xJ;rw[ahw,du]
def auC:xJ []=[]:=rfl
def ahV(y):xJ (32::y)=xJ y:=by have:=Us [] y;rw[auC]at this;exact this
def ahW{w}(h:32∉w)(h0:w≠[]):xJ w=[w]:=by
 unfold xJ;rw[G8 h];cases w with
 |nil=>exact absurd rfl h0
 |cons c r=>rfl
def abO(cs):lK cs=xJ (cs.flatMap mF):=rfl
def agd(x c y):(x++c::y).flatMap mF=x.flatMap mF++(mF c++y.flatMap mF):=by rw[List.flatMap_append,cZ]
def vo(x y):lK (x++32::y)=lK x++lK y:=by rw[abO,agd,show mF 32=[32,32,32]from rfl];show xJ (x.flatMap mF++32::(32::(32::y.flatMap mF)))=_;rw[Us,ahV,ahV];rfl
def BK(hc:nF c=false)(ym:c≠32)(x y):lK (x++c::y)=lK x++[c]::lK y:=by rw[abO,agd,show mF c=[32,c,32]by unfold mF;rw[hc];rfl];show xJ (x.flatMap mF++32::([c]++32::y.flatMap mF))=_;rw[Us,Us,ahW (w:=[c]) (by simp;omega)<|by simp];rfl
theorem ag2:∀{w:List Nat},(∀c∈w,nF c=true)->w.flatMap mF=w
 |[],_=>rfl
 |c::r,h=>by rw[cZ,ag2 λx hx=>h x<|aW _ hx,show mF c=[c]by unfold mF;rw[h c<|bH ..];rfl];rfl
def Ut{w:List Nat}(h:∀c∈w,nF c=true)(h0:w≠[]):lK w=[w]:=by rw[abO,ag2 h];exact ahW (λz=>absurd (h 32 z)<|by decide) h0
def JW:lK []=[]:=rfl
def Ef(n):∀c∈num n,nF c=true:=λc hc=>by have:=Nm n c hc;unfold nF;rw[bM,aK,aK,cV,cV,cV,cV];omega
def Ju{n:Int}(h:0<=n):nD n=num n.natAbs:=by unfold nD;rw[aA<|by omega]
def Bu{p q:Int}(h:Fq p q):∀c∈my p q,nF c=true:=by
 unfold my;rw[Ju h.nn];split;·exact Ef _
 ·intro c hc;rcases List.mem_append.mp hc with hc|hc;·exact Ef _ c hc
  ·rcases List.mem_cons.mp hc with rfl|hc;·decide
   ·exact Ef _ c hc
def ahY{p q:Int}(h:Fq p q):lK (my p q)=[my p q]:=Ut (Bu h) (by obtain⟨c,r,e,_⟩:=JQ h;rw[e];simp)
def Oz(ho:nF o=false/\o≠32)(hc:nF c=false/\c≠32)(b)(h:lK x=ts):lK (brk o c b x)=nU [o] [c] b ts:=by
 subst h;unfold brk nU;cases b with
 |false=>rfl
 |true=>rw[au rfl,au rfl];have h1:=BK ho.1 ho.2 [] (x++[c]);have h2:=BK hc.1 hc.2 x [];rw[bV,JW,bV,h2,JW]at h1;exact h1
def avk(w):lK (jB<|wd w)=[jB<|wd w]:=by
 unfold wd;split;·decide
 ·split;·decide
  ·split<;>decide
theorem JX:∀{t:Tm},t.Ok->uy t->lK t.tx=mj t
 |.num p q,h,_=>ahY h
 |.here,_,_=>by show lK (jB "here")=[jB "here"];decide
 |.pN w n,h,_=>by have h':1<=n/\n<=9:=h;show lK (jB (wd w)++32::nD n)=[jB<|wd w,nD n];rw[vo,avk,Ju<|by omega,Ut (Ef _)<|Np _];rfl
 |.at m,_,kw=>by
  have hm:TR.uf m=true:=kw;obtain⟨h1,h2,h3,h4⟩:=TR.aiE hm;show lK (jB "at"++32::m)=[jB "at",m];rw[vo,show lK (jB "at")=[jB "at"]by decide,Ut (w:=m) (λc hc=>by have:=h3 c hc;unfold nF;rw[bM,aK,aK,cV,cV,cV,cV];omega) h1]
  rfl
 |.bin s x y,h,kw=>by show lK (x.tx++32::(jB (sg s)++32::brk 40 41 (decide<|y.rk<2) y.tx))=mj x++jB (sg s)::nU [40] [41] (decide<|y.rk<2) (mj y);rw[vo,vo,JX h.1 kw.1,Oz ⟨rfl,by decide⟩ ⟨rfl,by decide⟩ _<|JX h.2 kw.2,show lK (jB<|sg s)=[jB<|sg s]by cases s<;>decide];rfl
 |.times p q x,h,kw=>by show lK (my p q++32::([42]++32::brk 40 41 (decide<|x.rk<3) x.tx))=my p q::[42]::nU [40] [41] (decide<|x.rk<3) (mj x);rw[vo,vo,ahY h.1,Oz ⟨rfl,by decide⟩ ⟨rfl,by decide⟩ _<|JX h.2 kw,show lK [42]=[[42]]by decide];rfl
 |.abs x,h,kw=>by show lK ([97,98,115]++40::(x.tx++[41]))=jB "abs"::[40]::(mj x++[[41]]);rw[BK rfl<|by decide,BK (c:=41) rfl (by decide) x.tx [],JX (t:=x) h kw,JW,show lK [97,98,115]=[jB "abs"]by decide];rfl
theorem OD:∀{c:Cn},c.Ok->vZ c->lK c.tx=mX c
 |.cmp s x y,h,kw=>by show lK (x.tx++32::(jB (cg s)++32::y.tx))=mj x++jB (cg s)::mj y;rw[vo,vo,JX h.1 kw.1,JX h.2 kw.2,show lK (jB<|cg s)=[jB<|cg s]by cases s<;>decide];rfl
 |.not c,h,kw=>by show lK ([110,111,116]++32::brk 91 93 (decide<|c.rk<3) c.tx)=jB "not"::nU [91] [93] (decide<|c.rk<3) (mX c);rw[vo,Oz ⟨rfl,by decide⟩ ⟨rfl,by decide⟩ _<|OD (c:=c) h kw,show lK [110,111,116]=[jB "not"]by decide];rfl
 |.two s c e,h,kw=>by show lK (brk 91 93 (decide<|c.rk<bl s) c.tx++32::(jB (cw s)++32::brk 91 93 (decide<|e.rk<uI s) e.tx))=nU [91] [93] (decide<|c.rk<bl s) (mX c)++jB (cw s)::nU [91] [93] (decide<|e.rk<uI s) (mX e);rw[vo,vo,Oz ⟨rfl,by decide⟩ ⟨rfl,by decide⟩ _<|OD h.1 kw.1,Oz ⟨rfl,by decide⟩ ⟨rfl,by decide⟩ _<|OD h.2 kw.2,show lK (jB<|cw s)=[jB<|cw s]by cases s<;>decide];rfl
def ade(t):2*oY t+1<=t.sz+sO t:=by
 induction t with
 |bin s x y qF qW=>have:=x.pos;show 2*max (oY x) (oY y+if y.rk<2 then 1 else 0)+1<=x.sz+y.sz+1+(sO x+sO y);split<;>omega
 |times p q x ih=>show 2*(oY x+if x.rk<3 then 1 else 0)+1<=x.sz+1+(sO x+1);split<;>omega
 |abs x ih=>show 2*(oY x+1)+1<=x.sz+1+(sO x+1);omega
 |_=>exact aB _
def ajS(c):2*qp c+3<=c.sz+qx c/\(c.rk<3->2*qp c+5<=c.sz+qx c):=by
 induction c with
 |cmp s x y=>have h1:=ade x;have h2:=ade y;have:=x.pos;have:=y.pos;refine⟨?_,λh=>absurd h<|by show¬(4:Int)<3;decide⟩;show 2*max (oY x) (oY y)+3<=x.sz+y.sz+1+(sO x+sO y);omega
 |not c ih=>
  refine⟨?_,λh=>absurd h<|by show¬(3:Int)<3;decide⟩;show 2*(qp c+if c.rk<3 then 1 else 0)+3<=c.sz+1+qx c;split;·have:=ih.2 (by assumption);omega
  ·have:=ih.1;omega
 |two s c e qF qW=>
  have h1:=Cn.three c;have h2:=Cn.three e;have a:=qF.1;have b:=qW.1;have k:2*max (qp c+if c.rk<bl s then 1 else 0) (qp e+if e.rk<uI s then 1 else 0)+5<=c.sz+e.sz+1+(qx c+qx e):=by split<;>split<;>omega
  exact⟨by show 2*max _ _+3<=c.sz+e.sz+1+(qx c+qx e);omega,λ_=>k⟩
def adb{c:Cn}(hz:c.sz<=30)(ho:qx c<=3):qp c<=15:=by have:=(ajS c).1;omega
theorem Jk:∀{t:Tm},t.Ok->uy t
 |.num _ _,_=>trivial
 |.here,_=>trivial
 |.pN _ _,_=>trivial
 |.at _,h=>h.2.2.2
 |.bin _ _ _,h=>⟨Jk h.1,Jk h.2⟩
 |.times _ _ x,h=>Jk (t:=x) h.2
 |.abs x,h=>Jk (t:=x) h
theorem Gq:∀{c:Cn},c.Ok->vZ c
 |.cmp _ _ _,h=>⟨Jk h.1,Jk h.2⟩
 |.not c,h=>Gq (c:=c) h
 |.two _ _ _,h=>⟨Gq h.1,Gq h.2⟩
def apw{c:Cn}(h:c.Ok)(hz:c.sz<=30)(ho:qx c<=3)(e:lK cs=mX c):parse cs=.ok c.d [] c.sz 0:=by unfold parse;rw[e];exact arZ h (Gq h) hz (aJ (adb hz ho)<|by decide)
def Ur(n y):lK (List.replicate n 32++y)=lK y:=by
 induction n with
 |zero=>rfl
 |succ n ih=>have:=vo [] (List.replicate n 32++y);rw[eY,cU];rw[bV,JW,bV]at this;rw[this,ih]
def ahR(n x):lK (x++List.replicate n 32)=lK x:=by
 induction n with
 |zero=>rw[List.replicate_zero,bz]
 |succ n ih=>rw[eY,vo];have:=Ur n [];rw[bz,JW]at this;rw[this,bz]
def ahT(hc:nF c=false)(ym:c≠32)(i j x y):lK (x++(List.replicate i 32++c::(List.replicate j 32++y)))=lK (x++c::y):=by rw[<-aZ,BK hc ym,ahR,Ur,BK hc ym]
def auB(n x y):lK (x++(List.replicate (n+1) 32++y))=lK (x++32::y):=by rw[eY,cU,vo,Ur,vo]
def oF(r:List Tk):Nat:=(r.filter λt=>jU t [40]||jU t [91]).length
def GJ(t r):oF (t::r)=(if(jU t [40]||jU t [91])=true then 1 else 0)+oF r:=by unfold oF;rw[cj];split<;>simp<;>omega
def Bl(t:Tk)(r:List Tk):oF r<=oF (t::r):=by rw[GJ];omega
def ou:Tm->Nat
 |.bin _ x y=>ou x+ou y+if y.rk<2 then 1 else 0
 |.times _ _ x=>ou x+if x.rk<3 then 1 else 0
 |.abs x=>ou x+1
 |_=>0
def qX:Cn->Nat
 |.cmp _ x y=>ou x+ou y
 |.not c=>qX c+if c.rk<3 then 1 else 0
 |.two s c e=>(qX c+if c.rk<bl s then 1 else 0)+(qX e+if e.rk<uI s then 1 else 0)
section
variable{x:Pr}{f:D->PF}{d:D}{r r':List Tk}{k b k' b':Nat}
def Ak(h:pH x f=.ok d r' k' b'):∃e s k b,x=.ok e s k b/\f e s k b=.ok d r' k' b':=by
 cases x with
 |ok e s k b=>exact⟨e,s,k,b,rfl,h⟩
 |no=>cases h
 |bad=>cases h
def Sy{g:D->D}(h:tK g x=.ok d r' k' b'):∃e,x=.ok e r' k' b'/\d=g e:=by obtain⟨e,s,k,b,e1,e2⟩:=Ak h;cases e2;exact⟨e,e1,rfl⟩
def BJ{g:Tk->List Tk->Pr}(h:tk r g=.ok d r' k' b'):∃t s,r=t::s/\g t s=.ok d r' k' b':=by
 cases r with
 |nil=>cases h
 |cons t s=>exact⟨t,s,rfl,h⟩
def uJ{c:Bool}{y:Pr}(h:(bif c then x else y)=.ok d r' k' b'):(c=true/\x=.ok d r' k' b')\/(c=false/\y=.ok d r' k' b'):=by
 cases c with
 |true=>exact .inl ⟨rfl,h⟩
 |false=>exact .inr ⟨rfl,h⟩
def HQ{g:Nat->Pr}(h:bg k g=.ok d r' k' b'):g (k+1)=.ok d r' k' b':=by
 rcases uJ h with⟨_,h⟩|⟨_,h⟩;·exact h
 ·cases h
def YL{α:Type}{o:Option α}{g:α->Pr}(h:opt o g=.ok d r' k' b'):∃v,o=some v/\g v=.ok d r' k' b':=by
 cases o with
 |none=>cases h
 |some v=>exact⟨v,rfl,h⟩
def ab5{c:Tk}{g:List Tk->Pr}(h:xp c r g=.ok d r' k' b'):∃s,r=c::s/\g s=.ok d r' k' b':=by
 obtain⟨t,s,e,h⟩:=BJ h;rcases uJ h with⟨e2,h⟩|⟨_,h⟩;·exact⟨s,by rw[e,(wD _ _).mp e2],h⟩
 ·cases h
def adX{g}(h:en c r b g=.ok d r' k' b'):∃s,r=c::s/\g s (b+1)=.ok d r' k' b':=by
 obtain⟨t,s,e,h⟩:=BJ h;rcases uJ h with⟨e2,h⟩|⟨_,h⟩
 ·rcases uJ h with⟨_,h⟩|⟨_,h⟩;·exact⟨s,by rw[e,(wD _ _).mp e2],h⟩
  ·cases h
 ·cases h
def afi(h:lv c e r k b=.ok d r' k' b'):r=c::r'/\d=e:=by
 obtain⟨t,s,e1,h⟩:=BJ h;rcases uJ h with⟨e2,h⟩|⟨_,h⟩
 ·cases b with
  |zero=>cases h
  |succ b=>cases h;exact⟨by rw[e1,(wD _ _).mp e2],rfl⟩
 ·cases h
end
def Sd(q:Int)(F:PF):Prop:=∀r k b d r' k' b',F r k b=.ok d r' k' b'->∃t:Tm,d=t.d/\oF r'+ou t+(if t.rk<q then 1 else 0)<=oF r
def as3(h:Sd 0 F):∀r k b d r' k' b',Jy F r k b=.ok d r' k' b'->∃t:Tm,d=t.d/\oF r'+ou t+1<=oF r:=by intro r k b d r' k' b' e;obtain⟨s,sI,e9⟩:=adX e;clear e;subst sI;have e:=e9;clear e9;obtain⟨d1,s1,k1,b1,e1,e2⟩:=Ak e;obtain⟨t,rfl,ho⟩:=h _ _ _ _ _ _ _ e1;obtain⟨rfl,rfl⟩:=afi e2;refine⟨t,rfl,?_⟩;have o1:=GJ [40] s;rw[au<|by decide]at o1;rw[GJ,aA<|by decide]at ho;rw[o1];omega
def ata(h:[[43],[45]].any (jU s)=true):∃v,tS s=.str (sg v):=by
 simp only[cB,iW,gf,bM,wD]at h;rcases h with rfl|rfl;·exact⟨true,(aaZ true).2.2⟩
 ·exact⟨false,(aaZ false).2.2⟩
def akd(h:[[60],[61]].any (jU s)=true):∃v,tS s=.str (cg v):=by
 simp only[cB,iW,gf,bM,wD]at h;rcases h with rfl|rfl;·exact⟨true,(Wd true).2.2.2⟩
 ·exact⟨false,(Wd false).2.2.2⟩
def avj{w:Tk}(h:JD.any (jU w)=true):∃v,tS w=.str (wd v):=by
 simp only[JD,cB,iW,gf,bM,wD]at h;rcases h with rfl|rfl|rfl|rfl;·exact⟨0,aV D.str<|ext<|by decide⟩
 ·exact⟨1,aV D.str<|ext<|by decide⟩
 ·exact⟨2,aV D.str<|ext<|by decide⟩
 ·exact⟨3,aV D.str<|ext<|by decide⟩
def as5{F:PF}(h:∀r k b d r' k' b',F r k b=.ok d r' k' b'->∃t:Tm,d=t.d/\oF r'+ou t+1<=oF r):Sd 3 (DY F):=by
 intro r k b d r' k' b' e;rcases uJ e with⟨_,e⟩|⟨_,e⟩
 ·obtain⟨t,rfl,ho⟩:=h _ _ _ _ _ _ _ e;exact⟨t,rfl,by split<;>omega⟩
 have e:=HQ e;obtain⟨w,s,sI,e9⟩:=BJ e;clear e;subst sI;have e:=e9;clear e9;have l0:=Bl w s;rcases uJ e with⟨_,e⟩|⟨_,e⟩
 ·cases e;exact⟨.here,rfl,by rw[aA<|by show¬(3:Int)<3;decide];show oF r'+0+0<=_;omega⟩
 rcases uJ e with⟨hw,e⟩|⟨_,e⟩
 ·obtain⟨t,s,sI,e9⟩:=BJ e;clear e;subst sI;have e:=e9;clear e9;have l1:=Bl t s;obtain⟨v,_,e⟩:=YL e;cases e;obtain⟨u,hu⟩:=avj hw;exact⟨.pN u (v:Nat),by rw[hu];rfl,by rw[aA (by show¬(3:Int)<3;decide)];show oF r'+0+0<=_;omega⟩
 rcases uJ e with⟨_,e⟩|⟨_,e⟩
 ·obtain⟨t,s,sI,e9⟩:=BJ e;clear e;subst sI;have e:=e9;clear e9;have l1:=Bl t s;rcases uJ e with⟨_,e⟩|⟨_,e⟩
  ·cases e;exact⟨.at t,rfl,by rw[aA<|by show¬(3:Int)<3;decide];show oF r'+0+0<=_;omega⟩
  ·cases e
 rcases uJ e with⟨_,e⟩|⟨_,e⟩
 ·obtain⟨d1,e1,rfl⟩:=Sy e;obtain⟨t,rfl,ho⟩:=h _ _ _ _ _ _ _ e1;exact⟨.abs t,rfl,by rw[aA (by show¬(3:Int)<3;decide)];show oF r'+(ou t+1)+0<=_;omega⟩
 ·obtain⟨v,_,e⟩:=YL e;cases e;exact⟨.num v.1 v.2,rfl,by rw[aA (by show¬(3:Int)<3;decide)];show oF r'+0+0<=_;omega⟩
def as4{F:PF}(h:Sd 3 F):Sd 2 (Bp F):=by
 intro r k b d r' k' b' e;rcases uJ e with⟨_,e⟩|⟨_,e⟩
 ·obtain⟨f,s,sI,e9⟩:=BJ e;clear e;subst sI;have e:=e9;clear e9;have l0:=Bl f s;obtain⟨v,_,e⟩:=YL e;obtain⟨s,sI,e9⟩:=ab5 e;clear e;subst sI;have e:=e9;clear e9;have l1:=Bl [42] s;have e:=HQ e;obtain⟨d1,e1,rfl⟩:=Sy e;obtain⟨t,rfl,ho⟩:=h _ _ _ _ _ _ _ e1;exact⟨.times v.1 v.2 t,rfl,by rw[aA (by show¬(2:Int)<2;decide)];show oF r'+(ou t+if t.rk<3 then 1 else 0)+0<=_;omega⟩
 ·obtain⟨t,rfl,ho⟩:=h _ _ _ _ _ _ _ e;refine⟨t,rfl,?_⟩;by_cases z:t.rk<3;·rw[au z]at ho;split<;>omega
  ·rw[aA<|by omega];rw[aA z]at ho;exact ho
theorem ahr(h:Sd 2 F):∀m (t:Tm) r k b d r' k' b',wM F m t.d r k b=.ok d r' k' b'->∃u:Tm,d=u.d/\oF r'+ou u<=oF r+ou t
 |0,t,r,k,b,d,r',k',b',e=>by cases e
 |m+1,t,r,k,b,d,r',k',b',e=>by
  rcases uJ e with⟨hs,e⟩|⟨_,e⟩
  ·obtain⟨s,r1,sI,e9⟩:=BJ e;clear e;subst sI;have e:=e9;clear e9;have l0:=Bl s r1;have e:=HQ e;obtain⟨d1,s1,k1,b1,e1,e2⟩:=Ak e;obtain⟨y,rfl,ho⟩:=h _ _ _ _ _ _ _ e1;obtain⟨v,hv⟩:=ata (s:=s) hs;rw[hv]at e2;obtain⟨u,rfl,hu⟩:=ahr h m (.bin v t y) s1 k1 b1 d r' k' b' e2;refine⟨u,rfl,?_⟩;have hu':oF r'+ou u<=oF s1+(ou t+ou y+if y.rk<2 then 1 else 0):=hu;omega
  ·cases e;exact⟨t,rfl,aB _⟩
def as6(h:Sd 2 F):Sd 0 (Jz F):=by
 intro r k b d r' k' b' e;obtain⟨d1,s1,k1,b1,e1,e2⟩:=Ak e;obtain⟨t,rfl,ho⟩:=h _ _ _ _ _ _ _ e1;obtain⟨u,rfl,hu⟩:=ahr h 100 t s1 k1 b1 d r' k' b' e2;refine⟨u,rfl,?_⟩;have:¬u.rk<0:=by cases u<;>(show¬_<(0:Int);simp[Tm.rk])
 rw[aA this];omega
theorem ahq:∀n:Nat,Sd 0 (f0 n).su/\Sd 2 (f0 n).pr/\Sd 3 (f0 n).sg/\(∀r k b d r' k' b',(f0 n).br r k b=.ok d r' k' b'->∃t:Tm,d=t.d/\oF r'+ou t+1<=oF r)
 |0=>⟨λ_ _ _ _ _ _ _ e=>(by cases e),λ_ _ _ _ _ _ _ e=>(by cases e),λ_ _ _ _ _ _ _ e=>(by cases e),λ_ _ _ _ _ _ _ e=>(by cases e)⟩
 |n+1=>by obtain⟨h1,h2,h3,h4⟩:=ahq n;exact⟨as6 h2,as4 h3,as5 h4,as3 h1⟩
def Sc(q:Int)(F:PF):Prop:=∀r k b d r' k' b',F r k b=.ok d r' k' b'->∃c:Cn,d=c.d/\oF r'+qX c+(if c.rk<q then 1 else 0)<=oF r
def asx(h:Sd 0 F):Sc 3 (GK F):=by
 intro r k b d r' k' b' e;have e:=HQ e;obtain⟨d1,s1,k1,b1,e1,e2⟩:=Ak e;obtain⟨x,rfl,hx⟩:=h _ _ _ _ _ _ _ e1;obtain⟨s,r1,sI,e9⟩:=BJ e2;clear e2;subst sI;have e2:=e9;clear e9;have l0:=Bl s r1;rcases uJ e2 with⟨hs,e2⟩|⟨_,e2⟩
 ·obtain⟨d2,e3,rfl⟩:=Sy e2;obtain⟨y,rfl,hy⟩:=h _ _ _ _ _ _ _ e3;obtain⟨v,hv⟩:=akd hs;exact⟨.cmp v x y,by rw[hv];rfl,by rw[aA (by show¬(4:Int)<3;decide)];show oF r'+(ou x+ou y)+0<=_;omega⟩
 ·cases e2
def asF(hn:Sc 3 Fn)(ho:Sc 0 Fo)(hc:Sc 3 Fc):Sc 3 (GQ Fn Fo Fc):=by
 intro r k b d r' k' b' e;rcases uJ e with⟨_,e⟩|⟨_,e⟩
 ·obtain⟨s,sI,e9⟩:=ab5 e;clear e;subst sI;have e:=e9;clear e9;have l0:=Bl [110,111,116] s;have e:=HQ e;obtain⟨d1,e1,rfl⟩:=Sy e;obtain⟨c,rfl,h⟩:=hn _ _ _ _ _ _ _ e1;exact⟨.not c,rfl,by rw[aA (by show¬(3:Int)<3;decide)];show oF r'+(qX c+if c.rk<3 then 1 else 0)+0<=_;omega⟩
 rcases uJ e with⟨_,e⟩|⟨_,e⟩
 ·obtain⟨s,sI,e9⟩:=adX e;clear e;subst sI;have e:=e9;clear e9;obtain⟨d1,s1,k1,b1,e1,e2⟩:=Ak e;obtain⟨c,rfl,h⟩:=ho _ _ _ _ _ _ _ e1;obtain⟨rfl,rfl⟩:=afi e2;refine⟨c,rfl,?_⟩;have o1:=GJ [91] s;rw[au<|by decide]at o1;rw[GJ,aA<|show¬(jU [93] [40]||jU [93] [91])=true by decide]at h;rw[o1];split<;>omega
 ·exact hc _ _ _ _ _ _ _ e
theorem ag9{w}(hw:w=cw s)(h:Sc (uI s) F):∀m (t:Cn) r k b d r' k' b',rZ (wL s) w F m t.d r k b=.ok d r' k' b'->∃u:Cn,d=u.d/\oF r'+qX u+(if u.rk<bl s then 1 else 0)<=oF r+qX t+(if t.rk<bl s then 1 else 0)
 |0,t,r,k,b,d,r',k',b',e=>by cases e
 |m+1,t,r,k,b,d,r',k',b',e=>by
  rcases uJ e with⟨_,e⟩|⟨_,e⟩
  ·obtain⟨r1,sI,e9⟩:=ab5 e;clear e;subst sI;have e:=e9;clear e9;have l0:=Bl (wL s) r1;have e:=HQ e;obtain⟨d1,s1,k1,b1,e1,e2⟩:=Ak e;obtain⟨y,rfl,ho⟩:=h _ _ _ _ _ _ _ e1;rw[hw]at e2;obtain⟨u,rfl,hu⟩:=ag9 hw h m (.two s t y) s1 k1 b1 d r' k' b' (by rw[hw];exact e2);refine⟨u,rfl,?_⟩;have hz:¬(Cn.two s t y).rk<bl s:=by
    cases s;·show¬(1:Int)<1;decide
    ·show¬(2:Int)<2;decide
   rw[aA hz]at hu;have hu':oF r'+qX u+(if u.rk<bl s then 1 else 0)<=oF s1+((qX t+if t.rk<bl s then 1 else 0)+(qX y+if y.rk<uI s then 1 else 0))+0:=hu;omega
  ·cases e;exact⟨t,rfl,aB _⟩
def ag8{w}(hw:w=cw s)(h:Sc (uI s) F):Sc (bl s) (xE (wL s) w F):=by
 intro r k b d r' k' b' e;obtain⟨d1,s1,k1,b1,e1,e2⟩:=Ak e;obtain⟨t,rfl,ho⟩:=h _ _ _ _ _ _ _ e1;obtain⟨u,rfl,hu⟩:=ag9 hw h 100 t s1 k1 b1 d r' k' b' e2;refine⟨u,rfl,?_⟩;have:(if t.rk<bl s then 1 else 0)<=(if t.rk<uI s then 1 else 0):=by
  have:bl s<uI s:=by cases s<;>decide
  split<;>split<;>omega
 omega
def asD{q p:Int}(hq:p<=q)(h:Sc q F):Sc p F:=λr k b d r' k' b' e=>by
 obtain⟨c,rfl,ho⟩:=h _ _ _ _ _ _ _ e;refine⟨c,rfl,?_⟩;have:(if c.rk<p then 1 else 0)<=(if c.rk<q then 1 else 0):=by split<;>split<;>omega
 omega
theorem ag7:∀n:Nat,Sc 1 (f1 n).or/\Sc 2 (f1 n).and/\Sc 3 (f1 n).not
 |0=>⟨λ_ _ _ _ _ _ _ e=>(by cases e),λ_ _ _ _ _ _ _ e=>(by cases e),λ_ _ _ _ _ _ _ e=>(by cases e)⟩
 |n+1=>by obtain⟨h1,h2,h3⟩:=ag7 n;exact⟨ag8 (s:=false) rfl h2,ag8 (s:=true) rfl h3,asF h3 (asD (by decide) h1)<|asx (ahq 75).1⟩
def afS{d k}(h:parse cs=.ok d r k b):∃c:Cn,d=c.d/\qX c<=oF (lK cs):=by
 obtain⟨d1,s1,k1,b1,e1,e2⟩:=Ak h;obtain⟨c,rfl,ho⟩:=(ag7 85).1 _ _ _ _ _ _ _ e1;cases s1 with
 |nil=>cases e2;exact⟨c,rfl,by omega⟩
 |cons t s=>cases e2
def ag5(s):sg s≠Str.ofString "times":=by cases s<;>decide
def nR{y}(h:D.tup x=D.tup y):x=y:=by cases h;rfl
def str_inj{y}(h:D.str x=D.str y):x=y:=by cases h;rfl
theorem HW:∀(t u:Tm),t.d=u.d->ou t=ou u/\t.rk=u.rk
 |.bin s x y,u,h=>by
  cases u with
  |bin s' x' y'=>have h':=nR h;rw[aL,aL,aL]at h';obtain⟨_,h1,h2,_⟩:=h';obtain⟨a1,a2⟩:=HW x x' h1;obtain⟨b1,b2⟩:=HW y y' h2;refine⟨?_,rfl⟩;show ou x+ou y+(if y.rk<2 then 1 else 0)=ou x'+ou y'+(if y'.rk<2 then 1 else 0);rw[a1,b1,b2]
  |times p q x'=>have h':=nR h;rw[aL]at h';exact absurd (str_inj h'.1) (ag5 s)
  |num p q=>exact absurd (aV List.length<|nR h) (by simp)
  |here=>exact absurd (aV List.length<|nR h) (by simp)
  |pN w n=>exact absurd (aV List.length<|nR h) (by simp)
  |«at» m=>exact absurd (aV List.length<|nR h) (by simp)
  |abs x'=>exact absurd (aV List.length<|nR h) (by simp)
 |.times p q x,u,h=>by
  cases u with
  |bin s' x' y'=>have h':=nR h;rw[aL]at h';exact absurd (str_inj h'.1).symm (ag5 s')
  |times p' q' x'=>have h':=nR h;rw[aL,aL,aL]at h';obtain⟨_,_,h2,_⟩:=h';obtain⟨a1,a2⟩:=HW x x' h2;refine⟨?_,rfl⟩;show ou x+(if x.rk<3 then 1 else 0)=ou x'+(if x'.rk<3 then 1 else 0);rw[a1,a2]
  |num p q=>exact absurd (aV List.length<|nR h) (by simp)
  |here=>exact absurd (aV List.length<|nR h) (by simp)
  |pN w n=>exact absurd (aV List.length<|nR h) (by simp)
  |«at» m=>exact absurd (aV List.length<|nR h) (by simp)
  |abs x'=>exact absurd (aV List.length<|nR h) (by simp)
 |.abs x,u,h=>by
  obtain⟨rx,ex⟩:=x.d0;cases u with
  |bin s' x' y'=>exact absurd (aV List.length<|nR h) (by simp)
  |times p' q' x'=>exact absurd (aV List.length<|nR h) (by simp)
  |num p q=>have h':=nR h;rw[aL,aL]at h';have h2:=h'.2.1;rw[ex]at h2;cases nR h2
  |here=>exact absurd (aV List.length<|nR h) (by simp)
  |pN w n=>have h':=nR h;rw[aL,aL]at h';have h2:=h'.2.1;rw[ex]at h2;cases h2
  |«at» m=>have h':=nR h;rw[aL,aL]at h';have h2:=h'.2.1;rw[ex]at h2;cases h2
  |abs x'=>have h':=nR h;rw[aL,aL]at h';obtain⟨a1,a2⟩:=HW x x' h'.2.1;exact⟨by show ou x+1=ou x'+1;rw[a1],rfl⟩
 |.num p q,u,h=>by
  cases u with
  |bin s' x' y'=>exact absurd (aV List.length<|nR h) (by simp)
  |times p' q' x'=>exact absurd (aV List.length<|nR h) (by simp)
  |abs x'=>obtain⟨rx,ex⟩:=x'.d0;have h':=nR h;rw[aL,aL]at h';have h2:=h'.2.1;rw[ex]at h2;cases nR h2
  |_=>exact⟨rfl,rfl⟩
 |.here,u,h=>by
  cases u with
  |bin s' x' y'=>exact absurd (aV List.length<|nR h) (by simp)
  |times p' q' x'=>exact absurd (aV List.length<|nR h) (by simp)
  |abs x'=>exact absurd (aV List.length<|nR h) (by simp)
  |_=>exact⟨rfl,rfl⟩
 |.pN w n,u,h=>by
  cases u with
  |bin s' x' y'=>exact absurd (aV List.length<|nR h) (by simp)
  |times p' q' x'=>exact absurd (aV List.length<|nR h) (by simp)
  |abs x'=>obtain⟨rx,ex⟩:=x'.d0;have h':=nR h;rw[aL,aL]at h';have h2:=h'.2.1;rw[ex]at h2;cases h2
  |_=>exact⟨rfl,rfl⟩
 |.at m,u,h=>by
  cases u with
  |bin s' x' y'=>exact absurd (aV List.length<|nR h) (by simp)
  |times p' q' x'=>exact absurd (aV List.length<|nR h) (by simp)
  |abs x'=>obtain⟨rx,ex⟩:=x'.d0;have h':=nR h;rw[aL,aL]at h';have h2:=h'.2.1;rw[ex]at h2;cases h2
  |_=>exact⟨rfl,rfl⟩
def adk(s s'):cg s≠cw s':=by cases s<;>cases s'<;>decide
def akq(h:cw s=cw s'):s=s':=by cases s<;>cases s'<;>first|rfl|exact absurd h (by decide)
theorem Qw:∀(t u:Cn),t.d=u.d->qX t=qX u/\t.rk=u.rk
 |.cmp s x y,u,h=>by
  cases u with
  |cmp s' x' y'=>have h':=nR h;rw[aL,aL,aL]at h';obtain⟨_,h1,h2,_⟩:=h';refine⟨?_,rfl⟩;show ou x+ou y=ou x'+ou y';rw[(HW x x' h1).1,(HW y y' h2).1]
  |not c=>exact absurd (aV List.length<|nR h) (by simp)
  |two s' c e=>have h':=nR h;rw[aL]at h';exact absurd (str_inj h'.1) (adk s s')
 |.not c,u,h=>by
  cases u with
  |cmp s' x' y'=>exact absurd (aV List.length<|nR h) (by simp)
  |two s' c e=>exact absurd (aV List.length<|nR h) (by simp)
  |not c'=>have h':=nR h;rw[aL,aL]at h';obtain⟨a1,a2⟩:=Qw c c' h'.2.1;refine⟨?_,rfl⟩;show qX c+(if c.rk<3 then 1 else 0)=qX c'+(if c'.rk<3 then 1 else 0);rw[a1,a2]
 |.two s c e,u,h=>by
  cases u with
  |cmp s' x' y'=>have h':=nR h;rw[aL]at h';exact absurd (str_inj h'.1).symm (adk s' s)
  |not c'=>exact absurd (aV List.length<|nR h) (by simp)
  |two s' c' e'=>have h':=nR h;rw[aL,aL,aL]at h';obtain⟨h0,h1,h2,_⟩:=h';have hs:=akq (str_inj h0);subst hs;obtain⟨a1,a2⟩:=Qw c c' h1;obtain⟨b1,b2⟩:=Qw e e' h2;refine⟨?_,rfl⟩;show(qX c+if c.rk<bl s then 1 else 0)+(qX e+if e.rk<uI s then 1 else 0)=(qX c'+if c'.rk<bl s then 1 else 0)+(qX e'+if e'.rk<uI s then 1 else 0);rw[a1,a2,b1,b2]
def nP(cs:List Nat):Nat:=(cs.filter λc=>c==40||c==91).length
def tL(x y):nP (x++y)=nP x+nP y:=by unfold nP;rw[du,aq]
def GD(c y):nP (c::y)=(if(c==40||c==91)=true then 1 else 0)+nP y:=by unfold nP;rw[cj];split<;>simp<;>omega
def afL(x y):oF (x++y)=oF x+oF y:=by unfold oF;rw[du,aq]
def apr:oF []=0:=rfl
def Od{w}(h:∀c∈w,nF c=true):nP w=0/\oF (lK w)=0:=by
 constructor
 ·unfold nP;rw[List.filter_eq_nil_iff.mpr];·rfl
  ·intro c hc z;have:=h c hc;simp only[bM,gW]at z;rcases z with rfl|rfl<;>exact absurd this (by decide)
 ·cases w with
  |nil=>rfl
  |cons c r=>rw[Ut h<|by simp,GJ,apr,aA];intro z;rw[bM,wD,wD]at z;have:=h c (bH ..);rcases z with z|z<;>(cases z;exact absurd this (by decide))
theorem ah4(p):∀(l:List Nat) c,c∈l.takeWhile p->p c=true
 |[],c,h=>by cases h
 |a::l,c,h=>by
  rw[List.takeWhile_cons]at h;split at h
  ·rename_i z;rcases List.mem_cons.mp h with rfl|h;·exact z
   ·exact ah4 p l c h
  ·cases h
theorem afM:∀n (cs:List Nat),cs.length<n->oF (lK cs)=nP cs
 |0,cs,h=>absurd h (jb _)
 |n+1,cs,h=>by
  have e:=List.takeWhile_append_dropWhile (p:=nF) (l:=cs);have hw:∀c∈cs.takeWhile nF,nF c=true:=λc hc=>ah4 nF cs c hc;generalize cs.takeWhile nF=w at e hw;obtain⟨o1,o2⟩:=Od hw;cases d:cs.dropWhile nF with
  |nil=>rw[d,bz]at e;rw[<-e,o1,o2]
  |cons c y=>
   have hc:nF c=false:=by have:=List.head_dropWhile_not (p:=nF) (l:=cs) (by rw[d];simp);simp only[d,List.head_cons]at this;simpa using this
   rw[d]at e;have ly:y.length<n:=by have:=aV List.length e;simp at this;omega
   have ih:=afM n y ly;rw[<-e];by_cases z:c=32
   ·subst z;rw[vo,afL,tL,GD,aA<|by decide,o1,o2,ih];omega
   ·rw[BK hc z,afL,tL,GD,GJ,o1,o2,ih];have:(jU [c] [40]||jU [c] [91])=(c==40||c==91):=by
     rw[bQ,bM,bM,wD,wD,gW,gW];simp
    rw[this]
def needed(hl:nP cs<qX c){d k}(h:parse cs=.ok d r k b):d≠c.d:=λe=>by obtain⟨c',e',ho⟩:=afS h;rw[afM (cs.length+1) cs<|b8 _]at ho;have:=(Qw c' c<|by rw[<-e',e]).1;omega
def Nv(ho:(o==40||o==91)=true)(hc:(c==40||c==91)=false)(b x):nP (brk o c b x)=nP x+if b=true then 1 else 0:=by
 unfold brk;cases b with
 |false=>rfl
 |true=>rw[au rfl,au rfl,GD,au ho,tL,GD,aA<|by rw[hc];simp];show 1+(nP x+(0+0))=_;omega
def zP(y):nP (32::y)=nP y:=by rw[GD,aA<|by decide];omega
def ao7(w):nP (jB<|wd w)=0:=by
 unfold wd;split;·decide
 ·split;·decide
  ·split<;>decide
def Ld(p:Prop)[Decidable p]:(if decide p=true then 1 else 0)=(if p then 1 else 0):=by by_cases h:p<;>simp[h]
theorem Jx:∀{t:Tm},t.Ok->nP t.tx=ou t
 |.num p q,h=>(Od<|Bu h).1
 |.here,_=>by show nP (jB "here")=0;decide
 |.pN w n,h=>by have h':1<=n/\n<=9:=h;show nP (jB (wd w)++32::nD n)=0;rw[tL,zP,ao7,Ju<|by omega,(Od<|Ef _).1]
 |.at m,h=>by show nP (jB "at"++32::m)=0;rw[tL,zP,show nP (jB "at")=0 by decide,(Od (w:=m) λc hc=>by have:=h.2.2.1 c hc;unfold nF;rw[bM,aK,aK,cV,cV,cV,cV];omega).1]
 |.bin s x y,h=>by
  show nP (x.tx++32::(jB (sg s)++32::brk 40 41 (decide<|y.rk<2) y.tx))=ou x+ou y+if y.rk<2 then 1 else 0
  rw[tL,zP,tL,zP,Nv rfl rfl,Jx h.1,Jx h.2,show nP (jB<|sg s)=0 by cases s<;>decide,Ld];omega
 |.times p q x,h=>by
  show nP (my p q++32::([42]++32::brk 40 41 (decide<|x.rk<3) x.tx))=ou x+if x.rk<3 then 1 else 0
  rw[tL,zP,tL,zP,Nv rfl rfl,(Od<|Bu h.1).1,Jx h.2,show nP [42]=0 by decide,Ld];omega
 |.abs x,h=>by show nP ([97,98,115,40]++(x.tx++[41]))=ou x+1;rw[tL,tL,Jx (t:=x) h,show nP [97,98,115,40]=1 by decide,show nP [41]=0 by decide];omega
theorem Td:∀{c:Cn},c.Ok->nP c.tx=qX c
 |.cmp s x y,h=>by show nP (x.tx++32::(jB (cg s)++32::y.tx))=ou x+ou y;rw[tL,zP,tL,zP,Jx h.1,Jx h.2,show nP (jB<|cg s)=0 by cases s<;>decide];omega
 |.not c,h=>by
  show nP ([110,111,116,32]++brk 91 93 (decide<|c.rk<3) c.tx)=qX c+if c.rk<3 then 1 else 0
  rw[tL,Nv rfl rfl,Td (c:=c) h,show nP [110,111,116,32]=0 by decide,Ld];omega
 |.two s c e,h=>by show nP (brk 91 93 (decide<|c.rk<bl s) c.tx++32::(jB (cw s)++32::brk 91 93 (decide<|e.rk<uI s) e.tx))=(qX c+if c.rk<bl s then 1 else 0)+(qX e+if e.rk<uI s then 1 else 0);rw[tL,zP,tL,zP,Nv rfl rfl,Nv rfl rfl,Td h.1,Td h.2,show nP (jB<|cw s)=0 by cases s<;>decide,Ld,Ld];omega
def bare{c:Cn}(h:c.Ok)(hl:nP cs+1=nP c.tx){d k}(e:parse cs=.ok d r k b):d≠c.d:=
 needed (by rw[<-Td h];omega) e
end WS
namespace WR
open PySem L2 P2 WP TM T2 PySem.NumText
variable{a:Ad}
def amv{l:List Str}(h:(l.map (·.length)).sum<=100000):JoinOk (Str.ofString "") l=true:=PyProof.Rows.joinOk_of (by
 have:(Str.ofString "").length=0:=by decide
 rw[this];omega)
def arp{z:Str}(hz:z.length<=100000):Bv (.str z) [.str " "]=.ok (.lst<|(Txt.split z ⟨#[32]⟩).map D.str):=by show(if((Str.ofString " ").length==0)=false/\z.length+2<=sizeLine then R.ok (D.lst<|(Txt.split z<|Str.ofString " ").map D.str)else .bad)=_;rw[au ⟨by decide,size_of<|by omega⟩];rfl
def ano(cs:List Nat)(hl:cs.length<=30000):jM (Q7 a<|jP 2 [.str<|jz cs])=.ok (.lst<|(lK cs).map tS):=by
 have hc1:sH (gV 0) (λ_=>.ok true) (vR (b1 tB<|d2 vH (dV 0)<|dC<|.str "abcdefghijklmnopqrstuvwxyz0123456789/") (dV 0)<|(lW (dC<|.str " ")<|lW (d1 nH<|dV 0)<|lW (dC<|.str " ") rB) Str.empty) (t7 1 [] [.sh<|.str<|jz cs,.no]) (signs<|jz cs)=some (cs.map λc=>tS<|mF c):=by
  have:=HS (a:=gV 0) (c:=λ_=>.ok true) (e:=vR (b1 tB (d2 vH (dV 0) (dC (.str "abcdefghijklmnopqrstuvwxyz0123456789/")))) (dV 0) ((lW (dC (.str " ")) (lW (d1 nH (dV 0)) (lW (dC (.str " ")) rB))) Str.empty)) (uU:=t7 1 [] [.sh (.str (jz cs)),.no]) (λd=>[.sh d]) (λd=>match d with|.str ⟨y⟩=>tS (mF (y.toList.headD 0))|_=>.non) (signs (jz cs)) λd hd=>by obtain⟨c,_,rfl⟩:=List.mem_map.mp hd;exact⟨rfl,rfl,aqq c⟩
  rw[this];unfold signs;rw[dI]
  congr 1
 have l1:(signs<|jz cs).length<=sizeLine:=by unfold signs;rw[az];exact size_of (show(jB<|jz cs).length<=_ by rw[uX];omega)
 have j1:R7 (.str "") [.lst<|cs.map λc=>tS<|mF c]=.ok (.str<|jz<|cs.flatMap mF):=by
  show(match Hb (cs.map λc=>tS (mF c))with
   |some xs=>if JoinOk "" xs=true then R.ok (D.str<|Txt.join "" xs)else .bad
   |none=>.bad)=_
  rw[strs_map];dsimp only;rw[au<|amv<|by rw[dI];exact aJ (ae2 cs) (by omega)]
  congr 2
  refine ext ?_;rw[uX];show jB (Builtin.Str.glued _ _)=_;rw[fV,adu,dI];rfl
 have l2:(jz<|cs.flatMap mF).length<=100000:=by rw[yw];exact aJ (Sq cs) (by omega)
 have p1:=arp l2;have p2:(Txt.split (jz<|cs.flatMap mF) ⟨#[32]⟩).map D.str=(kZ 32<|cs.flatMap mF).map tS:=by have:=abn (jz<|cs.flatMap mF) 32;rw[uX]at this;rw[<-this,dI];refine eZ λz _=>?_;show D.str z=D.str (jz<|jB z);rw[uN]
 rw[p2]at p1;have hc2:=adB (t7 1 [] [.sh<|.str<|jz cs,.sh<|.lst<|cs.map λc=>tS<|mF c]) (λ_=>rfl) (kZ 32<|cs.flatMap mF);have l3:((kZ 32<|cs.flatMap mF).map tS).length<=sizeLine:=by rw[az];have:=Yd 32 (cs.flatMap mF);have:=Sq cs;exact size_of (by omega)
 unfold Q7;iterate 7 (walk_at "d";try simp only[au l1,hc1,j1,p1,au l3,hc2])
 try rfl
def ahX{cs:List Nat}(h1:cs.length<=30000)(h2:∀c∈cs,c<=127):rM (lK cs):=by
 have h3:∀c∈cs.flatMap mF,c<=127:=λc hc=>by obtain⟨d,hd,hc⟩:=List.mem_flatMap.mp hc;have:=h2 d hd;unfold mF at hc;cases e:nF d<;>rw[e]at hc<;>simp at hc<;>omega
 have h4:=Sq cs;have hm:∀t∈lK cs,t∈kZ 32 (cs.flatMap mF)/\t≠[]:=λt ht=>by have:=List.mem_filter.mp (show t∈(kZ 32<|cs.flatMap mF).filter λt=>!t.isEmpty from ht);refine⟨this.1,λe=>?_⟩;rw[e]at this;exact absurd this.2 (by simp)
 refine⟨λt ht=>(hm t ht).2,λt ht=>?_,?_⟩
 ·unfold PyData.strOk;rw[<-Array.all_toList];refine List.all_eq_true.mpr λc hc=>?_;have:=h3 c ((SM (hm t ht).1).1 c hc);simp only[aM];omega
 ·have l1:=fW (λt:Tk=>!t.isEmpty) (kZ 32<|cs.flatMap mF);have l2:=Yd 32 (cs.flatMap mF);exact aJ l1 (by omega)
def auD{w}:∀{l:List Nat},w∈kZ 32 (l.flatMap mF)->w.length<=l.length+1:=by
 have main:∀l:List Nat,((kZ 32<|l.flatMap mF).headD []).length<=l.length+1/\∀w∈kZ 32 (l.flatMap mF),w.length<=l.length+1:=by
  intro l;induction l with
  |nil=>exact⟨by simp[kZ],λw hw=>by simp[kZ]at hw;subst hw;simp⟩
  |cons c r ih=>
   obtain⟨h1,h2⟩:=ih;rw[cZ];unfold mF;cases hc:nF c with
   |true=>
    show((kZ 32<|c::r.flatMap mF).headD []).length<=_/\_;by_cases e:c=32;·subst e;exact absurd hc (by decide)
    ·cases q:kZ 32 (r.flatMap mF)with
     |nil=>exact absurd q (G9 32 _)
     |cons p ps=>
      rw[q]at h1 h2;have e2:kZ 32 (c::r.flatMap mF)=(c::p)::ps:=Bw e q;show((kZ 32<|c::r.flatMap mF).headD []).length<=_/\∀w∈kZ 32 (c::r.flatMap mF),_;rw[e2];refine⟨by simp at h1⊢;omega,λw hw=>?_⟩;rcases List.mem_cons.mp hw with rfl|hw;·simp at h1⊢;omega
      ·have:=h2 w (.tail _ hw);rw[ak];omega
   |false=>
    have e1:kZ 32 ([32,c,32]++r.flatMap mF)=[]::kZ 32 (c::32::r.flatMap mF):=yD ..;show((kZ 32<|[32,c,32]++r.flatMap mF).headD []).length<=_/\∀w∈kZ 32 ([32,c,32]++r.flatMap mF),_;rw[e1];refine⟨by simp,λw hw=>?_⟩;rcases List.mem_cons.mp hw with rfl|hw;·simp
    ·by_cases e:c=32
     ·subst e;rw[yD,yD]at hw;rcases List.mem_cons.mp hw with rfl|hw;·simp
      ·rcases List.mem_cons.mp hw with rfl|hw;·simp
       ·have:=h2 w hw;rw[ak];omega
     ·have q:kZ 32 (32::r.flatMap mF)=[]::kZ 32 (r.flatMap mF):=yD ..;rw[Bw e q]at hw;rcases List.mem_cons.mp hw with rfl|hw;·simp
      ·have:=h2 w hw;rw[ak];omega
 exact λ{l} h=>(main l).2 w h
end WR
set_option maxHeartbeats 1000000
namespace WS
open PySem L2 P2 WP WR WC TM T2 PySem.NumText
def jn(y:List Nat):List (List Nat)->List Nat
 |[]=>[]
 |[p]=>p
 |p::q::r=>p++(y++jn y (q::r))
theorem HR(y):∀l:List Str,jB (Str.join y l)=jn (jB y) (l.map jB)
 |[]=>rfl
 |[p]=>rfl
 |p::q::r=>by show jB (p++y++Str.join y (q::r))=_;rw[qi,qi,HR y<|q::r,aZ];rfl
def ar4(x y z):∃ps,jB x=jn (jB y) ps/\jB (Txt.replace x y z)=jn (jB z) ps:=by
 unfold Txt.replace;split;·exact⟨[jB x],rfl,rfl⟩
 ·refine⟨(Builtin.Str.partsBetween x (Builtin.Str.occurrences x y 0 x.length<|x.length+1) y.length).map jB,?_,?_⟩
  ·have:=StrLaws.glued_between_self x y (x.length+1);rw[fV]at this;rw[<-HR,this]
  ·rw[fV,HR]
theorem aeP(hs:nF s=false)(ym:s≠32):∀ps x,lK (x++jn [32,s,32] ps)=lK (x++jn [s] ps)
 |[],x=>rfl
 |[p],x=>rfl
 |p::q::r,x=>by show lK (x++(p++([32,s,32]++jn [32,s,32] (q::r))))=lK (x++(p++([s]++jn [s] (q::r))));have h:=ahT hs ym 1 1 (x++p) (jn [32,s,32]<|q::r);rw[<-aZ];refine(show lK (x++p++([32,s,32]++jn [32,s,32] (q::r)))=lK (x++p++s::jn [32,s,32] (q::r))from h).trans ?_;have:=aeP hs ym (q::r) (x++p++[s]);rw[aZ (x++p) [s],aZ (x++p) [s]]at this;rw[<-aZ x p];exact this
theorem aeN:∀ps:List (List Nat),(jn [s] ps).length<=(jn [32,s,32] ps).length
 |[]=>aB _
 |[p]=>aB _
 |p::q::r=>by have:=aeN (s:=s) (q::r);show(p++([s]++jn [s] (q::r))).length<=(p++([32,s,32]++jn [32,s,32] (q::r))).length;simp only[aq,ak,bu];omega
theorem aeO:∀ps:List (List Nat),c∈jn [s] ps->c∈jn [32,s,32] ps
 |[],h=>h
 |[p],h=>h
 |p::q::r,h=>by
  have h':c∈p++([s]++jn [s] (q::r)):=h;show c∈p++([32,s,32]++jn [32,s,32] (q::r));rcases List.mem_append.mp h' with h|h;·exact dD _ h
  ·refine bD _ ?_;rcases List.mem_append.mp h with h|h;·rw[List.mem_singleton.mp h];simp
   ·exact bD _ (aeO (q::r) h)
theorem agU:∀ss,(∀s∈ss,nF s=false/\s≠32)->∀x:Str,x.length<=1000000->∃z,Bt " " " " ss x=some z/\lK (jB z)=lK (jB x)/\(jB z).length<=(jB x).length/\∀c∈jB z,c∈jB x
 |[],_,x,_=>⟨x,rfl,rfl,aB _,λ_ h=>h⟩
 |s::ss,hs,x,hx=>by
  obtain⟨h1,h2⟩:=hs s (.head _);obtain⟨ps,e1,e2⟩:=ar4 x (Str.ofString " "++⟨#[s]⟩++Str.ofString " ") ⟨#[s]⟩;have c1:jB (Str.ofString " "++⟨#[s]⟩++Str.ofString " ")=[32,s,32]:=by rw[qi,qi];rfl
  have c2:jB (⟨#[s]⟩:Str)=[s]:=rfl;rw[c1]at e1;rw[c2]at e2;have l0:∀y:Str,(jB y).length=y.length:=λy=>by show y.cps.toList.length=y.cps.size;simp
  have l1:=aeN (s:=s) ps;obtain⟨z,g1,g2,g3,g4⟩:=agU ss (λt ht=>hs t (.tail _ ht)) (Txt.replace x (Str.ofString " "++⟨#[s]⟩++Str.ofString " ") ⟨#[s]⟩) (by rw[<-l0,e2];rw[<-l0,e1]at hx;omega);refine⟨z,?_,?_,?_,λc hc=>?_⟩
  ·unfold Bt;rw[au hx];exact g1
  ·rw[g2,e1,e2];exact(aeP h1 h2 ps []).symm
  ·rw[e2]at g3;rw[e1];omega
  ·have:=g4 c hc;rw[e2]at this;rw[e1];exact aeO ps this
theorem ahU:∀(ps:List<|Nat×List Nat),(∀p∈ps,p.2=[p.1]\/(nF p.1=false/\p.1≠32/\∃i j,p.2=List.replicate i 32++p.1::List.replicate j 32)\/(p.1=32/\∃n,p.2=List.replicate (n+1) 32))->∀x:List Nat,lK (x++ps.flatMap (·.2))=lK (x++ps.map (·.1))
 |[],_,x=>rfl
 |p::r,h,x=>by
  have ih:=ahU r λd hd=>h d (aW _ hd);rw[cZ,aR];have fin:lK (x++p.1::r.flatMap (·.2))=lK (x++p.1::r.map (·.1)):=by have:=ih (x++[p.1]);rw[aZ,aZ]at this;exact this
  rcases h p (bH ..)with e|⟨h1,h2,i,j,e⟩|⟨e0,n,e⟩;·rw[e];exact fin
  ·rw[e,aZ,cU,ahT h1 h2];exact fin
  ·rw[e,auB,<-e0];exact fin
def oh(c:Nat):Bool:=c==40||c==91
def isC(c:Nat):Bool:=c==41||c==93
def rD(l:List Nat):Nat:=(l.filter oh).length
def qN(l:List Nat):Nat:=(l.filter isC).length
def Ny(x y):rD (x++y)=rD x+rD y:=by unfold rD;rw[du,aq]
def La(x y):qN (x++y)=qN x+qN y:=by unfold qN;rw[du,aq]
structure Dy(x:List Nat):Prop where
 pre:∀n,qN (x.take n)<=rD (x.take n)
 all:qN x=rD x
def Ao(h:∀c∈x,oh c=false/\isC c=false):Dy x:=by
 have z:∀y:List Nat,(∀c∈y,oh c=false/\isC c=false)->rD y=0/\qN y=0:=λy hy=>by unfold rD qN;rw[List.filter_eq_nil_iff.mpr λc hc=>by rw[(hy c hc).1];decide,List.filter_eq_nil_iff.mpr λc hc=>by rw[(hy c hc).2];decide];exact⟨rfl,rfl⟩
 refine⟨λn=>?_,?_⟩
 ·obtain⟨h1,h2⟩:=z (x.take n) λc hc=>h c (gw hc);omega
 ·obtain⟨h1,h2⟩:=z x h;omega
def Dy.app{y}(hx:Dy x)(hy:Dy y):Dy (x++y):=by refine⟨λn=>?_,by rw[Ny,La,hx.all,hy.all]⟩;rw[List.take_append];rw[Ny,La];have h1:=hx.pre n;have h2:=hy.pre (n - x.length);omega
def Dy.brk(ho:oh o=true/\isC o=false)(hc:isC c=true/\oh c=false)(hx:Dy x):Dy (o::(x++[c])):=by
 have f1:∀l,rD (o::l)=rD l+1:=λl=>by unfold rD;rw[cj,au ho.1,ak]
 have f2:∀l,qN (o::l)=qN l:=λl=>by unfold qN;rw[cj,aA<|by rw[ho.2];decide]
 have f3:rD [c]=0:=by unfold rD;rw[cj,aA<|by rw[hc.2];decide];rfl
 have f4:qN [c]=1:=by unfold qN;rw[cj,au hc.1];rfl
 refine⟨λn=>?_,by rw[f1,f2,Ny,La,f3,f4,hx.all]⟩;cases n with
 |zero=>exact aB _
 |succ n=>
  rw[List.take_succ_cons,f1,f2,List.take_append,Ny,La];have h1:=hx.pre n;have h2:qN (List.take (n - x.length) [c])<=1:=by unfold qN;refine aJ (fW ..) ?_;rw[cM];exact iD _ _
  omega
def Li(ho:oh o=true/\isC o=false)(hc:isC c=true/\oh c=false)(b)(hx:Dy x):Dy (WC.brk o c b x):=by
 unfold WC.brk;split;·exact hx.brk ho hc
 ·exact hx
def ag1(h:nF c=true):oh c=false/\isC c=false:=by
 constructor
 ·cases e:oh c with
  |false=>rfl
  |true=>unfold oh at e;simp at e;rcases e with rfl|rfl<;>exact absurd h (by decide)
 ·cases e:isC c with
  |false=>rfl
  |true=>unfold isC at e;simp at e;rcases e with rfl|rfl<;>exact absurd h (by decide)
def Ie(h:∀c∈x,nF c=true):Dy x:=Ao λc hc=>ag1 (h c hc)
def zE(h:oh c=false/\isC c=false)(hx:Dy x):Dy (c::x):=(Ao (x:=[c]) λd hd=>by rw[List.mem_singleton.mp hd];exact h).app hx
def abX(w):∀c∈jB (wd w),nF c=true:=by
 unfold wd;split;·decide
 ·split;·decide
  ·split<;>decide
theorem Ig:∀{t:Tm},t.Ok->Dy t.tx
 |.num p q,h=>Ie (Bu h)
 |.here,_=>Ie (show∀c∈jB "here",nF c=true by decide)
 |.pN w n,h=>(Ie<|abX w).app (zE (by decide)<|Ie<|by rw[Ju (show 0<=n by have h':1<=n/\n<=9:=h;omega)];exact Ef _)
 |.at m,h=>(Ie (show∀c∈jB "at",nF c=true by decide)).app (zE (by decide) (Ao λc hc=>by have:=h.2.2.1 c hc;unfold oh isC;simp;omega))
 |.bin s x y,h=>by have h1:=Ig h.1;have h2:=Ig h.2;exact h1.app (zE (by decide)<|(Ao<|by cases s<;>decide).app (zE (by decide)<|Li (by decide) (by decide) _ h2))
 |.times p q x,h=>by have h2:=Ig h.2;exact(Ie<|Bu h.1).app (zE (by decide)<|(Ao<|by decide).app (zE (by decide)<|Li (by decide) (by decide) _ h2))
 |.abs x,h=>by have h2:=Ig (t:=x) h;have e:Tm.tx (.abs x)=[97,98,115]++(40::(x.tx++[41])):=rfl;rw[e];exact(Ao<|by decide).app (h2.brk (by decide)<|by decide)
theorem QL:∀{c:Cn},c.Ok->Dy c.tx
 |.cmp s x y,h=>(Ig h.1).app (zE (by decide)<|(Ao<|by cases s<;>decide).app (zE (by decide)<|Ig h.2))
 |.not c,h=>(Ao<|by decide).app (Li (by decide) (by decide) _<|QL (c:=c) h)
 |.two s c e,h=>(Li (by decide) (by decide) _<|QL h.1).app (zE (by decide)<|(Ao<|by cases s<;>decide).app (zE (by decide)<|Li (by decide) (by decide) _<|QL h.2))
theorem Tm.xA:∀{t:Tm},t.Ok->t.tx.length<=25*t.sz
 |.num p q,h=>by have:=JR h;show(my p q).length<=25*1;omega
 |.here,_=>by show(jB "here").length<=25*1;decide
 |.pN w n,h=>by have h':1<=n/\n<=9:=h;have h1:=abW w;have h2:=Gy (i:=n) (by omega);show(jB (wd w)++32::nD n).length<=25*1;simp only[aq,ak];omega
 |.at m,h=>by
  have h':m.length<=8:=h.1;have h2:(jB "at").length=2:=by decide
  show(jB "at"++32::m).length<=25*1;simp only[aq,ak];omega
 |.bin s x y,h=>by
  have h1:=Tm.xA h.1;have h2:=Tm.xA h.2;have h3:(jB<|sg s).length=1:=by cases s<;>decide
  have h4:=sG 40 41 (decide<|y.rk<2) y.tx;show(x.tx++32::(jB (sg s)++32::brk 40 41 (decide<|y.rk<2) y.tx)).length<=25*(x.sz+y.sz+1);simp only[aq,ak];omega
 |.times p q x,h=>by have h1:=JR h.1;have h2:=Tm.xA h.2;have h4:=sG 40 41 (decide<|x.rk<3) x.tx;show(my p q++32::([42]++32::brk 40 41 (decide<|x.rk<3) x.tx)).length<=25*(x.sz+1);simp only[aq,ak,bu];omega
 |.abs x,h=>by have h2:=Tm.xA (t:=x) h;show([97,98,115,40]++(x.tx++[41])).length<=25*(x.sz+1);simp only[aq,ak,bu];omega
theorem Cn.xA:∀{c:Cn},c.Ok->c.tx.length<=25*c.sz
 |.cmp s x y,h=>by have h1:=Tm.xA h.1;have h2:=Tm.xA h.2;have h3:=QC s;show(x.tx++32::(jB (cg s)++32::y.tx)).length<=25*(x.sz+y.sz+1);simp only[aq,ak];omega
 |.not c,h=>by have h1:=Cn.xA (c:=c) h;have h2:=sG 91 93 (decide<|c.rk<3) c.tx;show([110,111,116,32]++brk 91 93 (decide<|c.rk<3) c.tx).length<=25*(c.sz+1);simp only[aq,ak,bu];omega
 |.two s c e,h=>by have h1:=Cn.xA h.1;have h2:=Cn.xA h.2;have h3:=Wq s;have h4:=sG 91 93 (decide<|c.rk<if s=true then 2 else 1) c.tx;have h5:=sG 91 93 (decide<|e.rk<if s=true then 3 else 2) e.tx;show(brk 91 93 (decide<|c.rk<if s=true then 2 else 1) c.tx++32::(jB (cw s)++32::brk 91 93 (decide<|e.rk<if s=true then 3 else 2) e.tx)).length<=25*(c.sz+e.sz+1);simp only[aq,ak];omega
end WS
namespace WP
open PySem L2 P2
def Lz(a:Ad):lG:=(j6 (mZ (b1 tB (d2 v5 (dV 1) (dA lY (jy (dV 0) jE)))) (lM (d2 jR (dV 0) (dV 1))) nA)
    (lM (dC (.int 0))))
end WP
namespace CK
section
variable{α:Type}(k:α->Int)
end
end CK
namespace WP
open PySem L2 P2 TM T2 PySem.NumText
variable{a:Ad}
def Sz(n:Nat)(i:Int):Prop:=i.natAbs<10^n
abbrev pr(p q:Int):D:=.tup [.int p,.int q]
section
variable{Ff:jO}(hf:∀t b:Int,b≠0->b.natAbs<10^400->Ff [.int t,.int b]=.ok (fr t b)){p q x y:Int}(h1:Sz 190 p)(h2:Sz 190 q)(h3:Sz 190 x)(h4:Sz 190 y)
include hf h1 h2 h3 h4
end
structure Ck where
 m:Str
 t:Int
 p:Int
 q:Int
abbrev Ck.d(c:Ck):D:=.tup [.str c.m,.int c.t,pr c.p c.q]
def aa0(t t1 t2:Int):Int×Int:=if t1=t2 then(0,1)else(FM.top (t - t1)<|t2 - t1,FM.bot (t - t1)<|t2 - t1)
def ac3(t:Int)(c d:Ck):Int×Int:=
 let s:=aa0 t c.t d.t
 let mt:=FM.top (d.p*c.q - c.p*d.q) (d.q*c.q)
 let mb:=FM.bot (d.p*c.q - c.p*d.q) (d.q*c.q)
 let gt:=FM.top (s.1*mt) (s.2*mb)
 let gb:=FM.bot (s.1*mt) (s.2*mb)
 (FM.top (c.p*gb+gt*c.q)<|c.q*gb,FM.bot (c.p*gb+gt*c.q)<|c.q*gb)
structure Ck.Ok(c:Ck):Prop where
 low:FM.yS c.p c.q
 p:Sz 9 c.p
 q:Sz 6 c.q
 t:0<=c.t/\c.t<=1000000000
 s:PyData.strOk c.m=true
structure Os(a:Ad)(Ff Ft Fs Fm Fx Fp:jO):Prop where
 f:∀t b:Int,b≠0->b.natAbs<10^400->Ff [.int t,.int b]=.ok (fr t b)
 t:∀c:Ck,Ft [c.d]=.ok (.int c.t)
 s:∀t t1 t2:Int,Sz 20 t1->Sz 20 t2->Fs [.int t,.int t1,.int t2]=.ok (pr (aa0 t t1 t2).1 (aa0 t t1 t2).2)
 m:∀p q x y:Int,Sz 190 p->Sz 190 q->Sz 190 x->Sz 190 y->q≠0->y≠0->Fm [pr p q,pr x y]=.ok (fr (p*y - x*q)<|q*y)
 x:∀p q x y:Int,Sz 190 p->Sz 190 q->Sz 190 x->Sz 190 y->q≠0->y≠0->Fx [pr p q,pr x y]=.ok (fr (p*x)<|q*y)
 p:∀p q x y:Int,Sz 190 p->Sz 190 q->Sz 190 x->Sz 190 y->q≠0->y≠0->Fp [pr p q,pr x y]=.ok (fr (p*y+x*q)<|q*y)
structure Ov(a:Ad)(Ff Ft Fv:jO):Prop where
 f:∀t b:Int,b≠0->b.natAbs<10^400->Ff [.int t,.int b]=.ok (fr t b)
 t:∀c:Ck,Ft [c.d]=.ok (.int c.t)
 v:∀{t:Int},(0<=t/\t<=1000000000)->∀{c d:Ck},c.Ok->d.Ok->Fv [.int t,c.d,d.d]=.ok (pr (ac3 t c d).1 (ac3 t c d).2)
end WP
namespace P2
open PySem L2
def avX:asm i f ρ=toS (f ρ) λds=>if i<ρ.length then .nx (ρ.set i<|.ow ds)else .bad:=rfl
def avY{fs}:asn i j fs ρ=toS (fs ρ) λds=>match ds with
 |[d1,d2]=>if i<ρ.length/\j<ρ.length then .nx ((ρ.set i<|.sh d1).set j (.sh d2))else .bad
 |_=>.bad:=rfl
def avQ:ag4 3 f (s0::s1::s2::.ow ds::r)=toS (f<|s0::s1::s2::.ow ds::r) λd=>if ds.length<sizeLine then .nx (s0::s1::s2::.ow (ds++[d])::r)else .bad:=rfl
def avR:ag4 4 f (s0::s1::s2::s3::.ow ds::r)=toS (f<|s0::s1::s2::s3::.ow ds::r) λd=>if ds.length<sizeLine then .nx (s0::s1::s2::s3::.ow (ds++[d])::r)else .bad:=rfl
def avT:aeb 3 (s0::s1::s2::.ow ds::r)=s0::s1::s2::.sh (.lst ds)::r:=rfl
def avU:aeb 4 (s0::s1::s2::s3::.ow ds::r)=s0::s1::s2::s3::.sh (.lst ds)::r:=rfl
def avV{i j:Int}:anA [.int i,.int j]=.ok (.int<|if j<i then j else i):=rfl
def avW{j:Int}(h1:0<=j)(h2:j<1000000):vf [.int j]=.ok (Ed 0 j.toNat):=by show(if -(2^62)<=j/\j<2^62 then R.ok (Ed 0 j.toNat)else .bad)=_;rw[au<|by omega]
end P2
namespace WP
open PySem L2 P2 TM T2 PySem.NumText
variable{a:Ad}
def lt_size(h:n<1000000):n<sizeLine:=aG h (by decide)
def ajD(ns:List Int)(k)(h:k<ns.length):L2.lH (ns.map D.int) (k:Int)=some (.int<|ns.getD k 0):=by refine CW ?_;rw[aO,aN h,cu,aN h];rfl
def amS(ns:List Int)(k:Nat):jM (Lz a<|jP 2 [.lst<|ns.map .int,.int k])=.ok (.int<|ns.getD k 0):=by
 unfold Lz;walk_at "d"
 rw[az];by_cases h:k<ns.length
 ·rw[au<|aP<|by omega,ajD ns k h];walk_at "d"
 ·rw[aA<|by simp;omega];walk_at "d"
  rw[cu,jd<|by omega];rfl
structure FOk(p q:Int):Prop where
 low:FM.yS p q
 p:Sz 9 p
 q:Sz 6 q
end WP
namespace WC
open PySem L2 P2 WP TM T2 PySem.NumText
variable{a:Ad}
theorem aix:∀(n:Nat) (x y:Int) (s0 s1 s4:Sl),0<=x->0<=y->y<n->
 ∃s4',yI (P2.b1 tB<|d2 oV (dV 3)<|dC<|.int 0) (VH a) n [s0,s1,.sh<|.int x,.sh<|.int y,s4]=.nx [s0,s1,.sh<|.int<|FM.g x y,.sh<|.int 0,s4']
 |0,x,y,s0,s1,s4,hx,hy,h=>by omega
 |n+1,x,y,s0,s1,s4,hx,hy,h=>by
  rw[agL];by_cases z:y=0
  ·subst z;refine⟨s4,?_⟩;walk_at "d"
   rw[FM.aeh hx]
  ·have hp:0<y:=by omega
   have hm:=ik x hp;obtain⟨s4',e⟩:=aix n y (x%y) s0 s1 (.sh<|.int<|x%y) hy (iZ x z) (by omega);refine⟨s4',?_⟩;unfold VH;iterate 4 (walk_at "d";try simp only[aP hp,N8 hp,and_self])
   rw[<-FM.aeg hx hp];exact e
def am9(t b:Int)(ht:0<=t)(hb:0<b)(h:b.natAbs<10^400):jM (Rg a<|jP 5 [.int t,.int b])=.ok (pr (FM.top t b)<|FM.bot t b):=by
 obtain⟨s4,e⟩:=aix (a:=a) 10000000000000000000000000000000000000000000000000000000000000000000000000000000000000000000000000000000000000000000000000000000000000000000000000000000000000000000000000000000000000000000000000000000000000000000000000000000000000000000000000000000000000000000000000000000000000000000000000000000000000000000000000000000000000000000000000000000000000000000000000000000000000000000000000000000000000000 t b (.sh (.int t)) (.sh (.int b)) .no ht (by omega) (by omega);rw[<-FM.adW hb]at e;have d1:=TQ (i:=t) (FM.FP (t:=t) (b:=b)<|by omega) (QK (t:=t) (b:=b) (by omega) h);have d2:=TQ (i:=b) (FM.FP (t:=t) (b:=b)<|by omega) (QK (t:=t) (b:=b) (by omega) h);unfold Rg;iterate 4 (walk_at "d";try simp only[and_self])
 rw[e];iterate 4 (walk_at "d";try simp only[d1,d2])
 rfl
def ad8{t b:Int}(ht:0<=t)(h1:t<1000000000)(hb:0<b)(h2:b<1000000):Fq (FM.top t b) (FM.bot t b):=by
 have L:=FM.Yg (t:=t) (b:=b) (by omega);obtain⟨s1,s2⟩:=FM.split (t:=t) (b:=b) (by omega);have gp:0<FM.dv t b:=by rw[FM.adW hb];exact FM.Xa (by omega)
 have lp:=L.pos;generalize FM.dv t b=g at*;generalize FM.top t b=p at*;generalize FM.bot t b=q at*;have hp:0<=p:=by
  by_cases w:0<=p;·exact w
  ·have:g*p<0:=Int.mul_neg_of_pos_of_neg gp (by omega);omega
 have p1:p<=t:=by have:1*p<=g*p:=f9 (by omega) hp;omega
 have q1:q<=b:=by have:1*q<=g*q:=f9 (by omega) (by omega);omega
 exact⟨hp,L,by omega,lp,by omega⟩
def amZ{Fl:jO}(hl:∀t b:Int,0<=t->0<b->b.natAbs<10^400->Fl [.int t,.int b]=.ok (pr (FM.top t b)<|FM.bot t b))(c:Int):∃p q,Fq p q/\jM (IV a Fl<|jP 1 [.int c])=.ok (pr p q):=by
 have pw:Z9 (.int 10) (.int 9)=.ok (.int 1000000000):=rfl;have ml:uz (.int c) (.int 48271)=.ok (.int<|c*48271):=aq7 (by decide) (by decide);have hp:(0:Int)<1000000000:=by decide
 by_cases h0:c%3=0
 ·refine⟨c/3%9,1,⟨by omega,⟨by decide,?_⟩,by omega,by decide,by decide⟩,?_⟩;·exact Int.gcd_one
  ·unfold IV;iterate 5 (walk_at "d";try simp only[h0,bZ,pr])
 ·by_cases h1:c%3=1
  ·refine⟨_,_,ad8 (t:=c/3%12) (b:=1+c/36%7) (by omega) (by omega) (by omega)<|by omega,?_⟩;have e:=hl (c/3%12) (1+c/36%7) (by omega) (by omega) (by omega);unfold IV;iterate 6 (walk_at "d";try simp only[h1,bZ,pr,e])
  ·refine⟨_,_,ad8 (t:=c/3%1000000000) (b:=1+c*48271%999983) (by omega) (by omega) (by omega)<|by omega,?_⟩;have e:=hl (c/3%1000000000) (1+c*48271%999983) (by omega) (by omega) (by omega);unfold IV;iterate 6 (walk_at "d";try simp only[h0,h1,bW,pr,pw,ml,N8 hp,e])
def zO(k:Nat):Nat:=[122,98,120,107].getD k 98
def afv:∀n:Nat,n<8->GC (Str.ofString "q") (n:Int)=true/\Txt.mul (Str.ofString "q") (n:Int)=jz (List.replicate n 113):=by decide+kernel
def ao6:∀k:Nat,k<4->L2.lH (Str.ofString "zbxk").cps.toList (k:Int)=some (zO k)/\97<=zO k/\zO k<=122:=by decide
def anz:∀s:Nat,s<8->∀p:Nat,p<s+1->∀j:Nat,j<4->TR.uf ((List.replicate p 113++[zO j])++List.replicate (s - p) 113)=true:=by decide+kernel
def anb(c k:Int):∃m,(m.length<=8/\m≠[]/\(∀c∈m,97<=c/\c<=122)/\TR.uf m=true)/\jM (Rh a<|jP 4 [.int c,.int k])=.ok (.str<|jz m):=by
 have h8:0<=c%8/\c%8<8:=by omega
 obtain⟨s,hs⟩:=cA h8.1;have hp:(0:Int)<1+(s:Int):=by omega
 have hpl:=iZ (c/8) (show(1:Int)+s≠0 by omega);have avM:=ik (c/8) hp;obtain⟨p,hpe⟩:=cA hpl;obtain⟨j,hj⟩:=cA (show 0<=k%4 by omega);have j4:j<4:=by omega
 have s8:s<8:=by omega
 have ps:p<s+1:=by omega
 obtain⟨a2,a3⟩:=ao6 j j4;obtain⟨o1,t1⟩:=afv p (by omega);obtain⟨o2,t2⟩:=afv (s - p) (by omega);have e3:(1:Int)+(s:Int) - 1 - (p:Int)=((s - p:Nat):Int):=by omega
 have m1:uz (.str<|Str.ofString "q") (.int (p:Int))=.ok (.str<|jz<|List.replicate p 113):=by rw[aao o1,t1]
 have m2:uz (.str<|Str.ofString "q") (.int ((s - p:Nat):Int))=.ok (.str<|jz<|List.replicate (s - p) 113):=by rw[aao o2,t2]
 have l1:(Str.ofString "zbxk").length<=sizeLine:=by decide
 have x1:jT (.str<|jz<|List.replicate p 113) (.str ⟨#[zO j]⟩)=.ok (.str<|jz<|List.replicate p 113++[zO j]):=pU (y:=[zO j]) (by rw[bJ];omega) (by simp);have x2:jT (.str<|jz<|List.replicate p 113++[zO j]) (.str<|jz<|List.replicate (s - p) 113)=.ok (.str<|jz<|(List.replicate p 113++[zO j])++List.replicate (s - p) 113):=pU (by simp;omega) (by simp;omega);have ai:jT (.int 1) (.int (s:Int))=.ok (.int<|1+s):=rfl;refine⟨(List.replicate p 113++[zO j])++List.replicate (s - p) 113,⟨by simp;omega,by simp,?_,anz s s8 p ps j j4⟩,?_⟩
 ·intro x hx;simp only[cL,List.mem_replicate,bR]at hx;rcases hx with(⟨_,rfl⟩|rfl)|⟨_,rfl⟩;·decide
  ·exact a3
  ·decide
 ·unfold Rh;generalize uz=MUL at*;generalize jT=xQ at*;iterate 9 (walk_at "d";try simp only[hs,hpe,hj,N8 hp,a2,au l1,e3,m1,m2,x1,x2,ai])
def anl{p q:Int}(h:Fq p q):jM (Rn a<|jP 2 [pr p q])=.ok (.str<|jz<|my p q):=by
 have s1:=abM (i:=p) (aG h.p<|by decide);have s2:=abM (i:=q) (aG h.q.2<|by decide);have l1:=Gy h.p;have l2:=Gy (i:=q) (aG h.q.2<|by decide);have x1:jT (.str<|jz<|nD p) (.str<|Str.ofString "/")=.ok (.str<|jz<|nD p++[47]):=pU (y:=[47]) (by omega) (by simp);have x2:jT (.str<|jz<|nD p++[47]) (.str<|jz<|nD q)=.ok (.str<|jz<|(nD p++[47])++nD q):=pU (by simp;omega) (by omega);have i0:L2.lH [D.int p,D.int q] 0=some (.int p):=rfl;have i1:L2.lH [D.int p,D.int q] 1=some (.int q):=rfl;have l2:2<=sizeLine:=by decide
 have sf:my p q=if q=1 then nD p else(nD p++[47])++nD q:=by
  unfold my;have hq:=h.q.1;split;·rfl
  ·rw[aZ,List.singleton_append];congr 2;unfold nD;rw[aA<|by omega]
 rw[sf];have hq:=h.q.1;unfold Rn pr;generalize jT=xQ at*;by_cases w:q=1
 ·subst w;iterate 7 (walk_at "d";try simp only[i0,i1,s1,s2,x1,x2,au l2])
 ·have w1:1<q:=by omega
  iterate 7 (walk_at "d";try simp only[i0,i1,s1,s2,x1,x2,au l2,w1,w])
def tri(t:Tm):D:=.tup [t.d,.str<|jz t.tx,.int t.rk]
def j7(c:Cn):D:=.tup [c.d,.str<|jz c.tx,.int c.rk]
def am6{Ff Fs Fm:jO}(hf:∀c:Int,∃p q,Fq p q/\Ff [.int c]=.ok (pr p q))(hs:∀p q,Fq p q->Fs [pr p q]=.ok (.str<|jz<|my p q))(hm:∀c k:Int,∃m,(m.length<=8/\m≠[]/\(∀c∈m,97<=c/\c<=122)/\TR.uf m=true)/\Fm [.int c,.int k]=.ok (.str<|jz m))
 (h c:Int):∃t:Tm,t.Ok/\t.sz=1/\jM (FZ a Ff Fs Fm<|jP 7 [.int h,.int c])=.ok (tri t):=by
  obtain⟨k,hk⟩:=cA (show 0<=c%8 by omega);have k8:k<8:=by omega
  by_cases k2:k<2
  ·obtain⟨p,q,fq,e1⟩:=hf (c/8);have e2:=hs p q fq;refine⟨.num p q,fq,rfl,?_⟩;unfold FZ tri;have lt:(k:Int)<2:=by omega
   iterate 7 (walk_at "d";try simp only[hk,lt,bZ,e1,e2])
   rfl
  ·by_cases k3:k=2
   ·subst k3;refine⟨.here,trivial,rfl,?_⟩;unfold FZ tri;iterate 7 (walk_at "d";try simp only[hk,il])
    rfl
   ·by_cases k7:k=7
    ·subst k7;obtain⟨m,hO,e1⟩:=hm h (c/8);have x1:jT (.str<|Str.ofString "at ") (.str<|jz m)=.ok (.str<|jz<|[97,116,32]++m):=pU (x:=[97,116,32]) (by simp) (by omega);refine⟨.at m,hO,rfl,?_⟩;unfold FZ tri;have ai:jT (.int 1) (.int<|c/8%9)=.ok (.int<|1+c/8%9):=rfl;generalize jT=xQ at*;iterate 7 (walk_at "d";try simp only[hk,il,e1,x1,ai])
     rfl
    ·have lt:¬(k:Int)<2:=by omega
     have n2:¬(k:Int)=2:=by omega
     have n7:¬(k:Int)=7:=by omega
     have w4:(k:Int) - 3=((k - 3:Nat):Int):=by omega
     have ix:L2.lH [D.str "back",D.str "on",D.str "ago",D.str "until"] ((k - 3:Nat):Int)=some (.str<|wd<|k - 3):=by
      have:k=3\/k=4\/k=5\/k=6:=by omega
      rcases this with rfl|rfl|rfl|rfl<;>rfl
     have nb:1<=1+c/8%9/\1+c/8%9<=9:=by omega
     have sn:=abM (i:=1+c/8%9) (aG (show(1+c/8%9).natAbs<10 by omega)<|by decide);have ln:=Gy (i:=1+c/8%9) (by omega);have lw:=abW (k - 3);have x1:jT (.str<|wd<|k - 3) (.str<|Str.ofString " ")=.ok (.str<|jz<|jB (wd<|k - 3)++[32]):=by have:=pU (x:=jB<|wd<|k - 3) (y:=[32]) (by omega) (by simp);rw[uN]at this;exact this
     have x2:jT (.str<|jz<|jB (wd<|k - 3)++[32]) (.str<|jz<|nD<|1+c/8%9)=.ok (.str<|jz<|(jB (wd<|k - 3)++[32])++nD (1+c/8%9)):=pU (by simp;omega) (by omega);have ai:jT (.int 1) (.int<|c/8%9)=.ok (.int<|1+c/8%9):=rfl;have l4:4<=sizeLine:=by decide
     refine⟨.pN (k - 3)<|1+c/8%9,nb,rfl,?_⟩;have tx:(Tm.pN (k - 3)<|1+c/8%9).tx=(jB (wd<|k - 3)++[32])++nD (1+c/8%9):=by rw[aZ];rfl
     unfold FZ tri;rw[tx];generalize jT=xQ at*;iterate 9 (walk_at "d";try simp only[hk,lt,n2,n7,w4,ix,sn,x1,x2,ai,au l4])
     rfl
def ang{d}{x:List Nat}{r n:Int}(hx:x.length<=30000):jM (Rk a<|jP 3 [.tup [d,.str<|jz x,.int r],.int n,.str<|jz [o,c]])=.ok (.str<|jz<|brk o c (decide<|r<n) x):=by
 have i0:L2.lH [d,D.str<|jz x,D.int r] 1=some (.str<|jz x):=rfl;have i2:L2.lH [d,D.str<|jz x,D.int r] 2=some (.int r):=rfl;have b0:jR (.str<|jz [o,c]) (.int 0)=.ok (.str<|jz [o]):=rfl;have b1:jR (.str<|jz [o,c]) (.int 1)=.ok (.str<|jz [c]):=rfl;have x1:jT (.str<|jz [o]) (.str<|jz x)=.ok (.str<|jz<|[o]++x):=pU (by simp) (by omega);have x2:jT (.str<|jz<|[o]++x) (.str<|jz [c])=.ok (.str<|jz<|([o]++x)++[c]):=pU (by simp;omega) (by simp);have l3:3<=sizeLine:=by decide
 have e1:jR (.tup [d,D.str<|jz x,D.int r]) (.int 1)=.ok (.str<|jz x):=by walk_at "d";simp only[au l3,i0]
 have e2:jR (.tup [d,D.str<|jz x,D.int r]) (.int 2)=.ok (.int r):=by walk_at "d";simp only[au l3,i2]
 simp only[cU,bV]at x1 x2;unfold Rk brk;generalize jT=xQ at*;generalize jR=IX at*;by_cases h:r<n
 ·rw[au<|aP h];iterate 7 (walk_at "d";try simp only[e1,e2,b0,b1,x1,x2,aP h])
  try simp
 ·rw[aA<|by simp[h]];iterate 7 (walk_at "d";try simp only[e1,e2,b0,b1,x1,x2,aC h])
def KQ(F:jO):Prop:=∀d (x:List Nat) (r n:Int) o c,x.length<=30000->F [.tup [d,.str<|jz x,.int r],.int n,.str<|jz [o,c]]=.ok (.str<|jz<|brk o c (decide<|r<n) x)
def rk1(t:Tm):¬t.rk<1:=by cases t<;>simp[Tm.rk]
def By{d}{r:Int}:jR (.tup [d,D.str<|jz x,D.int r]) (.int 0)=.ok d/\jR (.tup [d,D.str<|jz x,D.int r]) (.int 1)=.ok (.str<|jz x):=by
 have l3:3<=sizeLine:=by decide
 have i0:L2.lH [d,D.str<|jz x,D.int r] 0=some d:=rfl;have i1:L2.lH [d,D.str<|jz x,D.int r] 1=some (.str<|jz x):=rfl;exact⟨by walk_at "d";simp only[au l3,i0],by walk_at "d";simp only[au l3,i1]⟩
def VB{x w y:List Nat}(h1:x.length<=15000)(h2:w.length<=100)(h3:y.length<=15000):
    jT (.str<|jz x) (.str<|Str.ofString " ")=.ok (.str<|jz<|x++[32])/\jT (.str<|jz<|x++[32]) (.str<|jz w)=.ok (.str<|jz<|x++[32]++w)/\jT (.str<|jz<|x++[32]++w) (.str<|Str.ofString " ")=.ok (.str<|jz<|x++[32]++w++[32])/\jT (.str<|jz<|x++[32]++w++[32]) (.str<|jz y)=.ok (.str<|jz<|x++32::(w++32::y)):=by
 refine⟨pU (y:=[32]) (by omega)<|by simp,pU (by simp;omega)<|by omega,pU (y:=[32]) (by simp;omega)<|by simp,?_⟩;rw[pU (by simp;omega)<|by omega];simp
def ana(hp:KQ Fp){x y:Tm}(lx:x.tx.length<=10000)(ly:y.tx.length<=10000):jM (Rq a Fp<|jP 4 [tri x,tri y,.str<|sg s])=.ok (tri<|.bin s x y):=by have p1:=hp x.d x.tx x.rk 1 40 41 (by omega);have p2:=hp y.d y.tx y.rk 2 40 41 (by omega);have ls:=aaY s;have lb:=sG 40 41 (decide<|y.rk<2) y.tx;rw[aC<|rk1 x,show brk 40 41 false x.tx=x.tx from rfl]at p1;have br:jz [40,41]=Str.ofString "()":=rfl;rw[br]at p1 p2;obtain⟨a1,a2,a3,a4⟩:=VB (x:=x.tx) (w:=jB (sg s)) (y:=brk 40 41 (decide (y.rk<2)) y.tx) (by omega) (by omega) (by omega);rw[uN]at a2;obtain⟨i0,_⟩:=By (d:=x.d) (x:=x.tx) (r:=x.rk);obtain⟨i1,_⟩:=By (d:=y.d) (x:=y.tx) (r:=y.rk);have tx:(Tm.bin s x y).tx=x.tx++32::(jB (sg s)++32::brk 40 41 (decide<|y.rk<2) y.tx):=rfl;unfold Rq tri;rw[tx,show(Tm.bin s x y).d=.tup [.str<|sg s,x.d,y.d]from rfl,show(Tm.bin s x y).rk=1 from rfl];generalize jT=xQ at*;generalize jR=IX at*;iterate 9 (walk_at "d";try simp only[p1,p2,a1,a2,a3,a4,i0,i1])
def am8{Ff Fs:jO}(hf:∀c:Int,∃p q,Fq p q/\Ff [.int c]=.ok (pr p q))(hs:∀p q,Fq p q->Fs [pr p q]=.ok (.str<|jz<|my p q))(hp:KQ Fp){x:Tm}(hx:x.Ok)(lx:x.tx.length<=10000)(c:Int):
    ∃t:Tm,t.Ok/\t.sz=x.sz+1/\sO t=sO x+1/\jM (LC a Ff Fs Fp<|jP 3 [tri x,.int c])=.ok (tri t):=by
 obtain⟨i0,i1⟩:=By (d:=x.d) (x:=x.tx) (r:=x.rk);by_cases h:c%2=0
 ·refine⟨.abs x,hx,rfl,rfl,?_⟩;have x1:jT (.str<|Str.ofString "abs(") (.str<|jz x.tx)=.ok (.str<|jz<|[97,98,115,40]++x.tx):=pU (x:=[97,98,115,40]) (by simp) (by omega);have x2:jT (.str<|jz<|[97,98,115,40]++x.tx) (.str<|Str.ofString ")")=.ok (.str<|jz<|([97,98,115,40]++x.tx)++[41]):=pU (y:=[41]) (by simp;omega) (by simp);rw[aZ]at x2;simp only[cU,bV]at x1 x2;unfold LC tri;rw[show(Tm.abs x).tx=[97,98,115,40]++(x.tx++[41])from rfl,show(Tm.abs x).d=.tup [.str "abs",x.d]from rfl,show(Tm.abs x).rk=3 from rfl];generalize jT=xQ at*;generalize jR=IX at*;iterate 9 (walk_at "d";try simp only[h,x1,x2,i0,i1])
 ·obtain⟨p,q,fq,e1⟩:=hf (c/2);have e2:=hs p q fq;have e3:=hp x.d x.tx x.rk 3 40 41 (by omega);rw[show jz [40,41]=Str.ofString "()" from rfl]at e3;have lb:=sG 40 41 (decide<|x.rk<3) x.tx;have lf:=JR fq;have x1:jT (.str<|jz<|my p q) (.str<|Str.ofString " * ")=.ok (.str<|jz<|my p q++[32,42,32]):=pU (y:=[32,42,32]) (by omega) (by simp);have x2:jT (.str (jz (my p q++[32,42,32]))) (.str (jz (brk 40 41 (decide (x.rk<3)) x.tx)))=.ok (.str (jz ((my p q++[32,42,32])++brk 40 41 (decide (x.rk<3)) x.tx))):=pU (by simp;omega) (by omega);refine⟨.times p q x,⟨fq,hx⟩,rfl,rfl,?_⟩;have tx:(Tm.times p q x).tx=(my p q++[32,42,32])++brk 40 41 (decide<|x.rk<3) x.tx:=by
   rw[aZ];rfl
  unfold LC tri;rw[tx,show(Tm.times p q x).d=.tup [.str "times",pr p q,x.d]from rfl,show(Tm.times p q x).rk=2 from rfl];generalize jT=xQ at*;generalize jR=IX at*;iterate 9 (walk_at "d";try simp only[h,x1,x2,i0,i1,e1,e2,e3])
def amT{x y:Tm}(lx:x.tx.length<=10000)(ly:y.tx.length<=10000):jM (Q9 a<|jP 3 [tri x,tri y,.str<|cg s])=.ok (j7<|.cmp s x y):=by have ls:=QC s;obtain⟨a1,a2,a3,a4⟩:=VB (x:=x.tx) (w:=jB (cg s)) (y:=y.tx) (by omega) (by omega) (by omega);rw[uN]at a2;obtain⟨i0,j0⟩:=By (d:=x.d) (x:=x.tx) (r:=x.rk);obtain⟨i1,j1⟩:=By (d:=y.d) (x:=y.tx) (r:=y.rk);unfold Q9 tri j7;rw[show(Cn.cmp s x y).tx=x.tx++32::(jB (cg s)++32::y.tx)from rfl,show(Cn.cmp s x y).d=.tup [.str<|cg s,x.d,y.d]from rfl,show(Cn.cmp s x y).rk=4 from rfl];generalize jT=xQ at*;generalize jR=IX at*;iterate 9 (walk_at "d";try simp only[a1,a2,a3,a4,i0,i1,j0,j1])
def am7(hp:KQ Fp){x y:Cn}(lx:x.tx.length<=10000)(ly:y.tx.length<=10000):jM (Rf a Fp<|jP 5 [j7 x,j7 y,.str<|cw s])=.ok (j7<|.two s x y):=by
 have ls:=Wq s;have ib:Gp [.bl<|decide<|cw s=Str.ofString "and"]=.ok (.int<|if s=true then 1 else 0):=by cases s<;>rfl
 have ai:jT (.int 1) (.int<|if s=true then 1 else 0)=.ok (.int<|if s=true then 2 else 1):=by cases s<;>rfl
 have aj:jT (.int<|if s=true then 2 else 1) (.int 1)=.ok (.int<|if s=true then 3 else 2):=by cases s<;>rfl
 have p1:=hp x.d x.tx x.rk (if s=true then 2 else 1) 91 93 (by omega);have p2:=hp y.d y.tx y.rk (if s=true then 3 else 2) 91 93 (by omega);have br:jz [91,93]=Str.ofString "[]":=rfl;rw[br]at p1 p2;have lb1:=sG 91 93 (decide<|x.rk<if s=true then 2 else 1) x.tx;have lb2:=sG 91 93 (decide<|y.rk<if s=true then 3 else 2) y.tx;obtain⟨a1,a2,a3,a4⟩:=VB (x:=brk 91 93 (decide (x.rk<if s=true then 2 else 1)) x.tx) (w:=jB (cw s)) (y:=brk 91 93 (decide (y.rk<if s=true then 3 else 2)) y.tx) (by omega) (by omega) (by omega);rw[uN]at a2;obtain⟨i0,j0⟩:=By (d:=x.d) (x:=x.tx) (r:=x.rk);obtain⟨i1,j1⟩:=By (d:=y.d) (x:=y.tx) (r:=y.rk);unfold Rf j7;rw[show(Cn.two s x y).tx=brk 91 93 (decide<|x.rk<if s=true then 2 else 1) x.tx++32::(jB (cw s)++32::brk 91 93 (decide<|y.rk<if s=true then 3 else 2) y.tx)from rfl,show(Cn.two s x y).d=.tup [.str<|cw s,x.d,y.d]from rfl,show(Cn.two s x y).rk=if s=true then 2 else 1 from rfl];generalize jT=xQ at*;generalize jR=IX at*;generalize Gp=IB at*;generalize(if s=true then(1:Int)else 0)=r0 at*;generalize(if s=true then(3:Int)else 2)=r3 at*;generalize(if s=true then(2:Int)else 1)=r1 at*;iterate 9 (walk_at "d";try simp only[ib,ai,aj,p1,p2,a1,a2,a3,a4,i0,i1,j0,j1])
def amV(hp:KQ Fp){x:Cn}(lx:x.tx.length<=10000):jM (Rb a Fp<|jP 1 [j7 x])=.ok (j7<|.not x):=by have p1:=hp x.d x.tx x.rk 3 91 93 (by omega);rw[show jz [91,93]=Str.ofString "[]" from rfl]at p1;have lb:=sG 91 93 (decide<|x.rk<3) x.tx;have x1:jT (.str<|Str.ofString "not ") (.str<|jz<|brk 91 93 (decide<|x.rk<3) x.tx)=.ok (.str<|jz<|[110,111,116,32]++brk 91 93 (decide<|x.rk<3) x.tx):=pU (x:=[110,111,116,32]) (by simp) (by omega);obtain⟨i0,j0⟩:=By (d:=x.d) (x:=x.tx) (r:=x.rk);unfold Rb j7;rw[show(Cn.not x).tx=[110,111,116,32]++brk 91 93 (decide<|x.rk<3) x.tx from rfl,show(Cn.not x).d=.tup [.str "not",x.d]from rfl,show(Cn.not x).rk=3 from rfl];generalize jT=xQ at*;generalize jR=IX at*;iterate 9 (walk_at "d";try simp only[p1,x1,i0,j0])
def oJ(t c:Int):Int:=(t+1)/2+t%2+max 0 (c+(t+1)/2 - 1)+3*(if c+(t+1)/2=0 then 1 else 0)
def ani(t c:Int):jM (Rm a<|jP 3 [.int t,.int c])=.ok (.int<|oJ t c):=by
 have m1:∀z:Int,uz (.int 3) (.int z)=.ok (.int<|3*z):=λz=>aq6 (by decide) (by decide);have ib:∀b:Bool,Gp [.bl b]=.ok (.int<|if b=true then 1 else 0):=λb=>by cases b<;>rfl
 have mx:∀z:Int,v7 [.int 0,.int z]=.ok (.int<|max 0 z):=λz=>by
  show R.ok (D.int<|if z>0 then z else 0)=_
  congr 2
  split<;>omega
 unfold Rm oJ;iterate 7 (walk_at "d";try simp only[m1,ib,mx])
 by_cases h:c+(t+1)/2=0<;>simp[h]<;>(try split)<;>omega
def lJ(ts cs:List D)(p o:Int):lD:=[.dk [(.inr "terms",.loc 1),(.inr "conds",.loc 2),(.inr "parts",.d<|.int p),(.inr "over",.d<|.int o)],.li<|ts.map .d,.li<|cs.map .d]
section
variable{ρ mO:lr}{S S1 S2:lD}{f:nC}{ts cs ts' cs':List D}{p o p' o':Int}{x:D}{i:Nat}
def qC{g:lF}(e:g ρ S=.nx mO S1):j5 g h ρ S=h mO S1:=by unfold j5;rw[e];rfl
def wj(e:f ρ S=.ok z S1)(hi:i<ρ.length):mR i f ρ S=.nx (ρ.set i<|some z) S1:=by unfold mR;rw[e];exact au hi
def zY{c:lr->lD->RX Bool}{g}(e:c ρ S=.ok true S1):nZ c g h ρ S=g ρ S1:=by unfold nZ;rw[e];rfl
def sU{c:lr->lD->RX Bool}{g}(e:c ρ S=.ok false S1):nZ c g h ρ S=h ρ S1:=by unfold nZ;rw[e];rfl
def ae1(l x):((l++[x]).map Z.d)[((l++[x]).map Z.d).length - 1]?=some (.d x):=by simp
def adU(l x):((l++[x]).map Z.d).dropLast=l.map .d:=by rw[bU];exact jl
def GR(h:ρ[i]?=some (some<|.loc 1)):sr i ρ (lJ (ts++[x]) cs p o)=.ok (.d x) (lJ ts cs p o):=by
 unfold sr;rw[h]
 show(match((ts++[x]).map Z.d)[((ts++[x]).map Z.d).length - 1]? with
  |some z=>RX.ok z ((lJ (ts++[x]) cs p o).set 1 (.li ((ts++[x]).map Z.d).dropLast))
  |none=>RX.bad)=_
 rw[ae1,adU];rfl
def NK(h:ρ[i]?=some (some<|.loc 2)):sr i ρ (lJ ts (cs++[x]) p o)=.ok (.d x) (lJ ts cs p o):=by
 unfold sr;rw[h]
 show(match((cs++[x]).map Z.d)[((cs++[x]).map Z.d).length - 1]? with
  |some z=>RX.ok z ((lJ ts (cs++[x]) p o).set 2 (.li ((cs++[x]).map Z.d).dropLast))
  |none=>RX.bad)=_
 rw[ae1,adU];rfl
def Ql(h:ρ[i]?=some (some<|.loc 1))(e:f ρ (lJ ts cs p o)=.ok (.d x) (lJ ts' cs' p' o'))(hl:ts'.length<=1000):rF i f ρ (lJ ts cs p o)=.nx ρ (lJ (ts'++[x]) cs' p' o'):=by unfold rF;rw[h];show toZ (f ρ<|lJ ts cs p o) _=_;rw[e];show(if(ts'.map Z.d).length<sizeLine then pq.nx ρ ((lJ ts' cs' p' o').set 1 (.li<|ts'.map Z.d++[.d x]))else .bad)=_;rw[az,au<|lt_size<|by omega];unfold lJ;rw[bU];rfl
def Hw(h:ρ[i]?=some (some<|.loc 2))(e:f ρ (lJ ts cs p o)=.ok (.d x) (lJ ts' cs' p' o'))(hl:cs'.length<=1000):rF i f ρ (lJ ts cs p o)=.nx ρ (lJ ts' (cs'++[x]) p' o'):=by unfold rF;rw[h];show toZ (f ρ<|lJ ts cs p o) _=_;rw[e];show(if(cs'.map Z.d).length<sizeLine then pq.nx ρ ((lJ ts' cs' p' o').set 2 (.li<|cs'.map Z.d++[.d x]))else .bad)=_;rw[az,au<|lt_size<|by omega];unfold lJ;rw[bU];rfl
def Xc(h:ρ[i]?=some (some<|.loc 0)):pX (zV i) (dC<|.str "terms") ρ (lJ ts cs p o)=.ok (.loc 1) (lJ ts cs p o):=by unfold pX zV;rw[h];rfl
def Xb(h:ρ[i]?=some (some<|.loc 0)):pX (zV i) (dC<|.str "conds") ρ (lJ ts cs p o)=.ok (.loc 2) (lJ ts cs p o):=by unfold pX zV;rw[h];rfl
def aej(h:ρ[i]?=some (some<|.loc 0)):pX (zV i) (dC<|.str "parts") ρ (lJ ts cs p o)=.ok (.d<|.int p) (lJ ts cs p o):=by unfold pX zV;rw[h];rfl
def aei(h:ρ[i]?=some (some<|.loc 0)):pX (zV i) (dC<|.str "over") ρ (lJ ts cs p o)=.ok (.d<|.int o) (lJ ts cs p o):=by unfold pX zV;rw[h];rfl
def aqt{k:Int}(h:ρ[i]?=some (some<|.loc 0))(e:f ρ (lJ ts cs p o)=.ok (.d<|.int k) (lJ ts cs p o)):BR (zV i) (dC<|.str "over") f ρ (lJ ts cs p o)=.nx ρ (lJ ts cs p k):=by unfold BR;rw[e];unfold zV;show toZ (match ρ[i]? with|some (some z)=>_|_=>_) _=_;rw[h];rfl
def aqu{k:Int}(h:ρ[i]?=some (some<|.loc 0))(e:f ρ (lJ ts cs p o)=.ok (.d<|.int k) (lJ ts cs p o)):BR (zV i) (dC<|.str "parts") f ρ (lJ ts cs p o)=.nx ρ (lJ ts cs k o):=by unfold BR;rw[e];unfold zV;show toZ (match ρ[i]? with|some (some z)=>_|_=>_) _=_;rw[h];rfl
def qm{g:lA}{d}(e:g (nQ ρ)=.ok d):zD g ρ S=.ok (.d d) S:=by unfold zD;rw[e];rfl
def z_B{g:Ev->R Bool}{d}(e:g (nQ ρ)=.ok d):zB g ρ S=.ok d S:=by unfold zB;rw[e];rfl
def Ca{g:Ev->R Bool}{d}(e:g (vw S ρ)=.ok d):pQ g ρ S=.ok d S:=by unfold pQ;rw[e]
def wY:jW ρ S=.ok [] S:=rfl
def pR{r:lr->lD->RX (List Z)}(e:f ρ S=.ok z S1)(e2:r ρ S1=.ok zs S2):jQ f r ρ S=.ok (z::zs) S2:=by unfold jQ;rw[e];show(r ρ S1).bind _=_;rw[e2];rfl
def z6{g:jO}{r:lr->lD->RX (List Z)}{ds:List D}{d}(e:r ρ S=.ok (ds.map .d) S1)(e2:g ds=.ok d):zF g r ρ S=.ok (.d d) S1:=by unfold zF;rw[e];show(match rN (ds.map Z.d)with|some ds=>_|none=>_)=_;rw[Hy];show RX.bind (qQ (g ds) S1) _=_;rw[e2];rfl
def ab9{c d:lr->lD->RX Bool}{k}(e:c ρ S=.ok true S1)(e2:d ρ S1=.ok k S2):BW c d ρ S=.ok k S2:=by unfold BW;rw[e];exact e2
def aiJ{c d:lr->lD->RX Bool}(e:c ρ S=.ok false S1):BW c d ρ S=.ok false S1:=by unfold BW;rw[e];rfl
def Hk{g:D->D->R D}{fa fb:nC}{w}(e1:fa ρ S=.ok (.d u) S1)(e2:fb ρ S1=.ok (.d v) S2)(e3:g u v=.ok w):z2 g fa fb ρ S=.ok (.d w) S2:=by unfold z2;rw[e1];show(fb ρ S1).bind _=_;rw[e2];show RX.bind (qQ (g u v) S2) _=_;rw[e3];rfl
def aiK{g:D->R Bool}{k}(e1:f ρ S=.ok (.d u) S1)(e3:g u=.ok k):qK g f ρ S=.ok k S1:=by unfold qK;rw[e1];show qQ (g u) S1=_;rw[e3];rfl
end
variable{a:Ad}
def wt(ts:List Tm):Nat:=(ts.map Tm.sz).sum
def wc(cs:List Cn):Nat:=(cs.map Cn.sz).sum
def vt(ts:List Tm):Nat:=(ts.map sO).sum
def vc(cs:List Cn):Nat:=(cs.map qx).sum
def J4(x y):vt (x++y)=vt x+vt y:=by unfold vt;rw[bU,gC]
def O2(x y):vc (x++y)=vc x+vc y:=by unfold vc;rw[bU,gC]
def Ka(x):vt [x]=sO x:=by simp[vt]
def J3(x):vc [x]=qx x:=by simp[vc]
def yJ(x y):wt (x++y)=wt x+wt y:=by unfold wt;rw[bU,gC]
def zX(x y):wc (x++y)=wc x+wc y:=by unfold wc;rw[bU,gC]
def yK(x):wt [x]=x.sz:=by simp[wt]
def yH(x):wc [x]=x.sz:=by simp[wc]
structure Inv(ts:List Tm)(cs:List Cn)(p o:Int):Prop where
 tO:∀t∈ts,t.Ok
 cO:∀c∈cs,c.Ok
 sum:((wt ts+wc cs:Nat):Int)=p
 bd:p+oJ ts.length cs.length<=30
 ov:((vt ts+vc cs:Nat):Int)=o/\o<=3
def agY(t c:Nat):0<=oJ t c:=by unfold oJ;split<;>omega
def O1{α:Type}{l:List α}(h:1<l.length):∃k u v,l=k++[u]++[v]:=by have e1:=cJ (l:=l) (by intro w;rw[w]at h;simp at h);have e2:=cJ (l:=l.dropLast) (by intro w;have:=aV List.length w;simp at this;omega);exact⟨_,_,_,by rw[e2,e1]⟩
def afH{α:Type}{l:List α}(h:0<l.length):∃k u,l=k++[u]:=by have e1:=cJ (l:=l) (by intro w;rw[w]at h;simp at h);exact⟨_,_,e1.symm⟩
def Gs{t:Tm}(h:t.Ok)(n:t.sz<=200):t.tx.length<=10000:=by have:=Tm.len h;omega
def M6{t:Cn}(h:t.Ok)(n:t.sz<=200):t.tx.length<=10000:=by have:=Cn.len h;omega
abbrev jJ(ts:List Tm)(cs:List Cn)(p o:Int):lD:=lJ (ts.map tri) (cs.map j7) p o
def Yt(l u v):(l++[u]++[v]).map tri=(l.map tri++[tri u])++[tri v]:=by simp
def Nf(l u):(l++[u]).map tri=l.map tri++[tri u]:=by simp
def afp(l u v):(l++[u]++[v]).map j7=(l.map j7++[j7 u])++[j7 v]:=by simp
def Jq(l u):(l++[u]).map j7=l.map j7++[j7 u]:=by simp
def rh(c h k:Int)(s:Option Z):lr:=[some<|.loc 0,some<|.d<|.int c,some<|.d<|.int h,some<|.loc 1,some<|.loc 2,some<|.d<|.int k,s]
def O4{p o c h k:Int}:vw (lJ ts cs p o) (rh c h k none)=[.no,.sh<|.int c,.sh<|.int h,.sh<|.lst ts,.sh<|.lst cs,.sh<|.int k,.no]:=by
 unfold vw rh;simp only[aR,fM];have e1:zT (lJ ts cs p o) (some<|.loc 1)=.sh (.lst ts):=by show(match rN (ts.map Z.d)with|some ds=>Sl.sh (.lst ds)|none=>.no)=_;rw[Hy]
 have e2:zT (lJ ts cs p o) (some<|.loc 2)=.sh (.lst cs):=by show(match rN (cs.map Z.d)with|some ds=>Sl.sh (.lst ds)|none=>.no)=_;rw[Hy]
 rw[e1,e2];rfl
def R5{k:Nat}(hk:k<16):(mQ (.int k) (.tup [.int 6,.int 7])=.ok (.bl<|decide<|k=6\/k=7))/\(mQ (.int k) (.tup [.int 8,.int 9])=.ok (.bl<|decide<|k=8\/k=9))/\(mQ (.int k) (.tup [.int 10,.int 11])=.ok (.bl<|decide<|k=10\/k=11))/\(mQ (.int k) (.tup [.int 13,.int 14])=.ok (.bl<|decide<|k=13\/k=14)):=by have:k=0\/k=1\/k=2\/k=3\/k=4\/k=5\/k=6\/k=7\/k=8\/k=9\/k=10\/k=11\/k=12\/k=13\/k=14\/k=15:=(by decide+kernel:∀k<16,k=0\/k=1\/k=2\/k=3\/k=4\/k=5\/k=6\/k=7\/k=8\/k=9\/k=10\/k=11\/k=12\/k=13\/k=14\/k=15) k hk;rcases this with rfl|rfl|rfl|rfl|rfl|rfl|rfl|rfl|rfl|rfl|rfl|rfl|rfl|rfl|rfl|rfl<;>exact⟨rfl,rfl,rfl,rfl⟩
section
variable{ts cs:List D}{p o c h:Int}{k:Nat}(hk:k<16)
include hk
theorem JZ:pQ (xY (P2.b1 tB<|d2 mQ (dV 5)<|dA lB<|jy (dC<|.int 6)<|jy (dC<|.int 7) jE)<|P2.b1 tB<|d2 oV (dA lY<|jy (dV 3) jE)<|dC<|.int 1) (rh c h k none) (lJ ts cs p o)=.ok (decide<|(k=6\/k=7)/\1<ts.length) (lJ ts cs p o):=by
 obtain⟨i1,i2,i3,i4⟩:=R5 hk;refine Ca ?_;rw[O4];by_cases z:k=6\/k=7
 ·iterate 4 (walk_at "d";try simp only[i1,z,jx,bZ,gQ])
  congr 1
  apply decide_eq_decide.mpr;omega
 ·iterate 4 (walk_at "d";try simp only[i1,z,ju,bW])
theorem Ux:pQ (xY (P2.b1 tB<|d2 mQ (dV 5)<|dA lB<|jy (dC<|.int 10)<|jy (dC<|.int 11) jE)<|P2.b1 tB<|d2 oV (dA lY<|jy (dV 3) jE)<|dC<|.int 1) (rh c h k none) (lJ ts cs p o)=.ok (decide<|(k=10\/k=11)/\1<ts.length) (lJ ts cs p o):=by
 obtain⟨i1,i2,i3,i4⟩:=R5 hk;refine Ca ?_;rw[O4];by_cases z:k=10\/k=11
 ·iterate 4 (walk_at "d";try simp only[i3,z,jx,bZ,gQ])
  congr 1
  apply decide_eq_decide.mpr;omega
 ·iterate 4 (walk_at "d";try simp only[i3,z,ju,bW])
theorem ah0:pQ (xY (P2.b1 tB<|d2 mQ (dV 5)<|dA lB<|jy (dC<|.int 13)<|jy (dC<|.int 14) jE)<|P2.b1 tB<|d2 oV (dA lY<|jy (dV 4) jE)<|dC<|.int 1) (rh c h k none) (lJ ts cs p o)=.ok (decide<|(k=13\/k=14)/\1<cs.length) (lJ ts cs p o):=by
 obtain⟨i1,i2,i3,i4⟩:=R5 hk;refine Ca ?_;rw[O4];by_cases z:k=13\/k=14
 ·iterate 4 (walk_at "d";try simp only[i4,z,jx,bZ,gQ])
  congr 1
  apply decide_eq_decide.mpr;omega
 ·iterate 4 (walk_at "d";try simp only[i4,z,ju,bW])
theorem abP:pQ (xY (P2.b1 tB<|d2 mV (dV 5)<|dC<|.int 12)<|P2.b1 tB<|d2 oV (dA lY<|jy (dV 4) jE)<|dC<|.int 0) (rh c h k none) (lJ ts cs p o)=.ok (decide<|k=12/\0<cs.length) (lJ ts cs p o):=by
 refine Ca ?_;rw[O4];by_cases z:k=12
 ·have z':(k:Int)=12:=by omega
  iterate 4 (walk_at "d";try simp only[z,z',jx,bZ,gQ,il])
  congr 1
  apply decide_eq_decide.mpr;omega
 ·have z':¬(k:Int)=12:=by omega
  iterate 4 (walk_at "d";try simp only[z,z',ju,bW])
theorem OJ:(BW (zB<|P2.b1 tB<|d2 mQ (dV 5)<|dA lB<|jy (dC<|.int 8)<|jy (dC<|.int 9) jE)<|BW (pQ<|P2.b1 tB<|d2 oV (dA lY<|jy (dV 3) jE)<|dC<|.int 0)<|qK tB<|z2 v5 (pX (zV 0)<|dC<|.str "over")<|zD<|dC<|.int 3) (rh c h k none) (lJ ts cs p o)=.ok (decide<|(k=8\/k=9)/\0<ts.length/\o<3) (lJ ts cs p o):=by
 obtain⟨i1,i2,i3,i4⟩:=R5 hk;have b1:(P2.b1 tB<|d2 mQ (dV 5)<|dA lB<|jy (dC<|.int 8)<|jy (dC<|.int 9) jE) (nQ<|rh c h k none)=.ok (decide<|k=8\/k=9):=by show(P2.b1 tB<|d2 mQ (dV 5)<|dA lB<|jy (dC<|.int 8)<|jy (dC<|.int 9) jE) [.no,.sh<|.int c,.sh<|.int h,.no,.no,.sh<|.int k,.no]=_;iterate 4 (walk_at "d";try simp only[i2])
 have b2:(pQ<|P2.b1 tB<|d2 oV (dA lY<|jy (dV 3) jE)<|dC<|.int 0) (rh c h k none) (lJ ts cs p o)=.ok (decide<|0<ts.length) (lJ ts cs p o):=by
  refine Ca ?_;rw[O4];iterate 4 (walk_at "d";try simp only[gQ])
  congr 1
  apply decide_eq_decide.mpr;omega
 have b3:(qK tB<|z2 v5 (pX (zV 0)<|dC<|.str "over")<|zD<|dC<|.int 3) (rh c h k none) (lJ ts cs p o)=.ok (decide<|o<3) (lJ ts cs p o):=aiK (Hk (aei rfl) (qm rfl) rfl) rfl;by_cases z1:k=8\/k=9
 ·rw[aP z1]at b1;by_cases z2:0<ts.length
  ·rw[aP z2]at b2;rw[ab9 (z_B b1)<|ab9 b2 b3];simp[z1,z2]
  ·rw[aC z2]at b2;rw[ab9 (z_B b1)<|aiJ b2];simp[z2]
 ·rw[aC z1]at b1;rw[aiJ<|z_B b1];simp[z1]
end
structure Vb(Kv Ku pG Kr uF Es:jO):Prop where
 su:∀(x y:Tm) (s:Bool),x.tx.length<=10000->y.tx.length<=10000->Kv [tri x,tri y,.str<|sg s]=.ok (tri<|.bin s x y)
 ov:∀(x:Tm) (c:Int),x.Ok->x.tx.length<=10000->∃t:Tm,t.Ok/\t.sz=x.sz+1/\sO t=sO x+1/\Ku [tri x,.int c]=.ok (tri t)
 co:∀(x y:Tm) (s:Bool),x.tx.length<=10000->y.tx.length<=10000->pG [tri x,tri y,.str<|cg s]=.ok (j7<|.cmp s x y)
 de:∀(x:Cn),x.tx.length<=10000->Kr [j7 x]=.ok (j7<|.not x)
 jo:∀(x y:Cn) (s:Bool),x.tx.length<=10000->y.tx.length<=10000->uF [j7 x,j7 y,.str<|cw s]=.ok (j7<|.two s x y)
 le:∀h c:Int,∃t:Tm,t.Ok/\t.sz=1/\Es [.int h,.int c]=.ok (tri t)
section
variable{Kv Ku pG Kr uF Es:jO}
def anp(F:Vb Kv Ku pG Kr uF Es){p o:Int}(I:Inv ts cs p o)(hr:p+1+oJ ts.length cs.length<=30)(hr2:p+1+oJ (ts.length+1) cs.length<=30)(c h:Int)(b):
    ∃ts' cs' o',Inv ts' cs' (p+1) o'/\kE (Ro a Kv Ku pG Kr uF Es b (lg 7 [.loc 0,.d<|.int c,.d<|.int h])<|jJ ts cs p o)=.ok (.d .non) (jJ ts' cs' (p+1) o'):=by
 have hS:=I.sum;have r0:=agY ts.length cs.length;obtain⟨k,hk⟩:=cA (show 0<=c%16 by omega);have tG:k<16:=by omega
 have lts:ts.length<=30:=by
  have:∀l:List Tm,l.length<=wt l:=λl=>by
   induction l with
   |nil=>exact aB _
   |cons t l ih=>have:=t.pos;show l.length+1<=t.sz+wt l;omega
  have:=this ts;omega
 have lcs:cs.length<=30:=by
  have:∀l:List Cn,l.length<=wc l:=λl=>by
   induction l with
   |nil=>exact aB _
   |cons t l ih=>have:1<=t.sz:=by cases t<;>(simp only[Cn.sz];omega)
                 show l.length+1<=t.sz+wc l;omega
  have:=this cs;omega
 have parts:∀(ρ:lr) (ts' cs':List D) (o':Int),ρ[0]?=some (some<|.loc 0)->BR (zV 0) (dC<|.str "parts") (z2 jT (pX (zV 0)<|dC<|.str "parts")<|zD<|dC<|.int 1) ρ (lJ ts' cs' p o')=.nx ρ (lJ ts' cs' (p+1) o'):=λρ ts' cs' o' e=>aqu e (Hk (aej e) (qm rfl) rfl)
 have whole:∀(g:lF) (h1:lr) (ts':List Tm) (cs':List Cn) (o':Int),h1[0]?=some (some<|.loc 0)->g (rh c h k none) (jJ ts cs p o)=.nx h1 (jJ ts' cs' p o')->kE ((j5 (mR 3<|pX (zV 0)<|dC<|.str "terms")<|j5 (mR 4<|pX (zV 0)<|dC<|.str "conds")<|j5 (mR 5<|zD<|d2 o6 (dV 1)<|dC<|.int 16)<|j5 g<|BR (zV 0) (dC<|.str "parts")<|z2 jT (pX (zV 0)<|dC<|.str "parts")<|zD<|dC<|.int 1) (lg 7 [.loc 0,.d<|.int c,.d<|.int h]) (jJ ts cs p o))=.ok (.d .non) (jJ ts' cs' (p+1) o'):=by
  intro g h1 ts' cs' o' e0 e1;have m:(d2 o6 (dV 1)<|dC<|.int 16) (nQ ([some<|.loc 0,some<|.d<|.int c,some<|.d<|.int h,some<|.loc 1,some<|.loc 2,none,none]:lr))=.ok (.int k):=by show(d2 o6 (dV 1)<|dC<|.int 16) [.no,.sh<|.int c,.sh<|.int h,.no,.no,.no,.no]=_;iterate 3 (walk_at "d";try simp only[hk])
  rw[qC<|wj (Xc rfl)<|by simp[lg],qC<|wj (Xb rfl)<|by simp[lg]];show kE (j5 (mR 5<|zD<|d2 o6 (dV 1)<|dC<|.int 16) _ ([some<|.loc 0,some<|.d<|.int c,some<|.d<|.int h,some<|.loc 1,some<|.loc 2,none,none]:lr)<|jJ ts cs p o)=_;rw[qC<|wj (qm m)<|by simp];show kE (j5 g _ (rh c h k none)<|jJ ts cs p o)=_;rw[qC e1,parts _ _ _ _ e0];rfl
 unfold Ro;by_cases B1:(k=6\/k=7)/\1<ts.length
 ·obtain⟨l,u,v,e⟩:=O1 B1.2;have t1:=JZ (ts:=ts.map tri) (cs:=cs.map j7) (p:=p) (o:=o) (c:=c) (h:=h) tG;rw[az,aP B1]at t1;subst e;rw[yJ,yJ,yK,yK]at hS;have su:=F.su u v (decide<|k=6) (Gs (I.tO u<|by simp)<|by omega) (Gs (I.tO v<|by simp)<|by omega);refine⟨l++[.bin (decide (k=6)) u v],cs,o,⟨?_,I.cO,?_,?_,by have q:=I.ov;simp only[J4,Ka,sO]at q⊢;omega⟩,?_⟩
  ·intro t ht;simp only[cL,bR]at ht;rcases ht with ht|rfl;·exact I.tO t (by simp[ht])
   ·exact⟨I.tO u<|by simp,I.tO v<|by simp⟩
  ·rw[yJ,yK];show((wt l+(u.sz+v.sz+1)+wc cs:Nat):Int)=_;omega
  ·simp only[aq,ak,bu]at hr hr2⊢;unfold oJ at*;split at hr2<;>split<;>omega
  ·refine whole _ (rh c h k<|some<|.d<|tri v) _ _ _ rfl ?_;rw[zY t1];show _=pq.nx _ (lJ ((l++[Tm.bin (decide<|k=6) u v]).map tri) (cs.map j7) p o);rw[Yt,Nf];rw[qC<|wj (GR rfl)<|by simp[rh]];refine Ql rfl (z6 (ds:=[tri u,tri v,.str (sg (decide (k=6)))]) (pR (GR rfl) (pR (qm rfl) (pR (qm ?_) wY))) su) (by simp at lts⊢;omega);rcases B1.1 with rfl|rfl<;>rfl
 by_cases B2:(k=8\/k=9)/\0<ts.length/\o<3
 ·obtain⟨l,u,e⟩:=afH B2.2.1;have t1:=JZ (ts:=ts.map tri) (cs:=cs.map j7) (p:=p) (o:=o) (c:=c) (h:=h) tG;have t2:=OJ (ts:=ts.map tri) (cs:=cs.map j7) (p:=p) (o:=o) (c:=c) (h:=h) tG;rw[az,aC B1]at t1;rw[az,aP B2]at t2;subst e;rw[yJ,yK]at hS;have uO:=I.tO u (by simp);obtain⟨t,tO,tz,tv,te⟩:=F.ov u (c/16) uO (Gs uO<|by omega);refine⟨l++[t],cs,o+1,⟨?_,I.cO,?_,?_,by have q:=I.ov;have b:=B2;simp only[J4,Ka,tv]at q⊢;omega⟩,?_⟩
  ·intro t' ht;simp only[cL,bR]at ht;rcases ht with ht|rfl;·exact I.tO t' (by simp[ht])
   ·exact tO
  ·rw[yJ,yK,tz];omega
  ·simp only[aq,ak,bu]at hr hr2⊢;exact hr
  ·refine whole _ (rh c h k none) _ _ _ rfl ?_;rw[sU t1,zY t2];show _=pq.nx _ (lJ ((l++[t]).map tri) (cs.map j7) p<|o+1);rw[Nf,Nf];have fd:(d2 pK (dV 1)<|dC<|.int 16) (nQ<|rh c h k none)=.ok (.int<|c/16):=by
    show(d2 pK (dV 1)<|dC<|.int 16) [.no,.sh<|.int c,.sh<|.int h,.no,.no,.sh<|.int k,.no]=_;walk_at "d"
   rw[qC<|Ql rfl (z6 (ds:=[tri u,.int<|c/16]) (pR (GR rfl)<|pR (qm fd) wY) te)<|by simp at lts⊢;omega];exact aqt rfl (Hk (aei rfl) (qm rfl) rfl)
 by_cases B3:(k=10\/k=11)/\1<ts.length
 ·obtain⟨l,u,v,e⟩:=O1 B3.2;have t1:=JZ (ts:=ts.map tri) (cs:=cs.map j7) (p:=p) (o:=o) (c:=c) (h:=h) tG;have t2:=OJ (ts:=ts.map tri) (cs:=cs.map j7) (p:=p) (o:=o) (c:=c) (h:=h) tG;have t3:=Ux (ts:=ts.map tri) (cs:=cs.map j7) (p:=p) (o:=o) (c:=c) (h:=h) tG;rw[az,aC B1]at t1;rw[az,aC B2]at t2;rw[az,aP B3]at t3;subst e;rw[yJ,yJ,yK,yK]at hS;have co:=F.co u v (decide<|k=10) (Gs (I.tO u<|by simp)<|by omega) (Gs (I.tO v<|by simp)<|by omega);refine⟨l,cs++[.cmp (decide (k=10)) u v],o,⟨λt ht=>I.tO t (by simp[ht]),?_,?_,?_,by have q:=I.ov;simp only[J4,Ka,O2,J3,qx]at q⊢;omega⟩,?_⟩
  ·intro t ht;simp only[cL,bR]at ht;rcases ht with ht|rfl;·exact I.cO t ht
   ·exact⟨I.tO u<|by simp,I.tO v<|by simp⟩
  ·rw[zX,yH];show((wt l+(wc cs+(u.sz+v.sz+1)):Nat):Int)=_;omega
  ·simp only[aq,ak,bu]at hr hr2⊢;unfold oJ at*;split at hr<;>split<;>omega
  ·refine whole _ (rh c h k<|some<|.d<|tri v) _ _ _ rfl ?_;rw[sU t1,sU t2,zY t3];show _=pq.nx _ (lJ (l.map tri) ((cs++[Cn.cmp (decide<|k=10) u v]).map j7) p o);rw[Yt,Jq];rw[qC<|wj (GR rfl)<|by simp[rh]];refine Hw rfl (z6 (ds:=[tri u,tri v,.str (cg (decide (k=10)))]) (pR (GR rfl) (pR (qm rfl) (pR (qm ?_) wY))) co) (by simp;omega);rcases B3.1 with rfl|rfl<;>rfl
 by_cases B4:k=12/\0<cs.length
 ·obtain⟨l,u,e⟩:=afH B4.2;have t1:=JZ (ts:=ts.map tri) (cs:=cs.map j7) (p:=p) (o:=o) (c:=c) (h:=h) tG;have t2:=OJ (ts:=ts.map tri) (cs:=cs.map j7) (p:=p) (o:=o) (c:=c) (h:=h) tG;have t3:=Ux (ts:=ts.map tri) (cs:=cs.map j7) (p:=p) (o:=o) (c:=c) (h:=h) tG;have t4:=abP (ts:=ts.map tri) (cs:=cs.map j7) (p:=p) (o:=o) (c:=c) (h:=h) tG;rw[az,aC B1]at t1;rw[az,aC B2]at t2;rw[az,aC B3]at t3;rw[az,aP B4]at t4;subst e;rw[zX,yH]at hS;have de:=F.de u (M6 (I.cO u<|by simp)<|by omega);refine⟨ts,l++[.not u],o,⟨I.tO,?_,?_,?_,by have q:=I.ov;simp only[O2,J3,qx]at q⊢;omega⟩,?_⟩
  ·intro t ht;simp only[cL,bR]at ht;rcases ht with ht|rfl;·exact I.cO t (by simp[ht])
   ·exact I.cO u (by simp)
  ·rw[zX,yH];show((wt ts+(wc l+(u.sz+1)):Nat):Int)=_;omega
  ·simp only[aq,ak,bu]at hr hr2⊢;exact hr
  ·refine whole _ (rh c h k none) _ _ _ rfl ?_;rw[sU t1,sU t2,sU t3,zY t4];show _=pq.nx _ (lJ (ts.map tri) ((l++[Cn.not u]).map j7) p o);rw[Jq,Jq];exact Hw rfl (z6 (ds:=[j7 u]) (pR (NK rfl) wY) de) (by simp at lcs⊢;omega)
 by_cases B5:(k=13\/k=14)/\1<cs.length
 ·obtain⟨l,u,v,e⟩:=O1 B5.2;have t1:=JZ (ts:=ts.map tri) (cs:=cs.map j7) (p:=p) (o:=o) (c:=c) (h:=h) tG;have t2:=OJ (ts:=ts.map tri) (cs:=cs.map j7) (p:=p) (o:=o) (c:=c) (h:=h) tG;have t3:=Ux (ts:=ts.map tri) (cs:=cs.map j7) (p:=p) (o:=o) (c:=c) (h:=h) tG;have t4:=abP (ts:=ts.map tri) (cs:=cs.map j7) (p:=p) (o:=o) (c:=c) (h:=h) tG;have t5:=ah0 (ts:=ts.map tri) (cs:=cs.map j7) (p:=p) (o:=o) (c:=c) (h:=h) tG;rw[az,aC B1]at t1;rw[az,aC B2]at t2;rw[az,aC B3]at t3;rw[az,aC B4]at t4;rw[az,aP B5]at t5;subst e;rw[zX,zX,yH,yH]at hS;have jo:=F.jo u v (decide<|k=13) (M6 (I.cO u<|by simp)<|by omega) (M6 (I.cO v<|by simp)<|by omega);refine⟨ts,l++[.two (decide (k=13)) u v],o,⟨I.tO,?_,?_,?_,by have q:=I.ov;simp only[O2,J3,qx]at q⊢;omega⟩,?_⟩
  ·intro t ht;simp only[cL,bR]at ht;rcases ht with ht|rfl;·exact I.cO t (by simp[ht])
   ·exact⟨I.cO u<|by simp,I.cO v<|by simp⟩
  ·rw[zX,yH];show((wt ts+(wc l+(u.sz+v.sz+1)):Nat):Int)=_;omega
  ·simp only[aq,ak,bu]at hr hr2⊢;unfold oJ at*;split at hr<;>split<;>omega
  ·refine whole _ (rh c h k<|some<|.d<|j7 v) _ _ _ rfl ?_;rw[sU t1,sU t2,sU t3,sU t4,zY t5];show _=pq.nx _ (lJ (ts.map tri) ((l++[Cn.two (decide<|k=13) u v]).map j7) p o);rw[afp,Jq];rw[qC<|wj (NK rfl)<|by simp[rh]];refine Hw rfl (z6 (ds:=[j7 u,j7 v,.str (cw (decide (k=13)))]) (pR (NK rfl) (pR (qm rfl) (pR (qm ?_) wY))) jo) (by simp at lcs⊢;omega);rcases B5.1 with rfl|rfl<;>rfl
 ·have t1:=JZ (ts:=ts.map tri) (cs:=cs.map j7) (p:=p) (o:=o) (c:=c) (h:=h) tG;have t2:=OJ (ts:=ts.map tri) (cs:=cs.map j7) (p:=p) (o:=o) (c:=c) (h:=h) tG;have t3:=Ux (ts:=ts.map tri) (cs:=cs.map j7) (p:=p) (o:=o) (c:=c) (h:=h) tG;have t4:=abP (ts:=ts.map tri) (cs:=cs.map j7) (p:=p) (o:=o) (c:=c) (h:=h) tG;have t5:=ah0 (ts:=ts.map tri) (cs:=cs.map j7) (p:=p) (o:=o) (c:=c) (h:=h) tG;rw[az,aC B1]at t1;rw[az,aC B2]at t2;rw[az,aC B3]at t3;rw[az,aC B4]at t4;rw[az,aC B5]at t5;obtain⟨t,tO,tz,te⟩:=F.le h (c/16);refine⟨ts++[t],cs,o,⟨?_,I.cO,?_,?_,by have q:=I.ov;simp only[J4,Ka,apt tz]at q⊢;omega⟩,?_⟩
  ·intro t' ht;simp only[cL,bR]at ht;rcases ht with ht|rfl;·exact I.tO t' ht
   ·exact tO
  ·rw[yJ,yK,tz];omega
  ·simp only[aq,ak,bu];exact hr2
  ·refine whole _ (rh c h k none) _ _ _ rfl ?_;rw[sU t1,sU t2,sU t3,sU t4,sU t5];show _=pq.nx _ (lJ ((ts++[t]).map tri) (cs.map j7) p o);rw[Nf];have fd:(dA Es<|jy (dV 2)<|jy (d2 pK (dV 1)<|dC<|.int 16) jE) (nQ<|rh c h k none)=.ok (tri t):=by
    show(dA Es<|jy (dV 2)<|jy (d2 pK (dV 1)<|dC<|.int 16) jE) [.no,.sh<|.int c,.sh<|.int h,.no,.no,.sh<|.int k,.no]=_;iterate 3 (walk_at "d";try simp only[te])
   exact Ql rfl (qm fd) (by simp;omega)
def re(w:Str)(s4 s5:Option Z):lr:=[some<|.loc 0,some<|.d<|.str w,some<|.loc 1,some<|.loc 2,s4,s5]
def O3{p o:Int}{w}:∃u v,vw (lJ ts cs p o) (re w s4 s5)=[.no,.sh<|.str w,.sh<|.lst ts,.sh<|.lst cs,u,v]:=by
 refine⟨zT (lJ ts cs p o) s4,zT (lJ ts cs p o) s5,?_⟩;unfold vw re;simp only[aR,fM];have e1:zT (lJ ts cs p o) (some<|.loc 1)=.sh (.lst ts):=by show(match rN (ts.map Z.d)with|some ds=>Sl.sh (.lst ds)|none=>.no)=_;rw[Hy]
 have e2:zT (lJ ts cs p o) (some<|.loc 2)=.sh (.lst cs):=by show(match rN (cs.map Z.d)with|some ds=>Sl.sh (.lst ds)|none=>.no)=_;rw[Hy]
 rw[e1,e2];rfl
structure PX(ts:List Tm)(cs:List Cn)(n v:Nat):Prop where
 tO:∀t∈ts,t.Ok
 cO:∀c∈cs,c.Ok
 sum:wt ts+wc cs+ts.length+cs.length=n
 ov:vt ts+vc cs=v
theorem afa(hc:∀(x y:Tm) s,x.tx.length<=10000->y.tx.length<=10000->pG [tri x,tri y,.str<|cg s]=.ok (j7<|.cmp s x y)){w}{p o:Int}(hn:n<=150):∀f m (ts:List Tm) cs s4 s5,ts.length=2*m->m<f->PX ts cs n v0->
 ∃cs' yC,PX [] cs' n v0/\cs'.length=cs.length+m/\uB (pQ<|P2.b1 tB<|d2 oV (dA lY<|jy (dV 2) jE)<|dC<|.int 0) (HD a pG uF) f (re w s4 s5) (jJ ts cs p o)=.nx (re w s4 yC) (jJ [] cs' p o)
 |0,m,ts,cs,s4,s5,h1,h2,I=>by omega
 |f+1,m,ts,cs,s4,s5,h1,h2,I=>by
  have qJ:(pQ<|P2.b1 tB<|d2 oV (dA lY<|jy (dV 2) jE)<|dC<|.int 0) (re w s4 s5) (jJ ts cs p o)=.ok (decide<|0<ts.length) (jJ ts cs p o):=by
   refine Ca ?_;obtain⟨u,v,e⟩:=O3 (ts:=ts.map tri) (cs:=cs.map j7) (p:=p) (o:=o) (w:=w) (s4:=s4) (s5:=s5);rw[e];iterate 4 (walk_at "d";try simp only[gQ])
   rw[az]
   congr 1
   apply decide_eq_decide.mpr;omega
  show∃cs' yC,_/\_/\toZ ((pQ<|P2.b1 tB<|d2 oV (dA lY<|jy (dV 2) jE)<|dC<|.int 0) (re w s4 s5) (jJ ts cs p o)) _=_;rw[qJ];by_cases z:0<ts.length
  ·obtain⟨l,u,v,e⟩:=O1 (show 1<ts.length by omega);subst e;have hS:=I.sum;rw[yJ,yJ,yK,yK]at hS;have uO:=I.tO u (by simp);have vO:=I.tO v (by simp);have co:=hc u v true (Gs uO<|by omega) (Gs vO<|by omega);simp only[aq,ak,bu]at h1 hS;have lw:∀l:List Cn,l.length<=wc l:=λl=>by
    induction l with
    |nil=>exact aB _
    |cons t l ih=>have:1<=t.sz:=by cases t<;>(simp only[Cn.sz];omega)
                  show l.length+1<=t.sz+wc l;omega
   have lw:=lw cs;obtain⟨cs',yC,I',l',e'⟩:=afa (v0:=v0) hc hn f (m - 1) l (cs++[.cmp true u v]) s4 (some (.d (tri v))) (by omega) (by omega) ⟨λt ht=>I.tO t (by simp[ht]),λt ht=>by
    simp only[cL,bR]at ht;rcases ht with ht|rfl;· exact I.cO t ht
    · exact⟨uO,vO⟩,by
    rw[zX,yH,aq,bF];show wt l+(wc cs+(u.sz+v.sz+1))+l.length+(cs.length+1)=n;omega,by have q:=I.ov;simp only[J4,Ka,O2,J3,qx]at q⊢;omega⟩
   refine⟨cs',yC,I',by rw[l',aq,bF];omega,?_⟩;have bd:HD a pG uF (re w s4 s5) (jJ (l++[u]++[v]) cs p o)=.nx (re w s4<|some<|.d<|tri v) (jJ l (cs++[.cmp true u v]) p o):=by unfold HD;show _=pq.nx _ (lJ (l.map tri) ((cs++[Cn.cmp true u v]).map j7) p o);show j5 _ _ _ (lJ ((l++[u]++[v]).map tri) (cs.map j7) p o)=_;rw[Yt,Jq];rw[qC<|wj (GR rfl)<|by simp[re]];exact Hw rfl (z6 (ds:=[tri u,tri v,.str<|cg true]) (pR (GR rfl)<|pR (qm rfl)<|pR (qm rfl) wY) co) (by simp;omega)
   show(if decide (0<(l++[u]++[v]).length)=true then vp (HD a pG uF (re w s4 s5)<|jJ (l++[u]++[v]) cs p o) _ else _)=_;rw[au<|aP z,bd];exact e'
  ·have e:ts=[]:=dZ (by omega);subst e;exact⟨cs,s5,I,by simp at h1;omega,rfl⟩
theorem afb(hj:∀(x y:Cn) s,x.tx.length<=10000->y.tx.length<=10000->uF [j7 x,j7 y,.str<|cw s]=.ok (j7<|.two s x y)){w}{p o:Int}(hn:n<=150):∀f (cs:List Cn) s4 s5,0<cs.length->cs.length<f->PX [] cs n v0->
 ∃c yC,(c.Ok/\qx c=v0)/\c.sz+1=n/\uB (pQ<|P2.b1 tB<|d2 oV (dA lY<|jy (dV 3) jE)<|dC<|.int 1) (HH a pG uF) f (re (cw w) s4 s5) (jJ [] cs p o)=.nx (re (cw w) s4 yC) (jJ [] [c] p o)
 |0,cs,s4,s5,h1,h2,I=>by omega
 |f+1,cs,s4,s5,h1,h2,I=>by
  have qJ:(pQ<|P2.b1 tB<|d2 oV (dA lY<|jy (dV 3) jE)<|dC<|.int 1) (re (cw w) s4 s5) (jJ [] cs p o)=.ok (decide<|1<cs.length) (jJ [] cs p o):=by
   refine Ca ?_;obtain⟨u,v,e⟩:=O3 (ts:=[].map tri) (cs:=cs.map j7) (p:=p) (o:=o) (w:=cw w) (s4:=s4) (s5:=s5);rw[e];iterate 4 (walk_at "d";try simp only[gQ])
   rw[az]
   congr 1
   apply decide_eq_decide.mpr;omega
  show∃c yC,_/\_/\toZ ((pQ<|P2.b1 tB<|d2 oV (dA lY<|jy (dV 3) jE)<|dC<|.int 1) (re (cw w) s4 s5) (jJ [] cs p o)) _=_;rw[qJ];by_cases z:1<cs.length
  ·obtain⟨l,u,v,e⟩:=O1 z;subst e;have hS:=I.sum;rw[zX,zX,yH,yH]at hS;have uO:=I.cO u (by simp);have vO:=I.cO v (by simp);have jo:=hj u v w (M6 uO<|by omega) (M6 vO<|by omega);simp only[aq,ak,bu,show wt []=0 from rfl]at h2 hS;obtain⟨c,yC,cO,cz,e'⟩:=afb (v0:=v0) hj hn f (l++[.two w u v]) s4 (some (.d (j7 v))) (by simp) (by simp;omega) ⟨nofun,λt ht=>by
    simp only[cL,bR]at ht;rcases ht with ht|rfl;· exact I.cO t (by simp[ht])
    · exact⟨uO,vO⟩,by
    rw[zX,yH,aq,bF];show 0+(wc l+(u.sz+v.sz+1))+0+(l.length+1)=n;omega,by have q:=I.ov;simp only[O2,J3,qx]at q⊢;omega⟩
   refine⟨c,yC,cO,cz,?_⟩;have bd:HH a pG uF (re (cw w) s4 s5) (jJ [] (l++[u]++[v]) p o)=.nx (re (cw w) s4<|some<|.d<|j7 v) (jJ [] (l++[.two w u v]) p o):=by unfold HH;show _=pq.nx _ (lJ ([].map tri) ((l++[Cn.two w u v]).map j7) p o);show j5 _ _ _ (lJ ([].map tri) ((l++[u]++[v]).map j7) p o)=_;rw[afp,Jq];rw[qC<|wj (NK rfl)<|by simp[re]];exact Hw rfl (z6 (ds:=[j7 u,j7 v,.str<|cw w]) (pR (NK rfl)<|pR (qm rfl)<|pR (qm rfl) wY) jo) (by simp;omega)
   show(if decide (1<(l++[u]++[v]).length)=true then vp (HH a pG uF (re (cw w) s4 s5)<|jJ [] (l++[u]++[v]) p o) _ else _)=_;rw[au<|aP z,bd];exact e'
  ·obtain⟨c,e⟩:=List.length_eq_one_iff.mp (show cs.length=1 by omega);subst e;have hS:=I.sum;rw[yH]at hS;exact⟨c,s5,⟨I.cO c (by simp),by have q:=I.ov;rw[J3]at q;simpa [vt]using q⟩,by simp[wt]at hS;omega,rfl⟩
def Tm.qG(t:Tm):P2.qG t.d=true:=by
 induction t with
 |bin s x y h1 h2=>simp[Tm.d,P2.qG,xC,h1,h2]
 |times p q x h=>simp[Tm.d,P2.qG,xC,h]
 |abs x h=>simp[Tm.d,P2.qG,xC,h]
 |_=>simp[Tm.d,P2.qG,xC]
def Cn.qG(t:Cn):P2.qG t.d=true:=by
 induction t with
 |cmp s x y=>simp[Cn.d,P2.qG,xC,Tm.qG]
 |not x h=>simp[Cn.d,P2.qG,xC,h]
 |two s x y h1 h2=>simp[Cn.d,P2.qG,xC,h1,h2]
def auF(c):P2.qG (j7 c)=true:=by simp[j7,P2.qG,xC,Cn.qG]
def amX(F:Vb Kv Ku pG Kr uF Es){p o:Int}(I:Inv ts cs p o)(w b):
    ∃c S',(c.Ok/\qx c<=3)/\c.sz<=30/\kE (Rc a pG uF b (lg 6 [.loc 0,.d<|.str<|cw w])<|jJ ts cs p o)=.ok (.d<|j7 c) S':=by
 have hS:=I.sum;have hB:=I.bd;have r0:=agY ts.length cs.length;have lw:∀l:List Cn,l.length<=wc l:=λl=>by
  induction l with
  |nil=>exact aB _
  |cons t l ih=>have:1<=t.sz:=by cases t<;>(simp only[Cn.sz];omega)
                show l.length+1<=t.sz+wc l;omega
 have lv:∀l:List Tm,l.length<=wt l:=λl=>by
  induction l with
  |nil=>exact aB _
  |cons t l ih=>have:=t.pos;show l.length+1<=t.sz+wt l;omega
 have l1:=lw cs;have l2:=lv ts;unfold Rc;rw[qC<|wj (Xc rfl)<|by simp[lg],qC<|wj (Xb rfl)<|by simp[lg],qC<|wj (qm rfl)<|by simp[lg]];show∃c S',_/\_/\kE (j5 _ _ (re (cw w) (some<|.d<|tri .here) none)<|jJ ts cs p o)=_;have app:∀(us:List Tm),us.length<=100->rF 2 (zD<|dV 4) (re (cw w) (some<|.d<|tri .here) none) (jJ us cs p o)=.nx (re (cw w) (some<|.d<|tri .here) none) (jJ (us++[.here]) cs p o):=λus hu=>by show _=pq.nx _ (lJ ((us++[Tm.here]).map tri) (cs.map j7) p o);rw[Nf];exact Ql rfl (qm rfl) (by simp;omega)
 have if1:nZ (pQ<|P2.b1 tB<|d2 mV (d2 jT (dA lY<|jy (dV 2) jE)<|dA lY<|jy (dV 3) jE)<|dC<|.int 0) (rF 2<|zD<|dV 4) pP (re (cw w) (some<|.d<|tri .here) none) (jJ ts cs p o)=.nx (re (cw w) (some<|.d<|tri .here) none) (jJ (if ts.length+cs.length=0 then ts++[.here]else ts) cs p o):=by
  have qJ:(pQ<|P2.b1 tB<|d2 mV (d2 jT (dA lY<|jy (dV 2) jE)<|dA lY<|jy (dV 3) jE)<|dC<|.int 0) (re (cw w) (some<|.d<|tri .here) none) (jJ ts cs p o)=.ok (decide<|ts.length+cs.length=0) (jJ ts cs p o):=by
   refine Ca ?_;obtain⟨u,v,e⟩:=O3 (ts:=ts.map tri) (cs:=cs.map j7) (p:=p) (o:=o) (w:=cw w) (s4:=some (.d (tri .here))) (s5:=none);rw[e];iterate 4 (walk_at "d")
   rw[az,az]
   congr 1
   apply decide_eq_decide.mpr;omega
  by_cases z:ts.length+cs.length=0
  ·rw[aP z]at qJ;rw[zY qJ,au z];exact app ts (by omega)
  ·rw[aC z]at qJ;rw[sU qJ,aA z];rfl
 rw[qC if1];have if2:∀us:List Tm,us.length<=100->nZ (pQ<|P2.b1 tB<|d2 mV (d2 o6 (dA lY<|jy (dV 2) jE)<|dC<|.int 2)<|dC<|.int 1) (rF 2<|zD<|dV 4) pP (re (cw w) (some<|.d<|tri .here) none) (jJ us cs p o)=.nx (re (cw w) (some<|.d<|tri .here) none) (jJ (if us.length%2=1 then us++[.here]else us) cs p o):=λus hu=>by
  have qJ:(pQ<|P2.b1 tB<|d2 mV (d2 o6 (dA lY<|jy (dV 2) jE)<|dC<|.int 2)<|dC<|.int 1) (re (cw w) (some<|.d<|tri .here) none) (jJ us cs p o)=.ok (decide<|us.length%2=1) (jJ us cs p o):=by
   refine Ca ?_;obtain⟨u,v,e⟩:=O3 (ts:=us.map tri) (cs:=cs.map j7) (p:=p) (o:=o) (w:=cw w) (s4:=some (.d (tri .here))) (s5:=none);rw[e];iterate 4 (walk_at "d")
   rw[az]
   congr 1
   apply decide_eq_decide.mpr;omega
  by_cases z:us.length%2=1
  ·rw[aP z]at qJ;rw[zY qJ,au z];exact app us (by omega)
  ·rw[aC z]at qJ;rw[sU qJ,aA z];rfl
 have fin:∀(us:List Tm) (n m v0:Nat),us.length=2*m->0<us.length+cs.length->PX us cs n v0->n<=31+30->v0<=3->∃c S',(c.Ok/\qx c<=3)/\c.sz+1=n/\kE ((j5 (uB (pQ<|P2.b1 tB<|d2 oV (dA lY<|jy (dV 2) jE)<|dC<|.int 0) (HD a pG uF) 100)<|j5 (uB (pQ<|P2.b1 tB<|d2 oV (dA lY<|jy (dV 3) jE)<|dC<|.int 1) (HH a pG uF) 100)<|o9<|zR<|d2 jR (dV 3)<|dC<|.int 0) (re (cw w) (some<|.d<|tri .here) none) (jJ us cs p o))=.ok (.d<|j7 c) S':=by intro us n m v0 h1 h2 J hn hv;obtain⟨cs',yC,I1,k1,e1⟩:=afa (a:=a) (uF:=uF) F.co (w:=cw w) (p:=p) (o:=o) (n:=n) (by omega) 100 m us cs (some (.d (tri .here))) none h1 (by have:=J.sum;omega) J;obtain⟨c,s6,cO,cz,e2⟩:=afb (a:=a) (pG:=pG) F.jo (w:=w) (p:=p) (o:=o) (n:=n) (by omega) 100 cs' (some (.d (tri .here))) yC (by omega) (by have:=I1.sum;omega) I1;refine⟨c,jJ [] [c] p o,⟨cO.1,by rw[cO.2];exact hv⟩,cz,?_⟩;rw[qC e1,qC e2];unfold o9 zR;obtain⟨u,v,e⟩:=O3 (ts:=[].map tri) (cs:=[c].map j7) (p:=p) (o:=o) (w:=cw w) (s4:=some (.d (tri .here))) (s5:=s6);rw[e];have ix:(d2 jR (dV 3)<|dC<|.int 0) [.no,.sh<|.str<|cw w,.sh<|.lst<|[].map tri,.sh<|.lst<|[c].map j7,u,v]=.ok (j7 c):=rfl;rw[ix];dsimp only;rw[au<|auF c];rfl
 by_cases z:ts.length+cs.length=0
 ·have e1:ts=[]:=dZ (by omega);have e2:cs=[]:=dZ (by omega);subst e1 e2;rw[qC<|if2 _<|by simp];obtain⟨c,S',cO,cz,e⟩:=fin [.here,.here] 4 1 0 rfl (by simp) ⟨by intro t ht;simp at ht;subst ht;trivial,nofun,rfl,rfl⟩ (by omega) (by omega);exact⟨c,S',cO,by omega,e⟩
 ·rw[aA z,qC<|if2 ts<|by omega];by_cases y:ts.length%2=1
  ·rw[au y];obtain⟨c,S',cO,cz,e⟩:=fin (ts++[.here]) (wt ts+wc cs+ts.length+cs.length+2) ((ts.length+1)/2) (vt ts+vc cs) (by simp;omega) (by simp;omega) ⟨λt ht=>by
      simp only[cL,bR]at ht;rcases ht with ht|rfl;· exact I.tO t ht
      · trivial,I.cO,by rw[yJ,yK];simp only[aq,bF,Tm.sz];omega,by rw[J4,Ka];rfl⟩ (by unfold oJ at hB r0;split at hB<;>omega) (by have q:=I.ov;omega)
   refine⟨c,S',cO,?_,e⟩;unfold oJ at hB;split at hB<;>omega
  ·rw[aA y];obtain⟨c,S',cO,cz,e⟩:=fin ts (wt ts+wc cs+ts.length+cs.length) (ts.length/2) (vt ts+vc cs) (by omega) (by omega) ⟨I.tO,I.cO,rfl,rfl⟩ (by unfold oJ at hB r0;split at hB<;>omega) (by have q:=I.ov;omega);refine⟨c,S',cO,?_,e⟩;unfold oJ at hB;split at hB<;>omega
theorem turns{Fr:jO}{Zs:lX}{Ze}(hr:∀t c:Int,Fr [.int t,.int c]=.ok (.int<|oJ t c))
 (hs:∀ts cs (p o c h:Int),Inv ts cs p o->p+1+oJ ts.length cs.length<=30->p+1+oJ (ts.length+1) cs.length<=30->∃ts' cs' o',Inv ts' cs' (p+1) o'/\Zs [.loc 0,.d<|.int c,.d<|.int h] (jJ ts cs p o)=.ok (.d .non) (jJ ts' cs' (p+1) o')){h:Int}:
   ∀(ns:List Int) ts cs (p o:Int) s4 s5 s6,Inv ts cs p o->∃ts' cs' p' o' t4 t5 t6,Inv ts' cs' p' o'/\zH (hV 4) (Ah a Fr Zs Ze) (ns.map D.int) [some<|.d<|.int h,s1,s2,some<|.loc 0,s4,s5,s6] (jJ ts cs p o)=.nx [some<|.d<|.int h,s1,s2,some<|.loc 0,t4,t5,t6] (jJ ts' cs' p' o')
  |[],ts,cs,p,o,s4,s5,s6,I=>⟨ts,cs,p,o,s4,s5,s6,I,rfl⟩
  |n::ns,ts,cs,p,o,s4,s5,s6,I=>by
   have lc:∀(ρ:lr),ρ[3]?=some (some<|.loc 0)->Ek (pX (zV 3)<|dC<|.str "conds") ρ (jJ ts cs p o)=.ok (.d<|.int cs.length) (jJ ts cs p o):=λρ e=>by unfold Ek;rw[Xb e];show RX.ok (Z.d<|.int (((cs.map j7).map Z.d).length:Nat)) _=_;rw[az,az]
   have lt:∀(ρ:lr),ρ[3]?=some (some<|.loc 0)->Ek (pX (zV 3)<|dC<|.str "terms") ρ (jJ ts cs p o)=.ok (.d<|.int ts.length) (jJ ts cs p o):=λρ e=>by unfold Ek;rw[Xc e];show RX.ok (Z.d<|.int (((ts.map tri).map Z.d).length:Nat)) _=_;rw[az,az]
   have mx:∀x y:Int,v7 [.int x,.int y]=.ok (.int<|max x y):=λx y=>by
    show R.ok (D.int<|if y>x then y else x)=_
    congr 2
    split<;>omega
   have h1:∀z:Int,(Ah a Fr Zs Ze) [some<|.d<|.int h,s1,s2,some<|.loc 0,some<|.d<|.int n,s5,s6] (jJ ts cs p o)=j5 (nZ (qK tB<|z2 oV (z2 jT (z2 jT (pX (zV 3)<|dC<|.str "parts")<|zD<|dC<|.int 1)<|zD<|dV 6)<|zD<|dC<|.int 30) pq.bk pP) (pD<|zZ Zs<|jQ (zV 3)<|jQ (zD<|dV 4)<|jQ (zD<|dV 0) jW) [some<|.d<|.int h,s1,s2,some<|.loc 0,some<|.d<|.int n,some<|.d<|.int cs.length,some<|.d<|.int<|max (oJ ts.length cs.length)<|oJ (ts.length+1) cs.length] (jJ ts cs p o):=λz=>by unfold Ah;rw[qC<|wj (lc _ rfl)<|by simp];exact qC (wj (z6 (ds:=[.int<|oJ ts.length cs.length,.int<|oJ (ts.length+1) cs.length]) (pR (z6 (ds:=[.int ts.length,.int cs.length]) (pR (lt _ rfl)<|pR (qm rfl) wY)<|hr _ _)<|pR (z6 (ds:=[.int<|ts.length+1,.int cs.length]) (pR (Hk (lt _ rfl) (qm rfl) rfl)<|pR (qm rfl) wY)<|hr _ _) wY)<|mx _ _)<|by simp)
   have qJ:(qK tB<|z2 oV (z2 jT (z2 jT (pX (zV 3)<|dC<|.str "parts")<|zD<|dC<|.int 1)<|zD<|dV 6)<|zD<|dC<|.int 30) [some<|.d<|.int h,s1,s2,some<|.loc 0,some<|.d<|.int n,some<|.d<|.int cs.length,some<|.d<|.int<|max (oJ ts.length cs.length)<|oJ (ts.length+1) cs.length] (jJ ts cs p o)=.ok (decide<|p+1+max (oJ ts.length cs.length) (oJ (ts.length+1) cs.length)>30) (jJ ts cs p o):=aiK (Hk (Hk (Hk (aej rfl) (qm rfl) rfl) (qm rfl) rfl) (qm rfl) rfl) rfl;by_cases z:p+1+max (oJ ts.length cs.length) (oJ (ts.length+1) cs.length)>30
   ·rw[aP z]at qJ;refine⟨ts,cs,p,o,some<|.d<|.int n,some<|.d<|.int cs.length,some<|.d<|.int<|max (oJ ts.length cs.length)<|oJ (ts.length+1) cs.length,I,?_⟩;show vp ((Ah a Fr Zs Ze) [some<|.d<|.int h,s1,s2,some<|.loc 0,some<|.d<|.int n,s5,s6] (jJ ts cs p o)) _=_;rw[h1 0];unfold j5;rw[zY qJ];rfl
   ·rw[aC z]at qJ;obtain⟨ts1,cs1,o1,I1,e1⟩:=hs ts cs p o n h I (by omega) (by omega);obtain⟨ts',cs',p',o',t4,t5,t6,I',e'⟩:=turns hr hs ns ts1 cs1 (p+1) o1 (some<|.d<|.int n) (some<|.d<|.int cs.length) (some<|.d<|.int<|max (oJ ts.length cs.length)<|oJ (ts.length+1) cs.length) I1;refine⟨ts',cs',p',o',t4,t5,t6,I',?_⟩;show vp ((Ah a Fr Zs Ze) [some<|.d<|.int h,s1,s2,some<|.loc 0,some<|.d<|.int n,s5,s6] (jJ ts cs p o)) (zH (hV 4) (Ah a Fr Zs Ze)<|ns.map D.int)=_;rw[h1 0];unfold j5;rw[sU qJ];show vp (pD _ _<|jJ ts cs p o) _=_;have call:(zZ Zs<|jQ (zV 3)<|jQ (zD<|dV 4)<|jQ (zD<|dV 0) jW) [some<|.d<|.int h,s1,s2,some<|.loc 0,some<|.d<|.int n,some<|.d<|.int cs.length,some<|.d<|.int<|max (oJ ts.length cs.length)<|oJ (ts.length+1) cs.length] (jJ ts cs p o)=.ok (.d .non) (jJ ts1 cs1 (p+1) o1):=by
     have ar:(jQ (zV 3)<|jQ (zD<|dV 4)<|jQ (zD<|dV 0) jW) [some<|.d<|.int h,s1,s2,some<|.loc 0,some<|.d<|.int n,some<|.d<|.int cs.length,some<|.d<|.int<|max (oJ ts.length cs.length)<|oJ (ts.length+1) cs.length] (jJ ts cs p o)=.ok [.loc 0,.d<|.int n,.d<|.int h] (jJ ts cs p o):=pR rfl (pR (qm rfl)<|pR (qm rfl) wY);unfold zZ;rw[ar];exact e1
    unfold pD;rw[call];exact e'
def am5{Fr:jO}{Zs Ze:lX}(hr:∀t c:Int,Fr [.int t,.int c]=.ok (.int<|oJ t c))
 (hs:∀ts cs (p o c h:Int),Inv ts cs p o->p+1+oJ ts.length cs.length<=30->p+1+oJ (ts.length+1) cs.length<=30->∃ts' cs' o',Inv ts' cs' (p+1) o'/\Zs [.loc 0,.d<|.int c,.d<|.int h] (jJ ts cs p o)=.ok (.d .non) (jJ ts' cs' (p+1) o'))
 (he:∀ts cs (p o:Int) w,Inv ts cs p o->∃c S',(c.Ok/\qx c<=3)/\c.sz<=30/\Ze [.loc 0,.d<|.str<|cw w] (jJ ts cs p o)=.ok (.d<|j7 c) S')(h:Int)(ns:List Int)(w b):
   ∃c:Cn,(c.Ok/\qx c<=3)/\c.sz<=30/\clo (kE<|Ra a Fr Zs Ze b (lg 7 [.d<|.int h,.d<|.lst<|ns.map .int,.d<|.str<|cw w]) [])=.ok (j7 c):=by
  have I0:Inv [] [] 0 0:=⟨nofun,nofun,rfl,by decide,rfl,by decide⟩;obtain⟨ts',cs',p',o',t4,t5,t6,I',e'⟩:=turns (a:=a) (Ze:=Ze) hr hs (h:=h) (s1:=some (.d (.lst (ns.map .int)))) (s2:=some (.d (.str (cw w)))) ns [] [] 0 0 none none none I0;obtain⟨c,S',cO,cz,e2⟩:=he ts' cs' p' o' w I';refine⟨c,cO,cz,?_⟩;unfold Ra;have ds:ab6 [.inr "terms",.inr "conds",.inr "parts",.inr "over"] (jQ (BZ<|λρ=>(jE ρ).bind tD)<|jQ (BZ<|λρ=>(jE ρ).bind tD)<|jQ (zD<|dC<|.int 0)<|jQ (zD<|dC<|.int 0) jW) (lg 7 [.d<|.int h,.d<|.lst<|ns.map .int,.d<|.str<|cw w]) []=.ok (.loc 0) (jJ [] [] 0 0):=rfl;rw[qC<|wj ds<|by simp[lg]];show clo (kE<|j5 (Kf (λρ=>((dV 1) ρ).bind sX) (hV 4)<|Ah a Fr Zs Ze) _ [some<|.d<|.int h,some<|.d<|.lst<|ns.map .int,some<|.d<|.str<|cw w,some<|.loc 0,none,none,none]<|jJ [] [] 0 0)=_;have fo:Kf (λρ=>((dV 1) ρ).bind sX) (hV 4) (Ah a Fr Zs Ze) [some<|.d<|.int h,some<|.d<|.lst<|ns.map .int,some<|.d<|.str<|cw w,some<|.loc 0,none,none,none] (jJ [] [] 0 0)=.nx [some<|.d<|.int h,some<|.d<|.lst<|ns.map .int,some<|.d<|.str<|cw w,some<|.loc 0,t4,t5,t6] (jJ ts' cs' p' o'):=e';rw[qC fo];have ar:(jQ (zV 3)<|jQ (zD<|dV 2) jW) [some<|.d<|.int h,some<|.d<|.lst<|ns.map .int,some<|.d<|.str<|cw w,some<|.loc 0,t4,t5,t6] (jJ ts' cs' p' o')=.ok [.loc 0,.d<|.str<|cw w] (jJ ts' cs' p' o'):=pR rfl (pR (qm rfl) wY);unfold o9 zZ;rw[ar];show clo (kE<|toZ (Ze [.loc 0,.d<|.str<|cw w]<|jJ ts' cs' p' o') pq.rt)=_;rw[e2];rfl
end
end WC
namespace Ac
open PySem L2 P2 WP WR WC WS TM T2 PySem.NumText
variable{a:Ad}
def uQ{A B:lG}(h1:A ρ=.nx mO)(h2:jM (B mO)=r):jM (j6 A B ρ)=r:=by show jM (G6 (A ρ) B)=r;rw[h1];exact h2
def aav{j:Nat}(h2:j<1000000):vf [.int j]=.ok ((List.range j).map λ(k:Nat)=>D.int k):=by
 have e:Ed 0 j=(List.range j).map λ(k:Nat)=>D.int k:=by unfold Ed;refine eZ λk _=>?_;show D.int (0+(k:Int))=D.int (k:Int);rw[Int.zero_add]
 rw[<-e];unfold vf;dsimp only;rw[au<|by omega,dJ]
def sgL:List Nat:=[40,41,91,93,43,45,42,60,61]
def G7(c:Nat):Bool:=decide (c∈sgL)
def as8(c):Txt.contains (Str.ofString "()[]+-*<=") ⟨#[c]⟩=G7 c:=by
 rw[Jd];have e:jB (Str.ofString "()[]+-*<=")=sgL:=by decide
 rw[e];rfl
def aht(h:G7 c=true):nF c=false/\c≠32:=by have h':=iy h;unfold sgL at h';simp only[fC,iG,or_false]at h';rcases h' with rfl|rfl|rfl|rfl|rfl|rfl|rfl|rfl|rfl<;>decide
def anL:∀n:Nat,n<4->GC (Str.ofString " ") (n:Int)=true/\Txt.mul (Str.ofString " ") (n:Int)=jz (List.replicate n 32):=by decide+kernel
def Yy{n:Int}(h0:0<=n)(h4:n<4):uz (.str " ") (.int n)=.ok (.str (jz (List.replicate n.toNat 32))):=by obtain⟨m,rfl⟩:=cA h0;obtain⟨h1,h2⟩:=anL m (by omega);rw[aao h1,h2];rfl
def piece(cell:Int)(k c:Nat):List Nat:=
 if G7 c=true then List.replicate (cell/(1+(k:Int)%7)%3).toNat 32++c::List.replicate (cell/(1+(k:Int)%5)%2).toNat 32
 else if c=32 then List.replicate (1+cell/(1+(k:Int)%3)%2).toNat 32 else[c]
def ap5(cell:Int)(k c):piece cell k c=[c]\/(nF c=false/\c≠32/\∃i j,piece cell k c=List.replicate i 32++c::List.replicate j 32)\/(c=32/\∃n,piece cell k c=List.replicate (n+1) 32):=by
 unfold piece;by_cases h:G7 c=true
 ·rw[au h];exact .inr (.inl ⟨(aht h).1,(aht h).2,_,_,rfl⟩)
 ·rw[aA h];by_cases e:c=32
  ·rw[au e];refine .inr (.inr ⟨e,(cell/(1+(k:Int)%3)%2).toNat,?_⟩)
   congr 1
   have:0<=cell/(1+(k:Int)%3)%2:=by omega
   omega
  ·rw[aA e];exact .inl rfl
def af2(cell:Int)(k c):(piece cell k c).length<=4:=by
 unfold piece;split;·simp only[aq,bJ,ak];omega
 ·split;·rw[bJ];omega
  ·simp
def ap4(cell:Int)(k c d)(h:d∈piece cell k c):d=c\/d=32:=by
 unfold piece at h;split at h
 ·rcases List.mem_append.mp h with h|h;·exact .inr (fD h)
  ·rcases List.mem_cons.mp h with h|h;·exact .inl h
   ·exact .inr (fD h)
 ·split at h;·exact .inr (fD h)
  ·exact .inl (List.mem_singleton.mp h)
def CW{cs:List Nat}{k c:Nat}(h:cs[k]?=some c):L2.lH cs (k:Int)=some c:=by have hk:k<cs.length:=(List.getElem?_eq_some_iff.mp h).1;unfold L2.lH Bf;rw[au<|by omega,au<|by omega,dJ];exact h
def ixT{cs:List Nat}{k c:Nat}(h:cs[k]?=some c)(hl:cs.length<=50000):jR (.str<|jz cs) (.int k)=.ok (.str<|jz [c]):=by
 have hk:k<cs.length:=(List.getElem?_eq_some_iff.mp h).1;show(if(jz cs).length<=sizeLine then(match L2.lH (jz cs).cps.toList (k:Int)with|some c=>R.ok (D.str ⟨#[c]⟩)|none=>.bad)else .bad)=_;rw[au<|by rw[yw];exact size_of (by omega)];have e:L2.lH (jz cs).cps.toList (k:Int)=some c:=by show L2.lH cs (k:Int)=some c;exact CW h
 rw[e];rfl
def inT(c):mQ (.str<|jz [c]) (.str "()[]+-*<=")=.ok (.bl<|G7 c):=by show R.ok (D.bl<|Txt.contains (Str.ofString "()[]+-*<=") ⟨#[c]⟩)=_;rw[as8]
def akV(c):mV (.str<|jz [c]) (.str " ")=.ok (.bl<|decide<|c=32):=by
 show R.ok (D.bl<|decide<|jz [c]=Str.ofString " ")=_
 congr 2
 rw[bQ,aM,aM];constructor
 ·intro h;have:=aV jB h;rw[uX]at this;have e:jB (Str.ofString " ")=[32]:=by decide
  rw[e]at this;cases this;rfl
 ·rintro rfl;decide
def ajL(cs:List Nat)(cell:Int)(z:List Nat)(s3:Sl){k c:Nat}(h:cs[k]?=some c)(hl:cs.length<=5000)(hz:z.length<=40000):
    Fy a [.sh<|.str<|jz cs,.sh<|.int cell,.sh<|.str<|jz z,.sh<|.int k]=.nx [.sh<|.str<|jz cs,.sh<|.int cell,.sh<|.str<|jz<|z++piece cell k c,.sh<|.int k]:=by
 have ix:=ixT h (by omega);have i1:=inT c;have e1:=akV c;have f7:pK (.int cell) (.int<|1+(k:Int)%7)=.ok (.int<|cell/(1+(k:Int)%7)):=TV (by omega) (by omega);have f5:pK (.int cell) (.int<|1+(k:Int)%5)=.ok (.int<|cell/(1+(k:Int)%5)):=TV (by omega) (by omega);have f3:pK (.int cell) (.int<|1+(k:Int)%3)=.ok (.int<|cell/(1+(k:Int)%3)):=TV (by omega) (by omega);have m7:=Yy (n:=cell/(1+(k:Int)%7)%3) (by omega) (by omega);have m5:=Yy (n:=cell/(1+(k:Int)%5)%2) (by omega) (by omega);have m3:=Yy (n:=1+cell/(1+(k:Int)%3)%2) (by omega) (by omega);unfold piece;by_cases hs:G7 c=true
 ·rw[au hs];rw[hs]at i1;have n7:(cell/(1+(k:Int)%7)%3).toNat<=3:=by omega
  have n5:(cell/(1+(k:Int)%5)%2).toNat<=3:=by omega
  generalize(cell/(1+(k:Int)%7)%3).toNat=r7 at*;generalize(cell/(1+(k:Int)%5)%2).toNat=r5 at*;have a1:=pU (x:=z) (y:=List.replicate r7 32) (by omega) (by rw[bJ];omega);have a2:=pU (x:=z++List.replicate r7 32) (y:=[c]) (by simp;omega) (by simp);have a3:=pU (x:=z++List.replicate r7 32++[c]) (y:=List.replicate r5 32) (by simp;omega) (by rw[bJ];omega);have fin:z++List.replicate r7 32++[c]++List.replicate r5 32=z++(List.replicate r7 32++c::List.replicate r5 32):=by simp
  rw[fin]at a3;generalize D.str (jz<|z++(List.replicate r7 32++c::List.replicate r5 32))=Z3 at*;generalize D.str (jz<|z++List.replicate r7 32++[c])=Z2 at*;generalize D.str (jz<|z++List.replicate r7 32)=Z1 at*;generalize D.str (jz<|List.replicate r7 32)=B7 at*;generalize D.str (jz<|List.replicate r5 32)=B5 at*;generalize D.str (jz z)=Z at*;generalize D.str (jz [c])=C at*;generalize D.str (jz cs)=T at*;unfold Fy;iterate 8 (walk_at "d";try simp only[ix,i1,f7,f5,m7,m5,a1,a2,a3])
 ·rw[aA hs];have hs':G7 c=false:=by simpa using hs
  rw[hs']at i1;by_cases ym:c=32
  ·rw[au ym];rw[aP ym]at e1;have n3:(1+cell/(1+(k:Int)%3)%2).toNat<=3:=by omega
   generalize(1+cell/(1+(k:Int)%3)%2).toNat=r3 at*;have a1:=pU (x:=z) (y:=List.replicate r3 32) (by omega) (by rw[bJ];omega);generalize D.str (jz<|z++List.replicate r3 32)=Z1 at*;generalize D.str (jz<|List.replicate r3 32)=B3 at*;generalize D.str (jz z)=Z at*;generalize D.str (jz [c])=C at*;generalize D.str (jz cs)=T at*;unfold Fy;iterate 8 (walk_at "d";try simp only[ix,i1,e1,f3,m3,a1])
  ·rw[aA ym];rw[aC ym]at e1;have a1:=pU (x:=z) (y:=[c]) (by omega) (by simp);generalize D.str (jz<|z++[c])=Z1 at*;generalize D.str (jz z)=Z at*;generalize D.str (jz [c])=C at*;generalize D.str (jz cs)=T at*;unfold Fy;iterate 8 (walk_at "d";try simp only[ix,i1,e1,a1])
theorem aeY(cs:List Nat)(cell:Int)(hl:cs.length<=5000):∀(ks:List Nat) (z:List Nat) (s3:Sl),(∀k∈ks,k<cs.length)->z.length+4*ks.length<=40000->
 ∃GZ,wH (gV 3) (Fy a) (ks.map λ(k:Nat)=>D.int k) [.sh<|.str<|jz cs,.sh<|.int cell,.sh<|.str<|jz z,s3]=.nx [.sh<|.str<|jz cs,.sh<|.int cell,.sh<|.str<|jz<|z++ks.flatMap λk=>piece cell k<|cs.getD k 0,GZ]
 |[],z,s3,_,_=>⟨s3,by rw[List.flatMap_nil,bz];rfl⟩
 |k::ks,z,s3,hk,hz=>by
  have Gi:=hk k (.head _);have hc:cs[k]?=some (cs.getD k 0):=by rw[cu,aN Gi];rfl
  rw[ak]at hz;have hp:=af2 cell k (cs.getD k 0);have e:=ajL (a:=a) cs cell z s3 hc hl (by omega);obtain⟨GZ,g⟩:=aeY cs cell hl ks (z++piece cell k (cs.getD k 0)) (.sh (.int k)) (λj hj=>hk j (.tail _ hj)) (by rw[aq];omega);refine⟨GZ,?_⟩;rw[aR,aaj];walk_at "d"
  rw[e,T5,g,cZ,aZ]
def vh(cs:List Nat)(cell:Int):List Nat:=(List.range cs.length).flatMap λk=>piece cell k (cs.getD k 0)
def atA(cs)(cell:Int)(x):lK (x++vh cs cell)=lK (x++cs):=by
 have:=ahU ((List.range cs.length).map λk=>(cs.getD k 0,piece cell k (cs.getD k 0))) (λp hp=>by obtain⟨k,_,rfl⟩:=List.mem_map.mp hp;exact ap5 cell k _) x
 rw[List.flatMap_map,dI]at this;have e:(List.range cs.length).map ((λ(p:Nat×List Nat)=>p.1)∘λk=>(cs.getD k 0,piece cell k<|cs.getD k 0))=cs:=ald cs 0;rw[e]at this;exact this
def aty(cs)(cell:Int):(vh cs cell).length<=4*cs.length:=by
 unfold vh;have:∀ks:List Nat,(ks.flatMap λk=>piece cell k<|cs.getD k 0).length<=4*ks.length:=λks=>by
  induction ks with
  |nil=>simp
  |cons k r ih=>rw[cZ,aq,ak];have:=af2 cell k (cs.getD k 0);omega
 have h:=this (List.range cs.length);rw[iz]at h;exact h
def atz(cs)(cell:Int){d}(h:d∈vh cs cell):d∈cs\/d=32:=by
 unfold vh at h;obtain⟨k,hk,h⟩:=List.mem_flatMap.mp h;have Bb:=List.mem_range.mp hk;rcases ap4 _ _ _ _ h with h|h
 ·left;rw[h,cu,aN Bb];exact fZ Bb
 ·exact .inr h
def anq(cs:List Nat)(cell:Int)(hl:cs.length<=5000):jM (Rp a<|jP 4 [.str<|jz cs,.int cell])=.ok (.str<|jz<|vh cs cell):=by
 obtain⟨s3,g⟩:=aeY (a:=a) cs cell hl (List.range cs.length) [] .no (λk hk=>List.mem_range.mp hk) (by rw[iz];simp;omega);have e0:(Str.ofString "")=jz []:=by decide
 have rg:vf [.int (cs.length:Int)]=.ok ((List.range cs.length).map λ(k:Nat)=>D.int k):=aav (by omega);have Xw:lY [.str<|jz cs]=.ok (.int (cs.length:Int)):=by rw[aan,yw,au<|size_of<|by omega]
 rw[bV,<-e0]at g;have g':wH (gV 3) (Fy a) ((List.range cs.length).map λ(k:Nat)=>D.int k) [.sh<|.str<|jz cs,.sh<|.int cell,.sh<|.str<|Str.ofString "",.no]=.nx [.sh<|.str<|jz cs,.sh<|.int cell,.sh<|.str<|jz<|vh cs cell,s3]:=g;generalize D.str (jz<|vh cs cell)=W at*;generalize D.str (jz cs)=T at*;unfold Rp;refine uQ (mO:=[.sh T,.sh<|.int cell,.sh<|.str<|Str.ofString "",.no]) rfl ?_;refine uQ (mO:=[.sh T,.sh<|.int cell,.sh W,s3]) ?_ rfl;rw[TY];have fe:((jy (dA lY<|jy (dV 0) jE) jE) [.sh T,.sh<|.int cell,.sh<|.str<|Str.ofString "",.no]).bind vf=.ok ((List.range cs.length).map λ(k:Nat)=>D.int k):=by have e1:(dA lY<|jy (dV 0) jE) [.sh T,.sh<|.int cell,.sh<|.str<|Str.ofString "",.no]=.ok (.int (cs.length:Int)):=Xw;rw[pO,e1,jX,tR,jX,jX];exact rg
 rw[fe,Eb];exact g'
variable{a:Ad}
def pairD(p:Nat×Nat):D:=.tup [.int (p.1:Int),.int (p.2:Int)]
def inO(c):mQ (.str<|jz [c]) (.str "([")=.ok (.bl<|oh c):=by
 show R.ok (D.bl<|Txt.contains (Str.ofString "([") ⟨#[c]⟩)=_;rw[Jd];have e:jB (Str.ofString "([")=[40,91]:=by decide
 rw[e];unfold oh
 congr 2
 rw[bQ];simp
def inC(c):mQ (.str<|jz [c]) (.str ")]")=.ok (.bl<|isC c):=by
 show R.ok (D.bl<|Txt.contains (Str.ofString ")]") ⟨#[c]⟩)=_;rw[Jd];have e:jB (Str.ofString ")]")=[41,93]:=by decide
 rw[e];unfold isC
 congr 2
 rw[bQ];simp
structure PI(cs:List Nat)(k:Nat)(ws:List Nat)(ps:List<|Nat×Nat):Prop where
 wl:ws.length+qN (cs.take k)=rD (cs.take k)
 wo:∀w∈ws,w<k/\∃c,cs[w]?=some c/\oh c=true
 po:∀p∈ps,p.1<p.2/\p.2<k/\(∃c,cs[p.1]?=some c/\oh c=true)/\∃c,cs[p.2]?=some c/\isC c=true
 pl:ps.length<=k
def stP(ps:List<|Nat×Nat)(ws:List Nat):lD:=[.li<|(ps.map pairD).map .d,.li<|(ws.map λ(w:Nat)=>D.int w).map .d]
def afD(h:oh c=true):isC c=false:=by unfold oh at h;simp at h;rcases h with rfl|rfl<;>decide
def take_one{cs:List Nat}{k c:Nat}(h:cs[k]?=some c):cs.take (k+1)=cs.take k++[c]:=by rw[List.take_succ,h];rfl
def ajK{cs:List Nat}(hl:cs.length<=5000)(dy:Dy cs){k c:Nat}(h:cs[k]?=some c){ws:List Nat}{ps:List<|Nat×Nat}(I:PI cs k ws ps):
    ∃O7 NP,PI cs (k+1) O7 NP/\HF a [some<|.d<|.str<|jz cs,some<|.loc 0,some<|.loc 1,some<|.d<|.int k] (stP ps ws)=.nx [some<|.d<|.str<|jz cs,some<|.loc 0,some<|.loc 1,some<|.d<|.int k] (stP NP O7):=by
 have hk:k<cs.length:=(List.getElem?_eq_some_iff.mp h).1;have ix:=ixT h (by omega);have i1:=inO c;have i2:=inC c;have lw:ws.length<=k:=by
  have h1:=I.wl;have h2:rD (cs.take k)<=k:=by unfold rD;refine aJ (fW ..) ?_;rw[cM];omega
  omega
 have sl:=cX;have to1:=take_one h;have o1:rD (cs.take<|k+1)=rD (cs.take k)+rD [c]:=by rw[to1,Ny]
 have c1:qN (cs.take<|k+1)=qN (cs.take k)+qN [c]:=by rw[to1,La]
 have eO:∀S:lD,(zB<|b1 tB<|d2 mQ (d2 jR (dV 0)<|dV 3)<|dC<|.str "([") [some<|.d<|.str<|jz cs,some<|.loc 0,some<|.loc 1,some<|.d<|.int k] S=.ok (oh c) S:=λS=>by
  have:(b1 tB<|d2 mQ (d2 jR (dV 0)<|dV 3)<|dC<|.str "([") [.sh<|.str<|jz cs,.no,.no,.sh<|.int k]=.ok (oh c):=by have e1:(d2 jR (dV 0)<|dV 3) [.sh<|.str<|jz cs,.no,.no,.sh<|.int k]=.ok (.str<|jz [c]):=ix;rw[Br,qY,e1,jX,sS,jX,i1];rfl
  show qQ _ S=_;rw[show nQ [some<|.d<|.str<|jz cs,some<|.loc 0,some<|.loc 1,some<|.d<|.int k]=[.sh<|.str<|jz cs,.no,.no,.sh<|.int k]from rfl,this];rfl
 have eC:∀S:lD,(zB<|b1 tB<|d2 mQ (d2 jR (dV 0)<|dV 3)<|dC<|.str ")]") [some<|.d<|.str<|jz cs,some<|.loc 0,some<|.loc 1,some<|.d<|.int k] S=.ok (isC c) S:=λS=>by
  have:(b1 tB<|d2 mQ (d2 jR (dV 0)<|dV 3)<|dC<|.str ")]") [.sh<|.str<|jz cs,.no,.no,.sh<|.int k]=.ok (isC c):=by have e1:(d2 jR (dV 0)<|dV 3) [.sh<|.str<|jz cs,.no,.no,.sh<|.int k]=.ok (.str<|jz [c]):=ix;rw[Br,qY,e1,jX,sS,jX,i2];rfl
  show qQ _ S=_;rw[show nQ [some<|.d<|.str<|jz cs,some<|.loc 0,some<|.loc 1,some<|.d<|.int k]=[.sh<|.str<|jz cs,.no,.no,.sh<|.int k]from rfl,this];rfl
 unfold HF;cases hO:oh c with
 |true=>
  have hC:=afD hO;rw[hO]at eO;rw[hC]at eC;refine⟨ws++[k],ps,⟨?_,λw hw=>?_,λp hp=>?_,by have:=I.pl;omega⟩,?_⟩
  ·have z1:rD [c]=1:=by unfold rD;rw[cj,au hO];rfl
   have z2:qN [c]=0:=by unfold qN;rw[cj,aA<|by rw[hC];decide];rfl
   have:=I.wl;rw[o1,c1,z1,z2,aq,bF];omega
  ·rcases List.mem_append.mp hw with hw|hw;·obtain⟨h1,h2⟩:=I.wo w hw;exact⟨by omega,h2⟩
   ·rw[List.mem_singleton.mp hw];exact⟨by omega,c,h,hO⟩
  ·obtain⟨h1,h2,h3⟩:=I.po p hp;exact⟨h1,by omega,h3⟩
  ·have e1:nZ (zB<|b1 tB<|d2 mQ (d2 jR (dV 0)<|dV 3)<|dC<|.str "([") (rF 2<|zD<|dV 3) pP [some<|.d<|.str<|jz cs,some<|.loc 0,some<|.loc 1,some<|.d<|.int k] (stP ps ws)=.nx [some<|.d<|.str<|jz cs,some<|.loc 0,some<|.loc 1,some<|.d<|.int k] (stP ps<|ws++[k]):=by
    rw[zY<|eO _];show(if((ws.map λ(w:Nat)=>D.int w).map Z.d).length<sizeLine then pq.nx _ _ else .bad)=_;rw[au<|by rw[az,az];omega];unfold stP;rw[bU,bU];rfl
   rw[qC e1,sU<|eC _];rfl
 |false=>
  rw[hO]at eO;have z1:rD [c]=0:=by unfold rD;rw[cj,aA<|by rw[hO];decide];rfl
  have e0:nZ (zB<|b1 tB<|d2 mQ (d2 jR (dV 0)<|dV 3)<|dC<|.str "([") (rF 2<|zD<|dV 3) pP [some<|.d<|.str<|jz cs,some<|.loc 0,some<|.loc 1,some<|.d<|.int k] (stP ps ws)=.nx [some<|.d<|.str<|jz cs,some<|.loc 0,some<|.loc 1,some<|.d<|.int k] (stP ps ws):=by rw[sU<|eO _];rfl
  rw[qC e0];cases hC:isC c with
  |false=>
   rw[hC]at eC;have z2:qN [c]=0:=by unfold qN;rw[cj,aA<|by rw[hC];decide];rfl
   refine⟨ws,ps,⟨?_,λw hw=>?_,λp hp=>?_,by have:=I.pl;omega⟩,?_⟩;·have:=I.wl;rw[o1,c1,z1,z2];omega
   ·obtain⟨h1,h2⟩:=I.wo w hw;exact⟨by omega,h2⟩
   ·obtain⟨h1,h2,h3⟩:=I.po p hp;exact⟨h1,by omega,h3⟩
   ·rw[sU<|eC _];rfl
  |true=>
   rw[hC]at eC;have z2:qN [c]=1:=by unfold qN;rw[cj,au hC];rfl
   have hp:=dy.pre (k+1);have hwl:=I.wl;rw[o1,c1,z1,z2]at hp;have hne:ws≠[]:=λe=>by rw[e]at hwl;simp at hwl;omega
   obtain⟨w0,w,rfl⟩:∃w0 w,ws=w0++[w]:=⟨ws.dropLast,ws.getLast hne,(cJ hne).symm⟩;obtain⟨hwk,hwo⟩:=I.wo w (by simp);refine⟨w0,ps++[(w,k)],⟨?_,λx hx=>?_,λp hp=>?_,by rw[aq,bF];have:=I.pl;omega⟩,?_⟩;·rw[aq,bF]at hwl;rw[o1,c1,z1,z2];omega
   ·obtain⟨h1,h2⟩:=I.wo x (dD _ hx);exact⟨by omega,h2⟩
   ·rcases List.mem_append.mp hp with hp|hp;·obtain⟨h1,h2,h3⟩:=I.po p hp;exact⟨h1,by omega,h3⟩
    ·rw[List.mem_singleton.mp hp];exact⟨hwk,b8 _,hwo,c,h,hC⟩
   ·rw[zY<|eC _];have hz:(sr 2) [some<|.d<|.str<|jz cs,some<|.loc 0,some<|.loc 1,some<|.d<|.int k] (stP ps<|w0++[w])=.ok (.d<|.int w) (stP ps w0):=by
     show(match(((w0++[w]).map λ(w:Nat)=>D.int w).map Z.d)[(((w0++[w]).map λ(w:Nat)=>D.int w).map Z.d).length - 1]? with
      |some z=>RX.ok z ((stP ps<|w0++[w]).set 1 (.li (((w0++[w]).map λ(w:Nat)=>D.int w).map Z.d).dropLast))
      |none=>.bad)=_
     rw[bU,bU];have e1:((w0.map λ(w:Nat)=>D.int w).map Z.d++([w].map λ(w:Nat)=>D.int w).map Z.d)[((w0.map λ(w:Nat)=>D.int w).map Z.d++([w].map λ(w:Nat)=>D.int w).map Z.d).length - 1]?=some (Z.d<|.int w):=by rw[aq];show(_++[Z.d<|.int w])[_+1 - 1]?=_;rw[Nat.add_sub_cancel,bh<|aB _,Nat.sub_self];rfl
     rw[e1];dsimp only;have e2:((w0.map λ(w:Nat)=>D.int w).map Z.d++([w].map λ(w:Nat)=>D.int w).map Z.d).dropLast=(w0.map λ(w:Nat)=>D.int w).map Z.d:=jl;rw[e2];rfl
    have hk2:(zD<|dV 3) [some<|.d<|.str<|jz cs,some<|.loc 0,some<|.loc 1,some<|.d<|.int k] (stP ps w0)=.ok (.d<|.int k) (stP ps w0):=rfl;have hm:(zF lB<|jQ (sr 2)<|jQ (zD<|dV 3) jW) [some<|.d<|.str<|jz cs,some<|.loc 0,some<|.loc 1,some<|.d<|.int k] (stP ps<|w0++[w])=.ok (.d<|pairD (w,k)) (stP ps w0):=by unfold zF;rw[pR hz<|pR hk2 wY];rfl
    show(toZ ((zF lB (jQ (sr 2) (jQ (zD (dV 3)) jW))) [some (.d (.str (jz cs))),some (.loc 0),some (.loc 1),some (.d (.int k))] (stP ps (w0++[w]))) λ(z:Z) (S1:lD)=>(match S1[0]? with
     |some (Cell.li zs)=>if zs.length<sizeLine then pq.nx [some<|.d<|.str<|jz cs,some<|.loc 0,some<|.loc 1,some<|.d<|.int k] (S1.set 0<|.li<|zs++[z])else .bad
     |_=>.bad))=_
    rw[hm];show(if((ps.map pairD).map Z.d).length<sizeLine then pq.nx _ ((stP ps w0).set 0 (.li<|(ps.map pairD).map Z.d++[Z.d<|pairD (w,k)]))else .bad)=_;rw[au (by rw[az,az];have:=I.pl;omega)];unfold stP;rw[bU,bU];rfl
theorem aeX{cs:List Nat}(hl:cs.length<=5000)(dy:Dy cs):∀j k ws ps s3,k+j=cs.length->PI cs k ws ps->
 ∃O7 NP GZ,PI cs cs.length O7 NP/\zH (hV 3) (HF a) ((List.range' k j).map λ(k:Nat)=>D.int k) [some<|.d<|.str<|jz cs,some<|.loc 0,some<|.loc 1,s3] (stP ps ws)=.nx [some<|.d<|.str<|jz cs,some<|.loc 0,some<|.loc 1,GZ] (stP NP O7)
 |0,k,ws,ps,s3,e,I=>⟨ws,ps,s3,by rw[<-(show k=cs.length by omega)];exact I,rfl⟩
 |j+1,k,ws,ps,s3,e,I=>by
  have hk:k<cs.length:=by omega
  obtain⟨w1,p1,I1,e1⟩:=ajK (a:=a) hl dy (aN hk) I;obtain⟨w2,p2,s2,I2,e2⟩:=aeX hl dy j (k+1) w1 p1 (some<|.d<|.int k) (by omega) I1;refine⟨w2,p2,s2,I2,?_⟩;rw[List.range'_succ,aR];show ahQ (hV 3 (.int k) _) _=_;show vp (HF a [some<|.d<|.str<|jz cs,some<|.loc 0,some<|.loc 1,some<|.d<|.int k]<|stP ps ws) _=_;rw[e1];exact e2
theorem adD{c:Ev->R Bool}(h0:∀d,gV 0 d uU=some [.sh d,.sh T]):∀ps:List (Nat×Nat),(∀p∈ps,∃b,c [.sh<|pairD p,.sh T]=.ok b)->∃qs:List (Nat×Nat),(∀q∈qs,q∈ps)/\qs.length<=ps.length/\sH (gV 0) c (dV 0) uU (ps.map pairD)=some (qs.map pairD)
 |[],_=>⟨[],λ_ h=>h,aB _,rfl⟩
 |p::r,h=>by
  obtain⟨qs,g1,g3,g2⟩:=adD h0 r λq hq=>h q (.tail _ hq);obtain⟨b,hb⟩:=h p (.head _);cases b with
  |true=>
   refine⟨p::qs,λq hq=>?_,by rw[ak,ak];omega,?_⟩
   ·rcases List.mem_cons.mp hq with rfl|hq;·exact .head _
    ·exact .tail _ (g1 q hq)
   ·rw[aR];unfold sH;rw[h0,dR,hb,g2];rfl
  |false=>refine⟨qs,λq hq=>.tail _<|g1 q hq,by rw[ak];omega,?_⟩;rw[aR];unfold sH;rw[h0,dR,hb,g2];rfl
theorem acV:∀ds:List D,rN (ds.map Z.d)=some ds
 |[]=>rfl
 |d::r=>by show(rN<|r.map Z.d).map (d:: ·)=_;rw[acV r];rfl
def afw(ds:List D):(ds.map Z.d).any (yo 0)=false:=by rw[List.any_eq_false];intro z hz;obtain⟨d,_,rfl⟩:=List.mem_map.mp hz;exact aU
def anf{cs:List Nat}(hl:cs.length<=5000)(dy:Dy cs):∃qs:List (Nat×Nat),(∀p∈qs,p.1<p.2/\p.2<cs.length/\(∃c,cs[p.1]?=some c/\oh c=true)/\∃c,cs[p.2]?=some c/\isC c=true)/\qs.length<=cs.length/\
    clo (kE<|Rj a 0 (lg 4 [.d<|.str<|jz cs]) [])=.ok (.lst<|qs.map pairD):=by
 have I0:PI cs 0 [] []:=⟨rfl,nofun,nofun,aB _⟩;obtain⟨ws,ps,s3,I,e⟩:=aeX (a:=a) hl dy cs.length 0 [] [] none (by omega) I0;have rg:vf [.int (cs.length:Int)]=.ok ((List.range' 0 cs.length).map λ(k:Nat)=>D.int k):=by rw[<-List.range_eq_range'];exact aav (by omega)
 have Xw:lY [.str<|jz cs]=.ok (.int (cs.length:Int)):=by rw[aan,yw,au<|size_of<|by omega]
 have sl:=cX;have cond:∀p∈ps,∃b,(b1 tB<|d2 pM (qT qI (dV 1) (λρ=>((dA v7<|jy (dC<|.int 0)<|jy (d2 vm (d2 jR (dV 0)<|dC<|.int 0)<|dC<|.int 3) jE) ρ).bind pI)<|λρ=>((d2 jR (dV 0)<|dC<|.int 0) ρ).bind pI)<|dC<|.str "abs") [.sh<|pairD p,.sh<|.str<|jz cs]=.ok b:=λp hp=>by
  refine⟨!decide (Txt.slice (jz cs) (some<|if(p.1:Int) - 3>0 then(p.1:Int) - 3 else 0) (some (p.1:Int))=Str.ofString "abs"),?_⟩;have e0:(d2 jR (dV 0)<|dC<|.int 0) [.sh<|pairD p,.sh<|.str<|jz cs]=.ok (.int (p.1:Int)):=rfl;have e1:(dA v7<|jy (dC<|.int 0)<|jy (d2 vm (d2 jR (dV 0)<|dC<|.int 0)<|dC<|.int 3) jE) [.sh<|pairD p,.sh<|.str<|jz cs]=.ok (.int<|if(p.1:Int) - 3>0 then(p.1:Int) - 3 else 0):=rfl;have e2:(qT qI (dV 1) (λρ=>((dA v7<|jy (dC<|.int 0)<|jy (d2 vm (d2 jR (dV 0)<|dC<|.int 0)<|dC<|.int 3) jE) ρ).bind pI)<|λρ=>((d2 jR (dV 0)<|dC<|.int 0) ρ).bind pI) [.sh<|pairD p,.sh<|.str<|jz cs]=.ok (.str<|Txt.slice (jz cs) (some<|if(p.1:Int) - 3>0 then(p.1:Int) - 3 else 0)<|some (p.1:Int)):=by rw[N5];show((dV 1) [.sh<|pairD p,.sh<|.str<|jz cs]).bind _=_;rw[Bs,jX,e1,e0];show(if(jz cs).length<=sizeLine then R.ok (D.str<|Txt.slice (jz cs) _ _)else .bad)=_;rw[au<|by rw[yw];omega]
  rw[Br,qY,e2,jX,sS,jX];rfl
 obtain⟨qs,g1,g3,g2⟩:=adD (c:=(b1 tB (d2 pM (qT qI (dV 1) (λρ=>((dA v7 (jy (dC (.int 0)) (jy (d2 vm (d2 jR (dV 0) (dC (.int 0))) (dC (.int 3))) jE))) ρ).bind pI) (λρ=>((d2 jR (dV 0) (dC (.int 0))) ρ).bind pI)) (dC (.str "abs"))))) (uU:=[.no,.sh (.str (jz cs))]) (T:=.str (jz cs)) (λd=>rfl) ps cond;refine⟨qs,λp hp=>I.po p<|g1 p hp,aJ g3 I.pl,?_⟩;have lps:(ps.map pairD).length<=sizeLine:=by rw[az];have:=I.pl;omega
 unfold Rj;rw[show lg 4 [.d<|.str<|jz cs]=[some<|.d<|.str<|jz cs,none,none,none]from rfl];have s1:mR 1 (BZ<|λρ=>(jE ρ).bind tD) [some<|.d<|.str<|jz cs,none,none,none] []=.nx [some<|.d<|.str<|jz cs,some<|.loc 0,none,none] [.li []]:=rfl;rw[qC s1];have s2:mR 2 (BZ<|λρ=>(jE ρ).bind tD) [some<|.d<|.str<|jz cs,some<|.loc 0,none,none] [.li []]=.nx [some<|.d<|.str<|jz cs,some<|.loc 0,some<|.loc 1,none] (stP [] []):=rfl;rw[qC s2];have GZ:Kf (λρ=>((jy (dA lY<|jy (dV 0) jE) jE) ρ).bind vf) (hV 3) (HF a) [some<|.d<|.str<|jz cs,some<|.loc 0,some<|.loc 1,none] (stP [] [])=.nx [some<|.d<|.str<|jz cs,some<|.loc 0,some<|.loc 1,s3] (stP ps ws):=by
  have fe:((jy (dA lY<|jy (dV 0) jE) jE) [.sh<|.str<|jz cs,.no,.no,.no]).bind vf=.ok ((List.range' 0 cs.length).map λ(k:Nat)=>D.int k):=by have e1:(dA lY<|jy (dV 0) jE) [.sh<|.str<|jz cs,.no,.no,.no]=.ok (.int (cs.length:Int)):=Xw;rw[pO,e1,jX,tR,jX,jX];exact rg
  show toZ (qQ (((jy (dA lY<|jy (dV 0) jE) jE) [.sh<|.str<|jz cs,.no,.no,.no]).bind vf)<|stP [] []) _=_;rw[fe];exact e
 rw[qC GZ];have fz:QW 0 1 [some<|.d<|.str<|jz cs,some<|.loc 0,some<|.loc 1,s3] (stP ps ws)=some ([some<|Z.d<|.str<|jz cs,some<|Z.loc 0,some<|Z.loc 1,s3].map (Ow 0<|.lst<|ps.map pairD),(stP ps ws).set 0 Cell.no):=by
  show(match rN ((ps.map pairD).map Z.d)with
   |some ds=>if 0<=0/\((stP ps ws).any (QB 0))=false then some ([some<|Z.d<|.str<|jz cs,some<|Z.loc 0,some<|Z.loc 1,s3].map (Ow 0<|.lst ds),(stP ps ws).set 0 Cell.no)else none
   |none=>none)=_
  rw[acV];dsimp only;refine au ⟨aB _,?_⟩;show((((ps.map pairD).map Z.d).any (yo 0))||((((ws.map λ(w:Nat)=>D.int w).map Z.d).any (yo 0))||false))=false;rw[afw,afw];rfl
 unfold UT;rw[fz];dsimp only;obtain⟨s4,h4⟩:∃s4,[some (Z.d (.str (jz cs))),some (.loc 0),some (.loc 1),s3].map (Ow 0 (.lst (ps.map pairD)))=[some (Z.d (.str (jz cs))),some (.d (.lst (ps.map pairD))),some (.loc 1),s4]:=⟨Ow 0 (.lst<|ps.map pairD) s3,rfl⟩;rw[h4];obtain⟨s5,h5⟩:∃s5,nQ [some (Z.d (.str (jz cs))),some (.d (.lst (ps.map pairD))),some (.loc 1),s4]=[.sh (.str (jz cs)),.sh (.lst (ps.map pairD)),.no,s5]:=⟨agf s4,rfl⟩;have dc:uw (λρ=>((dV 1) ρ).bind sX) 1 [0] (gV 0) (b1 tB<|d2 pM (qT qI (dV 1) (λρ=>((dA v7<|jy (dC<|.int 0)<|jy (d2 vm (d2 jR (dV 0)<|dC<|.int 0)<|dC<|.int 3) jE) ρ).bind pI)<|λρ=>((d2 jR (dV 0)<|dC<|.int 0) ρ).bind pI)<|dC<|.str "abs") (dV 0) [.sh<|.str<|jz cs,.sh<|.lst<|ps.map pairD,.no,s5]=.ok (qs.map pairD):=by rw[aaf];show(sX<|.lst<|ps.map pairD).bind _=_;rw[aac,jX,au lps];show Nq (sH (gV 0) _ (dV 0) [.no,.sh<|.str<|jz cs]<|ps.map pairD)=_;rw[g2];rfl
 have fin:zD (rO<|uw (λρ=>((dV 1) ρ).bind sX) 1 [0] (gV 0) (b1 tB<|d2 pM (qT qI (dV 1) (λρ=>((dA v7<|jy (dC<|.int 0)<|jy (d2 vm (d2 jR (dV 0)<|dC<|.int 0)<|dC<|.int 3) jE) ρ).bind pI)<|λρ=>((d2 jR (dV 0)<|dC<|.int 0) ρ).bind pI)<|dC<|.str "abs")<|dV 0) [some<|Z.d<|.str<|jz cs,some<|.d<|.lst<|ps.map pairD,some<|.loc 1,s4] ((stP ps ws).set 0 .no)=.ok (.d<|.lst<|qs.map pairD) ((stP ps ws).set 0 .no):=by refine qm ?_;rw[h5,Tw,dc];rfl
 unfold o9;rw[fin];rfl
variable{a:Ad}
def tQ:Nat->D->Bool
 |0,_=>false
 |n+1,.tup ds=>ds.length.ble 1000&&ds.all (tQ n)
 |_+1,.str _=>true
 |_+1,.int _=>true
 |_+1,_=>false
def qj:Nat->D->Bool
 |0,_=>true
 |n+1,.tup ds=>ds.length.ble 1000&&ds.all (qj n)
 |_+1,.str _=>true
 |_+1,.int _=>true
 |_+1,_=>false
def acW{α:Type}{xs:List α}{k:Nat}{c:α}(h:xs[k]?=some c):L2.lH xs (k:Int)=some c:=by have hk:k<xs.length:=(List.getElem?_eq_some_iff.mp h).1;unfold L2.lH Bf;rw[au<|by omega,au<|by omega,dJ];exact h
def aju{Q:lA}{xs ys:List D}{bs}(hx:xs.length=ys.length)(e1:Q [.sh<|.tup xs,.sh<|.tup ys]=.ok (.lst L))(bl:vB L=some bs)(R'):
    jM (j6 (mZ (b1 tT (dA (oZ a.oO) (jy (dV 1) (jy (dC (.ty "tuple")) jE)))) (j6 (mZ (uv (rP (b1 tT (dA (oZ a.oO) (jy (dV 0) (jy (dC (.ty "tuple")) jE))))) (b1 tB (d2 pM (dA lY (jy (dV 0) jE)) (dA lY (jy (dV 1) jE))))) (lM (dC (.bl false))) nA)
     (lM (dA Ag (jy Q jE)))) nA) R' [.sh (.tup xs),.sh (.tup ys)])=.ok (.bl (bs.all id)):=by
 have n1:(!decide ((xs.length:Int)=(ys.length:Int)))=false:=by rw[hx];simp
 iterate 6 (walk_at "d";try simp only[n1,e1,bl])
def ajw{xs ys:List D}(hx:xs.length≠ys.length)(A B R':lG):
    jM (j6 (mZ (b1 tT (dA (oZ a.oO) (jy (dV 1) (jy (dC (.ty "tuple")) jE)))) (j6 (mZ (uv (rP (b1 tT (dA (oZ a.oO) (jy (dV 0) (jy (dC (.ty "tuple")) jE))))) (b1 tB (d2 pM (dA lY (jy (dV 0) jE)) (dA lY (jy (dV 1) jE))))) (lM (dC (.bl false))) nA)
     A) nA) R' [.sh (.tup xs),.sh (.tup ys)])=.ok (.bl false):=by
 have n1:(!decide ((xs.length:Int)=(ys.length:Int)))=true:=by rw[aC<|λe=>hx<|by omega];rfl
 iterate 6 (walk_at "d";try simp only[n1])
def ajy{F:jO}{xs ys:List D}(hl:ys.length<=1000)(hx:xs.length=ys.length)(h:∀(i:Nat) (h1:i<xs.length) (h2:i<ys.length),∃b,F [xs[i],ys[i]]=.ok (.bl b)/\(b=true↔xs[i]=ys[i])):
    ∃b,jM (pW a F<|jP 2 [.tup xs,.tup ys])=.ok (.bl b)/\(b=true↔xs=ys):=by
 have hb:∃g:Nat->Bool,∀(i:Nat) (h1:i<xs.length) (h2:i<ys.length),F [xs[i],ys[i]]=.ok (.bl<|g i)/\(g i=true↔xs[i]=ys[i]):=by refine⟨λi=>if h1:i<xs.length then(h i h1<|hx▸h1).choose else true,λi h1 h2=>?_⟩;simp only[h1,dif_pos];exact(h i h1<|hx▸h1).choose_spec
 obtain⟨g,hg⟩:=hb;have rg:=aav (j:=ys.length) (by omega);have sl:=cX;have hc:sH (gV 0) (λ_=>.ok true) (dA F<|jy (d2 jR (dV 2)<|dV 0)<|jy (d2 jR (dV 1)<|dV 0) jE) [.no,.sh<|.tup ys,.sh<|.tup xs] ((List.range ys.length).map λ(k:Nat)=>D.int k)=some ((List.range ys.length).map λk=>D.bl<|g k):=by
  have:=HS (a:=gV 0) (c:=λ_=>.ok true) (e:=dA F<|jy (d2 jR (dV 2)<|dV 0)<|jy (d2 jR (dV 1)<|dV 0) jE) (uU:=[.no,.sh<|.tup ys,.sh<|.tup xs]) (λd=>[.sh d,.sh<|.tup ys,.sh<|.tup xs]) (λd=>match d with|.int k=>.bl (g k.toNat)|_=>.non) ((List.range ys.length).map λ(k:Nat)=>D.int k) λd hd=>by
   obtain⟨i,hi,rfl⟩:=List.mem_map.mp hd;have hi:=List.mem_range.mp hi;refine⟨rfl,rfl,?_⟩;have e1:jR (.tup xs) (.int ((i:Nat):Int))=.ok (xs[i]'(by omega)):=by rw[aal,acW<|aN<|by omega]
   have e2:jR (.tup ys) (.int ((i:Nat):Int))=.ok ys[i]:=by rw[aal,acW<|aN hi]
   rw[vd,pO,qY,GX,jX,xG,jX,e1,jX,pO,qY,Bs,jX,xG,jX,e2,jX,tR,jX,jX,jX];rw[(hg i (by omega) hi).1];dsimp only;rw[dJ]
  rw[this,dI]
  congr 1
 have e1:rO (uw (λρ=>((jy (dA lY<|jy (dV 1) jE) jE) ρ).bind vf) 1 [1,0] (gV 0) (λ_=>.ok true)<|dA F<|jy (d2 jR (dV 2)<|dV 0)<|jy (d2 jR (dV 1)<|dV 0) jE) [.sh<|.tup xs,.sh<|.tup ys]=.ok (.lst<|(List.range ys.length).map λk=>D.bl<|g k):=by
  have fe:((jy (dA lY<|jy (dV 1) jE) jE) [.sh<|.tup xs,.sh<|.tup ys]).bind vf=.ok ((List.range ys.length).map λ(k:Nat)=>D.int k):=by rw[pO,vd,pO,Bs,jX,tR,jX,jX,agA,jX,jX,jX];exact rg
  rw[Tw,aaf,fe,jX,au<|by rw[az,iz];omega];show(Nq<|sH (gV 0) (λ_=>.ok true) _ [.no,.sh<|.tup ys,.sh<|.tup xs] _).bind _=_;rw[hc];rfl
 have bl:vB ((List.range ys.length).map λk=>D.bl<|g k)=some ((List.range ys.length).map g):=by
  have go:∀ks:List Nat,vB (ks.map λk=>D.bl<|g k)=some (ks.map g):=λks=>by
   induction ks with
   |nil=>rfl
   |cons k r ih=>show(vB<|r.map λk=>D.bl<|g k).map (g k:: ·)=_;rw[ih];rfl
  exact go _
 refine⟨((List.range ys.length).map g).all id,?_,?_⟩;·exact aju (a:=a) hx e1 bl _
 ·rw[dO];constructor
  ·intro ha;refine List.ext_getElem hx λi h1 h2=>?_;exact(hg i h1 h2).2.mp (ha (g i)<|List.mem_map.mpr ⟨i,List.mem_range.mpr h2,rfl⟩)
  ·rintro rfl b hb
   obtain⟨i,hi,rfl⟩:=List.mem_map.mp hb;have hi:=List.mem_range.mp hi;exact(hg i hi hi).2.mpr rfl
theorem acT:∀n x y,qj n x=true->tQ n y=true->∃b,t8 (λF ds=>jM<|pW a F<|jP 2 ds) n [x,y]=.ok (.bl b)/\(b=true↔x=y)
 |0,_,_,_,h=>by cases h
 |n+1,x,y,hx,hy=>by
  cases y with
  |tup ys=>
   cases x with
   |tup xs=>
    simp only[tQ,qj,aK,dO]at hx hy;by_cases hl:xs.length=ys.length
    ·obtain⟨b,e,h⟩:=ajy (a:=a) (F:=t8 (λF ds=>jM (pW a F (jP 2 ds))) n) (bK hy.1) hl λi h1 h2=>acT n _ _ (hx.2 _ (fZ h1)) (hy.2 _ (fZ h2));exact⟨b,e,h.trans ⟨λe=>by rw[e],λe=>by cases e;rfl⟩⟩
    ·exact⟨false,ajw (a:=a) hl _ (λ_=>.bad) _,⟨λe=>(by cases e),λe=>(by cases e;exact absurd rfl hl)⟩⟩
   |str z=>refine⟨false,?_,⟨λe=>(by cases e),λe=>(by cases e)⟩⟩;show jM (pW a (t8 (λF ds=>jM<|pW a F<|jP 2 ds) n) [.sh<|.str z,.sh<|.tup ys])=_;have i0:oZ a.oO [.str z,.ty "tuple"]=.ok (.bl false):=rfl;unfold pW;iterate 6 (walk_at "d";try simp only[i0])
   |int i=>refine⟨false,?_,⟨λe=>(by cases e),λe=>(by cases e)⟩⟩;show jM (pW a (t8 (λF ds=>jM<|pW a F<|jP 2 ds) n) [.sh<|.int i,.sh<|.tup ys])=_;have i0:oZ a.oO [.int i,.ty "tuple"]=.ok (.bl false):=rfl;unfold pW;iterate 6 (walk_at "d";try simp only[i0])
   |_=>cases hx
  |str z=>
   have i0:oZ a.oO [.str z,.ty "tuple"]=.ok (.bl false):=rfl;cases x with
   |tup xs=>refine⟨false,?_,⟨λe=>(by cases e),λe=>(by cases e)⟩⟩;show jM (pW a (t8 (λF ds=>jM<|pW a F<|jP 2 ds) n) [.sh<|.tup xs,.sh<|.str z])=_;have i1:oZ a.oO [.tup xs,.ty "str"]=.ok (.bl false):=rfl;unfold pW;iterate 6 (walk_at "d";try simp only[i0,i1])
   |str w=>refine⟨decide<|w=z,?_,⟨λe=>by rw[iy e],λe=>by cases e;exact aP rfl⟩⟩;show jM (pW a (t8 (λF ds=>jM<|pW a F<|jP 2 ds) n) [.sh<|.str w,.sh<|.str z])=_;have i1:oZ a.oO [.str w,.ty "str"]=.ok (.bl true):=rfl;unfold pW;iterate 6 (walk_at "d";try simp only[i0,i1])
   |int i=>refine⟨false,?_,⟨λe=>(by cases e),λe=>(by cases e)⟩⟩;show jM (pW a (t8 (λF ds=>jM<|pW a F<|jP 2 ds) n) [.sh<|.int i,.sh<|.str z])=_;have i1:oZ a.oO [.int i,.ty "str"]=.ok (.bl false):=rfl;unfold pW;iterate 6 (walk_at "d";try simp only[i0,i1])
   |_=>cases hx
  |int j=>
   have i0:oZ a.oO [.int j,.ty "tuple"]=.ok (.bl false):=rfl;have i1:oZ a.oO [.int j,.ty "str"]=.ok (.bl false):=rfl;cases x with
   |tup xs=>refine⟨false,?_,⟨λe=>(by cases e),λe=>(by cases e)⟩⟩;show jM (pW a (t8 (λF ds=>jM<|pW a F<|jP 2 ds) n) [.sh<|.tup xs,.sh<|.int j])=_;have i2:oZ a.oO [.tup xs,.ty "int"]=.ok (.bl false):=rfl;unfold pW;iterate 6 (walk_at "d";try simp only[i0,i1,i2])
   |str w=>refine⟨false,?_,⟨λe=>(by cases e),λe=>(by cases e)⟩⟩;show jM (pW a (t8 (λF ds=>jM<|pW a F<|jP 2 ds) n) [.sh<|.str w,.sh<|.int j])=_;have i2:oZ a.oO [.str w,.ty "int"]=.ok (.bl false):=rfl;unfold pW;iterate 6 (walk_at "d";try simp only[i0,i1,i2])
   |int i=>refine⟨decide<|i=j,?_,⟨λe=>by rw[iy e],λe=>by cases e;exact aP rfl⟩⟩;show jM (pW a (t8 (λF ds=>jM<|pW a F<|jP 2 ds) n) [.sh<|.int i,.sh<|.int j])=_;have i2:oZ a.oO [.int i,.ty "int"]=.ok (.bl true):=rfl;have i3:oZ a.oO [.int i,.ty "bool"]=.ok (.bl false):=rfl;unfold pW;iterate 6 (walk_at "d";try simp only[i0,i1,i2,i3])
   |_=>cases hx
  |_=>cases hy
theorem Ea:∀n m d,n<=m->tQ n d=true->tQ m d=true
 |0,_,_,_,h=>by cases h
 |n+1,0,_,hl,_=>by omega
 |n+1,m+1,d,hl,h=>by
  cases d with
  |tup ds=>simp only[tQ,aK,dO]at h⊢;exact⟨h.1,λe he=>Ea n m e (by omega)<|h.2 e he⟩
  |str z=>rfl
  |int i=>rfl
  |_=>cases h
theorem JF:∀t:Tm,tQ (t.sz+2) t.d=true
 |.num p q=>rfl
 |.here=>rfl
 |.pN w n=>rfl
 |.at m=>rfl
 |.bin s x y=>by have h1:=Ea _ (x.sz+y.sz+2) _ (by omega) (JF x);have h2:=Ea _ (x.sz+y.sz+2) _ (by omega) (JF y);show tQ ((x.sz+y.sz+2)+1) (.tup [.str<|sg s,x.d,y.d])=true;simp only[tQ,cF,cR,h1,h2,cH];rfl
 |.times p q x=>by have h1:=JF x;show tQ ((x.sz+2)+1) (.tup [.str "times",WC.pr p q,x.d])=true;simp only[tQ,cF,cR,h1,cH];rfl
 |.abs x=>by have h1:=JF x;show tQ ((x.sz+2)+1) (.tup [.str "abs",x.d])=true;simp only[tQ,cF,cR,h1,cH];rfl
theorem Tp:∀c:Cn,tQ (c.sz+2) c.d=true
 |.cmp s x y=>by have h1:=Ea _ (x.sz+y.sz+2) _ (by omega) (JF x);have h2:=Ea _ (x.sz+y.sz+2) _ (by omega) (JF y);show tQ ((x.sz+y.sz+2)+1) (.tup [.str<|cg s,x.d,y.d])=true;simp only[tQ,cF,cR,h1,h2,cH];rfl
 |.not c=>by have h1:=Tp c;show tQ ((c.sz+2)+1) (.tup [.str "not",c.d])=true;simp only[tQ,cF,cR,h1,cH];rfl
 |.two s x y=>by have h1:=Ea _ (x.sz+y.sz+2) _ (by omega) (Tp x);have h2:=Ea _ (x.sz+y.sz+2) _ (by omega) (Tp y);show tQ ((x.sz+y.sz+2)+1) (.tup [.str<|cw s,x.d,y.d])=true;simp only[tQ,cF,cR,h1,h2,cH];rfl
theorem JG:∀n (t:Tm),qj n t.d=true
 |0,_=>rfl
 |n+1,t=>by
  cases t with
  |num p q=>
   show qj (n+1) (.tup [.str "num",WC.pr p q])=true;cases n with
   |zero=>rfl
   |succ n=>cases n<;>rfl
  |here=>show qj (n+1) (.tup [.str "here"])=true;cases n<;>rfl
  |pN w k=>show qj (n+1) (.tup [.str<|wd w,.int k])=true;cases n<;>rfl
  |«at» m=>show qj (n+1) (.tup [.str "at",.str<|jz m])=true;cases n<;>rfl
  |bin s x y=>
   have h1:=JG n x;have h2:=JG n y;have h3:qj n (.str<|sg s)=true:=by cases n<;>rfl
   show qj (n+1) (.tup [.str<|sg s,x.d,y.d])=true;simp only[qj,cF,cR,h1,h2,h3,cH];rfl
  |times p q x=>
   have h1:=JG n x;have h3:qj n (.str "times")=true:=by cases n<;>rfl
   have h4:qj n (WC.pr p q)=true:=by
    cases n with
    |zero=>rfl
    |succ n=>cases n<;>rfl
   show qj (n+1) (.tup [.str "times",WC.pr p q,x.d])=true;simp only[qj,cF,cR,h1,h3,h4,cH];rfl
  |abs x=>
   have h1:=JG n x;have h3:qj n (.str "abs")=true:=by cases n<;>rfl
   show qj (n+1) (.tup [.str "abs",x.d])=true;simp only[qj,cF,cR,h1,h3,cH];rfl
theorem Tu:∀n (c:Cn),qj n c.d=true
 |0,_=>rfl
 |n+1,c=>by
  cases c with
  |cmp s x y=>
   have h1:=JG n x;have h2:=JG n y;have h3:qj n (.str<|cg s)=true:=by cases n<;>rfl
   show qj (n+1) (.tup [.str<|cg s,x.d,y.d])=true;simp only[qj,cF,cR,h1,h2,h3,cH];rfl
  |not c=>
   have h1:=Tu n c;have h3:qj n (.str "not")=true:=by cases n<;>rfl
   show qj (n+1) (.tup [.str "not",c.d])=true;simp only[qj,cF,cR,h1,h3,cH];rfl
  |two s x y=>
   have h1:=Tu n x;have h2:=Tu n y;have h3:qj n (.str<|cw s)=true:=by cases n<;>rfl
   show qj (n+1) (.tup [.str<|cw s,x.d,y.d])=true;simp only[qj,cF,cR,h1,h2,h3,cH];rfl
def ajv(x y:Cn)(hy:y.sz<=30):∃b,t8 (λF ds=>jM<|pW a F<|jP 2 ds) 60 [x.d,y.d]=.ok (.bl b)/\(b=true↔x.d=y.d):=
 acT 60 _ _ (Tu 60 x) (Ea _ 60 _ (by omega)<|Tp y)
end Ac
namespace WS
open PySem L2 P2 WP WR WC TM T2 PySem.NumText
def GP(k b:Nat):Pr->Prop
 |.ok _ _ k' b'=>k<=k'/\k'<=30/\b'=b
 |.no=>True
 |.bad=>False
def Nb(F:PF)(k b:Nat):Prop:=∀r,GP k b (F r k b)
section
variable{k b:Nat}
def Gb{f:D->PF}(hx:GP k b x)(hf:∀d r k',k<=k'->k'<=30->GP k' b (f d r k' b)):GP k b (pH x f):=by
 cases x with
 |ok d r k' b'=>
  obtain⟨h1,h2,rfl⟩:=hx;have:=hf d r k' h1 h2;show GP k b' (f d r k' b');cases e:f d r k' b' with
  |ok d2 r2 k2 b2=>rw[e]at this;exact⟨aJ h1 this.1,this.2⟩
  |no=>trivial
  |bad=>rw[e]at this;exact this
 |no=>trivial
 |bad=>exact hx
def Rr{g}(hx:GP k b x):GP k b (tK g x):=Gb hx λd r k' h1 h2=>⟨aB _,h2,rfl⟩
def aer(h:k0<=k)(hx:GP k b x):GP k0 b x:=by
 cases x with
 |ok d r k' b'=>exact⟨aJ h hx.1,hx.2⟩
 |no=>trivial
 |bad=>exact hx
def Ar{f:Tk->List Tk->Pr}(hf:∀t s,GP k b<|f t s):GP k b (tk r f):=by
 cases r with
 |nil=>trivial
 |cons t s=>exact hf t s
def uK{y}(hx:c=true->GP k b x)(hy:c=false->GP k b y):GP k b (bif c then x else y):=by
 cases c with
 |true=>exact hx rfl
 |false=>exact hy rfl
def Xi{f:List Tk->Pr}(hf:∀s,GP k b<|f s):GP k b (xp c r f):=Ar λt s=>uK (λ_=>hf s) λ_=>trivial
def I9{f:Nat->Pr}(hf:k<=29->GP (k+1) b (f<|k+1)):GP k b (bg k f):=uK (λh=>aer (eU k)<|hf<|bK h) λ_=>trivial
def Xh{α:Type}{o:Option α}{f:α->Pr}(hf:∀v,GP k b<|f v):GP k b (opt o f):=by
 cases o with
 |none=>trivial
 |some v=>exact hf v
def Ja{d}(h:k<=30):GP k b (.ok d r k b):=⟨aB _,h,rfl⟩
def alm{d}(h:k<=30):GP k b (lv c d r k<|b+1):=Ar λt s=>uK (λ_=>⟨aB _,h,rfl⟩) λ_=>trivial
def aep(hF:b<=15->Nb F k (b+1)):GP k b (en c r b λr b=>pH (F r k b) λd r k b=>lv e d r k b):=
 Ar λt s=>uK (λ_=>uK (λhb=>by
  have:=hF (bK hb) s;show GP k b (pH (F s k<|b+1) λd r k b=>lv e d r k b);cases q:F s k (b+1)with
  |ok d r k' b'=>rw[q]at this;obtain⟨h1,h2,rfl⟩:=this;exact aer h1 (alm h2)
  |no=>trivial
  |bad=>rw[q]at this;exact this.elim) λ_=>trivial) λ_=>trivial
theorem aeq(hb:∀k',k<=k'->k'<=30->Nb F k' b):∀m d r k',k<=k'->k'<=30->31<=m+k'->GP k' b (wM F m d r k' b)
 |0,d,r,k',h1,h2,h3=>by omega
 |m+1,d,r,k',h1,h2,h3=>uK (λ_=>Ar λt s=>I9 λMt=>Gb (hb (k'+1) (by omega) (by omega) s) λe r2 k2 h4 h5=>aeq hb m _ r2 k2 (by omega) h5<|by omega) λ_=>Ja h2
theorem Xg{w}(hb:∀k',k<=k'->k'<=30->Nb F k' b):∀m d r k',k<=k'->k'<=30->31<=m+k'->GP k' b (rZ w s F m d r k' b)
 |0,d,r,k',h1,h2,h3=>by omega
 |m+1,d,r,k',h1,h2,h3=>uK (λ_=>Xi λs=>I9 λMt=>Gb (hb (k'+1) (by omega) (by omega) s) λe r2 k2 h4 h5=>Xg hb m _ r2 k2 (by omega) h5<|by omega) λ_=>Ja h2
end
theorem Bj:∀(n k b:Nat),k<=30->b<=16->(4*(16 - b)+4<=n->Nb (f0 n).su k b)/\(4*(16 - b)+3<=n->Nb (f0 n).pr k b)/\(4*(16 - b)+2<=n->Nb (f0 n).sg k b)/\(4*(16 - b)+1<=n->Nb (f0 n).br k b)
 |0,k,b,hk,hb=>⟨λh=>by omega,λh=>by omega,λh=>by omega,λh=>by omega⟩
 |n+1,k,b,hk,hb=>by
  refine⟨λh r=>?_,λh r=>?_,λh r=>?_,λh r=>?_⟩;·exact Gb ((Bj n k b hk hb).2.1 (by omega) r) λd r k' h1 h2=>aeq (k:=k) (λk2 _ h4=>(Bj n k2 b h4 hb).2.1 (by omega)) 100 d r k' h1 h2 (by omega)
  ·exact uK (λ_=>Ar λt s=>Xh λv=>Xi λs2=>I9 λMt=>Rr<|(Bj n (k+1) b (by omega) hb).2.2.1 (by omega) s2) λ_=>(Bj n k b hk hb).2.2.1 (by omega) r
  ·refine uK (λ_=>(Bj n k b hk hb).2.2.2 (by omega) r) λ_=>I9 λMt=>Ar λw s=>?_;refine uK (λ_=>Ja<|by omega) λ_=>uK (λ_=>Ar λt s2=>Xh λv=>Ja<|by omega) λ_=>uK (λ_=>Ar λt s2=>uK (λ_=>Ja<|by omega) λ_=>trivial) λ_=>uK (λ_=>Rr<|(Bj n (k+1) b (by omega) hb).2.2.2 (by omega) s) λ_=>Xh λv=>Ja (by omega)
  ·exact aep λh15=>(Bj n k (b+1) hk<|by omega).1 (by omega)
def anN{k}(hk:k<=30)(hb:b<=16):Nb (GK (f0 75).su) k b:=λr=>I9 λMt=>Gb ((Bj 75 (k+1) b (by omega) hb).1 (by omega) r) λd r2 k2 h1 h2=>Ar λs r3=>uK (λ_=>Rr<|(Bj 75 k2 b h2 hb).1 (by omega) r3) λ_=>trivial
theorem Gw:∀n k b,k<=30->b<=16->(3*(16 - b)+(30 - k)+3<=n->Nb (f1 n).or k b)/\(3*(16 - b)+(30 - k)+2<=n->Nb (f1 n).and k b)/\(3*(16 - b)+(30 - k)+1<=n->Nb (f1 n).not k b)
 |0,k,b,hk,hb=>⟨λh=>by omega,λh=>by omega,λh=>by omega⟩
 |n+1,k,b,hk,hb=>by
  refine⟨λh r=>?_,λh r=>?_,λh r=>?_⟩;·exact Gb ((Gw n k b hk hb).2.1 (by omega) r) λd r k' h1 h2=>Xg (k:=k) (λk2 _ h4=>(Gw n k2 b h4 hb).2.1 (by omega)) 100 d r k' h1 h2 (by omega)
  ·exact Gb ((Gw n k b hk hb).2.2 (by omega) r) λd r k' h1 h2=>Xg (k:=k) (λk2 _ h4=>(Gw n k2 b h4 hb).2.2 (by omega)) 100 d r k' h1 h2 (by omega)
  ·exact uK (λ_=>Xi λs=>I9 λMt=>Rr<|(Gw n (k+1) b (by omega) hb).2.2 (by omega) s) λ_=>uK (λ_=>aep λh15=>(Gw n k (b+1) hk<|by omega).1 (by omega)) λ_=>anN hk hb r
def apv(cs):parse cs≠.bad:=λe=>by
 have h:=(Gw 85 0 0 (by omega)<|by omega).1 (by omega) (lK cs);unfold parse pEnd at e;cases q:(f1 85).or (lK cs) 0 0 with
 |ok d r k b=>rw[q]at e;cases r<;>cases e
 |no=>rw[q]at e;cases e
 |bad=>rw[q]at h;exact h
open Builtin.Str
theorem ae4(c):∀l:List Nat,(kZ c l).length=(l.filter λx=>x==c).length+1
 |[]=>by simp[kZ]
 |x::r=>by
  have:=ae4 c r;by_cases e:x=c;·subst e;rw[yD,ak,this,cj,au<|by simp,ak]
  ·cases q:kZ c r with
   |nil=>exact absurd q (G9 c r)
   |cons p ps=>rw[q]at this;rw[Bw e q,cj,aA<|by simpa using e,<-this];rfl
def akm(x c):Txt.count x ⟨#[c]⟩=(((jB x).filter λy=>y==c).length:Nat):=by
 have h0:=ae4 c (jB x);rw[<-abn,az]at h0;unfold Txt.count
 congr 1
 by_cases he:(occurrences x ⟨#[c]⟩ 0 x.length<|x.length+1).isEmpty=true
 ·have hs:Txt.split x ⟨#[c]⟩=[x]:=by
   unfold Txt.split;split;·rfl
   ·first|rfl|rw[au he]
  rw[hs]at h0;have:(occurrences x ⟨#[c]⟩ 0 x.length<|x.length+1).length=0:=by rw[List.isEmpty_iff.mp he];rfl
  rw[bF]at h0;omega
 ·have hc:¬(decide (x.length<(⟨#[c]⟩:Str).length)||decide (strKind x<strKind ⟨#[c]⟩))=true:=λhc=>by
   obtain⟨f,h⟩:=StrLaws.occ_chain x ⟨#[c]⟩ (x.length+1);cases ho:occurrences x ⟨#[c]⟩ 0 x.length (x.length+1)with
   |nil=>rw[ho]at he;exact he rfl
   |cons i r=>rw[ho]at h;have hm:=(StrLaws.subAt_one x c i).mp h.2.1;have hin:c∈x.cps.toList:=eV hm;exact StrLaws.split_free x c x (by unfold Txt.split;rw[au hc];exact List.mem_singleton.mpr rfl) hin
  have hs:Txt.split x ⟨#[c]⟩=partsBetween x (occurrences x ⟨#[c]⟩ 0 x.length<|x.length+1) 1:=by unfold Txt.split;rw[aA hc,aA he];rfl
  rw[hs,PySem.length_partsBetween]at h0;omega
def cnt(c:Nat)(l:List Nat):Nat:=(l.filter λy=>y==c).length
def sY(c x y):cnt c (x++y)=cnt c x+cnt c y:=by unfold cnt;rw[du,aq]
structure um(x:List Nat):Prop where
 r:cnt 40 x=cnt 41 x
 s:cnt 91 x=cnt 93 x
def um.app{y}(hx:um x)(hy:um y):um (x++y):=⟨by rw[sY,sY,hx.r,hy.r],by rw[sY,sY,hx.s,hy.s]⟩
def cnt_none(h:c∉x):cnt c x=0:=by unfold cnt;rw[List.filter_eq_nil_iff.mpr λy hy e=>h<|by rw[<-eq_of_beq e];exact hy];rfl
def Aj(h:∀c∈x,oh c=false/\isC c=false):um x:=by
 have n1:∀c,oh c=true\/isC c=true->cnt c x=0:=λc hc=>cnt_none λhx=>by
  obtain⟨h1,h2⟩:=h c hx;rcases hc with e|e;·rw[h1]at e;cases e
  ·rw[h2]at e;cases e
 exact⟨by rw[n1 40<|by decide,n1 41<|by decide],by rw[n1 91<|by decide,n1 93<|by decide]⟩
def HJ(h:∀c∈x,nF c=true):um x:=Aj λc hc=>ag1 (h c hc)
def zc(h:oh c=false/\isC c=false)(hx:um x):um (c::x):=(Aj (x:=[c]) λd hd=>by rw[List.mem_singleton.mp hd];exact h).app hx
def ac2(hx:um x):um (40::(x++[41])):=by
 have e:(40::(x++[41]))=[40]++(x++[41]):=rfl;rw[e];refine⟨?_,?_⟩;·rw[sY,sY,sY,sY,hx.r,show cnt 40 [40]=1 from rfl,show cnt 41 [40]=0 from rfl,show cnt 40 [41]=0 from rfl,show cnt 41 [41]=1 from rfl];omega
 ·rw[sY,sY,sY,sY,hx.s];rfl
def ajM(hx:um x):um (91::(x++[93])):=by
 have e:(91::(x++[93]))=[91]++(x++[93]):=rfl;rw[e];refine⟨?_,?_⟩;·rw[sY,sY,sY,sY,hx.r];rfl
 ·rw[sY,sY,sY,sY,hx.s,show cnt 91 [91]=1 from rfl,show cnt 93 [91]=0 from rfl,show cnt 91 [93]=0 from rfl,show cnt 93 [93]=1 from rfl];omega
def ac1(b)(hx:um x):um (WC.brk 40 41 b x):=by
 unfold WC.brk;split;·exact ac2 hx
 ·exact hx
def VN(b)(hx:um x):um (WC.brk 91 93 b x):=by
 unfold WC.brk;split;·exact ajM hx
 ·exact hx
theorem HN:∀{t:Tm},t.Ok->um t.tx
 |.num p q,h=>HJ (Bu h)
 |.here,_=>HJ (show∀c∈jB "here",nF c=true by decide)
 |.pN w n,h=>(HJ<|abX w).app (zc (by decide)<|HJ<|by rw[Ju (show 0<=n by have h':1<=n/\n<=9:=h;omega)];exact Ef _)
 |.at m,h=>(HJ (show∀c∈jB "at",nF c=true by decide)).app (zc (by decide) (Aj λc hc=>by have:=h.2.2.1 c hc;unfold oh isC;simp;omega))
 |.bin s x y,h=>(HN h.1).app (zc (by decide)<|(Aj<|by cases s<;>decide).app (zc (by decide)<|ac1 _<|HN h.2))
 |.times p q x,h=>(HJ<|Bu h.1).app (zc (by decide)<|(Aj<|by decide).app (zc (by decide)<|ac1 _<|HN h.2))
 |.abs x,h=>by have h2:=HN (t:=x) h;have e:Tm.tx (.abs x)=[97,98,115]++(40::(x.tx++[41])):=rfl;rw[e];exact(Aj<|by decide).app (ac2 h2)
theorem Qp:∀{c:Cn},c.Ok->um c.tx
 |.cmp s x y,h=>(HN h.1).app (zc (by decide)<|(Aj<|by cases s<;>decide).app (zc (by decide)<|HN h.2))
 |.not c,h=>(Aj<|by decide).app (VN _<|Qp (c:=c) h)
 |.two s c e,h=>(VN _<|Qp h.1).app (zc (by decide)<|(Aj<|by cases s<;>decide).app (zc (by decide)<|VN _<|Qp h.2))
def mY(x:List Nat):Prop:=∀c∈x,c<=127
def mY.app{y}(hx:mY x)(hy:mY y):mY (x++y):=λc hc=>(List.mem_append.mp hc).elim (hx c) (hy c)
def mY.cons{c:Nat}{x:List Nat}(h:c<=127)(hx:mY x):mY (c::x):=λd hd=>(List.mem_cons.mp hd).elim (λe=>by rw[e];exact h) (hx d)
def Hz(h:∀c∈x,nF c=true):mY x:=λc hc=>by have:=h c hc;unfold nF at this;simp only[bM,aK,cV]at this;omega
def K1(ho:o<=127)(hc:c<=127)(b)(hx:mY x):mY (WC.brk o c b x):=by
 unfold WC.brk;split;·exact(hx.app<|mY.cons hc<|λ_ h=>by cases h).cons ho
 ·exact hx
theorem HB:∀{t:Tm},t.Ok->mY t.tx
 |.num p q,h=>Hz (Bu h)
 |.here,_=>Hz (show∀c∈jB "here",nF c=true by decide)
 |.pN w n,h=>(Hz<|abX w).app (mY.cons (by decide)<|Hz<|by rw[Ju (show 0<=n by have h':1<=n/\n<=9:=h;omega)];exact Ef _)
 |.at m,h=>(Hz (show∀c∈jB "at",nF c=true by decide)).app (mY.cons (by decide) λc hc=>by have:=h.2.2.1 c hc;omega)
 |.bin s x y,h=>(HB h.1).app (mY.cons (by decide)<|(show mY (jB<|sg s)by cases s<;>(unfold mY;decide)).app (mY.cons (by decide)<|K1 (by decide) (by decide) _<|HB h.2))
 |.times p q x,h=>(Hz<|Bu h.1).app (mY.cons (by decide)<|(show mY [42]by unfold mY;decide).app (mY.cons (by decide)<|K1 (by decide) (by decide) _<|HB h.2))
 |.abs x,h=>(show mY [97,98,115,40]by unfold mY;decide).app ((HB (t:=x) h).app (show mY [41]by unfold mY;decide))
theorem K3:∀{c:Cn},c.Ok->mY c.tx
 |.cmp s x y,h=>(HB h.1).app (mY.cons (by decide)<|(show mY (jB<|cg s)by cases s<;>(unfold mY;decide)).app (mY.cons (by decide)<|HB h.2))
 |.not c,h=>(show mY [110,111,116,32]by unfold mY;decide).app (K1 (by decide) (by decide) _<|K3 (c:=c) h)
 |.two s c e,h=>(K1 (by decide) (by decide) _<|K3 h.1).app (mY.cons (by decide)<|(show mY (jB<|cw s)by cases s<;>(unfold mY;decide)).app (mY.cons (by decide)<|K1 (by decide) (by decide) _<|K3 h.2))
def apu{c:Cn}(h:c.Ok)(hz:c.sz<=30)(ho:qx c<=3)(e:lK cs=[91]::(mX c++[[93]])):parse cs=.ok c.d [] c.sz 0:=by
 have kw:=Gq h;have hb:=adb hz ho;obtain⟨_,_,_,_,OO⟩:=V7 (c.sz+1) c (b8 _) h kw;have fu:=(aec c).1;obtain⟨m1,m2,m3⟩:=QQ [];have h1:(f1 82).or (mX c++[93]::[]) 0 1=.ok c.d ([93]::[]) (0+c.sz) 1:=OO _ 0 1 82 (by omega) (by omega) (by omega) m1 m2 m3;rw[Nat.zero_add]at h1;have h2:=Qv (n:=82) (x:=mX c) (r:=[]) (k:=0) (b:=0) (by omega) h1;have h3:(f1 83).not ([91]::(mX c++[[93]])) 0 0=.ok c.d [] c.sz 0:=by rw[bz]at h2;exact h2
 have h4:(f1 84).and ([91]::(mX c++[[93]])) 0 0=.ok c.d [] c.sz 0:=by show pH ((f1 83).not ([91]::(mX c++[[93]])) 0 0) _=_;rw[h3];rfl
 have h5:(f1 85).or ([91]::(mX c++[[93]])) 0 0=.ok c.d [] c.sz 0:=by show pH ((f1 84).and ([91]::(mX c++[[93]])) 0 0) _=_;rw[h4];rfl
 unfold parse;rw[e,h5];rfl
end WS
namespace Ac
open PySem L2 P2 WP WR WC WS TM T2 PySem.NumText
variable{a:Ad}
def tZ(cs:List Nat)(i j:Nat):List Nat:=cs.take i++(cs.drop<|i+1).take (j - (i+1))++cs.drop (j+1)
def Yv(h:jB x=l):x=jz l:=by rw[<-h,uN]
def atd{cs:List Nat}(h:i<=cs.length):Txt.slice (jz cs) none (some (i:Int))=jz (cs.take i):=by
 refine Yv ?_;rw[Qz,uX];have e1:sx cs.length 0 none=0:=rfl;have e2:sx cs.length cs.length (some (i:Int))=i:=by show(if(i:Int)<0 then((i:Int)+(cs.length:Int)).toNat else min (i:Int).toNat cs.length)=i;rw[aA<|by omega,dJ];omega
 rw[e1,e2];rfl
def ate{cs:List Nat}(h:i<j)(hj:j<=cs.length):Txt.slice (jz cs) (some<|(i:Int)+1) (some (j:Int))=jz ((cs.drop<|i+1).take (j - (i+1))):=by
 refine Yv ?_;rw[Qz,uX];have e1:sx cs.length 0 (some<|(i:Int)+1)=i+1:=by show(if(i:Int)+1<0 then((i:Int)+1+(cs.length:Int)).toNat else min ((i:Int)+1).toNat cs.length)=i+1;rw[aA<|by omega];omega
 have e2:sx cs.length cs.length (some (j:Int))=j:=by show(if(j:Int)<0 then((j:Int)+(cs.length:Int)).toNat else min (j:Int).toNat cs.length)=j;rw[aA<|by omega,dJ];omega
 rw[e1,e2]
def atf{cs:List Nat}(hj:j<cs.length):Txt.slice (jz cs) (some<|(j:Int)+1) none=jz (cs.drop<|j+1):=by
 refine Yv ?_;rw[Qz,uX];have e1:sx cs.length 0 (some<|(j:Int)+1)=j+1:=by show(if(j:Int)+1<0 then((j:Int)+1+(cs.length:Int)).toNat else min ((j:Int)+1).toNat cs.length)=j+1;rw[aA<|by omega];omega
 have e2:sx cs.length cs.length none=cs.length:=rfl;rw[e1,e2];exact iV (by rw[cT];exact aB _)
def ajP{cs:List Nat}(h:i<j)(hj:j<cs.length)(hi:∃c,cs[i]?=some c/\oh c=true)(hc:∃c,cs[j]?=some c/\isC c=true):nP (tZ cs i j)+1=nP cs:=by
 obtain⟨x,hx,ox⟩:=hi;obtain⟨y,hy,cy⟩:=hc;have oy:oh y=false:=by
  cases e:oh y with
  |false=>rfl
  |true=>rw[afD e]at cy;cases cy
 have e1:cs=cs.take i++x::cs.drop (i+1):=by
  have:=je i cs;rw[cD<|show i<cs.length by omega]at this;have R1:cs[i]'(by omega)=x:=by rw[aN<|by omega]at hx;exact Option.some.inj hx
  rw[R1]at this;exact this.symm
 have e2:cs.drop (i+1)=(cs.drop<|i+1).take (j - (i+1))++y::cs.drop (j+1):=by
  have:=je (j - (i+1)) (cs.drop<|i+1);rw[List.drop_drop,show i+1+(j - (i+1))=j by omega,cD hj]at this;have hy2:cs[j]=y:=by rw[aN hj]at hy;exact Option.some.inj hy
  rw[hy2]at this;exact this.symm
 have e3:nP cs=nP (cs.take i)+(1+(nP ((cs.drop<|i+1).take (j - (i+1)))+nP (cs.drop<|j+1))):=by
  conv=>lhs;rw[e1,tL,GD,e2,tL,GD]
  have ox':(x==40||x==91)=true:=ox;have oy':(y==40||y==91)=false:=oy;rw[au ox',aA<|by rw[oy'];decide];omega
 rw[e3];unfold tZ;rw[tL,tL];omega
def ajO(cs:List Nat)(i j)(h:i<j)(hj:j<cs.length):(tZ cs i j).length<=cs.length:=by unfold tZ;simp only[aq,cM,cT];omega
def ajN(h:mY cs)(i j):mY (tZ cs i j):=λc hc=>by
 unfold tZ at hc;rcases List.mem_append.mp hc with hc|hc
 ·rcases List.mem_append.mp hc with hc|hc;·exact h c (gw hc)
  ·exact h c (gr<|gw hc)
 ·exact h c (gr hc)
def ahS(h:t∈lK cs):t.length<=cs.length+1:=
 auD (l:=cs) (List.mem_filter.mp<|show t∈(kZ 32<|cs.flatMap mF).filter λt=>!t.isEmpty from h).1
abbrev Vr(a:Ad)(Fr:jO):Prop:=∀cs:List Nat,cs.length<=30000->mY cs->(∀t∈lK cs,t.length<=1000)->afN a (parse cs) (Fr [tS cs])
abbrev U8(rJ:jO):Prop:=∀x y:Cn,y.sz<=30->∃b,rJ [x.d,y.d]=.ok (.bl b)/\(b=true↔x.d=y.d)
def anM{cs:List Nat}(hl:cs.length<=5000)(h:i<j)(hj:j<cs.length)(s2 s3 s4):(d2 jT (d2 jT (qT qI (dV 0) (λ_=>.ok none)<|λρ=>((d2 jR (dV 1)<|dC<|.int 0) ρ).bind pI)<|qT qI (dV 0) (λρ=>((d2 jT (d2 jR (dV 1)<|dC<|.int 0)<|dC<|.int 1) ρ).bind pI)<|λρ=>((d2 jR (dV 1)<|dC<|.int 1) ρ).bind pI)<|qT qI (dV 0) (λρ=>((d2 jT (d2 jR (dV 1)<|dC<|.int 1)<|dC<|.int 1) ρ).bind pI)<|λ_=>.ok none) [.sh<|.str<|jz cs,.sh<|pairD (i,j),s2,s3,s4]=.ok (.str<|jz<|tZ cs i j):=by
 have sl:=cX;have lz:(jz cs).length<=sizeLine:=by rw[yw];omega
 have i0:(d2 jR (dV 1)<|dC<|.int 0) [.sh<|.str<|jz cs,.sh<|pairD (i,j),s2,s3,s4]=.ok (.int (i:Int)):=rfl;have i1:(d2 jR (dV 1)<|dC<|.int 1) [.sh<|.str<|jz cs,.sh<|pairD (i,j),s2,s3,s4]=.ok (.int (j:Int)):=rfl;have x1:(qT qI (dV 0) (λ_=>.ok none)<|λρ=>((d2 jR (dV 1)<|dC<|.int 0) ρ).bind pI) [.sh<|.str<|jz cs,.sh<|pairD (i,j),s2,s3,s4]=.ok (.str<|jz<|cs.take i):=by rw[N5,xG,jX,i0];show(if(jz cs).length<=sizeLine then R.ok (D.str<|Txt.slice (jz cs) none<|some (i:Int))else .bad)=_;rw[au lz,atd<|by omega]
 have x2:(qT qI (dV 0) (λρ=>((d2 jT (d2 jR (dV 1)<|dC<|.int 0)<|dC<|.int 1) ρ).bind pI)<|λρ=>((d2 jR (dV 1)<|dC<|.int 1) ρ).bind pI) [.sh<|.str<|jz cs,.sh<|pairD (i,j),s2,s3,s4]=.ok (.str<|jz<|(cs.drop<|i+1).take (j - (i+1))):=by rw[N5,xG,jX,qY,i0,i1];show(if(jz cs).length<=sizeLine then R.ok (D.str<|Txt.slice (jz cs) (some<|(i:Int)+1)<|some (j:Int))else .bad)=_;rw[au lz,ate h<|by omega]
 have x3:(qT qI (dV 0) (λρ=>((d2 jT (d2 jR (dV 1)<|dC<|.int 1)<|dC<|.int 1) ρ).bind pI)<|λ_=>.ok none) [.sh<|.str<|jz cs,.sh<|pairD (i,j),s2,s3,s4]=.ok (.str<|jz<|cs.drop<|j+1):=by rw[N5,xG,jX,qY,i1];show(if(jz cs).length<=sizeLine then R.ok (D.str<|Txt.slice (jz cs) (some<|(j:Int)+1) none)else .bad)=_;rw[au lz,atf hj]
 have a1:=pU (x:=cs.take i) (y:=(cs.drop<|i+1).take (j - (i+1))) (by rw[cM];omega) (by rw[cM,cT];omega);have a2:=pU (x:=cs.take i++(cs.drop<|i+1).take (j - (i+1))) (y:=cs.drop<|j+1) (by simp only[aq,cM,cT];omega) (by rw[cT];omega);rw[qY,qY,x1,jX,x2,jX,a1,jX,x3,jX,a2];rfl
def anc(hr:Vr a Fr)(hal:U8 rJ)(mt:Dw a.oO a.NoText a.NoText=true){c:Cn}(h:c.Ok)(hz:c.sz<=30){p:Nat×Nat}(hp:p.1<p.2/\p.2<c.tx.length/\(∃x,c.tx[p.1]?=some x/\oh x=true)/\∃x,c.tx[p.2]?=some x/\isC x=true):
    jM (Ri a Fr rJ<|jP 5 [tS c.tx,pairD p,c.d])=.ok (.bl true):=by
 obtain⟨i,j⟩:=p;obtain⟨h1,h2,h3,h4⟩:=hp;have l25:=Cn.xA h;have hl:c.tx.length<=750:=by omega
 have bl:=ajO c.tx i j h1 h2;have ra:=hr (tZ c.tx i j) (by omega) (ajN (K3 h) i j) λt ht=>by have:=ahS ht;omega
 have bo:=ajP h1 h2 h3 h4;have nt:=anM (cs:=c.tx) (by omega) h1 h2 (.sh c.d) .no .no;unfold Ri;rw[show jP 5 [tS c.tx,pairD (i,j),c.d]=[.sh<|.str<|jz c.tx,.sh<|pairD (i,j),.sh c.d,.no,.no]from rfl];have s1:lR 3 (d2 jT (d2 jT (qT qI (dV 0) (λ_=>.ok none)<|λρ=>((d2 jR (dV 1)<|dC<|.int 0) ρ).bind pI)<|qT qI (dV 0) (λρ=>((d2 jT (d2 jR (dV 1)<|dC<|.int 0)<|dC<|.int 1) ρ).bind pI)<|λρ=>((d2 jR (dV 1)<|dC<|.int 1) ρ).bind pI)<|qT qI (dV 0) (λρ=>((d2 jT (d2 jR (dV 1)<|dC<|.int 1)<|dC<|.int 1) ρ).bind pI)<|λ_=>.ok none) [.sh<|.str<|jz c.tx,.sh<|pairD (i,j),.sh c.d,.no,.no]=.nx [.sh<|.str<|jz c.tx,.sh<|pairD (i,j),.sh c.d,.sh<|.str<|jz<|tZ c.tx i j,.no]:=by rw[JH,nt];rfl
 refine uQ s1 ?_;refine uQ (mO:=[.sh<|.str<|jz c.tx,.sh<|pairD (i,j),.sh c.d,.sh<|.str<|jz<|tZ c.tx i j,.sh .non]) rfl ?_;have ea:∀s4,(QF Fr<|jy (dV 3) jE) [.sh<|.str<|jz c.tx,.sh<|pairD (i,j),.sh c.d,.sh<|.str<|jz<|tZ c.tx i j,s4]=Fr [tS<|tZ c.tx i j]:=λ_=>rfl;cases q:parse (tZ c.tx i j)with
 |bad=>exact absurd q (apv _)
 |no=>
  rw[q]at ra;have ra':Fr [tS<|tZ c.tx i j]=.ex a.NoText ["row"] [.int 1]:=ra;refine uQ (mO:=[.sh<|.str<|jz c.tx,.sh<|pairD (i,j),.sh c.d,.sh<|.str<|jz<|tZ c.tx i j,.sh<|.str "refused"]) ?_ ?_
  ·unfold Oi;dsimp only;rw[ea,ra'];show(if Dw a.oO a.NoText a.NoText=true then ado _ else RT.bad)=_;rw[au mt];rfl
  ·have e1:FQ (.str<|Str.ofString "refused") (.str<|Str.ofString "refused")=.ok (.bl true):=by unfold FQ;simp
   rw[T3,TJ,qY,T6,jX,sS,jX,e1];rfl
 |ok d r k b=>
  rw[q]at ra;have ra':Fr [tS<|tZ c.tx i j]=.ok d:=ra;obtain⟨c',rfl,_⟩:=afS q;have ne:=bare h bo q;obtain⟨bb,ha,hb⟩:=hal c' c hz;have hbf:bb=false:=by
   cases bb with
   |false=>rfl
   |true=>exact absurd (hb.mp rfl) ne
  rw[hbf]at ha;refine uQ (mO:=[.sh<|.str<|jz c.tx,.sh<|pairD (i,j),.sh c.d,.sh<|.str<|jz<|tZ c.tx i j,.sh c'.d]) ?_ ?_
  ·unfold Oi;dsimp only;rw[ea,ra'];rfl
  ·have e1:FQ c'.d (.str<|Str.ofString "refused")=.ok (.bl false):=by cases c'<;>rfl
   have e2:(De<|dA rJ<|jy (dV 4)<|jy (dV 2) jE) [.sh<|.str<|jz c.tx,.sh<|pairD (i,j),.sh c.d,.sh<|.str<|jz<|tZ c.tx i j,.sh c'.d]=.ok (.bl true):=by rw[aag];show((rJ [c'.d,c.d]).bind P2.tB).bind _=_;rw[ha];rfl
   have e3:(Lb (d2 FQ (dV 4)<|dC<|.str "refused")<|De<|dA rJ<|jy (dV 4)<|jy (dV 2) jE) [.sh<|.str<|jz c.tx,.sh<|pairD (i,j),.sh c.d,.sh<|.str<|jz<|tZ c.tx i j,.sh c'.d]=.ok (.bl true):=by rw[TJ,qY,T6,jX,sS,jX,e1];exact e2
   rw[T3,e3];rfl
variable{a:Ad}
def akp{α:Type}(f)(ns:List α)(lo hi):∃ms:List α,cutD (ns.map f) lo hi=ms.map f:=by
 unfold cutD;refine⟨?_,?_⟩
 rotate_left
 ·rw[az,<-List.map_drop,<-List.map_take]
def ao(x:Int):∃w:Bool,L2.lH [D.str<|Str.ofString "and",D.str<|Str.ofString "or"] (x%2)=some (.str<|cw w):=by
 have:x%2=0\/x%2=1:=by omega
 rcases this with h|h;·exact⟨true,by rw[h];rfl⟩
 ·exact⟨false,by rw[h];rfl⟩
section
variable{Fc pG Fs Fw Fr rJ Fp Fn:jO}
def ajG{c:Cn}(hx:Fr [.str x]=.ok c.d)(hal:rJ [c.d,c.d]=.ok (.bl true)):
    K4 a Fc pG Fs Fw Fr rJ Fp Fn [s0,s1,.sh c.d,s3,s4,s5,s6,s7,.sh<|.str x,s9]=.nx [s0,s1,.sh c.d,s3,s4,s5,s6,s7,.sh<|.str x,s9]:=by
 have e:(rP<|b1 tT<|dA rJ<|jy (dA Fr<|jy (dV 8) jE)<|jy (dV 2) jE) [s0,s1,.sh c.d,s3,s4,s5,s6,s7,.sh<|.str x,s9]=.ok false:=by rw[TF,Tz,vd,pO,vd,pO,agJ,jX,tR,jX,jX,hx,jX,pO,GX,jX,tR,jX,jX,jX,hal];rfl
 unfold K4;rw[Oa,e];rfl
theorem aeV{c:Cn}{s0 s1 s3 s4 s5 s6 s7 s9:Sl}(hal:rJ [c.d,c.d]=.ok (.bl true)):∀(xs:List Str) (s8:Sl),(∀x∈xs,Fr [.str x]=.ok c.d)->
 ∃s8',wH (gV 8) (K4 a Fc pG Fs Fw Fr rJ Fp Fn) (xs.map D.str) [s0,s1,.sh c.d,s3,s4,s5,s6,s7,s8,s9]=.nx [s0,s1,.sh c.d,s3,s4,s5,s6,s7,s8',s9]
 |[],s8,_=>⟨s8,rfl⟩
 |x::xs,s8,h=>by obtain⟨s8',g⟩:=aeV hal xs (.sh<|.str x) λy hy=>h y (.tail _ hy);refine⟨s8',?_⟩;rw[aR,aaj];show turnT (K4 a Fc pG Fs Fw Fr rJ Fp Fn [s0,s1,.sh c.d,s3,s4,s5,s6,s7,.sh<|.str x,s9]) _=_;rw[ajG (h x<|.head _) hal,T5];exact g
def ajH{c:Cn}(h:Fn [tS c.tx,pairD p,c.d]=.ok (.bl true)):
    K5 a Fc pG Fs Fw Fr rJ Fp Fn [s0,s1,.sh c.d,.sh<|tS c.tx,s4,s5,s6,s7,s8,.sh<|pairD p]=.nx [s0,s1,.sh c.d,.sh<|tS c.tx,s4,s5,s6,s7,s8,.sh<|pairD p]:=by
 have e:(rP<|b1 tT<|dA Fn<|jy (dV 3)<|jy (dV 9)<|jy (dV 2) jE) [s0,s1,.sh c.d,.sh<|tS c.tx,s4,s5,s6,s7,s8,.sh<|pairD p]=.ok false:=by rw[TF,Tz,vd,pO,Ob,jX,pO,agK,jX,pO,GX,jX,tR,jX,jX,jX,jX,h];rfl
 unfold K5;rw[Oa,e];rfl
theorem aeW{c:Cn}{s0 s1 s4 s5 s6 s7 s8:Sl}:∀(ps:List<|Nat×Nat) (s9:Sl),(∀p∈ps,Fn [tS c.tx,pairD p,c.d]=.ok (.bl true))->
 ∃s9',wH (gV 9) (K5 a Fc pG Fs Fw Fr rJ Fp Fn) (ps.map pairD) [s0,s1,.sh c.d,.sh<|tS c.tx,s4,s5,s6,s7,s8,s9]=.nx [s0,s1,.sh c.d,.sh<|tS c.tx,s4,s5,s6,s7,s8,s9']
 |[],s9,_=>⟨s9,rfl⟩
 |p::ps,s9,h=>by obtain⟨s9',g⟩:=aeW ps (.sh<|pairD p) λy hy=>h y (.tail _ hy);refine⟨s9',?_⟩;rw[aR,aaj];show turnT (K5 a Fc pG Fs Fw Fr rJ Fp Fn [s0,s1,.sh c.d,.sh<|tS c.tx,s4,s5,s6,s7,s8,.sh<|pairD p]) _=_;rw[ajH<|h p<|.head _,T5];exact g
def QD(x z c)(hz:z=⟨#[c]⟩):rn (.str<|jz x) [.str z]=.ok (.int (cnt c x:Nat)):=by show R.ok (D.int<|Txt.count (jz x) z)=_;rw[hz,akm];rfl
def am4(hc:∀(ns:List Int) (k:Nat),Fc [.lst<|ns.map .int,.int k]=.ok (.int<|ns.getD k 0))
    (hco:∀(h:Int) (ns:List Int) (w:Bool),∃c:Cn,(c.Ok/\qx c<=3)/\c.sz<=30/\pG [.int h,.lst<|ns.map .int,.str<|cw w]=.ok (j7 c))
    (hs:∀c:Cn,c.Ok->c.sz<=30->Fs [c.d]=.ok (.str<|jz c.tx))
    (hw:∀(cs:List Nat) (n:Int),cs.length<=5000->Fw [tS cs,.int n]=.ok (tS<|vh cs n))(hr:Vr a Fr)(hal:U8 rJ)
    (hp:∀cs:List Nat,cs.length<=5000->Dy cs->∃qs:List<|Nat×Nat,(∀p∈qs,p.1<p.2/\p.2<cs.length/\(∃c,cs[p.1]?=some c/\oh c=true)/\∃c,cs[p.2]?=some c/\isC c=true)/\qs.length<=cs.length/\Fp [tS cs]=.ok (.lst<|qs.map pairD))
    (hn:∀c:Cn,c.Ok->c.sz<=30->∀p:Nat×Nat,(p.1<p.2/\p.2<c.tx.length/\(∃x,c.tx[p.1]?=some x/\oh x=true)/\∃x,c.tx[p.2]?=some x/\isC x=true)->Fn [tS c.tx,pairD p,c.d]=.ok (.bl true))(ns:List Int):
    jM (W9 a Fc pG Fs Fw Fr rJ Fp Fn<|jP 10 [.lst<|ns.map .int])=.ok (.bl true):=by
 have c0:Fc [.lst<|ns.map .int,.int 0]=.ok (.int<|ns.getD 0 0):=hc ns 0;have c1:Fc [.lst<|ns.map .int,.int 1]=.ok (.int<|ns.getD 1 0):=hc ns 1;obtain⟨ms,hm⟩:=akp D.int ns (some 2) none;obtain⟨w,hw'⟩:=ao (ns.getD 1 0);obtain⟨c,⟨cO,cv⟩,cz,e1⟩:=hco (ns.getD 0 0) ms w;have e2:=hs c cO cz;have l25:=Cn.xA cO;have hl:c.tx.length<=750:=by omega
 have hsl:=aty c.tx (ns.getD 1 0);have e3:=hw c.tx (ns.getD 1 0) (by omega);have asc:=K3 cO;have sl:=cX;have tl:∀t∈mX c,t.length<=1000:=λt ht=>by rw[<-OD cO (Gq cO)]at ht;have:=ahS ht;omega
 have tx:lK c.tx=mX c:=OD cO (Gq cO);have aaO:mY (vh c.tx<|ns.getD 1 0):=λd hd=>by
  rcases atz _ _ hd with h|h;·exact asc d h
  ·omega
 have st:lK (vh c.tx<|ns.getD 1 0)=mX c:=by have:=atA c.tx (ns.getD 1 0) [];rw[bV,bV]at this;rw[this,tx]
 have rd:∀cs:List Nat,cs.length<=30000->mY cs->lK cs=mX c->Fr [tS cs]=.ok c.d:=λcs h1 h2 h3=>by have:=hr cs h1 h2 (by rw[h3];exact tl);rw[apw cO cz cv h3]at this;exact this
 have alk:rJ [c.d,c.d]=.ok (.bl true):=by obtain⟨b,h1,h2⟩:=hal c c cz;rw[h2.mpr rfl]at h1;exact h1
 obtain⟨i0,_⟩:=By (d:=c.d) (x:=c.tx) (r:=c.rk);have M3:jR (j7 c) (.int 0)=.ok c.d:=i0;obtain⟨z,z1,z2,z3,z4⟩:=agU [43,45,42,60,61] (by decide) (jz c.tx) (by rw[yw];omega);rw[uX]at z2 z3 z4;have zr:Fr [.str z]=.ok c.d:=by have:=rd (jB z) (by omega) (λd hd=>asc d<|z4 d hd) (by rw[z2,tx]);rw[show tS (jB z)=.str z by show D.str (jz (jB z))=_;rw[uN]]at this;exact this
 obtain⟨qs,q1,q2,q3⟩:=hp c.tx (by omega) (QL cO);have bal:=Qp cO;have k1:=QD c.tx (Str.ofString "(") 40 (by decide);have k2:=QD c.tx (Str.ofString ")") 41 (by decide);have k3:=QD c.tx (Str.ofString "[") 91 (by decide);have k4:=QD c.tx (Str.ofString "]") 93 (by decide);rw[<-bal.r]at k2;rw[<-bal.s]at k4;generalize cnt 40 c.tx=n1 at k1 k2;generalize cnt 91 c.tx=n2 at k3 k4;unfold W9;rw[show jP 10 [.lst<|ns.map .int]=[.sh<|.lst<|ns.map .int,.no,.no,.no,.no,.no,.no,.no,.no,.no]from rfl];have l2:2<=sizeLine:=by decide
 have p1:lR 1 (dA pG<|jy (dA Fc<|jy (dV 0)<|jy (dC<|.int 0) jE)<|jy (qT qI (dV 0) (λρ=>((dC<|.int 2) ρ).bind pI)<|λ_=>.ok none)<|jy (d2 jR (rO<|λρ=>((jy (dC<|.str "and")<|jy (dC<|.str "or") jE) ρ).bind tD)<|d2 o6 (dA Fc<|jy (dV 0)<|jy (dC<|.int 1) jE)<|dC<|.int 2) jE) [.sh<|.lst<|ns.map .int,.no,.no,.no,.no,.no,.no,.no,.no,.no]=.nx [.sh<|.lst<|ns.map .int,.sh<|j7 c,.no,.no,.no,.no,.no,.no,.no,.no]:=by generalize j7 c=T at*;generalize ns.getD 0 0=n0 at*;generalize ns.getD 1 0=m1 at*;iterate 9 (walk_at "d";try simp only[c0,c1,hm,hw',e1,au l2])
 refine uQ p1 ?_;refine uQ (mO:=[.sh<|.lst<|ns.map .int,.sh<|j7 c,.sh c.d,.no,.no,.no,.no,.no,.no,.no]) (by rw[JH,qY,Bs,jX,sS,jX,M3];rfl) ?_;refine uQ (mO:=[.sh<|.lst<|ns.map .int,.sh<|j7 c,.sh c.d,.sh<|tS c.tx,.no,.no,.no,.no,.no,.no]) (by rw[JH,vd,pO,GX,jX,tR,jX,jX,e2];rfl) ?_;refine uQ (mO:=[.sh<|.lst<|ns.map .int,.sh<|j7 c,.sh c.d,.sh<|tS c.tx,.no,.no,.no,.no,.no,.no]) ?_ ?_
 ·have nb:(rP<|b1 tT<|dA (oZ a.oO)<|jy (dV 3)<|jy (dC<|.ty "str") jE) [.sh<|.lst<|ns.map .int,.sh<|j7 c,.sh c.d,.sh<|tS c.tx,.no,.no,.no,.no,.no,.no]=.ok false:=rfl;have ct:∀(s:Str) (n:Nat),rn (tS c.tx) [.str s]=.ok (.int (n:Int))->(qt "str" rn (dV 3)<|jy (dC<|.str s) jE) [.sh<|.lst<|ns.map .int,.sh<|j7 c,.sh c.d,.sh<|tS c.tx,.no,.no,.no,.no,.no,.no]=.ok (.int (n:Int)):=λs n h=>h;have nq:∀(s s':Str) (n:Nat),rn (tS c.tx) [.str s]=.ok (.int (n:Int))->rn (tS c.tx) [.str s']=.ok (.int (n:Int))->(b1 P2.tB<|d2 pM (qt "str" rn (dV 3)<|jy (dC<|.str s) jE)<|qt "str" rn (dV 3)<|jy (dC<|.str s') jE) [.sh<|.lst<|ns.map .int,.sh<|j7 c,.sh c.d,.sh<|tS c.tx,.no,.no,.no,.no,.no,.no]=.ok false:=λs s' n h h'=>by
   rw[Br,qY,ct s n h,jX,ct s' n h',jX];show(R.ok<|D.bl<|!decide ((n:Int)=(n:Int))).bind P2.tB=_;rw[aP rfl];rfl
  have cond:(uv (rP<|b1 tT<|dA (oZ a.oO)<|jy (dV 3)<|jy (dC<|.ty "str") jE)<|uv (b1 P2.tB<|d2 pM (qt "str" rn (dV 3)<|jy (dC<|.str "(") jE)<|qt "str" rn (dV 3)<|jy (dC<|.str ")") jE)<|b1 P2.tB<|d2 pM (qt "str" rn (dV 3)<|jy (dC<|.str "[") jE)<|qt "str" rn (dV 3)<|jy (dC<|.str "]") jE) [.sh<|.lst<|ns.map .int,.sh<|j7 c,.sh c.d,.sh<|tS c.tx,.no,.no,.no,.no,.no,.no]=.ok false:=by rw[aad,nb,jX,aA aU,aad,nq _ _ n1 k1 k2,jX,aA aU];exact nq _ _ n2 k3 k4
  rw[Oa,cond];rfl
 refine uQ (mO:=[.sh<|.lst<|ns.map .int,.sh<|j7 c,.sh c.d,.sh<|tS c.tx,.sh<|.int<|ns.getD 1 0,.no,.no,.no,.no,.no]) (by rw[JH,vd,pO,xG,jX,pO,sS,jX,tR,jX,jX,jX,c1];rfl) ?_;refine uQ (mO:=[.sh<|.lst<|ns.map .int,.sh<|j7 c,.sh c.d,.sh<|tS c.tx,.sh<|.int<|ns.getD 1 0,.sh<|tS<|vh c.tx<|ns.getD 1 0,.no,.no,.no,.no]) (by rw[JH,vd,pO,Ob,jX,pO,T6,jX,tR,jX,jX,jX,e3];rfl) ?_;refine uQ (mO:=[.sh<|.lst<|ns.map .int,.sh<|j7 c,.sh c.d,.sh<|tS c.tx,.sh<|.int<|ns.getD 1 0,.sh<|tS<|vh c.tx<|ns.getD 1 0,.sh<|tS c.tx,.no,.no,.no]) rfl ?_;refine uQ (mO:=[.sh<|.lst<|ns.map .int,.sh<|j7 c,.sh c.d,.sh<|tS c.tx,.sh<|.int<|ns.getD 1 0,.sh<|tS<|vh c.tx<|ns.getD 1 0,.sh<|.str z,.sh<|.str ⟨#[61]⟩,.no,.no]) ?_ ?_
 ·have cp:(Str.ofString "+-*<=").cps.toList=[43,45,42,60,61]:=by decide
  show(match Bt " " " " (Str.ofString "+-*<=").cps.toList (jz c.tx),(Str.ofString "+-*<=").cps.toList.getLast? with
   |some z,some k=>if 7<10 then RT.nx _ else .bad
   |_,_=>.bad)=_
  rw[cp,z1];rfl
 generalize hW:vh c.tx (ns.getD 1 0)=W at*;have a1:=pU (x:=[32,32]) (y:=W) (by simp) (by omega);have a2:=pU (x:=[32,32]++W) (y:=[32]) (by rw[aq];simp;omega) (by simp);have a3:=pU (x:=[91]) (y:=W) (by simp) (by omega);have a4:=pU (x:=[91]++W) (y:=[93]) (by rw[aq];simp;omega) (by simp);have r1:=rd c.tx (by omega) asc tx;have r2:=rd W (by omega) aaO st;have r3:=rd ([32,32]++W++[32]) (by simp only[aq,ak,bu];omega) (((show mY [32,32]by unfold WS.mY;decide).app aaO).app (show mY [32]by unfold WS.mY;decide)) (by have h1:=ahR 1<|[32,32]++W;have h2:=Ur 2 W;rw[show List.replicate 1 32=[32]from rfl]at h1;rw[h1];rw[show List.replicate 2 32=[32,32]from rfl]at h2;rw[h2,st])
 have r4:Fr [tS<|[91]++W++[93]]=.ok c.d:=by
  have tk:lK ([91]++W++[93])=[91]::(mX c++[[93]]):=by have h1:=BK (c:=91) (by decide) (by decide) [] (W++[93]);have h2:=BK (c:=93) (by decide) (by decide) W [];rw[JW]at h1 h2;show lK ([]++91::(W++[93]))=_;rw[h1,bV,h2,st]
  have:=hr ([91]++W++[93]) (by simp only[aq,ak,bu];omega) (((show mY [91]by unfold WS.mY;decide).app aaO).app (show mY [93]by unfold WS.mY;decide)) (by
   rw[tk];intro t ht;rcases List.mem_cons.mp ht with rfl|ht;· decide
   · rcases List.mem_append.mp ht with ht|ht;· exact tl t ht
     · rw[List.mem_singleton.mp ht];decide)
  rw[apu cO cz cv tk]at this;exact this
 obtain⟨s8,g8⟩:=aeV (a:=a) (Fc:=Fc) (pG:=pG) (Fs:=Fs) (Fw:=Fw) (Fr:=Fr) (Fp:=Fp) (Fn:=Fn) (c:=c) (s0:=.sh (.lst (ns.map .int))) (s1:=.sh (j7 c)) (s3:=.sh (tS c.tx)) (s4:=.sh (.int (ns.getD 1 0))) (s5:=.sh (tS W)) (s6:=.sh (.str z)) (s7:=.sh (.str ⟨#[61]⟩)) (s9:=.no) alk [jz c.tx,jz W,jz ([32,32]++W++[32]),z] .no (λx hx=>by
  rcases List.mem_cons.mp hx with rfl|hx;· exact r1
  · rcases List.mem_cons.mp hx with rfl|hx;· exact r2
    · rcases List.mem_cons.mp hx with rfl|hx;· exact r3
      · rw[List.mem_singleton.mp hx];exact zr)
 refine uQ (mO:=[.sh<|.lst<|ns.map .int,.sh<|j7 c,.sh c.d,.sh<|tS c.tx,.sh<|.int<|ns.getD 1 0,.sh<|tS W,.sh<|.str z,.sh<|.str ⟨#[61]⟩,s8,.no]) ?_ ?_
 ·have m0:(Str.ofString "  ")=jz [32,32]:=by decide
  have m1:(Str.ofString " ")=jz [32]:=by decide
  have ad:(d2 jT (d2 jT (dC<|.str "  ")<|dV 5)<|dC<|.str " ") [.sh<|.lst<|ns.map .int,.sh<|j7 c,.sh c.d,.sh<|tS c.tx,.sh<|.int<|ns.getD 1 0,.sh<|tS W,.sh<|.str z,.sh<|.str ⟨#[61]⟩,.no,.no]=.ok (tS<|[32,32]++W++[32]):=by rw[qY,qY,sS,jX,T7,jX,sS,m0,m1,a1,jX,jX,a2]
  have fe:((rO<|λρ=>((jy (dV 3)<|jy (dV 5)<|jy (d2 jT (d2 jT (dC<|.str "  ")<|dV 5)<|dC<|.str " ")<|jy (dV 6) jE) ρ).bind tD) [.sh<|.lst<|ns.map .int,.sh<|j7 c,.sh c.d,.sh<|tS c.tx,.sh<|.int<|ns.getD 1 0,.sh<|tS W,.sh<|.str z,.sh<|.str ⟨#[61]⟩,.no,.no]).bind sX=.ok ([jz c.tx,jz W,jz<|[32,32]++W++[32],z].map D.str):=by rw[Tw,pO,Ob,jX,pO,T7,jX,pO,ad,jX,pO,agI,jX,tR,jX,jX,jX,jX,jX];rfl
  rw[TY,fe,Eb];exact g8
 refine uQ (mO:=[.sh<|.lst<|ns.map .int,.sh<|j7 c,.sh c.d,.sh<|tS c.tx,.sh<|.int<|ns.getD 1 0,.sh<|tS W,.sh<|.str z,.sh<|.str ⟨#[61]⟩,s8,.no]) ?_ ?_
 ·have m0:(Str.ofString "[")=jz [91]:=by decide
  have m1:(Str.ofString "]")=jz [93]:=by decide
  have ct:∀(s:Str) (n:Nat),rn (tS c.tx) [.str s]=.ok (.int (n:Int))->(qt "str" rn (dV 3)<|jy (dC<|.str s) jE) [.sh<|.lst<|ns.map .int,.sh<|j7 c,.sh c.d,.sh<|tS c.tx,.sh<|.int<|ns.getD 1 0,.sh<|tS W,.sh<|.str z,.sh<|.str ⟨#[61]⟩,s8,.no]=.ok (.int (n:Int)):=λs n h=>h;have x1:(b1 P2.tB<|d2 v5 (d2 jT (qt "str" rn (dV 3)<|jy (dC<|.str "[") jE)<|qt "str" rn (dV 3)<|jy (dC<|.str "(") jE)<|dC<|.int 15) [.sh<|.lst<|ns.map .int,.sh<|j7 c,.sh c.d,.sh<|tS c.tx,.sh<|.int<|ns.getD 1 0,.sh<|tS W,.sh<|.str z,.sh<|.str ⟨#[61]⟩,s8,.no]=.ok (decide<|(n2:Int)+(n1:Int)<15):=by rw[Br,qY,qY,ct _ n2 k3,jX,ct _ n1 k1,jX];rfl
  have ad:(d2 jT (d2 jT (dC<|.str "[")<|dV 5)<|dC<|.str "]") [.sh<|.lst<|ns.map .int,.sh<|j7 c,.sh c.d,.sh<|tS c.tx,.sh<|.int<|ns.getD 1 0,.sh<|tS W,.sh<|.str z,.sh<|.str ⟨#[61]⟩,s8,.no]=.ok (tS<|[91]++W++[93]):=by rw[qY,qY,sS,jX,T7,jX,sS,m0,m1,a3,jX,jX,a4]
  have x2:(rP<|b1 tT<|dA rJ<|jy (dA Fr<|jy (d2 jT (d2 jT (dC<|.str "[")<|dV 5)<|dC<|.str "]") jE)<|jy (dV 2) jE) [.sh<|.lst<|ns.map .int,.sh<|j7 c,.sh c.d,.sh<|tS c.tx,.sh<|.int<|ns.getD 1 0,.sh<|tS W,.sh<|.str z,.sh<|.str ⟨#[61]⟩,s8,.no]=.ok false:=by rw[TF,Tz,vd,pO,vd,pO,ad,jX,tR,jX,jX,r4,jX,pO,GX,jX,tR,jX,jX,jX,alk];rfl
  rw[Oa,agn,x1,jX];by_cases Bd:decide ((n2:Int)+(n1:Int)<15)=true;·rw[au Bd,x2];rfl
  ·rw[aA Bd];rfl
 obtain⟨s9,g9⟩:=aeW (a:=a) (Fc:=Fc) (pG:=pG) (Fs:=Fs) (Fw:=Fw) (Fr:=Fr) (rJ:=rJ) (Fp:=Fp) (Fn:=Fn) (c:=c) (s0:=.sh (.lst (ns.map .int))) (s1:=.sh (j7 c)) (s4:=.sh (.int (ns.getD 1 0))) (s5:=.sh (tS W)) (s6:=.sh (.str z)) (s7:=.sh (.str ⟨#[61]⟩)) (s8:=s8) qs .no (λp hp=>hn c cO cz p (q1 p hp));refine uQ (mO:=[.sh<|.lst<|ns.map .int,.sh<|j7 c,.sh c.d,.sh<|tS c.tx,.sh<|.int<|ns.getD 1 0,.sh<|tS W,.sh<|.str z,.sh<|.str ⟨#[61]⟩,s8,s9]) ?_ rfl;rw[TY,vd,pO,Ob,jX,tR,jX,jX,q3,jX,aac,Eb];exact g9
end
end Ac
namespace P2
open PySem PySem.Spec PyProof.Rows Fx L2
structure Wt(P:Program)(w:World)(K:W.Frag)(mg:nO)(base h:Heap):Prop where
 X:K.In h
 G:h.Ns mainGlobals mg
abbrev ur(K:W.Frag)(x:Str)(v:Value):Prop:=W.nsIn K mainGlobals x=some (some v)
abbrev xU(K:W.Frag)(x:Str):Prop:=W.nsIn K mainGlobals x=some none
abbrev Cp(K:W.Frag)(C:Addr)(x:Str)(b:String):Prop:=W.findIn K (.ref C) x=some (some<|.builtin b)
abbrev Cq(K:W.Frag)(C:Addr)(x:Str):Prop:=W.findIn K (.ref C) x=some none
def mq(K:W.Frag)(x:Str)(st:Stmt):Prop:=∃f fd,lO K x x st f fd/\ur K x (.ref f)
def tW(K:W.Frag)(C:Addr)(x qual:Str)(st:Stmt):Prop:=∃f fd,sW K x qual st .none f fd/\W.findIn K (.ref C) x=some (some<|.ref f)/\W.isFn K (.ref f)=true
section
variable{P:Program}{w:World}{K:W.Frag}{mg:nO}{base h:Heap}{x qual:Str}{st:Stmt}{C:Addr}{k:Nat}{ps:List Str}{sp:Sp}
def Wt.g{v:Value}(Y:Wt P w K mg base h)(e:ur K x v):mg x=some v:=W.mg_of Y.X Y.G e
def Wt.n(Y:Wt P w K mg base h)(e:xU K x):mg x=none:=W.mg_none_of Y.X Y.G e
def V1{dV:Value}(hp:ps.length=1)(b:∀(kV doc pm:Value) (an:Option Addr) (cdv ct:Value) (u0:Value),bindArgs (W.fnOf x qual (pJ st) (oM st) (j8 st) dV kV doc pm an cdv ct) ⟨[u0],[]⟩=pure (ps.zip [u0]))(kV doc pm:Value)(an:Option Addr)(cdv ct:Value)(us:List Value)(h:us.length=ps.length):bindArgs (W.fnOf x qual (pJ st) (oM st) (j8 st) dV kV doc pm an cdv ct) ⟨us,[]⟩=pure (ps.zip us):=by
 rw[hp]at h;cases us with
 |nil=>cases h
 |cons u0 us=>
  cases us with
  |nil=>exact b kV doc pm an cdv ct u0
  |cons u us=>simp at h
def Qs{dV:Value}(hp:ps.length=2)(b:∀(kV doc pm:Value) (an:Option Addr) (cdv ct:Value) (u0 u1:Value),bindArgs (W.fnOf x qual (pJ st) (oM st) (j8 st) dV kV doc pm an cdv ct) ⟨[u0,u1],[]⟩=pure (ps.zip [u0,u1]))(kV doc pm:Value)(an:Option Addr)(cdv ct:Value)(us:List Value)(h:us.length=ps.length):bindArgs (W.fnOf x qual (pJ st) (oM st) (j8 st) dV kV doc pm an cdv ct) ⟨us,[]⟩=pure (ps.zip us):=by
 rw[hp]at h;cases us with
 |nil=>cases h
 |cons u0 us=>
  cases us with
  |nil=>cases h
  |cons u1 us=>
   cases us with
   |nil=>exact b kV doc pm an cdv ct u0 u1
   |cons u us=>simp at h
def ajR{dV:Value}(hp:ps.length=3)(b:∀(kV doc pm:Value) (an:Option Addr) (cdv ct:Value) (u0 u1 u2:Value),bindArgs (W.fnOf x qual (pJ st) (oM st) (j8 st) dV kV doc pm an cdv ct) ⟨[u0,u1,u2],[]⟩=pure (ps.zip [u0,u1,u2]))(kV doc pm:Value)(an:Option Addr)(cdv ct:Value)(us:List Value)(h:us.length=ps.length):bindArgs (W.fnOf x qual (pJ st) (oM st) (j8 st) dV kV doc pm an cdv ct) ⟨us,[]⟩=pure (ps.zip us):=by
 rw[hp]at h;cases us with
 |nil=>cases h
 |cons u0 us=>
  cases us with
  |nil=>cases h
  |cons u1 us=>
   cases us with
   |nil=>cases h
   |cons u2 us=>
    cases us with
    |nil=>exact b kV doc pm an cdv ct u0 u1 u2
    |cons u us=>simp at h
def mq.mk{f:Addr}{oc:Value}{od an:Option Addr}{osl:Array<|Option Value}{kV doc pm cdv ct:Value}(a:W.nsIn K mainGlobals x=some (some<|.ref f):=by k_is)
    (l:K.lookup f=some ⟨oc,od,.func<|W.fnOf x x (pJ st) (oM st) (j8 st) .none kV doc pm an cdv ct,osl⟩:=by k_is)(c:W.codeIn K cdv x=true:=by k_is)(k:W.keepIn K (.ref f)=true:=by k_is):mq K x st:=⟨f,_,W7 l c k,a⟩
def tW.mk{f:Addr}{oc:Value}{od an:Option Addr}{osl:Array<|Option Value}{kV doc pm cdv ct:Value}(a:W.findIn K (.ref C) x=some (some<|.ref f):=by k_is)(n:W.isFn K (.ref f)=true:=by k_is)
    (l:K.lookup f=some ⟨oc,od,.func<|W.fnOf x qual (pJ st) (oM st) (j8 st) .none kV doc pm an cdv ct,osl⟩:=by k_is)(c:W.codeIn K cdv qual=true:=by k_is)(k:W.keepIn K (.ref f)=true:=by k_is):tW K C x qual st:=⟨f,_,aed l c k,a,n⟩
def mq.get(p:mq K x st)(Y:Wt P w K mg base h)(b:∀(kV doc pm:Value) (an:Option Addr) (cdv ct:Value) (us:List Value),us.length=ps.length->bindArgs (W.fnOf x x (pJ st) (oM st) (j8 st) .none kV doc pm an cdv ct) ⟨us,[]⟩=pure (ps.zip us)):
    ∃f fd,lO K x x st f fd/\Binds K fd ps []/\W.keepIn K (.ref f)=true/\mg x=some (.ref f):=let⟨f,fd,F,a⟩:=p;⟨f,fd,F,F.binds b,F.kp,Y.g a⟩
def mq.has(p:mq K x st)(Y:Wt P w K mg base h)(o:∀f fd,lO K x x st f fd->jZ P w K mg base (jF P w) k f fd ps sp)
    (b:∀(kV doc pm:Value) (an:Option Addr) (cdv ct:Value) (us:List Value),us.length=ps.length->bindArgs (W.fnOf x x (pJ st) (oM st) (j8 st) .none kV doc pm an cdv ct) ⟨us,[]⟩=pure (ps.zip us)):
    km P w K mg base (jF P w) k x ps sp:=let⟨f,fd,F,b,k,m⟩:=p.get Y b;⟨f,fd,o f fd F,b,k,m⟩
def tW.has(p:tW K C x qual st)(Y:Wt P w K mg base h)(o:∀f fd,sW K x qual st .none f fd->jZ P w K mg base (jF P w) k f fd ps sp)
    (b:∀(kV doc pm:Value) (an:Option Addr) (cdv ct:Value) (us:List Value),us.length=ps.length->bindArgs (W.fnOf x qual (pJ st) (oM st) (j8 st) .none kV doc pm an cdv ct) ⟨us,[]⟩=pure (ps.zip us)):
    nJ P w K mg base k C x ps [] sp:=let⟨f,fd,F,a,n⟩:=p;⟨f,fd,[],[],o f fd F,F.binds b,.nil,λ_ _=>.nil,⟨a,n,F.kp⟩⟩
def tW.alv(p:tW K C "__init__" qual st)(Y:Wt P w K mg base h)(m:W.makesIn K C=true)(kp:W.keepIn K (.ref C)=true)(o:∀f fd,sW K "__init__" qual st .none f fd->jZ P w K mg base (jF P w) k f fd ps sp)
    (b:∀(kV doc pm:Value) (an:Option Addr) (cdv ct:Value) (us:List Value),us.length=ps.length->bindArgs (W.fnOf "__init__" qual (pJ st) (oM st) (j8 st) .none kV doc pm an cdv ct) ⟨us,[]⟩=pure (ps.zip us)):
    yQ P w K mg base k C ps sp:=let⟨f,fd,F,a,n⟩:=p;⟨f,fd,o f fd F,F.binds b,⟨m,a,n,kp⟩⟩
def mq.uc(p:mq K x st)(Y:Wt P w K mg base h)(o:∀f fd,lO K x x st f fd->jZ P w K mg base (jF P w) k f fd ps sp)
    (hp:ps.length=1:=by rfl)(b:∀(kV doc pm:Value) (an:Option Addr) (cdv ct:Value) (u0:Value),bindArgs (W.fnOf x x (pJ st) (oM st) (j8 st) .none kV doc pm an cdv ct) ⟨[u0],[]⟩=pure (ps.zip [u0]):=by intros;rfl):km P w K mg base (jF P w) k x ps sp:=p.has Y o (V1 hp b)
def mq.Aq(p:mq K x st)(Y:Wt P w K mg base h)(ps:List Str)
    (hp:ps.length=1:=by rfl)(b:∀(kV doc pm:Value) (an:Option Addr) (cdv ct:Value) (u0:Value),bindArgs (W.fnOf x x (pJ st) (oM st) (j8 st) .none kV doc pm an cdv ct) ⟨[u0],[]⟩=pure (ps.zip [u0]):=by intros;rfl):∃f fd,lO K x x st f fd/\Binds K fd ps []/\W.keepIn K (.ref f)=true/\mg x=some (.ref f):=p.get Y (V1 hp b)
def tW.uc(p:tW K C x qual st)(Y:Wt P w K mg base h)(o:∀f fd,sW K x qual st .none f fd->jZ P w K mg base (jF P w) k f fd ps sp)
    (hp:ps.length=1:=by rfl)(b:∀(kV doc pm:Value) (an:Option Addr) (cdv ct:Value) (u0:Value),bindArgs (W.fnOf x qual (pJ st) (oM st) (j8 st) .none kV doc pm an cdv ct) ⟨[u0],[]⟩=pure (ps.zip [u0]):=by intros;rfl):nJ P w K mg base k C x ps [] sp:=p.has Y o (V1 hp b)
def mq.uL(p:mq K x st)(Y:Wt P w K mg base h)(o:∀f fd,lO K x x st f fd->jZ P w K mg base (jF P w) k f fd ps sp)
    (hp:ps.length=2:=by rfl)(b:∀(kV doc pm:Value) (an:Option Addr) (cdv ct:Value) (u0 u1:Value),bindArgs (W.fnOf x x (pJ st) (oM st) (j8 st) .none kV doc pm an cdv ct) ⟨[u0,u1],[]⟩=pure (ps.zip [u0,u1]):=by intros;rfl):km P w K mg base (jF P w) k x ps sp:=p.has Y o (Qs hp b)
def mq.alc(p:mq K x st)(Y:Wt P w K mg base h)(ps:List Str)
    (hp:ps.length=2:=by rfl)(b:∀(kV doc pm:Value) (an:Option Addr) (cdv ct:Value) (u0 u1:Value),bindArgs (W.fnOf x x (pJ st) (oM st) (j8 st) .none kV doc pm an cdv ct) ⟨[u0,u1],[]⟩=pure (ps.zip [u0,u1]):=by intros;rfl):∃f fd,lO K x x st f fd/\Binds K fd ps []/\W.keepIn K (.ref f)=true/\mg x=some (.ref f):=p.get Y (Qs hp b)
def tW.uL(p:tW K C x qual st)(Y:Wt P w K mg base h)(o:∀f fd,sW K x qual st .none f fd->jZ P w K mg base (jF P w) k f fd ps sp)
    (hp:ps.length=2:=by rfl)(b:∀(kV doc pm:Value) (an:Option Addr) (cdv ct:Value) (u0 u1:Value),bindArgs (W.fnOf x qual (pJ st) (oM st) (j8 st) .none kV doc pm an cdv ct) ⟨[u0,u1],[]⟩=pure (ps.zip [u0,u1]):=by intros;rfl):nJ P w K mg base k C x ps [] sp:=p.has Y o (Qs hp b)
def tW.alw(p:tW K C "__init__" qual st)(Y:Wt P w K mg base h)(m:W.makesIn K C=true)(kp:W.keepIn K (.ref C)=true)(o:∀f fd,sW K "__init__" qual st .none f fd->jZ P w K mg base (jF P w) k f fd ps sp)
    (hp:ps.length=2:=by rfl)(b:∀(kV doc pm:Value) (an:Option Addr) (cdv ct:Value) (u0 u1:Value),bindArgs (W.fnOf "__init__" qual (pJ st) (oM st) (j8 st) .none kV doc pm an cdv ct) ⟨[u0,u1],[]⟩=pure (ps.zip [u0,u1]):=by intros;rfl):yQ P w K mg base k C ps sp:=p.alv Y m kp o (Qs hp b)
def mq.Aw(p:mq K x st)(Y:Wt P w K mg base h)(o:∀f fd,lO K x x st f fd->jZ P w K mg base (jF P w) k f fd ps sp)
    (hp:ps.length=3:=by rfl)(b:∀(kV doc pm:Value) (an:Option Addr) (cdv ct:Value) (u0 u1 u2:Value),bindArgs (W.fnOf x x (pJ st) (oM st) (j8 st) .none kV doc pm an cdv ct) ⟨[u0,u1,u2],[]⟩=pure (ps.zip [u0,u1,u2]):=by intros;rfl):km P w K mg base (jF P w) k x ps sp:=p.has Y o (ajR hp b)
def _root_.L2.km.u{j:Nat}(G:km P w K mg base (jF P w) j x ps sp)(h:j<=k:=by first|decide|omega):km P w K mg base (jF P w) k x ps sp:=km.up G h
def nJ.u{j:Nat}{dz:List D}(G:nJ P w K mg base j C x ps dz sp)(h:j<=k:=by first|decide|omega):nJ P w K mg base k C x ps dz sp:=G.up h
def yQ.u{j:Nat}(G:yQ P w K mg base j C ps sp)(h:j<=k:=by first|decide|omega):yQ P w K mg base k C ps sp:=G.up h
def _root_.L2.jZ.cl{f:Addr}{fd:FuncData}{n:Nat}{F:lX}(h:jZ P w K mg base (jF P w) k f fd ps<|kY n K F):jZ P w K mg base (jF P w) k f fd ps (kj n K<|λds=>clo<|F (ds.map .d) []):=jZ.close h
end
end P2
namespace Ac
open PySem L2 P2 WP WR WC WS TM T2 PySem.NumText
abbrev aaC:Stmt:=inClass (at_ 3) 0
def asy:lU rC rC (j8 aaC):=⟨rfl,rfl,rfl,by decide+kernel,rfl,by decide+kernel,by decide+kernel⟩
abbrev fo(x q:Str)(st:Stmt)(dV kV doc pm:Value)(an:Option Addr)(cdv ct:Value):FuncData:=PySem.W.fnOf x q (pJ st) (oM st) (j8 st) dV kV doc pm an cdv ct
def abm(K:PySem.W.Frag):Sp:=λvs H Q E=>∃(al:Addr->Prop) (ns:List Int),vs.length=1/\(∀a,H a=none->al a)/\ns.length<=63/\kI K al H vs [.lst<|ns.map D.int]/\tY K H/\∀H',pY K H H'->Q (.bl true) H'
theorem aat{K:PySem.W.Frag}{al:Addr->Prop}{H:Hp}:∀ns:List Int,kI K al H (ns.map V.int) (ns.map D.int)
 |[]=>.nil
 |_::ns=>.cons (.int _) (aat ns)
def atn{K:PySem.W.Frag}{H:Hp}{a:Addr}{ns:List Int}(hl:ns.length<=63)(tt:tY K H)(r:Rep K (λ_=>True) H (.ref a)<|.lst<|ns.map D.int):abm K [.ref a] H (λv _=>v=.bl true) λ_ _ _=>False:=
 ⟨λ_=>True,ns,rfl,λ_ _=>trivial,hl,.cons r .nil,tt,λ_ _=>rfl⟩
def isF(K:PySem.W.Frag)(cs:List Addr)(c:Addr)(u:Value):Option Bool:=if c∈cs then PySem.W.kitOne K (.ref c) u else none
def amn{K:PySem.W.Frag}{cs:List Addr}(h:∀c∈cs,yV K c):Kz K (isF K cs):=λc u b e=>by
 unfold isF at e;split at e;·rename_i z;exact⟨h c z,e⟩
 ·cases e
def amm{K:PySem.W.Frag}{cs:List Addr}{c:Addr}{u:Value}{b:Option Bool}(h:PySem.W.kitOne K (.ref c) u=b)(hc:c∈cs):isF K cs c u=b:=by unfold isF;rw[au hc];exact h
section
variable(a:Ad)
abbrev ai4:jO:=λds=>jM (Q7 a<|jP 2 ds)
abbrev ajj:lX:=λzs S=>kE (Dm a (ai4 a) S.length (lg 2 zs) S)
abbrev CJ:lX:=λzs S=>kE (Mm a S.length (lg 3 zs) S)
abbrev KH:lX:=λzs S=>kE (Ge a (CJ a) S.length (lg 2 zs) S)
abbrev Hq:lX:=λzs S=>kE (Gd a (KH a) S.length (lg 2 zs) S)
abbrev ajk:lX:=λzs S=>kE (Mr a (CJ a) S.length (lg 1 zs) S)
abbrev Ex:lX:=λzs S=>kE (Mp a S.length (lg 1 zs) S)
abbrev acL:lX:=λzs S=>kE (Mq a (Hq a) S.length (lg 2 zs) S)
abbrev acM:lX:=λzs S=>kE (Ms a (Hq a) S.length (lg 2 zs) S)
abbrev ai2:jO:=λds=>jM (Q6 a<|jP 1 ds)
abbrev Vh:jO:=λds=>jM (Q3 a (ai2 a)<|jP 2 ds)
abbrev acJ:jO:=λds=>jM (Rw a (Vh a)<|jP 4 ds)
abbrev aiY:jO:=λds=>jM (QZ a<|jP 3 ds)
abbrev ai0:jO:=λds=>jM (Q4 a<|jP 1 ds)
abbrev aiZ:jO:=λds=>jM (Q0 a (ai0 a) (aiY a)<|jP 3 ds)
abbrev acA:jO:=λds=>jM (Lw a<|jP 3 ds)
abbrev acI:jO:=λds=>jM (Ru a (Vh a) (aiZ a) (acA a)<|jP 6 ds)
abbrev Vm:jO:=λds=>jM (Rv a (acI a)<|jP 2 ds)
abbrev ai1:jO:=λds=>jM (Q5 a<|jP 1 ds)
abbrev acK:jO:=λds=>jM (Rx a (ai1 a)<|jP 1 ds)
def wF:Nat->(lX)×(lX)×(lX)×(lX)
 |0=>(λ_ _=>.bad,λ_ _=>.bad,λ_ _=>.bad,λ_ _=>.bad)
 |n+1=>(λzs S=>kE<|Mj a (wF n).2.1 (CJ a) (KH a) (Ex a) S.length (lg 3 zs) S,λzs S=>kE<|Mh a (Vm a) (CJ a) (wF n).2.2.1 (KH a) (Hq a) (Ex a) S.length (lg 2 zs) S,λzs S=>kE<|Mi a (acJ a) (acK a) (Vm a) (CJ a) (wF n).2.2.2 (Ex a) (KH a) S.length (lg 2 zs) S,λzs S=>kE<|LQ a (acL a) (wF n).1 (acM a) S.length (lg 2 zs) S)
abbrev ajh:lX:=(wF a 75).1
abbrev ajf:lX:=λzs S=>kE (LR a (Ex a) (ajh a) (KH a) S.length (lg 3 zs) S)
def yj:Nat->(lX)×(lX)×(lX)
 |0=>(λ_ _=>.bad,λ_ _=>.bad,λ_ _=>.bad)
 |n+1=>(λzs S=>kE<|Mg a (yj n).2.1 (CJ a) (Hq a) (Ex a) S.length (lg 2 zs) S,λzs S=>kE<|LK a (yj n).2.2 (CJ a) (Hq a) (Ex a) S.length (lg 2 zs) S,λzs S=>kE<|Mf a (CJ a) (Hq a) (Ex a) (yj n).2.2 (acL a) (yj n).1 (acM a) (ajf a) S.length (lg 2 zs) S)
abbrev ajg:lX:=(yj a 85).1
abbrev aji:lX:=λzs S=>kE (Ml a (ajg a) (ajk a) S.length (lg 2 zs) S)
abbrev ajq:lX:=λzs S=>kE (Ma a (ajj a) (aji a) S.length (lg 1 zs) S)
abbrev acH:jO:=λds=>clo (ajq a (ds.map .d) [])
abbrev acz:jO:=λds=>jM (Lr a<|jP 3 ds)
abbrev ajm(Fs:jO):jO:=λds=>jM (Ly a Fs<|jP 3 ds)
abbrev acO(Fs:jO):jO:=λds=>jM (tE a (ajm a Fs) Fs (acz a) (acA a)<|jP 4 ds)
abbrev acB:jO:=t8 (acO a) 32
abbrev ajl(Fs:jO):jO:=λds=>jM (Ls a Fs<|jP 3 ds)
abbrev acN(Fs:jO):jO:=λds=>jM (vG a (ajl a Fs) Fs (acz a) (acB a)<|jP 2 ds)
abbrev ai3:jO:=t8 (acN a) 32
abbrev ai5:jO:=λds=>jM (Lz a<|jP 2 ds)
abbrev ai8:jO:=λds=>jM (Rg a<|jP 5 ds)
abbrev Vj:jO:=λds=>jM (IV a (ai8 a)<|jP 1 ds)
abbrev ai9:jO:=λds=>jM (Rh a<|jP 4 ds)
abbrev Vl:jO:=λds=>jM (Rn a<|jP 2 ds)
abbrev acE:jO:=λds=>jM (FZ a (Vj a) (Vl a) (ai9 a)<|jP 7 ds)
abbrev KC:jO:=λds=>jM (Rk a<|jP 3 ds)
abbrev acG:jO:=λds=>jM (Rq a (KC a)<|jP 4 ds)
abbrev acF:jO:=λds=>jM (LC a (Vj a) (Vl a) (KC a)<|jP 3 ds)
abbrev Vi:jO:=λds=>jM (Q9 a<|jP 3 ds)
abbrev Vk:jO:=λds=>jM (Rf a (KC a)<|jP 5 ds)
abbrev acD:jO:=λds=>jM (Rb a (KC a)<|jP 1 ds)
abbrev ajc:jO:=λds=>jM (Rm a<|jP 3 ds)
abbrev ajd:lX:=λzs S=>kE (Ro a (acG a) (acF a) (Vi a) (acD a) (Vk a) (acE a) S.length (lg 7 zs) S)
abbrev ai7:lX:=λzs S=>kE (Rc a (Vi a) (Vk a) S.length (lg 6 zs) S)
abbrev ajo:lX:=λzs S=>kE (Ra a (ajc a) (ajd a) (ai7 a) S.length (lg 7 zs) S)
abbrev ai6:jO:=λds=>clo (ajo a (ds.map .d) [])
abbrev acP(Fs:jO):jO:=λds=>jM (pW a Fs<|jP 2 ds)
abbrev acC:jO:=t8 (acP a) 60
abbrev aje:jO:=λds=>jM (Rp a<|jP 4 ds)
abbrev ajp:lX:=λzs S=>kE (Rj a S.length (lg 4 zs) S)
abbrev ajb:jO:=λds=>clo (ajp a (ds.map .d) [])
abbrev aja:jO:=λds=>jM (Ri a (acH a) (acC a)<|jP 5 ds)
def afC(z:Str)(k:Nat)(hz:z.length<=1000000):Vh a [.str z,.int k]=.ok (.bl<|qO (jB z) k):=am2 (λz hz=>ane z hz) z k hz
def rdF(z:Str)(hz:z.length<=1000):acI a [.str z]=outF a (T2.wg<|jB z):=
 anh (λz k hz=>afC a z k hz) (λt b hb h=>amY (λi=>ant i) (λx y hx hy h=>am0 x y hx hy h) t b hb h) (λt b hb h1 h2=>Ys t b hb h1 h2) z hz
def smM(t:Tk)(ht:t.length<=1000):Vm a [tS t]=outF a (xH t):=anm (λz hz=>rdF a z hz) t ht
def whM(t:Tk)(ht:t.length<=1000):acJ a [tS t,.int 1,.int 9]=Bo a (Ej t 1 9):=by have:=anj (a:=a) (λz k hz=>afC a z k hz) (jz t) 1 9 (by rw[yw];omega) (by decide);rw[uX]at this;exact this
def woM(t:Tk)(ht:t.length<=1000):acK a [tS t]=Nz a (jz t):=ank (λz hz=>am3 z hz) (jz t) (by rw[yw];omega)
def ak3{T:List Tk}(O:rM T)(hl:∀t∈T,t.length<=1000):∀n:Nat,oX a T (wF a n).1 (f0 n).su/\oX a T (wF a n).2.1 (f0 n).pr/\oX a T (wF a n).2.2.1 (f0 n).sg/\oX a T (wF a n).2.2.2 (f0 n).br:=by
 intro n;induction n with
 |zero=>exact⟨λ_ _ _=>trivial,λ_ _ _=>trivial,λ_ _ _=>trivial,λ_ _ _=>trivial⟩
 |succ n ih=>obtain⟨h1,h2,h3,h4⟩:=ih;exact⟨asw O h2,asu O (λt ht=>smM a t<|hl t ht) h3,asv O (λt ht=>whM a t<|hl t ht) (λt ht=>woM a t<|hl t ht) (λt ht=>smM a t<|hl t ht) h4,asp O h1⟩
def ak4{T:List Tk}(O:rM T)(hl:∀t∈T,t.length<=1000):∀n:Nat,oX a T (yj a n).1 (f1 n).or/\oX a T (yj a n).2.1 (f1 n).and/\oX a T (yj a n).2.2 (f1 n).not:=by
 intro n;induction n with
 |zero=>exact⟨λ_ _ _=>trivial,λ_ _ _=>trivial,λ_ _ _=>trivial⟩
 |succ n ih=>obtain⟨h1,h2,h3⟩:=ih;exact⟨ass O h2,aso O h3,asr O h3 h1<|asq O (ak3 a O hl 75).1⟩
def akc(ns:List Int)(k:Nat):ai5 a [.lst<|ns.map .int,.int k]=.ok (.int<|ns.getD k 0):=WP.amS (a:=a) ns k
def ad9(c:Int):∃p q,Fq p q/\Vj a [.int c]=.ok (WC.pr p q):=amZ (λt b h1 h2 h3=>am9 t b h1 h2 h3) c
def afe(p q:Int)(h:Fq p q):Vl a [WC.pr p q]=.ok (.str<|jz<|my p q):=anl h
def Tt:KQ (KC a):=λd x r n o c h=>ang h
def ad7:Vb (acG a) (acF a) (Vi a) (acD a) (Vk a) (acE a) where
 su:=λx y s h1 h2=>ana (Tt a) h1 h2
 ov:=λx c hx h=>am8 (ad9 a) (afe a) (Tt a) hx h c
 co:=λx y s h1 h2=>amT h1 h2
 de:=λx h=>amV (Tt a) h
 jo:=λx y s h1 h2=>am7 (Tt a) h1 h2
 le:=λh c=>am6 (ad9 a) (afe a) (λc k=>anb c k) h c
def akl(h:Int)(ns:List Int)(w:Bool):∃c:Cn,(c.Ok/\qx c<=3)/\c.sz<=30/\ai6 a [.int h,.lst<|ns.map .int,.str<|cw w]=.ok (j7 c):=
 am5 (λt c=>ani t c) (λts cs p o c h I h1 h2=>anp (ad7 a) I h1 h2 c h _) (λts cs p o w I=>amX (ad7 a) I w _) h ns w _
def shM(c:Cn)(h:c.Ok)(hz:c.sz<=30):ai3 a [c.d]=.ok (.str<|jz c.tx):=
 JS (a:=a) (Ft:=acB a) (m:=30) (λt tO tz=>Om t tO (by omega) 32<|aJ t.Wz<|by omega) c h (by omega) (aJ c.auA hz) 32 (aJ c.Wz<|by omega)
def rcM:Vr a (acH a):=λcs h1 h2 h3=>amU (a:=a) (T:=lK cs) (ano cs h1) (s_end (ahX h1 h2) (ak4 a (ahX h1 h2) h3 85).1)
def alM:U8 (acC a):=λx y hy=>ajv x y hy
def stM(cs:List Nat)(n:Int)(h:cs.length<=5000):aje a [tS cs,.int n]=.ok (tS<|vh cs n):=anq cs n h
def neM(mt:Dw a.oO a.NoText a.NoText=true)(c:Cn)(h:c.Ok)(hz:c.sz<=30)(p:Nat×Nat)(hp:p.1<p.2/\p.2<c.tx.length/\(∃x,c.tx[p.1]?=some x/\oh x=true)/\∃x,c.tx[p.2]?=some x/\isC x=true):aja a [tS c.tx,pairD p,c.d]=.ok (.bl true):=anc (rcM a) (alM a) mt h hz hp
def prM(cs:List Nat)(hl:cs.length<=5000)(dy:Dy cs):∃qs:List (Nat×Nat),(∀p∈qs,p.1<p.2/\p.2<cs.length/\(∃c,cs[p.1]?=some c/\oh c=true)/\∃c,cs[p.2]?=some c/\isC c=true)/\qs.length<=cs.length/\ajb a [tS cs]=.ok (.lst<|qs.map pairD):=anf hl dy
end
def all_mk{l:PySem.W.OpenLaw}{w:World}{K:PySem.W.Frag}{h:Heap}{mg:nO}{fa f3 W0 z9 z8 uD sy rW acX:Addr}(X:K.In h)(G:h.Ns mainGlobals mg)(hfa:mg "law"=some (.ref fa))
    {od3 an3 an5 acU an6 ajA:Option Addr}{sl3 atb atc:Array<|Option Value}{oc3 kV3 dc3 pm3 cd3 ct3 an2 aeQ adG af4 Wb adE an4 amw akv ap8 adt ako:Value}
    {dT3:Addr}{dd3:Option Addr}{dn3:Nat}{ds3:Array<|Option Value}{adP auf auk auo aue aui aul aun aum auj auh:Tok}
    {akL:Option Addr}{atq:Array<|Option Value}{anU:Nat}{ah6 ah7 aia aib aic aid aie aif aih aii ah8 ah9:Tok}
    (p1:mq K "split_row" aaN)
    (YM:mq K "only_figures" aaH)
    (YQ:mq K "is_number" aaD)
    (YS:mq K "read_whole" abB)
    (YT:mq K "common_divisor" aaA)
    (YW:mq K "is_whole" aaE)
    (YX:mq K "fraction" aaB)
    (YZ:mq K "show_fraction" aaK)
    (Y0:mq K "read_fraction" abt)
    (Y4:mq K "read_small_fraction" aby)
    (Y5:mq K "is_word" aaF)
    (Y6:mq K "read_word" abC)
    (Y7:mq K "read_sum" abz)
    (Y8:mq K "read_product" abw)
    (Y9:mq K "read_single" abx)
    (Zc:mq K "read_bracketed" abp)
    (Zd:mq K "read_comparison" abq)
    (Zf:mq K "read_or" abv)
    (Zg:mq K "read_and" abo)
    (Zh:mq K "read_not" abu)
    (Zi:mq K "read_to_end" abA)
    (Zj:mq K "read_condition" abr)
    (Zk:mq K "joined" aaG)
    (Zm:mq K "show_tight" aaM)
    (Zo:mq K "show_term" aaL)
    (Zq:mq K "show_bound" aaI)
    (Zr:mq K "show_condition" aaJ)
    (Zu:mq K "_law_cell_at" aa2)
    (Zv:mq K "_law_lowest" aba)
    (Zw:mq K "_law_fraction" aa7)
    (Zy:mq K "_law_mast" abb)
    (Zz:mq K "_law_show" abi)
    (ZD:mq K "_law_leaf" aa9)
    (ZF:mq K "_law_put" abg)
    (ZJ:mq K "_law_sum" abl)
    (ZK:mq K "_law_over_term" abe)
    (ZL:mq K "_law_compared" aa3)
    (ZM:mq K "_law_joined" aa8)
    (ZP:mq K "_law_denied" aa5)
    (ZQ:mq K "_law_rest" abh)
    (ZR:mq K "_law_step" abj)
    (ZV:mq K "_law_ended" aa6)
    (ZX:mq K "_law_condition" aa4)
    (ZZ:mq K "_law_alike" aa1)
    (Z4:mq K "_law_strewn" abk)
    (Z5:mq K "_law_pairs" abf)
    (Z6:mq K "_law_needed" abd)
    (a56:ur K "law"<|.ref W0)
    (X8:K.lookup W0=some ⟨an2,an5,.func<|fo "law" "law" G3 .none aeQ adG af4 acU Wb adE,atb⟩)(V5:PySem.W.codeIn K Wb "law"=true)(XX:PySem.W.keepIn K (.ref W0)=true)
    (Vz:ur K "WeatherError"<|.ref z9)
    (Vw:ur K "NoFraction"<|.ref z8)
    (Vx:ur K "NoText"<|.ref uD)
    (Vy:ur K "Tokens"<|.ref sy)
    (aeF:PySem.W.findIn K (.ref uD) "__init__"=some (some<|.ref rW))
    (Yb:K.lookup rW=some ⟨an4,an6,.func<|fo "__init__" "NoText.__init__" aaC .none amw akv ap8 ajA adt ako,atc⟩)(V6:PySem.W.codeIn K adt "NoText.__init__"=true)(X3:PySem.W.keepIn K (.ref rW)=true)
    (abY:QT K uD rW [.type "ValueError",.type "Exception",.type "BaseException",.type "object"] "ValueError.__new__"=true)(abZ:PySem.W.isFn K (.ref rW)=true)(ab0:PySem.W.keepIn K (.ref uD)=true)(ab1:Cp K uD "__setattr__" "object.__setattr__")(ab2:Cp K uD "__getattribute__" "BaseException.__getattribute__")(ab3:Cq K uD "__getattr__")(ab4:Cq K uD "row")
    (We:PySem.W.plainGet K sy Str.empty=true)(Wf:PySem.W.hasDictIn K sy=true)(Wg:PySem.W.plainOver K sy=true)(Wh:Cp K sy "__setattr__" "object.__setattr__")(Wi:PySem.W.makesIn K sy=true)(Wj:PySem.W.keepIn K (.ref sy)=true)
    (Wo:Cq K sy "tokens")
    (Wn:Cq K sy "place")
    (Wm:Cq K sy "parts")
    (Wl:Cq K sy "brackets")
    (p2:tW K sy "__init__" "Tokens.__init__" abD)
    (a3:PySem.W.findIn K (.ref sy) "ahead"=some (some<|.ref f3))(n3:PySem.W.isFn K (.ref f3)=true)
    (l3:K.lookup f3=some ⟨oc3,od3,.func<|fo "ahead" "Tokens.ahead" Ui (.ref dT3) kV3 dc3 pm3 an3 cd3 ct3,sl3⟩)(c3:PySem.W.codeIn K cd3 "Tokens.ahead"=true)(k3:PySem.W.keepIn K (.ref f3)=true)
    (d3:K.lookup dT3=some ⟨.type "tuple",dd3,.seq #[.int 0 adP] dn3,ds3⟩)
    (p4:tW K sy "take" "Tokens.take" abJ)
    (p5:tW K sy "expect" "Tokens.expect" abG)
    (p6:tW K sy "expect_end" "Tokens.expect_end" abH)
    (p7:tW K sy "begin_part" "Tokens.begin_part" abE)
    (p8:tW K sy "enter" "Tokens.enter" abF)
    (p9:tW K sy "leave" "Tokens.leave" abI)
    (aco:PySem.W.excIn K z9 [.type "ValueError",.type "Exception",.type "BaseException",.type "object"] "ValueError.__new__"=true)(acu:PySem.W.keepIn K (.ref z9)=true)(acr:Cp K z9 "__getattribute__" "BaseException.__getattribute__")(acw:Cq K z9 "__getattr__")
    (acn:PySem.W.excIn K z8 [.type "ValueError",.type "Exception",.type "BaseException",.type "object"] "ValueError.__new__"=true)(acs:PySem.W.keepIn K (.ref z8)=true)(acq:Cp K z8 "__getattribute__" "BaseException.__getattribute__")(acv:Cq K z8 "__getattr__")
    (acj:Cp K z8 "__class__" "object.__class__")
    (U3:Cp K uD "__class__" "object.__class__")
    (ack:Cp K z9 "__class__" "object.__class__")
    (aab:PySem.W.kitOne K (.ref uD) (.ref uD)=some true)
    (Il:ur K "FIGURES"<|.str "0123456789" auf)
    (Iu:ur K "MOST_FIGURES"<|.int 60 auk)
    (IK:ur K "TOP_BOUND"<|.int 1000000000 auo)
    (Ik:ur K "BOTTOM_BOUND"<|.int 1000000 aue)
    (Ip:ur K "LETTERS"<|.str "abcdefghijklmnopqrstuvwxyz" aui)
    (Iv:ur K "MOST_LETTERS"<|.int 8 aul)
    (Iz:ur K "RUN_SIGNS"<|.str "abcdefghijklmnopqrstuvwxyz0123456789/" aun)
    (Iw:ur K "MOST_PARTS"<|.int 30 aum)
    (Ir:ur K "MOST_BRACKETS"<|.int 16 auj)
    (Io:ur K "LAST_PLACE"<|.int 9 auh)
    (Im:ur K "KEY_WORDS"<|.ref acX)
    (Yp:K.lookup acX=some ⟨.type "tuple",akL,.seq #[.str "mark" ah6,.str "fill" ah7,.str "here" aia,.str "back" aib,.str "on" aic,.str "at" aid,.str "ago" aie,.str "until" aif,.str "abs" aih,.str "and" aii,.str "or" ah8,.str "not" ah9] anU,atq⟩)
    (ab7:xU K "abs")(ab8:xU K "all")(aca:xU K "bool")(acb:xU K "int")(acd:xU K "isinstance")(ace:xU K "len")(acf:xU K "max")(acg:xU K "range")(ach:xU K "str")(aci:xU K "tuple"):
    ∃fd:FuncData,(∀(s:Shared) (v:Value),BindsTo s fd ⟨[v],[]⟩ [("_law_script",v)])/\∀base:Heap,K.In base->base.Ns mainGlobals mg->BM mg base->jZ l.prog w K mg base (jF l.prog w) 170 fa fd ["_law_script"] (abm K):=by
 have e:=hfa.symm.trans (PySem.W.mg_of X G a56);cases e;have Vv:CP K uD rW "row":=⟨abY,abZ,ab0,ab1,ab2,ab3,ab4⟩;have acR:Ht K z9:=⟨aco,acu,acr,acw,ack⟩;have ajr:Ht K z8:=⟨acn,acs,acq,acv,acj⟩;have IS:Kz K (isF K [uD]):=amn λc hc=>by simp only[fC,iG,or_false]at hc;rcases hc with rfl;·exact Vv.y U3
 have W:Wt l.prog w K mg h h:=⟨X,G⟩;obtain⟨a,ea⟩:∃a:Ad,a={WeatherError:=z9,NoFraction:=z8,NoText:=uD,Tokens:=sy,rW:=rW,oO:=isF K [uD]}:=⟨_,rfl⟩;have T:Tx K mg a:=by subst ea;exact {Qm:=W.n ab7,K6:=W.n ab8,VL:=W.n aca,Ai:=W.n acb,xZ:=W.n acd,qD:=W.n ace,Qn:=W.n acf,Qo:=W.n acg,za:=W.n ach,VM:=W.n aci,Il:=.str (W.g Il),Iu:=.int (W.g Iu),IK:=.int (W.g IK),Ik:=.int (W.g Ik),Ip:=.str (W.g Ip),Iv:=.int (W.g Iv),Iz:=.str (W.g Iz),Iw:=.int (W.g Iw),Ir:=.int (W.g Ir),Io:=.int (W.g Io),Im:=Kw.strs (l:=[("mark",ah6),("fill",ah7),("here",aia),("back",aib),("on",aic),("at",aid),("ago",aie),("until",aif),("abs",aih),("and",aii),("or",ah8),("not",ah9)]) (W.g Im) Yp (by show 12<=sizeLine;decide),ajU:=W.g Vz,adh:=W.g Vw,vD:=W.g Vx,adi:=W.g Vy,vJ:=Vv,avr:=acR,aiI:=ajr,aiH:=Vv.y U3,avq:=acR.y,nj:=⟨We,Wf,Wg,Wh⟩,SX:=Wo,SQ:=Wn,SN:=Wm,Nh:=Wl,xx:=IS}
 have ei:a.oO=isF K [uD]:=by rw[ea]
 have akT:a.WeatherError=z9:=by rw[ea]
 have akQ:a.NoFraction=z8:=by rw[ea]
 have akR:a.NoText=uD:=by rw[ea]
 have akS:a.Tokens=sy:=by rw[ea]
 have akU:a.rW=rW:=by rw[ea]
 clear ea;subst akT;subst akQ;subst akR;subst akS;subst akU;have F3:=aed (st:=Ui) l3 c3 k3;have ajI:=F3.ada (ps:=xB) (ds:=[]) d3 rfl λ_ _ _ _ _ _ us hl=>match us,hl with|[_,_],_=>⟨_,rfl,rfl⟩
 have ajJ:=F3.ada (ps:=xB) (ds:=[.int 0 adP]) d3 rfl λ_ _ _ _ _ _ us hl=>match us,hl with|[_],_=>⟨_,rfl,rfl⟩
 have F56:=W7 (st:=G3) X8 V5 XX;have acy:=W7 (st:=aaC) Yb V6 X3;have yZ:=acy.binds (ps:=rC) λ_ _ _ _ _ _ us hl=>match us,hl with|[_,_],_=>rfl
 refine⟨PySem.W.fnOf "law" "law" (pJ G3) (oM G3) (j8 G3) .none aeQ adG af4 acU Wb adE,λs v=>.of_eq rfl,λbase _ _ bm=>?_⟩;have W:Wt l.prog w K mg base h:=⟨X,G⟩;have yU:=aoo (P:=l.prog) (w:=w) (mg:=mg) (base:=base) (k:=0) (body:=[]) T.vJ acy asy rfl rfl rfl rfl rfl;have H1:=p1.uc W λ_ _ F=>aon T F;have HI2:=p2.alw W Wi Wj λ_ _ F=>aoX T F H1.u;have o3:=aoY (P:=l.prog) (w:=w) (base:=base) T F3;have aiW:nJ _ _ _ _ _ _ _ _ _ [] _:=⟨f3,_,_,[],o3,ajI,.nil,λ_ _=>.nil,⟨a3,n3,k3⟩⟩;have Et:nJ _ _ _ _ _ _ _ _ _ [.int 0] _:=⟨f3,_,_,[.int 0],o3,ajJ,(.cons ⟨_,rfl⟩ .nil),λ_ _=>(.cons (.int _) .nil),⟨a3,n3,k3⟩⟩;have Ky:=p4.uc W λ_ _ F=>ao4 T F yU yZ Et.u;have Hn:=p5.uL W λ_ _ F=>ao1 T F yU yZ Ky.u;have HM6:=p6.uc W λ_ _ F=>ao2 T F yU yZ Et.u;have Eu:=p7.uc W λ_ _ F=>aoZ T F yU yZ;have HM8:=p8.uL W λ_ _ F=>ao0 T F yU yZ Hn.u;have HM9:=p9.uL W λ_ _ F=>ao3 T F Hn.u;have Vc:=YM.uc W λ_ _ F=>aoh T F;have PK:=YQ.uL W λ_ _ F=>aob T F Vc.u;have PL:=YS.Aw W λ_ _ F=>aoV T F yU yZ PK.u;have H13:=YT.uL W λ_ _ F=>an9 T F;have H14:=YW.uc W λ_ _ F=>aoc T F;have H15:=YX.uL W λ_ _ F=>aoa T F H14.u H13.u;have H16:=YZ.uc W λ_ _ F=>aok T F;have H17:=Y0.uc W λ_ _ F=>aoN T F yU yZ PK.u H15.u H16.u;have H18:=Y4.uc W λ_ _ F=>aoS T F yU yZ H17.u;have H19:=Y5.uc W λ_ _ F=>aod T F;have H20:=Y6.uc W λ_ _ F=>aoW T F yU yZ H19.u;obtain⟨f21,_,F21,b21,k21,m21⟩:=Y7.Aq W ["tokens"];obtain⟨f22,_,F22,b22,k22,m22⟩:=Y8.Aq W ["tokens"];obtain⟨f23,_,F23,b23,k23,m23⟩:=Y9.Aq W ["tokens"];obtain⟨f24,_,F24,b24,k24,m24⟩:=Zc.Aq W ["tokens"];have Fa0:∀n:Nat,km l.prog w K mg base (jF l.prog w) (5+n) "read_sum" oR (kY 1 K (wF a n).1)/\km l.prog w K mg base (jF l.prog w) (5+n) "read_product" oR (kY 1 K (wF a n).2.1)/\km l.prog w K mg base (jF l.prog w) (5+n) "read_single" oR (kY 1 K (wF a n).2.2.1)/\km l.prog w K mg base (jF l.prog w) (5+n) "read_bracketed" oR (kY 1 K (wF a n).2.2.2):=by
  intro n;induction n with
  |zero=>exact⟨⟨_,_,FT,b21,k21,m21⟩,⟨_,_,FT,b22,k22,m22⟩,⟨_,_,FT,b23,k23,m23⟩,⟨_,_,FT,b24,k24,m24⟩⟩
  |succ n ih=>obtain⟨J21,J22,J23,J24⟩:=ih;have q21:=aoT (P:=l.prog) (w:=w) (base:=base) (k:=5+n) T F21 J22 Et.u Ky.u Eu.u;have q22:=aoQ (P:=l.prog) (w:=w) (base:=base) (k:=5+n) T F22 H18.u J23 aiW.u Ky.u Hn.u Eu.u;have q23:=aoR (P:=l.prog) (w:=w) (base:=base) (k:=5+n) T F23 PL.u H20.u H18.u J24 Et.u Eu.u Ky.u;have q24:=aoK (P:=l.prog) (w:=w) (base:=base) (k:=5+n) T F24 J21 HM8.u HM9.u;exact⟨⟨_,_,q21,b21,k21,m21⟩,⟨_,_,q22,b22,k22,m22⟩,⟨_,_,q23,b23,k23,m23⟩,⟨_,_,q24,b24,k24,m24⟩⟩
 obtain⟨H21,H22,H23,H24⟩:=Fa0 75;have H25:=Zd.uc W λ_ _ F=>aoL T F yU yZ H21.u Eu.u Ky.u;obtain⟨f26,_,F26,b26,k26,m26⟩:=Zf.Aq W ["tokens"];obtain⟨f27,_,F27,b27,k27,m27⟩:=Zg.Aq W ["tokens"];obtain⟨f28,_,F28,b28,k28,m28⟩:=Zh.Aq W ["tokens"];have Fa1:∀n:Nat,km l.prog w K mg base (jF l.prog w) (81+n) "read_or" oR (kY 1 K (yj a n).1)/\km l.prog w K mg base (jF l.prog w) (81+n) "read_and" oR (kY 1 K (yj a n).2.1)/\km l.prog w K mg base (jF l.prog w) (81+n) "read_not" oR (kY 1 K (yj a n).2.2):=by
  intro n;induction n with
  |zero=>exact⟨⟨_,_,FT,b26,k26,m26⟩,⟨_,_,FT,b27,k27,m27⟩,⟨_,_,FT,b28,k28,m28⟩⟩
  |succ n ih=>obtain⟨J26,J27,J28⟩:=ih;have q26:=aoP (P:=l.prog) (w:=w) (base:=base) (k:=81+n) T F26 J27 Et.u Hn.u Eu.u;have q27:=aoJ (P:=l.prog) (w:=w) (base:=base) (k:=81+n) T F27 J28 Et.u Hn.u Eu.u;have q28:=aoO (P:=l.prog) (w:=w) (base:=base) (k:=81+n) T F28 J28 J26 H25.u Et.u Hn.u Eu.u HM8.u HM9.u;exact⟨⟨_,_,q26,b26,k26,m26⟩,⟨_,_,q27,b27,k27,m27⟩,⟨_,_,q28,b28,k28,m28⟩⟩
 obtain⟨H26,H27,H28⟩:=Fa1 85;have H29:=Zi.uc W λ_ _ F=>aoU T F H26.u HM6.u;have H30:=Zj.uc W λ_ _ F=>(aoM T F H29.u HI2.u).cl;have H31:=Zk.Aw W λ_ _ F=>aoe T F;obtain⟨f33,_,F33,b33,k33,m33⟩:=Zo.Aq W ["term"];have o33:=T8 (P:=l.prog) (w:=w) (K:=K) (mg:=mg) (base:=base) (f:=f33) (x:="show_term") (k0:=1) (st:=2) (F0:=acO a) (hn:=rfl) (λo=>⟨_,_,o,b33,k33,m33⟩) (λFs k hk Hh=>by have J32:=Zm.uL W λ_ _ F=>aom (k:=k+0) T F Hh.u;exact aol (k:=k+1) T F33 J32.u Hh.u H31.u H16.u) 32
 have H33:km _ _ _ _ _ _ _ _ _ _:=⟨_,_,o33,b33,k33,m33⟩;obtain⟨f35,_,F35,b35,k35,m35⟩:=Zr.Aq W ["condition"];have o35:=T8 (P:=l.prog) (w:=w) (K:=K) (mg:=mg) (base:=base) (f:=f35) (x:="show_condition") (k0:=65) (st:=2) (F0:=acN a) (hn:=rfl) (λo=>⟨_,_,o,b35,k35,m35⟩) (λFs k hk Hh=>by have J34:=Zq.uL W λ_ _ F=>aoi (k:=k+0) T F Hh.u;exact aoj (k:=k+1) T F35 J34.u Hh.u H31.u H33.u) 32
 have H35:km _ _ _ _ _ _ _ _ _ _:=⟨_,_,o35,b35,k35,m35⟩;have H36:=Zu.uL W λ_ _ F=>aoq T F;have H37:=Zv.uL W λ_ _ F=>aoy T F;have H38:=Zw.uc W λ_ _ F=>aov T F H37.u;have H39:=Zy.uL W λ_ _ F=>aoz T F;have H40:=Zz.uc W λ_ _ F=>aoF T F;have H41:=ZD.uL W λ_ _ F=>aox T F H38.u H40.u H39.u;have PN:=ZF.Aw W λ_ _ F=>aoD T F;have H43:=ZJ.Aw W λ_ _ F=>aoI T F PN.u;have H44:=ZK.uL W λ_ _ F=>aoB T F H38.u H40.u PN.u;have H45:=ZL.Aw W λ_ _ F=>aor T F;have H46:=ZM.Aw W λ_ _ F=>aow T F PN.u;have H47:=ZP.uc W λ_ _ F=>aot T F PN.u;have H48:=ZQ.uL W λ_ _ F=>aoE T F;have H49:=ZR.Aw W λ_ _ F=>aoG T F H43.u H44.u H45.u H47.u H46.u H41.u;have H50:=ZV.uL W λ_ _ F=>aou T F H45.u H46.u;have H51:=ZX.Aw W λ_ _ F=>(aos T F H48.u H49.u H50.u).cl;obtain⟨f52,_,F52,b52,k52,m52⟩:=ZZ.alc W ["_law_found","_law_due"];have o52:=T8 (P:=l.prog) (w:=w) (K:=K) (mg:=mg) (base:=base) (f:=f52) (x:="_law_alike") (k0:=0) (st:=1) (F0:=acP a) (hn:=rfl) (λo=>⟨_,_,o,b52,k52,m52⟩) (λFs k hk Hh=>by exact aop (k:=k+0) T F52 Hh.u) 60
 have H52:km _ _ _ _ _ _ _ _ _ _:=⟨_,_,o52,b52,k52,m52⟩;have H53:=Z4.uL W λ_ _ F=>aoH T F;have H54:=Z5.uc W λ_ _ F=>(aoC T F).cl;have H55:=Z6.Aw W λ_ _ F=>aoA T F H30.u H52.u;have o56:=aof (P:=l.prog) (w:=w) (base:=base) T F56 H36.u H51.u H35.u H53.u H30.u H52.u H54.u H55.u;refine o56.imp λvs H Q E q=>?_;obtain⟨al,ns,hl,fr,hn,rv,tt,q⟩:=q;refine⟨hl,tt,al,_,fr,rv,?_⟩;have A:Aft K al E H (R.ok<|D.bl true) (λd H'=>∀v,Rep K al H' v d->Q v H'):=λH' sm v rv=>by cases rv;exact q H' sm
 have mt:Dw a.oO a.NoText a.NoText=true:=by unfold Dw;rw[ei,amm aab<|by simp];rfl
 rw[<-am4 (akc _) (akl _) (shM _) (stM _) (rcM _) (alM _) (prM _) (neM _ mt) ns]at A;exact A
def walk{l:PySem.W.OpenLaw}{q:Program}{loose:List Str}{XP:(nO)->Heap->Prop}{YP:World->Heap->Prop}{d:DefRec}{K:Params->PySem.W.Frag}(hn:l.most=some 63)(hdf:d.params.defaults=[])
    (hY:∀(w:World) (h:Heap),YP w h->(K w.params).In h)(hT:∀w:World,(ue<|K w.params).all (λt=>((PyProof.Rows.recsOf q).find? λe=>e.name==t.1).isSome)=true)(hN:∀w:World,PySem.W.noTabs (K w.params)=true)
    (F:∀(w:World) (mg:nO) (fa:Addr) (h:Heap),(K w.params).In h->h.Ns mainGlobals mg->mg d.name=some (.ref fa)->
      ∃fd:FuncData,(∀(s:Shared) (u:Value),BindsTo s fd ⟨[u],[]⟩ [("_law_script",u)])/\∀base:Heap,(K w.params).In base->base.Ns mainGlobals mg->BM mg base->jZ l.prog w (K w.params) mg base (jF l.prog w) 170 fa fd ["_law_script"] (abm (K w.params))):
    PySem.W.WalkO q loose XP YP l.row.toRowW d [] (λf vs=>PySem.call f vs):=by
 refine Att.ajE hn hdf λw s₀ s₁ mg mb fa o pm cd doc a vs ns G Y ho hd hcd MJ RM hints hlen hg=>?_;have KX:=hY w _ Y;obtain⟨fd,hb,hF⟩:=F w mg fa _ KX G.T.g MJ;refine amH KX G.T.g G.T.b G.T.builtins G.T.nolimit hg RM hints (aJ hlen<|by decide) ⟨rfl,by decide,by decide⟩ (auv G.T KX<|hT w) (hN w) G.T.bmain hF hb (λH tt hS=>atn hlen tt ?_) λH e s' h=>?_
 ·rcases hS with h|⟨o,its,n,h1,h2,h3,h4,h5,h6⟩;·exact .lst (.inl ⟨trivial,h⟩) (aat _)
  ·have e:=KX a o h1;rw[RM]at e;cases e;cases h4;exact .lst (.inr ⟨vs,_,h1,by simpa using h5,by simpa using h6⟩) (aat _)
 ·obtain⟨_,_,_,_,_,_,_,_,_,_,_,_,z⟩:=h;exact z
end Ac
structure PySem.W.Fast:Prop where
 (tw8095856051707437705 tw10394289879352419947 tw14697879691577701181 tw17325401085182901734 tw3268543369790873138 tw11394550827021625199 tw17100222568547502970 tw2154926654390842707 tw11716426468616558287 tw1177401373932791182 tw384332107554200992 tw11395068760667692841 tw11721794570309101606 tw10880584313607295618 tw11790223537179543531 tw3927008524019216173 tw8200720517867910251 tw197420702815590093 tw15668395707540838048 tw6760734374029638525 tw15790131944247141839 tw16283229404288110511 tw16990594381143995625 tw116736456272952626 tw17621436207681935088 tw6305565708201003145 tw17893900512126615129 tw10131797847330635187 tw16271874186605413652 tw10879976838024157122 tw3648642424723437227 tw16397397637404970087 tw6909065319029380234 tw3241919734046348399 tw14873625147754715116 tw9521993876571554469 tw4710407927289334911 tw9020263873806368890 tw2778874611634259859 tw7569710027727192078 tw6812853754830450242 tw12457758448606734980 tw2610265954874831560 tw12905183863948447106 tw2679741966676884278 tw6213449616907591541 tw8428033105132034059 tw15875507257529798598 tw5189247925421463645 tw13678045701402532674 tw4368169645829558896 tw16821141394322788090 tw4644412666775168222 tw2216155097725031983 tw4460118975181464986 tw7452128626107843298 tw11181318842540257617 tw5125734812554771963 tw11014060213979191851 tw2258872988927976923 tw11068746915078589582 tw2909804181764617942 tw5737802203701956930 tw10218255000722658286 tw13708426846575643976 tw1365241402237944037 tw12558802381302197056 tw7814546051768032380 tw17069620220161189305 tw7018098276704154974 tw8020472347275640566 tw6731986646747886313 tw3522281408988244930 tw14947963388556826824 tw9897234445213364096 tw7339738488740215987 tw15144272543514766671 tw15712177190725408239 tw9056580186248830524 tw13105445863121506991 tw3676436003502149836 tw14811878084306415887 tw13624667072702592136 tw1228605606704445932 tw11143518723340128158 tw17545357716634533872 tw7230581736543783426 tw10082321031144444798 tw1693267665383286358 tw1326607462634845757 tw13328549002354012525 tw16967763059643759694 tw717259701074733790 tw11121575660095386480 tw8809683861056242528 tw9256550631485588295 tw15375024349665072520 tw9478774235941539313 tw14649292796013917837 tw3736304605444465770 tw1405786119252922847 tw10144466632940042989 tw2093560287068336933 tw9036893059586747396 tw17920059655328912824 tw10277424278686123854 tw1412856362831930056 tw416531308671518809 tw10491692216386194355 tw13264184110771558564 tw7417292744919094608 tw9177964330080605383 tw13195719156273034619 tw14600516005386458288 tw1048578318169786707 tw7787038430855372813 tw862971747555879568 tw3930152091263662006 tw3465114430214036959 tw11197765881477976841 tw1980166516123130807 tw17225249144539178674 tw6112979863081704079 tw2068638198245547626 tw10666248313836789175 tw1512334145840249801 tw12839771615034335707 tw9304035220047617412 tw15503163921960777029 tw4012834916290970993 tw4549868485096387253 tw13493442636635721422 tw13162563091163057777 tw16635166128554973891 tw10156747702085762565 tw13346655499847708045 tw5390892495881511968 tw10993359325661466524 tw10130277646552280008 tw1085766420853603278 tw13650275258227578423 tw5376413852618047320 tw8041895014980598280 tw2435244567250554115 tw12630754204788247626 tw16229017180125834553 tw4882530446751673145 tw13893773777776620135 tw12012514251137938171 tw11450821430598944130 tw1825670683286220613 tw10346416455652435255 tw9798674860336503346 tw12720214743217960862 tw5698073413860421261 tw534209542006809966 tw9180243748190120117 tw14993327235470469783 tw6988669500171422524 tw12855763166674714815 tw9713797561419877144 tw6405321610613433513 tw1488271903738852230 tw4621802490068592007 tw10764376221664000742 tw3705180352291012310 tw15688585083783901225 tw17436841954103434198 tw16012242641651112955 tw5921976811688085341 tw16033063355608558577 tw9912923193786953522 tw4019609855027606835 tw5996472785333690553 tw16180240918152744975 tw13228213253569632379 tw609982938805082107 tw9753868130527842860 tw6928551712923642846 tw8501675741223479185 tw7244744590933719337 tw2282842098869071312 tw8981779271652768359 tw17903125091996746311 tw12140283714286484215 tw10264924918786330183 tw17923514105192228386 tw16744258063706930561 tw14388719409809263819 tw2897511356945044654 tw15191008500123662947 tw6372066186560118695 tw1090762111884708500 tw801222725582931604 tw5154575893606591483 tw4348454843357464004 tw1222593310591344643 tw9862419295623452909 tw7913423447659664582 tw16880937508796433120 tw14300505267617639727 tw11805961915894405794 tw10888530919134160611 tw7906737676885555921 tw3952283444849202198 tw15076921049671449355 tw14558572982787535579 tw13862355550921668842 tw5943687056557308793 tw4053543308286532038 tw14305804038325866894 tw3308320388231793218 tw2930225451964505913 tw2789679715564701804 tw2440980302150754656 tw17870658936946169198 tw15939002352134547950 tw15748171127088291002 tw1471267366252777879 tw13890606287378009044 tw13833873007163316800 tw10910503488641853378 tw14176065813088495529 tw13667864711987635587 tw8701413967862319348 tw7237568141104139612 tw6549481472541741499 tw5303091006012295056 tw4708352368809025710 tw3482742049797662288 tw15240702273604733670 tw9526652953208931417 tw14599926122244381095 tw10702050832626881791 tw14304297213591185878 tw1859222592616591011:True)
open PySem PySem.W PyProof.Rows
set_option maxRecDepth 100000 in
set_option maxHeartbeats 0 in
theorem PySem.Challenge.cw_weather_k33_whole_conditions_read_back_holds : PySem.Challenge.rw_weather_k33_whole_conditions_read_back.Holds := by
 w_on;o_law;k_head;(case hw=>w_witness2)
 k_fill
 refine Ac.walk (l:=PySem.Challenge.rw_weather_k33_whole_conditions_read_back) rfl rfl (λw h Y=>by first|exact PySem.W.km_in_of Y|exact PySem.W.kIn_of Y) ?hT ?hN ?F;case hT=>exact λw=>by kernel_rfl
 case hN=>exact λw=>by kernel_rfl
 case F=>
  intro w mg fa h KX G MJ;refine' Ac.all_mk KX G MJ ?p1 ?YM ?YQ ?YS ?YT ?YW ?YX ?YZ ?Y0 ?Y4 ?Y5 ?Y6 ?Y7 ?Y8 ?Y9 ?Zc ?Zd ?Zf ?Zg ?Zh ?Zi ?Zj ?Zk ?Zm ?Zo ?Zq ?Zr ?Zu ?Zv ?Zw ?Zy ?Zz ?ZD ?ZF ?ZJ ?ZK ?ZL ?ZM ?ZP ?ZQ ?ZR ?ZV ?ZX ?ZZ ?Z4 ?Z5 ?Z6 ?a56 ?X8 ?V5 ?XX ?Vz ?Vw ?Vx ?Vy ?aeF ?Yb ?V6 ?X3 ?abY ?abZ ?ab0 ?ab1 ?ab2 ?ab3 ?ab4 ?We ?Wf ?Wg ?Wh ?Wi ?Wj ?Wo ?Wn ?Wm ?Wl ?p2 ?a3 ?n3 ?l3 ?c3 ?k3 ?d3 ?p4 ?p5 ?p6 ?p7 ?p8 ?p9 ?aco ?acu ?acr ?acw ?acn ?acs ?acq ?acv ?acj ?U3 ?ack ?aab ?Il ?Iu ?IK ?Ik ?Ip ?Iv ?Iz ?Iw ?Ir ?Io ?Im ?Yp ?ab7 ?ab8 ?aca ?acb ?acd ?ace ?acf ?acg ?ach ?aci;case p1|YM|YQ|YS|YT|YW|YX|YZ|Y0|Y4|Y5|Y6|Y7|Y8|Y9|Zc|Zd|Zf|Zg|Zh|Zi|Zj|Zk|Zm|Zo|Zq|Zr|Zu|Zv|Zw|Zy|Zz|ZD|ZF|ZJ|ZK|ZL|ZM|ZP|ZQ|ZR|ZV|ZX|ZZ|Z4|Z5|Z6=>exact .mk
  case a56|X8|V5|XX|Vz|Vw|Vx|Vy|aeF|Yb|V6|X3=>(show _=_;k_is)
  case abY=>kernel_rfl
  case abZ|ab0|ab1|ab2|ab3|ab4=>(show _=_;k_is)
  case We|Wf|Wg=>kernel_rfl
  case Wh=>(show _=_;k_is)
  case Wi=>kernel_rfl
  case Wj|Wo|Wn|Wm|Wl=>(show _=_;k_is)
  case p2=>exact .mk
  case a3|n3|l3|c3|k3|d3=>(show _=_;k_is)
  case p4|p5|p6|p7|p8|p9=>exact .mk
  case aco=>k_exc
  case acu|acr|acw=>(show _=_;k_is)
  case acn=>k_exc
  case acs|acq|acv|acj|U3|ack=>(show _=_;k_is)
  case aab=>kernel_rfl
  case Il|Iu|IK|Ik|Ip|Iv|Iz|Iw|Ir|Io|Im|Yp|ab7|ab8|aca|acb|acd|ace|acf|acg|ach|aci=>(show _=_;k_is)
