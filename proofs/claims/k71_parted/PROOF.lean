import PyProof.Rows.All
import Wide.All
import OpenK.AllK
import Wide.FinOn
import Lean
import PyProof.EqAt
import PyProof.EqKinds
import PyProof.TupleCall
import PyProof.StationsW
import KE.IntBitsLaws
import PyProof.ExcClass2
import PyProof.ExcInit
import PyProof.InstStoreFacts
import PyProof.ExcArgsOwn
import PyProof.ExcAttrAll.ValueError
import KE.KNestM
import KE.IntTextLaws
import KE.KIsAll
import PyProof.Rows.EqDataRows
import PyProof.StrCalls2
import PyProof.Rows.StrSplitJoin
import KE.KIntText
import PyProof.StrBlockI
import PyProof.StrLawsIn
import PyProof.StrLawsIdx
import KE.KLam
import KE.KRevIter
import KE.KSortTup
import PyProof.Rows.SortWalk
import PyProof.Conv_int_bool
import KE.KDictLaws
import PyProof.AttrMissHeap
import KE.KDictOf
import PyProof.DictWalks
import PyProof.StrLawsChain
import PyProof.StrLawsTight
import PySem.Challenge.RW_weather_k71_parted
set_option linter.all false
def ae:=@PySem.wpAny_bind
def af:=@PySem.wpAny_pure
def ag:=@Nat.le_refl
def ah:=@PySem.Heap.get?_push_of_some
def ai:=@Nat.le_of_ble_eq_true
def aj:=@List.length_map
def ao:=@List.length_append
def aq:=@List.length_cons
def ar:=@List.getElem?_set_ne
def au:=@List.getElem?_eq_getElem
def av:=@if_pos
def aw:=@if_neg
def ax:=@Bool.false_ne_true
def ay:=@List.getElem?_append_left
def az:=@List.getElem?_eq_some_iff
def aA:=@List.getElem?_set_self
def aB:=@Option.map_eq_some_iff
def aC:=@Array.length_toList
def aD:=@List.mem_cons
def aE:=@List.getElem?_map
def aF:=@Nat.lt_of_lt_of_le
def aG:=@decide_eq_false
def aH:=@PySem.Heap.get?_push_size
def aI:=@List.mem_map
def aJ:=@Array.getElem?_eq_getElem
def aK:=@List.getElem?_append_right
def aL:=@Option.bind_eq_some_iff
def aM:=@List.size_toArray
def aN:=@decide_eq_true
def aO:=@List.length_set
def aP:=@List.mem_singleton
def aQ:=@Bool.and_eq_true
def aR:=@List.map_cons
def aS:=@Nat.le_trans
def aT:=@PySem.wpAny_ite_split
def aU:=@Nat.ne_of_lt
def aV:=@PySem.wpAny_newObj_type
def aW:=@List.getD_eq_getElem?_getD
def aX:=@List.mem_cons_of_mem
def aY:=@PySem.Heap.get?_update_self
def aZ:=@Array.getElem?_toList
def a9:=@Int.eq_ofNat_of_zero_le
def bc:=@List.mem_of_getElem?
def bf:=@List.append_nil
def bg:=@List.map_map
def bh:=@List.mem_append
def bj:=@Bool.false_eq_true
def bo:=@PySem.Obj.data_mapFields
def bp:=@Int.toNat_natCast
def bq:=@PySem.wpAny_mono
def br:=@Array.getElem?_eq_some_iff
def bu:=@PySem.Heap.SameBut.update
def bw:=@decide_eq_true_eq
def bx:=@PySem.wpAny_call_entry
def bz:=@PySem.mem_of_lookup
def bA:=@List.mem_append_right
def bB:=@List.mem_filterMap
def bC:=@List.nodup_cons
def bD:=@congrArg
def bE:=@PySem.wpAny_holding
def bF:=@List.map_append
def bG:=@List.getElem?_replicate
def bH:=@PySem.wpAny_callSpecial?_slot
def bI:=@if_false
def bJ:=@List.mem_range
def bK:=@PySem.Heap.get?_update_other
def bL:=@List.mem_cons_self
def bM:=@Nat.zero_le
def bN:=@PySem.Obj.isFreed_of_fields
def bO:=@List.getElem_of_mem
def bP:=@Ne.symm
def bQ:=@of_decide_eq_true
def bR:=@PySem.wpAny_setState_of
def bS:=@List.append_assoc
def bT:=@PySem.wpAny_setField
def bU:=@Nat.lt_succ_self
def bV:=@List.any_eq_false
def bW:=@PySem.F.slot_list_append
def bX:=@PySem.F.plainAttrs_list
def bY:=@Nat.lt_of_le_of_lt
def bZ:=@List.getElem_mem
def b7:=@Classical.byContradiction
def b8:=@PySem.F.slot_dict_valueiterator_next
def b9:=@Nat.lt_succ_of_lt
def cb:=@List.length_singleton
def cc:=@PySem.F.type_list_append
def cf:=@PySem.wpAny_Call_Name_kw
def cg:=@PySem.F.slot_dict_keyiterator_next
def cj:=@Int.emod_lt_of_pos
def ck:=@List.length_drop
def cm:=@List.not_mem_nil
def cn:=@PySem.Around.under_plainId
def cq:=@PySem.Heap.size_push
def cu:=@Array.getElem?_eq_none
def cw:=@List.take_of_length_le
def cx:=@List.map_congr_left
def cy:=@PySem.codeAny_builtin
def cz:=@List.find?_cons
def cB:=@Int.emod_nonneg
def cC:=@List.length_replicate
def cD:=@List.length_take
def cF:=@List.all_eq_true
def cG:=@Nat.le_add_right
def cH:=@Nat.lt_irrefl
def cI:=@Nat.le_of_lt
def cJ:=@List.any_cons
def cK:=@PySem.wpAny_typeNameOfWhole_keyiter
def cL:=@PySem.wpAny_typeNameOfWhole_valiter
def cM:=@decide_eq_false_iff_not
def cN:=@List.filter_cons_of_pos
def cO:=@List.filter_cons_of_neg
def cP:=@Nat.not_lt_zero
def cQ:=@beq_eq_false_iff_ne
def cR:=@PyProof.Rows.F.plain_set_update_loop
def cS:=@PyProof.Rows.callWith_type1
def cT:=@Nat.pow_succ
def cU:=@Nat.le_succ
def cV:=@List.any_eq_true
def cW:=@PySem.tupleKind_room_in1
def cX:=@PySem.wpAny_fieldsOf
def cY:=@List.drop_eq_getElem_cons
def cZ:=@PySem.wpAny_passesOwn
def c0:=@Int.mul_ne_zero
def c5:=@List.mem_append_left
def c6:=@PySem.wpAny_truthy_bool
def c7:=@PySem.sizeLine_eq
def c8:=@if_true
def c9:=@PySem.Obj.cls_mapFields
def da:=@PySem.wpAny_dictEntries
def dc:=@PySem.wpAny_attempt
def df:=@PySem.wpAny_typeNameOf_keyiter
def dg:=@PySem.wpAny_typeNameOf_valiter
def dh:=@List.length_filterMap_le
def di:=@PySem.wpAny_setEntries_of
def dj:=@PyProof.Rows.callWith_builtin1
def dm:=@PySem.wpAny_getItem_str_slice
def dq:=@Nat.ne_of_gt
def dr:=@PySem.Calls.spliced_cons
def du:=@PySem.Calls.callWith_builtin
def dw:=@List.drop_eq_nil_of_le
def dy:=@List.mem_filter
def dB:=@Bool.eq_iff_iff
def dD:=@Bool.or_eq_true
def dE:=@List.length_nil
def dF:=@PySem.wpAny_dictEpoch
def dG:=@List.foldl_cons
def dH:=@PySem.F.typeOf_object_class
def dI:=@PySem.wpAny_loadPart_at
def dJ:=@List.length_range
def dM:=@Array.mem_toList_iff
def dN:=@beq_iff_eq
def dO:=@PySem.wpAny_field
def dP:=@Array.perm_iff_toList_perm
def dQ:=@PySem.F.args_dict_valueiterator_next_1
def dR:=@PySem.wpAny_typeOf
def dS:=@List.map_nil
def dU:=@Array.toList_inj
def dW:=@Nat.sub_self
def dX:=@PySem.wpAny_isInstance
def dY:=@Nat.succ_pos
def dZ:=@PySem.F.entry_dict_valueiterator_next
def d3:=@List.filterMap_cons
def d4:=@PySem.Heap.get?_update_ne
def d5:=@PySem.F.args_dict_keyiterator_next_1
def d6:=@PyProof.Rows.F.entry_set_update_loop
def d7:=@Option.isSome_iff_exists
def d8:=@PySem.F.entry_dict_keyiterator_next
def d9:=@PySem.plainId_quiet
def ec:=@of_decide_eq_false
def ee:=@List.pairwise_cons
def eA:=@Nat.mod_lt
def eC:=@PySem.F.plainAttrs_dict
def eD:=@List.getElem?_cons_succ
def eE:=@PySem.Calls.spliced_nil
def eF:=@PySem.codeAny_mono
def eG:=@Nat.lt_trans
def eH:=@List.reverse_cons
def eI:=@decide_false
def eJ:=@PySem.wpAny_pyIter_slot
def eK:=@Nat.lt_trichotomy
def eM:=@List.pairwise_lt_range
def eN:=@PySem.wpAny_storeSet_of
def eP:=@PySem.wpAny_seqItems
def eQ:=@Nat.Coprime.dvd_of_dvd_mul_right
def eR:=@List.take_succ_eq_append_getElem
def eS:=@PyProof.Rows.slot_tuple_getitem
def eT:=@Array.getElem?_setIfInBounds_ne
def eU:=@List.getElem?_eq_none
def eV:=@Array.mem_of_getElem?
def eX:=@PySem.F.slot_dict_get
def eY:=@PySem.wpAny_notOrdered_dict
def eZ:=@List.Pairwise.sublist
def fh:=@PySem.builtinLookup_eq_fast
def fi:=@PySem.wpAny_isOneOf_valiter
def fj:=@List.set_append_right
def fm:=@PySem.putSet_of
def fq:=@PySem.Around.in1_units
def fw:=@PySem.wpAny_standAt
def fx:=@Bool.not_true
def fy:=@PySem.Calls.evalArgs_plain
def fA:=@or_false
def fC:=@PySem.codeAny_call_builtin
def fD:=@decide_true
def fE:=@PySem.F.slot_dict_values_iter
def fF:=@PySem.wpAny_execs_nil
def fG:=@PySem.post_val_or_str
def fH:=@PySem.F.slot_dict_setdefault
def fJ:=@List.nil_append
def fK:=@List.toList_toArray
def fL:=@List.length_reverse
def fM:=@Array.getD_eq_getD_getElem?
def fN:=@PySem.W.kia_one
def fP:=@PySem.Calls.Name_function_global
def fQ:=@PyProof.Rows.assignInOrder_cons
def fR:=@Int.fdiv_eq_ediv_of_nonneg
def fS:=@Nat.add_sub_cancel
def fT:=@List.zip_cons_cons
def fU:=@PySem.isSubtype_stop
def fV:=@List.find?_eq_none
def fX:=@Int.natAbs_mul
def fY:=@Int.eq_of_mul_eq_mul_right
def fZ:=@List.pairwise_iff_getElem
def f3:=@PySem.wpAny_pyIter_list
def f5:=@Bool.not_eq_true'
def f6:=@PySem.wpAny_of_eq
def f7:=@List.nodup_append
def f9:=@List.Pairwise.map
def gc:=@List.foldl_append
def gf:=@List.flatMap_cons
def gg:=@Bool.false_or
def gh:=@PySem.wpAny_handled
def gi:=@PySem.F.slot_list_extend
def gj:=@Nat.mul_assoc
def gk:=@List.length_erase_of_mem
def gm:=@List.Pairwise.imp_of_mem
def gp:=@List.filterMap_cons_some
def gq:=@PySem.F.slot_dict_values
def gs:=@Int.mul_assoc
def gu:=@beq_self_eq_true
def gw:=@PySem.Heap.size_update
def gx:=@List.pairwise_singleton
def gy:=@Option.getD_some
def gz:=@List.ext_getElem
def gA:=@List.getElem_map
def gD:=@PySem.F.args_dict_get_2
def gE:=@List.lookup_cons
def gF:=@PySem.wpAny_askSetting
def gG:=@List.length_eq_zero_iff
def gH:=@PySem.F.plain_list_iadd
def gI:=@PySem.wpAny_forIn_list
def gJ:=@List.take_length
def gK:=@PySem.wpAny_rule
def gL:=@PySem.Txt.slice_le
def gM:=@UInt32.le_iff_toNat_le
def gP:=@PySem.call_meetsIn
def gQ:=@PySem.F.entry_dict_get
def gR:=@PySem.F.slot_dict_iter
def gS:=@Nat.lt_or_ge
def gU:=@Nat.mul_comm
def gX:=@Int.le_of_lt
def gY:=@Nat.le_mul_of_pos_left
def gZ:=@List.find?_cons_of_pos
def hA:=@List.find?_cons_of_neg
def hC:=@List.any_map
def hD:=@List.of_mem_zip
def hI:=@PySem.wpAny_specialOf
def hK:=@PySem.typeLookup_type
def hU:=@List.any_append
def hX:=@PySem.F.plain_set_new
def hY:=@PySem.F.slot_set_iter
def hZ:=@List.singleton_append
def h8:=@Int.natAbs_dvd_natAbs
def ia:=@List.length_filter_le
def ib:=@PySem.wpAny_bindName
def ic:=@Array.getElem_toList
def ie:=@Array.toArray_toList
def ig:=@Bool.or_eq_false_iff
def ik:=@PySem.wpAny_throw
def il:=@Array.toList_extract
def ip:=@PySem.isSubtype_type
def iq:=@List.length_eraseIdx
def ir:=@List.perm_cons_erase
def iu:=@Bool.and_false
def iw:=@Nat.mul_add
def ix:=@Nat.add_mul
def iy:=@List.mem_erase_of_ne
def iz:=@Nat.pow_le_pow_right
def iA:=@List.mem_of_mem_take
def iC:=@List.mem_of_mem_drop
def iD:=@Bool.not_false
def iE:=@List.reverse_reverse
def iF:=@Nat.le_of_eq
def iG:=@Bool.or_true
def iH:=@Bool.true_or
def iI:=@Int.mul_comm
def iJ:=@Int.mul_one
def iK:=@Nat.mul_one
def iL:=@Int.le_refl
abbrev oT:List PySem.Str:=["_law_stream","_law_words"]
abbrev rN:List PySem.Str:=["_law_stream","_law_many"]
abbrev uA:List PySem.Str:=["_law_script","_law_k"]
abbrev uB:List PySem.Str:=["_law_top","_law_bottom"]
abbrev BQ:List PySem.Str:=["self","reading","ask"]
abbrev BR:List PySem.Str:=["self","reading","asked"]
abbrev BS:List PySem.Str:=["_law_script","_law_first","_law_most","_law_words"]
abbrev BU:List PySem.Str:=["_law_script","_law_first","_law_many","_law_words"]
abbrev jP:=PySem.Value->PySem.Shared->Prop
abbrev kd:=PySem.Str->Option PySem.Value
abbrev sQ:Nat:=10000000000000000000000000000000000000000000000000000000000000000000000000000000000000000000000000000000000000000000000000000000000000000000000000000000000000000000000000000000000000000000000000000000000000000000000000000000000000000000000000000000000000000000000000000000000000000000000000000000000000000000000000000000000000000000000000000000000000000000000000000000000000000000000000000000000000000
noncomputable section
set_option Elab.async false
set_option maxRecDepth 100000
namespace L2
open PySem PySem.Spec PyProof.Rows
abbrev Key:=Sum Int Str
def pG:Key->Value->Bool
 |.inl k,v=>Value.isInt k v
 |.inr x,v=>Value.isStrOf x v
def R4(w:World):Key->Int
 |.inl k=>hashInt k
 |.inr x=>hashStr w x
def qU:∀{k} {v},pG k v=true->(∃i t,k=Sum.inl i/\v=Value.int i t)\/(∃x t,k=Sum.inr x/\v=Value.str x t)
 |.inl i,v,h=>by obtain⟨t,e⟩:=Value.isInt_shape (k:=i) (v:=v) h;exact .inl ⟨i,t,rfl,e⟩
 |.inr x,v,h=>by obtain⟨t,e⟩:=Value.isStrOf_shape (x:=x) (v:=v) h;exact .inr ⟨x,t,rfl,e⟩
def R5(i:Int)(t):pG (.inl i) (.int i t)=true:=by simp[pG,Value.isInt]
def R6(x t):pG (.inr x) (.str x t)=true:=by simp[pG,Value.isStrOf]
def R8(a b:Int):decide ((Sum.inl a:Key)=Sum.inl b)=(a==b):=by
 by_cases e:a=b;·subst e;simp
 ·have h:¬(Sum.inl a:Key)=Sum.inl b:=λq=>e (Sum.inl.inj q);rw[aG h];exact(cQ.mpr e).symm
def Sb(a b):decide ((Sum.inr a:Key)=Sum.inr b)=decide (a=b):=by
 by_cases e:a=b;·subst e;simp
 ·have h:¬(Sum.inr a:Key)=Sum.inr b:=λq=>e (Sum.inr.inj q);rw[aG h,aG e]
def R9(a:Int)(b):decide ((Sum.inl a:Key)=Sum.inr b)=false:=aG (λq=>nomatch q)
def Sa(a)(b:Int):decide ((Sum.inr a:Key)=Sum.inl b)=false:=aG (λq=>nomatch q)
def j3(c:Program)(w:World):PySem.KeyKind c w Key where
 is:=pG
 hash:=R4 w
 inj:=λv a b g d=>by
  rcases qU g with⟨i,t,rfl,rfl⟩|⟨x,t,rfl,rfl⟩
  ·rcases qU d with⟨j,u,rfl,e⟩|⟨y,u,rfl,e⟩;·injection e with e1 _;rw[e1]
   ·exact nomatch e
  ·rcases qU d with⟨j,u,rfl,e⟩|⟨y,u,rfl,e⟩;·exact nomatch e
   ·injection e with e1 _;rw[e1]
 byValue:=λk v h=>by rcases qU h with⟨i,t,rfl,rfl⟩|⟨x,t,rfl,rfl⟩<;>rfl
 pyHash:=λhv h=>by
  rcases qU hv with⟨i,t,rfl,rfl⟩|⟨x,t,rfl,rfl⟩;·exact wpAny_pyHash_int h
  ·exact wpAny_pyHash_str h
 eqBool:=λf hv h=>by
  rcases qU f with⟨i,t,rfl,rfl⟩|⟨x,t,rfl,rfl⟩
  ·rcases qU hv with⟨j,u,rfl,rfl⟩|⟨y,u,rfl,rfl⟩;·rw[R8]at h;exact wpAny_eqBool_int h
   ·rw[R9]at h;exact SeqAt.EqAt.int_str i t y u _ _ _ _ h
  ·rcases qU hv with⟨j,u,rfl,rfl⟩|⟨y,u,rfl,rfl⟩;·rw[Sa]at h;exact SeqAt.EqAt.str_int x t j u _ _ _ _ h
   ·rw[Sb]at h;exact wpAny_eqBool_str h
 «strs»:=λk x t v h=>by
  rcases qU h with⟨i,u,rfl,e⟩|⟨y,u,rfl,e⟩;·exact nomatch e
  ·injection e with e1 _;subst e1;cases v<;>rfl
def T3(prog w)(i:Int)(t):(j3 prog w).is (.inl i) (.int i t)=true:=R5 i t
def T4(prog w x t):(j3 prog w).is (.inr x) (.str x t)=true:=R6 x t
inductive V where
 |non|bl(b:Bool)|int(i:Int)|str(x:Str)|nI(b:Array UInt8)|flt(b:UInt64)|ref(a:Addr)|ty(n:String)
 deriving DecidableEq
def RelV:V->Value->Prop
 |.non,u=>u=Value.none
 |.bl b,u=>u=Value.bool b
 |.int i,u=>∃t,u=Value.int i t
 |.str x,u=>∃t,u=Value.str x t
 |.nI b,u=>∃t,u=Value.bytes b t
 |.flt b,u=>∃t,u=Value.float b t
 |.ref a,u=>u=Value.ref a
 |.ty n,u=>u=Value.type n
abbrev Vals:List V->List Value->Prop:=Paired RelV
def Vals.length{a:List V}{b:List Value}(r:Vals a b):a.length=b.length:=Paired.length r
theorem Vals.get:∀{a:List V} {b:List Value} {i:Nat} {x:V},Vals a b->a[i]?=some x->∃u,b[i]?=some u/\RelV x u
 |_,_,_,_,.nil,e=>by simp at e
 |_,_,0,_,.cons r _,e=>by simp at e;subst e;exact⟨_,rfl,r⟩
 |_,_,i+1,x,.cons _ t,e=>by obtain⟨u,d,c⟩:=Vals.get (i:=i) (x:=x) t (by simpa using e);exact⟨u,by simpa using d,c⟩
theorem Vals.set{u}(r:RelV x u):∀{a} {b} i,Vals a b->Vals (a.set i x) (b.set i u)
 |_,_,_,.nil=>.nil
 |_,_,0,.cons _ t=>.cons r t
 |_,_,i+1,.cons q t=>.cons q (Vals.set r i t)
theorem Vals.append:∀{b a} {d c},Vals b d->Vals a c->Vals (b++a) (d++c)
 |_,_,_,_,.nil,s=>s
 |_,_,_,_,.cons r t,s=>.cons r (Vals.append t s)
theorem Vals.take:∀{a} {b} n,Vals a b->Vals (a.take n) (b.take n)
 |_,_,0,_=>.nil
 |_,_,_+1,.nil=>.nil
 |_,_,n+1,.cons r t=>.cons r (Vals.take n t)
theorem Vals.drop:∀{a} {b} n,Vals a b->Vals (a.drop n) (b.drop n)
 |_,_,0,r=>r
 |_,_,_+1,.nil=>.nil
 |_,_,n+1,.cons _ t=>Vals.drop n t
def mr:Option V->Option Value->Prop
 |some v,some u=>RelV v u
 |none,none=>True
 |_,_=>False
def KV{a:Type}:List (a×V)->List (a×Value)->Prop:=Paired λ(p:a×V) (q:a×Value)=>p.1=q.1/\RelV p.2 q.2
def kV:Key->V
 |.inl i=>.int i
 |.inr x=>.str x
inductive HO where
  /-- a list -/
 |lst(xs:List V)
  /-- a tuple (never changes) -/
 |tup(xs:List V)
  /-- a dict whose keys are ints and texts; one whose keys are tuples of ints and texts (the empty one is both) -/
 |dK(kvs:List<|Key×V)|dT(kvs:List<|List Key×V)
  /-- a set of ints: its members, its size -/
 |set(S:Int->Bool)(n:Nat)
  /-- an instance of the class at C, its dict at dx, its attributes -/
 |ins(C dx:Addr)(fs:List<|Str×V)
  /-- the dict of the instance at x -/
 |own(x:Addr)
  /-- the dict of an exception -/
 |xd(fs:List<|Str×V)
  /-- a bound method, f of x -/
 |met(f x:Addr)
  /-- a range object lo, lo + 1, .. below hi -/
 |zl(lo hi:Int)
  /-- a thing that is known to the object (the script; a dict while a loop walks it): read, never written while it is so -/
 |j6(o:Obj)(u:HO)
  /-- a code object's table -/
 |lM(ps:Array Value)
  /-- any other thing, by what is true of its one object (a def of one's own: SetO a S n := HO.ext λh => ..) -/
 |ext(φ:Heap->Prop)
abbrev Hp:=Addr->Option HO
def upd(H:Hp)(a:Addr)(o:HO):Hp:=λb=>if b=a then some o else H b
def kv:upd H a o a=some o:=by unfold upd;rw[av rfl]
def jA(h:b≠a):upd H a o b=H b:=by unfold upd;rw[aw h]
def Jr{H:Hp}{u}(h:H a=some o)(c:H b=some u)(d:o≠u):a≠b:=by intro e;subst e;rw[h]at c;exact d (Option.some.inj c)
def mZ{H:Hp}(h:H a=some o)(c:H b=none):a≠b:=by intro e;subst e;rw[h]at c;cases c
section
variable(P:Program)(w:World)
def kq(H:Hp)(h:Heap)(a:Addr):HO->Prop
 |.lst d=>d.length<=sizeLine/\∃c n,Vals d c/\h.get? a=some {cls:=.type "list",data:=.seq c.toArray n}
 |.tup d=>d.length<=sizeLine/\∃c:List Value,Vals d c/\IsTup h a c.toArray
 |.dK b=>b.length<=sizeLine/\(a==sysModules)=false/\∃j,KV b j/\h.DictOf (j3 P w) a j
 |.dT b=>b.length<=sizeLine/\(a==sysModules)=false/\∃d:List (List Key×Addr×Value),
   Paired (λ(p:List Key×V) (q:List Key×Addr×Value)=>p.1=q.1/\H q.2.1=some (.tup<|p.1.map kV)/\RelV p.2 q.2.2) b d/\
   ∃o m y,h.get? a=some o/\o.ExactDict/\o.data=.dict m y/\m.toList=d.map (entryOfKey<|tupleKind<|j3 P w)/\(d.map (·.1)).Nodup
 |.set S n=>h.SetOf (intKind P w) a S n
 |.ins C g fs=>H g=some (.own a)/\fs.length<=1000/\g≠a/\h.get? a=some (W.instObj C g)/\
   ∃e,h.Ns1 g e/\(∀f,mr (fs.lookup f)<|e f)/\PySem.Within e (fs.map (·.1))
 |.own _=>∃o,h.get? a=some o
 |.xd fs=>∃e,h.Ns1 a e/\∀f,mr (fs.lookup f) (e f)
 |.zl lo s=>∃t u v,h.get? a=some {cls:=.type "range",data:=.fields #[.int lo t,.int s u,.int 1 v]}
 |.j6 o u=>h.get? a=some o/\kq H h a u
 |.lM r=>h.get? a=some {cls:=.none,data:=.fields r}
 |.met f x=>h.get? a=some (W.methodObj (.ref f)<|.ref x)
 |.ext i=>i h/\(∃o,h.get? a=some o)/\∀l k:Heap,i l->(∀o,l.get? a=some o->k.get? a=some o)->i k
def kA(H:Hp)(h:Heap):Prop:=∀a o,H a=some o->kq P w H h a o
variable{P:Program}{w:World}{H i:Hp}{h h':Heap}{a:Addr}{o:HO}
def kq.lt(x:kq P w H h a o):a<h.objs.size:=by
 cases o with
 |lst c=>obtain⟨_,_,_,_,e⟩:=x;exact Heap.lt_size e
 |tup c=>obtain⟨_,_,_,p⟩:=x;exact p.lt
 |dK b=>obtain⟨_,_,_,_,o,_,_,e,_⟩:=x;exact Heap.lt_size e
 |dT b=>obtain⟨_,_,_,_,o,_,_,e,_⟩:=x;exact Heap.lt_size e
 |set S n=>obtain⟨o,_,_,_,e,_⟩:=x;exact Heap.lt_size e
 |ins C k fs=>obtain⟨_,_,_,e,_⟩:=x;exact Heap.lt_size e
 |own y=>obtain⟨_,e⟩:=x;exact Heap.lt_size e
 |xd fs=>obtain⟨_,⟨_,_,_,e,_⟩,_⟩:=x;exact Heap.lt_size e
 |zl lo j=>obtain⟨_,_,_,e⟩:=x;exact Heap.lt_size e
 |j6 ob u=>obtain⟨e,_⟩:=x;exact Heap.lt_size e
 |lM g=>exact Heap.lt_size (show h.get? a=some _ from x)
 |met f y=>exact Heap.lt_size (show h.get? a=some _ from x)
 |ext d=>obtain⟨_,⟨_,e⟩,_⟩:=x;exact Heap.lt_size e
theorem Paired.BX{g e:Type}{F G:g->e->Prop}:∀{d:List g} {c:List e},Paired F d c->(∀a b,F a b->G a b)->Paired G d c
 |_,_,.nil,_=>.nil
 |_,_,.cons r t,f=>.cons (f _ _ r) (Paired.BX t f)
def kq.stay(x:kq P w H h a o)(k:∀b u,(b=a\/H b=some (.own a))->h.get? b=some u->h'.get? b=some u)
    (J:∀b,H b=some (.own a)->i b=some (.own a))(I:∀b m,H b=some (.tup m)->i b=some (.tup m)):kq P w i h' a o:=by
 induction o with
 |lst m=>obtain⟨z,l,n,r,e⟩:=x;exact⟨z,l,n,r,k _ _ (.inl rfl) e⟩
 |tup m=>obtain⟨z,l,r,ob,e,c⟩:=x;exact⟨z,l,r,ob,k _ _ (.inl rfl) e,c⟩
 |dK B=>obtain⟨z,y,F,r,ob,g,j,e,c⟩:=x;exact⟨z,y,F,r,ob,g,j,k _ _ (.inl rfl) e,c⟩
 |dT B=>obtain⟨z,y,m,r,ob,g,j,e,c⟩:=x;exact⟨z,y,m,Paired.BX r λp q z=>⟨z.1,I _ _ z.2.1,z.2.2⟩,ob,g,j,k _ _ (.inl rfl) e,c⟩
 |set S n=>obtain⟨ob,g,j,t,e,c⟩:=x;exact⟨ob,g,j,t,k _ _ (.inl rfl) e,c⟩
 |ins C N fs=>obtain⟨d,z,ne,e,A,⟨s,g,j,K,c⟩,r⟩:=x;exact⟨J _ d,z,ne,k _ _ (.inl rfl) e,A,⟨s,g,j,k _ _ (.inr d) K,c⟩,r⟩
 |own y=>obtain⟨ob,e⟩:=x;exact⟨ob,k _ _ (.inl rfl) e⟩
 |xd fs=>obtain⟨A,⟨s,g,j,e,c⟩,r⟩:=x;exact⟨A,⟨s,g,j,k _ _ (.inl rfl) e,c⟩,r⟩
 |zl lo M=>obtain⟨t,u,v,e⟩:=x;exact⟨t,u,v,k _ _ (.inl rfl) e⟩
 |j6 ob u G=>obtain⟨e,q⟩:=x;exact⟨k _ _ (.inl rfl) e,G q⟩
 |lM E=>have e:h.get? a=some {cls:=.none,data:=.fields E}:=x;show h'.get? a=some {cls:=.none,data:=.fields E};exact k a _ (.inl rfl) e
 |met f y=>have e:h.get? a=some (W.methodObj (.ref f)<|.ref y):=x;show h'.get? a=some (W.methodObj (.ref f)<|.ref y);exact k a _ (.inl rfl) e
 |ext L=>obtain⟨p,⟨o,e⟩,D⟩:=x;exact⟨D _ _ p λo q=>k _ _ (.inl rfl) q,⟨o,k _ _ (.inl rfl) e⟩,D⟩
def kA.lt(x:kA P w H h)(e:H a=some o):a<h.objs.size:=(x a o e).lt
def kA.fresh(x:kA P w H h)(e:h.objs.size<=a):H a=none:=by
 cases q:H a with
 |none=>rfl
 |some u=>exact absurd (aF (x.lt q) e) (cH _)
def kA.kept(x:kA P w H h)(k:∀b u,h.get? b=some u->h'.get? b=some u):kA P w H h':=λa o e=>(x a o e).stay (λb u _ q=>k b u q) (λ_ q=>q) λ_ _ q=>q
def kA.laid(x:kA P w H h)(k:∀b u,h.get? b=some u->h'.get? b=some u)(g:h.objs.size<=a)(new:kq P w (upd H a o) h' a o):kA P w (upd H a o) h':=λb u e=>by
 have d:=x.fresh g;by_cases f:b=a;·subst f;rw[kv]at e;cases e;exact new
 ·rw[jA f]at e;exact(x b u e).stay (λc v _ q=>k c v q) (λc q=>by rw[jA<|mZ q d];exact q) λc j q=>by rw[jA<|mZ q d];exact q
end
def Rd(H:Hp)(a:Addr)(u:HO):Prop:=H a=some u\/∃o,H a=some (.j6 o u)
def Rd.ok{w u}(r:Rd H a u)(x:kA P w H h):kq P w H h a u:=by
 rcases r with r|⟨o,r⟩;·exact x a u r
 ·obtain⟨_,q⟩:=x a _ r;exact q
def vh:Option HO->Prop
 |some (.lst _)=>True
 |some (.dK _)=>True
 |some (.dT _)=>True
 |some (.set _ _)=>True
 |some (.ins _ _ _)=>True
 |some (.ext _)=>True
 |_=>False
section
variable{P:Program}{w:World}{H:Hp}{h h':Heap}{x e:Addr}{a:HO}
def kA.write(ok:kA P w H h)(j:vh<|H x)(p:e=x\/H e=some (.own x))(k:∀b u,b≠e->h.get? b=some u->h'.get? b=some u)(n:∃u,h'.get? e=some u)
 (new:kq P w (upd H x a) h' x a):kA P w (upd H x a) h':=λb u q=>by
  have f:∀c y,H c=some (.own y)->c≠x:=λc y r z=>by subst z;rw[r]at j;exact j
  have g:∀c i,H c=some (.tup i)->c≠x:=λc i r z=>by subst z;rw[r]at j;exact j
  by_cases m:b=x;·subst m;rw[kv]at q;cases q;exact new
  ·rw[jA m]at q;by_cases d:b=e
   ·have o:H b=some (.own x):=by
     rcases p with z|z;·exact absurd (d.trans z) m
     ·rw[d];exact z
    rw[q]at o;cases o;obtain⟨v,hv⟩:=n;exact⟨v,by rw[d];exact hv⟩
   ·refine(ok b u q).stay (λc v l r=>k c v ?_ r) (λc r=>by rw[jA<|f c b r];exact r) λc i r=>by rw[jA<|g c i r];exact r
    rcases l with rfl|l;·exact d
    ·rintro rfl
     rcases p with z|z;·exact f c b l z
     ·rw[l]at z;cases z;exact m rfl
end
structure Un(fs ex:List Addr)(H H':Hp)(h h':Heap):Prop where
 keep:∀b o,h.get? b=some o->H b=none->b∉fs->b∉ex->h'.get? b=some o
 slot:∀b o,h.get? b=some o->H b=none->b∈fs->b∉ex->∃sl,h'.get? b=some {o with slots:=sl}
 free:∀b o,h.get? b=some o->H b=none->b∉ex->H' b=none
 there:∀b o,h.get? b=some o->b∉ex->∃o',h'.get? b=some o'
 tups:∀b xs,H b=some (.tup xs)->H' b=some (.tup xs)
 pF:∀b o u,H b=some (.j6 o u)->H' b=some (.j6 o u)
 q3:∀b ps,H b=some (.lM ps)->∃more,H' b=some (.lM<|ps++more)
section
variable{fs f ex i:List Addr}{H j m:Hp}{h c l h':Heap}{a x e:Addr}{o:HO}
def Un.any(u:Un fs ex H j h c){b:Addr}{ob:Obj}(q:h.get? b=some ob)(n:H b=none)(d:b∉ex):∃k,c.get? b=some {ob with slots:=k}:=by
 by_cases g:b∈fs;·exact u.slot b ob q n g d
 ·exact⟨ob.slots,u.keep b ob q n g d⟩
def Un.kept(k:∀b u,h.get? b=some u->h'.get? b=some u):Un fs ex H H h h':=
 ⟨λb ob q _ _ _=>k b ob q,λb ob q _ _ _=>⟨ob.slots,k b ob q⟩,λ_ _ _ n _=>n,λb ob q _=>⟨ob,k b ob q⟩,λ_ _ q=>q,λ_ _ _ q=>q,λ_ d q=>⟨#[],by rw[q];simp⟩⟩
def Un.refl:Un fs ex H H h h:=Un.kept λ_ _ q=>q
def Un.laid(k:∀b u,h.get? b=some u->h'.get? b=some u)(p:h.objs.size<=a)(d:H a=none):Un fs ex H (upd H a o) h h' where
 keep:=λb u q _ _ _=>k b u q
 slot:=λb u q _ _ _=>⟨u.slots,k b u q⟩
 free:=λb u q n _=>by rw[jA<|aU<|aF (Heap.lt_size q) p];exact n
 there:=λb u q _=>⟨u,k b u q⟩
 tups:=λb g q=>by rw[jA<|mZ q d];exact q
 pF:=λb u g q=>by rw[jA<|mZ q d];exact q
 q3:=λb r q=>⟨#[],by rw[jA<|mZ q d,q];simp⟩
def Un.write(g:vh<|H x)(A:e=x\/H e=some (.own x))(k:∀b u,b≠e->h.get? b=some u->h'.get? b=some u)(s:∃u,h'.get? e=some u):Un fs ex H (upd H x o) h h':=by
 have t:∀b,H b=none->b≠x:=λb n z=>by subst z;rw[n]at g;exact g
 have v:∀b,H b=none->b≠e:=λb n z=>by
  subst z;rcases A with r|r;·exact t b n r
  ·rw[n]at r;cases r
 have p:∀b u,H b=some u->¬vh (some u)->b≠x:=λb u q y z=>by subst z;rw[q]at g;exact y g
 refine⟨λb u q n _ _=>k b u (v b n) q,λb u q n _ _=>⟨u.slots,k b u (v b n) q⟩,λb u q n _=>by rw[jA (t b n)];exact n,λb u q _=>?_,
  λb w q=>by rw[jA (p b _ q λz=>z)];exact q,λb u w q=>by rw[jA (p b _ q λz=>z)];exact q,λb B q=>⟨#[],by rw[jA (p b _ q λz=>z),q];simp⟩⟩
 by_cases d:b=e;·subst d;exact s
 ·exact⟨u,k b u d q⟩
end
def zG(h:Heap)(H:Hp):List Addr:=(List.range h.objs.size).filter λa=>(H a).isSome
def qs(h:Heap)(H:Hp):Heap:=W.hideAll h (zG h H)
def QE(h H):(qs h H).objs.size=h.objs.size:=W.hideAll_size _ _
def QD{h:Heap}{H:Hp}(e:h.get? b=some o)(n:H b=none):(qs h H).get? b=some o:=
 W.hideAll_get _ e λa=>by have q:(H b).isSome=true:=(dy.mp a).2;rw[n]at q;simp at q
def UB(e:(qs h H).get? b=some o):h.get? b=some o/\H b=none:=by
 have a:h.get? b=some o:=W.of_hideAll (zG h H) e;refine⟨a,?_⟩;cases q:H b with
 |none=>rfl
 |some x=>have c:b∈zG h H:=dy.mpr ⟨bJ.mpr<|Heap.lt_size a,by simp[q]⟩;have z:(qs h H).get? b=none:=W.hideAll_none (zG h H) c;rw[z]at e;cases e
def Nk(g h:Heap)(L:Addr):List (Addr×Obj):=(List.range h.objs.size).filterMap λa=>if a=L\/(g.get? a).isSome=true then none else(h.get? a).map λo=>(a,o)
def rest(g h:Heap)(L d:Addr):List (Addr×Obj):=(Nk g h L).filter λp=>decide (p.1≠d)
structure Mod(K:W.Frag)(mg:kd)(base:Heap):Prop where
 vW:K.In base
 glob:base.Ns mainGlobals mg
 blt:∃mb,base.Ns builtinsNs mb/\∀x:Str,x≠"__name__"->mb x=bootBuiltins x
 nolimit:base.NoLimit
structure Cx where
 prog:Program
 w:World
 K:W.Frag
 mg:kd
 base:Heap
 A:Around
 N:List Str
 s₀:Shared
 H₀:Hp
 env:Env
 outer:List Env
 stack:List Env
 ex:List Addr
 fn:Str->Bool
 calm:Bool
 pn:List (Addr×Obj)
 xe:jP
abbrev Cx.se(X:Cx)(e:Expr)(es:List Expr):Prop:=starEach (e::es) X.env=(false,eval e X.env)::starEach es X.env
abbrev Cx.bk(X:Cx)(pos:Pos)(es:List Expr):Prop:=(backTo pos<|starEach es X.env).any (·.1)=false
abbrev ot(x:Str):Prop:=(x==("__debug__":Str))=false
abbrev Cx.cl(X:Cx)(x:Str)(e:Expr)(es:List Expr)(pos:Pos):Prop:=ot x/\X.se e es/\X.bk pos es
abbrev Cx.hf(X:Cx)(x:Str):Prop:=X.fn x=true\/X.env.scope.names.lookup x=some .local
abbrev qv(s:Scope):Prop:=∀x∈s.names,x.2=.local->s.names.lookup x.1=some .local
abbrev pJ(s:Scope):Prop:=∀y∈s.names,y.2≠.cell
def frs(l:List Env):List Addr:=l.filterMap (·.frame)
abbrev Cx.fs(X:Cx):List Addr:=frs X.outer
def qJ(sc:Scope)(x:Str):Prop:=sc.names.lookup x=some .local\/sc.names.lookup x=some .cell\/sc.names.lookup x=some .free
def Loc(sc:Scope)(x:Str):Prop:=sc.names.lookup x=some .local\/sc.names.lookup x=some .cell
def Look(a:Env)(h:Heap)(m:kd)(x:Str)(u:Value):Prop:=
 (a.kindOf x=some .local/\m x=some u)\/((a.kindOf x=some .cell\/a.kindOf x=some .free)/\∃c,a.cells.lookup x=some c/\h.IsCell c (some u))
structure Cx.Ok(X:Cx):Prop where
 mod:Mod X.K X.mg X.base
 kind:X.env.scope.kind=.function
 glob:X.env.globals=mainGlobals
 blt:X.env.builtins=builtinsNs
 above:X.s₀.heap.objs.size<=X.env.locals
 inj:∀x y c,X.env.cells.lookup x=some c->X.env.cells.lookup y=some c->x=y
 has:∀x,(X.env.kindOf x=some .cell\/X.env.kindOf x=some .free)->∃c,X.env.cells.lookup x=some c
 cab:∀x c,X.fn x=true->X.env.cells.lookup x=some c->X.s₀.heap.objs.size<=c
 hd:X.calm=true->X.A.handled=none
 frames:X.A.frames=some X.stack
 Lj:X.stack=X.outer\/(X.stack=X.env::X.outer/\X.env.frame=some X.env.locals)
 Pm:∀b∈X.ex,b≠X.env.locals/\∀x c,X.env.cells.lookup x=some c->c≠b
 bs:∀b o,X.base.get? b=some o->X.s₀.heap.get? b=some o/\X.H₀ b=none
 sR:X.base.objs.size<=X.s₀.heap.objs.size
 B0:∀b o,X.base.get? b=some o->b∉X.ex
 Ba:∀b∈X.ex,b∉X.fs
 oQ:X.s₀.heap.FunFrames X.base X.outer
 vG:∀b∈X.fs,X.H₀ b=none
structure Inv(X:Cx)(pins:List<|Addr×Obj)(σ:List<|Option V)(H:Hp)(s:Shared):Prop where
 ok:X.Ok
 os:s.os=X.s₀.os
 bare:AllBare s.gens
 base:Un X.fs X.ex X.H₀ H X.s₀.heap s.heap
 loc:∃m,s.heap.Ns X.env.locals m/\∀(i:Nat) (x:Str) (v:V),X.N[i]?=some x->σ[i]?=some (some v)->qJ X.env.scope x->∃u,RelV v u/\Look X.env s.heap m x u
 cell:∀x c,X.env.cells.lookup x=some c->∃v,s.heap.IsCell c v
 free:H X.env.locals=none
 pE:∀x c,X.env.cells.lookup x=some c->H c=none
 pin:∀p∈X.pn++pins,s.heap.get? p.1=some p.2/\H p.1=none/\p.1≠X.env.locals/\p.1∉X.fs/\∀v,p.2.data≠.cell v
 hok:kA X.prog X.w H s.heap
 len:σ.length=X.N.length
section
variable{X:Cx}{f:List<|Addr×Obj}{B:List<|Option V}{H C:Hp}{s:Shared}{h':Heap}
def Cx.Ok.Uk(ok:X.Ok)(e:X.base.get? b=some o):b∉X.fs:=λa=>by have:=(ok.oQ.mem a).1;rw[e]at this;cases this
def Inv.bs(I:Inv X f B H s):∀b o,X.base.get? b=some o->s.heap.get? b=some o/\H b=none:=λb o e=>⟨I.base.keep b o (I.ok.bs b o e).1 (I.ok.bs b o e).2 (I.ok.Uk e) (I.ok.B0 b o e),I.base.free b o (I.ok.bs b o e).1 (I.ok.bs b o e).2 (I.ok.B0 b o e)⟩
def Inv.bk(I:Inv X f B H s):∀b o,X.base.get? b=some o->s.heap.get? b=some o:=λb o e=>(I.bs b o e).1
def Inv.mod(I:Inv X f B H s):Mod X.K X.mg X.base:=I.ok.mod
def Inv.lR(I:Inv X f B H s):X.K.In s.heap:=I.ok.mod.vW.keeps I.bk
def Inv.lt(I:Inv X f B H s):X.env.locals<s.heap.objs.size:=let⟨_,a,_⟩:=I.loc;a.lt
def Inv.sz(I:Inv X f B H s):X.s₀.heap.objs.size<=s.heap.objs.size:=aS I.ok.above (cI I.lt)
def Inv.Um(I:Inv X f B H s){a:Addr}(h:s.heap.objs.size<=a):a∉X.fs:=λc=>by obtain⟨_,o,b,_⟩:=I.ok.oQ.mem c;exact absurd (aF (Heap.lt_size b)<|aS I.sz h) (cH _)
def Inv.sV(I:Inv X f B H s):∀x c,X.env.cells.lookup x=some c->c≠X.env.locals:=λx c e z=>by obtain⟨v,o,d,g⟩:=I.cell x c e;obtain⟨m,⟨h,i,j,a,b,_⟩,_⟩:=I.loc;rw[z,a]at d;cases d;rw[b]at g;cases g
def Inv.oQ(I:Inv X f B H s):s.heap.FunFrames X.base X.outer:=by
 have all:∀(l:List Env),(∀b∈frs l,b∈X.fs)->X.s₀.heap.FunFrames X.base l->s.heap.FunFrames X.base l:=by
  intro l;induction l with
  |nil=>intro _ _;trivial
  |cons p r g=>intro d k;obtain⟨m,⟨L,o,hf,j,i,n⟩,h⟩:=k;have c:L∈X.fs:=d L (by unfold frs;rw[d3,hf];exact bL);obtain⟨q,e⟩:=I.base.slot L o i (I.ok.vG L c) c λz=>I.ok.Ba L z c;exact⟨m,⟨L,_,hf,j,e,n⟩,g (λb a=>d b (by unfold frs;rw[d3,hf];exact aX _ a)) h⟩
 exact all X.outer (λ_ a=>a) I.ok.oQ
def Inv.stack(I:Inv X f B H s):s.heap.FunFrames X.base X.stack:=by
 rcases I.ok.Lj with e|⟨e,hf⟩;·rw[e];exact I.oQ
 ·rw[e];obtain⟨m,a,_⟩:=I.loc;refine .cons (by rw[I.ok.kind];decide) hf a ?_ I.oQ;exact Heap.get?_none_of_le (aS I.ok.sR I.ok.above)
def Inv.zx(I:Inv X f B H s):∀b∈frs X.stack,b∈X.env.locals::X.fs:=λb a=>by
 rcases I.ok.Lj with e|⟨e,hf⟩;·rw[e]at a;exact aX _ a
 ·rw[e]at a;unfold frs at a;rw[d3,hf]at a;exact a
def Inv.Eg(I:Inv X f B H s):∀b∈frs X.stack,H b=none:=λb a=>by
 rcases aD.mp (I.zx b a)with e|a;·rw[e];exact I.free
 ·obtain⟨_,o,c,_⟩:=I.ok.oQ.mem a;exact I.base.free b o c (I.ok.vG b a) λz=>I.ok.Ba b z a
def Inv.step{g':Array GenState}{W:Nat}{d':Drawn}{ch:List Addr}(I:Inv X f B H s)
    (h:∀b∈ch,(b∈X.ex\/X.s₀.heap.objs.size<=b)/\b≠X.env.locals/\(∀x c,X.env.cells.lookup x=some c->c≠b)/\∀p∈X.pn++f,p.1≠b)
    (keep:∀b o,b≠X.env.locals->b∉X.fs->b∉ch->s.heap.get? b=some o->H b=none->h'.get? b=some o)
    (A:∀b o,b≠X.env.locals->b∈X.fs->b∉ch->s.heap.get? b=some o->H b=none->∃P,h'.get? b=some {o with slots:=P})(free:∀b o,b∉ch->s.heap.get? b=some o->H b=none->C b=none)
    (there:∀b o,b∉ch->s.heap.get? b=some o->∃J,h'.get? b=some J)
    (F:∀b y,H b=some (.tup y)->C b=some (.tup y))(L:∀b o u,H b=some (.j6 o u)->C b=some (.j6 o u))(G:∀b N,H b=some (.lM N)->∃more,C b=some (.lM<|N++more))
    (Y:∀m,s.heap.Ns X.env.locals m->h'.Ns X.env.locals m)(Q:kA X.prog X.w C h')(hg:AllBare g'):
    Inv X f B C {s with heap:=h',gens:=g',drawn:=d',toks:=W}:=by
 have K:∀b o,X.s₀.heap.get? b=some o->b≠X.env.locals:=λb o e=>aU (aF (Heap.lt_size e) I.ok.above);have t:∀b o,X.s₀.heap.get? b=some o->b∉X.ex->b∉ch:=λb o e a D=>by
  rcases(h b D).1 with z|z;·exact a z
  ·exact absurd (aF (Heap.lt_size e) z) (cH _)
 have j:∀x c,X.env.cells.lookup x=some c->∀v,s.heap.IsCell c v->h'.IsCell c v:=λx c e v ⟨o,E,R⟩=>by
  have g:c∉ch:=λz=>(h c z).2.2.1 x c e rfl;by_cases U:c∈X.fs
  ·obtain⟨P,q⟩:=A c o (I.sV x c e) U g E (I.pE x c e);exact⟨_,q,R⟩
  ·exact⟨o,keep c o (I.sV x c e) U g E<|I.pE x c e,R⟩
 refine⟨I.ok,I.os,hg,⟨λb o e n D a=>?_,λb o e n D a=>?_,λb o e n a=>?_,λb o e a=>?_,λb y e=>F b y<|I.base.tups b y e,λb o y e=>L b o y<|I.base.pF b o y e,λb N e=>?_⟩,?_,λx c e=>?_,?_,λx c e=>?_,λp T=>?_,Q,I.len⟩;·exact keep b o (K b o e) D (t b o e a) (I.base.keep b o e n D a) (I.base.free b o e n a)
 ·obtain⟨P,w⟩:=I.base.slot b o e n D a;obtain⟨O,M⟩:=A b _ (K b o e) D (t b o e a) w (I.base.free b o e n a);exact⟨O,M⟩
 ·obtain⟨J,w⟩:=I.base.there b o e a;exact free b J (t b o e a) w (I.base.free b o e n a)
 ·obtain⟨J,w⟩:=I.base.there b o e a;exact there b J (t b o e a) w
 ·obtain⟨m1,w⟩:=I.base.q3 b N e;obtain⟨Z,M⟩:=G b _ w;exact⟨m1++Z,by rw[M,Array.append_assoc]⟩
 ·obtain⟨m,hn,hl⟩:=I.loc;refine⟨m,Y m hn,λi x v w M e3=>?_⟩;obtain⟨u,r,l⟩:=hl i x v w M e3;refine⟨u,r,?_⟩;rcases l with l|⟨k,c,e,z⟩;·exact .inl l
  ·exact .inr ⟨k,c,e,j x c e _ z⟩
 ·obtain⟨v,z⟩:=I.cell x c e;exact⟨v,j x c e v z⟩
 ·obtain⟨m,⟨o,_,_,E,_⟩,_⟩:=I.loc;exact free _ o (λz=>(h _ z).2.1 rfl) E I.free
 ·obtain⟨v,o,E,R⟩:=I.cell x c e;exact free c o (λz=>(h c z).2.2.1 x c e rfl) E (I.pE x c e)
 ·obtain⟨e,n,ne,S,d⟩:=I.pin p T;have g:p.1∉ch:=λz=>(h p.1 z).2.2.2 p T rfl;exact⟨keep p.1 p.2 ne S g e n,free p.1 p.2 g e n,ne,S,d⟩
def Inv.un{t':Nat}(I:Inv X f B H s)(u:Un X.fs [] H C s.heap h')(c:kA X.prog X.w C h'):Inv X f B C {s with heap:=h',toks:=t'}:=by obtain⟨m,⟨o,v,w,i,r⟩,_⟩:=id I.loc;obtain⟨p,l⟩:=u.any i I.free (by simp);exact I.step (g':=s.gens) (d':=s.drawn) (ch:=[]) (λ_ z=>nomatch z) (λb o _ d _ e n=>u.keep b o e n d (by simp)) (λb o _ d _ e n=>u.slot b o e n d (by simp)) (λb o _ e n=>u.free b o e n (by simp)) (λb o _ e=>u.there b o e (by simp)) u.tups u.pF u.q3 (λt k=>by obtain⟨q,g,h,a,j⟩:=k;rw[i]at a;cases a;exact⟨_,g,h,l,j⟩) c I.bare
def Inv.call{g':Array GenState}{t':Nat}{d':Drawn}{ch:List Addr}(I:Inv X f B H s)(u:Un (frs X.stack) ch H C s.heap h')(h:kA X.prog X.w C h')(v:AllBare g')
    (g:∀b∈ch,(b∈X.ex\/X.s₀.heap.objs.size<=b)/\b≠X.env.locals/\(∀x c,X.env.cells.lookup x=some c->c≠b)/\∀p∈X.pn++f,p.1≠b):
    Inv X f B C {s with heap:=h',gens:=g',drawn:=d',toks:=t'}:=by
 obtain⟨m,⟨o,E,F,l,r⟩,_⟩:=id I.loc;obtain⟨y,i⟩:=u.any l I.free λz=>(g _ z).2.1 rfl;exact I.step (ch:=ch) g (λb o i w a e n=>u.keep b o e n (λz=>(aD.mp (I.zx b z)).elim i w) a) (λb o _ _ a e n=>u.any e n a) (λb o a e n=>u.free b o e n a) (λb o a e=>u.there b o e a) u.tups u.pF u.q3 (λD t=>by obtain⟨A,j,k,d,q⟩:=t;rw[l]at d;cases d;exact⟨_,j,k,i,q⟩) h v
def Inv.turned{t':Nat}{a:Addr}(I:Inv X f B H s)(k:∀b o,b≠a->s.heap.get? b=some o->h'.get? b=some o)(j:H a=none)(h:a≠X.env.locals)
    (A:a∈X.ex\/X.s₀.heap.objs.size<=a)(y:∀x c,X.env.cells.lookup x=some c->c≠a)(w:∀p∈X.pn++f,p.1≠a):Inv X f B H {s with heap:=h',toks:=t'}:=by
 have g:∀b u,H b=some u->b≠a:=λb u e z=>by rw[z,j]at e;cases e
 refine I.step (g':=s.gens) (d':=s.drawn) (ch:=[a]) (λb t=>?_) (λb o _ _ d e _=>k b o (λz=>d<|by simp[z]) e) (λb o _ _ d e _=>⟨o.slots,k b o (λz=>d<|by simp[z]) e⟩) (λ_ _ _ _ n=>n)
  (λb o d e=>⟨o,k b o (λz=>d<|by simp[z]) e⟩) (λ_ _ e=>e) (λ_ _ _ e=>e) (λb F e=>⟨#[],by rw[e];simp⟩) (λm l=>?_) (λb u e=>?_) I.bare
 ·have e:b=a:=by simpa using t
  subst e;exact⟨A,h,y,w⟩
 ·obtain⟨o,D,E,i,r⟩:=l;exact⟨o,D,E,k _ o (bP h) i,r⟩
 ·refine(I.hok b u e).stay (λc v d q=>k c v ?_ q) (λ_ q=>q) λ_ _ q=>q;rcases d with z|z;·rw[z];exact g b u e
  ·exact g c _ z
def Inv.tok(I:Inv X f B H s)(t:Nat):Inv X f B H {s with toks:=t}:=I.un (h':=s.heap) (t':=t) Un.refl I.hok
def Inv.kept{t':Nat}(I:Inv X f B H s)(k:∀b u,s.heap.get? b=some u->h'.get? b=some u):Inv X f B H {s with heap:=h',toks:=t'}:=I.un (Un.kept k) (I.hok.kept k)
def Inv.laid{a:Addr}{o:HO}{t':Nat}(I:Inv X f B H s)(k:∀b u,s.heap.get? b=some u->h'.get? b=some u)(c:s.heap.objs.size<=a)(new:kq X.prog X.w (upd H a o) h' a o):
    Inv X f B (upd H a o) {s with heap:=h',toks:=t'}:=I.un (Un.laid k c<|I.hok.fresh c) (I.hok.laid k c new)
def Inv.write{x e:Addr}{o:HO}{t':Nat}(I:Inv X f B H s)(c:vh<|H x)(d:e=x\/H e=some (.own x))(k:∀b u,b≠e->s.heap.get? b=some u->h'.get? b=some u)(a:∃u,h'.get? e=some u)
    (new:kq X.prog X.w (upd H x o) h' x o):Inv X f B (upd H x o) {s with heap:=h',toks:=t'}:=I.un (Un.write c d k a) (I.hok.write c d k a new)
def Inv.weak{a:List<|Option V}(I:Inv X f B H s)(d:a.length=B.length)(w:∀(i:Nat) v,a[i]?=some (some v)->B[i]?=some (some v)):Inv X f a H s:=
 ⟨I.ok,I.os,I.bare,I.base,let⟨m,c,b⟩:=I.loc;⟨m,c,λi x v h g e=>b i x v h (w i v g) e⟩,I.cell,I.free,I.pE,I.pin,I.hok,d.trans I.len⟩
def Inv.Kd{a:List<|Addr×Obj}(I:Inv X f B H s)(h:∀p∈a,s.heap.get? p.1=some p.2/\H p.1=none/\p.1≠X.env.locals/\p.1∉X.fs/\∀v,p.2.data≠.cell v):Inv X a B H s:=
 ⟨I.ok,I.os,I.bare,I.base,I.loc,I.cell,I.free,I.pE,λp b=>(bh.mp b).elim (λz=>I.pin p<|c5 _ z) (h p),I.hok,I.len⟩
def Js{N:List Str}(hN:N.Nodup){i j:Nat}{x:Str}(a:N[i]?=some x)(b:N[j]?=some x):i=j:=by obtain⟨g,d⟩:=az.mp a;obtain⟨e,c⟩:=az.mp b;exact(List.getElem_inj hN).mp (d.trans c.symm)
def Lk{M:Model}{A:Around}{E:jP}{i:Nat}{x:Str}{v:V}{u:Value}{Q:Unit->Shared->Prop}(I:Inv X f B H s)(hN:X.N.Nodup)(R:X.N[i]?=some x)(D:Loc X.env.scope x)(r:RelV v u)
    (h:∀s',Inv X f (B.set i<|some v) H s'->(∃a,Heap.SameBut a s.heap s'.heap/\(a=X.env.locals\/X.env.cells.lookup x=some a))->Q () s')(hf:X.hf x):wpAny M A (storeName X.env x u) Q E s:=by
 obtain⟨m,hn,hl⟩:=id I.loc;have S:(X.env.scope.kind==.class||(X.env.scope.kind==.module&&X.env.locals !=X.env.globals))=false:=by rw[I.ok.kind];rfl
 have J:i<B.length:=by rw[I.len];exact(az.mp R).1
 have sV:=I.sV;have l:∀{a:Addr} {h':Heap},(∃o,s.heap.get? a=some o/\H a=none)->Heap.SameBut a s.heap h'->kA X.prog X.w H h':=λ{a h'} ha g b ob e=>by
  obtain⟨_,_,F⟩:=ha;refine(I.hok b ob e).stay (λc W w q=>(g.2 c ?_).trans q) (λ_ q=>q) λ_ _ q=>q
  rintro rfl
  rcases w with rfl|w;·rw[F]at e;cases e
  ·rw[F]at w;cases w
 rcases D with hk|hk
 ·refine wpAny_storeName_local hk hn (λh' Br g=>?_) S;obtain⟨oL,_,_,QV,_⟩:=id hn;refine h _ ⟨I.ok,I.os,I.bare,⟨λb o e n N D=>?_,λb o e n N D=>?_,I.base.free,λb o e D=>?_,I.base.tups,I.base.pF,I.base.q3⟩,⟨_,Br,λj y Z t G e3=>?_⟩,λy c e=>?_,I.free,I.pE,λp hp=>?_,l ⟨oL,QV,I.free⟩ g,by simpa using I.len⟩ ⟨_,g,.inl rfl⟩;·exact(g.2 b<|aU<|aF (Heap.lt_size e) I.ok.above).trans (I.base.keep b o e n N D)
  ·obtain⟨sl,t⟩:=I.base.slot b o e n N D;exact⟨sl,(g.2 b<|aU<|aF (Heap.lt_size e) I.ok.above).trans t⟩
  ·obtain⟨o',t⟩:=I.base.there b o e D;exact⟨o',(g.2 b<|aU<|aF (Heap.lt_size e) I.ok.above).trans t⟩
  ·by_cases K:j=i
   ·subst K;rw[R]at t;cases t;rw[aA J]at G;cases G;exact⟨u,r,.inl ⟨hk,by simp⟩⟩
   ·rw[ar<|bP K]at G;obtain⟨u',r',q⟩:=hl j y Z t G e3;refine⟨u',r',?_⟩;rcases q with⟨k,e⟩|⟨k,c,e,z⟩
    ·refine .inl ⟨k,?_⟩;have:y≠x:=λe=>K (Js hN t<|e▸R);simp[this,e]
    ·exact .inr ⟨k,c,e,z.sameBut g<|sV y c e⟩
  ·obtain⟨W,z⟩:=I.cell y c e;exact⟨W,z.sameBut g<|sV y c e⟩
  ·obtain⟨e,n,ne,nf,d⟩:=I.pin p hp;exact⟨(g.2 p.1 ne).trans e,n,ne,nf,d⟩
 ·have L:X.fn x=true:=by
   rcases hf with z|z;·exact z
   ·rw[z]at hk;cases hk
  obtain⟨c,w⟩:=I.ok.has x (.inl hk);obtain⟨W,z⟩:=I.cell x c w;refine wpAny_storeName_cell I.ok.kind hk w z (λh' U g=>?_);obtain⟨oc,P,O⟩:=id z;refine h {s with heap:=h'} ⟨I.ok,I.os,I.bare,⟨λb o e n N D=>?_,λb o e n N D=>?_,I.base.free,λb o e D=>?_,I.base.tups,I.base.pF,I.base.q3⟩,⟨m,hn.sameBut g<|bP<|sV x c w,λj y Z t G e3=>?_⟩,λy Y e=>?_,I.free,I.pE,λp hp=>?_,l ⟨oc,P,I.pE x c w⟩ g,by simpa using I.len⟩ ⟨c,g,.inr w⟩;·exact(g.2 b<|aU<|aF (Heap.lt_size e)<|I.ok.cab x c L w).trans (I.base.keep b o e n N D)
  ·obtain⟨sl,t⟩:=I.base.slot b o e n N D;exact⟨sl,(g.2 b<|aU<|aF (Heap.lt_size e)<|I.ok.cab x c L w).trans t⟩
  ·obtain⟨o',t⟩:=I.base.there b o e D;exact⟨o',(g.2 b<|aU<|aF (Heap.lt_size e)<|I.ok.cab x c L w).trans t⟩
  ·by_cases K:j=i
   ·subst K;rw[R]at t;cases t;rw[aA J]at G;cases G;exact⟨u,r,.inr ⟨.inl hk,c,w,U⟩⟩
   ·rw[ar<|bP K]at G;obtain⟨u',r',q⟩:=hl j y Z t G e3;refine⟨u',r',?_⟩;rcases q with q|⟨k,Y,e,z'⟩;·exact .inl q
    ·refine .inr ⟨k,Y,e,z'.sameBut g ?_⟩
     rintro rfl
     exact K (Js hN t<|I.ok.inj _ _ _ e w▸R)
  ·by_cases T:Y=c;·subst T;exact⟨_,U⟩
   ·obtain⟨w2,z2⟩:=I.cell y Y e;exact⟨w2,z2.sameBut g T⟩
  ·obtain⟨e,n,ne,nf,d⟩:=I.pin p hp;refine⟨(g.2 p.1 ?_).trans e,n,ne,nf,d⟩;intro q;rw[q,P]at e;have q':oc=p.2:=Option.some.inj e;exact d W (by rw[<-q'];exact O)
def wF{M:Model}{A:Around}{E:jP}{i:Nat}{x:Str}{v:V}{u:Value}{Q:Unit->Shared->Prop}(I:Inv X f B H s)(hN:X.N.Nodup)(c:X.N[i]?=some x)(b:Loc X.env.scope x)(r:RelV v u)
    (h:∀a,Inv X f (B.set i<|some v) H a->Q () a)(hf:X.hf x):wpAny M A (storeName X.env x u) Q E s:=
 Lk I hN c b r (λa d _=>h a d) hf
def Inv.GA{s':Shared}{ch:List Addr}(I:Inv X f B H s)(h:s'.os=s.os)(u:Un (frs X.stack) ch H C s.heap s'.heap)(a:kA X.prog X.w C s'.heap)(i:AllBare s'.gens)
    (d:∀b∈ch,(b∈X.ex\/X.s₀.heap.objs.size<=b)/\b≠X.env.locals/\(∀x c,X.env.cells.lookup x=some c->c≠b)/\∀p∈X.pn++f,p.1≠b):Inv X f B C s':=by
 obtain⟨h',g',d',t',g⟩:=s';have e:g=s.os:=h;subst e;exact I.call (g':=g') (t':=t') (d':=d') u a i d
end
abbrev XK:=Value->Option Addr->Hp->Prop
abbrev St:=List (Option V)
abbrev VK:=V->Hp->Prop
abbrev TE:=St->Hp->VK->Prop
abbrev TT:=St->Hp->(Bool->Hp->Prop)->Prop
abbrev TA:=St->Hp->(List V->Hp->Prop)->Prop
structure Ends where
 nx:St->Hp->Prop
 rt:VK
 bk:St->Hp->Prop:=λ_ _=>False
 ct:St->Hp->Prop:=λ_ _=>False
abbrev TS:=Ends->St->Hp->Prop
def EP(X:Cx)(a:List<|Addr×Obj)(c:St)(Q:VK)(u:Value)(d:Shared):Prop:=∃v b,Inv X a c b d/\RelV v u/\Q v b
def TP(X:Cx)(a:List<|Addr×Obj)(d:St)(Q:Bool->Hp->Prop)(b:Bool)(e:Shared):Prop:=∃c,Inv X a d c e/\Q b c
def AP(X:Cx)(a:List<|Addr×Obj)(d:St)(Q:List V->Hp->Prop)(e:List Value)(f:Shared):Prop:=∃b c,Inv X a d c f/\Vals b e/\Q b c
def SP(X:Cx)(b:List<|Addr×Obj)(D:Ends)(f:Flow)(d:Shared):Prop:=
 match f with
 |.next=>∃a c,Inv X b a c d/\D.nx a c
 |.brk=>∃a c,Inv X b a c d/\D.bk a c
 |.cont=>∃a c,Inv X b a c d/\D.ct a c
 |.ret u=>∃v a c,Inv X b a c d/\RelV v u/\D.rt v c
def PE(X:Cx)(e:Expr)(t:TE):Prop:=
 ∀(a:List<|Addr×Obj) (s:Shared) (σ:St) (H:Hp) (Q:VK),Inv X a σ H s->t σ H Q->wpAny (model X.prog X.w) X.A (eval e X.env) (EP X a σ Q) X.xe s
def PT(X:Cx)(e:Expr)(t:TT):Prop:=
 ∀(a:List<|Addr×Obj) (s:Shared) (σ:St) (H:Hp) (Q:Bool->Hp->Prop),Inv X a σ H s->t σ H Q->wpAny (model X.prog X.w) X.A (isTrue e X.env<|eval e X.env) (TP X a σ Q) X.xe s
def PW(X:Cx)(e:Expr)(t:TT):Prop:=
 ∀(a:Sem Value) (pins:List<|Addr×Obj) (s:Shared) (σ:St) (H:Hp) (Q:Bool->Hp->Prop),Inv X pins σ H s->t σ H Q->wpAny (model X.prog X.w) X.A (isTrue e X.env a) (TP X pins σ Q) X.xe s
def PW.pt{t}(h:PW X e t):PT X e t:=h _
def PA(X:Cx)(b:List Expr)(t:TA):Prop:=
 ∀(a:Pos) (pins:List<|Addr×Obj) (s:Shared) (σ:St) (H:Hp) (Q:List V->Hp->Prop),Inv X pins σ H s->t σ H Q->wpAny (model X.prog X.w) X.A (spliced<|backTo a<|starEach b X.env) (AP X pins σ Q) X.xe s
def PS(X:Cx)(b:Stmt)(t:TS):Prop:=
 ∀(a:List<|Addr×Obj) (s:Shared) (σ:St) (H:Hp) (D:Ends),Inv X a σ H s->t D σ H->wpAny (model X.prog X.w) X.A (exec b X.env) (SP X a D) X.xe s
def oM(X:Cx)(b:List Stmt)(t:TS):Prop:=
 ∀(a:List<|Addr×Obj) (s:Shared) (σ:St) (H:Hp) (D:Ends),Inv X a σ H s->t D σ H->wpAny (model X.prog X.w) X.A (execs b X.env) (SP X a D) X.xe s
def jh{b:Type}{t:Sem b}{Q c:b->Shared->Prop}{M:Model}{A:Around}{E:jP}{s:Shared}(h:wpAny M A t Q E s)(d:∀a s,Q a s->c a s):wpAny M A t c E s:=bq h d λ_ _ x=>x
section
variable{X:Cx}
def abI(i:Nat):TE:=λa H Q=>∃v,a[i]?=some (some v)/\Q v H
def tC(v:V):TE:=λ_ H Q=>Q v H
def wh{i:Nat}{x:Str}{g:Pos}(hN:X.N[i]?=some x)(hv:qJ X.env.scope x)(j:ot x)(k:(x==("__classdict__":Str))=false):PE X (.Name x g) (abI i):=by
 intro f s o H Q I h;obtain⟨v,e,h⟩:=h;obtain⟨m,p,t⟩:=I.loc;obtain⟨u,r,l⟩:=t i x v hN e hv;have d:EP X f o Q u s:=⟨v,H,I,r,h⟩;rcases l with⟨b,q⟩|⟨b,c,n,a⟩;·exact wpAny_Name (wpAny_loadName_local I.ok.kind b p q d) j
 ·rcases b with b|b;·exact wpAny_Name (wpAny_loadName_cell I.ok.kind b n a d) j
  ·exact wpAny_Name (wpAny_loadName_free I.ok.kind b n a d k) j
def V4{i j a}:PE X (.Constant (.int i) j a) (tC<|.int i):=λ_ _ _ H _ I h=>wpAny_Constant_int ⟨.int i,H,I.tok _,⟨_,rfl⟩,h⟩
def VS{b j a}:PE X (.Constant (.bool b) j a) (tC<|.bl b):=λ_ _ _ H _ I h=>Constant_bool ⟨.bl b,H,I,rfl,h⟩
def CV{j a}:PE X (.Constant .none j a) (tC .non):=λ_ _ _ H _ I h=>Constant_none ⟨.non,H,I,rfl,h⟩
def We{x j a}:PE X (.Constant (.str x) j a) (tC<|.str x):=λ_ _ _ H _ I h=>Calls.Constant_str ⟨.str x,H,I.tok _,⟨_,rfl⟩,h⟩
def Gl(X:Cx)(x:Str):Prop:=X.env.kindOf x=some .globalImplicit
def BK{E:jP}{a:List<|Addr×Obj}{s:Shared}{c:St}{H:Hp}{x:Str}{u:Value}{b:Pos}{Q:jP}(I:Inv X a c H s)(e:Gl X x)(d:X.mg x=some u)(h:Q u s)
    (f:ot x):wpAny (model X.prog X.w) X.A (eval (.Name x b) X.env) Q E s:=
 fP I.ok.kind e (Calls.loadGlobal_global (by rw[I.ok.glob];exact I.mod.glob.keeps I.bk) d h) f
def rM{E:jP}{a:List<|Addr×Obj}{s:Shared}{c:St}{H:Hp}{x:Str}{u:Value}{b:Pos}{Q:jP}(I:Inv X a c H s)(f:Gl X x)(e:X.mg x=none)(hv:bootBuiltins x=some u)(h:Q u s)
    (d:x≠"__name__")(g:ot x):wpAny (model X.prog X.w) X.A (eval (.Name x b) X.env) Q E s:=by
 obtain⟨k,j,i⟩:=I.mod.blt;exact fP I.ok.kind f (Calls.loadGlobal_builtin (by rw[I.ok.glob];exact I.mod.glob.keeps I.bk) e (by rw[I.ok.blt];exact j.keeps I.bk) ((i x d).trans hv) h) g
def VT{u}(c:Gl X x)(b:X.mg x=none)(hv:bootBuiltins x=some u)(r:RelV v u)(a:x≠"__name__")(d:ot x):PE X (.Name x pos) (tC v):=
 λ_ _ _ H _ I h=>rM I c b hv ⟨v,H,I,r,h⟩ a d
variable{a b:Expr}{F M:TE}{B:Pos}
def PC(X:Cx)(f:CmpOp)(a b:Expr)(t:TE):Prop:=
 ∀(c:List<|Addr×Obj) (s:Shared) (σ:St) (H:Hp) (Q:VK),Inv X c σ H s->t σ H Q->
  wpAny (model X.prog X.w) X.A (eval a X.env) (λv e=>wpAny (model X.prog X.w) X.A (eval b X.env) (λu d=>wpAny (model X.prog X.w) X.A (compareOp f v u) (EP X c σ Q) X.xe d) X.xe e) X.xe s
def tB(t:TE):TT:=λd H Q=>t d H λx e=>∃c,x=.bl c/\Q c e
def VW{d:CmpOp}{t:TE}(h:PC X d a b t)(g:behindInMarks d b=false):PE X (.Compare a [d] [b] B) t:=λc s e H Q I f=>wpAny_Compare1 (h c s e H Q I f) g
variable{J L:TT}{rest:List Expr}
def abe(t u:TT):TT:=λd H Q=>t d H λc e=>if c=true then u d e Q else Q false e
def tOr(t u:TT):TT:=λd H Q=>t d H λc e=>if c=true then Q true e else u d e Q
def abz(t:TT):TT:=λd H Q=>t d H λc e=>Q (!c) e
def Kr(g:PT X a J):PW X (.BoolOp .And [a] B) J:=by
 intro i d s f H Q I h;refine isTrue_and (jh (g d s f H Q I h) λc j e=>?_);cases c with
 |true=>exact isTrue_and_nil e
 |false=>exact e
def W4(g:PT X a J):PW X (.BoolOp .Or [a] B) J:=by
 intro i d s f H Q I h;refine isTrue_or (jh (g d s f H Q I h) λc j e=>?_);cases c with
 |false=>exact isTrue_or_nil e
 |true=>exact e
def Kq(m:PT X a J)(l:PW X (.BoolOp .And (b::rest) B) L):PW X (.BoolOp .And (a::b::rest) B) (abe J L):=by
 intro j d s e H Q I h;refine isTrue_and (jh (m d s e H _ I h) λc k ⟨i,g,f⟩=>?_);cases c with
 |true=>exact l j d k e i Q g f
 |false=>exact⟨i,g,f⟩
def W2(m:PT X a J)(l:PW X (.BoolOp .Or (b::rest) B) L):PW X (.BoolOp .Or (a::b::rest) B) (tOr J L):=by
 intro j d s e H Q I h;refine isTrue_or (jh (m d s e H _ I h) λc k ⟨i,g,f⟩=>?_);cases c with
 |true=>exact⟨i,g,f⟩
 |false=>exact l j d k e i Q g f
def WW(f:PT X a J):PT X (.UnaryOp .Not a B) (abz J):=by intro d s e H Q I h;exact isTrue_not (f d s e H (λc g=>Q (!c) g) I h)
def abf(F M:TE):TE:=λd H Q=>F d H λx e=>∃c,x=.bl c/\if c=true then M d e Q else Q (.bl false) e
def abA(F:TE):TE:=λd H Q=>F d H λx e=>∃c,x=.bl c/\Q (.bl<|!c) e
def V8{e t}(h:PE X a t):PE X (.BoolOp e [a] B) t:=λc s d H Q I f=>BoolOp_one (h c s d H Q I f)
def VQ(n:PE X a F)(m:PE X (.BoolOp .And (b::rest) B) M):PE X (.BoolOp .And (a::b::rest) B) (abf F M):=by
 intro d s g H Q I h;refine BoolOp_and (jh (n d s g H _ I h) λv k f=>?_);obtain⟨x,j,i,l,e⟩:=f;obtain⟨c,rfl,e⟩:=e;cases l;refine c6 ?_;cases c with
 |true=>exact m d k g j Q i e
 |false=>exact⟨.bl false,j,i,rfl,e⟩
def JZ(j:PE X a F):PE X (.UnaryOp .Not a B) (abA F):=by intro d s g H Q I h;refine UnaryOp_ (jh (j d s g H _ I h) λv m f=>?_);obtain⟨x,l,k,i,e⟩:=f;obtain⟨c,rfl,e⟩:=e;cases i;exact not_of (c6 ⟨.bl<|!c,l,k,rfl,e⟩)
def tIf(t:TT)(F M:TE):TE:=λd H Q=>t d H λc e=>if c=true then F d e Q else M d e Q
def V3{c:Expr}(l:PT X c J)(n:PE X a F)(m:PE X b M):PE X (.IfExp c a b B) (tIf J F M):=by
 intro e s f H Q I h;refine wpAny_IfExp (jh (l e s f H _ I h) λd g ⟨k,j,i⟩=>?_);cases d with
 |true=>exact n e g f k Q j i
 |false=>exact m e g f k Q j i
def kP(K:W.Frag)(H:Hp)(a:Addr)(d:List V):Prop:=
 Rd H a (.lst d)\/
  ∃(o:Obj) (c:Array Value) (n:Nat),K.lookup a=some o/\o.cls=.type "list"/\o.dict=none/\o.data=.seq c n/\c.size<=sizeLine/\Vals d c.toList
def mi(K:W.Frag)(H:Hp)(a:Addr)(d:List V):Prop:=
 Rd H a (.tup d)\/
  ∃(o:Obj) (c:Array Value) (n:Nat),K.lookup a=some o/\o.cls=.type "tuple"/\o.data=.seq c n/\c.size<=sizeLine/\Vals d c.toList
def M9:Value->Option V
 |.none=>some .non
 |.bool b=>some (.bl b)
 |.int i _=>some (.int i)
 |.str x _=>some (.str x)
 |.bytes b _=>some (.nI b)
 |.float b _=>some (.flt b)
 |.ref a=>some (.ref a)
 |.type n=>some (.ty n)
 |_=>none
def RelV.abs{u}(r:RelV x u):M9 u=some x:=by
 cases x with
 |non=>cases r;rfl
 |bl _=>cases r;rfl
 |int _=>obtain⟨t,rfl⟩:=r;rfl
 |str _=>obtain⟨t,rfl⟩:=r;rfl
 |nI _=>obtain⟨t,rfl⟩:=r;rfl
 |flt _=>obtain⟨t,rfl⟩:=r;rfl
 |ref _=>cases r;rfl
 |ty _=>cases r;rfl
def RelV.inj{x y:V}{u:Value}(r:RelV x u)(q:RelV y u):x=y:=Option.some.inj (r.abs.symm.trans q.abs)
theorem Vals.inj:∀{d c:List V} {e:List Value},Vals d e->Vals c e->d=c
 |_,_,_,.nil,.nil=>rfl
 |_,_,_,.cons r t,.cons g f=>by rw[r.inj g,Vals.inj t f]
variable{f:List<|Addr×Obj}{A:St}{H:Hp}{s:Shared}{a:Addr}{C N:List V}
def Inv.list(I:Inv X f A H s)(h:kP X.K H a C):∃c:List Value,Vals C c/\PlainL s.heap a c.toArray/\C.length<=sizeLine:=by
 rcases h with h|⟨o,c,n,hk,hc,hd,hs,hz,r⟩
 ·obtain⟨z,c,n,r,e⟩:=h.ok I.hok;exact⟨c,r,⟨_,n,e,rfl,rfl,rfl⟩,z⟩
 ·refine⟨c.toList,r,⟨o,n,I.lR a o hk,hc,hd,by simpa using hs⟩,?_⟩;have e:=r.length;simp only[aC]at e;omega
def Inv.tuple(I:Inv X f A H s)(h:mi X.K H a C):∃c:List Value,Vals C c/\IsTup s.heap a c.toArray/\C.length<=sizeLine:=by
 rcases h with h|⟨o,c,n,hk,hc,hs,hz,r⟩
 ·obtain⟨z,c,r,p⟩:=h.ok I.hok;exact⟨c,r,p,z⟩
 ·refine⟨c.toList,r,⟨o,I.lR a o hk,hc,n,by simpa using hs⟩,?_⟩;have e:=r.length;simp only[aC]at e;omega
def Inv.I0(I:Inv X f A H s)(h:kP X.K H a C)(l:kP X.K H a N):C=N:=by
 obtain⟨g,r,⟨o,n,e,_,_,d⟩,_⟩:=I.list h;obtain⟨c,k,⟨m,p,i,_,_,j⟩,_⟩:=I.list l;rw[e]at i;cases i;rw[d]at j;injection j with d1 _;have:g=c:=by simpa using bD Array.toList d1
 subst this;exact r.inj k
def Inv.abX(I:Inv X f A H s)(h:mi X.K H a C)(l:mi X.K H a N):C=N:=by
 obtain⟨g,r,⟨o,e,_,n,d⟩,_⟩:=I.tuple h;obtain⟨c,k,⟨m,i,_,p,j⟩,_⟩:=I.tuple l;rw[e]at i;cases i;rw[d]at j;injection j with d1 _;have:g=c:=by simpa using bD Array.toList d1
 subst this;exact r.inj k
end
section
variable{X:Cx}{l:Stmt}{rest:List Stmt}{t u:TS}{e:Expr}{j:TE}{i:Pos}
def abx:TS:=λD a H=>D.nx a H
def abF(t u:TS):TS:=λD a H=>t {D with nx:=u D} a H
def Km:oM X [] abx:=λ_ _ a H _ I h=>fF ⟨a,H,I,h⟩
def Kl(k:PS X l t)(g:oM X rest u):oM X (l::rest) (abF t u):=by
 intro a s c H D I h;refine wpAny_execs_cons (jh (k a s c H {D with nx:=u D} I h) λf d q=>?_);cases f with
 |next=>obtain⟨b,n,m,q⟩:=q;exact g a d b n D m q
 |ret v=>exact q
 |brk=>exact q
 |cont=>exact q
def Kn(c:PS X l t):oM X [l] t:=by
 intro a s b H D I h;refine wpAny_execs_cons (jh (c a s b H D I h) λf d q=>?_);cases f with
 |next=>exact fF q
 |ret v=>exact q
 |brk=>exact q
 |cont=>exact q
def abh:TS:=λD a H=>D.bk a H
def WL:PS X (.Break i) abh:=λ_ _ a H _ I h=>wpAny_Break ⟨a,H,I,h⟩
def Inv.quiet{s}(I:Inv X pins σ H s):interactive X.env=false:=by simp[interactive,I.ok.kind]
def abp(j:TE):TS:=λD a H=>j a H λ_ b=>D.nx a b
def Kh(f:PE X e j)(d:swapsWith e none i.line X.env=pure false):PS X (.Expr e i) (abp j):=by intro a s b H D I h;exact wpAny_Expr_any (jh (f a s b H _ I h) λv m ⟨x,k,g,n,c⟩=>⟨b,k,g,c⟩) I.quiet d
def abE(j:TE):TS:=λD a H=>j a H D.rt
def Kk(f:PE X e j):PS X (.Return (some e) i) (abE j):=by intro a s b H D I h;exact wpAny_Return_some (jh (f a s b H _ I h) λv m ⟨x,k,g,c,d⟩=>⟨x,b,k,g,c,d⟩)
def abt(c:TT)(t u:TS):TS:=λD a H=>c a H λb d=>if b=true then t D a d else u D a d
def Kj(p:PT X c tc)(r:oM X a t)(q:oM X b u):PS X (.If c a b i) (abt tc t u):=by
 intro f s g H D I h;refine wpAny_If (jh (p f s g H _ I h) λd k ⟨o,n,m⟩=>?_);cases d with
 |true=>exact r f k g o D n m
 |false=>exact q f k g o D n m
end
abbrev TG:=V->St->Hp->(St->Hp->Prop)->Prop
abbrev tY:=List V->St->Hp->(St->Hp->Prop)->Prop
def PG(X:Cx)(a:Expr)(t:TG):Prop:=
 ∀b s d H v u Q,Inv X b d H s->RelV v u->t v d H Q->
  wpAny (model X.prog X.w) X.A (assign a X.env u) (λ_ f=>∃c e,Inv X b c e f/\Q c e) X.xe s
def vi(X:Cx)(g:List Expr)(t:tY):Prop:=
 ∀a s c H d e Q,Inv X a c H s->Vals d e->t d c H Q->
  wpAny (model X.prog X.w) X.A (assignInOrder ((assignEach g X.env).map (·.2)) e) (λ_ h=>∃b f,Inv X a b f h/\Q b f) X.xe s
abbrev FK:=V->V->V->Hp->(Hp->Prop)->Prop
def FF(X:Cx)(t:FK):Prop:=
 ∀a s b H o i v c d u Q,Inv X a b H s->RelV o c->RelV i d->RelV v u->t o i v H Q->
  wpAny (model X.prog X.w) X.A (setItem c d u) (λ_ f=>∃e,Inv X a b e f/\Q e) X.xe s
abbrev xp:=V->V->Hp->VK->Prop
def xm(X:Cx)(c:Operator)(t:xp):Prop:=
 ∀a s b H x y v u Q,Inv X a b H s->RelV x v->RelV y u->t x y H Q->
  wpAny (model X.prog X.w) X.A (inplaceOp c v u) (EP X a b Q) X.xe s
section
variable{X:Cx}{A:Pos}
def tj(i:Nat):TG:=λv a H Q=>Q (a.set i<|some v) H
def y6(hN:X.N.Nodup)(c:X.N[i]?=some x)(b:Loc X.env.scope x)(hf:X.hf x):PG X (.Name x A) (tj i):=by intro a s e H v u Q I r h;exact wpAny_assign_Name (wF I hN c b r (λf d=>⟨_,H,d,h⟩) hf)
def PU:tY:=λb a H Q=>b=[]/\Q a H
def PR(t:TG)(u:tY):tY:=λc b H Q=>∃v r,c=v::r/\t v b H λa d=>u r a d Q
def Wn:vi X [] PU:=by intro a s b H c d Q I r h;obtain⟨e,h⟩:=h;subst e;cases r;exact assignInOrder_nil ⟨b,H,I,h⟩
def Wm{t u}(l:PG X e t)(k:vi X es u)
 (j:(assignEach (e::es) X.env).map (·.2)=assign e X.env::(assignEach es X.env).map (·.2)):vi X (e::es) (PR t u):=by
  intro a s d H p w Q I r h;obtain⟨v,q,m,h⟩:=h;subst m;cases r with
  |cons r g=>rw[j];refine fQ (jh (l a s d H _ _ _ I r h) λ_ f c=>?_);obtain⟨b,o,n,i⟩:=c;exact k a f b o _ _ Q n g i
def PX(K:W.Frag)(n:Nat)(t:tY):TG:=λv c H Q=>∃a b,v=.ref a/\mi K H a b/\b.length=n/\t b c H Q
def Wl{k t n}(y:X.calm=true)(h:vi X es t)
 (w:(assignEach es X.env).length=n)(f:(assignEach es X.env).findIdx? (·.1)=none):PG X (.Tuple es k A) (PX X.K n t):=by intro c s g H v u Q I r d;obtain⟨a,j,B,q,x,d⟩:=d;subst B;cases r;obtain⟨l,i,p,D⟩:=I.tuple q;refine assign_Tuple_tuple (I.ok.hd y) p (by simp[w,<-x,i.length]) f λz m=>?_;have C:Inv X c g H {s with heap:=z}:=I.kept (t':=s.toks) λb o e=>m b o (aU<|Heap.lt_size e) e;exact h c _ g H j _ Q C (by simpa using i) d
def PV(to b:TE)(t:FK):TG:=λv a H Q=>to a H λo e=>b a e λi d=>t o i v d λc=>Q a c
def Wj{to t}(q:PE X o to)(w:PE X i ti)(p:FF X t)
 (z:∀v,assign (.Subscript o i A) X.env v=(do
 let c<-holding [v] (eval o X.env)
 let d<-holding [v,c] (eval i X.env)
 standAt A
 holding [v,c,d] (setItem c d v)
 release [v,c,d] [])):PG X (.Subscript o i A) (PV to ti t):=by intro a s e H v u Q I r h;rw[z];refine ae (bE<|jh (q a s e H _ I h) λc g b=>?_);obtain⟨x,G,D,k,n⟩:=b;refine ae (bE<|jh (w a g e G _ D n) λd f b=>?_);obtain⟨y,F,C,j,m⟩:=b;refine ae (fw<|ae<|bE<|jh (p a f e F x y v c d u _ C k j r m) λ_ J ⟨E,B,l⟩=>?_);exact wpAny_release ⟨e,E,B,l⟩
def Eh(b:TE)(g:TG):TS:=λD a H=>b a H λx c=>g x a c D.nx
def WJ{g}(m:PE X e te)(l:PG X tg g)(k:swapsWithSole [tg] e A.line X.env=pure false)(j:swappedStores [tg] e X.env=pure none)
 (n:(assignEach [tg] X.env).map (·.2)=[assign tg X.env]):PS X (.Assign [tg] e A) (Eh te g):=by intro a s c H D I h;refine wpAny_Assign_stores (jh (m a s c H _ I h) λv d b=>?_) k j;obtain⟨x,p,o,f,i⟩:=b;rw[n];exact jh (l a d c p x v _ o f i) λ_ r q=>q
def C0(hN:X.N.Nodup)(k:X.N[i]?=some x)(g:Loc X.env.scope x)(l:PE X e te)(j:swapsWith e (some<|.Name x pos') A.line X.env=pure false)(hf:X.hf x):
    PS X (.Assign [.Name x pos'] e A) (Eh te<|tj i):=by
 intro a s c H D I h;refine wpAny_Assign_Name (jh (l a s c H _ I h) λv q b=>?_) j;obtain⟨y,o,n,d,f⟩:=b;exact wF n hN k g d (λp m=>⟨_,o,m,f⟩) hf
def abB(i j:Nat)(c:TA):TS:=λD a H=>c a H λb d=>∃v w,b=[v,w]/\D.nx ((a.set i<|some v).set j (some w)) d
def WQ{pt n r d}(S:X.calm=true)(hN:X.N.Nodup)(R:X.N[i]?=some x)(Q:X.N[j]?=some y)(z:i≠j)
 (E:X.env.scope.names.lookup x=some .local)(C:X.env.scope.names.lookup y=some .local)(T:PA X [a,b] ta)
 (O:swappedStores [.Tuple [.Name x px,.Name y py] n pt] (.Tuple [a,b] r d) X.env=pure (some [x,y]))
 (P:swapsWithSole [.Tuple [.Name x px,.Name y py] n pt] (.Tuple [a,b] r d) A.line X.env=pure false):
   PS X (.Assign [.Tuple [.Name x px,.Name y py] n pt] (.Tuple [a,b] r d) A) (abB i j ta):=by
  intro c s B H D I h;rw[exec_Assign_arm];refine ae (fw ?_);rw[P];refine ae (af ?_);rw[aw<|by decide];refine ae (Tuple_<|jh (T _ c s B H _ I h) λJ k u=>?_);obtain⟨vs,G,Z,L,m⟩:=u;obtain⟨v,w,U,m⟩:=m;subst U;obtain⟨g,f,rfl,K,l⟩:∃g f,J=[g,f]/\RelV v g/\RelV w f:=by
   cases L with
   |cons p q=>
    cases q with
    |cons N M=>cases M;exact⟨_,_,rfl,p,N⟩
  refine aV ?_ (by show 2<=sizeLine;decide);have Y:Inv X c B G {k with heap:=k.heap.push {cls:=.type "tuple",data:=.seq [g,f].toArray}}:=Z.kept (t':=k.toks) λb o e=>ah _ e;rw[O];refine ae (af ?_);show wpAny (model X.prog X.w) X.A (do rule "assign.swapped-stores";let items<-unpackItems (.ref k.heap.objs.size) 2 none;assignInOrder [λv=>bindName X.env y v,λv=>bindName X.env x v] items.reverse;pure Flow.next) _ _ _;refine ae (gK<|ae<|unpackItems_tuple (items:=#[g,f]) (I.ok.hd S) (IsTup.new k.heap _) λh' t=>?_);have W:=Y.kept (h':=h') (t':=k.toks) λb o e=>t b o (aU<|Heap.lt_size e) e;show wpAny _ _ (assignInOrder [λv=>bindName X.env y v,λv=>bindName X.env x v] [f,g]>>=λ_=>pure Flow.next) _ _ _;refine ae (fQ<|ib<|wF W hN Q (.inl C) l (λs2 V=>?_)<|.inr C);refine fQ (ib<|wF V hN R (.inl E) K (λs3 F=>assignInOrder_nil<|af ?_)<|.inr E);rw[List.set_comm _ _<|bP z]at F;exact⟨_,G,F,m⟩
def abg(i:Nat)(c:TE)(b:xp):TS:=λD a H=>∃x,a[i]?=some (some x)/\c a H λy e=>b x y e λz d=>D.nx (a.set i<|some z) d
def WK(hN:X.N.Nodup)(q:X.N[i]?=some x)(o:Loc X.env.scope x)(N:PE X e te)(J:xm X op ti)(hf:X.hf x):
    PS X (.AugAssign (.Name x pos') op e A) (abg i te ti):=by
 intro a s p H D I h;obtain⟨v,P,h⟩:=h;obtain⟨m,K,M⟩:=I.loc;have n:qJ X.env.scope x:=by rcases o with k|k;exact .inl k;exact .inr (.inl k)
 obtain⟨u,r,l⟩:=M i x v q P n;refine wpAny_AugAssign_Name ?_;have t:wpAny (model X.prog X.w) X.A (eval e X.env) (λw j=>wpAny (model X.prog X.w) X.A (inplaceOp op u w) (λr g=>wpAny (model X.prog X.w) X.A (storeName X.env x r) (λ_=>SP X a D .next) X.xe g) X.xe j) X.xe s:=by refine jh (N a s p H _ I h) λw B d=>?_;obtain⟨y,U,S,E,G⟩:=d;refine jh (J a B p U v y u w _ S r E G) λz Y d=>?_;obtain⟨V,T,R,C,F⟩:=d;exact wF R hN q o C (λW Q=>⟨_,T,Q,F⟩) hf
 rcases l with⟨b,L⟩|⟨b,c,O,f⟩;·exact wpAny_loadName_local I.ok.kind b K L t
 ·rcases b with b|b;·exact wpAny_loadName_cell I.ok.kind b O f t
  ·rcases o with k|k
   ·have:X.env.scope.names.lookup x=some .free:=b;rw[k]at this;cases this
   ·have:X.env.scope.names.lookup x=some .free:=b;rw[k]at this;cases this
def Il(f:Int->Int->Int):xp:=λx y H Q=>∃i j,x=.int i/\y=.int j/\Q (.int<|f i j) H
def Ro:xm X .Add (Il λi j=>i+j):=by intro a s f H x y v u Q I c b h;obtain⟨i,j,e,d,q⟩:=h;subst e;subst d;obtain⟨t,rfl⟩:=c;obtain⟨g,rfl⟩:=b;exact iadd_int ⟨.int _,H,I.tok _,⟨_,rfl⟩,q⟩
def Rq:xm X .Sub (Il λi j=>i - j):=by intro a s f H x y v u Q I c b h;obtain⟨i,j,e,d,q⟩:=h;subst e;subst d;obtain⟨t,rfl⟩:=c;obtain⟨g,rfl⟩:=b;exact isub_int ⟨.int _,H,I.tok _,⟨_,rfl⟩,q⟩
def abJ(c:TT)(h:TS):TS:=λD a H=>∃W:Nat->St->Hp->Prop,(∃m,W m a H)/\∀m a H,W m a H->
 c a H λb f=>if b=true then∃N:St->Hp->Prop,(∀d g,N d g->∃e,e<m/\W e d g)/\h {D with nx:=N,ct:=N,bk:=D.nx} a f else D.nx a f
def WT(t:PassesOwn (model X.prog X.w) X.A X.env X.xe)(K:PT X c tc)(L:oM X body tb):PS X (.While c body [] A) (abJ tc tb):=by
 intro d s z H D I h;obtain⟨W,⟨J,C⟩,i⟩:=h;refine wpAny_While (codeAny_whileLoop (λn G=>∃g y,Inv X d g y G/\W n g y) ?_ J ⟨z,H,I,C⟩)
 rintro n F ⟨e,x,M,B⟩
 refine cZ t (jh (K d F e x _ M<|i n e x B) λb E ⟨w,u,l⟩=>?_);cases b with
 |true=>
  obtain⟨N,hN,l⟩:=l;rw[av rfl];refine cZ t (jh (L d E e w _ u l) λf O k=>?_);cases f with
  |next=>obtain⟨a,j,r,o⟩:=k;obtain⟨p,q,m⟩:=hN a j o;exact⟨p,q,a,j,r,m⟩
  |cont=>obtain⟨a,j,r,o⟩:=k;obtain⟨p,q,m⟩:=hN a j o;exact⟨p,q,a,j,r,m⟩
  |brk=>exact k
  |ret v=>exact k
 |false=>rw[aw ax];exact fF ⟨e,w,u,l⟩
end
structure It where
 go:Nat->Hp->Prop
 wM:Nat->Hp->V->Hp->Prop
 stop:Nat->Hp->Prop
def rh(X:Cx)(a:List<|Addr×Obj)(H:Hp)(b:Addr):Prop:=
 H b=none/\b≠X.env.locals/\b∉X.fs/\(b∈X.ex\/X.s₀.heap.objs.size<=b)/\(∀x c,X.env.cells.lookup x=some c->c≠b)/\∀p∈X.pn++a,p.1≠b
def Inv.td{d:Hp}{s}(I:Inv X pins σ H s)(a:s.heap.objs.size<=b)(g:d b=none):rh X pins d b:=by
 refine⟨g,dq<|aF I.lt a,I.Um a,.inr<|aS I.sz a,λx c e z=>?_,λp f z=>?_⟩
 ·obtain⟨v,q⟩:=I.cell x c e;exact absurd (aF q.lt (by rw[z];exact a)) (cH _)
 ·exact absurd (aF (Heap.lt_size (I.pin p f).1)<|by rw[z];exact a) (cH _)
structure Turn(P:Program)(w:World)(K:W.Frag)(tg:Expr)(J:It)(fp:List Addr)(it:Addr)(tn:Nat->Heap->Prop):Prop where
 mem:it∈fp
 obj:∀i h,tn i h->∀b∈fp,∃o,h.get? b=some o/\∀v,o.data≠.cell v
 keep:∀i h h',tn i h->(∀b∈fp,∀o,h.get? b=some o->h'.get? b=some o)->tn i h'
 item:∀(X:Cx),X.prog=P->X.w=w->X.K=K->X.calm=true->∀(i:Nat) (pins:List<|Addr×Obj) (s:Shared) (σ:St) (H:Hp) (E:jP),Inv X pins σ H s->(∀b∈fp,rh X pins H b)->tn i s.heap->J.go i H->
  wpAny (model P w) X.A (pyNext (.ref it)) (λr s1=>∃u,r=some u/\
   wpAny (model P w) X.A (letOwnedTupleGo tg (.ref it) u) (λ_ s2=>∃x H',Inv X pins σ H' s2/\RelV x u/\J.wM i H x H'/\tn (i+1) s2.heap/\∀b∈fp,H' b=none) E s1) E s
 done:∀(X:Cx),X.prog=P->X.w=w->X.K=K->X.calm=true->∀(i:Nat) (pins:List<|Addr×Obj) (s:Shared) (σ:St) (H:Hp) (E:jP),Inv X pins σ H s->(∀b∈fp,rh X pins H b)->tn i s.heap->J.stop i H->
  wpAny (model P w) X.A (pyNext<|.ref it) (λr s1=>r=none/\Inv X pins σ H s1) E s
 self:∀(A:Around) (i:Nat) (s:Shared) (Q:jP) (E:jP),tn i s.heap->Q (.ref it) s->wpAny (model P w) A (pyIter<|.ref it) Q E s
abbrev TI:=St->Hp->(It->Hp->Prop)->Prop
def PIE(X:Cx)(a:List<|Addr×Obj)(i:St)(j:Expr)(R:It->Hp->Prop)(c:Value)(f:Shared):Prop:=
 ∃g h e J d,c=.ref g/\Inv X a i d f/\Turn X.prog X.w X.K j J h g e/\e 0 f.heap/\(∀b∈h,rh X a d b)/\R J d
def PI(X:Cx)(e b:Expr)(d:TI):Prop:=
 ∀a s c H R,Inv X a c H s->d c H R->
  wpAny (model X.prog X.w) X.A (eval b X.env) (λv f=>wpAny (model X.prog X.w) X.A (pyIter v) (PIE X a c e R) X.xe f) X.xe s
def rE{s:Shared}{u n}{Q:Unit->Shared->Prop}(b:s.heap.get? it=some o)(e:o.cls=.type n)(d:o.data=.fields vs)
 (c:["enumerate","zip","dict_itemiterator","dict_reverseitemiterator","odict_iterator","itertools.zip_longest","itertools.pairwise"].contains n=false)(a:Q () s):wpAny M A (letOwnedTupleGo tg (.ref it) u) Q E s:=by
  unfold letOwnedTupleGo
  cases tg<;>first
   |exact af a
   |(cases u<;>first
      |exact af a
      |(refine ae (wpAny_load b ?_)
        rw[e,d];show wpAny M A (if(["enumerate","zip","dict_itemiterator","dict_reverseitemiterator","odict_iterator","itertools.zip_longest","itertools.pairwise"].contains n&&vs[0]?==some (rawInt _))=true then _ else _) Q E s;rw[aw (by intro h;rw[c,Bool.false_and]at h;cases h)];exact af a))
def Aj(K:W.Frag)(a:Addr):It:=
 ⟨λi H=>∃b x,kP K H a b/\b[i]?=some x,λi H x c=>c=H/\∀b,kP K H a b->b[i]?=some x,λi H=>∃b,kP K H a b/\b.length<=i⟩
def Ak(K:W.Frag)(a:Addr):It:=
 ⟨λi H=>∃b x,mi K H a b/\b[i]?=some x,λi H x c=>c=H/\∀b,mi K H a b->b[i]?=some x,λi H=>∃b,mi K H a b/\b.length<=i⟩
def xh(lo:Int)(n:Nat):It:=⟨λi _=>i<n,λi H x a=>a=H/\x=.int (lo+i),λi _=>n<=i⟩
def ab1{P:Program}{w:World}{K:W.Frag}{R:Expr}(a j:Addr):Turn P w K R (Aj K a) [j] j (λi h=>h.IsListIter j a i) where
 mem:=by simp
 obj:=λi h f b l=>by
  have e:b=j:=by simpa using l
  subst e;obtain⟨o,e,c,d⟩:=f;exact⟨o,e,λv z=>by rw[d]at z;cases z⟩
 keep:=λi h q f k=>f.at λo e=>k j (by simp) o e
 item:=by intro X C A D O i g s N H E I hf f B;subst C A D;obtain⟨Q,x,n,y⟩:=B;obtain⟨t,r,p,U⟩:=I.list n;obtain⟨u,Y,T⟩:=r.get y;obtain⟨M,L,Z,J,G,F⟩:=hf j (by simp);refine wpAny_pyNext_list_item f p.isList (x:=u) (by simpa using Y) λq m S=>?_;have I1:Inv X g N H {s with heap:=q}:=I.turned (t':=s.toks) (λb o l e=>(S.2 b l).trans e) M L J G F;obtain⟨o,e,c,d⟩:=id m;exact⟨u,rfl,rE (s:={s with heap:=q}) e c d (by decide) ⟨x,H,I1,T,⟨rfl,λys V=>by rw[I.I0 V n];exact y⟩,m,λb l=>(hf b l).1⟩⟩
 done:=by intro X C A D O i g s N H E I hf f B;subst C A D;obtain⟨Q,n,y⟩:=B;obtain⟨t,r,p,U⟩:=I.list n;obtain⟨M,L,Z,J,G,F⟩:=hf j (by simp);have hl:=r.length;exact wpAny_pyNext_list_end (I.ok.hd O) f p.isList (by simp;omega) λq eb=>⟨rfl,I.turned (t':=s.toks) (λb o l e=>eb b o l e) M L J G F⟩
 self:=λ_ _ _ _ _ f h=>wpAny_pyIter_listiter f h
def ab4{P:Program}{w:World}{K:W.Frag}{R:Expr}(a l:Addr):Turn P w K R (Ak K a) [l] l (λi h=>h.IsTupleIter l a i) where
 mem:=by simp
 obj:=λi h f b m=>by
  have e:b=l:=by simpa using m
  subst e;obtain⟨o,e,c,d⟩:=f;exact⟨o,e,λv z=>by rw[d]at z;cases z⟩
 keep:=λi h r f k=>f.at λo e=>k l (by simp) o e
 item:=by intro X C A D O i g s N H E I hf f B;subst C A D;obtain⟨Q,x,q,y⟩:=B;obtain⟨j,t,p,U⟩:=I.tuple q;obtain⟨u,Y,T⟩:=t.get y;obtain⟨M,L,Z,J,G,F⟩:=hf l (by simp);refine wpAny_pyNext_tuple_item f (show s.heap.IsTuple a j.toArray from p) (x:=u) (by simpa using Y) λr n S=>?_;have I1:Inv X g N H {s with heap:=r}:=I.turned (t':=s.toks) (λb o m e=>(S.2 b m).trans e) M L J G F;obtain⟨o,e,c,d⟩:=id n;exact⟨u,rfl,rE (s:={s with heap:=r}) e c d (by decide) ⟨x,H,I1,T,⟨rfl,λys V=>by rw[I.abX V q];exact y⟩,n,λb m=>(hf b m).1⟩⟩
 done:=by intro X C A D O i g s N H E I hf f B;subst C A D;obtain⟨Q,q,y⟩:=B;obtain⟨j,t,p,U⟩:=I.tuple q;obtain⟨M,L,Z,J,G,F⟩:=hf l (by simp);have hl:=t.length;exact wpAny_pyNext_tuple_end (I.ok.hd O) f (show s.heap.IsTuple a j.toArray from p) (by simp;omega) λr eb=>⟨rfl,I.turned (t':=s.toks) (λb o m e=>eb b o m e) M L J G F⟩
 self:=λ_ _ _ _ _ f h=>wpAny_pyIter_tupleiter f h
def ab2{P:Program}{w:World}{K:PySem.W.Frag}{F:Expr}(d:Addr)(lo:Int)(n:Nat):Turn P w K F (xh lo n) [d] d (λi h=>IsRangeIter h d (lo+(i:Nat)*1) ((n:Int) - (i:Nat)) 1) where
 mem:=by simp
 obj:=λi h a b f=>by
  have e:b=d:=by simpa using f
  subst e;exact⟨_,a,λv z=>by have D:Data.fields _=Data.cell v:=z;cases D⟩
 keep:=λi h j a k=>k d (by simp) _ a
 item:=by intro X q l r p i c s C H E I hf a m;subst q l r;obtain⟨B,A,J,y,x,u⟩:=hf d (by simp);have W:=Walks.range (prog:=X.prog) (w:=X.w) (I.ok.hd p) d lo 1 n;refine W.item i s _ _ m a λv j tk hv g G=>?_;obtain⟨t,rfl⟩:=hv;have M:Inv X c C H {s with heap:=j,toks:=tk}:=I.turned (λb o f e=>G b o (by simpa using f) e) B A y x u;refine⟨_,rfl,rE (s:={s with heap:=j,toks:=tk}) (n:="range_iterator") g rfl rfl (by decide) ⟨.int<|lo+i,H,M,⟨t,?_⟩,⟨rfl,rfl⟩,g,λb f=>(hf b f).1⟩⟩;rw[iJ]
 done:=by intro X q l r p i c s C H E I hf a m;subst q l r;obtain⟨B,A,J,y,x,u⟩:=hf d (by simp);exact wpAny_pyNext_range_end (I.ok.hd p) a (by have:n<=i:=m;omega) λj L=>⟨rfl,I.turned (t':=s.toks) (λb o f e=>L b o f e) B A y x u⟩
 self:=λ_ _ _ _ _ a h=>wpAny_pyIter_rangeiter a h
section
variable{X:Cx}{U:Expr}
def Q8(K:W.Frag)(e:TE):TI:=λc H R=>e c H λx b=>∃a,x=.ref a/\(∃d,kP K b a d)/\R (Aj K a) b
def Rb(K:W.Frag)(e:TE):TI:=λc H R=>e c H λx b=>∃a,x=.ref a/\(∃d,mi K b a d)/\R (Ak K a) b
def Wr{l:Expr}{i:TE}(t:PE X l i):PI X U l (Q8 X.K i):=by
 intro c s j H R I h;refine jh (t c s j H _ I h) λv d g=>?_;obtain⟨x,w,f,k,m⟩:=g;obtain⟨a,e,⟨y,r⟩,q⟩:=m;subst e;cases k;obtain⟨n,z,p,A⟩:=f.list r;refine f3 p.isList ?_;refine⟨d.heap.objs.size,[d.heap.objs.size],_,_,w,rfl,f.kept (t':=d.toks) λb o e=>ah _ e,ab1 a _,⟨_,aH _ rfl,rfl,rfl⟩,λb u=>?_,q⟩;have e:b=d.heap.objs.size:=by simpa using u
 subst e;exact f.td (ag _) (f.hok.fresh<|ag _)
def Ww{l:Expr}{j:TE}(t:PE X l j):PI X U l (Rb X.K j):=by
 intro d s k H R I h;refine jh (t d s k H _ I h) λv c i=>?_;obtain⟨x,w,f,m,n⟩:=i;obtain⟨a,e,⟨y,r⟩,q⟩:=n;subst e;cases m;obtain⟨g,z,p,A⟩:=f.tuple r;refine wpAny_pyIter_tuple (show c.heap.IsTuple a g.toArray from p) ?_;refine⟨c.heap.objs.size,[c.heap.objs.size],_,_,w,rfl,f.kept (t':=c.toks) λb o e=>ah _ e,ab4 a _,⟨_,aH _ rfl,rfl,rfl⟩,λb u=>?_,q⟩;have e:b=c.heap.objs.size:=by simpa using u
 subst e;exact f.td (ag _) (f.hok.fresh<|ag _)
def ZQ{s}{R:It->Hp->Prop}{lo a:Int}{t u v:Tok}{tk:Nat}(I:Inv X pins σ H s)(i: -(2^62)<=lo)(h:lo<2^62)(g: -(2^62)<=a)(f:a<2^62)
 (q:R (xh lo (a - lo).toNat) H):wpAny (model X.prog X.w) X.A (pyIter<|.ref s.heap.objs.size) (PIE X pins σ U R) E {s with heap:=s.heap.push {cls:=.type "range",data:=.fields #[.int lo t,.int a u,.int 1 v]},toks:=tk}:=by
  refine wpAny_pyIter_range (IsRange.new ..) (small_one i h g f) ?_;have c:Inv X pins σ H {s with heap:=s.heap.push {cls:=.type "range",data:=.fields #[.int lo t,.int a u,.int 1 v]},toks:=tk}:=I.kept λb o e=>ah _ e
  refine⟨(s.heap.push {cls:=.type "range",data:=.fields #[.int lo t,.int a u,.int 1 v]}).objs.size,[(s.heap.push {cls:=.type "range",data:=.fields #[.int lo t,.int a u,.int 1 v]}).objs.size],_,_,H,rfl,
   c.kept (t':=tk) λb o e=>ah _ e,ab2 _ lo (a - lo).toNat,?_,λb d=>?_,q⟩
  ·have k:lo+((0:Nat):Int)*1=lo:=by simp
   have j:(((a - lo).toNat:Nat):Int) - ((0:Nat):Int)=Builtin.Range.rangeSize lo a 1:=by rw[rangeSize_one];split<;>omega
   show IsRangeIter _ _ (lo+((0:Nat):Int)*1) ((((a - lo).toNat:Nat):Int) - ((0:Nat):Int)) 1;rw[k,j];exact aH _ rfl
  ·have e:b=(s.heap.push {cls:=.type "range",data:=.fields #[.int lo t,.int a u,.int 1 v]}).objs.size:=by simpa using d
   subst e;exact c.td (ag _) (c.hok.fresh<|ag _)
def Q9(c:TA):TI:=λa H R=>c a H λb d=>∃j:Int,b=[.int j]/\ -(2^62)<=j/\j<2^62/\R (xh 0 j.toNat) d
def Ws(m:Gl X "range")(l:X.mg "range"=none)(n:PA X [a] ta)(k:starEach [a] X.env=[(false,eval a X.env)]):PI X U (.Call (.Name "range" p) [a] [] pos) (Q9 ta):=by
 intro b s d H R I h;refine Call_ (rM I m l boot_range (cS (jh (n pos b s d H _ I h) λv w ⟨u,x,o,g,c⟩=>?_) k rfl) (by decide)<|by decide);obtain⟨j,e,c,i,q⟩:=c;subst e;cases g with
 |cons r f=>cases f;obtain⟨t,rfl⟩:=r;exact call_range_1 (ZQ o (by omega) (by omega) c i<|by simpa using q)
def abr(f:TI)(g:TG)(h:TS):TS:=λD a H=>f a H λJ k=>∃W:Nat->Nat->St->Hp->Prop,(∃m,W 0 m a k)/\∀i m a H,W i m a H->
 (J.stop i H/\D.nx a H)\/(J.go i H/\∃N:St->Hp->Prop,(∀b c,N b c->∃e,e<m/\W (i+1) e b c)/\∀x c,J.wM i H x c->g x a c λd j=>h {D with nx:=N,ct:=N,bk:=D.nx} d j)
def wj(a:List Addr)(h:Heap):List (Addr×Obj):=a.filterMap λb=>(h.get? b).map λo=>(b,o)
def yM{h:Heap}(a:b∈fp)(e:h.get? b=some o):(b,o)∈wj fp h:=bB.mpr ⟨b,a,by rw[e];rfl⟩
def UC(a:p∈wj fp h):p.1∈fp/\h.get? p.1=some p.2:=by
 obtain⟨b,c,e⟩:=bB.mp a;cases q:h.get? b with
 |none=>rw[q]at e;cases e
 |some o=>rw[q]at e;have d:(b,o)=p:=Option.some.inj e;subst d;exact⟨c,q⟩
def Inv.pinned{s}(I:Inv X pins σ H s)(hf:∀b∈fp,rh X pins H b)(g:∀b∈fp,∃o,s.heap.get? b=some o/\∀v,o.data≠.cell v):Inv X (pins++wj fp s.heap) σ H s:=
 I.Kd λp f=>(bh.mp f).elim (λz=>I.pin p (bA _ z)) λz=>by obtain⟨a,e⟩:=UC z;obtain⟨j,i,h,_⟩:=hf p.1 a;obtain⟨o,c,d⟩:=g p.1 a;rw[e]at c;cases c;exact⟨e,j,i,h,d⟩
def Inv.zH{s}(I:Inv X (pins++pl) σ H s):Inv X pins σ H s:=I.Kd λp a=>I.pin p (bA _<|c5 _ a)
def Ki{g}(K:PassesOwn (model X.prog X.w) X.A X.env X.xe)(hc:X.calm=true)(hi:PI X U iter wi)(hg:PG X U g)(p:oM X body tb)
 (hs:∀x,foldedSetIterable iter X.env x=pure x):PS X (.For U iter body [] pos) (abr wi g tb):=by
  intro c s Z H D I h;refine wpAny_For (jh (hi c s Z H _ I h) λv s1 h1=>jh h1 λRC s2 h2=>?_) hs;obtain⟨it,M,tn,J,H2,e,I2,T,Q,f2,W,⟨m0,w0⟩,C⟩:=h2;subst e
  have l:∀{y:Hp},(∀b∈M,y b=none)->∀b∈M,rh X c y b:=λhn b p=>⟨hn b p,(f2 b p).2⟩;refine codeAny_forLoop_any (λn s'=>∃i k y,Inv X c k y s'/\tn i s'.heap/\(∀b∈M,y b=none)/\W i n k y) ?_ m0 ⟨0,Z,H2,I2,Q,λb p=>(f2 b p).1,w0⟩
  rintro n s3 ⟨i,j,O,I3,F,L,w3⟩
  rcases C i n j O w3 with⟨E,qn⟩|⟨go,N,hN,step⟩
  ·refine cZ K (jh (T.done X rfl rfl rfl hc i c s3 j O X.xe I3 (l L) F E) λr s4 ⟨S,I4⟩=>?_);subst S;exact fF ⟨j,O,I4,qn⟩
  ·refine cZ K (jh (T.item X rfl rfl rfl hc i c s3 j O X.xe I3 (l L) F go) λr s4 ⟨u,S,h4⟩=>?_);subst S;refine cZ K (jh h4 λ_ s5 B=>?_);obtain⟨x,H5,I5,r5,y5,A,V⟩:=B;have Y:=I5.pinned (l V) (T.obj _ _ A);refine cZ K (jh (hg _ s5 j H5 x u _ Y r5<|step x H5 y5) λ_ s6 B=>?_);obtain⟨P,H6,I6,q6⟩:=B;refine cZ K (jh (p _ s6 P H6 _ I6 q6) λf R z=>?_);have q:∀{a:St} {w:Hp},Inv X (c++wj M s5.heap) a w R->N a w->∃m,m<n/\∃i k y,Inv X c k y R/\tn i R.heap/\(∀b∈M,y b=none)/\W i m k y:=λ{a w} t G=>by
    obtain⟨m',hm,w7⟩:=hN a w G;refine⟨m',hm,i+1,a,w,t.zH,T.keep _ _ _ A λb p o e=>(t.pin (b,o)<|bA _<|bA _<|yM p e).1,λb p=>?_,w7⟩;obtain⟨o,e,d⟩:=T.obj _ _ A b p;exact(t.pin (b,o)<|bA _<|bA _<|yM p e).2.1
   cases f with
   |next=>obtain⟨a,w,t,G⟩:=z;exact q t G
   |cont=>obtain⟨a,w,t,G⟩:=z;exact q t G
   |brk=>obtain⟨a,w,t,z⟩:=z;exact⟨a,w,t.zH,z⟩
   |ret v=>obtain⟨x7,a,w,t,r7,z⟩:=z;exact⟨x7,a,w,t.zH,r7,z⟩
abbrev R2:=V->V->Hp->VK->Prop
def kx(X:Cx)(f:Value->Value->Sem Value)(r:R2):Prop:=
 ∀a s b H x y v u Q,Inv X a b H s->RelV x v->RelV y u->r x y H Q->
  wpAny (model X.prog X.w) X.A (f v u) (EP X a b Q) X.xe s
def xv(X:Cx)(f:Value->Sem Value)(r:V->Hp->VK->Prop):Prop:=
 ∀a s b H x v Q,Inv X a b H s->RelV x v->r x H Q->
  wpAny (model X.prog X.w) X.A (f v) (EP X a b Q) X.xe s
def mF(X:Cx)(f:Value)(r:List V->Hp->VK->Prop):Prop:=
 ∀a s b H c d Q,Inv X a b H s->Vals c d->r c H Q->
  wpAny (model X.prog X.w) X.A (call f d) (EP X a b Q) X.xe s
def M5(X:Cx)(r:V->Hp->(Bool->Hp->Prop)->Prop):Prop:=
 ∀(a:List<|Addr×Obj) (s:Shared) (σ:St) (H:Hp) (x:V) (v:Value) (Q:Bool->Hp->Prop),Inv X a σ H s->RelV x v->r x H Q->
  wpAny (model X.prog X.w) X.A (truthy v) (TP X a σ Q) X.xe s
def zC(r:R2)(c b:TE):TE:=λa H Q=>c a H λx e=>b a e λy d=>r x y d Q
def tUn(r:V->Hp->VK->Prop)(b:TE):TE:=λa H Q=>b a H λx c=>r x c Q
def rI(C:Int->Int->Prop)(g:Int->Int->V):R2:=λx y H Q=>∃i j,x=.int i/\y=.int j/\C i j/\Q (g i j) H
def rW(g:Int->Int->V):R2:=λx y H Q=>∃i j,x=.int i/\y=.int j/\Q (g i j) H
def rU(g:Int->V):V->Hp->VK->Prop:=λx H Q=>∃i,x=.int i/\Q (g i) H
variable{a b c:Expr}{F L Y:TE}{O:Pos}
def AD(r:PE X a F)(q:PE X b L){s}{R:V->V->Hp->Prop}(I:Inv X pins σ H s)
 (h:F σ H λx k=>L σ k λy e=>R x y e){f:Value->Value->Sem Value}
 (hf:∀v u j x y e,Inv X pins σ e j->RelV x v->RelV y u->R x y e->wpAny (model X.prog X.w) X.A (f v u) Q X.xe j):
   wpAny (model X.prog X.w) X.A (eval a X.env) (λv i=>wpAny (model X.prog X.w) X.A (eval b X.env) (λu g=>wpAny (model X.prog X.w) X.A (f v u) Q X.xe g) X.xe i) X.xe s:=by
  refine jh (r pins s σ H _ I h) λv l d=>?_;obtain⟨x,k,w,n,p⟩:=d;refine jh (q pins l σ k _ w p) λu j d=>?_;obtain⟨y,e,t,m,o⟩:=d;exact hf v u j x y e t n m o
def J1(j:kx X (binaryOp op) r)(l:PE X a F)(k:PE X b L):PE X (.BinOp a op b O) (zC r F L):=by intro d s e H Q I h;exact wpAny_BinOp (AD l k I h λv u f x y n m i g q=>j d f e n x y v u Q m i g q)
def Wg(j:xv X (unaryOp op) r)(k:PE X a F):PE X (.UnaryOp op a O) (tUn r F):=by intro d s e H Q I h;exact UnaryOp_ (jh (k d s e H _ I h) λv f ⟨x,m,l,g,i⟩=>j d f e m x v Q l g i)
def wg{f:Value->Value->Sem Value}{C:Int->Int->Prop}{g:Int->Int->Int}
 (d:∀(i j:Int) t u (s:Shared) (Q:jP) E,C i j->Q (.int (g i j) s.toks) {s with toks:=s.toks+1}->wpAny (model X.prog X.w) X.A (f (.int i t)<|.int j u) Q E s):
   kx X f (rI C λi j=>.int<|g i j):=by
  intro e s o H x y v u Q I m l h;obtain⟨i,j,rfl,rfl,n,q⟩:=h;obtain⟨t,rfl⟩:=m;obtain⟨k,rfl⟩:=l;exact d i j t k s _ _ n ⟨.int<|g i j,H,I.tok _,⟨_,rfl⟩,q⟩
def JE{f:Value->Value->Sem Value}{g:Int->Int->Int}
 (d:∀(i j:Int) t u (s:Shared) Q E,Q (.int (g i j) s.toks) {s with toks:=s.toks+1}->wpAny (model X.prog X.w) X.A (f (.int i t)<|.int j u) Q E s):
   kx X f (rW λi j=>.int<|g i j):=by
  intro e s n H x y v u Q I m l h;obtain⟨i,j,rfl,rfl,q⟩:=h;obtain⟨t,rfl⟩:=m;obtain⟨k,rfl⟩:=l;exact d i j t k s _ _ ⟨.int<|g i j,H,I.tok _,⟨_,rfl⟩,q⟩
def Cf{f:Value->Value->Sem Value}{g:Int->Int->Bool}
 (d:∀(i j:Int) t u s Q E,Q (.bool<|g i j) s->wpAny (model X.prog X.w) X.A (f (.int i t)<|.int j u) Q E s):
   kx X f (rW λi j=>.bl<|g i j):=by
  intro e s n H x y v u Q I m l h;obtain⟨i,j,rfl,rfl,q⟩:=h;obtain⟨t,rfl⟩:=m;obtain⟨k,rfl⟩:=l;exact d i j t k s _ _ ⟨.bl<|g i j,H,I,rfl,q⟩
def Mm(i j:Int):Prop:=0<=j/\j<=1000000/\i.natAbs<2^64
def z9(i j:Int):Prop:=(-(2^64)<i/\i<2^64)\/(-(2^64)<j/\j<2^64)
def z9.ok{i j:Int}(h:z9 i j):IntMulOk i j:=by
 rcases h with⟨e,d⟩|⟨e,d⟩;·exact .of_left (intBits_le_64 e d)
 ·exact .of_right (intBits_le_64 e d)
def Vm:kx X (binaryOp .Add) (rW λi j=>.int<|i+j):=JE λ_ _ _ _ _ _ _ q=>add_int q
def VG:kx X (binaryOp .Sub) (rW λi j=>.int<|i - j):=JE λ_ _ _ _ _ _ _ q=>sub_int q
def VB:kx X (binaryOp .Mult) (rI z9 λi j=>.int<|i*j):=wg λ_ _ _ _ _ _ _ d q=>mul_int q d.ok
def VA:kx X (binaryOp .Mod) (rI (λ_ j=>j≠0) λi j=>.int<|i.fmod j):=wg λ_ _ _ _ _ _ _ d q=>mod_int' d q
def VF:kx X (binaryOp .Pow) (rI Mm λi j=>.int<|i^j.toNat):=wg λ_ _ _ _ _ _ _ d q=>pow_int_small d.1 d.2.1 d.2.2 q
def unI{f:Value->Sem Value}{g:Int->Int}
 (d:∀(i:Int) t (s:Shared) Q E,Q (.int (g i) s.toks) {s with toks:=s.toks+1}->wpAny (model X.prog X.w) X.A (f<|.int i t) Q E s):
   xv X f (rU λi=>.int<|g i):=by
  intro e s k H x v Q I j h;obtain⟨i,rfl,q⟩:=h;obtain⟨t,rfl⟩:=j;exact d i t s _ _ ⟨.int<|g i,H,I.tok _,⟨_,rfl⟩,q⟩
def aca:xv X (unaryOp .USub) (rU λi=>.int<|-i):=unI λ_ _ _ _ _ q=>neg_int q
def DQ:V->V->Bool
 |.non,.non=>true|.non,.int _=>true|.int _,.non=>true|.non,.bl _=>true|.bl _,.non=>true|.non,.str _=>true|.str _,.non=>true
 |.int _,.int _=>true|.bl _,.bl _=>true|.str _,.str _=>true|.nI _,.nI _=>true
 |.int _,.str _=>true|.str _,.int _=>true|.bl _,.str _=>true|.str _,.bl _=>true
 |_,_=>false
def ZI:R2:=λx y H Q=>DQ x y=true/\Q (.bl<|decide<|x=y) H
def ZL:R2:=λx y H Q=>DQ x y=true/\Q (.bl<|!decide (x=y)) H
def GX{i j:Int}:decide (V.int i=V.int j)=(i==j):=by rw[dB];simp
def GV:decide (V.bl i=V.bl j)=(i==j):=by rw[dB];simp
def GY:decide (V.str i=V.str j)=(i==j):=by rw[dB];simp
def GW:decide (V.nI i=V.nI j)=(i.toList==j.toList):=by rw[dB];cases i;cases j;simp
def kr{s}{Q:VK}{k}(I:Inv X pins σ H s)(q:Q (.bl k) H)(e:k=k'):EP X pins σ Q (.bool k') s:=by subst e;exact⟨.bl k,H,I,rfl,q⟩
def Vp:kx X (compareOp .Eq) ZI:=by
 intro k s l H x y v u Q I g d h;obtain⟨f,q⟩:=h;cases x with
 |non=>
  cases g;cases y with
  |non=>cases d;exact PySem.EqNone.eq_none_none (kr I q<|by simp)
  |bl j=>cases d;exact PySem.EqNone.eq_none_bool (kr I q<|by simp)
  |int j=>obtain⟨e,rfl⟩:=d;exact PySem.EqNone.eq_none_int (kr I q<|by simp)
  |str j=>obtain⟨e,rfl⟩:=d;exact PySem.EqNone.eq_none_str (kr I q<|by simp)
  |_=>exact absurd (show false=true from f) ax
 |bl i=>
  cases g;cases y with
  |non=>cases d;exact PySem.EqNone.eq_bool_none (kr I q<|by simp)
  |bl j=>cases d;exact eq_bool (kr I q GV)
  |str j=>obtain⟨e,rfl⟩:=d;exact PySem.EqMixed.eq_bool_str (kr I q<|by simp)
  |_=>exact absurd (show false=true from f) ax
 |int i=>
  obtain⟨t,rfl⟩:=g;cases y with
  |non=>cases d;exact PySem.EqNone.eq_int_none (kr I q<|by simp)
  |int j=>obtain⟨e,rfl⟩:=d;exact eq_int (kr I q GX)
  |str j=>obtain⟨e,rfl⟩:=d;exact PySem.EqMixed.eq_int_str (kr I q<|by simp)
  |_=>exact absurd (show false=true from f) ax
 |str i=>
  obtain⟨t,rfl⟩:=g;cases y with
  |non=>cases d;exact PySem.EqNone.eq_str_none (kr I q<|by simp)
  |bl j=>cases d;exact PySem.EqMixed.eq_str_bool (kr I q<|by simp)
  |int j=>obtain⟨e,rfl⟩:=d;exact PySem.EqMixed.eq_str_int (kr I q<|by simp)
  |str j=>obtain⟨e,rfl⟩:=d;exact eq_str (kr I q GY)
  |_=>exact absurd (show false=true from f) ax
 |nI i=>
  obtain⟨t,rfl⟩:=g;cases y with
  |nI j=>obtain⟨e,rfl⟩:=d;exact W.eq_bytes (kr I q GW)
  |_=>exact absurd (show false=true from f) ax
 |_=>cases y<;>exact absurd (show false=true from f) ax
def VE:kx X (compareOp .NotEq) ZL:=by
 intro k s l H x y v u Q I g d h;obtain⟨f,q⟩:=h;cases x with
 |non=>
  cases g;cases y with
  |non=>cases d;exact PySem.EqNone.ne_none_none (kr I q<|by simp)
  |bl j=>cases d;exact PySem.EqNone.ne_none_bool (kr I q<|by simp)
  |int j=>obtain⟨e,rfl⟩:=d;exact PySem.EqNone.ne_none_int (kr I q<|by simp)
  |str j=>obtain⟨e,rfl⟩:=d;exact PySem.EqNone.ne_none_str (kr I q<|by simp)
  |_=>exact absurd (show false=true from f) ax
 |bl i=>
  cases g;cases y with
  |non=>cases d;exact PySem.EqNone.ne_bool_none (kr I q<|by simp)
  |bl j=>cases d;exact ne_bool (kr I q<|bD not GV)
  |str j=>obtain⟨e,rfl⟩:=d;exact PySem.EqMixed.ne_bool_str (kr I q<|by simp)
  |_=>exact absurd (show false=true from f) ax
 |int i=>
  obtain⟨t,rfl⟩:=g;cases y with
  |non=>cases d;exact PySem.EqNone.ne_int_none (kr I q<|by simp)
  |int j=>obtain⟨e,rfl⟩:=d;exact ne_int (kr I q<|bD not GX)
  |str j=>obtain⟨e,rfl⟩:=d;exact PySem.EqMixed.ne_int_str (kr I q<|by simp)
  |_=>exact absurd (show false=true from f) ax
 |str i=>
  obtain⟨t,rfl⟩:=g;cases y with
  |non=>cases d;exact PySem.EqNone.ne_str_none (kr I q<|by simp)
  |bl j=>cases d;exact PySem.EqMixed.ne_str_bool (kr I q<|by simp)
  |int j=>obtain⟨e,rfl⟩:=d;exact PySem.EqMixed.ne_str_int (kr I q<|by simp)
  |str j=>obtain⟨e,rfl⟩:=d;exact ne_str (kr I q<|bD not GY)
  |_=>exact absurd (show false=true from f) ax
 |nI i=>
  obtain⟨t,rfl⟩:=g;cases y with
  |nI j=>obtain⟨e,rfl⟩:=d;exact W.ne_bytes (kr I q<|bD not GW)
  |_=>exact absurd (show false=true from f) ax
 |_=>cases y<;>exact absurd (show false=true from f) ax
def Vz:kx X (compareOp .Lt) (rW λi j=>.bl<|decide<|i<j):=Cf λ_ _ _ _ _ _ _ q=>lt_int q
def Vx:kx X (compareOp .LtE) (rW λi j=>.bl<|decide<|i<=j):=Cf λ_ _ _ _ _ _ _ q=>le_int q
def Vr:kx X (compareOp .Gt) (rW λi j=>.bl<|decide<|j<i):=Cf λ_ _ _ _ _ _ _ q=>gt_int q
def Vu:kx X (compareOp .In) (λx y H Q=>∃i j,x=.str i/\y=.str j/\Q (.bl<|!(Builtin.Str.occurrences j i 0 j.length 1).isEmpty) H):=by intro d s g H x y v u Q I f e h;obtain⟨i,j,rfl,rfl,q⟩:=h;obtain⟨t,rfl⟩:=f;obtain⟨k,rfl⟩:=e;exact in_str (kr I q rfl)
def JH:kx X (compareOp .Is) (λx y H Q=>y=.non/\Q (.bl<|decide<|x=.non) H):=by
 intro e s g H x y v u Q I d f h;obtain⟨rfl,q⟩:=h;cases f;refine is_none_gen (kr I q ?_)
 cases x<;>first
  |(cases d;rfl)
  |(obtain⟨t,rfl⟩:=d;rfl)
def JJ:kx X (compareOp .IsNot) (λx y H Q=>y=.non/\Q (.bl<|!decide (x=.non)) H):=by
 intro e s g H x y v u Q I d f h;obtain⟨rfl,q⟩:=h;cases f;refine isnot_none_gen (kr I q ?_)
 cases x<;>first
  |(cases d;rfl)
  |(obtain⟨t,rfl⟩:=d;rfl)
def m5(b)(h:op≠.In:=by decide)(d:op≠.NotIn:=by decide):behindInMarks op b=false:=by
 have f:(op==CmpOp.In)=false:=by cases op<;>first|rfl|exact absurd rfl h
 have e:(op==CmpOp.NotIn)=false:=by cases op<;>first|rfl|exact absurd rfl d
 cases b<;>simp[behindInMarks,f,e]
def JV(j:kx X (compareOp op) r)(m:PE X a F)(l:PE X b L)(k:behindInMarks op b=false):PE X (.Compare a [op] [b] O) (zC r F L):=by intro d s e H Q I h;exact wpAny_Compare1 (AD m l I h λv u f x y o n i g q=>j d f e o x y v u Q n i g q) k
def Lu(t:TE):TT:=λd H Q=>t d H λx e=>∃k,x=.bl k/\Q k e
def zd(t:kx X (compareOp op) r)(B:PE X a F)(A:PE X b L)(w:behindInMarks op b=false):PT X (.Compare a [op] [b] O) (Lu<|zC r F L):=by intro d s g H Q I h;refine wpAny_isTrue_Compare1 (jh (B d s g H _ I h) λv j f=>?_) w;obtain⟨x,K,E,n,q⟩:=f;refine jh (A d j g K _ E q) λu i f=>?_;obtain⟨y,J,D,m,p⟩:=f;refine jh (t d i g J x y v u _ D n m p) λc M f=>?_;obtain⟨z,G,C,l,k,e,o⟩:=f;subst e;cases l;exact c6 ⟨G,C,o⟩
def abi(r g:R2)(F L Y:TE):TE:=λd H Q=>F d H λx j=>L d j λy i=>r x y i λz e=>∃k,z=.bl k/\
 (if k=true then Y d e λf h=>g y f h Q else Q (.bl false) e)
def WV(R:kx X (compareOp op) r)(j:kx X (compareOp we) r')(W:PE X a F)(V:PE X b L)(T:PE X c Y)
 (S:lastMarks [op,we] [b,c]=false):PT X (.Compare a [op,we] [b,c] O) (Lu<|abi r r' F L Y):=by
  intro g s i H Q I h;refine isTrue_chain (jh (W g s i H _ I h) λv B f=>?_) S;obtain⟨x,H1,I1,G,N⟩:=f;refine test_link (jh (V g B i H1 _ I1 N) λu A f=>?_);obtain⟨y,H2,I2,l,M⟩:=f;refine jh (R g A i H2 x y v u _ I2 G l M) λd w f=>?_;obtain⟨z,o,n,E,k,e,m⟩:=f;subst e;cases E;refine c6 ?_;cases k with
  |false=>obtain⟨k',e',P⟩:=m;cases e';exact ite_ff ⟨o,n,P⟩
  |true=>refine ite_tt (test_last<|jh (T g w i o _ n m) λq t f=>?_);obtain⟨p,H4,I4,D,K⟩:=f;refine jh (j g t i H4 y p u q _ I4 l D K) λd' s5 f=>?_;obtain⟨z2,H5,I5,C,k2,Z,J⟩:=f;subst Z;cases C;exact c6 ⟨H5,I5,J⟩
def vk(K:W.Frag)(x:V)(H:Hp)(k:Bool):Prop:=
 match x with
 |.non=>k=false
 |.bl b=>k=b
 |.int i=>k=(i !=0)
 |.str y=>y.length<=sizeLine/\k=((y.length:Int)!=0)
 |.nI y=>y.size<=sizeLine/\k=((y.size:Int)!=0)
 |.ref p=>(∃d,kP K H p d/\k=!d.isEmpty)\/(∃d,mi K H p d/\k=!d.isEmpty)\/∃e,H p=some (.dK e)/\k=!e.isEmpty
 |_=>False
def Ru{e:Type}{d:List<|e×V}{f:List<|e×Value}(r:KV d f):(!f.isEmpty)=!d.isEmpty:=by cases r<;>rfl
def Im{e:List V}{d:List Value}(r:Vals e d):(!d.toArray.isEmpty)=!e.isEmpty:=by cases r<;>simp
def tq:(sizeLine:Nat)<2^63:=by rw[c7];decide
def Em:M5 X (λx H Q=>∃k,vk X.K x H k/\Q k H):=by
 intro z s D H x v Q I l h;obtain⟨k,e,q⟩:=h;have G:=tq;have E:sizeLine=16777216:=c7;cases x with
 |non=>cases l;have d:k=false:=e;subst d;exact truthy_none ⟨H,I,q⟩
 |bl b=>cases l;have d:k=b:=e;subst d;exact c6 ⟨H,I,q⟩
 |int i=>obtain⟨t,rfl⟩:=l;have d:k=(i !=0):=e;subst d;exact PySem.P.truthy_int ⟨H,I,q⟩
 |str y=>obtain⟨t,rfl⟩:=l;obtain⟨B,d⟩:y.length<=sizeLine/\k=((y.length:Int)!=0):=e;subst d;exact PySem.P.truthy_str (by omega) ⟨H,I.tok _,q⟩
 |nI y=>obtain⟨t,rfl⟩:=l;obtain⟨B,d⟩:y.size<=sizeLine/\k=((y.size:Int)!=0):=e;subst d;exact W.truthy_bytes (by omega) ⟨H,I.tok _,q⟩
 |ref p=>
  cases l;have d:(∃j,kP X.K H p j/\k=!j.isEmpty)\/(∃j,mi X.K H p j/\k=!j.isEmpty)\/∃f,H p=some (.dK f)/\k=!f.isEmpty:=e;rcases d with⟨j,n,d⟩|⟨j,n,d⟩|⟨f,n,d⟩
  ·subst d;obtain⟨w,r,u,A⟩:=I.list n;have g:=r.length;exact wpAny_truthy_list u.isList (by simp only[aM];omega) ⟨H,I.tok _,by rw[Im r];exact q⟩
  ·subst d;obtain⟨w,r,u,A⟩:=I.tuple n;have g:=r.length;exact truthy_tuple u (by simp only[aM];omega) ⟨H,I.tok _,by rw[Im r];exact q⟩
  ·subst d;obtain⟨A,C,o,r,m⟩:f.length<=sizeLine/\(p==sysModules)=false/\∃o,KV f o/\s.heap.DictOf (j3 X.prog X.w) p o:=I.hok p _ n;have g:f.length=o.length:=Paired.length r;exact wpAny_truthy_dict C m (by omega) ⟨H,I.tok _,by rw[Ru r];exact q⟩
 |_=>exact(show False from e).elim
def Ko(n:PE X a F)(m:∀d,isTrue a X.env d=(do let v<-d;standAt a.pos;holding [v]<|truthy v)):
    PT X a (λf H Q=>F f H λx g=>∃k,vk X.K x g k/\Q k g):=by
 intro e s f H Q I h;exact isTrue_plain (jh (n e s f H _ I h) λv i ⟨x,p,o,j,l⟩=>Em e i f p x v Q o j l) (m _)
def Vn:kx X (binaryOp .Add) (λx y H Q=>∃i j,x=.str i/\y=.str j/\i.length+j.length<=sizeLine/\Q (.str<|i++j) H):=by intro d s l H x y v u Q I g f h;obtain⟨i,j,rfl,rfl,k,q⟩:=h;obtain⟨t,rfl⟩:=g;obtain⟨e,rfl⟩:=f;exact add_str (λe tk=>⟨.str<|i++j,H,I.tok _,⟨_,rfl⟩,q⟩) k
def vals1(r:Vals [x] us):∃u,us=[u]/\RelV x u:=by
 cases r with
 |cons e d=>cases d;exact⟨_,rfl,e⟩
def vals2(r:Vals [x,y] us):∃u d,us=[u,d]/\RelV x u/\RelV y d:=by
 cases r with
 |cons h g=>
  cases g with
  |cons f e=>cases e;exact⟨_,_,rfl,h,f⟩
def NJ:mF X (.builtin "abs") (λd H Q=>∃i,d=[.int i]/\Q (.int<|if i<0 then -i else i) H):=by intro e s f H d g Q I r h;obtain⟨i,rfl,q⟩:=h;obtain⟨u,rfl,t,rfl⟩:=vals1 r;exact call_abs_int λu tk=>⟨.int<|if i<0 then -i else i,H,I.tok _,⟨_,rfl⟩,q⟩
def NU(g:X.calm=true):mF X (.builtin "max") (λe H Q=>∃i j,e=[.int i,.int j]/\Q (.int<|if j>i then j else i) H):=by
 intro f s l H e n Q I r h;obtain⟨i,j,rfl,q⟩:=h;obtain⟨u,m,rfl,⟨t,rfl⟩,⟨o,rfl⟩⟩:=vals2 r;refine max_two_ints (I.ok.hd g) λp tk k=>⟨_,H,I.kept k,?_,q⟩;by_cases d:j>i;·rw[av d,av d];exact⟨_,rfl⟩
 ·rw[aw d,aw d];exact⟨_,rfl⟩
structure sC(h:Heap)(x dx C:Addr)(mA:kd):Prop where
 obj:h.get? x=some (W.instObj C dx)
 ns:h.Ns1 dx mA
 ne:dx≠x
def SJ{h:Heap}(n:h.Ns1 dx mA):∃g,h.get? dx=some g/\∀d,W.lookIn d g=some (mA d):=by
 obtain⟨o,i,s,k,p,m,_,l⟩:=n;refine⟨o,k,λd=>?_⟩;have e:=l d;unfold nsFind findBy at e;rw[<-Array.find?_toList]at e;unfold W.lookIn;rw[p];dsimp only;split
 ·rename_i y q;rw[q]at e;exact bD some e
 ·rename_i q;rw[q]at e;have a:i.toList.any (·.refKey)=false:=by
   rw[bV];intro y j;obtain⟨z,t,f⟩:=m y (dM.mp j);simp[DictEntry.refKey,f]
  have r:¬i.toList.any (·.refKey)=true:=by rw[a];exact ax
  rw[aw r];exact bD some e
def sC.look(I:sC h x dx C mA):∃e,W.InstAt h x (W.instObj C dx) C (some e)/\∀d,W.lookIn d e=some (mA d):=
 let⟨e,f,g⟩:=SJ I.ns
 ⟨e,⟨I.obj,rfl,rfl,f⟩,g⟩
variable{M:Program}{w:World}{A:Around}{E:jP}{s:Shared}{K:W.Frag}{x P C f:Addr}{S:kd}{B:Str}{v:Value}
def get_map{Q:jP}(X:K.In s.heap)(I:sC s.heap x P C S)(i:W.plainGet K C B=true)(g:W.hasDictIn K C=true)
 (j:W.findIn K (.ref C) B=some none)(hv:S B=some v)(d:W.handedIn v=true)(h:Q v {s with toks:=s.toks+1}):
   wpAny (model M w) A (getAttr (.ref x) B expr) Q E s:=by
  obtain⟨k,J,e⟩:=I.look;exact W.get_value X J (W.plainGet_of i).1 (W.findObj_own g j rfl<|by rw[e,hv]) d h
def P4{Q:Value×List Value->Shared->Prop}(X:K.In s.heap)(I:sC s.heap x P C S)(d:W.plainGet K C B=true)
 (hf:W.findIn K (.ref C) B=some (some<|.ref f))(g:W.isFn K (.ref f)=true)(hv:S B=none)(h:Q (.ref f,[.ref x]) s):
   wpAny (model M w) A (getMethod (.ref x) B pl) Q E s:=by
  obtain⟨e,J,i⟩:=I.look;exact W.method_fn X J (W.plainGet_of d).1 (W.plainGet_of d).2 hf (dN.mp g) (by show(W.lookIn B e).map (·.isSome)=some false;rw[i,hv];rfl) h
def aaL{Q:Unit->Shared->Prop}(X:K.In s.heap)(I:sC s.heap x P C S)
 (q:W.findIn K (.ref C) "__setattr__"=some (some<|.builtin "object.__setattr__"))(t:W.plainOver K C=true)(o:W.takerIn K C B=some none)(u:W.hasDictIn K C=true)
 (n:PySem.Within S ns)(p:ns.length<=sizeLine)
 (h:∀g,sC g x P C (λy=>if y=B then some v else S y)->Heap.SameBut P s.heap g->Q () {s with heap:=g,toks:=s.toks+2}):
   wpAny (model M w) A (setAttr (.ref x) B v) Q E s:=by
  obtain⟨H,J,R⟩:=I.look;refine W.set_plain X J q (W.osa_open (s:={s with toks:=s.toks+1}) (r:=none) X J t o λb=>?_);obtain⟨T,z,k⟩:=W.any_some u;have m:s.heap.get? x=some ⟨.ref C,some P,.plain,#[]⟩:=I.obj;refine ae (af<|ae<|ae<|wpAny_loadPart m<|ae<|W.Looks.here (s:={s with toks:=s.toks+1}) (W.looks_clsIn X z) ?_);rw[k];refine af (a:=some P) (ae<|af<|ae ?_);refine wpAny_nsSet1 (s:={s with toks:=s.toks+1}) I.ns λg e d=>?_;obtain⟨N,D,G,i,j,l⟩:=e.count (PySem.Within.cons B v n);refine ae (wpAny_lookBehind i (by rw[j];exact pastItsLine_dict (aS l (by rw[aq];omega))) ?_);exact af (h _ ⟨(d.2 _<|bP I.ne).trans I.obj,e,I.ne⟩ d)
def TN{R}(X:K.In s.heap)(i:W.makesIn K C=true)
 (j:W.findIn K (.ref C) "__init__"=some (some<|.ref f))(hf:W.typeIn K (.ref f)=some (.type "function"))
 (h:codeAny (model M w) (A.under (.builtin "type.__call__" ⟨.ref C::vs,kw⟩)) (.call (.ref f) ⟨.ref (s.heap.objs.size+1)::vs,kw⟩) (W.InitBack (s.heap.objs.size+1) R)
 {s with heap:=(s.heap.push W.emptyDict).push (W.instObj C s.heap.objs.size)}):
   codeAny (model M w) A (.call (.ref C) ⟨vs,kw⟩) R s:=by
  obtain⟨l,g,d,t,k⟩:=s;exact W.make_core (W.makes_of X i) (W.looks_findIn X j) (λe=>W.bind_fn X e hf) (.inl rfl) h
end
def lU(f:Str)(v:V):List (Str×V)->List (Str×V)
 |[]=>[(f,v)]
 |(g,x)::r=>if g=f then(g,v)::r else(g,x)::lU f v r
theorem I9(f g v):∀fs:List (Str×V),(lU f v fs).lookup g=if g=f then some v else fs.lookup g
 |[]=>by
  show List.lookup g [(f,v)]=_;by_cases h:g=f
  ·have a:(g==f)=true:=dN.mpr h;simp only[List.lookup,a,av h]
  ·have a:(g==f)=false:=cQ.mpr h;simp only[List.lookup,a,aw h]
 |(k,x)::r=>by
  have c:=I9 f g v r;rw[show lU f v ((k,x)::r)=(if k=f then(k,v)::r else(k,x)::lU f v r)from rfl];by_cases b:k=f
  ·rw[av b];by_cases h:g=k
   ·have a:(g==k)=true:=dN.mpr h;simp only[List.lookup,a,av<|h.trans b]
   ·have a:(g==k)=false:=cQ.mpr h;simp only[List.lookup,a,aw (λe:g=f=>h<|e.trans b.symm)]
  ·rw[aw b];by_cases h:g=k
   ·have a:(g==k)=true:=dN.mpr h;simp only[List.lookup,a,aw (λe:g=f=>b<|h.symm.trans e)]
   ·have a:(g==k)=false:=cQ.mpr h;simp only[List.lookup,a];exact c
theorem BI(f v):∀fs:List (Str×V),f∈(lU f v fs).map (·.1)/\∀g,g∈fs.map (·.1)->g∈(lU f v fs).map (·.1)
 |[]=>⟨by simp[lU],λg h=>by simp at h⟩
 |(k,x)::r=>by
  obtain⟨c,b⟩:=BI f v r;rw[show lU f v ((k,x)::r)=(if k=f then(k,v)::r else(k,x)::lU f v r)from rfl];by_cases a:k=f
  ·rw[av a];subst a;exact⟨by simp,λg h=>by simpa using h⟩
  ·rw[aw a];refine⟨?_,λg h=>?_⟩
   ·rw[aR];exact aX _ c
   ·rw[aR]at h⊢;rcases aD.mp h with e|e;·exact aD.mpr (.inl e)
    ·exact aX _ (b g e)
theorem IW(f v):∀fs:List (Str×V),(lU f v fs).length<=fs.length+1
 |[]=>by simp[lU]
 |(k,x)::r=>by
  have b:=IW f v r;rw[show lU f v ((k,x)::r)=(if k=f then(k,v)::r else(k,x)::lU f v r)from rfl];by_cases a:k=f;·rw[av a,aq,aq];omega
  ·rw[aw a,aq,aq];omega
def mr.some_of(r:mr (some v) o):∃u,o=some u/\RelV v u:=by
 cases o with
 |none=>exact(show False from r).elim
 |some u=>exact⟨u,rfl,r⟩
def mr.none_of(r:mr none o):o=none:=by
 cases o with
 |none=>rfl
 |some u=>exact(show False from r).elim
def Qm{u}(r:RelV v u):W.handedIn u=true:=by
 cases v with
 |non=>cases(show u=Value.none from r);rfl
 |bl b=>cases(show u=Value.bool b from r);rfl
 |int i=>obtain⟨t,e⟩:=(show∃t,u=Value.int i t from r);cases e;rfl
 |str x=>obtain⟨t,e⟩:=(show∃t,u=Value.str x t from r);cases e;rfl
 |nI b=>obtain⟨t,e⟩:=(show∃t,u=Value.bytes b t from r);cases e;rfl
 |flt b=>obtain⟨t,e⟩:=(show∃t,u=Value.float b t from r);cases e;rfl
 |ref a=>cases(show u=Value.ref a from r);rfl
 |ty n=>cases(show u=Value.type n from r);rfl
section
variable{P:Program}{w:World}{H j:Hp}{h i:Heap}{a C b:Addr}{fs c:List<|Str×V}
def Bw(k:kA P w H h)(e:H a=some (.ins C b fs)):∃g,sC h a b C g/\(∀f,mr (fs.lookup f) (g f))/\PySem.Within g (fs.map (·.1))/\fs.length<=1000/\H b=some (.own a):=by obtain⟨d,z,ne,ob,g,n,r,q⟩:=(show kq P w H h a (.ins C b fs)from k a _ e);exact⟨g,⟨ob,n,ne⟩,r,q,z,d⟩
end
structure nX(K:W.Frag)(C:Addr):Prop where
 pg:W.plainGet K C Str.empty=true
 hd:W.hasDictIn K C=true
 po:W.plainOver K C=true
 sa:W.findIn K (.ref C) "__setattr__"=some (some<|.builtin "object.__setattr__")
def nX.get{K:W.Frag}{C:Addr}(c:nX K C)(f:Str):W.plainGet K C f=true:=c.pg
def qj(K:W.Frag)(C:Addr)(f:Str):Prop:=W.findIn K (.ref C) f=some none
def qj.abN{K:W.Frag}{C:Addr}{f:Str}(n:qj K C f):W.takerIn K C f=some none:=by unfold W.takerIn;rw[show W.findIn K (.ref C) f=some none from n];rfl
structure Con(K:W.Frag)(C:Addr)(f:Str)(v:V)(u:Value):Prop where
 at_:W.findIn K (.ref C) f=some (some u)
 rel:RelV v u
 get:W.specialIn K u "__get__"=some none
 cp:W.copiedNames.contains f=false
structure Meth(K:W.Frag)(C:Addr)(m:Str)(f:Addr):Prop where
 at_:W.findIn K (.ref C) m=some (some<|.ref f)
 fn:W.isFn K (.ref f)=true
 kp:W.keepIn K (.ref f)=true
section
variable{X:Cx}{i:List<|Addr×Obj}{j:St}{H:Hp}{s:Shared}{a C B:Addr}{fs:List<|Str×V}{f:Str}{v:V}{A:Around}{E:jP}
def P5{Q:jP}(I:Inv X i j H s)(e:H a=some (.ins C B fs))(c:nX X.K C)(n:qj X.K C f)(l:fs.lookup f=some v)
 (h:∀u d,Inv X i j H d->RelV v u->Q u d):wpAny (model X.prog X.w) A (getAttr (.ref a) f b) Q E s:=by obtain⟨k,O,r,_,_,_⟩:=Bw I.hok e;obtain⟨u,m,g⟩:=mr.some_of (v:=v) (o:=k f) (by rw[<-l];exact r f);exact get_map I.lR O (c.get f) c.hd n m (Qm g) (h u _ (I.tok _) g)
def P6{g}{Q:Value×List Value->Shared->Prop}(I:Inv X i j H s)(e:H a=some (.ins C B fs))(c:nX X.K C)(k:Meth X.K C m g)(l:fs.lookup m=none)
 (h:Q (.ref g,[.ref a]) s):wpAny (model X.prog X.w) A (getMethod (.ref a) m pl) Q E s:=by obtain⟨b,O,r,_,_,_⟩:=Bw I.hok e;have d:b m=none:=mr.none_of (by rw[<-l];exact r m);exact P4 I.lR O (c.get m) k.at_ k.fn d h
def aaM{u}{Q:Unit->Shared->Prop}(I:Inv X i j H s)(e:H a=some (.ins C B fs))(c:nX X.K C)(n:qj X.K C f)(M:fs.length<1000)(w:RelV y u)
 (h:∀l,Inv X i j (upd H a<|.ins C B<|lU f y fs) l->Q () l):wpAny (model X.prog X.w) A (setAttr (.ref a) f u) Q E s:=by
  obtain⟨m,O,r,k,_,p⟩:=Bw I.hok e;have D:(fs.map (·.1)).length<=sizeLine:=by rw[aj,c7];omega
  refine aaL I.lR O c.sa c.po n.abN c.hd k D λK d t=>h _ ?_;have G:∃o,K.get? B=some o:=let⟨o,_,_,L,_⟩:=d.ns;⟨o,L⟩;refine I.write (x:=a) (e:=B) (by rw[e];exact True.intro) (.inr p) (λb q J z=>(t.2 b J).trans z) G ?_;refine⟨by rw[jA O.ne];exact p,?_,O.ne,d.obj,_,d.ns,λg=>?_,λg F=>?_⟩;·have:=IW f y fs;omega
  ·show mr ((lU f y fs).lookup g) (if g=f then some u else m g);rw[I9];by_cases q:g=f;·rw[av q,av q];exact w
   ·rw[aw q,aw q];exact r g
  ·by_cases q:g=f;·rw[q];exact(BI f y fs).1
   ·refine(BI f y fs).2 g (k g λz=>F ?_);show(if g=f then some u else m g)=none;rw[aw q];exact z
def Inv.made(I:Inv X i j H s):Inv X i j (upd (upd H s.heap.objs.size<|.own<|s.heap.objs.size+1) (s.heap.objs.size+1)<|.ins C s.heap.objs.size [])
    {s with heap:=(s.heap.push W.emptyDict).push (W.instObj C s.heap.objs.size)}:=by
 have c:(s.heap.push W.emptyDict).get? s.heap.objs.size=some W.emptyDict:=aH s.heap rfl;have k:((s.heap.push W.emptyDict).push (W.instObj C s.heap.objs.size)).get? (s.heap.objs.size+1)=some (W.instObj C s.heap.objs.size):=by
  have:=aH (s.heap.push W.emptyDict) (o:=W.instObj C s.heap.objs.size) rfl
  rwa [cq]at this
 have h:(s.heap.push W.emptyDict).Ns s.heap.objs.size (λ_=>none):=⟨W.emptyDict,#[],_,c,rfl,(λe g=>absurd g<|by simp),λ_=>rfl⟩;have l:=I.laid (a:=s.heap.objs.size) (o:=.own<|s.heap.objs.size+1) (h':=s.heap.push W.emptyDict) (t':=s.toks) (λb u q=>ah _ q) (ag _) ⟨_,c⟩;refine l.laid (a:=s.heap.objs.size+1) (o:=.ins C s.heap.objs.size []) (t':=s.toks) (λb u q=>ah _ q) (iF<|cq _ _) ?_;have ne:s.heap.objs.size≠s.heap.objs.size+1:=aU (bU _);refine⟨by rw[jA ne,kv],bM _,ne,k,λ_=>none,(Heap.Ns1.of_empty h).at λo q=>ah _ q,λ_=>True.intro,λy d=>absurd rfl d⟩
def Nw{w s}(c:attributeBase e f env (eval e env)=eval e env)
 (h:wpAny (model prog w) A (eval e env) (λo b=>wpAny (model prog w) A (getAttr o f true) Q E b) E s):wpAny (model prog w) A (eval (.Attribute e f pos) env) Q E s:=
  Attribute_any_ h (by rw[arm_eval_Attribute,c])
def abq(K:W.Frag)(c:TE)(f:Str):TE:=λj H Q=>c j H λx b=>∃a C B fs v,x=.ref a/\b a=some (.ins C B fs)/\nX K C/\qj K C f/\fs.lookup f=some v/\Q v b
def aaj(K:W.Frag)(d c:TE)(f:Str):TS:=λD j H=>c j H λy e=>d j e λx b=>∃a C B fs,x=.ref a/\b a=some (.ins C B fs)/\nX K C/\qj K C f/\fs.length<1000/\
 D.nx j (upd b a<|.ins C B<|lU f y fs)
variable{o e p:Expr}{F L N:Pos}{J M:TE}
def V2(k:PE X e J)(m:attributeBase e f X.env (eval e X.env)=eval e X.env):PE X (.Attribute e f F) (abq X.K J f):=by intro i s j H Q I h;refine Nw m (jh (k i s j H _ I h) λu G b=>?_);obtain⟨x,y,w,d,a,C,B,fs,v,ex,r,c,n,l,q⟩:=b;subst ex;obtain rfl:u=Value.ref a:=d;exact P5 w r c n l λz D t g=>⟨v,y,t,g,q⟩
def WO(w:PE X o J)(hv:PE X p M)(t:swapsWith p (some<|.Attribute o f L) F.line X.env=pure false):PS X (.Assign [.Attribute o f L] p F) (aaj X.K J M f):=by intro i s j H D I h;refine plainObj_wpAny_Assign_Attribute (jh (hv i s j H _ I h) λu d b=>?_) t;obtain⟨y,P,O,g,q⟩:=b;refine jh (w i d j P _ O q) λr R b=>?_;obtain⟨x,S,K,k,a,C,B,fs,ex,z,c,n,l,m⟩:=b;subst ex;obtain rfl:r=Value.ref a:=k;exact aaM K z c n l g λQ G=>⟨j,_,G,m⟩
end
section
variable{X:Cx}{f:List<|Addr×Obj}{h:St}{H:Hp}{s:Shared}{A:Around}{E Q:jP}{c:Value}{b:Bool}
inductive pC(K:W.Frag)(H:Hp):V->Value->Prop where
 |non:pC K H .non (.type "NoneType")
 |bl (x:Bool):pC K H (.bl x) (.type "bool")
 |int (i:Int):pC K H (.int i) (.type "int")
 |str (x:Str):pC K H (.str x) (.type "str")
 |flt (x:UInt64):pC K H (.flt x) (.type "float")
 |lst {a:Addr} {xs:List V} (e:H a=some (.lst xs)):pC K H (.ref a) (.type "list")
 |j6 {a:Addr} {o:Obj} {xs:List V} (e:H a=some (.j6 o<|.lst xs)):pC K H (.ref a) (.type "list")
 |tup {a:Addr} {xs:List V} (e:H a=some (.tup xs)):pC K H (.ref a) (.type "tuple")
 |dK {a:Addr} {kvs:List<|Key×V} (e:H a=some (.dK kvs)):pC K H (.ref a) (.type "dict")
 |dT {a:Addr} {kvs:List<|List Key×V} (e:H a=some (.dT kvs)):pC K H (.ref a) (.type "dict")
 |ins {a C dx:Addr} {fs:List<|Str×V} (e:H a=some (.ins C dx fs)) (cl:nX K C) (ha:W.findIn K (.ref C) "__class__"=some (some<|.builtin "object.__class__"))
   (hn:W.specialIn K (.builtin "object.__class__") "__get__"=some (some<|.builtin "getset_descriptor.__get__")) (htk:W.takesIn K (.builtin "object.__class__")=some true)
   (hm:W.mroIn K C (.type "object")=some true):pC K H (.ref a) (.ref C)
end
structure kL(k:Nat)(A:Around):Prop where
 hd:A.handled=none
 dp:A.depth+3*k+5<recursionLimit
 un:A.units+16*k+200<cLine
def kL.mono{k}(r:kL k A)(h:j<=k):kL j A:=⟨r.hd,by have:=r.dp;omega,by have:=r.un;omega⟩
def kL.deeper{k}(r:kL (k+1) A)(env):kL k (A.deeper env):=
 ⟨r.hd,by have:=r.dp;show A.depth+1+3*k+5<_;omega,by have:=r.un;show A.units+3+16*k+200<_;omega⟩
def TJ{A:Around}:(A.under<|.builtin "type.__call__" ⟨.ref C::us,kw⟩).depth=A.depth+1:=by first|rfl|simp[Around.under,Code.weight,Code.isCreation,Code.isGuard,Code.isCaller,Code.frames,Code.isFrame,guardIds]
def TQ{A:Around}:(A.under<|.builtin "type.__call__" ⟨.ref C::us,kw⟩).units=A.units+1:=by first|rfl|simp[Around.under,Code.cUnits,Code.frames,Code.isFrame]
def kL.make{k}(r:kL (k+1) A)(C us kw):kL k (A.under<|.builtin "type.__call__" ⟨.ref C::us,kw⟩):=
 ⟨r.hd,by have:=r.dp;rw[TJ];omega,by have:=r.un;rw[TQ];omega⟩
def kL.depth{k}(r:kL k A):A.depth<recursionLimit:=by have:=r.dp;omega
def kL.units{k}(r:kL k A):A.units+64<cLine:=by have:=r.un;omega
def zA:TA:=λ_ H Q=>Q [] H
def zz(d:TE)(c:TA):TA:=λa H Q=>d a H λx f=>c a f λb e=>Q (x::b) e
section
variable{X:Cx}{e:Expr}{m:List Expr}{y:TE}{t:TA}{c:Pos}
def rT:PA X [] zA:=λ_ _ _ _ H Q I h=>eE ⟨[],H,I,.nil,h⟩
def rS(p:PE X e y)(o:PA X m t)(n:X.se e m):PA X (e::m) (zz y t):=by intro c a s d H Q I h;rw[n];show wpAny _ _ (spliced<|(false,eval e X.env)::backTo c (starEach m X.env)) _ _ s;refine dr (jh (p a s d H _ I h) λu g b=>?_);obtain⟨x,w,r,j,l⟩:=b;exact jh (o c a g d w _ r l) λz A ⟨f,v,q,i,k⟩=>⟨x::f,v,q,.cons j i,k⟩
def abH(t:TA):TE:=λd H Q=>t d H λa b=>a.length<=sizeLine/\∀p,b p=none->Q (.ref p) (upd b p<|.tup a)
def abu(t:TA):TE:=λd H Q=>t d H λa b=>a.length<=sizeLine/\∀p,b p=none->Q (.ref p) (upd b p<|.lst a)
def CW{l}(h:PA X m t):PE X (.Tuple m l c) (abH t):=by intro a s j H Q I o;refine wpAny_Tuple_spliced (jh (h c a s j H _ I o) λn d f=>?_);obtain⟨k,i,g,r,z,q⟩:=f;refine⟨by rw[<-r.length];exact z,?_⟩;have hf:i d.heap.objs.size=none:=g.hok.fresh (ag _);refine⟨.ref d.heap.objs.size,upd i d.heap.objs.size<|.tup k,g.laid (t':=d.toks) (λb u e=>ah _ e) (ag _) ?_,rfl,q _ hf⟩;exact⟨z,n,r,⟨_,aH _ rfl,rfl,_,rfl⟩⟩
def V5(h:PA X m t):PE X (.List m c) (abu t):=by intro a s j H Q I n;refine wpAny_List_spliced (jh (h c a s j H _ I n) λl d f=>?_);obtain⟨k,i,g,r,z,q⟩:=f;refine⟨by rw[<-r.length];exact z,?_⟩;have hf:i d.heap.objs.size=none:=g.hok.fresh (ag _);refine⟨.ref d.heap.objs.size,upd i d.heap.objs.size<|.lst k,g.laid (t':=d.toks) (λb u e=>ah _ e) (ag _) ?_,rfl,q _ hf⟩;exact⟨z,l,0,r,aH _ rfl⟩
abbrev Sp:=List V->Hp->VK->XK->Prop
abbrev oG:=List Env->Hp->Shared->XK->jP
structure su(P:Program)(w:World)(K:W.Frag)(mg:kd)(base:Heap)(A:Around)(outer:List Env)(s:Shared)(H:Hp):Prop where
 frames:A.frames=some outer
 mod:Mod K mg base
 bs:∀b o,base.get? b=some o->s.heap.get? b=some o/\H b=none
 sR:base.objs.size<=s.heap.objs.size
 oQ:s.heap.FunFrames base outer
 vG:∀b∈frs outer,H b=none
 hok:kA P w H s.heap
 bare:AllBare s.gens
def CE(a:List Env)(P:Program)(w:World)(H:Hp)(s:Shared)(Q:VK)(u:Value)(b:Shared):Prop:=
 ∃v d,b.os=s.os/\AllBare b.gens/\Un (frs a) [] H d s.heap b.heap/\kA P w d b.heap/\RelV v u/\Q v d
def CR(d:oG)(a:List Env)(P:Program)(w:World)(H:Hp)(s:Shared)(Q:VK)(E:XK)(r:Result)(b:Shared):Prop:=
 match r with
 |.ok (.ret u)=>CE a P w H s Q u b
 |.ok _=>False
 |.error e=>d a H s E e b
structure mG(P:Program)(w:World)(K:W.Frag)(mg:kd)(base:Heap)(CX:oG)(k:Nat)(f:Addr)(fd:FuncData)(ps:List Str)(sp:Sp):Prop where
 len:∀vs H Q E,sp vs H Q E->vs.length=ps.length
 run:∀A outer s H args us vs Q E,kL k A->su P w K mg base A outer s H->BindsTo s fd args (ps.zip us)->Vals vs us->sp vs H Q E->
  codeAny (model P w) A (.call (.ref f) args) (CR CX outer P w H s Q E) s
def mG.mono{P:Program}{w:World}{K:W.Frag}{l:kd}{a:Heap}{o:oG}{j k:Nat}{f:Addr}{n:FuncData}{i:List Str}{g:Sp}(F:mG P w K l a o j f n i g)(h:j<=k):
    mG P w K l a o k f n i g:=⟨F.len,λA b s H d q p Q E r=>F.run A b s H d q p Q E<|r.mono h⟩
def mG.imp{P:Program}{w:World}{K:W.Frag}{n:kd}{a:Heap}{p:oG}{k:Nat}{f:Addr}{o:FuncData}{l:List Str}{j g:Sp}(F:mG P w K n a p k f o l j)
    (h:∀d H Q E,g d H Q E->j d H Q E):mG P w K n a p k f o l g:=
 ⟨λd H Q E q=>F.len d H Q E<|h _ _ _ _ q,λA b s H i r d Q E v x z hv u=>F.run A b s H i r d Q E v x z hv<|h _ _ _ _ u⟩
def su.make{P:Program}{w:World}{K:W.Frag}{d:kd}{b:Heap}{A:Around}{a:List Env}{s:Shared}{H:Hp}(e:su P w K d b A a s H)(C:Addr)(f:List Value)(g:List<|Str×Value):
    su P w K d b (A.under<|.builtin "type.__call__" ⟨.ref C::f,g⟩) a s H:=⟨by first|exact e.frames|(simpa [Around.under,Code.envs,Code.isFrame,pushEnvs]using e.frames),e.mod,e.bs,e.sR,e.oQ,e.vG,e.hok,e.bare⟩
variable{a:List<|Addr×Obj}{i:St}{H:Hp}{s l:Shared}
def Inv.Hm(I:Inv X a i H s):su X.prog X.w X.K X.mg X.base X.A X.stack s H:=
 ⟨I.ok.frames,I.ok.mod,I.bs,aS I.ok.sR I.sz,I.stack,I.Eg,I.hok,I.bare⟩
def Inv.after{u}(I:Inv X a i H s)(h:CE X.stack X.prog X.w H s Q u l):EP X a i Q u l:=by obtain⟨v,p,n,f,un,k,r,q⟩:=h;obtain⟨o,g,d,t,j⟩:=l;obtain rfl:j=s.os:=n;exact⟨v,p,I.call (h':=o) (g':=g) (d':=d) (t':=t) (ch:=[]) un k f<|λb z=>absurd z<|by simp,r,q⟩
end
def Lr(d:Sp)(a:List V)(E:XK)(t:TA):TE:=λb H Q=>t b H λc e=>d (c++a) e Q E
def abw(C:Addr)(m:Str)(g:Sp)(b:List V)(E:XK)(f:TE)(t:TA):TE:=λc H Q=>f c H λx d=>∃a h fs,x=.ref a/\d a=some (.ins C h fs)/\fs.lookup m=none/\
 t c d λe i=>g (x::(e++b)) i Q E
def abv(C:Addr)(f:Sp)(b:List V)(E:XK)(t:TA):TE:=λd H Q=>t d H λe c=>∀x a,c x=none->c a=none->a≠x->
 f (.ref x::(e++b)) (upd (upd c a<|.own x) x<|.ins C a []) (λv g=>v=.non/\Q (.ref x) g) E
def Binds(K:W.Frag)(c:FuncData)(a:List Str)(b:List Value):Prop:=
 ∀(s:Shared) us,K.In s.heap->(us++b).length=a.length->BindsTo s c ⟨us,[]⟩ (a.zip<|us++b)
def Binds.all{K:W.Frag}{d:FuncData}{b:List Str}(h:∀a:List Value,a.length=b.length->bindArgs d ⟨a,[]⟩=pure (b.zip a)):Binds K d b []:=λs a _ c=>by rw[bf]at c⊢;exact .of_eq (h a c)
def Passes(d:oG)(X:Cx)(E:XK):Prop:=∀a c H s e b,Inv X a c H s->d X.stack H s E e b->X.xe e b
section
variable{X:Cx}{L:oG}{k:Nat}{f C:Addr}{z:FuncData}{y:List Str}{J:Sp}{i:List V}{j:List Value}{E:XK}{x m:Str}{p b B:Pos}{e o:Expr}{A:List Expr}{N:TE}{t:TA}
def KQ{s}(F:mG X.prog X.w X.K X.mg X.base L k f z y J)(l:kL k X.A)(v:Binds X.K z y j)(q:Vals i j)(g:Passes L X E)
 (I:Inv X pins σ H s)(r:Vals vs us)(h:J (vs++i) H Q E):wpAny (model X.prog X.w) X.A (call (.ref f) us) (EP X pins σ Q) X.xe s:=by
  have c:Vals (vs++i) (us++j):=r.append q;have n:(us++j).length=y.length:=by rw[<-c.length];exact F.len _ _ _ _ h
  refine wpAny_call (eF (F.run X.A X.stack s H ⟨us,[]⟩ (us++j) (vs++i) Q E l I.Hm (v s us I.lR n) c h) λr d a=>?_);cases r with
  |error e=>exact g pins σ H s e d I a
  |ok w=>
   cases w with
   |ret u=>exact I.after a
   |next=>exact False.elim a
   |brk=>exact False.elim a
   |cont=>exact False.elim a
def VU(F:mG X.prog X.w X.K X.mg X.base L k f z y J)(u:kL k X.A)(D:Gl X x)(v:X.mg x=some (.ref f))(w:W.keepIn X.K (.ref f)=true)(K:Binds X.K z y j)(G:Vals i j)(n:Passes L X E)
 (M:PA X (e::A) t)(a:X.cl x e A b):
   PE X (.Call (.Name x p) (e::A) [] b) (Lr J i E t):=by
  intro c s l H Q I h;refine cf (BK I D v ?_ a.1);refine W.callWith_K (h₀:=X.base) I.ok.mod.vW w (jh (M b c s l H _ I h) λP R d=>?_) a.2.1 a.2.2;obtain⟨O,S,g,r,q⟩:=d;refine⟨g.lR,?_⟩;exact KQ F u K G n g r q
def V7(Y:PE X o N)(c:nX X.K C)(G:Meth X.K C m f)(F:mG X.prog X.w X.K X.mg X.base L k f z y J)(U:kL k X.A)(hb:Binds X.K z y j)(Z:Vals i j)(S:Passes L X E)(ha:PA X (e::A) t)
 (n:X.se e A:=by rfl)(v:X.bk b A:=by rfl)
 (T:eval (.Call (.Attribute o m B) (e::A) [] b) X.env=(do
 let D<-eval o X.env
 standAt B.atName
 let(f,first)<-holding [D] (getMethod D m pl)
 callWith b f first (backTo b (starEach (e::A) X.env)) (backToKw b (keywordEach [] X.env))):=by rfl):
  PE X (.Call (.Attribute o m B) (e::A) [] b) (abw C m J i E N t):=by
  intro d s w H Q I h;refine W.methodCall_KW (pl:=pl) (jh (Y d s w H _ I h) λu O g=>?_) T;obtain⟨x,H1,M,P,a,dx,fs,ex,ea,l,q⟩:=g;subst ex;obtain rfl:u=Value.ref a:=P;refine P6 M ea c G l ?_;refine W.callWith_K (first:=[.ref a]) (h₀:=X.base) I.ok.mod.vW G.kp (jh (ha b d O w H1 _ M q) λus s2 g=>?_) n v;obtain⟨vs,H2,K,r,R⟩:=g;refine⟨K.lR,?_⟩;exact KQ (us:=.ref a::us) (vs:=.ref a::vs) F U hb Z S K (.cons rfl r) R
structure Mk(K:W.Frag)(C f:Addr):Prop where
 makes:W.makesIn K C=true
 init:W.findIn K (.ref C) "__init__"=some (some<|.ref f)
 fn:W.isFn K (.ref f)=true
 kp:W.keepIn K (.ref C)=true
def aaf{s}{Q:VK}(M:Mk X.K C f)(F:mG X.prog X.w X.K X.mg X.base L k f z y J)(G:kL (k+1) X.A)(P:Binds X.K z y j)(O:Vals i j)
 (D:Passes L X E)(I:Inv X pins σ H s)(r:Vals vs us)
 (h:∀x c,H x=none->H c=none->c≠x->J (.ref x::(vs++i)) (upd (upd H c<|.own x) x<|.ins C c []) (λv U=>v=.non/\Q (.ref x) U) E):
   wpAny (model X.prog X.w) X.A (call (.ref C) us) (EP X pins σ Q) X.xe s:=by
  have l:=h (s.heap.objs.size+1) s.heap.objs.size (I.hok.fresh<|cU _) (I.hok.fresh<|ag _) (aU<|bU _);have d:=Inv.made (C:=C) I;have g:Vals (V.ref (s.heap.objs.size+1)::(vs++i)) (Value.ref (s.heap.objs.size+1)::(us++j)):=.cons rfl (r.append O);have K:(Value.ref (s.heap.objs.size+1)::us++j).length=y.length:=by have e:=g.length;rw[F.len _ _ _ _ l]at e;exact e.symm
  refine wpAny_call (TN (f:=f) I.lR M.makes M.init (dN.mp M.fn) (eF (F.run _ X.stack _ _ ⟨Value.ref (s.heap.objs.size+1)::us,[]⟩ (Value.ref (s.heap.objs.size+1)::(us++j)) _ _ E (G.make C us [])
   (d.Hm.make C us []) (P _ (Value.ref (s.heap.objs.size+1)::us) d.lR K) g l) λr n a=>?_))
  cases r with
  |error e=>exact D pins σ _ _ e n d a
  |ok R=>
   cases R with
   |ret u=>obtain⟨v,W,T,q,S,w⟩:=d.after a;subst S;exact⟨q,⟨V.ref<|s.heap.objs.size+1,W,T,rfl,w⟩⟩
   |next=>exact False.elim a
   |brk=>exact False.elim a
   |cont=>exact False.elim a
def V6(M:Mk X.K C f)(F:mG X.prog X.w X.K X.mg X.base L k f z y J)(u:kL (k+1) X.A)(w:Gl X x)(v:X.mg x=some (.ref C))(G:Binds X.K z y j)(D:Vals i j)(n:Passes L X E)
 (K:PA X (e::A) t)(a:X.cl x e A b:=by exact⟨by decide,rfl,rfl⟩):
   PE X (.Call (.Name x p) (e::A) [] b) (abv C J i E t):=by
  intro c s l H Q I h;refine cf (BK I w v ?_ a.1);refine W.callWith_K (h₀:=X.base) I.ok.mod.vW M.kp (jh (K b c s l H _ I h) λP R d=>?_) a.2.1 a.2.2;obtain⟨O,S,g,r,q⟩:=d;refine⟨g.lR,?_⟩;exact aaf M F u G D n g r q
variable{O:List Str}{P:Pos}{S:List Keyword}{T:TE}{tk:TA}{U:Option Str}
structure ac2(K:W.Frag)(z:FuncData)(y O:List Str)(g:List Value->List Value->List Value)(gV:List V->List V->List V):Prop where
 to:∀(s:Shared) (us ws:List Value),K.In s.heap->(g us ws).length=y.length->BindsTo s z ⟨us,O.zip ws⟩ (y.zip<|g us ws)
 rel:∀{vs:List V} {us:List Value} {zs:List V} {ws:List Value},Vals vs us->Vals zs ws->Vals (gV vs zs) (g us ws)
variable{g:List Value->List Value->List Value}{gV:List V->List V->List V}
end
structure j8(N P:List Str)(sc:Scope):Prop where
 kind:sc.kind=.function
 co:sc.isCoroutine=false
 gen:sc.isGenerator=false
 nd:N.Nodup
 pre:N.take P.length=P
 par:∀x∈P,sc.names.lookup x=some .local\/sc.names.lookup x=some .cell
 Ul:∀y∈sc.names,y.2≠.free
theorem Gq{a:Str->Option NameKind}{x:Str}:∀{binds:List<|Str×Value} {m:kd},(∀v,(x,v)∉binds)->bindL a binds m x=m x
 |[],_,_=>rfl
 |(n,v)::r,m,h=>by
  unfold bindL;rw[Gq λw b=>h w<|aX _ b];split
  ·have:x≠n:=by rintro rfl;exact h v bL
   simp[this]
  ·rfl
theorem Gn{a:Str->Option NameKind}{x:Str}:∀{binds:List<|Str×Value} {m:kd},(∀v,(x,v)∉binds)->bindC a binds m x=m x
 |[],_,_=>rfl
 |(n,v)::r,m,h=>by
  unfold bindC;rw[Gn λw b=>h w<|aX _ b];split;·rfl
  ·have:x≠n:=by rintro rfl;exact h v bL
   simp[this]
theorem Gp{a:Str->Option NameKind}{x:Str}{v:Value}:∀{P:List Str} {b:List Value} {i:Nat} {m:kd},P.Nodup->P[i]?=some x->b[i]?=some v->a x=some .local->
 bindL a (P.zip b) m x=some v
 |[],_,_,_,_,h,_,_=>by simp at h
 |_::_,[],_,_,_,_,h,_=>by simp at h
 |p::P,w::b,0,m,e,d,c,f=>by simp at d c;subst d;subst c;show bindL a ((p,w)::P.zip b) m p=_;unfold bindL;rw[Gq λv hv=>(bC.mp e).1 (hD hv).1,av f];simp
 |p::P,w::b,i+1,m,e,d,c,f=>by show bindL a ((p,w)::P.zip b) m x=_;unfold bindL;exact Gp (i:=i) (bC.mp e).2 (by simpa using d) (by simpa using c) f
theorem Gm{a:Str->Option NameKind}{x:Str}{v:Value}:∀{P:List Str} {b:List Value} {i:Nat} {m:kd},P.Nodup->P[i]?=some x->b[i]?=some v->a x≠some .local->
 bindC a (P.zip b) m x=some v
 |[],_,_,_,_,h,_,_=>by simp at h
 |_::_,[],_,_,_,_,h,_=>by simp at h
 |p::P,w::b,0,m,e,d,c,f=>by simp at d c;subst d;subst c;show bindC a ((p,w)::P.zip b) m p=_;unfold bindC;rw[Gn λv hv=>(bC.mp e).1 (hD hv).1,aw f];simp
 |p::P,w::b,i+1,m,e,d,c,f=>by show bindC a ((p,w)::P.zip b) m x=_;unfold bindC;exact Gm (i:=i) (bC.mp e).2 (by simpa using d) (by simpa using c) f
def start(N:List Str)(a:List V):St:=a.map some++List.replicate (N.length - a.length) none
def lr(g:oG)(P:Program)(w:World)(K:W.Frag)(mg:kd)(base:Heap)(N:List Str)(b:Str)(a:Scope)(f:Addr)(d:Value)(A:Around)(outer:List Env)(s:Shared)(H:Hp)(E:XK):Cx where
 prog:=P
 w:=w
 K:=K
 mg:=mg
 base:=base
 A:=A.deeper (envOfC b a s.heap.objs.size f d)
 N:=N
 s₀:=s
 H₀:=H
 env:=envOfC b a s.heap.objs.size f d
 outer:=outer
 stack:=envOfC b a s.heap.objs.size f d::outer
 ex:=[]
 calm:=true
 fn:=λ_=>true
 pn:=[]
 xe:=λe h=>wpAny (model P w) (A.deeper<|envOfC b a s.heap.objs.size f d) (leaving (envOfC b a s.heap.objs.size f d) e) (λ_ c=>g outer H s E e c) (λi c=>g outer H s E i c) h
def GF{sc:Scope}{n}(h:sc.names.lookup x=some .cell):∃c,(cellsFrom n sc.names []).lookup x=some c:=by have q:=W.cellsFrom_some sc.names n [] (.inl h);exact d7.mp q
def Rm{U:oG}{P:Program}{w:World}{K:W.Frag}{O:kd}{m:Heap}{N B:List Str}{j:Str}{d:Scope}{f:Addr}{L:Value}{A:Around}{g:List Env}{s Q:Shared}{H:Hp}{E:XK}{M:List Value}{t:List V}
    (S:j8 N B d)(Z:A.handled=none)(o:su P w K O m A g s H)(hl:t.length=B.length)(r:Vals t M)
    (x:InCallC s s.heap.objs.size (bindL (envOfC j d s.heap.objs.size f L).kindOf (B.zip M) λ_=>none) (cellsFrom (s.heap.objs.size+1) d.names []) (bindC (envOfC j d s.heap.objs.size f L).kindOf (B.zip M) λ_=>none) Q):
    Inv (lr U P w K O m N j d f L A g s H E) [] (start N t) H Q:=by
 have Y:B.length<=N.length:=by have:=bD List.length S.pre;rw[cD]at this;omega
 obtain⟨J,tk,rfl,T⟩:=x.done;have C:∀b:Addr,b∉(lr U P w K O m N j d f L A g s H E).ex:=λb z=>absurd (show b∈([]:List Addr)from z) (by simp)
 refine⟨⟨o.mod,S.kind,rfl,rfl,ag _,λy z c J l=>?_,λy D=>?_,λy c _ h=>?_,λ_=>Z,Around.frames_deeper o.frames,.inr ⟨rfl,rfl⟩,λb z=>absurd z (C b),o.bs,o.sR,λb _ _=>C b,λb z=>absurd z (C b),o.oQ,o.vG⟩,
  rfl,o.bare,Un.kept T,⟨_,x.toInCall.ns,λi y v J l h3=>?_⟩,λy c h=>⟨_,x.cell y c h⟩,o.hok.fresh (ag _),λy c h=>?_,λp G=>absurd (show p∈([]:List (Addr×Obj))from G) (by simp),o.hok.kept T,?_⟩
 ·exact name_of_addr x.apart (bz J) (bz l)
 ·have D:d.names.lookup y=some .cell\/d.names.lookup y=some .free:=D;rcases D with D|D;·exact GF D
  ·exact absurd rfl (S.Ul _<|bz D)
 ·exact cI (x.above y c<|bz h)
 ·have I:i<t.length:=by
   unfold start at l;by_cases I:i<t.length;·exact I
   ·rw[aK<|by simpa using I]at l;rw[bG]at l;split at l<;>cases l
  have ha:t[i]?=some v:=by
   unfold start at l;rw[ay<|by simpa using I,aE]at l;cases e:t[i]? with
   |none=>rw[e]at l;cases l
   |some a=>rw[e]at l;cases l;rfl
  obtain⟨u,R,X⟩:=r.get ha;have G:B[i]?=some y:=by rw[<-S.pre,List.getElem?_take_of_lt<|by omega];exact J
  have F:B.Nodup:=by rw[<-S.pre];exact S.nd.sublist (List.take_sublist _ _)
  refine⟨u,X,?_⟩;rcases S.par y (bc G)with k|k;·exact .inl ⟨k,Gp F G R k⟩
  ·obtain⟨c,e⟩:=GF (n:=s.heap.objs.size+1) k;refine .inr ⟨.inl k,c,e,?_⟩;have q:=x.cell y c e;rw[Gm F G R (by show d.names.lookup y≠_;rw[k];decide)]at q;exact q
 ·exact o.hok.fresh (cI<|x.above y c<|bz h)
 ·unfold start;show _=N.length;rw[ao,aj,cC];omega
def Hv{w}{K:W.Frag}{k dV kV}
 {p:Sp}(R:K.lookup f=some ⟨oc,od,.func<|W.fnOf name qual params body scope dV kV doc pm an cdv ct,osl⟩)(F:W.codeIn K cdv qual=true)(S:j8 N ps scope)
 (len:∀c H Q E,p c H Q E->c.length=ps.length)
 (h:∀(A:Around) outer (s:Shared) H c Q E,kL k (A.deeper (envOfC qual scope s.heap.objs.size f cdv))->p c H Q E->
 ∃t,oM (lr CX P w K mg base N qual scope f cdv A outer s H E) body t/\t {nx:=λ_ d=>Q .non d,rt:=Q} (start N c) H):
   mG P w K mg base CX (k+1) f (W.fnOf name qual params body scope dV kV doc pm an cdv ct) ps p:=by
  refine⟨len,λA outer s H L O c Q E D m hb r j=>?_⟩;have Y:=len _ _ _ _ j;have M:K.In s.heap:=m.mod.vW.keeps λb o e=>(m.bs b o e).1;have C:s.heap.NoLimit:=m.mod.nolimit.keeps λb o e=>(m.bs b o e).1;have g:∀y∈ps.zip O,scope.names.lookup y.1=some .local\/(scope.names.lookup y.1=some .cell/\((cellsFrom (s.heap.objs.size+1) scope.names []).lookup y.1).isSome=true):=λ⟨n,v⟩ T=>by
   rcases S.par n (hD T).1 with q|q;·exact .inl q
   ·exact .inr ⟨q,W.cellsFrom_some _ _ _<|.inl q⟩
  refine codeAny_call_function D.depth (M _ _ R) rfl S.co S.gen rfl (W.codeRec_of M F) (hb _ _ _ _ ?_);refine wpAny_newFunctionEnv_cells S.kind g λenv Z G x=>?_;subst Z;refine⟨C.keeps x.toInCall.keep,codeAny_func ?_⟩;obtain⟨t,U,X⟩:=h A outer s H c Q E (D.deeper _) j;have I:Inv (lr CX P w K mg base N qual scope f cdv A outer s H E) [] (start N c) H G:=Rm S D.hd m Y r x;refine bq (U [] G (start N c) H _ I X) (λfl z i=>?_) λe z i=>i
  have l:∀{a:St} {d:Hp} {v:V} {u:Value},Inv (lr CX P w K mg base N qual scope f cdv A outer s H E) [] a d z->RelV v u->Q v d->CE outer P w H s Q u z:=
   λ{a d v u} J B q=>⟨v,d,J.os,J.bare,J.base,J.hok,B,q⟩
  cases fl with
  |ret u=>obtain⟨v,a,d,J,B,q⟩:=i;exact l J B q
  |next=>obtain⟨a,d,J,q⟩:=i;exact l (v:=V.non) (u:=Value.none) J rfl q
  |brk=>obtain⟨_,_,_,q⟩:=i;exact False.elim q
  |cont=>obtain⟨_,_,_,q⟩:=i;exact False.elim q
variable{X:Cx}{x:Str}{p pos:Pos}{e:Expr}{es:List Expr}{t:TA}{id T:String}{r:List V->Hp->VK->Prop}
def Lq(r:List V->Hp->VK->Prop)(t:TA):TE:=λa H Q=>t a H λb c=>r b c Q
def VV(n:mF X (.builtin id) r)(m:Gl X x)(l:X.mg x=none)(hv:bootBuiltins x=some (.builtin id))(o:PA X (e::es) t)(k:x≠"__name__")(b:X.cl x e es pos):PE X (.Call (.Name x p) (e::es) [] pos) (Lq r t):=by intro a s c H Q I h;refine cf (rM I m l hv ?_ k b.1);exact dj (jh (o pos a s c H _ I h) λf g ⟨d,u,q,i,j⟩=>n a g c u d f Q q i j) b.2.1 b.2.2
def JU(n:mF X (.type T) r)(m:Gl X x)(l:X.mg x=none)(hv:bootBuiltins x=some (.type T))(o:PA X (e::es) t)(k:x≠"__name__")(b:X.cl x e es pos):PE X (.Call (.Name x p) (e::es) [] pos) (Lq r t):=by intro a s c H Q I h;refine cf (rM I m l hv ?_ k b.1);exact cS (jh (o pos a s c H _ I h) λf g ⟨d,u,q,i,j⟩=>n a g c u d f Q q i j) b.2.1 b.2.2
end L2
namespace HT
open PySem PyProof.Rows
variable{a:Program}{w:World}{A:Around}{E:jP}{s:Shared}
def jK(n d:Nat):Option Int->Nat
 |none=>d
 |some v=>if v<0 then(v+(n:Int)).toNat else min v.toNat n
def aak(n d)(b:d<=n)(o):jK n d o<=n:=by
 cases o with
 |none=>exact b
 |some v=>
  show(if v<0 then(v+(n:Int)).toNat else min v.toNat n)<=n;by_cases hv:v<0;·rw[av hv];omega
  ·rw[aw hv];exact Nat.min_le_right _ _
def GI(v:Int)(n d:Nat):(if v<0 then max (v+(n:Int)) 0 else min v (n:Int))=((jK n d<|some v:Nat):Int):=by
 show(if v<0 then max (v+(n:Int)) 0 else min v (n:Int))=(((if v<0 then(v+(n:Int)).toNat else min v.toNat n):Nat):Int);by_cases hv:v<0;·simp only[av hv];omega
 ·simp only[aw hv];omega
def Nd(lo b:Option Int)(n:Nat):Builtin.Slice.sliceAdjust lo b 1 (n:Int)=(((jK n 0 lo:Nat):Int),((jK n n b:Nat):Int)):=by
 have c:¬((1:Int)<0):=by omega
 unfold Builtin.Slice.sliceAdjust;simp only[c,bI];refine Prod.ext ?_ ?_
 ·cases lo with
  |none=>rfl
  |some v=>exact GI v n 0
 ·cases b with
  |none=>rfl
  |some v=>exact GI v n n
def WC(i j:Nat):Builtin.Slice.slicePlaces (i:Int) (j:Int) 1=j - i:=by
 unfold Builtin.Slice.slicePlaces;have b:(1:Int)>0:=by omega
 simp only[b,c8,Int.ediv_one];split<;>omega
def K6{Q:Option Int->Shared->Prop}(p:IsPart v o)(h:Q o s):wpAny (model a w) A (Builtin.Slice.slicePartIndex v) Q E s:=by
 cases p with
 |none=>exact slicePart_none h
 |int i t=>exact slicePart_int h
def aaS{lo n}{Q:Int×Int×Nat->Shared->Prop}(f:s.heap.IsSliceOf sl vl vu .none)(e:IsPart vl lo)(d:IsPart vu hi)
 (h:Q (((jK n 0 lo:Nat):Int),1,jK n n hi - jK n 0 lo) s):wpAny (model a w) A (Builtin.Slice.sliceApplied (.ref sl) (pure (n:Int))) Q E s:=by obtain⟨i,b,g,c⟩:=id f;unfold Builtin.Slice.sliceApplied Builtin.Slice.sliceFields;refine ae (ae<|dO b c (x:=vl) rfl<|ae<|dO b c (x:=vu) rfl<|ae<|dO b c (x:=.none) rfl<|af ?_);refine ae (slicePart_none ?_);show wpAny _ _ (if((1:Int)==0)=true then _ else _) _ _ s;rw[aw<|by decide];refine ae (K6 e<|ae<|K6 d<|ae<|af ?_);show wpAny _ _ (match Builtin.Slice.sliceAdjust lo hi 1 (n:Int)with|(lo,hi)=>pure (lo,(1:Int),Builtin.Slice.slicePlaces lo hi 1)) _ _ s;rw[Nd lo hi n];show wpAny _ _ (pure (((jK n 0 lo:Nat):Int),(1:Int),Builtin.Slice.slicePlaces ((jK n 0 lo:Nat):Int) ((jK n n hi:Nat):Int) 1)) _ _ s;rw[WC];exact af h
def Wx(b:Array Value)(i k:Nat):((List.range k).filterMap λ(m:Nat)=>b[((i:Int)+(m:Int)*1).toNat]?).toArray=((b.toList.drop i).take k).toArray:=by
 have e:(λ(m:Nat)=>b[((i:Int)+(m:Int)*1).toNat]?)=λm=>b[i+m]?:=by
  funext m;have:((i:Int)+(m:Int)*1).toNat=i+m:=by omega
  rw[this]
 rw[e];have:=pick_run b i k;rw[List.filterMap_map]at this;have c:((λx=>b[x]?)∘λx=>i+x)=λm=>b[i+m]?:=rfl;rw[c]at this;rw[this]
def P1{t f:Addr}{b:Array Value}{n l:Value}{lo d:Option Int}{Q:jP}(e:IsTup s.heap t b)(o:s.heap.IsSliceOf f n l .none)(r:IsPart n lo)(p:IsPart l d)
    (v:¬(jK b.size 0 lo=0/\jK b.size b.size d=b.size))
    (h:Q (.ref s.heap.objs.size) {s with heap:=s.heap.push {cls:=.type "tuple",data:=.seq ((b.toList.drop<|jK b.size 0 lo).take (jK b.size b.size d - jK b.size 0 lo)).toArray}})
    (x:b.size<=sizeLine):wpAny (model a w) A (getItem (.ref t)<|.ref f) Q E s:=by
 have c:sizeOk (.seq ((b.toList.drop<|jK b.size 0 lo).take (jK b.size b.size d - jK b.size 0 lo)).toArray):=by show((b.toList.drop<|jK b.size 0 lo).take (jK b.size b.size d - jK b.size 0 lo)).toArray.size<=sizeLine;rw[aM,cD,ck,aC];omega
 have C:jK b.size b.size d<=b.size:=aak _ _ (ag _) d;obtain⟨u,g,j,y⟩:=id o;have k:s.TypeIs (.ref f) "slice":=⟨u,g,j⟩;unfold getItem;try with_reducible refine bE ?_
 first|refine ae (af ?_)|skip
 refine ae (wpAny_sequenceKey e.typeIs (by decide) ?_)
 refine ae (bH (name:=Str.ofString "__getitem__") e.typeIs eS
  (bx eS e.typeIs entry_tuple_getitem ?_ (args_tuple_getitem _ _)))
 show wpAny _ _ (Builtin.Tuple.tupleItemsOf (.ref t)>>=_) _ _ s;refine ae (tupleItemsOf_ e ?_);refine ae (dR k ?_);rw[av<|by decide];refine ae (aaS o r p ?_);have i:¬((((jK b.size 0 lo:Nat):Int)==0&&(1:Int)==1&&(jK b.size b.size d - jK b.size 0 lo)==b.size)=true):=by intro q;rw[aQ,aQ]at q;have B:((jK b.size 0 lo:Nat):Int)=0:=eq_of_beq q.1.1;have z:jK b.size b.size d - jK b.size 0 lo=b.size:=eq_of_beq q.2;exact v ⟨by omega,by omega⟩
 show wpAny _ _ (if(((jK b.size 0 lo:Nat):Int)==0&&(1:Int)==1&&(jK b.size b.size d - jK b.size 0 lo)==b.size)=true then _ else _) _ _ s;rw[aw i,Wx]
 first
  |exact ae (m:=Builtin.Tuple.tupleExact _) (aV (af ⟨_,rfl,af h⟩) c)
  |exact ae (m:=Builtin.Tuple.tupleExact _) (aV (ae<|af<|af ⟨_,rfl,af h⟩) c)
  |exact ae (ae (m:=Builtin.Tuple.tupleExact _)<|aV (af<|af ⟨_,rfl,af h⟩) c)
  |exact ae (ae (m:=Builtin.Tuple.tupleExact _)<|aV (af ⟨_,rfl,af h⟩) c)
end HT
namespace L2
open PySem PySem.Spec PyProof.Rows
abbrev TO:=St->Hp->(Option Int->Hp->Prop)->Prop
def PO(X:Cx)(e:Option Expr)(t:TO):Prop:=
 ∀a s b H Q,Inv X a b H s->t b H Q->
  wpAny (model X.prog X.w) X.A (evalPart e X.env) (λu d=>∃o c,Inv X a b c d/\IsPart u o/\Q o c) X.xe s
def aby:TO:=λ_ H Q=>Q none H
def abC(t:TE):TO:=λa H Q=>t a H λx b=>∃i,x=.int i/\Q (some i) b
section
variable{X:Cx}{e:Expr}{f:TE}{lo c:Option Expr}{j m:TO}{y z:Pos}
def WE:PO X none aby:=by intro a s b H Q I h;rw[evalPart_none];exact af ⟨none,H,I,.none,h⟩
def WG(h:PE X e f):PO X (some e) (abC f):=by intro a s d H Q I l;rw[evalPart_some];refine jh (h a s d H _ I l) λu p b=>?_;obtain⟨x,o,n,g,k⟩:=b;obtain⟨i,rfl,q⟩:=k;obtain⟨t,rfl⟩:=g;exact⟨some i,o,n,.int i t,q⟩
def qI(X:Cx)(r:V->Option Int->Option Int->Hp->VK->Prop):Prop:=
 ∀a s b H x v g d lo c h Q,Inv X a b H s->RelV x v->s.heap.IsSliceOf h g d .none->IsPart g lo->IsPart d c->r x lo c H Q->
  ∃T i,typeLookup (.type T) "__getitem__"=pure (some<|.builtin i)/\s.TypeIs v T/\wpAny (model X.prog X.w) X.A (getItem v<|.ref h) (EP X a b Q) X.xe s
def qI.or{r l:V->Option Int->Option Int->Hp->VK->Prop}(h:qI X r)(t:qI X l):qI X (λx lo c H Q=>r x lo c H Q\/l x lo c H Q):=by
 intro a s b H x v g d lo c i Q I k p o n q;rcases q with q|q;·exact h a s b H x v g d lo c i Q I k p o n q
 ·exact t a s b H x v g d lo c i Q I k p o n q
def tSl(r:V->Option Int->Option Int->Hp->VK->Prop)(f:TE)(j m:TO):TE:=λa H Q=>f a H λx g=>j a g λl d=>m a d λu b=>r x l u b Q
def Wa(J:qI X r)(M:PE X e f)(K:PO X lo j)(F:PO X c m):PE X (.Subscript e (.Slice lo c none z) y) (tSl r f j m):=by intro a s i H Q I h;refine Subscript_ (jh (M a s i H _ I h) λv t d=>?_);obtain⟨x,U,R,w,C⟩:=d;refine wpAny_Slice (jh (K a t i U _ R C) λn p d=>?_);obtain⟨l,S,P,E,B⟩:=d;refine jh (F a p i S _ P B) λk g d=>?_;obtain⟨u,o,O,D,A⟩:=d;rw[evalPart_none];refine af ?_;have N:Inv X a i o {g with heap:=g.heap.push {cls:=.type "slice",data:=.fields #[n,k,.none]}}:=O.kept (t':=g.toks) λb ob q=>ah _ q;obtain⟨T,V,hT,G,L⟩:=J a {g with heap:=g.heap.push {cls:=.type "slice",data:=.fields #[n,k,.none]}} i o x v n k l u g.heap.objs.size Q N w (Heap.IsSliceOf.new ..) E D A;show wpAny (model X.prog X.w) X.A (subscriptTail e (.Slice lo c none z) v<|.ref g.heap.objs.size) (EP X a i Q) X.xe {g with heap:=g.heap.push {cls:=.type "slice",data:=.fields #[n,k,.none]}};exact tail_any (ops:=[.ref g.heap.objs.size,v]) G hT L (by with_unfolding_all rfl)
def rA(a:List V)(lo c:Option Int):List V:=(a.drop<|HT.jK a.length 0 lo).take (HT.jK a.length a.length c - HT.jK a.length 0 lo)
def GQ(xs lo c):(rA xs lo c).length<=xs.length:=by unfold rA;rw[cD,ck];omega
def ZP(K:W.Frag):V->Option Int->Option Int->Hp->VK->Prop:=λx lo c H Q=>∃a b,x=.ref a/\mi K H a b/\
 ¬(HT.jK b.length 0 lo=0/\HT.jK b.length b.length c=b.length)/\∀p,H p=none->Q (.ref p) (upd H p<|.tup<|rA b lo c)
def aaR:qI X (ZP X.K):=by
 intro k s C H x v E D lo c F Q I p B u t h;obtain⟨a,g,rfl,w,A,q⟩:=h;cases p;obtain⟨i,r,n,l⟩:=I.tuple w;have d:i.toArray.size=g.length:=by rw[aM];exact r.length.symm
 refine⟨"tuple",_,PyProof.Rows.slot_tuple_getitem.lookup,n.typeIs,?_⟩;refine HT.P1 n B u t (by rw[d];exact A) ?_ (by rw[d];exact l);rw[d];refine⟨.ref s.heap.objs.size,_,I.laid (t':=s.toks) (o:=.tup<|rA g lo c) (λb ob q=>ah _ q) (ag _) ?_,rfl,q _<|I.hok.fresh<|ag _⟩;exact⟨aS (GQ g lo c) l,_,(r.drop<|HT.jK g.length 0 lo).take (HT.jK g.length g.length c - HT.jK g.length 0 lo),IsTup.new _ _⟩
end
def qt(n:Nat)(i:Int):Option Nat:=if 0<=i then(if i<n then some i.toNat else none)else if -(n:Int)<=i then some (i+n).toNat else none
def jY{a:Type}(b:List a)(i:Int):Option a:=(qt b.length i).bind λj=>b[j]?
def Ir{n}{i:Int}(h:qt n i=some j):seqIndex? i n=some j/\j<n/\ -(n:Int)<=i/\i<n:=by
 unfold qt at h;by_cases b:0<=i
 ·rw[av b]at h;by_cases a:i<n
  ·rw[av a]at h;have e:i.toNat=j:=Option.some.inj h;exact⟨by rw[seqIndex_of b a,e],by omega,by omega,a⟩
  ·rw[aw a]at h;cases h
 ·rw[aw b]at h;by_cases a: -(n:Int)<=i
  ·rw[av a]at h;have e:(i+n).toNat=j:=Option.some.inj h;exact⟨by rw[seqIndex_neg (by omega) a,e],by omega,a,by omega⟩
  ·rw[aw a]at h;cases h
def Ax{b:Type}{a:List b}{i:Int}{v:b}(h:jY a i=some v):∃j,seqIndex? i a.length=some j/\a[j]?=some v/\j<a.length/\ -(a.length:Int)<=i/\i<a.length:=by
 unfold jY at h;cases e:qt a.length i with
 |none=>rw[e]at h;cases h
 |some j=>rw[e]at h;obtain⟨g,f,d,c⟩:=Ir e;exact⟨j,g,h,f,d,c⟩
def ub{b:Type}{a:List b}{j:Nat}{v:b}(h:a[j]?=some v):jY a (j:Int)=some v:=by
 have c:j<a.length:=(az.mp h).1;have e:qt a.length (j:Int)=some j:=by unfold qt;rw[av<|by omega,av<|by omega];simp
 unfold jY;rw[e];exact h
def As(b:Expr):Prop:=∀o i,subscripted b false o i=operate [o,i] (getItem o i)
def qh(X:Cx)(r:R2):Prop:=
 ∀(b a:Expr) (pins:List<|Addr×Obj) (s:Shared) (σ:St) (H:Hp) (x y:V) (v u:Value) (Q:VK),Inv X pins σ H s->RelV x v->RelV y u->r x y H Q->
  subscripted a false v u=operate [v,u] (getItem v u)->wpAny (model X.prog X.w) X.A (subscriptTail b a v u) (EP X pins σ Q) X.xe s
def M4(X:Cx)(e:String)(r:V->List V->Hp->VK->Prop):Prop:=
 ∀a s b H x c v d Q,Inv X a b H s->RelV x v->Vals c d->r x c H Q->
  wpAny (model X.prog X.w) X.A (call (.builtin e)<|v::d) (EP X a b Q) X.xe s
variable{X:Cx}{a b:Expr}{Y U:TE}{P:Pos}
def qh.or{r j:R2}(h:qh X r)(l:qh X j):qh X (λx y H Q=>r x y H Q\/j x y H Q):=by
 intro c d e s f H x y v u Q I i g q k;rcases q with q|q;·exact h c d e s f H x y v u Q I i g q k
 ·exact l c d e s f H x y v u Q I i g q k
def JY(j:qh X r)(l:PE X a Y)(k:PE X b U)(i:As b):PE X (.Subscript a b P) (zC r Y U):=by intro c s d H Q I h;exact Subscript_ (AD l k I h λv u e x y n m g f q=>j a b c e d n x y v u Q m g f q<|i _ _)
def Ky(K:W.Frag):R2:=λx y H Q=>∃p c i v,x=.ref p/\y=.int i/\kP K H p c/\jY c i=some v/\Q v H
def KA(K:W.Frag):R2:=λx y H Q=>∃p c i v,x=.ref p/\y=.int i/\mi K H p c/\jY c i=some v/\Q v H
def Kz:R2:=λx y H Q=>∃z i c,x=.str z/\y=.int i/\z.length<=sizeLine/\jY z.cps.toList i=some c/\Q (.str ⟨#[c]⟩) H
def RE:qh X (Ky X.K):=by
 intro f g c s o H x y v u Q I F E h A;obtain⟨p,O,i,z,rfl,rfl,G,K,q⟩:=h;cases F;obtain⟨t,rfl⟩:=E;obtain⟨m,r,l,R⟩:=I.list G;obtain⟨j,e,N,T,M,L⟩:=Ax K;obtain⟨w,C,k⟩:=r.get N;have J:=r.length;have S:=tq;have d:EP X c o Q w s:=⟨z,H,I,k,q⟩;by_cases B:0<=i
 ·have n:i.toNat=j:=by
   rw[seqIndex_of B L]at e;exact Option.some.inj e
  exact item_listR l.isList B (by omega) (by rw[n];simpa using C) d A
 ·have n:(i+(m.toArray.size:Int)).toNat=j:=by
   rw[seqIndex_neg (by omega) M]at e;rw[aM,<-J];exact Option.some.inj e
  exact subscriptTail_builtinR (x:=w) l.isList.typeIs slot_list_getitem.lookup
   (wpAny_getItem_list_neg (Q:=λr D=>r=w/\EP X c o Q r D) l.isList (by omega) (by rw[aM]<;>omega) (by omega) (by rw[n];simpa using C) ⟨rfl,d⟩) A
def RI:qh X (KA X.K):=by
 intro d e c s k H x y v u Q I o n h B;obtain⟨p,K,i,z,rfl,rfl,C,E,q⟩:=h;cases o;obtain⟨t,rfl⟩:=n;obtain⟨A,r,l,L⟩:=I.tuple C;obtain⟨j,G,F,R,O,N⟩:=Ax E;obtain⟨w,J,f⟩:=r.get F;have D:=r.length;have M:=tq;have g:EP X c k Q w s:=⟨z,H,I,f,q⟩
 exact subscriptTail_builtinR (x:=w) l.typeIs slot_tuple_getitem.lookup
  (getItem_tuple (j:=j) (Q:=λr m=>r=w/\EP X c k Q r m) l (by omega) (by omega) (by rw[aM,<-D];exact G) (by simpa using J) ⟨rfl,g⟩) B
def RH:qh X Kz:=by
 intro d e f s C H x y v u Q I l k h m;obtain⟨z,i,c,rfl,rfl,E,o,q⟩:=h;obtain⟨t,rfl⟩:=l;obtain⟨D,rfl⟩:=k;obtain⟨j,g,w,G,r,p⟩:=Ax o;have n:z.cps.toList.length=z.length:=by simp[Str.length]
 rw[n]at g r p;have F:=tq;exact tail_any (typeIs_str s z t) slot_str_getitem.lookup (getItem_str (c:=c) (by have B:decide (i< -(2^63:Int))=false:=aG (by omega);have A:decide (i≥2^63)=false:=aG (by omega);rw[B,A,Bool.or_false]) (by rw[g];simpa using w) ⟨.str ⟨#[c]⟩,H,I.tok _,⟨_,rfl⟩,q⟩) m
def ZK(K:W.Frag):R2:=λx y H Q=>Ky K x y H Q\/KA K x y H Q\/Kz x y H Q
def RG:qh X (ZK X.K):=RE.or (RI.or RH)
def TU(c:List Value)(n j:Nat)(u):Obj.mapSeq (·.setIfInBounds j u) {cls:=.type "list",data:=.seq c.toArray n}={cls:=.type "list",data:=.seq (c.set j u).toArray n}:=by simp[Obj.mapSeq]
def Inv.lst{d:List<|Addr×Obj}{g:St}{H:Hp}{s:Shared}{p:Addr}{f:List V}(I:Inv X d g H s)(h:H p=some (.lst f)):
    ∃(c:List Value) (n:Nat),Vals f c/\s.heap.get? p=some {cls:=.type "list",data:=.seq c.toArray n}/\f.length<=sizeLine:=by
 obtain⟨z,c,n,r,e⟩:=I.hok p _ h;exact⟨c,n,r,e,z⟩
def Inv.SM{s}{d c:List Value}{n}{f:Obj->Obj}(I:Inv X pins σ H s)(h:H p=some (.lst xs))
 (i:s.heap.get? p=some {cls:=.type "list",data:=.seq d.toArray n})(hf:f {cls:=.type "list",data:=.seq d.toArray n}={cls:=.type "list",data:=.seq c.toArray n'})(r:Vals ys c)(g:ys.length<=sizeLine)(t:Nat):
   Inv X pins σ (upd H p<|.lst ys) {s with heap:=s.heap.update p f,toks:=t}:=by
  have e:(s.heap.update p f).get? p=some {cls:=.type "list",data:=.seq c.toArray n'}:=by rw[aY f i<|by rw[hf]<;>rfl,hf]
  refine I.write (x:=p) (e:=p) (by rw[h];trivial) (.inl rfl) (λb u j q=>(bK _ _<|bP j).trans q) ⟨_,e⟩ ?_;exact⟨g,c,n',r,e⟩
def ZM:V->V->V->Hp->(Hp->Prop)->Prop:=λo i v H Q=>∃p c k j,o=.ref p/\i=.int k/\H p=some (.lst c)/\qt c.length k=some j/\Q (upd H p<|.lst<|c.set j v)
def set_list:FF X ZM:=by
 intro c s A H o i v J K u Q I D E C h;obtain⟨p,B,k,j,rfl,rfl,m,G,q⟩:=h;cases D;obtain⟨t,rfl⟩:=E;obtain⟨d,n,r,f,F⟩:=I.lst m;obtain⟨e,M,x,w⟩:=Ir G;have g:=r.length;have L:=tq
 have z:Inv X c A (upd H p<|.lst<|B.set j v) {s with heap:=s.heap.update p (Obj.mapSeq (·.setIfInBounds j u))}:=
  I.SM m f (TU d n j u) (r.set C j) (by rw[aO];exact F) s.toks
 by_cases y:0<=k
 ·have l:k.toNat=j:=by
   rw[seqIndex_of y w]at e;exact Option.some.inj e
  exact W.ki_setAt f y (by omega) (by rw[aM,<-g];exact w) (by rw[l];exact⟨_,z,q⟩)
 ·have l:(k+(d.toArray.size:Int)).toNat=j:=by
   rw[seqIndex_neg (by omega) x]at e;rw[aM,<-g];exact Option.some.inj e
  exact W.ki_setBack f (by omega) (by rw[aM,<-g];exact x) (by omega) (by rw[l];exact⟨_,z,q⟩)
def aaU(lo hi n):(sliceBounds lo hi none n).1=((HT.jK n 0 lo:Nat):Int)/\(sliceBounds lo hi none n).2.1=((HT.jK n n hi:Nat):Int)/\(sliceBounds lo hi none n).2.2=1:=by
 refine⟨?_,?_,rfl⟩
 ·cases lo with
  |none=>simp[sliceBounds,HT.jK]
  |some i=>
   simp only[sliceBounds,HT.jK,Option.getD_none,show(1:Int)>0 by decide,c8];by_cases h:i<0;·simp only[h,c8]<;>omega
   ·simp only[h,bI]<;>omega
 ·cases hi with
  |none=>simp[sliceBounds,HT.jK]
  |some i=>
   simp only[sliceBounds,HT.jK,Option.getD_none,show(1:Int)>0 by decide,c8];by_cases h:i<0;·simp only[h,c8]<;>omega
   ·simp only[h,bI]<;>omega
def aaT(c:List Value)(lo hi):slicePick c.toArray lo hi none=((c.drop (HT.jK c.length 0 lo)).take (HT.jK c.length c.length hi - HT.jK c.length 0 lo)).toArray:=by obtain⟨f,e,d⟩:=aaU lo hi c.toArray.size;unfold slicePick;rw[f,e,d];simp only[sliceRange_one,pick_run,aM]<;>rfl
def ZN(K:W.Frag):V->Option Int->Option Int->Hp->VK->Prop:=λx lo d H Q=>∃a c,x=.ref a/\kP K H a c/\∀p,H p=none->Q (.ref p) (upd H p<|.lst<|rA c lo d)
def aaP:qI X (ZN X.K):=by intro f s t H x v w u lo e y Q I i p k j h;obtain⟨a,c,rfl,n,q⟩:=h;cases i;obtain⟨l,r,g,m⟩:=I.list n;have d:=r.length;refine⟨"list",_,slot_list_getitem.lookup,g.isList.typeIs,?_⟩;refine wpAny_getItem_list_slice g.isList p k j .none (by simp) ?_ (by rw[aM]<;>omega);rw[aaT,<-d];refine⟨.ref s.heap.objs.size,_,I.laid (t':=s.toks) (o:=.lst<|rA c lo e) (λb ob q=>ah _ q) (ag _) ?_,rfl,q _<|I.hok.fresh<|ag _⟩;exact⟨aS (GQ c lo e) m,_,0,(r.drop<|HT.jK c.length 0 lo).take (HT.jK c.length c.length e - HT.jK c.length 0 lo),aH _ rfl⟩
def NP:mF X (.builtin "len") (λj H Q=>∃p d,j=[.ref p]/\(kP X.K H p d\/mi X.K H p d)/\Q (.int d.length) H):=by
 intro k s n H j o Q I r h;obtain⟨p,d,rfl,e,q⟩:=h;obtain⟨u,rfl,l⟩:=vals1 r;cases l;have t:=tq;rcases e with e|e
 ·obtain⟨i,f,g,m⟩:=I.list e;have c:=f.length;exact Calls.call_len_list g.isList (by simp only[aM]<;>omega) ⟨.int d.length,H,I.tok _,⟨s.toks+1,by rw[aM,c]⟩,q⟩
 ·obtain⟨i,f,g,m⟩:=I.tuple e;have c:=f.length;exact len_tuple g (by simp only[aM]<;>omega) ⟨.int d.length,H,I.tok _,⟨s.toks+1,by rw[aM,c]⟩,q⟩
def NQ:mF X (.builtin "len") (λc H Q=>∃z,c=[.str z]/\z.length<=sizeLine/\Q (.int z.length) H):=by intro d s e H c f Q I r h;obtain⟨z,rfl,g,q⟩:=h;obtain⟨u,rfl,t,rfl⟩:=vals1 r;have i:=tq;exact len_str (by omega) ⟨.int z.length,H,I.tok _,⟨_,rfl⟩,q⟩
def mF.or{f:Value}{r i:List V->Hp->VK->Prop}(h:mF X f r)(j:mF X f i):mF X f (λd H Q=>r d H Q\/i d H Q):=by
 intro c s e H d g Q I rs q;rcases q with q|q;·exact h c s e H d g Q I rs q
 ·exact j c s e H d g Q I rs q
def NR:mF X (.type "list") (λA H Q=>∃p f,A=[.ref p]/\(kP X.K H p f\/mi X.K H p f)/\∀l,H l=none->Q (.ref l) (upd H l<|.lst f)):=by
 intro j s C H A E Q I r h;obtain⟨p,f,rfl,m,q⟩:=h;obtain⟨u,rfl,D⟩:=vals1 r;cases D
 have v:∀(c:List Value),Vals f c->f.length<=sizeLine->∀(d:Heap) (i:Nat),(∀b B,s.heap.get? b=some B->d.get? b=some B)->
  d.get? s.heap.objs.size=some {cls:=.type "list",dict:=none,data:=.seq c.toArray i,slots:=#[]}->EP X j C Q (.ref s.heap.objs.size) {s with heap:=d}:=λc g k d i kp e=>
  ⟨.ref s.heap.objs.size,_,I.laid (t':=s.toks) kp (ag _)<|show kq X.prog X.w _ d _ (.lst f)from⟨k,c,i,g,e⟩,rfl,q _<|I.hok.fresh<|ag _⟩
 rcases m with m|m
 ·obtain⟨c,g,w,k⟩:=I.list m;have t:=g.length;obtain⟨o,x,z,n,y⟩:=w.isList;exact call_list_seq p (.inl rfl) x z y (λd i kp e=>v c g k d i kp e) (by simp only[aM]<;>omega)
 ·obtain⟨c,g,w,k⟩:=I.tuple m;have t:=g.length;obtain⟨o,x,z,n,y⟩:=w;exact call_list_seq p (.inr rfl) x z y (λd i kp e=>v c g k d i kp e) (by simp only[aM]<;>omega)
def LF(K:W.Frag)(T:String)(x:V)(H:Hp):Prop:=match x with
 |.str _=>T="str"
 |.int _=>T="int"
 |.ref p=>(T="list"/\∃d,kP K H p d)\/(T="tuple"/\∃o,K.lookup p=some o/\o.cls=.type "tuple"/\o.dict=none)\/
   (T="dict"/\((∃c,H p=some (.dK c))\/∃c,H p=some (.dT c)))\/(T="set"/\∃S n,H p=some (.set S n))
 |_=>False
def ab7{s}(I:Inv X pins σ H s)(r:RelV x v)(ty:LF X.K T x H):
    s.TypeIs v T/\∀a,v=.ref a->∃ob,s.heap.get? a=some ob/\ob.dict=none:=by
 cases x with
 |str z=>obtain⟨t,rfl⟩:=r;cases(show T="str" from ty);exact⟨typeIs_str s z t,λ_ e=>nomatch e⟩
 |int i=>obtain⟨t,rfl⟩:=r;cases(show T="int" from ty);exact⟨typeIs_int s i t,λ_ e=>nomatch e⟩
 |ref p=>
  cases r;rcases ty with⟨rfl,q,l⟩|⟨rfl,o,d,m,g⟩|⟨rfl,d⟩|⟨rfl,S,n,d⟩
  ·obtain⟨k,_,j,_⟩:=I.list l;refine⟨j.isList.typeIs,λa e=>?_⟩;cases e;obtain⟨o,n,e,c,g,_⟩:=j;exact⟨o,e,g⟩
  ·refine⟨⟨o,I.lR p o d,m⟩,λa e=>?_⟩;cases e;exact⟨o,I.lR _ o d,g⟩
  ·have z:∃o,s.heap.get? p=some o/\o.ExactDict:=by
    rcases d with⟨f,d⟩|⟨f,d⟩
    ·obtain⟨_,_,_,_,o,_,_,e,ex,_⟩:=I.hok p _ d;exact⟨o,e,ex⟩
    ·obtain⟨_,_,_,_,o,_,_,e,ex,_⟩:=I.hok p _ d;exact⟨o,e,ex⟩
   obtain⟨o,e,ex⟩:=z;refine⟨⟨o,e,ex.1⟩,λa h=>?_⟩;cases h;exact⟨o,e,ex.2.1⟩
  ·obtain⟨o,_,_,_,e,ex,_⟩:=I.hok p _ d;refine⟨⟨o,e,ex.1⟩,λa h=>?_⟩;cases h;exact⟨o,e,ex.2.1⟩
 |_=>exact False.elim ty
def tBM(K:W.Frag)(T:String)(r:V->List V->Hp->VK->Prop)(to:TE)(t:TA):TE:=λc H Q=>to c H λx d=>LF K T x d/\t c d λe f=>r x e f Q
variable{o e:Expr}{O:List Expr}{to:TE}{t:TA}{L:Str}{N J:Pos}{T M:String}{r:V->List V->Hp->VK->Prop}
def JT(D:PlainAttrs T)(i:Slot T L M)(l:typeOf (.builtin M)=pure (.type "method_descriptor"))(G:M4 X M r)(F:PE X o to)(K:PA X (e::O) t)
 (g:attributeBase o L X.env (eval o X.env)=eval o X.env:=by rfl)
 (j:((backTo J (starEach (e::O) X.env)).all (λx=>!x.1)&&(backToKw J (keywordEach [] X.env)).all (λx=>x.1.isSome)
 &&decide ((e::O).length+([]:List Keyword).length+(if([]:List Keyword).isEmpty then 0 else 1)<30))=true:=by rfl)
 (f:(N.endLine==J.line)=true:=by rfl)(E:X.se e O:=by rfl)(d:(backTo J<|starEach O X.env).any (·.1)=false:=by rfl):
   PE X (.Call (.Attribute o L N) (e::O) [] J) (tBM X.K T r to t):=by
  intro c s k H Q I h;refine wpAny_Call_method_late g j f rfl (jh (F c s k H _ I h) λv z m=>?_);obtain⟨x,H1,q,n,ty,C⟩:=m;obtain⟨S,R⟩:=ab7 q n ty;refine⟨T,M,D,i,l,S,R,?_⟩;have p:=K J c z k H1 _ q C;rw[E]at p⊢;refine du (by show(false||(backTo J (starEach O X.env)).any (·.1))=false;rw[d]<;>rfl) (fy ?_);exact jh p λw y ⟨u,Z,W,A,B⟩=>G c y k Z x u v w Q W n A B
def FD(X:Cx)(M:String)(r:V->List V->Hp->VK->Prop):Prop:=
 ∀c s d H x f v g Q,Inv X c d H s->RelV x v->Vals f g->r x f H Q->
  wpAny (model X.prog X.w) X.A (call (.builtin M)<|v::g) (EP X c d Q) X.xe s
def Vals.one:∀{x} {c},Vals [x] c->∃u,c=[u]/\RelV x u:=by
 intro x c h;cases h with
 |cons r q=>cases q;exact⟨_,rfl,r⟩
variable{A:List<|Addr×Obj}{C:St}{H:Hp}{s:Shared}{l b:Addr}{B E zs:List V}
def Inv.Je{c its':List Value}{n}{f:Array Value->Array Value}{d:Nat}(I:Inv X A C H s)(j:H l=some (.lst B))
 (e:s.heap.get? l=some {cls:=.type "list",data:=.seq c.toArray n})(hf:f c.toArray=its'.toArray)(hv:Vals E its')(g:E.length<=sizeLine):
   Inv X A C (upd H l<|.lst E) {s with heap:=s.heap.update l<|Obj.mapSeq f,toks:=d}:=by
  have q:=PySem.IsL.update e f;rw[hf]at q;refine I.write (x:=l) (e:=l) (by rw[j];exact trivial) (.inl rfl) (λk u i h=>(bK s.heap (Obj.mapSeq f)<|bP i).trans h) ⟨_,q⟩ ?_;exact⟨g,its',_,hv,q⟩
def Inv.SF{t':Nat}(I:Inv X A C H s)(hv:Vals E vV)(c:E.length<=sizeLine):
    Inv X A C (upd H s.heap.objs.size<|.lst E) {s with heap:=s.heap.push {cls:=.type "list",data:=.seq vV.toArray},toks:=t'}:=
 I.laid (λ_ _ q=>ah _ q) (ag _) ⟨c,vV,0,hv,aH _ rfl⟩
def Inv.fresh(I:Inv X A C H s):H s.heap.objs.size=none:=I.hok.fresh (ag _)
def Inv.Jf(I:Inv X A C H s)(d:H l=some (.lst B)):B.length<=sizeLine/\∃(c:List Value) (n:Nat),Vals B c/\B.length=c.length/\s.heap.get? l=some {cls:=.type "list",data:=.seq c.toArray n}:=by obtain⟨z,c,n,r,e⟩:=I.hok l _ d;exact⟨z,c,n,r,r.length,e⟩
def Up{n}(h:n<=sizeLine):Builtin.List.listTooLong n=false:=by unfold Builtin.List.listTooLong;exact aG (by omega)
def ZF:V->List V->Hp->VK->Prop:=λx c H Q=>∃l B y,x=.ref l/\c=[y]/\H l=some (.lst B)/\B.length<sizeLine/\Q .non (upd H l<|.lst<|B++[y])
def Jp:FD X "list.append" ZF:=by intro A s C H x j v k Q I f g h;obtain⟨l,B,y,rfl,rfl,d,m,q⟩:=h;cases f;obtain⟨u,rfl,i⟩:=g.one;obtain⟨z,c,n,r,p,e⟩:=I.Jf d;refine call_meets bW ⟨_,e,rfl⟩ F.entry_list_append (F.args_list_append_2 _ _) (PySem.list_append l c.toArray n u (by rw[aM];omega)) ⟨e,?_⟩;refine⟨.non,_,I.Je (its':=c++[u]) d e (by simp) (r.append<|.cons i .nil) ?_,rfl,q⟩;rw[ao,cb];omega
end L2
namespace ER
open PySem PySem.W PySem.Calls PyProof.Rows
def Rk:∀(c:List Int) vs,WellAll P h vs (c.map WData.int)->IntsAre vs c:=by
 intro c;induction c with
 |nil=>intro vs w;rw[dS]at w;cases w;exact .nil
 |cons n c d=>
  intro vs w;rw[aR]at w;cases w with
  |cons a b=>cases a;exact .cons _ _ (d _ b)
def aax{l:OpenLaw}{n}(v:l.most=some n)
 (c:l.row.toRowW.claim.pre args=true)(j:WellAll P h vals args):
   ∃a m b,vals=[Value.ref a]/\args=[WData.list<|b.map WData.int]/\h.get? a=some {cls:=.type "list",data:=.seq m.toArray}/\IntsAre m b/\b.length<=n:=by
  have k:WShape.hasAll [] args [.list .int]=true:=(pre_splitW c).1;have o:l.pre.holds [] {args:=args}=true:=(pre_splitW c).2;obtain⟨d,r,rfl,y,x⟩:=hasAllW_cons k;obtain rfl:=hasAllW_nil x;obtain⟨z,rfl,w⟩:=hasW_list y;obtain⟨b,rfl⟩:=items_int w;have e:b.length<=n:=by
   unfold OpenLaw.pre at o;have i:(WTm.not<|.lt (.lit<|.int (n:Int))<|.len<|.arg 0).holds [] {args:=[.list<|b.map .int]}=true:=by have i:=(holds_andW o).1;rw[v]at i;exact i
   have g:=condW_of i (w_not<|w_lt w_lit<|w_len_list<|w_arg rfl);rw[aj]at g;refine Nat.le_of_not_lt λq=>?_;have t:(n:Int)<((b.length:Nat):Int):=by omega
   first
    |(rw[aN t]at g;exact absurd g (by decide))
    |(simp at g;omega)
  cases j with
  |cons s p=>
   cases p;cases s with
   |list u f=>exact⟨_,_,b,rfl,rfl,u,Rk b _ f,e⟩
def WH(l:OpenLaw)(args):l.row.toRowW.claim.post args (.bool true) args=true:=
 postW_of (r:=l.row.toRowW) (X:=(true==true))
  (show WShape.has [] (.bool true) .bool=true by first|rfl|decide|simp[WShape.has,WShape.arms,WShape.armsAll])
  (show(WTm.eq .res<|.lit<|.bool true).value [] {args:=args,res:=some<|.bool true,after:=args}=some (.bool<|true==true)from w_eq_bool (w_res rfl) w_lit) rfl
def Nv{l:OpenLaw}{n XP}{z:World->Heap->Prop}{d:DefRec}
 (D:l.most=some n)(s:d.params.defaults=[])
 (call:∀w (c b:Shared) mg mb fa o pm cd doc a (g:List Value) ns,
 Ground q loose [] XP w c mg mb b.heap->z w b.heap->
 b.heap.get? fa=some o->o.data=.func (docDef d.name d.params d.body d.scope pm cd doc)->b.heap.CodeRec cd d.name->mg d.name=some (.ref fa)->
 b.heap.get? a=some {cls:=.type "list",data:=.seq g.toArray}->IntsAre g ns->ns.length<=n->b.gens=#[]->
 codeAny (model l.prog w) callerA (.call (.ref fa) ⟨[.ref a],[]⟩) (λr k=>r=.ok (.ret (.bool true))/\OldK b.heap k.heap/\k.os=b.os/\AllBare k.gens) b):
  WalkO q loose XP z l.row.toRowW d [] (λf g=>PySem.call f g):=by
  intro w c b mg mb G Y fa o pm cd doc dV kV C I t x p H y u M h v A m F;obtain rfl:dV=.none:=Dflts.none x s;obtain rfl:kV=.none:=Dflts.noKw x;obtain⟨a,g,ns,rfl,rfl,i,e,j⟩:=aax D h m;refine enter_call (eF (call w c b mg mb fa o pm cd doc a g ns G Y C (fd_plain I) t p i e j H) λr k B=>?_);obtain⟨rfl,L,K,J⟩:=B;exact⟨.inl ⟨.bool true,.bool true,[],rfl,λ_=>rfl,.bool true,WH l _,λ_=>⟨List.Pairwise.nil,λ_ E=>(nomatch E)⟩⟩,L,K,J⟩
end ER
namespace L2
open PySem PySem.Spec PyProof.Rows
theorem LJ:∀{a} {b},IntsAre a b->Vals (b.map V.int) a
 |_,_,.nil=>.nil
 |_,_,.cons n t h=>.cons ⟨t,rfl⟩ (LJ h)
def inClass(s:Stmt)(j:Nat):Stmt:=match s with
 |.ClassDef _ _ _ body _ _ _ _ _ _ _=>body.getD j (.Pass ⟨0,0,0,0⟩)
 |_=>.Pass ⟨0,0,0,0⟩
def kE(s:Stmt):Arguments:=match s with
 |.FunctionDef _ a _ _ _ _ _ _ _ _=>a
 |_=>{posonlyargs:=[],args:=[],vararg:=none,kwonlyargs:=[],kw_defaults:=[],kwarg:=none,defaults:=[]}
def ko(s:Stmt):List Stmt:=match s with
 |.FunctionDef _ _ b _ _ _ _ _ _ _=>b
 |_=>[]
def jo(s:Stmt):Scope:=match s with
 |.FunctionDef _ _ _ _ _ _ sc _ _ _=>sc
 |_=>{kind:=.function,names:=[],isGenerator:=false,isCoroutine:=false}
abbrev E0:XK:=λ_ _ _=>False
structure jZ(K:W.Frag)(x qual:Str)(st:Stmt)(f:Addr)(fd:FuncData):Prop where
 ex:∃oc od kV doc pm an cdv ct osl,
  fd=W.fnOf x qual (kE st) (ko st) (jo st) .none kV doc pm an cdv ct/\K.lookup f=some ⟨oc,od,.func fd,osl⟩/\W.codeIn K cdv qual=true
 kp:W.keepIn K (.ref f)=true
variable{P:Program}{w:World}{K:W.Frag}{i:kd}{e:Heap}
def jZ.binds{x a:Str}{d:Stmt}{f:Addr}{m:FuncData}{j:List Str}(F:jZ K x a d f m)
    (h:∀(kV b k:Value) (l:Option Addr) (c ct:Value) (g:List Value),g.length=j.length->bindArgs (W.fnOf x a (kE d) (ko d) (jo d) .none kV b k l c ct) ⟨g,[]⟩=pure (j.zip g)):Binds K m j []:=by
 obtain⟨q,p,kV,b,k,l,c,ct,n,rfl,r,o⟩:=F.ex;exact .all (h kV b k l c ct)
def HE{x a:Str}{st:Stmt}{f:Addr}{n:Value}{m j:Option Addr}{g:Array<|Option Value}{kV d h b ct:Value}(l:K.lookup f=some ⟨n,m,.func<|W.fnOf x a (kE st) (ko st) (jo st) .none kV d h j b ct,g⟩)
    (c:W.codeIn K b a=true)(k:W.keepIn K (.ref f)=true):jZ K x a st f (W.fnOf x a (kE st) (ko st) (jo st) .none kV d h j b ct):=⟨⟨n,m,kV,d,h,j,b,ct,g,rfl,l,c⟩,k⟩
def rJ{A B:Prop}(h:B):if false=true then A else B:=by rw[aw ax];exact h
def rK{A B:Prop}(h:A):if true=true then A else B:=by rw[av rfl];exact h
def kO(H a:Hp):Prop:=∀b o,H b=some o->a b=some o
end L2
namespace Fx
open PySem
def G0(o:Obj)(f):(o.mapFields f).dict=o.dict:=by rcases o with⟨c,d,dt,a⟩;cases dt<;>rfl
def Dk(h:Heap)(e:Addr)(d:Option Addr):Prop:=∀b,d=some b->∃a,h.get? e=some a/\a.dict=some b
def n6(B:Heap)(l:List Env)(e:Addr)(a:Value)(d:Option Addr)(h:Heap):Prop:=
 (∃b,Heap.FlyingW B l e a b h)/\Dk h e d
def xf(B:Heap)(l:List Env)(e:Addr)(a:Value)(d:Option Addr)(L:Addr)(h:Heap):Prop:=
 (∃b,Heap.HeldW B l e a b L h)/\Dk h e d
def G3{h:Heap}{d}(c:h.get? b=some o)(l:o.data=.fields vs)(k:Dk h e d):
    Dk (h.update b<|Obj.mapFields f) e d:=by
 intro m j;obtain⟨i,a,g⟩:=k m j;by_cases q:b=e
 ·subst q;rw[c]at a;cases a;exact⟨_,aY _ c<|bN<|bo l f,by rw[G0];exact g⟩
 ·exact⟨i,by rw[bK _ _ q];exact a,g⟩
variable{M:Model}{A:Around}{E:jP}{s:Shared}{B:Heap}{a:Env}{outer l:List Env}{L e:Addr}{cls:Value}{d:Option Addr}{Q:Unit->Shared->Prop}
def Hl{more}(x:A.frames=some (a::outer))(w:s.heap.FunFrames B<|a::outer)(hf:a.frame=some L)
 (u:s.heap.get? e=some oe)(O:B.StaysIn s.heap)(J:B.get? e=none)(v:oe.data=.fields vs)(H:1<vs.size)(T:vs[0]?=some a0)(dk:Dk s.heap e d)
 (S:∀C,xf B (a::outer) e oe.cls d L C->s.heap.UpToSlots C->Q () {s with heap:=C}):
   wpAny M A (do
    let fr<-frameOf a
    let at_<-entryPlaceOf L more
    let N<-EntryCells.newEntry head fr .none (rawInt L) .none at_
    setField (.ref e) 1 N) Q E s:=by
  have ne:e∉(a::outer).filterMap (·.frame):=λz=>by obtain⟨_,V,r,D⟩:=w.mem z;rw[u]at r;cases r;exact D vs v
  refine ae (wpAny_frameOf_fun x w hf λf t=>?_);refine ae (wpAny_entryPlaceOf λc ok=>?_);unfold EntryCells.newEntry newFields;refine ae (aV ?_ (ok.sizeOk5 _ _ _ _ _));have n:f.get? e=some oe:=by rw[t.2.1 e ne];exact u
  have i:B.StaysIn f:=λb o q=>by rw[t.2.1 b λz=>by rw[(w.mem z).1]at q;cases q];exact O b o q
  generalize I:({cls:=.type "traceback",dict:=none,data:=.fields ([head,.ref L,.none,rawInt L,.none]++(if c.isEmpty then List.replicate 6 Value.none else c)).toArray}:Obj)=wH;have m:(f.push wH).get? e=some oe:=ah _ n;refine bT m v H (S _ ?_ ?_)
  all_goals
   have G:f.objs.size≠e:=dq (Heap.lt_size n);have keep:∀b o,b≠e->f.get? b=some o->((f.push wH).update e (Obj.mapFields (·.setIfInBounds 1 (Value.ref f.objs.size)))).get? b=some o:=λb o P g=>by rw[bK _ _<|bP P];exact ah _ g
   have h:∀b o,s.heap.get? b=some o->(∀K,o.data≠.fields K)->b≠e:=λb o g j z=>by subst z;rw[u]at g;cases g;exact j vs v
  ·have p:=bo v (·.setIfInBounds 1 (Value.ref f.objs.size));have k:=aY (Obj.mapFields (·.setIfInBounds 1 (Value.ref f.objs.size))) m (bN p);have y:((f.push wH).update e (Obj.mapFields (·.setIfInBounds 1 (Value.ref f.objs.size)))).get? f.objs.size=some wH:=by
    rw[bK _ _<|bP G];exact aH f (by rw[<-I];rfl)
   refine⟨⟨a0,λb o q=>keep b o (λz=>by rw[z,J]at q;cases q)<|i b o q,J,w.of_keeps λb o g j=>?_,?_⟩,λU R=>?_⟩
   ·obtain⟨F,z⟩:=t.2.2 b o g;exact⟨_,keep b _ (h b o g j) z,rfl⟩
   ·refine⟨_,_,f.objs.size,wH,_,k,⟨c9 _ _,?_⟩,p,by simp[H],i.fresh,G,y,by rw[<-I],?_⟩;·rw[eT<|by decide];exact T
    ·rcases ok with z|⟨_,_,_,_,_,_,_,z⟩<;>(rw[z];simp)
   ·obtain⟨W,r,D⟩:=dk U R;rw[u]at r;cases r;exact⟨_,k,by rw[G0];exact D⟩
  ·intro b o g j;obtain⟨F,z⟩:=t.2.2 b o g;exact⟨F,keep b _ (h b o g j) z⟩
def PB(k:A.frames=some (a::outer))(hf:a.frame=some L)(x:n6 B (a::outer) e cls d s.heap)
 (y:∀j,xf B (a::outer) e cls d L j->s.heap.UpToSlots j->Q () {s with heap:=j}):wpAny M A (noteFrame (.ref e) a) Q E s:=by
  obtain⟨⟨O,u,G,F,K,J,T,N,t,m,⟨w,D⟩,n,j,H,I,hT,f,p⟩,dk⟩:=x;subst w;unfold noteFrame;simp only[hf];refine ae (dO m n j ?_);rw[av<|by simp];refine ae (dO hT f p ?_);rw[aw<|by simp[rawInt]];refine ae (bT hT f (br.mp p).1 ?_);have c:∀b,b≠T->(s.heap.update T (Obj.mapFields (·.setIfInBounds 3 Value.none))).get? b=s.heap.get? b:=λb z=>bK _ _ (bP z);have g:∀b o,s.heap.get? b=some o->(∀r,o.data≠.fields r)->b≠T:=λb o h i z=>by subst z;rw[hT]at h;cases h;exact i t f
  refine Hl (s:={s with heap:=s.heap.update T (Obj.mapFields (·.setIfInBounds 3 Value.none))}) k (F.of_keeps λb o h i=>⟨o,by rw[c b<|g b o h i];exact h,rfl⟩) hf
   (by rw[c e<|bP I];exact m) (λb o q=>by rw[c b λz=>by rw[z,H]at q;cases q];exact u b o q) G n (br.mp j).1 D (G3 hT f dk) λC v up=>?_
  exact y C v λb o h i=>up b o (by rw[c b<|g b o h i];exact h) i
def Z3{f:Obj}{c:Array Value}{p:Value}(g:A.frames=some (a::outer))(n:s.heap.FunFrames B<|a::outer)(hf:a.frame=some L)(h:s.heap.get? e=some f)(j:B.StaysIn s.heap)
    (o:B.get? e=none)(i:f.data=.fields c)(b:c[1]?=some .none)(m:c[0]?=some p)(dk:Dk s.heap e d)
    (k:∀b,xf B (a::outer) e f.cls d L b->s.heap.UpToSlots b->Q () {s with heap:=b}):wpAny M A (noteFrame (.ref e) a) Q E s:=by
 unfold noteFrame;simp only[hf];refine ae (dO h i b ?_);rw[aw<|by decide];exact Hl g n hf h j o i (br.mp b).1 m dk k
def Ss(y:B.StaysIn s.heap)(I:B.get? e=none)(H:s.heap.FunFrames B l)(x:s.heap.TracedAtW B e cls a0 fl)(dk:Dk s.heap e d)
 (F:∀j,n6 B l e cls d j->s.heap.UpToSlots j->Q () {s with heap:=j}):wpAny M A (setFlight (.ref e) none) Q E s:=by
  obtain⟨C,w,T,J,n,p,D,r,j,t,u,hT,c,G⟩:=x;have m:3<n.size:=(br.mp G).1;unfold setFlight;refine ae (dO p r j ?_);rw[av<|by simp];refine bT hT c m (F _ ⟨⟨a0,?_⟩,G3 hT c dk⟩ ?_)
  all_goals
   have g:∀b,b≠T->(s.heap.update T (Obj.mapFields (·.setIfInBounds 3 ((none:Option Addr).elim Value.none λf=>rawInt f)))).get? b=s.heap.get? b:=λb z=>bK _ _ (bP z);have h:∀b o,s.heap.get? b=some o->(∀v,o.data≠.fields v)->b≠T:=λb o i k z=>by subst z;rw[hT]at i;cases i;exact k n c
  ·refine⟨λb o q=>by rw[g b λz=>by rw[z,t]at q;cases q];exact y b o q,I,H.of_keeps λb o i k=>⟨o,by rw[g b<|h b o i k];exact i,rfl⟩,?_⟩;exact⟨C,w,T,_,_,by rw[g e<|bP u];exact p,D,r,j,t,u,aY _ hT<|bN<|bo c _,bo c _,by simp[m]⟩
  ·exact λb o i k=>⟨o.slots,by rw[g b<|h b o i k];exact i⟩
def HZ(x:xf B l e cls d L s.heap)(g:∀b,n6 B l e cls d b->s.heap.UpToSlots b->Q () {s with heap:=b}):wpAny M A (setFlight (.ref e) none) Q E s:=by obtain⟨⟨j,f,i,h,c⟩,dk⟩:=x;exact Ss f i h c dk g
def n6.less(x:n6 B (a::outer) e cls d s.heap):n6 B outer e cls d s.heap:=by obtain⟨⟨h,c,g,⟨_,_,f⟩,b⟩,dk⟩:=x;exact⟨⟨h,c,g,f,b⟩,dk⟩
def Pz(c:A.frames=some (a::outer))(hf:a.frame=some L)(x:n6 B (a::outer) e cls d s.heap)
 (k:∀b,n6 B outer e cls d b->s.heap.UpToSlots b->Q () {s with heap:=b}):wpAny M A (leaving a<|.ref e) Q E s:=by unfold leaving;exact ae (PB c hf x λb h j=>HZ (s:={s with heap:=b}) h λf g i=>k f (n6.less (s:={s with heap:=f}) g)<|j.trans i)
def Z2{f:Obj}{c:Array Value}{w:Value}(g:A.frames=some (a::outer))(u:s.heap.FunFrames B<|a::outer)(hf:a.frame=some L)(o:s.heap.get? e=some f)(n:B.StaysIn s.heap)
    (v:B.get? e=none)(p:f.data=.fields c)(b:c[1]?=some .none)(t:c[0]?=some w)(dk:Dk s.heap e d)
    (q:∀b,n6 B outer e f.cls d b->s.heap.UpToSlots b->Q () {s with heap:=b}):wpAny M A (leaving a<|.ref e) Q E s:=by
 unfold leaving;exact ae (Z3 g u hf o n v p b t dk λr j m=>HZ (s:={s with heap:=r}) j λh i k=>q h (n6.less (s:={s with heap:=h}) i)<|m.trans k)
end Fx
set_option maxHeartbeats 4000000
namespace L2
open PySem PySem.Spec PyProof.Rows Fx
def kB(P:Program)(w:World):oG:=λa H s E e c=>
 ∃g b d h B,e=.ref g/\c.os=s.os/\AllBare c.gens/\n6 B a g b d c.heap/\
  (∀f:Heap,B.StaysIn f->c.heap.UpToSlots f->Un (frs a) [] H h s.heap f/\kA P w h f)/\h g=none/\s.heap.get? g=none/\E b d h
structure FE(X:Cx)(pins:List<|Addr×Obj)(e:Addr):Prop where
 old:X.s₀.heap.get? e=none
 pin:∀p∈X.pn++pins,p.1≠e
 loc:e≠X.env.locals
 cel:∀x c,X.env.cells.lookup x=some c->c≠e
 frm:e∉X.fs
def XP(X:Cx)(a:List<|Addr×Obj)(i:St)(R:XK)(e:Value)(f:Shared):Prop:=
 ∃c b d h B,e=.ref c/\n6 B X.stack c b d f.heap/\
  (∀g:Heap,B.StaysIn g->f.heap.UpToSlots g->Inv X a i h {f with heap:=g})/\h c=none/\FE X a c/\R b d h
section
variable{X:Cx}{a:List<|Addr×Obj}{f:St}{H:Hp}{s s':Shared}{e:Value}{E:XK}
def Inv.T9(I:Inv X a f H s)(n:s.heap.get? ea=none)(g:X.ex=[]):FE X a ea:=by
 have z:∀b o,s.heap.get? b=some o->b≠ea:=λb o q w=>by rw[w,n]at q;cases q
 refine⟨?_,λp i=>z _ _ (I.pin p i).1,λw=>?_,λx c j=>?_,λk=>?_⟩
 ·cases q:X.s₀.heap.get? ea with
  |none=>rfl
  |some o=>obtain⟨l,h⟩:=I.base.there ea o q (by rw[g];simp);rw[n]at h;cases h
 ·obtain⟨m,⟨o,_,_,d,_⟩,_⟩:=I.loc;exact z _ _ d w.symm
 ·obtain⟨v,o,d,_⟩:=I.cell x c j;exact z _ _ d
 ·obtain⟨_,o,d,_⟩:=I.oQ.mem k;exact z _ _ d rfl
def acq(I:Inv X a f H s)(h:kB X.prog X.w X.stack H s E e s')(i:X.ex=[]):XP X a f E e s':=by obtain⟨q,j,d,t,B,rfl,m,c,o,cl,p,fr,n⟩:=h;refine⟨q,j,d,t,B,rfl,o,λk r l=>?_,p,I.T9 fr i,n⟩;obtain⟨un,g⟩:=cl k r l;exact I.GA (s':={s' with heap:=k}) (ch:=[]) m un g c λb z=>absurd z (by simp)
end
def kq.there{w}(x:kq P w H h a o):∃ob,h.get? a=some ob:=by
 cases o with
 |lst c=>obtain⟨_,_,_,_,q⟩:=x;exact⟨_,q⟩
 |tup c=>obtain⟨_,_,_,ob,q,_⟩:=x;exact⟨_,q⟩
 |dK b=>obtain⟨_,_,_,_,ob,_,_,q,_⟩:=x;exact⟨_,q⟩
 |dT b=>obtain⟨_,_,_,_,ob,_,_,q,_⟩:=x;exact⟨_,q⟩
 |set S n=>obtain⟨ob,_,_,_,q,_⟩:=x;exact⟨_,q⟩
 |ins C i fs=>obtain⟨_,_,_,q,_⟩:=x;exact⟨_,q⟩
 |own y=>exact x
 |xd fs=>obtain⟨_,⟨_,_,_,q,_⟩,_⟩:=x;exact⟨_,q⟩
 |zl lo g=>obtain⟨_,_,_,q⟩:=x;exact⟨_,q⟩
 |j6 ob u=>obtain⟨q,_⟩:=x;exact⟨_,q⟩
 |lM e=>exact⟨_,(show h.get? a=some _ from x)⟩
 |met f y=>exact⟨_,(show h.get? a=some _ from x)⟩
 |ext d=>obtain⟨_,q,_⟩:=x;exact q
def kA.no{w}(x:kA P w H h)(n:h.get? a=none):H a=none:=by
 cases q:H a with
 |none=>rfl
 |some o=>obtain⟨ob,z⟩:=(x a o q).there;rw[n]at z;cases z
section
variable{P:Program}{w:World}{K:W.Frag}{r:kd}{p:Heap}{N:List Str}{c:Str}{m:Scope}{f:Addr}{M:Value}{A:Around}{outer:List Env}{s:Shared}{H:Hp}{E:XK}
def jc:Passes (kB P w) (lr (kB P w) P w K r p N c m f M A outer s H E) E:=λn C O D e l I h=>by obtain⟨q,j,d,z,B,rfl,o,cl,y,v,x⟩:=acq I h rfl;have J:=λb g a=>cl b g a;obtain⟨G,u,_⟩:=o.1;have t:=J l.heap u (Heap.UpToSlots.refl _);show wpAny _ _ (leaving _<|.ref q) _ _ l;refine Pz (outer:=outer) (L:=s.heap.objs.size) I.ok.frames rfl o λF i k=>?_;exact⟨q,j,d,z,B,rfl,t.os,t.bare,i,λb g a=>⟨(J b g<|k.trans a).base,(J b g<|k.trans a).hok⟩,y,v.old,x⟩
def Z4{d}
 (I:Inv (lr (kB P w) P w K r p N c m f M A outer s H E) pins σ H2 s2)(Y:s2.heap.get? e=some oe)(fr:s.heap.get? e=none)(Z:oe.data=.fields vs)(h1:vs[1]?=some .none)(h0:vs[0]?=some a0)
 (dk:Dk s2.heap e d)(Q:H2 e=none)(hE:E oe.cls d H2):(lr (kB P w) P w K r p N c m f M A outer s H E).xe (.ref e) s2:=by
  let X:=lr (kB P w) P w K r p N c m f M A outer s H E
  let B:=W.hideAll s2.heap (e::frs X.stack)
  have T:B.StaysIn s2.heap:=λb o q=>W.of_hideAll _ q;have fe:B.get? e=none:=W.hideAll_none _ (List.Mem.head _);have ff:s2.heap.FunFrames B X.stack:=W.funFrames_hide I.stack λF V b g=>List.Mem.tail _ (bB.mpr ⟨F,V,g⟩);show wpAny _ _ (leaving _ (.ref e)) _ _ s2;refine Z2 (B:=B) (outer:=outer) (L:=s.heap.objs.size) I.ok.frames ff rfl Y T fe Z h1 h0 dk λh3 D S=>?_;refine⟨e,oe.cls,d,H2,B,rfl,I.os,I.bare,D,λC b5 R=>?_,Q,fr,hE⟩;have up:s2.heap.UpToSlots C:=S.trans R;have keep:∀b o,s2.heap.get? b=some o->b≠e->b∉frs X.stack->C.get? b=some o:=λb o q v t=>b5 b o (W.hideAll_get _ q λz=>by
   rcases aD.mp z with z|z;· exact v z
   · exact t z)
  have h:∀b o,H2 b=some o->b≠e/\b∉frs X.stack:=λb o q=>⟨λz=>(by subst z;rw[Q]at q;cases q),λz=>(by rw[I.Eg b z]at q;cases q)⟩;have l:∀b o,s.heap.get? b=some o->b∉frs outer->b≠e/\b∉frs X.stack:=λb o q n=>⟨λz=>(by subst z;rw[fr]at q;cases q),λz=>(aD.mp (I.zx b z)).elim (λz=>absurd (Heap.lt_size q) (by rw[z];exact cH _)) (λz=>n z)⟩;have i:∀b o,s2.heap.get? b=some o->b∈frs outer->∃J,C.get? b=some {o with slots:=J}:=λb o q g=>by obtain⟨_,o2,j,U⟩:=I.oQ.mem g;rw[q]at j;cases j;exact up b o q U
  refine⟨⟨λb o q n g _=>?_,λb o q n g _=>?_,λb o q n y=>I.base.free b o q n y,λb o q y=>?_,I.base.tups,I.base.pF,I.base.q3⟩,λa o G=>?_⟩
  ·obtain⟨v,t⟩:=l b o q g;exact keep b o (I.base.keep b o q n g (by intro z;exact absurd (show b∈([]:List Addr)from z) (by simp))) v t
  ·obtain⟨J,x⟩:=I.base.slot b o q n g (by intro z;exact absurd (show b∈([]:List Addr)from z) (by simp));obtain⟨k,j⟩:=i b _ x g;exact⟨k,j⟩
  ·obtain⟨O,x⟩:=I.base.there b o q y;by_cases g:b∈frs outer
   ·obtain⟨k,j⟩:=i b _ x g;exact⟨_,j⟩
   ·obtain⟨v,t⟩:=l b o q g;exact⟨O,keep b O x v t⟩
  ·refine(I.hok a o G).stay (λb u g q=>?_) (λ_ q=>q) λ_ _ q=>q;rcases g with rfl|g;·exact keep b u q (h b _ G).1 (h b _ G).2
   ·exact keep b u q (h b _ g).1 (h b _ g).2
def Pl{K:W.Frag}(X:K.In h)(q:W.excIn K C vE newId=true):
    ∃u N y x bs g v sub B d dd t o k j i D,h.get? C=some (excClassObj y x C N bs u g v sub B d dd t o k j i newId)/\h.Ns N D/\D "__init__"=none/\OwnTail h vE u:=by
 unfold W.excIn at q;split at q
 next dd M sl ho=>
  split at q
  next C' u t o k j n i hm hs=>
   simp only[aQ,dN,f5]at q;obtain⟨⟨⟨⟨⟨rfl,rfl⟩,a⟩,F⟩,b⟩,e⟩:=q;rcases M with⟨y,bs,I,G,x,z,v,sub,B,d,L⟩;dsimp only at hm a b e;subst hm a;have J:sl=#[t,o,k,j,some (.builtin n),i]:=by rcases sl with⟨l⟩;simp only at hs;rw[hs]
   subst J;exact⟨u,G,y,x,bs,z,v,sub,B,d,dd,t,o,k,j,i,_,X _ _ ho,.of_isNs<|W.isNs_of_in X b,W.nsMap_none_of_in X b e,W.tail_of_in X F⟩
  next=>cases q
 next=>cases q
def abD(E:XK)(C:Addr):TS:=λ_ _ H=>E (.ref C) none H
def WR(l:ExcBaseFacts B newId Rg vE)(q:W.excIn K C vE newId=true)
 (v:Gl (lr (kB P w) P w K r p N c m f M A outer s H E) x)(u:r x=some (.ref C))(d:ot x):
   PS (lr (kB P w) P w K r p N c m f M A outer s H E) (.Raise (some<|.Call (.Name x np) [] [] cpos) none pos) (abD E C):=by
  intro a g n Q D I h;obtain⟨bm,NS,U,S,bs,j,R,sub,ab,L,dd,k0,Z,Y,X,V,mN,G,hN,b,k⟩:=Pl I.lR q;refine wpAny_Raise_call_subT (bm:=bm) l (mN:=mN) (k.hasType l.hasBase) (I.ok.hd rfl) rfl b (BK I v u ⟨rfl,evalArgs_empty ⟨rfl,bM _,G,hN,k,λJ e mk=>?_⟩⟩ d);obtain⟨t,F,_,_⟩:=mk.there;have O:Inv (lr (kB P w) P w K r p N c m f M A outer s H E) a n Q {g with heap:=J}:=I.kept (t':=g.toks) mk.keeps;refine Z4 O F ?_ rfl rfl rfl (by intro dx z;cases z) (I.hok.no mk.new) h;cases z:s.heap.get? e with
  |none=>rfl
  |some o=>obtain⟨T,i⟩:=I.base.there e o z (by intro y;exact absurd (show e∈([]:List Addr)from y) (by simp));rw[mk.new]at i;cases i
def jZ.JA{x c:Str}{e:Stmt}{f:Addr}{l:FuncData}{N h:List Str}{k:Nat}{g:Sp}(F:jZ K x c e f l)(S:j8 N h<|jo e)(len:∀b H Q E,g b H Q E->b.length=h.length)
    (d:∀(a:Value) (A:Around) (outer:List Env) (s:Shared) (H:Hp) (b:List V) (Q:VK) (E:XK),kL k (A.deeper (envOfC c (jo e) s.heap.objs.size f a))->g b H Q E->
      ∃t,oM (lr (kB P w) P w K r p N c (jo e) f a A outer s H E) (ko e) t/\t {nx:=λ_ v=>Q .non v,rt:=Q} (start N b) H):mG P w K r p (kB P w) (k+1) f l h g:=by
 obtain⟨B,z,kV,u,y,C,a,ct,n,rfl,o,j⟩:=F.ex;exact Hv o j S len λA outer s H b Q E q i=>d a A outer s H b Q E q i
variable{X:Cx}
def Ml(i j:Int):Prop:=Builtin.Int.intBits i<=1048576/\Builtin.Int.intBits j<=1048576
def VC:kx X (binaryOp .Mult) (rI Ml λi j=>.int<|i*j):=wg λ_ _ _ _ _ _ _ a q=>mul_int q (IntMulOk.of_le a.1 a.2<|by decide)
def ES(_ j:Int):Prop:=j≠0/\Builtin.Int.intBits j<=9000
def SI{j:Int}(h:Builtin.Int.intBits j<=9000):j.natAbs.log2<9000:=by
 by_cases z:j.natAbs=0;·rw[z];decide+kernel
 ·exact(Nat.log2_lt z).mpr (intBits_le_iff.mp h)
def Vq:kx X (binaryOp .FloorDiv) (rI ES λi j=>.int<|i.fdiv j):=wg λ_ _ _ _ _ _ _ a q=>floordiv_int a.1 q (.inl<|PyProof.noPylong_of_log2<|SI a.2)
def Vv:kx X (compareOp .Is) (λx y H Q=>∃a b,x=.bl a/\y=.bl b/\Q (.bl<|a==b) H):=by intro d s i H x y v u Q I g e h;obtain⟨a,b,rfl,rfl,q⟩:=h;cases g;cases e;exact is_bool (kr I q rfl)
def Vw:kx X (compareOp .IsNot) (λx y H Q=>∃a b,x=.bl a/\y=.bl b/\Q (.bl<|a !=b) H):=by intro d s i H x y v u Q I g e h;obtain⟨a,b,rfl,rfl,q⟩:=h;cases g;cases e;exact isnot_bool (kr I q rfl)
end
def pz(P:Program)(w:World)(K:W.Frag)(c:kd)(a:Heap)(g:oG)(k:Nat)(x:Str)(b:List Str)(e:Sp):Prop:=
 ∃f d,mG P w K c a g k f d b e/\Binds K d b []/\W.keepIn K (.ref f)=true/\c x=some (.ref f)
abbrev jD(P:Program)(w:World)(K:W.Frag)(mg:kd)(base:Heap):=pz P w K mg base (kB P w)
abbrev jL(P:Program)(w:World)(K:W.Frag)(mg:kd)(base:Heap):=mG P w K mg base (kB P w)
def CT{w}:Passes (kB P w) X E0:=λ_ _ _ _ _ _ _ h=>by obtain⟨_,_,_,_,_,_,_,_,_,_,_,_,z⟩:=h;exact z.elim
variable{X:Cx}{CX:oG}{k:Nat}{O:List Str}{T:Sp}{E:XK}{x:Str}{p U:Pos}{e:Expr}{Y:List Expr}{t:TA}
def CU(h:pz X.prog X.w X.K X.mg X.base CX k x O T)(d:kL k X.A)(g:Gl X x)(c:Passes CX X E)(i:PA X (e::Y) t)(a:X.cl x e Y U):PE X (.Call (.Name x p) (e::Y) [] U) (Lr T [] E t):=by obtain⟨f,j,F,b,kp,m⟩:=h;exact VU F d g m kp b .nil c i a
end L2
namespace Fx
open PySem
variable{e:Program}{w:World}{A:Around}{E:jP}{h:Heap}{g:Array GenState}{d:Drawn}{t:Nat}{b:OsState}
variable{m q:Str}{C N:Addr}{bs z j:List Value}{f:Bool}{l:List Str}{sub:List Value}{F:Bool}{i:Option Bool}{dd:Option Addr}{x v r p o:Option Value}{B c a:String}
abbrev rl(h:Heap)(C:Addr)(n:Str)(y:Option Value):Prop:=∀M A E g d t b (Q:Option Value->Shared->Prop),
 Q y ⟨h,g,d,t,b⟩->wpAny M A (typeLookup (.ref C) n) Q E ⟨h,g,d,t,b⟩
end Fx
namespace L2
open PySem PySem.Spec PyProof.Rows Fx
def x8(e C:Addr)(d:Option Addr):HO:=.ext λh=>∃a c,h.get? e=some a/\a.cls=.ref C/\(∀b,d=some b->a.dict=some b)/\a.data=.fields c
def Pj(K:W.Frag)(C e:Addr)(c:List Value)(a:String):Bool:=match K.lookup C with
 |some ⟨.type "type",_,.cls b,d⟩=>(match b.mro,d.toList with
  |.ref f::bm,[_,_,_,_,some (.builtin n),_]=>f==C&&n==a&&!b.hasDel&&b.hasDict&&W.tailIn K c bm&&W.nsOkIn K b.ns&&W.nsIn K b.ns "__init__"==some (some<|.ref e)
  |_,_=>false)
 |_=>false
structure ac3(K:W.Frag)(C fI:Addr)(field:Str):Prop where
 cls:Pj K C fI [.type "ValueError",.type "Exception",.type "BaseException",.type "object"] "ValueError.__new__"=true
 fn:W.isFn K (.ref fI)=true
 kp:W.keepIn K (.ref C)=true
 sa:W.findIn K (.ref C) "__setattr__"=some (some<|.builtin "object.__setattr__")
 ga:W.findIn K (.ref C) "__getattribute__"=some (some<|.builtin "BaseException.__getattribute__")
 gn:W.findIn K (.ref C) "__getattr__"=some none
 fl:W.findIn K (.ref C) field=some none
def El{K:W.Frag}{n}(X:K.In h)(e:W.findIn K (.ref C) n=some y):rl h C n y:=λM A E g d t a Q b=>(W.looks_findIn (M:=M) X e).here (s:=⟨h,g,d,t,a⟩) b
end L2
namespace P2
open PySem L2
inductive D where
 |non|bl(b:Bool)|int(i:Int)|str(x:Str)|ty(n:String)|ref(a:Addr)
 |tup(ds:List D)|lst(ds:List D)|exc(c:Addr)(ns:List Str)(ds:List D)
inductive R(α:Type) where
 |ok(a:α)|ex(c:Addr)(ns:List Str)(ds:List D)|bad
abbrev je:=List D->R D
noncomputable def R.bind{d b:Type}:R d->(d->R b)->R b
 |.ok a,f=>f a
 |.ex c ns ds,_=>.ex c ns ds
 |.bad,_=>.bad
def Gs{b a:Type}{r:R b}{g:b->R a}{y:a}(h:r.bind g=.ok y):∃x,r=.ok x/\g x=.ok y:=by
 cases r with
 |ok x=>exact⟨x,rfl,h⟩
 |ex c d e=>cases h
 |bad=>cases h
def KL(K:W.Frag)(a:Addr)(c:List V):Prop:=∃(b:List Value) (n:Nat),K.lookup a=some {cls:=.type "list",data:=.seq b.toArray n}/\b.length<=sizeLine/\Vals c b
def KL.sq(h:KL K a vs):kP K H a vs:=let⟨b,n,e,d,c⟩:=h;.inr ⟨_,b.toArray,n,e,rfl,rfl,rfl,by simpa using d,by simpa using c⟩
def KT(K:W.Frag)(a:Addr)(c:List V):Prop:=∃o b n,K.lookup a=some o/\o.cls=.type "tuple"/\o.data=.seq b n/\b.size<=sizeLine/\Vals c b.toList
def namesOf(K:W.Frag):List Str:=match K.lookup mainGlobals with
 |some ⟨_,_,.dict a _,_⟩=>a.toList.filterMap λe=>match e.key with
  |.str x _=>some x
  |_=>none
 |_=>[]
def WD(K:W.Frag)(x:Str):Bool:=match W.nsIn K mainGlobals x with
 |some (some (.ref f))=>(match K.lookup f with
  |some ⟨_,_,.func a,_⟩=>(match a.defaults,a.kwdefaults with
   |.none,.none=>true
   |_,_=>false)
  |_=>false)
 |_=>false
def mD(K:W.Frag):List (Str×Addr×Addr):=(namesOf K).filterMap λx=>if WD K x then(W.tabIn K x).map λq=>(x,q.1,q.2)else none
def lP(c:Addr)(q:Str):HO:=.ext λh=>h.CodeRec (.ref c) q
def lQ(K:W.Frag)(H:Hp):Prop:=∀t∈mD K,∃a,H t.2.2=some (.lM a)/\TriplesOk a.toList/\∀b d,codeAmong b a.toList=some d->∃c,d=.ref c/\H c=some (lP c<|t.1++".<locals>.<lambda>")
def NT(o:HO):Prop:=∀a,o≠.lM a
def oy:NT (.lst l):=λ_ h=>nomatch h
def Us:NT (.tup l):=λ_ h=>nomatch h
def Jv{u}:NT (.j6 o u):=λ_ h=>nomatch h
def yR:NT (.xd l):=λ_ h=>nomatch h
def yQ:NT (.ext φ):=λ_ h=>nomatch h
structure kO(K:W.Frag)(H H':Hp):Prop where
 at':∀b o,NT o->H b=some o->H' b=some o
 fr:∀b,H' b=none->H b=none
 tt:lQ K H->lQ K H'
def kO.refl{K:W.Frag}(H:Hp):kO K H H:=⟨λ_ _ _ h=>h,λ_ h=>h,λh=>h⟩
def kO.trans(a:kO K H H1)(b:kO K H1 H2):kO K H H2:=⟨λc o n h=>b.at' c o n<|a.at' c o n h,λc h=>a.fr c<|b.fr c h,λh=>b.tt<|a.tt h⟩
def kO.free(e:kO K H H')(h:H' l=Option.none):H l=Option.none:=e.fr l h
def lQ.off{g:Hp}(t:lQ K H)(i:∀a,H p≠some (.lM a))(j:∀q,H p≠some (lP p q))(e:∀b,b≠p->g b=H b):lQ K g:=λx h=>by obtain⟨a,d,l,k⟩:=t x h;refine⟨a,by rw[e _ λw=>i a (by rw[<-w];exact d)];exact d,l,λc o n=>?_⟩;obtain⟨r,m,f⟩:=k c o n;exact⟨r,m,by rw[e _ λw=>j _ (by rw[<-w];exact f)];exact f⟩
def yK{H:Hp}(h:H p=some (.lst l)):(∀a,H p≠some (.lM a))/\∀q,H p≠some (lP p q):=
 ⟨λa w=>(by rw[h]at w;exact nomatch w),λq w=>(by rw[h]at w;unfold lP at w;exact nomatch w)⟩
def lQ.upd(t:lQ K H)(g:∀a,H p≠some (.lM a))(h:∀q,H p≠some (lP p q)):lQ K (upd H p o):=λx f=>by obtain⟨a,c,j,i⟩:=t x f;refine⟨a,by rw[jA λw=>g a (by rw[<-w];exact c)];exact c,j,λb l e=>?_⟩;obtain⟨m,k,d⟩:=i b l e;exact⟨m,k,by rw[jA λw=>h _ (by rw[<-w];exact d)];exact d⟩
mutual
inductive Rep(K:W.Frag)(al:Addr->Prop)(H:Hp):V->D->Prop
 |non:Rep K al H .non .non
 |bl (b:Bool):Rep K al H (.bl b) (.bl b)
 |int (i:Int):Rep K al H (.int i) (.int i)
 |str (x:Str):Rep K al H (.str x) (.str x)
 |ty (n:String):Rep K al H (.ty n) (.ty n)
 |ref (a:Addr):Rep K al H (.ref a) (.ref a)
 |tup {a:Addr} {vs:List V} {ds:List D}:(al a/\H a=some (.tup vs))\/KT K a vs->i9 K al H vs ds->Rep K al H (.ref a) (.tup ds)
 |lst {a:Addr} {vs:List V} {ds:List D}:(al a/\Rd H a (.lst vs))\/KL K a vs->i9 K al H vs ds->Rep K al H (.ref a) (.lst ds)
 |exc {a c dx:Addr} {ns:List Str} {vs:List V} {ds:List D}:al a->H a=some (x8 a c<|some dx)->al dx->H dx=some (.xd<|ns.zip vs)->i9 K al H vs ds->Rep K al H (.ref a) (.exc c ns ds)
 |Ho {a c:Addr}:al a->H a=some (x8 a c none)->Rep K al H (.ref a) (.exc c [] [])
inductive i9(K:W.Frag)(al:Addr->Prop)(H:Hp):List V->List D->Prop
 |nil:i9 K al H [] []
 |cons {v:V} {d:D} {vs:List V} {ds:List D}:Rep K al H v d->i9 K al H vs ds->i9 K al H (v::vs) (d::ds)
end
def Xt(c:Addr->Prop)(H:Hp)(b:Addr->Prop)(d:Hp):Prop:=∀a o,NT o->c a->H a=some o->b a/\d a=some o
def Xt.refl{a:Addr->Prop}{H:Hp}:Xt a H a H:=λ_ _ _ h e=>⟨h,e⟩
def Xt.trans(x:Xt al H mV H1)(y:Xt mV H1 xB H2):Xt al H xB H2:=λa o n h e=>y a o n (x a o n h e).1 (x a o n h e).2
def Xt.of(s:kO K H H'):Xt al H al H':=λa o n h e=>⟨h,s.at' a o n e⟩
def Xt.sub{c b:Addr->Prop}(s:∀a,c a->b a):Xt c H b H:=λa o _ h e=>⟨s a h,e⟩
def Z5{u}(h:Xt al H nj H')(n:NT u)(z:al a/\Rd H a u):nj a/\Rd H' a u:=by
 obtain⟨b,z2|⟨o,z2⟩⟩:=z;·exact⟨(h a _ n b z2).1,.inl (h a _ n b z2).2⟩
 ·exact⟨(h a _ Jv b z2).1,.inr ⟨o,(h a _ Jv b z2).2⟩⟩
def Rep.mv(h:Xt al H nj H'){v}{d}(r:Rep K al H v d):Rep K nj H' v d:=
 Rep.rec (motive_1:=λv d _=>Rep K nj H' v d) (motive_2:=λv d _=>i9 K nj H' v d) .non .bl .int .str .ty .ref (λp _ q=>.tup (p.elim (λz=>.inl<|h _ _ Us z.1 z.2) .inr) q) (λp _ q=>.lst (p.elim (λz=>.inl<|Z5 h oy z) .inr) q)
  (λb a e c _ q=>.exc (h _ _ yQ b a).1 (h _ _ yQ b a).2 (h _ _ yR e c).1 (h _ _ yR e c).2 q) (λb a=>.Ho (h _ _ yQ b a).1 (h _ _ yQ b a).2) .nil (λ_ _ p q=>.cons p q) r
def i9.mv(h:Xt al H nj H'){v}{d}(r:i9 K al H v d):i9 K nj H' v d:=by
 induction d generalizing v with
 |nil=>cases r;exact .nil
 |cons d _ a=>
  cases r with
  |cons p q=>exact .cons (p.mv h) (a q)
section
variable{K:W.Frag}{j B:Addr->Prop}{H l:Hp}{v:V}{d:D}{c m:List V}{f A:List D}
def Rep.up(r:Rep K j H v d)(s:kO K H l):Rep K j l v d:=r.mv (.of s)
def i9.up(r:i9 K j H c f)(s:kO K H l):i9 K j l c f:=r.mv (.of s)
def i9.length(r:i9 K j H c f):c.length=f.length:=by
 induction f generalizing c with
 |nil=>cases r;rfl
 |cons d f e=>cases r with|cons a b=>rw[aq,aq,e b]
def i9.append(r:i9 K j H c f)(q:i9 K j H m A):i9 K j H (c++m) (f++A):=by
 induction f generalizing c with
 |nil=>cases r;exact q
 |cons d f e=>cases r with|cons a b=>exact .cons a (e b)
def i9.get(r:i9 K j H c f){i:Nat}{x:V}(e:c[i]?=some x):∃y,f[i]?=some y/\Rep K j H x y:=by
 induction f generalizing c i with
 |nil=>cases r;simp at e
 |cons d f g=>
  cases r with
  |cons a b=>
   cases i with
   |zero=>simp at e;subst e;exact⟨_,rfl,a⟩
   |succ i=>simpa using g b (by simpa using e)
def i9.getD(r:i9 K j H c f){i:Nat}{y:D}(e:f[i]?=some y):∃x,c[i]?=some x/\Rep K j H x y:=by
 have g:=r.length;have a:i<c.length:=by rw[g];exact(az.mp e).1
 obtain⟨z,b,q⟩:=r.get (au a);rw[e]at b;cases b;exact⟨_,au a,q⟩
def i9.drop(r:i9 K j H c f)(n):i9 K j H (c.drop n) (f.drop n):=by
 induction n generalizing c f with
 |zero=>exact r
 |succ n e=>
  cases r with
  |nil=>exact .nil
  |cons a b=>exact e b
def i9.take(r:i9 K j H c f)(n):i9 K j H (c.take n) (f.take n):=by
 induction n generalizing c f with
 |zero=>exact .nil
 |succ n e=>
  cases r with
  |nil=>exact .nil
  |cons a b=>exact .cons a (e b)
def Rep.pX(r:Rep K j H v<|.tup f):∃a c,v=.ref a/\mi K H a c/\i9 K j H c f:=by
 cases r with
 |tup p q=>exact⟨_,_,rfl,p.elim (λz=>.inl<|.inl z.2) .inr,q⟩
def Rep.oU(r:Rep K j H v<|.lst f):∃a c,v=.ref a/\kP K H a c/\i9 K j H c f:=by
 cases r with
 |lst p q=>exact⟨_,_,rfl,p.elim (λz=>.inl z.2) KL.sq,q⟩
def Rep.yJ(r:Rep K j H v<|.lst f):∃a c,v=.ref a/\(Rd H a (.lst c)\/KL K a c)/\i9 K j H c f:=by
 cases r with
 |lst p q=>exact⟨_,_,rfl,p.imp (λz=>z.2) id,q⟩
def lV(h:H p=none):kO K H (upd H p o):=⟨λb u _ q=>by rw[jA (mZ q h)];exact q,λb q=>by
    by_cases z:b=p;· rw[z];exact h
    · rw[jA z]at q;exact q,λt=>t.upd (λa w=>by rw[h]at w;cases w) λq w=>by rw[h]at w;cases w⟩
def i9.En(r:i9 K j H c f)(h:H p=none)(a:j p):Rep K j (upd H p<|.tup c) (.ref p) (.tup f):=.tup (.inl ⟨a,kv⟩) (r.up<|lV h)
def i9.rO(r:i9 K j H c f)(h:H p=none)(a:j p):Rep K j (upd H p<|.lst c) (.ref p) (.lst f):=.lst (.inl ⟨a,.inl kv⟩) (r.up<|lV h)
end
inductive Sl where
 |no|sh(d:D)|ow(ds:List D)
abbrev Ev:=List Sl
abbrev jq:=Ev->R D
structure RS(K:W.Frag)(P:Addr->Prop)(H0:Hp)(al:Addr->Prop)(H:Hp)(σ:St)(ρ:Ev):Prop where
 same:kO K H0 H
 tt:lQ K H
 fresh:∀a,H a=none->al a
 sub:∀a,al a->P a
 pf:∀a,H0 a=none->P a
 len:ρ.length=σ.length
 sh:∀(i:Nat) (d:D),ρ[i]?=some (.sh d)->∃v,σ[i]?=some (some v)/\Rep K al H v d
 ow:∀(i:Nat) (ds:List D),ρ[i]?=some (.ow ds)->∃a vs,σ[i]?=some (some<|.ref a)/\H a=some (.lst vs)/\i9 K al H vs ds/\¬al a/\H0 a=none
 apart:∀(i j:Nat) (ds OT:List D) (a:Addr),ρ[i]?=some (.ow ds)->ρ[j]?=some (.ow OT)->σ[i]?=some (some<|.ref a)->σ[j]?=some (some<|.ref a)->i=j
section
variable{K:W.Frag}{P f:Addr->Prop}{m H o:Hp}{l:St}{c:Ev}
def RS.grow(r:RS K P m f H l c)(s:kO K H o):RS K P m f o l c where
 same:=r.same.trans s
 tt:=s.tt r.tt
 fresh:=λa h=>r.fresh a (s.free h)
 sub:=r.sub
 pf:=r.pf
 len:=r.len
 sh:=λi d e=>let⟨v,a,b⟩:=r.sh i d e;⟨v,a,b.up s⟩
 ow:=λi q e=>let⟨a,g,p,n,k,j⟩:=r.ow i q e;⟨a,g,p,s.at' _ _ oy n,k.up s,j⟩
 apart:=r.apart
def RS.set(r:RS K P m f H l c){i:Nat}{v:V}{d:D}(p:i<c.length)(q:Rep K f H v d):RS K P m f H (l.set i<|some v) (c.set i<|.sh d) where
 same:=r.same
 tt:=r.tt
 fresh:=r.fresh
 sub:=r.sub
 pf:=r.pf
 len:=by rw[aO,aO];exact r.len
 sh:=λj e h=>by
  by_cases z:i=j
  ·subst z;rw[aA p]at h;cases h;exact⟨v,aA<|by rw[<-r.len];exact p,q⟩
  ·rw[ar z]at h;obtain⟨w,a,b⟩:=r.sh j e h;exact⟨w,by rw[ar z];exact a,b⟩
 ow:=λj t h=>by
  by_cases z:i=j
  ·subst z;rw[aA p]at h;cases h
  ·rw[ar z]at h;obtain⟨a,A,n,g⟩:=r.ow j t h;exact⟨a,A,by rw[ar z];exact n,g⟩
 apart:=λj k t s a n g x u=>by
  by_cases z:i=j;·subst z;rw[aA p]at n;cases n
  ·by_cases y:i=k;·subst y;rw[aA p]at g;cases g
   ·rw[ar z]at n x;rw[ar y]at g u;exact r.apart j k t s a n g x u
end
def XR(K:W.Frag)(e:Addr->Prop)(H:Hp)(f:Option Addr)(b:List Str)(c:List D):Prop:=
 match f with
 |none=>b=[]/\c=[]
 |some d=>e d/\∃a,H d=some (.xd<|b.zip a)/\i9 K e H a c
def XR.mv(h:Xt al H nj H')(r:XR K al H dx ns ds):XR K nj H' dx ns ds:=by
 cases dx with
 |none=>exact r
 |some d=>obtain⟨a,b,e,q⟩:=r;exact⟨(h _ _ yR a e).1,b,(h _ _ yR a e).2,q.mv h⟩
def Aft{d:Type}(K:W.Frag)(f:Addr->Prop)(E:XK)(H:Hp)(r:R d)(k:d->Hp->Prop):Prop:=
 match r with
 |.ok a=>∀b,kO K H b->k a b
 |.ex c ns ds=>∀e b,kO K H b->XR K f b e ns ds->E (.ref c) e b
 |.bad=>False
section
variable{e f:Type}{K:W.Frag}{b:Addr->Prop}{E:XK}{H i:Hp}{r:R e}{k h:e->Hp->Prop}
def Aft.up(a:Aft K b E H r k)(s:kO K H i):Aft K b E i r k:=by
 cases r with
 |ok x=>exact λg d=>a g (s.trans d)
 |ex c l m=>exact λj g d=>a j g (s.trans d)
 |bad=>exact a
def Aft.mono(a:Aft K b E H r k)(m:∀x d,kO K H d->k x d->h x d):Aft K b E H r h:=by
 cases r with
 |ok x=>exact λd g=>m x d g (a d g)
 |ex c j l=>exact a
 |bad=>exact a
def Aft.split{g:e->R f}{k:f->Hp->Prop}(a:Aft K b E H (r.bind g) k):Aft K b E H r (λx d=>Aft K b E d (g x) k):=by
 cases r with
 |ok x=>exact λd j=>Aft.up a j
 |ex c l m=>exact a
 |bad=>exact a
end
def DE(X:Cx)(E:XK)(e:Expr)(f:jq):Prop:=∃t:TE,PE X e t/\
 ∀P h a H b c (Q:VK),RS X.K P h a H b c->Aft X.K a E H (f c) (λd g=>∀v,Rep X.K a g v d->Q v g)->t b H Q
def DT(X:Cx)(E:XK)(e:Expr)(f:Ev->R Bool):Prop:=∃t:TT,PT X e t/\
 ∀P d c H a b (Q:Bool->Hp->Prop),RS X.K P d c H a b->Aft X.K c E H (f b) Q->t a H Q
def DW(X:Cx)(E:XK)(e:Expr)(f:Ev->R Bool):Prop:=∃t:TT,PW X e t/\
 ∀P d c H a b (Q:Bool->Hp->Prop),RS X.K P d c H a b->Aft X.K c E H (f b) Q->t a H Q
def DA(X:Cx)(E:XK)(g:List Expr)(f:Ev->R (List D)):Prop:=∃t:TA,PA X g t/\
 (∀P i c H d a (Q:List V->Hp->Prop),RS X.K P i c H d a->Aft X.K c E H (f a) (λb h=>∀e,i9 X.K c h e b->Q e h)->t d H Q)/\∀a b,f a=.ok b->b.length=g.length
def DN(X:Cx)(E:XK)(e:Expr)(f:Ev->R (List D)):Prop:=∃t:TE,PE X e t/\
 ∀P i a H c d (Q:VK),RS X.K P i a H c d->Aft X.K a E H (f d) (λh b=>∀p g,b p=none->i9 X.K a b g h->Q (.ref p) (upd b p<|.lst g))->t c H Q
def kU(X:Cx)(E:XK)(h:Value->Value->Sem Value)(g:D->D->R D):Prop:=∃r:R2,kx X h r/\
 ∀b H x y e c (Q:VK),(∀a,H a=none->b a)->Rep X.K b H x e->Rep X.K b H y c->Aft X.K b E H (g e c) (λd f=>∀v,Rep X.K b f v d->Q v f)->r x y H Q
def Al(X:Cx)(E:XK)(g:D->D->R D):Prop:=∃r:R2,qh X r/\
 ∀b H x y e c (Q:VK),(∀a,H a=none->b a)->Rep X.K b H x e->Rep X.K b H y c->Aft X.K b E H (g e c) (λd f=>∀v,Rep X.K b f v d->Q v f)->r x y H Q
def FN(X:Cx)(E:XK)(f:Value->Sem Value)(g:D->R D):Prop:=∃r:V->Hp->VK->Prop,xv X f r/\
 ∀b H x c (Q:VK),(∀a,H a=none->b a)->Rep X.K b H x c->Aft X.K b E H (g c) (λd e=>∀v,Rep X.K b e v d->Q v e)->r x H Q
def q8(X:Cx)(E:XK)(f:Value)(g:je):Prop:=∃r:List V->Hp->VK->Prop,mF X f r/\
 ∀b H c e (Q:VK),(∀a,H a=none->b a)->i9 X.K b H c e->Aft X.K b E H (g e) (λd h=>∀v,Rep X.K b h v d->Q v h)->r c H Q
noncomputable def dV(i:Nat):jq:=λa=>match a[i]? with
 |some (.sh d)=>.ok d
 |_=>.bad
noncomputable def dC(d:D):jq:=λ_=>.ok d
def d1(g:D->R D)(a:jq):jq:=λb=>(a b).bind g
def d2(g:D->D->R D)(a b:jq):jq:=λc=>(a c).bind λx=>(b c).bind λy=>g x y
abbrev iP(i:Int):jq:=dC (.int i)
abbrev jg(x:Str):jq:=dC (.str x)
def tB(d:D):R Bool:=match d with
 |.bl b=>.ok b
 |_=>.bad
def tT(d:D):R Bool:=match d with
 |.non=>.ok false
 |.bl b=>.ok b
 |.int i=>.ok (i !=0)
 |.str y=>if y.length<=sizeLine then .ok ((y.length:Int)!=0)else .bad
 |.lst ds=>.ok (!ds.isEmpty)
 |.tup ds=>.ok (!ds.isEmpty)
 |_=>.bad
def b1(t:D->R Bool)(a:jq):Ev->R Bool:=λb=>(a b).bind t
def n8(a b:Ev->R Bool):Ev->R Bool:=λd=>(a d).bind λc=>if c=true then b d else .ok false
def pD(a b:Ev->R Bool):Ev->R Bool:=λd=>(a d).bind λc=>if c=true then .ok true else b d
def qO(a:Ev->R Bool):Ev->R Bool:=λb=>(a b).bind λc=>.ok (!c)
def xN(a b:jq):jq:=λd=>((a d).bind tB).bind λc=>if c=true then b d else .ok (.bl false)
def Ou(a b:jq):jq:=λd=>((a d).bind tB).bind λc=>if c=true then .ok (.bl true)else b d
def xO(a:jq):jq:=λb=>((a b).bind tB).bind λc=>.ok (.bl<|!c)
def uf(c:Ev->R Bool)(a b:jq):jq:=λd=>(c d).bind λk=>if k=true then a d else b d
noncomputable def iU:Ev->R (List D):=λ_=>.ok []
def aa(a:jq)(r:Ev->R (List D)):Ev->R (List D):=λb=>(a b).bind λx=>(r b).bind λc=>.ok (x::c)
def dA(g:je)(a:Ev->R (List D)):jq:=λb=>(a b).bind g
def jz(a:List D):R D:=if a.length<=sizeLine then .ok (.tup a)else .bad
def jF(a:List D):R (List D):=if a.length<=sizeLine then .ok a else .bad
def jw(g:Ev->R (List D)):jq:=λa=>(g a).bind λb=>.ok (.lst b)
section
variable{X:Cx}{E:XK}{e a b c:Expr}{f m B:jq}{l:Pos}
def iO(i:Nat){x:Str}(hN:X.N[i]?=some x:=by rfl)(hv:qJ X.env.scope x:=by first|exact Or.inl rfl|exact Or.inr (Or.inl rfl)|exact Or.inr (Or.inr rfl))(k:ot x:=by decide)
    (g:(x==("__classdict__":Str))=false:=by decide):DE X E (.Name x l) (dV i):=by
 refine⟨_,wh hN hv k g,λP u t H p j Q r h=>?_⟩;unfold dV at h;cases q:j[i]? with
 |none=>rw[q]at h;exact h.elim
 |some s=>
  cases s with
  |sh d=>rw[q]at h;obtain⟨v,o,n⟩:=r.sh i d q;exact⟨v,o,h H (.refl H) v n⟩
  |no=>rw[q]at h;exact h.elim
  |ow _=>rw[q]at h;exact h.elim
def iX{i j}:DE X E (.Constant (.int i) j l) (iP i):=⟨_,V4,λ_ _ _ H _ _ _ _ h=>h H (.refl H) _<|.int i⟩
def AS{i j}:DE X E (.Constant (.bool i) j l) (dC<|.bl i):=⟨_,VS,λ_ _ _ H _ _ _ _ h=>h H (.refl H) _<|.bl i⟩
def qp{j}:DE X E (.Constant .none j l) (dC .non):=⟨_,CV,λ_ _ _ H _ _ _ _ h=>h H (.refl H) _ .non⟩
def ju{i j}:DE X E (.Constant (.str i) j l) (jg i):=⟨_,We,λ_ _ _ H _ _ _ _ h=>h H (.refl H) _<|.str i⟩
def AX{n}(i:Gl X x)(g:X.mg x=none)(hv:bootBuiltins x=some (.type n))(d:x≠"__name__")(j:ot x):DE X E (.Name x l) (dC<|.ty n):=
 ⟨_,VT (v:=.ty n) i g hv rfl d j,λ_ _ k H _ _ _ _ h=>h H (.refl H) _<|.ty n⟩
def jt{g}(z:kU X E (binaryOp op) g)(C:DE X E a m)(A:DE X E b B):DE X E (.BinOp a op b l) (d2 g m B):=by obtain⟨r,o,n⟩:=z;obtain⟨K,w,q⟩:=C;obtain⟨J,t,p⟩:=A;refine⟨_,J1 o w t,λP O L H G I Q s h=>q _ _ _ _ _ _ _ s<|Aft.mono (Aft.split h) λx N i F v j=>p _ _ _ _ _ _ _ (s.grow i)<|Aft.mono (Aft.split F) λy M d D u k=>?_⟩;exact n _ _ _ _ _ _ _ ((s.grow i).grow d).fresh (j.up d) k D
def OF{g}(p:FN X E (unaryOp op) g)(q:DE X E a m):DE X E (.UnaryOp op a l) (d1 g m):=by obtain⟨r,k,j⟩:=p;obtain⟨y,o,n⟩:=q;exact⟨_,Wg k o,λP C z H u w Q s h=>n _ _ _ _ _ _ _ s<|Aft.mono (Aft.split h) λx A d t v i=>j _ _ _ _ _ (s.grow d).fresh i t⟩
def AV{g}(z:kU X E (compareOp op) g)(D:DE X E a m)(C:DE X E b B)(A:behindInMarks op b=false):DE X E (.Compare a [op] [b] l) (d2 g m B):=by obtain⟨r,o,n⟩:=z;obtain⟨L,w,q⟩:=D;obtain⟨K,t,p⟩:=C;refine⟨_,JV o w t A,λP R M H I J Q s h=>q _ _ _ _ _ _ _ s<|Aft.mono (Aft.split h) λx O i G v j=>p _ _ _ _ _ _ _ (s.grow i)<|Aft.mono (Aft.split G) λy N d F u k=>?_⟩;exact n _ _ _ _ _ _ _ ((s.grow i).grow d).fresh (j.up d) k F
def uM{d k}(r:Rep K al H v d)(h:Aft K al E H (tB d) k):∃c,v=.bl c/\k c H:=by
 cases r with
 |bl b=>exact⟨b,rfl,h H<|.refl H⟩
 |_=>exact(h:False).elim
def jW{g}(G:kU X E (compareOp op) g)(K:DE X E a m)(J:DE X E b B)(I:behindInMarks op b=false:=by first|exact m5 _|with_unfolding_all rfl):DT X E (.Compare a [op] [b] l) (b1 tB<|d2 g m B):=by
 obtain⟨r,z,t⟩:=G;obtain⟨U,F,C⟩:=K;obtain⟨T,D,A⟩:=J;refine⟨_,zd z F D I,λP Z O H R S Q s h=>C _ _ _ _ _ _ _ s<|Aft.mono (Aft.split<|Aft.split h) λx Y n N v p=>?_⟩;refine A _ _ _ _ _ _ _ (s.grow n) (Aft.mono (Aft.split (g:=λy=>g x y) (k:=λd o=>Aft X.K O E o (tB d) Q) ?_) λy o j M u q=>?_);·exact N
 ·exact t _ _ _ _ _ _ _ ((s.grow n).grow j).fresh (p.up j) q (Aft.mono M λd W V L w i=>uM i L)
def zj{d k}(r:Rep K al H v d)(h:Aft K al E H (tT d) k):∃c,vk K v H c/\k c H:=by
 cases r with
 |non=>exact⟨_,rfl,h H<|.refl H⟩
 |bl b=>exact⟨_,rfl,h H<|.refl H⟩
 |int b=>exact⟨_,rfl,h H<|.refl H⟩
 |str b=>
  unfold tT at h;by_cases z:b.length<=sizeLine
  ·simp only[z,c8]at h;exact⟨_,⟨z,rfl⟩,h H<|.refl H⟩
  ·simp only[z,bI]at h;exact h.elim
 |tup p q=>refine⟨_,.inr<|.inl ⟨_,p.elim (λz=>.inl<|.inl z.2) .inr,?_⟩,h H<|.refl H⟩;cases q<;>rfl
 |lst p q=>refine⟨_,.inl ⟨_,p.elim (λz=>.inl z.2) KL.sq,?_⟩,h H<|.refl H⟩;cases q<;>rfl
 |_=>exact(h:False).elim
def A4(n:DE X E e m)(k:∀d,isTrue e X.env d=(do let v<-d;standAt e.pos;holding [v] (truthy v))):DT X E e (b1 tT m):=by obtain⟨r,j,i⟩:=n;exact⟨_,Ko j k,λP y u H p q Q s h=>i _ _ _ _ _ _ _ s<|Aft.mono (Aft.split h) λx w t o v g=>zj g o⟩
variable{A C:Ev->R Bool}{rest:List Expr}
def DW.dt(h:DW X E e A):DT X E e A:=let⟨t,p,r⟩:=h;⟨t,p.pt,r⟩
def xV(h:DT X E a A):DW X E (.BoolOp .And [a] l) A:=let⟨t,p,r⟩:=h;⟨t,Kr p,r⟩
def A5(h:DT X E a A):DW X E (.BoolOp .Or [a] l) A:=let⟨t,p,r⟩:=h;⟨t,W4 p,r⟩
def xU(q:DT X E a A)(p:DW X E (.BoolOp .And (b::rest) l) C):DW X E (.BoolOp .And (a::b::rest) l) (n8 A C):=by
 obtain⟨v,o,k⟩:=q;obtain⟨u,n,j⟩:=p;refine⟨_,Kq o n,λP x w H r t Q s h=>k _ _ _ _ _ _ _ s<|Aft.mono (Aft.split h) λc g i d=>?_⟩;cases c with
 |true=>exact rK (j _ _ _ _ _ _ _ (s.grow i) d)
 |false=>exact rJ (d g<|.refl g)
def xW(q:DT X E a A)(p:DW X E (.BoolOp .Or (b::rest) l) C):DW X E (.BoolOp .Or (a::b::rest) l) (pD A C):=by
 obtain⟨v,o,k⟩:=q;obtain⟨u,n,j⟩:=p;refine⟨_,W2 o n,λP x w H r t Q s h=>k _ _ _ _ _ _ _ s<|Aft.mono (Aft.split h) λc g i d=>?_⟩;cases c with
 |true=>exact rK (d g<|.refl g)
 |false=>exact rJ (j _ _ _ _ _ _ _ (s.grow i) d)
def A2(j:DT X E a A):DT X E (.UnaryOp .Not a l) (qO A):=by obtain⟨p,i,g⟩:=j;exact⟨_,WW i,λP t r H n o Q s h=>g _ _ _ _ _ _ _ s<|Aft.mono (Aft.split h) λc d q k=>k d<|.refl d⟩
def OE(h:DE X E a m):DE X E (.BoolOp op [a] l) m:=let⟨t,p,r⟩:=h;⟨t,V8 p,r⟩
def OC(r:DE X E a m)(q:DE X E (.BoolOp .And (b::rest) l) B):DE X E (.BoolOp .And (a::b::rest) l) (xN m B):=by
 obtain⟨z,p,n⟩:=r;obtain⟨y,o,k⟩:=q;refine⟨_,VQ p o,λP F D H u w Q s h=>n _ _ _ _ _ _ _ s<|Aft.mono (Aft.split<|Aft.split h) λx g i t v j=>?_⟩;obtain⟨c,e,d⟩:=uM j t;refine⟨c,e,?_⟩;cases c with
 |true=>exact rK (k _ _ _ _ _ _ _ (s.grow i) d)
 |false=>exact rJ (d g (.refl g) _<|.bl false)
def OD(k:DE X E a m):DE X E (.UnaryOp .Not a l) (xO m):=by obtain⟨r,j,i⟩:=k;refine⟨_,JZ j,λP w u H p q Q s h=>i _ _ _ _ _ _ _ s<|Aft.mono (Aft.split<|Aft.split h) λx d t o v g=>?_⟩;obtain⟨c,e,n⟩:=uM g o;exact⟨c,e,n d (.refl d) _<|.bl _⟩
def GU(q:DT X E c A)(t:DE X E a m)(r:DE X E b B):DE X E (.IfExp c a b l) (uf A m B):=by
 obtain⟨w,n,i⟩:=q;obtain⟨y,p,k⟩:=t;obtain⟨x,o,j⟩:=r;refine⟨_,V3 n p o,λP F z H u v Q s h=>i _ _ _ _ _ _ _ s<|Aft.mono (Aft.split h) λc D d g=>?_⟩;cases c with
 |true=>exact rK (k _ _ _ _ _ _ _ (s.grow d) g)
 |false=>exact rJ (j _ _ _ _ _ _ _ (s.grow d) g)
variable{o:List Expr}{fs:Ev->R (List D)}
def i8:DA X E [] iU:=⟨_,rT,λ_ _ _ H _ _ _ _ h=>h H (.refl H) _ .nil,λ_ _ h=>by cases h;rfl⟩
def iR(J:DE X E e m)(I:DA X E o fs)(G:X.se e o:=by rfl):DA X E (e::o) (aa m fs):=by
 obtain⟨N,z,t⟩:=J;obtain⟨M,w,r,F⟩:=I;refine⟨_,rS z w G,λP U S H L i Q s h=>t _ _ _ _ _ _ _ s<|Aft.mono (Aft.split h) λx T n g v p=>r _ _ _ _ _ _ _ (s.grow n)<|Aft.mono (Aft.split g) λy j k d u q=>?_,λi O h=>?_⟩;·exact d j (.refl j) _ (.cons (p.up k) q)
 ·obtain⟨x,_,g⟩:=Gs h;obtain⟨y,d,K⟩:=Gs g;cases K;rw[aq,aq,F i y d]
def kQ{j}(r:DA X E o fs):DE X E (.Tuple o j l) (dA jz fs):=by
 obtain⟨w,q,n,_⟩:=r;refine⟨_,CW q,λP G y H t u Q s h=>n _ _ _ _ _ _ _ s<|Aft.mono (Aft.split h) λx F k d v i=>?_⟩;unfold jz at d;by_cases z:x.length<=sizeLine
 ·rw[av z]at d;exact⟨by rw[i.length];exact z,λp g=>d _ (lV g) _<|i.En g<|(s.grow k).fresh p g⟩
 ·rw[aw z]at d;exact d.elim
def kl(r:DA X E o fs):DN X E (.List o l) (λg=>(fs g).bind jF):=by
 obtain⟨u,n,k,_⟩:=r;refine⟨_,V5 n,λP F y H t g Q s h=>k _ _ _ _ _ _ _ s<|Aft.mono (Aft.split h) λx j w d v i=>?_⟩;unfold jF at d;by_cases z:x.length<=sizeLine
 ·rw[av z]at d;exact⟨by rw[i.length];exact z,λp q=>d j (.refl j) p v q i⟩
 ·rw[aw z]at d;exact d.elim
def DN.de{g}(h:DN X E e g):DE X E e (jw g):=by obtain⟨t,p,r⟩:=h;exact⟨t,p,λP y v H n q Q s h=>r _ _ _ _ _ _ _ s<|Aft.mono (Aft.split h) λx w i k p u d j=>k _ (lV d) _<|j.rO d<|(s.grow i).fresh p d⟩
def mJ{g}(G:Al X E g)(J:DE X E a m)(I:DE X E b B)(F:As b:=by exact λ_ _=>rfl):DE X E (.Subscript a b l) (d2 g m B):=by obtain⟨r,p,n⟩:=G;obtain⟨S,z,t⟩:=J;obtain⟨O,w,q⟩:=I;refine⟨_,JY p z w F,λP W T H M N Q s h=>t _ _ _ _ _ _ _ s<|Aft.mono (Aft.split h) λx V i L v j=>q _ _ _ _ _ _ _ (s.grow i)<|Aft.mono (Aft.split L) λy U d K u k=>?_⟩;exact n _ _ _ _ _ _ _ ((s.grow i).grow d).fresh (j.up d) k K
variable{x:Str}{p:Pos}
def nk{i:String}{g:je}(F:q8 X E (.builtin i) g)(z:Gl X x)(y:X.mg x=none)(hv:bootBuiltins x=some (.builtin i))(G:DA X E (e::o) fs)(w:x≠"__name__":=by decide)(d:X.cl x e o l:=by exact⟨by decide,rfl,rfl⟩):DE X E (.Call (.Name x p) (e::o) [] l) (dA g fs):=by obtain⟨r,q,n⟩:=F;obtain⟨L,u,t,_⟩:=G;exact⟨_,VV q z y hv u w d,λP O M H J K Q s h=>t _ _ _ _ _ _ _ s<|Aft.mono (Aft.split h) λx N j I v k=>n _ _ _ _ _ (s.grow j).fresh k I⟩
def AU{g}(z:q8 X E (.type T) g)(y:Gl X x)(w:X.mg x=none)(hv:bootBuiltins x=some (.type T))(F:DA X E (e::o) fs)(u:x≠"__name__")(d:X.cl x e o l):DE X E (.Call (.Name x p) (e::o) [] l) (dA g fs):=by obtain⟨r,n,k⟩:=z;obtain⟨K,t,q,_⟩:=F;exact⟨_,JU n y w hv t u d,λP N L H I J Q s h=>q _ _ _ _ _ _ _ s<|Aft.mono (Aft.split h) λx M i G v j=>k _ _ _ _ _ (s.grow i).fresh j G⟩
def j4(n:Nat)(K:W.Frag)(F:je):Sp:=λh H Q E=>h.length=n/\lQ K H/\∃g i,(∀a,H a=none->g a)/\i9 K g H h i/\Aft K g E H (F i) (λd j=>∀v,Rep K g j v d->Q v j)
variable{k n:Nat}{I:List Str}{F:je}
def l6(G:pz X.prog X.w X.K X.mg X.base (kB X.prog X.w) k x I<|j4 n X.K F)(y:kL k X.A)(J:Gl X x)(w:Passes (kB X.prog X.w) X E)(z:(e::o).length=n)(K:DA X E (e::o) fs)(g:X.cl x e o l:=by exact⟨by decide,rfl,rfl⟩):DE X E (.Call (.Name x p) (e::o) [] l) (dA F fs):=by
 obtain⟨O,u,t,v⟩:=K;refine⟨_,CU G y J w u g,λP U L H M j Q s h=>t _ _ _ _ _ _ _ s ?_⟩;unfold dA at h;cases q:fs j with
 |ok i=>rw[q]at h;intro T d N r;rw[bf];exact⟨by rw[r.length,v j i q];exact z,(s.grow d).tt,L,i,(s.grow d).fresh,r,Aft.up h d⟩
 |ex c S i=>rw[q]at h;exact h
 |bad=>rw[q]at h;exact h.elim
end
inductive RT where
 |nx(ρ:Ev)|rt(d:D)|bk(ρ:Ev)|ct(ρ:Ev)|ex(c:Addr)(ns:List Str)(ds:List D)|bad
abbrev jO:=Ev->RT
noncomputable def toS{b:Type}(r:R b)(k:b->RT):RT:=match r with
 |.ok a=>k a
 |.ex c ns ds=>.ex c ns ds
 |.bad=>.bad
def rX(r:RT)(k:jO):RT:=match r with
 |.nx a=>k a
 |r=>r
def kX(K:W.Frag)(P:Addr->Prop)(g:Hp)(E:XK)(D:Ends)(h:Addr->Prop)(H:Hp):RT->Prop
 |.nx f=>∀e a b,Xt h H e a->RS K P g e a b f->D.nx b a
 |.bk f=>∀e a b,Xt h H e a->RS K P g e a b f->D.bk b a
 |.ct f=>∀e a b,Xt h H e a->RS K P g e a b f->D.ct b a
 |.rt d=>∀v a,kO K g a->Rep K P a v d->D.rt v a
 |.ex c ns ds=>∀i a,kO K g a->XR K P a i ns ds->E (.ref c) i a
 |.bad=>False
section
variable{K:W.Frag}{P A l:Addr->Prop}{o H B:Hp}{E:XK}{D:Ends}{s:RT}{C:St}{j:Ev}
def kX.ext(h:kX K P o E D A H s)(x:Xt A H l B):kX K P o E D l B s:=by
 cases s with
 |nx j=>exact λa e b y r=>h a e b (x.trans y) r
 |bk j=>exact λa e b y r=>h a e b (x.trans y) r
 |ct j=>exact λa e b y r=>h a e b (x.trans y) r
 |rt d=>exact h
 |ex c f g=>exact h
 |bad=>exact h
def kX.rP{d:Type}{r:R d}{k:d->RT}(h:kX K P o E D A H<|toS r k)(s:RS K P o A H C j):Aft K A E H r (λx a=>kX K P o E D A a<|k x):=by
 cases r with
 |ok x=>exact λa b=>kX.ext h (.of b)
 |ex c f g=>exact λe a b q=>h e a (s.same.trans b) (q.mv<|.sub s.sub)
 |bad=>exact h
def DS(X:Cx)(E:XK)(a:Stmt)(g:jO):Prop:=∃t:TS,PS X a t/\
 ∀P o A H C j (D:Ends),RS X.K P o A H C j->kX X.K P o E D A H (g j)->t D C H
def pw(X:Cx)(E:XK)(a:List Stmt)(g:jO):Prop:=∃t:TS,oM X a t/\
 ∀P o A H C j (D:Ends),RS X.K P o A H C j->kX X.K P o E D A H (g j)->t D C H
def pR:jO:=.nx
def kf(a b:jO):jO:=λj=>rX (a j) b
def aai(f:jq):jO:=λj=>toS (f j) λ_=>.nx j
def kZ(f:jq):jO:=λj=>toS (f j) .rt
def lz(i:Nat)(f:jq):jO:=λj=>toS (f j) λd=>if i<j.length then .nx (j.set i<|.sh d)else .bad
def pQ(c:Ev->R Bool)(a b:jO):jO:=λj=>toS (c j) λk=>if k=true then a j else b j
variable{X:Cx}{I:Stmt}{rest O M:List Stmt}{g u Q J:jO}{e c:Expr}{f:jq}{L:Ev->R Bool}{F:Pos}
def sX:pw X E [] pR:=⟨_,Km,λ_ _ A H C j _ s h=>h A H C .refl s⟩
def lD(h:DS X E I g):pw X E [I] g:=let⟨t,p,r⟩:=h;⟨t,Kn p,r⟩
def kW(t:DS X E I g)(r:pw X E rest u):pw X E (I::rest) (kf g u):=by
 obtain⟨w,p,m⟩:=t;obtain⟨v,n,k⟩:=r;refine⟨_,Kl p n,λP o A H C j D s h=>m P o A H C j _ s ?_⟩;unfold kf at h;cases q:g j with
 |nx a=>rw[q]at h;exact λl B b x i=>k P o l B b a D i (kX.ext h x)
 |bk a=>rw[q]at h;exact h
 |ct a=>rw[q]at h;exact h
 |rt d=>rw[q]at h;exact h
 |ex c y z=>rw[q]at h;exact h
 |bad=>rw[q]at h;exact h
def mw(i:DE X E e f):DS X E (.Return (some e) F) (kZ f):=by obtain⟨t,p,r⟩:=i;exact⟨_,Kk p,λP o A H C j D s h=>r _ _ _ _ _ _ _ s<|Aft.mono (kX.rP h s) λd m a k v b=>k v m (s.same.trans a)<|b.mv<|.sub s.sub⟩
def nL(i)(hN:X.N.Nodup)(q:X.N[i]?=some x)(m:Loc X.env.scope x)(w:DE X E e f)(n:swapsWith e (some<|.Name x pos') F.line X.env=pure false:=by rfl)(hf:X.hf x:=by first|exact .inl rfl|exact .inr rfl|assumption):
    DS X E (.Assign [.Name x pos'] e F) (lz i f):=by
 obtain⟨t,p,r⟩:=w;refine⟨_,C0 hN q m p n hf,λP o A H C j D s h=>r _ _ _ _ _ _ _ s<|Aft.mono (kX.rP h s) λd y b a v k=>?_⟩;by_cases z:i<j.length
 ·simp only[z,c8]at a;exact a A y _ .refl ((s.grow b).set z k)
 ·simp only[z,bI]at a;exact a.elim
def sW(r:DT X E c L)(v:pw X E O Q)(t:pw X E M J):DS X E (.If c O M F) (pQ L Q J):=by
 obtain⟨w,n,d⟩:=r;obtain⟨y,q,m⟩:=v;obtain⟨x,p,i⟩:=t;refine⟨_,Kj n q p,λP o A H C j D s h=>d _ _ _ _ _ _ _ s<|Aft.mono (kX.rP h s) λk z a b=>?_⟩;cases k with
 |true=>exact rK (m _ _ _ _ _ _ _ (s.grow a) b)
 |false=>exact rJ (i _ _ _ _ _ _ _ (s.grow a) b)
def turnT(r:RT)(k:jO):RT:=match r with
 |.nx j=>k j
 |.ct j=>k j
 |.bk j=>.nx j
 |r=>r
def o9(c:Ev->R Bool)(b:jO):Nat->jO
 |0,_=>.bad
 |n+1,j=>toS (c j) λk=>if k=true then turnT (b j) (o9 c b n)else .nx j
def LC{K:W.Frag}{P A:Addr->Prop}{o H:Hp}{D:Ends}{r:RT}{k:jO}{N:St->Hp->Prop}(h:kX K P o E D A H<|turnT r k)
    (hN:∀l B a b,Xt A H l B->RS K P o l B a b->kX K P o E D l B (k b)->N a B):kX K P o E {D with nx:=N,ct:=N,bk:=D.nx} A H r:=by
 cases r with
 |nx j=>exact λl B a x s=>hN l B a j x s (kX.ext h x)
 |ct j=>exact λl B a x s=>hN l B a j x s (kX.ext h x)
 |bk j=>exact h
 |rt d=>exact h
 |ex c i m=>exact h
 |bad=>exact h
def Ha(n)(T:PassesOwn (model X.prog X.w) X.A X.env X.xe)(U:DT X E c L)(V:pw X E M J):DS X E (.While c M [] F) (o9 L J n):=by
 obtain⟨tc,N,y⟩:=U;obtain⟨tb,S,G⟩:=V;refine⟨_,WT T N S,λP o A H C j D s h=>⟨λm d r=>∃a b,RS X.K P o a r d b/\kX X.K P o E D a r (o9 L J m b),⟨n,A,j,s,h⟩,?_⟩⟩
 rintro m d r ⟨a,b,p,w⟩
 cases m with
 |zero=>exact w.elim
 |succ m=>
  refine y _ _ _ _ _ _ _ p (Aft.mono (kX.rP w p) λk Z t v=>?_);cases k with
  |true=>refine rK ⟨λi B=>∃a b,RS X.K P o a B i b/\kX X.K P o E D a B (o9 L J m b),λi B z=>⟨m,bU m,z⟩,G _ _ _ _ _ _ _ (p.grow t)<|LC (k:=o9 L J m) v λl B i q _ x Y=>⟨l,q,x,Y⟩⟩
  |false=>exact rJ (v a Z d .refl<|p.grow t)
end
def Wk(K:W.Frag)(g:Addr->Prop)(H:Hp)(J:It)(f:List D):Prop:=∀b c,Xt g H b c->(∀a,c a=none->b a)->
 (∀i d,f[i]?=some d->J.go i c/\∀x e,J.wM i c x e->e=c/\Rep K b c x d)/\∀i,f.length<=i->J.stop i c
def DI(X:Cx)(E:XK)(h a:Expr)(f:Ev->R (List D)):Prop:=∃e:TI,PI X h a e/\
 ∀P j b H c d (R:It->Hp->Prop),RS X.K P j b H c d->Aft X.K b E H (f d) (λi g=>∀J,Wk X.K b g J i->R J g)->e c H R
def Kp(l:List Nat)(b a:St):Prop:=a.length=b.length/\∀j,j∉l->a[j]?=b[j]?
def DG(X:Cx)(j:Expr)(l:List Nat)(a:D->Ev->Option Ev):Prop:=∃g:TG,PG X j g/\
 ∀P i f H e h v d (Q:St->Hp->Prop),RS X.K P i f H e h->Rep X.K f H v d->(∃c,a d h=some c/\∀b,Kp l e b->RS X.K P i f H b c->Q b H)->g v e H Q
def wY(X:Cx)(j:List Expr)(l:List Nat)(a:List D->Ev->Option Ev):Prop:=∃g:tY,vi X j g/\
 ∀P i f H e h v d (Q:St->Hp->Prop),RS X.K P i f H e h->i9 X.K f H v d->(∃c,a d h=some c/\∀b,Kp l e b->RS X.K P i f H b c->Q b H)->g v e H Q
def gV(i:Nat):D->Ev->Option Ev:=λd a=>if i<a.length then some (a.set i<|.sh d)else none
def gN:List D->Ev->Option Ev:=λb a=>match b with
 |[]=>some a
 |_=>none
def gC(a:D->Ev->Option Ev)(b:List D->Ev->Option Ev):List D->Ev->Option Ev:=λe c=>match e with
 |d::r=>(a d c).bind (b r)
 |[]=>none
def gT(n:Nat)(a:List D->Ev->Option Ev):D->Ev->Option Ev:=λd b=>match d with
 |.tup ds=>if ds.length=n then a ds b else none
 |_=>none
def toO{b:Type}(r:Option b)(k:b->RT):RT:=match r with
 |some a=>k a
 |none=>.bad
def oh(a:D->Ev->Option Ev)(b:jO):List D->jO
 |[],e=>.nx e
 |d::r,e=>toO (a d e) λc=>turnT (b c) (oh a b r)
section
variable{X:Cx}{E:XK}{T C:Expr}{B:List Stmt}{O:Ev->R (List D)}{a:D->Ev->Option Ev}{L:jO}{I:Pos}
def uN(O:Ev->R (List D))(a:D->Ev->Option Ev)(L:jO):jO:=λb=>toS (O b) λc=>oh a L c b
def nq(i:Nat){x:Str}(hN:X.N.Nodup)(l:X.N[i]?=some x)(g:Loc X.env.scope x)(hf:X.hf x:=by first|exact .inl rfl|exact .inr rfl|assumption):DG X (.Name x I) [i] (gV i):=by
 refine⟨_,y6 hN l g hf,λP o n H m c v d Q s f h=>?_⟩;obtain⟨b,e,q⟩:=h;unfold gV at e;by_cases z:i<c.length
 ·rw[av z]at e;cases e;exact q _ ⟨aO ..,λj k=>ar<|λw=>k<|by simp[w]⟩ (s.set z f)
 ·rw[aw z]at e;cases e
def OH:wY X [] [] gN:=by
 refine⟨_,Wn,λP j i H f g v d Q s c h=>?_⟩;obtain⟨b,e,q⟩:=h;cases c with
 |nil=>cases e;exact⟨rfl,q _ ⟨rfl,λ_ _=>rfl⟩ s⟩
 |cons _ _=>cases e
def GZ{u}(G:DG X e l1 a)(F:wY X es l2 u)(A:(assignEach (e::es) X.env).map (·.2)=assign e X.env::(assignEach es X.env).map (·.2)):wY X (e::es) (l1++l2) (gC a u):=by
 obtain⟨U,z,x⟩:=G;obtain⟨S,y,t⟩:=F;refine⟨_,Wm z y A,λP W V H M N v d Q s o h=>?_⟩;obtain⟨f,e,q⟩:=h;cases o with
 |nil=>cases e
 |cons r p=>obtain⟨c,K,J⟩:=aL.mp e;exact⟨_,_,rfl,x _ _ _ _ _ _ _ _ _ s r ⟨c,K,λl i n=>t _ _ _ _ _ _ _ _ _ n p ⟨f,J,λb g m=>q b ⟨g.1.trans i.1,λj k=>(g.2 j λw=>k<|bA _ w).trans (i.2 j λw=>k<|c5 _ w)⟩ m⟩⟩⟩
def OG{k n u}(p:X.calm=true)(h:wY X es l u)(o:(assignEach es X.env).length=n)(c:(assignEach es X.env).findIdx? (·.1)=none):DG X (.Tuple es k I) l (gT n u):=by
 obtain⟨A,m,j⟩:=h;refine⟨_,Wl p m o c,λP G F H x y v d Q s i h=>?_⟩;obtain⟨b,e,q⟩:=h;unfold gT at e;cases d with
 |tup w=>
  by_cases z:w.length=n
  ·simp only[z,c8]at e;obtain⟨a,g,t,r,f⟩:=i.pX;exact⟨a,g,t,r,by rw[f.length];exact z,j _ _ _ _ _ _ _ _ _ s f ⟨b,e,q⟩⟩
  ·simp only[z,bI]at e;cases e
 |_=>cases e
def G7(hp:PassesOwn (model X.prog X.w) X.A X.env X.xe)(hc:X.calm=true)(u:DI X E T C O)(hg:DG X T l a)(hb:pw X E B L)(hs:∀x,foldedSetIterable C X.env x=pure x):
    DS X E (.For T C B [] I) (uN O a L):=by
 obtain⟨wi,pi,ri⟩:=u;obtain⟨g,pg,rg⟩:=hg;obtain⟨tb,pb,rb⟩:=hb;refine⟨_,Ki hp hc pi pg pb hs,λP v al H σ M D s h=>ri _ _ _ _ _ _ _ s<|Aft.mono (kX.rP h s) λd H1 s1 h1 J W=>?_⟩;refine⟨λi m j p=>∃b c,RS X.K P v b p j c/\Wk X.K b p J d/\kX X.K P v E D b p (oh a L (d.drop i) c)/\m=d.length - i,⟨_,al,M,s.grow s1,W,h1,rfl⟩,?_⟩
 rintro i m j p ⟨b,c,z,r,f,rfl⟩
 obtain⟨Z,Y⟩:=r b p .refl z.fresh;by_cases u:i<d.length
 ·right;have ed:d[i]?=some d[i]:=au u;obtain⟨go,S⟩:=Z i _ ed;rw[cY u]at f;refine⟨go,λn t=>∃b c,RS X.K P v b t n c/\Wk X.K b t J d/\kX X.K P v E D b t (oh a L (d.drop<|i+1) c),λn t ⟨F,o,Q,z2,N⟩=>⟨d.length - (i+1),by omega,F,o,Q,z2,N,rfl⟩,λx H3 y=>?_⟩;obtain⟨rfl,rx⟩:=S x H3 y;unfold oh at f;cases q:a d[i] c with
  |some o=>rw[q]at f;refine rg _ _ _ _ _ _ _ _ _ z rx ⟨o,q,λK _ s3=>rb _ _ _ _ _ _ _ s3<|LC (k:=oh a L<|d.drop<|i+1) f λG t n w V s' h'=>⟨G,w,s',λA H4 U=>r A H4<|V.trans U,h'⟩⟩
  |none=>rw[q]at f;exact f.elim
 ·left;have e:d.drop i=[]:=dw (by omega);rw[e]at f;exact⟨Y i<|by omega,f b p j .refl z⟩
def jR(n:Nat)(b:List D):Ev:=b.map .sh++List.replicate (n - b.length) .no
noncomputable def jM:RT->R D
 |.rt d=>.ok d
 |.nx _=>.ok .non
 |.ex c ns ds=>.ex c ns ds
 |_=>.bad
def aac{c:Addr->Prop}(tt:lQ K H)(fr:∀a,H a=none->c a)(r:i9 K c H vs ds):RS K c H c H (L2.start N vs) (jR N.length ds) where
 same:=.refl H
 tt:=tt
 fresh:=fr
 sub:=λ_ h=>h
 pf:=fr
 len:=by unfold L2.start jR;simp[r.length]
 sh:=λi d h=>by
  unfold jR at h;by_cases b:i<ds.length
  ·rw[ay<|by simpa using b,aE]at h;cases q:ds[i]? with
   |none=>rw[q]at h;cases h
   |some y=>rw[q]at h;cases h;obtain⟨v,f,e⟩:=r.getD q;refine⟨v,?_,e⟩;unfold L2.start;rw[ay<|by simpa [r.length]using b,aE,f];rfl
  ·rw[aK<|by simpa using b,bG]at h;split at h<;>cases h
 ow:=λi d h=>by
  unfold jR at h;by_cases b:i<ds.length
  ·rw[ay<|by simpa using b,aE]at h;cases q:ds[i]? with
   |none=>rw[q]at h;cases h
   |some y=>rw[q]at h;cases h
  ·rw[aK<|by simpa using b,bG]at h;split at h<;>cases h
 apart:=λi j d g a h _ _ _=>by
  unfold jR at h;by_cases b:i<ds.length
  ·rw[ay<|by simpa using b,aE]at h;cases q:ds[i]? with
   |none=>rw[q]at h;cases h
   |some y=>rw[q]at h;cases h
  ·rw[aK<|by simpa using b,bG]at h;split at h<;>cases h
variable{P:Program}{w:World}{K:W.Frag}{M:kd}{o:Heap}
def nN{k g}(F:jZ K x x st f fd)(S:j8 N ps<|jo st)
 (B:∀e A b s H E,kL k (lr (kB P w) P w K M o N x (jo st) f e A b s H E).A->pw (lr (kB P w) P w K M o N x (jo st) f e A b s H E) E (ko st) g):
   jL P w K M o (k+1) f fd ps (j4 ps.length K λi=>jM<|g<|jR N.length i):=by
  refine F.JA S (λu H Q E h=>h.1) (λe A b s H u Q E J h=>?_);obtain⟨Y,G,y,i,fr,l,h⟩:=h;obtain⟨t,p,r⟩:=B e A b s H E J;dsimp only at h;refine⟨t,p,r y H y H (L2.start N u) (jR N.length i) _ (aac G fr l) ?_⟩;cases q:g (jR N.length i)with
  |nx n=>rw[q]at h;exact λU m z _ j=>h m j.same .non .non
  |rt d=>rw[q]at h;exact λv m j l=>h m j v l
  |ex c V Z=>rw[q]at h;exact h
  |bk n=>rw[q]at h;exact h.elim
  |ct n=>rw[q]at h;exact h.elim
  |bad=>rw[q]at h;exact h.elim
def pz.up{k}(G:jD P w K M o j x ps sp)(h:j<=k):jD P w K M o k x ps sp:=let⟨f,b,fo,r⟩:=G;⟨f,b,fo.mono h,r⟩
variable{N:List Str}{Y:Str}{U:Scope}{f:Addr}{cd:Value}{A:Around}{b:List Env}{s:Shared}{H:Hp}
end
def Bl(T:String):D->Bool
 |.str _=>T=="str"
 |.int _=>T=="int"
 |.lst _=>T=="list"
 |_=>false
def Ot(T:String)(g:D->je)(o:jq)(a:Ev->R (List D)):jq:=λb=>(o b).bind λx=>if Bl T x=true then(a b).bind λc=>g x c else .bad
section
variable{X:Cx}{E:XK}{o e:Expr}{y:List Expr}{fo:jq}{fs:Ev->R (List D)}{b:Str}{m c:Pos}{T q:String}{g:D->je}
def DO(X:Cx)(E:XK)(e:Option Expr)(f:Ev->R (Option Int)):Prop:=∃t:TO,PO X e t/\
 ∀P i h H a d (Q:Option Int->Hp->Prop),RS X.K P i h H a d->Aft X.K h E H (f d) Q->t a H Q
def Au(X:Cx)(E:XK)(g:D->Option Int->Option Int->R D):Prop:=∃r,qI X r/\
 ∀f H x i lo h (Q:VK),(∀a,H a=none->f a)->Rep X.K f H x i->Aft X.K f E H (g i lo h) (λd j=>∀v,Rep X.K f j v d->Q v j)->r x lo h H Q
def pI(d:D):R (Option Int):=match d with
 |.int i=>.ok (some i)
 |_=>.bad
def G6:DO X E none (λ_=>.ok none):=⟨_,WE,λ_ _ _ H _ _ _ _ h=>h H<|.refl H⟩
def xR(h:DE X E e fo):DO X E (some e) (λa=>(fo a).bind pI):=by
 obtain⟨t,p,r⟩:=h;refine⟨_,WG p,λP u n H k a Q s h=>r _ _ _ _ _ _ _ s<|Aft.mono (Aft.split h) λx f l d v j=>?_⟩;cases j with
 |int i=>exact⟨i,rfl,d f<|.refl f⟩
 |_=>exact(d:False).elim
def qP(g:D->Option Int->Option Int->R D)(a:jq)(l u:Ev->R (Option Int)):jq:=λd=>(a d).bind λx=>(l d).bind λi=>(u d).bind λj=>g x i j
def AW{g lo}(C:Au X E g)(G:DE X E e fo)(F:DO X E lo fl)(B:DO X E hi fu):DE X E (.Subscript e (.Slice lo hi none p2) pos) (qP g fo fl fu):=by obtain⟨r,t,n⟩:=C;obtain⟨to,z,p⟩:=G;obtain⟨O,A,u⟩:=F;obtain⟨N,w,l⟩:=B;refine⟨_,Wa t z A w,λP Y S H L M Q s h=>p _ _ _ _ _ _ _ s<|Aft.mono (Aft.split h) λx W d K v k=>?_⟩;refine u _ _ _ _ _ _ _ (s.grow d) (Aft.mono (Aft.split K) λi V a J=>l _ _ _ _ _ _ _ ((s.grow d).grow a)<|Aft.mono (Aft.split J) λj U f I=>?_);exact n _ _ _ _ _ _ _ (((s.grow d).grow a).grow f).fresh ((k.up a).up f) I
end
def Ka(d:PI X tg iter w1)(c:PI X tg iter w2):PI X tg iter (λb H R=>w1 b H R\/w2 b H R):=λa s b H R I h=>h.elim (d a s b H R I) (c a s b H R I)
section
variable{X:Cx}{E:XK}{L e:Expr}{f:jq}
def ach(r:Rep K al H (.ref a)<|.lst ds):Wk K al H (Aj K a) ds:=by intro j m x fr;obtain⟨l,b,e,q,rs⟩:=(r.mv x).oU;cases e;refine⟨λi d h=>?_,λi h=>⟨b,q,by rw[rs.length];exact h⟩⟩;obtain⟨v,c,g⟩:=rs.getD h;refine⟨⟨b,v,q,c⟩,λy k z=>⟨z.1,?_⟩⟩;have:=z.2 b q;rw[c]at this;cases this;exact g
def acm(r:Rep K al H (.ref a)<|.tup ds):Wk K al H (Ak K a) ds:=by intro j m x fr;obtain⟨l,b,e,q,rs⟩:=(r.mv x).pX;cases e;refine⟨λi d h=>?_,λi h=>⟨b,q,by rw[rs.length];exact h⟩⟩;obtain⟨v,c,g⟩:=rs.getD h;refine⟨⟨b,v,q,c⟩,λy k z=>⟨z.1,?_⟩⟩;have:=z.2 b q;rw[c]at this;cases this;exact g
def pN(lo:Int)(n:Nat):List D:=(List.range n).map λ(k:Nat)=>D.int (lo+(k:Int))
def aci{lo:Int}{n}:Wk K al H (xh lo n) (pN lo n):=by
 intro b g x fr;refine⟨λi d h=>?_,λi h=>?_⟩
 ·unfold pN at h;rw[aE]at h;by_cases a:i<n
  ·rw[List.getElem?_range a]at h;cases h;exact⟨a,λy c z=>⟨z.1,by rw[z.2];exact .int _⟩⟩
  ·rw[eU<|by simpa using a]at h;cases h
 ·unfold pN at h;show n<=i;simpa using h
def qx(a:List D):R (List D):=match a with
 |[.int j]=>if -(2^62)<=j/\j<2^62 then .ok (pN 0 j.toNat)else .bad
 |_=>.bad
def xQ{fs}(n:Gl X "range")(m:X.mg "range"=none)(o:DA X E [a] fs)(l:starEach [a] X.env=[(false,eval a X.env)]):DI X E L (.Call (.Name "range" p) [a] [] pos) (λc=>(fs c).bind qx):=by
 obtain⟨t,q,r,_⟩:=o;refine⟨_,Ws n m q l,λP A y H u c R s h=>r _ _ _ _ _ _ _ s<|Aft.mono (Aft.split h) λx d w b v g=>?_⟩;unfold qx at b;split at b
 ·rename_i j;cases g with
  |cons k i=>
   cases i;cases k;split at b
   ·rename_i z;exact⟨j,rfl,z.1,z.2,b d (.refl d) _ aci⟩
   ·exact b.elim
 ·exact b.elim
variable{K:W.Frag}{P A:Addr->Prop}{C H:Hp}{B:St}{m:Ev}
def RS.own(r:RS K P C A H B m)(F:i<m.length)(t:H p=none)(q:i9 K A H vs ds):
    RS K P C (λb=>A b/\b≠p) (upd H p<|.lst vs) (B.set i<|some<|.ref p) (m.set i<|.ow ds)/\Xt A H (λb=>A b/\b≠p) (upd H p<|.lst vs):=by
 have x:Xt A H (λb=>A b/\b≠p) (upd H p<|.lst vs):=λb o _ g e=>⟨⟨g,mZ e t⟩,by rw[jA<|mZ e t];exact e⟩;have s:=lV (K:=K) (o:=HO.lst vs) t;have N:i<B.length:=by rw[<-r.len];exact F
 refine⟨⟨r.same.trans s,s.tt r.tt,λb g=>?_,λb g=>r.sub b g.1,r.pf,by rw[aO,aO];exact r.len,λj d h=>?_,λj G h=>?_,λj k d1 d2 b T Q S O=>?_⟩,x⟩
 ·refine⟨r.fresh b<|s.free g,λz=>?_⟩;rw[z,kv]at g;cases g
 ·by_cases z:i=j;·subst z;rw[aA F]at h;cases h
  ·rw[ar z]at h;obtain⟨v,n,u⟩:=r.sh j d h;exact⟨v,by rw[ar z];exact n,u.mv x⟩
 ·by_cases z:i=j
  ·subst z;rw[aA F]at h;cases h;exact⟨p,vs,aA N,kv,q.mv x,λw=>w.2 rfl,r.same.free t⟩
  ·rw[ar z]at h;obtain⟨a,M,n,u,Y,V,U⟩:=r.ow j G h;exact⟨a,M,by rw[ar z];exact n,s.at' _ _ oy u,Y.mv x,λw=>V w.1,U⟩
 ·have c:∀(l:Nat) (d:List D),(m.set i<|.ow ds)[l]?=some (.ow d)->(B.set i<|some<|.ref p)[l]?=some (some<|.ref b)->(l=i/\b=p)\/(l≠i/\b≠p/\m[l]?=some (.ow d)/\B[l]?=some (some<|.ref b)):=by
   intro l d y z2;by_cases z:i=l
   ·subst z;rw[aA N]at z2;left;refine⟨rfl,?_⟩;cases z2;rfl
   ·rw[ar z]at y z2;right;obtain⟨a,M,n,u,_⟩:=r.ow l d y;rw[n]at z2;cases z2;exact⟨λw=>z w.symm,mZ u t,y,n⟩
  rcases c j d1 T S with⟨R,J⟩|⟨R,J,a3,a4⟩
  ·rcases c k d2 Q O with⟨b1,_⟩|⟨_,I,_⟩;·rw[R,b1]
   ·exact absurd J I
  ·rcases c k d2 Q O with⟨_,I⟩|⟨_,_,b3,Z⟩;·exact absurd I J
   ·exact r.apart j k d1 d2 b a3 b3 a4 Z
def RS.write(r:RS K P C A H B m)(h:m[i]?=some (.ow A1))(e:B[i]?=some (some<|.ref a))(q:i9 K A H vs ds):
    RS K P C A (upd H a<|.lst vs) B (m.set i<|.ow ds)/\Xt A H A (upd H a<|.lst vs):=by
 obtain⟨a',Z,N,M,e3,J,u⟩:=r.ow i A1 h;rw[e]at N;cases N;have I:i<m.length:=(az.mp h).1;have ne:∀b,A b->b≠a:=λb g z=>J (z▸g);have x:Xt A H A (upd H a (.lst vs)):=λb o _ g w=>⟨g,by rw[jA (ne b g)];exact w⟩;have up:lQ K H->lQ K (upd H a (.lst vs)):=λt=>t.upd (λps w=>by rw[M]at w;cases w) λq w=>by rw[M]at w;unfold lP at w;cases w
 refine⟨⟨⟨λb o n w=>?_,λb w=>?_,λt=>up<|r.same.tt t⟩,up r.tt,λb g=>?_,r.sub,r.pf,by rw[aO];exact r.len,λj d z=>?_,λj d z=>?_,λj k d1 d2 b R z2 Q O=>?_⟩,x⟩;·rw[jA<|mZ w u];exact r.same.at' b o n w
 ·by_cases z:b=a;·rw[z];exact u
  ·rw[jA z]at w;exact r.same.fr b w
 ·by_cases z:b=a;·rw[z,kv]at g;cases g
  ·rw[jA z]at g;exact r.fresh b g
 ·by_cases y:i=j;·subst y;rw[aA I]at z;cases z
  ·rw[ar y]at z;obtain⟨v,p,s⟩:=r.sh j d z;exact⟨v,p,s.mv x⟩
 ·by_cases y:i=j
  ·subst y;rw[aA I]at z;cases z;exact⟨a,vs,e,kv,q.mv x,J,u⟩
  ·rw[ar y]at z;obtain⟨b,S,p,s,V,U,T⟩:=r.ow j d z;refine⟨b,S,p,?_,V.mv x,U,T⟩;rw[jA];exact s;intro c;subst c;exact y (r.apart i j A1 d b h z e p)
 ·have back:∀(l:Nat) (d:List D),(m.set i<|.ow ds)[l]?=some (.ow d)->∃Y,m[l]?=some (.ow Y):=λl d w=>by
   by_cases y:i=l;·subst y;exact⟨A1,h⟩
   ·rw[ar y]at w;exact⟨d,w⟩
  obtain⟨G,p⟩:=back j d1 R;obtain⟨F,s⟩:=back k d2 z2;exact r.apart j k G F b p s Q O
def th(i:Nat)(m:Ev):Ev:=match m[i]? with
 |some (.ow a)=>m.set i (.sh<|.lst a)
 |_=>m
def RS.freeze(r:RS K P C A H B m)(i):∃g,RS K P C g H B (th i m)/\Xt A H g H:=by
 unfold th;split
 ·rename_i q h;obtain⟨a,R,s,Q,O,S,N⟩:=r.ow i q h;have p:i<m.length:=(az.mp h).1;have x:Xt A H (λb=>A b\/b=a) H:=.sub λ_ z=>.inl z;refine⟨λb=>A b\/b=a,⟨r.same,r.tt,λb c=>.inl (r.fresh b c),λb c=>?_,r.pf,by rw[aO];exact r.len,λj d z=>?_,λj d z=>?_,λj k d1 d2 b F z2 u t=>?_⟩,x⟩
  ·rcases c with c|rfl;·exact r.sub b c
   ·exact r.pf _ N
  ·by_cases y:i=j
   ·subst y;rw[aA p]at z;cases z;exact⟨.ref a,s,.lst (.inl ⟨.inr rfl,.inl Q⟩)<|O.mv x⟩
   ·rw[ar y]at z;obtain⟨v,n,o⟩:=r.sh j d z;exact⟨v,n,o.mv x⟩
  ·by_cases y:i=j;·subst y;rw[aA p]at z;cases z
   ·rw[ar y]at z;obtain⟨b,G,n,o,M,J,I⟩:=r.ow j d z;refine⟨b,G,n,o,M.mv x,λw=>?_,I⟩;rcases w with w|rfl;·exact J w
    ·exact y (r.apart i j q d b h z s n)
  ·have back:∀(l:Nat) (d:List D),(m.set i<|.sh<|.lst q)[l]?=some (.ow d)->m[l]?=some (.ow d):=λl d w=>by
    by_cases y:i=l;·subst y;rw[aA p]at w;cases w
    ·rw[ar y]at w;exact w
   exact r.apart j k d1 d2 b (back j d1 F) (back k d2 z2) u t
 ·exact⟨A,r,.refl⟩
variable{I:List Stmt}{M:Stmt}{g:jO}{J:Ev->R (List D)}{F:Pos}
def Hb(i)(h:pw X E I g):pw X E I (λm=>g (th i m)):=by obtain⟨t,p,r⟩:=h;refine⟨t,p,λP C A H B m D s h=>?_⟩;obtain⟨b,a,x⟩:=s.freeze i;exact r _ _ _ _ _ _ _ a (kX.ext h x)
def Ui{b:Type}(r:R b):R b:=match r with
 |.ok a=>.ok a
 |_=>.bad
def tF(i:Nat)(f:Ev->R (List D)):jO:=λm=>toS (f m) λa=>if i<m.length then .nx (m.set i<|.ow a)else .bad
def G8(i)(hN:X.N.Nodup)(o:X.N[i]?=some x)(k:Loc X.env.scope x)(u:DN X E e J)(l:swapsWith e (some<|.Name x pos') F.line X.env=pure false)(hf:X.hf x):
    DS X E (.Assign [.Name x pos'] e F) (tF i J):=by
 obtain⟨t,p,r⟩:=u;refine⟨_,C0 hN o k p l hf,λP C A H B m D s h=>r _ _ _ _ _ _ _ s<|Aft.mono (kX.rP h s) λw y d a q v n j=>?_⟩;by_cases z:i<m.length
 ·simp only[z,c8]at a;obtain⟨c,b⟩:=(s.grow d).own z n j;exact a _ _ _ b c
 ·simp only[z,bI]at a;exact a.elim
def KS(i:Nat)(f:jq):jO:=λm=>match m[i]? with
 |some (.ow a)=>toS (f m) λd=>if a.length<sizeLine then .nx (m.set i<|.ow<|a++[d])else .bad
 |_=>.bad
end
variable{P:Program}{w:World}{K:W.Frag}{mg:kd}{base:Heap}{N:List Str}{qual:Str}{scope:Scope}{f:Addr}{cd:Value}{A:Around}{outer:List Env}{s:Shared}{H:Hp}{E:XK}
def OU(g:ExcBaseFacts B newId Rg vE)(q:W.excIn K C vE newId=true)
 (d:Gl (lr (kB P w) P w K mg base N qual scope f cd A outer s H E) x)(c:mg x=some (.ref C))(a:ot x):
   DS (lr (kB P w) P w K mg base N qual scope f cd A outer s H E) E (.Raise (some<|.Call (.Name x np) [] [] cpos) none pos) (λ_=>.ex C [] []):=
  ⟨_,WR g q d c a,λl m k e i j D b h=>h none e b.same ⟨rfl,rfl⟩⟩
end P2
namespace L2
open PySem PySem.Spec PyProof.Rows
variable{f:Program}{w:World}{A:Around}{R:Result->Shared->Prop}{s:Shared}
def Oh(I:Nat->Shared->Prop)
 (q:∀n s,I n s->wpAny (model f w) A (pyNext it) (λr b=>match r with
 |none=>R (.ok .next) b
 |some v=>wpAny (model f w) A (letOwnedTupleGo target it v) (λ_ l=>wpAny (model f w) A (assign target env v) (λ_ k=>
 wpAny (model f w) A (forIn ifs true λc r=>if r=true then do let ok<-isTrue c env (eval c env);pure (ForInStep.yield ok)else pure (ForInStep.yield r)) (λok a=>
 if ok=true then wpAny (model f w) A (eval elt env) (λx j=>
 wpAny (model f w) A (call (.builtin "list.append") [acc,x]) (λ_ i=>∃m,m<n/\I m i) (notedBy (model f w) A env λe d=>R (.error e) d) j) (notedBy (model f w) A env λe d=>R (.error e) d) a
 else∃m,m<n/\I m a) (notedBy (model f w) A env λe d=>R (.error e) d) k) (notedBy (model f w) A env λe d=>R (.error e) d) l) (notedBy (model f w) A env λe d=>R (.error e) d) b) (notedBy (model f w) A env λe d=>R (.error e) d) s)
 (n)(h:I n s):codeAny (model f w) A (.compLoop (.ListComp elt [⟨target,iter,ifs,0⟩] scope pos) 0 it acc env) R s:=by
  refine codeAny_loop rfl I (λn s B=>?_) n h;show wpAny _ A ((compTurn (.ListComp elt [⟨target,iter,ifs,0⟩] scope pos) 0 it acc env).onRaise (λx=>do noteFrame x env;theTreesLotGoes x)) _ _ s;refine wpAny_noted ?_;rw[compTurn_list];refine ae (fw<|ae<|bq (q n s B) (λr b p=>?_) λ_ _ g=>g);cases r with
  |none=>exact af p
  |some v=>
   refine ae (bq p (λ_ l z=>?_) λ_ _ g=>g);refine ae (bq z (λ_ k y=>ae<|bq y (λok a o=>?_) λ_ _ g=>g) λ_ _ g=>g);cases ok with
   |false=>exact af ⟨rfl,o⟩
   |true=>exact ae (ae<|bq o (λx j u=>ae<|bq u (λ_ i t=>af<|af ⟨rfl,t⟩) λ_ _ g=>g) λ_ _ g=>g)
abbrev Cx.comp(X:Cx)(scope:Scope)(N':List Str)(cl:List<|Str×Addr)(fp:List Addr)(s3:Shared)(H3:Hp)(C:Addr):Cx:=
 {X with N:=N',s₀:=s3,H₀:=H3,env:=compEnvC scope cl C X.env,outer:=X.stack,ex:=fp,fn:=λ_=>false,pn:=[],xe:=λ_ _=>False}
inductive oH(X:Cx)(cl:List<|Str×Addr):List Str->List Nat->Prop
 |nil:oH X cl [] []
 |cons {x:Str} {i:Nat} {N:List Str} {ci:List Nat}:X.N[i]?=some x->(X.env.kindOf x=some .cell\/X.env.kindOf x=some .free)->cl.lookup x=X.env.cells.lookup x->oH X cl N ci->oH X cl (x::N) (i::ci)
def oH.length(h:oH X cl N ci):N.length=ci.length:=by
 induction h with
 |nil=>rfl
 |cons _ _ _ _ a=>rw[aq,aq,a]
def oH.get{X:Cx}{cl:List<|Str×Addr}{N:List Str}{a:List Nat}(h:oH X cl N a){k:Nat}{x:Str}(e:N[k]?=some x):∃i,a[k]?=some i/\X.N[i]?=some x/\(X.env.kindOf x=some .cell\/X.env.kindOf x=some .free)/\cl.lookup x=X.env.cells.lookup x:=by
 induction h generalizing k with
 |nil=>simp at e
 |cons g d c _ b=>
  cases k with
  |zero=>simp at e;subst e;exact⟨_,rfl,g,d,c⟩
  |succ k=>simpa using b (by simpa using e)
def mI(b:Nat)(c:List Nat)(a:St):St:=List.replicate b none++c.map λi=>(a[i]?).getD none
def GC(h:(mI tn ci σ)[j]?=some (some v)):∃k i,j=tn+k/\ci[k]?=some i/\σ[i]?=some (some v):=by
 unfold mI at h;by_cases b:j<tn;·rw[ay<|by simpa using b,bG,av b]at h;cases h
 ·rw[aK<|by simpa using b,cC,aE]at h;cases q:ci[j - tn]? with
  |none=>rw[q]at h;cases h
  |some i=>
   rw[q]at h;refine⟨j - tn,i,by omega,q,?_⟩;have a:(σ[i]?).getD none=some v:=Option.some.inj h;cases z:σ[i]? with
   |none=>rw[z]at a;cases a
   |some y=>rw[z]at a;exact bD some a
def xM:(mI tn ci σ).length=tn+ci.length:=by unfold mI;simp
def Ei(y:TI)(h:Nat)(n:List Nat)(g:TG)(B:TT)(z:TE):TE:=λk H Q=>y k H λJ p=>∀l,p l=none->∃W:Nat->Nat->Hp->Prop,(∃m,W 0 m<|upd p l<|.lst [])/\∀i m d,W i m d->(∀b o u,upd p l (.lst []) b=some (.j6 o u)->d b=some (.j6 o u))->
 (J.stop i d/\Q (.ref l) d)\/(J.go i d/\∀x t,J.wM i d x t->g x (mI h n k) t λa C=>(a.length=h+n.length/\∀j,h<=j->a[j]?=(mI h n k)[j]?)/\B a C λb r=>if b=true then z a r λv q=>∃c,q l=some (.lst c)/\c.length<sizeLine/\∃e,e<m/\W (i+1) e (upd q l<|.lst<|c++[v])else∃e,e<m/\W (i+1) e r)
def PF(X:Cx)(d:List Expr)(t:TT):Prop:=
 ∀a s b H Q,Inv X a b H s->t b H Q->
  wpAny (model X.prog X.w) X.A (forIn d true λc r=>if r=true then do let ok<-isTrue c X.env (eval c X.env);pure (ForInStep.yield ok)else pure (ForInStep.yield r)) (TP X a b Q) X.xe s
def J4:PF X [] (λ_ H Q=>Q true H):=λ_ _ _ H _ I h=>wpAny_tests_nil ⟨H,I,h⟩
def Wi{t}(h:PT X c t):PF X [c] t:=λa s b H Q I d=>wpAny_tests_one (h a s b H Q I d)
variable{X:Cx}{M B K:Expr}{F:List Expr}{scope:Scope}{L:Pos}{O:TI}{g:TG}{tc:TT}{te:TE}{cl:List<|Str×Addr}{tn:Nat}{Nt Nc:List Str}{E:List Nat}
def GN{N:List<|Addr×Obj}{s:Shared}{σ:St}{H:Hp}{Q:VK}{RR:Value->Addr->Result->Shared->Prop}(I:Inv X N σ H s)(hc:X.calm=true)(hi:PI X M B O)
    (hg:∀D s3 H3 C,PG (X.comp scope (Nt++Nc) cl D s3 H3 C) M g)(hf:∀D s3 H3 C,PF (X.comp scope (Nt++Nc) cl D s3 H3 C) F tc)(he:∀D s3 H3 C,PE (X.comp scope (Nt++Nc) cl D s3 H3 C) K te)
    (hkind:scope.kind=.function)(hcell:pJ scope)(tm:oH X cl Nc E)(yA:Nt.length=tn)
    (V:∀x c,cl.lookup x=some c->X.env.cells.lookup x=some c)(hhas:∀x,((relabel scope X.env).names.lookup x=some .cell\/(relabel scope X.env).names.lookup x=some .free)->∃c,cl.lookup x=some c)
    (ur:∀x∈Nc,(relabel scope X.env).names.lookup x=some .cell\/(relabel scope X.env).names.lookup x=some .free)
    (h:Ei O tn E g tc te σ H Q)
    (fin:∀l C H' s' m,s'.heap.Ns C m->Inv X N σ H' s'->H' C=none->C≠X.env.locals->X.s₀.heap.objs.size<=C->(∀x c,X.env.cells.lookup x=some c->c≠C)->(∀p∈X.pn++N,p.1≠C)->Q (.ref l) H'->RR (.ref l) C (.ok .next) s'):
    wpAny (model X.prog X.w) X.A (eval B X.env) (λx aba=>wpAny (model X.prog X.w) X.A (pyIter x) (λit abb=>wpAny (model X.prog X.w) X.A (newList []) (λacc abc=>wpAny (model X.prog X.w) X.A (newFunctionEnv scope X.env.globals cl [] X.env.qual none .none<|some X.env) (λGG abd=>codeAny (model X.prog X.w) X.A (.compStart (.ListComp K [⟨M,B,F,0⟩] scope L) 0 it acc {GG with scope:=relabel scope X.env}) (RR acc GG.locals) abd) X.xe abc) X.xe abb) X.xe aba) X.xe s:=by
 refine jh (hi N s σ H _ I h) λv s1 h1=>jh h1 λRC s2 h2=>?_;obtain⟨it,D,tk,J,H2,rfl,I2,T,Lh,f2,hW⟩:=h2;refine aV (wpAny_newFunctionEnv hcell (by intro y hy;simp at hy) (λBu S P=>?_) hkind);dsimp only at S P⊢;generalize hG:s2.heap.push {cls:=.type "list",dict:=none,data:=.seq ([]:List Value).toArray}=G at S P⊢;have Qd:G.objs.size=s2.heap.objs.size+1:=by rw[<-hG,cq]
 have hl:H2 s2.heap.objs.size=none:=I2.hok.fresh (ag _);obtain⟨W,⟨m0,w0⟩,turn⟩:=hW _ hl;have t:Inv X N σ (upd H2 s2.heap.objs.size<|.lst []) {s2 with heap:=G}:=by rw[<-hG];exact I2.laid (t':=s2.toks) (λb u e=>ah _ e) (ag _) ⟨bM _,[],0,.nil,aH _ rfl⟩
 generalize HU:upd H2 s2.heap.objs.size (.lst [])=H3 at w0 t;have keep:∀b o,G.get? b=some o->Bu.get? b=some o:=λb o e=>P.extBut b o (aU<|Heap.lt_size e) (ah _ e);have Jh:∀b∈D,b<s2.heap.objs.size:=λb a=>by obtain⟨o,e,_⟩:=T.obj 0 _ Lh b a;exact Heap.lt_size e
 have HA:∀b∈D,b≠G.objs.size:=λb a=>aU (aF (Jh b a)<|by rw[Qd];exact cU _);have HB:∀b∈D,H3 b=none:=λb a=>by rw[<-HU,jA<|aU<|Jh b a];exact(f2 b a).1
 let X':=X.comp scope (Nt++Nc) cl D {s2 with heap:=G} H3 G.objs.size
 have ok':X'.Ok:=by
  refine⟨t.ok.mod,(by show(relabel scope X.env).kind=_;exact hkind),t.ok.glob,t.ok.blt,ag _,λx y c e1 e2=>t.ok.inj x y c (V x c e1)<|V y c e2,λx hx=>hhas x hx,(λx c z=>nomatch z),t.ok.hd,t.ok.frames,.inl rfl,λb a=>⟨HA b a,λx c e=>(f2 b a).2.2.2.2.1 x c (V x c e)⟩,λb o e=>t.bs b o e,aS t.ok.sR t.sz,λb o e a=>?_,λb a z=>?_,t.stack,t.Eg⟩
  ·rcases(f2 b a).2.2.2.1 with z|z;·exact t.ok.B0 b o e z
   ·exact absurd (aF (Heap.lt_size e)<|aS t.ok.sR z) (cH _)
  ·rcases aD.mp (t.zx b z)with e|e;·exact(f2 b a).2.1 e
   ·exact(f2 b a).2.2.1 e
 have J0:Inv X' [] (mI tn E σ) H3 {s2 with heap:=Bu,toks:=s2.toks+0}:=by
  refine⟨ok',rfl,t.bare,Un.kept keep,⟨_,S,λi x v e1 e2 e3=>?_⟩,λx c e=>?_,t.hok.fresh<|ag _,λx c e=>t.pE x c<|V x c e,λp hp=>absurd (show p∈([]:List<|Addr×Obj)from hp)<|by simp,t.hok.kept keep,?_⟩
  ·obtain⟨k,j,rfl,q1,q2⟩:=GC e2;have Hd:Nc[k]?=some x:=by
    rw[aK<|by omega]at e1;rw[show tn+k - Nt.length=k by omega]at e1;exact e1
   obtain⟨j',z1,z2,z3,z4⟩:=tm.get Hd;rw[q1]at z1;cases z1;obtain⟨m,hn,QM⟩:=t.loc;obtain⟨u,r,lk⟩:=QM j x v z2 q2 (z3.elim (λz=>.inr<|.inl z) λz=>.inr<|.inr z);refine⟨u,r,.inr ⟨ur x<|bc Hd,?_⟩⟩;rcases lk with⟨k1,_⟩|⟨_,c,k2,k3⟩;·rcases z3 with z|z<;>(rw[k1]at z;cases z)
   ·refine⟨c,z4.trans k2,?_⟩;obtain⟨o,ho,hd⟩:=k3;exact⟨o,keep _ _ ho,hd⟩
  ·obtain⟨v,o,ho,hd⟩:=t.cell x c (V x c e);exact⟨v,o,keep _ _ ho,hd⟩
  ·rw[xM];show _=(Nt++Nc).length;rw[ao,tm.length,yA]
 have stat:∀{Y:List<|Addr×Obj} {H':Hp},(∀p∈Y,p.1∉D)->(∀b∈D,H' b=none)->∀b∈D,rh X' Y H' b:=λ{Y H'} hp hn b a=>⟨hn b a,HA b a,λz=>ok'.Ba b a z,.inl a,λx c e=>(ok'.Pm b a).2 x c e,λp QY z=>hp p ((bh.mp QY).elim (λw=>absurd (show p∈([]:List<|Addr×Obj)from w)<|by simp) λw=>w)<|by rw[z];exact a⟩
 have mk:∀(s5:Shared),(∀i H5,Inv X' [] (mI tn E σ) H5 s5->tk i s5.heap->(∀b∈D,H5 b=none)->∀n,W i n H5->
  codeAny (model X.prog X.w) X.A (.compLoop (.ListComp K [⟨M,B,F,0⟩] scope L) 0 (.ref it) (.ref s2.heap.objs.size) (compEnvC scope cl G.objs.size X.env)) (RR (.ref s2.heap.objs.size) G.objs.size) s5):=by
  intro s5 i5 H5 J5 st5 PK n5 w5;refine Oh (λn s'=>∃i H',Inv X' [] (mI tn E σ) H' s'/\tk i s'.heap/\(∀b∈D,H' b=none)/\W i n H') ?_ n5 ⟨i5,H5,J5,st5,PK,w5⟩
  rintro n s6 ⟨i,H6,J6,Li,HC,w6⟩
  rcases turn i n H6 w6 (λb o u e=>J6.base.pF b o u (show H3 b=_ by rw[<-HU];exact e))with⟨stop,q⟩|⟨go,step⟩
  ·refine bq (T.done X' rfl rfl rfl hc i [] s6 _ H6 (λ_ _=>False) J6 (stat (by simp) HC) Li stop) (λr s7 ⟨hr,J7⟩=>?_) λ_ _ z=>z.elim;subst hr;obtain⟨m,hn,_⟩:=J7.loc;have IX:Inv X N σ H6 s7:=t.GA (ch:=D) J7.os J7.base J7.hok J7.bare λb a=>⟨(f2 b a).2.2.2.1,(f2 b a).2.1,(f2 b a).2.2.2.2.1,(f2 b a).2.2.2.2.2⟩;refine fin _ _ H6 s7 m hn IX J7.free (dq t.lt) (aS t.sz<|ag _) (λx c e z=>?_) (λp hp z=>?_) q
   ·obtain⟨v,o,ho,_⟩:=t.cell x c e;exact absurd (Heap.lt_size ho) (by rw[z];exact cH _)
   ·exact absurd (Heap.lt_size (t.pin p hp).1) (by rw[z];exact cH _)
  ·refine bq (T.item X' rfl rfl rfl hc i [] s6 _ H6 (λ_ _=>False) J6 (stat (by simp) HC) Li go) (λr s7 ⟨u,hr,h7⟩=>?_) λ_ _ z=>z.elim;subst hr;refine bq h7 (λ_ s8 Z=>?_) λ_ _ z=>z.elim;obtain⟨x,H8,J8,r8,y8,Ef,PL⟩:=Z;have MO:=J8.pinned (stat (by simp) PL) (T.obj _ _ Ef)
   have back:∀{U:St} {H9:Hp} {s9:Shared},Inv X' ([]++wj D s8.heap) U H9 s9->U.length=tn+E.length->(∀j,tn<=j->U[j]?=(mI tn E σ)[j]?)->∀m',m'<n->W (i+1) m' H9->
    ∃m,m<n/\∃i H',Inv X' [] (mI tn E σ) H' s9/\tk i s9.heap/\(∀b∈D,H' b=none)/\W i m H':=λ{U H9 s9} J9 QL QH m' hm w9=>by
    refine⟨m',hm,i+1,H9,J9.zH.weak (by rw[xM,QL]) λj v e=>?_,T.keep _ _ _ Ef λb a o e=>(J9.pin (b,o)<|bA _<|bA _<|yM a e).1,λb a=>?_,w9⟩
    ·obtain⟨k,_,rfl,_⟩:=GC e;rw[QH _<|by omega];exact e
    ·obtain⟨o,e,d⟩:=T.obj _ _ Ef b a;exact(J9.pin (b,o)<|bA _<|bA _<|yM a e).2.1
   refine bq (hg D _ _ _ _ s8 _ H8 x u _ MO r8<|step x H8 y8) (λ_ s9 Z=>?_) λ_ _ z=>z.elim;obtain⟨U,H9,J9,⟨l9,k9⟩,q9⟩:=Z;refine bq (hf D _ _ _ _ s9 U H9 _ J9 q9) (λb zm ⟨Ae,E4,ze⟩=>?_) λ_ _ z=>z.elim;cases b with
   |false=>rw[aw ax]at ze⊢;obtain⟨m',hm,w10⟩:=ze;exact back E4 l9 k9 m' hm w10
   |true=>rw[av rfl]at ze⊢;refine bq (he D _ _ _ _ zm U Ae _ E4 ze) (λy Df Z=>?_) λ_ _ z=>z.elim;obtain⟨v,Af,MM,Zz,acc,xX,z11,m',hm,w11⟩:=Z;refine bq (Jp (X:=X') _ Df U Af (.ref _) [v] (.ref _) [y] (λ_ xb=>W (i+1) m' xb) MM rfl (.cons Zz .nil) ⟨_,acc,v,rfl,rfl,xX,z11,w11⟩) (λ_ s12 Z=>?_) λ_ _ z=>z.elim;obtain⟨_,xb,MN,_,w12⟩:=Z;exact back MN l9 k9 m' hm w12
 have Ee:tk 0 Bu:=T.keep _ _ _ Lh λb _ o e=>keep b o (by rw[<-hG];exact ah _ e);exact codeAny_compStart_list (mk _ 0 H3 J0 Ee HB m0 w0) (T.self _ 0 _ _ _ Ee<|mk _ 0 H3 J0 Ee HB m0 w0)
def JW(U:X.calm=true)(P:PI X M B O)(S:∀v k y C,PG (X.comp scope (Nt++Nc) cl v k y C) M g)(hf:∀v k y C,PF (X.comp scope (Nt++Nc) cl v k y C) F tc)(T:∀v k y C,PE (X.comp scope (Nt++Nc) cl v k y C) K te)
 (i:closureFor scope X.env=pure cl)(a:scope.kind=.function)(j:pJ scope)(d:qv scope)(u:oH X cl Nc E)(z:Nt.length=tn)
 (p:∀x c,cl.lookup x=some c->X.env.cells.lookup x=some c)(t:∀x,((relabel scope X.env).names.lookup x=some .cell\/(relabel scope X.env).names.lookup x=some .free)->∃c,cl.lookup x=some c)
 (n:∀x∈Nc,(relabel scope X.env).names.lookup x=some .cell\/(relabel scope X.env).names.lookup x=some .free)
 (J:∀x,foldedSetIterable B X.env x=pure x):PE X (.ListComp K [⟨M,B,F,0⟩] scope L) (Ei O tn E g tc te):=by intro D s σ H Q I h;rw[eval_ListComp];refine wpAny_comprehension_free (use:=none) rfl J i a d (GN (Nt:=Nt) (Nc:=Nc) I U P S hf T a j u z p t n h ?_);intro l C H' G m N I' h1 h2 Z Y W q;exact⟨m,N,λP7 r=>⟨.ref l,H',I'.turned (t':=G.toks) (λb o V e=>r.extBut b o V e) h1 h2 (.inr Z) Y W,rfl,q⟩⟩
def Ao(X:Cx)(e:Expr)(t:TE):Prop:=
 ∀(i:Nat) (x:Str) (pos':Pos) (_:X.N.Nodup) (_:X.N[i]?=some x) (_:Loc X.env.scope x) (_:X.hf x) (pins:List<|Addr×Obj) (s:Shared) (σ:St) (H:Hp) (Q:VK),Inv X pins σ H s->t σ H Q->
  wpAny (model X.prog X.w) X.A (evalThenUse e X.env<|assign (.Name x pos') X.env) (λ_ b=>∃v a,Inv X pins (σ.set i<|some v) a b/\Q v a) X.xe s
def WZ(hc:X.calm=true)(hi:PI X M B O)(hg:∀P t S C,PG (X.comp scope (Nt++Nc) cl P t S C) M g)(hf:∀P t S C,PF (X.comp scope (Nt++Nc) cl P t S C) F tc)(he:∀P t S C,PE (X.comp scope (Nt++Nc) cl P t S C) K te)
    (n:closureFor scope X.env=pure cl)(d:scope.kind=.function)(p:pJ scope)(j:qv scope)(J:oH X cl Nc E)(V:Nt.length=tn)
    (y:∀x c,cl.lookup x=some c->X.env.cells.lookup x=some c)(G:∀x,((relabel scope X.env).names.lookup x=some .cell\/(relabel scope X.env).names.lookup x=some .free)->∃c,cl.lookup x=some c)
    (u:∀x∈Nc,(relabel scope X.env).names.lookup x=some .cell\/(relabel scope X.env).names.lookup x=some .free)
    (hs:∀x,foldedSetIterable B X.env x=pure x):Ao X (.ListComp K [⟨M,B,F,0⟩] scope L) (Ei O tn E g tc te):=by
 intro i x k hN T hx U W s σ H Q I h;unfold evalThenUse;refine ae (wpAny_comprehension_free (use:=some<|assign (.Name x k) X.env) rfl hs n d j<|GN (Nt:=Nt) (Nc:=Nc) I hc hi hg hf he d p J V y G u h ?_);intro l C H' s' m hn I' h1 Z h3 Y h5 q;show wpAny _ _ (assign (.Name x k) X.env<|.ref l) _ _ _;refine ae (fw<|ib<|Lk I' hN T hx (v:=.ref l) rfl (λs2 I2 N=>?_) U);obtain⟨a,sb,N⟩:=N;have ne:C≠a:=by
  rcases N with rfl|N;·exact Z
  ·exact λz=>Y _ _ N z.symm
 obtain⟨o,es,ep,e,r⟩:=hn;refine⟨m,⟨o,es,ep,(sb.2 C ne).trans e,r⟩,λP7 D=>af ⟨.ref l,H',I2.turned (t':=s2.toks) (λb o hb e=>D.extBut b o hb e) h1 Z (.inr h3) Y h5,q⟩⟩
def WS{i:Nat}{x:Str}{e:Expr}{te:TE}{a b:Pos}(hN:X.N.Nodup)(l:X.N[i]?=some x)(j:Loc X.env.scope x)(m:Ao X e te)(k:swapsWith e (some<|.Name x a) b.line X.env=pure true)(hf:X.hf x):
    PS X (.Assign [.Name x a] e b) (Eh te<|tj i):=by
 intro c s d H D I h;rw[exec_Assign_Name_used _ _ _ _ k];refine ae (fw<|ae<|jh (m i x a hN l j hf c s d H _ I h) λ_ p ⟨v,o,n,q⟩=>af ⟨_,o,n,q⟩)
end L2
namespace P2
open PySem L2 PyProof.Rows
abbrev bits(x:Int):Nat:=Builtin.Int.intBits x
def uH(h:kx X f r)(e:kx X f r'):kx X f (λx y H Q=>r x y H Q\/r' x y H Q):=
 λa s b H x y v u Q I d c q=>q.elim (h a s b H x y v u Q I d c) (e a s b H x y v u Q I d c)
def iB(C:Int->Int->Bool)(g:Int->Int->D)(x y:D):R D:=match x,y with
 |.int i,.int j=>if C i j=true then .ok (g i j)else .bad
 |_,_=>.bad
section
variable{X:Cx}{E:XK}
def Co{a:Value->Value->Sem Value}{C:Int->Int->Prop}{d:Int->Int->Bool}{g:Int->Int->V}{b:Int->Int->D}(k:kx X a<|rI C g)(m:∀i j,d i j=true->C i j)(l:∀i j K c H,Rep K c H (g i j)<|b i j):kU X E a (iB d b):=by
 refine⟨_,k,λc H x y o n Q fr f e h=>?_⟩;unfold iB at h;split at h
 ·rename_i i j;cases f;cases e;split at h
  ·rename_i z;exact⟨i,j,rfl,rfl,m i j z,h H (.refl H) _<|l i j _ _ _⟩
  ·exact h.elim
 ·exact h.elim
def yX{a:Value->Value->Sem Value}{g:Int->Int->V}{b:Int->Int->D}(f:kx X a<|rW g)(k:∀i j K c H,Rep K c H (g i j)<|b i j):kU X E a (iB (λ_ _=>true) b):=by
 refine⟨_,f,λc H x y m l Q fr e d h=>?_⟩;unfold iB at h;split at h
 ·rename_i i j;cases e;cases d;exact⟨i,j,rfl,rfl,h H (.refl H) _<|k i j _ _ _⟩
 ·exact h.elim
def oZ:D->D->R D:=iB (λ_ _=>true) λi j=>.int (i - j)
def rR:kU X E (binaryOp .Sub) oZ:=yX VG λ_ _ _ _ _=>.int _
def Ca(i j:Int):Bool:=decide (bits i<=1048576)&&decide (bits j<=1048576)
def uF(_ j:Int):Bool:=decide (j≠0)&&decide (bits j<=9000)
def Jy(i j:Int):Bool:=decide (0<=j)&&decide (j<=1000000)&&decide (i.natAbs<2^64)
def j7:D->D->R D:=iB uF λi j=>.int (i.fdiv j)
def mU:kU X E (binaryOp .FloorDiv) j7:=Co Vq (λi j h=>by unfold uF at h;simpa [ES]using h) λ_ _ _ _ _=>.int _
def jH:D->D->R D:=iB (λ_ j=>decide<|j≠0) λi j=>.int (i.fmod j)
def lT:kU X E (binaryOp .Mod) jH:=Co VA (λi j h=>by simpa using h) λ_ _ _ _ _=>.int _
def zc:D->D->R D:=iB Jy λi j=>.int (i^j.toNat)
def Cn:kU X E (binaryOp .Pow) zc:=Co VF (λi j h=>by unfold Jy at h;simp only[aQ,bw]at h;exact⟨h.1.1,h.1.2,h.2⟩) λ_ _ _ _ _=>.int _
def mY:D->D->R D:=iB (λ_ _=>true) λi j=>.bl (decide<|i<j)
def yH:D->D->R D:=iB (λ_ _=>true) λi j=>.bl (decide<|i<=j)
def rF:D->D->R D:=iB (λ_ _=>true) λi j=>.bl (decide<|j<i)
def PY:D->D->R D:=iB (λ_ _=>true) λi j=>.bl (decide<|j<=i)
def uG:kU X E (compareOp .Lt) mY:=yX Vz λ_ _ _ _ _=>.bl _
def Vy:kU X E (compareOp .LtE) yH:=yX Vx λ_ _ _ _ _=>.bl _
def Cg:kU X E (compareOp .Gt) rF:=yX Vr λ_ _ _ _ _=>.bl _
def v7:D->R D
 |.int i=>.ok (.int<|-i)
 |_=>.bad
def acb:FN X E (unaryOp .USub) v7:=by
 refine⟨_,aca,λc H x b Q fr a h=>?_⟩;unfold v7 at h;split at h;·cases a;exact⟨_,rfl,h H (.refl H) _<|.int _⟩
 ·exact h.elim
def xn(K:W.Frag)(H:Hp)(a:Addr)(b:List V):Prop:=Rd H a (.lst b)\/KL K a b
def xn.is{s}(I:Inv X pins σ H s)(h:xn X.K H a xs):∃b n,Vals xs b/\s.heap.get? a=some {cls:=.type "list",data:=.seq b.toArray n}:=by
 rcases h with h|⟨b,n,h1,h2,h3⟩
 ·obtain⟨z,b,n,r,e⟩:=h.ok I.hok;exact⟨b,n,r,e⟩
 ·exact⟨b,n,h3,I.lR a _ h1⟩
def ZH(K:W.Frag):R2:=λx y H Q=>∃l b c a,x=.ref l/\y=.ref b/\xn K H l c/\xn K H b a/\c.length+a.length<=sizeLine/\∀p,H p=none->Q (.ref p) (upd H p<|.lst<|c++a)
def JF:kx X (binaryOp .Add) (ZH X.K):=by
 intro f s t H x y v u Q I i g h;obtain⟨l,b,z,w,rfl,rfl,k,m,B,q⟩:=h;cases i;cases g;obtain⟨c,n,r,e⟩:=k.is I;obtain⟨a,A,d,p⟩:=m.is I;have C:=r.length;have j:=d.length;refine PySem.P.add_list e p ?_ (by rw[aM,aM];omega);have o:c.toArray++a.toArray=(c++a).toArray:=by simp
 rw[o];exact⟨.ref _,_,I.SF (t':=s.toks) (r.append d)<|by rw[ao];omega,rfl,q _ I.fresh⟩
def j0:D->D->R D
 |.int i,.int j=>.ok (.int<|i+j)
 |.str i,.str j=>if i.length+j.length<=sizeLine then .ok (.str<|i++j)else .bad
 |.lst xs,.lst a=>if xs.length+a.length<=sizeLine then .ok (.lst<|xs++a)else .bad
 |_,_=>.bad
def ma:kU X E (binaryOp .Add) j0:=by
 refine⟨_,uH Vm<|uH Vn JF,λo H x y n m Q fr d c h=>?_⟩;unfold j0 at h;split at h;·cases d;cases c;exact .inl ⟨_,_,rfl,rfl,h H (.refl H) _<|.int _⟩
 ·cases d;cases c;split at h;·rename_i z;exact .inr (.inl ⟨_,_,rfl,rfl,z,h H (.refl H) _<|.str _⟩)
  ·exact h.elim
 ·split at h
  ·rename_i z;obtain⟨a,j,rfl,l,g⟩:=d.yJ;obtain⟨b,i,rfl,k,f⟩:=c.yJ;exact .inr (.inr ⟨a,b,j,i,rfl,rfl,l,k,by rw[g.length,f.length];exact z,λp e=>h _ (lV e) _ ((g.append f).rO e (fr p e))⟩)
  ·exact h.elim
 ·exact h.elim
def Cb(x:Str)(n:Int):Bool:=!(decide (n< -(2^63:Int))||decide (n≥2^63))&&decide (x.length*n.toNat<=1000000)&&decide (x.length<=1000000)&&decide (n<=1000000)
def VD:kx X (binaryOp .Mult) (λx y H Q=>∃i n,x=.str i/\y=.int n/\MulOk i n/\Q (.str<|Txt.mul i n) H):=by intro a s f H x y v u Q I d c h;obtain⟨i,j,rfl,rfl,e,q⟩:=h;obtain⟨t,rfl⟩:=d;obtain⟨g,rfl⟩:=c;exact SB.mul e λb k=>⟨.str _,H,I.tok _,⟨_,rfl⟩,q⟩
def mulOk_of{n:Int}(h:Cb x n=true):MulOk x n:=by
 unfold Cb at h;simp only[aQ,bw,f5]at h;obtain⟨⟨⟨b,g⟩,f⟩,a⟩:=h;refine⟨b,λe _=>?_,λ_ _=>?_⟩
 ·have d:(1:Int)<=n:=by omega
  have c:(1000000:Int)<=(2^63 - 1)/n:=by apply(Int.le_ediv_iff_mul_le<|by omega).mpr;have:(1000000:Int)*n<=1000000*1000000:=Int.mul_le_mul_of_nonneg_left a (by decide);omega
  omega
 ·have:sizeLine=16777216:=c7;unfold Builtin.Str.tooLong;simp only[cM];omega
def uj:D->D->Option Bool
 |.non,.non=>some true
 |.int i,.int j=>some (decide<|i=j)
 |.str i,.str j=>some (decide<|i=j)
 |.bl i,.bl j=>some (decide<|i=j)
 |.non,.int _=>some false
 |.int _,.non=>some false
 |.non,.str _=>some false
 |.str _,.non=>some false
 |.non,.bl _=>some false
 |.bl _,.non=>some false
 |.int _,.str _=>some false
 |.str _,.int _=>some false
 |_,_=>none
def jJ(x y:D):R D:=match uj x y with
 |some b=>.ok (.bl b)
 |none=>.bad
def oV(x y:D):R D:=match uj x y with
 |some b=>.ok (.bl<|!b)
 |none=>.bad
def Hu{K:W.Frag}{a:Addr->Prop}{H:Hp}{x y:V}{f e:D}{b:Bool}(d:Rep K a H x f)(c:Rep K a H y e)(h:uj f e=some b):DQ x y=true/\decide (x=y)=b:=by
 have k:∀{x i},Rep K a H x (.int i)->x=.int i:=λr=>by cases r;rfl
 have g:∀{x i},Rep K a H x (.str i)->x=.str i:=λr=>by cases r;rfl
 have l:∀{x i},Rep K a H x (.bl i)->x=.bl i:=λr=>by cases r;rfl
 have j:∀{x},Rep K a H x .non->x=.non:=λr=>by cases r;rfl
 unfold uj at h;split at h<;>first|(cases h;done)|(first|cases k d|cases g d|cases l d|cases j d)<;>(first|cases k c|cases g c|cases l c|cases j c)<;>(cases h;refine⟨rfl,?_⟩;simp)
def kH:kU X E (compareOp .Eq) jJ:=by
 refine⟨_,Vp,λi H x y g f Q fr c a h=>?_⟩;unfold jJ at h;cases q:uj g f with
 |none=>rw[q]at h;exact h.elim
 |some b=>rw[q]at h;obtain⟨e,d⟩:=Hu c a q;exact⟨e,by rw[d];exact h H (.refl H) _ (.bl b)⟩
def Cm:kU X E (compareOp .NotEq) oV:=by
 refine⟨_,VE,λi H x y g f Q fr c a h=>?_⟩;unfold oV at h;cases q:uj g f with
 |none=>rw[q]at h;exact h.elim
 |some b=>rw[q]at h;obtain⟨e,d⟩:=Hu c a q;exact⟨e,by rw[d];exact h H (.refl H) _ (.bl _)⟩
def yE:D->D->R D
 |.str i,.str j=>.ok (.bl<|Txt.contains j i)
 |_,_=>.bad
def Vt:kU X E (compareOp .In) yE:=by
 refine⟨_,Vu,λe H x y d c Q fr b a h=>?_⟩;unfold yE at h;split at h;·cases b;cases a;exact⟨_,_,rfl,rfl,h H (.refl H) _<|.bl _⟩
 ·exact h.elim
def i9.jY{K:W.Frag}{c:Addr->Prop}{H:Hp}{b:List V}{a:List D}(r:i9 K c H b a){i:Int}{d:D}(h:L2.jY a i=some d):∃v,L2.jY b i=some v/\Rep K c H v d:=by
 unfold L2.jY at h⊢;rw[r.length];cases q:qt a.length i with
 |none=>rw[q]at h;cases h
 |some j=>rw[q]at h;exact r.getD h
def jU:D->D->R D
 |.lst ds,.int i=>match L2.jY ds i with
  |some d=>.ok d
  |none=>.bad
 |.tup ds,.int i=>match L2.jY ds i with
  |some d=>.ok d
  |none=>.bad
 |.str z,.int i=>if z.length<=sizeLine then(match L2.jY z.cps.toList i with
  |some c=>.ok (.str ⟨#[c]⟩)
  |none=>.bad)else .bad
 |_,_=>.bad
abbrev iY(i:Nat)(k:Int):jq:=d2 jU (dV i) (iP k)
def lu:Al X E jU:=by
 refine⟨_,RG,λr H x y p o Q fr f e h=>?_⟩;unfold jU at h;split at h
 ·rename_i m i;cases e;cases q:L2.jY m i with
  |none=>rw[q]at h;exact h.elim
  |some d=>rw[q]at h;obtain⟨a,b,rfl,j,g⟩:=f.oU;obtain⟨v,l,k⟩:=i9.jY g q;exact .inl ⟨a,b,i,v,rfl,rfl,j,l,h H (.refl H) _ k⟩
 ·rename_i m i;cases e;cases q:L2.jY m i with
  |none=>rw[q]at h;exact h.elim
  |some d=>rw[q]at h;obtain⟨a,b,rfl,j,g⟩:=f.pX;obtain⟨v,l,k⟩:=i9.jY g q;exact .inr (.inl ⟨a,b,i,v,rfl,rfl,j,l,h H (.refl H) _ k⟩)
 ·rename_i z i;cases f;cases e;split at h
  ·rename_i n;cases q:L2.jY z.cps.toList i with
   |none=>rw[q]at h;exact h.elim
   |some c=>rw[q]at h;exact .inr (.inr ⟨z,i,c,rfl,rfl,n,q,h H (.refl H) _<|.str _⟩)
  ·exact h.elim
 ·exact h.elim
def jb(i){x:Str}{k j}{p c b}(hN:X.N[i]?=some x:=by rfl)(hv:qJ X.env.scope x:=by first|exact Or.inl rfl|exact Or.inr (Or.inl rfl)|exact Or.inr (Or.inr rfl))(d:(x==("__debug__":Str))=false:=by decide)(a:(x==("__classdict__":Str))=false:=by decide):DE X E (.Subscript (.Name x p) (.Constant (.int k) j c) b) (iY i k):=mJ lu (iO i hN hv d a) iX
def ZO:V->Option Int->Option Int->Hp->VK->Prop:=λx lo a H Q=>∃z,x=.str z/\z.length<=sizeLine/\Q (.str<|Txt.slice z lo a) H
def aaQ:qI X ZO:=by
 intro m s w H x v A y lo C B Q I n r p g h;obtain⟨z,rfl,a,q⟩:=h;obtain⟨t,rfl⟩:=n;refine⟨"str",_,PySem.F.slot_str_getitem.lookup,typeIs_str s z t,?_⟩;obtain⟨o,d,c,b⟩:=r;cases p with
 |none=>
  cases g with
  |none=>exact dm (l:=none) (u:=none) (st:=none) ⟨o,d,c,b⟩ rfl (fG ⟨aS (gL z none none) a,λe k=>⟨.str _,H,I.tok _,⟨_,rfl⟩,q⟩⟩)
  |int j u=>exact dm (l:=none) (u:=some (j,u)) (st:=none) ⟨o,d,c,b⟩ rfl (fG ⟨aS (gL z none<|some j) a,λe k=>⟨.str _,H,I.tok _,⟨_,rfl⟩,q⟩⟩)
 |int i f=>
  cases g with
  |none=>exact dm (l:=some (i,f)) (u:=none) (st:=none) ⟨o,d,c,b⟩ rfl (fG ⟨aS (gL z (some i) none) a,λe k=>⟨.str _,H,I.tok _,⟨_,rfl⟩,q⟩⟩)
  |int j u=>exact dm (l:=some (i,f)) (u:=some (j,u)) (st:=none) ⟨o,d,c,b⟩ rfl (fG ⟨aS (gL z (some i)<|some j) a,λe k=>⟨.str _,H,I.tok _,⟨_,rfl⟩,q⟩⟩)
def cutD(a:List D)(lo b:Option Int):List D:=(a.drop<|HT.jK a.length 0 lo).take (HT.jK a.length a.length b - HT.jK a.length 0 lo)
def i9.cut{K:W.Frag}{d:Addr->Prop}{H:Hp}{a:List V}{c:List D}(r:i9 K d H a c)(lo b:Option Int):i9 K d H (rA a lo b) (cutD c lo b):=by unfold rA cutD;rw[r.length];exact(r.drop _).take _
def wA:D->Option Int->Option Int->R D
 |.lst ds,lo,a=>.ok (.lst<|cutD ds lo a)
 |.str z,lo,a=>if z.length<=sizeLine then .ok (.str<|Txt.slice z lo a)else .bad
 |_,_,_=>.bad
def aaO:Au X E wA:=by
 refine⟨_,aaP.or aaQ,λk H x j lo f Q fr c h=>?_⟩;unfold wA at h;split at h
 ·obtain⟨a,d,rfl,i,g⟩:=c.oU;exact .inl ⟨a,d,rfl,i,λp b=>h _ (lV b) _<|(g.cut lo f).rO b (fr p b)⟩
 ·cases c;split at h;·rename_i e;exact .inr ⟨_,rfl,e,h H (.refl H) _<|.str _⟩
  ·exact h.elim
 ·exact h.elim
def lE:je
 |[.str z]=>if z.length<=sizeLine then .ok (.int z.length)else .bad
 |[.lst ds]=>.ok (.int ds.length)
 |[.tup ds]=>.ok (.int ds.length)
 |_=>.bad
def i9.one{K:W.Frag}{e:Addr->Prop}{H:Hp}{c:List V}{d:D}(r:i9 K e H c [d]):∃v,c=[v]/\Rep K e H v d:=by
 cases r with
 |cons a b=>cases b;exact⟨_,rfl,a⟩
def i9.two{K:W.Frag}{c:Addr->Prop}{H:Hp}{f:List V}{d e:D}(r:i9 K c H f [d,e]):∃v u,f=[v,u]/\Rep K c H v d/\Rep K c H u e:=by
 cases r with
 |cons a b=>obtain⟨u,rfl,q⟩:=i9.one b;exact⟨_,_,rfl,a,q⟩
def sT:q8 X E (.builtin "len") lE:=by
 refine⟨_,NQ.or NP,λi H f g Q fr r h=>?_⟩;unfold lE at h;split at h
 ·obtain⟨v,rfl,q⟩:=i9.one r;cases q;split at h;·rename_i e;exact .inl ⟨_,rfl,e,h H (.refl H) _<|.int _⟩
  ·exact h.elim
 ·obtain⟨v,rfl,q⟩:=i9.one r;obtain⟨a,b,rfl,d,c⟩:=q.oU;exact .inr ⟨a,b,rfl,.inl d,by rw[c.length];exact h H (.refl H) _ (.int _)⟩
 ·obtain⟨v,rfl,q⟩:=i9.one r;obtain⟨a,b,rfl,d,c⟩:=q.pX;exact .inr ⟨a,b,rfl,.inr d,by rw[c.length];exact h H (.refl H) _ (.int _)⟩
 ·exact h.elim
def oO:je
 |[.int i]=>.ok (.int<|if i<0 then -i else i)
 |_=>.bad
def xK:q8 X E (.builtin "abs") oO:=by
 refine⟨_,NJ,λc H a b Q fr r h=>?_⟩;unfold oO at h;split at h
 ·obtain⟨v,rfl,q⟩:=i9.one r;cases q;exact⟨_,rfl,h H (.refl H) _<|.int _⟩
 ·exact h.elim
def uD:je
 |[.int i,.int j]=>.ok (.int<|if j>i then j else i)
 |_=>.bad
def NV(b:X.calm=true):q8 X E (.builtin "max") uD:=by
 refine⟨_,NU b,λe H c d Q fr r h=>?_⟩;unfold uD at h;split at h
 ·obtain⟨v,u,rfl,q,a⟩:=i9.two r;cases q;cases a;exact⟨_,_,rfl,h H (.refl H) _<|.int _⟩
 ·exact h.elim
def intD:je
 |[.str z]=>match PySem.intText? z with
  |some n=>if z.length<=640 then .ok (.int n)else .bad
  |none=>.bad
 |_=>.bad
def vF:List D->Option (List Bool)
 |[]=>some []
 |.bl b::r=>(vF r).map (b:: ·)
 |_=>none
def Nj:je
 |[.lst ds]=>match vF ds with
  |some bs=>.ok (.bl<|bs.all id)
  |none=>.bad
 |_=>.bad
def Nl:je
 |[.lst ds]=>match vF ds with
  |some bs=>.ok (.bl<|bs.any id)
  |none=>.bad
 |_=>.bad
def aa4:D->je
 |.str i,[.str j]=>.ok (.bl<|Txt.startswith i j)
 |_,_=>.bad
def acQ:D->je
 |.str z,[.int i]=>if PadOk i=true then .ok (.str<|Txt.zfill z i)else .bad
 |_,_=>.bad
def PD:D->R D
 |.str z=>if z.length<=sizeLine then .ok (.str z)else .bad
 |.int i=>if i.natAbs.log2<1920 then .ok (.str<|toString i)else .bad
 |_=>.bad
def RL(out:Str):jq:=λ_=>if out.length<=sizeLine then .ok (.str out)else .bad
def RK(a:jq)(r:Str->jq)(out:Str):jq:=λb=>(a b).bind λx=>match x with
 |.str y=>if(out++y).length<=sizeLine then r (out++y) b else .bad
 |_=>.bad
end
def wE(K:W.Frag)(E:XK)(f:jq):TE:=λe H Q=>∃P g a b,RS K P g a H e b/\Aft K a E H (f b) (λd c=>∀v,Rep K a c v d->Q v c)
def wT(K:W.Frag)(E:XK)(f:Ev->R Bool):TT:=λc H Q=>∃P d b a,RS K P d b H c a/\Aft K b E H (f a) Q
def wG(K:W.Frag)(l:List Nat)(a:D->Ev->Option Ev):TG:=λv f H Q=>∃P h e g d,RS K P h e H f g/\Rep K e H v d/\∃c,a d g=some c/\∀b,Kp l f b->RS K P h e H b c->Q b H
def DE.w{X:Cx}{E:XK}{e:Expr}{f:jq}(h:DE X E e f):PE X e (wE X.K E f):=by obtain⟨t,p,r⟩:=h;intro b s c H Q I i;obtain⟨P,k,j,d,g,a⟩:=i;exact p b s c H Q I (r P k j H c d Q g a)
def DT.w{X:Cx}{E:XK}{e:Expr}{f:Ev->R Bool}(h:DT X E e f):PT X e (wT X.K E f):=by obtain⟨t,p,r⟩:=h;intro b s c H Q I i;obtain⟨P,k,j,d,g,a⟩:=i;exact p b s c H Q I (r P k j H c d Q g a)
def DG.w{X:Cx}{e:Expr}{l:List Nat}{a:D->Ev->Option Ev}(h:DG X e l a):PG X e (wG X.K l a):=by obtain⟨t,p,r⟩:=h;intro b s c H v u Q I i k;obtain⟨P,n,m,f,d,g,j,a⟩:=k;exact p b s c H v u Q I i (r P n m H c f v d Q g j a)
def sr(X:Cx)(a:List Expr)(f:Ev->R Bool):Prop:=PF X a (wT X.K (λ_ _ _=>False) f)
def qQ:sr X [] (λ_=>.ok true):=λb s c H Q I h=>by obtain⟨P,g,f,d,e,a⟩:=h;exact J4 b s c H Q I (a H<|.refl H)
def AY(h:DT X (λ_ _ _=>False) c f):sr X [c] f:=Wi h.w
def qo(b:Nat)(c:List Nat)(a:Ev):Ev:=List.replicate b .no++c.map λi=>match a[i]? with
 |some (.sh d)=>.sh d
 |_=>.no
def oz{b:Type}:R b->Option b
 |.ok a=>some a
 |_=>none
def tw{b:Type}:Option b->R b
 |some a=>.ok a
 |none=>.bad
def l0(a:D->Ev->Option Ev)(c:Ev->R Bool)(e:jq)(f:Ev):List D->Option (List D)
 |[]=>some []
 |d::r=>(a d f).bind λg=>(oz<|c g).bind λb=>if b=true then(oz<|e g).bind λv=>(l0 a c e f r).bind λh=>some (v::h)else l0 a c e f r
def kM(g:Ev->R (List D))(f:Nat)(h:List Nat)(a:D->Ev->Option Ev)(c:Ev->R Bool)(e:jq):Ev->R (List D):=λb=>(g b).bind λd=>if d.length<=sizeLine then tw (l0 a c e (qo f h b) d)else .bad
def Jx{b:Type}{r:R b}{a:b}(h:oz r=some a):r=.ok a:=by
 cases r with
 |ok x=>cases h;rfl
 |ex _ _ _=>cases h
 |bad=>cases h
def aab{K:W.Frag}{P:Addr->Prop}{B p:Hp}{o g:Addr->Prop}{t:L2.St}{m:Ev}{r:Hp}(s:RS K P B o r t m)(x:Xt o r g p)(u:kO K r p)(fr:∀a,p a=none->g a)(sub:∀a,g a->o a)(l:Nat)(n:List Nat):
    RS K o r g p (mI l n t) (qo l n m) where
 same:=u
 tt:=u.tt s.tt
 fresh:=fr
 sub:=sub
 pf:=s.fresh
 len:=by unfold mI qo;simp
 sh:=λj d h=>by
  unfold qo at h;by_cases c:j<l;·rw[ay<|by simpa using c,bG,av c]at h;cases h
  ·rw[aK<|by simpa using c,cC,aE]at h;cases q:n[j - l]? with
   |none=>rw[q]at h;cases h
   |some i=>
    rw[q]at h;have f:(match m[i]? with|some (.sh d)=>Sl.sh d|_=>.no)=.sh d:=Option.some.inj h;cases z:m[i]? with
    |none=>rw[z]at f;cases f
    |some y=>
     rw[z]at f;cases y with
     |sh e=>cases f;obtain⟨v,A,w⟩:=s.sh i d z;refine⟨v,?_,w.mv x⟩;unfold mI;rw[aK<|by simpa using c,cC,aE,q];show some ((t[i]?).getD none)=_;rw[A];rfl
     |no=>cases f
     |ow _=>cases f
 ow:=λj d h=>by
  unfold qo at h;by_cases c:j<l;·rw[ay<|by simpa using c,bG,av c]at h;cases h
  ·rw[aK<|by simpa using c,cC,aE]at h;cases q:n[j - l]? with
   |none=>rw[q]at h;cases h
   |some i=>rw[q]at h;have f:(match m[i]? with|some (.sh d)=>Sl.sh d|_=>.no)=.ow d:=Option.some.inj h;split at f<;>cases f
 apart:=λj k d C b h _ _ _=>by
  exfalso;unfold qo at h;by_cases c:j<l;·rw[ay<|by simpa using c,bG,av c]at h;cases h
  ·rw[aK<|by simpa using c,cC,aE]at h;cases q:n[j - l]? with
   |none=>rw[q]at h;cases h
   |some i=>rw[q]at h;have f:(match m[i]? with|some (.sh d)=>Sl.sh d|_=>.no)=.ow d:=Option.some.inj h;split at f<;>cases f
variable{X:Cx}{E:XK}{F B M:Expr}{L:List Expr}{A:Scope}{U:Pos}{S:Ev->R (List D)}{a:D->Ev->Option Ev}{O:Ev->R Bool}{N:jq}{cl:List<|Str×Addr}{tn:Nat}{Nt Nc:List Str}{ci l:List Nat}
def tO(X:Cx)(E:XK)(e:Expr)(f:Ev->R (List D)):Prop:=∃t:TE,PE X e t/\Ao X e t/\
 ∀P j b H d g (Q:VK),RS X.K P j b H d g->Aft X.K b E H (f g) (λi c=>∀p h,c p=none->i9 X.K b c h i->Q (.ref p) (upd c p<|.lst h))->t d H Q
def tO.dn(h:tO X E e f):DN X E e f:=let⟨t,p,_,r⟩:=h;⟨t,p,r⟩
def G4(hc:X.calm=true)(hi:DI X E F B S)(hg:∀K k r C,DG (X.comp A (Nt++Nc) cl K k r C) F l a)(hl:∀j∈l,j<tn)(hf:∀K k r C,sr (X.comp A (Nt++Nc) cl K k r C) L O)
    (he:∀K k r C,DE (X.comp A (Nt++Nc) cl K k r C) (λ_ _ _=>False) M N)
    (Y:closureFor A X.env=pure cl)(W:A.kind=.function)(Z:pJ A)(I:qv A)(tm:oH X cl Nc ci)(yA:Nt.length=tn)
    (hsub:∀x c,cl.lookup x=some c->X.env.cells.lookup x=some c)(hhas:∀x,((relabel A X.env).names.lookup x=some .cell\/(relabel A X.env).names.lookup x=some .free)->∃c,cl.lookup x=some c)
    (ur:∀x∈Nc,(relabel A X.env).names.lookup x=some .cell\/(relabel A X.env).names.lookup x=some .free)
    (hs:∀x,foldedSetIterable B X.env x=pure x):tO X E (.ListComp M [⟨F,B,L,0⟩] A U) (kM S tn ci a O N):=by
 obtain⟨wi,pi,ri⟩:=hi;refine⟨_,JW (te:=wE X.K (λ_ _ _=>False) N) (tc:=wT X.K (λ_ _ _=>False) O) (g:=wG X.K l a) hc pi (λK k r C=>(hg K k r C).w) hf (λK k r C=>(he K k r C).w) Y W Z I tm yA hsub hhas ur hs,WZ (te:=wE X.K (λ_ _ _=>False) N) (tc:=wT X.K (λ_ _ _=>False) O) (g:=wG X.K l a) hc pi (λK k r C=>(hg K k r C).w) hf (λK k r C=>(he K k r C).w) Y W Z I tm yA hsub hhas ur hs,λP H0 al H σ ρ Q s h=>ri _ _ _ _ _ _ _ s<|Aft.mono (Aft.split h) λT H1 s1 h1 J wk=>?_⟩;intro p hp;by_cases hz:T.length<=sizeLine
 ·rw[av hz]at h1;cases q:l0 a O N (qo tn ci ρ) T with
  |none=>rw[q]at h1;exact h1.elim
  |some out=>
   rw[q]at h1;have s2:=s.grow s1
   let f:Addr->Prop:=λb=>al b/\b≠p
   refine⟨λi m G=>∃e rest d,out=e++rest/\l0 a O N (qo tn ci ρ) (T.drop i)=some rest/\G p=some (.lst d)/\i9 X.K f G d e/\kO X.K H1 G/\(∀b,G b=none->f b)/\m=T.length - i/\i<=T.length/\e.length<=i,⟨_,[],out,[],rfl,q,kv,.nil,lV hp,λb hb=>?_,rfl,bM _,ag _⟩,?_⟩
   ·have z:b≠p:=λw=>by rw[w,kv]at hb;cases hb
    rw[jA z]at hb;exact⟨s2.fresh b hb,z⟩
   ·rintro i m G ⟨e,rest,d,e1,e2,e3,e4,e5,e6,rfl,e7,e8⟩ _
    have LV:Xt al H1 f G:=λb o n hb w=>⟨⟨hb,mZ w hp⟩,e5.at' _ _ n w⟩;obtain⟨w1,w2⟩:=wk f G LV e6;by_cases hi:i<T.length
    ·right;have ed:T[i]?=some T[i]:=au hi;obtain⟨go,yl⟩:=w1 i _ ed;refine⟨go,λx r y=>?_⟩;obtain⟨rfl,rx⟩:=yl x r y;rw[cY hi]at e2;unfold l0 at e2;obtain⟨EO,a1,a2⟩:=aL.mp e2;obtain⟨b,a3,a4⟩:=aL.mp a2;refine⟨al,H1,f,qo tn ci ρ,T[i],aab s2 LV e5 e6 (λ_ z=>z.1) tn ci,rx,EO,a1,λσ2 kp k=>⟨⟨?_,λj hj=>kp.2 j λw=>absurd (hl j w)<|by omega⟩,al,H1,f,EO,k,?_⟩⟩;·rw[kp.1,xM]
     ·rw[Jx a3];intro H5 V;cases b with
      |false=>rw[aw ax]at a4⊢;exact⟨T.length - (i+1),by omega,e,rest,d,e1,a4,V.at' _ _ oy e3,e4.up V,e5.trans V,λb hb=>e6 b<|V.free hb,rfl,hi,by omega⟩
      |true=>
       rw[av rfl]at a4⊢;obtain⟨v,a5,a6⟩:=aL.mp a4;obtain⟨vs,a7,a8⟩:=aL.mp a6;cases a8;refine⟨al,H1,f,EO,k.grow V,?_⟩;rw[Jx a5];intro H6 s6 u ru;have A6:=s6.at' _ _ oy (V.at' _ _ oy e3);have x6:Xt f H6 f (upd H6 p (.lst (d++[u]))):=λc o _ hc w=>⟨hc,by rw[jA hc.2];exact w⟩;refine⟨d,A6,by rw[e4.length];omega,T.length - (i+1),by omega,e++[v],vs,d++[u],by rw[e1];simp,a7,kv,((((e4.up V).up s6).append (.cons ru .nil)).mv x6),?_,λc hc=>?_,rfl,hi,by rw[ao];simp;omega⟩
       ·exact⟨λc o n w=>by
         rw[jA<|mZ w hp];exact s6.at' _ _ n (V.at' _ _ n<|e5.at' _ _ n w),λc w=>by
         by_cases z:c=p;· rw[z];exact hp
         · rw[jA z]at w;exact e5.fr c (V.fr c (s6.fr c w)),λt=>(s6.tt (V.tt (e5.tt t))).upd (yK A6).1 (yK A6).2⟩
       ·have z:c≠p:=λw=>by rw[w,kv]at hc;cases hc
        rw[jA z]at hc;exact e6 c (V.free<|s6.free hc)
    ·left;have ei:i=T.length:=by omega
     rw[dw<|by omega]at e2;cases e2;rw[bf]at e1;subst e1;refine⟨w2 i<|by omega,?_⟩
     let H':Hp:=λb=>if b=p then none else G b
     have hH:upd H' p (.lst d)=G:=by
      funext b;by_cases z:b=p;·subst z;rw[kv,e3]
      ·rw[jA z];show(if b=p then none else G b)=_;rw[aw z]
     have sm:kO X.K H1 H':=⟨λb o n w=>by
      show(if b=p then none else G b)=_;rw[aw<|mZ w hp];exact e5.at' _ _ n w,λb w=>by
      by_cases z:b=p;· rw[z];exact hp
      · have w':(if b=p then none else G b)=none:=w;rw[aw z]at w';exact e5.fr b w',λt=>(e5.tt t).off (yK e3).1 (yK e3).2 λb z=>by show(if b=p then none else G b)=_;rw[aw z]⟩
     rw[<-hH];refine h1 H' sm p d (by show(if p=p then none else G p)=_;rw[av rfl]) (e4.mv λb o _ hb w=>⟨hb.1,?_⟩);show(if b=p then none else G b)=_;rw[aw hb.2];exact w
 ·rw[aw hz]at h1;exact h1.elim
def A0(v:X.calm=true)(s:DI X E F B S)(t:∀i h m C,DG (X.comp A Nt [] i h m C) F l a)(r:∀j∈l,j<tn)(hf:∀i h m C,sr (X.comp A Nt [] i h m C) L O)
 (u:∀i h m C,DE (X.comp A Nt [] i h m C) (λ_ _ _=>False) M N)
 (b:∀y∈A.names,y.2≠.free)(g:A.kind=.function)(d:pJ A)(f:qv A)(o:Nt.length=tn)
 (q:∀x,foldedSetIterable B X.env x=pure x):tO X E (.ListComp M [⟨F,B,L,0⟩] A U) (kM S tn [] a O N):=by
  have e:relabel A X.env=A:=by
   have:A.names.map (λ(n,k)=>if(k==NameKind.free&&X.env.scope.kind==.function&&X.env.kindOf n==some .cell)then(n,NameKind.cell)else(n,k))=A.names:=by
    refine map_eq_self λy p=>?_;obtain⟨n,k⟩:=y;have:(k==NameKind.free)=false:=by simpa using b _ p
    simp[this]
   unfold relabel;rw[this]
  refine G4 (cl:=[]) (Nc:=[]) (ci:=[]) v s (by rw[bf];exact t) r (by rw[bf];exact hf) (by rw[bf];exact u) (closureFor_none b) g d f .nil o (λx c z=>nomatch z) (λx z=>?_) (λx z=>nomatch z) q;rw[e]at z;rcases z with z|z;·exact absurd rfl (d _<|bz z)
  ·exact absurd rfl (b _<|bz z)
def rB(q:X.calm=true)(n:DI X E F B S)(o:∀g f h C,DG (X.comp A Nt [] g f h C) F l a)(m:∀j∈l,j<tn)(hf:∀g f h C,sr (X.comp A Nt [] g f h C) L O)
 (p:∀g f h C,DE (X.comp A Nt [] g f h C) (λ_ _ _=>False) M N)
 (d:∀y∈A.names,y.2≠.free)(c:A.kind=.function)(e:pJ A)(b:qv A)(i:Nt.length=tn)
 (k:∀x,foldedSetIterable B X.env x=pure x:=by intro _;rfl):DN X E (.ListComp M [⟨F,B,L,0⟩] A U) (kM S tn [] a O N):=(A0 q n o m hf p d c e b i k).dn
def xi(x:Str):It:=⟨λi _=>i<x.cps.size,λi H v b=>b=H/\∃c,x.cps[i]?=some c/\v=.str ⟨#[c]⟩,λi _=>x.cps.size<=i⟩
def abZ{P:Program}{w:World}{K:W.Frag}{F:Expr}(x:Str)(t:Tok)(n:Addr):Turn P w K F (xi x) [n] n (λi h=>h.IsStrIter n "str_ascii_iterator" x t i) where
 mem:=by simp
 obj:=λi h g b p=>by
  have e:b=n:=by simpa using p
  subst e;obtain⟨o,e,c,d⟩:=g;exact⟨o,e,λv z=>by rw[d]at z;cases z⟩
 keep:=λi h u g k=>let⟨o,ho,r⟩:=g;⟨o,k n (by simp) o ho,r⟩
 item:=by intro X G y J f i m s σ H E I hf g C;subst G y J;obtain⟨Z,Y,f2,V,T,Q⟩:=hf n (by simp);have j:i<x.cps.size:=C;refine wpAny_pyNext_ascii_item g (c:=x.cps[i]) (by simp[j]) λu q sb=>?_;have I1:Inv X m σ H {s with heap:=u,toks:=s.toks+1}:=I.turned (λb o p e=>(sb.2 b p).trans e) Z Y V T Q;obtain⟨o,e,c,d⟩:=id q;exact⟨_,rfl,rE (s:={s with heap:=u,toks:=s.toks+1}) e c d (by decide) ⟨.str ⟨#[x.cps[i]]⟩,H,I1,⟨_,rfl⟩,⟨rfl,x.cps[i],by simp[j],rfl⟩,q,λb p=>(hf b p).1⟩⟩
 done:=by intro X G y J f i m s σ H E I hf g C;subst G y J;obtain⟨Z,Y,f2,V,T,Q⟩:=hf n (by simp);have j:x.cps.size<=i:=C;exact wpAny_pyNext_ascii_end (I.ok.hd f) g (by simp[j]) λu eb=>⟨rfl,I.turned (t':=s.toks) (λb o p e=>eb b o p e) Z Y V T Q⟩
 self:=λ_ _ _ _ _ g h=>wpAny_pyIter_striter_ascii g h
def ab6{P:Program}{w:World}{K:W.Frag}{F:Expr}(x:Str)(t:Tok)(n:Addr):Turn P w K F (xi x) [n] n (λi h=>h.IsStrIter n "str_iterator" x t i) where
 mem:=by simp
 obj:=λi h g b p=>by
  have e:b=n:=by simpa using p
  subst e;obtain⟨o,e,c,d⟩:=g;exact⟨o,e,λv z=>by rw[d]at z;cases z⟩
 keep:=λi h u g k=>let⟨o,ho,r⟩:=g;⟨o,k n (by simp) o ho,r⟩
 item:=by intro X G y J f i m s σ H E I hf g C;subst G y J;obtain⟨Z,Y,f2,V,T,Q⟩:=hf n (by simp);have j:i<x.cps.size:=C;refine wpAny_pyNext_wide_item g (c:=x.cps[i]) (by simp[j]) λu q sb=>?_;have I1:Inv X m σ H {s with heap:=u,toks:=s.toks+1}:=I.turned (λb o p e=>(sb.2 b p).trans e) Z Y V T Q;obtain⟨o,e,c,d⟩:=id q;exact⟨_,rfl,rE (s:={s with heap:=u,toks:=s.toks+1}) e c d (by decide) ⟨.str ⟨#[x.cps[i]]⟩,H,I1,⟨_,rfl⟩,⟨rfl,x.cps[i],by simp[j],rfl⟩,q,λb p=>(hf b p).1⟩⟩
 done:=by intro X G y J f i m s σ H E I hf g C;subst G y J;obtain⟨Z,Y,f2,V,T,Q⟩:=hf n (by simp);have j:x.cps.size<=i:=C;exact wpAny_pyNext_wide_end (I.ok.hd f) g (by simp[j]) λu eb=>⟨rfl,I.turned (t':=s.toks) (λb o p e=>eb b o p e) Z Y V T Q⟩
 self:=λ_ _ _ _ _ g h=>wpAny_pyIter_striter_wide g h
variable{e:Expr}{f:jq}
def Ra(c:TE):TI:=λb H R=>c b H λx d=>∃z,x=.str z/\R (xi z) d
def Wv{l:Expr}{k:TE}(w:PE X l k):PI X F l (Ra k):=by
 intro d s p H R I h;refine jh (w d s p H _ I h) λv c i=>?_;obtain⟨x,j,g,r,u⟩:=i;obtain⟨z,e,q⟩:=u;subst e;obtain⟨t,rfl⟩:=r;have n:∀b∈[c.heap.objs.size],rh X d j b:=λb y=>by
  have e:b=c.heap.objs.size:=by simpa using y
  subst e;exact g.td (ag _) (g.hok.fresh<|ag _)
 cases m:z.cps.all (· <128)with
 |true=>refine wpAny_pyIter_ascii m ?_;exact⟨c.heap.objs.size,[c.heap.objs.size],_,_,j,rfl,g.kept (t':=c.toks) λb o e=>ah _ e,abZ z t _,⟨_,aH _ rfl,rfl,rfl⟩,n,q⟩
 |false=>refine wpAny_pyIter_wide m ?_;exact⟨c.heap.objs.size,[c.heap.objs.size],_,_,j,rfl,g.kept (t':=c.toks) λb o e=>ah _ e,ab6 z t _,⟨_,aH _ rfl,rfl,rfl⟩,n,q⟩
def signs(z:Str):List D:=z.cps.toList.map λc=>.str ⟨#[c]⟩
def ack{K:W.Frag}{k:Addr->Prop}{H:Hp}{z:Str}:Wk K k H (xi z) (signs z):=by
 intro j o x fr;refine⟨λi d h=>?_,λi h=>?_⟩
 ·unfold signs at h;rw[aE,aZ]at h;cases q:z.cps[i]? with
  |none=>rw[q]at h;cases h
  |some c=>rw[q]at h;cases h;refine⟨(br.mp q).1,λy m w=>⟨w.1,?_⟩⟩;obtain⟨n,b,g⟩:=w.2;rw[q]at b;cases b;subst g;exact .str _
 ·unfold signs at h;show z.cps.size<=i;simpa using h
def ke(d:D):R (List D):=match d with
 |.lst ds=>.ok ds
 |.tup ds=>.ok ds
 |.str z=>.ok (signs z)
 |_=>.bad
def mu(u:DE X E e f):DI X E F e (λj=>(f j).bind ke):=by
 obtain⟨t,p,r⟩:=u;refine⟨_,Ka (Wr p)<|Ka (Ww p)<|Wv p,λP G C H x j R s h=>?_⟩;dsimp only at h;cases q:f j with
 |bad=>rw[q]at h;exact h.elim
 |ex c y o=>rw[q]at h;exact .inl (r _ _ _ _ _ _ _ s<|by rw[q];exact h)
 |ok d=>
  rw[q]at h;cases d with
  |lst o=>left;refine r _ _ _ _ _ _ _ s ?_;rw[q];intro i g v b;obtain⟨a,k,n,m,w⟩:=b.oU;subst n;exact⟨a,rfl,⟨k,m⟩,h i g _<|ach b⟩
  |tup o=>right;left;refine r _ _ _ _ _ _ _ s ?_;rw[q];intro i g v b;obtain⟨a,k,n,m,w⟩:=b.pX;subst n;exact⟨a,rfl,⟨k,m⟩,h i g _<|acm b⟩
  |str z=>right;right;refine r _ _ _ _ _ _ _ s ?_;rw[q];intro i g v b;cases b;exact⟨z,rfl,h i g _ ack⟩
  |_=>exact(h:False).elim
def tyName:D->Option String
 |.non=>some "NoneType"
 |.bl _=>some "bool"
 |.int _=>some "int"
 |.str _=>some "str"
 |.lst _=>some "list"
 |.tup _=>some "tuple"
 |_=>none
def ux:List String:=["NoneType","bool","int","str","list","tuple"]
def Si(K):∀T∈ux,∀n∈ux,W.kitOne K (.type T) (.type n)=some (T==n||(T=="bool"&&n=="int")):=by intro T hT n b;simp only[ux,aD,cm,fA]at hT b;rcases hT with rfl|rfl|rfl|rfl|rfl|rfl<;>rcases b with rfl|rfl|rfl|rfl|rfl|rfl<;>first|rfl|kernel_rfl
def isD:je
 |[d,.ty n]=>match tyName d with
  |some T=>if ux.contains n then .ok (.bl<|T==n||(T=="bool"&&n=="int"))else .bad
  |none=>.bad
 |_=>.bad
def ZJ(X:Cx):List V->Hp->VK->Prop:=λd H Q=>∃x n T,d=[x,.ty n]/\ux.contains T=true/\ux.contains n=true/\
 ((x=.non/\T="NoneType")\/(∃b,x=.bl b/\T="bool")\/(∃i,x=.int i/\T="int")\/(∃z,x=.str z/\T="str")\/(∃a c,x=.ref a/\kP X.K H a c/\T="list")\/(∃a c,x=.ref a/\mi X.K H a c/\T="tuple"))/\Q (.bl<|T==n||(T=="bool"&&n=="int")) H
def NM:mF X (.builtin "isinstance") (ZJ X):=by
 intro j s C H Y Z Q I r h;obtain⟨x,n,T,rfl,P,K,V,q⟩:=h;obtain⟨u,c,rfl,g,J⟩:=vals2 r;cases J;have e:=Si X.K T (by simpa using P) n (by simpa using K);have d:∀tk,EP X j C Q (.bool<|T==n||(T=="bool"&&n=="int")) {s with toks:=tk}:=λtk=>⟨.bl _,H,I.tok tk,rfl,q⟩;rcases V with⟨rfl,rfl⟩|⟨b,rfl,rfl⟩|⟨i,rfl,rfl⟩|⟨z,rfl,rfl⟩|⟨a,G,rfl,v,rfl⟩|⟨a,G,rfl,v,rfl⟩;·cases g;exact fN W.kitx_none I.lR True.intro e (λz=>nomatch z) d
 ·cases g;exact fN W.kitx_bool I.lR True.intro e (λz=>nomatch z) d
 ·obtain⟨t,rfl⟩:=g;exact fN W.kitx_int I.lR True.intro e (λz=>nomatch z) d
 ·obtain⟨t,rfl⟩:=g;exact fN W.kitx_str I.lR True.intro e (λz=>nomatch z) d
 ·cases g;obtain⟨p,_,m,_⟩:=I.list v;obtain⟨o,k,y,w,_⟩:=m;exact fN W.kitx_list I.lR ⟨o,y,w⟩ e (λz=>nomatch z) d
 ·cases g;obtain⟨p,_,m,_⟩:=I.tuple v;obtain⟨o,y,w,_⟩:=m;exact fN W.kitx_tuple I.lR ⟨o,y,w⟩ e (λz=>nomatch z) d
def NO:q8 X E (.builtin "isinstance") isD:=by
 refine⟨_,NM,λm H j k Q fr r h=>?_⟩;unfold isD at h;split at h
 ·rename_i d n;obtain⟨v,u,rfl,q,i⟩:=i9.two r;cases i;cases e:tyName d with
  |none=>rw[e]at h;exact h.elim
  |some T=>
   rw[e]at h;dsimp only at h;split at h
   ·rename_i g;have c:=h H (.refl H) _ (.bl _);cases q with
    |non=>cases e;exact⟨_,n,_,rfl,rfl,g,.inl ⟨rfl,rfl⟩,c⟩
    |bl b=>cases e;exact⟨_,n,_,rfl,rfl,g,.inr<|.inl ⟨b,rfl,rfl⟩,c⟩
    |int b=>cases e;exact⟨_,n,_,rfl,rfl,g,.inr<|.inr<|.inl ⟨b,rfl,rfl⟩,c⟩
    |str b=>cases e;exact⟨_,n,_,rfl,rfl,g,.inr<|.inr<|.inr<|.inl ⟨b,rfl,rfl⟩,c⟩
    |lst p _=>cases e;exact⟨_,n,_,rfl,rfl,g,.inr<|.inr<|.inr<|.inr<|.inl ⟨_,_,rfl,p.elim (λz=>.inl z.2) KL.sq,rfl⟩,c⟩
    |tup p _=>cases e;exact⟨_,n,_,rfl,rfl,g,.inr<|.inr<|.inr<|.inr<|.inr ⟨_,_,rfl,p.elim (λz=>.inl<|.inl z.2) .inr,rfl⟩,c⟩
    |_=>cases e
   ·exact h.elim
 ·exact h.elim
def AG:bootBuiltins "isinstance"=some (.builtin "isinstance"):=by decide+kernel
def sS:bootBuiltins "len"=some (.builtin "len"):=by decide+kernel
def xJ:bootBuiltins "abs"=some (.builtin "abs"):=by decide+kernel
def NC:bootBuiltins "max"=some (.builtin "max"):=by decide+kernel
def NB:bootBuiltins "int"=some (.type "int"):=by decide+kernel
def NA:bootBuiltins "bool"=some (.type "bool"):=by decide+kernel
def NG:bootBuiltins "tuple"=some (.type "tuple"):=by decide+kernel
def AH:bootBuiltins "list"=some (.type "list"):=by decide+kernel
variable{x:Str}
inductive E2(mg:kd)(x:Str):D->Prop
 |int {i:Int} {t:Tok}:mg x=some (.int i t)->E2 mg x (.int i)
 |str {z:Str} {t:Tok}:mg x=some (.str z t)->E2 mg x (.str z)
end P2
namespace Fx
open PySem
variable{c:Program}{w:World}{A:Around}{E:jP}{h:Heap}{g:Array GenState}{d:Drawn}{t:Nat}{f:OsState}
variable{l q:Str}{C N:Addr}{bs e B:List Value}{b:Bool}{j:List Str}{sub:List Value}{z:Bool}{i:Option Bool}{dd:Option Addr}{y v r p m:Option Value}{a:String}
def Oc{R:Result->Shared->Prop}(F:h.get? C=some (excClassObj l q C N bs e b j sub z i dd y v r p m a))(k:e.contains (.type "object")=true)
 (u:h.get? x=some o)(D:o.cls=.ref C)(G:R (.ok<|.ret<|.ref C) ⟨h,g,d,t,f⟩):
   codeAny (model c w) A (.call (.builtin "getset_descriptor.__get__") ⟨[.builtin "object.__class__",.ref x,.ref C],[]⟩) R ⟨h,g,d,t,f⟩:=by
  have s:(⟨h,g,d,t,f⟩:Shared).TypeIs (.builtin "object.__class__") "getset_descriptor":=dH;have ow:".".intercalate ("object.__class__".cutAt '.').dropLast="object":=by decide+kernel
  have n:(Value.ref C::e).contains (.type<|".".intercalate ("object.__class__".cutAt '.').dropLast)=true:=by rw[ow,List.contains_cons,k,iG]
  refine fC PySem.F.slot_gs_get.plain PySem.F.entry_gs_get (PySem.F.slot_gs_get.check _ _ _ _ _ _ _ _ s (PySem.F.args_gs_get _ _ _) ?_);repeat(any_goals(first|assumption|(with_reducible refine dI u ?_;rw[D])|(with_reducible refine wpAny_isSubtype_exc F ?_;rw[n])|wp_step))
  refine⟨Code.quiet_builtin _<|by decide+kernel,cy PySem.F.entry_object_class ?_⟩;repeat(any_goals(first|assumption|(with_reducible refine dI u ?_;rw[D])|wp_step))
def Ob{Q:Fin->Shared->Prop}(F:h.get? C=some (excClassObj l q C N bs e b j sub z i dd y v r p m a))(k:e.contains (.type "object")=true)
 (u:rl h C "__class__"<|some<|.builtin "object.__class__")(n:h.get? x=some o)(s:o.cls=.ref C)(G:Q (.done<|.ret<|.ref C) ⟨h,g,d,t,f⟩):
   wpAny (model c w) A (Builtin.«object.__getattribute__» ⟨[.ref x,.str "__class__" tk],[]⟩) Q E ⟨h,g,d,t,f⟩:=by
  have D:(⟨h,g,d,t,f⟩:Shared).TypeIs (.builtin "object.__class__") "getset_descriptor":=dH;have J:=dH;have I:=PySem.F.slot_gs_get.lookup;have H:=PySem.F.slot_gs_set.lookup;repeat(any_goals(first|assumption|(with_reducible refine dI n ?_;rw[s])|with_reducible refine u _ _ _ _ _ _ _ _ ?_|wp_step))
  refine Oc F k n s ?_;repeat(any_goals(first|assumption|wp_step))
def N0{Q:Unit->Shared->Prop}(H:h.get? C=some (excClassObj l q C N bs e b j sub z i dd y v r p m a))
 (n:e.contains (.type "BaseException")=true)(u:h.get? x=some o)(G:o.cls=.ref C)(D:Q () ⟨h,g,d,t,f⟩):wpAny M A (checkBuiltinCall "BaseException.__getattribute__" ⟨[.ref x,nv],[]⟩) Q E ⟨h,g,d,t,f⟩:=by
  have F:builtinKind "BaseException.__getattribute__"=some .slot:=by decide+kernel
  have k:splitId "BaseException.__getattribute__"=some ("BaseException","__getattribute__"):=by decide+kernel
  have s:(Value.ref C::e).contains (.type "BaseException")=true:=by rw[List.contains_cons,n,iG]
  have I:=PySem.F.args_bexc_ga (.ref x) nv;simp only[checkBuiltinCall,F,k];refine ae ?_;unfold isInstance;repeat(first|(with_reducible refine dI u ?_;rw[G])|(with_reducible refine wpAny_isSubtype_exc H ?_;rw[s])|wp_step)
  exact D
def Oa{Q:jP}(u:h.get? C=some (excClassObj l q C N bs e b j sub z i dd y v r p m a))(I:e.contains (.type "BaseException")=true)(n:e.contains (.type "object")=true)
 (H:rl h C "__getattribute__"<|some<|.builtin "BaseException.__getattribute__")(G:rl h C "__getattr__" none)(F:rl h C "__class__"<|some<|.builtin "object.__class__")(k:h.get? x=some o)(s:o.cls=.ref C)(K:Q (.ref C) ⟨h,g,d,t,f⟩):
   wpAny (model c w) A (getAttrBy (.ref x) (.str "__class__" tk) false) Q E ⟨h,g,d,t,f⟩:=by
  have D:=PySem.F.attr_ValueError;have L:=D.ga.bind (.ref x);have z2:(Value.builtin "BaseException.__getattribute__"==Value.builtin "object.__getattribute__")=false:=by decide+kernel
  have J:(onTheHeap (Value.ref C)&&Value.builtin "BaseException.__getattribute__"==Value.builtin "object.__getattribute__")=false:=by rw[z2];rfl
  repeat(any_goals(first|assumption|(with_reducible refine dI k ?_;rw[s])|with_reducible refine H _ _ _ _ _ _ _ _ ?_|with_reducible refine G _ _ _ _ _ _ _ _ ?_|wp_step))
  refine fC D.ga.plain PySem.F.entry_bexc_ga (N0 u I k s<|Ob u n F k s ?_);repeat(any_goals(first|assumption|wp_step))
def N9{Q:Option Value->Shared->Prop}(H:h.get? C=some (excClassObj l q C N bs e b j sub z i dd y v r p m a))(G:e.contains (.type "BaseException")=true)(k:e.contains (.type "object")=true)
 (u:rl h C "__getattribute__"<|some<|.builtin "BaseException.__getattribute__")(s:rl h C "__getattr__" none)(n:rl h C "__class__"<|some<|.builtin "object.__class__")(D:h.get? x=some o)(F:o.cls=.ref C)(I:Q (some<|.ref C) ⟨h,g,d,t+1,f⟩):
   wpAny (model c w) A (getAttr? (.ref x) "__class__") Q E ⟨h,g,d,t,f⟩:=by
  unfold getAttr? getAttrBy?;repeat(any_goals(first|assumption|with_reducible apply Oa H G k u s n D F|wp_step))
end Fx
namespace L2
open PySem PySem.Spec PyProof.Rows
structure xw(K:W.Frag)(C:Addr):Prop where
 ob:∀h:Heap,K.In h->∃nm q N bs bm Qu sn sub ab col dd k0 k1 k2 k3 k5 newId,h.get? C=some (excClassObj nm q C N bs bm Qu sn sub ab col dd k0 k1 k2 k3 k5 newId)/\bm.contains (.type "BaseException")=true/\bm.contains (.type "object")=true
 ga:W.findIn K (.ref C) "__getattribute__"=some (some<|.builtin "BaseException.__getattribute__")
 gn:W.findIn K (.ref C) "__getattr__"=some none
 cl:W.findIn K (.ref C) "__class__"=some (some<|.builtin "object.__class__")
structure FO(K:W.Frag)(C:Addr):Prop where
 cls:W.excIn K C [.type "ValueError",.type "Exception",.type "BaseException",.type "object"] "ValueError.__new__"=true
 kp:W.keepIn K (.ref C)=true
 ga:W.findIn K (.ref C) "__getattribute__"=some (some<|.builtin "BaseException.__getattribute__")
 gn:W.findIn K (.ref C) "__getattr__"=some none
 cl:W.findIn K (.ref C) "__class__"=some (some<|.builtin "object.__class__")
def Sj{K:W.Frag}{x C:Addr}(c:xw K C):W.KitX K (.ref x) (.ref C) (λh=>∃o,h.get? x=some o/\o.cls=.ref C) where
 ty:=λM h k p=>by obtain⟨o,l,j⟩:=p;exact j▸(W.Looks.ld l).andThen .now
 it:=λM h k p=>by obtain⟨v,q,N,bs,I,a,r,sub,J,f,dd,H,G,F,D,B,y,b,_⟩:=c.ob h k;intro A' Z E' X P O;unfold isType loadHead;exact ae (wpAny_loadPart (P _ _ b)<|af O)
 ne:=λh L dd R n V k i=>by obtain⟨v,q,N,bs,I,a,r,sub,J,f,m,H,G,F,D,B,y,b,_⟩:=c.ob h k;refine Bool.eq_false_iff.mpr λz=>?_;have e:C=L:=Value.ref.inj (dN.mp z);subst e;have z:=bD Obj.cls (Option.some.inj<|b.symm.trans i);have z2:Value.type "type"=Value.type "tuple":=z;exact absurd (Value.type.inj z2) (by decide)
 ca:=λ{u w A E Q s} k p S=>by obtain⟨o,l,j⟩:=p;obtain⟨v,q,N,bs,I,a,r,sub,J,f,m,H,G,F,D,B,y,b,U,T⟩:=c.ob _ k;obtain⟨h,g,d,t,Y⟩:=s;exact Fx.N9 b U T (El k c.ga) (El k c.gn) (El k c.cl) l j S
variable{X:Cx}
def NN:mF X (.builtin "isinstance") (λg H Q=>∃a c d f u b,g=[.ref a,f]/\H a=some (x8 a c d)/\xw X.K c/\(∀z,RelV f z->z=u)/\W.kitOne X.K (.ref c) u=some b/\Q (.bl b) H):=by intro i s v H g x Q I r h;obtain⟨a,c,d,f,u,b,rfl,o,j,un,e,q⟩:=h;obtain⟨y,k,rfl,m,l⟩:=vals2 r;cases un k l;cases m;obtain⟨⟨n,w,t,p,B,A⟩,_,_⟩:=I.hok a _ o;exact fN (Sj j) I.lR ⟨n,t,p⟩ e (λz=>nomatch z) λtk=>⟨.bl b,H,I.tok tk,rfl,q⟩
end L2
namespace P2
open PySem L2 PySem.Spec
open PyProof.Rows hiding St
section
variable{X:Cx}{E:XK}{x:Str}{e:Pos}
def NY(h:mF X f r)(i:mF X f r'):mF X f (λb H Q=>r b H Q\/r' b H Q):=
 λa s c H b d Q I g q=>q.elim (h a s c H b d Q I g) (i a s c H b d Q I g)
def GJ:D->Option Value
 |.ref C=>some (.ref C)
 |.ty T=>some (.type T)
 |_=>none
def mT(q:Addr->Value->Option Bool)(a:List D):R D:=match a with
 |[.exc c _ _,d]=>(match(GJ d).bind (q c)with
  |some b=>.ok (.bl b)
  |none=>.bad)
 |a=>isD a
def xg(K:W.Frag)(q:Addr->Value->Option Bool):Prop:=∀c u b,q c u=some b->xw K c/\W.kitOne K (.ref c) u=some b
def AJ(t:xg X.K q):q8 X E (.builtin "isinstance") (mT q):=by
 obtain⟨G,D,B⟩:=NO (X:=X) (E:=E);refine⟨_,NY NN D,λF H m A Q fr r h=>?_⟩;unfold mT at h;split at h
 ·rename_i c L M d;obtain⟨v,u,rfl,p,f⟩:=i9.two r;left;cases z:(GJ d).bind (q c)with
  |none=>rw[z]at h;exact h.elim
  |some b=>
   rw[z]at h;have s:=h H (.refl H) _ (.bl _);obtain⟨w,g,z2⟩:=aL.mp z;obtain⟨l,o⟩:=t _ _ _ z2;have i:∃a j,v=.ref a/\H a=some (x8 a c j):=by
    cases p with
    |exc n f K J I=>exact⟨_,_,rfl,f⟩
    |Ho n f=>exact⟨_,_,rfl,f⟩
   obtain⟨a,j,rfl,i⟩:=i;refine⟨a,c,j,u,w,b,rfl,i,l,λy k=>?_,o,s⟩;cases f with
   |ref C=>cases g;exact k
   |ty T=>cases g;exact k
   |_=>cases g
 ·exact .inr (B F H m A Q fr r h)
mutual
def mM:D->Option PyData
 |.non=>some .none
 |.bl b=>some (.bool b)
 |.int i=>some (.int i)
 |.str z=>some (.str z)
 |.tup ds=>(kY ds).map .tuple
 |.lst ds=>(kY ds).map .list
 |_=>none
def kY:List D->Option (List PyData)
 |[]=>some []
 |d::a=>(mM d).bind λp=>(kY a).map (p:: ·)
end
def uL{s}(I:Inv X pins σ H s){v d u p}(r:Rep X.K al H v d):RelV v u->mM d=some p->∃f,Reads s.heap u p f:=by
 revert u p;refine Rep.rec (motive_1:=λv d _=>∀{u p},RelV v u->mM d=some p->∃f,Reads s.heap u p f) (motive_2:=λg j _=>∀{k h},Vals g k->kY j=some h->∃f,ReadsAll s.heap k h f) ?_ ?_ ?_ ?_ ?_ ?_ ?_ ?_ ?_ ?_ ?_ ?_ r;·intro u p r e;cases r;cases e;exact⟨_,.none⟩
 ·intro b u p r e;cases r;cases e;exact⟨_,.bool _⟩
 ·intro b u p r e;obtain⟨t,rfl⟩:=r;cases e;exact⟨_,.int _ _⟩
 ·intro b u p r e;obtain⟨t,rfl⟩:=r;cases e;exact⟨_,.str _ _⟩
 ·intro b u p r e;cases e
 ·intro b u p r e;cases e
 ·intro a g j z _ A u p r e;cases r;have D:(kY _).map PyData.tuple=some _:=e;obtain⟨h,i,rfl⟩:=aB.mp D;have l:mi X.K H _ g:=z.elim (λz=>.inl<|.inl z.2) .inr;obtain⟨q,m,⟨o,C,B,n,E⟩,_⟩:=I.tuple l;obtain⟨f,w⟩:=A m i;exact⟨f,reads_tuple_at C B E<|by simpa using w⟩
 ·intro a g j z _ A u p r e;cases r;have D:(kY _).map PyData.list=some _:=e;obtain⟨h,i,rfl⟩:=aB.mp D;have l:kP X.K H _ g:=z.elim (λz=>.inl z.2) KL.sq;obtain⟨q,m,⟨o,n,C,B,E,L⟩,_⟩:=I.list l;obtain⟨f,w⟩:=A m i;exact⟨_,reads_list_at C B L<|by simpa using w⟩
 ·intro a c Q P g j _ _ _ _ _ _ u p r e;cases e
 ·intro a c _ _ u p r e;cases e
 ·intro k h r e;cases r;cases e;exact⟨_,.nil⟩
 ·intro v d g j _ _ y x k h r e;cases r with
  |cons K J=>obtain⟨O,i,N⟩:=aL.mp e;obtain⟨h,M,rfl⟩:=aB.mp N;obtain⟨f,G⟩:=y K i;obtain⟨bs,F⟩:=x J M;exact⟨_,.cons G F⟩
def adp{s}(I:Inv X pins σ H s){c b f a}(q:i9 X.K al H c b)(r:Vals c f)(e:kY b=some a):∃g,ReadsAll s.heap f a g:=by
 induction b generalizing c f a with
 |nil=>cases q;cases r;cases e;exact⟨_,.nil⟩
 |cons d b l=>
  cases q with
  |cons p q=>
   cases r with
   |cons k j=>obtain⟨t,o,n⟩:=aL.mp e;obtain⟨a,m,rfl⟩:=aB.mp n;obtain⟨g,i⟩:=uL I p k o;obtain⟨bs,h⟩:=l q j m;exact⟨_,.cons i h⟩
def qR(a b:D):Option Bool:=(mM a).bind λp=>(mM b).bind λq=>if(SeqAt.shaped p&&SeqAt.shaped q)=true then some (PyData.eqv p q)else none
def qq(a b:D):R D:=match qR a b with
 |some r=>.ok (.bl r)
 |none=>.bad
def mL(a b:D):R D:=match qR a b with
 |some r=>.ok (.bl<|!r)
 |none=>.bad
def Hn{c:List<|Addr×Obj}{h:L2.St}{H:Hp}{s:Shared}(I:Inv X c h H s){g:Addr->Prop}{x y:V}{a b:D}{u v:Value}{r:Bool}(n:Rep X.K g H x a)(m:Rep X.K g H y b)(l:RelV x u)(k:RelV y v)(e:qR a b=some r):
    ∃p q f bs,Reads s.heap u p f/\Reads s.heap v q bs/\SeqAt.shaped p=true/\SeqAt.shaped q=true/\PyData.eqv p q=r:=by
 obtain⟨p,w,t⟩:=aL.mp e;obtain⟨q,o,d⟩:=aL.mp t;split at d
 ·rename_i z;rw[aQ]at z;obtain⟨f,j⟩:=uL I n l w;obtain⟨bs,i⟩:=uL I m k o;exact⟨p,q,f,bs,j,i,z.1,z.2,Option.some.inj d⟩
 ·cases d
def JG(o:X.A.units+64<cLine):kU X E (compareOp .Eq) qq:=by
 refine⟨λx y H Q=>∃c a b r,Rep X.K c H x a/\Rep X.K c H y b/\qR a b=some r/\Q (.bl r) H,λf s B H x y v u Q I e d h=>?_,λc H x y i g Q fr e d h=>?_⟩
 ·obtain⟨c,a,b,r,A,z,w,t⟩:=h;obtain⟨p,q,C,bs,n,m,l,k,j⟩:=Hn I A z e d w;exact eq_dataH n m l k o (by rw[j];exact⟨.bl r,H,I,rfl,t⟩)
 ·unfold qq at h;cases q:qR i g with
  |none=>rw[q]at h;exact h.elim
  |some r=>rw[q]at h;exact⟨c,i,g,r,e,d,q,h H (.refl H) _<|.bl r⟩
def Cj(o:X.A.units+64<cLine):kU X E (compareOp .NotEq) mL:=by
 refine⟨λx y H Q=>∃c a b r,Rep X.K c H x a/\Rep X.K c H y b/\qR a b=some r/\Q (.bl<|!r) H,λf s B H x y v u Q I e d h=>?_,λc H x y i g Q fr e d h=>?_⟩
 ·obtain⟨c,a,b,r,A,z,w,t⟩:=h;obtain⟨p,q,C,bs,n,m,l,k,j⟩:=Hn I A z e d w;exact ne_dataH n m l k o (by rw[j];exact⟨.bl (!r),H,I,rfl,t⟩)
 ·unfold mL at h;cases q:qR i g with
  |none=>rw[q]at h;exact h.elim
  |some r=>rw[q]at h;exact⟨c,i,g,r,e,d,q,h H (.refl H) _<|.bl<|!r⟩
end
section
variable{X:Cx}{E:XK}{m e h:Expr}{f:List Expr}{b:Scope}{o:Pos}{r:Ev->R (List D)}{l:List Nat}{a:D->Ev->Option Ev}{A:Ev->R Bool}{v:jq}{tn:Nat}{Nt:List Str}
def G5(i nm)(S:X.calm=true)(O:DI X E m e r)(P:∀H t I C,DG (X.comp b (Nt++[x]) [(x,c)] H t I C) m l a)(M:∀j∈l,j<tn)(hf:∀H t I C,sr (X.comp b (Nt++[x]) [(x,c)] H t I C) f A)
 (Q:∀H t I C,DE (X.comp b (Nt++[x]) [(x,c)] H t I C) (λ_ _ _=>False) h v)
 (k:b.kind=.function)(s:pJ b)(g:qv b)(J:Nt.length=tn)
 (hN:X.N[i]?=some x)(N:X.env.kindOf x=some .cell)(G:X.env.cells.lookup x=some c)(n:closureFor b X.env=pure [(x,c)])(B:(relabel b X.env).names=nm)
 (F:∀p∈nm,(p.2=.cell\/p.2=.free)->p.1=x)(u:nm.lookup x=some .cell\/nm.lookup x=some .free)
 (L:∀x,foldedSetIterable e X.env x=pure x):tO X E (.ListComp h [⟨m,e,f,0⟩] b o) (kM r tn [i] a A v):=by
  refine G4 (cl:=[(x,c)]) (Nc:=[x]) (ci:=[i]) S O P M hf Q n k s g (.cons hN (.inl N) (by rw[G];simp[List.lookup]) .nil) J (λy d z=>?_) (λy z=>?_) (λy K=>?_) L
  ·by_cases w:y=x;·subst w;simp[List.lookup]at z;rw[G,z]
   ·have:(y==x)=false:=by simpa using w
    simp[List.lookup,this]at z
  ·rw[B]at z;have:y=x:=z.elim (λq=>F _ (bz q)<|.inl rfl) λq=>F _ (bz q) (.inr rfl);subst this;exact⟨c,by simp[List.lookup]⟩
  ·rw[aP]at K;subst K;rw[B];exact u
def OQ(i nm)(L:X.calm=true)(I:DI X E m e r)(J:∀t q u C,DG (X.comp b (Nt++[x]) [(x,c)] t q u C) m l a)(G:∀j∈l,j<tn)(hf:∀t q u C,sr (X.comp b (Nt++[x]) [(x,c)] t q u C) f A)
 (K:∀t q u C,DE (X.comp b (Nt++[x]) [(x,c)] t q u C) (λ_ _ _=>False) h v)
 (g:b.kind=.function)(n:pJ b)(d:qv b)(B:Nt.length=tn)
 (hN:X.N[i]?=some x)(H:X.env.kindOf x=some .cell)(z:X.env.cells.lookup x=some c)(k:closureFor b X.env=pure [(x,c)])(w:(relabel b X.env).names=nm)
 (y:∀p∈nm,(p.2=.cell\/p.2=.free)->p.1=x)(s:nm.lookup x=some .cell\/nm.lookup x=some .free)
 (F:∀x,foldedSetIterable e X.env x=pure x):DN X E (.ListComp h [⟨m,e,f,0⟩] b o) (kM r tn [i] a A v):=
  (G5 i nm L I J G hf K g n d B hN H z k w y s F).dn
end
open PySem.Builtin PySem.Builtin.Str
open PyProof.Rows hiding St
variable{X:Cx}{E:XK}
def yU(i j:Int):Bool:=(decide (-18446744073709551616<i)&&decide (i<18446744073709551616))||(decide (-18446744073709551616<j)&&decide (j<18446744073709551616))
end P2
namespace P2
open PySem L2 PySem.Spec
def nS{g:oG}{P:Program}{w:World}{K:W.Frag}{h:kd}{d:Heap}{N:List Str}{c:Str}{b:Scope}{f:Addr}{i:Value}{A:Around}{a:List Env}{s:Shared}{H:Hp}{E:XK}:
    PassesOwn (model (lr g P w K h d N c b f i A a s H E).prog (lr g P w K h d N c b f i A a s H E).w) (lr g P w K h d N c b f i A a s H E).A (lr g P w K h d N c b f i A a s H E).env (lr g P w K h d N c b f i A a s H E).xe:=
 PassesOwn.leaving (Q₁:=λe j=>g a H s E e j)
section
variable{X:Cx}{E:XK}{e a b c B:Expr}{f A o m:jq}{l:Pos}
def zo(i j:Nat)(fs:Ev->R (List D)):jO:=λd=>toS (fs d) λg=>match g with
 |[d1,d2]=>if i<d.length/\j<d.length then .nx ((d.set i<|.sh d1).set j (.sh d2))else .bad
 |_=>.bad
def G9{fs pt n q d}(i j)(N:X.calm=true)(hN:X.N.Nodup)(M:X.N[i]?=some x)(L:X.N[j]?=some y)(u:i≠j)
 (I:X.env.scope.names.lookup x=some .local)(G:X.env.scope.names.lookup y=some .local)(O:DA X E [a,b] fs)
 (J:swappedStores [.Tuple [.Name x px,.Name y py] n pt] (.Tuple [a,b] q d) X.env=pure (some [x,y]))
 (K:swapsWithSole [.Tuple [.Name x px,.Name y py] n pt] (.Tuple [a,b] q d) l.line X.env=pure false):
   DS X E (.Assign [.Tuple [.Name x px,.Name y py] n pt] (.Tuple [a,b] q d) l) (zo i j fs):=by
  obtain⟨t,p,r,_⟩:=O;refine⟨_,WQ N hN M L u I G p J K,λP W Q H S T D s h=>r _ _ _ _ _ _ _ s<|Aft.mono (kX.rP h s) λV R v g U w=>?_⟩;split at g
  ·rename_i d1 d2;cases w with
   |cons F k=>
    cases k with
    |cons k C=>
     cases C;split at g
     ·rename_i z;exact⟨_,_,rfl,g Q R _ .refl (((s.grow v).set z.1 F).set (by rw[aO];exact z.2) k)⟩
     ·exact g.elim
  ·exact g.elim
def AQ(g h:D->D->R D)(A o m:jq):jq:=λd=>(A d).bind λx=>(o d).bind λy=>(g x y).bind λz=>match z with
 |.bl true=>(m d).bind λw=>h y w
 |.bl false=>.ok (.bl false)
 |_=>.bad
def OW{g}(S:kU X E (compareOp op) g)(n:kU X E (compareOp we) g')(W:DE X E a A)(V:DE X E b o)(U:DE X E c m)
 (T:lastMarks [op,we] [b,c]=false):DT X E (.Compare a [op,we] [b,c] l) (b1 tB<|AQ g g' A o m):=by
  obtain⟨r1,R,d1⟩:=S;obtain⟨r2,O,d2⟩:=n;obtain⟨ta,N,J⟩:=W;obtain⟨tb,M,I⟩:=V;obtain⟨tc,L,G⟩:=U;refine⟨_,WV R O N M L T,λP H0 al H σ ρ Q s h=>J _ _ _ _ _ _ _ s<|Aft.mono (Aft.split<|Aft.split h) λx H1 r h1 v F=>I _ _ _ _ _ _ _ (s.grow r)<|Aft.mono (Aft.split h1) λy H2 q h2 u C=>?_⟩;have i:=(s.grow r).grow q;refine d1 _ _ _ _ _ _ _ i.fresh (F.up q) C (Aft.mono (Aft.split h2) λz D j d zv t=>?_);split at d
  ·cases t;refine⟨true,rfl,?_⟩;rw[av rfl];exact G _ _ _ _ _ _ _ (i.grow j) (Aft.mono (Aft.split d) λw H4 p Z wv k=>d2 _ _ _ _ _ _ _ ((i.grow j).grow p).fresh (C.up<|j.trans p) k (Aft.mono Z λz H5 s5 Y v5 K=>uM K Y))
  ·cases t;refine⟨false,rfl,?_⟩;rw[aw<|by decide];exact uM (.bl false) (d D<|.refl D)
  ·exact d.elim
def uO:D->D->Option Bool
 |.non,.non=>some true
 |.bl a,.bl b=>some (a==b)
 |.bl _,.non=>some false
 |.int _,.non=>some false
 |.str _,.non=>some false
 |.tup _,.non=>some false
 |.lst _,.non=>some false
 |_,_=>none
def nP(x y:D):R D:=match uO x y with
 |some b=>.ok (.bl b)
 |none=>.bad
def oj(x y:D):R D:=match uO x y with
 |some b=>.ok (.bl<|!b)
 |none=>.bad
def KU{K:W.Frag}{g:Addr->Prop}{H:Hp}{x y:V}{s p:D}{b:Bool}(k:Rep K g H x s)(h:Rep K g H y p)(q:uO s p=some b):(y=.non/\decide (x=.non)=b)\/∃i j,x=.bl i/\y=.bl j/\(i==j)=b:=by
 have n:∀{y},Rep K g H y .non->y=.non:=λr=>by cases r;rfl
 have t:∀{x i},Rep K g H x (.bl i)->x=.bl i:=λr=>by cases r;rfl
 have ne:∀{d},d≠.non->Rep K g H x d->x≠.non:=λu r e=>by subst e;cases r;exact u rfl
 unfold uO at q;split at q<;>first|(cases q;done)|skip
 ·cases q;exact .inl ⟨n h,aN<|n k⟩
 ·cases q;exact .inr ⟨_,_,t k,t h,rfl⟩
 all_goals(cases q;exact .inl ⟨n h,aG<|ne (by nofun) k⟩)
def Ci:kU X E (compareOp .Is) nP:=by
 refine⟨_,uH JH Vv,λu H x y t s Q fr p n h=>?_⟩;unfold nP at h;cases q:uO t s with
 |none=>rw[q]at h;exact h.elim
 |some b=>
  rw[q]at h;have k:=h H (.refl H) _ (.bl b);rcases KU p n q with⟨g,d⟩|⟨i,j,g,d,r⟩;·exact .inl ⟨g,by rw[d];exact k⟩
  ·exact .inr ⟨i,j,g,d,by rw[r];exact k⟩
def JI:kU X E (compareOp .IsNot) oj:=by
 refine⟨_,uH JJ Vw,λu H x y t s Q fr p n h=>?_⟩;unfold oj at h;cases q:uO t s with
 |none=>rw[q]at h;exact h.elim
 |some b=>
  rw[q]at h;have k:=h H (.refl H) _ (.bl _);rcases KU p n q with⟨g,d⟩|⟨i,j,g,d,r⟩;·exact .inl ⟨g,by rw[d];exact k⟩
  ·exact .inr ⟨i,j,g,d,by unfold bne;rw[r];exact k⟩
def pT:D->Option Int->Option Int->R D
 |.tup ds,lo,g=>if¬(HT.jK ds.length 0 lo=0/\HT.jK ds.length ds.length g=ds.length)then .ok (.tup<|cutD ds lo g)else .bad
 |d,lo,g=>wA d lo g
def D0:Au X E pT:=by
 obtain⟨s,k,r⟩:=aaO (X:=X) (E:=E);refine⟨_,aaR.or k,λu H x t lo n Q fr g h=>?_⟩;unfold pT at h;split at h
 ·obtain⟨a,j,rfl,q,i⟩:=g.pX;split at h
  ·rename_i z;exact .inl ⟨a,j,rfl,q,by rw[i.length];exact z,λp d=>h _ (lV d) _ ((i.cut lo n).En d (fr p d))⟩
  ·exact h.elim
 ·exact .inr (r _ _ _ _ _ _ _ fr g h)
def vZ:je
 |[.lst ds]=>.ok (.lst ds)
 |[.tup ds]=>.ok (.lst ds)
 |_=>.bad
def AK:q8 X E (.type "list") vZ:=by
 refine⟨_,NR,λs H k n Q fr r h=>?_⟩;unfold vZ at h;split at h
 ·obtain⟨v,rfl,q⟩:=i9.one r;obtain⟨a,g,rfl,j,i⟩:=q.oU;exact⟨a,g,rfl,.inl j,λp d=>h _ (lV d) _<|i.rO d<|fr p d⟩
 ·obtain⟨v,rfl,q⟩:=i9.one r;obtain⟨a,g,rfl,j,i⟩:=q.pX;exact⟨a,g,rfl,.inr j,λp d=>h _ (lV d) _<|i.rO d<|fr p d⟩
 ·exact h.elim
def Ah(X:Cx)(E:XK)(n:Operator)(g:D->D->R D):Prop:=∃t:xp,xm X n t/\
 ∀h H x y j i (Q:VK),(∀a,H a=none->h a)->Rep X.K h H x j->Rep X.K h H y i->Aft X.K h E H (g j i) (λd k=>∀v,Rep X.K h k v d->Q v k)->t x y H Q
def xE:D->D->R D
 |.int i,.int j=>.ok (.int<|i+j)
 |_,_=>.bad
def xF:D->D->R D
 |.int i,.int j=>.ok (.int<|i - j)
 |_,_=>.bad
def Rp:Ah X E .Add xE:=by
 refine⟨_,Ro,λk H x y j i Q fr g d h=>?_⟩;unfold xE at h;split at h;·cases g;cases d;exact⟨_,_,rfl,rfl,h H (.refl H) _<|.int _⟩
 ·exact h.elim
def Rr:Ah X E .Sub xF:=by
 refine⟨_,Rq,λk H x y j i Q fr g d h=>?_⟩;unfold xF at h;split at h;·cases g;cases d;exact⟨_,_,rfl,rfl,h H (.refl H) _<|.int _⟩
 ·exact h.elim
end
section
variable{X:Cx}{E:XK}
def rH(x:D)(b:List D):Option Bool:=(mM x).bind λp=>(kY b).bind λa=>if(PyData.canLayAll0 a&&PyData.canLay0 p&&decide (p.depth<=63))=true then some (a.any λy=>PyData.eqv y p)else none
def mz(x y:D):R D:=match y with
 |.lst a=>(match rH x a with
  |some b=>.ok (.bl b)
  |none=>.bad)
 |.tup a=>(match rH x a with
  |some b=>.ok (.bl b)
  |none=>.bad)
 |_=>yE x y
def Qp{s}(I:Inv X pins σ H s)(q:X.A.units+64<cLine){d u}(m:Rep X.K al H x d)(f:Rep X.K al H y (.lst ys)\/Rep X.K al H y (.tup ys))(l:RelV x u)(j:RelV y v)(e:rH d ys=some b):
    ∃p a c bs,(Reads s.heap v (.list a) c\/Reads s.heap v (.tuple a) c)/\Reads s.heap u p bs/\PyData.canLayAll0 a=true/\PyData.canLay0 p=true/\X.A.units+1+min (PyData.depthAll a) p.depth<cLine/\(a.any λy=>PyData.eqv y p)=b:=by
 obtain⟨p,o,n⟩:=aL.mp e;obtain⟨a,k,g⟩:=aL.mp n;split at g
 ·rename_i z;simp only[aQ,bw]at z;obtain⟨bs,i⟩:=uL I m l o;have:=Nat.min_le_right (PyData.depthAll a) p.depth;rcases f with f|f
  ·obtain⟨c,h⟩:=uL (p:=.list a) I f j (show(kY ys).map PyData.list=some _ by rw[k];rfl);exact⟨p,a,c,bs,.inl h,i,z.1.1,z.1.2,by omega,Option.some.inj g⟩
  ·obtain⟨c,h⟩:=uL (p:=.tuple a) I f j (show(kY ys).map PyData.tuple=some _ by rw[k];rfl);exact⟨p,a,c,bs,.inr h,i,z.1.1,z.1.2,by omega,Option.some.inj g⟩
 ·cases g
def tx(A:X.A.units+64<cLine):kU X E (compareOp .In) mz:=by
 obtain⟨w,z,F⟩:=Vt (X:=X) (E:=E);refine⟨λx y H Q=>(∃c d a b,Rep X.K c H x d/\(Rep X.K c H y (.lst a)\/Rep X.K c H y (.tup a))/\rH d a=some b/\Q (.bl b) H)\/w x y H Q,λi s t H x y v u Q I f e h=>?_,λc H x y j J Q fr f e h=>?_⟩
 ·rcases h with⟨c,d,a,b,D,C,B,r⟩|h
  ·obtain⟨p,G,K,bs,g,o,n,m,l,k⟩:=Qp I A D C f e B;rcases g with g|g;·exact SeqAt.in_list_reads g o n m l (by rw[k];exact⟨.bl b,H,I,rfl,r⟩)
   ·exact SeqAt.in_tuple_reads g o n m l (by rw[k];exact⟨.bl b,H,I,rfl,r⟩)
  ·exact z i s t H x y v u Q I f e h
 ·unfold mz at h;split at h
  ·rename_i a;cases q:rH j a with
   |none=>rw[q]at h;exact h.elim
   |some b=>rw[q]at h;exact .inl ⟨c,j,a,b,f,.inl e,q,h H (.refl H) _<|.bl b⟩
  ·rename_i a;cases q:rH j a with
   |none=>rw[q]at h;exact h.elim
   |some b=>rw[q]at h;exact .inl ⟨c,j,a,b,f,.inr e,q,h H (.refl H) _<|.bl b⟩
  ·exact .inr (F _ _ _ _ _ _ _ fr f e h)
end
open PyProof.Rows hiding St
inductive ve:V->D->Prop
 |non:ve .non .non
 |bl (b:Bool):ve (.bl b) (.bl b)
 |int (i:Int):ve (.int i) (.int i)
 |str (x:Str):ve (.str x) (.str x)
inductive w8:List V->List D->Prop
 |nil:w8 [] []
 |cons {v:V} {d:D} {vs:List V} {ds:List D}:ve v d->w8 vs ds->w8 (v::vs) (d::ds)
structure GlT(K:W.Frag)(mg:kd)(x:Str)(ds:List D):Prop where
 ex:∃(a:Addr) (vs:List V),mg x=some (.ref a)/\KT K a vs/\w8 vs ds
variable{X:Cx}{E:XK}{a b:Expr}{J F:jq}{C:Pos}
def AL(x y:D):R (List D):=match x,y with
 |.lst xs,.lst c=>if xs.length+c.length<=sizeLine then .ok (xs++c)else .bad
 |_,_=>.bad
def TZ:je
 |[.int i,.int j]=>.ok (.int<|if j<i then j else i)
 |_=>.bad
end P2
namespace TM
open PySem PySem.NumText PySem.StrLaws Builtin Builtin.Str
def ry(x:Str):List Nat:=x.cps.toList
def ext(h:ry x=ry y):x=y:=by obtain⟨x⟩:=x;obtain⟨y⟩:=y;have:x=y:=dU.mp h;rw[this]
def GD(x y):ry (x++y)=ry x++ry y:=by show(x.cps++y.cps).toList=x.cps.toList++y.cps.toList;simp
def BL(x:Str):x.length=(ry x).length:=by simp[Str.length,ry]
def num(m:Nat):List Nat:=(Nat.toDigits 10 m).map Char.toNat
def OO{c:Char}(h:c.isDigit=true):48<=c.toNat/\c.toNat<=57:=by unfold Char.isDigit at h;simp only[aQ,bw,ge_iff_le]at h;obtain⟨e,d⟩:=h;have a:(48:UInt32).toNat<=c.val.toNat:=gM.mp e;have b:c.val.toNat<=(57:UInt32).toNat:=gM.mp d;exact⟨a,b⟩
def Uu(m):AllDigits (num m):=by intro c a;obtain⟨b,h,rfl⟩:=aI.mp a;exact OO (Nat.isDigit_of_mem_toDigits (by decide) (by decide) h)
def two(n:Nat):List Nat:=[48+n/10,48+n%10]
end TM
namespace P2
open PySem L2
def bits_le{i:Int}{k}(h:i.natAbs<2^k):bits i<=k:=intBits_le_iff.mpr h
section
variable{B T:Type}{a:B}{c:Addr}{p:List Str}{v:List D}{k:B->RT}{h:B->R T}{e:Ev}{g u:jO}{f q A:jq}{o H:Ev->R Bool}{fs:Ev->R (List D)}{i j:Int}{x y:Str}{b S:Bool}{l E:List D}{d:D}{n m:Nat}{K U:D->D->R D}{M:D->R D}{J:je}{I:D->je}
variable{t:String}{L:D->Option Int->Option Int->R D}{O N:Ev->R (Option Int)}{Q:List Nat}{C:D->Ev->Option Ev}{lo F:Option Int}{P:Str->jq}
def Ks:(R.ok a).bind h=h a:=rfl
def Xq:(R.ex c p v:R B).bind h=.ex c p v:=rfl
def Xp:(R.bad:R B).bind h=.bad:=rfl
def Y3:toS (R.ok a) k=k a:=rfl
def Y4:toS (R.ex c p v:R B) k=.ex c p v:=rfl
def Y2:toS (R.bad:R B) k=.bad:=rfl
def YM:rX (.nx e) g=g e:=rfl
def YN:rX (.rt d) g=.rt d:=rfl
def YO:rX (.ex c p v) g=.ex c p v:=rfl
def YL:rX .bad g=.bad:=rfl
def Kv:turnT (.nx e) g=g e:=rfl
def Y6:turnT (.ct e) g=g e:=rfl
def Y7:turnT (.bk e) g=.nx e:=rfl
def Y8:turnT (.rt d) g=.rt d:=rfl
def Y5:turnT .bad g=.bad:=rfl
def Y9:turnT (.ex c p v) g=.ex c p v:=rfl
def XJ:jM (.rt d)=.ok d:=rfl
def XI:jM (.nx e)=.ok .non:=rfl
def XM:jM (.ex c p v)=.ex c p v:=rfl
def Yy:Ui (R.ok a)=.ok a:=rfl
def YA:oz (R.ok a)=some a:=rfl
def Yz:tw (some a)=.ok a:=rfl
def YJ:kf g u e=rX (g e) u:=rfl
def YF:pR e=.nx e:=rfl
def YI:kZ f e=toS (f e) .rt:=rfl
def YC:aai f e=toS (f e) λ_=>.nx e:=rfl
def YK:lz n f e=toS (f e) λd=>if n<e.length then .nx (e.set n<|.sh d)else .bad:=rfl
def YE:pQ o g u e=toS (o e) λk=>if k=true then g e else u e:=rfl
def Xw:dC d e=.ok d:=rfl
def Xr:d1 M f e=(f e).bind M:=rfl
def Xs:d2 K q A e=(q e).bind λx=>(A e).bind λy=>K x y:=rfl
def Xk:b1 P2.tB f e=(f e).bind P2.tB:=rfl
def Xl:b1 tT f e=(f e).bind tT:=rfl
def Xm:n8 o H e=(o e).bind λc=>if c=true then H e else .ok false:=rfl
def Xo:pD o H e=(o e).bind λc=>if c=true then .ok true else H e:=rfl
def Xn:qO o e=(o e).bind λc=>.ok (!c):=rfl
def Xv:xN q A e=((q e).bind P2.tB).bind λc=>if c=true then A e else .ok (.bl false):=rfl
def XC:Ou q A e=((q e).bind P2.tB).bind λc=>if c=true then .ok (.bl true)else A e:=rfl
def XA:xO q e=((q e).bind P2.tB).bind λc=>.ok (.bl<|!c):=rfl
def Xy:uf o q A e=(o e).bind λk=>if k=true then q e else A e:=rfl
def Xu:dA J fs e=(fs e).bind J:=rfl
def W6:iU e=.ok []:=rfl
def W5:aa f fs e=(f e).bind λx=>(fs e).bind λr=>.ok (x::r):=rfl
def Xj:jw fs e=(fs e).bind λl=>.ok (.lst l):=rfl
def Xz:Ot t I f fs e=(f e).bind λx=>if Bl t x=true then(fs e).bind λr=>I x r else .bad:=rfl
def XD:qP L f O N e=(f e).bind λx=>(O e).bind λi=>(N e).bind λj=>L x i j:=rfl
def Xx:kM fs n Q C o f e=(fs e).bind λl=>if l.length<=sizeLine then tw (l0 C o f (qo n Q e) l)else .bad:=rfl
def YD:uN fs C g e=toS (fs e) λl=>oh C g l e:=rfl
def XS:oh C g (d::l) e=toO (C d e) λr=>turnT (g r) (oh C g l):=rfl
def Y1:toO (some a) k=k a:=rfl
def XW:gV n d e=if n<e.length then some (e.set n<|.sh d)else none:=rfl
def YV:P2.tB (.bl b)=.ok b:=rfl
def YW:tT (.bl b)=.ok b:=rfl
def YX:tT (.int i)=.ok (i !=0):=rfl
def YZ:tT .non=.ok false:=rfl
def YY:tT (.lst l)=.ok (!l.isEmpty):=rfl
def Y0:tT (.tup l)=.ok (!l.isEmpty):=rfl
def W8:j0 (.int i) (.int j)=.ok (.int<|i+j):=rfl
def Xb:j0 (.str x) (.str y)=if x.length+y.length<=sizeLine then .ok (.str<|x++y)else .bad:=rfl
def W9:j0 (.lst l) (.lst E)=if l.length+E.length<=sizeLine then .ok (.lst<|l++E)else .bad:=rfl
def YU:oZ (.int i) (.int j)=.ok (.int<|i - j):=rfl
def C1:j7 (.int i) (.int j)=if uF i j=true then .ok (.int<|i.fdiv j)else .bad:=rfl
def Ys:jH (.int i) (.int j)=if decide (j≠0)=true then .ok (.int<|i.fmod j)else .bad:=rfl
def Ym:P2.mY (.int i) (.int j)=.ok (.bl<|decide<|i<j):=rfl
def Yi:yH (.int i) (.int j)=.ok (.bl<|decide<|i<=j):=rfl
def XY:rF (.int i) (.int j)=.ok (.bl<|decide<|j<i):=rfl
def XX:PY (.int i) (.int j)=.ok (.bl<|decide<|j<=i):=rfl
def Yx:v7 (.int i)=.ok (.int<|-i):=rfl
def XF:jJ (.int i) (.int j)=.ok (.bl<|decide<|i=j):=rfl
def XG:jJ (.str x) (.str y)=.ok (.bl<|decide<|x=y):=rfl
def XE:jJ (.bl b) (.bl S)=.ok (.bl<|decide<|b=S):=rfl
def Yv:oV (.int i) (.int j)=.ok (.bl<|!decide (i=j)):=rfl
def Yw:oV (.str x) (.str y)=.ok (.bl<|!decide (x=y)):=rfl
def X0:yE (.str x) (.str y)=.ok (.bl<|Txt.contains y x):=rfl
def Yd:jU (.lst l) (.int i)=match L2.jY l i with|some d=>.ok d|none=>.bad:=rfl
def Yf:jU (.tup l) (.int i)=match L2.jY l i with|some d=>.ok d|none=>.bad:=rfl
def Ye:jU (.str x) (.int i)=if x.length<=sizeLine then(match L2.jY x.cps.toList i with|some c=>.ok (.str ⟨#[c]⟩)|none=>.bad)else .bad:=rfl
def YR:wA (.lst l) lo F=.ok (.lst<|cutD l lo F):=rfl
def YS:wA (.str x) lo F=if x.length<=sizeLine then .ok (.str<|Txt.slice x lo F)else .bad:=rfl
def YB:pI (.int i)=.ok (some i):=rfl
def Yk:lE [.str x]=if x.length<=sizeLine then .ok (.int x.length)else .bad:=rfl
def Yj:lE [.lst l]=.ok (.int l.length):=rfl
def Yl:lE [.tup l]=.ok (.int l.length):=rfl
def W7:oO [.int i]=.ok (.int<|if i<0 then -i else i):=rfl
def Yo:uD [.int i,.int j]=.ok (.int<|if j>i then j else i):=rfl
def X1:intD [.str x]=match PySem.intText? x with|some n=>if x.length<=640 then .ok (.int n)else .bad|none=>.bad:=rfl
def Xc:Nj [.lst l]=match vF l with|some bs=>.ok (.bl<|bs.all id)|none=>.bad:=rfl
def Xd:Nl [.lst l]=match vF l with|some bs=>.ok (.bl<|bs.any id)|none=>.bad:=rfl
def YT:aa4 (.str x) [.str y]=.ok (.bl<|Txt.startswith x y):=rfl
def Zy:acQ (.str x) [.int i]=if PadOk i=true then .ok (.str<|Txt.zfill x i)else .bad:=rfl
def XZ:Bl "str" (.str x)=true:=by rfl
def Yq:jz l=if l.length<=sizeLine then .ok (.tup l)else .bad:=rfl
def XN:jF l=if l.length<=sizeLine then .ok l else .bad:=rfl
def Xg:ke (.lst l)=.ok l:=rfl
def Xi:ke (.tup l)=.ok l:=rfl
def Xh:ke (.str x)=.ok (signs x):=rfl
def XQ:PD (.str x)=if x.length<=sizeLine then .ok (.str x)else .bad:=rfl
def Yh:RL x e=if x.length<=sizeLine then .ok (.str x)else .bad:=rfl
def Yg:RK f P x e=(f e).bind λz=>match z with|.str y=>if(x++y).length<=sizeLine then P (x++y) e else .bad|_=>.bad:=rfl
def Za:dV 0 (.sh d::r)=.ok d:=rfl
def Zb:dV 1 (s0::.sh d::r)=.ok d:=rfl
def Zl:dV 2 (s0::s1::.sh d::r)=.ok d:=rfl
def Zm:dV 3 (s0::s1::s2::.sh d::r)=.ok d:=rfl
def Zn:dV 4 (s0::s1::s2::s3::.sh d::r)=.ok d:=rfl
def Zo:dV 5 (s0::s1::s2::s3::s4::.sh d::r)=.ok d:=rfl
def Zq:dV 6 (s0::s1::s2::s3::s4::s5::.sh d::r)=.ok d:=rfl
def Zv:dV 7 (s0::s1::s2::s3::s4::s5::s6::.sh d::r)=.ok d:=rfl
def Zw:dV 8 (s0::s1::s2::s3::s4::s5::s6::s7::.sh d::r)=.ok d:=rfl
def Zx:dV 9 (s0::s1::s2::s3::s4::s5::s6::s7::s8::.sh d::r)=.ok d:=rfl
def Zd:dV 10 (s0::s1::s2::s3::s4::s5::s6::s7::s8::s9::.sh d::r)=.ok d:=rfl
def Ze:dV 11 (s0::s1::s2::s3::s4::s5::s6::s7::s8::s9::zm::.sh d::r)=.ok d:=rfl
def Zg:dV 12 (s0::s1::s2::s3::s4::s5::s6::s7::s8::s9::zm::Df::.sh d::r)=.ok d:=rfl
def Zj:dV 13 (s0::s1::s2::s3::s4::s5::s6::s7::s8::s9::zm::Df::s12::.sh d::r)=.ok d:=rfl
def m9(r:0<j):jH (.int i) (.int j)=.ok (.int<|i%j):=by rw[Ys,av<|by simp;omega,Int.fmod_eq_emod_of_nonneg _<|by omega]
def rV(r:0<j)(w:j<18446744073709551616):j7 (.int i) (.int j)=.ok (.int<|i/j):=by have s:bits j<=64:=bits_le (by omega);rw[C1,av<|by unfold uF;simp only[aQ,bw];omega,fR _<|by omega]
def wt{x y:Str}(s:x.length<=1000)(r:y.length<=1000):j0 (.str x) (.str y)=.ok (.str<|x++y):=by rw[Xb,av<|aS (Nat.add_le_add s r)<|by decide]
def Xa{x y:List D}(s:x.length<=1000)(r:y.length<=1000):j0 (.lst x) (.lst y)=.ok (.lst<|x++y):=by rw[W9,av<|aS (Nat.add_le_add s r)<|by decide]
def XO{x:List D}(r:x.length<=1000):jF x=.ok x:=by rw[XN,av<|aS r<|by decide]
def Yr{x:List D}(r:x.length<=1000):jz x=.ok (.tup x):=by rw[Yq,av<|aS r<|by decide]
end
open PySem.Spec
open PyProof.Rows hiding St
section
variable{X:Cx}{E:XK}
def rQ(i j:Int):Bool:=Ca i j||yU i j
def km:D->D->R D
 |.int i,.int j=>if rQ i j=true then .ok (.int<|i*j)else .bad
 |.str x,.int n=>if Cb x n=true then .ok (.str<|Txt.mul x n)else .bad
 |_,_=>.bad
def nB:kU X E (binaryOp .Mult) km:=by
 refine⟨_,uH (uH VB VC) VD,λe H x y d c Q fr b a h=>?_⟩;unfold km at h;split at h
 ·cases b;cases a;split at h
  ·rename_i z;unfold rQ at z;rw[dD]at z;rcases z with z|z
   ·unfold Ca at z;simp only[aQ,bw]at z;exact .inl (.inr ⟨_,_,rfl,rfl,z,h H (.refl H) _<|.int _⟩)
   ·refine .inl (.inl ⟨_,_,rfl,rfl,?_,h H (.refl H) _<|.int _⟩);unfold yU at z;simp only[dD,aQ,bw]at z;exact z
  ·exact h.elim
 ·cases b;cases a;split at h;·rename_i z;exact .inr ⟨_,_,rfl,rfl,mulOk_of z,h H (.refl H) _<|.str _⟩
  ·exact h.elim
 ·exact h.elim
def VJ:(10:Nat)^400<2^1500:=by decide+kernel
def AE{i:Int}(h:i.natAbs<10^400):bits i<=1500:=bits_le (eG h VJ)
def Yt{i j:Int}(b:i.natAbs<10^400)(a:j.natAbs<10^400):km (.int i) (.int j)=.ok (.int<|i*j):=by have d:=AE b;have c:=AE a;show(if rQ i j=true then R.ok (D.int<|i*j)else .bad)=_;rw[av<|by unfold rQ Ca;simp only[dD,aQ,bw];left;omega]
def C2{i j:Int}(b: -18446744073709551616<j)(a:j<18446744073709551616):km (.int i) (.int j)=.ok (.int<|i*j):=by show(if rQ i j=true then R.ok (D.int<|i*j)else .bad)=_;rw[av<|by unfold rQ yU;simp only[dD,aQ,bw];right;right;exact⟨b,a⟩]
def Yu{i j:Int}(b: -18446744073709551616<i)(a:i<18446744073709551616):km (.int i) (.int j)=.ok (.int<|i*j):=by show(if rQ i j=true then R.ok (D.int<|i*j)else .bad)=_;rw[av<|by unfold rQ yU;simp only[dD,aQ,bw];right;left;exact⟨b,a⟩]
def zg{i j:Int}(b:j≠0)(a:j.natAbs<10^400):j7 (.int i) (.int j)=.ok (.int<|i.fdiv j):=by have c:=AE a;rw[C1,av<|by unfold uF;simp only[aQ,bw];omega]
def X3{i:Int}:mT q [.int i,.ty "int"]=.ok (.bl true):=rfl
def X2{i:Int}:mT q [.int i,.ty "bool"]=.ok (.bl false):=rfl
def X5:mT q [.str x,.ty "str"]=.ok (.bl true):=rfl
def X6:mT q [.tup ds,.ty "tuple"]=.ok (.bl true):=rfl
def X4:mT q [.lst ds,.ty "list"]=.ok (.bl true):=rfl
def YP{lo}:pT (.lst ds) lo hi=.ok (.lst<|cutD ds lo hi):=rfl
def YQ{lo}:pT (.str x) lo hi=if x.length<=sizeLine then .ok (.str<|Txt.slice x lo hi)else .bad:=rfl
def X7:nP (.bl a) (.bl b)=.ok (.bl<|a==b):=rfl
def Ya:oj (.bl a) (.bl b)=.ok (.bl<|!(a==b)):=rfl
def X8:nP .non .non=.ok (.bl true):=rfl
def Yb:oj .non .non=.ok (.bl false):=rfl
def X9:nP (.tup ds) .non=.ok (.bl false):=rfl
def Yc:oj (.tup ds) .non=.ok (.bl true):=rfl
def Kw{n}:o9 c b (n+1) ρ=toS (c ρ) λk=>if k=true then turnT (b ρ) (o9 c b n)else .nx ρ:=rfl
variable{a b:Expr}{rest:List Expr}{e:Pos}{l f:TE}{o m:jq}
def V9(A:PE X a l)(z:PE X (.BoolOp .Or (b::rest) e) f):PE X (.BoolOp .Or (a::b::rest) e) (λi H Q=>l i H λx j=>∃k,vk X.K x j k/\if k=true then Q x j else f i j Q):=by
 intro d s i H Q I h;refine BoolOp_or (jh (A d s i H _ I h) λv u g=>?_);obtain⟨x,j,D,p,w⟩:=g;obtain⟨k,y,q⟩:=w;refine jh (Em d u i j x v (λc n=>c=k/\n=j) D p ⟨k,y,rfl,rfl⟩) λc t g=>?_;obtain⟨n,r,C,B⟩:=g;subst C B;cases c with
 |true=>exact⟨x,n,r,p,by simpa using q⟩
 |false=>exact z d t i n Q r (by simpa using q)
def Ow(a b:jq):jq:=λd=>(a d).bind λx=>(tT x).bind λc=>if c=true then .ok x else b d
def XB:Ow o m ρ=(o ρ).bind λx=>(tT x).bind λc=>if c=true then .ok x else m ρ:=rfl
end
open PySem.Calls
def BM(b:kd)(h:Heap):Prop:=∃a ob,b "__builtins__"=some (.ref a)/\a≠builtinsNs/\h.get? a=some ob/\ob.cls=.type "module"/\ob.dict=some builtinsNs/\ob.data=.plain
def Su{w}{K:W.Frag}{k}{c:Shared}{C:List Value}
 (KX:K.In c.heap)(Q:c.heap.Ns mainGlobals mg)(hb:c.heap.Ns builtinsNs mb)(hbb:∀x:Str,x≠"__name__"->mb x=bootBuiltins x)(R:c.heap.NoLimit)(hg:c.gens=#[])
 (G:c.heap.get? a=some {cls:=.type "list",data:=.seq C.toArray})(hi:IntsAre C ns)(hl:ns.length<=sizeLine)(hr:kL k callerA)(hT:∀t∈mD K,W.CodeHd c.heap t.2.1 t.2.2/\c.heap.get? t.2.2=some (W.tabObj #[]))(hN:W.noTabs K=true)
 (hB:BM mg c.heap)
 (F:∀l:Heap,K.In l->l.Ns mainGlobals mg->BM mg l->mG P w K mg l CX k fa fd [x] sp)(D:∀s u,BindsTo s fd ⟨[u],[]⟩ [(x,u)])
 (hsp:∀H:Hp,lQ K H->kP K H a (ns.map V.int)->sp [.ref a] H (λv _=>v=.bl true) λ_ _ _=>False)
 (Qc:∀H e j,CX [] H c (λ_ _ _=>False) e j->False):
   codeAny (model P w) callerA (.call (.ref fa) ⟨[.ref a],[]⟩) (λr j=>r=.ok (.ret<|.bool true)/\OldK c.heap j.heap/\j.os=c.os/\AllBare j.gens) c:=by
  have rv:=LJ hi;have N:=hi.length;have na:∀t∈mD K,t.2.2≠a:=λt f e=>by have:=(hT t f).2;rw[e,G]at this;cases this
  have nK:∀t∈mD K,K.lookup t.2.2=none:=λt f=>by
   cases q:K.lookup t.2.2 with
   |none=>rfl
   |some o=>have U:=KX _ _ q;rw[(hT t f).2]at U;cases U;have h2:=cF.mp hN (t.2.2,W.tabObj #[]) (W.mem_of_lookupK q);exact absurd (show false=true from h2) ax
  have B:∀H:Hp,(∀b,H b=none\/(∃o M,H b=some (.j6 o<|.lst M)/\b=a/\K.lookup a=none)\/∃t∈mD K,b=t.2.2/\H b=some (.lM #[]))->(∀t∈mD K,H t.2.2=some (.lM #[]))->kP K H a (ns.map V.int)->kA P w H c.heap->
   codeAny (model P w) callerA (.call (.ref fa) ⟨[.ref a],[]⟩) (λr j=>r=.ok (.ret<|.bool true)/\OldK c.heap j.heap/\j.os=c.os/\AllBare j.gens) c:=by
   intro H hO Ql hS O;have i:∀{b:Addr} {o:Obj},c.heap.get? b=some o->H b=none->(qs c.heap H).get? b=some o:=λe n=>QD e n;have Uh:∀{b:Addr} {o:Obj} {I:Array DictEntry} {J:Nat},c.heap.get? b=some o->o.data=.dict I J->H b=none:=λ{b o I J} e d=>by
    rcases hO b with z|⟨ob,M,z,g,_⟩|⟨t,f,g,z⟩;·exact z
    ·subst g;rw[G]at e;cases e;have d':Data.seq C.toArray _=Data.dict I J:=d;cases d'
    ·subst g;rw[(hT t f).2]at e;cases e;have d':Data.fields #[]=Data.dict I J:=d;cases d'
   have p:∀{b:Addr} {m:kd},c.heap.Ns b m->(qs c.heap H).Ns b m:=λ{b m} ⟨o,I,J,e,d,r⟩=>⟨o,I,J,i e (Uh e d),d,r⟩;have T:K.In (qs c.heap H):=λb o e=>i (KX b o e) (by
    rcases hO b with z|⟨ob,M,z,g,S⟩|⟨t,f,g,z⟩;· exact z
    · subst g;rw[S]at e;cases e
    · subst g;rw[nK t f]at e;cases e)
   have P9:BM mg (qs c.heap H):=by
    obtain⟨bm,ob,b1,b2,Z,b4,b5,b6⟩:=hB;refine⟨bm,ob,b1,b2,i Z ?_,b4,b5,b6⟩;rcases hO bm with z|⟨o2,M,z,g,_⟩|⟨t,f,g,z⟩;·exact z
    ·subst g;rw[G]at Z;cases Z;cases b6
    ·subst g;rw[(hT t f).2]at Z;cases Z;cases b6
   have hM:Mod K mg (qs c.heap H):=⟨T,p Q,⟨mb,p hb,hbb⟩,let⟨mc,h1,h2⟩:=R;⟨mc,p h1,h2⟩⟩;have e0:su P w K mg (qs c.heap H) callerA [] c H:=⟨rfl,hM,λb o e=>UB e,iF<|QE _ _,trivial,λb hb=>absurd (show b∈([]:List Addr)from hb)<|by simp,O,.of_eq hg⟩;have tb:lQ K H:=λt f=>⟨#[],Ql t f,trivial,λpos cv e=>by cases e⟩;refine eF ((F _ T (p Q) P9).run callerA [] c H ⟨[.ref a],[]⟩ [.ref a] [.ref a] _ _ hr e0 (D c<|.ref a) (.cons rfl .nil) (hsp H tb hS)) λr j h=>?_;cases r with
   |error e=>exact(Qc H e j h).elim
   |ok fl=>
    cases fl with
    |next=>exact False.elim h
    |brk=>exact False.elim h
    |cont=>exact False.elim h
    |ret u=>
     obtain⟨v,H',os,Y,un,A,r',q⟩:=h;have q':v=.bl true:=q;subst q';obtain rfl:u=Value.bool true:=r';have kept:∀b o,c.heap.get? b=some o->j.heap.get? b=some o\/∃t∈mD K,b=t.2.2/\∃ps,j.heap.get? b=some (W.tabObj ps):=λb o e=>by
      rcases hO b with z|⟨ob,M,z,_⟩|⟨t,f,g,z⟩;·exact .inl (un.keep b o e z (by intro y;exact absurd (show b∈([]:List Addr)from y) (by simp)) (by simp))
      ·have z2:=un.pF b ob _ z;obtain⟨U,_⟩:=O b _ z;obtain⟨L,_⟩:=A b _ z2;rw[e]at U;cases U;exact .inl L
      ·obtain⟨more,z2⟩:=un.q3 b #[] z;have L:j.heap.get? b=some {cls:=.none,data:=.fields<|#[]++more}:=A b _ z2;exact .inr ⟨t,f,g,_,L⟩
     refine⟨rfl,⟨λb o e=>?_,λb o e=>?_⟩,os,Y⟩
     ·rcases kept b o e with z|⟨t,f,g,ps,z⟩;·exact .inl z
      ·subst g;have L:=(hT t f).2;rw[e]at L;cases L;exact .inr (.inl ⟨((hT t f).1.tab (hT t f).2).isCodeTable,rfl,#[],ps,rfl,by rw[Array.empty_append];exact z⟩)
     ·rcases kept b o e with z|⟨_,_,_,ps,z⟩;·exact⟨o,z⟩
      ·exact⟨_,z⟩
  have nz:¬∃t∈mD K,a=t.2.2:=λ⟨t,f,e⟩=>na t f e.symm;have lM:∀(H:Hp) (b:Addr),(∃t∈mD K,b=t.2.2)->kq P w H c.heap b (.lM #[]):=λH b ⟨t,f,e⟩=>by subst e;exact(hT t f).2
  cases S:K.lookup a with
  |some o=>
   have e:=KX a o S;rw[G]at e;cases e;refine B (λb=>if(∃t∈mD K,b=t.2.2)then some (.lM #[])else none) (λb=>?_) (λt f=>av ⟨t,f,rfl⟩) (.inr ⟨_,C.toArray,_,S,rfl,rfl,rfl,by rw[aM,N];exact hl,by simpa using rv⟩) (λb u e=>?_)
   ·by_cases z:∃t∈mD K,b=t.2.2
    ·obtain⟨t,f,e⟩:=z;exact .inr (.inr ⟨t,f,e,av ⟨t,f,e⟩⟩)
    ·exact .inl (aw z)
   ·by_cases z:∃t∈mD K,b=t.2.2
    ·have g:=(av z).symm.trans e;cases g;exact lM _ b z
    ·have g:=(aw z).symm.trans e;cases g
  |none=>
   refine B (λb=>if(∃t∈mD K,b=t.2.2)then some (.lM #[])else if b=a then some (.j6 {cls:=.type "list",data:=.seq C.toArray}<|.lst<|ns.map V.int)else none) (λb=>?_) (λt f=>av ⟨t,f,rfl⟩) (.inl<|.inr ⟨{cls:=.type "list",data:=.seq C.toArray},(aw nz).trans (av rfl)⟩) (λb u e=>?_)
   ·by_cases z:∃t∈mD K,b=t.2.2
    ·obtain⟨t,f,e⟩:=z;exact .inr (.inr ⟨t,f,e,av ⟨t,f,e⟩⟩)
    ·by_cases y:b=a;·exact .inr (.inl ⟨_,_,(aw z).trans (av y),y,S⟩)
     ·exact .inl ((aw z).trans (aw y))
   ·by_cases z:∃t∈mD K,b=t.2.2
    ·have g:=(av z).symm.trans e;cases g;exact lM _ b z
    ·by_cases y:b=a
     ·have g:=((aw z).trans (av y)).symm.trans e;cases g;subst y;exact⟨G,by rw[aj];exact hl,C,_,rv,G⟩
     ·have g:=((aw z).trans (aw y)).symm.trans e;cases g
def abM{K:W.Frag}(T:Top p loose adm mg mb h)(X:K.In h)(b:(mD K).all (λt=>((recsOf p).find? λe=>e.name==t.1).isSome)=true):
    ∀t∈mD K,W.CodeHd h t.2.1 t.2.2/\h.get? t.2.2=some (W.tabObj #[]):=λt a=>by
 have f:=cF.mp b t a;obtain⟨d,c⟩:=d7.mp f;unfold mD at a;obtain⟨x,_,e⟩:=bB.mp a;split at e
 ·obtain⟨q,i,g⟩:=aB.mp e;subst g;exact W.tab_of T X c i
 ·cases e
def ND:bootBuiltins "reversed"=some (.type "reversed"):=by decide+kernel
theorem i9.rev{K:W.Frag}{c:Addr->Prop}{H:Hp}:∀{a:List V} {b:List D},i9 K c H a b->i9 K c H a.reverse b.reverse
 |_,_,.nil=>.nil
 |_,_,.cons r q=>by rw[eH,eH];exact(i9.rev q).append (.cons r .nil)
variable{X:Cx}{E:XK}{e:Expr}{ta:TE}{f:jq}{p1 p2 Y wm:Pos}
def C8:D->R (List D)
 |.lst ds=>.ok ds.reverse
 |_=>.bad
end P2
namespace WP
open PySem L2 P2
structure Ad where
 WeatherError:Addr:=0
 NoFraction:Addr:=0
 NoText:Addr:=0
 Twice:Addr:=0
 TooMany:Addr:=0
 NoRow:Addr:=0
 Tokens:Addr:=0
 Book:Addr:=0
 Sight:Addr:=0
 Desk:Addr:=0
 ac6:Addr:=0
 ac4:Addr:=0
 ac5:Addr:=0
 om:Addr->Value->Option Bool:=λ_ _=>none
def vq(a:Ad):jO:=(kf (lz 2 (d2 jH (dV 0) (dV 1)))
    (kf (lz 0 (dV 1))
    (lz 1 (dV 2))))
def vI(a:Ad):jO:=(kf (o9 (b1 tB (d2 oV (dV 1) (iP 0))) (vq a) sQ)
    (kZ (dV 0)))
def vM(a:Ad):jO:=(kZ<|xN (dA (mT a.om)<|aa (dV 0)<|aa (dC<|.ty "int") iU)<|xO<|dA (mT a.om)<|aa (dV 0)<|aa (dC<|.ty "bool") iU)
def vJ(a:Ad)(c b:je):jO:=(kf (pQ (pD (qO (b1 tT (dA c (aa (dV 0) iU)))) (pD (qO (b1 tT (dA c (aa (dV 1) iU)))) (b1 tB (d2 jJ (dV 1) (iP 0))))) (λ_=>.ex a.NoFraction [] []) pR)
    (kf (lz 2 (dA b (aa (dA oO (aa (dV 0) iU)) (aa (dA oO (aa (dV 1) iU)) iU))))
    (kf (pQ (b1 tB (d2 mY (dV 1) (iP 0))) (lz 2 (d1 v7 (dV 2))) pR)
    (kZ (dA jz (aa (d2 j7 (dV 0) (dV 2)) (aa (d2 j7 (dV 1) (dV 2)) iU)))))))
def vO(a:Ad)(b:je):jO:=(kZ<|dA b<|aa (d2 j0 (d2 km (iY 0 0)<|iY 1 1)<|d2 km (iY 1 0)<|iY 0 1)<|aa (d2 km (iY 0 1)<|iY 1 1) iU)
def vN(a:Ad)(b:je):jO:=(kZ<|dA b<|aa (d2 oZ (d2 km (iY 0 0)<|iY 1 1)<|d2 km (iY 1 0)<|iY 0 1)<|aa (d2 km (iY 0 1)<|iY 1 1) iU)
def vP(a:Ad)(b:je):jO:=(kZ<|dA b<|aa (d2 km (iY 0 0)<|iY 1 0)<|aa (d2 km (iY 0 1)<|iY 1 1) iU)
def vQ(a:Ad):jO:=(kZ<|d2 mY (d2 km (iY 0 0)<|iY 1 1)<|d2 km (iY 1 0)<|iY 0 1)
def Bg(a:Ad):jO:=(kf (pQ (b1 tB (d2 mz (iY 0 0) (dA jz (aa (jg "+") (aa (jg "-") (aa (jg "<") (aa (jg "=") (aa (jg "and") (aa (jg "or") iU))))))))) (kZ (jw (λb=>((aa (iY 0 1) (aa (iY 0 2) iU)) b).bind jF))) pR)
    (kf (pQ (b1 tB (d2 jJ (iY 0 0) (jg "times"))) (kZ (jw (λb=>((aa (iY 0 2) iU) b).bind jF))) pR)
    (kf (pQ (b1 tB (d2 mz (iY 0 0) (dA jz (aa (jg "abs") (aa (jg "not") iU))))) (kZ (jw (λb=>((aa (iY 0 1) iU) b).bind jF))) pR)
    (kZ (jw (λb=>(iU b).bind jF))))))
def ym(a:Ad)(b:je):jO:=(kZ<|dA b<|aa (dA oO<|aa (iY 0 0) iU)<|aa (iY 0 1) iU)
def yo(a:Ad):jO:=(kf (pQ (b1 tB (d2 mY (dV 1) (dA lE (aa (dV 0) iU)))) (kZ (d2 jU (dV 0) (dV 1))) pR)
    (kZ (iP 0)))
def Ay(a:Ad):jO:=(zo 2 3<|aa (dV 3)<|aa (d2 jH (dV 2)<|dV 3) iU)
def yr(a:Ad):jO:=(kf (zo 2 3 (aa (dA oO (aa (dV 0) iU)) (aa (dV 1) iU)))
    (kf (o9 (b1 tB (d2 rF (dV 3) (iP 0))) (Ay a) sQ)
    (kZ (dA jz (aa (d2 j7 (dV 0) (dV 2)) (aa (d2 j7 (dV 1) (dV 2)) iU))))))
def vx(a:Ad):jO:=(lz 5<|d2 j0 (dV 5)<|d2 jU (jg "qxz")<|d2 jH (d2 j7 (dV 0)<|d2 j0 (iP 3)<|dV 6)<|iP 3)
def vR(a:Ad):jO:=(kf (lz 2 (jg "abcdefghijklmnopqrstuvwxyz"))
    (kf (lz 3 (d2 jU (jw (λb=>((aa (iP 1) (aa (iP 3) (aa (iP 5) (aa (iP 7) (aa (iP 9) (aa (iP 11) (aa (iP 15) (aa (iP 17) (aa (iP 19) (aa (iP 21) (aa (iP 23) (aa (iP 25) iU)))))))))))) b).bind jF)) (d2 jH (d2 j7 (dV 0) (iP 26)) (iP 12))))
    (kf (lz 4 (d2 j0 (d2 jU (dV 2) (d2 jH (d2 j0 (dV 0) (d2 km (dV 1) (dV 3))) (iP 26))) (d2 jU (jg "qxz") (d2 jH (d2 j7 (dV 1) (iP 26)) (iP 3)))))
    (kf (lz 5 (jg ""))
    (kf (uN (λb=>((aa (d2 jH (d2 j7 (dV 0) (iP 312)) (iP 7)) iU) b).bind qx) (gV 6) (vx a))
    (kf (pQ (b1 tB (d2 jJ (d2 jH (d2 j7 (dV 0) (iP 2184)) (iP 2)) (iP 1))) (kZ (d2 j0 (dV 5) (dV 4))) pR)
    (kZ (d2 j0 (dV 4) (dV 5)))))))))
end WP
namespace P2
open PySem PySem.W PyProof.Rows
def lj{b:Type}(n:Nat)(c:Nat->Nat->Bool):KasT b->(b->Prop)->Prop
 |.ret a,Q=>Q a
 |.ask i j k,Q=>i<n/\j<n/\lj n c (k<|c i j) Q
theorem lj.bind{d b:Type}{n:Nat}{c:Nat->Nat->Bool}{f:d->KasT b}{Q:b->Prop}:∀{t:KasT d},lj n c t (λa=>lj n c (f a) Q)->lj n c (t.bind f) Q
 |.ret _,h=>h
 |.ask i j k,h=>⟨h.1,h.2.1,lj.bind (t:=k<|c i j) h.2.2⟩
theorem lj.wp{d:Type}{n}{c:Nat->Nat->Bool}{b:Nat->Nat->(Bool->Shared->Prop)->Shared->Prop}{Q:d->Prop}{G:d->Shared->Prop}{s}
 (e:∀i j,i<n->j<n->∀C:Bool->Shared->Prop,C (c i j) s->b i j C s)(f:∀a,Q a->G a s):∀{t},lj n c t Q->t.kasWp b G s
  |.ret a,h=>f a h
  |.ask i j k,h=>e i j h.1 h.2.1 _ (lj.wp e f (t:=k<|c i j) h.2.2)
section
variable{n:Nat}{c:Nat->Nat->Bool}{o:Nat->Int}
def KK(o:Nat->Int)(p:Array Nat)(i:Nat):Int:=o ((p[i]?).getD 0)
def kK(n:Nat)(p:Array Nat):Prop:=p.Perm (List.toArray<|List.range n)
def kK.size(h:kK n p):p.size=n:=by rw[h.size_eq];simp
def kK.lt(h:kK n p)(b:0<n)(k):p.getD k 0<n:=by
 rw[fM];cases e:p[k]? with
 |none=>simpa using b
 |some x=>
  have a:x∈p.toList:=by have:=eV e;exact dM.mpr this
  have:=(dP.mp h).mem_iff.mp a;simpa using this
def yn(o:Nat->Int)(p:Array Nat)(i):o (p.getD i 0)=KK o p i:=by unfold KK;rw[fM]
def KK_congr(h:p[i]?=q[j]?):KK o p i=KK o q j:=by unfold KK;rw[h]
def xk{p:Array Nat}(a:j<=p.size)(k):KK o (kas_rev p i j) k=if i<=k/\k<j then KK o p (i+j - 1 - k)else KK o p k:=by
 have:=getElem?_mirror_all (i:=i) a k;unfold kas_rev;split;·rename_i h;rw[av h]at this;exact KK_congr this
 ·rename_i h;rw[aw h]at this;exact KK_congr this
def kK.rev(h:kK n p)(i j):kK n (kas_rev p i j):=(mirror_perm ..).trans h
def kK.NH(h:kK n p)(i j):kK n (bubble p i j):=(bubble_perm ..).trans h
variable(v:∀i j,i<n->j<n->c i j=decide (o i<o j))
include v
theorem vn{b:Type}{p:Array Nat}(h:kK n p)(a:0<n)(i j:Nat){k:Bool->KasT b}{Q:b->Prop}(q:lj n c (k<|decide<|KK o p i<KK o p j) Q):lj n c (.ask (p.getD i 0) (p.getD j 0) k) Q:=by refine⟨h.lt a i,h.lt a j,?_⟩;rw[v _ _ (h.lt a i)<|h.lt a j,yn o p i,yn o p j];exact q
def nW(o:Nat->Int)(p:Array Nat)(m:Nat):Prop:=∀i j,i<=j->j<m->KK o p i<=KK o p j
def nZ(o:Nat->Int)(p:Array Nat)(m:Nat):Prop:=∀i j,i<=j->j<m->KK o p j<=KK o p i
omit v in
theorem nW.snoc(h:nW o p m)(d:1<=m)(e:KK o p (m - 1)<=KK o p m):nW o p (m+1):=λi j a b=>by
 by_cases z:j=m
 ·subst z;by_cases y:i=j;·subst y;omega
  ·have:=h i (j - 1) (by omega) (by omega);omega
 ·exact h i j a (by omega)
omit v in
theorem nZ.snoc(h:nZ o p m)(d:1<=m)(e:KK o p m<=KK o p (m - 1)):nZ o p (m+1):=λi j a b=>by
 by_cases z:j=m
 ·subst z;by_cases y:i=j;·subst y;omega
  ·have:=h i (j - 1) (by omega) (by omega);omega
 ·exact h i j a (by omega)
theorem Cc{p:Array Nat}(h:kK n p)(d:0<n){Q:Nat->Prop}:∀(f m:Nat),1<=m->nW o p m->(∀b,m<=b->b<=m+f->nW o p b->(b<m+f->KK o p b<KK o p (b - 1))->Q b)->lj n c (kas_asc p f m) Q
 |0,m,_,a,q=>q m (ag _) (ag _) a λw=>absurd w (by omega)
 |f+1,m,e,a,q=>by
  refine vn v h d m (m - 1) ?_;by_cases z:KK o p m<KK o p (m - 1)
  ·rw[aN z,av rfl];exact q m (ag _) (by omega) a λ_=>z
  ·rw[aG z,aw<|by decide];exact Cc h d f (m+1) (by omega) (a.snoc e<|by omega) λb r l k g=>q b (by omega) (by omega) k λw=>g (by omega)
omit v in
theorem nZ.rev(h:nZ o p m)(d:b<=p.size)(f:b<=m)(e:∀k,a<=k->k<b->KK o p k=KK o p (b - 1))(k):KK o (kas_rev p a b) k=KK o p k:=by
 rw[xk d];split
 ·rename_i z;rw[e _ (by omega)<|by omega,e k z.1 z.2]
 ·rfl
theorem yW(t:0<n){Q:Array Nat×Nat×Nat->Prop}:∀(f:Nat) (p:Array Nat) (m q:Nat),kK n p->1<=m->m+f<=n->q<m->nZ o p m->(∀k,m - (q+1)<=k->k<m->KK o p k=KK o p (m - 1))->
 (∀g d l,kK n g->m<=d->d<=m+f->l<d->nZ o g d->(∀k,d - (l+1)<=k->k<d->KK o g k=KK o g (d - 1))->Q (g,d,l))->lj n c (kas_desc f p m q) Q
 |0,p,m,q,h,_,_,D,a,e,r=>r p m q h (ag _) (ag _) D a e
 |f+1,p,m,q,h,G,I,D,a,e,r=>by
  have L:=h.size;refine vn v h t m (m - 1) ?_;by_cases z:KK o p m<KK o p (m - 1)
  ·rw[aN z,av rfl];by_cases y:q>0
   ·rw[av y];have C:=nZ.rev (a:=m - (q+1)) (b:=m) a (by omega) (ag _) e;have K:nZ o (kas_rev p (m - (q+1)) m) (m+1):=nZ.snoc (λi j F J=>by rw[C,C];exact a i j F J) G (by rw[C,C];omega);exact yW t f _ (m+1) 0 (h.rev _ _) (by omega) (by omega) (by omega) K (λk s B=>by rw[show k=m+1 - 1 by omega]) λg d l s B H A x u=>r g d l s (by omega) (by omega) A x u
   ·rw[aw y];exact yW t f p (m+1) 0 h (by omega) (by omega) (by omega) (a.snoc G<|by omega) (λk s B=>by rw[show k=m+1 - 1 by omega]) λg d l s B H A x u=>r g d l s (by omega) (by omega) A x u
  ·rw[aG z,aw<|by decide];refine vn v h t (m - 1) m ?_;by_cases y:KK o p (m - 1)<KK o p m
   ·rw[aN y,av rfl];exact r p m q h (ag _) (by omega) D a e
   ·rw[aG y,aw<|by decide];have eq:KK o p m=KK o p (m - 1):=by omega
    refine yW t f p (m+1) (q+1) h (by omega) (by omega) (by omega) (a.snoc G<|by omega) (λk s B=>?_) λg d l s B H A x u=>r g d l s (by omega) (by omega) A x u;rw[fS];by_cases w:k=m;·rw[w]
    ·rw[e k (by omega)<|by omega,eq]
theorem JD{p:Array Nat}(h:kK n p)(g:0<n){m:Nat}(f:1<=m)(r:m<=n)(a:nZ o p m){Q:Nat×Array Nat->Prop}(q:∀b d,kK n d->1<=b->b<=n->nW o d b->Q (b,d)):lj n c (kas_tail3 m n p) Q:=by have l:=h.size;refine lj.bind (Cc v (h.rev 0 m) g _ _ f (λi j e s=>?_) λb w u k t=>q b _ (h.rev 0 m) (by omega) (by omega) k);rw[xk<|by omega,xk<|by omega,av<|by omega,av<|by omega];exact a _ _ (by omega) (by omega)
theorem JC{p:Array Nat}(h:kK n p)(r:0<n){m:Nat}(x:1<=m)(B:m<n)(a:nZ o p m)(e:KK o p m<KK o p (m - 1)){Q:Nat×Array Nat->Prop}(q:∀d f,kK n f->1<=d->d<=n->nW o f d->Q (d,f)):lj n c (kas_descPart m n p) Q:=by
 refine lj.bind (yW v r _ _ _ _ h (by omega) (by omega) (by omega) (a.snoc x<|by omega) (λk g z=>by rw[show k=m+1 - 1 by omega]) λf d u g z D C s y=>?_);dsimp only;have A:=g.size;split
 ·have t:=nZ.rev (a:=d - (u+1)) (b:=d) s (by omega) (ag _) y;exact JD v (g.rev _ _) r (by omega) (by omega) (λi j l w=>by rw[t,t];exact s i j l w) q
 ·exact JD v g r (by omega) (by omega) s q
theorem UM{p:Array Nat}(h:kK n p)(f:1<=n){Q:Nat×Array Nat->Prop}(q:∀b s,kK n s->1<=b->b<=n->nW o s b->Q (b,s)):lj n c (kas_count n p) Q:=by
 have A:=h.size;refine lj.bind (Cc v h f _ _ (ag 1) (λi j a t=>by rw[show i=j by omega];omega) λm l B g x=>?_);by_cases z:m=n
 ·subst z;simp only[gu,c8];exact q m p h l (ag _) g
 ·have u:¬(m==n)=true:=by simpa using z
  rw[aw u];have e:=x (by omega);split
  ·refine vn v h f 0 (m - 1) ?_;by_cases y:KK o p 0<KK o p (m - 1)
   ·rw[aN y,av rfl];exact q m p h l (by omega) g
   ·rw[aG y,aw<|by decide];have r:∀k,k<m->KK o p k=KK o p (m - 1):=λk w=>by
     have:=g 0 k (by omega) w;have:=g k (m - 1) (by omega) (by omega);omega
    have d:∀k,KK o (kas_rev p 0 m) k=KK o p k:=λk=>by
     rw[xk<|by omega];split;·rw[r _<|by omega,r k<|by omega]
     ·rfl
    exact JC v (h.rev 0 m) f l (by omega) (λi j a t=>by rw[d,d,r i<|by omega,r j t];omega) (by rw[d,d];exact e) q
  ·exact JC v h f l (by omega) (λi j a t=>by rw[show i=j by omega];omega) e q
theorem Ce{p:Array Nat}(h:kK n p)(g:0<n){k:Nat}(a:nW o p k){Q:Nat->Prop}(q:∀l,l<=k->(∀i,i<l->KK o p i<=KK o p k)->(∀i,l<=i->i<k->KK o p k<KK o p i)->Q l):
 ∀(f l r:Nat),l<=r->r<=k->r - l<=f->(∀i,i<l->KK o p i<=KK o p k)->(∀i,r<=i->i<k->KK o p k<KK o p i)->lj n c (kas_place p k f l r) Q
 |0,l,r,u,t,s,e,d=>q l (by omega) e λi m b=>d i (by omega) b
 |f+1,l,r,u,t,s,e,d=>by
  show lj n c (if l≥r then .ret l else _) Q;split;·exact q l (by omega) e λi m b=>d i (by omega) b
  ·refine vn v h g k ((l+r)/2) ?_;by_cases z:KK o p k<KK o p ((l+r)/2)
   ·rw[aN z,av rfl];exact Ce h g a q f l ((l+r)/2) (by omega) (by omega) (by omega) e λi m b=>by have:=a ((l+r)/2) i (by omega) b;omega
   ·rw[aG z,aw<|by decide];exact Ce h g a q f ((l+r)/2+1) r (by omega) (by omega) (by omega) (λi w=>by have:=a i ((l+r)/2) (by omega) (by omega);omega) d
theorem JB(t:0<n){Q:Array Nat->Prop}(q:∀p,kK n p->nW o p n->Q p):∀(f:Nat) (p:Array Nat) (k:Nat),kK n p->k+f=n->nW o p k->lj n c (kas_bin f p k) Q
 |0,p,k,h,e,a=>q p h (by rw[<-e];exact a)
 |f+1,p,k,h,e,a=>by
  have B:=h.size;refine lj.bind (Ce v h t a (λl D A z=>?_) k 0 k (by omega) (ag _) (by omega) (λi w=>absurd w<|by omega) λi y d=>absurd y<|by omega);refine JB t q f _ (k+1) (h.NH _ _) (by omega) λi j g C=>?_;have u:∀x,KK o (bubble p k<|k - l) x=if x=l then KK o p k else if l<x/\x<=k then KK o p (x - 1)else KK o p x:=λx=>by
   have:=getElem?_bubble (xs:=p) (src:=k) (by omega) (k - l) (by omega) x;rw[show k - (k - l)=l by omega]at this;split;·rename_i w;rw[av w]at this;exact KK_congr this
   ·rename_i w;rw[aw w]at this;split;·rename_i d;rw[av d]at this;exact KK_congr this
    ·rename_i d;rw[aw d]at this;exact KK_congr this
  rw[u,u];by_cases s:i=l
  ·rw[av s];by_cases b:j=l;·rw[av b];omega
   ·rw[aw b,av<|by omega];have:=z (j - 1) (by omega) (by omega);omega
  ·rw[aw s];by_cases r:l<i/\i<=k
   ·rw[av r,aw<|by omega,av<|by omega];exact a _ _ (by omega) (by omega)
   ·rw[aw r];by_cases b:j=l;·rw[av b];exact A i (by omega)
    ·rw[aw b];by_cases m:l<j/\j<=k;·rw[av m];exact a _ _ (by omega) (by omega)
     ·rw[aw m];exact a _ _ g (by omega)
theorem U2(b:1<=n){Q:Array Nat->Prop}(q:∀p,kK n p->nW o p n->Q p):lj n c (kas_sort n) Q:=by
 refine lj.bind (UM v (Array.Perm.refl _) b λa f e h g d=>?_);dsimp only;split
 ·rename_i z;rw[show max a 1=a by omega];exact JB v b q _ _ _ e (by omega) d
 ·exact q f e (by rw[show n=a by omega];exact d)
end
def rankOf(n:Nat)(c:Nat->Nat->Bool)(i:Nat):Int:=(((List.range n).filter λj=>c j i).length:Nat)
def Hs{c:Type}{l:List c}{p q:c->Bool}(h:∀x∈l,p x=true->q x=true):(l.filter p).length<=(l.filter q).length:=by
 induction l with
 |nil=>simp
 |cons a l d=>
  have b:=d λx e=>h x (.tail _ e);have g:=h a (.head _);simp only[List.filter_cons];cases f:p a with
  |true=>rw[g f];simpa using b
  |false=>
   cases i:q a with
   |true=>simp;omega
   |false=>simpa using b
def Pr{d:Type}{l:List d}{p q:d->Bool}(h:∀x∈l,p x=true->q x=true){y:d}(c:y∈l)(k:p y=false)(j:q y=true):(l.filter p).length<(l.filter q).length:=by
 induction l with
 |nil=>simp at c
 |cons a l f=>
  have i:=h a (.head _);have le:=Hs λx e=>h x (.tail _ e);simp only[List.filter_cons];rcases aD.mp c with rfl|c
  ·rw[k,j];simp only[bj,bI,c8,aq];omega
  ·have b:=f (λx e=>h x<|.tail _ e) c;cases g:p a with
   |true=>rw[i g];simpa using b
   |false=>
    cases m:q a with
    |true=>simp;omega
    |false=>simpa using b
def ZR{n:Nat}{c:Nat->Nat->Bool}(b:∀i,i<n->c i i=false)(g:∀i j k,i<n->j<n->k<n->c i j=true->c j k=true->c i k=true)
    (m:∀i j k,i<n->j<n->k<n->c i j=true->c k j=true\/c i k=true)(i j:Nat)(a:i<n)(f:j<n):c i j=decide (rankOf n c i<rankOf n c j):=by
 cases h:c i j with
 |true=>
  symm
  rw[bw];have:=Pr (l:=List.range n) (p:=λk=>c k i) (q:=λk=>c k j) (λk d e=>g k i j (by simpa using d) a f e h) (y:=i) (by simpa using a) (b i a) h;unfold rankOf;omega
 |false=>
  symm
  rw[cM];have:=Hs (l:=List.range n) (p:=λk=>c k j) (q:=λk=>c k i) (λk d e=>by
   rcases m k j i (by simpa using d) f a e with h2|h2;· rw[h]at h2;cases h2
   · exact h2)
  unfold rankOf;omega
end P2
namespace P2
open PySem L2 PySem.Spec PySem.Calls
def Gx:bootBuiltins "sorted"=some (.builtin "sorted"):=by decide+kernel
open PySem.W
open PyProof.Rows hiding St K
variable{prog:Program}{w:World}{A:Around}{E:jP}{s:Shared}
abbrev aae(κ:SortKind)(us:List Value):SortSt:=SortSt.mk' κ (us.toArray.zip us.toArray) #[] 7 none
def xo(prog:Program)(w:World)(G:Array Value->Prop)(a:List Value)(t:Shared):Prop:=
 ∀B:Around,wpAny (model prog w) B (keyKind' a.toArray) (λc d=>d=t/\wpAny (model prog w) B ((sortRuns').run (aae c a)) (λr b=>b=t/\failedOf r.2=none/\((arrOf r.2).map (·.2)).size=a.length/\G ((arrOf r.2).map (·.2))) (λ_ _=>False) t) (λ_ _=>False) t
def Lf{d}{a:List Value}{G:Array Value->Prop}{Q:PySem.Fin->Shared->Prop}(n:s.heap.get? d=some (seqObj "list" a.toArray e))(C:a.length<=sizeLine)(D:a.length<2->G a.toArray)
 (K:2<=a.length->∀t:Shared,(∀b o,b≠d->s.heap.get? b=some o->t.heap.get? b=some o)->xo prog w G a t)
 (k:∀out:Array Value,out.size=a.length->G out->Q (.done<|.ret .none) {s with heap:=sortedHeap s.heap d a out}):wpAny (model prog w) A (Builtin.«list.sort» ⟨[.ref d],[]⟩) Q E s:=by
  have i:d<s.heap.objs.size:=Heap.lt_size n;rw[list_sort_plain];apply ae;apply listItems_at n rfl;apply ae;apply listUpdate_at n rfl (hsz:=by simpa using C) (hsz2:=bM _);have f:=get?_update_seq n (λ_=>(#[]:Array Value));apply ae;apply seqEpoch_at f rfl;apply ae;refine wpAny_newTuple ?_ (by simpa using C);apply ae;refine wpAny_newList ?_ (bM _);refine bE ?_;generalize B:((s.heap.update d<|Obj.mapSeq λ_=>(#[]:Array Value)).push (seqObj "tuple" a.toArray 0)).push (seqObj "list" #[] 0)=h6;have L:∀out:Array Value,h6.update d (Obj.mapSeq λ_=>out)=sortedHeap s.heap d a out:=λout=>by rw[<-B];rfl
  have v:d≠(s.heap.update d<|Obj.mapSeq λ_=>(#[]:Array Value)).objs.size:=by rw[gw];exact aU i
  have u:∀o:Obj,d≠((s.heap.update d<|Obj.mapSeq λ_=>(#[]:Array Value)).push o).objs.size:=λo=>by rw[size_push',gw];exact aU (b9 i)
  have c:∃l,h6.get? d=some (seqObj "list" #[] l)/\((s.heap.update d<|Obj.mapSeq λ_=>(#[]:Array Value)).get? d=some (seqObj "list" #[] l)):=by refine⟨_,?_,f⟩;rw[<-B,Heap.get?_push_ne _ _ _<|u _,Heap.get?_push_ne _ _ _ v];exact f
  obtain⟨l,c,j⟩:=c;have F:=f.symm.trans j;have p:∀b o,b≠d->s.heap.get? b=some o->h6.get? b=some o:=λb o J q=>by rw[<-B];refine ah _ (ah _ ?_);rw[d4 _ _ _ _ J];exact q
  show wpAny (model prog w) A _ Q E {s with heap:=h6};dsimp only;have g:∀out:Array Value,out.size=a.length->G out->wpAny (model prog w) A (Builtin.List.listUpdate (.ref d) λ_=>out) (λ_ t=>t={s with heap:=sortedHeap s.heap d a out}) E {s with heap:=h6}:=λout I m=>by refine listUpdate_at (s:={s with heap:=h6}) c rfl ?_ (hsz:=bM _) (hsz2:=by rw[I];omega);show({s with heap:=h6.update d<|Obj.mapSeq λ_=>out}:Shared)=_;rw[L out]
  by_cases h:a.toArray.size<2
  ·rw[av h,av h];apply ae;apply af;rw[StateT.run_pure];apply ae;apply af;dsimp only;apply ae;apply seqEpoch_at (s:={s with heap:=h6}) c rfl;have M:(arrOf<|SortSt.mk' general' (a.toArray.zip a.toArray) #[] 7 none).map (·.2)=a.toArray:=by
    show(a.toArray.zip a.toArray).map (·.2)=_;apply dU.mp;rw[Array.toList_map];simp only[Array.toList_zip];rw[<-List.unzip_snd,List.unzip_zip rfl]
   rw[M];refine ae (bq (g a.toArray (by simp)<|D<|by simpa using h) (λ_ t y=>?_) λ_ _ x=>x);subst y;have:l=(if(#[]:Array Value).size==a.toArray.size then e else e+1):=by injection F with w1;injection w1 with _ _ w2;injection w2 with _ w3;exact w3.symm
   rw[<-this];simp only[bne_self_eq_false,bj,bI];exact af (k _ (by simp)<|D<|by simpa using h)
  ·rw[aw h,aw h];refine ae (bq (K (by simpa using h) {s with heap:=h6} p A) (λN t z=>?_) λ_ _ x=>x.elim);obtain⟨rfl,z⟩:=z;refine ae (bq z (λr t H=>?_) λ_ _ x=>x.elim);obtain⟨rfl,hf,hsz,m⟩:=H;obtain⟨⟨⟩,O⟩:=r;dsimp only at hf hsz m⊢;apply ae;apply seqEpoch_at (s:={s with heap:=h6}) c rfl;refine ae (bq (g _ hsz m) (λ_ t y=>?_) λ_ _ x=>x);subst y;rw[hf];have:l=(if(#[]:Array Value).size==a.toArray.size then e else e+1):=by injection F with w1;injection w1 with _ _ w2;injection w2 with _ w3;exact w3.symm
   rw[<-this];simp only[bne_self_eq_false,bj,bI];exact af (k _ hsz m)
def aa1{a:List Value}{G:Array Value->Prop}{Q:jP}(j:s.heap.IsList l a.toArray)(d:a.length<=sizeLine)(u:a.length<2->G a.toArray)
 (r:2<=a.length->∀t:Shared,(∀b o,s.heap.get? b=some o->t.heap.get? b=some o)->xo prog w G a t)
 (k:∀out:Array Value,out.size=a.length->G out->Q (.ref<|s.heap.objs.size+1) {s with heap:=sortedAll s.heap a out}):wpAny (model prog w) A (call (.builtin "sorted") [.ref l]) Q E s:=by
  refine call_function_entry kind_sorted plain_sorted entry_sorted (args_sorted1 _) ?_;unfold Builtin.«sorted»;refine ae (m:=checkCount "sorted" 1 1 _) (af ?_);apply ae;refine collect_list j ?_ d;apply ae;refine wpAny_newList ?_ d;have c:((s.heap.push<|seqObj "list" #[] 0).update s.heap.objs.size (Obj.mapSeq (· ++a.toArray))).objs.size=s.heap.objs.size+1:=by rw[gw,size_push']
  generalize f:(s.heap.push<|seqObj "list" #[] 0).update s.heap.objs.size (Obj.mapSeq (· ++a.toArray))=g at c;have here:(g.push<|seqObj "list" a.toArray 0).get? (s.heap.objs.size+1)=some (seqObj "list" a.toArray 0):=by rw[<-c];exact aH _ rfl
  have kp:∀b o,s.heap.get? b=some o->b≠s.heap.objs.size+1/\(g.push<|seqObj "list" a.toArray 0).get? b=some o:=λb o q=>by have lt:=Heap.lt_size q;refine⟨aU<|b9 lt,ah _ ?_⟩;rw[<-f,d4 _ _ _ _<|aU lt];exact ah _ q
  show wpAny _ _ _ _ _ {s with heap:=g.push<|seqObj "list" a.toArray 0};rw[c];refine ae (bE<|bx slot_list_sort ⟨_,here,rfl⟩ entry_list_sort (Lf (s:={s with heap:=g.push<|seqObj "list" a.toArray 0}) here d u (λp t h=>r p t λb o q=>h b o (kp b o q).1 (kp b o q).2) λout i n=>⟨_,rfl,?_⟩)<|args_list_sort _);refine af ⟨_,rfl,?_⟩;have e:sortedHeap (g.push<|seqObj "list" a.toArray 0) (s.heap.objs.size+1) a out=sortedAll s.heap a out:=by rw[<-f];rfl
  show Q _ ({s with heap:=sortedHeap (g.push<|seqObj "list" a.toArray 0) (s.heap.objs.size+1) a out}:Shared);rw[e];exact k out i n
def ny:List D->List D->Bool
 |.int i::xs,.int j::a=>if i=j then ny xs a else decide (i<j)
 |.str i::xs,.str j::a=>if i=j then ny xs a else decide (i.cps.toList<j.cps.toList)
 |[],_::_=>true
 |_,_=>false
def ltQ:D->D->Bool
 |.int i,.int j=>decide (i<j)
 |.str i,.str j=>decide (i.cps.toList<j.cps.toList)
 |.tup a,.tup b=>ny a b
 |_,_=>false
def oC:List D->Option (List Nat)
 |[]=>some []
 |.int _::r=>(oC r).map (0:: ·)
 |.str _::r=>(oC r).map (1:: ·)
 |_=>none
def kg:D->Option (List Nat)
 |.int _=>some [0]
 |.str _=>some [1]
 |.tup (a::r)=>(oC<|a::r).map (2:: ·)
 |_=>none
def mS:List D->Bool
 |[]=>true
 |d::r=>(kg d).isSome&&r.all λe=>kg e==kg d
def yD(h:mS ds=true):∃s,∀d∈ds,kg d=some s:=by
 cases ds with
 |nil=>exact⟨[],λd c=>by simp at c⟩
 |cons d r=>
  unfold mS at h;simp only[aQ,cF,dN]at h;obtain⟨s,b⟩:=d7.mp h.1;refine⟨s,λe a=>?_⟩;rcases aD.mp a with rfl|a;·exact b
  ·rw[h.2 e a,b]
def aa9{x y:Str}(h:x.cps.toList=y.cps.toList):x=y:=by
 cases x;cases y;simp only at h
 congr 1
 exact dU.mp h
def K8{x y:Str}(b:¬x.cps.toList<y.cps.toList)(a:¬y.cps.toList<x.cps.toList):x=y:=
 aa9 (List.le_antisymm (List.not_lt.mp a)<|List.not_lt.mp b)
def tI{i:Int}{s}(h:oC (.int i::r)=some s):∃t,s=0::t/\oC r=some t:=by obtain⟨t,b,a⟩:=aB.mp (show(oC r).map (0:: ·)=some s from h);exact⟨t,a.symm,b⟩
def tJ{s}(h:oC (.str i::r)=some s):∃t,s=1::t/\oC r=some t:=by obtain⟨t,b,a⟩:=aB.mp (show(oC r).map (1:: ·)=some s from h);exact⟨t,a.symm,b⟩
inductive ni:List D->List D->Prop
 |nil:ni [] []
 |int (i j:Int) {xs ys:List D}:ni xs ys->ni (.int i::xs) (.int j::ys)
 |str (i j:Str) {xs ys:List D}:ni xs ys->ni (.str i::xs) (.str j::ys)
theorem Eo:∀{a b} {s},oC a=some s->oC b=some s->ni a b
 |[],b,s,c,f=>by
  cases c;cases b with
  |nil=>exact .nil
  |cons d r=>
   cases d with
   |int i=>obtain⟨t,e,_⟩:=tI f;cases e
   |str i=>obtain⟨t,e,_⟩:=tJ f;cases e
   |_=>cases f
 |.int i::xs,b,s,c,f=>by
  obtain⟨t,rfl,k⟩:=tI c;cases b with
  |nil=>cases f
  |cons d r=>
   cases d with
   |int j=>obtain⟨g,e,h⟩:=tI f;cases e;exact .int i j (Eo k h)
   |str j=>obtain⟨g,e,_⟩:=tJ f;cases e
   |_=>cases f
 |.str i::xs,b,s,c,f=>by
  obtain⟨t,rfl,k⟩:=tJ c;cases b with
  |nil=>cases f
  |cons d r=>
   cases d with
   |str j=>obtain⟨g,e,h⟩:=tJ f;cases e;exact .str i j (Eo k h)
   |int j=>obtain⟨g,e,_⟩:=tI f;cases e
   |_=>cases f
 |.non::_,_,_,c,_=>by cases c
 |.bl _::_,_,_,c,_=>by cases c
 |.ty _::_,_,_,c,_=>by cases c
 |.ref _::_,_,_,c,_=>by cases c
 |.tup _::_,_,_,c,_=>by cases c
 |.lst _::_,_,_,c,_=>by cases c
 |.exc _ _ _::_,_,_,c,_=>by cases c
def vX(i j:Int)(xs ys):ny (.int i::xs) (.int j::ys)=if i=j then ny xs ys else decide (i<j):=rfl
def vY(i j xs ys):ny (.str i::xs) (.str j::ys)=if i=j then ny xs ys else decide (i.cps.toList<j.cps.toList):=rfl
def IY(h:ni a b):ny a a=false:=by
 induction h with
 |nil=>rfl
 |int i j h c=>rw[vX,av rfl];exact c
 |str i j h c=>rw[vY,av rfl];exact c
def SD(h:ni a b)(d:ny a b=false)(c:ny b a=false):a=b:=by
 induction h with
 |nil=>rfl
 |int i j h f=>
  rw[vX]at d c;by_cases e:i=j
  ·subst e;rw[av rfl]at d c;rw[f d c]
  ·rw[aw e]at d;rw[aw<|bP e]at c;simp only[cM]at d c;omega
 |str i j h f=>
  rw[vY]at d c;by_cases e:i=j
  ·subst e;rw[av rfl]at d c;rw[f d c]
  ·rw[aw e]at d;rw[aw<|bP e]at c;simp only[cM]at d c;exact absurd (K8 d c) e
def SA(p:ni a b)(q:ni b c)(l:ny a b=true)(d:ny b c=true):ny a c=true:=by
 have o:∀{α m:Type} [DecidableEq α] [LT m] [DecidableRel (α:=m) (· < ·)] (g:α->m),(∀{i j k:m},i<j->j<k->i<k)->(∀i:m,¬i<i)->∀{i j k:α} {P Q R:Bool},(P=true->Q=true->R=true)->(if i=j then P else decide (g i<g j))=true->(if j=k then Q else decide (g j<g k))=true->(if i=k then R else decide (g i<g k))=true:=by
  intro α m _ _ _ g r u i j k P Q R h l d;by_cases e:i=j
  ·subst e;rw[av rfl]at l;by_cases f:i=k
   ·subst f;rw[av rfl]at d⊢;exact h l d
   ·rw[aw f]at d⊢;exact d
  ·rw[aw e]at l;by_cases f:j=k
   ·subst f;rw[aw e];exact l
   ·rw[aw f]at d;have t:=r (bQ l) (bQ d);rw[aw λw=>u _<|w▸t];exact aN t
 induction p generalizing c with
 |nil=>cases l
 |int i j p n=>
  cases q with
  |int _ k q=>rw[vX]at l d⊢;exact o id Int.lt_trans Int.lt_irrefl (n q) l d
 |str i j p n=>
  cases q with
  |str _ k q=>rw[vY]at l d⊢;exact o (λx:Str=>x.cps.toList) List.lt_trans (λ_=>List.lt_irrefl _) (n q) l d
inductive xu:D->D->Prop
 |int (i j:Int):xu (.int i) (.int j)
 |str (i j:Str):xu (.str i) (.str j)
 |tup {a b:List D} {d e:D}:ni (d::a) (e::b)->xu (.tup<|d::a) (.tup<|e::b)
def pS{s}(h:kg x=some s):(∃i,x=.int i/\s=[0])\/(∃i,x=.str i/\s=[1])\/∃d r t,x=.tup (d::r)/\s=2::t/\oC (d::r)=some t:=by
 unfold kg at h;split at h;·cases h;exact .inl ⟨_,rfl,rfl⟩
 ·cases h;exact .inr (.inl ⟨_,rfl,rfl⟩)
 ·rename_i a r;obtain⟨t,c,b⟩:=aB.mp h;exact .inr (.inr ⟨a,r,t,rfl,b.symm,c⟩)
 ·cases h
def q5{s}(h:kg x=some s)(a:kg y=some s):xu x y:=by
 rcases pS h with⟨i,rfl,rfl⟩|⟨i,rfl,rfl⟩|⟨d,r,t,rfl,rfl,k⟩
 ·rcases pS a with⟨j,rfl,_⟩|⟨j,rfl,e⟩|⟨g,f,c,rfl,e,b⟩;·exact .int i j
  ·cases e
  ·cases e
 ·rcases pS a with⟨j,rfl,e⟩|⟨j,rfl,e⟩|⟨g,f,c,rfl,e,b⟩;·cases e
  ·exact .str i j
  ·cases e
 ·rcases pS a with⟨j,rfl,e⟩|⟨j,rfl,e⟩|⟨g,f,c,rfl,e,b⟩;·cases e
  ·cases e
  ·cases e;exact .tup (Eo k b)
def Ji{s}(h:kg x=some s):ltQ x x=false:=by
 cases q5 h h with
 |int i j=>exact aG (by omega)
 |str i j=>exact aG (List.lt_irrefl _)
 |tup q=>exact IY q
def BW{s}(f:kg x=some s)(e:kg y=some s)(d:ltQ x y=false)(c:ltQ y x=false):x=y:=by
 cases q5 f e with
 |int i j=>have a:=ec d;have b:=ec c;rw[show i=j by omega]
 |str i j=>rw[K8 (ec d)<|ec c]
 |tup q=>rw[SD q d c]
def yL{s}(h:kg x=some s)(c:kg y=some s)(d:kg z=some s)(f:ltQ x y=true)(e:ltQ y z=true):ltQ x z=true:=by
 cases q5 h c with
 |int i j=>
  cases q5 c d with
  |int _ k=>have a:=bQ f;have b:=bQ e;exact aN (by omega)
 |str i j=>
  cases q5 c d with
  |str _ k=>exact aN (List.lt_trans (bQ f)<|bQ e)
 |tup q=>
  cases q5 c d with
  |tup g=>exact SA q g f e
def uu(x:D):List D->List D
 |[]=>[x]
 |y::r=>if ltQ y x=true then y::uu x r else x::y::r
def kI(a:List D):List D:=a.foldr uu []
def tX(c:List D):Prop:=c.Pairwise λa b=>ltQ b a=false
theorem Bv(x):∀r:List D,(uu x r).Perm (x::r)
 |[]=>.refl _
 |y::r=>by
  unfold uu;split;·exact((Bv x r).cons y).trans (.swap x y r)
  ·exact .refl _
theorem nC:∀a:List D,(kI a).Perm a
 |[]=>.refl _
 |d::r=>(Bv d<|kI r).trans ((nC r).cons d)
theorem Ii{s}(e:kg x=some s):∀{r},(∀d∈r,kg d=some s)->tX r->tX (uu x r)
 |[],_,_=>gx ..
 |y::r,g,h=>by
  have c:=g y (.head _);obtain⟨i,l⟩:=ee.mp h;unfold uu;split
  ·rename_i lt;refine ee.mpr ⟨λz a=>?_,Ii e (λd k=>g d<|.tail _ k) l⟩;rcases aD.mp ((Bv x r).mem_iff.mp a)with rfl|a
   ·cases q:ltQ z y with
    |false=>rfl
    |true=>have:=yL c e c lt q;rw[Ji c]at this;cases this
   ·exact i z a
  ·rename_i lt;have b:ltQ y x=false:=by simpa using lt
   refine ee.mpr ⟨λz a=>?_,h⟩;rcases aD.mp a with rfl|a;·exact b
   ·cases q:ltQ z x with
    |false=>rfl
    |true=>
     have f:=g z (.tail _ a);cases j:ltQ x y with
     |true=>have:=yL f e c q j;rw[i z a]at this;cases this
     |false=>rw[BW e c j b]at q;rw[i z a]at q;cases q
theorem uS{s}:∀{b},(∀d∈b,kg d=some s)->tX (kI b)
 |[],_=>.nil
 |d::r,h=>Ii (h d<|.head _) (λe a=>h e<|.tail _<|(nC r).mem_iff.mp a) (uS λe a=>h e<|.tail _ a)
def C9{s}{a:List D}(h:a.Perm b)(c:∀d∈a,kg d=some s)(i:tX a)(g:tX b):a=b:=
 List.Perm.eq_of_pairwise (λx y f e k j=>BW (c x f) (c y<|h.symm.mem_iff.mp e) j k) i g h
def wB:D->R (List D)
 |.lst ds=>if mS ds=true/\ds.length<64 then .ok (kI ds)else .bad
 |_=>.bad
def tQ:D->Value->Prop
 |.int i,.int j _=>i=j
 |.str x,.str y _=>x=y
 |_,_=>False
inductive qD:List D->List Value->Prop
 |nil:qD [] []
 |cons {d:D} {v:Value} {ds:List D} {vs:List Value}:tQ d v->qD ds vs->qD (d::ds) (v::vs)
def TupAt(h:Heap)(u:Value)(c:List D):Prop:=∃a o b n,u=.ref a/\h.get? a=some o/\o.cls=.type "tuple"/\o.data=.seq b n/\qD c b.toList
def TupAt.keep{c:Heap}{u}(t:TupAt h u ds)(k:∀b o,h.get? b=some o->c.get? b=some o):TupAt c u ds:=
 let⟨a,o,d,n,f,e,r⟩:=t;⟨a,o,d,n,f,k a o e,r⟩
def qE(h:Heap)(u:Value):D->Prop
 |.int i=>tQ (.int i) u
 |.str x=>tQ (.str x) u
 |.tup ds=>TupAt h u ds
 |_=>False
def qE.keep{a:Heap}{u d}(t:qE h u d)(k:∀b o,h.get? b=some o->a.get? b=some o):qE a u d:=by
 cases d with
 |tup c=>exact TupAt.keep t k
 |_=>exact t
def uk{i:Int}(h:tQ (.int i) v):∃t,v=.int i t:=by
 cases v with
 |int j t=>cases h;exact⟨t,rfl⟩
 |_=>exact h.elim
def um(h:tQ (.str i) v):∃t,v=.str i t:=by
 cases v with
 |str j t=>cases h;exact⟨t,rfl⟩
 |_=>exact h.elim
def Vj{i j:Int}{t u}{Q:Bool->Shared->Prop}(h:Q (decide<|i<j) s):wpAny (model prog w) A (oneLt' b (.int i t)<|.int j u) Q E s:=by
 cases b with
 |true=>exact oneLt_int h
 |false=>exact kat_one _ _ (lt_int h)
def Vk{i j:Str}{t u}{Q:Bool->Shared->Prop}(h:Q (decide<|i.cps.toList<j.cps.toList) s):wpAny (model prog w) A (oneLt' b (.str i t)<|.str j u) Q E s:=by
 cases b with
 |true=>exact oneLt_str h
 |false=>exact kat_one _ _ (PyProof.Rows.lt_str h)
def Sy{Q:Bool->Shared->Prop}:∀{b a},ni b a->∀{d c} i,qD b d->qD a c->(b=a->Q fin s)->(b≠a->Q (ny b a) s)->KatLex prog w A fl fin Q (d.zip c) i s:=by
 intro b a q;induction q with
 |nil=>intro d c i f g h _;cases f;cases g;exact h rfl
 |int x y q m=>
  intro d c i f g n j;cases f with
  |cons p l=>
   cases g with
   |cons o k=>
    obtain⟨t,rfl⟩:=uk p;obtain⟨r,rfl⟩:=uk o;rw[fT];refine kat_cons (wpAny_eqBool_int ?_);by_cases e:x=y
    ·subst e;rw[show(x==x)=true by simp];refine kat_yes (m (i+1) l k (λw=>n<|by rw[w]) λw=>?_);have:=j (λz=>w<|by injection z)
     rwa [vX,av rfl]at this
    ·rw[show(x==y)=false by simpa using e];refine kat_no (Vj ?_);have:=j (λz=>e<|by injection z with z1;injection z1)
     rwa [vX,aw e]at this
 |str x y q m=>
  intro d c i f g n j;cases f with
  |cons p l=>
   cases g with
   |cons o k=>
    obtain⟨t,rfl⟩:=um p;obtain⟨r,rfl⟩:=um o;rw[fT];refine kat_cons (wpAny_eqBool_str ?_);by_cases e:x=y
    ·subst e;rw[show decide (x=x)=true by simp];refine kat_yes (m (i+1) l k (λw=>n<|by rw[w]) λw=>?_);have:=j (λz=>w<|by injection z)
     rwa [vY,av rfl]at this
    ·rw[show decide (x=y)=false by simpa using e];refine kat_no (Vk ?_);have:=j (λz=>e<|by injection z with z1;injection z1)
     rwa [vY,aw e]at this
def ni.len(q:ni xs ys):xs.length=ys.length:=by
 induction q with
 |nil=>rfl
 |int i j h a=>rw[aq,aq,a]
 |str i j h a=>rw[aq,aq,a]
def F1(h:qD xs us):xs.length=us.length:=by
 induction h with
 |nil=>rfl
 |cons _ _ a=>rw[aq,aq,a]
def abV{u}{Q:Bool->Shared->Prop}(q:ni xs ys)(k:TupAt s.heap u xs)(hv:TupAt s.heap v ys)(h:Q (ny xs ys) s):wpAny (model prog w) A (keyLt' (tuples' fl) u v) Q E s:=by obtain⟨a,o,g,n,rfl,r,z,l,c⟩:=k;obtain⟨b,p,f,m,rfl,x,B,t,d⟩:=hv;refine kat_lt r l x t (Sy q 0 c d (λe=>?_) λ_=>h);have j:=F1 c;have i:=F1 d;have y:=q.len;simp only[aC]at j i;subst e;rw[IY q]at h;rw[show decide (g.size<f.size)=false from aG (by omega)];exact h
inductive mH(h:Heap):List Value->List D->Prop
 |nil:mH h [] []
 |cons {u:Value} {d:D} {us:List Value} {ds:List D}:qE h u d->mH h us ds->mH h (u::us) (d::ds)
def mH.keep{c:Heap}(t:mH h us ds)(k:∀b o,h.get? b=some o->c.get? b=some o):mH c us ds:=by
 induction t with
 |nil=>exact .nil
 |cons a _ d=>exact .cons (a.keep k) d
def mH.len(t:mH h us ds):us.length=ds.length:=by
 induction t with
 |nil=>rfl
 |cons a _ b=>rw[aq,aq,b]
def mH.get(t:mH h us ds):∀{i},i<ds.length->qE h (us.getD i .none) (ds.getD i .non):=by
 induction t with
 |nil=>intro i b;simp at b
 |cons a _ c=>
  intro i b;cases i with
  |zero=>simpa using a
  |succ i=>simpa using c (by simpa using b)
theorem Ij:∀{c} {f},mH h c f->(∀d∈f,kg d=some [0])->∃b,IntsAre c b
 |_,_,.nil,_=>⟨[],.nil⟩
 |_,_,.cons (d:=d) a r,hs=>by
  rcases pS (hs d (.head _))with⟨i,rfl,_⟩|⟨i,rfl,e⟩|⟨_,_,_,rfl,e,_⟩
  ·obtain⟨t,rfl⟩:=uk a;obtain⟨b,g⟩:=Ij r λd j=>hs d (.tail _ j);exact⟨i::b,.cons i t g⟩
  ·cases e
  ·cases e
theorem Ll:∀{c} {f},mH h c f->(∀d∈f,kg d=some [1])->∃b,StrsAre c b
 |_,_,.nil,_=>⟨[],.nil⟩
 |_,_,.cons (d:=d) a r,hs=>by
  rcases pS (hs d (.head _))with⟨i,rfl,e⟩|⟨i,rfl,_⟩|⟨_,_,_,rfl,e,_⟩;·cases e
  ·obtain⟨t,rfl⟩:=um a;obtain⟨b,g⟩:=Ll r λd j=>hs d (.tail _ j);exact⟨i::b,.cons i t g⟩
  ·cases e
theorem LB{k t}:∀{g} {q},mH h g q->(∀d∈q,kg d=some (2::k::t))->∃fs,KatTups h g fs/\fs.length=g.length/\∀v∈fs,(k=0/\∃i u,v=.int i u)\/(k=1/\∃i u,v=.str i u)
 |_,_,.nil,_=>⟨[],.nil,rfl,λv hv=>by simp at hv⟩
 |_,_,.cons (d:=d) a r,hs=>by
  obtain⟨fs,H,G,F⟩:=LB r λd x=>hs d (.tail _ x);rcases pS (hs d (.head _))with⟨i,rfl,e⟩|⟨i,rfl,e⟩|⟨I,L,K,rfl,e,l⟩;·cases e
  ·cases e
  ·cases e;obtain⟨b,o,p,n,rfl,C,B,y,c⟩:=a;cases j:p.toList with
   |nil=>rw[j]at c;cases c
   |cons f J=>
    rw[j]at c;cases c with
    |cons hf M=>
     have D:p[0]?=some f:=by rw[<-aZ,j];rfl
     refine⟨f::fs,.cons C B y D H,by simp[G],λv hv=>?_⟩;rcases aD.mp hv with rfl|hv
     ·cases I with
      |int i=>obtain⟨z,m,_⟩:=tI l;cases m;obtain⟨u,rfl⟩:=uk hf;exact .inl ⟨rfl,i,u,rfl⟩
      |str i=>obtain⟨z,m,_⟩:=tJ l;cases m;obtain⟨u,rfl⟩:=um hf;exact .inr ⟨rfl,i,u,rfl⟩
      |_=>cases l
     ·exact F v hv
def Sh(t:mH s.heap us ds)(W:2<=us.length)(G:∀d∈ds,kg d=some sg):
    ∃L:SortKind,(∀Q:SortKind->Shared->Prop,Q L s->wpAny (model prog w) A (keyKind' us.toArray) Q E s)/\
     ∀i j,i<ds.length->j<ds.length->∀C:Bool->Shared->Prop,C (ltQ (ds.getD i .non)<|ds.getD j .non) s->wpAny (model prog w) A (keyLt' L (us.getD i .none)<|us.getD j .none) C E s:=by
 have hl:=t.len;have n:∀i,i<ds.length->kg (ds.getD i .non)=some sg:=λi h=>by rw[aW,au h,gy];exact G _ (bZ h)
 have Y:=n 0 (by omega);obtain⟨D,B,r,rfl⟩:∃D B r,us=D::B::r:=by
  match us,W with
  |D::B::r,_=>exact⟨D,B,r,rfl⟩
 rcases pS Y with⟨U,N,rfl⟩|⟨U,N,rfl⟩|⟨O,Z,R,N,rfl,o⟩
 ·obtain⟨S,I⟩:=Ij t G;refine⟨oneType',λQ q=>by rw[keyKind_ints I];exact af q,λi j h l C c=>?_⟩;have a:=t.get h;have b:=t.get l;have g:=n i h;have m:=n j l;generalize ds.getD i .non=x at a c g;generalize ds.getD j .non=y at b c m;cases q5 g m with
  |int x y=>obtain⟨F,p⟩:=uk a;obtain⟨P,o⟩:=uk b;rw[p,o,keyLt'_oneType];exact oneLt_int c
  |str x y=>cases g
  |tup q=>rcases pS g with⟨_,e,_⟩|⟨_,e,_⟩|⟨_,_,_,_,e,_⟩<;>cases e
 ·obtain⟨S,I⟩:=Ll t G;refine⟨oneType',λQ q=>by rw[keyKind_strs I];exact af q,λi j h l C c=>?_⟩;have a:=t.get h;have b:=t.get l;have g:=n i h;have m:=n j l;generalize ds.getD i .non=x at a c g;generalize ds.getD j .non=y at b c m;cases q5 g m with
  |int x y=>cases g
  |str x y=>obtain⟨F,p⟩:=um a;obtain⟨P,o⟩:=um b;rw[p,o,keyLt'_oneType];exact oneLt_str c
  |tup q=>rcases pS g with⟨_,e,_⟩|⟨_,e,_⟩|⟨_,_,_,_,e,_⟩<;>cases e
 ·obtain⟨k,F,H⟩:∃k F,R=k::F:=by
   cases O with
   |int i=>obtain⟨z,p,_⟩:=tI o;exact⟨_,_,p⟩
   |str i=>obtain⟨z,p,_⟩:=tJ o;exact⟨_,_,p⟩
   |_=>cases o
  subst H;obtain⟨fs,M,K,J⟩:=LB t G;refine⟨tuples' true,λQ q=>?_,λi j h l C c=>?_⟩
  ·have V:k=0\/k=1:=by
    cases fs with
    |nil=>simp at K
    |cons f fr=>rcases J f (.head _)with⟨e,_⟩|⟨e,_⟩<;>omega
   rcases V with rfl|rfl
   ·refine kat_kind (T:=.type "int") M (by rw[K];omega) (λv hv=>?_) (by rfl) q;rcases J v hv with⟨_,i,u,rfl⟩|⟨e,_⟩;·exact .now
    ·cases e
   ·refine kat_kind (T:=.type "str") M (by rw[K];omega) (λv hv=>?_) (by rfl) q;rcases J v hv with⟨e,_⟩|⟨_,i,u,rfl⟩;·cases e
    ·exact .now
  ·have a:=t.get h;have b:=t.get l;have g:=n i h;have m:=n j l;generalize ds.getD i .non=x at a c g;generalize ds.getD j .non=y at b c m;cases q5 g m with
   |int x y=>cases g
   |str x y=>cases g
   |tup q=>exact abV q a b c
def outs(a:List Value)(p:Array Nat):List Value:=p.toList.map λi=>a.getD i .none
def outD(a:List D)(p:Array Nat):List D:=p.toList.map λi=>a.getD i .non
def Bi{a:Type}(l:List a)(x):(List.range l.length).map (λi=>l.getD i x)=l:=by
 apply gz;·simp
 ·intro i c b;simp[gA,b]
def VH{a:List D}(h:kK a.length p):(outD a p).Perm a:=by have:=(dP.mp h).map λi=>a.getD i .non;rw[show(List.range a.length).toArray.toList=List.range a.length from rfl,Bi]at this;exact this
def VI(o:∀d∈ds,kg d=some sg)(h:kK ds.length p)(g:0<ds.length)
 (a:nW (rankOf ds.length λi j=>ltQ (ds.getD i .non)<|ds.getD j .non) p ds.length)(n:∀i j,i<ds.length->j<ds.length->ltQ (ds.getD i .non) (ds.getD j .non)=decide (rankOf ds.length (λi j=>ltQ (ds.getD i .non)<|ds.getD j .non) i<rankOf ds.length (λi j=>ltQ (ds.getD i .non)<|ds.getD j .non) j)):tX (outD ds p):=by
  have sz:=h.size;refine fZ.mpr λi j c b m=>?_;unfold outD at c b⊢;rw[aj,aC]at c b;rw[gA,gA,ic,ic];have l:p.getD i 0=p[i]:=by simp[Array.getD,c]
  have k:p.getD j 0=p[j]:=by simp[Array.getD,b]
  have f:=h.lt g i;have e:=h.lt g j;have le:=a i j (by omega) (by omega);rw[<-yn,<-yn]at le;rw[l]at f le;rw[k]at e le;rw[n _ _ e f];exact aG (by omega)
def Le(t:mH s.heap us ds)(N:mS ds=true)(H:2<=us.length)(u:us.length<64):xo prog w (λout=>∃p,kK ds.length p/\out.toList=P2.outs us p/\outD ds p=kI ds) us s:=by
 intro B;obtain⟨I,l⟩:=yD N;obtain⟨Y,L,K⟩:=Sh (prog:=prog) (w:=w) (A:=B) (E:=λ_ _=>False) t H l;have M:=t.len;have f:∀i,i<ds.length->kg (ds.getD i .non)=some I:=λi a=>by rw[aW,au a,gy];exact l _ (bZ a)
 have F:=ZR (n:=ds.length) (c:=λi j=>ltQ (ds.getD i .non)<|ds.getD j .non) (λi a=>Ji<|f i a) (λi j k a m o=>yL (f i a) (f j m)<|f k o) λi j k a m o h=>by
  cases z:ltQ (ds.getD k .non) (ds.getD j .non)with
  |true=>exact .inl rfl
  |false=>
   cases J:ltQ (ds.getD i .non) (ds.getD k .non)with
   |true=>exact .inr rfl
   |false=>
    cases y:ltQ (ds.getD k .non) (ds.getD i .non)with
    |true=>have:=yL (f k o) (f i a) (f j m) y h;rw[z]at this;cases this
    |false=>have:=BW (f i a) (f k o) J y;rw[this,z]at h;cases h
 refine L _ ⟨rfl,?_⟩
 refine bq (kat_run (ks:=us) (vs:=us) (Q:=λb g=>g=s/\failedOf b=none/\((arrOf b).map (·.2)).size=us.length/\∃p,kK ds.length p/\((arrOf b).map (·.2)).toList=P2.outs us p/\outD ds p=kI ds)
  (G:=λp g=>g=s/\kK ds.length p/\outD ds p=kI ds) rfl H u (λp b g W V U T=>?_) ?_) (λr g q=>q) λ_ _ x=>x
 ·obtain⟨b1,S,R⟩:=T;have e:=kat_snds rfl V;refine⟨b1,U,?_,p,S,?_,R⟩;·rw[e];simp[W]
  ·rw[e];rfl
 ·rw[M];refine lj.wp (c:=λi j=>ltQ (ds.getD i .non)<|ds.getD j .non) (Q:=λp=>kK ds.length p/\outD ds p=kI ds) (λi j a m C c=>K i j a m C c) (λp q=>⟨rfl,q⟩) ?_;refine U2 F (by omega) λp v P=>⟨v,?_⟩;have D:=VH v;exact C9 (D.trans (nC ds).symm) (λd O=>l d<|D.mem_iff.mp O) (VI l v (by omega) P F) (uS l)
variable{X:Cx}{E:XK}{e:Expr}{J:TE}{f:jq}{L F:Pos}
def x9{d u}(r:Rep K al H v d)(hv:RelV v u)(h:(∃i,d=.int i)\/∃i,d=.str i):tQ d u:=by
 rcases h with⟨i,rfl⟩|⟨i,rfl⟩;·cases r;obtain⟨t,rfl⟩:=hv;rfl
 ·cases r;obtain⟨t,rfl⟩:=hv;rfl
def Pw:∀{c} {k} {g} {j},oC c=some k->i9 K al H g c->Vals g j->qD c j:=by
 intro c k g j h r v;induction c generalizing k g j with
 |nil=>cases r;cases v;exact .nil
 |cons d _ l=>
  cases r with
  |cons a b=>
   cases v with
   |cons hv m=>
    cases d with
    |int i=>obtain⟨t,_,e⟩:=tI h;exact .cons (x9 a hv<|.inl ⟨i,rfl⟩) (l e b m)
    |str i=>obtain⟨t,_,e⟩:=tJ h;exact .cons (x9 a hv<|.inr ⟨i,rfl⟩) (l e b m)
    |_=>cases h
def Rz{s}(I:Inv X pins σ H s){d u}(r:Rep X.K al H v d)(hv:RelV v u)(h:kg d=some sg):qE s.heap u d:=by
 rcases pS h with⟨i,rfl,_⟩|⟨i,rfl,_⟩|⟨x,p,t,rfl,_,e⟩;·exact x9 r hv (.inl ⟨i,rfl⟩)
 ·exact x9 r hv (.inr ⟨i,rfl⟩)
 ·obtain⟨a,m,rfl,g,c⟩:=r.pX;obtain rfl:u=.ref a:=hv;obtain⟨b,q,⟨o,l,k,n,j⟩,_⟩:=I.tuple g;exact⟨a,o,_,n,rfl,l,k,j,Pw e c q⟩
def RA{s}(I:Inv X pins σ H s):∀{c} {g} {i},(∀d∈c,kg d=some sg)->i9 X.K al H g c->Vals g i->mH s.heap i c:=by
 intro c g i h r v;induction c generalizing g i with
 |nil=>cases r;cases v;exact .nil
 |cons d _ j=>
  cases r with
  |cons a b=>
   cases v with
   |cons hv k=>exact .cons (Rz I a hv<|h d<|.head _) (j (λe l=>h e<|.tail _ l) b k)
theorem LL(h:Vals vs us):∀l:List Nat,(∀i∈l,i<us.length)->Vals (l.map λi=>vs.getD i .non) (l.map λi=>us.getD i .none)
 |[],_=>.nil
 |i::l,c=>by
  have get:∀{vs:List V} {us:List Value},Vals vs us->∀i,i<us.length->RelV (vs.getD i .non) (us.getD i .none):=λ{vs us} h=>by
   induction h with
   |nil=>intro i b;simp at b
   |cons a _ d=>
    intro i b;cases i with
    |zero=>simpa using a
    |succ i=>simpa using d i (by simpa using b)
  exact .cons (get h i<|c i<|.head _) (LL h l λj g=>c j<|.tail _ g)
theorem KI(h:i9 K al H vs ds):∀l:List Nat,(∀i∈l,i<ds.length)->i9 K al H (l.map λi=>vs.getD i .non) (l.map λi=>ds.getD i .non)
 |[],_=>.nil
 |i::l,a=>by have b:=a i (.head _);obtain⟨v,g,d⟩:=h.getD (au b);refine .cons ?_ (KI h l λj c=>a j<|.tail _ c);show Rep K al H (vs.getD i V.non) (ds.getD i D.non);rw[aW,aW,g,au b];exact d
def Ih{n}(h:kK n p):∀i∈p.toList,i<n:=λi a=>by have:=(dP.mp h).mem_iff.mp a;simpa using this
def Wb(Y:PE X e J)(hg:Gl X "sorted")(hm:X.mg "sorted"=none)
 (hs:X.se e [])(W:X.bk F []):
   PE X (.Call (.Name "sorted" L) [e] [] F) (λz H Q=>J z H λx0 g=>∃x,[x0]=[x]/\∃l m c y,x=.ref l/\kP X.K g l m/\i9 X.K y g m c/\mS c=true/\c.length<64/\∀p a,g p=none->i9 X.K y g a (kI c)->Q (.ref p) (upd g p<|.lst a)):=by
  intro j s z H Q I h;refine cf (rM I hg hm Gx ?_ (by decide) (by decide));have Z:PA X [e] (zz J zA):=rS Y rT hs;refine dj (jh (Z F j s z H (λC g=>∃x,C=[x]/\∃(l:Addr) (m:List V) (c:List D) (y:Addr->Prop),x=.ref l/\kP X.K g l m/\i9 X.K y g m c/\mS c=true/\c.length<64/\∀p a,g p=none->i9 X.K y g a (kI c)->Q (.ref p) (upd g p<|.lst a)) I h) λus n U=>?_) hs W;obtain⟨C,g,S,r1,q1⟩:=U;obtain⟨x,rfl,l,m,c,y,rfl,hl,P,hh,HR,q⟩:=q1;obtain⟨u,rfl,ru⟩:=vals1 r1;obtain rfl:u=Value.ref l:=ru;obtain⟨k,O,pl,hz⟩:=S.list hl;obtain⟨sg,T⟩:=yD hh;have hle:=O.length;have K:=P.length;have it:=RA S T P O;have M:∀(out:Array Value) (a:List V),out.size=k.length->Vals a out.toList->i9 X.K y g a (kI c)->∃v H',Inv X j z H' {n with heap:=sortedAll n.heap k out}/\RelV v (.ref<|n.heap.objs.size+1)/\Q v H':=λout a ho R o=>by
   obtain⟨ep,Y⟩:=sortedAll_at n.heap k out;have lw:a.length<=sizeLine:=by have:=R.length;simp only[aC]at this;omega
   have I2:Inv X j z (upd g (n.heap.objs.size+1)<|.lst a) {n with heap:=sortedAll n.heap k out}:=
    S.laid (t':=n.toks) (λb u e=>sortedAll_old e) (cU _) (show kq X.prog X.w _ _ _ (.lst a)from⟨lw,out.toList,ep,R,by rw[ie];exact Y⟩)
   exact⟨.ref _,_,I2,rfl,q _ a (S.hok.fresh<|cU _) o⟩
  refine aa1 (G:=λout=>∃a,Vals a out.toList/\i9 X.K y g a (kI c)) pl.isList (by omega) (λh2=>⟨m,by simpa using O,?_⟩) (λh2 t kp B=>?_) λout ho hG=>?_
  ·have:kI c=c:=by
    match c,K with
    |[],_=>rfl
    |[d],_=>rfl
    |_::_::r,w=>simp at w;omega
   rw[this];exact P
  ·have:=Le (prog:=X.prog) (w:=X.w) (s:=t) (it.keep kp) hh h2 (by omega) B;refine bq this (λκ t' hk=>⟨hk.1,bq hk.2 (λr t'' o=>⟨o.1,o.2.1,o.2.2.1,?_⟩) λ_ _ x=>x⟩) λ_ _ x=>x;obtain⟨p,g1,g2,g3⟩:=o.2.2.2;have N:=Ih g1;refine⟨p.toList.map λi=>m.getD i .non,?_,?_⟩;·rw[g2];exact LL O _ λi hi=>by have:=N i hi;omega
   ·rw[<-g3];exact KI P _ N
  ·obtain⟨a,R,o⟩:=hG;exact M out a ho R o
def OR(y:Gl X "sorted")(u:X.mg "sorted"=none)(B:DE X E e f)
 (o:X.se e [])(c:X.bk F []):
   DN X E (.Call (.Name "sorted" L) [e] [] F) (λg=>(f g).bind wB):=by
  obtain⟨t,p,r⟩:=B;refine⟨_,Wb p y u o c,λP K D H G g Q s h=>r _ _ _ _ _ _ _ s<|Aft.mono (Aft.split h) λd i I a v m=>⟨v,rfl,?_⟩⟩;unfold wB at a;split at a
  ·rename_i C;split at a
   ·rename_i z;obtain⟨l,k,rfl,x,b⟩:=m.oU;exact⟨l,k,C,D,rfl,x,b,z.1,z.2,λp j q n=>a i (.refl i) p j q n⟩
   ·exact a.elim
  ·exact a.elim
end P2
namespace P2
open PySem L2
inductive Z where
 |d(x:D)|loc(n:Nat)|tk(ks:List Key)
abbrev iW(x:Int):Option Z:=some (.d<|.int x)
abbrev iQ(x:List D):Option Z:=some (.d<|.lst x)
abbrev iN(x:D):Option Z:=some (.d x)
abbrev ba(n:Nat):Option Z:=some (.loc n)
inductive Cell where
 |li(zs:List Z)|ob(C:Addr)(fs:List<|Str×Z)|dk(kvs:List<|Key×Z)|dt(kvs:List<|List Key×Z)|ft(kvs:List<|List Key×Z)|no|mk
abbrev i3:=List Cell
abbrev Lo:=Nat->Option Addr
abbrev jj:=List (Option Z)
def kh(K:W.Frag)(b:Addr->Prop)(lo:Lo)(H:Hp)(v:V):Z->Prop
 |.d x=>Rep K b H v x
 |.loc n=>∃a,lo n=some a/\v=.ref a
 |.tk c=>∃a,b a/\H a=some (.tup<|c.map kV)/\v=.ref a
inductive j9(K:W.Frag)(al:Addr->Prop)(lo:Lo)(H:Hp):List V->List Z->Prop
 |nil:j9 K al lo H [] []
 |cons {v:V} {z:Z} {vs:List V} {zs:List Z}:kh K al lo H v z->j9 K al lo H vs zs->j9 K al lo H (v::vs) (z::zs)
inductive kc{κ:Type}(K:W.Frag)(al:Addr->Prop)(lo:Lo)(H:Hp):List (κ×V)->List (κ×Z)->Prop
 |nil:kc K al lo H [] []
 |cons {k:κ} {v:V} {z:Z} {vs:List<|κ×V} {zs:List<|κ×Z}:kh K al lo H v z->kc K al lo H vs zs->kc K al lo H ((k,v)::vs) ((k,z)::zs)
def lN(K:W.Frag)(d:Addr->Prop)(lo:Lo)(H:Hp)(a:Addr):Cell->Prop
 |.li zs=>∃e,H a=some (.lst e)/\j9 K d lo H e zs
 |.ob C fs=>∃f b,H a=some (.ins C f b)/\kc K d lo H b fs
 |.dk c=>∃b,H a=some (.dK b)/\kc K d lo H b c
 |.dt c=>∃b,H a=some (.dT b)/\kc K d lo H b c
 |.ft c=>∃b o,H a=some (.j6 o<|.dT b)/\kc K d lo H b c
 |.no=>False
 |.mk=>False
def FL(o:HO):Prop:=(∃a,o=.tup a)\/∃b,o=.lM b
structure sG(K:W.Frag)(al:Addr->Prop)(lo:Lo)(H:Hp)(S:i3):Prop where
 at':∀n a,lo n=some a->∃c,S[n]?=some c/\lN K al lo H a c
 has:∀n c,S[n]?=some c->c≠.no->c≠.mk->∃a,lo n=some a
 na:∀n a,lo n=some a->¬al a
 inj:∀m n a,lo m=some a->lo n=some a->m=n
 tl:S[0]?=some .mk->∀b o,H b=some o->FL o->al b
structure Z0 where
 H:Hp
 al:Addr->Prop
 lo:Lo
 n:Nat
structure EZ(K:W.Frag)(B:Z0)(al:Addr->Prop)(lo:Lo)(H:Hp)(S:i3):Prop where
 fr:∀b o,NT o->B.H b=some o->(∀n,B.lo n≠some b)->H b=some o
 hf:∀b,H b=none->B.H b=none
 tt:lQ K H
 fresh:∀a,H a=none->al a
 st:sG K al lo H S
 lx:∀n a,B.lo n=some a->lo n=some a
 nw:∀n a,lo n=some a->B.lo n=some a\/(B.H a=none/\B.n<=n)
 bd:∀n a,B.lo n=some a->n<B.n
 sz:B.n<=S.length
 xt:Xt B.al B.H al H
 sb:∀a,al a->B.al a\/B.H a=none
structure RZ(K:W.Frag)(B:Z0)(al:Addr->Prop)(lo:Lo)(H:Hp)(σ:St)(ρ:jj)(S:i3):Prop extends EZ K B al lo H S where
 len:ρ.length=σ.length
 vr:∀(i:Nat) (z:Z),ρ[i]?=some (some z)->∃v,σ[i]?=some (some v)/\kh K al lo H v z
def Lx(lo b:Lo):Prop:=∀n a,lo n=some a->b n=some a
def Lx.refl{lo}:Lx lo lo:=λ_ _ h=>h
def Lx.trans{lo}(x:Lx lo lo1)(y:Lx lo1 uz):Lx lo uz:=λn a h=>y n a (x n a h)
section
variable{K:W.Frag}{f A:Addr->Prop}{lo l:Lo}{H F:Hp}
def kh.mv(x:Xt f H A F)(y:Lx lo l){v:V}{z:Z}(r:kh K f lo H v z):kh K A l F v z:=by
 cases z with
 |d d=>exact Rep.mv x r
 |loc n=>obtain⟨a,c,b⟩:=r;exact⟨a,y n a c,b⟩
 |tk e=>obtain⟨a,c,b,g⟩:=r;obtain⟨j,i⟩:=x a (.tup<|e.map kV) (λ_ h=>nomatch h) c b;exact⟨a,j,i,g⟩
def j9.mv(x:Xt f H A F)(y:Lx lo l){c:List V}{b:List Z}(r:j9 K f lo H c b):j9 K A l F c b:=by
 induction r with
 |nil=>exact .nil
 |cons a _ d=>exact .cons (a.mv x y) d
def kc.mv{b:Type}(x:Xt f H A F)(y:Lx lo l){d:List<|b×V}{c:List<|b×Z}(r:kc K f lo H d c):kc K A l F d c:=by
 induction r with
 |nil=>exact .nil
 |cons a _ e=>exact .cons (a.mv x y) e
def j9.length(r:j9 K f lo H vs zs):vs.length=zs.length:=by
 induction r with
 |nil=>rfl
 |cons _ _ a=>rw[aq,aq,a]
def j9.append(r:j9 K f lo H vs zs)(q:j9 K f lo H ws ys):j9 K f lo H (vs++ws) (zs++ys):=by
 induction r with
 |nil=>exact q
 |cons a _ b=>exact .cons a b
def j9.get{c:List V}{b:List Z}(r:j9 K f lo H c b){i:Nat}{z:Z}(e:b[i]?=some z):∃v,c[i]?=some v/\kh K f lo H v z:=by
 induction r generalizing i with
 |nil=>simp at e
 |cons a _ d=>
  cases i with
  |zero=>simp at e;subst e;exact⟨_,rfl,a⟩
  |succ i=>simpa using d (by simpa using e)
def j9.set(r:j9 K f lo H vs zs)(q:kh K f lo H v z)(i):j9 K f lo H (vs.set i v) (zs.set i z):=by
 induction r generalizing i with
 |nil=>exact .nil
 |cons a b c=>
  cases i with
  |zero=>exact .cons q b
  |succ i=>exact .cons a (c i)
def j9.ofD(r:i9 K f H vs ds):j9 K f lo H vs (ds.map .d):=by
 induction ds generalizing vs with
 |nil=>cases r;exact .nil
 |cons d ds c=>cases r with|cons a b=>exact .cons a (c b)
def j9.toD{c:List D}(r:j9 K f lo H vs<|c.map .d):i9 K f H vs c:=by
 induction c generalizing vs with
 |nil=>cases r;exact .nil
 |cons d c e=>cases r with|cons a b=>exact .cons a (e b)
def lN.mv(x:Xt f H A F)(y:Lx lo l){a:Addr}{c:Cell}(e:∀o,NT o->H a=some o->F a=some o)(r:lN K f lo H a c):lN K A l F a c:=by
 cases c with
 |li m=>obtain⟨j,d,b⟩:=r;exact⟨j,e _ oy d,b.mv x y⟩
 |ob C fs=>obtain⟨k,g,d,b⟩:=r;exact⟨k,g,e _ (λ_ h=>nomatch h) d,b.mv x y⟩
 |dk i=>obtain⟨g,d,b⟩:=r;exact⟨g,e _ (λ_ h=>nomatch h) d,b.mv x y⟩
 |dt i=>obtain⟨g,d,b⟩:=r;exact⟨g,e _ (λ_ h=>nomatch h) d,b.mv x y⟩
 |ft i=>obtain⟨g,o,d,b⟩:=r;exact⟨g,o,e _ (λ_ h=>nomatch h) d,b.mv x y⟩
 |no=>exact r
 |mk=>exact r
def lN.tp(r:lN K f lo H a c):H a≠none/\(∀h,H a≠some (.lM h))/\(∀q,H a≠some (lP a q)):=by
 cases c with
 |li i=>obtain⟨j,b,e⟩:=r;rw[b];exact⟨nofun,λ_=>nofun,λ_ w=>by unfold lP at w;exact nomatch w⟩
 |ob C fs=>obtain⟨k,g,b,e⟩:=r;rw[b];exact⟨nofun,λ_=>nofun,λ_ w=>by unfold lP at w;exact nomatch w⟩
 |dk d=>obtain⟨g,b,e⟩:=r;rw[b];exact⟨nofun,λ_=>nofun,λ_ w=>by unfold lP at w;exact nomatch w⟩
 |dt d=>obtain⟨g,b,e⟩:=r;rw[b];exact⟨nofun,λ_=>nofun,λ_ w=>by unfold lP at w;exact nomatch w⟩
 |ft d=>obtain⟨g,o,b,e⟩:=r;rw[b];exact⟨nofun,λ_=>nofun,λ_ w=>by unfold lP at w;exact nomatch w⟩
 |no=>exact r.elim
 |mk=>exact r.elim
def lN.Jq(r:lN K f lo H a c)(h:H a=some o):¬FL o:=by
 rintro (⟨k,rfl⟩|⟨i,rfl⟩)
 ·cases c with
  |li j=>obtain⟨m,b,e⟩:=r;rw[h]at b;cases b
  |ob C fs=>obtain⟨n,g,b,e⟩:=r;rw[h]at b;cases b
  |dk d=>obtain⟨g,b,e⟩:=r;rw[h]at b;cases b
  |dt d=>obtain⟨g,b,e⟩:=r;rw[h]at b;cases b
  |ft d=>obtain⟨g,o,b,e⟩:=r;rw[h]at b;cases b
  |no=>exact r.elim
  |mk=>exact r.elim
 ·exact r.tp.2.1 i h
variable{B:Z0}{I:St}{E:jj}{S:i3}
def EZ.start{zs:List Z}(tt:lQ K H)(fr:∀a,H a=none->f a)(st:sG K f lo H S):EZ K ⟨H,f,lo,S.length⟩ f lo H S where
 fr:=λ_ _ _ h _=>h
 hf:=λ_ h=>h
 tt:=tt
 fresh:=fr
 st:=st
 lx:=λ_ _ h=>h
 nw:=λ_ _ h=>.inl h
 bd:=λn a h=>by obtain⟨c,e,_⟩:=st.at' n a h;exact(az.mp e).1
 sz:=ag _
 xt:=.refl
 sb:=λ_ h=>.inl h
def EZ.grow(r:EZ K B f lo H S)(s:kO K H F):EZ K B f lo F S where
 fr:=λb o n h w=>s.at' b o n (r.fr b o n h w)
 hf:=λb h=>r.hf b (s.fr b h)
 tt:=s.tt r.tt
 fresh:=λa h=>r.fresh a (s.fr a h)
 st:={
  at':=λn a h=>by obtain⟨c,e,q⟩:=r.st.at' n a h;exact⟨c,e,q.mv (.of s) .refl λo no h=>s.at' _ o no h⟩
  has:=r.st.has
  na:=r.st.na
  inj:=r.st.inj
  tl:=λm b o k j=>by
   cases q:H b with
   |none=>exact r.fresh b q
   |some d=>
    by_cases g:NT d
    · have e:=s.at' b d g q;rw[k]at e;cases e;exact r.st.tl m b o q j
    · exact r.st.tl m b d q (.inr (b7 λw=>g λi e=>w ⟨i,e⟩))}
 lx:=r.lx
 nw:=r.nw
 bd:=r.bd
 sz:=r.sz
 xt:=r.xt.trans (.of s)
 sb:=r.sb
def RZ.grow(r:RZ K B f lo H I E S)(s:kO K H F):RZ K B f lo F I E S:=
 ⟨r.toEZ.grow s,r.len,λi z e=>let⟨v,b,a⟩:=r.vr i z e;⟨v,b,a.mv (.of s) .refl⟩⟩
def W0:Option Z->Sl
 |some (.d x)=>.sh x
 |_=>.no
def lF(E:jj):Ev:=E.map W0
def RZ.rs(r:RZ K B f lo H I E S):RS K f H f H I (lF E) where
 same:=.refl H
 tt:=r.tt
 fresh:=r.fresh
 sub:=λ_ h=>h
 pf:=r.fresh
 len:=by unfold lF;rw[aj];exact r.len
 sh:=λi d h=>by
  unfold lF at h;rw[aE]at h;obtain⟨z,c,b⟩:=aB.mp h;cases z with
  |none=>cases b
  |some z=>
   cases z with
   |d x=>cases b;exact r.vr i _ c
   |loc n=>cases b
   |tk k=>cases b
 ow:=λi g h=>by
  unfold lF at h;rw[aE]at h;obtain⟨z,c,b⟩:=aB.mp h;cases z with
  |none=>cases b
  |some z=>cases z<;>cases b
 apart:=λi j g e a h _ _ _=>by
  unfold lF at h;rw[aE]at h;obtain⟨z,c,b⟩:=aB.mp h;cases z with
  |none=>cases b
  |some z=>cases z<;>cases b
def RZ.set(r:RZ K B f lo H I E S){i:Nat}{v:V}{z:Z}(c:i<E.length)(q:kh K f lo H v z):RZ K B f lo H (I.set i<|some v) (E.set i<|some z) S where
 toEZ:=r.toEZ
 len:=by rw[aO,aO];exact r.len
 vr:=λj e h=>by
  by_cases w:i=j
  ·subst w;rw[aA c]at h;cases h;exact⟨v,aA<|by rw[<-r.len];exact c,q⟩
  ·rw[ar w]at h;obtain⟨u,a,b⟩:=r.vr j e h;exact⟨u,by rw[ar w];exact a,b⟩
def kS(lo:Lo)(n:Nat)(p:Addr):Lo:=λm=>if m=n then some p else lo m
def sG.none(b:sG K f lo H S):lo S.length=Option.none:=by
 cases h:lo S.length with
 |none=>rfl
 |some a=>obtain⟨c,e,_⟩:=b.at' _ a h;have:=(az.mp e).1;omega
def oR(b:sG K f lo H S)(p):Lx lo (kS lo S.length p):=λn a h=>by
 unfold kS;rw[aw];·exact h
 ·intro w;rw[w,b.none]at h;cases h
def qz(a:H p=none):Xt f H (λb=>f b/\b≠p) (upd H p o):=λb u _ c e=>⟨⟨c,mZ e a⟩,by rw[jA<|mZ e a];exact e⟩
def EZ.new(r:EZ K B f lo H S)(C:H p=none)(no:NT o)(G:lN K (λb=>f b/\b≠p) (kS lo S.length p) (upd H p o) p c)(O:c≠.no):
    EZ K B (λb=>f b/\b≠p) (kS lo S.length p) (upd H p o) (S++[c]):=by
 have s:kO K H (upd H p o):=lV C;have x:Xt f H (λb=>f b/\b≠p) (upd H p o):=qz C;have g:=r.grow s;refine⟨g.fr,g.hf,g.tt,λa h=>⟨g.fresh a h,λw=>by rw[w,kv]at h;cases h⟩,⟨λn a h=>?_,λn D h w L=>?_,λn a h w=>?_,λm n a i j=>?_,λm b u t J=>?_⟩,λn a h=>oR r.st p n a<|r.lx n a h,λn a h=>?_,r.bd,by rw[ao];have:=r.sz;omega,r.xt.trans x,λb t=>r.sb b t.1⟩
 ·unfold kS at h;by_cases w:n=S.length
  ·rw[av w]at h;cases h;exact⟨c,by rw[w];simp,G⟩
  ·rw[aw w]at h;obtain⟨D,e,q⟩:=r.st.at' n a h;have ne:a≠p:=λz=>q.tp.1 (by rw[z];exact C);exact⟨D,by rw[ay (az.mp e).1];exact e,q.mv x (oR r.st p) λu _ h=>by rw[jA ne];exact h⟩
 ·by_cases z:n<S.length
  ·rw[ay z]at h;obtain⟨a,i⟩:=r.st.has n D h w L;exact⟨a,oR r.st p n a i⟩
  ·have:n=S.length:=by
    have:=(az.mp h).1;rw[ao,cb]at this;omega
   exact⟨p,by unfold kS;rw[av this]⟩
 ·unfold kS at h;by_cases z:n=S.length;·rw[av z]at h;cases h;exact w.2 rfl
  ·rw[aw z]at h;exact r.st.na n a h w.1
 ·have v:∀k b,lo k=some b->b≠p:=λk b N z=>by
   obtain⟨D,_,q⟩:=r.st.at' k b N;exact q.tp.1 (by rw[z];exact C)
  unfold kS at i j;by_cases z:m=S.length
  ·rw[av z]at i;cases i;by_cases y:n=S.length;·omega
   ·rw[aw y]at j;exact absurd rfl (v n _ j)
  ·rw[aw z]at i;by_cases y:n=S.length;·rw[av y]at j;cases j;exact absurd rfl (v m _ i)
   ·rw[aw y]at j;exact r.st.inj m n a i j
 ·have M:S[0]?=some .mk:=by
   cases S with
   |nil=>have e:some c=some Cell.mk:=m;cases e;exact G.elim
   |cons d r=>exact m
  by_cases z:b=p
  ·rw[z]at t;exact absurd J (G.Jq t)
  ·rw[jA z]at t;exact⟨r.st.tl M b u t J,z⟩
 ·unfold kS at h;by_cases z:n=S.length;·rw[av z]at h;cases h;exact .inr ⟨r.hf _ C,by rw[z];exact r.sz⟩
  ·rw[aw z]at h;exact r.nw n a h
def RZ.new(r:RZ K B f lo H I E S){p:Addr}{o:HO}{c:Cell}(a:H p=none)(no:NT o)(d:lN K (λb=>f b/\b≠p) (kS lo S.length p) (upd H p o) p c)(j:c≠.no):
    RZ K B (λb=>f b/\b≠p) (kS lo S.length p) (upd H p o) I E (S++[c]):=
 ⟨r.toEZ.new a no d j,r.len,λi z e=>let⟨v,h,g⟩:=r.vr i z e;⟨v,h,g.mv (qz a)<|oR r.st p⟩⟩
def EZ.write(r:EZ K B f lo H S){n}(g:lo n=some a)(no:NT o)(J:∀q,o≠lP a q)(i:lN K f lo (upd H a o) a c)(L:c≠.no):EZ K B f lo (upd H a o) (S.set n c)/\Xt f H f (upd H a o):=by
 obtain⟨M,G,k⟩:=r.st.at' n a g;have s:n<S.length:=(az.mp G).1;have y:=r.st.na n a g;have x:Xt f H f (upd H a o):=λb u _ d e=>⟨d,by rw[jA λw=>y (by rw[<-w];exact d)];exact e⟩;refine⟨⟨λb u v h w=>?_,λb h=>?_,r.tt.upd k.tp.2.1 k.tp.2.2,λb h=>?_,⟨λm b h=>?_,λm j h w t=>?_,r.st.na,r.st.inj,λm b u d p=>?_⟩,r.lx,r.nw,r.bd,by rw[aO];exact r.sz,r.xt.trans x,r.sb⟩,x⟩
 ·have:=r.fr b u v h w;by_cases z:b=a
  ·subst z;rcases r.nw n b g with q|q;·exact absurd q (w n)
   ·rw[q.1]at h;cases h
  ·rw[jA z];exact this
 ·by_cases z:b=a;·rw[z,kv]at h;cases h
  ·rw[jA z]at h;exact r.hf b h
 ·by_cases z:b=a;·rw[z,kv]at h;cases h
  ·rw[jA z]at h;exact r.fresh b h
 ·by_cases z:n=m
  ·subst z;rw[g]at h;cases h;exact⟨c,aA s,i⟩
  ·obtain⟨j,e,q⟩:=r.st.at' m b h;refine⟨j,by rw[ar z];exact e,q.mv x .refl λu _ D=>?_⟩;rw[jA λw=>z (r.st.inj n m a g (by rw[<-w];exact h))];exact D
 ·by_cases z:n=m;·subst z;exact⟨a,g⟩
  ·rw[ar z]at h;exact r.st.has m j h w t
 ·have C:S[0]?=some .mk:=by
   by_cases z:n=0
   ·subst z;rw[aA s]at m;cases m;exact i.elim
   ·rw[ar z]at m;exact m
  by_cases z:b=a
  ·rw[z]at d;exact absurd p (i.Jq d)
  ·rw[jA z]at d;exact r.st.tl C b u d p
def RZ.write(r:RZ K B f lo H I E S){n:Nat}{a:Addr}{o:HO}{c:Cell}(d:lo n=some a)(no:NT o)(b:∀q,o≠lP a q)(g:lN K f lo (upd H a o) a c)(k:c≠.no):RZ K B f lo (upd H a o) I E (S.set n c)/\Xt f H f (upd H a o):=
 let⟨e,x⟩:=r.toEZ.write d no b g k
 ⟨⟨e,r.len,λi z e=>let⟨v,j,h⟩:=r.vr i z e;⟨v,j,h.mv x .refl⟩⟩,x⟩
end
inductive RX(α:Type) where
 |ok(a:α)(S:i3)|ex(c:Addr)(ns:List Str)(ds:List D)(S:i3)|bad
abbrev jm:=jj->i3->RX Z
abbrev ji:=List Z->i3->RX Z
noncomputable def RX.bind{d b:Type}:RX d->(d->i3->RX b)->RX b
 |.ok a S,f=>f a S
 |.ex c ns ds S,_=>.ex c ns ds S
 |.bad,_=>.bad
def lG{b:Type}(r:R b)(S:i3):RX b:=match r with
 |.ok a=>.ok a S
 |.ex c ns ds=>.ex c ns ds S
 |.bad=>.bad
def iZ{f:Type}(K:W.Frag)(B:Z0)(E:XK)(j:Addr->Prop)(lo:Lo)(H:Hp)(h:St)(i:jj)(r:RX f)(k:f->(Addr->Prop)->Lo->Hp->i3->Prop):Prop:=match r with
 |.ok x e=>∀a b d,RZ K B a b d h i e->Xt j H a d->Lx lo b->k x a b d e
 |.ex c ns ds e=>∀a b d g,EZ K B a b d e->XR K a d g ns ds->E (.ref c) g d
 |.bad=>False
section
variable{T U:Type}{K:W.Frag}{B:Z0}{E:XK}{l C:Addr->Prop}{lo A:Lo}{H I:Hp}{o:St}{j:jj}{S N:i3}{k Y:T->(Addr->Prop)->Lo->Hp->i3->Prop}
def iZ.up(h:iZ K B E l lo H o j r k)(x:Xt l H C I)(y:Lx lo A):iZ K B E C A I o j r k:=by
 cases r with
 |ok a S=>exact λd b g z f e=>h d b g z (x.trans f) (y.trans e)
 |ex c i m S=>exact h
 |bad=>exact h
def iZ.mono(h:iZ K B E l lo H o j r k)(m:∀x C A I N,RZ K B C A I o j N->Xt l H C I->Lx lo A->k x C A I N->Y x C A I N):iZ K B E l lo H o j r Y:=by
 cases r with
 |ok a S=>exact λd b g z f e=>m _ _ _ _ _ z f e (h d b g z f e)
 |ex c i n S=>exact h
 |bad=>exact h
def iZ.split{r:RX T}{g:T->i3->RX U}{k:U->(Addr->Prop)->Lo->Hp->i3->Prop}(h:iZ K B E l lo H o j (r.bind g) k):iZ K B E l lo H o j r (λx C A I N=>iZ K B E C A I o j (g x N) k):=by
 cases r with
 |ok a S=>exact λf e n z d b=>iZ.up h d b
 |ex c i m S=>exact h
 |bad=>exact h
def iZ.toAft(z:RZ K B l lo H o j S)(h:iZ K B E l lo H o j (lG r S) k):Aft K l E H r (λx I=>k x l lo I S):=by
 cases r with
 |ok a=>exact λd b=>h l lo d (z.grow b) (.of b) .refl
 |ex c f g=>exact λe d b q=>h l lo d e (z.toEZ.grow b) q
 |bad=>exact h
def ZE(X:Cx)(E:XK)(e:Expr)(f:jm):Prop:=∃t:TE,PE X e t/\
 ∀B l lo H o j S (Q:VK),RZ X.K B l lo H o j S->iZ X.K B E l lo H o j (f j S) (λz C A I _=>∀v,kh X.K C A I v z->Q v I)->t o H Q
def ZT(X:Cx)(E:XK)(e:Expr)(f:jj->i3->RX Bool):Prop:=∃t:TT,PT X e t/\
 ∀B l lo H o j S (Q:Bool->Hp->Prop),RZ X.K B l lo H o j S->iZ X.K B E l lo H o j (f j S) (λb _ _ I _=>Q b I)->t o H Q
def ZA(X:Cx)(E:XK)(c:List Expr)(f:jj->i3->RX (List Z)):Prop:=∃t:TA,PA X c t/\
 (∀B l lo H o j S (Q:List V->Hp->Prop),RZ X.K B l lo H o j S->iZ X.K B E l lo H o j (f j S) (λa C A I _=>∀b,j9 X.K C A I b a->Q b I)->t o H Q)/\∀j S a N,f j S=.ok a N->a.length=c.length
noncomputable def zD(f:jq):jm:=λj S=>(lG (f<|lF j) S).bind λd S=>.ok (.d d) S
def zB(f:Ev->R Bool):jj->i3->RX Bool:=λj S=>lG (f<|lF j) S
noncomputable def zV(i:Nat):jm:=λj S=>match j[i]? with
 |some (some z)=>.ok z S
 |_=>.bad
def lI:List Z->Option (List D)
 |[]=>some []
 |.d x::r=>(lI r).map (x:: ·)
 |_::_=>none
theorem sJ:∀{b} {a},lI b=some a->b=a.map .d
 |[],_,h=>by cases h;rfl
 |.d x::r,a,h=>by obtain⟨t,d,c⟩:=aB.mp (show(lI r).map (x:: ·)=some a from h);subst c;rw[aR,<-sJ d]
 |.loc _::_,_,h=>by cases h
theorem rn:∀a:List D,lI (a.map .d)=some a
 |[]=>rfl
 |d::r=>by show(lI<|r.map .d).map (d:: ·)=_;rw[rn r];rfl
def z2(g:D->D->R D)(a b:jm):jm:=λj S=>(a j S).bind λx e=>(b j e).bind λy c=>match x,y with
 |.d x,.d y=>(lG (g x y) c).bind λd S=>.ok (.d d) S
 |_,_=>.bad
def ph(t:D->R Bool)(a:jm):jj->i3->RX Bool:=λj S=>(a j S).bind λx b=>match x with
 |.d x=>lG (t x) b
 |_=>.bad
def tM(a b:jj->i3->RX Bool):jj->i3->RX Bool:=λj S=>(a j S).bind λk c=>if k=true then b j c else .ok false c
noncomputable def i4:jj->i3->RX (List Z):=λ_ S=>.ok [] S
def iM(a:jm)(r:jj->i3->RX (List Z)):jj->i3->RX (List Z):=λj S=>(a j S).bind λx d=>(r j d).bind λb c=>.ok (x::b) c
def zF(g:je)(a:jj->i3->RX (List Z)):jm:=λj S=>(a j S).bind λb e=>match lI b with
 |some c=>(lG (g c) e).bind λd S=>.ok (.d d) S
 |none=>.bad
def zZ(F:ji)(a:jj->i3->RX (List Z)):jm:=λj S=>(a j S).bind F
variable{X:Cx}{e a b c:Expr}{M rest:List Expr}{J:Pos}{f L O:jm}{P gb:jj->i3->RX Bool}{fs:jj->i3->RX (List Z)}
def iT{f:jq}(h:DE X E e f):ZE X E e (zD f):=by obtain⟨t,p,r⟩:=h;refine⟨t,p,λB l lo H o j S Q z h=>r _ _ _ _ _ _ _ z.rs ?_⟩;have:=iZ.toAft z (iZ.split h);exact Aft.mono this λd n g m v i=>m l lo n (z.grow g) .refl .refl v i
def kT{f:Ev->R Bool}(h:DT X E e f):ZT X E e (zB f):=by obtain⟨t,p,r⟩:=h;exact⟨t,p,λB l lo H o j S Q z h=>r _ _ _ _ _ _ _ z.rs<|iZ.toAft z h⟩
def jv(i)(hN:X.N[i]?=some x:=by rfl)(hv:qJ X.env.scope x:=by first|exact Or.inl rfl|exact Or.inr (Or.inl rfl)|exact Or.inr (Or.inr rfl))(m:ot x:=by decide)
 (d:(x==("__classdict__":Str))=false:=by decide):ZE X E (.Name x J) (zV i):=by
  refine⟨_,wh hN hv m d,λB l lo H o j S Q z h=>?_⟩;unfold zV at h;split at h
  ·rename_i g q;obtain⟨v,p,n⟩:=z.vr i g q;exact⟨v,p,h l lo H z .refl .refl v n⟩
  ·exact h.elim
def pj{t:Operator}{g:D->D->R D}(ho:kU X E (binaryOp t) g)(ha:ZE X E a L)(hb:ZE X E b O):ZE X E (.BinOp a t b J) (z2 g L O):=by
 obtain⟨r,ro,rr⟩:=ho;obtain⟨ta,pa,ra⟩:=ha;obtain⟨tb,pb,rb⟩:=hb;refine⟨_,J1 ro pa pb,λB l lo H o j S Q s h=>ra _ _ _ _ _ _ _ _ s<|iZ.mono (iZ.split h) λx mV lo1 H1 S1 V x1 y1 h1 v rv=>rb _ _ _ _ _ _ _ _ V<|iZ.mono (iZ.split h1) λy q n H2 S2 i F z p u ru=>?_⟩;split at p;·exact rr _ _ _ _ _ _ _ i.fresh (kh.mv F z rv) ru (Aft.mono (iZ.toAft i<|iZ.split p) λd H3 G h3 w m=>h3 q n H3 (i.grow G) .refl .refl w m)
 ·exact p.elim
def z6{n:CmpOp}{g:D->D->R D}(ho:kU X E (compareOp n) g)(ha:ZE X E a L)(hb:ZE X E b O)(hm:behindInMarks n b=false):ZE X E (.Compare a [n] [b] J) (z2 g L O):=by
 obtain⟨r,ro,rr⟩:=ho;obtain⟨ta,pa,ra⟩:=ha;obtain⟨tb,pb,rb⟩:=hb;refine⟨_,JV ro pa pb hm,λB l lo H o j S Q s h=>ra _ _ _ _ _ _ _ _ s<|iZ.mono (iZ.split h) λx mV lo1 H1 S1 V x1 y1 h1 v rv=>rb _ _ _ _ _ _ _ _ V<|iZ.mono (iZ.split h1) λy t p H2 S2 i F z q u ru=>?_⟩;split at q;·exact rr _ _ _ _ _ _ _ i.fresh (kh.mv F z rv) ru (Aft.mono (iZ.toAft i<|iZ.split q) λd H3 G h3 w m=>h3 t p H3 (i.grow G) .refl .refl w m)
 ·exact q.elim
def EM{n:CmpOp}{g:D->D->R D}(ho:kU X E (compareOp n) g)(ha:ZE X E a L)(hb:ZE X E b O)(hm:behindInMarks n b=false):ZT X E (.Compare a [n] [b] J) (ph tB<|z2 g L O):=by
 obtain⟨r,ro,rr⟩:=ho;obtain⟨ta,pa,ra⟩:=ha;obtain⟨tb,pb,rb⟩:=hb;refine⟨_,zd ro pa pb hm,λB l lo H o j S Q s h=>ra _ _ _ _ _ _ _ _ s<|iZ.mono (iZ.split<|iZ.split h) λx mV lo1 H1 S1 s1 x1 y1 h1 v rv=>rb _ _ _ _ _ _ _ _ s1<|iZ.mono (iZ.split h1) λy z p H2 S2 i V G t u ru=>?_⟩;split at t
 ·refine rr _ _ _ _ _ _ _ i.fresh (kh.mv V G rv) ru (Aft.mono (iZ.toAft i<|iZ.split t) λd H3 F h3 w m=>?_);have h4:=h3 z p H3 (i.grow F) .refl .refl;exact uM m (Aft.mono (iZ.toAft (i.grow F) h4) λ_ _ _ q=>q)
 ·exact t.elim
def acY(t:ZE X E e L)(r:∀d,isTrue e X.env d=(do let v<-d;standAt e.pos;holding [v]<|truthy v)):ZT X E e (ph tT L):=by
 obtain⟨z,p,n⟩:=t;refine⟨_,Ko p r,λB l lo H o j S Q s h=>n _ _ _ _ _ _ _ _ s<|iZ.mono (iZ.split h) λx u q F D i y w g v m=>?_⟩;split at g;·exact zj m (iZ.toAft i g)
 ·exact g.elim
def ZW(X:Cx)(E:XK)(e:Expr)(f:jj->i3->RX Bool):Prop:=∃t:TT,PW X e t/\
 ∀B l lo H o j S (Q:Bool->Hp->Prop),RZ X.K B l lo H o j S->iZ X.K B E l lo H o j (f j S) (λb _ _ I _=>Q b I)->t o H Q
def ZW.zt(h:ZW X E e P):ZT X E e P:=let⟨t,p,r⟩:=h;⟨t,p.pt,r⟩
def ac0(h:ZT X E a P):ZW X E (.BoolOp .And [a] J) P:=let⟨t,p,r⟩:=h;⟨t,Kr p,r⟩
def acZ(u:ZT X E a P)(t:ZW X E (.BoolOp .And (b::rest) J) gb):ZW X E (.BoolOp .And (a::b::rest) J) (tM P gb):=by
 obtain⟨x,r,p⟩:=u;obtain⟨w,q,n⟩:=t;refine⟨_,Kq r q,λB l lo H o j S Q s h=>p _ _ _ _ _ _ _ _ s<|iZ.mono (iZ.split h) λc g d v y i _ _ m=>?_⟩;cases c with
 |true=>exact rK (n _ _ _ _ _ _ _ _ i m)
 |false=>exact rJ (m g d v i .refl .refl)
def sj{g:D->D->R D}(ho:Al X E g)(ha:ZE X E a L)(hb:ZE X E b O)(hs:As b:=by exact λ_ _=>rfl):ZE X E (.Subscript a b J) (z2 g L O):=by
 obtain⟨r,ro,rr⟩:=ho;obtain⟨ta,pa,ra⟩:=ha;obtain⟨tb,pb,rb⟩:=hb;refine⟨_,JY ro pa pb hs,λB l lo H o j S Q s h=>ra _ _ _ _ _ _ _ _ s<|iZ.mono (iZ.split h) λx mV lo1 H1 S1 G x1 y1 h1 v V=>rb _ _ _ _ _ _ _ _ G<|iZ.mono (iZ.split h1) λy q n H2 S2 i z t p u ru=>?_⟩;split at p;·exact rr _ _ _ _ _ _ _ i.fresh (kh.mv z t V) ru (Aft.mono (iZ.toAft i<|iZ.split p) λd H3 F h3 w m=>h3 q n H3 (i.grow F) .refl .refl w m)
 ·exact p.elim
def jf:ZA X E [] i4:=⟨_,rT,λB l lo H o j S Q s h=>h l lo H s .refl .refl _ .nil,λ_ _ _ _ h=>by cases h;rfl⟩
def iS(ha:ZE X E e L)(hr:ZA X E M fs)(hs:X.se e M:=by rfl):ZA X E (e::M) (iM L fs):=by
 obtain⟨ta,pa,ra⟩:=ha;obtain⟨tb,pb,V,lb⟩:=hr;refine⟨_,rS pa pb hs,λB l lo H o j S Q s h=>ra _ _ _ _ _ _ _ _ s<|iZ.mono (iZ.split h) λx mV lo1 H1 g F x1 y1 h1 v G=>V _ _ _ _ _ _ _ _ F<|iZ.mono (iZ.split h1) λy n m H2 p D z w h2 u R=>?_,λj S t N h=>?_⟩;·exact h2 n m H2 D .refl .refl _ (.cons (G.mv z w) R)
 ·unfold iM at h;cases q:L j S with
  |bad=>rw[q]at h;cases h
  |ex c ns ds g=>rw[q]at h;cases h
  |ok x g=>
   rw[q]at h;have d:(fs j g).bind (λr p=>.ok (x::r) p)=RX.ok t N:=h;cases i:fs j g with
   |bad=>rw[i]at d;cases d
   |ex c ns ds g=>rw[i]at d;cases d
   |ok r p=>rw[i]at d;cases d;rw[aq,aq,lb _ _ _ _ i]
def nF{u}(G:ZA X E M fs):ZE X E (.Tuple M u J) (zF jz fs):=by
 obtain⟨ta,F,D,_⟩:=G;refine⟨_,CW F,λB l lo H o j S Q s h=>D _ _ _ _ _ _ _ _ s<|iZ.mono (iZ.split h) λx t n H1 S1 m u y1 r v y=>?_⟩;split at r
 ·rename_i V e;have:=sJ e;subst this;have g:=y.toD;have i:=Aft.mono (iZ.toAft m<|iZ.split r) λd H3 w R=>R t n H3 (m.grow w) .refl .refl;unfold jz at i;by_cases z:V.length<=sizeLine
  ·rw[av z]at i;exact⟨by rw[g.length];exact z,λp q=>i _ (lV q) _<|g.En q<|m.fresh p q⟩
  ·rw[aw z]at i;exact i.elim
 ·exact r.elim
variable{x:Str}{p:Pos}
variable{k n:Nat}{ps:List Str}{F:je}
def qA(G:pz X.prog X.w X.K X.mg X.base (kB X.prog X.w) k x ps<|j4 n X.K F)(hr:kL k X.A)(hg:Gl X x)(hx:Passes (kB X.prog X.w) X E)(hn:(e::M).length=n)(ha:ZA X E (e::M) fs)(u:X.cl x e M J:=by exact⟨by decide,rfl,rfl⟩):ZE X E (.Call (.Name x p) (e::M) [] J) (zF F fs):=by
 obtain⟨ta,pa,ra,lb⟩:=ha;refine⟨_,CU G hr hg hx pa u,λB l lo H o j S Q s h=>ra _ _ _ _ _ _ _ _ s ?_⟩;unfold zF at h;cases q:fs j S with
 |bad=>rw[q]at h;exact h.elim
 |ex c ns r D=>rw[q]at h;exact h
 |ok R D=>
  rw[q]at h;intro i t H1 m x1 V vs rv;have y:=lb _ _ _ _ q;have w:iZ X.K B E l lo H o j (match lI R with|some r=>(lG (F r) D).bind λd S=>.ok (.d d) S|none=>.bad) (λz C A I _=>∀v,kh X.K C A I v z->Q v I):=h;split at w
  ·rename_i r e;have:=sJ e;subst this;have g:=rv.toD;rw[bf];exact⟨by rw[g.length];rw[aj]at y;rw[y];exact hn,m.tt,i,r,m.fresh,g,Aft.mono (iZ.toAft m (iZ.split (iZ.up w x1 V))) λd H3 s3 h3=>h3 i t H3 (m.grow s3) .refl .refl⟩
  ·exact w.elim
end
def Mj(K:W.Frag)(B:Z0)(E:XK)(r:RX Z)(Q:VK):Prop:=match r with
 |.ok z e=>∀a b d v,EZ K B a b d e->kh K a b d v z->Q v d
 |.ex c ns ds e=>∀a b d f,EZ K B a b d e->XR K a d f ns ds->E (.ref c) f d
 |.bad=>False
def jI(n:Nat)(K:W.Frag)(F:ji):Sp:=λd H Q E=>d.length=n/\lQ K H/\∃b lo c S,(∀a,H a=none->b a)/\sG K b lo H S/\j9 K b lo H d c/\Mj K ⟨H,b,lo,S.length⟩ E (F c S) Q
def EZ.trans{lo}(r:EZ K B al lo H S)(q:EZ K ⟨H,al,lo,S.length⟩ nj v3 H' S'):EZ K B nj v3 H' S' where
 fr:=λb o n h w=>q.fr b o n (r.fr b o n h w) λm c=>by
  rcases r.nw m b c with z|z;·exact w m z
  ·rw[z.1]at h;cases h
 hf:=λb h=>r.hf b (q.hf b h)
 tt:=q.tt
 fresh:=q.fresh
 st:=q.st
 lx:=λn a h=>q.lx n a (r.lx n a h)
 nw:=λn a h=>by
  rcases q.nw n a h with z|z;·exact r.nw n a z
  ·exact .inr ⟨r.hf a z.1,aS r.sz z.2⟩
 bd:=r.bd
 sz:=aS r.sz q.sz
 xt:=r.xt.trans q.xt
 sb:=λa h=>by
  rcases q.sb a h with z|z;·exact r.sb a z
  ·exact .inr (r.hf a z)
def RZ.after{lo}(r:RZ K B al lo H σ ρ S)(q:EZ K ⟨H,al,lo,S.length⟩ nj v3 H' S'):RZ K B nj v3 H' σ ρ S':=
 ⟨r.toEZ.trans q,r.len,λi z e=>let⟨v,b,a⟩:=r.vr i z e;⟨v,b,a.mv q.xt q.lx⟩⟩
section
variable{X:Cx}{E:XK}{e:Expr}{L:List Expr}{I p:Pos}{fs:jj->i3->RX (List Z)}{x:Str}{k n:Nat}{Y:List Str}{F:ji}
def jB(G:pz X.prog X.w X.K X.mg X.base (kB X.prog X.w) k x Y<|jI n X.K F)(W:kL k X.A)(hg:Gl X x)(V:Passes (kB X.prog X.w) X E)(hn:(e::L).length=n)(ha:ZA X E (e::L) fs)(t:X.cl x e L I:=by exact⟨by decide,rfl,rfl⟩):ZE X E (.Call (.Name x p) (e::L) [] I) (zZ F fs):=by
 obtain⟨ta,P,O,U⟩:=ha;refine⟨_,CU G W hg V P t,λB al lo H J A S Q s h=>O _ _ _ _ _ _ _ _ s ?_⟩;unfold zZ at h;cases q:fs A S with
 |bad=>rw[q]at h;exact h.elim
 |ex c R ds i=>rw[q]at h;exact h
 |ok j i=>
  rw[q]at h;intro u o H1 f N K vs C;have T:=U _ _ _ _ q;have d:iZ X.K B E al lo H J A (F j i) (λz w r D _=>∀v,kh X.K w r D v z->Q v D):=h;rw[bf];refine⟨by rw[C.length,T];exact hn,f.tt,u,o,j,i,f.fresh,f.st,C,?_⟩;cases m:F j i with
  |bad=>rw[m]at d;exact d.elim
  |ex c R ds S2=>rw[m]at d;exact λb a y dx g M=>d b a y dx (f.toEZ.trans g) M
  |ok z S2=>rw[m]at d;exact λb a y v g l=>d b a y (f.after g) (N.trans g.xt) (K.trans g.lx) v l
inductive k4 where
 |nx(ρ:jj)(S:i3)|rt(z:Z)(S:i3)|bk(ρ:jj)(S:i3)|ct(ρ:jj)(S:i3)|ex(c:Addr)(ns:List Str)(ds:List D)(S:i3)|bad
abbrev jC:=jj->i3->k4
noncomputable def toZ{b:Type}(r:RX b)(k:b->i3->k4):k4:=match r with
 |.ok a S=>k a S
 |.ex c ns ds S=>.ex c ns ds S
 |.bad=>.bad
def aaD(r:k4)(k:jC):k4:=match r with
 |.nx a S=>k a S
 |r=>r
def kz(K:W.Frag)(B:Z0)(E:XK)(D:Ends)(h:Addr->Prop)(H:Hp):k4->Prop
 |.nx g S=>∀a b d f,Xt h H a d->RZ K B a b d f g S->D.nx f d
 |.bk g S=>∀a b d f,Xt h H a d->RZ K B a b d f g S->D.bk f d
 |.ct g S=>∀a b d f,Xt h H a d->RZ K B a b d f g S->D.ct f d
 |.rt z S=>∀a b d v,EZ K B a b d S->kh K a b d v z->D.rt v d
 |.ex c ns ds S=>∀a b d i,EZ K B a b d S->XR K a d i ns ds->E (.ref c) i d
 |.bad=>False
variable{K:W.Frag}{B:Z0}{D:Ends}{A j:Addr->Prop}{lo:Lo}{H o:Hp}{s:k4}{C:St}{m:jj}
def kz.ext(h:kz K B E D A H s)(x:Xt A H j o):kz K B E D j o s:=by
 cases s with
 |nx m S=>exact λa l f b y r=>h a l f b (x.trans y) r
 |bk m S=>exact λa l f b y r=>h a l f b (x.trans y) r
 |ct m S=>exact λa l f b y r=>h a l f b (x.trans y) r
 |rt d S=>exact h
 |ex c g i S=>exact h
 |bad=>exact h
def kz.nA{a:Type}{r:RX a}{k:a->i3->k4}(h:kz K B E D A H<|toZ r k):iZ K B E A lo H C m r (λx j f o i=>kz K B E D j o<|k x i):=by
 cases r with
 |ok x S=>exact λg d v q b l=>kz.ext h b
 |ex c t u S=>exact h
 |bad=>exact h
def ZS(X:Cx)(E:XK)(b:Nat)(a:Stmt)(g:jC):Prop:=∃t:TS,PS X a t/\
 ∀B:Z0,B.n=b->∀A lo H C m S (D:Ends),RZ X.K B A lo H C m S->kz X.K B E D A H (g m S)->t D C H
def qK(X:Cx)(E:XK)(b:Nat)(a:List Stmt)(g:jC):Prop:=∃t:TS,oM X a t/\
 ∀B:Z0,B.n=b->∀A lo H C m S (D:Ends),RZ X.K B A lo H C m S->kz X.K B E D A H (g m S)->t D C H
def j5:jC:=.nx
def iV(a b:jC):jC:=λm S=>aaD (a m S) b
def jG(f:jm):jC:=λm S=>toZ (f m S) .rt
def jd(i:Nat)(f:jm):jC:=λm S=>toZ (f m S) λz a=>if i<m.length then .nx (m.set i<|some z) a else .bad
def jE(c:jj->i3->RX Bool)(a b:jC):jC:=λm S=>toZ (c m S) λk d=>if k=true then a m d else b m d
variable{b:Nat}{J:Stmt}{rest O M:List Stmt}{g u T P:jC}{c:Expr}{f:jm}{U:jj->i3->RX Bool}
def kn:qK X E b [] j5:=⟨_,Km,λB a A lo H C m S _ s h=>h A lo H C .refl s⟩
def jy(h:ZS X E b J g):qK X E b [J] g:=let⟨t,p,r⟩:=h;⟨t,Kn p,r⟩
def ja(Q:ZS X E b J g)(N:qK X E b rest u):qK X E b (J::rest) (iV g u):=by
 obtain⟨V,G,y⟩:=Q;obtain⟨R,z,w⟩:=N;refine⟨_,Kl G z,λB t A lo H C m S D s h=>y B t A lo H C m S _ s ?_⟩;unfold iV at h;cases q:g m S with
 |nx a i=>rw[q]at h;exact λj r o l x v=>w B t j r o l a i D v (kz.ext h x)
 |bk a i=>rw[q]at h;exact h
 |ct a i=>rw[q]at h;exact h
 |rt d i=>rw[q]at h;exact h
 |ex c ns ds i=>rw[q]at h;exact h
 |bad=>rw[q]at h;exact h
def acW:ZS X E b (.Break I) .bk:=⟨_,WL,λB a A lo H C m S _ s h=>h A lo H C .refl s⟩
def j2(q:ZE X E e f):ZS X E b (.Return (some e) I) (jG f):=by obtain⟨t,p,r⟩:=q;exact⟨_,Kk p,λB Q A lo H C m S D s h=>r _ _ _ _ _ _ _ _ s<|iZ.mono (kz.nA h) λz d a y R i N G w v l=>w d a y v i.toEZ l⟩
def jT(i:Nat){x:Str}{a:Pos}(hN:X.N.Nodup)(R:X.N[i]?=some x)(N:Loc X.env.scope x)(V:ZE X E e f)(Q:swapsWith e (some<|.Name x a) I.line X.env=pure false:=by rfl)(hf:X.hf x:=by first|exact .inl rfl|exact .inr rfl|assumption):
    ZS X E b (.Assign [.Name x a] e I) (jd i f):=by
 obtain⟨t,p,r⟩:=V;refine⟨_,C0 hN R N p Q hf,λB hb A lo H C m S D s h=>r _ _ _ _ _ _ _ _ s<|iZ.mono (kz.nA h) λz q l H1 S1 y x1 y1 d v G=>?_⟩;by_cases w:i<m.length
 ·simp only[w,c8]at d;exact d q l H1 _ .refl (y.set w G)
 ·simp only[w,bI]at d;exact d.elim
def kj(z:ZT X E c U)(G:qK X E b O T)(a:qK X E b M P):ZS X E b (.If c O M I) (jE U T P):=by
 obtain⟨V,t,l⟩:=z;obtain⟨ta,w,r⟩:=G;obtain⟨tb,v,q⟩:=a;refine⟨_,Kj t w v,λB a A lo H C m S D s h=>l _ _ _ _ _ _ _ _ s<|iZ.mono (kz.nA h) λk N y H1 S1 d R Q i=>?_⟩;cases k with
 |true=>exact rK (r _ a _ _ _ _ _ _ _ d i)
 |false=>exact rJ (q _ a _ _ _ _ _ _ _ d i)
def nU(r:k4)(k:jC):k4:=match r with
 |.nx m S=>k m S
 |.ct m S=>k m S
 |.bk m S=>.nx m S
 |r=>r
def abY{K:W.Frag}{B:Z0}{E:XK}{A:Addr->Prop}{H:Hp}{D:Ends}{r:k4}{k:jC}{N:St->Hp->Prop}(h:kz K B E D A H<|nU r k)
    (hN:∀j i o a l q,Xt A H j o->RZ K B j i o a l q->kz K B E D j o (k l q)->N a o):kz K B E {D with nx:=N,ct:=N,bk:=D.nx} A H r:=by
 cases r with
 |nx m S=>exact λj i o a x s=>hN j i o a m S x s (kz.ext h x)
 |ct m S=>exact λj i o a x s=>hN j i o a m S x s (kz.ext h x)
 |bk m S=>exact h
 |rt d S=>exact h
 |ex c t v S=>exact h
 |bad=>exact h
end
def ZG(X:Cx)(i:Expr)(a:D->jj->Option jj):Prop:=∃g:TG,PG X i g/\
 ∀B e lo H f h S v d (Q:St->Hp->Prop),RZ X.K B e lo H f h S->Rep X.K e H v d->(∃c,a d h=some c/\∀b,RZ X.K B e lo H b c S->Q b H)->g v f H Q
def hV(i:Nat):D->jj->Option jj:=λd a=>if i<a.length then some (a.set i<|iN d)else none
def hN:List D->jj->Option jj:=λb a=>match b with
 |[]=>some a
 |_=>none
def hT(n:Nat)(a:List D->jj->Option jj):D->jj->Option jj:=λd b=>match d with
 |.tup ds=>if ds.length=n then a ds b else none
 |_=>none
def abP{b:Type}(r:Option b)(k:b->k4):k4:=match r with
 |some a=>k a
 |none=>.bad
def kF(a:D->jj->Option jj)(b:jC):List D->jC
 |[],e,S=>.nx e S
 |d::r,e,S=>abP (a d e) λc=>nU (b c S) (kF a b r)
section
variable{X:Cx}{E:XK}{b:Nat}{T C:Expr}{j:List Stmt}{O:Ev->R (List D)}{a:D->jj->Option jj}{M:jC}{l:Pos}{e:Expr}{f:jm}
def lX(O:Ev->R (List D))(a:D->jj->Option jj)(M:jC):jC:=λc S=>toZ (lG (O<|lF c) S) λd g=>kF a M d c g
def qB(i)(hN:X.N.Nodup)(n:X.N[i]?=some x)(m:Loc X.env.scope x)(hf:X.hf x:=by first|exact .inl rfl|exact .inr rfl|assumption):ZG X (.Name x l) (hV i):=by
 refine⟨_,y6 hN n m hf,λB p lo H o g S v d Q s k h=>?_⟩;obtain⟨c,e,q⟩:=h;unfold hV at e;by_cases z:i<g.length
 ·rw[av z]at e;cases e;exact q _ (s.set z k)
 ·rw[aw z]at e;cases e
def qC(hp:PassesOwn (model X.prog X.w) X.A X.env X.xe)(hc:X.calm=true)(I:DI X E T C O)(hg:ZG X T a)(P:qK X E b j M)(hs:∀x,foldedSetIterable C X.env x=pure x:=by intro _;rfl):
    ZS X E b (.For T C j [] l) (lX O a M):=by
 obtain⟨wi,pi,ri⟩:=I;obtain⟨g,pg,rg⟩:=hg;obtain⟨tb,pb,rb⟩:=P;refine⟨_,Ki hp hc pi pg pb hs,λB P al lo H σ W S D s h=>ri _ _ _ _ _ _ _ s.rs<|Aft.mono (iZ.toAft (k:=λn v G w V=>kz X.K B E D v w<|kF a M n W V) s<|kz.nA h) λn H1 s1 h1 J wk=>?_⟩;refine⟨λi m r A=>∃c o d z,RZ X.K B c o A r d z/\Wk X.K c A J n/\kz X.K B E D c A (kF a M (n.drop i) d z)/\m=n.length - i,⟨_,al,lo,W,S,s.grow s1,wk,h1,rfl⟩,?_⟩
 rintro i m r A ⟨c,o,d,z,L,F,p,rfl⟩
 obtain⟨w1,w2⟩:=F c A .refl L.fresh;by_cases I:i<n.length
 ·right;have ed:n[i]?=some n[i]:=au I;obtain⟨go,yl⟩:=w1 i _ ed;rw[cY I]at p;refine⟨go,λt w=>∃c o d z,RZ X.K B c o w t d z/\Wk X.K c w J n/\kz X.K B E D c w (kF a M (n.drop<|i+1) d z),λt w ⟨U,N,u,S3,z1,z2,Z⟩=>⟨n.length - (i+1),by omega,U,N,u,S3,z1,z2,Z,rfl⟩,λx H3 y=>?_⟩;obtain⟨rfl,rx⟩:=yl x H3 y;unfold kF at p;cases q:a n[i] d with
  |some u=>rw[q]at p;refine rg _ _ _ _ _ _ _ _ _ _ L rx ⟨u,q,λY s3=>rb _ P _ _ _ _ _ _ _ s3<|abY (k:=kF a M<|n.drop<|i+1) p λv G w t K V x' s' h'=>⟨v,G,K,V,s',λQ H4 x4=>F Q H4<|x'.trans x4,h'⟩⟩
  |none=>rw[q]at p;exact p.elim
 ·left;have e:n.drop i=[]:=dw (by omega);rw[e]at p;exact⟨w2 i<|by omega,p c o A r .refl L⟩
def uX(i:Nat)(g:D->D->R D)(f:jm):jC:=λc S=>match c[i]? with
 |some (some (.d d))=>toZ (f c S) λz k=>match z with
  |.d e=>toZ (lG (g d e) k) λr h=>.nx (c.set i<|iN r) h
  |_=>.bad
 |_=>.bad
def Me(i:Nat){x:Str}{y:Operator}{g:D->D->R D}{c:Pos}(hN:X.N.Nodup)(V:X.N[i]?=some x)(P:Loc X.env.scope x)(Q:Ah X E y g)(W:ZE X E e f)(hf:X.hf x):
    ZS X E b (.AugAssign (.Name x c) y e l) (uX i g f):=by
 obtain⟨ti,N,Z⟩:=Q;obtain⟨t,p,r⟩:=W;refine⟨_,WK hN V P p N hf,λB hb al lo H σ F S D s h=>?_⟩;unfold uX at h;split at h
 ·rename_i d A;obtain⟨v,hv,K⟩:=s.vr i _ A;have U:i<F.length:=(az.mp A).1;refine⟨v,hv,r _ _ _ _ _ _ _ _ s<|iZ.mono (kz.nA h) λz q m H1 S1 k G y1 o u L=>?_⟩;cases z with
  |loc n=>exact o.elim
  |tk ks=>exact o.elim
  |d e=>refine Z _ _ _ _ _ _ _ k.fresh (Rep.mv G K) L (Aft.mono (iZ.toAft k<|kz.nA o) λz H2 I Y w J=>?_);exact Y q m H2 _ .refl ((k.grow I).set U J)
 ·exact h.elim
def jr(n:Nat)(c:List Z):jj:=c.map some++List.replicate (n - c.length) none
noncomputable def i6:k4->RX Z
 |.rt z S=>.ok z S
 |.nx _ S=>.ok (.d .non) S
 |.ex c ns ds S=>.ex c ns ds S
 |_=>.bad
def KR{c:Addr->Prop}{lo}(g:lQ K H)(fr:∀a,H a=none->c a)(k:sG K c lo H S)(r:j9 K c lo H vs zs):RZ K ⟨H,c,lo,S.length⟩ c lo H (L2.start N vs) (jr N.length zs) S where
 toEZ:=EZ.start (zs:=zs) g fr k
 len:=by unfold L2.start jr;simp[r.length]
 vr:=λi z h=>by
  unfold jr at h;by_cases d:i<zs.length
  ·rw[ay<|by simpa using d,aE]at h;cases q:zs[i]? with
   |none=>rw[q]at h;cases h
   |some y=>rw[q]at h;cases h;obtain⟨v,n,m⟩:=r.get q;refine⟨v,?_,m⟩;unfold L2.start;rw[ay<|by simpa [r.length]using d,aE,n];rfl
  ·rw[aK<|by simpa using d,bG]at h;split at h<;>cases h
variable{P:Program}{w:World}{K:W.Frag}{U:kd}{I:Heap}
def mK{x:Str}{m:Stmt}{f:Addr}{L:FuncData}{N v:List Str}{k:Nat}{g:Nat->jC}(F:jZ K x x m f L)(S:j8 N v<|jo m)
    (j:∀(b:Nat) (i:Value) (A:Around) (d:List Env) (s:Shared) (H:Hp) (E:XK),kL k (lr (kB P w) P w K U I N x (jo m) f i A d s H E).A->qK (lr (kB P w) P w K U I N x (jo m) f i A d s H E) E b (ko m) (g b)):
    jL P w K U I (k+1) f L v (jI v.length K λo S=>i6<|g S.length (jr N.length o) S):=by
 refine F.JA S (λJ H Q E h=>h.1) (λi A d s H J Q E hr h=>?_);obtain⟨hl,Z,V,lo,o,n,fr,m,rv,h⟩:=h;obtain⟨t,p,r⟩:=j n.length i A d s H E hr;dsimp only at h;refine⟨t,p,r ⟨H,V,lo,n.length⟩ rfl V lo H (L2.start N J) (jr N.length o) n _ (KR Z fr m rv) ?_⟩;cases q:g n.length (jr N.length o) n with
 |nx G u=>rw[q]at h;exact λB y H' Y _ s'=>h B y H' .non s'.toEZ .non
 |rt z u=>rw[q]at h;exact h
 |ex c ns es u=>rw[q]at h;exact h
 |bk G u=>rw[q]at h;exact h.elim
 |ct G u=>rw[q]at h;exact h.elim
 |bad=>rw[q]at h;exact h.elim
variable{L:Stmt}
def mE(g:Ev->R (List D)):jm:=λd S=>(lG (g<|lF d) S).bind λh c=>.ok (.loc c.length) (c++[.li<|h.map .d])
def sk(m:DN X E e fn):ZE X E e (mE fn):=by obtain⟨t,p,r⟩:=m;refine⟨t,p,λB u lo H x y S Q s h=>r _ _ _ _ _ _ _ s.rs<|Aft.mono (iZ.toAft s<|iZ.split h) λq v i o p g d k=>?_⟩;have c:=s.grow i;have n:lN X.K (λb=>u b/\b≠p) (kS lo S.length p) (upd v p<|.lst g) p (.li<|q.map .d):=⟨g,kv,j9.mv (qz d) (oR c.st p)<|.ofD k⟩;exact o _ _ _ (c.new d oy n nofun) (qz d) (oR c.st p) _ ⟨p,by unfold kS;rw[av rfl],rfl⟩
def EL(i)(hN:X.N.Nodup)(z:X.N[i]?=some x)(v:Loc X.env.scope x)(A:tO X E e fn)(y:swapsWith e (some<|.Name x pos') l.line X.env=pure true)(hf:X.hf x):
    ZS X E b (.Assign [.Name x pos'] e l) (jd i<|zD<|jw fn):=by
 obtain⟨t,_,p,r⟩:=A;refine⟨_,WS hN z v p y hf,λB Q n lo H N q S D s h=>r _ _ _ _ _ _ _ s.rs ?_⟩;have G:=iZ.toAft s (iZ.split<|kz.nA h);refine Aft.mono (Aft.split G) λJ V m F p g d u=>?_;have k:=(s.grow m).grow (lV (K:=X.K) (o:=HO.lst g) d);have c:=F _ (lV (K:=X.K) (o:=HO.lst g) d) n lo _ k .refl .refl;dsimp only at c;by_cases w:i<q.length
 ·rw[av w]at c;exact c _ _ _ _ .refl (k.set w<|show kh X.K n lo _ (.ref p) (.d<|.lst J)from u.rO d ((s.grow m).fresh p d))
 ·rw[aw w]at c;exact c.elim
end
section
variable{X:Cx}{E:XK}{b:Nat}{e:Expr}{l:Pos}{f:jm}
def oF(i:Nat)(f:jm):jC:=λa S=>match a[i]? with
 |some (some (.loc n))=>(match S[n]? with
  |some (.li _)=>toZ (f a S) λz d=>(match d[n]? with
   |some (.li c)=>if c.length<sizeLine then .nx a (d.set n<|.li<|c++[z])else .bad
   |_=>.bad)
  |_=>.bad)
 |_=>.bad
def RZ.cell{lo}(s:RZ K B al lo H σ ρ S){n}(g:lo n=some a)(h:S[n]?=some c):lN K al lo H a c:=by obtain⟨j,d,i⟩:=s.st.at' n a g;rw[h]at d;cases d;exact i
def vb(i){d:Pos}(pa:PlainAttrs "list")(A:Slot "list" "append" "list.append")(J:typeOf (.builtin "list.append")=pure (.type "method_descriptor"))(he:ZE X E e f)
 (hN:X.N[i]?=some x:=by rfl)(hv:qJ X.env.scope x:=by first|exact Or.inl rfl|exact Or.inr (Or.inl rfl)|exact Or.inr (Or.inr rfl))(hd:ot x:=by decide)
 (L:(x==("__classdict__":Str))=false:=by decide)
 (m:attributeBase (.Name x m6) "append" X.env (eval (.Name x m6) X.env)=eval (.Name x m6) X.env:=by rfl)
 (C:((backTo cpos (starEach [e] X.env)).all (λx=>!x.1)&&(backToKw cpos (keywordEach [] X.env)).all (λx=>x.1.isSome)
 &&decide ([e].length+([]:List Keyword).length+(if([]:List Keyword).isEmpty then 0 else 1)<30))=true:=by rfl)
 (k:(d.endLine==cpos.line)=true:=by rfl)(O:X.se e []:=by rfl)(g:(backTo cpos<|starEach [] X.env).any (·.1)=false:=by rfl)
 (K:swapsWith (.Call (.Attribute (.Name x m6) "append" d) [e] [] cpos) none l.line X.env=pure false:=by rfl):
   ZS X E b (.Expr (.Call (.Attribute (.Name x m6) "append" d) [e] [] cpos) l) (oF i f):=by
  obtain⟨t,p,r⟩:=he;refine⟨_,Kh (JT pa A J Jp (wh hN hv hd L) (rS p rT O) m C k O g) K,λB M al lo H σ ρ S D s h=>?_⟩;unfold oF at h;split at h
  ·rename_i n q;split at h
   ·rename_i T q0;obtain⟨v,e1,a,P,rfl⟩:=s.vr i _ q;obtain⟨Y,e2,e3⟩:=s.cell P q0;refine⟨_,e1,.inl ⟨rfl,Y,.inl<|.inl e2⟩,r _ _ _ _ _ _ _ _ s<|iZ.mono (kz.nA h) λz F lo1 R S1 I x1 U y u ru=>?_⟩;split at y
    ·rename_i N q1;have j:=U n a P;obtain⟨G,g2,Q⟩:=I.cell j q1;by_cases w:N.length<sizeLine
     ·rw[av w]at y;have W:Xt F R F (upd R a (.lst (G++[u]))):=λb o _ M eb=>⟨M,by rw[jA λz=>I.st.na n a j (by rw[<-z];exact M)];exact eb⟩;obtain⟨Z,V⟩:=I.write j (o:=.lst (G++[u])) (c:=.li (N++[z])) oy (λq w=>by unfold lP at w;cases w) ⟨_,kv,j9.mv W .refl (Q.append (.cons ru .nil))⟩ nofun;exact⟨a,G,u,rfl,rfl,g2,by rw[Q.length];exact w,y _ _ _ _ V Z⟩
     ·rw[aw w]at y;exact y.elim
    ·exact y.elim
   ·exact h.elim
  ·exact h.elim
def uZ(i:Nat)(d:jq)(f:jm):jC:=λa S=>toZ (f a S) λz g=>match a[i]? with
 |some (some (.loc n))=>toZ (lG (d (lF a)) g) λk c=>(match k,c[n]? with
  |.int j,some (.li zs)=>(match qt zs.length j with
   |some m=>.nx a (c.set n<|.li<|zs.set m z)
   |none=>.bad)
  |_,_=>.bad)
 |_=>.bad
variable{k:Expr}{y:jq}
def Mh(i)(hk:DE X E k y)(he:ZE X E e f)
 (hN:X.N[i]?=some x)(hv:qJ X.env.scope x)(hd:ot x)
 (N:(x==("__classdict__":Str))=false)
 (ha:∀v,assign (.Subscript (.Name x m6) k uV) X.env v=(do
 let F<-holding [v] (eval (.Name x m6) X.env)
 let L<-holding [v,F] (eval k X.env)
 standAt uV
 holding [v,F,L] (setItem F L v)
 release [v,F,L] []))
 (hs:swapsWithSole [.Subscript (.Name x m6) k uV] e l.line X.env=pure false)(hw:swappedStores [.Subscript (.Name x m6) k uV] e X.env=pure none)
 (g:(assignEach [.Subscript (.Name x m6) k uV] X.env).map (·.2)=[assign (.Subscript (.Name x m6) k uV) X.env]):
   ZS X E b (.Assign [.Subscript (.Name x m6) k uV] e l) (uZ i y f):=by
  obtain⟨t,p,r⟩:=he;obtain⟨tk,pk,Z⟩:=hk;refine⟨_,WJ p (Wj (wh hN hv hd N) pk set_list ha) hs hw g,λB O al lo H σ ρ S D s h=>r _ _ _ _ _ _ _ _ s<|iZ.mono (kz.nA h) λz A lo1 H1 S1 C x1 y1 g v Y=>?_⟩;split at g
  ·rename_i n q;obtain⟨u,e1,a,M,rfl⟩:=C.vr i _ q;refine⟨_,e1,Z _ _ _ _ _ _ _ C.rs<|Aft.mono (iZ.toAft C<|kz.nA g) λdk R P d w J=>?_⟩;have I:=C.grow P;split at d
   ·rename_i j T q2;cases J;obtain⟨G,g1,Q⟩:=I.cell M q2;split at d
    ·rename_i m qm;have K:=kh.mv (.of P) .refl Y;have V:Xt A R A (upd R a (.lst (G.set m v))):=λb o _ O eb=>⟨O,by rw[jA λz=>I.st.na n a M (by rw[<-z];exact O)];exact eb⟩;obtain⟨W,U⟩:=I.write M (o:=.lst (G.set m v)) (c:=.li (T.set m z)) oy (λq w=>by unfold lP at w;cases w) ⟨_,kv,j9.mv V .refl (Q.set K m)⟩ nofun;exact⟨a,G,j,m,rfl,rfl,g1,by rw[Q.length];exact qm,d _ _ _ _ U W⟩
    ·exact d.elim
   ·exact d.elim
  ·exact g.elim
end
mutual
def oW:D->Bool
 |.lst _=>false
 |.tup ds=>uE ds
 |.exc _ _ _=>false
 |_=>true
def uE:List D->Bool
 |[]=>true
 |d::r=>oW d&&uE r
end
def nV(S:i3):Option Z->Sl
 |some (.d x)=>.sh x
 |some (.loc n)=>(match S[n]? with
  |some (.li a)=>(match lI a with
   |some b=>.sh (.lst b)
   |none=>.no)
  |_=>.no)
 |_=>.no
def vw(S:i3)(a:jj):Ev:=a.map (nV S)
variable{K:W.Frag}{B:Z0}{al:Addr->Prop}{lo:Lo}{H H':Hp}{σ:St}{ρ:jj}{S:i3}
def xC(al:Addr->Prop)(lo:Lo):Addr->Prop:=λa=>al a\/∃n,lo n=some a
def RZ.KO(r:RZ K B al lo H σ ρ S):RS K (xC al lo) H (xC al lo) H σ (vw S ρ) where
 same:=.refl H
 tt:=r.tt
 fresh:=λa h=>.inl (r.fresh a h)
 sub:=λ_ h=>h
 pf:=λa h=>.inl (r.fresh a h)
 len:=by unfold vw;rw[aj];exact r.len
 sh:=λi d h=>by
  unfold vw at h;rw[aE]at h;obtain⟨z,c,b⟩:=aB.mp h;cases z with
  |none=>cases b
  |some z=>
   obtain⟨v,o,f⟩:=r.vr i z c;refine⟨v,o,?_⟩;cases z with
   |d x=>cases b;exact Rep.mv (.sub λ_ h=>.inl h) f
   |tk u=>cases b
   |loc n=>
    unfold nV at b;dsimp only at b;split at b
    ·rename_i s q;split at b
     ·rename_i g k;cases b;have:=sJ k;subst this;obtain⟨a,e,rfl⟩:=f;obtain⟨t,m,l⟩:=r.cell e q;exact .lst (.inl ⟨.inr ⟨n,e⟩,.inl m⟩) (i9.mv (.sub λ_ h=>.inl h) l.toD)
     ·cases b
    ·cases b
 ow:=λi g h=>by
  unfold vw at h;rw[aE]at h;obtain⟨z,c,b⟩:=aB.mp h;unfold nV at b;split at b;·cases b
  ·split at b;·split at b<;>cases b
   ·cases b
  ·cases b
 apart:=λi j g p a h _ _ _=>by
  unfold vw at h;rw[aE]at h;obtain⟨z,c,b⟩:=aB.mp h;unfold nV at b;split at b;·cases b
  ·split at b;·split at b<;>cases b
   ·cases b
  ·cases b
def Rep.oW(f:∀n a,lo n=some a->¬∃e,Rd H a<|.tup e){v:V}{d:D}(r:Rep K (xC al lo) H v d):P2.oW d=true->Rep K al H v d:=
 Rep.rec (motive_1:=λv d _=>P2.oW d=true->Rep K al H v d) (motive_2:=λv d _=>uE d=true->i9 K al H v d) (λ_=>.non) (λb _=>.bl b) (λb _=>.int b) (λb _=>.str b) (λb _=>.ty b) (λb _=>.ref b)
  (λp _ q h=>.tup (p.elim (λz=>.inl ⟨z.1.elim id λ⟨n,g⟩=>absurd ⟨_,.inl z.2⟩<|f n _ g,z.2⟩) .inr)<|q h) (λ_ _ _ h=>by cases h) (λ_ _ _ _ _ _ h=>by cases h) (λ_ _ h=>by cases h) (λ_=>.nil) (λ{_ d _ i} _ _ p q h=>by have c:(P2.oW d&&uE i)=true:=h;rw[aQ]at c;exact .cons (p c.1) (q c.2)) r
def i9.oW(e:∀n a,lo n=some a->¬∃c,Rd H a<|.tup c){v:List V}{d:List D}(r:i9 K (xC al lo) H v d)(h:uE d=true):i9 K al H v d:=by
 induction d generalizing v with
 |nil=>cases r;exact .nil
 |cons d g f=>
  cases r with
  |cons p q=>have b:(P2.oW d&&uE g)=true:=h;rw[aQ]at b;exact .cons (Rep.oW e p b.1) (f q b.2)
def RZ.qX(r:RZ K B al lo H σ ρ S):∀n a,lo n=some a->¬∃e,Rd H a (.tup e):=λn a f ⟨e,h⟩=>by
 obtain⟨c,_,q⟩:=r.st.at' n a f;cases c with
 |li i=>obtain⟨d,g,_⟩:=q;rcases h with h|⟨o,h⟩<;>(rw[g]at h;cases h)
 |ob C fs=>obtain⟨k,d,g,_⟩:=q;rcases h with h|⟨o,h⟩<;>(rw[g]at h;cases h)
 |dk b=>obtain⟨d,g,_⟩:=q;rcases h with h|⟨o,h⟩<;>(rw[g]at h;cases h)
 |dt b=>obtain⟨d,g,_⟩:=q;rcases h with h|⟨o,h⟩<;>(rw[g]at h;cases h)
 |ft b=>obtain⟨d,j,g,_⟩:=q;rcases h with h|⟨o,h⟩<;>(rw[g]at h;cases h)
 |no=>exact q
 |mk=>exact q
def zR(f:jq):jm:=λρ S=>match f (vw S ρ)with
 |.ok d=>if oW d=true then .ok (.d d) S else .bad
 |_=>.bad
def qa(f:Ev->R Bool):jj->i3->RX Bool:=λρ S=>match f (vw S ρ)with
 |.ok d=>.ok d S
 |_=>.bad
variable{X:Cx}{E:XK}{b:Nat}{e:Expr}{pos:Pos}
def u9(h:DE X E e f):ZE X E e (zR f):=by
 obtain⟨t,p,r⟩:=h;refine⟨t,p,λB al lo H σ ρ S Q z h=>r _ _ _ _ _ _ _ z.KO ?_⟩;unfold zR at h;cases q:f (vw S ρ)with
 |bad=>rw[q]at h;exact h.elim
 |ex c j k=>rw[q]at h;exact h.elim
 |ok d=>
  rw[q]at h;dsimp only at h;by_cases w:oW d=true
  ·rw[av w]at h;exact λi a v g=>h al lo i (z.grow a) (.of a) .refl v (Rep.oW (z.grow a).qX g w)
  ·rw[aw w]at h;exact h.elim
def EN(h:DT X E e f):ZT X E e (qa f):=by
 obtain⟨t,p,r⟩:=h;refine⟨t,p,λB al lo H σ ρ S Q z h=>r _ _ _ _ _ _ _ z.KO ?_⟩;unfold qa at h;cases q:f (vw S ρ)with
 |bad=>rw[q]at h;exact h.elim
 |ex c i j=>rw[q]at h;exact h.elim
 |ok d=>rw[q]at h;exact λg a=>h al lo g (z.grow a) (.of a) .refl
def pW(n:Nat)(d:D):Option Z->Option Z
 |some (.loc m)=>if m=n then iN d else ba m
 |o=>o
def ml(n:Nat):Z->Bool
 |.loc m=>decide (m=n)
 |_=>false
def kC(n:Nat):Cell->Bool
 |.li zs=>zs.any (ml n)
 |.ob _ fs=>fs.any λp=>ml n p.2
 |.dk a=>a.any λp=>ml n p.2
 |.dt a=>a.any λp=>ml n p.2
 |.ft a=>a.any λp=>ml n p.2
 |.no=>false
 |.mk=>false
def uo(b i:Nat)(ρ:jj)(S:i3):Option (jj×i3):=match ρ[i]? with
 |some (some (.loc n))=>(match S[n]? with
  |some (.li a)=>(match lI a with
   |some c=>if b<=n/\(S.any<|kC n)=false then some (ρ.map<|pW n<|.lst c,S.set n .no)else none
   |none=>none)
  |_=>none)
 |some _=>some (ρ,S)
 |none=>none
variable{so:jj}{S':i3}
def kh.out{f:Addr->Prop}{c:Lo}{n:Nat}(x:Xt al H f H)(y:∀m a,m≠n->lo m=some a->c m=some a){v:V}{z:Z}(r:kh K al lo H v z)(h:ml n z=false):kh K f c H v z:=by
 cases z with
 |d d=>exact Rep.mv x r
 |loc m=>obtain⟨a,i,g⟩:=r;exact⟨a,y m a (by simpa [ml]using h) i,g⟩
 |tk j=>obtain⟨a,i,g,k⟩:=r;obtain⟨o,l⟩:=x a (.tup<|j.map kV) (λ_ h=>nomatch h) i g;exact⟨a,o,l,k⟩
def j9.out{d:Addr->Prop}{c:Lo}{n:Nat}(x:Xt al H d H)(y:∀m a,m≠n->lo m=some a->c m=some a){g:List V}{f:List Z}(r:j9 K al lo H g f)(h:f.any (ml n)=false):j9 K d c H g f:=by
 induction r with
 |nil=>exact .nil
 |cons a _ i=>rw[cJ,ig]at h;exact .cons (a.out x y h.1) (i h.2)
def kc.out{g:Type}{d:Addr->Prop}{c:Lo}{n:Nat}(x:Xt al H d H)(y:∀m a,m≠n->lo m=some a->c m=some a){i:List<|g×V}{f:List<|g×Z}(r:kc K al lo H i f)(h:(f.any λp=>ml n p.2)=false):kc K d c H i f:=by
 induction r with
 |nil=>exact .nil
 |cons a _ j=>rw[cJ,ig]at h;exact .cons (a.out x y h.1) (j h.2)
def lN.out{k:Addr->Prop}{i:Lo}{n:Nat}(x:Xt al H k H)(y:∀m a,m≠n->lo m=some a->i m=some a){a:Addr}{c:Cell}(r:lN K al lo H a c)(h:kC n c=false):lN K k i H a c:=by
 cases c with
 |li q=>obtain⟨l,f,d⟩:=r;exact⟨l,f,d.out x y h⟩
 |ob C fs=>obtain⟨p,g,f,d⟩:=r;exact⟨p,g,f,d.out x y h⟩
 |dk j=>obtain⟨g,f,d⟩:=r;exact⟨g,f,d.out x y h⟩
 |dt j=>obtain⟨g,f,d⟩:=r;exact⟨g,f,d.out x y h⟩
 |ft j=>obtain⟨g,o,f,d⟩:=r;exact⟨g,o,f,d.out x y h⟩
 |no=>exact r
 |mk=>exact r
def RZ.freeze(r:RZ K B al lo H σ ρ S)(h:uo B.n i ρ S=some (so,S')):∃s p,RZ K B s p H σ so S'/\Xt al H s H/\∀n,ρ[i]?=some (ba n)->∀m a,m≠n->lo m=some a->p m=some a:=by
 unfold uo at h;split at h
 ·rename_i n q;split at h
  ·rename_i zs M;split at h
   ·rename_i ds R;split at h
    ·rename_i w;cases h;obtain⟨v,e1,a,F,rfl⟩:=r.vr i _ q;have:=sJ R;subst this;obtain⟨vs,g1,g2⟩:=r.cell F M;have P:n<S.length:=(az.mp M).1;have x:Xt al H (λb=>al b\/b=a) H:=λb o _ g e=>⟨.inl g,e⟩;have hB:B.H a=none:=by
      rcases r.nw n a F with z|z;·exact absurd (r.bd n a z) (by omega)
      ·exact z.1
     refine⟨λb=>al b\/b=a,λm=>if m=n then none else lo m,?_,x,λn' e m b f g=>?_⟩;rotate_left;·rw[q]at e;cases e;dsimp only;rw[aw f];exact g
     have y:∀m b,m≠n->lo m=some b->(λm=>if m=n then none else lo m) m=some b:=λm b f h=>by dsimp only;rw[aw f];exact h
     have back:∀m b,(if m=n then none else lo m)=some b->m≠n/\lo m=some b:=λm b h=>by
      by_cases z:m=n;·rw[av z]at h;cases h
      ·rw[aw z]at h;exact⟨z,h⟩
     have cl:∀c∈S,kC n c=false:=λc G=>by have:=bV.mp w.2 c G;simpa using this
     refine {fr:=r.fr,hf:=r.hf,tt:=r.tt,fresh:=λb g=>.inl<|r.fresh b g,st:=⟨λm b f=>?_,λm c f G J=>?_,λm b f g=>?_,λm N b h1 h2=>?_,λm b u g hu=>.inl<|r.st.tl ?_ b u g hu⟩,lx:=λm b f=>?_,nw:=λm b f=>r.nw m b (back m b f).2,bd:=r.bd,sz:=by rw[aO];exact r.sz,xt:=r.xt.trans x,sb:=λb g=>?_,len:=by rw[aj];exact r.len,vr:=λj z O=>?_}
     ·obtain⟨I,z2⟩:=back m b f;obtain⟨c,D,l⟩:=r.st.at' m b z2;exact⟨c,by rw[ar (bP I)];exact D,l.out x y (cl c (bc D))⟩
     ·by_cases z:n=m
      ·subst z;rw[aA P]at f;cases f;exact absurd rfl G
      ·rw[ar z]at f;obtain⟨b,k⟩:=r.st.has m c f G J;exact⟨b,by show(if m=n then none else lo m)=some b;rw[aw<|bP z];exact k⟩
     ·obtain⟨I,z2⟩:=back m b f;rcases g with g|rfl;·exact r.st.na m b z2 g
      ·exact I (r.st.inj m n _ z2 F)
     ·exact r.st.inj m N b (back m b h1).2 (back N b h2).2
     ·by_cases z:n=0
      ·subst z;rw[aA P]at m;cases m
      ·rw[ar z]at m;exact m
     ·have:=r.bd m b f;show(if m=n then none else lo m)=some b;rw[aw<|by omega];exact r.lx m b f
     ·rcases g with g|rfl;·exact r.sb b g
      ·exact .inr hB
     ·rw[aE]at O;obtain⟨o,D,l⟩:=aB.mp O;cases o with
      |none=>cases l
      |some L=>
       obtain⟨u,T,A⟩:=r.vr j L D;refine⟨u,T,?_⟩;cases L with
       |d x0=>cases l;exact Rep.mv x A
       |tk U=>cases l;obtain⟨Q,j1,Y,V⟩:=A;obtain⟨i1,i2⟩:=x Q (.tup<|U.map kV) (λ_ h=>nomatch h) j1 Y;exact⟨Q,i1,i2,V⟩
       |loc m=>
        have l:(if m=n then some (Z.d<|.lst ds)else some (Z.loc m))=some z:=l;by_cases t:m=n
        ·rw[av t]at l;cases l;obtain⟨b,C,rfl⟩:=A;rw[t,F]at C;cases C;exact .lst (.inl ⟨.inr rfl,.inl g1⟩) (i9.mv x g2.toD)
        ·rw[aw t]at l;cases l;obtain⟨b,C,rfl⟩:=A;exact⟨b,by dsimp only;rw[aw t];exact C,rfl⟩
    ·cases h
   ·cases h
  ·cases h
 ·cases h;exact⟨al,lo,r,.refl,λ_ _ _ _ _ h=>h⟩
 ·cases h
variable{sts:List Stmt}{st:Stmt}{g:jC}
def r4(b i:Nat)(g:jC):jC:=λρ S=>match uo b i ρ S with
 |some (so,S')=>g so S'
 |none=>.bad
def z8(i)(h:ZS X E b st g):ZS X E b st (r4 b i g):=by
 obtain⟨t,p,r⟩:=h;refine⟨t,p,λB a al lo H σ ρ S D s h=>?_⟩;unfold r4 at h;split at h
 ·rename_i so S' q;rw[<-a]at q;obtain⟨f,d,c,x,_⟩:=s.freeze q;exact r B a _ _ _ _ _ _ _ c (kz.ext h x)
 ·exact h.elim
end P2
namespace L2
open PySem PySem.Spec PyProof.Rows
section
variable{a:Type}[DecidableEq a]
def lA(c:List<|a×V)(k:a):Option V:=(c.find? λd=>decide<|d.1=k).map (·.2)
def putK(c:List<|a×V)(k:a)(v:V):List (a×V):=
 if(c.any λd=>decide<|d.1=k)=true then c.map (λd=>if d.1=k then(d.1,v)else d)else c++[(k,v)]
def Es{p:a×V}{k}(e:p.1=k):lA (p::r) k=some p.2:=by simp[lA,cz,e]
def Er{p:a×V}{k}(e:¬p.1=k):lA (p::r) k=lA r k:=by simp[lA,cz,e]
theorem LH(k):∀c:List (a×V),(c.any λd=>decide<|d.1=k)=(lA c k).isSome
 |[]=>rfl
 |p::r=>by
  rw[cJ];by_cases e:p.1=k;·simp only[Es e,aN e,iH,Option.isSome_some]
  ·rw[Er e,aG e,gg];exact LH k r
def BN(c:List<|a×V)(k:a)(v:V):(putK c k v).length<=c.length+1:=by
 unfold putK;split;·rw[aj];omega
 ·rw[ao,aq,dE];omega
def mr.Bz{u}(r:mr o u):o.isSome=u.isSome:=by
 cases o with
 |none=>cases u with
  |none=>rfl
  |some _=>exact(show False from r).elim
 |some _=>cases u with
  |none=>exact(show False from r).elim
  |some _=>rfl
def mr.getD{u d}(r:mr o u)(c:RelV d d'):RelV (o.getD d) (u.getD d'):=by
 cases o with
 |none=>cases u with
  |none=>exact c
  |some _=>exact(show False from r).elim
 |some _=>cases u with
  |none=>exact(show False from r).elim
  |some _=>exact r
def KV.val{c:List<|a×V}{i:List<|a×Value}(r:KV c i)(k:a):mr (lA c k) (valueAt i k):=by
 unfold KV at r;induction r with
 |nil=>exact True.intro
 |@cons p q n d h t l=>
  obtain⟨j,m⟩:=h;by_cases e:p.1=k
  ·have f:q.1=k:=j.symm.trans e;have b:valueAt (q::d) k=some q.2:=by simp[valueAt,cz,f]
   rw[Es e,b];exact m
  ·have f:¬q.1=k:=λz=>e (j.trans z);have b:valueAt (q::d) k=valueAt d k:=by simp[valueAt,cz,f]
   rw[Er e,b];exact l
def KV.any{c:List<|a×V}{f:List<|a×Value}(r:KV c f)(k:a):(c.any λd=>decide<|d.1=k)=f.any λd=>decide (d.1=k):=by
 unfold KV at r;induction r with
 |nil=>rfl
 |cons h t i=>rw[cJ,cJ,i,h.1]
def KV.C6(r:KV kvs vs)(k:a){u}(f:RelV y u):
    KV (kvs.map λc=>if c.1=k then(c.1,y)else c) (vs.map λc=>if c.1=k then(c.1,u)else c):=by
 unfold KV at r⊢;induction r with
 |nil=>exact .nil
 |@cons p q m l h t i=>
  rw[aR,aR];refine .cons ?_ i;obtain⟨d,j⟩:=h;by_cases e:p.1=k;·rw[av e,av<|d.symm.trans e];exact⟨d,f⟩
  ·rw[aw e,aw<|λz=>e<|d.trans z];exact⟨d,j⟩
def KV.put{c:List<|a×V}{d:List<|a×Value}(r:KV c d)(k:a){y:V}{u:Value}(f:RelV y u):KV (putK c k y) (stored d k u):=by
 unfold putK stored;rw[r.any k];by_cases e:(d.any λh=>decide<|h.1=k)=true;·rw[av e,av e];exact r.C6 k f
 ·rw[aw e,aw e];exact Paired.snoc r ⟨rfl,f⟩
def KV.length(r:KV kvs vs):kvs.length=vs.length:=Paired.length r
end
def oo{w k u}(r:RelV (kV k) u):(j3 P w).is k u=true:=by
 cases k with
 |inl i=>obtain⟨t,e⟩:=(show∃t,u=Value.int i t from r);subst e;exact T3 P w i t
 |inr x=>obtain⟨t,e⟩:=(show∃t,u=Value.str x t from r);subst e;exact T4 P w x t
theorem BC{w}:∀{a:List Key} {c},Vals (a.map kV) c->ItemsAre (j3 P w) a c
 |[],_,r=>by rw[dS]at r;cases r;exact .nil
 |k::a,_,r=>by
  rw[aR]at r;cases r with
  |cons h t=>exact .cons (oo h) (BC t)
abbrev KT(H:Hp):List (List Key×V)->List (List Key×Addr×Value)->Prop:=Paired λp q=>p.1=q.1/\H q.2.1=some (.tup<|p.1.map kV)/\RelV p.2 q.2.2
def KT.val(r:KT H kvs xs)(k):mr (lA kvs k) ((atKey xs k).map (·.2)):=by
 induction r with
 |nil=>exact True.intro
 |@cons p q j a h t f=>
  obtain⟨d,_,i⟩:=h;by_cases e:p.1=k
  ·have c:q.1=k:=d.symm.trans e;have b:atKey (q::a) k=some q.2:=by simp[atKey,cz,c]
   rw[Es e,b];exact i
  ·have c:¬q.1=k:=λz=>e (d.trans z);have b:atKey (q::a) k=atKey a k:=by simp[atKey,cz,c]
   rw[Er e,b];exact f
def KT.C6(r:KT H kvs xs)(k:List Key){u}(f:RelV y u):
    KT H (kvs.map λc=>if c.1=k then(c.1,y)else c) (xs.map<|putAt k u):=by
 induction r with
 |nil=>exact .nil
 |@cons p q m l h t i=>
  rw[aR,aR];refine .cons ?_ i;obtain⟨a,d,j⟩:=h;unfold putAt;by_cases e:p.1=k;·rw[av e,av<|a.symm.trans e];exact⟨a,d,f⟩
  ·rw[aw e,aw<|λz=>e<|a.trans z];exact⟨a,d,j⟩
def KT.put(r:KT H kvs xs)(k:List Key){u}(d:H b=some (.tup<|k.map kV))(a:RelV y u):
    KT H (putK kvs k y) (storedH xs k b u):=by
 have e:(kvs.any λc=>decide<|c.1=k)=(atKey xs k).isSome:=by rw[LH,(r.val k).Bz,Option.isSome_map]
 unfold putK storedH;rw[e];by_cases q:(atKey xs k).isSome=true;·rw[av q,av q];exact r.C6 k a
 ·rw[aw q,aw q];exact Paired.snoc r ⟨rfl,d,a⟩
def KT.keeps{H':Hp}(r:KT H kvs xs)(c:∀b a,H b=some (.tup a)->H' b=some (.tup a)):KT H' kvs xs:=
 Paired.BX r λ_ _ z=>⟨z.1,c _ _ z.2.1,z.2.2⟩
section
variable{P:Program}{w:World}{H:Hp}{h:Heap}{a:Addr}
def KD{u}(ok:kA P w H h)(e:Rd H a u):kq P w H h a u:=e.ok ok
def uh(ok:kA P w H h)(e:Rd H a<|.dK kvs):kvs.length<=sizeLine/\(a==sysModules)=false/\∃c,KV kvs c/\h.DictOf (j3 P w) a c:=
 show kq P w H h a (.dK kvs)from KD ok e
def G2(ok:kA P w H h)(e:H a=some (.dK kvs)):kvs.length<=sizeLine/\(a==sysModules)=false/\∃c,KV kvs c/\h.DictOf (j3 P w) a c:=uh ok (.inl e)
def uv{c:List Key}(ok:kA P w H h)(e:H a=some (.tup (c.map kV))):(tupleKind (j3 P w)).is h c a:=by obtain⟨_,d,r,o,j,i,n,f⟩:=(show kq P w H h a (.tup<|c.map kV)from ok a _ e);exact⟨o,d.toArray,n,j,i,f,by simpa using BC r⟩
def sY(ok:kA P w H h)(e:Rd H a<|.dT kvs):kvs.length<=sizeLine/\(a==sysModules)=false/\
    ∃d,KT H kvs d/\h.DictOfH (tupleKind<|j3 P w) a d:=by
 obtain⟨z,y,d,r,o,v,A,u,s,n,k,j⟩:=(show kq P w H h a (.dT kvs)from KD ok e);refine⟨z,y,d,r,o,v,A,u,s,n,k,λx c=>?_,j⟩;have all:∀{l:List<|List Key×V} {m:List<|List Key×Addr×Value},KT H l m->∀x∈m,(tupleKind<|j3 P w).is h x.1 x.2.1:=by
  intro l m q;induction q with
  |nil=>intro x c;exact nomatch c
  |@cons p q D C f t i=>
   intro x c;rcases aD.mp c with e|c
   ·subst e;exact uv ok (by rw[<-f.1];exact f.2.1)
   ·exact i x c
 exact all r x c
def A3(ok:kA P w H h)(e:H a=some (.dT kvs)):kvs.length<=sizeLine/\(a==sysModules)=false/\
    ∃c,KT H kvs c/\h.DictOfH (tupleKind<|j3 P w) a c:=sY ok (.inl e)
end
def pq(H:Hp)(a:Addr)(y:V)(r:Option V):Prop:=
 (∃c k,Rd H a (.dK c)/\y=kV k/\r=lA c k)\/∃c k b,Rd H a (.dT c)/\y=.ref b/\H b=some (.tup<|k.map kV)/\r=lA c k
def wZ(H:Hp)(a:Addr)(y v:V)(H':Hp):Prop:=
 (∃c k,H a=some (.dK c)/\y=kV k/\c.length<sizeLine/\H'=upd H a (.dK<|putK c k v))\/
 ∃c k b,H a=some (.dT c)/\y=.ref b/\H b=some (.tup<|k.map kV)/\c.length<sizeLine/\H'=upd H a (.dT<|putK c k v)
def pq.k{H:Hp}{k}(e:H a=some (.dK kvs)):pq H a (kV k) (lA kvs k):=.inl ⟨kvs,k,.inl e,rfl,rfl⟩
def pq.t{H:Hp}{k:List Key}(e:H a=some (.dT kvs))(c:H b=some (.tup<|k.map kV)):pq H a (.ref b) (lA kvs k):=.inr ⟨kvs,k,b,.inl e,rfl,c,rfl⟩
def wZ.t{H:Hp}{k:List Key}(e:H a=some (.dT kvs))(d:H b=some (.tup<|k.map kV))(c:kvs.length<sizeLine):
    wZ H a (.ref b) v (upd H a<|.dT<|putK kvs k v):=.inr ⟨kvs,k,b,e,rfl,d,c,rfl⟩
section
variable{X:Cx}{f:List<|Addr×Obj}{i:St}{H:Hp}{s:Shared}{a:Addr}{y v:V}{u r:Value}{o:Option V}{A:Around}{E:jP}
def Inv.big(I:Inv X f i H s):sysModules<s.heap.objs.size:=by have h:mainGlobals<s.heap.objs.size:=(I.mod.glob.keeps I.bk).lt;exact eG (by decide) h
def Oy{Q:jP}(F:A.units+1<cLine)(I:Inv X f i H s)(g:pq H a y<|some v)(x:RelV y u)(h:∀j w,Inv X f i H w->RelV v j->Q j w):
    wpAny (model X.prog X.w) A (getItem (.ref a) u) Q E s:=by
 rcases g with⟨m,k,e,t,l⟩|⟨m,k,b,e,t,L,l⟩
 ·subst t;obtain⟨z,J,D,d,dd⟩:=uh I.hok e;obtain⟨j,n,c⟩:=mr.some_of (v:=v) (o:=valueAt D k) (by rw[l];exact d.val k);exact wpAny_getItem_of (oo x) dd.mapOf n (h j _ (I.tok _) c)
 ·subst t;cases(show u=Value.ref b from x);obtain⟨z,J,C,d,dd⟩:=sY I.hok e;obtain⟨j,n,c⟩:=mr.some_of (v:=v) (o:=(atKey C k).map (·.2)) (by rw[l];exact d.val k);obtain⟨p,G,q⟩:=aB.mp n;refine wpAny_getItem_heap (cW F) (uv I.hok L) dd G ?_;rw[q];exact h j _ (I.tok _) c
def Oz{Q:jP}(t:A.units+1<cLine)(I:Inv X f i H s)(g:pq H a y o)(p:RelV y u)(h:∀n,Inv X f i H n->Q (.bool o.isSome) n):
    wpAny (model X.prog X.w) A (compareOp .In u<|.ref a) Q E s:=by
 rcases g with⟨d,k,e,m,l⟩|⟨d,k,b,e,m,w,l⟩
 ·subst m;obtain⟨z,j,C,c,dd⟩:=uh I.hok e;refine wpAny_in_of (oo p) j dd.mapOf ?_;rw[<-(c.val k).Bz,<-l];exact h _ (I.tok _)
 ·subst m;cases(show u=Value.ref b from p);obtain⟨z,j,x,c,dd⟩:=sY I.hok e;refine wpAny_in_heap (cW t) (uv I.hok w) j dd ?_;have q:=(c.val k).Bz;rw[Option.isSome_map]at q;rw[<-q,<-l];exact h _ (I.tok _)
def AR{c:Nat}(I:Inv X f i H s)(d:vh<|H a)(h:Heap.SameBut a s.heap h')(j:∃q,h'.get? a=some q)(new:kq X.prog X.w (upd H a ob) h' a ob):
    Inv X f i (upd H a ob) {s with heap:=h',toks:=c}:=
 I.write (x:=a) (e:=a) d (.inl rfl) (λb q k z=>(h.2 b k).trans z) j new
def G1{w}{h:Heap}{c:List<|Key×V}(z:c.length<=sizeLine)(j:(a==sysModules)=false)(d:KV c vs)(dd:h.DictOf (j3 P w) a vs):
    kq P w H' h a (.dK c):=⟨z,j,vs,d,dd⟩
def OA{H':Hp}{Q:Unit->Shared->Prop}(R:A.units+1<cLine)(I:Inv X f i H s)(g:wZ H a y v H')(G:RelV y u)(J:RelV v r)(h:∀F,Inv X f i H' F->Q () F):
    wpAny (model X.prog X.w) A (setItem (.ref a) u r) Q E s:=by
 rcases g with⟨j,k,e,C,l,D⟩|⟨j,k,b,e,C,N,l,D⟩
 ·subst C D;obtain⟨z,x,P,d,dd⟩:=G2 I.hok e;have p:P.length<=sizeLine:=by rw[<-d.length];exact z
  have w:(putK j k v).length<=sizeLine:=by have:=BN j k v;omega
  refine wpAny_setItem_pairs (hsz:=p) (oo G) dd λL m t=>h _ ?_;have T:∃q,L.get? a=some q:=let⟨q,_,_,n,_⟩:=m;⟨q,n⟩;exact AR I (by rw[e];exact True.intro) t T (G1 w x (d.put k J) m)
 ·subst C D;cases(show u=Value.ref b from G);obtain⟨z,x,O,d,dd⟩:=A3 I.hok e;have p:O.length<=sizeLine:=by rw[<-Paired.length d];exact z
  have w:(putK j k v).length<=sizeLine:=by have:=BN j k v;omega
  refine wpAny_setItem_heap (hsz:=p) (cW R) (uv I.hok N) dd λL m t=>h _ ?_;obtain⟨q,es,ep,n,h2,Z,Y,_,U⟩:=m;refine AR I (by rw[e];exact True.intro) t ⟨q,n⟩ ⟨w,x,_,(d.put k N J).keeps λc ys M=>?_,q,es,ep,n,h2,Z,Y,U⟩;rw[jA<|Jr M e<|λz=>nomatch z];exact M
end
def tS(i:Expr):Prop:=∀a c,subscripted i false a c=operate [a,c] (getItem a c)
def Lm{a:Program}{w:World}{A:Around}{E:jP}{s:Shared}{n:Env}{d c:Expr}{pos:Pos}{T t:String}{Q:jP}
    (v:typeLookup (.type T) "__getitem__"=pure (some<|.builtin t))(u:tS c)
    (h:wpAny (model a w) A (eval d n) (λo l=>wpAny (model a w) A (eval c n) (λi f=>f.TypeIs o T/\wpAny (model a w) A (getItem o i) Q E f) E l) E s):
    wpAny (model a w) A (eval (.Subscript d c pos) n) Q E s:=by
 refine Subscript_ (bq h (λo l q=>bq q (λi f j=>?_) λ_ _ x=>x) λ_ _ x=>x);obtain⟨hT,j⟩:=j;unfold subscriptTail;refine ae ?_;rw[getitemInPython_of_ne hT.not_modules];refine ae (hI hT v ?_);have m:wpAny (model a w) A (subscripted c false o i) (λr k=>wpAny (model a w) A (letTemporaryGo d o r>>=λ_=>pure r) Q E k) E f:=by rw[u o i];exact wpAny_operating (bq j (λr k p=>ae<|wpAny_letTemporaryGo<|af p) λ_ _ x=>x)
 first
  |exact af (ae m)
  |exact ae (af<|ae m)
  |exact ae m
def OL{s}(I:Inv X pins σ H s)(g:pq H a y o):s.TypeIs (.ref a) "dict":=by
 rcases g with⟨c,k,e,_,_⟩|⟨c,k,b,e,_,_,_⟩
 ·obtain⟨_,_,f,_,dd⟩:=uh I.hok e;exact dd.typeIs
 ·obtain⟨_,_,d,_,dd⟩:=sY I.hok e;exact dd.typeIs
def abj(d ty:TE):TE:=λσ H Q=>d σ H λx f=>ty σ f λy c=>∃a v,x=.ref a/\pq c a y (some v)/\Q v c
def abl(ty d:TE):TE:=λσ H Q=>ty σ H λy f=>d σ f λx c=>∃a o,x=.ref a/\pq c a y o/\Q (.bl o.isSome) c
def aah(f ty d:TE):TS:=λD σ H=>d σ H λv j=>f σ j λx i=>ty σ i λy h=>∃a c,x=.ref a/\wZ h a y v c/\D.nx σ c
section
variable{X:Cx}{o i e b:Expr}{c f m:Pos}{j ty l:TE}
def VX(A:X.A.units+1<cLine)(D:PE X o j)(F:PE X i ty)(C:tS i):PE X (.Subscript o i c) (abj j ty):=by intro d s σ H Q I h;refine Lm PySem.F.slot_dict_getitem.lookup C (jh (D d s σ H _ I h) λu q k=>?_);obtain⟨x,M,J,t,z⟩:=k;refine jh (F d q σ M _ J z) λR P k=>?_;obtain⟨y,L,p,r,a,v,ex,g,w⟩:=k;subst ex;obtain rfl:u=Value.ref a:=t;exact⟨OL p g,Oy A p g r λN O G n=>⟨v,L,G,n,w⟩⟩
def VP(w:X.A.units+1<cLine)(A:PE X i ty)(z:PE X o j):PC X .In i o (abl ty j):=by intro d s σ H Q I h;refine jh (A d s σ H _ I h) λN n k=>?_;obtain⟨y,J,F,p,t⟩:=k;refine jh (z d n σ J _ F t) λu M k=>?_;obtain⟨x,G,D,q,a,v,ex,g,r⟩:=k;subst ex;obtain rfl:u=Value.ref a:=q;exact Oz w D g p λL C=>⟨.bl v.isSome,G,C,rfl,r⟩
def WN(F:X.A.units+1<cLine)(J:PE X o j)(L:PE X i ty)(hv:PE X b l)(G:swapsWith b (some<|.Subscript o i f) c.line X.env=pure false):
    PS X (.Assign [.Subscript o i f] b c) (aah j ty l):=by
 intro d s σ H D I h;refine wpAny_Assign_Subscript (jh (hv d s σ H _ I h) λr p k=>?_) G;obtain⟨v,T,P,w,C⟩:=k;refine jh (J d p σ T _ P C) λu n k=>?_;obtain⟨x,R,O,t,A⟩:=k;refine jh (L d n σ R _ O A) λY V k=>?_;obtain⟨y,Z,N,q,a,Q,ex,g,z⟩:=k;subst ex;obtain rfl:u=Value.ref a:=t;exact OA F N g q w λU M=>⟨σ,Q,M,z⟩
def OP{w}(h:Heap)(a:sysModules<h.objs.size):kq P w H (h.push {cls:=.type "dict",data:=.dict #[]}) h.objs.size (.dK []):=
 ⟨bM _,cQ.mpr<|bP<|aU a,[],.nil,Heap.DictOf.new h⟩
def OX{w}(h:Heap)(a:sysModules<h.objs.size):kq P w H (h.push {cls:=.type "dict",data:=.dict #[]}) h.objs.size (.dT []):=
 ⟨bM _,cQ.mpr<|bP<|aU a,[],.nil,_,#[],0,aH _ rfl,⟨rfl,rfl,rfl⟩,rfl,rfl,List.nodup_nil⟩
def abm:TE:=λ_ H Q=>∀p,H p=none->Q (.ref p) (upd H p<|.dK [])
def abn:TE:=λ_ H Q=>∀p,H p=none->Q (.ref p) (upd H p<|.dT [])
def VZ:PE X (.Dict [] [] c) abm:=λd s σ H Q I h=>wpAny_Dict_empty ⟨.ref s.heap.objs.size,_,I.laid (a:=s.heap.objs.size) (o:=.dK []) (t':=s.toks) (λ_ _ q=>ah _ q) (ag _)<|OP s.heap I.big,rfl,h _<|I.hok.fresh<|ag _⟩
def V0:PE X (.Dict [] [] c) abn:=λd s σ H Q I h=>wpAny_Dict_empty ⟨.ref s.heap.objs.size,_,I.laid (a:=s.heap.objs.size) (o:=.dT []) (t':=s.toks) (λ_ _ q=>ah _ q) (ag _)<|OX s.heap I.big,rfl,h _<|I.hok.fresh<|ag _⟩
end
structure M1(X:Cx)(o:Expr)(m:Str)(apos:Pos)(e:Expr)(cpos:Pos):Prop where
 base:attributeBase o m X.env (eval o X.env)=eval o X.env
 few:((backTo cpos (starEach [e] X.env)).all (λx=>!x.1)&&(backToKw cpos (keywordEach [] X.env)).all (λx=>x.1.isSome)
  &&decide (([e]:List Expr).length+([]:List Keyword).length+(if([]:List Keyword).isEmpty then 0 else 1)<30))=true
 line:(apos.endLine==cpos.line)=true
 trees:backTo cpos (starEach [e] X.env)=[(false,eval e X.env)]
structure M2(X:Cx)(o:Expr)(m:Str)(apos:Pos)(e f:Expr)(cpos:Pos):Prop where
 base:attributeBase o m X.env (eval o X.env)=eval o X.env
 few:((backTo cpos (starEach [e,f] X.env)).all (λx=>!x.1)&&(backToKw cpos (keywordEach [] X.env)).all (λx=>x.1.isSome)
  &&decide (([e,f]:List Expr).length+([]:List Keyword).length+(if([]:List Keyword).isEmpty then 0 else 1)<30))=true
 line:(apos.endLine==cpos.line)=true
 trees:backTo cpos (starEach [e,f] X.env)=[(false,eval e X.env),(false,eval f X.env)]
def Ai(H:Hp)(a:Addr):Prop:=(∃c,Rd H a<|.dK c)\/∃c,Rd H a (.dT c)
def By{s}(I:Inv X pins σ H s)(d:Ai H a):
    s.TypeIs (.ref a) "dict"/\(∀b,Value.ref a=.ref b->∃ob,s.heap.get? b=some ob/\ob.dict=none)/\(a==sysModules)=false:=by
 rcases d with⟨c,e⟩|⟨c,e⟩
 ·obtain⟨_,f,k,_,dd⟩:=uh I.hok e;refine⟨dd.typeIs,λb q=>?_,f⟩;cases q;obtain⟨ob,_,_,i,h,_⟩:=dd;exact⟨ob,i,h.2.1⟩
 ·obtain⟨_,f,j,_,dd⟩:=sY I.hok e;refine⟨dd.typeIs,λb q=>?_,f⟩;cases q;obtain⟨ob,_,_,i,h,_⟩:=dd;exact⟨ob,i,h.2.1⟩
variable{X:Cx}{B:List<|Addr×Obj}{F:St}{H:Hp}{s:Shared}{a:Addr}{y d:V}{u r:Value}{o:Option V}{A:Around}{E:jP}
def Ox{Q:jP}(t:A.units+1<cLine)(I:Inv X B F H s)(g:pq H a y o)(p:RelV y u)(h:∀m n,Inv X B F H n->RelV (o.getD .non) m->Q m n):
    wpAny (model X.prog X.w) A (call (.builtin "dict.get") [.ref a,u]) Q E s:=by
 rcases g with⟨f,k,e,j,l⟩|⟨f,k,b,e,j,v,l⟩
 ·subst j;obtain⟨z,i,w,c,dd⟩:=uh I.hok e;refine gP eX dd.typeIs gQ (gD _ _) (meets_dict_get (j3 X.prog X.w) a (oo p) i) ⟨_,dd.mapOf,h _ _ (I.tok _) ?_⟩;rw[l];exact(c.val k).getD rfl
 ·subst j;cases(show u=Value.ref b from p);obtain⟨z,i,q,c,dd⟩:=sY I.hok e;refine gP eX dd.typeIs gQ (gD _ _) (meetsH_dict_get (tupleKind<|j3 X.prog X.w) a b i) ⟨cW t,k,q,uv I.hok v,dd,h _ _ (I.tok _) ?_⟩;rw[l];exact(c.val k).getD rfl
def abk(h ty:TE):TE:=λF H Q=>h F H λx f=>∃a,x=.ref a/\Ai f a/\ty F f λy c=>∃o,pq c a y o/\Q (o.getD .non) c
variable{o e f:Expr}{J C:Pos}{K ty L:TE}
def VY(w:X.A.units+1<cLine)(z:PE X o K)(D:PE X e ty)(m:M1 X o "get" J e C):PE X (.Call (.Attribute o "get" J) [e] [] C) (abk K ty):=by intro B s F H Q I h;refine wpAny_Call_method m.base m.few m.line eC eX PySem.F.type_dict_get (jh (z B s F H _ I h) λu n c=>?_);obtain⟨x,O,j,q,a,ex,d,v⟩:=c;subst ex;obtain rfl:u=Value.ref a:=q;obtain⟨l,k,_⟩:=By j d;refine⟨l,k,?_⟩;rw[m.trees];refine du rfl (fy<|dr<|jh (D B n F O _ j v) λY T c=>?_);obtain⟨y,N,M,p,U,g,t⟩:=c;refine eE ?_;exact Ox w M g p λP R G i=>⟨_,N,G,i,t⟩
end L2
namespace P2
open PySem L2
section
variable{b:Type}[DecidableEq b]{K:W.Frag}{c:Addr->Prop}{lo:Lo}{H:Hp}
def valZ(a:List<|b×Z)(k:b):Option Z:=(a.find? λd=>decide<|d.1=k).map (·.2)
def ki(a:List<|b×Z)(k:b)(v:Z):List (b×Z):=
 if(a.any λd=>decide<|d.1=k)=true then a.map λd=>if d.1=k then(d.1,v)else d else a++[(k,v)]
def kc.val{f:List<|b×V}{d:List<|b×Z}(r:kc K c lo H f d){k:b}{z:Z}(h:valZ d k=some z):∃v,lA f k=some v/\kh K c lo H v z:=by
 induction r with
 |nil=>cases h
 |@cons i v l m d a _ j=>
  unfold valZ at h;unfold lA;rw[cz]at h⊢;by_cases e:i=k
  ·simp only[e,fD]at h⊢;cases h;exact⟨v,rfl,a⟩
  ·simp only[e,eI]at h⊢;exact j h
def kc.none{f:List<|b×V}{d:List<|b×Z}(r:kc K c lo H f d){k:b}(h:valZ d k=Option.none):lA f k=Option.none:=by
 induction r with
 |nil=>rfl
 |@cons i v l m d a _ j=>
  unfold valZ at h;unfold lA;rw[cz]at h⊢;by_cases e:i=k
  ·simp only[e,fD]at h;cases h
  ·simp only[e,eI]at h⊢;exact j h
def kc.length(r:kc K c lo H us zs):us.length=zs.length:=by
 induction r with
 |nil=>rfl
 |cons _ _ a=>rw[aq,aq,a]
def kc.any{f:List<|b×V}{d:List<|b×Z}(r:kc K c lo H f d)(k:b):(f.any λa=>decide<|a.1=k)=d.any λa=>decide (a.1=k):=by
 induction r with
 |nil=>rfl
 |cons _ _ h=>rw[cJ,cJ,h]
def kc.put{i:List<|b×V}{f:List<|b×Z}(r:kc K c lo H i f)(k:b){v:V}{z:Z}(q:kh K c lo H v z):kc K c lo H (putK i k v) (ki f k z):=by
 unfold putK ki;rw[r.any k];split
 ·rename_i h;clear h;induction r with
  |nil=>exact .nil
  |@cons j n l m f a _ d=>
   rw[aR,aR];by_cases e:j=k
   ·simp only[e,c8];exact .cons q d
   ·simp only[e,bI];exact .cons a d
 ·rename_i h;clear h;induction r with
  |nil=>exact .cons q .nil
  |cons a _ d=>exact .cons a d
end
def nu:D->Option Key
 |.int i=>some (.inl i)
 |.str x=>some (.inr x)
 |_=>none
def BH{d k}(r:Rep K al H v d)(h:nu d=some k):v=kV k:=by
 cases r with
 |int i=>cases h;rfl
 |str i=>cases h;rfl
 |_=>cases h
def wO(fo:jm)(f:jq):jm:=λρ S=>(fo ρ S).bind λz h=>(lG (f<|lF ρ) h).bind λd c=>match z,nu d with
 |.loc n,some k=>(match c[n]? with
  |some (.dk a)=>(match valZ a k with
   |some z=>.ok z c
   |none=>.bad)
  |_=>.bad)
 |_,_=>.bad
section
variable{X:Cx}{E:XK}{b:Nat}{o k e:Expr}{fo f:jm}{p:jq}{j:Pos}
def Ju:NT (.dK l):=λ_ h=>nomatch h
def B9:NT (.dT l):=λ_ h=>nomatch h
def acH(hu:X.A.units+64<cLine)(L:ZE X E o fo)(N:DE X E k p)(J:tS k):ZE X E (.Subscript o k j) (wO fo p):=by
 obtain⟨to,G,C⟩:=L;obtain⟨tk,pk,D⟩:=N;refine⟨_,VX (by omega) G pk J,λB al lo H σ ρ S Q s h=>C _ _ _ _ _ _ _ _ s<|iZ.mono (iZ.split h) λz r l H1 S1 i x1 y1 O v y=>D _ _ _ _ _ _ _ i.rs<|Aft.mono (iZ.toAft i<|iZ.split O) λd Y x c u A=>?_⟩;have t:=i.grow x;split at c
 ·rename_i n k0 m;split at c
  ·rename_i I q;split at c
   ·rename_i Z F;obtain⟨a,M,rfl⟩:=y;have T:=BH A m;subst T;obtain⟨us,R,P⟩:=t.cell M q;obtain⟨w,V,U⟩:=P.val F;refine⟨a,w,rfl,?_,c r l Y t .refl .refl w U⟩;rw[<-V];exact .k R
   ·exact c.elim
  ·exact c.elim
 ·exact c.elim
variable{P:Program}{w:World}{K:W.Frag}{mg:kd}{base:Heap}{f:Addr}{i:FuncData}{x:Str}{c:List Str}
def PH{k}:jL P w K mg base k f i c (j4 c.length K λ_=>.bad):=
 ⟨λl H Q E h=>h.1,λA a s H d m l Q E _ _ _ _ h=>by obtain⟨_,_,_,_,_,_,h⟩:=h;exact h.elim⟩
def PJ{k}:jL P w K mg base k f i c (jI c.length K λ_ _=>.bad):=
 ⟨λl H Q E h=>h.1,λA a s H d m l Q E _ _ _ _ h=>by obtain⟨_,_,_,_,_,_,_,_,_,h⟩:=h;exact h.elim⟩
noncomputable def rC(a:(je)->je):Nat->je
 |0=>λ_=>.bad
 |m+1=>a (rC a m)
noncomputable def nM(a:(ji)->ji):Nat->ji
 |0=>λ_ _=>.bad
 |m+1=>a (nM a m)
theorem KG{n}{F0:(je)->je}(hn:n=c.length)
 (a:∀{k} {d},jL P w K mg base k f i c d->jD P w K mg base k x c d)
 (step:∀h k,k0<=k->jD P w K mg base k x c (j4 n K h)->jL P w K mg base (k+st) f i c (j4 n K<|F0 h)):∀m:Nat,jL P w K mg base (k0+m*st) f i c (j4 n K<|rC F0 m)
  |0=>by subst hn;exact PH
  |m+1=>by have:=step (rC F0 m) (k0+m*st) (cG _ _) (a<|KG hn a step m);rw[Nat.succ_mul,<-Nat.add_assoc];exact this
theorem C4{n}{F0:(ji)->ji}(hn:n=c.length)
 (a:∀{k} {d},jL P w K mg base k f i c d->jD P w K mg base k x c d)
 (step:∀h k,k0<=k->jD P w K mg base k x c (jI n K h)->jL P w K mg base (k+st) f i c (jI n K<|F0 h)):∀m:Nat,jL P w K mg base (k0+m*st) f i c (jI n K<|nM F0 m)
  |0=>by subst hn;exact PJ
  |m+1=>by have:=step (nM F0 m) (k0+m*st) (cG _ _) (a<|C4 hn a step m);rw[Nat.succ_mul,<-Nat.add_assoc];exact this
end
def tE(f:Str)(v:Z):List (Str×Z)->List (Str×Z)
 |[]=>[(f,v)]
 |(g,x)::r=>if g=f then(g,v)::r else(g,x)::tE f v r
section
variable{K:W.Frag}{a:Addr->Prop}{lo:Lo}{H:Hp}
def kc.look{d:List<|Str×V}{c:List<|Str×Z}(r:kc K a lo H d c){f:Str}{z:Z}(h:c.lookup f=some z):∃v,d.lookup f=some v/\kh K a lo H v z:=by
 induction r with
 |nil=>cases h
 |@cons k v l m i q _ j=>
  rw[gE]at h⊢;cases e:f==k with
  |true=>rw[e]at h;cases h;exact⟨v,rfl,q⟩
  |false=>rw[e]at h;exact j h
def kc.Uo{d:List<|Str×V}{c:List<|Str×Z}(r:kc K a lo H d c){f:Str}(h:c.lookup f=Option.none):d.lookup f=Option.none:=by
 induction r with
 |nil=>rfl
 |@cons k v l m i q _ j=>
  rw[gE]at h⊢;cases e:f==k with
  |true=>rw[e]at h;cases h
  |false=>rw[e]at h;exact j h
def kc.lU(r:kc K a lo H us zs)(f)(q:kh K a lo H v z):kc K a lo H (L2.lU f v us) (tE f z zs):=by
 induction r with
 |nil=>exact .cons q .nil
 |@cons k m j l c h d i=>
  unfold L2.lU tE;by_cases e:k=f;·rw[av e,av e];exact .cons q d
  ·rw[aw e,aw e];exact .cons h i
def Jw:NT (.ins C dx us):=λ_ h=>nomatch h
end
def pZ(C:Addr)(fo:jm)(f:Str):jm:=λρ S=>(fo ρ S).bind λz a=>match z with
 |.loc n=>(match a[n]? with
  |some (.ob c fs)=>if c=C then(match fs.lookup f with
   |some z=>.ok z a
   |none=>.bad)else .bad
  |_=>.bad)
 |_=>.bad
def wK(C:Addr)(fo:jm)(f:Str)(d:jm):jC:=λρ S=>toZ (d ρ S) λv h=>toZ (fo ρ h) λz a=>match z with
 |.loc n=>(match a[n]? with
  |some (.ob c fs)=>if c=C/\fs.length<1000 then .nx ρ (a.set n<|.ob c<|tE f v fs)else .bad
  |_=>.bad)
 |_=>.bad
def wW(C:Addr)(m:Str)(F:ji)(f:List D)(fo:jm)(fs:jj->i3->RX (List Z)):jm:=λρ S=>(fo ρ S).bind λz a=>match z with
 |.loc n=>(match a[n]? with
  |some (.ob i d)=>if i=C/\d.lookup m=none then(fs ρ a).bind λc h=>F (.loc n::(c++f.map .d)) h else .bad
  |_=>.bad)
 |_=>.bad
def wV(C:Addr)(F:ji)(fs:jj->i3->RX (List Z)):jm:=λρ S=>(fs ρ S).bind λf d=>match F (.loc d.length::f) (d++[.ob C []])with
 |.ok (.d .non) a=>.ok (.loc d.length) a
 |.ex c ns ds a=>.ex c ns ds a
 |_=>.bad
def pA(P:Program)(w:World)(K:W.Frag)(l:kd)(c:Heap)(k:Nat)(C:Addr)(m:Str)(d:List Str)(n:List D)(j:Sp):Prop:=
 ∃f h i a,jL P w K l c k f h d j/\Binds K h d i/\Vals a i/\(∀al H,i9 K al H a n)/\Meth K C m f
def pA.up{w k}(G:pA P w K mg base j C m ps dz sp)(h:j<=k):pA P w K mg base k C m ps dz sp:=
 let⟨f,c,d,a,fo,r⟩:=G;⟨f,c,d,a,fo.mono h,r⟩
def qg(P:Program)(w:World)(K:W.Frag)(i:kd)(a:Heap)(k:Nat)(C:Addr)(c:List Str)(h:Sp):Prop:=
 ∃f d,jL P w K i a k f d c h/\Binds K d c []/\Mk K C f
def qg.up{w k}(G:qg P w K mg base j C ps sp)(h:j<=k):qg P w K mg base k C ps sp:=
 let⟨f,a,fo,r⟩:=G;⟨f,a,fo.mono h,r⟩
section
variable{X:Cx}{E:XK}{b:Nat}{o e l:Expr}{A:List Expr}{i p I J M:Pos}{fo O:jm}{fs:jj->i3->RX (List Z)}{f m x:Str}{C:Addr}{k n:Nat}{N:List Str}{L:List D}{F:ji}
def z7(c:nX X.K C)(T:qj X.K C f)(U:ZE X E o fo)(hb:attributeBase o f X.env (eval o X.env)=eval o X.env):ZE X E (.Attribute o f i) (pZ C fo f):=by
 obtain⟨to,R,G⟩:=U;refine⟨_,V2 R hb,λB al lo H σ ρ S Q s h=>G _ _ _ _ _ _ _ _ s<|iZ.mono (iZ.split h) λz r j H1 S1 t x1 y1 d v y=>?_⟩;split at d
 ·rename_i n;split at d
  ·rename_i C' us q;split at d
   ·rename_i Y;subst Y;split at d
    ·rename_i z0 P;obtain⟨a,V,rfl⟩:=y;obtain⟨dx,u,g1,g2⟩:=t.cell V q;obtain⟨w,e1,e2⟩:=g2.look P;exact⟨a,_,dx,u,w,rfl,g1,c,T,e1,d r j H1 t .refl .refl w e2⟩
    ·exact d.elim
   ·exact d.elim
  ·exact d.elim
 ·exact d.elim
def Mg(c:nX X.K C)(na:qj X.K C f)(ho:ZE X E o fo)(hv:ZE X E l O)(hs:swapsWith l (some<|.Attribute o f J) i.line X.env=pure false):ZS X E b (.Assign [.Attribute o f J] l i) (wK C fo f O):=by
 obtain⟨to,po,ro⟩:=ho;obtain⟨tv,pv,rv⟩:=hv;refine⟨_,WO po pv hs,λB R al lo H σ ρ S D s h=>rv _ _ _ _ _ _ _ _ s<|iZ.mono (kz.nA h) λy Ni SG H0 S0 s0 x0 y0 h0 t r0=>ro _ _ _ _ _ _ _ _ s0<|iZ.mono (kz.nA h0) λz j G U S1 u x1 y1 d v1 r1=>?_⟩;split at d
 ·rename_i n;split at d
  ·rename_i V us q;split at d
   ·rename_i Q;obtain⟨Q,hl⟩:=Q;subst Q;obtain⟨a,P,rfl⟩:=r1;obtain⟨T,r,g1,Y⟩:=u.cell P q;have v:kh X.K j G U t y:=r0.mv x1 y1;have x2:Xt j U j (upd U a (.ins V T (L2.lU f t r))):=λb o _ R eb=>⟨R,by rw[jA λz=>u.st.na n a P (by rw[<-z];exact R)];exact eb⟩;obtain⟨s4,x4⟩:=u.write P (o:=.ins V T (L2.lU f t r)) (c:=.ob V (tE f y us)) Jw (λq w=>by unfold lP at w;cases w) ⟨_,_,kv,kc.mv x2 .refl (Y.lU f v)⟩ nofun;exact⟨a,_,T,r,rfl,g1,c,na,by rw[Y.length];exact hl,d _ _ _ _ x4 s4⟩
   ·exact d.elim
  ·exact d.elim
 ·exact d.elim
def Z8{lo}(r:j9 K al lo H vs zs)(q:i9 K al H ws ds):j9 K al lo H (vs++ws) (zs++ds.map .d):=r.append (.ofD q)
def TY{lo}{Q:VK}(s:RZ X.K B al lo H σ ρ S)(G:j9 X.K al lo H vs zs)(P:vs.length=n)
 (h:iZ X.K B E al lo H σ ρ (F zs S) (λz u t H' _=>∀v,kh X.K u t H' v z->Q v H')):jI n X.K F vs H Q E:=by
  refine⟨P,s.tt,al,lo,zs,S,s.fresh,s.st,G,?_⟩;cases r:F zs S with
  |bad=>rw[r]at h;exact h.elim
  |ex c U V T=>rw[r]at h;exact λd a w R j y=>h d a w R (s.toEZ.trans j) y
  |ok z T=>rw[r]at h;exact λd a w v j q=>h d a w (s.after j) j.xt j.lx v q
def Mb{pl:Sem Bool}(G:pA X.prog X.w X.K X.mg X.base k C m N L<|jI n X.K F)(c:nX X.K C)(hr:kL k X.A)(hx:Passes (kB X.prog X.w) X E)(ho:ZE X E o fo)(ha:ZA X E (e::A) fs)(hn:(e::A).length+1+L.length=n)
    (y:X.se e A:=by rfl)(P:X.bk i A:=by rfl)
    (ht:eval (.Call (.Attribute o m I) (e::A) [] i) X.env=(do
      let ov<-eval o X.env
      standAt I.atName
      let(f,first)<-holding [ov] (getMethod ov m pl)
      callWith i f first (backTo i (starEach (e::A) X.env)) (backToKw i (keywordEach [] X.env))):=by rfl):
    ZE X E (.Call (.Attribute o m I) (e::A) [] i) (wW C m F L fo fs):=by
 obtain⟨to,po,ro⟩:=ho;obtain⟨ta,pa,ra,lb⟩:=ha;obtain⟨f,fd,ds,dvs,T,bi,va,Y,me⟩:=G;refine⟨_,V7 po c me T hr bi va hx pa y P ht,λB al lo H σ ρ S Q s h=>ro _ _ _ _ _ _ _ _ s<|iZ.mono (iZ.split h) λz mV lo1 H1 S1 V x1 y1 d v rv=>?_⟩;split at d
 ·rename_i j;split at d
  ·rename_i C' us q;split at d
   ·rename_i R;obtain⟨R,hl⟩:=R;subst R;obtain⟨a,t,rfl⟩:=rv;obtain⟨dx,vs,g1,g2⟩:=V.cell t q;refine⟨a,dx,vs,rfl,g1,g2.Uo hl,ra _ _ _ _ _ _ _ _ V ?_⟩;cases w:fs ρ S1 with
    |bad=>rw[w]at d;exact d.elim
    |ex c ns ds S2=>rw[w]at d;exact d
    |ok zs S2=>rw[w]at d;have ll:=lb _ _ _ _ w;intro u uz H2 s2 x2 U ws r;refine TY s2 (zs:=.loc j::(zs++L.map .d)) (.cons ⟨a,U _ _ t,rfl⟩<|Z8 r<|Y u H2) ?_ (iZ.up d x2 U);have:=(Y u H2).length;rw[aq,ao,r.length,this,ll,<-hn];omega
   ·exact d.elim
  ·exact d.elim
 ·exact d.elim
def TL{lo}{Q:VK}(s:RZ X.K B al lo H σ ρ S)(rv:j9 X.K al lo H vs zs)(hl:vs.length+1=n)
 (h:iZ X.K B E al lo H σ ρ (match F (.loc S.length::zs) (S++[.ob C []])with
 |.ok (.d .non) w=>RX.ok (Z.loc S.length) w
 |.ex c ns ds w=>.ex c ns ds w
 |_=>.bad) (λz T R H' _=>∀v,kh X.K T R H' v z->Q v H'))(hy:H y=none)(hd:H dx=none)(ne:dx≠y):jI n X.K F (.ref y::(vs++[])) (upd (upd H dx (.own y)) y (.ins C dx [])) (λv H2=>v=.non/\Q (.ref y) H2) E:=by
  have s1:=s.grow (lV (K:=X.K) (o:=.own y) hd);have u:(upd H dx<|.own y) y=none:=by rw[jA<|bP ne];exact hy
  have hc:lN X.K (λb=>al b/\b≠y) (kS lo S.length y) (upd (upd H dx<|.own y) y<|.ins C dx []) y (.ob C []):=⟨dx,[],kv,.nil⟩;have t:=s1.new u Jw hc nofun;have Y:Xt al H (λb=>al b/\b≠y) (upd (upd H dx<|.own y) y<|.ins C dx []):=(Xt.of<|lV (K:=X.K) (o:=.own y) hd).trans (qz u);have V:=oR s1.st y;have hn:kS lo S.length y S.length=some y:=by unfold kS;rw[av rfl]
  refine⟨by rw[bf,aq];exact hl,t.tt,_,_,.loc S.length::zs,S++[.ob C []],t.fresh,t.st,.cons ⟨y,hn,rfl⟩<|by rw[bf];exact rv.mv Y V,?_⟩;cases P:F (.loc S.length::zs) (S++[.ob C []])with
  |bad=>rw[P]at h;exact h.elim
  |ex c ns ds w=>rw[P]at h;exact λq a U dx r xr=>h q a U dx (t.toEZ.trans r) xr
  |ok z w=>
   rw[P]at h;cases z with
   |loc j=>exact h.elim
   |tk ks=>exact h.elim
   |d d=>
    cases d with
    |non=>
     intro q a U v r G;have ev:v=.non:=by cases G;rfl
     exact⟨ev,h q a U (t.after r) (Y.trans r.xt) (V.trans r.lx) _ ⟨y,r.lx _ _ hn,rfl⟩⟩
    |_=>exact h.elim
def acM(G:qg X.prog X.w X.K X.mg X.base k C N<|jI n X.K F)(V:kL (k+1) X.A)(hg:Gl X x)(hm:X.mg x=some (.ref C))(U:Passes (kB X.prog X.w) X E)(ha:ZA X E (e::A) fs)(Y:(e::A).length+1=n)
 (a:X.cl x e A i):
   ZE X E (.Call (.Name x p) (e::A) [] i) (wV C F fs):=by
  obtain⟨ta,w,v,R⟩:=ha;obtain⟨f,fd,d,bi,mk⟩:=G;refine⟨_,V6 mk d V hg hm bi .nil U w a,λB al lo H σ ρ S Q s h=>v _ _ _ _ _ _ _ _ s ?_⟩;unfold wV at h;cases q:fs ρ S with
  |bad=>rw[q]at h;exact h.elim
  |ex c ns ds S1=>rw[q]at h;exact h
  |ok zs S1=>rw[q]at h;intro mV z H1 u t r vs j y dx T hd ne;have P:=R _ _ _ _ q;exact TL u j (by rw[j.length,P];exact Y) (iZ.up h t r) T hd ne
end
structure oI(K:W.Frag)(x qual:Str)(st:Stmt)(dV:Value)(f:Addr)(fd:FuncData):Prop where
 ex:∃(oc:Value) (od:Option Addr) (kV doc pm:Value) (an:Option Addr) (cdv ct:Value) (osl:Array<|Option Value),
  fd=W.fnOf x qual (kE st) (ko st) (jo st) dV kV doc pm an cdv ct/\K.lookup f=some ⟨oc,od,.func fd,osl⟩/\W.codeIn K cdv qual=true
 kp:W.keepIn K (.ref f)=true
section
variable{P:Program}{w:World}{K:W.Frag}{e:kd}{a:Heap}
def PN{x d:Str}{st:Stmt}{f:Addr}{p:Value}{o n:Option Addr}{j:Array<|Option Value}{dV kV i m h ct:Value}(l:K.lookup f=some ⟨p,o,.func<|W.fnOf x d (kE st) (ko st) (jo st) dV kV i m n h ct,j⟩)
    (c:W.codeIn K h d=true)(k:W.keepIn K (.ref f)=true):oI K x d st dV f (W.fnOf x d (kE st) (ko st) (jo st) dV kV i m n h ct):=⟨⟨p,o,kV,i,m,n,h,ct,j,rfl,l,c⟩,k⟩
def Bd{x i:Str}{st:Stmt}{dV:Value}{f:Addr}{G:FuncData}{N u:List Str}{k:Nat}{g:Nat->jC}(F:oI K x i st dV f G)(S:j8 N u<|jo st)
    (l:∀(b:Nat) (j:Value) (A:Around) (d:List Env) (s:Shared) (H:Hp) (E:XK),kL k (lr (kB P w) P w K e a N i (jo st) f j A d s H E).A->qK (lr (kB P w) P w K e a N i (jo st) f j A d s H E) E b (ko st) (g b)):
    jL P w K e a (k+1) f G u (jI u.length K λn S=>i6<|g S.length (jr N.length n) S):=by
 obtain⟨Z,Y,kV,U,V,an,j,ct,O,rfl,R,y⟩:=F.ex;refine Hv R y S (λD H Q E h=>h.1) λA d s H D Q E T h=>?_;obtain⟨hl,J,al,lo,n,m,fr,st,M,h⟩:=h;obtain⟨t,p,r⟩:=l m.length j A d s H E T;dsimp only at h;refine⟨t,p,r ⟨H,al,lo,m.length⟩ rfl al lo H (L2.start N D) (jr N.length n) m _ (KR J fr st M) ?_⟩;cases q:g m.length (jr N.length n) m with
 |nx ρ o=>rw[q]at h;exact λC v H' I _ L=>h C v H' .non L.toEZ .non
 |rt z o=>rw[q]at h;exact h
 |ex c ns es o=>rw[q]at h;exact h
 |bk ρ o=>rw[q]at h;exact h.elim
 |ct ρ o=>rw[q]at h;exact h.elim
 |bad=>rw[q]at h;exact h.elim
def oI.binds{x c:Str}{st:Stmt}{dV:Value}{f:Addr}{n:FuncData}{k:List Str}(F:oI K x c st dV f n)
    (h:∀(kV d l:Value) (m:Option Addr) (i ct:Value) (j:List Value),j.length=k.length->bindArgs (W.fnOf x c (kE st) (ko st) (jo st) dV kV d l m i ct) ⟨j,[]⟩=pure (k.zip j)):Binds K n k []:=by
 obtain⟨r,q,kV,d,l,m,i,ct,o,rfl,s,p⟩:=F.ex;exact .all (h kV d l m i ct)
end
def ly:List D->Option (List Key)
 |[]=>some []
 |d::r=>(nu d).bind λk=>(ly r).map (k:: ·)
theorem uw:∀{c} {d} {a},i9 K al H c d->ly d=some a->c=a.map kV
 |_,_,_,.nil,h=>by cases h;rfl
 |_,_,_,.cons r q,h=>by obtain⟨k,j,i⟩:=aL.mp h;obtain⟨a,f,rfl⟩:=aB.mp i;rw[BH r j,uw q f];rfl
def u3(fs:jj->i3->RX (List Z)):jm:=λρ S=>(fs ρ S).bind λc d=>match(lI c).bind ly with
 |some a=>if a.length<=sizeLine then .ok (.tk a) d else .bad
 |none=>.bad
def LX(d fo:jm):jj->i3->RX Bool:=λρ S=>(d ρ S).bind λy f=>(fo ρ f).bind λz c=>match z,y with
 |.loc n,.tk k=>(match c[n]? with
  |some (.dt a)=>.ok (valZ a k).isSome c
  |_=>.bad)
 |_,_=>.bad
def uY(fo d f:jm):jC:=λρ S=>toZ (f ρ S) λv i=>toZ (fo ρ i) λz h=>toZ (d ρ h) λy c=>match z,y with
 |.loc n,.tk k=>(match c[n]? with
  |some (.dt a)=>if a.length<sizeLine then .nx ρ (c.set n<|.dt<|ki a k v)else .bad
  |_=>.bad)
 |_,_=>.bad
def zP:jm:=λ_ S=>.ok (.loc S.length) (S++[.dt []])
section
variable{X:Cx}{E:XK}{b:Nat}{o k e:Expr}{l:List Expr}{fo j f:jm}{fs:jj->i3->RX (List Z)}{i:Pos}
def Ma{q}(C:ZA X E l fs):ZE X E (.Tuple l q i) (u3 fs):=by
 obtain⟨L,z,y,_⟩:=C;refine⟨_,CW z,λB al lo H σ ρ S Q s h=>y _ _ _ _ _ _ _ _ s<|iZ.mono (iZ.split h) λx n d O N r q J a v w=>?_⟩;split at a
 ·rename_i t F;obtain⟨M,I,G⟩:=aL.mp F;have:=sJ I;subst this;have c:=w.toD;have D:=uw c G;subst D;split at a
  ·rename_i A;refine⟨by rw[aj];exact A,λp m=>?_⟩;have u:=r.grow (lV (K:=X.K) (o:=.tup<|t.map kV) m);exact a n d _ u (Xt.of<|lV (K:=X.K) (o:=.tup<|t.map kV) m) .refl (.ref p) ⟨p,r.fresh p m,kv,rfl⟩
  ·exact a.elim
 ·exact a.elim
def L9:ZE X E (.Dict [] [] i) zP:=by
 refine⟨_,V0,λB al lo H σ ρ S Q s h=>λp a=>?_⟩;have m:lN X.K (λb=>al b/\b≠p) (kS lo S.length p) (upd H p<|.dT []) p (.dt []):=⟨[],kv,.nil⟩;have c:=s.new a B9 m nofun;have d:kS lo S.length p S.length=some p:=by unfold kS;rw[av rfl]
 exact h _ _ _ c (qz a) (oR s.st p) _ ⟨p,d,rfl⟩
def Mf(hu:X.A.units+64<cLine)(ho:ZE X E o fo)(hk:ZE X E k j)(hv:ZE X E e f)(hs:swapsWith e (some<|.Subscript o k pos') i.line X.env=pure false):
    ZS X E b (.Assign [.Subscript o k pos'] e i) (uY fo j f):=by
 obtain⟨to,po,ro⟩:=ho;obtain⟨tk,pk,rk⟩:=hk;obtain⟨tv,pv,Y⟩:=hv;refine⟨_,WN (by omega) po pk pv hs,λB F al lo H σ ρ S D s h=>Y _ _ _ _ _ _ _ _ s<|iZ.mono (kz.nA h) λy Ni SG H0 S0 V x0 y0 h0 t r0=>ro _ _ _ _ _ _ _ _ V<|iZ.mono (kz.nA h0) λz mV lo1 H1 S1 U R N h1 v1 r1=>rk _ _ _ _ _ _ _ _ U<|iZ.mono (kz.nA h1) λM p A G S2 v Q I m u ru=>?_⟩;split at m
 ·rename_i n r;split at m
  ·rename_i C q;split at m
   ·rename_i hl;obtain⟨a,hn,rfl⟩:=r1;obtain⟨c,ha,hc,rfl⟩:=ru;have d:=I _ _ hn;obtain⟨J,g1,L⟩:=v.cell d q;have x:kh X.K p A G t y:=(r0.mv R N).mv Q I;have P:Xt p G p (upd G a (.dT (putK J r t))):=λb o _ F eb=>⟨F,by rw[jA λz=>v.st.na n a d (by rw[<-z];exact F)];exact eb⟩;obtain⟨T,O⟩:=v.write d (o:=.dT (putK J r t)) (c:=.dt (ki C r y)) B9 (λq w=>by unfold lP at w;cases w) ⟨_,kv,kc.mv P .refl (L.put r x)⟩ nofun;exact⟨a,_,rfl,.t g1 hc (by rw[L.length];exact hl),m _ _ _ _ O T⟩
   ·exact m.elim
  ·exact m.elim
 ·exact m.elim
def kc.isSome{K:W.Frag}{al:Addr->Prop}{lo:Lo}{H:Hp}{c:List<|List Key×V}{a:List<|List Key×Z}(r:kc K al lo H c a)(k:List Key):(lA c k).isSome=(valZ a k).isSome:=by
 cases e:valZ a k with
 |none=>rw[r.none e];rfl
 |some z=>obtain⟨v,d,_⟩:=r.val e;rw[d];rfl
end
def LM(K:W.Frag)(f:jm):TE:=λσ H Q=>∃B al lo ρ S,RZ K B al lo H σ ρ S/\iZ K B (λ_ _ _=>False) al lo H σ ρ (f ρ S) (λz c a H' _=>∀v,kh K c a H' v z->Q v H')
def LN(K:W.Frag)(f:jj->i3->RX Bool):TT:=λσ H Q=>∃B al lo ρ S,RZ K B al lo H σ ρ S/\iZ K B (λ_ _ _=>False) al lo H σ ρ (f ρ S) (λb _ _ H' _=>Q b H')
def ZE.w(h:ZE X (λ_ _ _=>False) e f):PE X e (LM X.K f):=by obtain⟨t,p,r⟩:=h;intro c s σ H Q I i;obtain⟨B,al,lo,ρ,S,d,a⟩:=i;exact p c s σ H Q I (r B al lo H σ ρ S Q d a)
def xy(X:Cx)(a:List Expr)(f:jj->i3->RX Bool):Prop:=PF X a (LN X.K f)
def qb:jj->i3->RX Bool:=λ_ S=>.ok true S
def Mc:xy X [] qb:=λc s σ H Q I h=>by obtain⟨B,al,lo,ρ,S,d,a⟩:=h;exact J4 c s σ H Q I (a al lo H d .refl .refl)
def n9(a:List Nat)(ρ:jj):jj:=none::a.map λi=>(ρ[i]?).getD none
def aag(s:RZ K B mV lo1 H1 σ ρ S1)(l:EZ K B xB uz H2 S2)(x:Xt mV H1 xB H2)(y:Lx lo1 uz)(ci):RZ K B xB uz H2 (mI 1 ci σ) (n9 ci ρ) S2 where
 toEZ:=l
 len:=by unfold mI n9;simp
 vr:=λj z h=>by
  unfold n9 at h;cases j with
  |zero=>cases h
  |succ k=>
   rw[eD,aE]at h;cases q:ci[k]? with
   |none=>rw[q]at h;cases h
   |some i=>
    rw[q]at h;have a:(ρ[i]?).getD none=some z:=Option.some.inj h;cases w:ρ[i]? with
    |none=>rw[w]at a;cases a
    |some o=>rw[w]at a;have c:o=some z:=a;subst c;obtain⟨v,f,d⟩:=s.vr i z w;refine⟨v,?_,d.mv x y⟩;unfold mI;show(none::(ci.map λi=>(σ[i]?).getD none))[k+1]?=_;rw[eD,aE,q];show some ((σ[i]?).getD none)=_;rw[f];rfl
def zw(n:Nat):Option Z->Bool
 |some z=>ml n z
 |none=>false
def u2(f:jm):jm:=λρ S=>match f ρ S with
 |.ok z a=>(match z with
  |.loc n=>(match a[n]? with
   |some (.li h)=>(match lI h with
    |some d=>if S.length<=n/\a.any (kC n)=false/\ρ.any (zw n)=false then .ok (.d<|.lst d) (a.set n .no)else .bad
    |none=>.bad)
   |_=>.bad)
  |_=>.bad)
 |.ex c ns d a=>.ex c ns d a
 |.bad=>.bad
section
variable{X:Cx}{E:XK}{e:Expr}{f:jm}
def abO{n d}(h:zw n o=false):pW n d o=o:=by
 cases o with
 |none=>rfl
 |some z=>
  cases z with
  |d x=>rfl
  |tk c=>rfl
  |loc m=>
   have a:decide (m=n)=false:=h;have:m≠n:=by simpa using a
   show(if m=n then some (Z.d d)else some (Z.loc m))=_;rw[aw this]
def acL(he:ZE X E e f):ZE X E e (u2 f):=by
 obtain⟨t,p,r⟩:=he;refine⟨t,p,λB al lo H σ ρ S Q s h=>r _ _ _ _ _ _ _ _ s ?_⟩;unfold u2 at h;cases q:f ρ S with
 |bad=>rw[q]at h;exact h.elim
 |ex c ns o F=>rw[q]at h;exact h
 |ok z F=>
  rw[q]at h;intro M J N j V T v rv;dsimp only at h;split at h
  ·rename_i n;split at h
   ·rename_i zs q0;split at h
    ·rename_i o qd;split at h
     ·rename_i w;obtain⟨w1,w2,Y⟩:=w;obtain⟨a,hn,rfl⟩:=rv;have I:RZ X.K B M J N (σ++[some (.ref a)]) (ρ++[ba n]) F:=⟨j.toEZ,by rw[ao,ao,j.len];rfl,λi z d=>by
       by_cases x:i<ρ.length
       · rw[ay x]at d;obtain⟨u,k,C⟩:=j.vr i z d;exact⟨u,by rw[ay (by rw[<-j.len];exact x)];exact k,C⟩
       · rw[aK<|by omega]at d;have P:i - ρ.length=0:=by
          have:=(az.mp d).1;simp at this;omega
         rw[P]at d;cases d;refine⟨.ref a,?_,a,hn,rfl⟩;rw[aK (by rw[<-j.len];omega),<-j.len,P];rfl⟩
      have l:(ρ++[some<|Z.loc n])[ρ.length]?=some (ba n):=by simp
      have fz:uo B.n ρ.length (ρ++[ba n]) F=some ((ρ++[some<|Z.loc n]).map (pW n<|.lst o),F.set n .no):=by unfold uo;rw[l];dsimp only;rw[q0];dsimp only;rw[qd];dsimp only;rw[av ⟨aS s.sz w1,w2⟩]
      obtain⟨D,y,G,U,R⟩:=I.freeze fz;have L:∀i z,ρ[i]?=some (some z)->((ρ++[some<|Z.loc n]).map (pW n<|.lst o))[i]?=some (some z):=λi z d=>by have x:=(az.mp d).1;rw[aE,ay x,d];have:=bV.mp Y (some z) (bc d);show some (pW n (.lst o)<|some z)=_;rw[abO<|by simpa using this]
      have s3:RZ X.K B D y N σ ρ (F.set n .no):=⟨G.toEZ,j.len,λi z d=>by obtain⟨u,k,C⟩:=G.vr i z (L i z d);have x:=(az.mp d).1;rw[ay (by rw[<-j.len];exact x)]at k;exact⟨u,k,C⟩⟩
      have A:((ρ++[some<|Z.loc n]).map (pW n<|.lst o))[ρ.length]?=some (iQ o):=by rw[aE,l];show some (if n=n then some (Z.d<|.lst o)else some (Z.loc n))=_;rw[av rfl]
      obtain⟨u,k,C⟩:=G.vr _ _ A;rw[j.len,aK<|ag _,dW]at k;cases k;refine h D y N s3 (V.trans U) (λm b O=>?_) _ C;obtain⟨c,g1,_⟩:=s.st.at' m b O;have hm2:=(az.mp g1).1;exact R n l m b (by omega) (T m b O)
     ·exact h.elim
    ·exact h.elim
   ·exact h.elim
  ·exact h.elim
end
open PySem.Spec PySem.Calls PySem.W
open PyProof.Rows hiding St K
def rj(h:Heap)(d:Addr)(a:Array DictEntry)(c:Nat):Prop:=∃o,h.get? d=some o/\o.ExactDict/\o.data=.dict a c
def rj.typeIs{s:Shared}{d}(x:rj s.heap d es ep):s.TypeIs (.ref d) "dict":=let⟨o,a,c,_⟩:=x;⟨o,a,c.1⟩
section
variable{j:Program}{w:World}{A:Around}{E:jP}{s:Shared}{c d:Addr}{i q:Nat}{f:Array DictEntry}
def Z1{Q:jP}(l:(d==sysModules)=false)(k:rj s.heap d f q)
 (m:Q (.ref s.heap.objs.size) {s with heap:=s.heap.push {cls:=.type "dict_keyiterator",data:=.fields #[.ref d,.int 0 0,.int f.size 0,.int q 0]}}):wpAny (model j w) A (pyIter (.ref d)) Q E s:=by obtain⟨o,h,n,a⟩:=id k;have hT:=k.typeIs;refine eJ hT gR (bx gR hT PySem.F.entry_dict_iter ?_ (PySem.F.args_dict_iter_1 _));unfold Builtin.«dict.__iter__»;refine ae ?_;unfold Builtin.Dict.dictSlotNone;refine ae (eY hT ?_);show wpAny _ _ (pure<|Value.ref d) _ _ s;refine af ?_;show wpAny _ _ (Builtin.Dict.showsAll d>>=_) _ _ s;unfold Builtin.Dict.showsAll;rw[aw (by rw[l];exact ax)];refine ae (af ?_);refine ae (da h a ?_);refine ae (dF h a ?_);refine ae (aV<|af ⟨_,rfl,"dict_keyiterator",_,⟨_,aH _ rfl,rfl⟩,PySem.F.slot_dict_keyiterator_next.lookup,?_⟩);simpa [rawInt]using m
def ZZ{Q:Option Value->Shared->Prop}(hit:s.heap.IsKeyIter c d i f.size q)(t:rj s.heap d f q)(l:i<f.size)
 (x:∀r,r.IsKeyIter c d (i+1) f.size q->Heap.SameBut c s.heap r->Q (some f[i].key) {s with heap:=r}):wpAny (model j w) A (pyNext<|.ref c) Q E s:=by
  obtain⟨o,p,v,n⟩:=id hit;obtain⟨y,k,u,m⟩:=id t;unfold pyNext
  refine ae (dc (bH (name:=Str.ofString "__next__") hit.typeIs cg
   (bx cg hit.typeIs d8 ?_ (d5 _))))
  refine ae (af ?_);refine ae ?_;refine ae ?_;first|refine ae (cK hit.typeIs<|af ?_)|refine ae (df hit.typeIs<|af ?_)
  refine ae (cX p n ?_);have h:Builtin.Dict_items.ownsTuple "dict_keyiterator"=false:=by decide
  simp only[h,bj,bI];show wpAny _ _ (if(Value.ref d==Value.none)=true then _ else _) _ _ s;rw[aw<|show¬((Value.ref d==Value.none)=true)from ax];refine ae (af ?_);refine ae (da k m ?_);rw[aw<|by simp];refine ae (af ?_);refine ae (dF k m ?_);rw[aw<|by simp];refine af ?_;simp only[show¬((i:Int)<0)from by omega,bI,bp,aJ l];refine ae ?_;first|refine ae (cK hit.typeIs<|af ?_)|refine ae (df hit.typeIs<|af ?_)
  refine ae (wpAny_isOneOf_keyiter hit.typeIs ?_);show wpAny _ _ (setField (.ref c) 1 (rawInt<|(i:Int)+1)>>=_) _ _ s;refine ae (bT p n (by simp) ?_)
  have a:(s.heap.update c (Obj.mapFields (·.setIfInBounds 1 (rawInt<|(i:Int)+1)))).IsKeyIter c d (i+1) f.size q:=
   ⟨_,aY _ p<|bN<|bo n _,(c9 ..).trans v,by rw[bo n];simp[rawInt]⟩
  refine ae (bE ?_);refine ae (wpAny_isOneOf_keyiter (s:={s with heap:=s.heap.update c (Obj.mapFields (·.setIfInBounds 1 (rawInt<|(i:Int)+1)))}) a.typeIs ?_);show wpAny _ _ (pure f[i].key) _ _ _;exact af (af ⟨_,rfl,af<|x _ a<|bu ..⟩)
def ZY{Q:Option Value->Shared->Prop}(v:A.handled=none)(hit:s.heap.IsKeyIter c d i f.size q)(u:rj s.heap d f q)(n:f.size<=i)
 (y:∀t,Heap.ExtBut c s.heap t->Q none {s with heap:=t}):wpAny (model j w) A (pyNext<|.ref c) Q E s:=by
  obtain⟨o,p,C,r⟩:=id hit;obtain⟨z,k,x,l⟩:=id u;unfold pyNext
  refine ae (dc (bH (name:=Str.ofString "__next__") hit.typeIs cg
   (bx cg hit.typeIs d8 ?_ (d5 _))))
  refine ae (af ?_);refine ae ?_;refine ae ?_;first|refine ae (cK hit.typeIs<|af ?_)|refine ae (df hit.typeIs<|af ?_)
  refine ae (cX p r ?_);have h:Builtin.Dict_items.ownsTuple "dict_keyiterator"=false:=by decide
  simp only[h,bj,bI];show wpAny _ _ (if(Value.ref d==Value.none)=true then _ else _) _ _ s;rw[aw<|show¬((Value.ref d==Value.none)=true)from ax];refine ae (af ?_);refine ae (da k l ?_);rw[aw<|by simp];refine ae (af ?_);refine ae (dF k l ?_);rw[aw<|by simp];refine af ?_;simp only[show¬((i:Int)<0)from by omega,bI,bp,cu n];refine ae ?_;first|refine ae (cK hit.typeIs<|af ?_)|refine ae (df hit.typeIs<|af ?_)
  show wpAny _ _ (setField (.ref c) 0 .none>>=_) _ _ s;refine ae (bT p r (by simp) ?_);show wpAny _ _ (newExc (.type "StopIteration") []>>=_) _ _ _;refine ae ?_;simp only[newExc,newTuple];refine ae (aV ?_ (by size_fits));refine ae (m:=firstArgMember _ _) (f6 (a:=Value.none) (by first|rfl|(simp only[firstArgMember];rfl)) ?_);refine aV ?_ (by size_fits);simp only[raiseNew];refine ae (gh ?_);rw[show A.in1.handled=none from v];refine ae (af<|ik ?_);refine ae (dX (T:="StopIteration") (b:=true) ⟨_,aH _ rfl,rfl⟩ fU ?_);exact af (y _<|((bu ..).extBut.push _).push _)
def kD:Key->D
 |.inl i=>.int i
 |.inr x=>.str x
theorem zk:∀k:List Key,i9 K al H (k.map kV) (k.map kD)
 |[]=>.nil
 |.inl i::r=>.cons (.int i) (zk r)
 |.inr x::r=>.cons (.str x) (zk r)
theorem LK:∀a:List (List Key×Addr×Value),Vals (a.map λx=>V.ref x.2.1) (a.map λx=>Value.ref x.2.1)
 |[]=>.nil
 |_::r=>.cons rfl (LK r)
variable{X:Cx}{E:XK}{e o k:Expr}{F C ty:TE}{J B:Pos}
def Sd{s}(I:Inv X pins σ H s){l:List Key}(h:mi X.K H b (l.map kV)):(tupleKind (j3 X.prog X.w)).is s.heap l b:=by obtain⟨a,r,⟨o,t,p,n,m⟩,_⟩:=I.tuple h;exact⟨o,a.toArray,n,t,p,m,by simpa using BC r⟩
def JX(hu:X.A.units+1<cLine)(ho:PE X o C)(hi:PE X k ty)(hs:tS k):PE X (.Subscript o k B) (λσ H Q=>C σ H λx O=>ty σ O λy D=>∃a b n t v,x=.ref a/\y=.ref b/\Rd D a (.dT n)/\mi X.K D b (t.map kV)/\lA n t=some v/\Q v D):=by intro m s σ H Q I h;refine Lm PySem.F.slot_dict_getitem.lookup hs (jh (ho m s σ H _ I h) λu R r=>?_);obtain⟨x,O,I1,U,Y⟩:=r;refine jh (hi m R σ O _ I1 Y) λZ s2 r=>?_;obtain⟨y,D,N,T,a,b,n,t,v,ex,ey,e,hb,l,V⟩:=r;subst ex ey;obtain rfl:u=Value.ref a:=U;obtain rfl:Z=Value.ref b:=T;obtain⟨z,hd,P,L,dd⟩:=sY N.hok e;refine⟨dd.typeIs,?_⟩;obtain⟨w',hw,G⟩:=mr.some_of (v:=v) (o:=(atKey P t).map (·.2)) (by rw[<-l];exact L.val t);obtain⟨p,hp,M⟩:=aB.mp hw;refine wpAny_getItem_heap (cW hu) (Sd N hb) dd hp ?_;rw[M];exact⟨v,D,N.tok _,G,V⟩
end
def sd(fo d:jm):jm:=λρ S=>(fo ρ S).bind λz f=>(d ρ f).bind λy c=>match z,y with
 |.loc n,.d (.tup ds)=>(match ly ds,c[n]? with
  |some k,some (.dt a)=>(match valZ a k with
   |some z=>.ok z c
   |none=>.bad)
  |_,_=>.bad)
 |_,_=>.bad
def pY(a b:jm):jm:=λρ S=>(a ρ S).bind λx h=>match x with
 |.d d=>(lG (tT d) h).bind λc f=>if c=true then b ρ f else .ok (.d d) f
 |_=>.bad
variable{X:Cx}{E:XK}{b:Nat}{o k e a c:Expr}{rest:List Expr}{fo Y f fa fb:jm}{U p1:Pos}
def EI(hu:X.A.units+64<cLine)(P:ZE X E o fo)(T:ZE X E k Y)(O:tS k):ZE X E (.Subscript o k U) (sd fo Y):=by
 obtain⟨to,J,D⟩:=P;obtain⟨tk,pk,F⟩:=T;refine⟨_,JX (by omega) J pk O,λB al lo H σ ρ S Q s h=>D _ _ _ _ _ _ _ _ s<|iZ.mono (iZ.split h) λz mV L H1 S1 x x1 y1 Z v A=>F _ _ _ _ _ _ _ _ x<|iZ.mono (iZ.split Z) λy i l p S2 m x2 r d u C=>?_⟩;split at d
 ·rename_i n ds;split at d
  ·rename_i N M G q;split at d
   ·rename_i z0 I;obtain⟨a,R,rfl⟩:=A;obtain⟨b,vs,rfl,V,j⟩:=Rep.pX (show Rep X.K i p u (.tup ds)from C);have ev:=uw j G;subst ev;obtain⟨t,g1,g2⟩:=m.cell (r _ _ R) q;obtain⟨w,e1,e2⟩:=g2.val I;exact⟨a,b,t,N,w,rfl,rfl,.inl g1,V,e1,d i l p m .refl .refl w e2⟩
   ·exact d.elim
  ·exact d.elim
 ·exact d.elim
def VR(y:PE X a ta)(w:PE X (.BoolOp .And (c::rest) U) tb):PE X (.BoolOp .And (a::c::rest) U) (λσ H Q=>ta σ H λx j=>∃k,vk X.K x j k/\if k=true then tb σ j Q else Q x j):=by
 intro d s σ H Q I h;refine BoolOp_and (jh (y d s σ H _ I h) λv r i=>?_);obtain⟨x,j,C,m,t⟩:=i;obtain⟨k,u,q⟩:=t;refine jh (Em d r σ j x v (λc l=>c=k/\l=j) C m ⟨k,u,rfl,rfl⟩) λc p i=>?_;obtain⟨l,n,A,z⟩:=i;subst A z;cases c with
 |false=>exact⟨x,l,n,m,by simpa using q⟩
 |true=>exact w d p σ l Q n (by simpa using q)
def EH(z:ZE X E a fa)(y:ZE X E (.BoolOp .And (c::rest) U) fb):ZE X E (.BoolOp .And (a::c::rest) U) (pY fa fb):=by
 obtain⟨G,u,r⟩:=z;obtain⟨F,t,p⟩:=y;refine⟨_,VR u t,λB al lo H σ ρ S Q s h=>r _ _ _ _ _ _ _ _ s<|iZ.mono (iZ.split h) λx m j A I i D C l v n=>?_⟩;split at l
 ·rename_i d;obtain⟨k,w,q⟩:=zj n (iZ.toAft i<|iZ.split l);refine⟨k,w,?_⟩;cases k with
  |false=>rw[aw<|by simp]at q⊢;exact q m j A i .refl .refl v n
  |true=>rw[av rfl]at q⊢;exact p _ _ _ _ _ _ _ _ i q
 ·exact l.elim
def EK(i:ZE X E a fa):ZE X E (.BoolOp op [a] U) fa:=let⟨t,p,r⟩:=i;⟨t,λd s σ H Q I h=>BoolOp_one<|p d s σ H Q I h,r⟩
end P2
namespace P2
open PySem
def lZ(a:Array Nat):Prop:=a.toList.Pairwise (· < ·)
def lZ.lt(h:lZ xs)(a:i<j)(c:j<xs.size):xs[i]<xs[j]:=by have:=fZ.mp h i j (by simpa using eG a c) (by simpa using c) a;simpa using this
theorem AB(xs j)(h:lZ xs):∀a lo c,lo<=c->c<=xs.size->c - lo<=a->(∀i,(d:i<xs.size)->i<lo->xs[i]<j)->(∀i,(d:i<xs.size)->c<=i->j<=xs[i])->
 SetTable.below.go xs j a lo c<=xs.size/\(∀i,(d:i<xs.size)->i<SetTable.below.go xs j a lo c->xs[i]<j)/\∀i,(d:i<xs.size)->SetTable.below.go xs j a lo c<=i->j<=xs[i]
 |0,lo,c,s,m,r,l,k=>by
  have e:lo=c:=by omega
  subst e;show lo<=xs.size/\_;exact⟨m,l,k⟩
 |a+1,lo,c,s,m,r,l,k=>by
  unfold SetTable.below.go;by_cases o:lo<c
  ·rw[av o];have n:(lo+c)/2<xs.size:=by omega
   have t:xs.getD ((lo+c)/2) j=xs[(lo+c)/2]:=by simp[Array.getD,n]
   dsimp only;rw[t];by_cases f:xs[(lo+c)/2]<j
   ·rw[av f];refine AB xs j h a _ c (by omega) m (by omega) (λi d p=>?_) k;by_cases e:i=(lo+c)/2;·subst e;exact f
    ·exact eG (h.lt (show i<(lo+c)/2 by omega) n) f
   ·rw[aw f];refine AB xs j h a lo _ (by omega) (by omega) (by omega) l λi d q=>?_;by_cases e:i=(lo+c)/2;·subst e;omega
    ·have:=h.lt (show(lo+c)/2<i by omega) d;omega
  ·rw[aw o];have e:lo=c:=by omega
   subst e;exact⟨m,l,k⟩
def xI(h:lZ xs)(j):SetTable.below xs j<=xs.size/\(∀i,(a:i<xs.size)->i<SetTable.below xs j->xs[i]<j)/\∀i,(a:i<xs.size)->SetTable.below xs j<=i->j<=xs[i]:=
 AB xs j h xs.size 0 xs.size (bM _) (ag _) (ag _) (λi _ h=>absurd h<|cP _) λi a h=>absurd a (Nat.not_lt.mpr h)
def Nx(h:lZ xs)(c:i<xs.size):SetTable.below xs (xs[i]+1)=i+1:=by
 obtain⟨l,f,d⟩:=xI h (xs[i]+1);generalize SetTable.below xs (xs[i]+1)=b at*;rcases eK b (i+1)with q|q|q;·have:=d i c (by omega);omega
 ·exact q
 ·have a:i+1<xs.size:=by omega
  have k:=f (i+1) a q;have j:xs[i]<xs[i+1]:=h.lt (show i<i+1 by omega) a;omega
def Ny(h:lZ xs):SetTable.below xs 0=0:=by
 obtain⟨d,a,c⟩:=xI h 0;generalize SetTable.below xs 0=b at*;cases b with
 |zero=>rfl
 |succ b=>exact absurd (a 0 (by omega)<|by omega) (cP _)
def KJ(h:lZ xs)(p:xs[SetTable.below xs j]?≠some j):lZ (SetTable.insertAt xs (SetTable.below xs j) j):=by
 obtain⟨u,s,r⟩:=xI h j;generalize t:SetTable.below xs j=b at*;have f:∀i,(c:i<xs.size)->b<=i->j<xs[i]:=λi c n=>by
  rcases gS j xs[i]with q|q;·exact q
  ·have v:=r b (by omega) (ag _);have:xs[b]<=xs[i]:=by
    by_cases e:b=i;·subst e;exact ag _
    ·exact cI (h.lt (show b<i by omega) c)
   exact absurd (by rw[aJ<|show b<xs.size by omega];exact bD some (by omega)) p
 unfold lZ;have e:(SetTable.insertAt xs b j).toList=xs.toList.take b++j::xs.toList.drop b:=by unfold SetTable.insertAt;simp[il];exact cw (by rw[ck,aC];exact ag _)
 rw[e];refine List.pairwise_append.mpr ⟨eZ (List.take_sublist _ _) h,ee.mpr ⟨λy a=>?_,eZ (List.drop_sublist _ _) h⟩,λx m y a=>?_⟩
 ·obtain⟨i,d,rfl⟩:=bO a;rw[List.getElem_drop];rw[ck,aC]at d;simpa using f (b+i) (by omega) (by omega)
 ·obtain⟨i,d,rfl⟩:=bO m;rw[cD,aC]at d;have l:=s i (by omega) (by omega);rw[List.getElem_take];rcases aD.mp a with rfl|a;·simpa using l
  ·obtain⟨k,o,rfl⟩:=bO a;rw[List.getElem_drop];rw[ck,aC]at o;have:=f (b+k) (by omega) (by omega);have q:xs[i]<xs[b+k]:=by omega
   simpa using q
structure nH(bt:Bool)(t:SetTable):Prop where
 led:t.led=!bt
 pO:t.plain=true->lZ t.place
 oP:t.plain=true->t.dummies=#[]
def abQ(bt):nH bt (.fresh 0 0<|!bt):=⟨rfl,λ_=>by unfold lZ;exact .nil,λ_=>rfl⟩
def zE{t}(h:nH bt t)(n):nH bt (t.standIn n):=⟨h.led,λw=>(by cases w),λw=>(by cases w)⟩
def abS{t}(h:nH bt t)(n):nH bt (t.orStandIn n):=by
 unfold SetTable.orStandIn;split;·exact h
 ·exact zE h n
theorem Kg{t:SetTable}(k:t.dummies=#[]){h:Int}:∀a (p:SetTable.Probe) j d,p.dummy=none->SetTable.probe.go t f h a p=some (.empty j d)->d=none/\t.slot j=.empty
 |0,p,j,d,_,e=>by cases e
 |a+1,p,j,d,c,e=>by
  unfold SetTable.probe.go at e;cases q:t.slot p.j with
  |empty=>rw[q]at e;cases e;exact⟨c,q⟩
  |dummy=>
   exfalso;unfold SetTable.slot at q;dsimp only at q;split at q;·cases q
   ·rw[k]at q;have:SetTable.has #[] p.j=false:=rfl;rw[this]at q;cases q
  |live i=>
   rw[q]at e;dsimp only at e;split at e;·cases e
   ·refine Kg k a (t.advance p) j d ?_ e;unfold SetTable.advance;split<;>exact c
def abR{t}(h:nH bt t)(es)(k:Int)(x):nH bt (layNew t es k x).2.1:=by
 unfold layNew;cases e:t.freeSlot k with
 |none=>exact zE h _
 |some r=>
  obtain⟨a,wd⟩:=r;dsimp only;refine abS (t:=(t.put a).1) ⟨h.led,λw=>?_,λw=>?_⟩ _
  ·have f:=h.oP w;unfold SetTable.freeSlot at e;split at e
   ·rename_i j d q;obtain⟨rfl,c⟩:=Kg f _ _ _ _ rfl q;cases e;refine KJ (h.pO w) λi=>?_;unfold SetTable.slot at c;dsimp only at c;rw[show(none:Option Nat).getD j=j from rfl]at i;rw[i]at c;simp at c
   ·cases e
  ·show(if SetTable.has t.dummies a then SetTable.eraseAt t.dummies (SetTable.below t.dummies a)else t.dummies)=#[];have f:=h.oP w;rw[f];rfl
def abT{t}(h:nH bt t)(es n):nH bt (relayAll t es n).2.1:=by
 unfold relayAll;cases e:t.relaid (es.map (·.1)) n with
 |none=>exact zE h _
 |some r=>
  obtain⟨m,d⟩:=r;dsimp only;split
  ·unfold SetTable.relaid SetTable.laid at e;cases q:SetTable.layClean (SetTable.sizeAbove n - 1) (es.map (·.1))with
   |none=>rw[q]at e;cases e
   |some c=>
    rw[q]at e;cases e;refine⟨h.led,λ_=>?_,λ_=>rfl⟩;unfold lZ;show((List.map _<|List.filterMap _<|List.range _).toArray).toList.Pairwise _;rw[fK,List.map_filterMap];have sub:∀(l:List Nat) (g:Nat->Option Nat),(∀j k,g j=some k->k=j)->(l.filterMap g).Sublist l:=λl g i=>by
     induction l with
     |nil=>exact .slnil
     |cons a l f=>
      rw[d3];cases q:g a with
      |none=>exact f.cons _
      |some k=>rw[i a k q];exact f.cons₂ _
    refine eZ (sub _ _ λj k w=>?_) eM;cases z:c.getD j none with
    |none=>rw[z]at w;cases w
    |some o=>rw[z]at w;cases w;rfl
  ·exact zE h _
open L2 PySem.Spec PySem.Calls PySem.W
open PyProof.Rows hiding St K
def vK:Value->Key
 |.int i _=>.inl i
 |.str x _=>.inr x
 |_=>.inl 0
def rf(v:Value):Prop:=RelV (kV<|vK v) v
def zI{k}(h:RelV (kV k) v):vK v=k:=by
 cases k with
 |inl i=>obtain⟨t,rfl⟩:=(show∃t,v=Value.int i t from h);rfl
 |inr x=>obtain⟨t,rfl⟩:=(show∃t,v=Value.str x t from h);rfl
def Px{k}(h:RelV (kV k) v):rf v:=by unfold rf;rw[zI h];exact h
def DR{k}(h:RelV (kV k) v):v.scannable=true:=by
 cases k with
 |inl i=>obtain⟨t,rfl⟩:=(show∃t,v=Value.int i t from h);rfl
 |inr x=>obtain⟨t,rfl⟩:=(show∃t,v=Value.str x t from h);rfl
def w4(P:Program)(w:World)(a:List<|Int×Value):Prop:=∀e∈a,rf e.2/\e.1=(j3 P w).hash (vK e.2)
def w4.elems{w}(h:w4 P w es):ElemsOf (j3 P w) es:=λe a=>⟨⟨vK e.2,oo (h e a).1,(h e a).2⟩,DR (h e a).1⟩
def pH(a:List<|Int×Value):List Key:=a.map λe=>vK e.2
def oN(P:Program)(w:World)(h:Heap)(a:Addr)(d:List Key)(n:Nat):Prop:=
 ∃o c f t,h.get? a=some o/\o.ExactSet/\o.data=.set c f t/\w4 P w c.toList/\c.size<=n/\t.fits c.size=true/\nH (w.params.followText "set-order") t/\(pH c.toList).Nodup/\∀k,k∈pH c.toList↔k∈d
def oN.keep{w}{c:Heap}{n}(x:oN P w h a ks n)(k:∀o,h.get? a=some o->c.get? a=some o):oN P w c a ks n:=let⟨o,f,i,t,d,r⟩:=x;⟨o,f,i,t,k o d,r⟩
section
variable{c:Program}{w:World}{A:Around}{E:jP}{s:Shared}
def Nb{n k}{Q:Bool->Shared->Prop}(hx:RelV (kV k) x)(hS:oN c w s.heap a ks n)(hroom:n+1<scanBound)
 (h:∀b G,Heap.SameBut a s.heap G->oN c w G a (k::ks) (n+1)->Q b {s with heap:=G}):
   wpAny (model c w) A (setAddHashed a x<|(j3 c w).hash k) Q E s:=by
  obtain⟨o,v,ep,t,ho,Y,hd,p,hn,hf,tok,tu,D⟩:=hS;have HY:=p.elems;have Bo:(j3 c w).is k x=true:=oo hx;have Ia:=DR hx;have hb:v.size<scanBound:=by omega
  unfold setAddHashed setAddHashedIn;refine bE (ae<|bR ho hd hf ?_);dsimp only;rw[byScan_of Ia hb HY];simp only[↓reduceIte];unfold setAddByScan;refine ae ?_;refine ae (gK ?_);refine ae (wpAny_setScan_of Bo ho hd hf HY ?_);cases hr:List.findIdx? (λe=>(j3 c w).is k e.2) v.toList with
  |some j=>
   dsimp only;obtain⟨hj,QX,_⟩:=List.findIdx?_eq_some_iff_getElem.mp hr;refine af (af ?_);have e:s={s with heap:=s.heap}:=by cases s;rfl
   have hin:k∈pH v.toList:=by have R:=(p v.toList[j] (bZ hj)).1;have h2:=(j3 c w).inj _ _ _ QX (oo R);rw[h2];exact aI.mpr ⟨_,bZ hj,rfl⟩
   have:=h false s.heap (Heap.SameBut.refl a s.heap) ⟨o,v,ep,t,ho,Y,hd,p,by omega,hf,tok,tu,λN=>by rw[D N,aD];exact⟨.inr,λz=>z.elim (λz=>by rw[z];exact(D k).mp hin) id⟩⟩
   rw[e];exact this
  |none=>
   dsimp only;have hnot:k∉pH v.toList:=λhk=>by obtain⟨e,F,ek⟩:=aI.mp hk;have:=List.findIdx?_eq_none_iff.mp hr e F;have R:=oo (P:=c) (w:=w) (p e F).1;rw[ek]at R;rw[R]at this;exact Bool.noConfusion this
   have hgw:∀(b:Bool) {C:Shared} {Q':Unit->Shared->Prop},Q' () C->wpAny (model c w) A (match b with|true=>rule "set.scan.the-table-gave-way"|false=>pure ()) Q' E C:=
    λb C Q' hq=>by cases b<;>first|exact af hq|exact gK hq
   have f:=layNew_perm t v ((j3 c w).hash k) x;have i:=layNew_fits t v ((j3 c w).hash k) x;have m:=abR tok v ((j3 c w).hash k) x;generalize hL:layNew t v ((j3 c w).hash k) x=L at f i m⊢;obtain⟨d,t1,u,ac7⟩:=L;dsimp only at f i m⊢;rw[Array.toList_push]at f;have Hf:w4 c w d.toList:=λe F=>by
    rcases bh.mp (f.mem_iff.mp F)with F|F;·exact p e F
    ·rw[aP]at F;subst F;exact⟨Px hx,by rw[zI hx]⟩
   have kp:(pH d.toList).Perm (pH v.toList++[k]):=by have:=f.map λe=>vK e.2;rw[bF]at this;rw[show[k]=List.map (λe=>vK e.2) [((j3 c w).hash k,x)]from by rw[aR,dS,zI hx]];exact this
   have J:(pH d.toList).Nodup:=kp.nodup_iff.mpr (f7.mpr ⟨tu,by simp,λy hy z hz w=>hnot<|by rw[aP]at hz;rw[<-hz,<-w];exact hy⟩);have M:∀N,N∈pH d.toList↔N∈k::ks:=λN=>by rw[kp.mem_iff,bh,aP,aD,D N];exact or_comm
   have adl:d.size=v.size+1:=by rw[<-aC,f.length_eq,ao,aC];rfl
   have yB:d.size<scanBound:=by omega
   refine ae (hgw _ ?_)
   have I:∀(l:SetTable),l.fits d.size=true->nH (w.params.followText "set-order") l->wpAny (model c w) A (do
    storeSet a d l
    if(!u&&l.tooFull)=true then do
       (match(relayAll l d<|SetTable.grown d.size).2.2 with|true=>rule "set.scan.the-table-gave-way"|false=>pure ())
       storeSet a (relayAll l d<|SetTable.grown d.size).1 (relayAll l d<|SetTable.grown d.size).2.1
       pure (some true)
     else pure (some true)) (λr s'=>∃G,s'={s with heap:=G}/\r=some true/\Heap.SameBut a s.heap G/\oN c w G a (k::ks) (n+1)) E s:=λl Qx Ek=>by
    refine ae (eN ho hd ?_ (fits_of_scanBound yB));have U:(s.heap.update a<|Obj.putSet d l).get? a=some {o with data:=.set d (ep+1) l}:=by have:=aY (Obj.putSet d l) ho (by rw[fm d l hd];rfl);rw[fm d l hd]at this;exact this
    have O:=bu s.heap a (Obj.putSet d l);split
    ·have hp:=relayAll_perm l d (SetTable.grown d.size);have V:=relayAll_fits l d (SetTable.grown d.size);have T:=abT Ek d (SetTable.grown d.size);generalize Qg:relayAll l d (SetTable.grown d.size)=Rl at hp V T⊢;obtain⟨q,Z,ac8⟩:=Rl;dsimp only at hp V T⊢;have hsz:q.size=d.size:=by rw[<-aC,hp.length_eq,aC]
     refine ae (hgw _ ?_);refine ae (eN U rfl ?_ (fits_of_scanBound<|by rw[hsz];exact yB));have Bs:((s.heap.update a<|Obj.putSet d l).update a (Obj.putSet q Z)).get? a=some {o with data:=.set q (ep+1+1) Z}:=by have:=aY (Obj.putSet q Z) U (by rw[fm q Z rfl];rfl);rw[fm q Z rfl]at this;exact this
     exact af ⟨_,rfl,rfl,O.trans<|bu _ a _,_,q,_,Z,Bs,Y,rfl,λe F=>Hf e<|hp.mem_iff.mp F,by omega,V,T,(hp.map λe:Int×Value=>vK e.2).nodup_iff.mpr J,λN=>by rw[<-M N];exact(hp.map λe:Int×Value=>vK e.2).mem_iff⟩
    ·exact af ⟨_,rfl,rfl,O,_,d,_,l,U,Y,rfl,Hf,by omega,Qx,Ek,J,M⟩
   split
   ·refine ae ?_;rw[hashByValue_scannable 8 Ia];refine af ?_;refine bq (I _ ?_ ?_) (λr s' hr=>?_) λ_ _ z=>z
    ·split;·exact i
     ·exact SetTable.fits_plain_off i
    ·split;·exact m
     ·exact⟨m.led,λz=>(by cases z),λz=>(by cases z)⟩
    ·obtain⟨G,rfl,rfl,R,h2⟩:=hr;exact af (h true G R h2)
   ·refine ae (af ?_);simp only[↓reduceIte];refine bq (I _ i m) (λr s' hr=>?_) λ_ _ z=>z;obtain⟨G,rfl,rfl,R,h2⟩:=hr;exact af (h true G R h2)
end
section
variable{f:Program}{w:World}{A:Around}{R:Result->Shared->Prop}{I:Addr}{K H:List Addr}{G:Array GenState->Array GenState->Prop}{n:Nat}{P:Nat->Value->Prop}{St:Nat->Shared->Prop}
def K3(W:WalksS f w A.in1 I K H G n P St)(S:Addr)(D:S∉K){J:Nat->Shared->Prop}(mv:∀i s a,St i s->Moved H G s a->J i s->J i a)
    (step:∀i v s (Q:Bool->Shared->Prop) E,i<n->P i v->J i s->(∀r y tk,s.toks<=tk->Heap.SameBut S s.heap y->J (i+1) {s with heap:=y,toks:=tk}->Q r {s with heap:=y,toks:=tk})->wpAny (model f w) A.in1 (setAdd S v) Q E s):
    ∀(k i:Nat) (s:Shared),n - i=k->i<=n->St i s->J i s->(∀a,Moved (S::H) G s a->J n a->R (.ok<|.ret .none) a)->codeAny (model f w) A (.builtin "set.update.loop" ⟨[.ref S,.ref I],[]⟩) R s:=by
 have j:∀b∈H,b∈S::H:=λb u=>aX _ u;intro k;induction k with
 |zero=>
  intro i s O T c M F;have C:i=n:=by omega
  subst C;refine cy d6 ?_;rw[cn cR _];show wpAny _ A.in1 (pyNext (.ref I)>>=_) _ _ s;refine ae (W.done s _ _ c λa d=>?_);show wpAny _ A.in1 (ret Value.none) _ _ a;exact af (F a (d.mono j)<|mv _ _ _ c d M)
 |succ k N=>
  intro i s O T c M F;have l:i<n:=by omega
  refine cy d6 ?_;rw[cn cR _];show wpAny _ A.in1 (pyNext (.ref I)>>=_) _ _ s;refine ae (W.item i s _ _ l c λv a U p d=>?_);show wpAny _ A.in1 (holding [v] (setAdd S v)>>=_) _ _ a;refine ae (bE<|step i v a _ _ l U (mv _ _ _ c d M) λr y tk m q L=>?_);refine af ⟨d9 cR _,N (i+1) _ (by omega) l (W.frame _ a _ _ p m λb u o e=>?_) L λz t x=>?_⟩;·rw[q.2 b (λh:b=S=>D<|by rw[<-h];exact u)];exact e
  ·refine F z (Moved.trans W.gtrans ((d.mono j).then_heap m λb o u e=>?_) t) x;rw[q.2 b (λh:b=S=>u<|by rw[h];exact bL)];exact e
def Jo{a:Type}{val:Nat->a}{i:Nat}{c:List a}(d:∀x,x∈c↔x∈(List.range i).map val)(x:a):x∈val i::c↔x∈(List.range<|i+1).map val:=by rw[List.range_succ,bF,bh,aD,d x];show x=val i\/_↔_\/x∈[val i];rw[aP];exact or_comm
def aaK(W:WalksS f w A.in1 I K H G n P St)(S:Addr)(l:S∉K)
    (val:Nat->Key)(j:∀i v,P i v->RelV (kV<|val i) v)(O:n+1<scanBound)(s:Shared)(m:St 0 s)(t:oN f w s.heap S [] 0)
      (F:∀c d,Moved (S::H) G s c->oN f w c.heap S d n->(∀x,x∈d↔x∈(List.range n).map val)->R (.ok<|.ret .none) c):
      codeAny (model f w) A (.builtin "set.update.loop" ⟨[.ref S,.ref I],[]⟩) R s:=by
 refine K3 W S l (J:=λi s=>∃a,oN f w s.heap S a i/\∀x,x∈a↔x∈(List.range i).map val) (λi s c _ q ⟨a,y,u⟩=>⟨a,y.keep λo e=>q.heap S _ (λh=>l<|W.sub _ h) e,u⟩) (λi v s Q E D M ⟨a,t,C⟩ L=>?_) n 0 s rfl (bM _) m ⟨[],t,λx=>by simp⟩ λc y ⟨a,u,N⟩=>F c a y u N;have z:=j i v M;unfold setAdd;refine bE ?_;refine ae ((j3 f w).pyHash (k:=val i) (oo z) ?_);exact Nb (s:={s with toks:=s.toks+1}) z t (by omega) λb T p r=>L _ _ _ (cU _) p ⟨_,r,Jo C⟩
variable{E:jP}{s:Shared}
abbrev ou(w:World):Obj:={cls:=.type "set",dict:=none,data:=.set #[] 0 (.fresh 0 0<|!(w.params.followText "set-order"))}
def Og(a){Q₁:jP}(h:Q₁ (.ref s.heap.objs.size) {s with heap:=s.heap.push<|ou w}):
    codeAny (model f w) A (.call (.builtin "set.__new__") ⟨[.type "set",a],[]⟩) (wants Q₁ E) s:=by
 refine codeAny_of_tree ?_;show wpAny _ A.in1 (do checkBuiltinCall "set.__new__" ⟨[.type "set",a],[]⟩;again (.builtin "set.__new__" ⟨[.type "set",a],[]⟩)) _ _ s;refine ae (f6 (PySem.F.newCall_set_1 a)<|af ⟨d9 hX _,cy PySem.F.entry_set_new ?_⟩);rw[cn hX _];unfold Builtin.«set.__new__» Builtin.Frozenset.newClass;have c:=sub_set_self;obtain⟨j,g,d,tk,i⟩:=s;dsimp only
 wp_walk
 refine gF (af ?_);dsimp only;simp only[newObj];refine ae (wpAny_alloc<|af ?_);exact af h
def aaF{h:Heap}(e:h.get? a=some (ou w)):oN f w h a [] 0:=
 ⟨_,#[],0,_,e,⟨rfl,rfl,rfl⟩,rfl,λe c=>by simp at c,ag _,by rfl,abQ _,by unfold pH;exact .nil,λk=>by unfold pH;simp⟩
def GB{F:Heap->Prop}{Q:jP}(hh:A.handled=none)(hl:s.heap.IsList l items)
 (u:∀{I} {K H} {G} {St} {R:Result->Shared->Prop} {z},WalksS f w A.in1.in1.in1 I K H G items.size (λi v=>items[i]?=some v) St->s.heap.objs.size∉K->St 0 z->z.heap.get? s.heap.objs.size=some (ou w)->
 (∀b o,s.heap.get? b=some o->z.heap.get? b=some o)->(∀b∈H,s.heap.objs.size<b)->(∀i s,St i s->∀b∈H,∀o L m,s.heap.get? b=some o->o.data=.seq L m->o.cls=.type "tuple"->False)->(∀C,Moved (s.heap.objs.size::H) G z C->F C.heap->R (.ok<|.ret .none) C)->
 codeAny (model f w) A.in1.in1 (.builtin "set.update.loop" ⟨[.ref s.heap.objs.size,.ref I],[]⟩) R z)
 (h:∀d tk,F d->(∀b o,b<s.heap.objs.size->s.heap.get? b=some o->d.get? b=some o)->Q (.ref s.heap.objs.size) {s with heap:=d,toks:=tk}):
   wpAny (model f w) A (call (.type "set") [.ref l]) Q E s:=by
  obtain⟨c,tl,adh⟩:=PySem.F.called_set.mro;have adf:=PySem.F.called_set.made;have hsub:=PySem.F.called_set.sub;refine wpAny_call (codeAny_of_tree ?_);show wpAny _ _ (callAny (.type "set") _) _ _ _;refine af ⟨Code.quiet_builtin _<|by decide+kernel,cy PySem.F.entry_type_call ?_⟩;rw[Around.under_plain (weight_type_call_type "set" [.ref l] []) rfl];have h1:=PySem.F.called_set.notType;have h2:=PySem.F.called_set.canCreate;have hct:=PySem.F.typeCall_set_1 (.ref l);repeat(any_goals(first|assumption|wp_step))
  refine eF (Og (.ref l) (E:=E) (Q₁:=λJ p=>J=.ref s.heap.objs.size/\p={s with heap:=s.heap.push<|ou w}) ⟨rfl,rfl⟩) λr p hr=>?_;cases r with
  |error e=>exact hr
  |ok fl=>
   cases fl with
   |ret J=>
    obtain⟨rfl,rfl⟩:=hr;have hS:(s.heap.push<|ou w).get? s.heap.objs.size=some (ou w):=aH _ rfl;have hT:Shared.TypeIs {s with heap:=s.heap.push<|ou w} (.ref s.heap.objs.size) "set":=⟨_,hS,rfl⟩;have hli:=PySem.F.called_set.init.lookup;have hbi:=PySem.F.called_set.init.bind (.ref s.heap.objs.size);repeat(any_goals(first|assumption|wp_step))
    refine eF (fC (R:=wants (λr k=>r=.none/\∃d tk,k={s with heap:=d,toks:=tk}/\F d/\
     (∀b o,b<s.heap.objs.size->s.heap.get? b=some o->d.get? b=some o)) E) PySem.F.called_set.init.plain PySem.F.entry_set_init (check_set_init_1 hT ?_)) λD k a=>?_
    ·obtain⟨ol,N,Z,nl,Y⟩:=hl;obtain⟨adn,t,ado,j⟩:=ol;simp only at Z Y;subst Z;subst Y;have M:(s.heap.push<|ou w).get? l=some {cls:=.type "list",dict:=t,data:=.seq items nl,slots:=j}:=ah _ N;have adk:=PySem.F.sub_list_set;have adj:=PySem.F.sub_list_frozenset;have hne:(Value.type "list"==Value.type "dict")=false:=by decide
     have V:(s.heap.push<|ou w).IsList l items:=⟨_,M,rfl,nl,rfl⟩;unfold Builtin.«set.__init__» noKeywords Builtin.Frozenset.updateFrom;generalize Qf:pyIter=PI
     wp_walk
     subst Qf;refine f3 V ?_;refine ae (wpAny_runValue ?_);have U:l<s.heap.objs.size:=Heap.lt_size N;have Bn:A.in1.in1.in1.handled=none:=by simp[hh]
     have T:l≠(s.heap.push<|ou w).objs.size:=by rw[cq];exact aU (b9 U)
     have hSf:s.heap.objs.size∉[(s.heap.push<|ou w).objs.size,l]:=by rw[cq];simp only[aD,aP,cm,fA,not_or];exact⟨aU<|bU _,dq U⟩
     refine u ((Walks.list Bn _ l T items).toS) hSf ⟨⟨_,aH _ rfl,rfl,rfl⟩,(V.push _)⟩ (ah _ hS) (λb o e=>ah _<|ah _ e) (λb q=>?hw) ?hnt ?hR;case hw=>rw[aP]at q;rw[q,cq];exact bU _
     case hnt=>intro i s3 Q2 b q o L m ho hd hc;rw[aP]at q;subst q;obtain⟨⟨o',O,HW,_⟩,_⟩:=Q2;rw[ho]at O;cases O;rw[hc]at HW;exact absurd HW (by simp)
     case hR=>
      intro C hm x;obtain⟨d,g',d',Ej,Cp⟩:=C;have eg:g'=s.gens:=hm.gens;have ed:d'=s.drawn:=hm.drawn;have eo:Cp=s.os:=hm.os;subst eg;subst ed;subst eo;show wpAny _ _ _ _ _ _;refine af ?_;show wpAny _ _ (ret Value.none) _ _ _;refine af ⟨rfl,d,Ej,rfl,x,λb o q e=>?_⟩
      ·have yB:b≠s.heap.objs.size:=aU q;have Qr:b≠(s.heap.push<|ou w).objs.size:=by
        rw[cq];exact aU (b9 q)
       exact hm.heap b o (by simp only[aD,aP,cm,fA,not_or];exact⟨yB,Qr⟩) (ah _<|ah _ e)
    ·cases D with
     |error e=>exact a
     |ok y=>
      cases y with
      |ret r=>
       obtain⟨rfl,d,tk,rfl,x,QF⟩:=a;repeat(any_goals(first|assumption|wp_step))
       exact h _ _ x QF
      |_=>exact a.elim
   |_=>exact hr.elim
def NX{ks:List Key}{Q:jP}(D:A.handled=none)(C:s.heap.IsList l items)(r:Vals (ks.map kV) items.toList)(J:items.size+1<scanBound)
 (h:∀d tk a,oN f w d s.heap.objs.size a items.size->(∀x,x∈a↔x∈ks)->
 (∀b o,b<s.heap.objs.size->s.heap.get? b=some o->d.get? b=some o)->Q (.ref s.heap.objs.size) {s with heap:=d,toks:=tk}):
   wpAny (model f w) A (call (.type "set") [.ref l]) Q E s:=by
  have c:items.size=ks.length:=by have:=r.length;rw[aj,aC]at this;exact this.symm
  refine GB (F:=λd=>∃a,oN f w d s.heap.objs.size a items.size/\∀x,x∈a↔x∈ks) D C (λW k st O _ _ _ L=>?_) λd tk ⟨a,p,m⟩ M=>h d tk a p m M;refine aaK W _ k (λi=>ks.getD i<|.inl 0) (λi v hv=>?_) J _ st (aaF O) λt a z p m=>L t z ⟨a,p,λx=>by rw[m x,c,Bi ks<|.inl 0]⟩;have j:i<ks.length:=by rw[<-c];exact(br.mp hv).1
  have N:(ks.map kV)[i]?=some (kV<|ks.getD i<|.inl 0):=by rw[aE,au j,aW,au j];rfl
  obtain⟨u,q,y⟩:=r.get N;rw[aZ,hv]at q;cases q;exact y
def pU:Slot "set_iterator" "__next__" "set_iterator.__next__":=
 .of (owner:="set_iterator") (n:="__next__") (by rw[hK,fh];kernel_rfl) (by decide+kernel) (by decide+kernel) (by decide+kernel)
  (by first|exact .inl (by decide+kernel)|exact .inr (by decide+kernel)) (by rw[ip];kernel_rfl)
def xY:entryFor table "set_iterator.__next__"=some Builtin.«set_iterator.__next__»:=entryFor_of_tree (by kernel_rfl)
def JL:Manifest.owners.lookup (String.ofList ['r','o','t','a','r','e','t','i','_','t','e','s'].reverse)=some Manifest.sig_set_iterator:=by kernel_rfl
def xD(a):argsOk "set_iterator.__next__" ⟨[a],[]⟩:=by unfold argsOk;rw[signature?_of (id:="set_iterator.__next__") (n:=['_','_','t','x','e','n','_','_']) (o:=['r','o','t','a','r','e','t','i','_','t','e','s']) (by kernel_rfl) JL];kernel_rfl
def Pb:entryFor table "set.__iter__"=some Builtin.«frozenset.__iter__»:=
 entryFor_alias (id':="frozenset.__iter__") (by kernel_rfl) rfl (by decide+kernel) (by kernel_rfl)
theorem CY{a:Type}:∀(l:List a) i (h:i<l.length),(l[i]::l.eraseIdx i).Perm l
 |x::l,0,_=>.refl _
 |x::l,i+1,h=>by
  have c:i<l.length:=by simpa using h
  show(l[i]::x::l.eraseIdx i).Perm (x::l);exact(List.Perm.swap _ _ _).trans (List.Perm.cons x<|CY l i c)
def zL{Q:Bool->Shared->Prop}(h:Q (w.params.followText "set-order") s):wpAny (model f w) A setsByText Q E s:=by unfold setsByText;exact ae (gF<|af h)
def wp_choose{n}{Q:Nat->Shared->Prop}(a:n≠0)(h:∀i d,i<n->Q i {s with drawn:=d}):wpAny (model f w) A (choose src n) Q E s:=λj p c=>by show Sem.wp _ _ (.choose src n .pure) _ _ _ _;rw[Sem.wp_choose];refine⟨a,?_⟩;exact h _ _ (eA _<|Nat.pos_of_ne_zero a)
theorem LS{k:Type}:∀n (xs:List k) {s:Shared} {Q:List k->Shared->Prop},xs.length=n->(∀c d,c.Perm xs->Q c {s with drawn:=d})->wpAny (model f w) A (drawOrder n xs) Q E s
 |0,xs,s,Q,a,h=>by have e:xs=[]:=gG.mp a;subst e;unfold drawOrder;exact af (h [] s.drawn<|.refl _)
 |n+1,[],s,Q,a,h=>by simp at a
 |n+1,x::xs,s,Q,a,h=>by unfold drawOrder;refine ae (wp_choose (by simp) λi d j=>?_);rw[au j];dsimp only;refine ae (LS n ((x::xs).eraseIdx i) (by rw[iq,av j];omega) λc d2 l=>af ?_);refine h _ d2 ?_;exact(List.Perm.cons _ l).trans (CY (x::xs) i j)
def mq(h:Heap)(c:Addr)(first:Value)(i:Nat)(a:Addr)(n d:Nat):Prop:=∃o,h.get? c=some o/\o.cls=.type "set_iterator"/\o.data=.fields #[first,.int i 0,.ref a,.int n 0,.int d 0]
def mP(h:Heap)(a:Addr)(c:Array<|Int×Value)(d:Nat)(t:SetTable):Prop:=∃o,h.get? a=some o/\o.ExactSet/\o.data=.set c d t/\t.fits c.size=true
def mP.at'{h':Heap}{t}(x:mP h a es ep t)(k:∀o,h.get? a=some o->h'.get? a=some o):mP h' a es ep t:=let⟨o,c,r⟩:=x;⟨o,k o c,r⟩
def mq.at'{h':Heap}{n}(x:mq h it first i a n ep)(k:∀o,h.get? it=some o->h'.get? it=some o):mq h' it first i a n ep:=let⟨o,c,r⟩:=x;⟨o,k o c,r⟩
def mq.typeIs{s:Shared}{n}(x:mq s.heap it first i a n ep):s.TypeIs (.ref it) "set_iterator":=let⟨o,c,d,_⟩:=x;⟨o,c,d⟩
variable{y a:Addr}{i z:Nat}{C:Array<|Int×Value}{t:SetTable}
def K1{Q:Option (Value×Nat)->Shared->Prop}(q:w.params.followText "set-order"=false)(l:mP s.heap a C z t)(k:(!t.plain&&decide (C.size>1))=false)(d:t.led=true)
 (h:Q (match C[SetTable.below t.place slot]?,t.place[SetTable.below t.place slot]? with|some (_,x),some j=>some (x,j+1)|_,_=>none) s):wpAny (model f w) A (setNext a slot i z) Q E s:=by obtain⟨o,m,_,p,hf⟩:=l;unfold setNext;refine ae (bR m p hf ?_);dsimp only;refine ae (zL ?_);rw[q];refine aT (λc=>absurd c ax) (λ_=>?_);refine aT (λc=>absurd (show(!t.plain&&decide (C.size>1))=true from c) (by rw[k];exact ax)) (λ_=>?_);refine ae ?_;show wpAny _ _ (if(!t.led&&!C.isEmpty)=true then _ else _) _ _ _;rw[d];refine aT (λc=>absurd (show false=true from c) ax) (λ_=>af ?_);exact af h
def K2{Q:Option (Value×Nat)->Shared->Prop}(k:w.params.followText "set-order"=true)(l:mP s.heap a C z t)
 (h:Q (((pickOrder (w.params.setOrder a z) C)[i]?).map λe=>(e.2,slot)) s):wpAny (model f w) A (setNext a slot i z) Q E s:=by obtain⟨o,d,_,j,hf⟩:=l;unfold setNext;refine ae (bR d j hf ?_);dsimp only;refine ae (zL ?_);rw[k];refine aT (λ_=>?_) (λc=>absurd rfl c);refine aT (λc=>absurd c<|by simp) (λ_=>?_);refine ae ?_;unfold setWalk;refine ae (bR d j hf ?_);dsimp only;refine ae (zL ?_);rw[k];refine aT (λ_=>?_) (λc=>absurd rfl c);refine ae (gF<|af ?_);exact af h
def Ip{slot nx:Nat}{x:Value}{Q:Option Value->Shared->Prop}(hit:mq s.heap y (.int slot 0) i a C.size z)(v:mP s.heap a C z t)
    (D:∀(B:Around) (M:jP) (u:Option (Value×Nat)->Shared->Prop),u (some (x,nx)) s->wpAny (model f w) B (setNext a slot i z) u M s)
    (L:∀r,mq r y (.int nx 0) (i+1) a C.size z->Heap.SameBut y s.heap r->Q (some x) {s with heap:=r}):wpAny (model f w) A (pyNext<|.ref y) Q E s:=by
 obtain⟨o,l,J,h⟩:=id hit;obtain⟨N,j,F,p,m⟩:=id v;unfold pyNext
 refine ae (dc (bH (name:=Str.ofString "__next__") hit.typeIs pU
  (bx pU hit.typeIs xY ?_ (xD _))))
 show wpAny _ _ (fieldsOf (.ref y)>>=_) _ _ s;refine ae (cX l h ?_);show wpAny _ _ (setEntries a>>=_) _ _ s;refine ae (di j p m ?_);refine aT (λq=>absurd q<|by simp) (λ_=>?_);show wpAny _ _ (setNext a (Int.toNat slot) (Int.toNat i) (Int.toNat z)>>=_) _ _ s;rw[bp,bp,bp];refine ae (D _ _ _ ?_);show wpAny _ _ (setField (.ref y) 0 (rawInt nx)>>=_) _ _ s;refine ae (bT l h (by simp) ?_);have d:=aY (Obj.mapFields (·.setIfInBounds 0 (rawInt nx))) l (bN<|bo h _);have c:(Obj.mapFields (·.setIfInBounds 0 (rawInt nx)) o).data=.fields #[rawInt nx,.int i 0,.ref a,.int C.size 0,.int z 0]:=by rw[bo h];simp
 show wpAny _ _ (setField (.ref y) 1 (rawInt<|(i:Int)+1)>>=_) _ _ _;refine ae (bT d c (by simp) ?_);have k:=aY (Obj.mapFields (·.setIfInBounds 1 (rawInt<|(i:Int)+1))) d (bN<|bo c _);show wpAny _ _ (pure _) _ _ _;exact af ⟨_,rfl,af<|L _ ⟨_,k,(c9 ..).trans ((c9 ..).trans J),by rw[bo c];simp[rawInt]⟩<|(bu ..).trans (bu ..)⟩
def Io{c:Nat}{Q:Option Value->Shared->Prop}(x:A.handled=none)(hit:mq s.heap y (.int c 0) i a C.size z)(u:mP s.heap a C z t)
    (v:∀(B:Around) (J:jP) (r:Option (Value×Nat)->Shared->Prop),r none s->wpAny (model f w) B (setNext a c i z) r J s)
    (F:∀q,Heap.ExtBut y s.heap q->Q none {s with heap:=q}):wpAny (model f w) A (pyNext<|.ref y) Q E s:=by
 obtain⟨o,l,M,p⟩:=id hit;obtain⟨L,d,D,j,h⟩:=id u;unfold pyNext
 refine ae (dc (bH (name:=Str.ofString "__next__") hit.typeIs pU
  (bx pU hit.typeIs xY ?_ (xD _))))
 show wpAny _ _ (fieldsOf (.ref y)>>=_) _ _ s;refine ae (cX l p ?_);show wpAny _ _ (setEntries a>>=_) _ _ s;refine ae (di d j h ?_);refine aT (λk=>absurd k<|by simp) (λ_=>?_);show wpAny _ _ (setNext a (Int.toNat c) (Int.toNat i) (Int.toNat z)>>=_) _ _ s;rw[bp,bp,bp];refine ae (v _ _ _ ?_);show wpAny _ _ (setField (.ref y) 2 .none>>=_) _ _ s;refine ae (bT l p (by simp) ?_);show wpAny _ _ (newExc (.type "StopIteration") []>>=_) _ _ _;refine ae ?_;simp only[newExc,newTuple];refine ae (aV ?_ (by size_fits));refine ae (m:=firstArgMember _ _) (f6 (a:=Value.none) (by first|rfl|(simp only[firstArgMember];rfl)) ?_);refine aV ?_ (by size_fits);simp only[raiseNew];refine ae (gh ?_);rw[show A.in1.handled=none from x];refine ae (af<|ik ?_);refine ae (dX (T:="StopIteration") (b:=true) ⟨_,aH _ rfl,rfl⟩ fU ?_);exact af (F _<|((bu ..).extBut.push _).push _)
def Ry{p:Addr}{D:Obj}{x:Array Value}{m q:Nat}{tk:Tok}{e:Int×Value}{Q:Option Value->Shared->Prop}(L:s.heap.get? p=some D)(l:D.data=.seq x m)(hit:mq s.heap y (.ref p) i a C.size z)(F:mP s.heap a C z t)
    (J:x[i]?=some (.int q tk))(N:C[q]?=some e)
    (T:∀v,mq v y (.ref p) (i+1) a C.size z->Heap.SameBut y s.heap v->Q (some e.2) {s with heap:=v}):wpAny (model f w) A (pyNext<|.ref y) Q E s:=by
 obtain⟨o,u,O,k⟩:=id hit;obtain⟨U,d,M,j,h⟩:=id F;unfold pyNext
 refine ae (dc (bH (name:=Str.ofString "__next__") hit.typeIs pU
  (bx pU hit.typeIs xY ?_ (xD _))))
 show wpAny _ _ (fieldsOf (.ref y)>>=_) _ _ s;refine ae (cX u k ?_);show wpAny _ _ (setEntries a>>=_) _ _ s;refine ae (di d j h ?_);refine aT (λc=>absurd c<|by simp) (λ_=>?_);show wpAny _ _ (seqItems? (.ref p)>>=_) _ _ s;refine ae (eP L l ?_);dsimp only;rw[show(Int.toNat (i:Int))=i from bp i,J];show wpAny _ _ (setNextDrawn a (Int.toNat q) (Int.toNat z)>>=_) _ _ s;rw[bp,bp];refine ae ?_;unfold setNextDrawn;refine ae (bR d j h ?_);dsimp only;refine aT (λc=>absurd c<|by simp) (λ_=>?_);rw[N];refine af ?_;show wpAny _ _ (setField (.ref y) 1 (rawInt<|(i:Int)+1)>>=_) _ _ s;refine ae (bT u k (by simp) ?_);have r:=aY (Obj.mapFields (·.setIfInBounds 1 (rawInt<|(i:Int)+1))) u (bN<|bo k _);show wpAny _ _ (pure _) _ _ _;exact af ⟨_,rfl,af<|T _ ⟨_,r,(c9 ..).trans O,by rw[bo k];simp[rawInt]⟩<|bu ..⟩
def Rx{Q:Option Value->Shared->Prop}(J:A.handled=none)(F:s.heap.get? p=some op)(d:op.data=.seq pl m)(hit:mq s.heap y (.ref p) i a C.size z)(x:mP s.heap a C z t)
 (D:pl[i]?=none)(M:∀v,Heap.ExtBut y s.heap v->Q none {s with heap:=v}):wpAny (model f w) A (pyNext<|.ref y) Q E s:=by
  obtain⟨o,k,O,c⟩:=id hit;obtain⟨N,h,L,q,l⟩:=id x;unfold pyNext
  refine ae (dc (bH (name:=Str.ofString "__next__") hit.typeIs pU
   (bx pU hit.typeIs xY ?_ (xD _))))
  show wpAny _ _ (fieldsOf (.ref y)>>=_) _ _ s;refine ae (cX k c ?_);show wpAny _ _ (setEntries a>>=_) _ _ s;refine ae (di h q l ?_);refine aT (λu=>absurd u<|by simp) (λ_=>?_);show wpAny _ _ (seqItems? (.ref p)>>=_) _ _ s;refine ae (eP F d ?_);dsimp only;rw[show(Int.toNat (i:Int))=i from bp i,D];show wpAny _ _ (setField (.ref y) 0 (rawInt 0)>>=_) _ _ s;refine ae (bT k c (by simp) ?_);have j:=aY (Obj.mapFields (·.setIfInBounds 0 (rawInt 0))) k (bN<|bo c _);have r:(Obj.mapFields (·.setIfInBounds 0 (rawInt 0)) o).data=.fields #[rawInt 0,.int i 0,.ref a,.int C.size 0,.int z 0]:=by rw[bo c];simp
  show wpAny _ _ (setField (.ref y) 2 .none>>=_) _ _ _;refine ae (bT j r (by simp) ?_);show wpAny _ _ (newExc (.type "StopIteration") []>>=_) _ _ _;refine ae ?_;simp only[newExc,newTuple];refine ae (aV ?_ (by size_fits));refine ae (m:=firstArgMember _ _) (f6 (a:=Value.none) (by first|rfl|(simp only[firstArgMember];rfl)) ?_);refine aV ?_ (by size_fits);simp only[raiseNew];refine ae (gh ?_);rw[show A.in1.handled=none from J];refine ae (af<|ik ?_);refine ae (dX (T:="StopIteration") (b:=true) ⟨_,aH _ rfl,rfl⟩ fU ?_);exact af (M _<|(((bu ..).trans (bu ..)).extBut.push _).push _)
end
def K7:Slot "set_iterator" "__iter__" "set_iterator.__iter__":=
 .of (owner:="set_iterator") (n:="__iter__") (by rw[hK,fh];kernel_rfl) (by decide+kernel) (by decide+kernel) (by decide+kernel)
  (by first|exact .inl (by decide+kernel)|exact .inr (by decide+kernel)) (by rw[ip];kernel_rfl)
def Pc:entryFor table "set_iterator.__iter__"=some Builtin.«dict_keyiterator.__iter__»:=
 entryFor_alias (id':="dict_keyiterator.__iter__") (by kernel_rfl) rfl (by decide+kernel) (by kernel_rfl)
def Nm(a):argsOk "set_iterator.__iter__" ⟨[a],[]⟩:=by unfold argsOk;rw[signature?_of (id:="set_iterator.__iter__") (n:=['_','_','r','e','t','i','_','_']) (o:=['r','o','t','a','r','e','t','i','_','t','e','s']) (by kernel_rfl) JL];kernel_rfl
def BB{w}{s:Shared}{n}{Q:jP}(hit:mq s.heap it first i a n ep)(h:Q (.ref it) s):wpAny (model prog w) A (pyIter<|.ref it) Q E s:=by refine eJ hit.typeIs K7 (bx K7 hit.typeIs Pc ?_ (Nm _));show wpAny _ _ (ret<|.ref it) _ _ s;exact af ⟨_,rfl,"set_iterator",_,hit.typeIs,pU.lookup,h⟩
theorem Kc{h:Type}(f):∀a k (left:List h) out,left.length=a->(pickOrder.go f a k left out).toList.Perm (out.toList++left)
 |0,k,left,out,d=>by have e:left=[]:=gG.mp d;subst e;show out.toList.Perm (out.toList++[]);rw[bf]
 |a+1,k,left,out,d=>by unfold pickOrder.go;have c:f k%left.length<left.length:=eA _ (by omega);rw[au c];dsimp only;refine(Kc f a (k+1) _ _<|by rw[iq,av c];omega).trans ?_;rw[Array.toList_push,bS];exact List.Perm.append_left _ (CY left _ c)
def CZ{c:Type}(f:Nat->Nat)(a:Array c):(pickOrder f a).toList.Perm a.toList:=by have:=Kc f a.size 0 a.toList #[] (by simp);simpa [pickOrder]using this
def slotAt(place:Array Nat)(i:Nat):Nat:=if i=0 then 0 else place.getD (i - 1) 0+1
def Gj{place}(h:lZ place):∀i,i<=place.size->SetTable.below place (slotAt place i)=i
 |0,_=>Ny h
 |i+1,a=>by
  have e:slotAt place (i+1)=place[i]+1:=by unfold slotAt;rw[aw<|by omega,fS];simp[Array.getD,show i<place.size by omega]
  rw[e];exact Nx h (by omega)
section
variable{f:Program}{w:World}{A:Around}{E:jP}{s:Shared}{a:Addr}{C:Nat}{c:Array<|Int×Value}{t:SetTable}
def LQ(F:A.handled=none)(d:w.params.followText "set-order"=false)(I)(ne:a≠I)(k:lZ t.place)(L:t.place.size=c.size)(n:(!t.plain&&decide (c.size>1))=false)(j:t.led=true):
    Walks f w A I [I,a] [I] c.size (λi v=>(c.toList.map Prod.snd)[i]?=some v) (λi h=>mq h I (.int (slotAt t.place i) 0) i a c.size C/\mP h a c C t) where
 sub:=λb d=>by simp at d;simp[d]
 frame:=λ_ _ _ st z=>⟨st.1.at' λo e=>z I (by simp) o e,st.2.at' λo e=>z a (by simp) o e⟩
 item:=λi s Q E D st p=>by
  have y:i<t.place.size:=by omega
  refine Ip (slot:=slotAt t.place i) (nx:=slotAt t.place<|i+1) (x:=c[i].2) st.1 st.2 (λB J G q=>K1 d st.2 n j ?_) λu m l=>?_
  ·rw[Gj k i<|by omega,aJ D,aJ y];have e:slotAt t.place (i+1)=t.place[i]+1:=by
    unfold slotAt;rw[aw<|by omega,fS];simp[Array.getD,y]
   rw[e]at q;exact q
  ·exact p _ u s.toks (by rw[aE,aZ,aJ D];rfl) ⟨m,st.2.at' λo e=>l.extBut a o ne e⟩ λb o d e=>l.extBut b o (λh=>d<|by simp[h]) e
 done:=λs Q E st p=>by refine Io F st.1 st.2 (λB J G q=>K1 d st.2 n j ?_) λu r=>p u s.toks λb o d e=>r b o (λh=>d<|by simp[h]) e;rw[Gj k c.size<|by omega,cu<|ag _];exact q
 self:=λi s Q E st p=>BB st.1 p
def acg(y:A.handled=none)(d:w.params.followText "set-order"=true)(I:Addr)(ne:a≠I):
    Walks f w A I [I,a] [I] c.size (λi v=>((pickOrder (w.params.setOrder a C) c).toList.map Prod.snd)[i]?=some v) (λi h=>mq h I (.int (0:Nat) 0) i a c.size C/\mP h a c C t) where
 sub:=λb d=>by simp at d;simp[d]
 frame:=λ_ _ _ st u=>⟨st.1.at' λo e=>u I (by simp) o e,st.2.at' λo e=>u a (by simp) o e⟩
 item:=λi s Q E F st l=>by
  have m:(pickOrder (w.params.setOrder a C) c).size=c.size:=by have:=(CZ (w.params.setOrder a C) c).length_eq;simpa using this
  have r:i<(pickOrder (w.params.setOrder a C) c).size:=by omega
  refine Ip (slot:=0) (nx:=0) (x:=(pickOrder (w.params.setOrder a C) c)[i].2) st.1 st.2 (λB D z q=>K2 d st.2 ?_) λp k j=>?_
  ·rw[aJ r];exact q
  ·exact l _ p s.toks (by rw[aE,aZ,aJ r];rfl) ⟨k,st.2.at' λo e=>j.extBut a o ne e⟩ λb o d e=>j.extBut b o (λh=>d<|by simp[h]) e
 done:=λs Q E st l=>by
  have m:(pickOrder (w.params.setOrder a C) c).size=c.size:=by have:=(CZ (w.params.setOrder a C) c).length_eq;simpa using this
  refine Io y st.1 st.2 (λB D z q=>K2 d st.2 ?_) λp n=>l p s.toks λb o d e=>n b o (λh=>d<|by simp[h]) e;rw[cu<|by omega];exact q
 self:=λi s Q E st l=>BB st.1 l
def acf(P:A.handled=none)(I p)(ne:a≠I)(O:p≠I){d:List Nat}(k:d.Perm<|List.range c.size):
    Walks f w A I [I,a,p] [I] c.size (λi v=>(d.map λq=>(c.getD q (0,.none)).2)[i]?=some v) (λi h=>mq h I (.ref p) i a c.size C/\mP h a c C t/\∃j m,h.get? p=some j/\j.data=.seq (d.map λ(i:Nat)=>rawInt i).toArray m) where
 sub:=λb r=>by simp at r;simp[r]
 frame:=λ_ _ _ st G=>⟨st.1.at' λo e=>G I (by simp) o e,st.2.1.at' λo e=>G a (by simp) o e,let⟨j,m,x,u⟩:=st.2.2;⟨j,m,G p (by simp) j x,u⟩⟩
 item:=λi s Q E R st z=>by
  obtain⟨F,D,j,m,x,u⟩:=st;have N:d.length=c.size:=by have:=k.length_eq;simpa using this
  have n:i<d.length:=by omega
  have M:d[i]<c.size:=by have:=k.mem_iff.mp (bZ n);simpa using this
  refine Ry (q:=d[i]) (tk:=0) (e:=c[d[i]]) x u F D (by simp[n,rawInt]) (aJ M) λL y l=>?_;exact z _ L s.toks (by rw[aE,au n];simp[Array.getD,M]) ⟨y,D.at' λo e=>l.extBut a o ne e,j,m,l.extBut p j O x,u⟩ λb o r e=>l.extBut b o (λh=>r<|by simp[h]) e
 done:=λs Q E st z=>by
  obtain⟨F,D,j,m,x,u⟩:=st;have N:d.length=c.size:=by have:=k.length_eq;simpa using this
  exact Rx P x u F D (by simp[N]) λL J=>z L s.toks λb o r e=>J b o (λh=>r<|by simp[h]) e
 self:=λi s Q E st z=>BB st.1 z
def Wh{h:List Nat}(d:h.Perm<|List.range c.size):(h.map λq=>(c.getD q (0,.none)).2).Perm (c.toList.map Prod.snd):=by
 refine(d.map _).trans ?_;have:(List.range c.size).map (λq=>(c.getD q (0,.none)).2)=c.toList.map Prod.snd:=by
  apply gz;·simp
  ·intro i j k;have:i<c.size:=by simpa using j
   simp[Array.getD,this]
 rw[this]
def aaI{Q:jP}(Y:mP s.heap a c C t)(tok:nH (w.params.followText "set-order") t)(hn:c.size<=sizeLine)
    (R:∀(U:Heap) (d:Drawn) (J:Addr) (fp:List Addr) (I:List Value) (St:Nat->Heap->Prop),J∈fp->s.heap.objs.size<=J->(∀b∈fp,(b=a\/s.heap.objs.size<=b)/\b<U.objs.size)->I.Perm (c.toList.map Prod.snd)->
      (∀B:Around,B.handled=none->Walks f w B J fp [J] c.size (λi v=>I[i]?=some v) St)->St 0 U->(∀b o,s.heap.get? b=some o->U.get? b=some o)->Q (.ref J) {s with heap:=U,drawn:=d}):
    wpAny (model f w) A (pyIter<|.ref a) Q E s:=by
 obtain⟨o,F,hex,P,hf⟩:=id Y;have hT:s.TypeIs (.ref a) "set":=⟨o,F,hex.1⟩;have l:a<s.heap.objs.size:=Heap.lt_size F;have L:t.place.size=c.size:=by simp only[SetTable.fits,aQ,dN]at hf;exact hf.1
 refine eJ hT hY (bx hY hT Pb ?_ (PySem.F.args_set_iter_1 _));unfold Builtin.«frozenset.__iter__»;refine ae (m:=Builtin.Frozenset.slot0 _ _) (af ?_);refine ae ?_;unfold Builtin.Frozenset.sizeOf;refine ae (di F P hf<|af ?_);refine ae ?_;unfold setDrawn;refine ae (bR F P hf ?_);dsimp only;refine ae (zL<|af ?_);have n:∀(h:(!(w.params.followText "set-order")&&(!t.plain&&decide (c.size>1)))=false),wpAny (model f w) A.in1 (setEpoch a>>=λe=>newFields "set_iterator" [rawInt 0,rawInt 0,.ref a,rawInt c.size,rawInt e]>>=λv=>ret v) (λfin s'=>∃v,fin=.done (.ret v)/\∃T,∃x,s'.TypeIs v T/\typeLookup (.type T) "__next__"=pure (some x)/\Q v s') E s:=λh=>by
  refine ae (wpAny_setEpoch_of F P hf ?_);refine ae (aV ?_);have hit:mq (s.heap.push {cls:=.type "set_iterator",data:=.fields [rawInt 0,rawInt 0,.ref a,rawInt c.size,rawInt C].toArray}) s.heap.objs.size (.int (0:Nat) 0) 0 a c.size C:=⟨_,aH _ rfl,rfl,rfl⟩;refine af ⟨_,rfl,"set_iterator",_,mq.typeIs (s:={s with heap:=_}) hit,pU.lookup,?_⟩;have ne:a≠s.heap.objs.size:=aU l;have q:mP (s.heap.push {cls:=.type "set_iterator",data:=.fields [rawInt 0,rawInt 0,.ref a,rawInt c.size,rawInt C].toArray}) a c C t:=Y.at' λo e=>ah _ e;have z:∀b∈[s.heap.objs.size,a],(b=a\/s.heap.objs.size<=b)/\b<(s.heap.push {cls:=.type "set_iterator",data:=.fields [rawInt 0,rawInt 0,.ref a,rawInt c.size,rawInt C].toArray}).objs.size:=λb j=>by
   rw[cq];rcases aD.mp j with rfl|j;·exact⟨.inr<|ag _,bU _⟩
   ·rw[aP.mp j];exact⟨.inl rfl,b9 l⟩
  cases j:w.params.followText "set-order" with
  |true=>exact R _ s.drawn _ _ _ _ (.head _) (ag _) z ((CZ (w.params.setOrder a C) c).map _) (λB u=>acg u j _ ne) ⟨hit,q⟩ λb o e=>ah _ e
  |false=>
   rw[j]at h;have G:t.led=true:=by rw[tok.led,j];rfl
   by_cases O:t.plain=true;·exact R _ s.drawn _ _ _ _ (.head _) (ag _) z (.refl _) (λB u=>LQ (t:=t) u j _ ne (tok.pO O) L (by simpa using h) G) ⟨hit,q⟩ λb o e=>ah _ e
   ·have h1:c.size<=1:=by
     have Z:t.plain=false:=by simpa using O
     rw[Z]at h;simpa using h
    have V:lZ t.place:=by
     unfold lZ;match hx:t.place.toList with
     |[]=>exact .nil
     |[x]=>exact gx _ _
     |x::y::r=>have:=bD List.length hx;rw[aC]at this;simp at this;omega
    exact R _ s.drawn _ _ _ _ (.head _) (ag _) z (.refl _) (λB u=>LQ (t:=t) u j _ ne V L (by simpa using h) G) ⟨hit,q⟩ λb o e=>ah _ e
 refine aT (λN=>?_) (λN=>?_)
 ·refine ae (LS c.size (List.range c.size) (by simp) λD d p=>?_);have hl:D.length=c.size:=by have:=p.length_eq;simpa using this
  refine ae (wpAny_newTuple ?_ (by rw[aj,hl];exact hn));have QU:(s.heap.push<|seqObj "tuple" (D.map λ(i:Nat)=>rawInt i).toArray 0).get? a=some o:=ah _ F;refine ae (wpAny_setEpoch_of (s:={s with heap:=s.heap.push<|seqObj "tuple" (D.map λ(i:Nat)=>rawInt i).toArray 0,drawn:=d}) QU P hf ?_);refine ae (aV ?_);have k:(s.heap.push<|seqObj "tuple" (D.map λ(i:Nat)=>rawInt i).toArray 0).objs.size=s.heap.objs.size+1:=size_push' ..;generalize hg:s.heap.push (seqObj "tuple" (D.map λ(i:Nat)=>rawInt i).toArray 0)=g at*;have O:g.get? s.heap.objs.size=some (seqObj "tuple" (D.map λ(i:Nat)=>rawInt i).toArray 0):=by rw[<-hg];exact aH _ rfl
  have kp:∀b o,s.heap.get? b=some o->g.get? b=some o:=λb o e=>by rw[<-hg];exact ah _ e
  have hit:mq (g.push {cls:=.type "set_iterator",data:=.fields [.ref s.heap.objs.size,rawInt 0,.ref a,rawInt c.size,rawInt C].toArray}) g.objs.size (.ref s.heap.objs.size) 0 a c.size C:=⟨_,aH _ rfl,rfl,rfl⟩;refine af ⟨_,rfl,"set_iterator",_,mq.typeIs (s:={s with heap:=_,drawn:=d}) hit,pU.lookup,?_⟩;refine R _ d g.objs.size [g.objs.size,a,s.heap.objs.size] _ _ (.head _) (by rw[k];exact cU _) (λb j=>?_) (Wh p) (λB u=>acf u _ _ (by rw[k];exact aU (b9 l)) (by rw[k];exact aU (bU _)) p) ⟨hit,Y.at' λo e=>ah _ (kp a o e),_,0,ah _ O,rfl⟩ λb o e=>ah _ (kp b o e);rw[cq,k];simp only[aD,cm,fA]at j;rcases j with rfl|rfl|rfl;·rw[k];exact⟨.inr<|cU _,bU _⟩
  ·exact⟨.inl rfl,b9<|b9 l⟩
  ·exact⟨.inr<|ag _,b9<|bU _⟩
 ·have M:(!(w.params.followText "set-order")&&(!t.plain&&decide (c.size>1)))=false:=Bool.eq_false_iff.mpr N;exact ae (af<|n M)
def NF:bootBuiltins "set"=some (.type "set"):=by decide+kernel
def aaH{Q:Bool->Shared->Prop}(hT:s.TypeIs (.ref r) "set")(h:Q false s):wpAny (model f w) A (Builtin.List.listLengthHint<|.ref r) Q E s:=by
 unfold Builtin.List.listLengthHint;refine ae (hI hT PySem.F.slot_set_len.lookup ?_);generalize i:("set.__len__":String)=Rc
 wp_delta
 rw[show splitId Rc=some ("set","__len__")from by subst i;decide+kernel];subst i;refine ae (dX (T:="set") (b:=true) hT (by rw[ip];kernel_rfl) ?_);refine aT (λd=>absurd d<|by decide) (λ_=>?_);refine aT (λ_=>?_) (λd=>absurd (by decide+kernel) d);refine ae (dR hT ?_);exact af h
def aaG{Q:List Value->Shared->Prop}(hh:A.handled=none)(hr:mP s.heap a c C t)(tok:nH (w.params.followText "set-order") t)(hn:c.size<=sizeLine)
 (hQ:∀(h':Heap) tk d (us:List Value),us.Perm (c.toList.map Prod.snd)->(∀b o,s.heap.get? b=some o->h'.get? b=some o)->s.heap.objs.size<=h'.objs.size->Q us {s with heap:=h',toks:=tk,drawn:=d}):wpAny (model f w) A (collect<|.ref a) Q E s:=by
  obtain⟨o,Z,G,hd,hf⟩:=id hr;have D:a<s.heap.objs.size:=Heap.lt_size Z;unfold collect;refine ae (wpAny_runValue<|cy PySem.F.entry_proto_collect ?_);rw[cn PySem.F.plain_proto_collect _];show wpAny _ A.in1 (newList []>>=λl=>again<|.builtin "list.__iadd__" ⟨[l,.ref a],[]⟩) _ _ s;refine ae (aV ?_);refine af ⟨d9 gH _,cy PySem.F.entry_list_iadd ?_⟩;rw[cn gH _];show wpAny _ A.in1 (Builtin.List.listExtendWith (.ref s.heap.objs.size) (.ref a)<|.ref s.heap.objs.size) _ _ _;have v:(s.heap.push {cls:=.type "list",data:=.seq ([]:List Value).toArray}).get? s.heap.objs.size=some {cls:=.type "list",data:=.seq #[]}:=aH _ rfl;have x:(s.heap.push {cls:=.type "list",data:=.seq ([]:List Value).toArray}).objs.size=s.heap.objs.size+1:=cq ..;have L:∀b o,s.heap.get? b=some o->(s.heap.push {cls:=.type "list",data:=.seq ([]:List Value).toArray}).get? b=some o:=λb o e=>ah _ e;generalize s.heap.push {cls:=.type "list",data:=.seq ([]:List Value).toArray}=g at*;have Y:mP g a c C t:=hr.at' λo e=>L a o e;have Qj:Shared.TypeIs {s with heap:=g} (.ref a) "set":=⟨o,L a o Z,G.1⟩;unfold Builtin.List.listExtendWith;refine ae (dR (T:="set") Qj ?_);have h1:Builtin.List.listSameRef (.ref s.heap.objs.size) (.ref a)=false:=by simp[Builtin.List.listSameRef,dq D]
  rw[aw<|by rw[h1];decide];refine ae (aaI (s:={s with heap:=g}) Y tok hn λO d it fp r St ade QA hfp q W R V=>?_);have p:=V _ _ v;have I:s.heap.objs.size∉fp:=λM=>by
   rcases(hfp _ M).1 with z|z;·exact absurd z (dq D)
   ·exact absurd (show g.objs.size<=s.heap.objs.size from z) (by rw[x];exact Nat.not_succ_le_self _)
  have Qk:Shared.TypeIs {s with heap:=O,drawn:=d} (.ref a) "set":=⟨o,V a o<|L a o Z,G.1⟩;refine ae (bE<|aaH Qk ?_);refine aT (λ_=>?_) (λvS=>absurd (by decide) vS);refine ae (gK ?_);refine ae ?_;show wpAny _ _ (updateSeq s.heap.objs.size (·.push .none)>>=λ_=>updateSeq s.heap.objs.size (·.pop)) _ _ _;refine ae (wpAny_updateSeq p rfl ?_);have n:=aY (Obj.mapSeq (·.push Value.none)) p rfl;refine wpAny_updateSeq (hz:=by seq_fits) n rfl ?_;have u:=aY (Obj.mapSeq (·.pop)) n rfl
  have y:∀b o,b≠s.heap.objs.size->O.get? b=some o->((O.update s.heap.objs.size (Obj.mapSeq (·.push Value.none))).update s.heap.objs.size (Obj.mapSeq (·.pop))).get? b=some o:=
   λb o N e=>(bK _ _<|bP N).trans ((bK _ _<|bP N).trans e)
  have W1:=W A.in1 hh;have P:St 0 ((O.update s.heap.objs.size (Obj.mapSeq (·.push Value.none))).update s.heap.objs.size (Obj.mapSeq (·.pop))):=W1.frame 0 _ _ R λb N o e=>y b o (λh=>I<|h▸N) e;refine af ⟨d9 PySem.F.plain_extend_loop _,codeAny_extend_loopS W1.toS hn _ I _ c.size 0 _ #[] _ rfl (bM _) P u (ItemsOf.nil _) λU i c' M J m=>?_⟩;show wpAny _ A (load s.heap.objs.size>>=_) _ _ U;refine ae (wpAny_load J ?_);show wpAny _ _ (pure i.toList) _ _ _;have lp:r.length=c.size:=by have:=q.length_eq;simpa using this
  have ea:i.toList=r:=by
   apply List.ext_getElem?;intro j;rw[aZ];by_cases hj:j<c.size
   ·have h3:j<i.size:=by rw[m.1];exact hj
    rw[m.2 j i[j] (by simp[h3])];simp[h3]
   ·rw[cu<|by rw[m.1];omega,eU<|by omega]
  rw[ea];rw[Moved.eq_with M];refine af (hQ U.heap U.toks d r q (λb o e=>M.heap b o (λk=>?_)<|y b o (aU<|Heap.lt_size e)<|V b o<|L b o e)<|cI<|Heap.lt_size J);rcases aD.mp k with e'|k;·exact absurd (Heap.lt_size e) (by rw[e'];exact cH _)
  ·have e2:=aP.mp k;have F:g.objs.size<=it:=QA;exact absurd (Heap.lt_size e) (by rw[e2];exact Nat.not_lt.mpr (aS (by rw[x];exact cU _) F))
def aa2{Gd:List Value->Prop}{G:Array Value->Prop}{Q:jP}(J:A.handled=none)
 (r:∀(B:Around) (z:List Value->Shared->Prop),B.handled=none->(∀j tk d h,Gd h->(∀b o,s.heap.get? b=some o->j.get? b=some o)->s.heap.objs.size<=j.objs.size->z h {s with heap:=j,toks:=tk,drawn:=d})->wpAny (model f w) B (collect<|.ref l) z E s)
 (D:∀h,Gd h->h.length<=sizeLine)(P:∀h,Gd h->h.length<2->G h.toArray)
 (O:∀h,Gd h->2<=h.length->∀t:Shared,(∀b o,s.heap.get? b=some o->t.heap.get? b=some o)->xo f w G h t)
 (k:∀(out:Array Value) p (j:Heap) tk e d,out.size<=sizeLine->G out->s.heap.objs.size<=p->(∀b o,s.heap.get? b=some o->j.get? b=some o)->j.get? p=some (seqObj "list" out e)->Q (.ref p) {s with heap:=j,toks:=tk,drawn:=d}):wpAny (model f w) A (call (.builtin "sorted") [.ref l]) Q E s:=by
  refine call_function_entry kind_sorted plain_sorted entry_sorted (args_sorted1 _) ?_;unfold Builtin.«sorted»;refine ae (m:=checkCount "sorted" 1 1 _) (af ?_);apply ae;refine r _ _ J λg tk d h x v n=>?_;have i:=D h x;apply ae;refine wpAny_newList ?_ i;have here:(g.push<|seqObj "list" h.toArray 0).get? g.objs.size=some (seqObj "list" h.toArray 0):=aH _ rfl
  have kp:∀b o,s.heap.get? b=some o->b≠g.objs.size/\(g.push<|seqObj "list" h.toArray 0).get? b=some o:=λb o q=>⟨aU<|aF (Heap.lt_size q) n,ah _<|v b o q⟩
  refine ae (bE<|bx slot_list_sort ⟨_,here,rfl⟩ entry_list_sort (Lf (s:={s with heap:=g.push<|seqObj "list" h.toArray 0,toks:=tk,drawn:=d}) here i (P h x) (λN t F=>O h x N t λb o q=>F b o (kp b o q).1 (kp b o q).2) λout I M=>⟨_,rfl,?_⟩)<|args_list_sort _);refine af ⟨_,rfl,?_⟩;have R:=get?_update_seq here (λ_=>(#[]:Array Value));have u:∀b o,b≠g.objs.size->(g.push<|seqObj "list" h.toArray 0).get? b=some o->(sortedHeap (g.push<|seqObj "list" h.toArray 0) g.objs.size h out).get? b=some o:=λb o y q=>by show((((((g.push<|seqObj "list" h.toArray 0).update g.objs.size (Obj.mapSeq λ_=>(#[]:Array Value))).push (seqObj "tuple" h.toArray 0)).push (seqObj "list" #[] 0)).update g.objs.size (Obj.mapSeq λ_=>out))).get? b=some o;rw[d4 _ _ _ _ y];refine ah _ (ah _ ?_);rw[d4 _ _ _ _ y];exact q
  have new:∃e,(sortedHeap (g.push<|seqObj "list" h.toArray 0) g.objs.size h out).get? g.objs.size=some (seqObj "list" out e):=by exact⟨_,get?_update_seq (ah (seqObj "list" #[] 0)<|ah (seqObj "tuple" h.toArray 0) R)<|λ_=>out⟩
  obtain⟨e,L⟩:=new;exact k out g.objs.size _ tk e d (by rw[I];exact i) M n (λb o q=>u b o (kp b o q).1 (kp b o q).2) L
end
def dd:List Key->List Key
 |[]=>[]
 |k::r=>if(r.any λj=>decide<|j=k)=true then dd r else k::dd r
def F4{k}{r:List Key}:(r.any λj=>decide<|j=k)=true↔k∈r:=by rw[cV];exact⟨λ⟨x,a,e⟩=>by rw[<-bQ e];exact a,λh=>⟨k,h,aN rfl⟩⟩
theorem tr(x):∀a:List Key,x∈dd a↔x∈a
 |[]=>Iff.rfl
 |k::r=>by
  unfold dd;by_cases h:(r.any λj=>decide<|j=k)=true
  ·rw[av h,tr x r,aD];exact⟨.inr,λz=>z.elim (λz=>by rw[z];exact F4.mp h) id⟩
  ·rw[aw h,aD,aD,tr x r]
theorem BZ:∀a:List Key,(dd a).Nodup
 |[]=>.nil
 |k::r=>by
  unfold dd;by_cases h:(r.any λj=>decide<|j=k)=true;·rw[av h];exact BZ r
  ·rw[aw h];exact bC.mpr ⟨λz=>h<|F4.mpr<|(tr k r).mp z,BZ r⟩
theorem IT:∀a:List Key,(dd a).length<=a.length
 |[]=>ag _
 |k::r=>by
  have d:=IT r;have c:(k::r).length=r.length+1:=rfl;unfold dd;split;·omega
  ·rw[aq];omega
theorem yZ{f:Type}[DecidableEq f]:∀{d c:List f},d.Nodup->c.Nodup->(∀x,x∈d↔x∈c)->d.Perm c
 |[],c,_,_,h=>by
  cases c with
  |nil=>exact .refl _
  |cons y r=>exact absurd ((h y).mpr (.head _)) (by simp)
 |a::l,c,n,i,h=>by
  have o:=(h a).mp (.head _);obtain⟨m,k⟩:=bC.mp n;refine(List.Perm.cons a<|yZ k (i.erase a) λx=>?_).trans (ir o).symm;rw[i.mem_erase_iff];constructor
  ·intro j;exact⟨λe=>m<|by rw[<-e];exact j,(h x).mp (.tail _ j)⟩
  ·rintro ⟨q,p⟩
   rcases aD.mp ((h x).mpr p)with e|e;·exact absurd e q
   ·exact e
def vD(v:Value):D:=kD (vK v)
def Py(h:rf v):qE hp v (vD v):=by
 unfold rf at h;cases v with
 |int i t=>rfl
 |str x t=>rfl
 |_=>obtain⟨t,e⟩:=(show∃t,_=Value.int 0 t from h);cases e
theorem Iq:∀a:List Value,(∀v∈a,rf v)->mH h a (a.map vD)
 |[],_=>.nil
 |u::a,H=>.cons (Py<|H u<|.head _) (Iq a λv hv=>H v<|.tail _ hv)
theorem LI:∀a:List Value,(∀v∈a,rf v)->Vals ((a.map vK).map kV) a
 |[],_=>.nil
 |u::a,H=>.cons (H u<|.head _) (LI a λv hv=>H v<|.tail _ hv)
def RW{d k}(h:nu d=some k):kD k=d:=by
 cases d with
 |int i=>cases h;rfl
 |str x=>cases h;rfl
 |_=>cases h
theorem BG:∀{c} {a},ly c=some a->a.map kD=c
 |[],_,h=>by cases h;rfl
 |d::r,_,h=>by obtain⟨k,j,i⟩:=aL.mp h;obtain⟨a,f,rfl⟩:=aB.mp i;rw[aR,RW j,BG f]
def QW(h:∀d∈ds,kg d=some sg):mS ds=true:=by
 cases ds with
 |nil=>rfl
 |cons d r=>show((kg d).isSome&&r.all λe=>kg e==kg d)=true;rw[h d<|.head _,aQ];exact⟨rfl,cF.mpr λe a=>by rw[h e<|.tail _ a];simp⟩
def Lb{f:List D}(h:f.Perm es)(a:∀d∈es,kg d=some sg):kI f=kI es:=
 C9 ((nC _).trans (h.trans (nC _).symm)) (λd c=>a d<|h.mem_iff.mp<|(nC _).mem_iff.mp c) (uS λd c=>a d<|h.mem_iff.mp c) (uS a)
def aaY{a:List D}(h:a.length<2):kI a=a:=by
 match a,h with
 |[],_=>rfl
 |[d],_=>rfl
 |_::_::r,w=>simp at w;omega
def nT:D->R (List D)
 |.lst ds=>match ly ds with
  |some a=>if mS ds=true/\ds.length<64 then .ok (kI<|(dd a).map kD)else .bad
  |none=>.bad
 |_=>.bad
variable{X:Cx}{E:XK}{e:Expr}{Y:TE}{f:jq}{U O N M:Pos}
def J2{C:V->Hp->VK->Prop}(J:PE X e Y)(G:Gl X "sorted")(F:X.mg "sorted"=none)(o:Gl X "set")(n:X.mg "set"=none)
 (L:∀a k σ c x u Q,Inv X a σ c k->RelV x u->C x c Q->wpAny (model X.prog X.w) X.A (call (.type "set") [u]) (λv r=>wpAny (model X.prog X.w) X.A (call (.builtin "sorted") [v]) (EP X a σ Q) X.xe r) X.xe k)
 (t:X.se e [])(m:X.bk M [])
 (i:starEach [.Call (.Name "set" O) [e] [] M] X.env=(false,eval (.Call (.Name "set" O) [e] [] M) X.env)::starEach [] X.env)(j:X.bk N []):
   PE X (.Call (.Name "sorted" U) [.Call (.Name "set" O) [e] [] M] [] N) (λσ H Q=>Y σ H λw c=>∃x,[w]=[x]/\C x c Q):=by
  intro a s σ H Q I h;refine cf (rM I G F Gx ?_ (by decide) (by decide));refine dj ?_ i j;rw[i];show wpAny _ _ (spliced<|(false,eval (.Call (.Name "set" O) [e] [] M) X.env)::backTo N (starEach [] X.env)) _ _ s;refine dr ?_;refine cf (rM I o n NF ?_ (by decide) (by decide));have p:PA X [e] (zz Y zA):=rS J rT t;refine cS (jh (p M a s σ H (λd c=>∃x,d=[x]/\C x c Q) I h) λR k l=>?_) t m;obtain⟨d,c,P,A,D⟩:=l;obtain⟨x,rfl,q⟩:=D;obtain⟨u,rfl,y⟩:=vals1 A;exact bq (L _ _ _ _ _ _ _ P y q) (λv r z=>eE z) λ_ _ z=>z
def Lg{Q:VK}(hc:X.calm=true)(C:Inv X pins σ H1 s2){t}(R:mP s2.heap a es ep t)(tok:nH (X.w.params.followText "set-order") t)(hz:es.size<=sizeLine)
 {Gd:Value->Prop}{dv}(u:∀d∈DD,kg d=some sg)(k:∀c:List Value,c.Perm (es.toList.map Prod.snd)->(∀v∈c,Gd v)/\(c.map dv).Perm DD/\c.length<64)
 (j:∀c:List Value,(∀v∈c,Gd v)->Vals (c.map rv) c/\i9 X.K al H1 (c.map rv) (c.map dv))(Z:∀t':Shared,(∀b o,s2.heap.get? b=some o->t'.heap.get? b=some o)->∀c:List Value,(∀v∈c,Gd v)->mH t'.heap c (c.map dv))
 (q:∀p h,H1 p=none->i9 X.K al H1 h (kI DD)->Q (.ref p) (upd H1 p<|.lst h)):wpAny (model X.prog X.w) X.A (call (.builtin "sorted") [.ref a]) (EP X pins σ Q) X.xe s2:=by
  have sl:=c7
  refine aa2 (A:=X.A) (s:=s2) (Gd:=λc=>c.Perm<|es.toList.map Prod.snd) (G:=λout=>∃h,Vals h out.toList/\i9 X.K al H1 h (kI DD)) (C.ok.hd hc)
   (λB Q' hB hq=>aaG hB R tok hz λI T d c n e2 s2=>hq I T d c n e2 s2)
   (λc n=>by have:=(k c n).2.2;omega) (λc n I=>?_) (λc n I t' kp B=>?_) λout p h3 D Pf d hz3 hG l F Qv=>?_
  ·obtain⟨P,L,_⟩:=k c n;obtain⟨g1,g2⟩:=j c P;refine⟨c.map rv,by simpa using g1,?_⟩;rw[<-Lb L u,aaY (by rw[aj];exact I)];exact g2
  ·obtain⟨P,L,V⟩:=k c n;have:=Le (prog:=X.prog) (w:=X.w) (s:=t') (Z t' kp c P) (QW λd hd=>u d<|L.mem_iff.mp hd) I V B;refine bq this (λκ t1 hk=>⟨hk.1,bq hk.2 (λr t2 z=>⟨z.1,z.2.1,z.2.2.1,?_⟩) λ_ _ x=>x⟩) λ_ _ x=>x;obtain⟨J,g1,g2,g3⟩:=z.2.2.2;have y:=Ih g1;rw[aj]at y;have fo:∀v∈outs c J,Gd v:=λv hv=>by
    unfold outs at hv;obtain⟨i,hi,rfl⟩:=aI.mp hv;have m:=y i hi;rw[aW,au m,gy];exact P _ (bZ m)
   obtain⟨v1,v2⟩:=j _ fo;refine⟨(outs c J).map rv,by rw[g2];exact v1,?_⟩;rw[<-Lb L u,<-g3];have e9:(outs c J).map dv=outD (c.map dv) J:=by unfold outs outD;rw[bg];refine cx λi hi=>?_;have m:=y i hi;show dv (c.getD i .none)=(c.map dv).getD i .non;rw[aW,aW,aE,au m];rfl
   rw[<-e9];exact v2
  ·obtain⟨h,hw,z⟩:=hG;have lw:h.length<=sizeLine:=by
    have:=hw.length;simp only[aC]at this;omega
   have new:kq X.prog X.w (upd H1 p<|.lst h) h3 p (.lst h):=⟨lw,out.toList,Pf,hw,by rw[ie];exact Qv⟩
   have I3:Inv X pins σ (upd H1 p<|.lst h) {s2 with heap:=h3,toks:=D,drawn:=d}:=
    Inv.call (s:=s2) (g':=s2.gens) (t':=D) (d':=d) (ch:=[]) C (Un.laid F l<|C.hok.fresh l) (C.hok.laid F l new) C.bare (λb hb=>by simp at hb)
   exact⟨.ref p,_,I3,rfl,q p h (C.hok.fresh l) z⟩
def Wc(hc:X.calm=true)(L:PE X e Y)(hg:Gl X "sorted")(hm:X.mg "sorted"=none)(I:Gl X "set")(F:X.mg "set"=none)
 (hs:X.se e [])(D:X.bk M [])
 (C:starEach [.Call (.Name "set" O) [e] [] M] X.env=(false,eval (.Call (.Name "set" O) [e] [] M) X.env)::starEach [] X.env)(m:X.bk N []):
   PE X (.Call (.Name "sorted" U) [.Call (.Name "set" O) [e] [] M] [] N) (λσ H Q=>Y σ H λx0 h=>∃x,[x0]=[x]/\∃l s j al ks,x=.ref l/\kP X.K h l s/\i9 X.K al h s j/\ly j=some ks/\mS j=true/\j.length<64/\∀p V,h p=none->i9 X.K al h V (kI<|(dd ks).map kD)->Q (.ref p) (upd h p<|.lst V)):=by
  refine J2 L hg hm I F (λpins s1 σ h x u Q T ru q1=>?_) hs D C m;obtain⟨l,s,j,al,ks,rfl,hl,rv,hk,hh,HR,q⟩:=q1;obtain rfl:u=Value.ref l:=ru;obtain⟨c,Z,pl,hz⟩:=T.list hl;have ev:=uw rv hk;subst ev;have r:=BG hk;obtain⟨sg,z⟩:=yD hh;have Sw:j.length=ks.length:=by rw[<-r,aj]
  have lits:c.length=ks.length:=by have:=Z.length;rw[aj]at this;exact this.symm
  have sb:scanBound=4096:=rfl;refine NX (A:=X.A) (items:=c.toArray) (ks:=ks) (T.ok.hd hc) pl.isList (by simpa using Z) (by rw[aM];omega) λh' tk js SV y ext=>?_;obtain⟨o,es,ep,t,ho,J,P,el,hn,hf,tok,w,n⟩:=SV;have a:(pH es.toList).Perm (dd ks):=yZ w (BZ ks) λx=>by rw[n x,y x,tr]
  have sl:=c7;have Br:es.size<=c.length:=by simpa using hn
  refine Lg hc (T.kept (t':=tk) λb o e=>ext b o (Heap.lt_size e) e) ⟨o,ho,J,P,hf⟩ tok (by omega) (Gd:=rf) (dv:=vD) (rv:=λv=>kV<|vK v) (sg:=sg) (λd P=>?_) (λi hp=>?_) (λi R=>⟨?_,?_⟩) (λ_ _ i R=>Iq i R) q
  ·obtain⟨k,G,rfl⟩:=aI.mp P;exact z _ (by rw[<-r];exact aI.mpr ⟨k,(tr k ks).mp G,rfl⟩)
  ·have U:(i.map vK).Perm (dd ks):=by
    have:=hp.map vK;rw[bg]at this;exact this.trans a
   refine⟨λv hv=>?_,?_,?_⟩
   ·obtain⟨e,L,rfl⟩:=aI.mp (hp.mem_iff.mp hv);exact(el e L).1
   ·have:=U.map kD;rw[bg]at this;exact this
   ·have:=U.length_eq;rw[aj]at this;have:=IT ks;omega
  ·have:=LI i R
   rwa [bg]at this
  ·have:=zk (K:=X.K) (al:=al) (H:=h) (i.map vK);rw[bg,bg]at this;exact this
def AZ(L:X.calm=true)(I:Gl X "sorted")(D:X.mg "sorted"=none)(n:Gl X "set")(m:X.mg "set"=none)(J:DE X E e f)
 (A:X.se e [])(k:X.bk M [])
 (j:starEach [.Call (.Name "set" O) [e] [] M] X.env=(false,eval (.Call (.Name "set" O) [e] [] M) X.env)::starEach [] X.env)(c:X.bk N []):
   DN X E (.Call (.Name "sorted" U) [.Call (.Name "set" O) [e] [] M] [] N) (λρ=>(f ρ).bind nT):=by
  obtain⟨t,p,r⟩:=J;refine⟨_,Wc L p I D n m A k j c,λP V al H σ ρ Q s h=>r _ _ _ _ _ _ _ s<|Aft.mono (Aft.split h) λd o T a v w=>⟨v,rfl,?_⟩⟩;unfold nT at a;split at a
  ·rename_i R;split at a
   ·rename_i x G;split at a
    ·rename_i z;obtain⟨l,u,rfl,F,i⟩:=w.oU;exact⟨l,u,R,al,x,rfl,F,i,G,z.1,z.2,λp q C y=>a o (.refl o) p q C y⟩
    ·exact a.elim
   ·exact a.elim
  ·exact a.elim
def T5:FD X "list.extend" (λx o H Q=>∃l b i d,x=.ref l/\o=[.ref b]/\H l=some (.lst i)/\kP X.K H b d/\i.length+d.length<=sizeLine/\Q .non (upd H l<|.lst<|i++d)):=by
 intro t s σ H x o v P Q I y A h;obtain⟨l,b,i,d,rfl,rfl,w,L,V,q⟩:=h;cases y;obtain⟨u,rfl,C⟩:=A.one;cases C;obtain⟨z,j,n,r,Z,e⟩:=I.Jf w;obtain⟨a,p,D,F⟩:=I.list L;have J:=p.length;obtain⟨ob,c,m,R,k⟩:=D.isList;refine bx gi ⟨_,e,rfl⟩ PySem.F.entry_list_extend ?_ (PySem.F.args_list_extend_2 _ _);show wpAny _ _ (Builtin.List.listExtendWith (.ref l) (.ref b) .none) _ _ s;unfold Builtin.List.listExtendWith;refine ae (dR (T:="list") ⟨ob,c,m⟩ ?_);have G:(Value.type "list"==Value.type "list")=true:=by rfl
 rw[av<|by rw[G];simp];refine ae (listItems_at c k ?_);refine ae (listItems_at e rfl ?_);rw[aw<|by rw[Up<|by rw[aM,aM];omega,iu];exact ax];refine ae (listUpdate_at e rfl ?_ (by rw[aM];omega) (by simp only[Array.size_append,aM];omega));refine af ⟨_,rfl,?_⟩;refine⟨.non,_,I.Je (its':=j++a) w e (by simp) (r.append p) ?_,rfl,q⟩;rw[ao];omega
def pP(i:Nat)(f:jq):jO:=λρ=>match ρ[i]? with
 |some (.ow c)=>toS (f ρ) λd=>(match d with
  |.lst a=>if c.length+a.length<=sizeLine then .nx (ρ.set i<|.ow<|c++a)else .bad
  |_=>.bad)
 |_=>.bad
def xS(i){c:Pos}(V:DE X E e f)
 (hN:X.N[i]?=some x:=by rfl)(hv:qJ X.env.scope x:=by first|exact Or.inl rfl|exact Or.inr (Or.inl rfl)|exact Or.inr (Or.inr rfl))(Z:ot x:=by decide)
 (y:(x==("__classdict__":Str))=false:=by decide)
 (l:attributeBase (.Name x m6) "extend" X.env (eval (.Name x m6) X.env)=eval (.Name x m6) X.env:=by rfl)
 (o:((backTo cpos (starEach [e] X.env)).all (λx=>!x.1)&&(backToKw cpos (keywordEach [] X.env)).all (λx=>x.1.isSome)
 &&decide ([e].length+([]:List Keyword).length+(if([]:List Keyword).isEmpty then 0 else 1)<30))=true:=by rfl)
 (k:(c.endLine==cpos.line)=true:=by rfl)(C:X.se e []:=by rfl)(j:(backTo cpos<|starEach [] X.env).any (·.1)=false:=by rfl)
 (w:swapsWith (.Call (.Attribute (.Name x m6) "extend" c) [e] [] cpos) none N.line X.env=pure false:=by rfl):
   DS X E (.Expr (.Call (.Attribute (.Name x m6) "extend" c) [e] [] cpos) N) (pP i f):=by
  obtain⟨t,p,r⟩:=V;refine⟨_,Kh (JT bX gi PySem.F.type_list_extend T5 (wh hN hv Z y) (rS p rT C) l o k C j) w,λP H0 al H σ ρ D s h=>?_⟩;unfold pP at h;split at h
  ·rename_i J q;obtain⟨a,A,I,G,F,e4,e5⟩:=s.ow i J q;refine⟨_,I,.inl ⟨rfl,A,.inl<|.inl G⟩,r _ _ _ _ _ _ _ s<|Aft.mono (kX.rP h s) λd H1 u m v T=>?_⟩;split at m
   ·rename_i es;obtain⟨b,Q,rfl,hb,n⟩:=T.oU;by_cases z:J.length+es.length<=sizeLine
    ·simp only[z,c8]at m;obtain⟨R,L⟩:=(s.grow u).write q I ((F.up u).append n);exact⟨a,b,A,Q,rfl,rfl,u.at' _ _ oy G,hb,by rw[F.length,n.length];exact z,m _ _ _ L R⟩
    ·simp only[z,bI]at m;exact m.elim
   ·exact m.elim
  ·exact h.elim
end P2
set_option maxHeartbeats 1000000
namespace P2
open PySem L2
def zQ(f:jm):jm:=λρ S=>(f ρ S).bind λz a=>match z with
 |.d (.bl b)=>.ok (.d<|.bl<|!b) a
 |_=>.bad
def zS(a b:jm):jm:=λρ S=>(a ρ S).bind λx h=>match x with
 |.d d=>(lG (tT d) h).bind λc f=>if c=true then .ok (.d d) f else b ρ f
 |_=>.bad
def vU:Z->Bool
 |.d .non=>true
 |_=>false
def wR(f:jm):jj->i3->RX Bool:=λρ S=>(f ρ S).bind λz a=>.ok (vU z) a
def wU(f:jm):jj->i3->RX Bool:=λρ S=>(f ρ S).bind λz a=>.ok (!vU z) a
variable{X:Cx}{E:XK}{b:Nat}{o k e a c:Expr}{rest:List Expr}{fo C f F J:jm}{i L:Pos}
def acN(u:ZE X E a F):ZE X E (.UnaryOp .Not a i) (zQ F):=by
 obtain⟨y,t,r⟩:=u;refine⟨_,JZ t,λB al lo H σ ρ S Q s h=>r _ _ _ _ _ _ _ _ s<|iZ.mono (iZ.split h) λz d l n A p x w m v q=>?_⟩;split at m
 ·rename_i b;have j:Rep X.K d n v (.bl b):=q;cases j;exact⟨b,rfl,m d l n p .refl .refl _<|show Rep X.K d n (.bl<|!b) (.bl<|!b)from .bl _⟩
 ·exact m.elim
def acO(A:ZE X E a F)(z:ZE X E (.BoolOp .Or (c::rest) i) J):ZE X E (.BoolOp .Or (a::c::rest) i) (zS F J):=by
 obtain⟨N,w,t⟩:=A;obtain⟨M,u,r⟩:=z;refine⟨_,V9 w u,λB al lo H σ ρ S Q s h=>t _ _ _ _ _ _ _ _ s<|iZ.mono (iZ.split h) λx n l D O j I G m v p=>?_⟩;split at m
 ·rename_i d;obtain⟨k,y,q⟩:=zj p (iZ.toAft j<|iZ.split m);refine⟨k,y,?_⟩;cases k with
  |true=>rw[av rfl]at q⊢;exact q n l D j .refl .refl v p
  |false=>rw[aw<|by simp]at q⊢;exact r _ _ _ _ _ _ _ _ j q
 ·exact m.elim
def KH{lo}(r:kh K al lo H v z):decide (v=.non)=vU z:=by
 cases z with
 |loc n=>obtain⟨a,_,rfl⟩:=r;rfl
 |tk j=>obtain⟨a,_,_,rfl⟩:=r;rfl
 |d d=>have h:Rep K al H v d:=r;cases h<;>rfl
def Mi(u:ZE X E a F)(t:behindInMarks .Is (.Constant .none j p2)=false):ZT X E (.Compare a [.Is] [.Constant .none j p2] i) (wR F):=by obtain⟨A,r,q⟩:=u;refine⟨_,zd JH r CV t,λB al lo H σ ρ S Q s h=>q _ _ _ _ _ _ _ _ s<|iZ.mono (iZ.split h) λz l d w D n y x m v p=>?_⟩;rw[<-KH p]at m;exact⟨rfl,_,rfl,m l d w n .refl .refl⟩
def acX(u:ZE X E a F)(t:behindInMarks .IsNot (.Constant .none j p2)=false):ZT X E (.Compare a [.IsNot] [.Constant .none j p2] i) (wU F):=by obtain⟨A,r,q⟩:=u;refine⟨_,zd JJ r CV t,λB al lo H σ ρ S Q s h=>q _ _ _ _ _ _ _ _ s<|iZ.mono (iZ.split h) λz l d w D n y x m v p=>?_⟩;rw[<-KH p]at m;exact⟨rfl,_,rfl,m l d w n .refl .refl⟩
def Eu:jm:=λ_ S=>.ok (.loc S.length) (S++[.dk []])
def acJ:ZE X E (.Dict [] [] i) Eu:=by
 refine⟨_,VZ,λB al lo H σ ρ S Q s h=>λp d=>?_⟩;have m:lN X.K (λb=>al b/\b≠p) (kS lo S.length p) (upd H p<|.dK []) p (.dk []):=⟨[],kv,.nil⟩;have j:=s.new d Ju m nofun;have l:kS lo S.length p S.length=some p:=by unfold kS;rw[av rfl]
 exact h _ _ _ j (qz d) (oR s.st p) _ ⟨p,l,rfl⟩
def zO(fo C:jm):jm:=λρ S=>(fo ρ S).bind λz j=>match z with
 |.loc n=>(match j[n]? with
  |some (.dt _)=>(C ρ j).bind λy h=>(match y,h[n]? with
   |.tk k,some (.dt d)=>.ok ((valZ d k).getD (.d .non)) h
   |_,_=>.bad)
  |_=>.bad)
 |_=>.bad
def acI(hu:X.A.units+64<cLine)(ho:ZE X E o fo)(hk:ZE X E k C)(m:M1 X o "get" apos k i):ZE X E (.Call (.Attribute o "get" apos) [k] [] i) (zO fo C):=by
 obtain⟨to,Y,T⟩:=ho;obtain⟨tk,pk,U⟩:=hk;refine⟨_,VY (by omega) Y pk m,λB al lo H σ ρ S Q s h=>T _ _ _ _ _ _ _ _ s<|iZ.mono (iZ.split h) λz mV Z H1 S1 D x1 y1 p v P=>?_⟩;split at p
 ·rename_i n;split at p
  ·rename_i Sq V;obtain⟨a,I,rfl⟩:=P;obtain⟨r,g0,_⟩:=D.cell I V;refine⟨a,rfl,.inr ⟨r,.inl g0⟩,U _ _ _ _ _ _ _ _ D<|iZ.mono (iZ.split p) λy d l A S2 t x2 N j u R=>?_⟩;split at j
   ·rename_i G x q;obtain⟨c,ha,hc,rfl⟩:=R;obtain⟨O,g1,M⟩:=t.cell (N _ _ I) q;refine⟨lA O G,.t g1 hc,?_⟩;cases e:valZ x G with
    |none=>rw[M.none e];rw[e]at j;exact j d l A t .refl .refl .non (show Rep X.K d A .non .non from .non)
    |some z0=>obtain⟨w,e1,e2⟩:=M.val e;rw[e1];rw[e]at j;exact j d l A t .refl .refl w e2
   ·exact j.elim
  ·exact p.elim
 ·exact p.elim
def OB{h:List<|Addr×Obj}{σ:St}{H:Hp}{s:Shared}{a:Addr}{d:List<|Key×V}{k:Key}{z:V}{u r:Value}{A:Around}{E Q:jP}(I:Inv X h σ H s)(e:H a=some (.dK d))(hl:d.length<sizeLine)
    (G:RelV (kV k) u)(D:RelV z r)(Y:∀v p m,lA d k=some v->Inv X h σ H m->RelV v p->Q p m)(U:lA d k=none->∀m,Inv X h σ (upd H a<|.dK<|putK d k z) m->Q r m):
    wpAny (model X.prog X.w) A (call (.builtin "dict.setdefault") [.ref a,u,r]) Q E s:=by
 obtain⟨y,x,t,l,dd⟩:=G2 I.hok e;have M:t.length<=sizeLine:=by rw[<-l.length];exact y
 have P:(putK d k z).length<=sizeLine:=by have:=BN d k z;omega
 refine gP fH dd.typeIs PySem.F.entry_dict_setdefault (PySem.F.args_dict_setdefault_3 _ _ _) (kt_meets_setdefault (j3 X.prog X.w) a (oo G) x r) ⟨t,dd,M,λv hv=>?_,λR Z n N=>?_⟩
 ·have j:=l.val k;rw[hv]at j;cases q:lA d k with
  |none=>rw[q]at j;exact j.elim
  |some w=>rw[q]at j;exact Y w v _ q (I.tok _) j
 ·have j:=l.val k;rw[R]at j;cases q:lA d k with
  |some w=>rw[q]at j;exact j.elim
  |none=>have T:∃q,Z.get? a=some q:=let⟨q,_,_,O,_⟩:=n;⟨q,O⟩;exact U q _ (AR I (by rw[e];exact True.intro) N T<|G1 P x (l.put k D) n)
def abo(m ty l:TE):TE:=λσ H Q=>m σ H λx j=>∃a,x=.ref a/\Ai j a/\ty σ j λy n=>l σ n λz h=>∃d k,h a=some (.dK d)/\d.length<sizeLine/\y=kV k/\
 (∀v,lA d k=some v->Q v h)/\(lA d k=none->Q z (upd h a<|.dK<|putK d k z))
def V1{q p:Pos}{A ty w:TE}{f:Expr}(ho:PE X o A)(he:PE X e ty)(hf:PE X f w)(m:M2 X o "setdefault" q e f p):PE X (.Call (.Attribute o "setdefault" q) [e,f] [] p) (abo A ty w):=by intro j s σ H Q I h;refine wpAny_Call_method m.base m.few m.line eC fH PySem.F.type_dict_setdefault (jh (ho j s σ H _ I h) λu R n=>?_);obtain⟨x,H1,G,U,a,ex,d,q1⟩:=n;subst ex;obtain rfl:u=Value.ref a:=U;obtain⟨N,M,_⟩:=By G d;refine⟨N,M,?_⟩;rw[m.trees];refine du rfl (fy<|dr<|jh (he j R σ H1 _ G q1) λiv P n=>?_);obtain⟨y,H2,I2,T,Z⟩:=n;refine dr (jh (hf j P σ H2 _ I2 Z) λfv s3 n=>?_);obtain⟨z,H3,I3,D,kvs,k,ea,hl,ey,Y,V⟩:=n;refine eE ?_;subst ey;exact OB I3 ea hl T D (λv w' O l t r=>⟨v,H3,t,r,Y v l⟩) λl O t=>⟨z,_,t,D,V l⟩
def wX(fo C f:jm):jm:=λρ S=>(fo ρ S).bind λz l=>match z with
 |.loc n=>(match l[n]? with
  |some (.dk _)=>(C ρ l).bind λy m=>(f ρ m).bind λx j=>(match y,j[n]? with
   |.d d,some (.dk h)=>(match nu d with
    |some k=>if h.length<sizeLine then(match valZ h k with
     |some z=>.ok z j
     |none=>.ok x (j.set n (.dk (ki h k x))))else .bad
    |none=>.bad)
   |_,_=>.bad)
  |_=>.bad)
 |_=>.bad
def acK{l:Pos}{g:Expr}{fg:jm}(ho:ZE X E o fo)(hk:ZE X E k C)(hg:ZE X E g fg)(m:M2 X o "setdefault" l k g i):ZE X E (.Call (.Attribute o "setdefault" l) [k,g] [] i) (wX fo C fg):=by
 obtain⟨to,po,ro⟩:=ho;obtain⟨tk,pk,rk⟩:=hk;obtain⟨tg,pg,rg⟩:=hg;refine⟨_,V1 po pk pg m,λB al lo H σ ρ S Q s h=>ro _ _ _ _ _ _ _ _ s<|iZ.mono (iZ.split h) λz mV lo1 H1 S1 Z x1 y1 G v rv=>?_⟩;split at G
 ·rename_i n;split at G
  ·rename_i Sq q0;obtain⟨a,hn,rfl⟩:=rv;obtain⟨N,g0,_⟩:=Z.cell hn q0;refine⟨a,rfl,.inl ⟨N,.inl g0⟩,rk _ _ _ _ _ _ _ _ Z<|iZ.mono (iZ.split G) λy U uz H2 S2 s2 x2 y2 h2 u ru=>rg _ _ _ _ _ _ _ _ s2<|iZ.mono (iZ.split h2) λx A R V S3 M x3 y3 j w D=>?_⟩;split at j
   ·rename_i d p q;split at j
    ·rename_i r ek;split at j
     ·rename_i hl;have t:=y3 _ _ (y2 _ _ hn);obtain⟨O,g1,I⟩:=M.cell t q;have P:Rep X.K U H2 u d:=ru;refine⟨O,r,g1,by rw[I.length];exact hl,BH P ek,λv' hv=>?_,λhv=>?_⟩
      ·cases e:valZ p r with
       |none=>rw[I.none e]at hv;cases hv
       |some z0=>obtain⟨w0,T,e2⟩:=I.val e;rw[T]at hv;cases hv;rw[e]at j;exact j A R V M .refl .refl _ e2
      ·cases e:valZ p r with
       |some z0=>obtain⟨w0,T,e2⟩:=I.val e;rw[T]at hv;cases hv
       |none=>rw[e]at j;have xx:Xt A V A (upd V a (.dK (putK O r w))):=λb o _ hb eb=>⟨hb,by rw[jA λz=>M.st.na n a t (by rw[<-z];exact hb)];exact eb⟩;obtain⟨s4,Y⟩:=M.write t (o:=.dK (putK O r w)) (c:=.dk (ki p r x)) Ju (λq w=>by unfold lP at w;cases w) ⟨_,kv,kc.mv xx .refl (I.put r D)⟩ nofun;exact j _ _ _ s4 Y .refl w (kh.mv Y .refl D)
     ·exact j.elim
    ·exact j.elim
   ·exact j.elim
  ·exact G.elim
 ·exact G.elim
end P2
namespace P2
open PySem
namespace xq
def G:Nat->Nat
 |0=>0
 |n+1=>5*G n+1
theorem zb:∀n,5^n=4*G n+1
 |0=>rfl
 |n+1=>by rw[cT,zb n];show _=4*(5*G n+1)+1;omega
theorem E1:∀n,G n%2=n%2
 |0=>rfl
 |n+1=>by have:=E1 n;show(5*G n+1)%2=_;omega
theorem Ac(a):∀b,G (a+b)=G a+5^a*G b
 |0=>by show G a=G a+5^a*0;omega
 |b+1=>by
  show 5*G (a+b)+1=G a+5^a*(5*G b+1);rw[Ac a b,zb a,iw,iw,iK];have e:(4*G a+1)*(5*G b)=5*((4*G a+1)*G b):=by rw[Nat.mul_left_comm]
  rw[e];omega
def AO{k}(h:c%2=1):Nat.Coprime (2^k) c:=by apply Nat.Coprime.pow_left;show Nat.gcd 2 c=1;rw[Nat.gcd_rec,h];rfl
theorem EY:∀k b,2^k∣G b->2^k∣b
 |0,b,_=>by rw[Nat.pow_zero];exact Nat.one_dvd b
 |k+1,b,h=>by
  have j:2∣G b:=Nat.dvd_trans ⟨2^k,by rw[cT,gU]⟩ h;have l:=E1 b;have a:b=b/2+b/2:=by have:G b%2=0:=Nat.mod_eq_zero_of_dvd j;omega
  generalize b/2=c at a;subst a;rw[Ac,zb]at h;have e:G c+(4*G c+1)*G c=2*(G c*(2*G c+1)):=by rw[ix,Nat.one_mul,iw,iw,iK,gj,Nat.mul_left_comm (G c) 2<|G c];omega
  rw[e,cT,gU (2^k) 2]at h;have i:2^k∣G c*(2*G c+1):=Nat.dvd_of_mul_dvd_mul_left (by decide) h;have f:=EY k c (eQ (AO<|by omega) i);obtain⟨d,rfl⟩:=f;exact⟨d,by rw[cT];rw[<-Nat.two_mul,gU (2^k) 2,gj]⟩
def stp(N i:Nat):Nat:=(i*5+1)%N
def pV(N:Nat):Nat->Nat->Nat
 |0,x=>x
 |n+1,x=>stp N (pV N n x)
theorem zy(a:x<N):∀d,pV N d x=(x+G d*(4*x+1))%N
 |0=>by show x=(x+0*_)%N;rw[Nat.zero_mul,Nat.add_zero,Nat.mod_eq_of_lt a]
 |d+1=>by
  show(pV N d x*5+1)%N=(x+(5*G d+1)*(4*x+1))%N;rw[zy a d,Nat.add_mod,Nat.mul_mod,Nat.mod_mod,<-Nat.mul_mod,<-Nat.add_mod]
  congr 1
  rw[ix,ix,gj 5,Nat.one_mul];omega
def aa8{k}(c:x<2^k)(h:a<b)(m:b<2^k):pV (2^k) a x≠pV (2^k) b x:=λe=>by
 rw[zy c,zy c]at e;obtain⟨d,rfl⟩:∃d,b=a+d:=⟨b - a,by omega⟩;rw[Ac]at e;have f:2^k∣(x+(G a+5^a*G d)*(4*x+1)) - (x+G a*(4*x+1)):=Nat.dvd_of_mod_eq_zero (Nat.sub_mod_eq_zero_of_mod_eq e.symm);have l:(x+(G a+5^a*G d)*(4*x+1)) - (x+G a*(4*x+1))=5^a*G d*(4*x+1):=by rw[ix];omega
 rw[l]at f;have j:2^k∣5^a*G d:=eQ (AO<|by omega) f;have i:2^k∣G d:=Nat.Coprime.dvd_of_dvd_mul_left (AO<|by rw[zb];omega) j;have n:=Nat.le_of_dvd (by omega) (EY k d i);omega
theorem yP:∀{l m:List Nat},l.Nodup->(∀x∈l,x∈m)->l.length<=m.length
 |[],m,_,_=>bM _
 |a::l,m,h,s=>by obtain⟨i,f⟩:=bC.mp h;have d:=s a (.head _);have:=yP (l:=l) (m:=m.erase a) f λx c=>(iy (λe=>i (by rw[<-e];exact c))).mpr (s x (.tail _ c));rw[gk d]at this;have:=List.length_pos_of_mem d;rw[aq];omega
def BY(n):(List.range n).Nodup:=List.nodup_range
def aa7{k}(f:x<2^k)(j:e<2^k):∃d,d<2^k/\pV (2^k) d x=e:=by
 have i:((List.range<|2^k).map λd=>pV (2^k) d x).Nodup:=by refine f9 _ (R:=λa b=>a<b/\b<2^k) (λa b h=>aa8 f h.1 h.2) ?_;refine gm (λ{a b} p n h=>⟨h,bJ.mp n⟩) eM
 have lt:∀d,pV (2^k) d x<2^k:=λd=>by rw[zy f];exact eA _ (Nat.two_pow_pos k)
 by_cases h:e∈(List.range<|2^k).map λd=>pV (2^k) d x
 ·obtain⟨d,l,o⟩:=aI.mp h;exact⟨d,bJ.mp l,o⟩
 ·exfalso;have:=yP (m:=(List.range<|2^k).erase e) i λy c=>by
   have:y≠e:=λw=>h (by rw[<-w];exact c);refine(iy this).mpr (bJ.mpr ?_);obtain⟨d,_,rfl⟩:=aI.mp c;exact lt d
  rw[gk<|bJ.mpr j,aj,dJ]at this;have:=Nat.two_pow_pos k;omega
def lK(a:Nat):Nat->Nat×Nat->Nat×Nat
 |0,q=>q
 |n+1,q=>SetTable.leap a (lK a n q).1 (lK a n q).2
theorem IM(mask q):∀n,(lK mask n q).2=q.2/32^n
 |0=>by show q.2=q.2/1;rw[Nat.div_one]
 |n+1=>by show(lK mask n q).2/32=_;rw[IM mask q n,Nat.div_div_eq_div_mul,cT]
def Sx(mask q):∀n,(lK mask (n+1) q).1<mask+1:=λn=>eA _ (dY _)
theorem IL{q:Nat×Nat}(a:q.2<2^64):∀d,(lK mask (13+d) q).1=pV (mask+1) d (lK mask 13 q).1
 |0=>rfl
 |d+1=>by
  show(SetTable.leap mask (lK mask (13+d) q).1 (lK mask (13+d) q).2).1=stp (mask+1) (pV (mask+1) d (lK mask 13 q).1);have z:(lK mask (13+d) q).2=0:=by rw[IM,Nat.div_eq_of_lt];refine aF a ?_;rw[Nat.pow_add];exact aS (show 2^64<=32^13 by decide) (Nat.le_mul_of_pos_right _<|Nat.pow_pos<|by decide)
  rw[IL a d,z];rfl
def IP{k}(a:mask+1=2^k){q:Nat×Nat}(c:q.2<2^64)(h:e<=mask):∃m,13<=m/\m<=13+mask/\(lK mask m q).1=e:=by obtain⟨d,i,f⟩:=aa7 (k:=k) (x:=(lK mask 13 q).1) (e:=e) (by rw[<-a];exact Sx mask q 12) (by omega);exact⟨13+d,by omega,by omega,by rw[IL c,a];exact f⟩
open SetTable
def jQ(t:SetTable):Nat->Probe->Probe
 |0,p=>p
 |n+1,p=>jQ t n (t.advance p)
theorem qL(t):∀a b p,jQ t (a+b) p=jQ t b (jQ t a p)
 |0,b,p=>by rw[Nat.zero_add];rfl
 |a+1,b,p=>by rw[Nat.succ_add];exact qL t a b (t.advance p)
def Ng(t n p):jQ t (n+1) p=t.advance (jQ t n p):=qL t n 1 p
def blk(a:Nat)(q:Nat×Nat)(d:Option Nat):Probe:={j:=q.1,more:=runEnd a q.1 - q.1,i:=q.1,perturb:=q.2,dummy:=d}
def De(mask i):runEnd mask i - i<=9:=by unfold runEnd;split<;>omega
def Dd{a i:Nat}(h:i<=a):runEnd a i<=a:=by unfold runEnd;split<;>omega
def Dc(mask i):i<=runEnd mask i:=by unfold runEnd;split<;>omega
theorem Av(t):∀k (p:Probe),k<=p.more->jQ t k p={p with j:=p.j+k,more:=p.more - k}
 |0,p,_=>rfl
 |k+1,p,h=>by
  have a:p.more>0:=by omega
  show jQ t k (t.advance p)=_;have e:t.advance p={p with j:=p.j+1,more:=p.more - 1}:=by unfold advance;rw[av a]
  rw[e,Av t k _<|by show k<=p.more - 1;omega];show({p with j:=p.j+1+k,more:=p.more - 1 - k}:Probe)=_;rw[show p.j+1+k=p.j+(k+1)by omega,show p.more - 1 - k=p.more - (k+1)by omega]
def xA(t)(p:Probe):jQ t (p.more+1) p=blk t.mask (leap t.mask p.i p.perturb) p.dummy:=by rw[Ng,Av t p.more p<|ag _];unfold advance;rw[aw<|by show¬p.more - p.more>0;omega];rfl
theorem FY(t):∀m q d,∃n,n<=10*m/\jQ t n (blk t.mask q d)=blk t.mask (lK t.mask m q) d
 |0,q,d=>⟨0,ag _,rfl⟩
 |m+1,q,d=>by
  obtain⟨n,c,a⟩:=FY t m q d;have:=De t.mask (lK t.mask m q).1;refine⟨n+((blk t.mask (lK t.mask m q) d).more+1),?_,?_⟩;·show n+(runEnd t.mask (lK t.mask m q).1 - (lK t.mask m q).1+1)<=_;omega
  ·rw[qL,a,xA];rfl
def FX{t:SetTable}{k}(c:t.mask+1=2^k){p:Probe}(a:p.perturb<2^64)(j:p.more<=9)(f:e<=t.mask):∃n,n<10*turns t.mask/\(jQ t n p).j=e:=by have d:(leap t.mask p.i p.perturb).2<2^64:=bY (Nat.div_le_self _ _) a;obtain⟨m,q,o,i⟩:=IP c d f;obtain⟨n,l,h⟩:=FY t m (leap t.mask p.i p.perturb) p.dummy;refine⟨p.more+1+n,by unfold turns;omega,?_⟩;rw[qL,xA,h];exact i
structure oK(t:SetTable)(p:Probe):Prop where
 b:p.perturb<2^64
 r:p.more<=9
 j:p.j+p.more<=t.mask
 d:p.dummy=none
def Kf(t:SetTable)(h:Int):oK t (t.probeStart h) where
 b:=by unfold probeStart;show SetTable.bits h<2^64;unfold SetTable.bits;omega
 r:=by unfold probeStart;exact De _ _
 j:=by unfold probeStart;show SetTable.bits h%(t.mask+1)+(runEnd t.mask (SetTable.bits h%(t.mask+1)) - SetTable.bits h%(t.mask+1))<=t.mask;have f:SetTable.bits h%(t.mask+1)<t.mask+1:=eA _ (dY _);have c:=Dd (show SetTable.bits h%(t.mask+1)<=t.mask by omega);have a:=Dc t.mask (SetTable.bits h%(t.mask+1));omega
 d:=by unfold probeStart;rfl
def oK.Nf{t:SetTable}{p:Probe}(h:oK t p):oK t (t.advance p):=by
 obtain⟨a,f,d,c⟩:=h;unfold advance;by_cases w:p.more>0
 ·rw[av w];exact⟨a,by show p.more - 1<=9;omega,by show p.j+1+(p.more - 1)<=t.mask;omega,c⟩
 ·rw[aw w];refine⟨bY (Nat.div_le_self _ _) a,De _ _,?_,c⟩;show(leap t.mask p.i p.perturb).1+(runEnd t.mask (leap t.mask p.i p.perturb).1 - (leap t.mask p.i p.perturb).1)<=t.mask;have a:(leap t.mask p.i p.perturb).1<t.mask+1:=eA _ (dY _);have f:=Dd (show(leap t.mask p.i p.perturb).1<=t.mask by omega);have d:=Dc t.mask (leap t.mask p.i p.perturb).1;omega
theorem oK.jQ{t}:∀n {p},oK t p->oK t (jQ t n p)
 |0,_,h=>h
 |n+1,_,h=>oK.jQ n h.Nf
theorem sI{t a:SetTable}(h:t.mask=a.mask):∀n p,jQ t n p=jQ a n p
 |0,_=>rfl
 |n+1,p=>by
  show jQ t n (t.advance p)=jQ a n (a.advance p);have:t.advance p=a.advance p:=by unfold advance;rw[h]
  rw[this];exact sI h n _
def uT{t a:SetTable}(h:t.mask=a.mask)(x:Int):t.probeStart x=a.probeStart x:=by unfold probeStart;rw[h]
def slot_mem{t:SetTable}(c:lZ t.place)(h:j∈t.place.toList):∃i,t.slot j=.live i/\t.place[i]?=some j:=by
 obtain⟨o,n,l⟩:=xI c j;obtain⟨m,f,e⟩:=bO h;have a:m<t.place.size:=by simpa using f
 have d:t.place[m]=j:=by simpa using e
 have k:below t.place j=m:=by
  rcases eK (below t.place j) m with q|q|q
  ·have:=l _ (by omega) (ag<|below t.place j);have:=c.lt q a;omega
  ·exact q
  ·have:=n m a q;omega
 refine⟨m,?_,by rw[aJ a,d]⟩;unfold slot;dsimp only;rw[k,aJ a,d];simp
def aaV{t:SetTable}(c:t.dummies=#[])(h:j∉t.place.toList):t.slot j=.empty:=by
 unfold slot;dsimp only;rw[aw,c];·rfl
 ·intro w;have a:=eq_of_beq w;exact h (dM.mpr<|eV a)
def vj(t:SetTable)(h:Int)(j:Nat):Prop:=∃m,(jQ t m<|t.probeStart h).j=j/\∀a,a<m->(jQ t a<|t.probeStart h).j∈t.place.toList
structure Tab(t:SetTable)(es:List<|Int×Value):Prop where
 k:∃k,3<=k/\t.mask+1=2^k
 pO:lZ t.place
 le:∀j∈t.place.toList,j<=t.mask
 oP:t.dummies=#[]
 sz:t.place.size=es.length
 fl:es.length<=t.mask
 reach:∀j e,(j,e)∈List.zip t.place.toList es->vj t e.1 j
variable{t:SetTable}{o:List<|Int×Value}
def Tab.odd(a:Tab t o):t.gaveWay=false:=by
 obtain⟨k,c,h⟩:=a.k;obtain⟨j,rfl⟩:∃j,k=j+1:=⟨k - 1,by omega⟩;rw[cT]at h;unfold gaveWay;have:t.mask%2=1:=by omega
 rw[this];rfl
def Tab.m7(a:Tab t o):7<=t.mask:=by obtain⟨k,c,h⟩:=a.k;have:2^3<=2^k:=iz (by decide) c;omega
def Tab.fits(a:Tab t o):t.fits o.length=true:=by unfold SetTable.fits fill;rw[a.oP,a.sz];have:=a.fl;simp;exact this
def Tab.room(a:Tab t o):∃e,e<=t.mask/\e∉t.place.toList:=by refine b7 λw=>?_;have:=yP (m:=t.place.toList) (BY<|t.mask+1) λx c=>b7 λy=>w ⟨x,by have:=bJ.mp c;omega,y⟩;rw[dJ,aC,a.sz]at this;have:=a.fl;omega
theorem HP(j:Tab t o)(f:Nat->Int)(h:Int):∀a (p:Probe),p.dummy=none->(∃n,n<a/\(jQ t n p).j∉t.place.toList)->
 ∃m,m<a/\(∀c,c<m->∃i,t.place[i]?=some (jQ t c p).j/\f i≠h)/\(((jQ t m p).j∉t.place.toList/\probe.go t f h a p=some (.empty (jQ t m p).j none))\/∃i,t.place[i]?=some (jQ t m p).j/\t.slot (jQ t m p).j=.live i/\f i=h/\probe.go t f h a p=some (.candidate (jQ t m p).j i (jQ t (m+1) p)))
 |0,p,_,⟨n,r,_⟩=>absurd r (cP _)
 |a+1,p,q,⟨n,r,s⟩=>by
  by_cases d:p.j∈t.place.toList
  ·obtain⟨i,l,u⟩:=slot_mem j.pO d;by_cases hf:f i=h
   ·refine⟨0,dY _,λc w=>absurd w<|cP _,.inr ⟨i,u,l,hf,?_⟩⟩;unfold probe.go;rw[l];simp[hf];exact⟨rfl,rfl⟩
   ·have v:(t.advance p).dummy=none:=by unfold advance;split<;>exact q
    obtain⟨k,rfl⟩:∃k,n=k+1:=⟨n - 1,by cases n with|zero=>exact absurd d s|succ n=>rfl⟩;obtain⟨m,A,y,x⟩:=HP j f h a (t.advance p) v ⟨k,by omega,s⟩;have z:probe.go t f h (a+1) p=probe.go t f h a (t.advance p):=by rw[probe.go];rw[l];simp[hf]
    refine⟨m+1,by omega,λc w=>?_,?_⟩
    ·cases c with
     |zero=>exact⟨i,u,hf⟩
     |succ c=>exact y c (by omega)
    ·rw[z];exact x
  ·refine⟨0,dY _,λc w=>absurd w<|cP _,.inl ⟨d,?_⟩⟩;unfold probe.go;rw[aaV j.oP d];simp[q];rfl
def WI(a:Tab t o)(f:Nat->Int)(h:Int)(c:oK t p):
    ∃m,(∀d,d<m->∃i,t.place[i]?=some (jQ t d p).j/\f i≠h)/\(((jQ t m p).j∉t.place.toList/\t.probe f h p=some (.empty (jQ t m p).j none))\/∃i,t.place[i]?=some (jQ t m p).j/\t.slot (jQ t m p).j=.live i/\f i=h/\t.probe f h p=some (.candidate (jQ t m p).j i (jQ t (m+1) p))):=by
 obtain⟨e,s,r⟩:=a.room;obtain⟨k,_,j⟩:=a.k;obtain⟨n,q,l⟩:=FX j c.b c.r s;obtain⟨m,w,v,u⟩:=HP a f h (10*turns t.mask) p c.d ⟨n,q,by rw[l];exact r⟩;exact⟨m,v,u⟩
def Bx{c:Type}(a:Array c)(p:Nat)(x:c):(insertAt a p x).toList=a.toList.take p++x::a.toList.drop p:=by unfold insertAt;simp[il];exact cw (by rw[ck,aC];exact ag _)
def insertAt_perm{a:Type}(c:Array a)(p:Nat)(x:a):(insertAt c p x).toList.Perm (x::c.toList):=by rw[Bx];refine List.perm_middle.trans ?_;rw[List.take_append_drop]
def acT{f d:Type}(a:List f)(b:List d)(x y p)(h:a.length=b.length)(q)(c:q∈List.zip (a.take p++x::a.drop p) (b.take p++y::b.drop p)):q=(x,y)\/q∈List.zip a b:=by
 rw[List.zip_append<|by rw[cD,cD,h],fT]at c;rcases bh.mp c with c|c
 ·rw[List.zip_eq_zipWith,<-List.take_zipWith]at c;exact .inr (iA c)
 ·rcases aD.mp c with c|c;·exact .inl c
  ·rw[List.zip_eq_zipWith,<-List.drop_zipWith]at c;exact .inr (iC c)
def Tab.put{k:Array<|Int×Value}(a:Tab t k.toList)(hf:k.size+1<=t.mask){h:Int}(u:j∉t.place.toList)(s:j<=t.mask)(r:vj t h j):
    Tab (t.put j).1 (insertAt k (t.put j).2 (h,x)).toList/\(t.put j).1.mask=t.mask/\(t.put j).1.led=t.led/\(t.put j).1.moves=t.moves:=by
 have A:has t.dummies j=false:=by rw[a.oP];rfl
 have f:(t.put j).1.place=insertAt t.place (below t.place j) j:=rfl;have i:(t.put j).1.mask=t.mask:=rfl;have sub:∀y,y∈t.place.toList->y∈(t.put j).1.place.toList:=λy d=>by rw[f];exact(insertAt_perm _ _ _).mem_iff.mpr (.tail _ d)
 have l:∀{p n},vj t p n->vj (t.put j).1 p n:=λ⟨m,z,v⟩=>⟨m,by rw[sI i,uT i];exact z,λq w=>by rw[sI i,uT i];exact sub _ (v q w)⟩;refine⟨⟨a.k,?_,?_,?_,?_,?_,?_⟩,i,rfl,rfl⟩
 ·rw[f];refine KJ a.pO λw=>u (dM.mpr<|eV w)
 ·intro y d;rw[f]at d;rcases aD.mp ((insertAt_perm _ _ _).mem_iff.mp d)with rfl|d;·exact s
  ·exact a.le y d
 ·show(if has t.dummies j=true then _ else t.dummies)=#[];rw[A,aw<|by decide];exact a.oP
 ·rw[f,<-aC,(insertAt_perm _ _ _).length_eq,(insertAt_perm _ _ _).length_eq,aq,aq,aC,a.sz]
 ·rw[(insertAt_perm _ _ _).length_eq,aq,aC];exact hf
 ·intro y e c;rw[f,Bx,Bx]at c;rcases acT _ _ _ _ _ (by rw[aC,a.sz]) _ c with c|c;·cases c;exact l r
  ·exact l (a.reach y e c)
def Tab.off(a:Tab t o)(b:Bool):Tab {t with plain:=b} o where
 k:=a.k
 pO:=a.pO
 le:=a.le
 oP:=a.oP
 sz:=a.sz
 fl:=a.fl
 reach:=λj e f=>by obtain⟨m,i,h⟩:=a.reach j e f;have c:({t with plain:=b}:SetTable).mask=t.mask:=rfl;exact⟨m,by rw[sI c,uT c];exact i,λd w=>by rw[sI c,uT c];exact h d w⟩
def abL(f m l):Tab (.fresh f m l) [] where
 k:=⟨3,ag _,rfl⟩
 pO:=by unfold lZ;exact .nil
 le:=λj h=>by cases h
 oP:=rfl
 sz:=rfl
 fl:=bM _
 reach:=λj e h=>by cases h
theorem J3:∀{d c:List Nat},d.Nodup->c.Nodup->(∀x,x∈d↔x∈c)->d.Perm c
 |[],c,_,_,h=>by
  cases c with
  |nil=>exact .refl _
  |cons y r=>exact absurd ((h y).mpr (.head _)) (by simp)
 |a::l,c,m,f,h=>by
  have n:=(h a).mp (.head _);obtain⟨k,j⟩:=bC.mp m;refine(List.Perm.cons a<|J3 j (f.erase a) λx=>?_).trans (ir n).symm;rw[f.mem_erase_iff];constructor
  ·intro i;exact⟨λe=>k<|by rw[<-e];exact i,(h x).mp (.tail _ i)⟩
  ·rintro ⟨q,p⟩
   rcases aD.mp ((h x).mpr p)with e|e;·exact absurd e q
   ·exact e
theorem IQ(mask q):∀n,lK mask (n+1) q=lK mask n (leap mask q.1 q.2)
 |0=>rfl
 |n+1=>by show leap mask (lK mask (n+1) q).1 (lK mask (n+1) q).2=_;rw[IQ mask q n];rfl
abbrev tV(owner:Array<|Option Nat)(j:Nat):Prop:=((owner.getD j<|some 0).isNone)=false
def Ht:∀{n},(∀k,(List.range n).find? p=some k->k<n/\p k=true/\∀a,a<k->p a=false)/\((List.range n).find? p=none->∀k,k<n->p k=false)
 |n=>by
  constructor
  ·intro k h;rw[List.find?_range_eq_some]at h;refine⟨bJ.mp h.2.1,h.1,λa w=>?_⟩;have:=h.2.2 a w;simpa using this
  ·intro h k c;have:=fV.mp h k (bJ.mpr c);simpa using this
theorem HD(T:SetTable)(owner):∀a (q:Nat×Nat),q.1<=T.mask->(∃m,m<a/\¬tV owner (lK T.mask m q).1)->
 ∃j n,layClean.free T.mask owner a q.1 q.2=some j/\(jQ T n<|blk T.mask q none).j=j/\j<=T.mask/\¬tV owner j/\∀c,c<n->tV owner (jQ T c<|blk T.mask q none).j
 |0,q,_,⟨m,p,_⟩=>absurd p (cP _)
 |a+1,q,r,⟨m,p,i⟩=>by
  have G:=Dd r;have I:=Dc T.mask q.1;have d:∀k,k<=runEnd T.mask q.1 - q.1->(jQ T k<|blk T.mask q none).j=q.1+k:=λk u=>by rw[Av T k (blk T.mask q none) u];rfl
  unfold layClean.free;cases hf:(List.range<|runEnd T.mask q.1+1 - q.1).find? λk=>(owner.getD (q.1+k)<|some 0).isNone with
  |some k=>obtain⟨l,x,v⟩:=Ht.1 k hf;refine⟨q.1+k,k,rfl,d k (by omega),by omega,by unfold tV;rw[x];decide,λc w=>?_⟩;rw[d c<|by omega];exact v c w
  |none=>
   have l:=Ht.2 hf;have s:m≠0:=λe=>by subst e;exact i (l 0<|by omega)
   obtain⟨h,rfl⟩:∃h,m=h+1:=⟨m - 1,by omega⟩;rw[IQ]at i;obtain⟨j,n,F,D,C,A,y⟩:=HD T owner a (leap T.mask q.1 q.2) (by have:(leap T.mask q.1 q.2).1<T.mask+1:=eA _ (dY _);omega) ⟨h,by omega,i⟩;refine⟨j,(blk T.mask q none).more+1+n,F,?_,C,A,λc w=>?_⟩;·rw[qL,xA];exact D
   ·by_cases z:c<=(blk T.mask q none).more
    ·rw[d c z];exact l c (by have:(blk T.mask q none).more=runEnd T.mask q.1 - q.1:=rfl;omega)
    ·obtain⟨f,rfl⟩:∃f,c=(blk T.mask q none).more+1+f:=⟨c - ((blk T.mask q none).more+1),by omega⟩;rw[qL,xA];exact y f (by omega)
structure qF(T:SetTable)(hs:List Int)(owner:Array<|Option Nat)(pl:List Nat):Prop where
 len:pl.length=hs.length
 sz:owner.size=T.mask+1
 own:∀(j k:Nat),owner[j]?=some (some k)↔pl[k]?=some j
 le:∀j∈pl,j<=T.mask
 nd:pl.Nodup
 reach:∀(k:Nat) (h:Int) (j:Nat),hs[k]?=some h->pl[k]?=some j->∃m,(jQ T m<|T.probeStart h).j=j/\∀m',m'<m->(jQ T m'<|T.probeStart h).j∈pl
def qF.v9(L:qF T hs owner pl)(i:j<=T.mask):tV owner j↔j∈pl:=by
 have a:j<owner.size:=by rw[L.sz];omega
 have e:owner.getD j (some 0)=owner[j]:=by simp[Array.getD,a]
 unfold tV;rw[e];constructor
 ·intro h;cases q:owner[j]with
  |none=>rw[q]at h;cases h
  |some k=>exact bc ((L.own j k).mp (by rw[aJ a,q]))
 ·intro h;obtain⟨k,c,d⟩:=bO h;have:=(L.own j k).mpr (by rw[au c,d]);rw[aJ a]at this;have f:owner[j]=some k:=Option.some.inj this;rw[f];rfl
def qF.step{T:SetTable}{k}(P:T.mask+1=2^k)(L:qF T hs owner pl)(h:Int)(hl:hs.length<=T.mask):
    ∃j,layClean.free T.mask owner (turns T.mask) (SetTable.bits h%(T.mask+1)) (SetTable.bits h)=some j/\qF T (hs++[h]) (owner.setIfInBounds j<|some hs.length) (pl++[j]):=by
 have A:SetTable.bits h<2^64:=by unfold SetTable.bits;omega
 have O:SetTable.bits h%(T.mask+1)<=T.mask:=Nat.le_of_lt_succ (eA (SetTable.bits h)<|dY T.mask);obtain⟨e,p,v⟩:∃e,e<=T.mask/\e∉pl:=by refine b7 λw=>?_;have:=yP (m:=pl) (BY (T.mask+1)) λx N=>b7 λy=>w ⟨x,by have:=bJ.mp N;omega,y⟩;rw[dJ,L.len]at this;omega
 obtain⟨m,U,R,C⟩:=IP P (q:=(SetTable.bits h%(T.mask+1),SetTable.bits h)) A p;obtain⟨j,n,Z,I,G,Y,F⟩:=HD T owner (turns T.mask) (SetTable.bits h%(T.mask+1),SetTable.bits h) O ⟨m,by unfold turns;omega,by rw[C];exact λz=>v ((L.v9 p).mp z)⟩;have D:j∉pl:=λz=>Y ((L.v9 G).mpr z);have eb:blk T.mask (SetTable.bits h%(T.mask+1),SetTable.bits h) none=T.probeStart h:=rfl;rw[eb]at I F;refine⟨j,Z,⟨?_,?_,?_,?_,?_,?_⟩⟩;·rw[ao,ao,L.len];rfl
 ·rw[Array.size_setIfInBounds];exact L.sz
 ·intro i c;have u:j<owner.size:=by rw[L.sz];omega
  by_cases w:j=i
  ·subst w;rw[Array.getElem?_setIfInBounds_self_of_lt u];constructor
   ·intro z;cases z;rw[<-L.len,aK<|ag _];simp
   ·intro z;by_cases y:c<pl.length
    ·rw[ay y]at z;exact absurd (bc z) D
    ·have:c=pl.length:=by
      have:=(az.mp z).1;rw[ao,cb]at this;omega
     rw[this,L.len]
  ·rw[eT w,L.own i c];constructor
   ·intro z;rw[ay (az.mp z).1];exact z
   ·intro z;by_cases y:c<pl.length;·rw[ay y]at z;exact z
    ·rw[aK<|by omega]at z;have:c - pl.length=0:=by
      have:=(az.mp z).1;rw[cb]at this;omega
     rw[this]at z;simp at z;exact absurd z w
 ·intro i l;rcases bh.mp l with l|l;·exact L.le i l
  ·rw[aP.mp l];exact G
 ·exact f7.mpr ⟨L.nd,by simp,λa Q b A e=>D<|by rw[<-aP.mp A,<-e];exact Q⟩
 ·intro c V i r d;by_cases y:c<pl.length
  ·rw[ay y]at d;rw[ay (by rw[<-L.len];exact y)]at r;obtain⟨m,M,J⟩:=L.reach c V i r d;exact⟨m,M,λs w=>c5 _<|J s w⟩
  ·have f:c=pl.length:=by
    have:=(az.mp d).1;rw[ao,cb]at this;omega
   rw[f,aK<|ag _]at d;rw[f,L.len,aK<|ag _]at r;simp at r d;subst r;subst d;refine⟨n,I,λs w=>c5 _<|(L.v9 ?_).mp (F s w)⟩;have:=(oK.jQ s<|Kf T h).j;omega
theorem IK{T:SetTable}{k}(m:T.mask+1=2^k):∀(more c:List Int) owner pl,qF T c owner pl->c.length+more.length<=T.mask->
 ∃a d,more.foldl (λ(f:Option (Array (Option Nat)×Nat)) h=>do
  let(owner,k)<-f
  let j<-layClean.free T.mask owner (turns T.mask) (SetTable.bits h%(T.mask+1)) (SetTable.bits h)
  pure (owner.setIfInBounds j (some k),k+1)) (some (owner,c.length))=some (a,(c++more).length)/\qF T (c++more) a d
 |[],c,owner,pl,L,_=>⟨owner,pl,by rw[bf];rfl,by rw[bf];exact L⟩
 |h::more,c,owner,pl,L,q=>by
  rw[aq]at q;obtain⟨j,s,r⟩:=L.step m h (by omega);obtain⟨p,n,l,i⟩:=IK m more (c++[h]) _ _ r (by rw[ao,cb];omega);refine⟨p,n,?_,?_⟩
  ·rw[bS,hZ]at l;rw[<-l,dG]
   congr 1
   show(layClean.free T.mask owner (turns T.mask) (SetTable.bits h%(T.mask+1))<|SetTable.bits h).bind _=_;rw[s,ao,cb];rfl
  ·rw[bS,hZ]at i;exact i
def Sv{T:SetTable}{k}(p:T.mask+1=2^k)(c:Array Int)(n:c.size<=T.mask):∃a i,layClean T.mask c=some a/\qF T c.toList a i:=by
 have q:qF T [] (Array.replicate (T.mask+1) none) []:=by refine⟨rfl,by simp,λj k=>?_,λj h=>(by cases h),List.Pairwise.nil,λk h j e=>(by simp at e)⟩;rw[Array.getElem?_replicate];split<;>simp
 obtain⟨m,l,d,f⟩:=IK p c.toList [] _ _ q (by simpa using n);refine⟨m,l,?_,f⟩;unfold layClean;rw[<-Array.foldl_toList];rw[dE]at d;rw[d];rfl
def K5(n)(l:n<10^6):∃k,3<=k/\sizeAbove n=2^k/\n<sizeAbove n/\sizeAbove n<=2*n+8:=by
 have m:∀(a size k:Nat),size=2^k->3<=k->(size<=2*n+8)->n<size*2^a->∃h,3<=h/\sizeAbove.go n a size=2^h/\n<sizeAbove.go n a size/\sizeAbove.go n a size<=2*n+8:=by
  intro a;induction a with
  |zero=>intro size k c f d i;exact⟨k,f,c,by show n<size;omega,d⟩
  |succ a j=>
   intro size k c f d i;unfold sizeAbove.go;by_cases w:size<=n
   ·rw[av w];refine j (size*2) (k+1) (by rw[c,cT]) (by omega) (by omega) ?_;rw[gj,gU 2,<-cT];exact i
   ·rw[aw w];exact⟨k,f,c,by omega,d⟩
 exact m 64 8 3 rfl (ag _) (by omega) (aF l<|by decide)
def Z6(t:SetTable)(c:Array<|Int×Value)(n)(hn:n<10^6)(hl:4*c.size<=n):
    ∃G f,t.relaid (c.map (·.1)) n=some (G,f)/\(f.filterMap (c[·]?)).toList.Perm c.toList/\Tab G (f.filterMap (c[·]?)).toList/\G.led=t.led/\G.plain=t.plain/\n<=G.mask/\G.mask<=2*n+7:=by
 obtain⟨k,h3,hk,C,hu⟩:=K5 n hn;obtain⟨T,hT⟩:∃T:SetTable,T={t with mask:=sizeAbove n - 1}:=⟨_,rfl⟩;have D:T.mask=sizeAbove n - 1:=by rw[hT]
 have M:T.mask+1=2^k:=by rw[D,<-hk];omega
 obtain⟨v,P,e,L⟩:=Sv M (c.map (·.1)) (by rw[Array.size_map,D];omega);have y:P.length=c.size:=by rw[L.len];simp
 unfold relaid laid;rw[<-D,e];generalize s:(List.range<|T.mask+1).filterMap (λj=>(v.getD j none).map (j, ·))=live;have p:∀j i,(j,i)∈live↔P[i]?=some j:=λj i=>by
  rw[<-s,bB,<-L.own j i];constructor
  ·rintro ⟨a,ha,e⟩
   obtain⟨b,C,e2⟩:=aB.mp e;obtain⟨rfl,rfl⟩:=Prod.mk.inj e2;have d:a<v.size:=by rw[L.sz];exact bJ.mp ha
   rw[aJ d];simp[Array.getD,d]at C;rw[C]
  ·intro z;have d:=(br.mp z).1;refine⟨j,bJ.mpr<|by rw[<-L.sz];exact d,?_⟩;rw[aJ d]at z;have z':=Option.some.inj z;simp[Array.getD,d,z']
 have I:live.Pairwise λa b=>a.1<b.1:=by rw[<-s];refine List.Pairwise.filterMap (R:=λa b=>a<b) (S:=λ(a b:Nat×Nat)=>a.1<b.1) _ ?_ eM;intro a a' h b C b' Z;obtain⟨_,_,N⟩:=aB.mp C;obtain⟨_,_,e2⟩:=aB.mp Z;subst N;subst e2;exact h
 have Q:(live.map (·.2)).Nodup:=by refine f9 _ (R:=λa b=>a.2≠b.2) (λ_ _ h=>h) ?_;refine gm (λ{a b} ha C h w=>?_) I;have u:=(p a.1 a.2).mp ha;have h2:=(p b.1 b.2).mp C;rw[w,h2]at u;have:=Option.some.inj u;omega
 have p2:(live.map (·.2)).Perm (List.range c.size):=J3 Q (BY _) λx=>by
  rw[aI,bJ];constructor
  ·rintro ⟨⟨j,i⟩,u,rfl⟩
   have:=(az.mp<|(p j i).mp u).1;rw[y]at this;exact this
  ·intro h;exact⟨(P[x]'(by rw[y];exact h),x),(p _ _).mpr (au _),rfl⟩
 have F:((live.map (·.2)).toArray.filterMap (c[·]?)).toList=live.map λq=>c.getD q.2 (0,.none):=by
  rw[Array.toList_filterMap,List.filterMap_map];have go:∀l:List (Nat×Nat),(∀q∈l,q.2<c.size)->l.filterMap ((λx=>c[x]?)∘λx=>x.2)=l.map λq=>c.getD q.2 (0,.none):=by
   intro l;induction l with
   |nil=>intro _;rfl
   |cons q r ih=>
    intro h;have d:=h q (.head _);have N:((λx=>c[x]?)∘λ(x:Nat×Nat)=>x.2) q=some (c.getD q.2 (0,.none)):=by show c[q.2]?=_;rw[aJ d];simp[Array.getD,d]
    rw[gp N,ih λx hx=>h x<|.tail _ hx,aR]
  exact go live λq hq=>bJ.mp (p2.mem_iff.mp<|aI.mpr ⟨q,hq,rfl⟩)
 have A:((live.map (·.2)).toArray.filterMap (c[·]?)).toList.Perm c.toList:=by
  rw[F];have u:=p2.map λi=>c.getD i (0,.none);rw[bg]at u;refine u.trans ?_;have:(List.range c.size).map (λi=>c.getD i (0,.none))=c.toList:=by
   apply gz;·simp
   ·intro i u h2;have:i<c.size:=by simpa using u
    simp[Array.getD,this]
  rw[this]
 have L4:=L.len;refine⟨{mask:=T.mask,place:=(live.map (·.1)).toArray,dummies:=#[],finger:=t.finger,led:=t.led,moves:=t.movedTo T.mask,plain:=t.plain},(live.map (·.2)).toArray,by rw[<-s];rfl,A,⟨⟨k,h3,M⟩,?_,?_,rfl,?_,?_,?_⟩,rfl,rfl,by show n<=T.mask;omega,by show T.mask<=_;omega⟩
 ·show lZ (live.map (·.1)).toArray;unfold lZ;rw[fK];exact f9 _ (λ_ _ h=>h) I
 ·intro j hj;have Y:j∈live.map (·.1):=by simpa using hj
  obtain⟨⟨a,i⟩,u,rfl⟩:=aI.mp Y;exact L.le _ (bc<|(p a i).mp u)
 ·rw[F];simp
 ·rw[A.length_eq,aC];show c.size<=T.mask;omega
 ·intro j e hz;rw[F]at hz;have J:(j,e)∈List.zip (live.map (·.1)) (live.map λq=>c.getD q.2 (0,.none)):=by simpa using hz
  rw[List.zip_map',aI]at J;obtain⟨⟨a,i⟩,u,N⟩:=J;cases N;have hp:=(p a i).mp u;have hi:i<c.size:=by rw[<-y];exact(az.mp hp).1
  obtain⟨m,r1,r2⟩:=L.reach i (c.getD i (0,.none)).1 a (by simp[Array.getD,hi]) hp;have O:T.mask=(({mask:=T.mask,place:=(live.map (·.1)).toArray,dummies:=#[],finger:=t.finger,led:=t.led,moves:=t.movedTo T.mask,plain:=t.plain}:SetTable)).mask:=rfl;refine⟨m,by rw[<-sI O,<-uT O];exact r1,λm' w=>?_⟩;rw[<-sI O,<-uT O];obtain⟨k',V,U⟩:=bO (r2 m' w);show _∈(live.map (·.1)).toArray.toList;rw[fK];exact aI.mpr ⟨(_,k'),(p _ _).mpr (by rw[au V,U]),rfl⟩
end xq
open L2 PySem.Spec PySem.Calls PySem.W xq
open PyProof.Rows hiding St K
def tK(h:Heap):Value->List Key
 |.ref b=>match h.get? b with
  |some o=>match o.data with
   |.seq items _=>items.toList.map vK
   |_=>[]
  |none=>[]
 |_=>[]
variable{prog:Program}{w:World}{A:Around}{E:jP}{s:Shared}
abbrev mj(P:Program)(w:World)(h:Heap)(ks:List Key)(b:Addr):Prop:=IsTupleKey (j3 P w) h ks b
abbrev k6(P:Program)(w:World)(ks:List Key):Int:=tupleKeyHash (j3 P w) ks
def BA{k}(h:(j3 prog w).is k v=true):RelV (kV k) v:=by
 have a:pG k v=true:=h;cases k with
 |inl i=>
  cases v with
  |int j t=>
   have e:j=i:=by simpa [pG,Value.isInt]using a
   exact⟨t,by rw[e]⟩
  |_=>exact absurd a (by simp[pG,Value.isInt])
 |inr x=>
  cases v with
  |str y t=>
   have e:y=x:=by simpa [pG,Value.isStrOf]using a
   exact⟨t,by rw[e]⟩
  |_=>exact absurd a (by simp[pG,Value.isStrOf])
def RB(h:ItemsAre (j3 prog w) ks vs):vs.map vK=ks:=by
 induction h with
 |nil=>rfl
 |cons c _ a=>rw[aR,a,zI<|BA c]
def mj.tK(x:mj prog w h ks b):tK h (.ref b)=ks:=by obtain⟨o,a,n,c,_,f,d⟩:=x;unfold P2.tK;dsimp only;rw[c];dsimp only;rw[f];exact RB d
def TK(P:Program)(w:World)(h:Heap)(v:Value):Prop:=∃b,v=.ref b/\mj P w h (tK h v) b
def mj.at'{h':Heap}(x:mj prog w h ks b)(e:∀o,h.get? b=some o->h'.get? b=some o):mj prog w h' ks b:=by obtain⟨o,a,n,c,r⟩:=x;exact⟨o,a,n,e o c,r⟩
def mj.ne{t}(x:mj prog w h ks b)(i:h.get? a=some o)(j:o.data=.set es ep t):b≠a:=by
 rintro rfl
 obtain⟨k,f,n,c,_,d,_⟩:=x;rw[i]at c;cases c;rw[j]at d;cases d
def qf(P:Program)(w:World)(h:Heap)(a:List<|Int×Value):Prop:=∀e∈a,TK P w h e.2/\e.1=k6 P w (tK h e.2)
def l8(h:Heap)(a:List<|Int×Value):List (List Key):=a.map λe=>tK h e.2
def nh(P:Program)(w:World)(M:Value->Prop)(h:Heap)(a:Addr)(d:List<|List Key)(n:Nat):Prop:=
 ∃o c f t,h.get? a=some o/\o.ExactSet/\o.data=.set c f t/\qf P w h c.toList/\(∀e∈c.toList,M e.2)/\c.size<=n/\Tab t c.toList/\c.size*5<t.mask*3/\t.mask<=8100/\t.led=!(w.params.followText "set-order")/\(l8 h c.toList).Nodup/\∀k,k∈l8 h c.toList↔k∈d
def qf.at'{h':Heap}(x:qf prog w h es)(k:∀e∈es,∀b o,e.2=.ref b->h.get? b=some o->h'.get? b=some o):qf prog w h' es/\l8 h' es=l8 h es:=by
 have eq:∀e∈es,TK prog w h' e.2/\tK h' e.2=tK h e.2:=λe a=>by
  obtain⟨⟨b,d,tk⟩,_⟩:=x e a;have c:=tk.at' (λo i=>k e a b o d i);have f:tK h' e.2=tK h e.2:=by rw[d]at c⊢;exact c.tK
  exact⟨⟨b,d,by rw[f];exact c⟩,f⟩
 refine⟨λe a=>⟨(eq e a).1,by rw[(eq e a).2];exact(x e a).2⟩,?_⟩;unfold l8;exact cx λe a=>(eq e a).2
def nh.keep{h':Heap}{n}(x:nh prog w M h a kG n)(k:∀b o,h.get? b=some o->(∀c m,o.data=.seq c m->o.cls=.type "tuple"->True)->(b=a\/∃c m,o.data=.seq c m/\o.cls=.type "tuple")->h'.get? b=some o):nh prog w M h' a kG n:=by
 obtain⟨o,O,P,t,G,j,J,r,D,C,z,y,v,u,F,i⟩:=x;obtain⟨N,q⟩:=r.at' (h':=h') λe I b ob Q p=>by obtain⟨⟨T,f,tk⟩,_⟩:=r e I;rw[Q]at f;cases f;obtain⟨R,c,m,d,L,l,_⟩:=tk;rw[p]at d;cases d;exact k b ob p (λ_ _ _ _=>True.intro) (.inr ⟨c,m,l,L⟩)
 exact⟨o,O,P,t,k a o G (λ_ _ _ _=>True.intro)<|.inl rfl,j,J,N,D,C,z,y,v,u,by rw[q];exact F,by rw[q];exact i⟩
def Od(n)(h:carriedByValue v=true):ofAClassStatement n v=pure false:=by
 cases v with
 |ref a=>simp[carriedByValue]at h
 |_=>first|rfl|simp[ofAClassStatement]|(unfold ofAClassStatement;rfl)
def LU{Q:Bool->Shared->Prop}(j:mj prog w s.heap ks b)(h:Q false s):wpAny (model prog w) A (ofAClassStatement 8<|.ref b) Q E s:=by
 have hT:=j.typeIs;obtain⟨o,d,n,k,_,m,l⟩:=j;unfold ofAClassStatement;refine ae (dR hT ?_);dsimp only;rw[av<|by decide];refine ae (af ?_);simp only[fx,bj,bI];refine ae (eP k m ?_);dsimp only;refine ae ?_;rw[<-Array.forIn_toList];refine gI _ (λrest r c=>r.1=none/\c=s/\∀v∈rest,carriedByValue v=true) _ ?_ ?_ _ _ ⟨rfl,rfl,l.byValue⟩
 ·rintro v rest r c ⟨i,rfl,a⟩
  rw[Od _<|a v bL];refine ae (af ?_);simp only[bj,bI];exact af ⟨rfl,rfl,λu f=>a u<|aX _ f⟩
 ·rintro ⟨q,p⟩ c ⟨i,rfl,_⟩
  simp only at i;subst i;exact af h
def acp{Q:Bool->Shared->Prop}(j:mj prog w s.heap ks b)(l:∀y∈ys,TK prog w s.heap y)(h:Q false s):wpAny (model prog w) A (searchCouldBeSeen (.ref b) ys) Q E s:=by
 unfold searchCouldBeSeen;refine ae ?_;refine gI _ (λrest r d=>r.1=none/\d=s/\∀y∈rest,TK prog w s.heap y) _ ?_ ?_ _ _ ⟨rfl,rfl,l⟩
 ·rintro y rest r d ⟨i,rfl,a⟩
  obtain⟨c,rfl,k⟩:=a y bL;dsimp only;refine aT (λ_=>af ⟨rfl,rfl,λu f=>a u<|aX _ f⟩) (λ_=>?_);refine ae (wpAny_eqIsQuiet_tuple j ?_);simp only[fx,bj,bI];refine ae (wpAny_eqIsQuiet_tuple k ?_);simp only[fx,bj,bI];refine ae (LU j ?_);simp only[bj,bI];refine ae (LU k ?_);simp only[bj,bI];exact af ⟨rfl,rfl,λu f=>a u<|aX _ f⟩
 ·rintro ⟨n,m⟩ d ⟨i,rfl,_⟩
  simp only at i;subst i;exact af h
def aco{Q:Bool->Shared->Prop}(j:mj prog w s.heap ks b)(h:∀r,Q r s):wpAny (model prog w) A (hashByValue 8<|.ref b) Q E s:=by
 have hT:=j.typeIs;obtain⟨o,a,n,k,_,m,l⟩:=j;unfold hashByValue;refine ae (hI hT PySem.F.slot_tuple_hash.lookup ?_);dsimp only;refine ae (eP k m ?_);refine ae ?_;show wpAny _ _ (forIn a _ _) _ _ s;rw[<-Array.forIn_toList];refine gI _ (λrest r d=>r.1=none/\d=s/\∃c,ItemsAre (j3 prog w) c rest) _ ?_ ?_ _ _ ⟨rfl,rfl,ks,l⟩
 ·rintro v rest r d ⟨f,rfl,c,i⟩
  cases i with
  |cons q p=>
   rw[hashByValue_scannable _<|DR<|BA q];refine ae (af ?_);cases plainKind v with
   |true=>simp only[fx,bj,bI];exact af ⟨rfl,rfl,_,p⟩
   |false=>simp only[iD,c8];exact af (af<|h false)
 ·rintro ⟨u,t⟩ d ⟨f,rfl,_⟩
  simp only at f;subst f;exact af (h true)
def Rw{Q:Bool->Shared->Prop}(h:Q true s):wpAny (model prog w) A (isSame (.ref b)<|.ref b) Q E s:=by unfold isSame;dsimp only;refine aT (λ_=>af h) (λa=>absurd (gu b) a)
def A7{h:Heap}{c:Array<|Int×Value}(d:qf prog w h c.toList){i:Nat}{e:Int×Value}(a:c[i]?=some e):TK prog w h e.2/\e.1=k6 prog w (tK h e.2):=
 d e (by rw[<-aZ]at a;exact bc a)
def R7{h:Heap}{c:Array<|Int×Value}{i:Nat}{e:Int×Value}(a:c[i]?=some e):tK h e.2∈l8 h c.toList:=by unfold l8;rw[<-aZ]at a;exact aI.mpr ⟨e,bc a,rfl⟩
def acS{t:SetTable}{d:Array<|Int×Value}{i j:Nat}{e:Int×Value}(c:t.place[i]?=some j)(a:d[i]?=some e):(j,e)∈List.zip t.place.toList d.toList:=by rw[<-aZ]at c a;exact bc (i:=i) (by rw[List.getElem?_zip_eq_some];exact⟨c,a⟩)
def aay{a b:Addr}{d:List Key}{o:Obj}{k:Array<|Int×Value}{ep:Nat}{t:SetTable}{Q:SetFound->Shared->Prop}(hx:mj prog w s.heap d b)(hu:A.units<cLine)(ho:s.heap.get? a=some o)(hd:o.data=.set k ep t)(el:qf prog w s.heap k.toList)(F:Tab t k.toList)(hm:t.mask<=8100)
    (hin:d∈l8 s.heap k.toList->Q (.there none) s)(O:∀j,j∉t.place.toList->j<=t.mask->vj t (k6 prog w d) j->d∉l8 s.heap k.toList->Q (.free j false) s):
    wpAny (model prog w) A (setSearch a (.ref b) (k6 prog w d) true) Q E s:=by
 have hf:t.fits k.size=true:=by have:=F.fits;rw[aC]at this;exact this
 have N:t.place.size=k.size:=by rw[F.sz,aC]
 obtain⟨em,Qw,Z⟩:=F.room;obtain⟨kk,_,QI⟩:=F.k;have G:=Kf t (k6 prog w d);obtain⟨C,Qa,Qb⟩:=FX QI G.b G.r Qw;have HS:(jQ t C<|t.probeStart<|k6 prog w d).j∉t.place.toList:=by rw[Qb];exact Z
 have go:∀(f c:Nat) (u:Option SetTable.Probe),u.getD (t.probeStart<|k6 prog w d)=jQ t c (t.probeStart<|k6 prog w d)->c<=C->C - c<f->
  (∀m,m<c->∃(i:Nat) (e:Int×Value),t.place[i]?=some (jQ t m<|t.probeStart<|k6 prog w d).j/\k[i]?=some e/\tK s.heap e.2≠d)->wpAny (model prog w) A (setSearchFrom a (.ref b) (k6 prog w d) true f u) Q E s:=by
  intro f;induction f with
  |zero=>intro c st _ _ h;exact absurd h (cP _)
  |succ f ih=>
   intro c u hs hc hfu old;obtain⟨m,g1,g2⟩:=WI F (λi=>(k[i]?.map (·.1)).getD 0) (k6 prog w d) (oK.jQ c G);have v9:∀l,l<m->∃(i:Nat) (e:Int×Value),t.place[i]?=some (jQ t (c+l)<|t.probeStart<|k6 prog w d).j/\k[i]?=some e/\tK s.heap e.2≠d:=λl T=>by
    obtain⟨i,J,h2⟩:=g1 l T;rw[<-qL]at J;have R:i<k.size:=by rw[<-N];exact(br.mp J).1
    have D:=aJ R;refine⟨i,k[i],J,D,λz=>h2 ?_⟩;rw[D];show k[i].1=_;rw[(A7 el D).2,z]
   have v:∀l,l<c+m->∃(i:Nat) (e:Int×Value),t.place[i]?=some (jQ t l<|t.probeStart<|k6 prog w d).j/\k[i]?=some e/\tK s.heap e.2≠d:=λl T=>by
    by_cases z:l<c;·exact old l z
    ·obtain⟨m2,rfl⟩:∃m2,l=c+m2:=⟨l - c,by omega⟩;exact v9 m2 (by omega)
   have U:∀l,(∃(i:Nat) (e:Int×Value),t.place[i]?=some (jQ t l<|t.probeStart<|k6 prog w d).j/\k[i]?=some e/\tK s.heap e.2≠d)->(jQ t l<|t.probeStart<|k6 prog w d).j∈t.place.toList:=λl ⟨i,e,J,_⟩=>by rw[<-aZ]at J;exact bc J
   have hcm:c+m<=C:=Nat.le_of_not_lt λz=>HS (U C<|v C z);rw[<-qL,<-qL,<-hs]at g2;unfold setSearchFrom;refine ae (bR ho hd hf ?_);dsimp only;refine aT (λvS=>absurd vS (by rw[F.odd];decide)) (λ_=>?_);rcases g2 with⟨L,g4⟩|⟨i,L,g4,g5,g6⟩
   ·split
    ·rename_i met n;have e:=g4.symm.trans n;cases e;dsimp only;refine af (O _ L (by have:=(oK.jQ (c+m) G).j;omega) ⟨c+m,rfl,λl T=>U l (v l T)⟩ λhk=>?_);unfold l8 at hk;obtain⟨e,D,ek⟩:=aI.mp hk;obtain⟨i,R,ei⟩:=bO D;have QB:i<k.size:=by simpa using R
     have Y:i<t.place.size:=by rw[N];exact QB
     have P:k[i]?=some e:=by rw[<-aZ,au R,ei]
     have V:t.place[i]?=some t.place[i]:=aJ Y;obtain⟨m1,r1,r2⟩:=F.reach _ _ (acS V P);have eh:e.1=k6 prog w d:=by rw[(A7 el P).2,ek]
     rw[eh]at r1 r2;rcases eK m1 (c+m)with q|q|q
     ·obtain⟨x,e',J,h2,h3⟩:=v m1 q;rw[r1]at J;have:x=i:=by
       have QC:=(br.mp J);obtain⟨l1,l2⟩:=QC;rcases eK x i with q2|q2|q2;·have:=F.pO.lt q2 Y;omega
       ·exact q2
       ·have:=F.pO.lt q2 l1;omega
      subst this;rw[P]at h2;cases h2;exact h3 ek
     ·subst q;exact L (by rw[r1,<-aZ]at*;exact bc V)
     ·exact L (r2 _ q)
    ·rename_i n;exact(n _ g4).elim
   ·split
    ·rename_i met n;have e:=g6.symm.trans n;cases e;dsimp only;have R:i<k.size:=by rw[<-N];exact(br.mp L).1
     have D:k[i]?=some k[i]:=aJ R;obtain⟨⟨y,ey,hy⟩,_⟩:=A7 el D
     have rest:wpAny (model prog w) A (do
      let p<-holding [k[i].2] (eqBool k[i].2 (.ref b))
      let(es',_,t')<-setState a
      if true&&p then return .there none
      let some Ec:=t'.sameMemory t.moves t.mask|unsupported "set.changed-during-lookup:is-the-new-block-at-the-old-address"
      let r<-match(if Ec then t'.slot (jQ t (c+m)<|t.probeStart<|k6 prog w d).j else .empty)with
       |.live x=>match es'[x]? with
        |some (_,y')=>do pure (if<-isSame y' k[i].2 then some x else none)
        |none=>pure none
       |_=>pure none
      match r with
      |none=>rule "set.search.anew";setSearchFrom a (.ref b) (k6 prog w d) true f none
      |some x=>if p then return .there (some x)else setSearchFrom a (.ref b) (k6 prog w d) true f (some (jQ t (c+(m+1)) (t.probeStart (k6 prog w d))))) Q E s:=by
      rw[ey]at hy⊢;refine ae (bE<|wpAny_eqBool_tuple hu hy hx ?_);refine ae (bR ho hd hf ?_);dsimp only;by_cases I:tK s.heap (.ref y)=d
      ·rw[aN I];refine aT (λ_=>af<|hin ?_) (λz=>absurd rfl z);have:=R7 (h:=s.heap) D;rw[ey,I]at this;exact this
      ·rw[aG I];refine aT (λz=>absurd z<|by decide) (λ_=>?_);have sm:t.sameMemory t.moves t.mask=some true:=by unfold SetTable.sameMemory;simp
       rw[sm];dsimp only;rw[av rfl,g4];dsimp only;rw[D];dsimp only;rw[ey];refine ae (Rw<|ae<|af ?_);rw[av rfl];dsimp only;refine aT (λz=>absurd z<|by decide) (λ_=>?_);have Bp:c+(m+1)<=C:=by
        rcases gS (c+m) C with q|q;·omega
        ·have:c+m=C:=by omega
         rw[this]at L;rw[<-aZ]at L;exact absurd (bc L) HS
       refine ih (c+(m+1)) _ rfl Bp (by omega) λl T=>?_;rcases gS l (c+m)with q|q;·exact v l q
       ·have:l=c+m:=by omega
        subst this;exact⟨i,k[i],L,D,by rw[ey];exact I⟩
     have M:wpAny (model prog w) A (do
      let some (_,y):=k[i]?|unsupported "internal:set-entry"
      let p<-holding [y] (eqBool y<|.ref b)
      let(es',_,t')<-setState a
      if true&&p then return .there none
      let some Ec:=t'.sameMemory t.moves t.mask|unsupported "set.changed-during-lookup:is-the-new-block-at-the-old-address"
      let r<-match(if Ec then t'.slot (jQ t (c+m)<|t.probeStart<|k6 prog w d).j else .empty)with
       |.live x=>match es'[x]? with
        |some (_,y')=>do pure (if<-isSame y' y then some x else none)
        |none=>pure none
       |_=>pure none
      match r with
      |none=>rule "set.search.anew";setSearchFrom a (.ref b) (k6 prog w d) true f none
      |some x=>if p then return .there (some x)else setSearchFrom a (.ref b) (k6 prog w d) true f (some (jQ t (c+(m+1)) (t.probeStart (k6 prog w d))))) Q E s:=by
      rw[D];exact rest
     refine aT (λ_=>?_) (λ_=>M);refine ae (acp hx (λy' hy'=>?_) ?_)
     ·obtain⟨e,HX,rfl⟩:=aI.mp hy';have:e∈k.toList:=by
       rw[Array.toList_filter]at HX;exact(dy.mp HX).1
      exact(el e this).1
     ·refine aT (λz=>absurd z<|by decide) (λ_=>M)
    ·rename_i n;exact(n _ g6).elim
 unfold setSearch;refine go 100000 0 none rfl (bM _) ?_ λm h=>absurd h (cP _);unfold SetTable.turns at Qa;omega
def Hg{h:Heap}(i:h.get? a=some o)(k:o.data=.set es0 ep t0)(d:qf prog w h es)(f:Heap.SameBut a h h'):qf prog w h' es/\l8 h' es=l8 h es:=
 d.at' λe j b ob m l=>by obtain⟨⟨n,c,tk⟩,_⟩:=d e j;rw[m]at c;cases c;rw[f.2 b<|tk.ne i k];exact l
def Z7{t n}{Q:Unit->Shared->Prop}(j:s.heap.get? a=some o)(m:o.data=.set es ep t)(hf:t.fits es.size=true)(l:n<10^6)(r:4*es.size<=n)
 (h:∀(c:Array<|Int×Value) t',c.toList.Perm es.toList->Tab t' c.toList->t'.led=t.led->n<=t'.mask->t'.mask<=2*n+7->Q () {s with heap:=s.heap.update a<|Obj.putSet c t'}):
   wpAny (model prog w) A (setRelay a n) Q E s:=by
  obtain⟨k,_,y,z,x⟩:=K5 n l;obtain⟨t',d,e,i,p,v,C,u,q⟩:=Z6 t es n l r;unfold setRelay;refine ae (bR j m hf ?_);dsimp only;refine aT (λf=>absurd f (by rw[c7];omega)) (λ_=>?_);rw[e];have sz:(d.filterMap (es[·]?)).size=es.size:=by rw[<-aC,i.length_eq,aC]
  refine ae ?_
  show wpAny _ _ (do
   let c:=d.filterMap (es[·]?)
   if c.size !=es.size then unsupported "internal:set-table-lost-an-element"
   pure (c,t')) _ _ s
  dsimp only;refine aT (λf=>absurd f<|by rw[sz];simp) (λ_=>af ?_);dsimp only;refine eN j m (h _ t' i p v u q) (by rw[sz,c7];omega)
def Na{M:Value->Prop}{n}{Q:Bool->Shared->Prop}(hx:mj prog w s.heap ks b)(hu:A.units<cLine)(hM:M<|.ref b)(hS:nh prog w M s.heap a kG n)(hroom:n+1<=1000)
 (h:∀r h',Heap.SameBut a s.heap h'->nh prog w M h' a (ks::kG) (n+1)->Q r {s with heap:=h'}):
   wpAny (model prog w) A (setAddHashed a (.ref b)<|k6 prog w ks) Q E s:=by
  obtain⟨o,v,ep,t,P,hex,F,el,hin,hn,tb,Y,f,q,tu,m⟩:=hS;have hf:t.fits v.size=true:=by have:=tb.fits;rw[aC]at this;exact this
  have m7:=tb.m7;unfold setAddHashed setAddHashedIn;refine bE (ae<|bR P F hf ?_);dsimp only;refine aT (λvS=>absurd vS<|by unfold byScan;simp[Value.scannable]) (λ_=>?_);refine ae (aay hx hu P F el tb f (λhk=>?_) λj hj hl hr hk=>?_)
  ·dsimp only;refine af ?_;have e:s={s with heap:=s.heap}:=by cases s;rfl
   have:=h false s.heap (Heap.SameBut.refl a s.heap) ⟨o,v,ep,t,P,hex,F,el,hin,by omega,tb,Y,f,q,tu,λN=>by rw[m N,aD];exact⟨.inr,λz=>z.elim (λz=>by rw[z];exact(m ks).mp hk) id⟩⟩
   rw[e];exact this
  ·dsimp only;refine ae (bR P F hf ?_);dsimp only;obtain⟨i,em,G,_⟩:=tb.put (x:=.ref b) (by omega) hj hl hr;generalize adi:t.put j=pt at i em G⊢;obtain⟨t1,p⟩:=pt;dsimp only at i em G⊢;have k:=insertAt_perm v p (k6 prog w ks,Value.ref b);generalize ada:SetTable.insertAt v p (k6 prog w ks,Value.ref b)=l7 at i k⊢;have U:l7.size=v.size+1:=by rw[<-aC,k.length_eq,aq,aC]
   have Hi:qf prog w s.heap l7.toList:=λe u=>by
    rcases aD.mp (k.mem_iff.mp u)with rfl|u;·exact⟨⟨b,rfl,by rw[hx.tK];exact hx⟩,by rw[hx.tK]⟩
    ·exact el e u
   have R:∀e∈l7.toList,M e.2:=λe u=>by
    rcases aD.mp (k.mem_iff.mp u)with rfl|u;·exact hM
    ·exact hin e u
   have kp:(l8 s.heap l7.toList).Perm (ks::l8 s.heap v.toList):=by have:=k.map λe=>tK s.heap e.2;rw[aR,hx.tK]at this;exact this
   have J:(l8 s.heap l7.toList).Nodup:=kp.nodup_iff.mpr (bC.mpr ⟨hk,tu⟩);have L:∀N,N∈l8 s.heap l7.toList↔N∈ks::kG:=λN=>by rw[kp.mem_iff,aD,aD,m N]
   have I:∀(c:SetTable),Tab c l7.toList->c.mask=t.mask->c.led=t.led->wpAny (model prog w) A (do
    storeSet a l7 c
    if(!false&&c.tooFull)=true then setRelay a (SetTable.grown<|v.size+1)
    return true) Q E s:=λc y Pa He=>by
    refine ae (eN P F ?_ (by rw[U,c7];omega));have V:(s.heap.update a<|Obj.putSet l7 c).get? a=some {o with data:=.set l7 (ep+1) c}:=by have:=aY (Obj.putSet l7 c) P (by rw[fm l7 c F];rfl);rw[fm l7 c F]at this;exact this
    have l:=bu s.heap a (Obj.putSet l7 c);obtain⟨O7,ka⟩:=Hg P F Hi l;have Qy:c.fill=v.size+1:=by unfold SetTable.fill;rw[y.oP,y.sz,aC,U];rfl
    have fin:∀(D:¬(c.tooFull=true)),nh prog w M (s.heap.update a<|Obj.putSet l7 c) a (ks::kG) (n+1):=λD=>by refine⟨_,l7,_,c,V,hex,rfl,O7,R,by omega,y,?_,by rw[Pa];exact f,by rw[He];exact q,by rw[ka];exact J,by rw[ka];exact L⟩;unfold SetTable.tooFull at D;rw[Qy]at D;rw[U];simp at D;omega
    by_cases Z:c.tooFull=true
    ·rw[Z];simp only[iD,Bool.and_true,c8];have g4:SetTable.grown (v.size+1)=4*(v.size+1):=by
      unfold SetTable.grown;rw[aw<|by omega];omega
     rw[g4];refine ae (Z7 (s:={s with heap:=s.heap.update a<|Obj.putSet l7 c}) V rfl (by have:=y.fits;rw[aC]at this;exact this) (by omega) (by omega) λd T C tb3 O6 hm3 hm4=>af ?_);have Bs:((s.heap.update a<|Obj.putSet l7 c).update a (Obj.putSet d T)).get? a=some {o with data:=.set d (ep+1+1) T}:=by have:=aY (Obj.putSet d T) V (by rw[fm d T rfl];rfl);rw[fm d T rfl]at this;exact this
     have O:=l.trans (bu (s.heap.update a<|Obj.putSet l7 c) a<|Obj.putSet d T);have O9:qf prog w s.heap d.toList:=λe u=>Hi e (C.mem_iff.mp u);obtain⟨O8,kb⟩:=Hg P F O9 O;have IG:(l8 s.heap d.toList).Perm (l8 s.heap l7.toList):=C.map _;have sz2:d.size=l7.size:=by rw[<-aC,C.length_eq,aC]
     exact h true _ O ⟨_,d,_,T,Bs,hex,rfl,O8,λe u=>R e<|C.mem_iff.mp u,by omega,tb3,by omega,by omega,by rw[O6,He];exact q,by rw[kb];exact IG.nodup_iff.mpr J,λN=>by rw[kb,IG.mem_iff];exact L N⟩
    ·have Qz:c.tooFull=false:=by simpa using Z
     rw[Qz];simp only[iu,bj,bI];exact ae (af<|af<|h true _ l<|fin Z)
   refine aT (λhp=>ae<|aco hx λr=>?_) (λhp=>ae<|af ?_)
   ·refine I _ ?_ ?_ ?_
    ·split;·exact i
     ·exact i.off false
    ·split<;>exact em
    ·split<;>exact G
   ·simp only[c8];exact I t1 i em G
def nh.kp{prog:Program}{w:World}{M:Value->Prop}{h q:Heap}{a:Addr}{d:List<|List Key}{n:Nat}{j:List Addr}(x:nh prog w M h a d n)(l:∀b∈j,b≠a/\∀o c m,h.get? b=some o->o.data=.seq c m->o.cls=.type "tuple"->False)(k:∀b o,b∉j->h.get? b=some o->q.get? b=some o):nh prog w M q a d n:=
 x.keep λb o p _ i=>k b o (λf=>by
  rcases i with rfl|⟨c,m,h1,h2⟩;· exact(l _ f).1 rfl
  · exact(l b f).2 o c m p h1 h2) p
variable{R:Result->Shared->Prop}{I:Addr}{fp wr:List Addr}{G:Array GenState->Array GenState->Prop}{n:Nat}{P:Nat->Value->Prop}{St:Nat->Shared->Prop}
def aaJ{M:Value->Prop}(W:WalksS prog w A.in1 I fp wr G n P St)(S:Addr)(t:S∉fp)(hu:A.units+1<cLine)(Y:Heap)
    (val:Nat->List Key)(k:∀i v,P i v->∃b,v=.ref b/\b∉S::wr/\M (.ref b)/\mj prog w Y (val i) b)(a:n+1<=1000)(D:∀i s,St i s->∀b∈wr,∀o u m,s.heap.get? b=some o->o.data=.seq u m->o.cls=.type "tuple"->False)(s:Shared)(C:St 0 s)
    (V:∀b o,b∉S::wr->Y.get? b=some o->s.heap.get? b=some o)(O:nh prog w M s.heap S [] 0)
      (hR:∀d j,Moved (S::wr) G s d->nh prog w M d.heap S j n->(∀x,x∈j↔x∈(List.range n).map val)->R (.ok<|.ret .none) d):
      codeAny (model prog w) A (.builtin "set.update.loop" ⟨[.ref S,.ref I],[]⟩) R s:=by
 have L:S∉wr:=λh=>t (W.sub _ h)
 refine K3 W S t (J:=λi s=>(∀b o,b∉S::wr->Y.get? b=some o->s.heap.get? b=some o)/\∃c,nh prog w M s.heap S c i/\∀x,x∈c↔x∈(List.range i).map val)
  (λi s d st q ⟨f,c,U,T⟩=>⟨λb o a e=>q.heap b o (λz=>a<|aX _ z)<|f b o a e,c,U.kp (λb a=>⟨λe=>L<|by rw[<-e];exact a,D _ s st b a⟩) q.heap,T⟩) (λi v s Q E Bp hP ⟨f,c,O,hm⟩ hQ=>?_) n 0 s rfl (bM _) C ⟨V,[],O,λx=>by simp⟩ λd f ⟨_,c,U,T⟩=>hR d c f U T
 obtain⟨b,rfl,F,hM,y⟩:=k i v hP;have Z:mj prog w s.heap (val i) b:=y.at' λo e=>f b o F e;unfold setAdd;refine bE ?_;have l:A.in1.units<cLine:=by rw[fq];exact hu
 refine ae (wpAny_pyHash_tuple l Z ?_);refine Na (s:={s with toks:=s.toks+((val i).length+1)}) Z l hM O (by omega) λr h' p N=>hQ _ _ _ (cG _ _) p ⟨λb o a e=>?_,_,N,Jo hm⟩;show h'.get? b=some o;rw[p.2 b (λh:b=S=>a<|by rw[h];exact bL)];exact f b o a e
def aaE{h:Heap}(e:h.get? a=some (ou w)):nh prog w M h a [] 0:=
 ⟨_,#[],0,_,e,⟨rfl,rfl,rfl⟩,rfl,λe c=>(by simp at c),λe c=>(by simp at c),ag _,abL _ _ _,(show 0*5<7*3 by decide),(show 7<=8100 by decide),rfl,by unfold l8;exact .nil,λk=>by unfold l8;simp⟩
def NW{kG:List<|List Key}{Q:jP}(J:A.handled=none)(T:A.units+64<cLine)(y:s.heap.IsList l items)(d:items.size=kG.length)(D:∀i v,items[i]?=some v->∃b,v=.ref b/\mj prog w s.heap (kG.getD i []) b)(L:items.size+1<=1000)
 (h:∀c tk a,nh prog w (λv=>v∈items.toList) c s.heap.objs.size a items.size->(∀x,x∈a↔x∈kG)->
 (∀b o,b<s.heap.objs.size->s.heap.get? b=some o->c.get? b=some o)->Q (.ref s.heap.objs.size) {s with heap:=c,toks:=tk}):
   wpAny (model prog w) A (call (.type "set") [.ref l]) Q E s:=by
  refine GB (F:=λc=>∃a,nh prog w (λv=>v∈items.toList) c s.heap.objs.size a items.size/\∀x,x∈a↔x∈kG) J y (λ{I fp wr} {_ _ _ _} W k st O C r j M=>?_) λc tk ⟨a,p,m⟩ N=>h c tk a p m N;refine aaJ W _ k (by simp only[fq];omega) s.heap (λi=>kG.getD i []) (λi v hv=>?_) L j _ st (λb o _ e=>C b o e) (aaE O) λq a u p m=>M q u ⟨a,p,λx=>by rw[m x,d,Bi kG []]⟩;obtain⟨b,rfl,tk⟩:=D i v hv;have f:b<s.heap.objs.size:=by obtain⟨o,_,_,t,_⟩:=tk;exact Heap.lt_size t
  refine⟨b,rfl,λz=>?_,by rw[<-aZ]at hv;exact bc hv,tk⟩;rcases aD.mp z with z|z;·exact absurd z (aU f)
  ·exact absurd f (Nat.not_lt.mpr<|cI<|r b z)
end P2
namespace PySem
open Sem (wp)
def P0{w}{A:Around}{s:Shared}{k}{Q:Option Value->Shared->Prop}
 (q:s.heap.get? a=some o)(t:o.cls=.type "list")(f:o.data=.seq xs k)(r:o.dict=none)(j:typeLookup (.type "list") name=pure none)(i:(["__module__","__name__","__qualname__","__doc__","__annotations__"]:List Str).contains name=false)(y:A.handled=none)
 (h:∀p tk e,Heap.NewExcOf s.heap p e "AttributeError"->Q none {s with heap:=p,toks:=tk})(n:name.length+100<=sizeLine):
   wpAny (model prog w) A (getAttr? (.ref a) name) Q E s:=by
  obtain⟨c,z,C,u⟩:=o;simp only at t f r;subst t f r;obtain⟨x,g,d,tk,v⟩:=s;have hT:∀l,(⟨x,g,d,l,v⟩:Shared).TypeIs (.ref a) "list":=λ_=>⟨_,q,rfl⟩;have N:=sub_AttributeError;have M:=F.slot_list_getattribute.lookup;have L:=F.slot_list_getattribute.bind (.ref a);have J:=am_list_getattr_none;unfold getAttr? getAttrBy? getAttrBy;repeat(any_goals(first|assumption|exact hT _|((with_reducible show wpAny _ _ (call (Value.builtin "list.__getattribute__") _ _) _ _ _);refine call_meets F.slot_list_getattribute (hT _) am_entry_list_getattribute (F.args_list_getattribute_2 _ _) (meets_getattribute_miss_list a xs k u name _ j i n) ⟨q,y,λp l e m=>?_⟩)|wp_step))
  obtain⟨G,D,I⟩:=m.there;show wpAny _ _ (getattributeRaised _ _ _ _ _ _ _) _ _ _;unfold getattributeRaised;repeat(any_goals(first|assumption|wp_step))
  exact h _ _ _ m.of
end PySem
namespace P2
open PySem L2 PySem.Spec PySem.Calls PySem.W xq
open PyProof.Rows hiding St K
def Hk:entryFor table "dict.update.loop"=some Builtin.«dict.update.loop»:=entryFor_of_tree (by kernel_rfl)
def za:plainId "dict.update.loop"=true:=by decide+kernel
def OJ{w}{h f:Heap}(x:h.DictOfH (tupleKind (j3 prog w)) a xs)(k:∀b o,(b=a\/∃p∈xs,p.2.1=b)->h.get? b=some o->f.get? b=some o):f.DictOfH (tupleKind (j3 prog w)) a xs:=by obtain⟨o,z,A,s,r,m,l,j,i⟩:=x;refine⟨o,z,A,k a o (.inl rfl) s,r,m,l,λp d=>?_,i⟩;obtain⟨q,c,n,y,v,u,t⟩:=j p d;exact⟨q,c,n,k _ _ (.inr ⟨p,d,rfl⟩) y,v,u,t⟩
variable{f:Program}{w:World}{A:Around}{R:Result->Shared->Prop}{I:Addr}{y wr:List Addr}{G:Array GenState->Array GenState->Prop}{n:Nat}{P:Nat->Value->Prop}{St:Nat->Shared->Prop}
def Ap(f:Program)(w:World)(h:Heap)(a:List Addr)(x:List Key×Addr×Value)(b:Addr):Prop:=
 b∉a/\x.2.1∉a/\(∃o m,h.get? b=some o/\o.cls=.type "tuple"/\o.data=.seq #[.ref x.2.1,x.2.2] m)/\(tupleKind<|j3 f w).is h x.1 x.2.1
def OK(W:WalksS f w A.in1 I y wr G n P St)(S)(hSf:S∉y)(hu:A.units+1<cLine)(h0){rs}
 (val:Nat->List Key×Addr×Value)(V:∀i v,P i v->∃b,v=.ref b/\Ap f w h0 (S::wr) (val i) b)(r:n<=sizeLine)(J:Nat->List (List Key×Addr×Value)->Prop)
 (hJ:∀i a,i<n->J i a->J (i+1) (storedH a (val i).1 (val i).2.1 (val i).2.2))(yz:∀i a,J i a->a.length<=i/\∀p∈a,p.2.1∉S::wr):
   ∀k i s t a,n - i=k->i<=n->St i s->(∀b o,b∉S::wr->h0.get? b=some o->s.heap.get? b=some o)->s.heap.DictOfH (tupleKind<|j3 f w) S a->J i a->
    (∀d O,Moved (S::wr) G s d->d.heap.DictOfH (tupleKind<|j3 f w) S O->J n O->R (.ok<|.ret rs) d)->
    codeAny (model f w) A (.builtin "dict.update.loop" ⟨[.ref S,.ref I,.int (i:Int) t,rs],[]⟩) R s:=by
  have Qi:S∉wr:=λh=>hSf (W.sub _ h);have l:∀b∈wr,b∈S::wr:=λb r=>aX _ r;have T:∀{i:Nat} {a:List (List Key×Addr×Value)} {s d:Shared},J i a->s.heap.DictOfH (tupleKind (j3 f w)) S a->Moved wr G s d->d.heap.DictOfH (tupleKind (j3 f w)) S a:=λj hd hm=>OJ hd λb o r e=>hm.heap b o (λz=>by
   rcases r with rfl|⟨p,hp,rfl⟩;· exact Qi z
   · exact(yz _ _ j).2 p hp (l _ z)) e
  intro k;induction k with
  |zero=>
   intro i s t a hk hi C HQ hS M hR;have hin:i=n:=by omega
   subst hin;refine cy Hk ?_;rw[cn za _];show wpAny _ A.in1 (pyNext (.ref I)>>=_) _ _ s;refine ae (W.done s _ _ C λd u=>?_);show wpAny _ A.in1 (Builtin.Dict.addKeywords S []>>=_) _ _ d;refine ae (af ?_);exact af (hR d a (u.mono l) (T M hS u) M)
  |succ k ih=>
   intro i s t a hk hi C HQ hS M hR;have F:i<n:=by omega
   refine cy Hk ?_;rw[cn za _];show wpAny _ A.in1 (pyNext (.ref I)>>=_) _ _ s;refine ae (W.item i s _ _ F C λv d hP Y u=>?_);obtain⟨b,rfl,Qs,QJ,⟨o,m,ho,hc,hd⟩,Bo⟩:=V i v hP;have x:∀b o,b∉S::wr->h0.get? b=some o->d.heap.get? b=some o:=λb o r e=>u.heap b o (λz=>r<|l b z) (HQ b o r e);have Z:=x b o Qs ho;have L:(tupleKind (j3 f w)).is d.heap (val i).1 (val i).2.1:=by obtain⟨q,vV,n',g1,g2⟩:=Bo;exact⟨q,vV,n',x _ _ QJ g1,g2⟩
   have Bk:=T M hS u;have hT:d.TypeIs (.ref b) "tuple":=⟨o,Z,hc⟩;have hu':A.in1.units<cLine:=by rw[fq];exact hu
   show wpAny _ A.in1 (holding [.ref b] _>>=_) _ _ d;refine ae (bE ?_);refine ae (wpAny_tryCatch ?_);unfold Builtin.Dict.pairItems;refine ae (dR hT ?_);rw[av<|by decide];refine ae (eP Z hd<|af ?_);show wpAny _ _ (holding [.ref (val i).2.1,(val i).2.2]<|dictSet S (.ref (val i).2.1) (val i).2.2) _ _ _;refine bE (wpAny_dictSet_heap (hsz:=by have:=(yz _ _ M).1;omega) (cW hu) L Bk λh' QN D=>?_);have er:rawInt ((i:Int)+1)=.int ((i+1:Nat):Int) 0:=by unfold rawInt;rfl
   rw[er];have Q:∀{c:Addr},c∉S::wr->c≠S:=λh z=>h (by rw[z];exact bL);refine af ⟨d9 za _,ih (i+1) _ 0 _ (by omega) F (W.frame _ d _ _ Y (cG _ _) λb r o e=>?_) (λb o r e=>?_) QN (hJ i a F M) λs'' N QO Qh U=>?_⟩;·rw[D.2 b (λh:b=S=>hSf<|by rw[<-h];exact r)];exact e
   ·show h'.get? b=some o;rw[D.2 b<|Q r];exact x b o r e
   ·refine hR s'' N (Moved.trans W.gtrans ((u.mono l).then_heap (cG _ _) λb o r e=>?_) QO) Qh U;rw[D.2 b<|Q r];exact e
def SE:typeLookup (.type "list") "keys"=pure none:=by rw[hK,fh];kernel_rfl
def qr(a:List<|List Key×Addr×Value):List (List Key×Addr×Value):=a.foldl (λc x=>storedH c x.1 x.2.1 x.2.2) []
def aa5{d:List<|List Key×Addr×Value}{k:List Key}{a:Addr}{v:Value}:∀p∈storedH d k a v,p.2.1=a\/∃q∈d,q.2.1=p.2.1:=by
 intro p c;unfold storedH at c;split at c
 ·obtain⟨q,i,e⟩:=aI.mp c;right;refine⟨q,i,?_⟩;subst e;unfold putAt;split<;>rfl
 ·rcases bh.mp c with h|h;·exact .inr ⟨p,h,rfl⟩
  ·rw[aP]at h;subst h;exact .inl rfl
def aa6{c:List<|List Key×Addr×Value}{k:List Key}{a:Addr}{v:Value}:(storedH c k a v).length<=c.length+1:=by
 unfold storedH;split;·rw[aj];omega
 ·rw[ao];simp
theorem ya(a:List<|List Key×Addr×Value):∀i≤a.length,(qr<|a.take i).length<=i/\∀p∈qr (a.take i),∃q∈a,q.2.1=p.2.1
 |0,_=>⟨ag _,λp d=>nomatch d⟩
 |i+1,h=>by
  obtain⟨m,k⟩:=ya a i (by omega);have c:i<a.length:=by omega
  have e:qr (a.take<|i+1)=storedH (qr<|a.take i) a[i].1 a[i].2.1 a[i].2.2:=by unfold qr;rw[eR c,gc];rfl
  rw[e];refine⟨aS aa6<|by omega,λp d=>?_⟩;rcases aa5 p d with h|⟨q,hq,e⟩;·exact⟨a[i],bZ c,h.symm⟩
  ·obtain⟨r,j,l⟩:=k q hq;exact⟨r,j,l.trans e⟩
variable{E:jP}{s:Shared}
def NL{vals:List<|List Key×Addr×Value}{Q:jP}(hh:A.handled=none)(hu:A.units+64<cLine)(hl:s.heap.get? l=some {cls:=.type "list",data:=.seq items nl})(M:items.size=vals.length)
 (hi:∀(i:Nat) v x,items[i]?=some v->vals[i]?=some x->∃b,v=.ref b/\Ap f w s.heap [] x b)(hb:items.size<=sizeLine)
 (h:∀(h':Heap) tk,h'.DictOfH (tupleKind<|j3 f w) s.heap.objs.size (qr vals)->(∀b o,b<s.heap.objs.size->s.heap.get? b=some o->h'.get? b=some o)->Q (.ref s.heap.objs.size) {s with heap:=h',toks:=tk}):
   wpAny (model f w) A (call (.type "dict") [.ref l]) Q E s:=by
  refine callType_codes (Q₁:=λD c=>D=.ref s.heap.objs.size/\c={s with heap:=s.heap.push {cls:=.type "dict",data:=.dict #[]}}) F.kt_called_dict (F.kt_typeCall_dict_1 _) F.entry_dict_init (kt_code_dict_new _ ⟨rfl,rfl⟩) ?_
  rintro D c ⟨rfl,rfl⟩
  have d:(s.heap.push {cls:=.type "dict",data:=.dict #[]}).DictOfH (tupleKind<|j3 f w) s.heap.objs.size []:=Heap.DictOfH.new s.heap;have r:(s.heap.push {cls:=.type "dict",data:=.dict #[]}).get? l=some {cls:=.type "list",data:=.seq items nl}:=ah _ hl;have N:l<s.heap.objs.size:=Heap.lt_size hl;refine⟨d.typeIs,F.args_dict_init_2 _ _,?_⟩;unfold Builtin.«dict.__init__»;refine ae ?_;unfold Builtin.Dict.selfAndRest;refine ae (eY d.typeIs ?_);show wpAny _ _ (pure (s.heap.objs.size,[Value.ref l])) _ _ _;refine af ?_;show wpAny _ _ (Builtin.Dict.updateFrom "dict.__init__" s.heap.objs.size (.ref l) [] .none) _ _ _;unfold Builtin.Dict.updateFrom;refine ae (dR (T:="list") ⟨_,r,rfl⟩ ?_);rw[av<|by decide];refine ae (P0 r rfl rfl rfl SE (by decide+kernel) (by simp[hh]) (λu Ek e hx=>?_)<|by decide+kernel);rw[av<|show(none:Option Value).isNone=true from rfl];have O:u.IsList l items:=⟨_,hx.keeps _ _ r,rfl,nl,rfl⟩;have C:∀{b:Addr} {o:Obj},s.heap.get? b=some o->u.get? b=some o:=λe=>hx.keeps _ _ (ah _ e);have Y:u.get? s.heap.objs.size=some {cls:=.type "dict",data:=.dict #[]}:=hx.keeps _ _ (aH _ rfl);have t:s.heap.objs.size<u.objs.size:=Heap.lt_size Y;have a:∀{b:Addr} {o:Obj},s.heap.get? b=some o->b∉[s.heap.objs.size,u.objs.size]:=λe=>by have Z:=Heap.lt_size e;simp only[aD,cm,fA,not_or];exact⟨aU Z,aU<|eG Z t⟩
  refine ae (gK<|ae<|f3 O ?_);have Bn:A.in1.in1.handled=none:=by simp[hh]
  have e0:rawInt 0=.int ((0:Nat):Int) 0:=rfl;rw[e0];refine af ⟨d9 za _,?_⟩
  refine OK (A:=A.in1) (wr:=[u.objs.size]) ((Walks.list Bn u.objs.size l (aU<|eG N t) items).toS) s.heap.objs.size ?hSf (by simp only[fq];omega) s.heap (λi=>vals.getD i ([],0,.none)) ?hval hb (λi xs=>xs=qr (vals.take i)) ?hJ ?yz (items.size - 0) 0 _ 0 [] (by omega) (bM _)
   ⟨⟨_,aH _ rfl,rfl,rfl⟩,O.push _⟩ (λb o _ e=>ah _<|C e) ?hS0 rfl ?hR
  case hSf=>simp only[aD,cm,fA,not_or];exact⟨aU t,dq N⟩
  case hval=>
   intro i v hv;have hiv:i<items.size:=by
    rcases gS i items.size with h|h;·exact h
    ·rw[cu h]at hv;cases hv
   have Q5:vals[i]?=some (vals.getD i ([],0,.none)):=by rw[aW,au<|by omega];rfl
   obtain⟨b,rfl,_,_,⟨o,m,Z,P8,h3⟩,z⟩:=hi i v _ hv Q5;refine⟨b,rfl,a Z,?_,⟨o,m,Z,P8,h3⟩,z⟩;obtain⟨q,J,n',g1,g2⟩:=z;exact a g1
  case hJ=>
   rintro i xs Bp rfl
   have k:i<vals.length:=by omega
   unfold qr;rw[eR k,gc];rw[show vals.getD i ([],0,.none)=vals[i]by rw[aW,au k];rfl];rfl
  case yz=>
   rintro i xs rfl
   by_cases hle:i<=vals.length
   ·obtain⟨f1,f2⟩:=ya vals i hle;refine⟨f1,λp L=>?_⟩;obtain⟨q,hq,e⟩:=f2 p L;obtain⟨j,V,ej⟩:=bO hq;obtain⟨b,_,_,_,_,z⟩:=hi j items[j] q (aJ<|by omega) (by rw[au V,ej]);obtain⟨q',J,n',g1,g2⟩:=z;rw[<-e];exact a g1
   ·rw[cw<|by omega];obtain⟨f1,f2⟩:=ya vals vals.length (ag _);rw[gJ]at f1 f2;refine⟨by omega,λp L=>?_⟩;obtain⟨q,hq,e⟩:=f2 p L;obtain⟨j,V,ej⟩:=bO hq;obtain⟨b,_,_,_,_,z⟩:=hi j items[j] q (aJ<|by omega) (by rw[au V,ej]);obtain⟨q',J,n',g1,g2⟩:=z;rw[<-e];exact a g1
  case hS0=>exact⟨_,#[],0,ah _ Y,⟨rfl,rfl,rfl⟩,rfl,rfl,(λp L=>nomatch L),.nil⟩
  case hR=>intro s' xs' hm Bk V;obtain⟨h',g',d',Ej,Cp⟩:=s';have eg:g'=s.gens:=hm.gens;have ed:d'=s.drawn:=hm.drawn;have eo:Cp=s.os:=hm.os;subst eg;subst ed;subst eo;have U:xs'=qr (vals.take items.size):=V;rw[M,gJ]at U;subst U;exact⟨rfl,h h' Ej Bk λb o hb e=>hm.heap b o (a e)<|ah _<|C e⟩
end P2
namespace P2
open PySem L2
def Bj:List Key->Bool
 |[.inr x]=>decide (x=Str.ofString "here")
 |[.inr _,.inl _]=>true
 |[.inr x,.inr _]=>decide (x=Str.ofString "at")
 |_=>false
def AA:List Value->Bool
 |[.str x _]=>decide (x=Str.ofString "here")
 |[.str _ _,.int _ _]=>true
 |[.str x _,.str _ _]=>decide (x=Str.ofString "at")
 |_=>false
def qX(K:W.Frag):Bool:=K.all λp=>match p.2.data with
 |.seq a _=>!AA a.toList
 |_=>true
def qT:D->Option (List Key)
 |.tup ds=>(ly ds).bind λa=>if Bj a=true then some a else none
 |_=>none
theorem I7:∀{K:List<|Addr×Obj},K.lookup a=some o->(a,o)∈K
 |(b,q)::K,h=>by
  rw[gE]at h;split at h
  ·rename_i z;obtain rfl:a=b:=by simpa using z
   cases h;exact .head _
  ·exact .tail _ (I7 h)
def Uj(h:qX K=true)(f:Bj ks=true)(k:KT K a<|ks.map kV):False:=by
 obtain⟨o,d,n,w,y,v,x,i⟩:=k;have u:(a,o)∈K:=I7 w;have:=cF.mp h _ u;dsimp only at this;rw[v]at this;have r:AA d.toList=true:=by
  generalize d.toList=l at i;unfold Bj at f;split at f
  ·cases i with
   |cons p q=>cases q;obtain⟨t,rfl⟩:=p;exact f
  ·cases i with
   |cons p q=>
    cases q with
    |cons m j=>cases j;obtain⟨t,rfl⟩:=p;obtain⟨s,rfl⟩:=m;rfl
  ·cases i with
   |cons p q=>
    cases q with
    |cons m j=>cases j;obtain⟨t,rfl⟩:=p;obtain⟨s,rfl⟩:=m;exact f
  ·cases f
 have c:(!AA d.toList)=true:=this;rw[r]at c;cases c
def IA{d}(j:qX K=true)(r:Rep K al H v d)(e:qT d=some ks):∃b,al b/\H b=some (.tup<|ks.map kV)/\v=.ref b:=by
 cases r with
 |tup p q=>
  obtain⟨h,l,a⟩:=aL.mp (show((ly _).bind _)=some ks from e);have k:=uw q l;subst k;split at a
  ·rename_i i;cases a;rcases p with⟨f,c⟩|p;·exact⟨_,f,c,rfl⟩
   ·exact(Uj j i p).elim
  ·cases a
 |_=>cases e
def tN(f:jm):jm:=λρ S=>(f ρ S).bind λz c=>match z with
 |.d d=>(match qT d with
  |some a=>.ok (.tk a) c
  |none=>.bad)
 |_=>.bad
section
variable{X:Cx}{E:XK}{e:Expr}{f:jm}{a c:Pos}
def EJ(o:qX X.K=true)(h:ZE X E e f):ZE X E e (tN f):=by
 obtain⟨t,p,r⟩:=h;refine⟨t,p,λB al lo H σ ρ S Q s h=>r _ _ _ _ _ _ _ _ s<|iZ.mono (iZ.split h) λz j k l D m A y i v n=>?_⟩;split at i
 ·rename_i d;split at i
  ·rename_i C x;obtain⟨b,w,u,q⟩:=IA o (show Rep X.K j l v d from n) x;exact i j k l m .refl .refl v ⟨b,w,u,q⟩
  ·exact i.elim
 ·exact i.elim
end
inductive tW(K:W.Frag)(H:Hp):List V->List (List Key×V)->Prop
 |nil:tW K H [] []
 |cons {b kb:Addr} {k:List Key} {y:V} {vs:List V} {kvs:List<|List Key×V}:mi K H b [.ref kb,y]->H kb=some (.tup<|k.map kV)->tW K H vs kvs->tW K H (.ref b::vs) ((k,y)::kvs)
def VL{s}(I:Inv X pins σ H s):∀{f} {d} {c},tW X.K H f c->Vals f d->
    ∃a:List (List Key×Addr×Value),a.length=d.length/\(∀(i:Nat) v x,d[i]?=some v->a[i]?=some x->∃b,v=.ref b/\Ap X.prog X.w s.heap [] x b)/\L2.KT H c a:=by
 intro f d c r v;induction r generalizing d with
 |nil=>cases v;exact⟨[],rfl,λi v x h=>by simp at h,.nil⟩
 |@cons b l k _ _ _ sq m r G=>
  cases v with
  |cons p q=>
   obtain⟨a,M,L,J⟩:=G q;have D:_=Value.ref b:=p;subst D;obtain⟨F,y,⟨o,P,O,n,N⟩,_⟩:=I.tuple sq;cases y with
   |cons C z=>
    cases z with
    |cons w A=>
     cases A;rename_i u t;obtain rfl:u=Value.ref l:=C;refine⟨(k,l,t)::a,by simp[M],λi v x hv j=>?_,.cons ⟨rfl,m,w⟩ J⟩;cases i with
     |zero=>simp at hv j;subst hv j;exact⟨b,rfl,by simp,by simp,⟨o,n,P,O,N⟩,uv I.hok m⟩
     |succ i=>exact L i v x (by simpa using hv) (by simpa using j)
theorem Hw:∀{kvs} {vals} {acc} {xs},L2.KT H kvs vals->L2.KT H acc xs->L2.KT H (kvs.foldl (λa p=>putK a p.1 p.2) acc) (vals.foldl (λa x=>storedH a x.1 x.2.1 x.2.2) xs)
 |_,_,_,_,.nil,r=>r
 |_,_,_,_,.cons (a:=p) (b:=q) h t,r=>by obtain⟨pk,f⟩:=p;obtain⟨k,d,qu⟩:=q;obtain⟨c,j,i⟩:=h;dsimp only at c;subst c;exact Hw (kvs:=_) (vals:=_) (acc:=putK _ pk f) (xs:=storedH _ pk d qu) t (L2.KT.put r pk j i)
section
variable{X:Cx}{E:XK}{e:Expr}{f:jm}{N O:Pos}
def NK(Z:X.calm=true)(P:X.A.units+64<cLine):mF X (.type "dict") (λm d Q=>∃l t c,m=[.ref l]/\d l=some (.lst t)/\tW X.K d t c/\
    ∀p,d p=none->Q (.ref p) (upd d p (.dT (c.foldl (λa p=>putK a p.1 p.2) [])))):=by
 intro r j σ d m us Q k L h;obtain⟨l,t,c,rfl,U,R,q⟩:=h;obtain⟨u,rfl,J⟩:=vals1 L;obtain rfl:u=Value.ref l:=J;obtain⟨z,M,n,C,T⟩:=(show kq X.prog X.w d j.heap l (.lst t)from k.hok l _ U);obtain⟨vals,h1,h2,h3⟩:=VL k R C;have F:=Paired.length C;have s:=k.hok.fresh (ag j.heap.objs.size);refine NL (vals:=vals) (k.ok.hd Z) P T (by simp[h1]) (λi v x I w=>h2 i v x (by simpa using I) w) (by simp;omega) λG tk dd kp=>?_;have y:∀b u,j.heap.get? b=some u->G.get? b=some u:=λb u e=>kp b u (Heap.lt_size e) e;have D:=Hw h3 (acc:=[]) (xs:=[]) .nil;obtain⟨o,es,ep,g1,g2,g3,g4,g5,g6⟩:=dd;have Y:=L2.KT.keeps (H':=upd d j.heap.objs.size (.dT (c.foldl (λa p=>putK a p.1 p.2) []))) D (λb ys e=>by rw[jA (mZ e s)];exact e);have A:(c.foldl (λa p=>putK a p.1 p.2) ([]:List<|List Key×V)).length<=sizeLine:=by have I:=Paired.length D;have w:=(ya vals vals.length<|ag _).1;rw[gJ]at w;unfold qr at w;omega
 have I2:Inv X r σ (upd d j.heap.objs.size<|.dT<|c.foldl (λa p=>putK a p.1 p.2) []) {j with heap:=G,toks:=tk}:=
  k.laid (t':=tk) y (ag _) ⟨A,by simpa using dq k.big,_,Y,o,es,ep,g1,g2,g3,g4,g6⟩
 exact⟨.ref _,_,I2,rfl,q _ s⟩
def nR:List D->Option (List<|List Key×D)
 |[]=>some []
 |.tup [k,v]::r=>(qT k).bind λa=>(nR r).map ((a,v):: ·)
 |_::_=>none
theorem JN(k:qX K=true):∀{j} {l} {c},i9 K al H j l->nR l=some c->
 ∃a,tW K H j a/\Paired (λ(p:List Key×V) (q:List Key×D)=>p.1=q.1/\Rep K al H p.2 q.2) a c
 |_,_,_,.nil,h=>by cases h;exact⟨[],.nil,.nil⟩
 |_,_,_,.cons (d:=d) r q,h=>by
  cases r with
  |tup p t=>
   cases t with
   |nil=>cases h
   |cons n s=>
    cases s with
    |nil=>cases h
    |cons m o=>
     cases o with
     |cons _ _=>cases h
     |nil=>obtain⟨i,x,w⟩:=aL.mp (show((qT _).bind λi=>(nR _).map ((i,_):: ·))=some _ from h);obtain⟨c,v,rfl⟩:=aB.mp w;obtain⟨a,A,y⟩:=JN k q v;obtain⟨b,_,u,rfl⟩:=IA k n x;exact⟨(i,_)::a,.cons (p.elim (λz=>.inl<|.inl z.2) .inr) u A,.cons ⟨rfl,m⟩ y⟩
  |_=>cases h
def foldZ(c:List<|List Key×D):List (List Key×Z):=c.foldl (λa p=>ki a p.1<|.d p.2) []
theorem Hx{lo}:∀{c} {j} {us} {zs},Paired (λ(p:List Key×V) (q:List Key×D)=>p.1=q.1/\Rep K al H p.2 q.2) c j->kc K al lo H us zs->
 kc K al lo H (c.foldl (λa p=>putK a p.1 p.2) us) (j.foldl (λa p=>ki a p.1<|.d p.2) zs)
 |_,_,_,_,.nil,r=>r
 |_,_,_,_,.cons (a:=p) (b:=q) h t,r=>by obtain⟨pk,i⟩:=p;obtain⟨m,d⟩:=q;obtain⟨k,l⟩:=h;dsimp only at k;subst k;exact Hx (us:=putK _ pk i) (zs:=ki _ pk<|.d d) t (kc.put r pk<|show kh K al lo H i (.d d)from l)
def wN(f:jm):jm:=λρ S=>(f ρ S).bind λz a=>match z with
 |.loc n=>(match a[n]? with
  |some (.li c)=>(match(lI c).bind nR with
   |some d=>.ok (.loc a.length) (a++[.dt<|foldZ d])
   |none=>.bad)
  |_=>.bad)
 |_=>.bad
def L7(T:qX X.K=true)(R:X.calm=true)(I:X.A.units+64<cLine)(P:Gl X "dict")(M:X.mg "dict"=none)(hv:bootBuiltins "dict"=some (.type "dict"))(J:ZE X E e f)
 (u:X.se e [])(k:X.bk N []):ZE X E (.Call (.Name "dict" O) [e] [] N) (wN f):=by
  obtain⟨to,G,A⟩:=J;refine⟨_,JU (NK R I) P M hv (rS G rT u) (by decide) ⟨by decide,u,k⟩,λB al lo H σ ρ S Q s h=>A _ _ _ _ _ _ _ _ s<|iZ.mono (iZ.split h) λz r c H1 t j x1 y1 d v y=>?_⟩;split at d
  ·rename_i n;split at d
   ·rename_i zs q;split at d
    ·rename_i F D;obtain⟨ds,e1,e2⟩:=aL.mp D;have ez:=sJ e1;subst ez;obtain⟨a,L,rfl⟩:=y;obtain⟨w,Z,Y⟩:=j.cell L q;obtain⟨i,V,U⟩:=JN T Y.toD e2;refine⟨a,w,i,rfl,Z,V,λp l=>?_⟩;have C:=Hx (lo:=c) U (us:=[]) (zs:=[]) .nil;have o:lN X.K (λb=>r b/\b≠p) (kS c t.length p) (upd H1 p<|.dT<|i.foldl (λa p=>putK a p.1 p.2) []) p (.dt<|foldZ F):=⟨_,kv,C.mv (qz l)<|oR j.st p⟩;have x:=j.new l B9 o nofun;have m:kS c t.length p t.length=some p:=by unfold kS;rw[av rfl]
     exact d _ _ _ x (qz l) (oR j.st p) _ ⟨p,m,rfl⟩
    ·exact d.elim
   ·exact d.elim
  ·exact d.elim
variable{y:List<|Addr×Obj}{M:St}{H:Hp}{s:Shared}{a:Addr}{o:Obj}{j:List<|List Key×V}
def Ik(I:Inv X y M H s)(e:H a=some (.dT j))(h:s.heap.get? a=some o):Inv X y M (upd H a<|.j6 o<|.dT j) s:=by
 have ok:=I.hok a _ e;obtain⟨z,l,k,d,r⟩:=(show kq X.prog X.w H s.heap a (.dT j)from ok)
 exact I.write (x:=a) (e:=a) (t':=s.toks) (h':=s.heap) (by rw[e];exact True.intro) (.inl rfl) (λb u _ z=>z) ⟨o,h⟩
  (show kq X.prog X.w (upd H a<|.j6 o<|.dT j) s.heap a (.j6 o<|.dT j)from⟨h,z,l,k,L2.KT.keeps d<|λc m i=>by rw[jA<|Jr i e<|λz=>nomatch z];exact i,r⟩)
def Jt(I:Inv X y M H s)(e:H a=some (.dT j)):∀c u,X.H₀ a≠some (.j6 c u):=λc u z=>by have:=I.base.pF a c u z;rw[e]at this;cases this
def Rn(I:Inv X y M H s)(e:H a=some (.j6 o<|.dT j))(J:∀d u,X.H₀ a≠some (.j6 d u)):Inv X y M (upd H a<|.dT j) s:=by
 have l:∀{b:Addr},H b=none->b≠a:=λh z=>by rw[z,e]at h;cases h
 have w:∀{b:Addr} {m:List V},H b=some (.tup m)->b≠a:=λh z=>by rw[z,e]at h;cases h
 obtain⟨_,z,P,m,t,r⟩:=(show kq X.prog X.w H s.heap a (.j6 o<|.dT j)from I.hok a _ e);refine⟨I.ok,I.os,I.bare,⟨I.base.keep,I.base.slot,λb d F n A=>by rw[jA (l (I.base.free b d F n A))];exact I.base.free b d F n A,I.base.there,λb k h=>by rw[jA<|w<|I.base.tups b k h];exact I.base.tups b k h,λb d u h=>?_,λb G h=>?_⟩,I.loc,I.cell,by rw[jA (l I.free)];exact I.free,λx c h=>by rw[jA<|l<|I.pE x c h];exact I.pE x c h,λp L=>?_,λb u h=>?_,I.len⟩
 ·by_cases i:b=a;·subst i;exact absurd h (J d u)
  ·rw[jA i];exact I.base.pF b d u h
 ·obtain⟨more,q⟩:=I.base.q3 b G h;have i:b≠a:=λz=>by rw[z,e]at q;cases q
  exact⟨more,by rw[jA i];exact q⟩
 ·obtain⟨R,C,Q⟩:=I.pin p L;exact⟨R,by rw[jA (l C)];exact C,Q⟩
 ·by_cases i:b=a
  ·subst i;rw[kv]at h;cases h;exact⟨z,P,m,L2.KT.keeps t<|λc k D=>by rw[jA<|w D];exact D,r⟩
  ·rw[jA i]at h;exact(I.hok b u h).stay (λc v T r=>r) (λc r=>by rw[jA<|λz=>by rw[z,e]at r;cases r];exact r) λc k r=>by rw[jA<|w r];exact r
open PySem.Spec PySem.Calls PySem.W
open PyProof.Rows hiding St K
variable{J:Program}{w:World}{A:Around}{E:jP}{F d:Addr}{i L:Nat}{C:Array DictEntry}
def ZX{Q:jP}(hv:s.heap.IsValuesView v d)(n:rj s.heap d C L)
 (q:Q (.ref s.heap.objs.size) {s with heap:=s.heap.push {cls:=.type "dict_valueiterator",data:=.fields #[.ref d,.int 0 0,.int C.size 0,.int L 0]}}):wpAny (model J w) A (pyIter<|.ref v) Q E s:=by
  obtain⟨r,k,p,l⟩:=id hv;obtain⟨o,m,t,c⟩:=id n;refine eJ hv.typeIs fE (bx fE hv.typeIs PySem.F.entry_dict_values_iter ?_ (PySem.F.args_dict_values_iter_1 _));unfold Builtin.«dict_values.__iter__»;refine ae (af ?_);refine ae ?_;unfold Builtin.Dict_items.dictOf;refine ae (dO k l (x:=.ref d) rfl<|af ?_);refine ae ?_;unfold Builtin.Dict_items.newIterator;refine ae (da m c ?_);refine ae (dF m c ?_);have h:Builtin.Dict_items.ownsTuple "dict_valueiterator"=false:=by decide
  simp only[h,bj,bI];refine aV (af ⟨_,rfl,"dict_valueiterator",_,⟨_,aH _ rfl,rfl⟩,PySem.F.slot_dict_valueiterator_next.lookup,?_⟩);simpa [rawInt]using q
def ZV{Q:Option Value->Shared->Prop}(hit:s.heap.IsValIter F d i C.size L)(r:rj s.heap d C L)(l:i<C.size)
 (v:∀q,q.IsValIter F d (i+1) C.size L->Heap.SameBut F s.heap q->Q (some C[i].val) {s with heap:=q}):wpAny (model J w) A (pyNext<|.ref F) Q E s:=by
  obtain⟨o,p,u,n⟩:=id hit;obtain⟨x,k,t,m⟩:=id r;unfold pyNext
  refine ae (dc (bH (name:=Str.ofString "__next__") hit.typeIs b8
   (bx b8 hit.typeIs dZ ?_ (dQ _))))
  refine ae (af ?_);refine ae ?_;refine ae ?_;first|refine ae (cL hit.typeIs<|af ?_)|refine ae (dg hit.typeIs<|af ?_)
  refine ae (cX p n ?_);have h:Builtin.Dict_items.ownsTuple "dict_valueiterator"=false:=by decide
  simp only[h,bj,bI];show wpAny _ _ (if(Value.ref d==Value.none)=true then _ else _) _ _ s;rw[aw<|show¬((Value.ref d==Value.none)=true)from ax];refine ae (af ?_);refine ae (da k m ?_);rw[aw<|by simp];refine ae (af ?_);refine ae (dF k m ?_);rw[aw<|by simp];refine af ?_;simp only[show¬((i:Int)<0)from by omega,bI,bp,aJ l];refine ae ?_;first|refine ae (cL hit.typeIs<|af ?_)|refine ae (dg hit.typeIs<|af ?_)
  refine ae (fi hit.typeIs ?_);show wpAny _ _ (setField (.ref F) 1 (rawInt<|(i:Int)+1)>>=_) _ _ s;refine ae (bT p n (by simp) ?_)
  have c:(s.heap.update F (Obj.mapFields (·.setIfInBounds 1 (rawInt<|(i:Int)+1)))).IsValIter F d (i+1) C.size L:=
   ⟨_,aY _ p<|bN<|bo n _,(c9 ..).trans u,by rw[bo n];simp[rawInt]⟩
  refine ae (bE ?_);refine ae (fi (s:={s with heap:=s.heap.update F (Obj.mapFields (·.setIfInBounds 1 (rawInt<|(i:Int)+1)))}) c.typeIs ?_);refine ae (fi (s:={s with heap:=s.heap.update F (Obj.mapFields (·.setIfInBounds 1 (rawInt<|(i:Int)+1)))}) c.typeIs ?_);show wpAny _ _ (pure C[i].val) _ _ _;exact af (af ⟨_,rfl,af<|v _ c<|bu ..⟩)
def ZU{Q:Option Value->Shared->Prop}(t:A.handled=none)(hit:s.heap.IsValIter F d i C.size L)(r:rj s.heap d C L)(l:C.size<=i)
 (v:∀q,Heap.ExtBut F s.heap q->Q none {s with heap:=q}):wpAny (model J w) A (pyNext<|.ref F) Q E s:=by
  obtain⟨o,n,z,p⟩:=id hit;obtain⟨x,h,u,k⟩:=id r;unfold pyNext
  refine ae (dc (bH (name:=Str.ofString "__next__") hit.typeIs b8
   (bx b8 hit.typeIs dZ ?_ (dQ _))))
  refine ae (af ?_);refine ae ?_;refine ae ?_;first|refine ae (cL hit.typeIs<|af ?_)|refine ae (dg hit.typeIs<|af ?_)
  refine ae (cX n p ?_);have c:Builtin.Dict_items.ownsTuple "dict_valueiterator"=false:=by decide
  simp only[c,bj,bI];show wpAny _ _ (if(Value.ref d==Value.none)=true then _ else _) _ _ s;rw[aw<|show¬((Value.ref d==Value.none)=true)from ax];refine ae (af ?_);refine ae (da h k ?_);rw[aw<|by simp];refine ae (af ?_);refine ae (dF h k ?_);rw[aw<|by simp];refine af ?_;simp only[show¬((i:Int)<0)from by omega,bI,bp,cu l];refine ae ?_;first|refine ae (cL hit.typeIs<|af ?_)|refine ae (dg hit.typeIs<|af ?_)
  show wpAny _ _ (setField (.ref F) 0 .none>>=_) _ _ s;refine ae (bT n p (by simp) ?_);show wpAny _ _ (newExc (.type "StopIteration") []>>=_) _ _ _;refine ae ?_;simp only[newExc,newTuple];refine ae (aV ?_ (by size_fits));refine ae (m:=firstArgMember _ _) (f6 (a:=Value.none) (by first|rfl|(simp only[firstArgMember];rfl)) ?_);refine aV ?_ (by size_fits);simp only[raiseNew];refine ae (gh ?_);rw[show A.in1.handled=none from t];refine ae (af<|ik ?_);refine ae (dX (T:="StopIteration") (b:=true) ⟨_,aH _ rfl,rfl⟩ fU ?_);exact af (v _<|((bu ..).extBut.push _).push _)
end
def vf(a:Addr)(o:Obj)(u:HO)(c:List V):It where
 go:=λi H=>H a=some (.j6 o u)/\i<c.length
 wM:=λi H x H'=>H'=H/\c[i]?=some x
 stop:=λi H=>H a=some (.j6 o u)/\c.length<=i
def ab0{w}(a it){o:Obj}{u}(p:o.ExactDict)(j:o.data=.dict es ep)(hv:Vals vs (es.toList.map (·.key))):
    Turn P w K tg (vf a o u vs) [it] it (λi h=>h.IsKeyIter it a i es.size ep) where
 mem:=by simp
 obj:=λi h st b l=>by
  have e:b=it:=by simpa using l
  subst e;obtain⟨o,e,c,d⟩:=st;exact⟨o,e,λv z=>by rw[d]at z;cases z⟩
 keep:=λi h q st k=>let⟨o,e,r⟩:=st;⟨o,k it (by simp) o e,r⟩
 item:=by
  intro X F t G R i f s σ H E I hf st D;subst F t G;obtain⟨x,C⟩:=D;obtain⟨y,_⟩:=(show kq X.prog X.w H s.heap a (.j6 o u)from I.hok a _ x);obtain⟨O,N,Y,M,L,J⟩:=hf it (by simp);have A:=Paired.length hv;have n:i<es.size:=by simp at A;omega
  obtain⟨T,Q,V⟩:=Vals.get hv (au C);have Z:T=es[i].key:=by rw[aE,aZ,aJ n]at Q;exact(Option.some.inj Q).symm
  subst Z;refine ZZ st ⟨o,y,p,j⟩ n λq m U=>?_;have I1:Inv X f σ H {s with heap:=q}:=I.turned (t':=s.toks) (λb o l e=>(U.2 b l).trans e) O N M L J;obtain⟨o',e,c,d⟩:=id m;exact⟨_,rfl,rE (s:={s with heap:=q}) e c d (by decide) ⟨vs[i],H,I1,V,⟨rfl,au C⟩,m,λb l=>(hf b l).1⟩⟩
 done:=by intro X F t G R i f s σ H E I hf st D;subst F t G;obtain⟨x,C⟩:=D;obtain⟨y,_⟩:=(show kq X.prog X.w H s.heap a (.j6 o u)from I.hok a _ x);obtain⟨O,N,Y,M,L,J⟩:=hf it (by simp);have A:=Paired.length hv;exact ZY (I.ok.hd R) st ⟨o,y,p,j⟩ (by simp at A;omega) λq eb=>⟨rfl,I.turned (t':=s.toks) (λb o l e=>eb b o l e) O N M L J⟩
 self:=λ_ _ _ _ _ st h=>wpAny_pyIter_keyiter st h
def ab5{w}(a it){o:Obj}{u}(p:o.ExactDict)(j:o.data=.dict es ep)(hv:Vals vs (es.toList.map (·.val))):
    Turn P w K tg (vf a o u vs) [it] it (λi h=>h.IsValIter it a i es.size ep) where
 mem:=by simp
 obj:=λi h st b l=>by
  have e:b=it:=by simpa using l
  subst e;obtain⟨o,e,c,d⟩:=st;exact⟨o,e,λv z=>by rw[d]at z;cases z⟩
 keep:=λi h q st k=>let⟨o,e,r⟩:=st;⟨o,k it (by simp) o e,r⟩
 item:=by
  intro X F t G R i f s σ H E I hf st D;subst F t G;obtain⟨x,C⟩:=D;obtain⟨y,_⟩:=(show kq X.prog X.w H s.heap a (.j6 o u)from I.hok a _ x);obtain⟨O,N,Y,M,L,J⟩:=hf it (by simp);have A:=Paired.length hv;have n:i<es.size:=by simp at A;omega
  obtain⟨T,Q,V⟩:=Vals.get hv (au C);have Z:T=es[i].val:=by rw[aE,aZ,aJ n]at Q;exact(Option.some.inj Q).symm
  subst Z;refine ZV st ⟨o,y,p,j⟩ n λq m U=>?_;have I1:Inv X f σ H {s with heap:=q}:=I.turned (t':=s.toks) (λb o l e=>(U.2 b l).trans e) O N M L J;obtain⟨o',e,c,d⟩:=id m;exact⟨_,rfl,rE (s:={s with heap:=q}) e c d (by decide) ⟨vs[i],H,I1,V,⟨rfl,au C⟩,m,λb l=>(hf b l).1⟩⟩
 done:=by intro X F t G R i f s σ H E I hf st D;subst F t G;obtain⟨x,C⟩:=D;obtain⟨y,_⟩:=(show kq X.prog X.w H s.heap a (.j6 o u)from I.hok a _ x);obtain⟨O,N,Y,M,L,J⟩:=hf it (by simp);have A:=Paired.length hv;exact ZU (I.ok.hd R) st ⟨o,y,p,j⟩ (by simp at A;omega) λq eb=>⟨rfl,I.turned (t':=s.toks) (λb o l e=>eb b o l e) O N M L J⟩
 self:=λ_ _ _ _ _ st h=>wpAny_pyIter_valiter st h
def Am(H:Hp)(a:List<|List Key×V)(c:List V):Prop:=Paired (λ(p:List Key×V) (v:V)=>∃b,v=.ref b/\H b=some (.tup<|p.1.map kV)) a c
theorem keys_of:∀{a} {c},L2.KT H a c->Am H a (c.map λx=>V.ref x.2.1)
 |_,_,.nil=>.nil
 |_,_,.cons h t=>.cons ⟨_,rfl,h.2.1⟩ (keys_of t)
theorem II:∀{a} {c},L2.KT H a c->Vals (a.map (·.2)) (c.map (·.2.2))
 |_,_,.nil=>.nil
 |_,_,.cons h t=>.cons h.2.2 (II t)
section
variable{X:Cx}{tg o:Expr}{M:TE}{L J:Pos}
def Q6(X:Cx)(M:TE):TI:=λσ H R=>M σ H λx d=>∃a c,x=.ref a/\d a=some (.dT c)/\∀ob f,(∀h u,X.H₀ a≠some (.j6 h u))->Am d c f->R (vf a ob (.dT c) f) (upd d a<|.j6 ob<|.dT c)
def Q7(X:Cx)(M:TE):TI:=λσ H R=>M σ H λx f=>∃a c,x=.ref a/\f a=some (.dT c)/\∀ob d,(∀h u,X.H₀ a≠some (.j6 h u))->d=c.map (·.2)->R (vf a ob (.dT c) d) (upd f a<|.j6 ob<|.dT c)
def Wo(w:PE X o M):PI X tg o (Q6 X M):=by
 intro c s σ H R I h;refine jh (w c s σ H _ I h) λv d j=>?_;obtain⟨x,Q,l,r,t⟩:=j;obtain⟨a,u,ex,e,q⟩:=t;subst ex;cases r;obtain⟨z,y,f,i,dd⟩:=A3 l.hok e;obtain⟨ob,D,P,p,n,m,C,O,N⟩:=dd;have F:D.toList.map (·.key)=f.map λx=>Value.ref x.2.1:=by rw[C,bg];rfl
 have k:=Ik l e p;refine Z1 y ⟨ob,p,n,m⟩ ?_;refine⟨d.heap.objs.size,[d.heap.objs.size],_,_,_,rfl,k.kept (t':=d.toks) λb o e=>ah _ e,ab0 a _ n m (vs:=f.map λx=>V.ref x.2.1)<|by rw[F];exact LK f,⟨_,aH _ rfl,rfl,rfl⟩,λb A=>?_,q ob _ (Jt l e)<|keys_of i⟩;have G:b=d.heap.objs.size:=by simpa using A
 subst G;exact k.td (ag _) (k.hok.fresh<|ag _)
def TV{w}(d)(c:(d==sysModules)=false):
    MeetsIn prog w (Builtin.«dict.values» ⟨[.ref d],[]⟩) (λ_ R s=>s.TypeIs (.ref d) "dict"/\R (.ok<|.ret<|.ref s.heap.objs.size) {s with heap:=s.heap.push {cls:=.type "dict_values",data:=.fields #[.ref d]}}):=
 .of_wp λA R s ⟨a,h⟩=>by refine ae ?_;unfold Builtin.Dict.noArgs;refine ae (eY a ?_);show wpAny _ _ (pure d) _ _ s;refine af ?_;show wpAny _ _ (Builtin.Dict.showsAll d>>=_) _ _ s;unfold Builtin.Dict.showsAll;rw[aw<|by rw[c];exact ax];refine ae (af ?_);exact ae (aV<|af ⟨_,rfl,h⟩)
def Wq(D:PE X o M)(i:attributeBase o "values" X.env (eval o X.env)=eval o X.env)(f:(L.endLine==J.line)=true):PI X tg (.Call (.Attribute o "values" L) [] [] J) (Q7 X M):=by
 intro c s σ H R I h;refine wpAny_Call_method0_late i f (jh (D c s σ H _ I h) λv j n=>?_);obtain⟨x,U,k,A,C⟩:=n;obtain⟨a,d,ex,e,q⟩:=C;subst ex;cases A;obtain⟨l,y,F⟩:=By k (.inr ⟨d,.inl e⟩);obtain⟨z,_,w,m,dd⟩:=A3 k.hok e;obtain⟨ob,P,Z,u,t,r,N,Y,V⟩:=dd;have O:P.toList.map (·.val)=w.map (·.2.2):=by rw[N,bg];rfl
 refine⟨"dict","dict.values",eC,gq,PySem.F.type_dict_values,l,y,du rfl<|PySem.evalArgs_none ?_⟩;refine gP gq l PySem.F.entry_dict_values (PySem.F.args_dict_values_1 _) (TV a F) ⟨l,?_⟩;have T:=Ik k e u;have p:Inv X c σ (upd U a<|.j6 ob<|.dT d) {j with heap:=j.heap.push {cls:=.type "dict_values",data:=.fields #[.ref a]}}:=T.kept (t':=j.toks) λb o e=>ah _ e;refine ZX ⟨_,aH _ rfl,rfl,rfl⟩ ⟨ob,ah _ u,t,r⟩ ?_;refine⟨_,[_],_,_,_,rfl,p.kept (t':=j.toks) λb o e=>ah _ e,ab5 a _ t r (vs:=d.map (·.2))<|by rw[O];exact II m,⟨_,aH _ rfl,rfl,rfl⟩,λb G=>?_,q ob _ (Jt k e) rfl⟩;have Q:=aP.mp G;subst Q;exact p.td (ag _) (p.hok.fresh<|ag _)
variable{e:Expr}{t:TE}
def abG(X:Cx)(t:TE):TE:=λσ H Q=>t σ H λv H'=>∃a o c,H' a=some (.j6 o<|.dT c)/\(∀d u,X.H₀ a≠some (.j6 d u))/\Q v (upd H' a<|.dT c)
def Wf(h:PE X e t):PE X e (abG X t):=λc s σ H Q I j=>jh (h c s σ H _ I j) λv m ⟨x,n,l,d,a,o,i,k,f,q⟩=>⟨x,_,Rn l k f,d,q⟩
def p0(c:jj->i3->RX Bool)(e:jm)(a:jj)(f:Nat):ji
 |[],S=>.ok (.loc f) S
 |d::r,S=>match c (a.set 0<|some d) S with
  |.ok b j=>if b=true then(match e (a.set 0 (some d)) j with
   |.ok z i=>(match i[f]? with
    |some (.li h)=>if h.length<sizeLine then p0 c e a f r (i.set f<|.li<|h++[z])else .bad
    |_=>.bad)
   |_=>.bad)else p0 c e a f r j
  |_=>.bad
def zU(n:Nat)(a:List<|List Key×Z):RX Z->RX Z
 |.ok z S=>.ok z (S.set n<|.dt a)
 |_=>.bad
def q7(d:List (List Key×Z)->List Z)(fo:jm)(h:List Nat)(c:jj->i3->RX Bool)(e:jm):jm:=λρ S=>(fo ρ S).bind λz f=>match z with
 |.loc n=>(match f[n]?,(f[0]?:Option Cell)with
  |some (.dt a),some Cell.mk=>zU n a (p0 c e (n9 h ρ) f.length (d a)<|f.set n (.ft a)++[.li []])
  |_,_=>.bad)
 |_=>.bad
def Aq(K:W.Frag)(V:Hp->List (List Key×V)->List V->Prop)(a:List (List Key×Z)->List Z):Prop:=
 ∀al lo H f c d,V H f d->kc K al lo H f c->(∀b h,H b=some (.tup h)->al b)->j9 K al lo H d (a c)
def ID(X:Cx)(i:Hp->List (List Key×V)->List V->Prop)(M:TE):TI:=λσ H R=>M σ H λx d=>∃a c,x=.ref a/\d a=some (.dT c)/\∀ob f,(∀h u,X.H₀ a≠some (.j6 h u))->i d c f->R (vf a ob (.dT c) f) (upd d a<|.j6 ob<|.dT c)
theorem j9.at{K:W.Frag}{al:Addr->Prop}{lo:Lo}{H:Hp}:∀{c:List V} {a:List Z},j9 K al lo H c a->∀(i:Nat) (v:V),c[i]?=some v->∃z,a[i]?=some z/\kh K al lo H v z
 |_,_,.nil,i,v,h=>by simp at h
 |_,_,.cons r t,0,v,h=>by cases h;exact⟨_,rfl,r⟩
 |_,_,.cons r t,i+1,v,h=>by rw[eD]at h⊢;exact j9.at t i v h
variable{E:XK}{F O:Expr}{N:List Expr}{f:Scope}{P Y:Pos}{fo:jm}{U:jj->i3->RX Bool}{T:jm}{cl:List<|Str×Addr}{Nc:List Str}{ci:List Nat}{x:Str}{Vs:Hp->List (List Key×V)->List V->Prop}{l:List (List Key×Z)->List Z}
def L5(hp:Aq X.K Vs l)(hpi:∀M,PE X o M->∃wi,PI X (.Name x Y) F wi/\∀σ H R,ID X Vs M σ H R->wi σ H R)(ho:ZE X E o fo)(hc:X.calm=true)(hg:∀fp s3 H3 C,PG (X.comp f ([x]++Nc) cl fp s3 H3 C) (.Name x Y)<|tj 0)(hf:∀fp s3 H3 C,xy (X.comp f ([x]++Nc) cl fp s3 H3 C) N U)
    (he:∀fp s3 H3 C,ZE (X.comp f ([x]++Nc) cl fp s3 H3 C) (λ_ _ _=>False) O T)
    (hclos:closureFor f X.env=pure cl)(hkind:f.kind=.function)(hcell:pJ f)(hnames:qv f)(tm:oH X cl Nc ci)
    (hsub:∀x c,cl.lookup x=some c->X.env.cells.lookup x=some c)(hhas:∀x,((relabel f X.env).names.lookup x=some .cell\/(relabel f X.env).names.lookup x=some .free)->∃c,cl.lookup x=some c)
    (ur:∀x∈Nc,(relabel f X.env).names.lookup x=some .cell\/(relabel f X.env).names.lookup x=some .free)
    (hs:∀x,foldedSetIterable F X.env x=pure x):ZE X E (.ListComp O [⟨.Name x Y,F,N,0⟩] f P) (q7 l fo ci U T):=by
 obtain⟨M,pd,rd⟩:=ho;obtain⟨wi,pi,ri⟩:=hpi M pd;refine⟨_,Wf<|JW (Nt:=[x]) (tn:=1) (te:=LM X.K T) (tc:=LN X.K U) (g:=tj 0) hc pi hg hf (λfp s3 H3 C=>(he fp s3 H3 C).w) hclos hkind hcell hnames tm rfl hsub hhas ur hs,λB al lo H σ ρ S Q s h=>ri _ _ _<|rd _ _ _ _ _ _ _ _ s<|iZ.mono (iZ.split h) λz A G H1 S1 s1 x1 y1 h1 v rv=>?_⟩;split at h1
 ·rename_i n;split at h1
  ·rename_i d q1 q0;obtain⟨a,hn,rfl⟩:=rv;obtain⟨I,g1,g2⟩:=s1.cell hn q1;refine⟨a,I,rfl,g1,λob vs nf hv=>?_⟩;have xa:Xt A H1 A (upd H1 a (.j6 ob (.dT I))):=λb o _ hb eb=>⟨hb,by rw[jA λz=>s1.st.na _ a hn (by rw[<-z];exact hb)];exact eb⟩;have rz:=hp A G H1 I d vs hv g2 λb ys e=>s1.st.tl q0 b _ e (.inl ⟨_,rfl⟩);obtain⟨ea,xa'⟩:=s1.toEZ.write hn (o:=.j6 ob (.dT I)) (c:=.ft d) (λ_ z=>nomatch z) (λq w=>by unfold lP at w;cases w) ⟨I,ob,kv,g2.mv xa .refl⟩ nofun;intro p hp;have Ur:p≠a:=λz=>by rw[z,kv]at hp;cases hp
   have ln:(S1.set n<|.ft d).length=S1.length:=aO;have Qt:lN X.K (λb=>A b/\b≠p) (kS G (S1.set n<|.ft d).length p) (upd (upd H1 a<|.j6 ob<|.dT I) p<|.lst []) p (.li []):=⟨[],kv,.nil⟩;have e0:=ea.new hp oy Qt nofun;have QR:kS G (S1.set n<|.ft d).length p S1.length=some p:=by unfold kS;rw[av ln.symm]
   have x0:Xt A H1 (λb=>A b/\b≠p) (upd (upd H1 a<|.j6 ob<|.dT I) p<|.lst []):=xa'.trans (qz hp);have y0:Lx G (kS G (S1.set n<|.ft d).length p):=oR ea.st p;have hlen:vs.length=(l d).length:=rz.length;refine⟨λi m H2=>∃r D S2,EZ X.K B r D H2 S2/\Xt A H1 r H2/\Lx G D/\D S1.length=some p/\iZ X.K B E A G H1 σ ρ (zU n d<|p0 U T (n9 ci ρ) S1.length ((l d).drop i) S2) (λz nj v3 H' _=>∀v,kh X.K nj v3 H' v z->Q v H')/\m=(l d).length - i,⟨_,_,_,_,e0,x0,y0,QR,h1,rfl⟩,?_⟩
   rintro i m H2 ⟨r,D,S2,e2,x2,y2,n2,k,rfl⟩ fz
   have ha:H2 a=some (.j6 ob<|.dT I):=fz a ob _ (by rw[jA<|bP Ur,kv]);have NZ:=aag s1 e2 x2 y2 ci;have rz2:=j9.mv x2 y2 rz;by_cases hi:i<(l d).length
   ·right;refine⟨⟨ha,by omega⟩,λv H3 y=>?_⟩;obtain⟨rfl,Q4⟩:=(show H3=H2/\vs[i]?=some v from y);obtain⟨zi,Hq,rx⟩:=rz2.at i v Q4;have Pn:(l d)[i]=zi:=by rw[au hi]at Hq;exact Option.some.inj Hq
    rw[cY hi,Pn]at k;unfold p0 at k;have c1:RZ X.K B r D H3 ((mI 1 ci σ).set 0 (some v)) ((n9 ci ρ).set 0 (some zi)) S2:=NZ.set (by unfold n9;simp) rx;refine⟨⟨by rw[aO,xM],λj hj=>ar<|by omega⟩,B,r,D,_,S2,c1,?_⟩;cases qc:U ((n9 ci ρ).set 0 (some zi)) S2 with
    |bad=>rw[qc]at k;exact k.elim
    |ex c ns es S3=>rw[qc]at k;exact k.elim
    |ok b S3=>
     rw[qc]at k;intro FZ I8 H4 c3 x3 y3;dsimp only at k;cases b with
     |false=>rw[aw ax]at k⊢;exact⟨(l d).length - (i+1),by omega,FZ,I8,S3,c3.toEZ,x2.trans x3,y2.trans y3,y3 _ _ n2,k,rfl⟩
     |true=>
      rw[av rfl]at k⊢;refine⟨B,FZ,I8,_,S3,c3,?_⟩;cases qe:T ((n9 ci ρ).set 0 (some zi)) S3 with
      |bad=>rw[qe]at k;exact k.elim
      |ex c ns es S4=>rw[qe]at k;exact k.elim
      |ok z S4=>
       rw[qe]at k;dsimp only at k;split at k
       ·rename_i zs q4;split at k
        ·rename_i hz;intro Aw SH H5 c4 x4 y4 u ru;have n4:=y4 _ _ (y3 _ _ n2);obtain⟨ws,g1,g2⟩:=c4.cell n4 q4;have xx:Xt Aw H5 Aw (upd H5 p (.lst (ws++[u]))):=λb o _ hb eb=>⟨hb,by rw[jA λz=>c4.st.na _ p n4 (by rw[<-z];exact hb)];exact eb⟩;obtain⟨e5,x5⟩:=c4.toEZ.write n4 (o:=.lst (ws++[u])) (c:=.li (zs++[z])) oy (λq w=>by unfold lP at w;cases w) ⟨_,kv,j9.mv xx .refl (g2.append (.cons ru .nil))⟩ nofun;exact⟨ws,g1,by rw[g2.length];exact hz,(l d).length - (i+1),by omega,Aw,SH,_,e5,((x2.trans x3).trans x4).trans x5,(y2.trans y3).trans y4,n4,k,rfl⟩
        ·exact k.elim
       ·exact k.elim
   ·left;rw[dw<|by omega]at k;have xx:Xt r H2 r (upd H2 a (.dT I)):=λb o _ hb eb=>⟨hb,by rw[jA λz=>e2.st.na _ a (y2 _ _ hn) (by rw[<-z];exact hb)];exact eb⟩;obtain⟨e5,x5⟩:=e2.write (y2 _ _ hn) (o:=.dT I) (c:=.dt d) (λ_ z=>nomatch z) (λq w=>by unfold lP at w;cases w) ⟨I,kv,(g2.mv x2 y2).mv xx .refl⟩ nofun;refine⟨⟨ha,by omega⟩,a,ob,I,ha,nf,?_⟩;exact k r D _ ⟨e5,s1.len,λi z e=>let⟨v,k1,k2⟩:=s1.vr i z e;⟨v,k1,k2.mv (x2.trans x5) y2⟩⟩ (x2.trans x5) y2 _ ⟨p,n2,rfl⟩
  ·exact h1.elim
 ·exact h1.elim
def pickK(a:List<|List Key×Z):List Z:=a.map λp=>.d (.tup<|p.1.map kD)
def tA(a:List<|List Key×Z):List Z:=a.map (·.2)
def Wy:Aq K Am pickK:=by
 intro al lo H k d c hv r j;induction r generalizing c with
 |nil=>cases hv;exact .nil
 |cons m n i=>
  cases hv with
  |cons h t=>obtain⟨b,rfl,a⟩:=h;exact .cons (show Rep K al H (.ref b) _ from .tup (.inl ⟨j b _ a,a⟩) (zk _)) (i _ t)
def Wz:Aq K (λ_ c a=>a=c.map (·.2)) tA:=by
 intro al lo H c h a hv r k;subst hv;induction r with
 |nil=>exact .nil
 |cons d j i=>exact .cons d i
def si(fo d:jm):jm:=λρ S=>(fo ρ S).bind λz h=>(d ρ h).bind λy c=>match z,y with
 |.loc n,.d (.tup ds)=>(match ly ds,c[n]? with
  |some k,some (.ft a)=>(match valZ a k with
   |some z=>.ok z c
   |none=>.bad)
  |_,_=>.bad)
 |_,_=>.bad
variable{k:Expr}{fk:jm}
def L6(hu:X.A.units+64<cLine)(ho:ZE X E o fo)(hk:ZE X E k fk)(hs:tS k):ZE X E (.Subscript o k P) (si fo fk):=by
 obtain⟨to,po,I⟩:=ho;obtain⟨tk,pk,R⟩:=hk;refine⟨_,JX (by omega) po pk hs,λB al lo H σ ρ S Q s h=>I _ _ _ _ _ _ _ _ s<|iZ.mono (iZ.split h) λz mV lo1 H1 S1 C x1 y1 h1 v D=>R _ _ _ _ _ _ _ _ C<|iZ.mono (iZ.split h1) λy d j p S2 m x2 r c u G=>?_⟩;split at c
 ·rename_i n ds;split at c
  ·rename_i k0 kvs qk q;split at c
   ·rename_i z0 q0;obtain⟨a,hn,rfl⟩:=D;obtain⟨b,vs,rfl,hb,i⟩:=Rep.pX (show Rep X.K d p u (.tup ds)from G);have ev:=uw i qk;subst ev;obtain⟨A,ob,g1,g2⟩:=m.cell (r _ _ hn) q;obtain⟨w,e1,e2⟩:=g2.val q0;exact⟨a,b,A,k0,w,rfl,rfl,.inr ⟨ob,g1⟩,hb,e1,c d j p m .refl .refl w e2⟩
   ·exact c.elim
  ·exact c.elim
 ·exact c.elim
def acF(i nm)(hc:X.calm=true)(R:ZE X E F fo)(hg:∀D r G C,PG (X.comp f ([x]++[y]) [(y,c)] D r G C) (.Name x Y)<|tj 0)(hf:∀D r G C,xy (X.comp f ([x]++[y]) [(y,c)] D r G C) N U)
 (he:∀D r G C,ZE (X.comp f ([x]++[y]) [(y,c)] D r G C) (λ_ _ _=>False) O T)
 (j:f.kind=.function)(n:pJ f)(a:qv f)
 (hN:X.N[i]?=some y)(hk:X.env.kindOf y=some .cell)(A:X.env.cells.lookup y=some c)(m:closureFor f X.env=pure [(y,c)])(u:(relabel f X.env).names=nm)
 (v:∀p∈nm,(p.2=.cell\/p.2=.free)->p.1=y)(s:nm.lookup y=some .cell\/nm.lookup y=some .free)
 (Q:∀x,foldedSetIterable F X.env x=pure x):ZE X E (.ListComp O [⟨.Name x Y,F,N,0⟩] f P) (q7 pickK fo [i] U T):=by
  refine L5 Wy (λM h=>⟨_,Wo h,λ_ _ _ h=>h⟩) (cl:=[(y,c)]) (Nc:=[y]) (ci:=[i]) R hc hg hf he m j n a (.cons hN (.inl hk) (by rw[A];simp[List.lookup]) .nil) (λz d q=>?_) (λz q=>?_) (λz I=>?_) Q
  ·by_cases w:z=y;·subst w;simp[List.lookup]at q;rw[A,q]
   ·have:(z==y)=false:=by simpa using w
    simp[List.lookup,this]at q
  ·rw[u]at q;have:z=y:=q.elim (λq=>v _ (bz q)<|.inl rfl) λq=>v _ (bz q) (.inr rfl);subst this;exact⟨c,by simp[List.lookup]⟩
  ·rw[aP]at I;subst I;rw[u];exact s
def acG{L J:Pos}(I:X.calm=true)(A:ZE X E o fo)(D:∀s r u C,PG (X.comp f [x] [] s r u C) (.Name x Y)<|tj 0)(hf:∀s r u C,xy (X.comp f [x] [] s r u C) N U)
 (G:∀s r u C,ZE (X.comp f [x] [] s r u C) (λ_ _ _=>False) O T)
 (a:∀y∈f.names,y.2≠.free)(m:f.kind=.function)(d:pJ f)(i:qv f)
 (p:attributeBase o "values" X.env (eval o X.env)=eval o X.env)(j:(L.endLine==J.line)=true)
 (w:∀x,foldedSetIterable (.Call (.Attribute o "values" L) [] [] J) X.env x=pure x):ZE X E (.ListComp O [⟨.Name x Y,.Call (.Attribute o "values" L) [] [] J,N,0⟩] f P) (q7 tA fo [] U T):=by
  have e:relabel f X.env=f:=by
   have:f.names.map (λ(n,k)=>if(k==NameKind.free&&X.env.scope.kind==.function&&X.env.kindOf n==some .cell)then(n,NameKind.cell)else(n,k))=f.names:=by
    refine map_eq_self λy v=>?_;obtain⟨n,k⟩:=y;have:(k==NameKind.free)=false:=by simpa using a _ v
    simp[this]
   unfold relabel;rw[this]
  refine L5 Wz (λM h=>⟨_,Wq h p j,λσ H R q=>?_⟩) (cl:=[]) (Nc:=[]) (ci:=[]) A I (by rw[bf];exact D) (by rw[bf];exact hf) (by rw[bf];exact G) (closureFor_none a) m d i .nil (λx c z=>nomatch z) (λx z=>?_) (λx z=>nomatch z) w;·exact q
  ·rw[e]at z;rcases z with z|z;·exact absurd rfl (d _<|bz z)
   ·exact absurd rfl (a _<|bz z)
end
open PySem.Spec PySem.Calls PySem.W xq
open PyProof.Rows hiding St K
def tD(a:List Key):D:=.tup (a.map kD)
def uW:List D->Option (List<|List Key)
 |[]=>some []
 |.tup ds::r=>(ly ds).bind λa=>(uW r).map (a:: ·)
 |_=>none
theorem Ls:∀{c} {a},uW c=some a->a.map tD=c
 |[],_,h=>by cases h;rfl
 |.tup x::r,_,h=>by obtain⟨k,i,f⟩:=aL.mp h;obtain⟨j,d,rfl⟩:=aB.mp f;rw[aR,Ls d];show D.tup (k.map kD)::r=_;rw[BG i]
 |.non::_,_,h=>by cases h
 |.bl _::_,_,h=>by cases h
 |.int _::_,_,h=>by cases h
 |.str _::_,_,h=>by cases h
 |.ty _::_,_,h=>by cases h
 |.ref _::_,_,h=>by cases h
 |.lst _::_,_,h=>by cases h
 |.exc _ _ _::_,_,h=>by cases h
theorem IE:∀a:List Key,ly (a.map kD)=some a
 |[]=>rfl
 |k::r=>by show(nu<|kD k).bind (λk=>(ly<|r.map kD).map (k:: ·))=_;rw[IE r];cases k<;>rfl
def lJ:List (List Key)->List (List Key)
 |[]=>[]
 |k::r=>if(r.any λj=>decide<|j=k)=true then lJ r else k::lJ r
def F3{k}{r:List<|List Key}:(r.any λj=>decide<|j=k)=true↔k∈r:=by rw[cV];exact⟨λ⟨x,a,e⟩=>by rw[<-bQ e];exact a,λh=>⟨k,h,aN rfl⟩⟩
theorem qV(x):∀a:List (List Key),x∈lJ a↔x∈a
 |[]=>Iff.rfl
 |k::r=>by
  unfold lJ;by_cases h:(r.any λj=>decide<|j=k)=true
  ·rw[av h,qV x r,aD];exact⟨.inr,λz=>z.elim (λz=>by rw[z];exact F3.mp h) id⟩
  ·rw[aw h,aD,aD,qV x r]
theorem v8:∀a:List (List Key),(lJ a).Nodup
 |[]=>.nil
 |k::r=>by
  unfold lJ;by_cases h:(r.any λj=>decide<|j=k)=true;·rw[av h];exact v8 r
  ·rw[aw h];exact bC.mpr ⟨λz=>h<|F3.mpr<|(qV k r).mp z,v8 r⟩
theorem IU:∀a:List (List Key),(lJ a).length<=a.length
 |[]=>ag _
 |k::r=>by
  have d:=IU r;have c:(k::r).length=r.length+1:=rfl;unfold lJ;split;·omega
  ·rw[aq];omega
def wC:D->R (List D)
 |.lst ds=>match uW ds with
  |some a=>if mS ds=true/\ds.length<64 then .ok (kI<|(lJ a).map tD)else .bad
  |none=>.bad
 |_=>.bad
variable{X:Cx}
def Se{w}:∀{l} {c} {f} {j},ly l=some c->i9 K al H f l->Vals f j->ItemsAre (j3 P w) c j:=by
 intro l c f j h r v;induction l generalizing c f j with
 |nil=>cases r;cases v;cases h;exact .nil
 |cons d _ n=>
  cases r with
  |cons a b=>
   cases v with
   |cons hv o=>
    obtain⟨k,m,q⟩:=aL.mp h;obtain⟨c,p,rfl⟩:=aB.mp q;refine .cons ?_ (n p b o);cases d with
    |int i=>cases m;cases a;exact oo hv
    |str i=>cases m;cases a;exact oo hv
    |_=>cases m
def abW{s}(I:Inv X pins σ H s){u}(r:Rep X.K al H v (tD ks))(hv:RelV v u):∃b,u=.ref b/\v=.ref b/\mj X.prog X.w s.heap ks b:=by obtain⟨a,k,rfl,f,d⟩:=r.pX;obtain rfl:u=.ref a:=hv;obtain⟨c,q,⟨o,j,i,n,h⟩,_⟩:=I.tuple f;exact⟨a,rfl,rfl,o,_,n,j,i,h,Se (IE ks) d q⟩
def Pu{w}(h:ItemsAre (j3 P w) ks vs):qD (ks.map kD) vs:=by
 induction h with
 |nil=>exact .nil
 |@cons k v ks vs c _ a=>
  refine .cons ?_ a;have:=BA c;cases k with
  |inl i=>obtain⟨t,rfl⟩:=(show∃t,v=Value.int i t from this);rfl
  |inr x=>obtain⟨t,rfl⟩:=(show∃t,v=Value.str x t from this);rfl
def item_tup{w}(x:mj P w h ks b):qE h (.ref b) (tD ks):=by obtain⟨o,a,n,c,i,f,d⟩:=x;exact⟨b,o,a,n,rfl,c,i,f,Pu d⟩
def C5:Value->V
 |.ref b=>.ref b
 |_=>.non
variable{E:XK}{e:Expr}{ta:TE}{f:jq}{p1 p2 pos wm:Pos}
def Wd(hc:X.calm=true)(m:X.A.units+64<cLine)(he:PE X e ta)(hg:Gl X "sorted")(hm:X.mg "sorted"=none)(hg2:Gl X "set")(hm2:X.mg "set"=none)
 (hs:X.se e [])(hpl:X.bk wm [])
 (hs2:starEach [.Call (.Name "set" p2) [e] [] wm] X.env=(false,eval (.Call (.Name "set" p2) [e] [] wm) X.env)::starEach [] X.env)(L:X.bk pos []):
   PE X (.Call (.Name "sorted" p1) [.Call (.Name "set" p2) [e] [] wm] [] pos) (λσ H Q=>ta σ H λx0 j=>∃x,[x0]=[x]/\∃l R n al kG,x=.ref l/\kP X.K j l R/\i9 X.K al j R n/\uW n=some kG/\mS n=true/\n.length<64/\∀p ws,j p=none->i9 X.K al j ws (kI<|(lJ kG).map tD)->Q (.ref p) (upd j p<|.lst ws)):=by
  refine J2 he hg hm hg2 hm2 (λI s1 σ j x u Q Y ru q1=>?_) hs hpl hs2 L;obtain⟨l,R,n,al,kG,rfl,hl,rv,hk,hh,HR,q⟩:=q1;obtain rfl:u=Value.ref l:=ru;obtain⟨c,vv,pl,hz⟩:=Y.list hl;have D:=Ls hk;obtain⟨sg,Q1⟩:=yD hh;have Sw:n.length=kG.length:=by rw[<-D,aj]
  have lvs:R.length=n.length:=rv.length;have s:c.length=kG.length:=by have:=vv.length;omega
  have at_:∀(i:Nat) (v:Value),c[i]?=some v->∃b,v=.ref b/\mj X.prog X.w s1.heap (kG.getD i []) b/\Rep X.K al j (.ref b) (tD<|kG.getD i [])/\tD (kG.getD i [])∈n:=λi v hv=>by
   have T:i<kG.length:=by rw[<-s];exact(az.mp hv).1
   have ed:n[i]?=some (tD<|kG.getD i []):=by rw[<-D,aE,au T,aW,au T];rfl
   obtain⟨y,G,V⟩:=rv.getD ed;obtain⟨u',J,ru⟩:=vv.get G;rw[hv]at J;cases J;obtain⟨b,rfl,rfl,tk⟩:=abW Y V ru;exact⟨b,rfl,tk,V,bc ed⟩
  refine NW (A:=X.A) (items:=c.toArray) (kG:=kG) (Y.ok.hd hc) m pl.isList (by rw[aM];exact s) (λi v hv=>by obtain⟨b,h1,F,_⟩:=at_ i v (by simpa using hv);exact⟨b,h1,F⟩) (by rw[aM];omega) λh tk js SV mem ext=>?_
  have w:∀b o,s1.heap.get? b=some o->h.get? b=some o:=λb o e=>ext b o (Heap.lt_size e) e;have I2:Inv X I σ j {s1 with heap:=h,toks:=tk}:=Y.kept (t':=tk) w;obtain⟨o,U,ep,t,ho,hex,hd,el,hin,hn,Z,adb,adg,N,tu,M⟩:=SV;have hf:t.fits U.size=true:=by have:=Z.fits;rw[aC]at this;exact this
  have C:(l8 h U.toList).Perm (lJ kG):=yZ tu (v8 kG) λx=>by rw[M x,mem x,qV]
  have OV:∀d∈(lJ kG).map tD,kg d=some sg:=λd hd=>by obtain⟨k,QG,rfl⟩:=aI.mp hd;exact Q1 _ (by rw[<-D];exact aI.mpr ⟨k,(qV k kG).mp QG,rfl⟩)
  have sl:=c7;have Br:U.size<=c.length:=by simpa using hn
  have P:∀u∈c,∃b,u=.ref b/\mj X.prog X.w h (tK h u) b/\Rep X.K al j (.ref b) (tD (tK h u)):=λu m=>by obtain⟨i,T,ei⟩:=bO m;obtain⟨b,rfl,F,h3,_⟩:=at_ i u (by rw[au T,ei]);have t2:=F.at' (λo e=>w b o e);rw[t2.tK];exact⟨b,rfl,t2,h3⟩
  have O:∀a:List Value,a.Perm (U.toList.map Prod.snd)->(∀v∈a,v∈c)/\(a.map λu=>tD<|tK h u).Perm ((lJ kG).map tD)/\a.length<64:=λa hp=>by
   have fl:∀v∈a,v∈c:=λv hv=>by obtain⟨e,he,rfl⟩:=aI.mp (hp.mem_iff.mp hv);simpa using hin e he
   have p1:(a.map λu=>tK h u).Perm (lJ kG):=by have:=hp.map λu=>tK h u;rw[bg]at this;exact this.trans C
   refine⟨fl,?_,?_⟩
   ·have:=p1.map tD;rw[bg]at this;exact this
   ·have:=p1.length_eq;rw[aj]at this;have:=IU kG;omega
  have z:∀a:List Value,(∀v∈a,v∈c)->Vals (a.map C5) a/\i9 X.K al j (a.map C5) (a.map λu=>tD<|tK h u):=λa=>by
   induction a with
   |nil=>intro _;exact⟨.nil,.nil⟩
   |cons u r ih=>
    intro m;obtain⟨g1,g2⟩:=ih λv hv=>m v (.tail _ hv);obtain⟨b,G,_,h3⟩:=P u (m u<|.head _);have V:C5 u=.ref b:=by rw[G];rfl
    rw[aR,aR,V];exact⟨.cons (by rw[G];rfl) g1,.cons h3 g2⟩
  refine Lg hc I2 ⟨o,ho,hex,hd,hf⟩ ⟨N,λ_=>Z.pO,λ_=>Z.oP⟩ (by omega) OV O z (λt' kp a=>?_) q;induction a with
  |nil=>intro _;exact .nil
  |cons u r ih=>intro m;obtain⟨b,G,F,_⟩:=P u (m u<|.head _);refine .cons ?_ (ih λv hv=>m v<|.tail _ hv);rw[G]at F⊢;exact qE.keep (item_tup F) kp
end P2
namespace P2
open PySem L2
def zT(f:jm):jm:=λρ S=>(f ρ S).bind λz a=>match z with
 |.d d=>(match wC d with
  |.ok ds=>.ok (.d<|.lst ds) a
  |_=>.bad)
 |_=>.bad
section
variable{X:Cx}{E:XK}{e:Expr}{f:jm}{b a i c:Pos}
def acP(L:X.A.units+64<cLine)(V:X.calm=true)(T:Gl X "sorted")(O:X.mg "sorted"=none)(C:Gl X "set")(A:X.mg "set"=none)(U:ZE X E e f)
 (M:X.se e [])(y:X.bk a [])
 (x:starEach [.Call (.Name "set" c) [e] [] a] X.env=(false,eval (.Call (.Name "set" c) [e] [] a) X.env)::starEach [] X.env)(o:X.bk b []):
   ZE X E (.Call (.Name "sorted" i) [.Call (.Name "set" c) [e] [] a] [] b) (zT f):=by
  obtain⟨t,p,r⟩:=U;refine⟨_,Wd V L p T O C A M y x o,λB al lo H σ ρ S Q s h=>r _ _ _ _ _ _ _ _ s<|iZ.mono (iZ.split h) λz j n H1 S1 F x1 y1 m v I=>⟨v,rfl,?_⟩⟩;split at m
  ·rename_i d;have w:Rep X.K j H1 v d:=I;unfold wC at m;split at m
   ·rename_i Y k;split at k
    ·rename_i Z;split at k
     ·rename_i J R;split at k
      ·rename_i D;cases k;obtain⟨l,G,rfl,P,u⟩:=w.oU;exact⟨l,G,Z,j,J,rfl,P,u,R,D.1,D.2,λp ws q N=>m j n _ (F.grow<|lV q) (.of<|lV (K:=X.K) q) .refl _<|show kh X.K j n _ (.ref p) (.d<|.lst _)from N.rO q (F.fresh p q)⟩
      ·cases k
     ·cases k
    ·cases k
   ·exact m.elim
  ·exact m.elim
end
def sU(x y:D):R D:=match AL x y with
 |.ok ds=>.ok (.lst ds)
 |_=>.bad
def Vo:kU X E (binaryOp .Add) sU:=by
 refine⟨_,JF,λal H x y s r Q fr n k h=>?_⟩;unfold sU AL at h;split at h
 ·rename_i t a;split at a
  ·split at a
   ·rename_i z;cases a;obtain⟨l,j,rfl,q,f⟩:=n.yJ;obtain⟨m,i,rfl,o,d⟩:=k.yJ;exact⟨l,m,j,i,rfl,rfl,q,o,by rw[f.length,d.length];exact z,λp c=>h _ (lV c) _ ((f.append d).rO c (fr p c))⟩
   ·cases a
  ·cases a
 ·exact h.elim
end P2
namespace WM
open PySem L2 P2 WP
def sN(a:Ad)(d c:je):jO:=(pP 1<|dA c<|aa (dV 2) iU)
def rD(a:Ad)(c d:je):jO:=(kf (tF 1 (λρ=>((aa (dV 0) iU) ρ).bind jF))
    (kf (uN (λρ=>((dA c (aa (dV 0) iU)) ρ).bind ke) (gV 2) (sN a c d))
    (λρ=>(kZ (dV 1)) (th 1 ρ))))
def yd(a:Ad)(c:je):jO:=(kf (lz 1 (dA c (aa (dV 0) iU)))
    (kf (lz 2 (jw (λρ=>((jw (kM (λρ=>((dV 1) ρ).bind ke) 1 [] (gV 0) (b1 tB (d2 mz (iY 0 0) (dA jz (aa (jg "back") (aa (jg "ago") iU))))) (iY 0 1))) ρ).bind nT)))
    (kf (lz 3 (jw (λρ=>((jw (kM (λρ=>((dV 1) ρ).bind ke) 1 [] (gV 0) (b1 tB (d2 mz (iY 0 0) (dA jz (aa (jg "on") (aa (jg "until") iU))))) (iY 0 1))) ρ).bind nT)))
    (kf (lz 4 (jw (λρ=>((jw (kM (λρ=>((dV 1) ρ).bind ke) 1 [] (gV 0) (b1 tB (d2 jJ (iY 0 0) (jg "at"))) (iY 0 1))) ρ).bind nT)))
    (kf (tF 5 (λρ=>((aa (dA jz (aa (jg "here") iU)) iU) ρ).bind jF))
    (kf (pP 5 (jw (kM (λρ=>((dV 2) ρ).bind ke) 1 [] (gV 0) (λ_=>.ok true) (dA jz (aa (jg "back") (aa (dV 0) iU))))))
    (kf (pP 5 (jw (kM (λρ=>((dV 3) ρ).bind ke) 1 [] (gV 0) (λ_=>.ok true) (dA jz (aa (jg "on") (aa (dV 0) iU))))))
    (kf (pP 5 (jw (kM (λρ=>((dV 4) ρ).bind ke) 1 [] (gV 0) (λ_=>.ok true) (dA jz (aa (jg "at") (aa (dV 0) iU))))))
    (λρ=>(kZ (dV 5)) (th 5 ρ))))))))))
def yi(a:Ad)(c:je)(b:Nat):jC:=(jG<|zF c<|iM (z2 oZ (z2 jU (sd (zV 2)<|zD<|dV 1)<|zD<|iP 0)<|z2 jU (sd (zV 2)<|zD<|dV 0)<|zD<|iP 0)<|iM (zD<|iP 1) i4)
def oi(a:Ad)(f k j i h:je)(c d:ji)(b:Nat):jC:=(iV (jd 2 (zD (iY 0 0)))
    (iV (jE (zB (b1 tB (d2 jJ (dV 2) (jg "num")))) (jG (zD (dA f (aa (d2 jU (iY 0 1) (iP 0)) (aa (d2 jU (iY 0 1) (iP 1)) iU))))) j5)
    (iV (jE (zB (b1 tB (d2 jJ (dV 2) (jg "ago")))) (jG (zZ c (iM (zD (dA jz (aa (jg "back") (aa (iY 0 1) iU)))) (iM (zD (dA jz (aa (jg "here") iU))) (iM (zV 1) i4))))) j5)
    (iV (jE (zB (b1 tB (d2 jJ (dV 2) (jg "until")))) (jG (zZ c (iM (zD (dA jz (aa (jg "here") iU))) (iM (zD (dA jz (aa (jg "on") (aa (iY 0 1) iU)))) (iM (zV 1) i4))))) j5)
    (iV (jE (zB (b1 tB (d2 jJ (dV 2) (jg "+")))) (jG (zF k (iM (zZ d (iM (zD (iY 0 1)) (iM (zV 1) i4))) (iM (zZ d (iM (zD (iY 0 2)) (iM (zV 1) i4))) i4)))) j5)
    (iV (jE (zB (b1 tB (d2 jJ (dV 2) (jg "-")))) (jG (zF j (iM (zZ d (iM (zD (iY 0 1)) (iM (zV 1) i4))) (iM (zZ d (iM (zD (iY 0 2)) (iM (zV 1) i4))) i4)))) j5)
    (iV (jE (zB (b1 tB (d2 jJ (dV 2) (jg "times")))) (jG (zF i (iM (zD (iY 0 1)) (iM (zZ d (iM (zD (iY 0 2)) (iM (zV 1) i4))) i4)))) j5)
    (iV (jE (zB (b1 tB (d2 jJ (dV 2) (jg "abs")))) (jG (zF h (iM (zZ d (iM (zD (iY 0 1)) (iM (zV 1) i4))) i4))) j5)
    (iV (jd 3 (z2 jU (sd (zV 1) (zD (dV 0))) (zD (iP 1))))
    (jG (zD (dA f (aa (iY 3 0) (aa (iY 3 1) iU))))))))))))))
def vL(a:Ad)(f:je)(d c:ji)(b:Nat):jC:=(iV (jd 2 (zD (iY 0 0)))
    (iV (jE (zB (b1 tB (d2 jJ (dV 2) (jg "<")))) (jG (zF f (iM (zZ d (iM (zD (iY 0 1)) (iM (zV 1) i4))) (iM (zZ d (iM (zD (iY 0 2)) (iM (zV 1) i4))) i4)))) j5)
    (iV (jE (zB (b1 tB (d2 jJ (dV 2) (jg "=")))) (jG (z2 qq (zZ d (iM (zD (iY 0 1)) (iM (zV 1) i4))) (zZ d (iM (zD (iY 0 2)) (iM (zV 1) i4))))) j5)
    (iV (jE (zB (b1 tB (d2 jJ (dV 2) (jg "not")))) (jG (zQ (zZ c (iM (zD (iY 0 1)) (iM (zV 1) i4))))) j5)
    (iV (jE (zB (b1 tB (d2 jJ (dV 2) (jg "and")))) (jG (pY (zZ c (iM (zD (iY 0 1)) (iM (zV 1) i4))) (zZ c (iM (zD (iY 0 2)) (iM (zV 1) i4))))) j5)
    (jG (zS (zZ c (iM (zD (iY 0 1)) (iM (zV 1) i4))) (zZ c (iM (zD (iY 0 2)) (iM (zV 1) i4))))))))))
def sL(a:Ad):jC:=(iV (jd 3 (wX (pZ a.Sight (zV 0) "masts") (zD (iY 2 0)) (mE (λρ=>(iU ρ).bind jF))))
    (iV (uY (pZ a.Sight (zV 0) "places") (u3 (iM (zD (iY 2 0)) (iM (zD (iY 2 1)) i4))) (zR (dA lE (aa (dV 3) iU))))
    (oF 3 (zD (dV 2)))))
def yb(a:Ad)(b:Nat):jC:=(iV (wK a.Sight (zV 0) "masts" Eu)
    (iV (wK a.Sight (zV 0) "places" zP)
    (lX (λρ=>((dV 1) ρ).bind ke) (hV 2) (sL a))))
def yc(a:Ad)(b:Nat):jC:=(iV (jd 3 (zD (uf (b1 tB (d2 jJ (iY 2 0) (jg "at"))) (iY 2 1) (iY 1 0))))
    (iV (jd 4 (zO (pZ a.Sight (zV 0) "places") (u3 (iM (zD (dV 3)) (iM (zD (iY 1 1)) i4)))))
    (iV (jE (wR (zV 4)) (jG (zD (dC .non))) j5)
    (iV (jE (zB (b1 tB (d2 jJ (iY 2 0) (jg "back")))) (uX 4 xF (zD (iY 2 1))) j5)
    (iV (jE (zB (b1 tB (d2 jJ (iY 2 0) (jg "on")))) (uX 4 xE (zD (iY 2 1))) j5)
    (iV (jd 5 (wO (pZ a.Sight (zV 0) "masts") (dV 3)))
    (jG (zR (uf (b1 tB (AQ yH mY (iP 0) (dV 4) (dA lE (aa (dV 5) iU)))) (d2 jU (dV 5) (dV 4)) (dC .non))))))))))
def ql(a:Ad)(c:ji):jC:=(iV (jd 5 (wW a.Sight "one_seen" c [] (zV 0) (iM (zD (dV 1)) (iM (zD (dV 4)) i4))))
    (iV (jE (wR (zV 5)) (jG (zD (dC .non))) j5)
    (uY (zV 3) (tN (zD (dV 4))) (zD (dV 5)))))
def vH(a:Ad)(c:ji)(b:Nat):jC:=(iV (jd 3 zP)
    (iV (lX (λρ=>((dV 2) ρ).bind ke) (hV 4) (ql a c))
    (jG (zV 3))))
def ye(a:Ad)(b:Nat):jC:=(jG<|wN<|q7 pickK (zV 0) [0] qb<|zF jz<|iM (zD<|dV 0)<|iM (zF jz<|iM (z2 jU (si (zV 1)<|zD<|dV 0)<|zD<|iP 1)<|iM (z2 jU (si (zV 1)<|zD<|dV 0)<|zD<|iP 2) i4) i4)
def yh(a:Ad)(b:Nat):jC:=(iV (jd 1 (zT (u2 (q7 tA (zV 0) [] qb (zD (dA jz (aa (iY 0 1) (aa (iY 0 0) iU))))))))
    (jG (zD (jw (kM (λρ=>((dV 1) ρ).bind ke) 1 [] (gV 0) (λ_=>.ok true) (dA jz (aa (iY 0 1) (aa (iY 0 0) iU))))))))
def qN(a:Ad)(j k:je)(h c d i f:ji):jC:=(iV (jd 9 (wW a.Sight "seen_from" c [] (zV 5) (iM (zD (dV 8)) (iM (zD (dV 6)) i4))))
    (jE (tM (wU (zV 9)) (ph tT (zZ i (iM (zD (iY 4 1)) (iM (zZ d (iM (zV 9) i4)) i4))))) (oF 2 (zF jz (iM (zD (iY 8 0)) (iM (zD (iY 8 1)) (iM (zD (iY 4 0)) (iM (zZ f (iM (zV 9) i4)) i4)))))) (oF 7 (zD (dV 8)))))
def sP(a:Ad)(i f:je)(c d h k j:ji)(b:Nat):jC:=(iV (jd 5 (wV a.Sight c (iM (zD (dV 3)) i4)))
    (iV (jd 6 (zD (dA f (aa (iY 4 1) iU))))
    (iV (jd 7 (mE (λρ=>(iU ρ).bind jF)))
    (iV (lX (λρ=>((dV 3) ρ).bind ke) (hV 8) (qN a i f c d h k j))
    (r4 b 7 (jd 3 (zD (dV 7))))))))
def yf(a:Ad)(d i:je)(f c h k j:ji)(b:Nat):jC:=(iV (jd 2 (mE (λρ=>(iU ρ).bind jF)))
    (iV (jd 3 (zD (jw (kM (λρ=>((dV 0) ρ).bind ke) 1 [] (gV 0) (λ_=>.ok true) (dA jz (aa (iY 0 0) (aa (iY 0 1) (aa (dA d (aa (d2 jU (iY 0 2) (iP 0)) (aa (d2 jU (iY 0 2) (iP 1)) iU))) iU))))))))
    (iV (lX (λρ=>((dV 1) ρ).bind ke) (hV 4) (sP a d i f c h k j b))
    (r4 b 2 (jG (zD (dA jz (aa (dV 2) (aa (dV 3) iU)))))))))
def yk(a:Ad)(c:ji)(b:Nat):jC:=(jG<|z2 jU (zZ c<|iM (zD<|dV 0)<|iM (zD<|dV 1) i4)<|zD<|iP 1)
def yt(a:Ad)(b:Nat):jC:=(iV (jE (qa (b1 tB (d2 jJ (iY 0 1) (iP 0)))) (iV (jd 2 (zR (d2 jH (iY 0 0) (dV 1))))
    (iV (uZ 0 (iP 0) (zR (d2 j7 (iY 0 0) (dV 1))))
    (jG (zD (dV 2))))) j5)
    (iV (uZ 0 (iP 0) (zR (d2 jH (d2 j0 (d2 km (d2 jH (iY 0 0) (iP 2147483647)) (iP 48271)) (iP 1013)) (iP 2147483629))))
    (jG (zR (d2 jH (d2 j7 (d2 jH (d2 km (iY 0 0) (iP 69621)) (iP 2147483587)) (iP 11)) (dV 1))))))
def yy(a:Ad)(d:je)(c:ji)(b:Nat):jC:=(iV (jd 1 (zZ c (iM (zV 0) (iM (zD (iP 8)) i4))))
    (iV (jE (zB (b1 tB (d2 jJ (dV 1) (iP 7)))) (jG (zF jz (iM (z2 km (zZ c (iM (zV 0) (iM (zD (d2 zc (iP 10) (iP 60))) i4))) (z2 oZ (zD (iP 1)) (z2 km (zD (iP 2)) (zZ c (iM (zV 0) (iM (zD (iP 2)) i4)))))) (iM (zD (iP 1)) i4)))) j5)
    (iV (jE (zB (b1 tB (d2 jJ (dV 1) (iP 6)))) (jG (zF d (iM (z2 oZ (zZ c (iM (zV 0) (iM (zD (iP 9)) i4))) (zD (iP 3))) (iM (zD (iP 2)) i4)))) j5)
    (jG (zF jz (iM (zZ c (iM (zV 0) (iM (zD (iP 4)) i4))) (iM (zD (iP 1)) i4)))))))
def sO(a:Ad)(d:je)(f c:ji):jC:=(iV (oF 4 (zF jz (iM (zD (d2 jU (dV 3) (d2 jH (dV 6) (iP 3)))) (iM (zD (dV 5)) (iM (zZ c (iM (zV 7) i4)) i4)))))
    (jd 5 (zD (d2 j0 (dV 5) (iP 1)))))
def vy(a:Ad)(d:je)(f c:ji):jC:=(oF 4<|zF jz<|iM (zD<|dV 11)<|iM (zD<|dV 5)<|iM (zZ c<|iM (zV 7) i4) i4)
def rp(a:Ad)(d:je)(c f:ji):jC:=(iV (jE (qa (b1 tB (d2 rF (dA lE (aa (dV 4) iU)) (dV 2)))) k4.bk j5)
    (iV (jd 7 (mE (λρ=>((aa (dV 6) (aa (d2 jH (d2 j7 (dA d (aa (dV 0) (aa (iP 0) iU))) (iP 7)) (iP 2)) iU)) ρ).bind jF)))
    (iV (jd 5 (z2 j0 (zD (d2 j0 (dV 5) (iP 1))) (zZ c (iM (zV 7) (iM (zD (iP 4)) i4)))))
    (iV (jE (ph tB (z2 jJ (zZ c (iM (zV 7) (iM (zD (iP 9)) i4))) (zD (iP 1)))) (jd 5 (z2 j0 (zD (dV 5)) (zZ c (iM (zV 7) (iM (zD (iP 3000)) i4))))) j5)
    (iV (jd 8 (zZ c (iM (zV 7) (iM (zD (iP 12)) i4))))
    (iV (jE (qa (n8 (b1 tB (d2 jJ (dV 8) (iP 11))) (b1 tB (d2 mY (dA lE (aa (dV 4) iU)) (iP 50))))) (lX (λρ=>((aa (iP 9) iU) ρ).bind qx) (hV 9) (sO a d c f)) j5)
    (iV (jd 10 (zD (d2 jU (jw (λρ=>((aa (jw (λρ=>((aa (iP 0) iU) ρ).bind jF)) (aa (jw (λρ=>((aa (iP 0) iU) ρ).bind jF)) (aa (jw (λρ=>((aa (iP 0) iU) ρ).bind jF)) (aa (jw (λρ=>((aa (iP 1) iU) ρ).bind jF)) (aa (jw (λρ=>((aa (iP 0) (aa (iP 1) iU)) ρ).bind jF)) (aa (jw (λρ=>((aa (iP 0) (aa (iP 1) (aa (iP 2) iU))) ρ).bind jF)) (aa (jw (λρ=>((aa (iP 2) iU) ρ).bind jF)) (aa (jw (λρ=>((aa (iP 0) (aa (iP 2) iU)) ρ).bind jF)) (aa (jw (λρ=>((aa (iP 1) (aa (iP 2) iU)) ρ).bind jF)) (aa (jw (λρ=>((aa (iP 1) iU) ρ).bind jF)) (aa (jw (λρ=>((aa (iP 0) iU) ρ).bind jF)) (aa (jw (λρ=>((aa (iP 0) (aa (iP 1) iU)) ρ).bind jF)) iU)))))))))))) ρ).bind jF)) (dV 8))))
    (lX (λρ=>((jw (λρ=>((jw (kM (λρ=>((dV 10) ρ).bind ke) 1 [3] (gV 0) (λ_=>.ok true) (d2 jU (dV 1) (dV 0)))) ρ).bind wB)) ρ).bind ke) (hV 11) (vy a d c f)))))))))
def yu(a:Ad)(c:je)(f d:ji)(b:Nat):jC:=(iV (jd 4 (mE (λρ=>(iU ρ).bind jF)))
    (iV (jd 5 (zD (d2 jH (dA c (aa (dV 0) (aa (iP 1) iU))) (d2 oZ (d2 zc (iP 10) (iP 9)) (d2 zc (iP 10) (iP 6))))))
    (iV (lX (λρ=>((qP pT (dV 0) (λρ=>((dV 1) ρ).bind pI) (λρ=>((d2 j0 (dV 1) (iP 60)) ρ).bind pI)) ρ).bind ke) (hV 6) (rp a c f d))
    (r4 b 4 (jG (zD (dV 4)))))))
def yx(a:Ad)(d:je)(c:ji)(b:Nat):jC:=(iV (jd 2 (zZ c (iM (zV 0) (iM (zD (iP 10)) i4))))
    (iV (jE (zB (b1 tB (d2 jJ (dV 2) (iP 0)))) (jG (zF jz (iM (zD (jg "num")) (iM (zF d (iM (zZ c (iM (zV 0) (iM (zD (iP 9)) i4))) (iM (z2 j0 (zD (iP 1)) (zZ c (iM (zV 0) (iM (zD (iP 3)) i4)))) i4))) i4)))) j5)
    (iV (jE (zB (n8 (b1 tB (d2 jJ (dV 2) (iP 8))) (b1 tB (d2 mL (dV 1) (jw (λρ=>(iU ρ).bind jF)))))) (jG (zF jz (iM (zD (jg "at")) (iM (z2 jU (zD (dV 1)) (zZ c (iM (zV 0) (iM (zD (dA lE (aa (dV 1) iU))) i4)))) i4)))) j5)
    (iV (jE (zB (b1 tB (d2 mz (dV 2) (jw (λρ=>((aa (iP 1) (aa (iP 2) (aa (iP 8) (aa (iP 9) iU)))) ρ).bind jF))))) (jG (zD (dA jz (aa (jg "here") iU)))) j5)
    (iV (jd 3 (z2 j0 (zD (iP 1)) (zZ c (iM (zV 0) (iM (zD (iP 3)) i4)))))
    (iV (jE (zB (b1 tB (d2 jJ (dV 3) (iP 3)))) (jd 3 (z2 j0 (zD (iP 1)) (zZ c (iM (zV 0) (iM (zD (iP 9)) i4))))) j5)
    (jG (zD (dA jz (aa (d2 jU (jw (λρ=>((aa (jg "back") (aa (jg "back") (aa (jg "on") (aa (jg "ago") (aa (jg "until") iU))))) ρ).bind jF)) (d2 oZ (dV 2) (iP 3))) (aa (dV 3) iU)))))))))))
def yw(a:Ad)(f:je)(c d:ji)(b:Nat):jC:=(iV (jd 2 (zZ c (iM (zV 0) (iM (zD (iP 6)) i4))))
    (iV (jd 3 (zZ d (iM (zV 0) (iM (zD (dV 1)) i4))))
    (iV (jE (zB (b1 tB (d2 jJ (dV 2) (iP 3)))) (jG (zF jz (iM (zD (jg "times")) (iM (zF f (iM (zZ c (iM (zV 0) (iM (zD (iP 4)) i4))) (iM (z2 j0 (zD (iP 1)) (zZ c (iM (zV 0) (iM (zD (iP 3)) i4)))) i4))) (iM (zD (dV 3)) i4))))) j5)
    (iV (jE (zB (b1 tB (d2 rF (dV 2) (iP 3)))) (jG (zD (dV 3))) j5)
    (iV (jd 4 (zZ d (iM (zV 0) (iM (zD (dV 1)) i4))))
    (iV (jE (zB (b1 tB (d2 jJ (dV 2) (iP 0)))) (jG (zD (dA jz (aa (jg "abs") (aa (dA jz (aa (jg "-") (aa (dV 3) (aa (dV 4) iU)))) iU))))) j5)
    (jG (zD (dA jz (aa (d2 jU (jw (λρ=>((aa (jg "+") (aa (jg "-") iU)) ρ).bind jF)) (d2 oZ (dV 2) (iP 1))) (aa (dV 3) (aa (dV 4) iU))))))))))))
def yp(a:Ad)(f:je)(c d:ji)(b:Nat):jC:=(iV (jd 2 (z2 jU (zD (jw (λρ=>((aa (jg "<") (aa (jg "<") (aa (jg "=") iU))) ρ).bind jF))) (zZ c (iM (zV 0) (iM (zD (iP 3)) i4)))))
    (iV (jd 3 (zZ d (iM (zV 0) (iM (zD (dV 1)) i4))))
    (iV (jE (ph tB (z2 jJ (zZ c (iM (zV 0) (iM (zD (iP 2)) i4))) (zD (iP 0)))) (jG (zF jz (iM (zD (dV 2)) (iM (zD (dV 3)) (iM (zF jz (iM (zD (jg "num")) (iM (zF f (iM (zZ c (iM (zV 0) (iM (zD (iP 6)) i4))) (iM (z2 j0 (zD (iP 1)) (zZ c (iM (zV 0) (iM (zD (iP 2)) i4)))) i4))) i4))) i4))))) j5)
    (jG (zF jz (iM (zD (dV 2)) (iM (zD (dV 3)) (iM (zZ d (iM (zV 0) (iM (zD (dV 1)) i4))) i4))))))))
def yq(a:Ad)(d c:ji)(b:Nat):jC:=(iV (jd 2 (zZ d (iM (zV 0) (iM (zD (iP 6)) i4))))
    (iV (jd 3 (zZ c (iM (zV 0) (iM (zD (dV 1)) i4))))
    (iV (jE (zB (b1 tB (d2 mY (dV 2) (iP 3)))) (jG (zD (dV 3))) j5)
    (iV (jE (zB (b1 tB (d2 jJ (dV 2) (iP 3)))) (jG (zD (dA jz (aa (jg "not") (aa (dV 3) iU))))) j5)
    (jG (zF jz (iM (zD (d2 jU (jw (λρ=>((aa (jg "and") (aa (jg "or") iU)) ρ).bind jF)) (d2 oZ (dV 2) (iP 4)))) (iM (zD (dV 3)) (iM (zZ c (iM (zV 0) (iM (zD (dV 1)) i4))) i4)))))))))
def uc(a:Ad)(c:je)(d:ji):jC:=(iV (jd 7 (mE (λρ=>((aa (dA c (aa (dV 0) (aa (d2 j0 (dV 1) (dV 6)) iU))) (aa (d2 jH (d2 j7 (dA c (aa (dV 0) (aa (iP 0) iU))) (iP 7)) (iP 2)) iU)) ρ).bind jF)))
    (oF 5 (zF jz (iM (zD (d2 jU (dV 4) (dV 6))) (iM (zZ d (iM (zV 7) (iM (zD (dV 3)) i4))) i4)))))
def yv(a:Ad)(d:je)(c:ji)(b:Nat):jC:=(iV (jd 4 (zD (jw (λρ=>((aa (jg "a") (aa (jg "bb") (aa (jg "ab") (aa (jg "ba") (aa (jg "c") (aa (jg "b") (aa (jg "aa") (aa (jg "d") (aa (jg "e") (aa (jg "f") (aa (jg "g") (aa (jg "h") iU)))))))))))) ρ).bind jF))))
    (iV (jd 5 (mE (λρ=>(iU ρ).bind jF)))
    (iV (lX (λρ=>((aa (dV 2) iU) ρ).bind qx) (hV 6) (uc a d c))
    (r4 b 5 (jG (zD (dV 5)))))))
end WM
namespace P2
open PySem L2 PySem.Spec
def xj(K:W.Frag)(a:Addr)(n:Nat):It:=
 ⟨λi H=>∃c x,kP K H a c/\c.length=n/\c.reverse[i]?=some x,λi H x H'=>H'=H/\∀c,kP K H a c->c.reverse[i]?=some x,λi _=>n<=i⟩
def ab3{P:Program}{w:World}{K:W.Frag}{R:Expr}(a j:Addr)(n:Nat):Turn P w K R (xj K a n) [j] j (λi h=>i<=n/\h.IsRevIter j a ((n:Int) - 1 - i)) where
 mem:=by simp
 obj:=λi h st b l=>by
  have e:b=j:=by simpa using l
  subst e;obtain⟨_,o,e,c,d⟩:=st;exact⟨o,e,λv z=>by rw[d]at z;cases z⟩
 keep:=λi h r st k=>⟨st.1,st.2.at λo e=>k j (by simp) o e⟩
 item:=by
  intro X D A F Q i f s σ H E I hf st C;subst D A F;obtain⟨m,x,O,hl,y⟩:=C;obtain⟨Y,U,p,hz⟩:=I.list O;have hi:i<m.length:=by have:=(az.mp y).1;rwa [fL]at this
  have t:m[m.length - 1 - i]?=some x:=by rw[<-List.getElem?_reverse hi];exact y
  obtain⟨u,hu,V⟩:=U.get t;obtain⟨N,M,f2,L,J,G⟩:=hf j (by simp);have en:((n:Int) - 1 - i)=((m.length - 1 - i:Nat):Int):=by omega
  refine wpAny_pyNext_rev_item (i:=m.length - 1 - i) (by rw[<-en];exact st.2) p.isList (x:=u) (by simpa using hu) λr q T=>?_;have I1:Inv X f σ H {s with heap:=r}:=I.turned (t':=s.toks) (λb o l e=>(T.2 b l).trans e) N M L J G;obtain⟨o,e,c,d⟩:=id q;exact⟨u,rfl,rE (s:={s with heap:=r}) e c d (by decide) ⟨x,H,I1,V,⟨rfl,λys Z=>by rw[I.I0 Z O];exact y⟩,⟨by omega,by
   have:((n:Int) - 1 - ((i+1:Nat):Int))=(((m.length - 1 - i:Nat):Int) - 1):=by omega
   rw[this];exact q⟩,λb l=>(hf b l).1⟩⟩
 done:=by
  intro X D A F Q i f s σ H E I hf st C;subst D A F;obtain⟨N,M,f2,L,J,G⟩:=hf j (by simp);have hg':n<=i:=C;have e1:((n:Int) - 1 - i)= -1:=by have:=st.1;omega
  exact wpAny_pyNext_rev_end (I.ok.hd Q) (by rw[<-e1];exact st.2) λr eb=>⟨rfl,I.turned (t':=s.toks) (λb o l e=>eb b o l e) N M L J G⟩
 self:=λ_ _ _ _ _ st h=>wpAny_pyIter_revIter st.2 h
variable{X:Cx}{E:XK}{e m:Expr}{C:TE}{f:jq}{J j:Pos}
def Wu(T:PE X e C)(y:Gl X "reversed")(v:X.mg "reversed"=none)
    (A:X.se e []):
    PI X m (.Call (.Name "reversed" J) [e] [] j) (λσ H R=>C σ H λD i=>∃x,[D]=[x]/\∃l a,x=.ref l/\kP X.K i l a/\R (xj X.K l a.length) i):=by
 intro n s σ H R I h;refine cf (rM I y v ND ?_ (by decide) (by decide));have z:PA X [e] (zz C zA):=rS T rT A;refine cS (jh (z j n s σ H (λa i=>∃x,a=[x]/\∃l a,x=.ref l/\kP X.K i l a/\R (xj X.K l a.length) i) I h) λY d t=>?_) A;obtain⟨F,i,p,M,N⟩:=t;obtain⟨x,rfl,l,a,rfl,Q,q⟩:=N;obtain⟨u,rfl,L⟩:=vals1 M;obtain rfl:u=Value.ref l:=L;obtain⟨c,G,O,Z⟩:=p.list Q;have w:=O.isList;have P:=G.length;refine call_reversed_list w ?_;have r:c.toArray.size=a.length:=by rw[aM];omega
 have V:(d.heap.push<|revObj l<|(c.toArray.size:Int) - 1).get? d.heap.objs.size=some (revObj l<|(c.toArray.size:Int) - 1):=aH _ rfl;have k:(d.heap.push<|revObj l<|(c.toArray.size:Int) - 1).IsRevIter d.heap.objs.size l ((a.length:Int) - 1 - ((0:Nat):Int)):=by
  have e:((a.length:Int) - 1 - ((0:Nat):Int))=(c.toArray.size:Int) - 1:=by rw[r];omega
  rw[e];exact⟨_,V,rfl,rfl⟩
 refine wpAny_pyIter_revIter k ?_;refine⟨d.heap.objs.size,[d.heap.objs.size],_,_,i,rfl,p.kept (t':=d.toks) λb o e=>ah _ e,ab3 l _ a.length,⟨bM _,k⟩,λb U=>?_,q⟩;have e:b=d.heap.objs.size:=by simpa using U
 subst e;exact p.td (ag _) (p.hok.fresh<|ag _)
def acj{K:W.Frag}{al:Addr->Prop}{H:Hp}{a:Addr}{c:List V}{k:List D}(r:Rep K al H (.ref a)<|.lst k)(u:c.length=k.length):Wk K al H (xj K a c.length) k.reverse:=by intro p H' x fr;obtain⟨w,l,e,q,rs⟩:=(r.mv x).oU;cases e;have t:=rs.length;refine⟨λi d h=>?_,λi h=>by rw[fL]at h;show c.length<=i;omega⟩;obtain⟨v,n,o⟩:=rs.rev.getD h;refine⟨⟨l,v,q,by omega,n⟩,λy s z=>⟨z.1,?_⟩⟩;have:=z.2 l q;rw[n]at this;cases this;exact o
def OI(x:DE X E e f)(k:Gl X "reversed")(i:X.mg "reversed"=none)
 (u:X.se e []):DI X E m (.Call (.Name "reversed" J) [e] [] j) (λρ=>(f ρ).bind C8):=by
  obtain⟨t,p,r⟩:=x;refine⟨_,Wu p k i u,λP z al H σ ρ R s h=>r _ _ _ _ _ _ _ s<|Aft.mono (Aft.split h) λd o y a v n=>?_⟩;unfold C8 at a;split at a
  ·obtain⟨l,q,rfl,w,c⟩:=n.oU;exact⟨_,rfl,l,q,rfl,w,a o (.refl o) _<|acj n c.length⟩
  ·exact a.elim
variable{k o:Expr}{A fo:jm}{F:Pos}
def wQ(A fo:jm):jm:=λρ S=>(LX A fo ρ S).bind λb a=>.ok (.d<|.bl b) a
def L8(hu:X.A.units+64<cLine)(Y:ZE X E k A)(T:ZE X E o fo)(V:behindInMarks .In o=false):ZE X E (.Compare k [.In] [o] F) (wQ A fo):=by
 obtain⟨to,O,M⟩:=T;obtain⟨tk,pk,N⟩:=Y;refine⟨_,VW (VP (by omega) pk O) V,λB al lo H σ ρ S Q s h=>N _ _ _ _ _ _ _ _ s<|iZ.mono (iZ.split<|iZ.split h) λy mV P H1 S1 G x1 y1 h1 u L=>M _ _ _ _ _ _ _ _ G<|iZ.mono (iZ.split h1) λz l d t S2 p x w i v I=>?_⟩;split at i
 ·rename_i n r;split at i
  ·rename_i R q;obtain⟨a,U,rfl⟩:=I;obtain⟨c,ha,Z,rfl⟩:=kh.mv x w L;obtain⟨D,g1,g2⟩:=p.cell U q;refine⟨a,lA D r,rfl,.t g1 Z,?_⟩;rw[g2.isSome r];exact i l d t p .refl .refl l d t p .refl .refl _ (.bl _)
  ·exact i.elim
 ·exact i.elim
end P2
namespace sH
open PySem L2 P2 WP WM
def at_(i:Nat):Stmt:=PySem.Challenge.pw_weather_k71_parted.main.body.getD i (.Pass ⟨0,0,0,0⟩)
abbrev Dg:Stmt:=inClass (at_ 20) 0
abbrev Di:Stmt:=inClass (at_ 20) 1
abbrev Dh:Stmt:=inClass (at_ 20) 2
abbrev Dn:Stmt:=at_ 4
abbrev Dr:Stmt:=at_ 5
abbrev Dl:Stmt:=at_ 6
abbrev Dz:Stmt:=at_ 7
abbrev Dv:Stmt:=at_ 8
abbrev DC:Stmt:=at_ 9
abbrev DF:Stmt:=at_ 10
abbrev Dj:Stmt:=at_ 12
abbrev Dy:Stmt:=at_ 13
abbrev Dq:Stmt:=at_ 14
abbrev DJ:Stmt:=at_ 15
abbrev Dw:Stmt:=at_ 16
abbrev DH:Stmt:=at_ 17
abbrev Dp:Stmt:=at_ 18
abbrev DB:Stmt:=at_ 22
abbrev Ds:Stmt:=at_ 23
abbrev Dm:Stmt:=at_ 24
abbrev Du:Stmt:=at_ 25
abbrev Dt:Stmt:=at_ 27
abbrev Dx:Stmt:=at_ 29
abbrev D1:Stmt:=at_ 31
abbrev D4:Stmt:=at_ 32
abbrev Eb:Stmt:=at_ 33
abbrev D5:Stmt:=at_ 34
abbrev Ea:Stmt:=at_ 35
abbrev D6:Stmt:=at_ 36
abbrev D9:Stmt:=at_ 37
abbrev D8:Stmt:=at_ 38
abbrev D2:Stmt:=at_ 39
abbrev D3:Stmt:=at_ 40
abbrev D7:Stmt:=at_ 41
abbrev tG:Stmt:=at_ 42
structure Tx(K:PySem.W.Frag)(mg:kd)(a:Ad):Prop where
 vz:mg "abs"=none
 Ge:mg "bool"=none
 Az:mg "dict"=none
 Gf:mg "int"=none
 xG:mg "isinstance"=none
 rq:mg "len"=none
 xH:mg "list"=none
 Gg:mg "max"=none
 vA:mg "range"=none
 Gh:mg "reversed"=none
 vB:mg "set"=none
 ud:mg "sorted"=none
 Gi:mg "tuple"=none
 NI:mg "WeatherError"=some (.ref a.WeatherError)
 Gy:mg "NoFraction"=some (.ref a.NoFraction)
 Gz:mg "Sight"=some (.ref a.Sight)
 LY:FO K a.NoFraction
 qS:nX K a.Sight
 yN:qj K a.Sight "masts"
 yO:qj K a.Sight "places"
 nt:qX K=true
 yF:xg K a.om
section
variable{P:Program}{w:World}{K:PySem.W.Frag}{h:kd}{base:Heap}{f:Addr}{o:FuncData}
variable{ET m c O v j I L EU J EV EW EX N:je}{M C B FP Y FQ q FR FT U l Q r FU FV FW z p e X:ji}
local macro_rules|`(tactic|walk_at "sc")=>`(tactic|exact⟨rfl,rfl,rfl,by decide+kernel,rfl,by decide+kernel,by decide+kernel⟩)
def DK:j8 ["self","row","reading","own"] ["self","row"] (jo Dg):=by walk_at "sc"
def UH{dV}(T:Tx K h a)(F:oI K "__init__" "Sight.__init__" Dg dV f o):
    jL P w K h base 1 f o ["self","row"] (jI 2 K λi S=>i6<|yb a S.length (jr 4 i) S):=
 Bd F DK λb n A d s H E k=>(ja (Mg T.qS T.yN (jv 0) acJ (by rfl))
  (ja (Mg T.qS T.yO (jv 0) L9 (by rfl))
  (jy (qC nS rfl (mu (iO 1)) (qB 2 DK.nd rfl (Or.inl rfl)) (ja (jT 3 DK.nd rfl (Or.inl rfl) (acK (z7 T.qS T.yN (jv 0) (by rfl)) (iT (jb 2)) (sk (kl i8)) ⟨rfl,rfl,rfl,rfl⟩))
  (ja (Mf k.units (z7 T.qS T.yO (jv 0) (by rfl)) (Ma (iS (iT (jb 2)) (iS (iT (jb 2)) jf))) (u9 (nk sT rfl T.rq sS (iR (iO 3) i8))) (by rfl))
  (jy (vb 3 bX bW cc (iT (iO 2))))))))))
def uP:j8 ["self","reading","ask","mast","place","own"] BQ (jo Dh):=by walk_at "sc"
def UI{dV}(T:Tx K h a)(F:oI K "one_seen" "Sight.one_seen" Dh dV f o):
    jL P w K h base 1 f o BQ (jI 3 K λk S=>i6<|yc a S.length (jr 6 k) S):=
 Bd F uP λb n A d s H E i=>(ja (jT 3 uP.nd rfl (Or.inl rfl) (iT (GU (jW kH (jb 2) ju) (jb 2) (jb 1))))
  (ja (jT 4 uP.nd rfl (Or.inl rfl) (acI i.units (z7 T.qS T.yO (jv 0) (by rfl)) (Ma (iS (iT (iO 3)) (iS (iT (jb 1)) jf))) ⟨rfl,rfl,rfl,rfl⟩))
  (ja (kj (Mi (jv 4) (by first|exact m5 _|with_unfolding_all rfl)) (jy (j2 (iT qp))) kn)
  (ja (kj (kT (jW kH (jb 2) ju)) (jy (Me 4 uP.nd rfl (Or.inl rfl) Rr (iT (jb 2)) (by first|exact .inl rfl|exact .inr rfl|assumption))) kn)
  (ja (kj (kT (jW kH (jb 2) ju)) (jy (Me 4 uP.nd rfl (Or.inl rfl) Rp (iT (jb 2)) (by first|exact .inl rfl|exact .inr rfl|assumption))) kn)
  (ja (jT 5 uP.nd rfl (Or.inl rfl) (acH i.units (z7 T.qS T.yN (jv 0) (by rfl)) (iO 3) (by exact λ_ _=>rfl)))
  (jy (j2 (u9 (GU (OW Vy uG iX (iO 4) (nk sT rfl T.rq sS (iR (iO 5) i8)) (by with_unfolding_all rfl)) (mJ lu (iO 5) (iO 4)) qp))))))))))
def zp:j8 ["self","reading","asked","seen","ask","one"] BR (jo Di):=by walk_at "sc"
def UJ{dV}(T:Tx K h a)(F:oI K "seen_from" "Sight.seen_from" Di dV f o)
 (d:pA P w K h base 1 a.Sight "one_seen" BQ []<|jI 3 K C):
   jL P w K h base 2 f o BR (jI 3 K λn S=>i6<|vH a C S.length (jr 6 n) S):=
  Bd F zp λb t A i s H E k=>(ja (jT 3 zp.nd rfl (Or.inl rfl) L9)
   (ja (qC nS rfl (mu (iO 2)) (qB 4 zp.nd rfl (Or.inl rfl)) (ja (jT 5 zp.nd rfl (Or.inl rfl) (Mb d T.qS k jc (jv 0) (iS (iT (iO 1)) (iS (iT (iO 4)) jf)) rfl))
   (ja (kj (Mi (jv 5) (by first|exact m5 _|with_unfolding_all rfl)) (jy (j2 (iT qp))) kn)
   (jy (Mf k.units (jv 3) (EJ T.nt (iT (iO 4))) (iT (iO 5)) (by rfl))))))
   (jy (j2 (jv 3)))))
def zq:j8 ["one","other","rest"] ["one","other"] (jo Dl):=by walk_at "sc"
def vq(a:Ad):jO:=(kf (lz 2 (d2 jH (dV 0) (dV 1)))
    (kf (lz 0 (dV 1))
    (lz 1 (dV 2))))
def vI(a:Ad):jO:=(kf (o9 (b1 tB (d2 oV (dV 1) (iP 0))) (vq a) sQ)
    (kZ (dV 0)))
def UL(T:Tx K h a)(F:jZ K "common_divisor" "common_divisor" Dl f o):
    jL P w K h base 1 f o ["one","other"] (j4 2 K λi=>jM<|vI a<|jR 3 i):=
 nN F zq λk A d s H E n=>(kW (Ha sQ nS (jW Cm (iO 1) iX) (kW (nL 2 zq.nd rfl (Or.inl rfl) (jt lT (iO 0) (iO 1)))
  (kW (nL 0 zq.nd rfl (Or.inl rfl) (iO 1))
  (lD (nL 1 zq.nd rfl (Or.inl rfl) (iO 2))))))
  (lD (mw (iO 0))))
def aan:j8 ["thing"] ["thing"] (jo Dr):=by walk_at "sc"
def vM(a:Ad):jO:=(kZ<|xN (dA (mT a.om)<|aa (dV 0)<|aa (dC<|.ty "int") iU)<|xO<|dA (mT a.om)<|aa (dV 0)<|aa (dC<|.ty "bool") iU)
def UR(T:Tx K h a)(F:jZ K "is_whole" "is_whole" Dr f o):
    jL P w K h base 1 f o ["thing"] (j4 1 K λi=>jM<|vM a<|jR 1 i):=
 nN F aan λk A d s H E n=>(lD<|mw<|OC (nk (AJ T.yF) rfl T.xG AG<|iR (iO 0)<|iR (AX rfl T.Gf NB (by decide)<|by decide) i8)<|OE<|OD<|nk (AJ T.yF) rfl T.xG AG<|iR (iO 0)<|iR (AX rfl T.Ge NA (by decide)<|by decide) i8)
def DL:j8 ["top","bottom","divisor"] ["top","bottom"] (jo Dn):=by walk_at "sc"
def vJ(a:Ad)(v m:je):jO:=(kf (pQ (pD (qO (b1 tT (dA v (aa (dV 0) iU)))) (pD (qO (b1 tT (dA v (aa (dV 1) iU)))) (b1 tB (d2 jJ (dV 1) (iP 0))))) (λ_=>.ex a.NoFraction [] []) pR)
    (kf (lz 2 (dA m (aa (dA oO (aa (dV 0) iU)) (aa (dA oO (aa (dV 1) iU)) iU))))
    (kf (pQ (b1 tB (d2 mY (dV 1) (iP 0))) (lz 2 (d1 v7 (dV 2))) pR)
    (kZ (dA jz (aa (d2 j7 (dV 0) (dV 2)) (aa (d2 j7 (dV 1) (dV 2)) iU)))))))
def UO(T:Tx K h a)(F:jZ K "fraction" "fraction" Dn f o)
 (i:jD P w K h base 2 "is_whole" ["thing"]<|j4 1 K v)
 (d:jD P w K h base 2 "common_divisor" ["one","other"]<|j4 2 K m):
   jL P w K h base 3 f o ["top","bottom"] (j4 2 K λt=>jM<|vJ a v m<|jR 3 t):=
  nN F DL λu A k s H E n=>(kW (sW (DW.dt (xW (A2 (A4 (l6 i n rfl jc rfl (iR (iO 0) i8)) (by intro _;rfl))) (xW (A2 (A4 (l6 i n rfl jc rfl (iR (iO 1) i8)) (by intro _;rfl))) (A5 (jW kH (iO 1) iX))))) (lD (OU PySem.F.excBase_ValueError T.LY.cls rfl T.Gy (by decide))) sX)
   (kW (nL 2 DL.nd rfl (Or.inl rfl) (l6 d n rfl jc rfl (iR (nk xK rfl T.vz xJ (iR (iO 0) i8)) (iR (nk xK rfl T.vz xJ (iR (iO 1) i8)) i8))))
   (kW (sW (jW uG (iO 1) iX) (lD (nL 2 DL.nd rfl (Or.inl rfl) (OF acb (iO 2)))) sX)
   (lD (mw (kQ (iR (jt mU (iO 0) (iO 2)) (iR (jt mU (iO 1) (iO 2)) i8))))))))
def aar:j8 ["one","other"] ["one","other"] (jo Dz):=by walk_at "sc"
def vO(a:Ad)(c:je):jO:=(kZ<|dA c<|aa (d2 j0 (d2 km (iY 0 0)<|iY 1 1)<|d2 km (iY 1 0)<|iY 0 1)<|aa (d2 km (iY 0 1)<|iY 1 1) iU)
def U1(T:Tx K h a)(F:jZ K "plus" "plus" Dz f o)
 (d:jD P w K h base 3 "fraction" ["top","bottom"]<|j4 2 K c):
   jL P w K h base 4 f o ["one","other"] (j4 2 K λn=>jM<|vO a c<|jR 2 n):=
  nN F aar λt A i s H E k=>(lD<|mw<|l6 d k rfl jc rfl<|iR (jt ma (jt nB (jb 0)<|jb 1)<|jt nB (jb 1)<|jb 0)<|iR (jt nB (jb 0)<|jb 1) i8)
def aap:j8 ["one","other"] ["one","other"] (jo Dv):=by walk_at "sc"
def vN(a:Ad)(c:je):jO:=(kZ<|dA c<|aa (d2 oZ (d2 km (iY 0 0)<|iY 1 1)<|d2 km (iY 1 0)<|iY 0 1)<|aa (d2 km (iY 0 1)<|iY 1 1) iU)
def UX(T:Tx K h a)(F:jZ K "minus" "minus" Dv f o)
 (d:jD P w K h base 3 "fraction" ["top","bottom"]<|j4 2 K c):
   jL P w K h base 4 f o ["one","other"] (j4 2 K λn=>jM<|vN a c<|jR 2 n):=
  nN F aap λt A i s H E k=>(lD<|mw<|l6 d k rfl jc rfl<|iR (jt rR (jt nB (jb 0)<|jb 1)<|jt nB (jb 1)<|jb 0)<|iR (jt nB (jb 0)<|jb 1) i8)
def aat:j8 ["one","other"] ["one","other"] (jo DC):=by walk_at "sc"
def vP(a:Ad)(c:je):jO:=(kZ<|dA c<|aa (d2 km (iY 0 0)<|iY 1 0)<|aa (d2 km (iY 0 1)<|iY 1 1) iU)
def U4(T:Tx K h a)(F:jZ K "times" "times" DC f o)
 (d:jD P w K h base 3 "fraction" ["top","bottom"]<|j4 2 K c):
   jL P w K h base 4 f o ["one","other"] (j4 2 K λn=>jM<|vP a c<|jR 2 n):=
  nN F aat λt A i s H E k=>(lD<|mw<|l6 d k rfl jc rfl<|iR (jt nB (jb 0)<|jb 1)<|iR (jt nB (jb 0)<|jb 1) i8)
def aau:j8 ["one","other"] ["one","other"] (jo DF):=by walk_at "sc"
def vQ(a:Ad):jO:=(kZ<|d2 mY (d2 km (iY 0 0)<|iY 1 1)<|d2 km (iY 1 0)<|iY 0 1)
def U5(T:Tx K h a)(F:jZ K "under" "under" DF f o):
    jL P w K h base 1 f o ["one","other"] (j4 2 K λi=>jM<|vQ a<|jR 2 i):=
 nN F aau λk A d s H E n=>(lD<|mw<|AV uG (jt nB (jb 0)<|jb 1) (jt nB (jb 1)<|jb 0)<|by first|exact m5 _|with_unfolding_all rfl)
def aam:j8 ["part"] ["part"] (jo Dq):=by walk_at "sc"
def UQ(T:Tx K h a)(F:jZ K "inner_parts" "inner_parts" Dq f o):
    jL P w K h base 1 f o ["part"] (j4 1 K λk=>jM<|Bg a<|jR 1 k):=
 nN F aam λn A d s H E i=>(kW (sW (jW (tx i.units) (jb 0) (kQ (iR ju (iR ju (iR ju (iR ju (iR ju (iR ju i8)))))))) (lD (mw (DN.de (kl (iR (jb 0) (iR (jb 0) i8)))))) sX)
  (kW (sW (jW kH (jb 0) ju) (lD (mw (DN.de (kl (iR (jb 0) i8))))) sX)
  (kW (sW (jW (tx i.units) (jb 0) (kQ (iR ju (iR ju i8)))) (lD (mw (DN.de (kl (iR (jb 0) i8))))) sX)
  (lD (mw (DN.de (kl i8)))))))
def DM:j8 ["part","parts","inner"] ["part"] (jo Dy):=by walk_at "sc"
def U0{k}(T:Tx K h a)(F:jZ K "parts_of" "parts_of" Dy f o)
 (d:jD P w K h base k "inner_parts" ["part"]<|j4 1 K O)
 (i:jD P w K h base k "parts_of" ["part"]<|j4 1 K J):
   jL P w K h base (k+1) f o ["part"] (j4 1 K λu=>jM<|rD a O J<|jR 3 u):=
  nN F DM λx A n s H E t=>(kW (G8 1 DM.nd rfl (Or.inl rfl) (kl (iR (iO 0) i8)) (by rfl) (by first|exact .inl rfl|exact .inr rfl|assumption))
   (kW (G7 nS rfl (mu (l6 d t rfl jc rfl (iR (iO 0) i8))) (nq 2 DM.nd rfl (Or.inl rfl)) (lD (xS 1 (l6 i t rfl jc rfl (iR (iO 2) i8)))) (by intro _;rfl))
   (Hb 1 (lD (mw (iO 1))))))
def uQ:j8 ["condition","parts","back","on","masts","asked"] ["condition"] (jo Dj):=by walk_at "sc"
def UK(T:Tx K h a)(F:jZ K "asked_by" "asked_by" Dj f o)
 (d:jD P w K h base 9 "parts_of" ["part"]<|j4 1 K J):
   jL P w K h base 10 f o ["condition"] (j4 1 K λn=>jM<|yd a J<|jR 6 n):=
  nN F uQ λt A i s H E k=>(kW (nL 1 uQ.nd rfl (Or.inl rfl) (l6 d k rfl jc rfl (iR (iO 0) i8)))
   (kW (nL 2 uQ.nd rfl (Or.inl rfl) (DN.de (AZ rfl rfl T.ud rfl T.vB (DN.de (rB (Nt:=["part"]) (tn:=1) rfl (mu (iO 1)) (λ_ _ _ _=>(nq 0 (show List.Nodup (["part"]:List Str)from by decide+kernel) rfl (Or.inl rfl))) (by simp) (λ_ _ _ _=>AY (jW (tx k.units) (jb 0) (kQ (iR ju (iR ju i8))))) (λ_ _ _ _=>(jb 0)) (by decide+kernel) rfl (by decide+kernel) (by decide+kernel) rfl)) (by rfl) (by rfl) (by rfl) (by rfl))))
   (kW (nL 3 uQ.nd rfl (Or.inl rfl) (DN.de (AZ rfl rfl T.ud rfl T.vB (DN.de (rB (Nt:=["part"]) (tn:=1) rfl (mu (iO 1)) (λ_ _ _ _=>(nq 0 (show List.Nodup (["part"]:List Str)from by decide+kernel) rfl (Or.inl rfl))) (by simp) (λ_ _ _ _=>AY (jW (tx k.units) (jb 0) (kQ (iR ju (iR ju i8))))) (λ_ _ _ _=>(jb 0)) (by decide+kernel) rfl (by decide+kernel) (by decide+kernel) rfl)) (by rfl) (by rfl) (by rfl) (by rfl))))
   (kW (nL 4 uQ.nd rfl (Or.inl rfl) (DN.de (AZ rfl rfl T.ud rfl T.vB (DN.de (rB (Nt:=["part"]) (tn:=1) rfl (mu (iO 1)) (λ_ _ _ _=>(nq 0 (show List.Nodup (["part"]:List Str)from by decide+kernel) rfl (Or.inl rfl))) (by simp) (λ_ _ _ _=>AY (jW kH (jb 0) ju)) (λ_ _ _ _=>(jb 0)) (by decide+kernel) rfl (by decide+kernel) (by decide+kernel) rfl)) (by rfl) (by rfl) (by rfl) (by rfl))))
   (kW (G8 5 uQ.nd rfl (Or.inl rfl) (kl (iR (kQ (iR ju i8)) i8)) (by rfl) (by first|exact .inl rfl|exact .inr rfl|assumption))
   (kW (xS 5 (DN.de (rB (Nt:=["place"]) (tn:=1) rfl (mu (iO 2)) (λ_ _ _ _=>(nq 0 (show List.Nodup (["place"]:List Str)from by decide+kernel) rfl (Or.inl rfl))) (by simp) (λ_ _ _ _=>qQ) (λ_ _ _ _=>(kQ (iR ju (iR (iO 0) i8)))) (by decide+kernel) rfl (by decide+kernel) (by decide+kernel) rfl)))
   (kW (xS 5 (DN.de (rB (Nt:=["place"]) (tn:=1) rfl (mu (iO 3)) (λ_ _ _ _=>(nq 0 (show List.Nodup (["place"]:List Str)from by decide+kernel) rfl (Or.inl rfl))) (by simp) (λ_ _ _ _=>qQ) (λ_ _ _ _=>(kQ (iR ju (iR (iO 0) i8)))) (by decide+kernel) rfl (by decide+kernel) (by decide+kernel) rfl)))
   (kW (xS 5 (DN.de (rB (Nt:=["mast"]) (tn:=1) rfl (mu (iO 4)) (λ_ _ _ _=>(nq 0 (show List.Nodup (["mast"]:List Str)from by decide+kernel) rfl (Or.inl rfl))) (by simp) (λ_ _ _ _=>qQ) (λ_ _ _ _=>(kQ (iR ju (iR (iO 0) i8)))) (by decide+kernel) rfl (by decide+kernel) (by decide+kernel) rfl)))
   (Hb 5 (lD (mw (iO 5))))))))))))
def aaq:j8 ["first","second","found"] ["first","second","found"] (jo Dw):=by walk_at "sc"
def UY(T:Tx K h a)(F:jZ K "minutes_between" "minutes_between" Dw f o)
 (d:jD P w K h base 3 "fraction" ["top","bottom"]<|j4 2 K c):
   jL P w K h base 4 f o ["first","second","found"] (jI 3 K λn S=>i6<|yi a c S.length (jr 3 n) S):=
  mK F aaq λb t A i s H E k=>(jy<|j2<|qA d k rfl jc rfl<|iS (pj rR (sj lu (EI k.units (jv 2) (iT<|iO 1)<|by exact λ_ _=>rfl)<|iT iX)<|sj lu (EI k.units (jv 2) (iT<|iO 0)<|by exact λ_ _=>rfl)<|iT iX)<|iS (iT iX) jf)
def aav:j8 ["value"] ["value"] (jo DH):=by walk_at "sc"
def U6(T:Tx K h a)(F:jZ K "without_sign" "without_sign" DH f o)
 (d:jD P w K h base 3 "fraction" ["top","bottom"]<|j4 2 K c):
   jL P w K h base 4 f o ["value"] (j4 1 K λn=>jM<|ym a c<|jR 1 n):=
  nN F aav λt A i s H E k=>(lD<|mw<|l6 d k rfl jc rfl<|iR (nk xK rfl T.vz xJ<|iR (jb 0) i8)<|iR (jb 0) i8)
def DP:j8 ["term","found","kind","value"] ["term","found"] (jo DJ):=by walk_at "sc"
def U7{k}(T:Tx K h a)(F:jZ K "worth" "worth" DJ f o)
 (n:jD P w K h base k "fraction" ["top","bottom"]<|j4 2 K c)
 (D:jD P w K h base k "plus" ["one","other"]<|j4 2 K EV)
 (y:jD P w K h base k "minus" ["one","other"]<|j4 2 K EU)
 (x:jD P w K h base k "times" ["one","other"]<|j4 2 K EW)
 (t:jD P w K h base k "without_sign" ["value"]<|j4 1 K N)
 (d:jD P w K h base k "minutes_between" ["first","second","found"]<|jI 3 K z)
 (i:jD P w K h base k "worth" ["term","found"]<|jI 2 K X):
   jL P w K h base (k+1) f o ["term","found"] (jI 2 K λR S=>i6<|oi a c EV EU EW N z X S.length (jr 4 R) S):=
  mK F DP λb V A G s H E u=>(ja (jT 2 DP.nd rfl (Or.inl rfl) (iT (jb 0)))
   (ja (kj (kT (jW kH (iO 2) ju)) (jy (j2 (iT (l6 n u rfl jc rfl (iR (mJ lu (jb 0) iX) (iR (mJ lu (jb 0) iX) i8)))))) kn)
   (ja (kj (kT (jW kH (iO 2) ju)) (jy (j2 (jB d u rfl jc rfl (iS (iT (kQ (iR ju (iR (jb 0) i8)))) (iS (iT (kQ (iR ju i8))) (iS (jv 1) jf)))))) kn)
   (ja (kj (kT (jW kH (iO 2) ju)) (jy (j2 (jB d u rfl jc rfl (iS (iT (kQ (iR ju i8))) (iS (iT (kQ (iR ju (iR (jb 0) i8)))) (iS (jv 1) jf)))))) kn)
   (ja (kj (kT (jW kH (iO 2) ju)) (jy (j2 (qA D u rfl jc rfl (iS (jB i u rfl jc rfl (iS (iT (jb 0)) (iS (jv 1) jf))) (iS (jB i u rfl jc rfl (iS (iT (jb 0)) (iS (jv 1) jf))) jf))))) kn)
   (ja (kj (kT (jW kH (iO 2) ju)) (jy (j2 (qA y u rfl jc rfl (iS (jB i u rfl jc rfl (iS (iT (jb 0)) (iS (jv 1) jf))) (iS (jB i u rfl jc rfl (iS (iT (jb 0)) (iS (jv 1) jf))) jf))))) kn)
   (ja (kj (kT (jW kH (iO 2) ju)) (jy (j2 (qA x u rfl jc rfl (iS (iT (jb 0)) (iS (jB i u rfl jc rfl (iS (iT (jb 0)) (iS (jv 1) jf))) jf))))) kn)
   (ja (kj (kT (jW kH (iO 2) ju)) (jy (j2 (qA t u rfl jc rfl (iS (jB i u rfl jc rfl (iS (iT (jb 0)) (iS (jv 1) jf))) jf)))) kn)
   (ja (jT 3 DP.nd rfl (Or.inl rfl) (sj lu (EI u.units (jv 1) (iT (iO 0)) (by exact λ_ _=>rfl)) (iT iX)))
   (jy (j2 (iT (l6 n u rfl jc rfl (iR (jb 3) (iR (jb 3) i8)))))))))))))))
def KW:j8 ["condition","found","kind"] ["condition","found"] (jo Dp):=by walk_at "sc"
def UP{k}(T:Tx K h a)(F:jZ K "holds" "holds" Dp f o)
 (t:jD P w K h base k "under" ["one","other"]<|j4 2 K EX)
 (i:jD P w K h base k "worth" ["term","found"]<|jI 2 K X)
 (d:jD P w K h base k "holds" ["condition","found"]<|jI 2 K Y):
   jL P w K h base (k+1) f o ["condition","found"] (jI 2 K λx S=>i6<|vL a EX X Y S.length (jr 3 x) S):=
  mK F KW λb y A u s H E n=>(ja (jT 2 KW.nd rfl (Or.inl rfl) (iT (jb 0)))
   (ja (kj (kT (jW kH (iO 2) ju)) (jy (j2 (qA t n rfl jc rfl (iS (jB i n rfl jc rfl (iS (iT (jb 0)) (iS (jv 1) jf))) (iS (jB i n rfl jc rfl (iS (iT (jb 0)) (iS (jv 1) jf))) jf))))) kn)
   (ja (kj (kT (jW kH (iO 2) ju)) (jy (j2 (z6 (JG n.units) (jB i n rfl jc rfl (iS (iT (jb 0)) (iS (jv 1) jf))) (jB i n rfl jc rfl (iS (iT (jb 0)) (iS (jv 1) jf))) (by first|exact m5 _|with_unfolding_all rfl)))) kn)
   (ja (kj (kT (jW kH (iO 2) ju)) (jy (j2 (acN (jB d n rfl jc rfl (iS (iT (jb 0)) (iS (jv 1) jf)))))) kn)
   (ja (kj (kT (jW kH (iO 2) ju)) (jy (j2 (EH (jB d n rfl jc rfl (iS (iT (jb 0)) (iS (jv 1) jf))) (EK (jB d n rfl jc rfl (iS (iT (jb 0)) (iS (jv 1) jf))))))) kn)
   (jy (j2 (acO (jB d n rfl jc rfl (iS (iT (jb 0)) (iS (jv 1) jf))) (EK (jB d n rfl jc rfl (iS (iT (jb 0)) (iS (jv 1) jf))))))))))))
def aal:j8 ["seen"] ["seen"] (jo Dm):=by walk_at "sc"
def UN(T:Tx K h a)(F:jZ K "found_of" "found_of" Dm f o):
    jL P w K h base 1 f o ["seen"] (jI 1 K λn S=>i6<|ye a S.length (jr 1 n) S):=
 mK F aal λb t A d s H E k=>(jy<|j2<|L7 T.nt rfl k.units rfl T.Az rfl (acF (x:="ask") (y:="seen") 0 [(".0",.local),("ask",.local),("seen",.cell)] rfl (jv 0) (λ_ _ _ _=>(y6 (i:=0) (show List.Nodup (["ask","seen"]:List Str)from by decide+kernel) rfl (Or.inl rfl)<|by first|exact .inl rfl|exact .inr rfl|assumption)) (λ_ _ _ _=>Mc) (λ_ _ _ _=>(nF<|iS (iT<|iO 0)<|iS (nF<|iS (sj lu (L6 k.units (jv 1) (iT<|iO 0)<|by exact λ_ _=>rfl)<|iT iX)<|iS (sj lu (L6 k.units (jv 1) (iT<|iO 0)<|by exact λ_ _=>rfl)<|iT iX) jf) jf)) rfl (by decide+kernel) (by decide+kernel) rfl rfl rfl rfl rfl (by decide+kernel) (by decide+kernel)<|by intro _;rfl) (by rfl)<|by rfl)
def KY:j8 ["seen","keys"] ["seen"] (jo Du):=by walk_at "sc"
def UU(T:Tx K h a)(F:jZ K "keys_of" "keys_of" Du f o):
    jL P w K h base 1 f o ["seen"] (jI 1 K λk S=>i6<|yh a S.length (jr 2 k) S):=
 mK F KY λb t A d s H E n=>(ja (jT 1 KY.nd rfl (Or.inl rfl) (acP n.units rfl rfl T.ud rfl T.vB (acL (acG (x:="reading") rfl (jv 0) (λ_ _ _ _=>(y6 (i:=0) (show List.Nodup (["reading"]:List Str)from by decide+kernel) rfl (Or.inl rfl) (by first|exact .inl rfl|exact .inr rfl|assumption))) (λ_ _ _ _=>Mc) (λ_ _ _ _=>(iT (kQ (iR (jb 0) (iR (jb 0) i8))))) (by decide+kernel) rfl (by decide+kernel) (by decide+kernel) (by rfl) (by rfl) (by intro _;rfl))) (by rfl) (by rfl) (by rfl) (by rfl)))
  (jy (j2 (iT (DN.de (rB (Nt:=["key"]) (tn:=1) rfl (mu (iO 1)) (λ_ _ _ _=>(nq 0 (show List.Nodup (["key"]:List Str)from by decide+kernel) rfl (Or.inl rfl))) (by simp) (λ_ _ _ _=>qQ) (λ_ _ _ _=>(kQ (iR (jb 0) (iR (jb 0) i8)))) (by decide+kernel) rfl (by decide+kernel) (by decide+kernel) rfl))))))
def qy:j8 ["row","rules","told","stands","rule","sight","asked","left","reading","seen"] ["row","rules"] (jo Ds):=by walk_at "sc"
def US(T:Tx K h a)(F:jZ K "judged" "judged" Ds f o)
 (k:jD P w K h base 20 "fraction" ["top","bottom"]<|j4 2 K c)
 (t:jD P w K h base 20 "asked_by" ["condition"]<|j4 1 K ET)
 (n:jD P w K h base 20 "found_of" ["seen"]<|jI 1 K FP)
 (x:jD P w K h base 20 "holds" ["condition","found"]<|jI 2 K Y)
 (u:jD P w K h base 20 "keys_of" ["seen"]<|jI 1 K FR)
 (i:qg P w K h base 19 a.Sight ["self","row"]<|jI 2 K M)
 (d:pA P w K h base 20 a.Sight "seen_from" BR []<|jI 3 K B):
   jL P w K h base 21 f o ["row","rules"] (jI 2 K λG S=>i6<|yf a c ET M B FP Y FR S.length (jr 10 G) S):=
  mK F qy λb R A D s H E y=>(ja (jT 2 qy.nd rfl (Or.inl rfl) (sk (kl i8)))
   (ja (EL 3 qy.nd rfl (Or.inl rfl) (A0 (Nt:=["reading"]) (tn:=1) rfl (mu (iO 0)) (λ_ _ _ _=>(nq 0 (show List.Nodup (["reading"]:List Str)from by decide+kernel) rfl (Or.inl rfl))) (by simp) (λ_ _ _ _=>qQ) (λ_ _ _ _=>(kQ (iR (jb 0) (iR (jb 0) (iR (l6 k y rfl CT rfl (iR (mJ lu (jb 0) iX) (iR (mJ lu (jb 0) iX) i8))) i8))))) (by decide+kernel) rfl (by decide+kernel) (by decide+kernel) rfl (by intro _;rfl)) (by rfl) (by first|exact .inl rfl|exact .inr rfl|assumption))
   (ja (qC nS rfl (mu (iO 1)) (qB 4 qy.nd rfl (Or.inl rfl)) (ja (jT 5 qy.nd rfl (Or.inl rfl) (acM i y rfl T.Gz jc (iS (iT (iO 3)) jf) rfl (by exact⟨by decide,rfl,rfl⟩)))
   (ja (jT 6 qy.nd rfl (Or.inl rfl) (iT (l6 t y rfl jc rfl (iR (jb 4) i8))))
   (ja (jT 7 qy.nd rfl (Or.inl rfl) (sk (kl i8)))
   (ja (qC nS rfl (mu (iO 3)) (qB 8 qy.nd rfl (Or.inl rfl)) (ja (jT 9 qy.nd rfl (Or.inl rfl) (Mb d T.qS y jc (jv 5) (iS (iT (iO 8)) (iS (iT (iO 6)) jf)) rfl))
   (jy (kj (ZW.zt (acZ (acX (jv 9) (by first|exact m5 _|with_unfolding_all rfl)) (ac0 (acY (jB x y rfl jc rfl (iS (iT (jb 4)) (iS (jB n y rfl jc rfl (iS (jv 9) jf)) jf))) (by intro _;rfl))))) (jy (vb 2 bX bW cc (nF (iS (iT (jb 8)) (iS (iT (jb 8)) (iS (iT (jb 4)) (iS (jB u y rfl jc rfl (iS (jv 9) jf)) jf))))))) (jy (vb 7 bX bW cc (iT (iO 8))))))))
   (jy (z8 7 (jT 3 qy.nd rfl (Or.inl rfl) (iT (iO 7))))))))))
   (jy (z8 2 (j2 (iT (kQ (iR (iO 2) (iR (iO 3) i8))))))))))
def aas:j8 ["row","rules"] ["row","rules"] (jo DB):=by walk_at "sc"
def U3(T:Tx K h a)(F:jZ K "standing" "standing" DB f o)
 (d:jD P w K h base 21 "judged" ["row","rules"]<|jI 2 K FQ):
   jL P w K h base 22 f o ["row","rules"] (jI 2 K λk S=>i6<|yk a FQ S.length (jr 2 k) S):=
  mK F aas λb t A i s H E n=>(jy<|j2<|sj lu (jB d n rfl jc rfl<|iS (iT<|iO 0)<|iS (iT<|iO 1) jf)<|iT iX)
def aao:j8 ["row"] ["row"] (jo Dt):=by walk_at "sc"
def yg(a:Ad)(b:Nat):jC:=(jG<|wN<|mE<|kM (λρ=>((dV 0) ρ).bind ke) 1 [] (gV 0) (λ_=>.ok true)<|dA jz<|aa (dA jz<|aa (iY 0 0)<|aa (iY 0 1) iU)<|aa (dC<|.bl true) iU)
def UT(T:Tx K h a)(F:jZ K "keys_in" "keys_in" Dt f o):
    jL P w K h base 1 f o ["row"] (jI 1 K λi S=>i6<|yg a S.length (jr 1 i) S):=
 mK F aao λb n A d s H E k=>(jy<|j2<|L7 T.nt rfl k.units rfl T.Az rfl (sk<|rB (Nt:=["reading"]) (tn:=1) rfl (mu<|iO 0) (λ_ _ _ _=>(nq 0 (show List.Nodup (["reading"]:List Str)from by decide+kernel) rfl<|Or.inl rfl)) (by simp) (λ_ _ _ _=>qQ) (λ_ _ _ _=>(kQ<|iR (kQ<|iR (jb 0)<|iR (jb 0) i8)<|iR AS i8)) (by decide+kernel) rfl (by decide+kernel) (by decide+kernel) rfl) (by rfl)<|by rfl)
def wu:j8 ["row","rules","others","ones","twos","reading","key"] ["row","rules","others"] (jo Dx):=by walk_at "sc"
def sM(a:Ad)(e q:ji):jC:=(iV (jd 6 (zD (dA jz (aa (iY 5 0) (aa (iY 5 1) iU)))))
    (jE (ph tB (z2 oV (wQ (tN (zD (dV 6))) (zV 3)) (wQ (tN (zD (dV 6))) (zV 4)))) (jG (zD (dV 6))) j5))
def yj(a:Ad)(e q:ji)(b:Nat):jC:=(iV (jd 3 (zZ q (iM (zZ e (iM (zD (dV 0)) (iM (zD (dV 1)) i4))) i4)))
    (iV (jd 4 (zZ q (iM (zZ e (iM (zD (dV 0)) (iM (zD (dV 2)) i4))) i4)))
    (iV (lX (λρ=>((dV 0) ρ).bind ke) (hV 5) (sM a e q))
    (jG (zD (dC .non))))))
def UZ(T:Tx K h a)(F:jZ K "parted" "parted" Dx f o)
 (d:jD P w K h base 22 "standing" ["row","rules"]<|jI 2 K e)
 (i:jD P w K h base 22 "keys_in" ["row"]<|jI 1 K q):
   jL P w K h base 23 f o ["row","rules","others"] (jI 3 K λt S=>i6<|yj a e q S.length (jr 7 t) S):=
  mK F wu λb u A n s H E k=>(ja (jT 3 wu.nd rfl (Or.inl rfl) (jB i k rfl jc rfl (iS (jB d k rfl jc rfl (iS (iT (iO 0)) (iS (iT (iO 1)) jf))) jf)))
   (ja (jT 4 wu.nd rfl (Or.inl rfl) (jB i k rfl jc rfl (iS (jB d k rfl jc rfl (iS (iT (iO 0)) (iS (iT (iO 2)) jf))) jf)))
   (ja (qC nS rfl (mu (iO 0)) (qB 5 wu.nd rfl (Or.inl rfl)) (ja (jT 6 wu.nd rfl (Or.inl rfl) (iT (kQ (iR (jb 5) (iR (jb 5) i8)))))
   (jy (kj (EM Cm (L8 k.units (EJ T.nt (iT (iO 6))) (jv 3) (by first|exact m5 _|with_unfolding_all rfl)) (L8 k.units (EJ T.nt (iT (iO 6))) (jv 4) (by first|exact m5 _|with_unfolding_all rfl)) (by first|exact m5 _|with_unfolding_all rfl)) (jy (j2 (iT (iO 6)))) kn))))
   (jy (j2 (iT qp))))))
def aaw:j8 uA uA (jo D1):=by walk_at "sc"
def U8(T:Tx K h a)(F:jZ K "_law_cell_at" "_law_cell_at" D1 f o):
    jL P w K h base 1 f o uA (j4 2 K λi=>jM<|yo a<|jR 2 i):=
 nN F aaw λk A d s H E n=>(kW (sW (jW uG (iO 1) (nk sT rfl T.rq sS (iR (iO 0) i8))) (lD (mw (mJ lu (iO 0) (iO 1)))) sX)
  (lD (mw iX)))
def DX:j8 ["_law_top","_law_bottom","_law_one","_law_other"] uB (jo D4):=by walk_at "sc"
def Vb(T:Tx K h a)(F:jZ K "_law_low" "_law_low" D4 f o):
    jL P w K h base 1 f o uB (j4 2 K λi=>jM<|yr a<|jR 4 i):=
 nN F DX λk A d s H E n=>(kW (G9 2 3 rfl DX.nd rfl rfl (by decide) rfl rfl (iR (nk xK rfl T.vz xJ (iR (iO 0) i8)) (iR (iO 1) i8)) (by rfl) (by rfl))
  (kW (Ha sQ nS (jW Cg (iO 3) iX) (lD (G9 2 3 rfl DX.nd rfl rfl (by decide) rfl rfl (iR (iO 3) (iR (jt lT (iO 2) (iO 3)) i8)) (by rfl) (by rfl))))
  (lD (mw (kQ (iR (jt mU (iO 0) (iO 2)) (iR (jt mU (iO 1) (iO 2)) i8)))))))
def tH:j8 ["_law_cell","_law_k","_law_letters","_law_stride","_law_pair","_law_more","_law_j"] ["_law_cell","_law_k"] (jo Eb):=by walk_at "sc"
def Vi(T:Tx K h a)(F:jZ K "_law_word" "_law_word" Eb f o):
    jL P w K h base 1 f o ["_law_cell","_law_k"] (j4 2 K λi=>jM<|vR a<|jR 7 i):=
 nN F tH λk A d s H E n=>(kW (nL 2 tH.nd rfl (Or.inl rfl) ju)
  (kW (nL 3 tH.nd rfl (Or.inl rfl) (mJ lu (DN.de (kl (iR iX (iR iX (iR iX (iR iX (iR iX (iR iX (iR iX (iR iX (iR iX (iR iX (iR iX (iR iX i8)))))))))))))) (jt lT (jt mU (iO 0) iX) iX)))
  (kW (nL 4 tH.nd rfl (Or.inl rfl) (jt ma (mJ lu (iO 2) (jt lT (jt ma (iO 0) (jt nB (iO 1) (iO 3))) iX)) (mJ lu ju (jt lT (jt mU (iO 1) iX) iX))))
  (kW (nL 5 tH.nd rfl (Or.inl rfl) ju)
  (kW (G7 nS rfl (xQ rfl T.vA (iR (jt lT (jt mU (iO 0) iX) iX) i8) (by rfl)) (nq 6 tH.nd rfl (Or.inl rfl)) (lD (nL 5 tH.nd rfl (Or.inl rfl) (jt ma (iO 5) (mJ lu ju (jt lT (jt mU (iO 0) (jt ma iX (iO 6))) iX))))) (by intro _;rfl))
  (kW (sW (jW kH (jt lT (jt mU (iO 0) iX) iX) iX) (lD (mw (jt ma (iO 5) (iO 4)))) sX)
  (lD (mw (jt ma (iO 4) (iO 5))))))))))
def KZ:j8 ["_law_stream","_law_many","_law_found"] rN (jo D5):=by walk_at "sc"
def Vc(T:Tx K h a)(F:jZ K "_law_pick" "_law_pick" D5 f o):
    jL P w K h base 1 f o rN (jI 2 K λi S=>i6<|yt a S.length (jr 3 i) S):=
 mK F KZ λb k A d s H E n=>(ja (kj (EN (jW kH (jb 0) iX)) (ja (jT 2 KZ.nd rfl (Or.inl rfl) (u9 (jt lT (jb 0) (iO 1))))
  (ja (Mh 0 iX (u9 (jt mU (jb 0) (iO 1))) (by rfl) (by first|exact Or.inl rfl|exact Or.inr (Or.inl rfl)|exact Or.inr (Or.inr rfl)) (by decide) (by decide) (by intro _;rfl) (by rfl) (by rfl) (by rfl))
  (jy (j2 (iT (iO 2)))))) kn)
  (ja (Mh 0 iX (u9 (jt lT (jt ma (jt nB (jt lT (jb 0) iX) iX) iX) iX)) (by rfl) (by first|exact Or.inl rfl|exact Or.inr (Or.inl rfl)|exact Or.inr (Or.inr rfl)) (by decide) (by decide) (by intro _;rfl) (by rfl) (by rfl) (by rfl))
  (jy (j2 (u9 (jt lT (jt mU (jt lT (jt nB (jb 0) iX) iX) iX) (iO 1)))))))
def K0:j8 ["_law_stream","_law_way"] ["_law_stream"] (jo Ea):=by walk_at "sc"
def Vh(T:Tx K h a)(F:jZ K "_law_value" "_law_value" Ea f o)
 (i:jD P w K h base 1 "_law_low" uB<|j4 2 K I)
 (d:jD P w K h base 1 "_law_pick" rN<|jI 2 K l):
   jL P w K h base 2 f o ["_law_stream"] (jI 1 K λt S=>i6<|yy a I l S.length (jr 2 t) S):=
  mK F K0 λb u A n s H E k=>(ja (jT 1 K0.nd rfl (Or.inl rfl) (jB d k rfl jc rfl (iS (jv 0) (iS (iT iX) jf))))
   (ja (kj (kT (jW kH (iO 1) iX)) (jy (j2 (nF (iS (pj nB (jB d k rfl jc rfl (iS (jv 0) (iS (iT (jt Cn iX iX)) jf))) (pj rR (iT iX) (pj nB (iT iX) (jB d k rfl jc rfl (iS (jv 0) (iS (iT iX) jf)))))) (iS (iT iX) jf))))) kn)
   (ja (kj (kT (jW kH (iO 1) iX)) (jy (j2 (qA i k rfl jc rfl (iS (pj rR (jB d k rfl jc rfl (iS (jv 0) (iS (iT iX) jf))) (iT iX)) (iS (iT iX) jf))))) kn)
   (jy (j2 (nF (iS (jB d k rfl jc rfl (iS (jv 0) (iS (iT iX) jf))) (iS (iT iX) jf))))))))
def oY:j8 ["_law_script","_law_first","_law_most","_law_words","_law_row_here","_law_time","_law_cell","_law_stream","_law_who","_law_k","_law_here","_law_word_here"] BS (jo D6):=by walk_at "sc"
def Vd(T:Tx K h a)(F:jZ K "_law_row" "_law_row" D6 f o)
 (i:jD P w K h base 2 "_law_cell_at" uA<|j4 2 K j)
 (d:jD P w K h base 2 "_law_pick" rN<|jI 2 K l)
 (k:jD P w K h base 2 "_law_value" ["_law_stream"]<|jI 1 K FW):
   jL P w K h base 3 f o BS (jI 4 K λu S=>i6<|yu a j l FW S.length (jr 12 u) S):=
  mK F oY λb y A t s H E n=>(ja (jT 4 oY.nd rfl (Or.inl rfl) (sk (kl i8)))
   (ja (jT 5 oY.nd rfl (Or.inl rfl) (iT (jt lT (l6 i n rfl jc rfl (iR (iO 0) (iR iX i8))) (jt rR (jt Cn iX iX) (jt Cn iX iX)))))
   (ja (qC nS rfl (mu (AW D0 (iO 0) (xR (iO 1)) (xR (jt ma (iO 1) iX)))) (qB 6 oY.nd rfl (Or.inl rfl)) (ja (kj (EN (jW Cg (nk sT rfl T.rq sS (iR (iO 4) i8)) (iO 2))) (jy acW) kn)
   (ja (jT 7 oY.nd rfl (Or.inl rfl) (sk (kl (iR (iO 6) (iR (jt lT (jt mU (l6 i n rfl jc rfl (iR (iO 0) (iR iX i8))) iX) iX) i8)))))
   (ja (jT 5 oY.nd rfl (Or.inl rfl) (pj ma (iT (jt ma (iO 5) iX)) (jB d n rfl jc rfl (iS (jv 7) (iS (iT iX) jf)))))
   (ja (kj (EM kH (jB d n rfl jc rfl (iS (jv 7) (iS (iT iX) jf))) (iT iX) (by first|exact m5 _|with_unfolding_all rfl)) (jy (jT 5 oY.nd rfl (Or.inl rfl) (pj ma (iT (iO 5)) (jB d n rfl jc rfl (iS (jv 7) (iS (iT iX) jf)))))) kn)
   (ja (jT 8 oY.nd rfl (Or.inl rfl) (jB d n rfl jc rfl (iS (jv 7) (iS (iT iX) jf))))
   (ja (kj (EN (DW.dt (xU (jW kH (iO 8) iX) (xV (jW uG (nk sT rfl T.rq sS (iR (iO 4) i8)) iX))))) (jy (qC nS rfl (xQ rfl T.vA (iR iX i8) (by rfl)) (qB 9 oY.nd rfl (Or.inl rfl)) (ja (vb 4 bX bW cc (nF (iS (iT (mJ lu (iO 3) (jt lT (iO 6) iX))) (iS (iT (iO 5)) (iS (jB k n rfl jc rfl (iS (jv 7) jf)) jf)))))
   (jy (jT 5 oY.nd rfl (Or.inl rfl) (iT (jt ma (iO 5) iX))))))) kn)
   (ja (jT 10 oY.nd rfl (Or.inl rfl) (iT (mJ lu (DN.de (kl (iR (DN.de (kl (iR iX i8))) (iR (DN.de (kl (iR iX i8))) (iR (DN.de (kl (iR iX i8))) (iR (DN.de (kl (iR iX i8))) (iR (DN.de (kl (iR iX (iR iX i8)))) (iR (DN.de (kl (iR iX (iR iX (iR iX i8))))) (iR (DN.de (kl (iR iX i8))) (iR (DN.de (kl (iR iX (iR iX i8)))) (iR (DN.de (kl (iR iX (iR iX i8)))) (iR (DN.de (kl (iR iX i8))) (iR (DN.de (kl (iR iX i8))) (iR (DN.de (kl (iR iX (iR iX i8)))) i8)))))))))))))) (iO 8))))
   (jy (qC nS rfl (mu (DN.de (OR rfl T.ud (DN.de (OQ (Nt:=["_law_k"]) (tn:=1) (x:="_law_words") 3 [(".0",.local),("_law_k",.local),("_law_words",.cell)] rfl (mu (iO 10)) (λ_ _ _ _=>(nq 0 (show List.Nodup (["_law_k","_law_words"]:List Str)from by decide+kernel) rfl (Or.inl rfl))) (by simp) (λ_ _ _ _=>qQ) (λ_ _ _ _=>(mJ lu (iO 1) (iO 0))) rfl (by decide+kernel) (by decide+kernel) rfl rfl rfl rfl rfl rfl (by decide+kernel) (by decide+kernel) (by intro _;rfl))) (by rfl) (by rfl)))) (qB 11 oY.nd rfl (Or.inl rfl)) (jy (vb 4 bX bW cc (nF (iS (iT (iO 11)) (iS (iT (iO 5)) (iS (jB k n rfl jc rfl (iS (jv 7) jf)) jf))))))))))))))))
   (jy (z8 4 (j2 (iT (iO 4))))))))
def zu:j8 ["_law_stream","_law_words","_law_way","_law_far"] oT (jo D9):=by walk_at "sc"
def Vg(T:Tx K h a)(F:jZ K "_law_term" "_law_term" D9 f o)
 (k:jD P w K h base 1 "_law_low" uB<|j4 2 K I)
 (d:jD P w K h base 1 "_law_pick" rN<|jI 2 K l):
   jL P w K h base 2 f o oT (jI 2 K λt S=>i6<|yx a I l S.length (jr 4 t) S):=
  mK F zu λb u A n s H E i=>(ja (jT 2 zu.nd rfl (Or.inl rfl) (jB d i rfl jc rfl (iS (jv 0) (iS (iT iX) jf))))
   (ja (kj (kT (jW kH (iO 2) iX)) (jy (j2 (nF (iS (iT ju) (iS (qA k i rfl jc rfl (iS (jB d i rfl jc rfl (iS (jv 0) (iS (iT iX) jf))) (iS (pj ma (iT iX) (jB d i rfl jc rfl (iS (jv 0) (iS (iT iX) jf)))) jf))) jf))))) kn)
   (ja (kj (kT (DW.dt (xU (jW kH (iO 2) iX) (xV (jW (Cj i.units) (iO 1) (DN.de (kl i8))))))) (jy (j2 (nF (iS (iT ju) (iS (sj lu (iT (iO 1)) (jB d i rfl jc rfl (iS (jv 0) (iS (iT (nk sT rfl T.rq sS (iR (iO 1) i8))) jf)))) jf))))) kn)
   (ja (kj (kT (jW (tx i.units) (iO 2) (DN.de (kl (iR iX (iR iX (iR iX (iR iX i8)))))))) (jy (j2 (iT (kQ (iR ju i8))))) kn)
   (ja (jT 3 zu.nd rfl (Or.inl rfl) (pj ma (iT iX) (jB d i rfl jc rfl (iS (jv 0) (iS (iT iX) jf)))))
   (ja (kj (kT (jW kH (iO 3) iX)) (jy (jT 3 zu.nd rfl (Or.inl rfl) (pj ma (iT iX) (jB d i rfl jc rfl (iS (jv 0) (iS (iT iX) jf)))))) kn)
   (jy (j2 (iT (kQ (iR (mJ lu (DN.de (kl (iR ju (iR ju (iR ju (iR ju (iR ju i8))))))) (jt rR (iO 2) iX)) (iR (iO 3) i8))))))))))))
def zr:j8 ["_law_stream","_law_words","_law_way","_law_one","_law_other"] oT (jo D8):=by walk_at "sc"
def Vf(T:Tx K h a)(F:jZ K "_law_sum" "_law_sum" D8 f o)
 (k:jD P w K h base 2 "_law_low" uB<|j4 2 K I)
 (d:jD P w K h base 2 "_law_pick" rN<|jI 2 K l)
 (i:jD P w K h base 2 "_law_term" oT<|jI 2 K FV):
   jL P w K h base 3 f o oT (jI 2 K λu S=>i6<|yw a I l FV S.length (jr 5 u) S):=
  mK F zr λb x A t s H E n=>(ja (jT 2 zr.nd rfl (Or.inl rfl) (jB d n rfl jc rfl (iS (jv 0) (iS (iT iX) jf))))
   (ja (jT 3 zr.nd rfl (Or.inl rfl) (jB i n rfl jc rfl (iS (jv 0) (iS (iT (iO 1)) jf))))
   (ja (kj (kT (jW kH (iO 2) iX)) (jy (j2 (nF (iS (iT ju) (iS (qA k n rfl jc rfl (iS (jB d n rfl jc rfl (iS (jv 0) (iS (iT iX) jf))) (iS (pj ma (iT iX) (jB d n rfl jc rfl (iS (jv 0) (iS (iT iX) jf)))) jf))) (iS (iT (iO 3)) jf)))))) kn)
   (ja (kj (kT (jW Cg (iO 2) iX)) (jy (j2 (iT (iO 3)))) kn)
   (ja (jT 4 zr.nd rfl (Or.inl rfl) (jB i n rfl jc rfl (iS (jv 0) (iS (iT (iO 1)) jf))))
   (ja (kj (kT (jW kH (iO 2) iX)) (jy (j2 (iT (kQ (iR ju (iR (kQ (iR ju (iR (iO 3) (iR (iO 4) i8)))) i8)))))) kn)
   (jy (j2 (iT (kQ (iR (mJ lu (DN.de (kl (iR ju (iR ju i8)))) (jt rR (iO 2) iX)) (iR (iO 3) (iR (iO 4) i8)))))))))))))
def DU:j8 ["_law_stream","_law_words","_law_sign","_law_one"] oT (jo D2):=by walk_at "sc"
def U9(T:Tx K h a)(F:jZ K "_law_compare" "_law_compare" D2 f o)
 (k:jD P w K h base 3 "_law_low" uB<|j4 2 K I)
 (d:jD P w K h base 3 "_law_pick" rN<|jI 2 K l)
 (i:jD P w K h base 3 "_law_sum" oT<|jI 2 K FU):
   jL P w K h base 4 f o oT (jI 2 K λu S=>i6<|yp a I l FU S.length (jr 4 u) S):=
  mK F DU λb x A t s H E n=>(ja (jT 2 DU.nd rfl (Or.inl rfl) (sj lu (iT (DN.de (kl (iR ju (iR ju (iR ju i8)))))) (jB d n rfl jc rfl (iS (jv 0) (iS (iT iX) jf)))))
   (ja (jT 3 DU.nd rfl (Or.inl rfl) (jB i n rfl jc rfl (iS (jv 0) (iS (iT (iO 1)) jf))))
   (ja (kj (EM kH (jB d n rfl jc rfl (iS (jv 0) (iS (iT iX) jf))) (iT iX) (by first|exact m5 _|with_unfolding_all rfl)) (jy (j2 (nF (iS (iT (iO 2)) (iS (iT (iO 3)) (iS (nF (iS (iT ju) (iS (qA k n rfl jc rfl (iS (jB d n rfl jc rfl (iS (jv 0) (iS (iT iX) jf))) (iS (pj ma (iT iX) (jB d n rfl jc rfl (iS (jv 0) (iS (iT iX) jf)))) jf))) jf))) jf)))))) kn)
   (jy (j2 (nF (iS (iT (iO 2)) (iS (iT (iO 3)) (iS (jB i n rfl jc rfl (iS (jv 0) (iS (iT (iO 1)) jf))) jf)))))))))
def DV:j8 ["_law_stream","_law_words","_law_way","_law_one"] oT (jo D3):=by walk_at "sc"
def Va(T:Tx K h a)(F:jZ K "_law_condition" "_law_condition" D3 f o)
 (i:jD P w K h base 4 "_law_pick" rN<|jI 2 K l)
 (d:jD P w K h base 4 "_law_compare" oT<|jI 2 K FT):
   jL P w K h base 5 f o oT (jI 2 K λt S=>i6<|yq a l FT S.length (jr 4 t) S):=
  mK F DV λb u A k s H E n=>(ja (jT 2 DV.nd rfl (Or.inl rfl) (jB i n rfl jc rfl (iS (jv 0) (iS (iT iX) jf))))
   (ja (jT 3 DV.nd rfl (Or.inl rfl) (jB d n rfl jc rfl (iS (jv 0) (iS (iT (iO 1)) jf))))
   (ja (kj (kT (jW uG (iO 2) iX)) (jy (j2 (iT (iO 3)))) kn)
   (ja (kj (kT (jW kH (iO 2) iX)) (jy (j2 (iT (kQ (iR ju (iR (iO 3) i8)))))) kn)
   (jy (j2 (nF (iS (iT (mJ lu (DN.de (kl (iR ju (iR ju i8)))) (jt rR (iO 2) iX))) (iS (iT (iO 3)) (iS (jB d n rfl jc rfl (iS (jv 0) (iS (iT (iO 1)) jf))) jf))))))))))
def wx:j8 ["_law_script","_law_first","_law_many","_law_words","_law_names","_law_rules_here","_law_k","_law_stream"] BU (jo D7):=by walk_at "sc"
def Ve(T:Tx K h a)(F:jZ K "_law_rules" "_law_rules" D7 f o)
 (d:jD P w K h base 5 "_law_cell_at" uA<|j4 2 K j)
 (i:jD P w K h base 5 "_law_condition" oT<|jI 2 K U):
   jL P w K h base 6 f o BU (jI 4 K λt S=>i6<|yv a j U S.length (jr 8 t) S):=
  mK F wx λb u A k s H E n=>(ja (jT 4 wx.nd rfl (Or.inl rfl) (iT (DN.de (kl (iR ju (iR ju (iR ju (iR ju (iR ju (iR ju (iR ju (iR ju (iR ju (iR ju (iR ju (iR ju i8))))))))))))))))
   (ja (jT 5 wx.nd rfl (Or.inl rfl) (sk (kl i8)))
   (ja (qC nS rfl (xQ rfl T.vA (iR (iO 2) i8) (by rfl)) (qB 6 wx.nd rfl (Or.inl rfl)) (ja (jT 7 wx.nd rfl (Or.inl rfl) (sk (kl (iR (l6 d n rfl jc rfl (iR (iO 0) (iR (jt ma (iO 1) (iO 6)) i8))) (iR (jt lT (jt mU (l6 d n rfl jc rfl (iR (iO 0) (iR iX i8))) iX) iX) i8)))))
   (jy (vb 5 bX bW cc (nF (iS (iT (mJ lu (iO 4) (iO 6))) (iS (jB i n rfl jc rfl (iS (jv 7) (iS (iT (iO 3)) jf))) jf)))))))
   (jy (z8 5 (j2 (iT (iO 5))))))))
def ng:j8 ["_law_script","_law_words","_law_row_here","_law_way","_law_rules_here","_law_others","_law_at","_law_handed","_law_found","_law_one","_law_other","_law_due","_law_reading"] ["_law_script"] (jo tG):=by walk_at "sc"
def vt(a:Ad)(j L:je)(Q r p e:ji):jC:=(jE (zB<|b1 tB<|d2 oV (d2 mz (dV 12)<|dV 9)<|d2 mz (dV 12)<|dV 10) (jd 11<|zD<|dA jz<|aa (iY 12 0)<|aa (iY 12 1) iU) j5)
def Bh(a:Ad)(j L:je)(Q r p e:ji)(b:Nat):jC:=(iV (jd 1 (zD (jw (kM (λρ=>((aa (iP 3) iU) ρ).bind qx) 1 [0] (gV 0) (λ_=>.ok true) (dA L (aa (dA j (aa (dV 1) (aa (iP 0) iU))) (aa (dV 0) iU)))))))
    (iV (jd 2 (zZ Q (iM (zD (dV 0)) (iM (zD (iP 10)) (iM (zD (iP 100)) (iM (zD (dV 1)) i4))))))
    (iV (jd 3 (zD (dA j (aa (dV 0) (aa (iP 3) iU)))))
    (iV (jd 4 (zZ r (iM (zD (dV 0)) (iM (zD (iP 4)) (iM (zD (d2 jH (dV 3) (iP 4))) (iM (zD (dV 1)) i4))))))
    (iV (jd 5 (zZ r (iM (zD (dV 0)) (iM (zD (iP 7)) (iM (zD (d2 jH (d2 j7 (dV 3) (iP 4)) (iP 4))) (iM (zD (dV 1)) i4))))))
    (iV (jE (zB (b1 tB (d2 jJ (d2 jH (d2 j7 (dV 3) (iP 16)) (iP 3)) (iP 1)))) (iV (jd 6 (zD (d2 jH (d2 j7 (dV 3) (iP 48)) (dA uD (aa (iP 1) (aa (dA lE (aa (dV 4) iU)) iU))))))
    (jd 5 (zD (d2 sU (qP pT (dV 4) (λ_=>.ok none) (λρ=>((dV 6) ρ).bind pI)) (qP pT (dV 4) (λρ=>((d2 j0 (dV 6) (iP 1)) ρ).bind pI) (λ_=>.ok none)))))) j5)
    (iV (jE (zB (b1 tB (d2 jJ (d2 jH (d2 j7 (dV 3) (iP 16)) (iP 3)) (iP 2)))) (jd 5 (zD (jw (kM (λρ=>((dV 4) ρ).bind ke) 2 [] (gT 2 (gC (gV 0) (gC (gV 1) gN))) (λ_=>.ok true) (dA jz (aa (d2 j0 (jg "q") (dV 0)) (aa (dV 1) iU))))))) j5)
    (iV (jd 7 (zD (jw (λρ=>((aa (dA vZ (aa (dV 2) iU)) (aa (dA vZ (aa (dV 4) iU)) (aa (dA vZ (aa (dV 5) iU)) iU))) ρ).bind jF))))
    (iV (jd 8 (zZ p (iM (zD (iY 7 0)) (iM (zD (iY 7 1)) (iM (zD (iY 7 2)) i4)))))
    (iV (jE (zB (b1 tB (d2 mL (dV 7) (jw (λρ=>((aa (dV 2) (aa (dV 4) (aa (dV 5) iU))) ρ).bind jF))))) (jG (zD (dC (.bl false)))) j5)
    (iV (jd 9 (zZ e (iM (zD (dV 2)) (iM (zD (dV 4)) i4))))
    (iV (jd 10 (zZ e (iM (zD (dV 2)) (iM (zD (dV 5)) i4))))
    (iV (jd 11 (zD (dC .non)))
    (iV (lX (λρ=>((dV 2) ρ).bind C8) (hV 12) (vt a j L Q r p e))
    (iV (jE (zB (pD (n8 (b1 tB (d2 nP (dV 11) (dC .non))) (b1 tB (d2 oj (dV 8) (dC .non)))) (n8 (b1 tB (d2 oj (dV 11) (dC .non))) (pD (qO (b1 tT (dA (mT a.om) (aa (dV 8) (aa (dC (.ty "tuple")) iU))))) (b1 tB (d2 mL (dV 8) (dV 11))))))) (jG (zD (dC (.bl false)))) j5)
    (jG (pY (z2 qq (zZ p (iM (zD (dV 2)) (iM (zD (dV 5)) (iM (zD (dV 4)) i4)))) (zD (dV 11))) (pY (z2 nP (zZ p (iM (zD (dV 2)) (iM (zD (dV 4)) (iM (zD (dV 4)) i4)))) (zD (dC .non))) (z2 nP (zZ p (iM (zD (jw (λρ=>(iU ρ).bind jF))) (iM (zD (dV 4)) (iM (zD (dV 5)) i4)))) (zD (dC .non)))))))))))))))))))))
def UW(T:Tx K h a)(F:jZ K "law" "law" tG f o)
 (i:jD P w K h base 23 "_law_cell_at" uA<|j4 2 K j)
 (u:jD P w K h base 23 "_law_word" ["_law_cell","_law_k"]<|j4 2 K L)
 (y:jD P w K h base 23 "_law_row" BS<|jI 4 K Q)
 (n:jD P w K h base 23 "_law_rules" BU<|jI 4 K r)
 (d:jD P w K h base 23 "parted" ["row","rules","others"]<|jI 3 K p)
 (k:jD P w K h base 23 "standing" ["row","rules"]<|jI 2 K e):
   jL P w K h base 24 f o ["_law_script"] (jI 1 K λG S=>i6<|Bh a j L Q r p e S.length (jr 13 G) S):=
  mK F ng λb R A D s H E t=>(ja (EL 1 ng.nd rfl (Or.inl rfl) (G5 (Nt:=["_law_k"]) (tn:=1) (x:="_law_script") 0 [(".0",.local),("_law_k",.local),("_law_word",.globalImplicit),("_law_cell_at",.globalImplicit),("_law_script",.cell)] rfl (xQ rfl T.vA (iR iX i8) (by rfl)) (λ_ _ _ _=>(nq 0 (show List.Nodup (["_law_k","_law_script"]:List Str)from by decide+kernel) rfl (Or.inl rfl))) (by simp) (λ_ _ _ _=>qQ) (λ_ _ _ _=>(l6 u t rfl CT rfl (iR (l6 i t rfl CT rfl (iR (iO 1) (iR iX i8))) (iR (iO 0) i8)))) rfl (by decide+kernel) (by decide+kernel) rfl rfl rfl rfl rfl rfl (by decide+kernel) (by decide+kernel) (by intro _;rfl)) (by rfl) (by first|exact .inl rfl|exact .inr rfl|assumption))
   (ja (jT 2 ng.nd rfl (Or.inl rfl) (jB y t rfl jc rfl (iS (iT (iO 0)) (iS (iT iX) (iS (iT iX) (iS (iT (iO 1)) jf))))))
   (ja (jT 3 ng.nd rfl (Or.inl rfl) (iT (l6 i t rfl jc rfl (iR (iO 0) (iR iX i8)))))
   (ja (jT 4 ng.nd rfl (Or.inl rfl) (jB n t rfl jc rfl (iS (iT (iO 0)) (iS (iT iX) (iS (iT (jt lT (iO 3) iX)) (iS (iT (iO 1)) jf))))))
   (ja (jT 5 ng.nd rfl (Or.inl rfl) (jB n t rfl jc rfl (iS (iT (iO 0)) (iS (iT iX) (iS (iT (jt lT (jt mU (iO 3) iX) iX)) (iS (iT (iO 1)) jf))))))
   (ja (kj (kT (jW kH (jt lT (jt mU (iO 3) iX) iX) iX)) (ja (jT 6 ng.nd rfl (Or.inl rfl) (iT (jt lT (jt mU (iO 3) iX) (nk (NV rfl) rfl T.Gg NC (iR iX (iR (nk sT rfl T.rq sS (iR (iO 4) i8)) i8))))))
   (jy (jT 5 ng.nd rfl (Or.inl rfl) (iT (jt Vo (AW D0 (iO 4) G6 (xR (iO 6))) (AW D0 (iO 4) (xR (jt ma (iO 6) iX)) G6)))))) kn)
   (ja (kj (kT (jW kH (jt lT (jt mU (iO 3) iX) iX) iX)) (jy (EL 5 ng.nd rfl (Or.inl rfl) (A0 (Nt:=["_law_name","_law_condition_here"]) (tn:=2) rfl (mu (iO 4)) (λ_ _ _ _=>(OG rfl (GZ (nq 0 (show List.Nodup (["_law_name","_law_condition_here"]:List Str)from by decide+kernel) rfl (Or.inl rfl)) (GZ (nq 1 (show List.Nodup (["_law_name","_law_condition_here"]:List Str)from by decide+kernel) rfl (Or.inl rfl)) OH (by rfl)) (by rfl)) (by rfl) (by rfl))) (by simp) (λ_ _ _ _=>qQ) (λ_ _ _ _=>(kQ (iR (jt ma ju (iO 0)) (iR (iO 1) i8)))) (by decide+kernel) rfl (by decide+kernel) (by decide+kernel) rfl (by intro _;rfl)) (by rfl) (by first|exact .inl rfl|exact .inr rfl|assumption))) kn)
   (ja (jT 7 ng.nd rfl (Or.inl rfl) (iT (DN.de (kl (iR (AU AK rfl T.xH AH (iR (iO 2) i8) (by decide) (by exact⟨by decide,rfl,rfl⟩)) (iR (AU AK rfl T.xH AH (iR (iO 4) i8) (by decide) (by exact⟨by decide,rfl,rfl⟩)) (iR (AU AK rfl T.xH AH (iR (iO 5) i8) (by decide) (by exact⟨by decide,rfl,rfl⟩)) i8)))))))
   (ja (jT 8 ng.nd rfl (Or.inl rfl) (jB d t rfl jc rfl (iS (iT (jb 7)) (iS (iT (jb 7)) (iS (iT (jb 7)) jf)))))
   (ja (kj (kT (jW (Cj t.units) (iO 7) (DN.de (kl (iR (iO 2) (iR (iO 4) (iR (iO 5) i8))))))) (jy (j2 (iT AS))) kn)
   (ja (jT 9 ng.nd rfl (Or.inl rfl) (jB k t rfl jc rfl (iS (iT (iO 2)) (iS (iT (iO 4)) jf))))
   (ja (jT 10 ng.nd rfl (Or.inl rfl) (jB k t rfl jc rfl (iS (iT (iO 2)) (iS (iT (iO 5)) jf))))
   (ja (jT 11 ng.nd rfl (Or.inl rfl) (iT qp))
   (ja (qC nS rfl (OI (iO 2) rfl T.Gh (by rfl)) (qB 12 ng.nd rfl (Or.inl rfl)) (jy (kj (kT (jW Cm (AV (tx t.units) (iO 12) (iO 9) (by first|exact m5 _|with_unfolding_all rfl)) (AV (tx t.units) (iO 12) (iO 10) (by first|exact m5 _|with_unfolding_all rfl)))) (jy (jT 11 ng.nd rfl (Or.inl rfl) (iT (kQ (iR (jb 12) (iR (jb 12) i8)))))) kn)))
   (ja (kj (kT (DW.dt (xW (DW.dt (xU (jW Ci (iO 11) qp) (xV (jW JI (iO 8) qp)))) (A5 (DW.dt (xU (jW JI (iO 11) qp) (xV (DW.dt (xW (A2 (A4 (nk (AJ T.yF) rfl T.xG AG (iR (iO 8) (iR (AX rfl T.Gi NG (by decide) (by decide)) i8))) (by intro _;rfl))) (A5 (jW (Cj t.units) (iO 8) (iO 11)))))))))))) (jy (j2 (iT AS))) kn)
   (jy (j2 (EH (z6 (JG t.units) (jB d t rfl jc rfl (iS (iT (iO 2)) (iS (iT (iO 5)) (iS (iT (iO 4)) jf)))) (iT (iO 11)) (by first|exact m5 _|with_unfolding_all rfl)) (EH (z6 Ci (jB d t rfl jc rfl (iS (iT (iO 2)) (iS (iT (iO 4)) (iS (iT (iO 4)) jf)))) (iT qp) (by first|exact m5 _|with_unfolding_all rfl)) (EK (z6 Ci (jB d t rfl jc rfl (iS (iT (DN.de (kl i8))) (iS (iT (iO 4)) (iS (iT (iO 5)) jf)))) (iT qp) (by first|exact m5 _|with_unfolding_all rfl))))))))))))))))))))))
end
end sH
namespace P2
open PySem
mutual
def ky:D->Bool
 |.non=>true
 |.int _=>true
 |.str z=>PyData.strOk z
 |.tup ds=>lL ds
 |.lst ds=>lL ds
 |_=>false
def lL:List D->Bool
 |[]=>true
 |d::r=>ky d&&lL r
end
mutual
def kR:D->Nat
 |.tup ds=>og ds+1
 |.lst ds=>og ds+1
 |_=>0
def og:List D->Nat
 |[]=>0
 |d::r=>max (kR d) (og r)
end
mutual
theorem wo:∀{d},ky d=true->∃p,mM d=some p/\PyData.canLay0 p=true/\p.depth<=kR d
 |.non,_=>⟨.none,rfl,by simp[PyData.canLay0],by simp[PyData.depth]⟩
 |.int i,_=>⟨.int i,rfl,by simp[PyData.canLay0],by simp[PyData.depth]⟩
 |.str z,h=>⟨.str z,rfl,by have j:PyData.strOk z=true:=h;simpa [PyData.canLay0]using j,by simp[PyData.depth]⟩
 |.tup ds,h=>by obtain⟨a,f,c,k⟩:=wq (show lL ds=true from h);exact⟨.tuple a,by show(kY ds).map PyData.tuple=_;rw[f];rfl,by simpa [PyData.canLay0]using c,by simp only[PyData.depth,kR];omega⟩
 |.lst ds,h=>by obtain⟨a,f,c,k⟩:=wq (show lL ds=true from h);exact⟨.list a,by show(kY ds).map PyData.list=_;rw[f];rfl,by simpa [PyData.canLay0]using c,by simp only[PyData.depth,kR];omega⟩
 |.bl _,h=>by cases h
 |.ty _,h=>by cases h
 |.ref _,h=>by cases h
 |.exc _ _ _,h=>by cases h
theorem wq:∀{f},lL f=true->∃a,kY f=some a/\PyData.canLayAll0 a=true/\PyData.depthAll a<=og f
 |[],_=>⟨[],rfl,by simp[PyData.canLayAll0],by simp[PyData.depthAll]⟩
 |d::r,h=>by
  have c:(ky d&&lL r)=true:=h;rw[aQ]at c;obtain⟨p,l,k,n⟩:=wo c.1;obtain⟨a,j,i,m⟩:=wq c.2;refine⟨p::a,?_,?_,?_⟩
  ·show(mM d).bind (λp=>(kY r).map (p:: ·))=_;rw[l,j];rfl
  ·simp[PyData.canLayAll0,k,i]
  ·simp only[PyData.depthAll,og];omega
end
def uK(h:mM (.tup ds)=some p):∃a,p=.tuple a/\kY ds=some a:=by obtain⟨a,d,c⟩:=aB.mp (show(kY ds).map PyData.tuple=some p from h);exact⟨a,c.symm,d⟩
def uJ(h:mM (.lst ds)=some p):∃a,p=.list a/\kY ds=some a:=by obtain⟨a,d,c⟩:=aB.mp (show(kY ds).map PyData.list=some p from h);exact⟨a,c.symm,d⟩
mutual
theorem A8:∀{a b} {p q},ky a=true->ky b=true->mM a=some p->mM b=some q->(PyData.eqv p q=true↔a=b)
 |a,b,p,q,j,d,f,eq=>by
  cases a with
  |non=>
   cases f;cases b with
   |non=>cases eq;simp[PyData.eqv]
   |int i=>cases eq;simp[PyData.eqv]
   |str i=>cases eq;simp[PyData.eqv]
   |tup r=>obtain⟨c,rfl,_⟩:=uK eq;simp[PyData.eqv]
   |lst r=>obtain⟨c,rfl,_⟩:=uJ eq;simp[PyData.eqv]
   |_=>cases d
  |int i=>
   cases f;cases b with
   |non=>cases eq;simp[PyData.eqv]
   |int i=>cases eq;simp[PyData.eqv]
   |str i=>cases eq;simp[PyData.eqv]
   |tup r=>obtain⟨c,rfl,_⟩:=uK eq;simp[PyData.eqv]
   |lst r=>obtain⟨c,rfl,_⟩:=uJ eq;simp[PyData.eqv]
   |_=>cases d
  |str i=>
   cases f;cases b with
   |non=>cases eq;simp[PyData.eqv]
   |int i=>cases eq;simp[PyData.eqv]
   |str i=>cases eq;simp[PyData.eqv]
   |tup r=>obtain⟨c,rfl,_⟩:=uK eq;simp[PyData.eqv]
   |lst r=>obtain⟨c,rfl,_⟩:=uJ eq;simp[PyData.eqv]
   |_=>cases d
  |tup m=>
   obtain⟨c,rfl,l⟩:=uK f;cases b with
   |non=>cases eq;simp[PyData.eqv]
   |int i=>cases eq;simp[PyData.eqv]
   |str i=>cases eq;simp[PyData.eqv]
   |tup r=>obtain⟨h,rfl,k⟩:=uK eq;have:=A9 (show lL m=true from j) (show lL r=true from d) l k;simp only[PyData.eqv,this,D.tup.injEq]
   |lst r=>obtain⟨h,rfl,_⟩:=uJ eq;simp[PyData.eqv]
   |_=>cases d
  |lst m=>
   obtain⟨c,rfl,l⟩:=uJ f;cases b with
   |non=>cases eq;simp[PyData.eqv]
   |int i=>cases eq;simp[PyData.eqv]
   |str i=>cases eq;simp[PyData.eqv]
   |tup r=>obtain⟨h,rfl,_⟩:=uK eq;simp[PyData.eqv]
   |lst r=>obtain⟨h,rfl,k⟩:=uJ eq;have:=A9 (show lL m=true from j) (show lL r=true from d) l k;simp only[PyData.eqv,this,D.lst.injEq]
   |_=>cases d
  |_=>cases j
 termination_by a=>sizeOf a
theorem A9:∀{a b} {p q},lL a=true->lL b=true->kY a=some p->kY b=some q->(PyData.eqvAll p q=true↔a=b)
 |[],[],p,q,_,_,i,eq=>by cases i;cases eq;simp[PyData.eqvAll]
 |[],d::r,p,q,_,_,i,eq=>by cases i;obtain⟨x,_,h⟩:=aL.mp (show(mM d).bind (λp=>(kY r).map (p:: ·))=some q from eq);obtain⟨j,_,rfl⟩:=aB.mp h;simp[PyData.eqvAll]
 |d::r,[],p,q,_,_,i,eq=>by cases eq;obtain⟨x,_,h⟩:=aL.mp (show(mM d).bind (λp=>(kY r).map (p:: ·))=some p from i);obtain⟨j,_,rfl⟩:=aB.mp h;simp[PyData.eqvAll]
 |d::r,e::s,p,q,v,u,i,eq=>by have f:(ky d&&lL r)=true:=v;have c:(ky e&&lL s)=true:=u;rw[aQ]at f c;obtain⟨x,n,h⟩:=aL.mp (show(mM d).bind (λp=>(kY r).map (p:: ·))=some p from i);obtain⟨j,m,rfl⟩:=aB.mp h;obtain⟨y,l,w⟩:=aL.mp (show(mM e).bind (λp=>(kY s).map (p:: ·))=some q from eq);obtain⟨z,k,rfl⟩:=aB.mp w;have t:=A8 f.1 c.1 n l;have o:=A9 f.2 c.2 m k;simp only[PyData.eqvAll,aQ,t,o,List.cons.injEq]
 termination_by a=>sizeOf a
end
def xZ(h:ky a=true)(f:ky b=true)(n:kR a<=60)(m:kR b<=60):∃r,qR a b=some r/\(r=true↔a=b):=by obtain⟨p,d,j,l⟩:=wo h;obtain⟨q,c,i,k⟩:=wo f;refine⟨PyData.eqv p q,?_,A8 h f d c⟩;unfold qR;rw[d,c];show(if(SeqAt.shaped p&&SeqAt.shaped q)=true then some (PyData.eqv p q)else none)=_;rw[av];simp only[SeqAt.shaped,aQ,bw];exact⟨⟨j,by omega⟩,i,by omega⟩
def ne_self(c:ky a=true)(d:kR a<=60):mL a a=.ok (.bl false):=by obtain⟨r,e,h⟩:=xZ c c d d;unfold mL;rw[e,h.mpr rfl];rfl
def eq_self(c:ky a=true)(d:kR a<=60):qq a a=.ok (.bl true):=by obtain⟨r,e,h⟩:=xZ c c d d;unfold qq;rw[e,h.mpr rfl]
def Pg(d:ky a=true)(c:ky b=true)(j:kR a<=60)(f:kR b<=60)(h:a≠b):qq a b=.ok (.bl false):=by
 obtain⟨r,e,i⟩:=xZ d c j f;unfold qq;rw[e];cases r with
 |false=>rfl
 |true=>exact absurd (i.mp rfl) h
def Jz{c:Type}{f:c->D}{l:List c}(h:∀x∈l,ky (f x)=true):lL (l.map f)=true:=by
 induction l with
 |nil=>rfl
 |cons a l d=>show(ky (f a)&&lL (l.map f))=true;rw[h a<|.head _,d λx i=>h x<|.tail _ i];rfl
def OS{c:Type}{f:c->D}{l:List c}{k:Nat}(h:∀x∈l,kR (f x)<=k):og (l.map f)<=k:=by
 induction l with
 |nil=>exact bM _
 |cons a l d=>show max (kR<|f a) (og<|l.map f)<=k;have:=h a (.head _);have:=d λx i=>h x (.tail _ i);omega
end P2
namespace FM
def g(a b:Int):Int:=(Int.gcd a b:Int)
def HM{a:Int}(c:0<=a):g a 0=a:=by unfold g;rw[Int.gcd_zero_right];omega
def HL{a b:Int}(d:0<=a)(c:0<b):g b (a%b)=g a b:=by
 unfold g
 congr 1
 obtain⟨m,rfl⟩:=a9 d;obtain⟨n,rfl⟩:=a9 (gX c);show Nat.gcd n ((m:Int)%(n:Int)).natAbs=Nat.gcd m n;rw[show((m:Int)%(n:Int)).natAbs=m%n from by omega];rw[Nat.gcd_comm m n,Nat.gcd_rec n m,Nat.gcd_comm]
def HH(a b:Int):g (if a<0 then -a else a) (if b<0 then -b else b)=g a b:=by
 unfold g
 congr 1
 unfold Int.gcd
 congr 1
 ·split<;>omega
 ·split<;>omega
def HK{a b:Int}(c:b≠0):0<g a b:=by unfold g;have h:=Int.gcd_pos_of_ne_zero_right a c;omega
def HI(a b:Int):g a b∣a:=Int.gcd_dvd_left ..
def HJ(a b:Int):g a b∣b:=Int.gcd_dvd_right ..
def dv(t b:Int):Int:=if b<0 then -(g t b)else g t b
def top(t b:Int):Int:=t.fdiv (dv t b)
def bot(t b:Int):Int:=b.fdiv (dv t b)
def sZ{t b:Int}(c:b≠0):dv t b≠0:=by have:=HK (a:=t) c;unfold dv;split<;>omega
def Hr{a d q:Int}(c:d≠0)(h:a=d*q):a.fdiv d=q:=by subst h;rw[iI];exact Int.mul_fdiv_cancel q c
theorem split{t b:Int}(f:b≠0):t=dv t b*top t b/\b=dv t b*bot t b:=by
 have d:=sZ (t:=t) f;have i:dv t b∣t:=by
  unfold dv;split;·exact Int.neg_dvd.mpr (HI t b)
  ·exact HI t b
 have h:dv t b∣b:=by
  unfold dv;split;·exact Int.neg_dvd.mpr (HJ t b)
  ·exact HJ t b
 obtain⟨p,c⟩:=i;obtain⟨q,a⟩:=h;constructor
 ·show t=dv t b*t.fdiv (dv t b);rw[Hr d c];exact c
 ·show b=dv t b*b.fdiv (dv t b);rw[Hr d a];exact a
structure oJ(p q:Int):Prop where
 pos:0<q
 one:Int.gcd p q=1
def BP{t b:Int}(c:b≠0):oJ (top t b) (bot t b):=by
 obtain⟨l,i⟩:=split (t:=t) c;have m:=sZ (t:=t) c;have j:=HK (a:=t) c;have f:(dv t b).natAbs=Int.gcd t b:=by unfold dv g;split<;>omega
 refine⟨?_,?_⟩
 ·rcases Int.lt_trichotomy b 0 with h|h|h
  ·have e:dv t b= -(g t b):=by unfold dv;rw[av h]
   rw[e]at i;refine Int.lt_of_not_ge λd=>?_;have:0<= -(g t b)*bot t b:=by have:=Int.mul_nonneg_of_nonpos_of_nonpos (show -(g t b)<=0 by omega) d;exact this
   omega
  ·exact absurd h c
  ·have e:dv t b=g t b:=by unfold dv;rw[aw<|by omega]
   rw[e]at i;refine Int.lt_of_not_ge λd=>?_;have:g t b*bot t b<=0:=Int.mul_nonpos_of_nonneg_of_nonpos (gX j) d;omega
 ·have e:Int.gcd (dv t b*top t b) (dv t b*bot t b)=(dv t b).natAbs*Int.gcd (top t b) (bot t b):=Int.gcd_mul_left ..;rw[<-l,<-i,f]at e;have k:0<Int.gcd t b:=by unfold g at j;omega
  exact(Nat.eq_of_mul_eq_mul_left k<|by rw[iK];exact e).symm
def Oj{t b:Int}(a:b≠0):top t b*b=t*bot t b:=by
 obtain⟨d,c⟩:=split (t:=t) a;have h:top t b*b=top t b*(dv t b*bot t b):=by rw[<-c]
 have f:t*bot t b=(dv t b*top t b)*bot t b:=by rw[<-d]
 rw[h,f];rw[<-gs,iI<|top t b]
def GO{a b c:Int}(h:Int.gcd a b=1)(d:a∣b*c):a∣c:=by
 have f:Nat.Coprime a.natAbs b.natAbs:=h;have i:a.natAbs∣b.natAbs*c.natAbs:=by rw[<-fX];exact h8.mpr d
 exact h8.mp (f.dvd_of_dvd_mul_left i)
def SK{p q d c:Int}(a:oJ p q)(b:oJ d c)(h:p*c=d*q):p=d/\q=c:=by
 obtain⟨i,k⟩:=a;obtain⟨f,j⟩:=b;have d1:q∣c:=by
  have:q∣p*c:=by rw[h];exact Int.dvd_mul_left ..
  exact GO (by rw[Int.gcd_comm];exact k) this
 have d2:c∣q:=by
  have:c∣d*q:=by rw[<-h];exact Int.dvd_mul_left ..
  exact GO (by rw[Int.gcd_comm];exact j) this
 have e:q=c:=Int.dvd_antisymm (gX i) (gX f) d1 d2;subst e;exact⟨fY (by omega) h,rfl⟩
def scaled{p q k:Int}(L:oJ p q)(a:k≠0):top (p*k) (q*k)=p/\bot (p*k) (q*k)=q:=by
 have f:q≠0:=by have:=L.pos;omega
 have d:q*k≠0:=c0 f a;refine SK (BP d) L ?_;have c:=Oj (t:=p*k) d
 refine fY a ?_;rw[gs,c,gs,gs,iI k]
def O1(t b:Int):(dv t b).natAbs=Int.gcd t b:=by unfold dv g;split<;>omega
def O2{t b:Int}(a:b≠0):(dv t b).natAbs<=b.natAbs:=by rw[O1];exact Nat.le_of_dvd (by omega) (Nat.gcd_dvd_right ..)
end FM
namespace T2
open PySem PySem.NumText TM
def yT(t:Int):List Nat:=if t<0 then 45::num t.natAbs else num t.natAbs
def oE(c:Nat):List Nat->List (List Nat)
 |[]=>[[]]
 |x::r=>if x=c then[]::oE c r else match oE c r with
  |p::a=>(x::p)::a
  |[]=>[[x]]
def aa0:oE c (c::r)=[]::oE c r:=by show(if c=c then[]::oE c r else _)=_;rw[av rfl]
def Ld(h:x≠c)(e:oE c r=p::ps):oE c (x::r)=(x::p)::ps:=by show(if x=c then[]::oE c r else match oE c r with|p::ps=>(x::p)::ps|[]=>[[x]])=_;rw[aw h,e]
theorem Lc:∀{l},c∉l->oE c l=[l]
 |[],_=>rfl
 |x::r,h=>Ld (λz=>h<|by rw[z];exact bL ..) (Lc λz=>h<|aX _ z)
theorem wD:∀{l},c∉l->oE c (l++c::r)=l::oE c r
 |[],_=>aa0
 |x::l,h=>Ld (λz=>h<|by rw[z];exact bL ..) (wD λz=>h<|aX _ z)
def Uq(h:c<48\/57<c):c∉num m:=λz=>by have:=Uu m c z;omega
structure Ok(t b:Int):Prop where
 low:FM.oJ t b
 ht:t.natAbs<10^60
 hb:b.natAbs<10^60
def Ly(t:Int){b:Int}(c:b≠0):(FM.top t b).natAbs<=t.natAbs/\(FM.bot t b).natAbs<=b.natAbs:=by
 obtain⟨f,d⟩:=FM.split (t:=t) c;have j:=FM.sZ (t:=t) c;have a:1<=(FM.dv t b).natAbs:=by omega
 have i:t.natAbs=(FM.dv t b).natAbs*(FM.top t b).natAbs:=by rw[<-fX,<-f]
 have h:b.natAbs=(FM.dv t b).natAbs*(FM.bot t b).natAbs:=by rw[<-fX,<-d]
 rw[i,h];exact⟨gY _ a,gY _ a⟩
end T2
namespace TR
open PySem PySem.NumText TM T2
def IB:List (List Nat):=[[109,97,114,107],[102,105,108,108],[104,101,114,101],[98,97,99,107],[111,110],[97,116],[97,103,111],[117,110,116,105,108],[97,98,115],[97,110,100],[111,114],[110,111,116]]
def Jj(c:Nat):Bool:=decide (97<=c)&&decide (c<=122)
def zK(m:List Nat):Bool:=decide (m≠[])&&decide (m.length<=8)&&m.all Jj&&!decide (m∈IB)
def yC(t:Nat):List Nat:=two (t%1440/60)++58::two (t%1440%60)
def K4(m:List Nat)(t u:Nat)(n:Int):List Nat:=m++32::(num (t/1440)++32::(yC t++32::(num u++32::yT n)))
structure Ok(m:List Nat)(t u:Nat)(n:Int):Prop where
 m:zK m=true
 t:t<=1000000000
 u:u<=1000000000
 n:n.natAbs<10^60
def acn(h:zK m=true):m≠[]/\m.length<=8/\(∀c∈m,97<=c/\c<=122)/\m∉IB:=by unfold zK at h;simp only[aQ,bw,f5,cM,cF]at h;refine⟨h.1.1.1,h.1.1.2,λc a=>?_,h.2⟩;have:=h.1.2 c a;unfold Jj at this;simpa using this
def Ug(h:zK m=true):32∉m:=λz=>by have:=(acn h).2.2.1 32 z;omega
def yS(k):32∉num k:=Uq (.inl<|by decide)
def QP(t):32∉yC t:=by unfold yC two;intro z;simp only[bh,aD,cm,fA]at z;omega
def Ut(n:Int):32∉yT n:=by
 unfold yT;split
 ·intro z;rcases aD.mp z with z|z;·cases z
  ·exact yS _ z
 ·exact yS _
def parts{t u}{n:Int}(O:Ok m t u n):oE 32 (K4 m t u n)=[m,num<|t/1440,yC t,num u,yT n]:=by unfold K4;rw[wD<|Ug O.m,wD<|yS _,wD<|QP _,wD<|yS _,Lc<|Ut _]
end TR
set_option exponentiation.threshold 500
namespace P2
open PySem L2
def YG:tF i f ρ=toS (f ρ) λa=>if i<ρ.length then .nx (ρ.set i<|.ow a)else .bad:=rfl
def YH{fs}:zo i j fs ρ=toS (fs ρ) λa=>match a with
 |[d1,d2]=>if i<ρ.length/\j<ρ.length then .nx ((ρ.set i<|.sh d1).set j (.sh d2))else .bad
 |_=>.bad:=rfl
def Xe:KS 3 f (s0::s1::s2::.ow ds::r)=toS (f<|s0::s1::s2::.ow ds::r) λd=>if ds.length<sizeLine then .nx (s0::s1::s2::.ow (ds++[d])::r)else .bad:=rfl
def Xf:KS 4 f (s0::s1::s2::s3::.ow ds::r)=toS (f<|s0::s1::s2::s3::.ow ds::r) λd=>if ds.length<sizeLine then .nx (s0::s1::s2::s3::.ow (ds++[d])::r)else .bad:=rfl
def XT:th 3 (s0::s1::s2::.ow ds::r)=s0::s1::s2::.sh (.lst ds)::r:=rfl
def XU:th 4 (s0::s1::s2::s3::.ow ds::r)=s0::s1::s2::s3::.sh (.lst ds)::r:=rfl
def Yp{i j:Int}:TZ [.int i,.int j]=.ok (.int<|if j<i then j else i):=rfl
def C3{j:Int}(c:0<=j)(a:j<1000000):qx [.int j]=.ok (pN 0 j.toNat):=by show(if -(2^62)<=j/\j<2^62 then R.ok (pN 0 j.toNat)else .bad)=_;rw[av<|by omega]
end P2
local macro_rules|`(tactic|walk_at "d")=>`(tactic|try simp(disch:=first|assumption|decide|exact ai rfl)only[P2.Ks,P2.Xq,P2.Xp,P2.Y3,P2.Y4,P2.Y2,P2.YM,P2.YN,P2.YO,P2.YL,P2.Kv,P2.Y6,P2.Y7,P2.Y8,P2.Y5,P2.Y9,P2.XJ,P2.XI,P2.XM,P2.Yy,P2.YA,P2.Yz,P2.YJ,P2.YF,P2.YI,P2.YC,P2.YK,P2.YE,P2.Xw,P2.Xr,P2.Xs,P2.Xk,P2.Xl,P2.Xm,P2.Xo,P2.Xn,P2.Xv,P2.XC,P2.XB,P2.XA,P2.Xy,P2.Xu,P2.W6,P2.W5,P2.Xj,P2.Xz,P2.XD,P2.Xx,P2.YD,P2.YG,P2.YH,P2.Xe,P2.Xf,P2.XT,P2.XU,P2.Yp,P2.C3,P2.Y1,P2.XW,P2.YV,P2.YW,P2.YX,P2.YZ,P2.YY,P2.Y0,P2.W8,P2.YU,P2.rV,P2.m9,P2.Ym,P2.Yi,P2.XY,P2.XX,P2.Yx,P2.XF,P2.XG,P2.XE,P2.Yv,P2.Yw,P2.X0,P2.Yd,P2.Yf,P2.Ye,P2.YR,P2.YS,P2.YB,P2.Yk,P2.Yj,P2.Yl,P2.W7,P2.Yo,P2.X1,P2.Xc,P2.Xd,P2.YT,P2.Zy,P2.XZ,P2.XO,P2.wt,P2.Xa,P2.Yr,P2.Xg,P2.Xi,P2.Xh,P2.XQ,P2.Yh,P2.Yg,P2.X3,P2.X2,P2.X5,P2.X6,P2.X4,P2.YP,P2.YQ,P2.X7,P2.Ya,P2.X8,P2.Yb,P2.X9,P2.Yc,P2.Za,P2.Zb,P2.Zl,P2.Zm,P2.Zn,P2.Zo,P2.Zq,P2.Zv,P2.Zw,P2.Zx,P2.Zd,P2.Ze,P2.Zg,P2.Zj,P2.jR,aR,dS,aq,dE,dW,Nat.reduceAdd,Nat.reduceSub,List.replicate_zero,List.replicate_succ,bf,fJ,List.cons_append,List.set_cons_zero,List.set_cons_succ,c8,bI,Nat.reduceLT,Nat.zero_lt_succ,fx,iD,bj,reduceIte,fD,eI,Int.reduceLT,Int.reduceEq,Int.reduceNeg,Int.reducePow,Int.reduceSub,Int.reduceAdd,Int.reduceMul,aO])
namespace WP
open PySem L2 P2 TM T2 PySem.NumText
variable{a:Ad}
def TB(i:Int):jM (vM a<|jR 1 [.int i])=.ok (.bl true):=by unfold vM;iterate 3 (walk_at "d")
theorem LO:∀(n:Nat) (x y:Int) (s2:Sl),0<=x->0<=y->y<n->
 ∃s,o9 (b1 tB<|d2 oV (dV 1)<|iP 0) (vq a) n [.sh<|.int x,.sh<|.int y,s2]=.nx [.sh<|.int<|FM.g x y,.sh<|.int 0,s]
 |0,x,y,s2,c,f,h=>by omega
 |n+1,x,y,s2,c,f,h=>by
  rw[Kw];by_cases z:y=0
  ·subst z;refine⟨s2,?_⟩;walk_at "d"
   rw[FM.HM c]
  ·have d:0<y:=by omega
   have i:=cj x d;obtain⟨s,e⟩:=LO n y (x%y) (.sh<|.int<|x%y) f (cB x z) (by omega);refine⟨s,?_⟩;unfold vq;iterate 4 (walk_at "d";try simp only[z,m9 d])
   rw[<-FM.HL c d];exact e
def SW(x y:Int)(d:0<=x)(c:0<=y)(h:y.natAbs<10^400):jM (vI a<|jR 3 [.int x,.int y])=.ok (.int<|FM.g x y):=by
 obtain⟨s,e⟩:=LO (a:=a) 10000000000000000000000000000000000000000000000000000000000000000000000000000000000000000000000000000000000000000000000000000000000000000000000000000000000000000000000000000000000000000000000000000000000000000000000000000000000000000000000000000000000000000000000000000000000000000000000000000000000000000000000000000000000000000000000000000000000000000000000000000000000000000000000000000000000000000 x y .no d c (by omega);unfold vI;walk_at "d"
 rw[e];walk_at "d"
def xT{t b:Int}(c:b≠0)(h:b.natAbs<10^400):(FM.dv t b).natAbs<10^400:=by have:=FM.O2 (t:=t) (b:=b) c;omega
abbrev fr(t b:Int):D:=.tup [.int<|FM.top t b,.int<|FM.bot t b]
def SU{j k:je}(f:∀i:Int,j [.int i]=.ok (.bl true))(l:∀x y:Int,0<=x->0<=y->y.natAbs<10^400->k [.int x,.int y]=.ok (.int<|FM.g x y))(t b:Int)(c:b≠0)(h:b.natAbs<10^400):
    jM (vJ a j k<|jR 3 [.int t,.int b])=.ok (fr t b):=by
 have d:=l (if t<0 then -t else t) (if b<0 then -b else b) (by split<;>omega) (by split<;>omega) (by split<;>omega);rw[FM.HH t b]at d;have d1:=zg (i:=t) (FM.sZ (t:=t) (b:=b) c) (xT c h);have d2:=zg (i:=b) (FM.sZ (t:=t) (b:=b) c) (xT c h);unfold vJ;by_cases b1:b<0
 ·have e:FM.dv t b= -(FM.g t b):=by unfold FM.dv;rw[av b1]
  rw[av b1]at d;rw[e]at d1 d2;iterate 8 (walk_at "d";try simp only[f,c,b1,d,d1,d2,eI,fD])
  unfold fr FM.top FM.bot;rw[e]
 ·have e:FM.dv t b=FM.g t b:=by unfold FM.dv;rw[aw b1]
  rw[aw b1]at d;rw[e]at d1 d2;iterate 8 (walk_at "d";try simp only[f,c,b1,d,d1,d2,eI,fD])
  unfold fr FM.top FM.bot;rw[e]
variable{a:Ad}
def Sz(n:Nat)(i:Int):Prop:=i.natAbs<10^n
def Sz.mono{n}{i:Int}(h:Sz m i)(le:m<=n):Sz n i:=aF h (iz (by decide) le)
def Sz.mul{n}{i j:Int}(h:Sz m i)(g:Sz n j):Sz (m+n) (i*j):=by unfold Sz at*;rw[fX,Nat.pow_add];exact Nat.mul_lt_mul'' h g
def Sz.add{n}{i j:Int}(h:Sz n i)(g:Sz n j):Sz (n+1) (i+j):=by unfold Sz at*;have:(10:Nat)^(n+1)=10^n*10:=cT ..;omega
def Sz.sub{n}{i j:Int}(h:Sz n i)(g:Sz n j):Sz (n+1) (i - j):=by unfold Sz at*;have:(10:Nat)^(n+1)=10^n*10:=cT ..;omega
def Sz.top{n}{t b:Int}(h:Sz n t)(c:b≠0):Sz n (FM.top t b):=bY (Ly t c).1 h
def Sz.bot{n}{t b:Int}(h:Sz n b)(c:b≠0):Sz n (FM.bot t b):=bY (Ly t c).2 h
def pK{i j:Int}(h:Sz 190 i)(g:Sz 190 j):km (.int i) (.int j)=.ok (.int<|i*j):=Yt (h.mono<|by decide) (g.mono<|by decide)
abbrev pr(p q:Int):D:=.tup [.int p,.int q]
section
variable{j:je}(hf:∀t b:Int,b≠0->b.natAbs<10^400->j [.int t,.int b]=.ok (fr t b)){p q x y:Int}(i:Sz 190 p)(e:Sz 190 q)(h:Sz 190 x)(c:Sz 190 y)
include hf i e h c
theorem Tn(u:q≠0)(s:y≠0):jM (vO a j<|jR 2 [pr p q,pr x y])=.ok (fr (p*y+x*q)<|q*y):=by have r:L2.jY [D.int p,D.int q] 0=some (.int p):=rfl;have o:L2.jY [D.int p,D.int q] 1=some (.int q):=rfl;have n:L2.jY [D.int x,D.int y] 0=some (.int x):=rfl;have m:L2.jY [D.int x,D.int y] 1=some (.int y):=rfl;have l:=pK i c;have k:=pK h e;have d:=pK e c;have f:=hf (p*y+x*q) (q*y) (c0 u s) ((e.mul c).mono (by decide));unfold vO;iterate 7 (walk_at "d";try simp only[r,o,n,m,l,k,d,f])
theorem Tf(u:q≠0)(s:y≠0):jM (vN a j<|jR 2 [pr p q,pr x y])=.ok (fr (p*y - x*q)<|q*y):=by have r:L2.jY [D.int p,D.int q] 0=some (.int p):=rfl;have o:L2.jY [D.int p,D.int q] 1=some (.int q):=rfl;have n:L2.jY [D.int x,D.int y] 0=some (.int x):=rfl;have m:L2.jY [D.int x,D.int y] 1=some (.int y):=rfl;have l:=pK i c;have k:=pK h e;have d:=pK e c;have f:=hf (p*y - x*q) (q*y) (c0 u s) ((e.mul c).mono (by decide));unfold vN;iterate 7 (walk_at "d";try simp only[r,o,n,m,l,k,d,f])
theorem Tu(s:q≠0)(r:y≠0):jM (vP a j<|jR 2 [pr p q,pr x y])=.ok (fr (p*x)<|q*y):=by have o:L2.jY [D.int p,D.int q] 0=some (.int p):=rfl;have n:L2.jY [D.int p,D.int q] 1=some (.int q):=rfl;have m:L2.jY [D.int x,D.int y] 0=some (.int x):=rfl;have l:L2.jY [D.int x,D.int y] 1=some (.int y):=rfl;have k:=pK i h;have d:=pK e c;have f:=hf (p*x) (q*y) (c0 s r) ((e.mul c).mono (by decide));unfold vP;iterate 7 (walk_at "d";try simp only[o,n,m,l,k,d,f])
end
structure Ck where
 m:Str
 t:Int
 p:Int
 q:Int
abbrev Ck.d(c:Ck):D:=.tup [.str c.m,.int c.t,pr c.p c.q]
def DZ(t c d:Int):Int×Int:=if c=d then(0,1)else(FM.top (t - c)<|d - c,FM.bot (t - c)<|d - c)
def Gk(t:Int)(c d:Ck):Int×Int:=
 let s:=DZ t c.t d.t
 let h:=FM.top (d.p*c.q - c.p*d.q) (d.q*c.q)
 let i:=FM.bot (d.p*c.q - c.p*d.q) (d.q*c.q)
 let j:=FM.top (s.1*h) (s.2*i)
 let f:=FM.bot (s.1*h) (s.2*i)
 (FM.top (c.p*f+j*c.q)<|c.q*f,FM.bot (c.p*f+j*c.q)<|c.q*f)
structure Ck.Ok(c:Ck):Prop where
 low:FM.oJ c.p c.q
 p:Sz 9 c.p
 q:Sz 6 c.q
 t:0<=c.t/\c.t<=1000000000
 s:PyData.strOk c.m=true
structure Os(a:Ad)(Ff Ft Fs Fm Fx Fp:je):Prop where
 f:∀t b:Int,b≠0->b.natAbs<10^400->Ff [.int t,.int b]=.ok (fr t b)
 t:∀c:Ck,Ft [c.d]=.ok (.int c.t)
 s:∀t t1 t2:Int,Sz 20 t1->Sz 20 t2->Fs [.int t,.int t1,.int t2]=.ok (pr (DZ t t1 t2).1 (DZ t t1 t2).2)
 m:∀p q x y:Int,Sz 190 p->Sz 190 q->Sz 190 x->Sz 190 y->q≠0->y≠0->Fm [pr p q,pr x y]=.ok (fr (p*y - x*q)<|q*y)
 x:∀p q x y:Int,Sz 190 p->Sz 190 q->Sz 190 x->Sz 190 y->q≠0->y≠0->Fx [pr p q,pr x y]=.ok (fr (p*x)<|q*y)
 p:∀p q x y:Int,Sz 190 p->Sz 190 q->Sz 190 x->Sz 190 y->q≠0->y≠0->Fp [pr p q,pr x y]=.ok (fr (p*y+x*q)<|q*y)
structure Ov(a:Ad)(Ff Ft Fv:je):Prop where
 f:∀t b:Int,b≠0->b.natAbs<10^400->Ff [.int t,.int b]=.ok (fr t b)
 t:∀c:Ck,Ft [c.d]=.ok (.int c.t)
 v:∀{t:Int},(0<=t/\t<=1000000000)->∀{c d:Ck},c.Ok->d.Ok->Fv [.int t,c.d,d.d]=.ok (pr (Gk t c d).1 (Gk t c d).2)
end WP
namespace WP
open PySem L2 P2 TM T2 PySem.NumText
variable{a:Ad}
def lt_size{n}(h:n<1000000):n<sizeLine:=aF h (by decide)
def Np(c:List Int)(k)(h:k<c.length):L2.jY (c.map D.int) (k:Int)=some (.int<|c.getD k 0):=by refine ub ?_;rw[aE,au h,aW,au h];rfl
def SO(c:List Int)(k:Nat):jM (yo a<|jR 2 [.lst<|c.map .int,.int k])=.ok (.int<|c.getD k 0):=by
 unfold yo;walk_at "d"
 rw[aj];by_cases h:k<c.length
 ·rw[av<|aN<|by omega,Np c k h];walk_at "d"
 ·rw[aw<|by simp;omega];walk_at "d"
  rw[aW,eU<|by omega];rfl
theorem LP:∀(n:Nat) (x y:Int) (d c:Sl),0<=x->0<=y->y<n->
 o9 (b1 tB<|d2 rF (dV 3)<|iP 0) (Ay a) n [d,c,.sh<|.int x,.sh<|.int y]=.nx [d,c,.sh<|.int<|FM.g x y,.sh<|.int 0]
 |0,x,y,d,c,i,j,h=>by omega
 |n+1,x,y,d,c,i,j,h=>by
  rw[Kw];by_cases z:y=0
  ·subst z;walk_at "d"
   rw[FM.HM i]
  ·have f:0<y:=by omega
   have k:=cj x f;have e:=LP n y (x%y) d c j (cB x z) (by omega);unfold Ay;iterate 4 (walk_at "d";try simp only[aN f,m9 f,and_self])
   rw[<-FM.HL i f];exact e
def Te(t b:Int)(d:0<b)(h:b.natAbs<10^400):jM (yr a<|jR 4 [.int t,.int b])=.ok (fr t b):=by
 have e:=LP (a:=a) sQ (if t<0 then -t else t) b (.sh<|.int t) (.sh<|.int b) (by split<;>omega) (by omega) (by unfold sQ;omega);have c:FM.g (if t<0 then -t else t) b=FM.dv t b:=by have:=FM.HH t b;rw[aw<|show¬b<0 by omega]at this;rw[this];unfold FM.dv;rw[aw<|by omega]
 rw[c]at e;have d1:=zg (i:=t) (FM.sZ (t:=t) (b:=b)<|by omega) (xT (t:=t) (b:=b) (by omega) h);have d2:=zg (i:=b) (FM.sZ (t:=t) (b:=b)<|by omega) (xT (t:=t) (b:=b) (by omega) h);unfold yr;iterate 4 (walk_at "d";try simp only[and_self])
 rw[e];iterate 4 (walk_at "d";try simp only[d1,d2])
 rfl
structure FOk(p q:Int):Prop where
 low:FM.oJ p q
 p:Sz 9 p
 q:Sz 6 q
def yV(d:PyData.strOk x=true)(c:PyData.strOk y=true):PyData.strOk (x++y)=true:=by unfold PyData.strOk at*;rw[<-Array.all_toList]at*;show((ry<|x++y).all _)=true;rw[GD,List.all_append,aQ];exact⟨d,c⟩
def len_app{x y:Str}:(x++y).length=x.length+y.length:=by rw[BL,GD,ao,<-BL,<-BL]
def Nr:∀n:Nat,n<3->∃c,c<128/\L2.jY (Str.ofString "qxz").cps.toList (n:Int)=some c:=by decide
def Nq:∀n:Nat,n<26->∃c,c<128/\L2.jY (Str.ofString "abcdefghijklmnopqrstuvwxyz").cps.toList (n:Int)=some c:=by decide
def Cd(h:c<128):PyData.strOk ⟨#[c]⟩=true:=by unfold PyData.strOk;simp;omega
def RF(j:Int)(h:0<=j/\j<3):∃c,c<128/\L2.jY (Str.ofString "qxz").cps.toList j=some c:=by obtain⟨n,rfl⟩:=a9 h.1;exact Nr n (by omega)
def RD(j:Int)(h:0<=j/\j<26):∃c,c<128/\L2.jY (Str.ofString "abcdefghijklmnopqrstuvwxyz").cps.toList j=some c:=by obtain⟨n,rfl⟩:=a9 h.1;exact Nq n (by omega)
def lq:(Str.ofString "qxz").length<=sizeLine:=by decide
def la:(Str.ofString "abcdefghijklmnopqrstuvwxyz").length<=sizeLine:=by decide
def KC(n):pN 0 n=((List.range n).map λ(k:Nat)=>(k:Int)).map D.int:=by unfold pN;rw[bg];refine cx λk _=>?_;show D.int (0+(k:Int))=D.int (k:Int);rw[Int.zero_add]
end WP
namespace WM
open PySem L2 P2 WP TM T2 PySem.NumText
variable{a:Ad}
inductive Fq where
 |back|on|ago|rY
inductive Bq where
 |add|sub|lt|eq|and|or
inductive T7 where
 |num(p q:Int)|at(w:Str)|here|far(k:Fq)(n:Int)|times(p q:Int)(t:T7)|abs(t:T7)|not(t:T7)|bin(k:Bq)(l r:T7)
def Fq.s:Fq->Str
 |.back=>"back"|.on=>"on"|.ago=>"ago"|.rY=>"until"
def Bq.s:Bq->Str
 |.add=>"+"|.sub=>"-"|.lt=>"<"|.eq=>"="|.and=>"and"|.or=>"or"
def T7.d:T7->D
 |.num p q=>.tup [.str "num",.tup [.int p,.int q]]
 |.at w=>.tup [.str "at",.str w]
 |.here=>.tup [.str "here"]
 |.far k n=>.tup [.str k.s,.int n]
 |.times p q t=>.tup [.str "times",.tup [.int p,.int q],t.d]
 |.abs t=>.tup [.str "abs",t.d]
 |.not t=>.tup [.str "not",t.d]
 |.bin k l r=>.tup [.str k.s,l.d,r.d]
def T7.kids:T7->List T7
 |.times _ _ t=>[t]
 |.abs t=>[t]
 |.not t=>[t]
 |.bin _ l r=>[l,r]
 |_=>[]
def T7.parts:T7->List T7
 |.times p q t=>.times p q t::t.parts
 |.abs t=>.abs t::t.parts
 |.not t=>.not t::t.parts
 |.bin k l r=>.bin k l r::(l.parts++r.parts)
 |t=>[t]
def T7.dep:T7->Nat
 |.times _ _ t=>t.dep+1
 |.abs t=>t.dep+1
 |.not t=>t.dep+1
 |.bin _ l r=>max l.dep r.dep+1
 |_=>0
def JR(t:T7):t.parts=t::t.kids.flatMap T7.parts:=by cases t<;>simp[T7.parts,T7.kids]
def Sf{t u:T7}(h:u∈t.kids):u.dep<t.dep:=by
 cases t<;>simp[T7.kids]at h;·subst h;show _<_+1;omega
 ·subst h;show _<_+1;omega
 ·subst h;show _<_+1;omega
 ·rename_i k l r;show _<max l.dep r.dep+1;rcases h with rfl|rfl<;>omega
def Ta(t:T7):jM (Bg a<|jR 1 [t.d])=.ok (.lst<|t.kids.map T7.d):=by
 cases t with
 |far k n=>cases k<;>kernel_rfl
 |bin k l r=>cases k<;>kernel_rfl
 |_=>kernel_rfl
section
variable{Fi o:je}
def VO{t:T7}(h:o [t.d]=.ok (.lst<|t.parts.map T7.d))(s0)(c:List D)(d:c.length+t.parts.length<=1000000):
    sN a Fi o [s0,.ow c,.sh t.d]=.nx [s0,.ow<|c++t.parts.map T7.d,.sh t.d]:=by
 show toS (o [t.d]) _=_;rw[h];show(if c.length+(t.parts.map T7.d).length<=sizeLine then RT.nx _ else .bad)=_;rw[av<|by rw[aj];exact aS d (by decide)];rfl
theorem JS(c:Sl):∀(L:List T7) (acc:List D) (s2:Sl),(∀t∈L,o [t.d]=.ok (.lst<|t.parts.map T7.d))->acc.length+(L.flatMap T7.parts).length<=1000000->
 ∃d,oh (gV 2) (sN a Fi o) (L.map T7.d) [c,.ow acc,s2]=.nx [c,.ow<|acc++(L.flatMap T7.parts).map T7.d,d]
 |[],acc,s2,_,_=>⟨s2,by rw[List.flatMap_nil,dS,bf];rfl⟩
 |t::L,acc,s2,h,f=>by rw[gf,ao]at f;obtain⟨d,e⟩:=JS c L (acc++t.parts.map T7.d) (.sh t.d) (λu i=>h u (.tail _ i)) (by rw[ao,aj];omega);refine⟨d,?_⟩;rw[gf,bF,<-bS,<-e];show turnT (sN a Fi o [c,.ow acc,.sh t.d]) (oh (gV 2) (sN a Fi o)<|L.map T7.d)=_;rw[VO (h t<|.head _) c acc<|by omega];rfl
theorem Jn(i:∀t:T7,Fi [t.d]=.ok (.lst<|t.kids.map T7.d)):∀(n:Nat) (t:T7),t.dep<n->t.parts.length<=1000000->
 rC (λF c=>jM<|rD a Fi F<|jR 3 c) n [t.d]=.ok (.lst<|t.parts.map T7.d)
 |0,t,h,_=>by omega
 |n+1,t,h,l=>by
  have d:=l;rw[JR,aq]at d;have k:∀u∈t.kids,rC (λF c=>jM (rD a Fi F (jR 3 c))) n [u.d]=.ok (.lst (u.parts.map T7.d)):=λu f=>Jn i n u (by have:=Sf f;omega) (by
   have:u.parts.length<=(t.kids.flatMap T7.parts).length:=by obtain⟨x,y,e⟩:=List.append_of_mem f;rw[e,List.flatMap_append,gf,ao,ao];omega
   omega)
  obtain⟨j,e⟩:=JS (a:=a) (Fi:=Fi) (.sh t.d) t.kids [t.d] .no k (by simp only[aq,dE];omega);show jM (rD a Fi (rC (λF c=>jM<|rD a Fi F<|jR 3 c) n) [.sh t.d,.no,.no])=_;generalize rC (λF c=>jM<|rD a Fi F<|jR 3 c) n=o at*;have p:tF 1 (λρ=>((aa (dV 0) iU) ρ).bind jF) [.sh t.d,.no,.no]=.nx [.sh t.d,.ow [t.d],.no]:=rfl;have m:uN (λρ=>((dA Fi<|aa (dV 0) iU) ρ).bind ke) (gV 2) (sN a Fi o) [.sh t.d,.ow [t.d],.no]=.nx [.sh t.d,.ow<|[t.d]++(t.kids.flatMap T7.parts).map T7.d,j]:=by rw[<-e];show toS ((Fi [t.d]).bind ke) _=_;rw[i t];rfl
  unfold rD;show jM (rX (tF 1 (λρ=>((aa (dV 0) iU) ρ).bind jF) [.sh t.d,.no,.no]) _)=_;rw[p];show jM (rX (uN (λρ=>((dA Fi<|aa (dV 0) iU) ρ).bind ke) (gV 2) (sN a Fi o) [.sh t.d,.ow [t.d],.no]) _)=_;rw[m,JR];rfl
theorem GL{d j:Type}{f:d->D}{k:d->Option j}{g:j->D}{fc:Ev->R Bool}{fe:jq}:∀L:List d,(∀x∈L,k x=none->fc [.sh<|f x]=.ok false)->(∀x∈L,∀y,k x=some y->fc [.sh<|f x]=.ok true/\fe [.sh<|f x]=.ok (g y))->
 l0 (gV 0) fc fe [.no] (L.map f)=some ((L.filterMap k).map g)
 |[],_,_=>rfl
 |x::L,l,i=>by
  have n:=GL (f:=f) (k:=k) (g:=g) (fc:=fc) (fe:=fe) L (λy h=>l y<|.tail _ h) (λy h=>i y<|.tail _ h);show(some [Sl.sh<|f x]).bind (λc=>(oz<|fc c).bind λb=>if b=true then(oz<|fe c).bind λv=>(l0 (gV 0) fc fe [.no]<|L.map f).bind λm=>some (v::m)else l0 (gV 0) fc fe [.no] (L.map f))=_;rw[Option.bind_some,n];cases q:k x with
  |none=>rw[List.filterMap_cons_none q,l x (.head _) q];rfl
  |some y=>rw[gp q,(i x (.head _) y q).1,(i x (.head _) y q).2];rfl
def xP{c d:Type}{f:c->D}{k:c->Option d}{g:d->D}{fc:Ev->R Bool}{fe:jq}{h:Ev->R (List D)}{ρ:Ev}{L:List c}(j:h ρ=.ok (L.map f))(i:L.length<=1000000)(m:∀x∈L,k x=none->fc [.sh<|f x]=.ok false)(l:∀x∈L,∀y,k x=some y->fc [.sh<|f x]=.ok true/\fe [.sh<|f x]=.ok (g y)):
    kM h 1 [] (gV 0) fc fe ρ=.ok ((L.filterMap k).map g):=by
 unfold kM;rw[j];show(if(L.map f).length<=sizeLine then tw (l0 (gV 0) fc fe [.no]<|L.map f)else .bad)=_;rw[av<|by rw[aj];exact aS i (by decide),GL L m l];rfl
def ug{c:Type}{f g:c->D}{fe:jq}{d:Ev->R (List D)}{ρ:Ev}{L:List c}(l:d ρ=.ok (L.map f))(i:L.length<=1000000)(m:∀x∈L,fe [.sh<|f x]=.ok (g x)):
    kM d 1 [] (gV 0) (λ_=>.ok true) fe ρ=.ok (L.map g):=by
 have:=xP (k:=λx=>some x) (g:=g) (fc:=λ_=>.ok true) (fe:=fe) l i (λx _ h=>by cases h) (λx j y h=>by cases h;exact⟨rfl,m x j⟩);rw[this,List.filterMap_some]
theorem IF{c:Type}{f:c->D}{g:c->Key}(h:∀x,nu (f x)=some (g x)):∀d:List c,ly (d.map f)=some (d.map g)
 |[]=>rfl
 |n::r=>by show(nu<|f n).bind (λk=>(ly<|r.map f).map (k:: ·))=_;rw[IF h r,h];rfl
def Bt{c:Type}{f:c->D}(h:∀x,kg (f x)=some sg)(L:List c):mS (L.map f)=true:=by
 cases L with
 |nil=>rfl
 |cons x r=>show((kg<|f x).isSome&&(r.map f).all λe=>kg e==kg (f x))=true;rw[h x,aQ];refine⟨rfl,cF.mpr λd i=>?_⟩;obtain⟨y,_,rfl⟩:=aI.mp i;rw[h y];exact gu _
theorem Kb{c:Type}{f:c->D}:∀i,(∀d∈i,∃n,d=f n)->∃L:List c,i=L.map f
 |[],_=>⟨[],rfl⟩
 |d::r,h=>by obtain⟨n,rfl⟩:=h d (.head _);obtain⟨L,rfl⟩:=Kb r λd j=>h d (.tail _ j);exact⟨n::L,rfl⟩
theorem GS:∀c:List Key,(dd c).length<=c.length
 |[]=>ag _
 |k::r=>by
  have:=GS r;unfold dd;split;·rw[aq];omega
  ·rw[aq,aq];omega
def TX(ks d):d∈kI ((dd ks).map kD)↔∃k∈ks,d=kD k:=by rw[(nC _).mem_iff,aI];exact⟨λ⟨k,h,e⟩=>⟨k,(tr k ks).mp h,e.symm⟩,λ⟨k,h,e⟩=>⟨k,(tr k ks).mpr h,e.symm⟩⟩
def K9{j:Type}{f:j->D}{g:j->Key}(p:∀x,nu (f x)=some (g x))(r:∀x,kD (g x)=f x)(w:∀x,kg (f x)=some sg)(q:∀x y,f x=f y->x=y)(c:List j)(h:c.length<64):∃L:List j,nT (.lst<|c.map f)=.ok (L.map f)/\(∀x,x∈L↔x∈c)/\L.length<=c.length:=by
 have l:∀d,d∈kI ((dd (c.map g)).map kD)↔∃n∈c,d=f n:=λd=>(TX (c.map g) d).trans ⟨λ⟨k,u,e⟩=>by obtain⟨n,i,rfl⟩:=aI.mp u;exact⟨n,i,e.trans (r n)⟩,λ⟨n,i,e⟩=>⟨g n,aI.mpr ⟨n,i,rfl⟩,e.trans (r n).symm⟩⟩
 obtain⟨L,e⟩:=Kb (f:=f) (kI ((dd (c.map g)).map kD)) λd v=>let⟨n,_,h⟩:=(l d).mp v;⟨n,h⟩;rw[e]at l;refine⟨L,?_,λx=>⟨λm=>?_,λm=>?_⟩,?_⟩
 ·show(match ly (c.map f)with|some s=>if mS (c.map f)=true/\(c.map f).length<64 then R.ok (kI<|(dd s).map kD)else .bad|none=>.bad)=_;rw[IF p];show(if mS (c.map f)=true/\(c.map f).length<64 then R.ok (kI<|(dd<|c.map g).map kD)else .bad)=_;rw[av ⟨Bt w c,by rw[aj];exact h⟩,e]
 ·obtain⟨n,i,e⟩:=(l<|f x).mp (aI.mpr ⟨x,m,rfl⟩);rw[q _ _ e];exact i
 ·obtain⟨y,t,e⟩:=aI.mp ((l<|f x).mpr ⟨x,m,rfl⟩);rw[<-q _ _ e];exact t
 ·have p:=bD List.length e;rw[(nC _).length_eq,aj,aj]at p;have:=GS (c.map g);rw[aj]at this;omega
def La(c:List Int)(h:c.length<64):∃L:List Int,nT (.lst<|c.map D.int)=.ok (L.map D.int)/\(∀x,x∈L↔x∈c)/\L.length<=c.length:=K9 (g:=Sum.inl) (sg:=[0]) (λ_=>rfl) (λ_=>rfl) (λ_=>rfl) (λ_ _ e=>by cases e;rfl) c h
inductive Ask where
 |here|back(n:Int)|on(n:Int)|at(w:Str)
def Ask.d:Ask->D
 |.here=>.tup [.str "here"]
 |.back n=>.tup [.str "back",.int n]
 |.on n=>.tup [.str "on",.int n]
 |.at w=>.tup [.str "at",.str w]
def F7:T7->Option Ask
 |.far .back n=>some (.back n)
 |.far .ago n=>some (.back n)
 |.far .on n=>some (.on n)
 |.far .rY n=>some (.on n)
 |.at w=>some (.at w)
 |_=>none
def vC:T7->Option Int
 |.far .back n=>some n
 |.far .ago n=>some n
 |_=>none
def wb:T7->Option Int
 |.far .on n=>some n
 |.far .rY n=>some n
 |_=>none
def vo:T7->Option Str
 |.at w=>some w
 |_=>none
def T7.asks(t:T7):List Ask:=t.parts.filterMap F7
def qM{f:Ev->R (List D)}(h:f ρ=.ok X):jw f ρ=.ok (.lst X):=by unfold jw;rw[h];rfl
def DY{f:Ev->R (List D)}(h:f ρ=.ok X)(c:nT (.lst X)=.ok Y)(d:i<ρ.length):lz i (jw<|λρ=>((jw f) ρ).bind nT) ρ=.nx (ρ.set i<|.sh<|.lst Y):=by have e:jw (λρ=>((jw f) ρ).bind nT) ρ=.ok (.lst Y):=qM (by rw[qM h];exact c);show toS (jw (λρ=>((jw f) ρ).bind nT) ρ) _=_;rw[e];exact av d
def Bb{f:Ev->R (List D)}(d:ρ[i]?=some (.ow X))(h:f ρ=.ok Y)(c:X.length+Y.length<=1000000):pP i (jw f) ρ=.nx (ρ.set i<|.ow<|X++Y):=by unfold pP;rw[d];show toS (jw f ρ) _=_;rw[qM h];exact av (aS c<|by decide)
abbrev cA(u v:Str):Ev->R (List D):=kM (λρ=>((dV 1) ρ).bind ke) 1 [] (gV 0) (b1 tB<|d2 mz (iY 0 0)<|dA jz<|aa (jg u)<|aa (jg v) iU) (iY 0 1)
abbrev cE(i:Nat)(u:Str):jq:=jw (kM (λρ=>((dV i) ρ).bind ke) 1 [] (gV 0) (λ_=>.ok true)<|dA jz<|aa (jg u)<|aa (dV 0) iU)
def SN{t:T7}(T:o [t.d]=.ok (.lst<|t.parts.map T7.d))(hz:t.parts.length<64):
    ∃A:List Ask,jM (yd a o<|jR 6 [t.d])=.ok (.lst<|A.map Ask.d)/\A.length<=3*t.parts.length+1/\∀x,x∈A↔x=.here\/x∈t.asks:=by
 have M:t.parts.length<=1000000:=by omega
 have I {V:Type} (k:T7->Option V):(t.parts.filterMap k).length<64:=bY (dh ..) hz;obtain⟨B,eB,mB,lB⟩:=La (t.parts.filterMap vC) (I _);obtain⟨O,eO,mO,lO⟩:=La (t.parts.filterMap wb) (I _);obtain⟨W,eW,mW,lW⟩:=K9 (f:=D.str) (g:=Sum.inr) (sg:=[1]) (λ_=>rfl) (λ_=>rfl) (λ_=>rfl) (λ_ _ e=>by cases e;rfl) (t.parts.filterMap vo) (I _);have fB:=I vC;have gB:=dh vC t.parts;have gO:=dh wb t.parts;have gW:=dh vo t.parts;have fO:=I wb;have fW:=I vo;refine⟨.here::(B.map .back++(O.map .on++W.map .at)),?_,by simp only[aq,ao,aj];omega,λx=>?_⟩
 ·generalize N:t.parts.map T7.d=P at T;have c1:∀ρ:Ev,ρ[1]?=some (.sh<|.lst P)->cA "back" "ago" ρ=.ok ((t.parts.filterMap vC).map D.int):=λρ C=>by
   refine xP (f:=T7.d) (L:=t.parts) (k:=vC) (by show(dV 1 ρ).bind ke=_;unfold dV;rw[C,N];rfl) M (λx _ J=>?_) (λx _ y G=>?_)
   ·cases x with
    |far k n=>cases k<;>first|cases J;done|kernel_rfl
    |bin k l r=>cases k<;>kernel_rfl
    |_=>kernel_rfl
   ·cases x with
    |far k n=>cases k<;>first|(cases G;done)|(cases G;exact⟨by kernel_rfl,rfl⟩)
    |_=>cases G
  have c2:∀ρ:Ev,ρ[1]?=some (.sh<|.lst P)->cA "on" "until" ρ=.ok ((t.parts.filterMap wb).map D.int):=λρ C=>by
   refine xP (f:=T7.d) (L:=t.parts) (k:=wb) (by show(dV 1 ρ).bind ke=_;unfold dV;rw[C,N];rfl) M (λx _ J=>?_) (λx _ y G=>?_)
   ·cases x with
    |far k n=>cases k<;>first|cases J;done|kernel_rfl
    |bin k l r=>cases k<;>kernel_rfl
    |_=>kernel_rfl
   ·cases x with
    |far k n=>cases k<;>first|(cases G;done)|(cases G;exact⟨by kernel_rfl,rfl⟩)
    |_=>cases G
  have c3:∀ρ:Ev,ρ[1]?=some (.sh<|.lst P)->kM (λρ=>((dV 1) ρ).bind ke) 1 [] (gV 0) (b1 tB<|d2 jJ (iY 0 0)<|jg "at") (iY 0 1) ρ=.ok ((t.parts.filterMap vo).map D.str):=λρ C=>by
   refine xP (f:=T7.d) (L:=t.parts) (k:=vo) (by show(dV 1 ρ).bind ke=_;unfold dV;rw[C,N];rfl) M (λx _ J=>?_) (λx _ y G=>?_)
   ·cases x with
    |far k n=>cases k<;>kernel_rfl
    |bin k l r=>cases k<;>kernel_rfl
    |«at» w=>cases J
    |_=>kernel_rfl
   ·cases x with
    |«at» w=>cases G;exact⟨by kernel_rfl,rfl⟩
    |_=>cases G
  have n1:∀(c q j d s:Sl),lz 2 (jw<|λρ=>((jw<|cA "back" "ago") ρ).bind nT) [c,.sh<|.lst P,q,j,d,s]=.nx [c,.sh<|.lst P,.sh<|.lst<|B.map D.int,j,d,s]:=λc q j d s=>DY (c1 _ rfl) eB (ai rfl);have Z:∀(c q j d s:Sl),lz 3 (jw<|λρ=>((jw<|cA "on" "until") ρ).bind nT) [c,.sh<|.lst P,q,j,d,s]=.nx [c,.sh<|.lst P,q,.sh<|.lst<|O.map D.int,d,s]:=λc q j d s=>DY (c2 _ rfl) eO (ai rfl);have Y:∀(c q j d s:Sl),lz 4 (jw<|λρ=>((jw<|kM (λρ=>((dV 1) ρ).bind ke) 1 [] (gV 0) (b1 tB<|d2 jJ (iY 0 0)<|jg "at")<|iY 0 1) ρ).bind nT) [c,.sh<|.lst P,q,j,d,s]=.nx [c,.sh<|.lst P,q,j,.sh<|.lst<|W.map D.str,s]:=λc q j d s=>DY (c3 _ rfl) eW (ai rfl)
  have e1:∀(c z j d:Sl) (X:List D),X.length<=10000->pP 5 (cE 2 "back") [c,z,.sh<|.lst<|B.map D.int,j,d,.ow X]=.nx [c,z,.sh<|.lst<|B.map D.int,j,d,.ow<|X++(B.map Ask.back).map Ask.d]:=λc z j d X U=>Bb (i:=5) rfl (by rw[bg];exact ug (f:=D.int) (L:=B) rfl (by omega) λx _=>rfl) (by rw[aj,aj];omega)
  have e2:∀(c z q d:Sl) (X:List D),X.length<=10000->pP 5 (cE 3 "on") [c,z,q,.sh<|.lst<|O.map D.int,d,.ow X]=.nx [c,z,q,.sh<|.lst<|O.map D.int,d,.ow<|X++(O.map Ask.on).map Ask.d]:=λc z j d X U=>Bb (i:=5) rfl (by rw[bg];exact ug (f:=D.int) (L:=O) rfl (by omega) λx _=>rfl) (by rw[aj,aj];omega)
  have e3:∀(c z q j:Sl) (X:List D),X.length<=10000->pP 5 (cE 4 "at") [c,z,q,j,.sh<|.lst<|W.map D.str,.ow X]=.nx [c,z,q,j,.sh<|.lst<|W.map D.str,.ow<|X++(W.map Ask.at).map Ask.d]:=λc z j d X U=>Bb (i:=5) rfl (by rw[bg];exact ug (f:=D.str) (L:=W) rfl (by omega) λx _=>rfl) (by rw[aj,aj];omega)
  have h0:lz 1 (dA o<|aa (dV 0) iU) [.sh t.d,.no,.no,.no,.no,.no]=.nx [.sh t.d,.sh<|.lst P,.no,.no,.no,.no]:=by show toS (o [t.d]) _=_;rw[T];rfl
  have p:∀{g h:jO} {ρ so:Ev},g ρ=.nx so->kf g h ρ=h so:=λe=>by unfold kf;rw[e];rfl
  unfold yd;show jM (kf _ _ [.sh t.d,.no,.no,.no,.no,.no])=_;rw[p h0,p<|n1 _ _ _ _ _,p<|Z _ _ _ _ _,p<|Y _ _ _ _ _];have ho:tF 5 (λρ=>((aa (dA jz<|aa (jg "here") iU) iU) ρ).bind jF) [.sh t.d,.sh<|.lst P,.sh<|.lst<|B.map D.int,.sh<|.lst<|O.map D.int,.sh<|.lst<|W.map D.str,.no]=.nx [.sh t.d,.sh<|.lst P,.sh<|.lst<|B.map D.int,.sh<|.lst<|O.map D.int,.sh<|.lst<|W.map D.str,.ow [Ask.here.d]]:=rfl;rw[p ho,p<|e1 _ _ _ _ _<|by simp,p<|e2 _ _ _ _ _<|by simp only[ao,aj,aq,dE];omega,p<|e3 _ _ _ _ _<|by simp only[ao,aj,aq,dE];omega];show R.ok (D.lst _)=_
  congr 2
  simp
 ·have Q:∀y:Ask,y∈t.asks↔∃u∈t.parts,F7 u=some y:=λy=>bB;rw[Q];simp only[aD,bh,aI,mB,mO,mW,bB];constructor
  ·rintro (h|⟨n,⟨u,F,e⟩,rfl⟩|⟨n,⟨u,F,e⟩,rfl⟩|⟨w,⟨u,F,e⟩,rfl⟩)
   ·exact .inl h
   ·refine .inr ⟨u,F,?_⟩;cases u with
    |far k m=>cases k<;>first|(cases e;done)|(cases e;rfl)
    |_=>cases e
   ·refine .inr ⟨u,F,?_⟩;cases u with
    |far k m=>cases k<;>first|(cases e;done)|(cases e;rfl)
    |_=>cases e
   ·refine .inr ⟨u,F,?_⟩;cases u with
    |«at» v=>cases e;rfl
    |_=>cases e
  ·rintro (h|⟨u,F,e⟩)
   ·exact .inl h
   ·cases u with
    |far k m=>
     cases k with
     |back=>cases e;exact .inr (.inl ⟨m,⟨_,F,rfl⟩,rfl⟩)
     |ago=>cases e;exact .inr (.inl ⟨m,⟨_,F,rfl⟩,rfl⟩)
     |on=>cases e;exact .inr (.inr<|.inl ⟨m,⟨_,F,rfl⟩,rfl⟩)
     |rY=>cases e;exact .inr (.inr<|.inl ⟨m,⟨_,F,rfl⟩,rfl⟩)
    |«at» w=>cases e;exact .inr (.inr<|.inr ⟨w,⟨_,F,rfl⟩,rfl⟩)
    |_=>cases e
variable{a:Ad}
variable{j p:jj}{S S1 C E:i3}{f g h:jm}{i:Nat}{z:Z}{c:jj->i3->RX Bool}{u v:jC}
def jx(e:u j S=.nx p S1):iV u v j S=v p S1:=by unfold iV;rw[e];rfl
def pe(e:u j S=.rt z S1):iV u v j S=.rt z S1:=by unfold iV;rw[e];rfl
def jS(e:f j S=.ok z S1)(d:i<j.length):jd i f j S=.nx (j.set i<|some z) S1:=by unfold jd;rw[e];exact av d
def y_ret(e:f j S=.ok z S1):jG f j S=.rt z S1:=by unfold jG;rw[e];rfl
def mf(e:c j S=.ok true S1):jE c u v j S=u j S1:=by unfold jE;rw[e];rfl
def r6(e:c j S=.ok false S1):jE c u v j S=v j S1:=by unfold jE;rw[e];rfl
def lg{w}(e:c j S=.ok false S1):iV (jE c u j5) w j S=w j S1:=jx (r6 e)
def wL{w}(e:c j S=.ok true S1)(h:u j S1=.rt z C):iV (jE c u j5) w j S=.rt z C:=pe ((mf e).trans h)
def kJ(e:j[i]?=some (some z)):zV i j S=.ok z S:=by unfold zV;rw[e]
def i0{q:jq}{d}(e:q (lF j)=.ok d):zD q j S=.ok (.d d) S:=by unfold zD;rw[e];rfl
def mh{q:Ev->R Bool}{d}(e:q (lF j)=.ok d):zB q j S=.ok d S:=by unfold zB;rw[e];rfl
def u4{q:jq}{d}(e:q (vw S j)=.ok d)(h:oW d=true):zR q j S=.ok (.d d) S:=by unfold zR;rw[e];exact av h
def zW{q:Ev->R Bool}{d}(e:q (vw S j)=.ok d):qa q j S=.ok d S:=by unfold qa;rw[e]
def jN:i4 j S=.ok [] S:=rfl
def i7{r:jj->i3->RX (List Z)}(e:f j S=.ok z S1)(d:r j S1=.ok zs C):iM f r j S=.ok (z::zs) C:=by unfold iM;rw[e];show((r j S1).bind _)=_;rw[d];rfl
def lY{q:je}{r:jj->i3->RX (List Z)}(k:List D){d}(e:r j S=.ok (k.map .d) S1)(l:q k=.ok d):zF q r j S=.ok (.d d) S1:=by
 unfold zF;rw[e];show(match lI (k.map Z.d)with
 |some k=>(lG (q k) S1).bind λd S=>RX.ok (Z.d d) S
 |none=>.bad)=_
 rw[rn];show(lG (q k) S1).bind _=_;rw[l];rfl
def lH{q:D->D->R D}{w}(l:f j S=.ok (.d x) S1)(k:g j S1=.ok (.d y) C)(d:q x y=.ok w):z2 q f g j S=.ok (.d w) C:=by unfold z2;rw[l];show((g j S1).bind _)=_;rw[k];show((lG (q x y) C).bind _)=_;rw[d];rfl
def z5{q:D->R Bool}{k}(l:f j S=.ok (.d x) S1)(d:q x=.ok k):ph q f j S=.ok k S1:=by unfold ph;rw[l];show lG (q x) S1=_;rw[d];rfl
def lh{F:ji}{r:jj->i3->RX (List Z)}(e:r j S=.ok zs S1)(d:F zs S1=x):zZ F r j S=x:=by unfold zZ;rw[e];exact d
def acr(d:c j S=.ok true S1):tM c e j S=e j S1:=by unfold tM;rw[d];rfl
def acs(d:c j S=.ok false S1):tM c e j S=.ok false S1:=by unfold tM;rw[d];rfl
def zY(e:f j S=.ok z S1):wR f j S=.ok (vU z) S1:=by unfold wR;rw[e];rfl
def L1(e:f j S=.ok z S1):wU f j S=.ok (!vU z) S1:=by unfold wU;rw[e];rfl
def acv{n k}(h:f j S=.ok (.loc n) S)(d:g j S=.ok (.d<|.tup ds) S)(l:ly ds=some k)(m:S[n]?=some (.dt kvs))(hv:valZ kvs k=some z):sd f g j S=.ok z S:=by
 unfold sd;rw[h];show((g j S).bind _)=_;rw[d]
 show(match ly ds,S[n]? with
  |some k,some (.dt kvs)=>(match valZ kvs k with
   |some z=>RX.ok z S
   |none=>.bad)
  |_,_=>.bad)=_
 rw[l,m]
 show(match valZ kvs k with
  |some z=>RX.ok z S
  |none=>.bad)=_
 rw[hv]
end
def Ask.k:Ask->List Key
 |.here=>[.inr "here"]
 |.back n=>[.inr "back",.inl n]
 |.on n=>[.inr "on",.inl n]
 |.at w=>[.inr "at",.inr w]
def F8(x:Ask):∃c,x.d=.tup c/\ly c=some x.k:=by cases x<;>exact⟨_,rfl,rfl⟩
abbrev Env:=Ask->Int×Int×Int
def lo(t b:Int):Int×Int:=(FM.top t b,FM.bot t b)
abbrev oX(x:Int×Int):D:=pr x.1 x.2
def wv(e:Env):T7->Int×Int
 |.num p q=>lo p q
 |.here=>lo (e .here).2.1 (e .here).2.2
 |.at w=>lo (e<|.at w).2.1 (e<|.at w).2.2
 |.far .back n=>lo (e<|.back n).2.1 (e<|.back n).2.2
 |.far .on n=>lo (e<|.on n).2.1 (e<|.on n).2.2
 |.far .ago n=>lo ((e .here).1 - (e<|.back n).1) 1
 |.far .rY n=>lo ((e<|.on n).1 - (e .here).1) 1
 |.times p q t=>lo (p*(wv e t).1) (q*(wv e t).2)
 |.abs t=>lo ((wv e t).1.natAbs:Int) (wv e t).2
 |.bin .add l r=>lo ((wv e l).1*(wv e r).2+(wv e r).1*(wv e l).2) ((wv e l).2*(wv e r).2)
 |.bin .sub l r=>lo ((wv e l).1*(wv e r).2 - (wv e r).1*(wv e l).2) ((wv e l).2*(wv e r).2)
 |_=>(0,1)
def hv(e:Env):T7->Bool
 |.bin .lt l r=>decide ((wv e l).1*(wv e r).2<(wv e r).1*(wv e l).2)
 |.bin .eq l r=>decide (wv e l=wv e r)
 |.not t=>!hv e t
 |.bin .and l r=>hv e l&&hv e r
 |.bin .or l r=>hv e l||hv e r
 |_=>false
inductive Tw:Nat->T7->Prop
 |num {p q:Int}:q≠0->Sz 62 p->Sz 62 q->Tw 62 (.num p q)
 |«at» (w:Str):Tw 62 (.at w)
 |here:Tw 62 .here
 |far (k:Fq) (n:Int):Tw 62 (.far k n)
 |times {p q:Int} {s:Nat} {t:T7}:q≠0->Sz 62 p->Sz 62 q->Tw s t->s<=190->Tw (62+s) (.times p q t)
 |abs {s:Nat} {t:T7}:Tw s t->Tw s (.abs t)
 |add {s r:Nat} {t u:T7}:Tw s t->Tw r u->s<=190->r<=190->Tw (s+r+1) (.bin .add t u)
 |sub {s r:Nat} {t u:T7}:Tw s t->Tw r u->s<=190->r<=190->Tw (s+r+1) (.bin .sub t u)
inductive Cw:T7->Prop
 |lt {s r:Nat} {t u:T7}:Tw s t->Tw r u->s<=190->r<=190->Cw (.bin .lt t u)
 |eq {s r:Nat} {t u:T7}:Tw s t->Tw r u->s<=190->r<=190->Cw (.bin .eq t u)
 |not {t:T7}:Cw t->Cw (.not t)
 |and {t u:T7}:Cw t->Cw u->Cw (.bin .and t u)
 |or {t u:T7}:Cw t->Cw u->Cw (.bin .or t u)
structure tP(e:Env):Prop where
 t:∀x,Sz 61 (e x).1
 p:∀x,Sz 62 (e x).2.1
 q:∀x,Sz 62 (e x).2.2
 n:∀x,(e x).2.2≠0
def oS{s}{t b:Int}(c:b≠0)(d:Sz s t)(f:Sz r b):Sz s (lo t b).1/\Sz r (lo t b).2/\(lo t b).2≠0:=⟨d.top c,f.bot c,λh=>by have:=(FM.BP (t:=t) c).pos;have i:FM.bot t b=0:=h;omega⟩
def wc:Sz 62 1:=by unfold Sz;decide
def rZ(E:tP e){s t}(h:Tw s t):Sz s (wv e t).1/\Sz s (wv e t).2/\(wv e t).2≠0:=by
 induction h with
 |num l j i=>exact oS l j i
 |«at» w=>exact oS (E.n _) (E.p _) (E.q _)
 |here=>exact oS (E.n _) (E.p _) (E.q _)
 |far k n=>
  cases k with
  |back=>exact oS (E.n _) (E.p _) (E.q _)
  |on=>exact oS (E.n _) (E.p _) (E.q _)
  |ago=>exact oS (by decide) ((E.t _).sub (E.t _)) wc
  |rY=>exact oS (by decide) ((E.t _).sub (E.t _)) wc
 |times l j i _ _ f=>exact oS (c0 l f.2.2) (j.mul f.1) (i.mul f.2.1)
 |abs _ f=>exact oS f.2.2 (show Nat.lt _ _ by rw[Int.natAbs_natCast];exact f.1) f.2.1
 |add _ _ _ _ d c=>exact oS (c0 d.2.2 c.2.2) ((d.1.mul c.2.1).add ((c.1.mul d.2.1).mono (by omega))) ((d.2.1.mul c.2.1).mono (by omega))
 |sub _ _ _ _ d c=>exact oS (c0 d.2.2 c.2.2) ((d.1.mul c.2.1).sub ((c.1.mul d.2.1).mono (by omega))) ((d.2.1.mul c.2.1).mono (by omega))
structure Fd(S:i3)(n:Nat)(A:List Ask)(e:Env)(kvs:List<|List Key×Z):Prop where
 at':S[n]?=some (.dt kvs)
 val:∀x∈A,valZ kvs x.k=iN (.tup [.int (e x).1,pr (e x).2.1 (e x).2.2])
abbrev HF(Ff:je):Prop:=∀t b:Int,b≠0->b.natAbs<10^400->Ff [.int t,.int b]=.ok (fr t b)
section
variable{S:i3}{n:Nat}{A:List Ask}{e:Env}{l:List<|List Key×Z}{c r v o B I:je}{H E:ji}{C:jj}{i j:Nat}{x:Ask}
def Bf(F:Fd S n A e l)(h:x∈A)(k:C[i]?=some (ba n))(f:C[j]?=some (iN x.d)):sd (zV i) (zD (dV j)) C S=.ok (.d (.tup [.int (e x).1,pr (e x).2.1 (e x).2.2])) S:=by obtain⟨q,p,m⟩:=F8 x;rw[p]at f;exact acv (kJ k) (i0 (d:=.tup q) (by unfold dV lF;rw[aE,f];rfl)) m F.at' (F.val x h)
def Tg(hf:HF c)(F:Fd S n A e l)(h:x∈A)(f:y∈A)(b):
    i6 (yi a c b (jr 3 [.d x.d,.d y.d,.loc n]) S)=.ok (.d<|fr ((e y).1 - (e x).1) 1) S:=by
 unfold yi;show i6 (jG _ [iN x.d,iN y.d,ba n] S)=_;rw[y_ret<|lY [.int<|(e y).1 - (e x).1,.int 1] (i7 (lH (lH (Bf F f rfl rfl) (i0 (d:=.int 0) rfl) (w:=.int (e y).1) rfl) (lH (Bf F h rfl rfl) (i0 (d:=.int 0) rfl) (w:=.int (e x).1) rfl) rfl)<|i7 (i0 (d:=.int 1) rfl) jN)<|hf _ 1 (by decide)<|by decide];rfl
def Ku(x y):zB (b1 tB<|d2 jJ (dV 2)<|jg y) (s0::s1::iN (.str x)::s3) S=.ok (decide<|x=y) S:=rfl
def ku{k f:Option Z}{d:jj}{x y:Str}{u w:jC}(h:decide (x=y)=false):iV (jE (zB<|b1 tB<|d2 jJ (dV 2)<|jg y) u j5) w (k::f::iN (.str x)::d) S=w (k::f::iN (.str x)::d) S:=lg (by rw[Ku,h])
def pM{k f:Option Z}{d:jj}{x y:Str}{u w:jC}{z:Z}(h:decide (x=y)=true)(m:u (k::f::iN (.str x)::d) S=.rt z S):iV (jE (zB<|b1 tB<|d2 jJ (dV 2)<|jg y) u j5) w (k::f::iN (.str x)::d) S=.rt z S:=wL (by rw[Ku,h]) m
structure Ar(a:Ad)(c r v o B I:je):Prop where
 f:HF c
 p:∀{p q x y:Int},Sz 190 p->Sz 190 q->Sz 190 x->Sz 190 y->q≠0->y≠0->r [pr p q,pr x y]=.ok (fr (p*y+x*q)<|q*y)
 m:∀{p q x y:Int},Sz 190 p->Sz 190 q->Sz 190 x->Sz 190 y->q≠0->y≠0->v [pr p q,pr x y]=.ok (fr (p*y - x*q)<|q*y)
 t:∀{p q x y:Int},Sz 190 p->Sz 190 q->Sz 190 x->Sz 190 y->q≠0->y≠0->o [pr p q,pr x y]=.ok (fr (p*x)<|q*y)
 a:∀{p q:Int},q≠0->Sz 390 q->B [pr p q]=.ok (fr (p.natAbs:Int) q)
 u:∀{p q x y:Int},Sz 190 p->Sz 190 q->Sz 190 x->Sz 190 y->I [pr p q,pr x y]=.ok (.bl<|decide<|p*y<x*q)
abbrev FG(a:Ad)(c r v o B:je)(H:ji):(ji)->ji:=λE zs S=>i6 (oi a c r v o B H E S.length (jr 4 zs) S)
end
variable{a:Ad}
section
variable{S:i3}{n:Nat}{A:List Ask}{e:Env}{I:List<|List Key×Z}{i B C o H f:je}{J c:ji}
def m8{x:Str}{rest:List D}{h z2:Option Z}{k:jj}{v:jC}:iV (jd 2<|zD<|iY 0 0) v (iN (.tup<|.str x::rest)::h::z2::k) S=v (iN (.tup<|.str x::rest)::h::iN (.str x)::k) S:=by refine jx (jS (i0 (d:=.str x) ?_)<|by simp);show jU (.tup<|.str x::rest) (.int 0)=_;unfold jU;dsimp only;rw[show L2.jY (D.str x::rest) 0=some (.str x)from L2.ub (j:=0) rfl];try rfl
def zN{q:Int}{s}(h:Sz s q)(d:s<=400):q.natAbs<10^400:=h.mono d
def zJ(hf:HF i)(E:tP e)(F:Fd S n A e I)(l:x∈A)(b):i6 (oi a i B C o H J c b (jr 4 [.d x.d,.loc n]) S)=.ok (.d<|fr (e x).2.1 (e x).2.2) S:=by
 have h:∀j:Str,(iV (jd 3<|z2 jU (sd (zV 1)<|zD<|dV 0)<|zD<|iP 1)<|jG<|zD<|dA i<|aa (iY 3 0)<|aa (iY 3 1) iU) [iN x.d,ba n,iN<|.str j,none] S=.rt (.d<|fr (e x).2.1 (e x).2.2) S:=λj=>by rw[jx<|jS (lH (Bf F l rfl rfl) (i0 (d:=.int 1) rfl) (w:=pr (e x).2.1 (e x).2.2) rfl)<|ai rfl];exact y_ret (i0<|hf _ _ (E.n x)<|zN (E.q x)<|by decide)
 unfold oi;cases x with
 |here=>show i6 (iV (jd 2 _) _ (iN (.tup<|.str "here"::[])::ba n::none::[none]) S)=_;rw[m8];simp(disch:=decide+kernel)only[ku];first|exact bD i6 (h _)|(rw[h];rfl)
 |back k=>show i6 (iV (jd 2 _) _ (iN (.tup<|.str "back"::[.int k])::ba n::none::[none]) S)=_;rw[m8];simp(disch:=decide+kernel)only[ku];first|exact bD i6 (h _)|(rw[h];rfl)
 |on k=>show i6 (iV (jd 2 _) _ (iN (.tup<|.str "on"::[.int k])::ba n::none::[none]) S)=_;rw[m8];simp(disch:=decide+kernel)only[ku];first|exact bD i6 (h _)|(rw[h];rfl)
 |«at» w=>show i6 (iV (jd 2 _) _ (iN (.tup<|.str "at"::[.str w])::ba n::none::[none]) S)=_;rw[m8];simp(disch:=decide+kernel)only[ku];first|exact bD i6 (h _)|(rw[h];rfl)
def Tw.le{s t}(h:Tw s t):s<=381:=by induction h<;>omega
def tZ{k}{l:T7}(h:x∈l.asks):x∈(T7.bin k l r).asks:=by unfold T7.asks at*;obtain⟨u,d,q⟩:=bB.mp h;exact bB.mpr ⟨u,aX _<|bh.mpr<|.inl d,q⟩
def ua{k}{r:T7}(h:x∈r.asks):x∈(T7.bin k l r).asks:=by unfold T7.asks at*;obtain⟨u,d,q⟩:=bB.mp h;exact bB.mpr ⟨u,aX _<|bh.mpr<|.inr d,q⟩
def nE{F:ji}{t:T7}{d}{q:jq}(k:q (lF ρ)=.ok t.d)(j:ρ[1]?=some (ba n))(h:F [.d t.d,.loc n] S=.ok (.d d) S):zZ F (iM (zD q)<|iM (zV 1) i4) ρ S=.ok (.d d) S:=
 lh (i7 (i0 k)<|i7 (kJ j) jN) h
def TH(R:Ar a i B C o H f)(E:tP e)(F:Fd S n A e I)(hm:∀x y,x∈A->y∈A->J [.d x.d,.d y.d,.loc n] S=.ok (.d<|fr ((e y).1 - (e x).1) 1) S)(Y:Ask.here∈A):
    ∀m {s} {t},Tw s t->t.dep<m->(∀x∈t.asks,x∈A)->nM (FG a i B C o H J) m [.d t.d,.loc n] S=.ok (.d<|oX<|wv e t) S:=by
 intro m;induction m with
 |zero=>intro s t _ h;omega
 |succ m N=>
  intro s t h Q D;show i6 (oi a i B C o H J (nM (FG a i B C o H J) m) S.length (jr 4 [.d t.d,.loc n]) S)=_;cases h with
  |«at» w=>exact zJ (x:=.at w) R.f E F (D _<|.head _) _
  |here=>exact zJ (x:=.here) R.f E F Y _
  |num V h2 U=>rename_i p q;unfold oi;show i6 (iV (jd 2 _) _ (iN (.tup<|.str "num"::[pr p q])::ba n::none::[none]) S)=_;rw[m8];rw[pM (by decide+kernel)<|y_ret<|i0<|R.f p q V<|zN U<|by decide];rfl
  |far k j=>
   cases k with
   |back=>exact zJ (x:=.back j) R.f E F (D _<|.head _) _
   |on=>exact zJ (x:=.on j) R.f E F (D _<|.head _) _
   |ago=>unfold oi;show i6 (iV (jd 2 _) _ (iN (.tup<|.str "ago"::[.int j])::ba n::none::[none]) S)=_;rw[m8];rw[ku<|by decide+kernel];rw[pM (by decide+kernel)<|y_ret<|lh (i7 (i0 (d:=(Ask.back j).d) rfl)<|i7 (i0 (d:=Ask.here.d) rfl)<|i7 (kJ rfl) jN)<|hm (.back j) .here (D _<|.head _) Y];rfl
   |rY=>unfold oi;show i6 (iV (jd 2 _) _ (iN (.tup<|.str "until"::[.int j])::ba n::none::[none]) S)=_;rw[m8];rw[ku<|by decide+kernel,ku<|by decide+kernel];rw[pM (by decide+kernel)<|y_ret<|lh (i7 (i0 (d:=Ask.here.d) rfl)<|i7 (i0 (d:=(Ask.on j).d) rfl)<|i7 (kJ rfl) jN)<|hm .here (.on j) Y<|D _<|.head _];rfl
  |add v O G P=>rename_i s r t u;have d':max t.dep u.dep+1<m+1:=Q;have l:=rZ E v;have L:=rZ E O;have M:=N v (by omega) λx z=>D x (tZ z);have T:=N O (by omega) λx z=>D x (ua z);unfold oi;show i6 (iV (jd 2 _) _ (iN (.tup<|.str "+"::[t.d,u.d])::ba n::none::[none]) S)=_;rw[m8];rw[ku<|by decide+kernel,ku<|by decide+kernel,ku<|by decide+kernel];rw[pM (by decide+kernel)<|y_ret<|lY [oX<|wv e t,oX<|wv e u] (i7 (nE (t:=t) rfl rfl M)<|i7 (nE (t:=u) rfl rfl T) jN)<|R.p (l.1.mono G) (l.2.1.mono G) (L.1.mono P) (L.2.1.mono P) l.2.2 L.2.2];rfl
  |sub v O G P=>rename_i s r t u;have d':max t.dep u.dep+1<m+1:=Q;have l:=rZ E v;have L:=rZ E O;have M:=N v (by omega) λx z=>D x (tZ z);have T:=N O (by omega) λx z=>D x (ua z);unfold oi;show i6 (iV (jd 2 _) _ (iN (.tup<|.str "-"::[t.d,u.d])::ba n::none::[none]) S)=_;rw[m8];rw[ku<|by decide+kernel,ku<|by decide+kernel,ku<|by decide+kernel,ku<|by decide+kernel];rw[pM (by decide+kernel)<|y_ret<|lY [oX<|wv e t,oX<|wv e u] (i7 (nE (t:=t) rfl rfl M)<|i7 (nE (t:=u) rfl rfl T) jN)<|R.m (l.1.mono G) (l.2.1.mono G) (L.1.mono P) (L.2.1.mono P) l.2.2 L.2.2];rfl
  |times V h2 U v G=>rename_i p q s t;have d':t.dep+1<m+1:=Q;have l:=rZ E v;have M:=N v (by omega) λx z=>D x z;unfold oi;show i6 (iV (jd 2 _) _ (iN (.tup<|.str "times"::[pr p q,t.d])::ba n::none::[none]) S)=_;rw[m8];rw[ku<|by decide+kernel,ku<|by decide+kernel,ku<|by decide+kernel,ku<|by decide+kernel,ku<|by decide+kernel];rw[pM (by decide+kernel)<|y_ret<|lY [pr p q,oX<|wv e t] (i7 (i0 (d:=pr p q) rfl)<|i7 (nE (t:=t) rfl rfl M) jN)<|R.t (h2.mono<|by decide) (U.mono<|by decide) (l.1.mono G) (l.2.1.mono G) V l.2.2];rfl
  |abs v=>rename_i t;have d':t.dep+1<m+1:=Q;have l:=rZ E v;have M:=N v (by omega) λx z=>D x z;unfold oi;show i6 (iV (jd 2 _) _ (iN (.tup<|.str "abs"::[t.d])::ba n::none::[none]) S)=_;rw[m8];rw[ku<|by decide+kernel,ku<|by decide+kernel,ku<|by decide+kernel,ku<|by decide+kernel,ku<|by decide+kernel,ku<|by decide+kernel];rw[pM (by decide+kernel)<|y_ret<|lY [oX<|wv e t] (i7 (nE (t:=t) rfl rfl M) jN)<|R.a l.2.2<|l.2.1.mono<|aS v.le<|by decide];rfl
variable{a:Ad}
def Ph(x y:Int×Int):qq (oX x) (oX y)=.ok (.bl<|decide<|x=y):=by
 by_cases h:x=y;·subst h;rw[eq_self rfl<|by show 1<=60;decide,aN rfl]
 ·rw[Pg rfl rfl (by show 1<=60;decide) (by show 1<=60;decide) λd=>h ?_,aG h];injection d with d;injection d with h1 h2;injection h1 with h1;injection h2 with h2 _;injection h2 with h2;exact Prod.ext h1 h2
abbrev sD(a:Ad)(f:je)(c:ji):(ji)->ji:=λZh zs S=>i6 (vL a f c Zh S.length (jr 3 zs) S)
def SX(R:Ar a i B C o H f)(E:tP e)(M)(y:∀{s} {t},Tw s t->t.dep<M->(∀x∈t.asks,x∈A)->c [.d t.d,.loc n] S=.ok (.d<|oX<|wv e t) S):
    ∀m {t},Cw t->t.dep<m->t.dep<M->(∀x∈t.asks,x∈A)->nM (sD a f c) m [.d t.d,.loc n] S=.ok (.d<|.bl<|hv e t) S:=by
 intro m;induction m with
 |zero=>intro t _ h;omega
 |succ m p=>
  intro t h N v k;show i6 (vL a f c (nM (sD a f c) m) S.length (jr 3 [.d t.d,.loc n]) S)=_;unfold vL;cases h with
  |lt j l G F=>rename_i s r t u;have D:max t.dep u.dep+1<M:=v;have P:=rZ E j;have O:=rZ E l;show i6 (iV (jd 2 _) _ (iN (.tup<|.str "<"::[t.d,u.d])::ba n::none::[]) S)=_;rw[m8];rw[pM (by decide+kernel)<|y_ret<|lY [oX<|wv e t,oX<|wv e u] (i7 (nE (t:=t) rfl rfl<|y j (by omega) λx d=>k x<|tZ d)<|i7 (nE (t:=u) rfl rfl<|y l (by omega) λx d=>k x<|ua d) jN)<|R.u (P.1.mono G) (P.2.1.mono G) (O.1.mono F)<|O.2.1.mono F];rfl
  |eq j l G F=>rename_i s r t u;have D:max t.dep u.dep+1<M:=v;show i6 (iV (jd 2 _) _ (iN (.tup<|.str "="::[t.d,u.d])::ba n::none::[]) S)=_;rw[m8,ku<|by decide+kernel];rw[pM (by decide+kernel)<|y_ret<|lH (nE (t:=t) rfl rfl<|y j (by omega) λx d=>k x<|tZ d) (nE (t:=u) rfl rfl<|y l (by omega) λx d=>k x<|ua d)<|Ph (wv e t)<|wv e u];rfl
  |not j=>
   rename_i t;have D:t.dep+1<m+1:=N;have w:t.dep+1<M:=v;have q:=p j (by omega) (by omega) λx d=>k x d;show i6 (iV (jd 2 _) _ (iN (.tup<|.str "not"::[t.d])::ba n::none::[]) S)=_;rw[m8,ku<|by decide+kernel,ku<|by decide+kernel];have z:zQ (zZ (nM (sD a f c) m)<|iM (zD<|iY 0 1)<|iM (zV 1) i4) (iN (.tup<|.str "not"::[t.d])::ba n::iN (.str "not")::[]) S=.ok (.d<|.bl<|!hv e t) S:=by unfold zQ;rw[nE (t:=t) rfl rfl q];rfl
   rw[pM (by decide+kernel)<|y_ret z];rfl
  |and j l=>
   rename_i t u;have D:max t.dep u.dep+1<m+1:=N;have w:max t.dep u.dep+1<M:=v;have q:=p j (by omega) (by omega) λx d=>k x (tZ d);have L:=p l (by omega) (by omega) λx d=>k x (ua d);show i6 (iV (jd 2 _) _ (iN (.tup<|.str "and"::[t.d,u.d])::ba n::none::[]) S)=_;rw[m8,ku<|by decide+kernel,ku<|by decide+kernel,ku<|by decide+kernel];have z:pY (zZ (nM (sD a f c) m)<|iM (zD<|iY 0 1)<|iM (zV 1) i4) (zZ (nM (sD a f c) m)<|iM (zD<|iY 0 2)<|iM (zV 1) i4) (iN (.tup<|.str "and"::[t.d,u.d])::ba n::iN (.str "and")::[]) S=.ok (.d<|.bl<|hv e t&&hv e u) S:=by
    unfold pY;rw[nE (t:=t) rfl rfl q];show(if hv e t=true then _ else _)=_;cases hv e t with
    |true=>rw[av rfl,nE (t:=u) rfl rfl L];rfl
    |false=>rw[aw ax];rfl
   rw[pM (by decide+kernel)<|y_ret z];rfl
  |or j l=>
   rename_i t u;have D:max t.dep u.dep+1<m+1:=N;have w:max t.dep u.dep+1<M:=v;have q:=p j (by omega) (by omega) λx d=>k x (tZ d);have L:=p l (by omega) (by omega) λx d=>k x (ua d);show i6 (iV (jd 2 _) _ (iN (.tup<|.str "or"::[t.d,u.d])::ba n::none::[]) S)=_;rw[m8,ku<|by decide+kernel,ku<|by decide+kernel,ku<|by decide+kernel,ku<|by decide+kernel];have z:zS (zZ (nM (sD a f c) m)<|iM (zD<|iY 0 1)<|iM (zV 1) i4) (zZ (nM (sD a f c) m)<|iM (zD<|iY 0 2)<|iM (zV 1) i4) (iN (.tup<|.str "or"::[t.d,u.d])::ba n::iN (.str "or")::[]) S=.ok (.d<|.bl<|hv e t||hv e u) S:=by
    unfold zS;rw[nE (t:=t) rfl rfl q];show(if hv e t=true then _ else _)=_;cases hv e t with
    |true=>rw[av rfl];rfl
    |false=>rw[aw ax,nE (t:=u) rfl rfl L];rfl
   rw[y_ret z];rfl
end
variable{a:Ad}
section
variable{c:Type}[DecidableEq c]{a:List<|c×Z}{k b:c}{v:Z}
def tL(x):valZ (x::a) k=if x.1=k then some x.2 else valZ a k:=by
 unfold valZ;by_cases h:x.1=k;·rw[gZ<|by simpa using h,av h];rfl
 ·rw[hA<|by simpa using h,aw h]
def acd(x):valZ (a++[x]) k=(match valZ a k with|some z=>some z|none=>if x.1=k then some x.2 else none):=by
 induction a with
 |nil=>exact tL x
 |cons y r d=>
  rw[List.cons_append,tL,tL];by_cases h:y.1=k;·rw[av h,av h]
  ·rw[aw h,aw h,d]
def ace(h:(a.any λd=>decide<|d.1=k)=false):valZ a k=none:=by unfold valZ;rw[fV.mpr λx f=>by simpa using bV.mp h x f];rfl
def wI:valZ (ki a k v) b=if k=b then some v else valZ a b:=by
 unfold ki;cases h:a.any λi=>decide (i.1=k)with
 |false=>
  rw[aw ax,acd];by_cases e:k=b;·subst e;rw[ace h,av rfl];try rfl
  ·rw[aw e];cases valZ a b<;>simp[e]
 |true=>
  rw[av rfl];by_cases e:k=b
  ·subst e;rw[av rfl];induction a with
   |nil=>cases h
   |cons x r f=>
    rw[aR,tL];by_cases d:x.1=k;·rw[av d,av d]
    ·rw[aw d,aw d];rw[cJ,aG d,gg]at h;exact f h
  ·rw[aw e];clear h;induction a with
   |nil=>rfl
   |cons x r f=>
    rw[aR,tL,tL,f];by_cases d:x.1=k;·rw[av d,aw<|show¬(x.1,v).1=b from λw=>e<|d.symm.trans w,aw λw=>e<|d.symm.trans w]
    ·rw[aw d]
def IV:(ki a k v).length<=a.length+1:=by
 unfold ki;split;·rw[aj];omega
 ·rw[ao];exact ag _
def Bm{n}(h:((ki a k v).any λp=>ml n p.2)=true):(a.any λp=>ml n p.2)=true\/ml n v=true:=by
 obtain⟨x,d,q⟩:=cV.mp h;unfold ki at d;split at d
 ·obtain⟨y,f,rfl⟩:=aI.mp d;by_cases e:y.1=k;·rw[av e]at q;exact .inr q
  ·rw[aw e]at q;exact .inl (cV.mpr ⟨y,f,q⟩)
 ·rcases bh.mp d with d|d;·exact .inl (cV.mpr ⟨x,d,q⟩)
  ·rw[aP]at d;subst d;exact .inr q
end
abbrev n7(S:i3)(j:Nat):Prop:=S.any (kC j)=false
def mm(S:i3):Prop:=∀j,S.length<=j->n7 S j
def qY(h:n7 S j)(d:kC j c=false):n7 (S++[c]) j:=by show(S++[c]).any (kC j)=false;rw[hU,h];simpa using d
def nc{n}(h:n7 S j)(f:kC j c=false):n7 (S.set n c) j:=
 bV.mpr λx d=>by
  rcases List.mem_or_eq_of_mem_set d with d|d;·exact bV.mp h x d
  ·subst d;rw[f];exact ax
def my(L:List D)(j):kC j (.li<|L.map Z.d)=false:=by show(L.map Z.d).any (ml j)=false;rw[hC];exact bV.mpr λ_ _=>nofun
structure Gr(S S':i3):Prop where
 len:S.length<=S'.length
 pre:∀j,j<S.length->S'[j]?=S[j]?
 sf:∀j,j<S.length->n7 S j->n7 S' j
 bnd:mm S->mm S'
def Gr.trans(g:Gr S S1)(h:Gr S1 S2):Gr S S2:=⟨aS g.len h.len,λj c=>(h.pre j<|aF c g.len).trans (g.pre j c),λj c s=>h.sf j (aF c g.len)<|g.sf j c s,λb=>h.bnd<|g.bnd b⟩
def Gr.app(f:∀j,kC j c=false):Gr S (S++[c]):=⟨by rw[ao];exact cG ..,λj d=>ay d,λj _ h=>qY h<|f j,λb j d=>qY (b j<|by rw[ao]at d;omega)<|f j⟩
def Gr.get{S S':i3}{n:Nat}{c:Cell}(g:Gr S S')(h:S[n]?=some c):S'[n]?=some c:=(g.pre n (az.mp h).1).trans h
def qZ{n}(h:n<100000):n<sizeLine:=aF h (by decide)
def nO(S:i3)(c:Cell):(S++[c])[S.length]?=some c:=by simp
def mC{S:i3}{n:Nat}{c:Cell}(h:S[n]?=some c):n<S.length:=(az.mp h).1
section
variable{a:jj}{S b c e:i3}{f g h:jm}{i n:Nat}{z:Z}{q:jq}
def zX{fs}(h:f a S=.ok (.loc n) S)(j:S[n]?=some (.ob C fs))(d:fs.lookup x=some z):pZ C f x a S=.ok z S:=by
 unfold pZ;rw[h]
 show(match S[n]? with
  |some (.ob k fs)=>if k=C then(match fs.lookup x with
   |some z=>RX.ok z S
   |none=>.bad)else .bad
  |_=>.bad)=_
 rw[j];show(if C=C then _ else _)=_;rw[av rfl,d]
def L3{fs:jj->i3->RX (List Z)}{ds:List D}{k}(h:fs a S=.ok (ds.map Z.d) S)(j:ly ds=some k)(l:k.length<1000):u3 fs a S=.ok (.tk k) S:=by
 unfold u3;rw[h]
 show(match(lI (ds.map Z.d)).bind ly with
  |some d=>if d.length<=sizeLine then RX.ok (Z.tk d) S else .bad
  |none=>.bad)=_
 rw[rn]
 show(match ly ds with
  |some d=>if d.length<=sizeLine then RX.ok (Z.tk d) S else .bad
  |none=>.bad)=_
 rw[j];exact av (cI<|qZ<|by omega)
def LZ{d k}(h:f a S=.ok (.d d) S)(l:qT d=some k):tN f a S=.ok (.tk k) S:=by
 unfold tN;rw[h]
 show(match qT d with
  |some j=>RX.ok (Z.tk j) S
  |none=>.bad)=_
 rw[l]
def acu{k}(h:f a S=.ok (.loc n) S)(d:S[n]?=some (.dt kvs))(j:g a S=.ok (.tk k) S):zO f g a S=.ok ((valZ kvs k).getD (.d .non)) S:=by
 unfold zO;rw[h]
 show(match S[n]? with
  |some (.dt _)=>(g a S).bind λy c=>(match y,c[n]? with
   |.tk k,some (.dt kvs)=>RX.ok ((valZ kvs k).getD (.d .non)) c
   |_,_=>.bad)
  |_=>.bad)=_
 rw[d];show((g a S).bind _)=_;rw[j]
 show(match Z.tk k,S[n]? with
  |.tk k,some (.dt kvs)=>RX.ok ((valZ kvs k).getD (.d .non)) S
  |_,_=>.bad)=_
 rw[d]
def acx{d k}(h:f a S=.ok (.loc n) S)(j:q (lF a)=.ok d)(l:nu d=some k)(m:S[n]?=some (.dk kvs))(hv:valZ kvs k=some z):wO f q a S=.ok z S:=by
 unfold wO;rw[h];show((lG (q<|lF a) S).bind _)=_;rw[j]
 show(match Z.loc n,nu d with
  |.loc n,some k=>(match S[n]? with
   |some (.dk kvs)=>(match valZ kvs k with
    |some z=>RX.ok z S
    |none=>.bad)
   |_=>.bad)
  |_,_=>.bad)=_
 rw[l]
 show(match S[n]? with
  |some (.dk kvs)=>(match valZ kvs k with
   |some z=>RX.ok z S
   |none=>.bad)
  |_=>.bad)=_
 rw[m]
 show(match valZ kvs k with
      |some z=>RX.ok z S
      |none=>.bad)=_
 rw[hv]
def LW{k}(l:h a S=.ok z S)(hf:f a S=.ok (.loc n) S)(j:g a S=.ok (.tk k) S)(m:S[n]?=some (.dt kvs))(d:kvs.length<100000):uY f g h a S=.nx a (S.set n<|.dt<|ki kvs k z):=by
 unfold uY;rw[l];show toZ (f a S) _=_;rw[hf];show toZ (g a S) _=_;rw[j]
 show(match S[n]? with
  |some (.dt kvs)=>if kvs.length<sizeLine then k4.nx a (S.set n<|.dt<|ki kvs k z)else .bad
  |_=>.bad)=_
 rw[m];exact av (qZ d)
def u0(j:a[i]?=some (ba n))(l:S[n]?=some (.li zs))(hf:f a S=.ok z b)(k:b[n]?=some (.li Md))(d:Md.length<100000):oF i f a S=.nx a (b.set n<|.li<|Md++[z]):=by
 unfold oF;rw[j]
 show(match S[n]? with
  |some (.li _)=>toZ (f a S) λz b=>(match b[n]? with
   |some (.li zs)=>if zs.length<sizeLine then k4.nx a (b.set n<|.li<|zs++[z])else .bad
   |_=>.bad)
  |_=>.bad)=_
 rw[l];show toZ (f a S) _=_;rw[hf]
 show(match b[n]? with
  |some (.li zs)=>if zs.length<sizeLine then k4.nx a (b.set n<|.li<|zs++[z])else .bad
  |_=>.bad)=_
 rw[k];exact av (qZ d)
def wJ{L:List D}(k:S[n]?=some (.li<|L.map Z.d)):nV S (ba n)=.sh (.lst L):=by
 show(match S[n]? with
  |some (.li j)=>(match lI j with
   |some d=>Sl.sh (.lst d)
   |none=>.no)
  |_=>.no)=_
 rw[k]
 show(match lI (L.map Z.d)with
  |some d=>Sl.sh (.lst d)
  |none=>.no)=_
 rw[rn]
end
variable{a:Ad}
structure Rd where
 m:Str
 t:Int
 p:Int
 q:Int
def Rd.d(r:Rd):D:=.tup [.str r.m,.int r.t,pr r.p r.q]
def own(c:List Rd)(m:Str):List Rd:=c.filter λr=>decide (r.m=m)
def y9:List Rd->Str->Int->Option Nat
 |[],_,_=>none
 |r::l,m,t=>if r.m=m/\r.t=t then some (own l m).length else y9 l m t
def place(c:List Rd)(m:Str)(t:Int):Option Nat:=y9 c.reverse m t
def JK(l:List Rd)(m):(own l.reverse m).length=(own l m).length:=by unfold own;rw[List.filter_reverse,fL]
def yY(row r m):own (row++[r]) m=own row m++(if r.m=m then[r]else[]):=by
 unfold own;rw[List.filter_append];by_cases h:r.m=m;·rw[av h,cN<|by simpa using h];rfl
 ·rw[aw h,cO<|by simpa using h];rfl
def WA(row r m)(t:Int):place (row++[r]) m t=if r.m=m/\r.t=t then some (own row m).length else place row m t:=by unfold place;rw[List.reverse_append];show(if r.m=m/\r.t=t then some (own row.reverse m).length else y9 row.reverse m t)=_;rw[JK]
def WB{t:Int}(h:place row m t=some i):∃r,(own row m)[i]?=some r/\r.t=t/\r.m=m:=by
 unfold place at h;rw[<-iE row];generalize row.reverse=l at h;induction l with
 |nil=>cases h
 |cons r l f=>
  rw[eH,yY];unfold y9 at h;split at h
  ·rename_i w;cases h;refine⟨r,?_,w.2,w.1⟩;rw[av w.1,<-JK];simp
  ·obtain⟨d,c,j⟩:=f h;exact⟨d,by rw[ay (az.mp c).1];exact c,j⟩
def Ask.uC(r:Rd):Ask->Str
 |.at w=>w
 |_=>r.m
def Ask.to(i:Int):Ask->Int
 |.back n=>i - n
 |.on n=>i+n
 |_=>i
def see(c:List Rd)(r:Rd)(k:Ask):Option Rd:=match place c (k.uC r) r.t with
 |none=>none
 |some i=>if 0<=k.to i/\k.to i<(own c<|k.uC r).length then(own c<|k.uC r)[(k.to i).toNat]? else none
def wy:Option Rd->D
 |none=>.non
 |some r=>r.d
def aaz{s k}(h:see row r k=some s):s∈row:=by
 unfold see at h;split at h;·cases h
 ·split at h;·exact(dy.mp<|bc h).1
  ·cases h
abbrev pk(m:Str)(t:Int):List Key:=[.inr m,.inl t]
structure Sg(a:Ad)(S:i3)(n hi nm np:Nat)(M:List<|Key×Z)(P:List<|List Key×Z)(lc:Str->Option Nat)(row:List Rd):Prop where
 b1:n<nm
 b2:nm<hi
 b3:n<np
 b4:np<hi
 b5:nm≠np
 ob:S[n]?=some (.ob a.Sight [("masts",.loc nm),("places",.loc np)])
 mc:S[nm]?=some (.dk M)
 pc:S[np]?=some (.dt P)
 vp:∀m t,valZ P (pk m t)=(place row m t).map λi=>Z.d (.int i)
 vm:∀m:Str,valZ M (.inr m)=(lc m).map Z.loc
 no:∀m,lc m=none->own row m=[]
 li:∀m q,lc m=some q->n<q/\q<hi/\q≠nm/\q≠np/\S[q]?=some (.li<|(own row m).map λr=>Z.d r.d)
 ij:∀m m' q,lc m=some q->lc m'=some q->m=m'
 hm:∀j,kC j (.dk M)=true->n<j/\j<hi
 hp:∀j,kC j (.dt P)=false
section
variable{S v:i3}{n p l f:Nat}{M:List<|Key×Z}{P:List<|List Key×Z}{o:Str->Option Nat}{c:List Rd}
def Sg.mv(g:Sg a S n p l f M P o c)(h:∀j,n<=j->j<p->v[j]?=S[j]?):Sg a v n p l f M P o c:=
 {g with
  ob:=by have:=g.b1;have:=g.b2;rw[h n (ag _)<|by omega];exact g.ob
  mc:=by have:=g.b1;rw[h l (by omega) g.b2];exact g.mc
  pc:=by have:=g.b3;rw[h f (by omega) g.b4];exact g.pc
  li:=λm q e=>by obtain⟨s,d,r,k,i⟩:=g.li m q e;exact⟨s,d,r,k,by rw[h q (by omega) d];exact i⟩}
def Ask.Rt:Ask->Bool
 |.back _=>true
 |_=>false
def Ask.tp:Ask->Bool
 |.on _=>true
 |_=>false
def zf(x:Ask):zB (b1 tB<|d2 jJ (iY 2 0)<|jg "back") (s0::s1::iN x.d::s3) S=.ok x.Rt S:=by cases x<;>kernel_rfl
def zh(x:Ask):zB (b1 tB<|d2 jJ (iY 2 0)<|jg "on") (s0::s1::iN x.d::s3) S=.ok x.tp S:=by cases x<;>kernel_rfl
def Yn(r:Rd)(x:Ask):zD (uf (b1 tB<|d2 jJ (iY 2 0)<|jg "at") (iY 2 1)<|iY 1 0) (s0::iN r.d::iN x.d::s3) S=.ok (.d<|.str<|x.uC r) S:=by cases x<;>kernel_rfl
def Th(g:Sg a S n p l f M P o c)(r:Rd)(x:Ask)(b):
    i6 (yc a b (jr 6 [.loc n,.d r.d,.d x.d]) S)=.ok (.d<|wy<|see c r x) S:=by
 unfold yc;show i6 (iV (jd 3 _) _ [ba n,iN r.d,iN x.d,none,none,none] S)=_;rw[jx<|jS (Yn r x)<|ai rfl];show i6 (iV (jd 4 _) _ [ba n,iN r.d,iN x.d,iN<|.str<|x.uC r,none,none] S)=_;generalize O:x.uC r=m;rw[jx<|jS (acu (zX (kJ rfl) g.ob rfl) g.pc<|L3 (ds:=[.str m,.int r.t]) (i7 (i0 rfl)<|i7 (i0 rfl) jN) rfl (by decide:2<1000))<|ai rfl];rw[g.vp];unfold see;rw[O];cases C:place c m r.t with
 |none=>show i6 (iV _ _ [ba n,iN r.d,iN x.d,iN<|.str m,iN .non,none] S)=_;rw[wL (zY<|kJ (z:=.d .non) rfl)<|y_ret<|i0 (d:=.non) rfl];rfl
 |some i=>
  show i6 (iV _ _ [ba n,iN r.d,iN x.d,iN<|.str m,iW i,none] S)=_;rw[lg<|zY<|kJ (z:=.d<|.int i) rfl];obtain⟨Q,J,U,T⟩:=WB C;have F:o m≠none:=λw=>by rw[g.no m w]at J;cases J
  obtain⟨q,I⟩:=Option.ne_none_iff_exists'.mp F;obtain⟨_,_,_,_,G⟩:=g.li m q I;have t:S[q]?=some (.li<|((own c m).map Rd.d).map Z.d):=by rw[bg];exact G
  have N:valZ M (.inr m)=ba q:=by rw[g.vm,I];rfl
  generalize y:x.to (i:Int)=j
  have h:(iV (jd 5 (wO (pZ a.Sight (zV 0) "masts") (dV 3)))
   (jG (zR (uf (b1 tB (AQ yH mY (iP 0) (dV 4) (dA lE (aa (dV 5) iU)))) (d2 jU (dV 5) (dV 4)) (dC .non))))) [ba n,iN r.d,iN x.d,iN (.str m),iW j,none] S
   =.rt (.d<|wy<|if 0<=j/\j<(own c m).length then(own c m)[j.toNat]? else none) S:=by
   rw[jx<|jS (acx (zX (kJ rfl) g.ob rfl) (d:=.str m) rfl rfl g.mc N)<|ai rfl];show jG _ [ba n,iN r.d,iN x.d,iN<|.str m,iW j,ba q] S=_;have hv:vw S [ba n,iN r.d,iN x.d,iN<|.str m,iW j,ba q]=[nV S<|ba n,.sh r.d,.sh x.d,.sh<|.str m,.sh<|.int j,.sh<|.lst<|(own c m).map Rd.d]:=by show[nV S<|ba n,Sl.sh r.d,.sh x.d,.sh<|.str m,.sh<|.int j,nV S<|ba q]=_;rw[wJ t]
   refine y_ret (u4 (d:=wy<|if 0<=j/\j<(own c m).length then(own c m)[j.toNat]? else none) ?_ ?_)
   ·rw[hv]
    show((((R.ok (D.bl (decide (0<=j)))).bind λz=>match z with
     |.bl true=>(R.ok<|D.int ((own c m).map Rd.d).length).bind λw=>mY (.int j) w
     |.bl false=>.ok (.bl false)
     |_=>.bad).bind tB).bind λk=>if k=true then jU (.lst ((own c m).map Rd.d)) (.int j)else R.ok .non)=_
    rw[aj];by_cases u:0<=j
    ·rw[aN u];show(if decide (j<((own c m).length:Int))=true then jU (.lst<|(own c m).map Rd.d) (.int j)else R.ok .non)=_;by_cases A:j<((own c m).length:Int)
     ·rw[av<|aN A,av ⟨u,A⟩];have s:j.toNat<(own c m).length:=by omega
      have e:((own c m).map Rd.d)[j.toNat]?=some ((own c m)[j.toNat]).d:=by rw[aE,au s];rfl
      have L:=L2.ub e;rw[Int.toNat_of_nonneg u]at L
      show(match L2.jY ((own c m).map Rd.d) j with
       |some d=>R.ok d
       |none=>.bad)=_
      rw[L,au s];rfl
     ·rw[aw<|by simpa using A,aw λw=>A w.2];rfl
    ·rw[aG u,aw λw=>u w.1];rfl
   ·split;·cases(own c m)[j.toNat]?<;>rfl
    ·rfl
  cases x with
  |here=>rw[lg<|zf (x:=.here),lg<|zh (x:=.here)];subst y;rw[show(Ask.here).to (i:Int)=(i:Int)from rfl]at h;exact bD i6 h
  |«at» w=>rw[lg<|zf (x:=.at w),lg<|zh (x:=.at w)];subst y;exact bD i6 h
  |back k=>rw[jx<|(mf<|zf (x:=.back k)).trans (show uX 4 xF (zD<|iY 2 1) [ba n,iN r.d,iN (Ask.back k).d,iN<|.str m,iW i,none] S=.nx [ba n,iN r.d,iN (Ask.back k).d,iN<|.str m,iW<|i - k,none] S from rfl),lg<|zh (x:=.back k)];subst y;exact bD i6 h
  |on k=>rw[lg<|zf (x:=.on k),jx<|(mf<|zh (x:=.on k)).trans (show uX 4 xE (zD<|iY 2 1) [ba n,iN r.d,iN (Ask.on k).d,iN<|.str m,iW i,none] S=.nx [ba n,iN r.d,iN (Ask.on k).d,iN<|.str m,iW<|i+k,none] S from rfl)];subst y;exact bD i6 h
end
variable{a:Ad}
def yG{x y:Ask}(h:x.k=y.k):x=y:=by cases x<;>cases y<;>simp[Ask.k]at h<;>first|rfl|(subst h;rfl)|(exact absurd h (by decide+kernel))|(exact absurd h.1 (by decide+kernel))|(obtain⟨c,d⟩:=h;exact absurd c (by decide+kernel))
abbrev encP(p:Ask×Rd):List Key×Z:=(p.1.k,Z.d p.2.d)
structure Seen(row:List Rd)(r:Rd)(A:List Ask)(B:List<|Ask×Rd):Prop where
 mem:∀p,p∈B↔p.1∈A/\see row r p.1=some p.2
 len:B.length<=A.length
def aaC{c:List Rd}{r:Rd}{B:List<|Ask×Rd}(h:∀p∈B,see c r p.1=some p.2){k:Ask}{s:Rd}(d:(k,s)∈B):valZ (B.map encP) k.k=iN s.d:=by
 induction B with
 |nil=>cases d
 |cons p B i=>
  rw[aR,tL];by_cases e:p.1=k
  ·have f:=h p (.head _);have l:=h (k,s) d;rw[e]at f;have:some p.2=some s:=f.symm.trans l;rw[av<|show p.1.k=k.k by rw[e]];show some (Z.d p.2.d)=_;rw[Option.some.inj this]
  ·rw[aw λw=>e (yG w)];exact i (λp j=>h p (.tail _ j)) (by
    rcases aD.mp d with w|w;· exact absurd (by rw[<-w]) e
    · exact w)
def aaB{c:List Rd}{r:Rd}{B:List<|Ask×Rd}(h:∀p∈B,see c r p.1=some p.2){k:Ask}{s:Rd}(j:see c r k=some s):∃i:List (Ask×Rd),ki (B.map encP) k.k (.d s.d)=i.map encP/\(∀p,p∈i↔p∈B\/p=(k,s))/\i.length<=B.length+1:=by
 unfold ki;cases q:(B.map encP).any λn=>decide (n.1=k.k)with
 |false=>rw[aw ax];exact⟨B++[(k,s)],by rw[bF];rfl,λp=>by simp,by simp⟩
 |true=>
  rw[av rfl];obtain⟨y,o,e⟩:=cV.mp q;obtain⟨p,l,rfl⟩:=aI.mp o;have m:p.1=k:=yG (bQ e);have f:p=(k,s):=by have d:=h p l;rw[m,j]at d;exact Prod.ext m (Option.some.inj d).symm
  refine⟨B,?_,λx=>⟨.inl,λw=>w.elim id λw=>by rw[w,<-f];exact l⟩,cU _⟩;rw[bg];refine cx λx t=>?_;show(if(encP x).1=k.k then((encP x).1,Z.d s.d)else encP x)=encP x;by_cases w:(encP x).1=k.k
  ·rw[av w];have ex:x.1=k:=yG w;have d:=h x t;rw[ex,j]at d;show(x.1.k,Z.d s.d)=(x.1.k,Z.d x.2.d);rw[Option.some.inj d]
  ·rw[aw w]
def IC(x:Ask):qT x.d=some x.k:=by cases x<;>rfl
def RY(x:Ask):D.tup (x.k.map kD)=x.d:=by cases x<;>rfl
def OY{c:Type}(B:List c)(f:c->List Key×D)(j):kC j (.dt<|B.map λp=>((f p).1,Z.d (f p).2))=false:=by show(B.map λp=>((f p).1,Z.d (f p).2)).any (λp=>ml j p.2)=false;rw[hC];exact bV.mpr λ_ _=>nofun
def Hj(B:List<|Ask×Rd)(j):kC j (.dt<|B.map encP)=false:=OY B (λp=>(p.1.k,p.2.d)) j
section
variable{S o:i3}{n v E y:Nat}{M:List<|Key×Z}{P:List<|List Key×Z}{H:Str->Option Nat}{l:List Rd}{m:ji}
def ED{F:ji}{f:jm}{c:jj->i3->RX (List Z)}{fs}(h:f ρ S=.ok (.loc n) S)(p:S[n]?=some (.ob C fs))(k:fs.lookup mn=none)(i:c ρ S=.ok zs o)(j:F (.loc n::(zs++[])) o=x):wW C mn F [] f c ρ S=x:=by
 unfold wW;rw[h]
 show(match S[n]? with
  |some (.ob r d)=>if r=C/\d.lookup mn=none then(c ρ S).bind λzs q=>F (.loc n::(zs++[].map Z.d)) q else .bad
  |_=>.bad)=_
 rw[p];show(if C=C/\fs.lookup mn=none then _ else _)=_;rw[av ⟨rfl,k⟩,i];exact j
def uR(S:i3)(c d:Cell):(S++[c]).set S.length d=S++[d]:=by rw[fj _ _<|ag _,dW];rfl
def aaA(ho:∀o,Sg a o n v E y M P H l->∀r k,m [.loc n,.d r.d,.d k.d] o=.ok (.d<|wy<|see l r k) o)(g:Sg a S n v E y M P H l)(hl:v<=S.length)(r:Rd)(A:D):∀(c:List Ask) (B:List<|Ask×Rd) (u i:Option Z),(∀p∈B,see l r p.1=some p.2)->B.length+c.length<=10000->
    (∃k∈c,see l r k=none)/\(∃f:List<|Ask×Rd,kF (hV 4) (ql a m) (c.map Ask.d) [ba n,iN r.d,iN A,ba S.length,u,i] (S++[.dt<|B.map encP])=.rt (.d .non) (S++[.dt<|f.map encP]))
    \/(∀k∈c,∃s,see l r k=some s)/\∃(f:List<|Ask×Rd) (F C:Option Z),(∀p,p∈f↔p∈B\/(p.1∈c/\see l r p.1=some p.2))/\f.length<=B.length+c.length/\kF (hV 4) (ql a m) (c.map Ask.d) [ba n,iN r.d,iN A,ba S.length,u,i] (S++[.dt<|B.map encP])=.nx [ba n,iN r.d,iN A,ba S.length,F,C] (S++[.dt<|f.map encP]):=by
 intro c;induction c with
 |nil=>intro B u i _ _;exact .inr ⟨(λ_ h=>nomatch h),B,u,i,λp=>⟨.inl,λw=>w.elim id<|λw=>nomatch w.1⟩,ag _,rfl⟩
 |cons k c V=>
  intro B u i Q Y;rw[aq]at Y;have T:Sg a (S++[.dt<|B.map encP]) n v E y M P H l:=g.mv λj _ hj=>ay (by omega)
  have step:ql a m [ba n,iN r.d,iN A,ba S.length,iN k.d,i] (S++[.dt (B.map encP)])=(match see l r k with
   |none=>.rt (.d .non) (S++[.dt<|B.map encP])
   |some s=>.nx [ba n,iN r.d,iN A,ba S.length,iN k.d,iN s.d] (S++[.dt (ki (B.map encP) k.k (.d s.d))])):=by
   unfold ql;rw[jx<|jS (ED (kJ rfl) T.ob (by kernel_rfl) (i7 (i0 (d:=r.d) rfl)<|i7 (i0 (d:=k.d) rfl) jN)<|ho _ T r k)<|ai rfl];cases see l r k with
   |none=>show iV _ _ [ba n,iN r.d,iN A,ba S.length,iN k.d,iN .non] _=_;rw[wL (zY<|kJ (z:=.d .non) rfl)<|y_ret<|i0 (d:=.non) rfl]
   |some s=>show iV _ _ [ba n,iN r.d,iN A,ba S.length,iN k.d,iN s.d] _=_;rw[lg<|zY<|kJ (z:=.d s.d) rfl];rw[LW (i0 (d:=s.d) rfl) (kJ rfl) (LZ (i0 (d:=k.d) rfl)<|IC k) (nO S _)<|by rw[aj];omega,uR]
  show(∃x∈k::c,see l r x=none)/\(∃f,nU (ql a m [ba n,iN r.d,iN A,ba S.length,iN k.d,i]<|S++[.dt<|B.map encP]) _=_)\/(_/\∃f F C,_/\_/\nU (ql a m [ba n,iN r.d,iN A,ba S.length,iN k.d,i]<|S++[.dt<|B.map encP]) _=_);cases q:see l r k with
  |none=>rw[q]at step;rw[show ql a m _ _=_ from step];exact .inl ⟨⟨k,.head _,q⟩,B,rfl⟩
  |some s=>
   rw[q]at step;rw[show ql a m _ _=k4.nx _ _ from step];obtain⟨f,e1,U,e3⟩:=aaB Q q;rw[e1];have J:∀p∈f,see l r p.1=some p.2:=λp hp=>by
    rcases(U p).mp hp with w|w;·exact Q p w
    ·rw[w];exact q
   rcases V f (iN k.d) (iN s.d) J (by omega)with⟨⟨x,N,L⟩,O,R⟩|⟨N,O,F,C,L,R,h4⟩;·exact .inl ⟨⟨x,.tail _ N,L⟩,O,R⟩
   ·refine .inr ⟨λx I=>?_,O,F,C,λp=>?_,by rw[aq];omega,h4⟩
    ·rcases aD.mp I with rfl|I;·exact⟨s,q⟩
     ·exact N x I
    ·rw[L p,U p];constructor
     ·rintro ((w|w)|⟨G,t⟩)
      ·exact .inl w
      ·rw[w];exact .inr ⟨.head _,q⟩
      ·exact .inr ⟨.tail _ G,t⟩
     ·rintro (w|⟨G,t⟩)
      ·exact .inl (.inl w)
      ·rcases aD.mp G with w3|w3
       ·rw[w3,q]at t;exact .inl (.inr<|Prod.ext w3 (Option.some.inj t).symm)
       ·exact .inr ⟨w3,t⟩
def Tq(f:∀o,Sg a o n v E y M P H l->∀r k,m [.loc n,.d r.d,.d k.d] o=.ok (.d<|wy<|see l r k) o)(g:Sg a S n v E y M P H l)(i:v<=S.length)(r:Rd)(A:List Ask)(j:A.length<=10000)(b:Nat):
    (∃k∈A,see l r k=none)/\(∃B:List<|Ask×Rd,i6 (vH a m b (jr 6 [.loc n,.d r.d,.d<|.lst<|A.map Ask.d]) S)=.ok (.d .non) (S++[.dt<|B.map encP]))
    \/(∀k∈A,∃s,see l r k=some s)/\∃B:List (Ask×Rd),Seen l r A B/\i6 (vH a m b (jr 6 [.loc n,.d r.d,.d<|.lst<|A.map Ask.d]) S)=.ok (.loc S.length) (S++[.dt<|B.map encP]):=by
 have u:vH a m b (jr 6 [.loc n,.d r.d,.d<|.lst<|A.map Ask.d]) S=iV (λρ S=>kF (hV 4) (ql a m) (A.map Ask.d) ρ S) (jG<|zV 3) [ba n,iN r.d,iQ<|A.map Ask.d,ba S.length,none,none] (S++[.dt<|([]:List<|Ask×Rd).map encP]):=rfl;rw[u];rcases aaA f g i r (.lst (A.map Ask.d)) A [] none none (λ_ h=>nomatch h) (by simpa using j)with⟨d,B,c⟩|⟨d,B,z,x,c,t,q⟩;·exact .inl ⟨d,B,by rw[pe c];rfl⟩
 ·refine .inr ⟨d,B,⟨λp=>(c p).trans ⟨λw=>w.elim (λw=>nomatch w) id,.inr⟩,by simpa using t⟩,?_⟩;rw[jx q,y_ret<|kJ rfl];rfl
variable{a:Ad}
variable{S0:i3}{ρ vc:jj}{e f g:jm}{z:Z}
theorem Ja{i:Type}{u h:i->Z}:∀(L:List i) (acc:List Z),(∀p∈L,∀c,e (vc.set 0<|some<|u p) (S0++[.li c])=.ok (h p) (S0++[.li c]))->acc.length+L.length<100000->
 p0 qb e vc S0.length (L.map u) (S0++[.li acc])=.ok (.loc S0.length) (S0++[.li<|acc++L.map h])
 |[],acc,_,_=>by rw[dS,dS,bf];rfl
 |p::L,acc,j,r=>by
  rw[aq]at r;rw[aR];unfold p0
  show(match e (vc.set 0 (some (u p))) (S0++[.li acc])with
   |.ok z k=>(match k[S0.length]? with
    |some (.li d)=>if d.length<sizeLine then p0 qb e vc S0.length (L.map u) (k.set S0.length<|.li<|d++[z])else .bad
    |_=>.bad)
   |_=>.bad)=_
  rw[j p (.head _) acc]
  show(match(S0++[Cell.li acc])[S0.length]? with
   |some (.li d)=>if d.length<sizeLine then p0 qb e vc S0.length (L.map u) ((S0++[Cell.li acc]).set S0.length (.li<|d++[h p]))else .bad
   |_=>RX.bad)=_
  rw[nO];show(if acc.length<sizeLine then _ else _)=_;rw[av<|qZ<|by omega,uR,Ja L (acc++[h p]) (λq s=>j q<|.tail _ s)<|by rw[ao];simp;omega,bS];rfl
def GK{k:Type}{u h:k->Z}{L:List k}{pick:List (List Key×Z)->List Z}{ci:List Nat}{c:List<|List Key×Z}(hf:f ρ S=.ok (.loc n) S)(j:S[n]?=some (.dt c))(A:S[0]?=some .mk)(w:pick c=L.map u)
    (x:∀p∈L,∀d,e ((n9 ci ρ).set 0 (some<|u p)) (S.set n (.ft c)++[.li d])=.ok (h p) (S.set n (.ft c)++[.li d]))(t:L.length<100000):q7 pick f ci qb e ρ S=.ok (.loc S.length) (S++[.li<|L.map h]):=by
 unfold q7;rw[hf]
 show(match S[n]?,(S[0]?:Option Cell)with
  |some (.dt c),some Cell.mk=>zU n c (p0 qb e (n9 ci ρ) S.length (pick c)<|S.set n (.ft c)++[Cell.li []])
  |_,_=>RX.bad)=_
 rw[j,A];show zU n c (p0 qb e (n9 ci ρ) S.length (pick c)<|S.set n (.ft c)++[Cell.li []])=_;have s:=mC j;have r:=Ja (S0:=S.set n<|.ft c) (vc:=n9 ci ρ) (e:=e) (u:=u) (h:=h) L [] x (by simpa using t);rw[aO]at r;rw[w,r];show RX.ok (Z.loc S.length) ((S.set n (.ft c)++[Cell.li<|[]++L.map h]).set n (.dt c))=_;rw[List.set_append_left _ _<|by rw[aO];exact s,List.set_set,fJ];have:S.set n (.dt c)=S:=by
  apply List.ext_getElem?;intro i;by_cases q:n=i;·subst q;rw[aA s,j]
  ·rw[ar q]
 rw[this]
def acw{k}(h:f ρ S=.ok (.loc n) S)(c:g ρ S=.ok (.d<|.tup ds) S)(d:ly ds=some k)(i:S[n]?=some (.ft kvs))(hv:valZ kvs k=some z):si f g ρ S=.ok z S:=by
 unfold si;rw[h];show((g ρ S).bind _)=_;rw[c]
 show(match ly ds,S[n]? with
  |some k,some (.ft kvs)=>(match valZ kvs k with
   |some z=>RX.ok z S
   |none=>.bad)
  |_,_=>.bad)=_
 rw[d,i]
 show(match valZ kvs k with
  |some z=>RX.ok z S
  |none=>.bad)=_
 rw[hv]
end
def mR(s:Rd):D:=.tup [.int s.t,pr s.p s.q]
theorem Hz{d:D}{c:List Key}:∀(f:List<|List Key×D) (acc:List<|List Key×Z),(∀q∈f,q.1=c->q.2=d)->((∃q∈f,q.1=c)\/valZ acc c=iN d)->valZ (f.foldl (λa p=>ki a p.1<|.d p.2) acc) c=iN d
 |[],acc,_,h=>h.elim (λ⟨_,w,_⟩=>nomatch w) id
 |q::f,acc,i,h=>by
  rw[dG];refine Hz f _ (λq l=>i q<|.tail _ l) ?_;by_cases e:q.1=c;·exact .inr (by rw[wI,av e,i q (.head _) e])
  ·rcases h with⟨k,m,j⟩|h
   ·rcases aD.mp m with w|w;·exact absurd (by rw[<-w];exact j) e
    ·exact .inl ⟨k,w,j⟩
   ·exact .inr (by rw[wI,aw e];exact h)
theorem Be(j):∀(c:List<|List Key×D) acc,kC j (.dt acc)=false->kC j (.dt<|c.foldl (λa p=>ki a p.1<|.d p.2) acc)=false
 |[],acc,h=>h
 |q::c,acc,h=>by
  rw[dG];refine Be j c _ ?_;cases w:kC j (.dt<|ki acc q.1<|.d q.2)with
  |false=>rfl
  |true=>exact(Bm<|show((ki acc q.1<|.d q.2).any λp=>ml j p.2)=true from w).elim (λw=>absurd (h.symm.trans w) ax) (λw=>nomatch w)
theorem JO:∀B:List (Ask×Rd),nR (B.map λp=>.tup [p.1.d,mR p.2])=some (B.map λp=>(p.1.k,mR p.2))
 |[]=>rfl
 |p::B=>by show(qT p.1.d).bind (λc=>(nR<|B.map λp=>.tup [p.1.d,mR p.2]).map ((c,mR p.2):: ·))=_;rw[IC,JO B];rfl
section
variable{S:i3}{n:Nat}{m:List Rd}{r:Rd}{A:List Ask}{B:List<|Ask×Rd}
def envOf(m:List Rd)(r:Rd):Env:=λk=>match see m r k with
 |some s=>(s.t,s.p,s.q)
 |none=>(0,0,1)
def Pe{k s}(h:see m r k=some s):D.tup [.int (envOf m r k).1,pr (envOf m r k).2.1 (envOf m r k).2.2]=mR s:=by unfold envOf;rw[h];rfl
def SS(G:Seen m r A B)(O:∀k∈A,∃s,see m r k=some s)(I:S[n]?=some (.dt<|B.map encP))(P:S[0]?=some .mk)(U:B.length<1000)(b:Nat):
    ∃S' x,Gr S S'/\i6 (ye a b (jr 1 [.loc n]) S)=.ok (.loc<|S.length+1) S'/\Fd S' (S.length+1) A (envOf m r) x:=by
 have i:∀p∈B,see m r p.1=some p.2:=λp o=>((G.mem p).mp o).2
 let L:List Z:=B.map λp=>Z.d (.tup [p.1.d,mR p.2])
 have C:=mC I;refine⟨S++[.li L]++[.dt<|foldZ<|B.map λp=>(p.1.k,mR p.2)],_,(Gr.app<|λj=>?_).trans (Gr.app λj=>Be j _ [] rfl),?_,⟨(by have:=nO (S++[Cell.li L])<|.dt<|foldZ<|B.map λp=>(p.1.k,mR p.2);rw[ao]at this;exact this),λk F=>?_⟩⟩
 ·show(B.map λp=>Z.d<|.tup [p.1.d,mR p.2]).any (ml j)=false;rw[hC];exact bV.mpr λ_ _=>nofun
 ·unfold ye;show i6 (jG _ [ba n] S)=_;have c:=GK (pick:=pickK) (ci:=[0]) (f:=zV 0) (ρ:=[ba n]) (u:=λp:Ask×Rd=>Z.d p.1.d) (h:=λp=>Z.d (.tup [p.1.d,mR p.2])) (L:=B) (e:=zF jz (iM (zD (dV 0)) (iM (zF jz (iM (z2 jU (si (zV 1) (zD (dV 0))) (zD (iP 1))) (iM (z2 jU (si (zV 1) (zD (dV 0))) (zD (iP 2))) i4))) i4))) (kJ rfl) I P (by
   unfold pickK;rw[bg];exact cx λp _=>bD Z.d (RY p.1)) (λp o l=>by
   obtain⟨T,R,t⟩:=F8 p.1
   have J:si (zV 1) (zD<|dV 0) [iN p.1.d,ba n] (S.set n (.ft<|B.map encP)++[.li l])=.ok (.d p.2.d) (S.set n (.ft<|B.map encP)++[.li l]):=
    acw (kJ rfl) (i0 (d:=.tup T)<|by rw[<-R];rfl) t (by rw[ay<|by rw[aO];exact C,aA C]) (aaC i o)
   exact lY [p.1.d,mR p.2] (i7 (i0 (d:=p.1.d) rfl) (i7 (lY [.int p.2.t,pr p.2.p p.2.q] (i7 (lH J (i0 (d:=.int 1) rfl) (w:=.int p.2.t) rfl) (i7 (lH J (i0 (d:=.int 2) rfl) (w:=pr p.2.p p.2.q) rfl) jN)) rfl) jN)) rfl) (by omega)
  rw[y_ret (z:=.loc<|S.length+1) (S1:=S++[.li L]++[.dt<|foldZ<|B.map λp=>(p.1.k,mR p.2)])];·rfl
  ·unfold wN;rw[c]
   show(match(S++[Cell.li L])[S.length]? with
    |some (.li M)=>(match(lI M).bind nR with
     |some v=>RX.ok (Z.loc (S++[Cell.li L]).length) (S++[Cell.li L]++[Cell.dt<|foldZ v])
     |none=>RX.bad)
    |_=>RX.bad)=_
   rw[nO]
   show(match(lI L).bind nR with
    |some v=>RX.ok (Z.loc (S++[Cell.li L]).length) (S++[Cell.li L]++[Cell.dt<|foldZ v])
    |none=>RX.bad)=_
   have Q:L=(B.map λp=>D.tup [p.1.d,mR p.2]).map Z.d:=by rw[bg];rfl
   rw[show(lI L).bind nR=some (B.map λp=>(p.1.k,mR p.2))from by rw[Q,rn];exact JO B];show RX.ok (Z.loc (S++[Cell.li L]).length) _=_;rw[ao];rfl
 ·obtain⟨s,y⟩:=O k F;rw[Pe y];refine Hz _ [] (λq N e=>?_) (.inl ⟨(k.k,mR s),aI.mpr ⟨(k,s),(G.mem (k,s)).mpr ⟨F,y⟩,rfl⟩,rfl⟩);obtain⟨p,o,rfl⟩:=aI.mp N;have:p.1=k:=yG e;have t:=i p o;rw[this,y]at t;show mR p.2=mR s;rw[Option.some.inj t]
variable{a:Ad}
abbrev Kt:=Int×Str
def lS(k:Kt):D:=.tup [.int k.1,.str k.2]
def k8(k:Kt):D:=.tup [.str k.2,.int k.1]
def rL(k:Kt):List Key:=[.inl k.1,.inr k.2]
def IH:D->Kt
 |.tup [.int i,.str x]=>(i,x)
 |_=>(0,Str.ofString "")
def ktL(c:List Kt):List Kt:=(kI<|(lJ<|c.map rL).map tD).map IH
theorem LA:∀c:List Kt,uW (c.map lS)=some (c.map rL)
 |[]=>rfl
 |k::r=>by show(ly [.int k.1,.str k.2]).bind (λx=>(uW<|r.map lS).map (x:: ·))=_;rw[LA r];rfl
def So(ks):(ktL ks).map lS=kI ((lJ<|ks.map rL).map tD):=by
 unfold ktL;rw[bg];have:∀d∈kI ((lJ (ks.map rL)).map tD),(lS∘IH) d=d:=λd f=>by obtain⟨k,c,rfl⟩:=aI.mp ((nC _).mem_iff.mp f);obtain⟨j,_,rfl⟩:=aI.mp ((qV k _).mp c);rfl
 exact(cx this).trans (List.map_id' _)
def Sm(h:∀k,k∈ks↔k∈js):ktL ks=ktL js:=by
 have q:(lJ<|ks.map rL).Perm (lJ<|js.map rL):=yZ (v8 _) (v8 _) λx=>by rw[qV,qV,aI,aI];exact⟨λ⟨k,o,i⟩=>⟨k,(h k).mp o,i⟩,λ⟨k,o,i⟩=>⟨k,(h k).mpr o,i⟩⟩
 have c:∀(l:List Kt),∀d∈(lJ (l.map rL)).map tD,kg d=some [2,0,1]:=λl d f=>by obtain⟨x,p,rfl⟩:=aI.mp f;obtain⟨j,_,rfl⟩:=aI.mp ((qV x _).mp p);rfl
 unfold ktL;rw[C9 ((nC _).trans ((q.map tD).trans (nC _).symm)) (λd f=>c ks d<|(nC _).mem_iff.mp f) (uS<|c ks)<|uS<|c js]
def Sn(ks):(ktL ks).length<=ks.length:=by
 have e:(ktL ks).length=(lJ<|ks.map rL).length:=by unfold ktL;rw[aj,(nC _).length_eq,aj]
 have d:∀l:List (List Key),(lJ l).length<=l.length:=by
  intro l;induction l with
  |nil=>exact ag _
  |cons x r c=>
   unfold lJ;split;·exact aS c (cU _)
   ·exact Nat.succ_le_succ c
 rw[e];exact aS (d _) (by rw[aj];exact ag _)
def aaX(c:List Kt)(h:c.length<64):wC (.lst<|c.map lS)=.ok ((ktL c).map lS):=by unfold wC;dsimp only;rw[LA];show(if mS (c.map lS)=true/\(c.map lS).length<64 then _ else _)=_;rw[av ⟨Bt (sg:=[2,0,1]) (λ_=>rfl) c,by rw[aj];exact h⟩,So]
def jn(s:Rd):Kt:=(s.t,s.m)
def m_keys(j:S[n]?=some (.dt<|B.map encP))(t:S[0]?=some .mk)(s:mm S)(q:B.length<64)(b):
    ∃S',Gr S S'/\i6 (yh a b (jr 2 [.loc n]) S)=.ok (.d<|.lst<|(ktL<|B.map λp=>jn p.2).map k8) S':=by
 have y:=mC j;refine⟨S++[.no],Gr.app λ_=>rfl,?_⟩;unfold yh;show i6 (iV (jd 1 _) _ [ba n,none] S)=_;have c:=GK (pick:=tA) (ci:=[]) (f:=zV 0) (ρ:=[ba n,none]) (u:=λp:Ask×Rd=>Z.d p.2.d) (h:=λp=>Z.d<|lS<|jn p.2) (L:=B) (e:=zD<|dA jz<|aa (iY 0 1)<|aa (iY 0 0) iU) (kJ rfl) j t (by unfold tA;rw[bg];rfl) (λp _ k=>i0 rfl) (by omega);have w:(B.map λp=>Z.d<|lS<|jn p.2)=((B.map λp=>jn p.2).map lS).map Z.d:=by rw[bg,bg];rfl
 rw[w]at c;have v:u2 (q7 tA (zV 0) [] qb<|zD<|dA jz<|aa (iY 0 1)<|aa (iY 0 0) iU) [ba n,none] S=.ok (.d<|.lst<|(B.map λp=>jn p.2).map lS) (S++[.no]):=by
  unfold u2;rw[c]
  show(match(S++[Cell.li (((B.map λp:Ask×Rd=>jn p.2).map lS).map Z.d)])[S.length]? with
   |some (.li l)=>(match lI l with
    |some i=>if S.length<=S.length/\(S++[Cell.li<|((B.map λp:Ask×Rd=>jn p.2).map lS).map Z.d]).any (kC S.length)=false/\[some<|Z.loc n,none].any (zw S.length)=false then RX.ok (Z.d<|.lst i) ((S++[Cell.li<|((B.map λp:Ask×Rd=>jn p.2).map lS).map Z.d]).set S.length .no)else .bad
    |none=>.bad)
   |_=>.bad)=_
  rw[nO]
  show(match lI (((B.map λp=>jn p.2).map lS).map Z.d)with
   |some i=>if S.length<=S.length/\(S++[Cell.li<|((B.map λp:Ask×Rd=>jn p.2).map lS).map Z.d]).any (kC S.length)=false/\[some<|Z.loc n,none].any (zw S.length)=false then RX.ok (Z.d<|.lst i) ((S++[Cell.li<|((B.map λp:Ask×Rd=>jn p.2).map lS).map Z.d]).set S.length .no)else RX.bad
   |none=>RX.bad)=_
  rw[rn];show(if _ then _ else _)=_;rw[av ⟨ag _,qY (s _<|ag _)<|my _ _,by show(decide (n=S.length)||(false||false))=false;rw[aG<|by omega];rfl⟩,uR]
 have o:zT (u2<|q7 tA (zV 0) [] qb<|zD<|dA jz<|aa (iY 0 1)<|aa (iY 0 0) iU) [ba n,none] S=.ok (.d<|.lst<|(ktL<|B.map λp=>jn p.2).map lS) (S++[.no]):=by
  unfold zT;rw[v]
  show(match wC (.lst ((B.map λp=>jn p.2).map lS))with
   |.ok i=>RX.ok (Z.d<|.lst i) (S++[Cell.no])
   |_=>.bad)=_
  rw[aaX _<|by rw[aj];exact q]
 rw[jx<|jS o<|ai rfl];show i6 (jG _ [ba n,iQ<|(ktL<|B.map λp=>jn p.2).map lS] _)=_;rw[y_ret<|i0 (d:=.lst<|(ktL<|B.map λp=>jn p.2).map k8)<|qM<|ug (f:=lS) (g:=k8) (L:=ktL<|B.map λp=>jn p.2) rfl (by have:=Sn<|B.map λp=>jn p.2;rw[aj]at this;omega) λx _=>rfl];rfl
end
variable{a:Ad}
structure jV(n:Nat)(T T':i3):Prop where
 len:T.length<=T'.length
 pre:∀j,j<n->T'[j]?=T[j]?
 sf:∀j,j<n->n7 T j->n7 T' j
 bnd:mm T->mm T'
def jV.refl(n T):jV n T T:=⟨ag _,λ_ _=>rfl,λ_ _ h=>h,λh=>h⟩
def jV.trans{n}(x:jV n T T1)(y:jV n T1 T2):jV n T T2:=⟨aS x.len y.len,λj h=>(y.pre j h).trans (x.pre j h),λj h s=>y.sf j h<|x.sf j h s,λb=>y.bnd<|x.bnd b⟩
def jV.app{n}{T:i3}(i:n<=T.length)(f:∀j,(j<n\/T.length<j)->kC j c=false):jV n T (T++[c]):=⟨by rw[ao];exact cG ..,λj h=>ay<|by omega,λj h s=>qY s<|f j<|.inl h,λb j d=>by rw[ao]at d;exact qY (b j<|by omega) (f j<|.inr<|by simp at d;omega)⟩
def jV.set{n}{T:i3}(k:n<=i)(f:∀j,(j<n\/T.length<=j)->kC j c=false):jV n T (T.set i c):=⟨by rw[aO];exact ag _,λj h=>ar<|by omega,λj h s=>nc s<|f j<|.inl h,λb j d=>by rw[aO]at d;exact nc (b j d) (f j<|.inr d)⟩
section
variable{T:i3}{n o i q:Nat}{M:List<|Key×Z}{P:List<|List Key×Z}{l:Str->Option Nat}{b:List Rd}{ρ:jj}{f fk:jm}
def acB{d k}(hf:f ρ T=.ok (.loc n) T)(h:T[n]?=some (.dk M))(r:fk ρ T=.ok (.d d) T)(m:nu d=some k)(p:M.length<100000):wX f fk (mE (λρ=>(iU ρ).bind jF)) ρ T=(match valZ M k with
    |some z=>RX.ok z (T++[Cell.li []])
    |none=>RX.ok (Z.loc T.length) ((T++[Cell.li []]).set n (.dk (ki M k (.loc T.length))))):=by
 have s:(T++[Cell.li []])[n]?=some (.dk M):=by rw[ay<|mC h];exact h
 unfold wX;rw[hf]
 show(match T[n]? with
  |some (.dk _)=>(fk ρ T).bind λy t=>(mE (λρ=>(iU ρ).bind jF) ρ t).bind λx j=>(match y,j[n]? with
   |.d d,some (.dk c)=>(match nu d with
    |some k=>if c.length<sizeLine then(match valZ c k with
     |some z=>RX.ok z j
     |none=>RX.ok x (j.set n (.dk (ki c k x))))else RX.bad
    |none=>RX.bad)
   |_,_=>RX.bad)
  |_=>RX.bad)=_
 rw[h];show((fk ρ T).bind _)=_;rw[r]
 show(match Z.d d,(T++[Cell.li []])[n]? with
  |.d d,some (.dk c)=>(match nu d with
   |some k=>if c.length<sizeLine then(match valZ c k with
    |some z=>RX.ok z (T++[Cell.li []])
    |none=>RX.ok (.loc T.length) ((T++[Cell.li []]).set n (.dk (ki c k (.loc T.length)))))else RX.bad
   |none=>RX.bad)
  |_,_=>RX.bad)=_
 rw[s]
 show(match nu d with
      |some k=>if M.length<sizeLine then(match valZ M k with
       |some z=>RX.ok z (T++[Cell.li []])
       |none=>RX.ok (.loc T.length) ((T++[Cell.li []]).set n (.dk (ki M k (.loc T.length)))))else RX.bad
      |none=>RX.bad)=_
 rw[m];exact av (qZ p)
def Sg.wide(g:Sg a T n Ue o i M P l b)(h:Ue<=hi):Sg a T n hi o i M P l b:=
 {g with
  b2:=aF g.b2 h
  b4:=aF g.b4 h
  li:=λm q e=>let⟨d,c,k⟩:=g.li m q e;⟨d,aF c h,k⟩
  hm:=λj e=>let⟨d,c⟩:=g.hm j e;⟨d,aF c h⟩}
def Rh(g:Sg a T n T.length o i M P l b)(r:Rd)(Y:M.length<=10000)(A s3):∃D M1 s q,wX (pZ a.Sight (zV 0) "masts") (zD<|iY 2 0) (mE<|λρ=>(iU ρ).bind jF) [ba n,A,iN r.d,s3] T=.ok (.loc q) D
    /\Sg a D n D.length o i M1 P s b/\s r.m=some q/\M1.length<=M.length+1/\jV n T D:=by
 have b1:=g.b1;have b2:=g.b2;have V:=g.b3;have b4:=g.b4;have z:=acB (f:=pZ a.Sight (zV 0) "masts") (fk:=zD<|iY 2 0) (ρ:=[ba n,A,iN r.d,s3]) (d:=.str r.m) (k:=.inr r.m) (zX (kJ rfl) g.ob rfl) g.mc (i0 rfl) rfl (by omega);rw[g.vm]at z;have la:jV n T (T++[.li []]):=jV.app (by omega) λ_ _=>rfl;have U:Sg a (T++[.li []]) n T.length o i M P l b:=g.mv λj _ h=>ay h;cases x:l r.m with
 |some q=>rw[x]at z;exact⟨_,M,l,q,z,U.wide la.len,x,cU _,la⟩
 |none=>
  rw[x]at z;have F:(T++[Cell.li []]).length=T.length+1:=by rw[ao];rfl
  have t:∀j,kC j (.dk<|ki M (.inr r.m)<|.loc T.length)=true->n<j/\j<T.length+1:=λj e=>by
   rcases Bm (show((ki M (.inr r.m) (.loc T.length)).any λp=>ml j p.2)=true from e)with w|w;·obtain⟨y,J⟩:=g.hm j w;exact⟨y,by omega⟩
   ·have:T.length=j:=bQ w;omega
  refine⟨_,ki M (.inr r.m)<|.loc T.length,λm=>if m=r.m then some T.length else l m,T.length,z,?_,av rfl,IV,la.trans<|jV.set (by omega) λj h=>?_⟩
  ·have O:((T++[Cell.li []]).set o (.dk<|ki M (.inr r.m)<|.loc T.length)).length=T.length+1:=by rw[aO,F]
   have keep:∀j c,j≠o->T[j]?=some c->((T++[Cell.li []]).set o (.dk<|ki M (.inr r.m)<|.loc T.length))[j]?=some c:=λj c h e=>by rw[ar<|bP h,ay<|mC e];exact e
   rw[O];refine⟨b1,by omega,V,by omega,g.b5,keep n _ (by omega) g.ob,aA<|by rw[F];omega,keep i _ (bP g.b5) g.pc,g.vp,λm=>?_,λm e=>?_,λm q e=>?_,λm G q C u=>?_,t,g.hp⟩
   ·rw[wI,g.vm];by_cases w:m=r.m;·subst w;rw[av rfl,av rfl];rfl
    ·rw[aw w,aw λv=>w (Sum.inr.inj v).symm]
   ·split at e;·cases e
    ·exact g.no m e
   ·split at e
    ·rename_i w;cases e;refine⟨by omega,by omega,by omega,by omega,?_⟩;rw[ar<|by omega,nO,w,g.no _ x];rfl
    ·obtain⟨y,J,I,R,Q⟩:=g.li m q e;exact⟨y,by omega,I,R,keep q _ I Q⟩
   ·split at C
    ·rename_i N;split at u;·rename_i L;rw[N,L]
     ·cases C;have:=(g.li G _ u).2.1;omega
    ·split at u
     ·cases u;have:=(g.li m _ C).2.1;omega
     ·exact g.ij m G q C u
  ·cases w:kC j (.dk<|ki M (.inr r.m)<|.loc T.length)with
   |false=>rfl
   |true=>obtain⟨y,J⟩:=t j w;rw[F]at h;rcases h with h|h<;>omega
def Ri(g:Sg a T n T.length o i M P l b)(r:Rd)(x:l r.m=some q)(hP:P.length<=10000)(hz:b.length<=10000)(A):
    ∃y s,(iV (uY (pZ a.Sight (zV 0) "places") (u3<|iM (zD<|iY 2 0)<|iM (zD<|iY 2 1) i4)<|zR<|dA lE<|aa (dV 3) iU)<|oF 3<|zD<|dV 2) [ba n,A,iN r.d,ba q] T=.nx [ba n,A,iN r.d,ba q] y
     /\Sg a y n y.length o i M s l (b++[r])/\s.length<=P.length+1/\jV n T y:=by
 have b1:=g.b1;have b3:=g.b3;obtain⟨Q,N,L,C,J⟩:=g.li _ _ x;have z:T[q]?=some (.li<|((own b r.m).map Rd.d).map Z.d):=by rw[bg];exact J
 have U:zR (dA lE<|aa (dV 3) iU) [ba n,A,iN r.d,ba q] T=.ok (.d<|.int (own b r.m).length) T:=by refine u4 ?_ rfl;show(dA lE<|aa (dV 3) iU) [nV T<|ba n,nV T A,.sh r.d,nV T<|ba q]=_;rw[wJ z];show R.ok (D.int ((own b r.m).map Rd.d).length)=_;rw[aj]
 let s:=ki P (pk r.m r.t) (.d<|.int (own b r.m).length)
 let d:Cell:=.dt s
 let k:Cell:=.li (((own b r.m).map λr=>Z.d r.d)++[.d r.d])
 have h:∀j,kC j d=false:=λj=>by
  cases w:kC j d with
  |false=>rfl
  |true=>exact(Bm<|show((ki P (pk r.m r.t)<|.d<|.int (own b r.m).length).any λp=>ml j p.2)=true from w).elim (λw=>absurd ((g.hp j).symm.trans w) ax) (λw=>nomatch w)
 have F:∀j,kC j k=false:=λj=>by
  have:k=.li (((own b r.m++[r]).map Rd.d).map Z.d):=by show Cell.li _=_;rw[bg,bF];rfl
  rw[this];exact my _ _
 have hT:q<T.length:=N;refine⟨(T.set i d).set q k,s,?_,?_,IV,(jV.set (by omega) λj _=>h j).trans (jV.set (by omega) λj _=>F j)⟩
 ·rw[jx<|LW U (zX (kJ rfl) g.ob rfl) (L3 (ds:=[.str r.m,.int r.t]) (i7 (i0 rfl)<|i7 (i0 rfl) jN) rfl (by decide:2<1000)) g.pc<|by omega];have e:(T.set i d)[q]?=some (.li<|(own b r.m).map λr=>Z.d r.d):=by rw[ar<|bP C];exact J
  exact u0 rfl e (i0 rfl) e (by rw[aj];exact bY (ia ..) (by omega))
 ·have V:((T.set i d).set q k).length=T.length:=by rw[aO,aO]
  have keep:∀j c,j≠i->j≠q->T[j]?=some c->((T.set i d).set q k)[j]?=some c:=λj c I G e=>by rw[ar<|bP G,ar<|bP I];exact e
  rw[V];refine⟨b1,g.b2,b3,g.b4,g.b5,keep n _ (by omega) (by omega) g.ob,keep o _ g.b5 (bP L) g.mc,?_,λm t=>?_,g.vm,λm e=>?_,λm u e=>?_,g.ij,g.hm,h⟩;·rw[ar C,aA g.b4]
  ·show valZ (ki P (pk r.m r.t) _) _=_;rw[wI,WA,g.vp];by_cases w:r.m=m/\r.t=t
   ·obtain⟨rfl,rfl⟩:=w;rw[av rfl,av ⟨rfl,rfl⟩];rfl
   ·rw[aw w,aw λv=>w ?_];injection v with v1 v2;injection v1 with v1;injection v2 with v2 _;injection v2 with v2;exact⟨v1,v2⟩
  ·have ne:r.m≠m:=λw=>by rw[<-w,x]at e;cases e
   rw[yY,g.no m e,aw ne];rfl
  ·by_cases w:u=q
   ·have em:m=r.m:=g.ij m r.m u e (by rw[w];exact x);rw[w,em];refine⟨Q,N,L,C,?_⟩;rw[aA<|by rw[aO];exact hT,yY,av rfl,bF];rfl
   ·obtain⟨I,G,h3,O,Y⟩:=g.li m u e;have ne:r.m≠m:=λv=>w (by rw[<-v,x]at e;exact(Option.some.inj e).symm);refine⟨I,G,h3,O,?_⟩;rw[yY,aw ne,bf];exact keep u _ O w Y
theorem Ig(N A):∀(rest b:List Rd) T M P l s2 s3,Sg a T N T.length o i M P l b->M.length<=b.length->P.length<=b.length->b.length+rest.length<=10000->
 ∃d M1 Q c j h,kF (hV 2) (sL a) (rest.map Rd.d) [ba N,A,s2,s3] T=.nx [ba N,A,j,h] d/\Sg a d N d.length o i M1 Q c (b++rest)/\jV N T d
 |[],b,T,M,P,l,s2,s3,g,_,_,_=>⟨T,M,P,l,s2,s3,rfl,by rw[bf];exact g,.refl _ _⟩
 |r::rest,b,T,M,P,l,s2,s3,g,V,U,w=>by
  rw[aq]at w;obtain⟨d,M1,c,q,I,D,x,z,v⟩:=Rh g r (by omega) A s3;obtain⟨s,O,G,C,y,u⟩:=Ri D r x (by omega) (by omega) A;have m:(b++[r]).length=b.length+1:=by rw[ao];rfl
  obtain⟨J,R,L,k,j,h,F,p,t⟩:=Ig N A rest (b++[r]) s M1 O c (iN r.d) (ba q) C (by rw[m];omega) (by rw[m];omega) (by rw[m];omega);refine⟨J,R,L,k,j,h,?_,by rw[bS]at p;exact p,(v.trans u).trans t⟩;have st:sL a [ba N,A,iN r.d,s3] T=.nx [ba N,A,iN r.d,ba q] s:=by unfold sL;rw[jx<|jS I<|ai rfl];exact G
  show nU (sL a [ba N,A,iN r.d,s3] T) (kF (hV 2) (sL a)<|rest.map Rd.d)=_;rw[st];exact F
end
def SY(S:i3)(d:List Rd)(v:d.length<=10000)(b):∃S',i6 (yb a b (jr 4 [.loc S.length,.d<|.lst<|d.map Rd.d])<|S++[.ob a.Sight []])=.ok (.d .non) S'/\(∃q p M P r,Sg a S' S.length S'.length q p M P r d)/\Gr S S':=by
 let f:Cell:=.ob a.Sight [("masts",.loc<|S.length+1),("places",.loc<|S.length+2)]
 have z:Sg a (S++[f,.dk [],.dt []]) S.length (S++[f,.dk [],.dt []]).length (S.length+1) (S.length+2) [] [] (λ_=>none) []:=by
  have at_:∀(i:Nat) (c:Cell),[f,Cell.dk [],Cell.dt []][i]?=some c->(S++[f,.dk [],.dt []])[S.length+i]?=some c:=λi c h=>by rw[aK<|by omega,Nat.add_sub_cancel_left];exact h
  have w:(S++[f,Cell.dk [],Cell.dt []]).length=S.length+3:=by rw[ao];rfl
  rw[w];exact⟨by omega,by omega,by omega,by omega,by omega,at_ 0 _ rfl,at_ 1 _ rfl,at_ 2 _ rfl,λ_ _=>rfl,λ_=>rfl,λ_ _=>rfl,(λ_ _ e=>by cases e),(λ_ _ _ e=>by cases e),(λ_ e=>by cases e),λ_=>rfl⟩
 obtain⟨F,M1,G,m,J,I,D,y,t⟩:=Ig (a:=a) S.length (iQ (d.map Rd.d)) d [] _ [] [] (λ_=>none) none none z (ag _) (ag _) (by simpa using v);have u:jV S.length S (S++[f,.dk [],.dt []]):=by
  have o:∀j,(j<S.length\/S.length+2<j)->kC j f=false:=λj n=>by show(decide (S.length+1=j)||(decide (S.length+2=j)||false))=false;rw[aG<|by omega,aG<|by omega];rfl
  refine⟨by rw[ao];exact cG ..,λj h=>ay h,λj h s=>?_,λb j n=>?_⟩
  ·show(S++[f,.dk [],.dt []]).any (kC j)=false;rw[hU,s];show(false||(kC j f||(false||(false||false))))=false;rw[o j<|.inl h];rfl
  ·rw[ao]at n;have x:S.length+3<=j:=n;show(S++[f,.dk [],.dt []]).any (kC j)=false;rw[hU,show S.any (kC j)=false from b j (by omega)];show(false||(kC j f||(false||(false||false))))=false;rw[o j<|.inr<|by omega];rfl
 have l:=u.trans t;refine⟨F,?_,⟨_,_,M1,G,m,by simpa using y⟩,⟨l.len,l.pre,l.sf,l.bnd⟩⟩;unfold yb;show i6 (iV _ _ [ba S.length,iQ<|d.map Rd.d,none,none]<|S++[.ob a.Sight []])=_;have C:wK a.Sight (zV 0) "masts" Eu [ba S.length,iQ<|d.map Rd.d,none,none] (S++[.ob a.Sight []])=.nx [ba S.length,iQ<|d.map Rd.d,none,none] (S++[.ob a.Sight [("masts",.loc<|S.length+1)],.dk []]):=by
  show(match(S++[Cell.ob a.Sight []]++[Cell.dk []])[S.length]? with
   |some (.ob k fs)=>if k=a.Sight/\fs.length<1000 then k4.nx [ba S.length,iQ<|d.map Rd.d,none,none] ((S++[Cell.ob a.Sight []]++[Cell.dk []]).set S.length (.ob k<|tE "masts" (.loc (S++[Cell.ob a.Sight []]).length) fs))else .bad
   |_=>.bad)=_
  rw[bS,aK<|ag _,dW];show(if a.Sight=a.Sight/\0<1000 then _ else _)=_;rw[av ⟨rfl,by decide⟩,fj _ _<|ag _,dW,ao];rfl
 have A:wK a.Sight (zV 0) "places" zP [ba S.length,iQ<|d.map Rd.d,none,none] (S++[.ob a.Sight [("masts",.loc<|S.length+1)],.dk []])=.nx [ba S.length,iQ<|d.map Rd.d,none,none] (S++[f,.dk [],.dt []]):=by
  show(match(S++[Cell.ob a.Sight [("masts",.loc (S.length+1))],.dk []]++[Cell.dt []])[S.length]? with
   |some (.ob k fs)=>if k=a.Sight/\fs.length<1000 then k4.nx [ba S.length,iQ<|d.map Rd.d,none,none] ((S++[Cell.ob a.Sight [("masts",.loc<|S.length+1)],.dk []]++[Cell.dt []]).set S.length (.ob k<|tE "places" (.loc (S++[Cell.ob a.Sight [("masts",.loc<|S.length+1)],.dk []]).length) fs))else .bad
   |_=>.bad)=_
  rw[bS,aK<|ag _,dW];show(if a.Sight=a.Sight/\1<1000 then _ else _)=_;rw[av ⟨rfl,by decide⟩,fj _ _<|ag _,dW,ao];kernel_rfl
 rw[jx C,jx A];show i6 (kF (hV 2) (sL a) (d.map Rd.d) [ba S.length,iQ<|d.map Rd.d,none,none]<|S++[f,.dk [],.dt []])=_;rw[D];rfl
variable{a:Ad}
structure pB(r:Rd):Prop where
 t:Sz 61 r.t
 low:FM.oJ r.p r.q
 p:Sz 62 r.p
 q:Sz 62 r.q
def pB.n(h:pB r):r.q≠0:=by have:=h.low.pos;omega
def PM{p q:Int}(L:FM.oJ p q):fr p q=pr p q:=by have:=FM.scaled L (show(1:Int)≠0 by decide);rw[iJ,iJ]at this;show D.tup [.int<|FM.top p q,.int<|FM.bot p q]=_;rw[this.1,this.2]
def Pd(h:∀r∈row,pB r)(r):tP (envOf row r):=by
 have c:∀x,Sz 61 (envOf row r x).1/\Sz 62 (envOf row r x).2.1/\Sz 62 (envOf row r x).2.2/\(envOf row r x).2.2≠0:=λx=>by
  unfold envOf;cases q:see row r x with
  |none=>exact⟨(by unfold Sz;decide:Sz 61 0),(by unfold Sz;decide:Sz 62 0),wc,by decide⟩
  |some s=>have k:=h s (aaz q);exact⟨k.t,k.p,k.q,k.n⟩
 exact⟨λx=>(c x).1,λx=>(c x).2.1,λx=>(c x).2.2.1,λx=>(c x).2.2.2⟩
abbrev lC:=Str×T7
def jk(r:lC):D:=.tup [.str r.1,r.2.d]
def hit(c:List Rd)(A:List Ask)(t:T7)(r:Rd):Bool:=(A.all λk=>(see c r k).isSome)&&hv (envOf c r) t
def ts(c:List Rd)(A:List Ask)(d:Str)(r:Rd):D:=.tup [.str r.m,.int r.t,.str d,.lst<|(ktL<|(A.filterMap<|see c r).map jn).map k8]
structure sF(A:List Ask)(t:T7):Prop where
 w:Cw t
 dep:t.dep<8
 here:Ask.here∈A
 asks:∀x∈t.asks,x∈A
 len:A.length<64
structure Jd(a:Ad)(Ff Fa:je)(Zi Zs Zf Zh Zk:ji):Prop where
 f:HF Ff
 i:∀(S:i3) (row:List Rd),row.length<=10000->∃S',Zi [.loc S.length,.d<|.lst<|row.map Rd.d] (S++[.ob a.Sight []])=.ok (.d .non) S'/\(∃nm np M P lc,Sg a S' S.length S'.length nm np M P lc row)/\Gr S S'
 s:∀{S} {n hi nm np} {M} {P} {lc} {row},Sg a S n hi nm np M P lc row->hi<=S.length->∀r (A:List Ask),A.length<=10000->
  (∃k∈A,see row r k=none)/\(∃B:List<|Ask×Rd,Zs [.loc n,.d r.d,.d<|.lst<|A.map Ask.d] S=.ok (.d .non) (S++[.dt<|B.map encP]))
  \/(∀k∈A,∃s,see row r k=some s)/\∃B:List (Ask×Rd),Seen row r A B/\Zs [.loc n,.d r.d,.d<|.lst<|A.map Ask.d] S=.ok (.loc S.length) (S++[.dt<|B.map encP])
 o:∀{S} {n} {row} {r} {A} {B},Seen row r A B->(∀k∈A,∃s,see row r k=some s)->S[n]?=some (.dt<|B.map encP)->S[0]?=some .mk->B.length<1000->
  ∃S' kvs,Gr S S'/\Zf [.loc n] S=.ok (.loc<|S.length+1) S'/\Fd S' (S.length+1) A (envOf row r) kvs
 h:∀{S} {n} {A} {e} {kvs} {t},Fd S n A e kvs->tP e->sF A t->Zh [.d t.d,.loc n] S=.ok (.d<|.bl<|hv e t) S
 k:∀{S} {n} {B:List<|Ask×Rd},S[n]?=some (.dt<|B.map encP)->S[0]?=some .mk->mm S->B.length<64->∃S',Gr S S'/\Zk [.loc n] S=.ok (.d<|.lst<|(ktL<|B.map λp=>jn p.2).map k8) S'
structure In(a:Ad)(S:i3)(nt ns nl:Nat)(row:List Rd)(told left:List D):Prop where
 m0:S[0]?=some .mk
 bnd:mm S
 tt:S[nt]?=some (.li<|told.map .d)
 st:n7 S nt
 ll:S[nl]?=some (.li<|left.map .d)
 sl:n7 S nl
 sg:∃hi nm np M P lc,hi<=nl/\Sg a S ns hi nm np M P lc row
 o0:0<nt
 o1:nt<ns
 o2:ns<nl
section
variable{S v:i3}{q E H b:Nat}{m:List Rd}{o left:List D}
def In.gr(h:In a S q E H m o left)(g:Gr S v):In a v q E H m o left:=
 ⟨g.get h.m0,g.bnd h.bnd,g.get h.tt,g.sf _ (mC h.tt) h.st,g.get h.ll,g.sf _ (mC h.ll) h.sl,let⟨i,d,c,M,P,f,l,k⟩:=h.sg;⟨i,d,c,M,P,f,l,k.mv λj _ n=>g.pre j (by have:=mC h.ll;omega)⟩,h.o0,h.o1,h.o2⟩
def In.tld(h:In a S q E H m o left)(d):In a (S.set q<|.li<|(o++[d]).map .d) q E H m (o++[d]) left:=by have k:=h.o0;have i:=h.o1;have f:=h.o2;exact⟨by rw[ar<|by omega];exact h.m0,λj c=>nc (h.bnd j<|by rw[aO]at c;exact c)<|my _ _,aA<|mC h.tt,nc h.st<|my _ _,by rw[ar<|by omega];exact h.ll,nc h.sl<|my _ _,let⟨r,n,l,M,P,p,t,s⟩:=h.sg;⟨r,n,l,M,P,p,t,s.mv λj c _=>ar<|by omega⟩,k,i,f⟩
def In.IZ(h:In a S q E H m o left)(d):In a (S.set H<|.li<|(left++[d]).map .d) q E H m o (left++[d]):=by have k:=h.o0;have i:=h.o1;have f:=h.o2;exact⟨by rw[ar<|by omega];exact h.m0,λj c=>nc (h.bnd j<|by rw[aO]at c;exact c)<|my _ _,by rw[ar<|by omega];exact h.tt,nc h.st<|my _ _,aA<|mC h.ll,nc h.sl<|my _ _,let⟨r,n,l,M,P,p,t,s⟩:=h.sg;⟨r,n,l,M,P,p,t,s.mv λj _ c=>ar<|by omega⟩,k,i,f⟩
def Gr.lw(g:Gr S v)(c:b<=S.length):jV b S v:=⟨g.len,λj h=>g.pre j<|by omega,λj h=>g.sf j<|by omega,g.bnd⟩
def jV.wz{L:List D}(h:b<=i):jV b S (S.set i<|.li<|L.map .d):=jV.set h λj _=>my _ _
variable{Q I:je}{U T O N K:ji}
def Sk(h:Seen m r A B):ktL (B.map λp=>jn p.2)=ktL ((A.filterMap<|see m r).map jn):=Sm λk=>by
 rw[aI,aI];constructor
 ·rintro ⟨p,i,rfl⟩
  obtain⟨d,c⟩:=(h.mem p).mp i;exact⟨p.2,bB.mpr ⟨p.1,d,c⟩,rfl⟩
 ·rintro ⟨s,f,rfl⟩
  obtain⟨k,d,c⟩:=bB.mp f;exact⟨(k,s),(h.mem (k,s)).mpr ⟨d,c⟩,rfl⟩
def RN(J:Jd a Q I U T O N K){t}(G:sF A t)(y:∀r∈m,pB r)(h:In a S q E H m o left)(hb:b<=q)(hz:o.length<50000/\left.length<50000)(r:Rd)(R0 R1 R3 s9):
    ∃v t9,qN a Q I U T O N K [R0,R1,ba q,R3,iN<|jk (nm,t),ba E,iQ<|A.map Ask.d,ba H,iN r.d,s9] S
     =.nx [R0,R1,ba q,R3,iN<|jk (nm,t),ba E,iQ<|A.map Ask.d,ba H,iN r.d,t9] v
     /\In a v q E H m (if hit m A t r=true then o++[ts m A nm r]else o) (if hit m A t r=true then left else left++[r.d])/\jV b S v:=by
 obtain⟨hi,nm',np,M,P,lc,h1,g⟩:=h.sg;have Y:=mC h.ll;have o1:=h.o1;have o2:=h.o2;unfold qN;rcases J.s g (by omega) r A (by have:=G.len;omega)with⟨⟨k,k1,k2⟩,B,e⟩|⟨f,B,R,e⟩
 ·-- not all is there
  have j:hit m A t r=false:=by unfold hit;rw[show(A.all λk=>(see m r k).isSome)=false from List.all_eq_false.mpr ⟨k,k1,by rw[k2];exact ax⟩];rfl
  rw[j,aw ax,aw ax];have w:Gr S (S++[.dt<|B.map encP]):=Gr.app (Hj B);have u:=h.gr w;rw[jx<|jS (ED (kJ rfl) g.ob (by kernel_rfl) (i7 (i0 (d:=r.d) rfl)<|i7 (i0 (d:=.lst<|A.map Ask.d) rfl) jN) e)<|ai rfl];refine⟨_,iN .non,?_,u.IZ r.d,(w.lw<|by omega).trans (jV.wz<|by omega)⟩;show jE _ _ _ [R0,R1,ba q,R3,iN<|jk (nm,t),ba E,iQ<|A.map Ask.d,ba H,iN r.d,iN .non] (S++[.dt<|B.map encP])=_;rw[r6<|acs<|L1<|kJ (z:=.d .non) rfl];rw[u0 rfl u.ll (i0 (d:=r.d) rfl) u.ll<|by rw[aj];omega,bF];rfl
 ·have i:(A.all λk=>(see m r k).isSome)=true:=cF.mpr λk hk=>by obtain⟨s,hs⟩:=f k hk;rw[hs];rfl
  have w:Gr S (S++[.dt<|B.map encP]):=Gr.app (Hj B);have u:=h.gr w;have L:B.length<64:=bY R.len G.len;obtain⟨V,kvs,F,e2,fd⟩:=J.o (S:=S++[.dt (B.map encP)]) (n:=S.length) R f (nO S _) u.m0 (by omega);have l:=u.gr F;have eh:=J.h fd (Pd y r) G;rw[jx<|jS (ED (kJ rfl) g.ob (by kernel_rfl) (i7 (i0 (d:=r.d) rfl)<|i7 (i0 (d:=.lst<|A.map Ask.d) rfl) jN) e)<|ai rfl];have c:tM (wU<|zV 9) (ph tT<|zZ N<|iM (zD<|iY 4 1)<|iM (zZ O<|iM (zV 9) i4) i4) [R0,R1,ba q,R3,iN<|jk (nm,t),ba E,iQ<|A.map Ask.d,ba H,iN r.d,ba S.length] (S++[.dt<|B.map encP])=.ok (hv (envOf m r) t) V:=by rw[acr<|L1<|kJ (z:=.loc S.length) rfl];exact z5 (lh (i7 (i0 (d:=t.d) rfl)<|i7 (lh (i7 (kJ rfl) jN) e2) jN) eh) rfl
  cases C:hv (envOf m r) t with
  |false=>
   have j:hit m A t r=false:=by unfold hit;rw[C,iu]
   rw[j,aw ax,aw ax];rw[C]at c;refine⟨_,ba S.length,?_,l.IZ r.d,((w.trans F).lw (by omega)).trans (jV.wz<|by omega)⟩;show jE _ _ _ [R0,R1,ba q,R3,iN<|jk (nm,t),ba E,iQ<|A.map Ask.d,ba H,iN r.d,ba S.length] (S++[.dt<|B.map encP])=_;rw[r6 c];rw[u0 rfl l.ll (i0 (d:=r.d) rfl) l.ll<|by rw[aj];omega,bF];rfl
  |true=>
   have x:hit m A t r=true:=by unfold hit;rw[C,i];rfl
   rw[x,av rfl,av rfl];rw[C]at c;obtain⟨S3,g3,e3⟩:=J.k (S:=V) (n:=S.length) (F.get (nO S _)) l.m0 l.bnd L;have Z:=l.gr g3;have em:ts m A nm r=.tup [.str r.m,.int r.t,.str nm,.lst<|(ktL<|B.map λp=>jn p.2).map k8]:=by unfold ts;rw[Sk R]
   refine⟨_,ba S.length,?_,Z.tld<|ts m A nm r,(((w.trans F).trans g3).lw (by omega)).trans (jV.wz hb)⟩;show jE _ _ _ [R0,R1,ba q,R3,iN<|jk (nm,t),ba E,iQ<|A.map Ask.d,ba H,iN r.d,ba S.length] (S++[.dt<|B.map encP])=_;rw[mf c];have ev:zF jz (iM (zD<|iY 8 0)<|iM (zD<|iY 8 1)<|iM (zD<|iY 4 0)<|iM (zZ K<|iM (zV 9) i4) i4) [R0,R1,ba q,R3,iN<|jk (nm,t),ba E,iQ<|A.map Ask.d,ba H,iN r.d,ba S.length] V=.ok (.d<|ts m A nm r) S3:=by rw[em];exact lY [.str r.m,.int r.t,.str nm,.lst<|(ktL<|B.map λp=>jn p.2).map k8] (i7 (i0 rfl)<|i7 (i0 rfl)<|i7 (i0 rfl)<|i7 (lh (i7 (kJ rfl) jN) e3) jN) rfl
   rw[u0 rfl l.tt ev Z.tt<|by rw[aj];omega,bF];rfl
variable{a:Ad}
variable{X:jj}
def acz{F:ji}{fs:jj->i3->RX (List Z)}(f:fs X S=.ok zs S)(h:F (.loc S.length::zs) (S++[.ob C []])=.ok (.d .non) v):wV C F fs X S=.ok (.loc S.length) v:=by
 unfold wV;rw[f]
 show(match F (.loc S.length::zs) (S++[.ob C []])with
  |.ok (.d .non) d=>RX.ok (Z.loc S.length) d
  |.ex c E ds d=>.ex c E ds d
  |_=>.bad)=_
 rw[h]
def zM{n g}{L:List D}(h:X[i]?=some (ba n))(f:S[n]?=some (.li<|L.map .d))(d:b<=n)(c:n7 S n):r4 b i g X S=g (X.map<|pW n<|.lst L) (S.set n .no):=by unfold r4 uo;rw[h];dsimp only;rw[f];dsimp only;rw[rn];dsimp only;rw[av ⟨d,c⟩]
theorem LD{c:Type}(p):∀l:List c,(l.filter p).length+(l.filter λx=>!p x).length=l.length
 |[]=>rfl
 |x::l=>by
  have:=LD p l;cases h:p x with
  |true=>rw[cN h,cO<|by rw[h];decide,aq,aq];omega
  |false=>rw[cO<|by rw[h];decide,cN<|by rw[h];rfl,aq,aq];omega
theorem BD(J:Jd a Q I U T O N K){t}(s:sF A t)(c:∀r∈m,pB r)(p:b<=q)(R0 R1 R3):∀(rest:List Rd) S o left s8 s9,In a S q E H m o left->o.length+left.length+rest.length<50000->
 ∃v C f,kF (hV 8) (qN a Q I U T O N K) (rest.map Rd.d) [R0,R1,ba q,R3,iN<|jk (nm,t),ba E,iQ<|A.map Ask.d,ba H,s8,s9] S
  =.nx [R0,R1,ba q,R3,iN<|jk (nm,t),ba E,iQ<|A.map Ask.d,ba H,C,f] v
  /\In a v q E H m (o++(rest.filter<|hit m A t).map (ts m A nm)) (left++(rest.filter λr=>!hit m A t r).map Rd.d)/\jV b S v
 |[],S,o,left,s8,s9,h,_=>⟨S,s8,s9,rfl,by simpa using h,.refl _ _⟩
 |r::rest,S,o,left,s8,s9,h,F=>by
  rw[aq]at F;obtain⟨y,f,L,j,z⟩:=RN (nm:=nm) J s c h p ⟨by omega,by omega⟩ r R0 R1 R3 s9;have st:∀x:k4,kF (hV 8) (qN a Q I U T O N K) (rest.map Rd.d) [R0,R1,ba q,R3,iN<|jk (nm,t),ba E,iQ<|A.map Ask.d,ba H,iN r.d,f] y=x->kF (hV 8) (qN a Q I U T O N K) ((r::rest).map Rd.d) [R0,R1,ba q,R3,iN<|jk (nm,t),ba E,iQ<|A.map Ask.d,ba H,s8,s9] S=x:=λx G=>by show nU (qN a Q I U T O N K [R0,R1,ba q,R3,iN<|jk (nm,t),ba E,iQ<|A.map Ask.d,ba H,iN r.d,s9] S) (kF (hV 8) (qN a Q I U T O N K)<|rest.map Rd.d)=_;rw[L];exact G
  cases d:hit m A t r with
  |true=>rw[d,av rfl,av rfl]at j;obtain⟨w,l,k,u,i,n⟩:=BD J s c p R0 R1 R3 rest y _ _ (iN r.d) f j (by rw[ao];simp;omega);refine⟨w,l,k,st _ u,?_,z.trans n⟩;rw[cN d,cO (by rw[d];decide),aR];rw[bS]at i;exact i
  |false=>rw[d,aw ax,aw ax]at j;obtain⟨w,l,k,u,i,n⟩:=BD J s c p R0 R1 R3 rest y _ _ (iN r.d) f j (by rw[ao];simp;omega);refine⟨w,l,k,st _ u,?_,z.trans n⟩;rw[cO (by rw[d];decide),cN (by rw[d];rfl),aR];rw[bS]at i;exact i
structure Out(S:i3)(q:Nat)(o:List D):Prop where
 m0:S[0]?=some .mk
 bnd:mm S
 tt:S[q]?=some (.li<|o.map .d)
 st:n7 S q
 o0:0<q
def k7(d:T7->List Ask)(st:List D×List Rd)(c:lC):List D×List Rd:=(st.1++(st.2.filter<|hit st.2 (d c.2) c.2).map (ts st.2 (d c.2) c.1),st.2.filter λr=>!hit st.2 (d c.2) c.2 r)
def judge(d:T7->List Ask)(c:List lC)(m:List Rd):List D×List Rd:=c.foldl (k7 d) ([],m)
def RM(J:Jd a Q I U T O N K){f:T7->List Ask}(i:lC)(hF:I [i.2.d]=.ok (.lst<|(f i.2).map Ask.d))(hR:sF (f i.2) i.2)(l:∀r∈m,pB r)(h:Out S q o)(hb:b<=q)(hz:o.length+m.length<10000)(d0 d1 s5 s6 s7 s8 s9):
    ∃v G F C w u,sP a Q I U T O N K b [iN d0,iN d1,ba q,iQ<|m.map Rd.d,iN<|jk i,s5,s6,s7,s8,s9] S
     =.nx [iN d0,iN d1,ba q,iQ<|(k7 f (o,m) i).2.map Rd.d,iN<|jk i,G,F,C,w,u] v/\Out v q (k7 f (o,m) i).1/\jV b S v:=by
 obtain⟨nm,t⟩:=i;have n:=mC h.tt;obtain⟨c,e1,⟨R,L,M,P,V,y⟩,s⟩:=J.i S m (by omega);have g1b:=y.b1;have g1c:=y.b2;have p:Gr c (c++[.li []]):=Gr.app λ_=>rfl;have gr:=s.trans p
 have h2:In a (c++[.li []]) q S.length c.length m o []:=
  ⟨gr.get h.m0,gr.bnd h.bnd,gr.get h.tt,gr.sf _ n h.st,nO c _,qY (s.bnd h.bnd _<|ag _) rfl,⟨c.length,R,L,M,P,V,ag _,y.mv λj _ x=>p.pre j x⟩,h.o0,n,by omega⟩
 obtain⟨z,w,u,e3,k,Z⟩:=BD (nm:=nm) J hR l hb (iN d0) (iN d1) (iQ (m.map Rd.d)) m (c++[.li []]) o [] s8 s9 h2 (by simp;omega);rw[fJ]at k;have A:q≠c.length:=by omega
 have Y:jV b z (z.set c.length .no):=jV.set (by omega) λ_ _=>rfl;refine⟨z.set c.length .no,ba S.length,iQ<|(f t).map Ask.d,iQ<|(m.filter λr=>!hit m (f t) t r).map Rd.d,pW c.length (.lst<|(m.filter λr=>!hit m (f t) t r).map Rd.d) w,pW c.length (.lst<|(m.filter λr=>!hit m (f t) t r).map Rd.d) u,?_,⟨?_,λj x=>nc (k.bnd j<|by rw[aO]at x;exact x) rfl,?_,nc k.st rfl,h.o0⟩,((gr.lw<|by omega).trans Z).trans Y⟩
 ·unfold sP;rw[jx<|jS (acz (i7 (i0 (d:=.lst<|m.map Rd.d) rfl) jN) e1)<|ai rfl];rw[jx<|jS (i0 (d:=.lst<|(f t).map Ask.d) hF)<|ai rfl];rw[jx<|jS (show mE (λX=>(iU X).bind jF) _ c=.ok (.loc c.length) (c++[.li []])from rfl)<|ai rfl];show iV (lX _ _ _) _ [iN d0,iN d1,ba q,iQ<|m.map Rd.d,iN<|jk (nm,t),ba S.length,iQ<|(f t).map Ask.d,ba c.length,s8,s9] (c++[.li []])=_;rw[jx<|show lX (λX=>((dV 3) X).bind ke) (hV 8) (qN a Q I U T O N K) [iN d0,iN d1,ba q,iQ<|m.map Rd.d,iN<|jk (nm,t),ba S.length,iQ<|(f t).map Ask.d,ba c.length,s8,s9] (c++[.li []])=_ from e3];rw[zM rfl k.ll (by omega) k.sl];show jd 3 _ [iN d0,iN d1,(if q=c.length then _ else ba q),iQ<|m.map Rd.d,iN<|jk (nm,t),(if S.length=c.length then _ else ba S.length),iQ<|(f t).map Ask.d,(if c.length=c.length then iQ ((m.filter λr=>!hit m (f t) t r).map Rd.d)else _),pW c.length (.lst<|(m.filter λr=>!hit m (f t) t r).map Rd.d) w,pW c.length (.lst<|(m.filter λr=>!hit m (f t) t r).map Rd.d) u] _=_;rw[aw A,aw<|show¬S.length=c.length by omega,av rfl];rfl
 ·rw[ar<|by omega];exact k.m0
 ·rw[ar<|bP A];exact k.tt
theorem Iu(J:Jd a Q I U T O N K){f:T7->List Ask}(G:b<=q)(s d1:D):∀(c:List lC) (S:i3) (o:List D) (m:List Rd) (t p n l k j:Option Z),(∀d∈c,I [d.2.d]=.ok (.lst<|(f d.2).map Ask.d)/\sF (f d.2) d.2)->(∀r∈m,pB r)->Out S q o->o.length+m.length<10000->
 ∃v t4 z y x w u,kF (hV 4) (sP a Q I U T O N K b) (c.map jk) [iN s,iN d1,ba q,iQ<|m.map Rd.d,t,p,n,l,k,j] S
  =.nx [iN s,iN d1,ba q,iQ<|(c.foldl (k7 f) (o,m)).2.map Rd.d,t4,z,y,x,w,u] v/\Out v q (c.foldl (k7 f) (o,m)).1/\jV b S v
 |[],S,o,m,t,p,n,l,k,j,_,_,h,_=>⟨S,t,p,n,l,k,j,rfl,h,.refl _ _⟩
 |d::c,S,o,m,t,p,n,l,k,j,F,i,h,hz=>by
  obtain⟨S1,z,y,x,w,u,e1,h1,l1⟩:=RM J d (F d<|.head _).1 (F d<|.head _).2 i h G hz s d1 p n l k j;have A:(k7 f (o,m) d).1.length+(k7 f (o,m) d).2.length<10000:=by show(o++(m.filter<|hit m (f d.2) d.2).map _).length+(m.filter λr=>!hit m (f d.2) d.2 r).length<10000;have:=LD (hit m (f d.2) d.2) m;rw[ao,aj];omega
  obtain⟨S2,Y,V,R,P,M,L,e2,h2,l2⟩:=Iu J G s d1 c S1 (k7 f (o,m) d).1 (k7 f (o,m) d).2 (iN<|jk d) z y x w u (λr C=>F r<|.tail _ C) (λr C=>i r (dy.mp C).1) h1 A;refine⟨S2,Y,V,R,P,M,L,?_,h2,l1.trans l2⟩;show nU (sP a Q I U T O N K b [iN s,iN d1,ba q,iQ<|m.map Rd.d,iN<|jk d,p,n,l,k,j] S) (kF (hV 4) (sP a Q I U T O N K b)<|c.map jk)=_;rw[e1];exact e2
def Tb(J:Jd a Q I U T O N K){i:T7->List Ask}(c:List lC)(m:List Rd)(P:∀j∈c,I [j.2.d]=.ok (.lst<|(i j.2).map Ask.d)/\sF (i j.2) j.2)(h:∀r∈m,pB r)(F:m.length<10000)(t:S[0]?=some .mk)(p:mm S):
    ∃v,Gr S v/\i6 (yf a Q I U T O N K S.length (jr 10 [.d<|.lst<|m.map Rd.d,.d<|.lst<|c.map jk]) S)=.ok (.d<|.tup [.lst (judge i c m).1,.lst<|(judge i c m).2.map Rd.d]) v:=by
 have M:=mC t;have gr:Gr S (S++[.li []]):=Gr.app λ_=>rfl;have V:Out (S++[.li []]) S.length []:=⟨gr.get t,gr.bnd p,nO S _,qY (p _<|ag _) rfl,M⟩;obtain⟨n,t4,t5,t6,t7,t8,Z,Y,s,C⟩:=Iu (b:=S.length) J (ag _) (.lst (m.map Rd.d)) (.lst (c.map jk)) c (S++[.li []]) [] m none none none none none none P h V (by simpa using F);have A:jV S.length n (n.set S.length .no):=jV.set (ag _) λ_ _=>rfl;have l:=((gr.lw<|ag _).trans C).trans A;refine⟨n.set S.length .no,⟨l.len,l.pre,l.sf,l.bnd⟩,?_⟩;unfold yf;show i6 (iV (jd 2 _) _ [iQ<|m.map Rd.d,iQ<|c.map jk,none,none,none,none,none,none,none,none] S)=_;rw[jx<|jS (show mE (λX=>(iU X).bind jF) _ S=.ok (.loc S.length) (S++[.li []])from rfl)<|ai rfl];rw[jx (jS (i0 (d:=.lst (m.map Rd.d)) (qM (ug (f:=Rd.d) (g:=Rd.d) (L:=m) rfl (by omega) λr G=>by have k:=h r G;show((R.ok<|D.str r.m).bind λx=>((R.ok<|D.int r.t).bind λy=>((Q [.int r.p,.int r.q]).bind λz=>(R.ok [z])).bind λu=>R.ok<|y::u).bind λw=>R.ok<|x::w).bind jz=_;rw[J.f r.p r.q k.n<|zN k.q<|by decide,PM k.low];rfl))) (ai rfl))]
 show i6 (iV (lX _ _ _) _ [iQ<|m.map Rd.d,iQ<|c.map jk,ba S.length,iQ<|m.map Rd.d,none,none,none,none,none,none]<|S++[.li []])=_;rw[jx<|show lX (λX=>((dV 1) X).bind ke) (hV 4) (sP a Q I U T O N K S.length) [iQ<|m.map Rd.d,iQ<|c.map jk,ba S.length,iQ<|m.map Rd.d,none,none,none,none,none,none] (S++[.li []])=_ from Y];rw[zM rfl s.tt (ag _) s.st];show i6 (jG _ [iQ<|m.map Rd.d,iQ<|c.map jk,(if S.length=S.length then iQ (c.foldl (k7 i) ([],m)).1 else _),iQ<|(c.foldl (k7 i) ([],m)).2.map Rd.d,_,_,_,_,_,_] _)=_;rw[av rfl,y_ret<|i0 (d:=.tup [.lst (judge i c m).1,.lst<|(judge i c m).2.map Rd.d]) rfl];rfl
end
variable{a:Ad}
abbrev sc(x b:Int):Cell:=.li [.d<|.int x,.d<|.int b]
abbrev sx(S:i3)(nn:Nat)(x b:Int):i3:=S.set nn (sc x b)
variable{S:i3}{nn:Nat}
def Ln(c:nn<S.length)(x b:Int):(sx S nn x b)[nn]?=some (.li<|([.int x,.int b]:List D).map Z.d):=aA c
def uU(c:nn<S.length)(x b:Int)(s):vw (sx S nn x b) (ba nn::s)=.sh (.lst [.int x,.int b])::vw (sx S nn x b) s:=by show nV _ _::_=_;rw[wJ<|Ln c x b];rfl
def Lp(c:nn<S.length){x b y:Int}{s}{f:jm}(h:f (ba nn::s) (sx S nn x b)=.ok (.d<|.int y) (sx S nn x b)):uZ 0 (iP 0) f (ba nn::s) (sx S nn x b)=.nx (ba nn::s) (sx S nn y b):=by
 unfold uZ;rw[h]
 show(match D.int 0,(sx S nn x b)[nn]? with
  |.int j,some (.li zs)=>(match qt zs.length j with
   |some m=>k4.nx (ba nn::s) ((sx S nn x b).set nn (.li<|zs.set m<|.d<|.int y))
   |none=>.bad)
  |_,_=>.bad)=_
 rw[Ln c];show k4.nx (ba nn::s) ((sx S nn x b).set nn (sc y b))=_;rw[List.set_set]
def XH{i j:Int}(d:0<j)(c:j.natAbs<2^300):j7 (.int i) (.int j)=.ok (.int<|i/j):=by have f:bits j<=300:=bits_le c;rw[C1,av<|by unfold uF;simp only[aQ,bw];omega,fR _<|by omega]
def Tj(f:nn<S.length)(m x b:Int)(h:0<m)(o:m.natAbs<2^300)(bb):∃r c:Int,0<=r/\r<m/\i6 (yt a bb (jr 3 [.loc nn,.d<|.int m])<|sx S nn x b)=.ok (.d<|.int r) (sx S nn c b):=by
 have l:=cB x (show m≠0 by omega);have k:=cj x h;unfold yt;show∃r c:Int,0<=r/\r<m/\i6 (iV (jE (qa _) _ _) _ [ba nn,iW m,none]<|sx S nn x b)=_;by_cases j:b=0
 ·subst j;refine⟨x%m,x/m,l,k,?_⟩;rw[pe (z:=.d<|.int<|x%m) (S1:=sx S nn (x/m) 0)];·rfl
  ·rw[mf<|zW (d:=true)<|by rw[uU f];rfl];rw[jx<|jS (u4 (d:=.int<|x%m) (by rw[uU f];show jH (.int x) (.int m)=_;exact m9 h) rfl)<|ai rfl];show iV (uZ 0 _ _) _ [ba nn,iW m,iW<|x%m] (sx S nn x 0)=_;rw[jx<|Lp f (y:=x/m)<|u4 (by rw[uU f];show j7 (.int x) (.int m)=_;exact XH h o) rfl];exact y_ret (i0 rfl)
 ·generalize n:(x%2147483647*48271+1013)%2147483629=c;generalize i:c*69621%2147483587/11%m=r;refine⟨r,c,by rw[<-i];exact cB _ (by omega),by rw[<-i];exact cj _ h,?_⟩;rw[lg (zW (d:=false) (S:=sx S nn x b) (by rw[uU f];show(R.ok (decide (b=0)):R Bool)=_;rw[aG j]))];rw[jx (Lp f (y:=c) (u4 (by
   rw[uU f];show(((((jH (.int x) (.int 2147483647)).bind λy=>km y (.int 48271)).bind λy=>j0 y (.int 1013)).bind λy=>jH y (.int 2147483629)))=_;rw[m9 (by decide)];show(((km (.int (x%2147483647)) (.int 48271)).bind λy=>j0 y (.int 1013)).bind λy=>jH y (.int 2147483629))=_;rw[C2 (by decide) (by decide)];show jH (.int (x%2147483647*48271+1013)) (.int 2147483629)=_;rw[m9 (by decide),n]) rfl))]
  rw[y_ret<|u4 (d:=.int r) (by rw[uU f];show(((((km (.int c)<|.int 69621).bind λy=>jH y<|.int 2147483587).bind λy=>j7 y<|.int 11).bind λy=>jH y<|.int m))=_;rw[C2 (by decide)<|by decide];show(((jH (.int<|c*69621)<|.int 2147483587).bind λy=>j7 y<|.int 11).bind λy=>jH y<|.int m)=_;rw[m9<|by decide];show((j7 (.int<|c*69621%2147483587)<|.int 11).bind λy=>jH y<|.int m)=_;rw[rV (by decide)<|by decide];show jH (.int<|c*69621%2147483587/11) (.int m)=_;rw[m9 h,i]) rfl]
  rfl
def T7.Ok:T7->Prop
 |.at w=>PyData.strOk w=true
 |.far _ n=>0<=n
 |.times _ _ t=>t.Ok
 |.abs t=>t.Ok
 |.not t=>t.Ok
 |.bin _ l r=>l.Ok/\r.Ok
 |_=>True
structure Gd(Q:T7->Prop)(n k:Nat)(t:T7):Prop where
 ok:t.Ok
 dep:t.dep<=n
 sz:t.parts.length<=k
 w:Q t
def QS(t:T7):Prop:=∃s,s<=190/\Tw s t
def Pk(d:ji):Prop:=∀{S:i3} {nn},nn<S.length->∀m x b:Int,0<m->m.natAbs<2^300->∃r c:Int,0<=r/\r<m/\d [.loc nn,.d<|.int m] (sx S nn x b)=.ok (.d<|.int r) (sx S nn c b)
def Lw(c:je):Prop:=∀t b:Int,0<b->b.natAbs<10^400->c [.int t,.int b]=.ok (fr t b)
def Gv(f:ji)(d:List Str)(Q:T7->Prop)(n k:Nat):Prop:=∀{S:i3} {nn:Nat},nn<S.length->∀x b:Int,∃(t:T7) (c:Int),Gd Q n k t/\f [.loc nn,.d<|.lst<|d.map D.str] (sx S nn x b)=.ok (.d t.d) (sx S nn c b)
variable{Zp Zt Zs Zc:ji}{Fl:je}{b:Int}{ws:List Str}{Q:T7->Prop}{n k:Nat}
def JM{m:Int}(d:0<m)(c:m<1000):m.natAbs<2^300:=aF (by omega:m.natAbs<1000) (by decide)
def oA(h:Pk Zp)(i:nn<S.length)(m x:Int)(f:0<m)(o:m<1000):∃r c:Int,0<=r/\r<m/\∀ρ:jj,ρ[0]?=some (ba nn)->zZ Zp (iM (zV 0) (iM (zD (iP m)) i4)) ρ (sx S nn x b)=.ok (.d (.int r)) (sx S nn c b):=by obtain⟨r,c,l,j,e⟩:=h i m x b f (JM f o);exact⟨r,c,l,j,λρ d=>lh (i7 (kJ d)<|i7 (i0 rfl) jN) e⟩
def gv(f:Gv Zt ws Q n k)(d:nn<S.length)(x:Int):∃(t:T7) (c:Int),Gd Q n k t/\∀ρ:jj,ρ[0]?=some (ba nn)->ρ[1]?=some (iQ (ws.map D.str))->zZ Zt (iM (zV 0) (iM (zD (dV 1)) i4)) ρ (sx S nn x b)=.ok (.d t.d) (sx S nn c b):=by obtain⟨t,c,h,e⟩:=f d x b;refine⟨t,c,h,λρ j i=>lh (i7 (kJ j)<|i7 (i0 ?_) jN) e⟩;show dV 1 (lF ρ)=_;unfold dV lF;rw[aE,i];rfl
def Jc{t b:Int}(d:0<b)(f:b<1000)(c:t.natAbs<1000):(lo t b).2≠0/\Sz 62 (lo t b).1/\Sz 62 (lo t b).2:=by have h:=oS (t:=t) (b:=b) (s:=62) (r:=62) (by omega) (aF c<|by decide) (aF (by omega:b.natAbs<1000)<|by decide);exact⟨h.2.2,h.1,h.2.1⟩
def BO(c:Pk Zp)(o:Lw Fl)(d:nn<S.length)(m k x:Int)(f:0<m/\m<1000)(u:0<k/\k<900):∃p q l:Int,(q≠0/\Sz 62 p/\Sz 62 q)/\∀ρ:jj,ρ[0]?=some (ba nn)->
    zF Fl (iM (zZ Zp<|iM (zV 0)<|iM (zD<|iP m) i4)<|iM (z2 j0 (zD<|iP 1)<|zZ Zp<|iM (zV 0)<|iM (zD<|iP k) i4) i4) ρ (sx S nn x b)=.ok (.d<|.tup [.int p,.int q]) (sx S nn l b):=by
 obtain⟨r,j,C,A,w⟩:=oA (b:=b) c d m x f.1 f.2;obtain⟨s,i,z,y,v⟩:=oA (b:=b) c d k j u.1 (by omega);exact⟨_,_,i,Jc (t:=r) (b:=1+s) (by omega) (by omega)<|by omega,λρ h=>lY [.int r,.int<|1+s] (i7 (w ρ h)<|i7 (lH (i0 rfl) (v ρ h) rfl) jN)<|o r (1+s) (by omega)<|aF (by omega:(1+s).natAbs<2000)<|by decide⟩
def T8(j:∀w∈ws,PyData.strOk w=true):mL (.lst<|ws.map D.str) (.lst [])=.ok (.bl<|!ws.isEmpty):=by
 have l:∀L:List Str,(∀w∈L,PyData.strOk w=true)->lL (L.map D.str)=true/\og (L.map D.str)=0:=by
  intro L;induction L with
  |nil=>intro _;exact⟨rfl,rfl⟩
  |cons w L f=>
   intro h;obtain⟨c,d⟩:=f λx i=>h x (.tail _ i);refine⟨?_,?_⟩
   ·show(PyData.strOk w&&lL (L.map D.str))=true;rw[h w<|.head _,c];rfl
   ·show max 0 (og<|L.map D.str)=0;rw[d];rfl
 obtain⟨c,d⟩:=l ws j;obtain⟨r,e,h⟩:=xZ (a:=.lst (ws.map D.str)) (b:=.lst []) c rfl (by show og (ws.map D.str)+1<=60;omega) (by decide);unfold mL;rw[e];cases ws with
 |nil=>rw[h.mpr rfl];rfl
 |cons w L=>
  have:r=false:=by
   cases r with
   |false=>rfl
   |true=>cases h.mp rfl
  rw[this];rfl
def Pt(r:Int)(a:3<=r)(b:r<=7):r=3\/r=4\/r=5\/r=6\/r=7:=by omega
def Rf(r:Int)(d:0<=r)(c:r<10):mz (.int r) (.lst [.int 1,.int 2,.int 8,.int 9])=.ok (.bl<|decide<|r=1\/r=2\/r=8\/r=9):=by
 obtain⟨r,rfl⟩:=a9 d;have:r=0\/r=1\/r=2\/r=3\/r=4\/r=5\/r=6\/r=7\/r=8\/r=9:=by have:r<10:=Int.ofNat_lt.mp c;clear d c;revert r;decide
 rcases this with rfl|rfl|rfl|rfl|rfl|rfl|rfl|rfl|rfl|rfl<;>kernel_rfl
abbrev wd(ws:List Str):D:=.lst (ws.map D.str)
def Tt(v:Pk Zp)(hl:Lw Fl)(M:∀w∈ws,PyData.strOk w=true)(o:ws.length<1000):Gv (λT S=>i6<|yx a Fl Zp S.length (jr 4 T) S) ws (Tw 62) 0 1:=by
 intro S nn o x b;obtain⟨r,l,Y,V,e1⟩:=oA (b:=b) v o 10 x (by decide) (by decide);have Z:=T8 M;have F:=Rf r Y V;have step:∀g:jC,iV (jd 2<|zZ Zp<|iM (zV 0)<|iM (zD<|iP 10) i4) g [ba nn,iN<|wd ws,none,none] (sx S nn x b)=g [ba nn,iN<|wd ws,iW r,none] (sx S nn l b):=λg=>jx (jS (e1 _ rfl)<|ai rfl);have L:∀S,zB (b1 tB<|d2 jJ (dV 2)<|iP 0) [ba nn,iN<|wd ws,iW r,none] S=.ok (decide<|r=0) S:=λS=>mh rfl;have J:∀S,zB (n8 (b1 tB (d2 jJ (dV 2) (iP 8))) (b1 tB (d2 mL (dV 1) (jw (λρ=>(iU ρ).bind jF))))) [ba nn,iN (wd ws),iW r,none] S=.ok (decide (r=8)&&!ws.isEmpty) S:=λS=>mh (by show((R.ok (decide (r=8)):R Bool).bind λk=>if k=true then(mL (wd ws) (.lst [])).bind P2.tB else .ok false)=_;rw[Z];by_cases h:r=8<;>simp[h,R.bind,P2.tB])
 have I:∀S,zB (b1 tB<|d2 mz (dV 2)<|jw<|λρ=>((aa (iP 1)<|aa (iP 2)<|aa (iP 8)<|aa (iP 9) iU) ρ).bind jF) [ba nn,iN<|wd ws,iW r,none] S=.ok (decide<|r=1\/r=2\/r=8\/r=9) S:=λS=>mh (by show(mz (.int r)<|.lst [.int 1,.int 2,.int 8,.int 9]).bind P2.tB=_;rw[F];rfl)
 dsimp only;unfold yx;show∃(t:T7) (U:Int),Gd (Tw 62) 0 1 t/\i6 (iV _ _ [ba nn,iN<|wd ws,none,none]<|sx S nn x b)=_;rw[step];by_cases P:r=0
 ·obtain⟨p,q,c,m,A⟩:=BO (b:=b) v hl o 9 3 l (by decide) (by decide);refine⟨.num p q,c,⟨trivial,ag _,ag _,.num m.1 m.2.1 m.2.2⟩,?_⟩;rw[pe (z:=.d (T7.num p q).d) (S1:=sx S nn c b)];·rfl
  ·rw[mf<|(L _).trans (by rw[aN P])];exact y_ret (lY [.str "num",.tup [.int p,.int q]] (i7 (i0 rfl)<|i7 (A _ rfl) jN) rfl)
 ·rw[lg<|(L _).trans (by rw[aG P])];by_cases C:r=8/\ws≠[]
  ·obtain⟨C,y⟩:=C;have lw:0<ws.length:=List.length_pos_iff.mpr y;obtain⟨k,c,k0,k1,A⟩:=v o (ws.length:Int) l b (by omega) (JM (by omega)<|by omega);obtain⟨j,rfl⟩:=a9 k0;have jl:j<ws.length:=by omega
   refine⟨.at ws[j],c,⟨M _<|bZ _,ag _,ag _,.at _⟩,?_⟩;rw[pe (z:=.d (T7.at ws[j]).d) (S1:=sx S nn c b)];·rfl
   ·rw[mf<|(J _).trans (by rw[aN C,List.isEmpty_eq_false_iff.mpr y];rfl)];have ea:zZ Zp (iM (zV 0)<|iM (zD<|dA lE<|aa (dV 1) iU) i4) [ba nn,iN<|wd ws,iW r,none] (sx S nn l b)=.ok (.d<|.int (j:Int)) (sx S nn c b):=lh (i7 rfl<|i7 (i0 (d:=.int (ws.length:Int))<|by show lE [wd ws]=_;show R.ok (D.int ((ws.map D.str).length:Int))=_;rw[aj]) jN) A;refine y_ret (lY [.str "at",.str ws[j]] (i7 (i0 rfl)<|i7 (lH (x:=wd ws) (i0 rfl) ea ?_) jN) rfl);show(match L2.jY (ws.map D.str) (j:Int)with|some d=>R.ok d|none=>.bad)=_;rw[L2.ub<|show(ws.map D.str)[j]?=some (.str ws[j])by rw[aE,au jl];rfl]
  ·rw[lg ((J _).trans (by
    congr 1
    by_cases z:r=8
    · have:ws=[]:=b7 λw=>C ⟨z,w⟩;rw[this];simp
    · rw[aG z];rfl))]
   by_cases N:r=1\/r=2\/r=8\/r=9
   ·refine⟨.here,l,⟨trivial,ag _,ag _,.here⟩,?_⟩;rw[pe (z:=.d T7.here.d) (S1:=sx S nn l b)];·rfl
    ·rw[mf<|(I _).trans (by rw[aN N])];exact y_ret (i0 rfl)
   ·rw[lg<|(I _).trans (by rw[aG N])];obtain⟨f,c,f0,f1,A⟩:=oA (b:=b) v o 3 l (by decide) (by decide);rw[jx<|jS (z:=.d<|.int<|1+f) (lH (i0 rfl) (A _ rfl) rfl)<|ai rfl];have u:∃(n i:Int),0<=n/\jE (zB<|b1 tB<|d2 jJ (dV 3)<|iP 3) (jd 3<|z2 j0 (zD<|iP 1)<|zZ Zp<|iM (zV 0)<|iM (zD<|iP 9) i4) j5 [ba nn,iN<|wd ws,iW r,iW<|1+f] (sx S nn c b)=.nx [ba nn,iN<|wd ws,iW r,iW n] (sx S nn i b):=by
     by_cases O:1+f=3
     ·obtain⟨g,i,g0,g1,G⟩:=oA (b:=b) v o 9 c (by decide) (by decide);refine⟨1+g,i,by omega,?_⟩;rw[mf (mh (d:=true) (by show(R.ok (decide (1+f=3)):R Bool)=_;rw[aN O]))];exact jS (lH (i0 rfl) (G _ rfl) rfl) (ai rfl)
     ·refine⟨1+f,c,by omega,?_⟩;rw[r6<|mh (d:=false)<|by show(R.ok<|decide<|1+f=3:R Bool)=_;rw[aG O]];rfl
    obtain⟨n,i,s,G⟩:=u;show∃(t:T7) (U:Int),Gd (Tw 62) 0 1 t/\i6 (iV _ _ [ba nn,iN<|wd ws,iW r,iW<|1+f]<|sx S nn c b)=_;rw[jx G];have hk:=Pt r (by omega) (by omega);rcases hk with rfl|rfl|rfl|rfl|rfl;·exact⟨.far .back n,i,⟨s,ag _,ag _,.far _ _⟩,by kernel_rfl⟩
    ·exact⟨.far .back n,i,⟨s,ag _,ag _,.far _ _⟩,by kernel_rfl⟩
    ·exact⟨.far .on n,i,⟨s,ag _,ag _,.far _ _⟩,by kernel_rfl⟩
    ·exact⟨.far .ago n,i,⟨s,ag _,ag _,.far _ _⟩,by kernel_rfl⟩
    ·exact⟨.far .rY n,i,⟨s,ag _,ag _,.far _ _⟩,by kernel_rfl⟩
def uq{n k}{Q':T7->Prop}(q)(d:Gd Q n k l)(c:Gd Q n k r)(w:Q'<|.bin q l r):Gd Q' (n+1) (2*k+1) (.bin q l r):=
 ⟨⟨d.ok,c.ok⟩,by show max l.dep r.dep+1<=n+1;have:=d.dep;have:=c.dep;omega,by show(l.parts++r.parts).length+1<=_;rw[ao];have:=d.sz;have:=c.sz;omega,w⟩
def Gd.up{n k}{c:T7->Prop}{t}(h:Gd Q n k t)(f:n<=m)(d:k<=j)(w:Q t->c t):Gd c m j t:=⟨h.ok,aS h.dep f,aS h.sz d,w h.w⟩
def Ts(A:Pk Zp)(I:Lw Fl)(y:Gv Zt ws (Tw 62) 0 1):Gv (λF S=>i6<|yw a Fl Zp Zt S.length (jr 5 F) S) ws QS 2 4:=by
 intro S nn m x b;obtain⟨r,G,O,N,M⟩:=oA (b:=b) A m 6 x (by decide) (by decide);obtain⟨t,j,c,L⟩:=gv (b:=b) y m G;dsimp only;unfold yw;show∃(l:T7) (v:Int),Gd QS 2 4 l/\i6 (iV _ _ [ba nn,iN<|wd ws,none,none,none]<|sx S nn x b)=_;rw[jx<|jS (M _ rfl)<|ai rfl,jx<|jS (L _ rfl rfl)<|ai rfl];show∃(l:T7) (v:Int),Gd QS 2 4 l/\i6 (iV (jE _ _ _) _ [ba nn,iN<|wd ws,iW r,iN t.d,none]<|sx S nn j b)=_;by_cases D:r=3
 ·obtain⟨p,q,f,h,s⟩:=BO (b:=b) A I m 4 3 j (by decide) (by decide);refine⟨.times p q t,f,⟨c.ok,by show t.dep+1<=2;have:=c.dep;omega,by show t.parts.length+1<=4;have:=c.sz;omega,⟨62+62,by decide,.times h.1 h.2.1 h.2.2 c.w (by decide)⟩⟩,?_⟩;rw[pe (z:=.d (T7.times p q t).d) (S1:=sx S nn f b)];·rfl
  ·rw[mf<|mh (d:=true)<|by show(R.ok<|decide<|r=3:R Bool)=_;rw[aN D]];exact y_ret (lY [.str "times",.tup [.int p,.int q],t.d] (i7 (i0 rfl)<|i7 (s _ rfl)<|i7 (i0 rfl) jN) rfl)
 ·rw[lg<|mh (d:=false)<|by show(R.ok<|decide<|r=3:R Bool)=_;rw[aG D]];by_cases C:3<r
  ·refine⟨t,j,c.up (by decide) (by decide) λw=>⟨62,by decide,w⟩,?_⟩;rw[pe (z:=.d t.d) (S1:=sx S nn j b)];·rfl
   ·rw[mf<|mh (d:=true)<|by show(R.ok<|decide<|r>3:R Bool)=_;rw[aN C]];exact y_ret (i0 rfl)
  ·rw[lg (mh (d:=false) (by show(R.ok (decide (r>3)):R Bool)=_;rw[aG C]))];obtain⟨u,f,i,s⟩:=gv (b:=b) y m j;rw[jx<|jS (s _ rfl rfl)<|ai rfl];show∃(l:T7) (v:Int),Gd QS 2 4 l/\i6 (iV (jE _ _ _) _ [ba nn,iN<|wd ws,iW r,iN t.d,iN u.d]<|sx S nn f b)=_;have J:r=0\/r=1\/r=2:=by omega
   rcases J with rfl|rfl|rfl
   ·have o:=uq (Q':=QS) .sub c i ⟨62+62+1,by decide,.sub c.w i.w (by decide)<|by decide⟩;exact⟨.abs<|.bin .sub t u,f,⟨o.ok,by show(T7.bin .sub t u).dep+1<=2;have:=o.dep;omega,by show(T7.bin .sub t u).parts.length+1<=4;have:=o.sz;omega,⟨62+62+1,by decide,.abs<|.sub c.w i.w (by decide)<|by decide⟩⟩,by kernel_rfl⟩
   ·exact⟨.bin .add t u,f,(uq (Q':=QS) .add c i ⟨62+62+1,by decide,.add c.w i.w (by decide)<|by decide⟩).up (by decide) (by decide) id,by kernel_rfl⟩
   ·exact⟨.bin .sub t u,f,(uq (Q':=QS) .sub c i ⟨62+62+1,by decide,.sub c.w i.w (by decide)<|by decide⟩).up (by decide) (by decide) id,by kernel_rfl⟩
def SQ(D:Pk Zp)(R:Lw Fl)(G:Gv Zs ws QS 2 4):Gv (λM S=>i6<|yp a Fl Zp Zs S.length (jr 4 M) S) ws Cw 3 9:=by
 intro S nn i x b;obtain⟨r,N,r0,Z,Y⟩:=oA (b:=b) D i 3 x (by decide) (by decide);obtain⟨t,A,w,V⟩:=gv (b:=b) G i N;obtain⟨k,y,k0,k1,U⟩:=oA (b:=b) D i 2 A (by decide) (by decide);have T:∃q:Bq,(∀t u,QS t->QS u->Cw (.bin q t u))/\jU (.lst [.str "<",.str "<",.str "="]) (.int r)=.ok (.str q.s):=by
  have:r=0\/r=1\/r=2:=by omega
  rcases this with rfl|rfl|rfl;·exact⟨.lt,λ_ _ ⟨_,o,m⟩ ⟨_,l,j⟩=>.lt m j o l,rfl⟩
  ·exact⟨.lt,λ_ _ ⟨_,o,m⟩ ⟨_,l,j⟩=>.lt m j o l,rfl⟩
  ·exact⟨.eq,λ_ _ ⟨_,o,m⟩ ⟨_,l,j⟩=>.eq m j o l,rfl⟩
 obtain⟨q,h,P⟩:=T;dsimp only;unfold yp;show∃(C:T7) (O:Int),Gd Cw 3 9 C/\i6 (iV _ _ [ba nn,iN<|wd ws,none,none]<|sx S nn x b)=_;rw[jx<|jS (lH (i0 (d:=.lst [.str "<",.str "<",.str "="]) rfl) (Y _ rfl) P)<|ai rfl,jx<|jS (V _ rfl rfl)<|ai rfl];show∃(C:T7) (O:Int),Gd Cw 3 9 C/\i6 (iV (jE _ _ _) _ [ba nn,iN<|wd ws,iN<|.str q.s,iN t.d]<|sx S nn A b)=_;have f:ph tB (z2 jJ (zZ Zp<|iM (zV 0)<|iM (zD<|iP 2) i4)<|zD<|iP 0) [ba nn,iN<|wd ws,iN<|.str q.s,iN t.d] (sx S nn A b)=.ok (decide<|k=0) (sx S nn y b):=z5 (lH (U _ rfl) (i0 rfl) rfl) rfl;by_cases I:k=0
 ·obtain⟨p,s,v,c,F⟩:=BO (b:=b) D R i 6 2 y (by decide) (by decide);have L:Gd QS 2 4 (T7.num p s):=⟨trivial,by show 0<=2;decide,by show 1<=4;decide,⟨62,by decide,.num c.1 c.2.1 c.2.2⟩⟩;refine⟨.bin q t<|.num p s,v,uq q w L<|h _ _ w.w L.w,?_⟩;rw[pe (z:=.d (T7.bin q t<|.num p s).d) (S1:=sx S nn v b)];·rfl
  ·rw[mf<|f.trans<|by rw[aN I]];exact y_ret (lY [.str q.s,t.d,.tup [.str "num",.tup [.int p,.int s]]] (i7 (i0 rfl)<|i7 (i0 rfl)<|i7 (lY [.str "num",.tup [.int p,.int s]] (i7 (i0 rfl)<|i7 (F _ rfl) jN) rfl) jN) rfl)
 ·rw[lg<|f.trans<|by rw[aG I]];obtain⟨u,v,J,F⟩:=gv (b:=b) G i y;refine⟨.bin q t u,v,uq q w J<|h _ _ w.w J.w,?_⟩;rw[y_ret<|lY [.str q.s,t.d,u.d] (i7 (i0 rfl)<|i7 (i0 rfl)<|i7 (F _ rfl rfl) jN) rfl];rfl
def SR(C:Pk Zp)(l:Gv Zc ws Cw 3 9):Gv (λs S=>i6<|yq a Zp Zc S.length (jr 4 s) S) ws Cw 4 19:=by
 intro S nn j x b;obtain⟨r,w,L,J,I⟩:=oA (b:=b) C j 6 x (by decide) (by decide);obtain⟨t,f,c,G⟩:=gv (b:=b) l j w;dsimp only;unfold yq;show∃(h:T7) (y:Int),Gd Cw 4 19 h/\i6 (iV _ _ [ba nn,iN<|wd ws,none,none]<|sx S nn x b)=_;rw[jx<|jS (I _ rfl)<|ai rfl,jx<|jS (G _ rfl rfl)<|ai rfl];show∃(h:T7) (y:Int),Gd Cw 4 19 h/\i6 (iV (jE _ _ _) _ [ba nn,iN<|wd ws,iW r,iN t.d]<|sx S nn f b)=_;by_cases o:r<3
 ·refine⟨t,f,c.up (by decide) (by decide) id,?_⟩;rw[pe (z:=.d t.d) (S1:=sx S nn f b)];·rfl
  ·rw[mf<|mh (d:=true)<|by show(R.ok<|decide<|r<3:R Bool)=_;rw[aN o]];exact y_ret (i0 rfl)
 ·rw[lg<|mh (d:=false)<|by show(R.ok<|decide<|r<3:R Bool)=_;rw[aG o]];by_cases m:r=3
  ·refine⟨.not t,f,⟨c.ok,by show t.dep+1<=4;have:=c.dep;omega,by show t.parts.length+1<=19;have:=c.sz;omega,.not c.w⟩,?_⟩;rw[pe (z:=.d (T7.not t).d) (S1:=sx S nn f b)];·rfl
   ·rw[mf<|mh (d:=true)<|by show(R.ok<|decide<|r=3:R Bool)=_;rw[aN m]];exact y_ret (i0 rfl)
  ·rw[lg (mh (d:=false) (by show(R.ok (decide (r=3)):R Bool)=_;rw[aG m]))];obtain⟨u,v,p,F⟩:=gv (b:=b) l j f;have D:∃q:Bq,(∀t u,Cw t->Cw u->Cw (.bin q t u))/\∀S:i3,zD (d2 jU (jw<|λρ=>((aa (jg "and")<|aa (jg "or") iU) ρ).bind jF)<|d2 oZ (dV 2)<|iP 4) [ba nn,iN<|wd ws,iW r,iN t.d] S=.ok (.d<|.str q.s) S:=by
    have:r=4\/r=5:=by omega
    rcases this with rfl|rfl;·exact⟨.and,λ_ _=>.and,λS=>i0 rfl⟩
    ·exact⟨.or,λ_ _=>.or,λS=>i0 rfl⟩
   obtain⟨q,i,A⟩:=D;refine⟨.bin q t u,v,uq q c p<|i _ _ c.w p.w,?_⟩;rw[y_ret<|lY [.str q.s,t.d,u.d] (i7 (A _)<|i7 (i0 rfl)<|i7 (F _ rfl rfl) jN) rfl];rfl
end WM
namespace WP
open PySem L2 P2 TM T2 PySem.NumText
variable{a:Ad}
def oa(j:Int):Nat:=(L2.jY (Str.ofString "qxz").cps.toList j).getD 0
def nJ(j:Int):Nat:=(L2.jY (Str.ofString "abcdefghijklmnopqrstuvwxyz").cps.toList j).getD 0
def GH(j:Int)(h:0<=j/\j<3):oa j<128/\L2.jY (Str.ofString "qxz").cps.toList j=some (oa j):=by obtain⟨c,f,d⟩:=RF j h;unfold oa;rw[d];exact⟨f,rfl⟩
def N1(j:Int)(h:0<=j/\j<26):nJ j<128/\L2.jY (Str.ofString "abcdefghijklmnopqrstuvwxyz").cps.toList j=some (nJ j):=by obtain⟨c,f,d⟩:=RD j h;unfold nJ;rw[d];exact⟨f,rfl⟩
def N2{i j:Int}(f:0<=i/\i<26)(d:0<=j/\j<26)(h:nJ i=nJ j):i=j:=by
 have c:∀n:Nat,n<26->nJ (n:Int)=97+n:=by decide+kernel
 obtain⟨n,rfl⟩:=a9 f.1;obtain⟨m,rfl⟩:=a9 d.1;have l:=c n (by omega);have k:=c m (by omega);have:nJ (n:Int)=nJ (m:Int):=h;omega
def more(c:Int)(d:List Int)(z:Str):Str:=d.foldl (λz j=>z++⟨#[oa<|c/(3+j)%3]⟩) z
theorem LR(c:Int)(s1 s2 s3 s4):∀d z h,(∀j∈d,0<=j/\j<100)->PyData.strOk z=true->z.length+d.length<=100->
 ∃f,PyData.strOk (more c d z)=true/\(more c d z).length=z.length+d.length/\oh (gV 6) (vx a) (d.map D.int) [.sh<|.int c,s1,s2,s3,s4,.sh<|.str z,h]=.nx [.sh<|.int c,s1,s2,s3,s4,.sh<|.str<|more c d z,f]
 |[],z,h,_,l,m=>⟨h,l,by simp[more],rfl⟩
 |j::d,z,h,n,l,m=>by
  have p:=n j (bL ..);rw[aq]at m;obtain⟨r,o⟩:=GH (c/(3+j)%3) (by omega);have v:j7 (.int c) (.int<|3+j)=.ok (.int<|c/(3+j)):=rV (by omega) (by omega);have k:(⟨#[oa<|c/(3+j)%3]⟩:Str).length=1:=rfl;have w:j0 (.str z) (.str ⟨#[oa (c/(3+j)%3)]⟩)=.ok (.str (z++⟨#[oa (c/(3+j)%3)]⟩)):=wt (by omega) (by rw[k];decide);obtain⟨f,u,t,s⟩:=LR c s1 s2 s3 s4 d (z++⟨#[oa (c/(3+j)%3)]⟩) (.sh (.int j)) (λi q=>n i (aX _ q)) (yV l (Cd r)) (by rw[len_app,k];omega);refine⟨f,u,by show(more c d (z++_)).length=_;rw[t,len_app,k,aq];omega,?_⟩;rw[aR,XS];walk_at "d"
  have e:vx a [.sh<|.int c,s1,s2,s3,s4,.sh<|.str z,.sh<|.int j]=.nx [.sh<|.int c,s1,s2,s3,s4,.sh<|.str<|z++⟨#[oa<|c/(3+j)%3]⟩,.sh<|.int j]:=by unfold vx;iterate 4 (walk_at "d";try simp only[v,av lq,o,w])
  rw[e,Kv];exact s
def qw(c:Int):Str:=more c ((List.range (c/312%7).toNat).map λ(k:Nat)=>(k:Int)) (Str.ofString "")
def nQ(c st k:Int):Str:=⟨#[nJ<|(c+k*st)%26]⟩++⟨#[oa<|k/26%3]⟩
def nD(c st k:Int):Str:=if c/2184%2=1 then qw c++nQ c st k else nQ c st k++qw c
def Nu(n:Nat)(h:n<12):∃st:Int,(st%26≠0/\st*2%26≠0)/\0<st/\st<26/\L2.jY [D.int 1,.int 3,.int 5,.int 7,.int 9,.int 11,.int 15,.int 17,.int 19,.int 21,.int 23,.int 25] (n:Int)=some (.int st):=by
 have:n=0\/n=1\/n=2\/n=3\/n=4\/n=5\/n=6\/n=7\/n=8\/n=9\/n=10\/n=11:=by revert n;decide
 rcases this with rfl|rfl|rfl|rfl|rfl|rfl|rfl|rfl|rfl|rfl|rfl|rfl<;>exact⟨_,by decide,by decide,by decide,rfl⟩
def TF(c:Int):∃st:Int,(st%26≠0/\st*2%26≠0)/\∀k:Int,0<=k->k<26->PyData.strOk (nD c st k)=true/\jM (vR a<|jR 7 [.int c,.int k])=.ok (.str<|nD c st k):=by
 obtain⟨n,x⟩:=a9 (show 0<=c/26%12 by omega);obtain⟨st,G,C,A,o⟩:=Nu n (by omega);refine⟨st,G,λk L J=>?_⟩;have mk:km (.int k) (.int st)=.ok (.int<|k*st):=C2 (by omega) (by omega);obtain⟨P,t⟩:=N1 ((c+k*st)%26) (by omega);obtain⟨O,s⟩:=GH (k/26%3) (by omega);have w:(⟨#[nJ<|(c+k*st)%26]⟩:Str).length=1:=rfl;have v:(⟨#[oa<|k/26%3]⟩:Str).length=1:=rfl;have U:j0 (.str ⟨#[nJ ((c+k*st)%26)]⟩) (.str ⟨#[oa (k/26%3)]⟩)=.ok (.str (nQ c st k)):=wt (by rw[w];decide) (by rw[v];decide);have h:PyData.strOk (nQ c st k)=true:=yV (Cd P) (Cd O);have F:(nQ c st k).length=2:=by unfold nQ;rw[len_app,w,v]
 obtain⟨d,l⟩:∃d,d=nQ c st k:=⟨_,rfl⟩;have f:d=(⟨#[nJ<|(c+k*st)%26]⟩:Str)++⟨#[oa<|k/26%3]⟩:=l;rw[<-l]at U h F;have I:0<=c/312%7/\c/312%7<7:=by omega
 have u:qx [.int<|c/312%7]=.ok (pN 0 (c/312%7).toNat):=C3 I.1 (by omega);have T:PyData.strOk (Str.ofString "")=true:=by decide+kernel
 have m:(Str.ofString "").length=0:=by decide
 obtain⟨D,R,Q,y⟩:=LR (a:=a) c (.sh (.int k)) (.sh (.str (Str.ofString "abcdefghijklmnopqrstuvwxyz"))) (.sh (.int st)) (.sh (.str d)) ((List.range (c/312%7).toNat).map λ(k:Nat)=>(k:Int)) (Str.ofString "") .no (λj M=>by obtain⟨i,N,rfl⟩:=aI.mp M;have:=bJ.mp N;omega) T (by rw[m,aj,dJ];omega)
 rw[<-KC]at y;have Z:(qw c).length<=7:=by show(more c _ _).length<=7;rw[Q,m,aj,dJ];omega
 have p:oh (gV 6) (vx a) (pN 0 (c/312%7).toNat) [.sh<|.int c,.sh<|.int k,.sh<|.str<|Str.ofString "abcdefghijklmnopqrstuvwxyz",.sh<|.int st,.sh<|.str d,.sh<|.str<|Str.ofString "",.no]=.nx [.sh<|.int c,.sh<|.int k,.sh<|.str<|Str.ofString "abcdefghijklmnopqrstuvwxyz",.sh<|.int st,.sh<|.str d,.sh<|.str<|qw c,D]:=y;have q:PyData.strOk (qw c)=true:=R;unfold nD;rw[<-l];generalize qw c=z at*;have Y:j0 (.str z) (.str d)=.ok (.str<|z++d):=wt (by omega) (by omega);have V:j0 (.str d) (.str z)=.ok (.str<|d++z):=wt (by omega) (by omega);by_cases r:c/2184%2=1
 ·rw[av r];refine⟨yV q h,?_⟩;unfold vR;iterate 6 (walk_at "d";try simp only[x,o,mk,av lq,av la,t,s,<-f,u])
  simp only[p];iterate 6 (walk_at "d";try simp only[r,Y,fD])
 ·rw[aw r];refine⟨yV h q,?_⟩;unfold vR;iterate 6 (walk_at "d";try simp only[x,o,mk,av lq,av la,t,s,<-f,u])
  simp only[p];iterate 6 (walk_at "d";try simp only[r,V,eI])
def ue(x y:Str):(x++y).cps.toList=x.cps.toList++y.cps.toList:=by show(x.cps++y.cps).toList=_;simp
def Et{c st i j:Int}(m:st%26≠0/\st*2%26≠0)(o:0<=i/\i<3)(n:0<=j/\j<3)(h:i≠j):nD c st i≠nD c st j:=by
 intro w;have e:nQ c st i=nQ c st j:=by
  unfold nD at w;have inj:∀x y:Str,x.cps=y.cps->x=y:=λx y h=>by cases x;cases y;exact bD Str.mk h
  split at w
  ·have k:=bD (λs:Str=>s.cps.toList) w;refine inj _ _ (dU.mp ?_);have f:(qw c).cps.toList++(nQ c st i).cps.toList=(qw c).cps.toList++(nQ c st j).cps.toList:=by rw[<-ue,<-ue];exact k
   exact List.append_cancel_left f
  ·have k:=bD (λs:Str=>s.cps.toList) w;refine inj _ _ (dU.mp ?_);have f:(nQ c st i).cps.toList++(qw c).cps.toList=(nQ c st j).cps.toList++(qw c).cps.toList:=by rw[<-ue,<-ue];exact k
   exact List.append_cancel_right f
 have l:nJ ((c+i*st)%26)=nJ ((c+j*st)%26):=by
  have:=bD (λs:Str=>s.cps.toList[0]?) e;unfold nQ at this;try dsimp only at this
  rw[ue,ue]at this;exact Option.some.inj this
 have p:=N2 (by omega) (by omega) l;have d:(i=0\/i=1\/i=2)/\(j=0\/j=1\/j=2):=by omega
 rcases d with⟨rfl|rfl|rfl,rfl|rfl|rfl⟩<;>omega
end WP
namespace WM
open PySem L2 P2 WP TM T2 PySem.NumText
variable{a:Ad}
def Vl(f:ji):Prop:=∀{S:i3} {c},c<S.length->∀x b:Int,∃p q d:Int,(FM.oJ p q/\Sz 62 p/\Sz 62 q)/\f [.loc c] (sx S c x b)=.ok (.d<|pr p q) (sx S c d b)
def Jb(p:Int):FM.oJ p 1:=⟨by decide,by simp⟩
section
variable{l i:ji}{m o:je}
def Tz(f:Pk l)(M:Lw m):Vl (λF S=>i6<|yy a m l S.length (jr 2 F) S):=by
 intro S n h x b;obtain⟨r,k,U,T,O⟩:=oA (b:=b) f h 8 x (by decide) (by decide);dsimp only;unfold yy;show∃p q I:Int,_/\i6 (iV (jd 1 _) _ [ba n,none]<|sx S n x b)=_;rw[jx<|jS (O _ rfl)<|ai rfl];show∃p q I:Int,_/\i6 (iV _ _ [ba n,iW r]<|sx S n k b)=_;by_cases C:r=7
 ·obtain⟨u,c,Q,P,j⟩:=f h (10^60) k b (by decide) (by decide);obtain⟨v,G,z,y,N⟩:=oA (b:=b) f h 2 c (by decide) (by decide);have hv:v=0\/v=1:=by omega
  have s:Sz 62 u:=aF (show u.natAbs<10^60 by omega) (by decide);have J:Sz 62 (1 - 2*v):=aF (show(1 - 2*v).natAbs<10 by omega) (by decide);have L:Sz 62 (u*(1 - 2*v)):=by
   rcases hv with rfl|rfl;·rw[show u*(1 - 2*0)=u by omega];exact s
   ·rw[show u*(1 - 2*1)= -u by omega];unfold Sz;rw[Int.natAbs_neg];exact s
  refine⟨u*(1 - 2*v),1,G,⟨Jb _,L,wc⟩,?_⟩;rw[wL (mh (d:=true)<|by show(R.ok<|decide<|r=7:R Bool)=_;rw[aN C])<|y_ret<|lY [.int<|u*(1 - 2*v),.int 1] (i7 (lH (lh (i7 (kJ rfl)<|i7 (i0 (d:=.int<|10^60) rfl) jN) j) (lH (i0 (d:=.int 1) rfl) (lH (i0 (d:=.int 2) rfl) (N _ rfl)<|Yu (by decide)<|by decide) (w:=.int<|1 - 2*v) rfl)<|pK (s.mono<|by decide)<|J.mono<|by decide)<|i7 (i0 (d:=.int 1) rfl) jN) rfl];rfl
 ·rw[lg<|mh (d:=false)<|by show(R.ok<|decide<|r=7:R Bool)=_;rw[aG C]];by_cases D:r=6
  ·obtain⟨v,c,z,y,j⟩:=oA (b:=b) f h 9 k (by decide) (by decide);have A:=Jc (t:=v - 3) (b:=2) (by decide) (by decide) (by omega);refine⟨_,_,c,⟨FM.BP (t:=v - 3) (b:=2)<|by decide,A.2.1,A.2.2⟩,?_⟩;rw[wL (mh (d:=true) (by show(R.ok (decide (r=6)):R Bool)=_;rw[aN D])) (y_ret (lY [.int (v - 3),.int 2] (i7 (lH (j _ rfl) (i0 (d:=.int 3) rfl) (w:=.int (v - 3)) rfl) (i7 (i0 (d:=.int 2) rfl) jN)) (M (v - 3) 2 (by decide) (by decide))))];rfl
  ·rw[lg (mh (d:=false) (by show(R.ok (decide (r=6)):R Bool)=_;rw[aG D]))];obtain⟨v,c,z,y,j⟩:=oA (b:=b) f h 4 k (by decide) (by decide);refine⟨v,1,c,⟨Jb _,aF (show v.natAbs<10 by omega)<|by decide,wc⟩,?_⟩;rw[y_ret<|lY [.int v,.int 1] (i7 (j _ rfl)<|i7 (i0 (d:=.int 1) rfl) jN) rfl];rfl
structure mQ(row:List Rd):Prop where
 ok:∀r∈row,pB r/\PyData.strOk r.m=true
 nd:(row.map jn).Nodup
def mQ.add(h:mQ row)(n:pB r)(k:PyData.strOk r.m=true)(j:∀s∈row,jn s≠jn r):mQ (row++[r]):=by
 refine⟨λs c=>?_,?_⟩
 ·rcases bh.mp c with w|w;·exact h.ok s w
  ·rw[aP]at w;subst w;exact⟨n,k⟩
 ·rw[bF];refine f7.mpr ⟨h.nd,by simp,λx f y d e=>?_⟩;obtain⟨s,c,rfl⟩:=aI.mp f;have:y=jn r:=by simpa using d
  exact j s c (by rw[e,this])
structure Mk(B:i3)(nr nn:Nat)(row:List Rd):Prop extends Out B nr (row.map Rd.d) where
 hn:nn<B.length
 ne:nr≠nn
 n0:0<nn
section
variable{B:i3}{f c b0:Nat}{a:List Rd}{ρ:jj}
def Mk.out(h:Mk B f c a)(x b:Int):Out (sx B c x b) f (a.map Rd.d):=
 ⟨by have:=h.n0;rw[ar<|by omega];exact h.m0,λj d=>nc (h.bnd j<|by rw[aO]at d;exact d)<|my [.int x,.int b] _,by rw[ar<|bP h.ne];exact h.tt,nc h.st<|my [.int x,.int b] _,h.o0⟩
def jV.sx(d:b0<=c)(x b:Int):jV b0 B (sx B c x b):=jV.set d λj _=>my [.int x,.int b] j
def F5(hv:Vl i)(h:Mk B f c a)(s:b0<=f)(C:a.length<10000){w:Str}{t:Int}{f1 f2:jq}(v:ρ[4]?=some (ba f))(u:ρ[7]?=some (ba c))(A:f1 (lF ρ)=.ok (.str w))(z:f2 (lF ρ)=.ok (.int t))(x b:Int):
    ∃(p q d:Int) (n:i3),(FM.oJ p q/\Sz 62 p/\Sz 62 q)/\oF 4 (zF jz<|iM (zD f1)<|iM (zD f2)<|iM (zZ i<|iM (zV 7) i4) i4) ρ (sx B c x b)=.nx ρ (sx n c d b)/\Mk n f c (a++[⟨w,t,p,q⟩])/\jV b0 B n:=by
 obtain⟨p,q,d,k,e⟩:=hv h.hn x b;refine⟨p,q,d,B.set f (.li (((a++[(⟨w,t,p,q⟩:Rd)]).map Rd.d).map .d)),k,?_,⟨⟨?_,λj r=>nc (h.bnd j (by rw[aO]at r;exact r)) (my _ _),aA (mC h.tt),nc h.st (my _ _),h.o0⟩,by rw[aO];exact h.hn,h.ne,h.n0⟩,jV.wz s⟩
 ·have y:zF jz (iM (zD f1)<|iM (zD f2)<|iM (zZ i<|iM (zV 7) i4) i4) ρ (sx B c x b)=.ok (.d<|Rd.d ⟨w,t,p,q⟩) (sx B c d b):=lY [.str w,.int t,pr p q] (i7 (i0 A)<|i7 (i0 z)<|i7 (lh (i7 (kJ u) jN) e) jN) rfl;rw[u0 v (h.out x b).tt y (h.out d b).tt (by rw[aj,aj];omega)];rw[List.set_comm _ _<|bP h.ne,bF,bF];rfl
 ·have:=h.o0;rw[ar<|by omega];exact h.m0
end
end
variable{a:Ad}
def aa3(c:List Str)(h:c.length<64):∃L:List Str,L.Perm c/\wB (.lst<|c.map D.str)=.ok (L.map D.str):=by
 let bk:D->Str:=λd=>match d with|.str x=>x|_=>Str.ofString ""
 have f:mS (c.map D.str)=true:=Bt (λ_=>rfl) c;refine⟨(kI<|c.map D.str).map bk,?_,?_⟩
 ·have:=(nC<|c.map D.str).map bk;rw[bg,show bk∘D.str=id from rfl,List.map_id]at this;exact this
 ·show(if mS (c.map D.str)=true/\(c.map D.str).length<64 then R.ok (kI<|c.map D.str)else .bad)=_;rw[av ⟨f,by rw[aj];exact h⟩,bg]
  congr 1
  refine((cx λd i=>?_).trans (List.map_id' _)).symm;obtain⟨w,_,rfl⟩:=aI.mp ((nC _).mem_iff.mp i);rfl
structure W3(ws:List Str):Prop where
 ok:∀w∈ws,PyData.strOk w=true
 nd:ws.Nodup
 len:ws.length=3
def Lv{t:Int}(d:0<=t)(c:t<10000000000):Sz 61 t:=aF (show t.natAbs<10000000000 by omega) (by decide)
section
variable{Zp F:ji}{Fc:je}{E A b0:Nat}{C:List Str}
def RJ(W:W3 C)(c:Int):∃w∈C,((jH (.int c)<|.int 3).bind λi=>jU (.lst<|C.map D.str) i)=.ok (.str w):=by
 have k:=cB c (show(3:Int)≠0 by decide);have l:=cj c (show(0:Int)<3 by decide);obtain⟨j,h⟩:=a9 k;have f:j<C.length:=by rw[W.len];omega
 refine⟨C[j],bZ _,?_⟩;rw[m9<|by decide,h];show(match L2.jY (C.map D.str) (j:Int)with|some d=>R.ok d|none=>.bad)=_;rw[L2.ub<|show(C.map D.str)[j]?=some (.str C[j])by rw[aE,au f];rfl]
theorem nine(hv:Vl F)(W:W3 C)(R:b0<=E)(o n m:Option Z)(c b:Int)(l i f:Option Z):∀(j:List D) (T:Int) (row:List Rd) (B:i3) (x:Int) (G:Option Z),Mk B E A row->mQ row->(∀r∈row,r.t<T)->0<=T->T+j.length<10000000000->row.length+j.length<9000->
 ∃(v:Int) (d:List Rd) (z:i3) (J:Int) (L:Option Z),kF (hV 9) (sO a Fc Zp F) j [o,n,m,iQ<|C.map D.str,ba E,iW T,iW c,ba A,l,G,i,f] (sx B A x b)
  =.nx [o,n,m,iQ<|C.map D.str,ba E,iW v,iW c,ba A,l,L,i,f] (sx z A J b)/\Mk z E A d/\mQ d/\(∀r∈d,r.t<v)/\T<=v/\v<=T+j.length/\d.length=row.length+j.length/\jV b0 B z
 |[],T,row,B,x,G,h,y,I,V,U,Q=>⟨T,row,B,x,G,rfl,h,y,I,iL _,by simp,rfl,.refl _ _⟩
 |k::j,T,row,B,x,G,h,y,I,V,U,Q=>by
  rw[aq]at U Q;obtain⟨w,hw,ew⟩:=RJ W c;obtain⟨p,q,P,Y,u,e1,h2,l1⟩:=F5 (b0:=b0) (ρ:=[o,n,m,iQ (C.map D.str),ba E,iW T,iW c,ba A,l,iN k,i,f]) (w:=w) (t:=T) (f1:=d2 jU (dV 3) (d2 jH (dV 6) (iP 3))) (f2:=dV 5) hv h R (by omega) rfl rfl ew rfl x b;have O:mQ (row++[⟨w,T,p,q⟩]):=y.add ⟨Lv V<|show T<10000000000 by omega,u.1,u.2.1,u.2.2⟩ (W.ok w hw) λs hs e=>by have:s.t=T:=bD Prod.fst e;have:=I s hs;omega
  obtain⟨v,d,z,J,L,e2,h3,N,M,g1,g2,g3,l2⟩:=nine hv W R o n m c b l i f j (T+1) (row++[⟨w,T,p,q⟩]) Y P (iN k) h2 O (λr y=>by
   rcases bh.mp y with w'|w';· have:=I r w';omega
   · rw[aP]at w';subst w';show T<T+1;omega) (by omega) (by omega) (by rw[ao];simp;omega)
  refine⟨v,d,z,J,L,?_,h3,N,M,by omega,by rw[aq];omega,by rw[g3,ao,aq];simp;omega,l1.trans l2⟩;have st:sO a Fc Zp F [o,n,m,iQ<|C.map D.str,ba E,iW T,iW c,ba A,l,iN k,i,f] (sx B A x b)=.nx [o,n,m,iQ<|C.map D.str,ba E,iW<|T+1,iW c,ba A,l,iN k,i,f] (sx Y A P b):=by unfold sO;rw[jx e1];rfl
  show nU (sO a Fc Zp F [o,n,m,iQ<|C.map D.str,ba E,iW T,iW c,ba A,l,iN k,i,f]<|sx B A x b) (kF (hV 9) (sO a Fc Zp F) j)=_;rw[st];exact e2
theorem three(hv:Vl F)(hb:b0<=E)(G y u o:Option Z)(T:Int)(h0:0<=T)(h1:T<10000000000)(n:Option Z)(b:Int)(m l d:Option Z):∀(L:List Str) (row:List Rd) (B:i3) (x:Int) (f:Option Z),Mk B E A row->mQ row->(∀w∈L,PyData.strOk w=true)->L.Nodup->(∀r∈row,r.t<=T)->(∀r∈row,r.t=T->r.m∉L)->row.length+L.length<9000->
 ∃(c:List Rd) (J:i3) (M:Int) (i:Option Z),kF (hV 11) (vy a Fc Zp F) (L.map D.str) [G,y,u,o,ba E,iW T,n,ba A,m,l,d,f] (sx B A x b)
  =.nx [G,y,u,o,ba E,iW T,n,ba A,m,l,d,i] (sx J A M b)/\Mk J E A c/\mQ c/\(∀r∈c,r.t<=T)/\c.length=row.length+L.length/\jV b0 B J
 |[],row,B,x,f,h,j,_,_,O,_,_=>⟨row,B,x,f,rfl,h,j,O,rfl,.refl _ _⟩
 |w::L,row,B,x,f,h,j,V,hd,O,Y,hz=>by
  rw[aq]at hz;obtain⟨p,q,x1,B1,k,U,h2,l1⟩:=F5 (b0:=b0) (ρ:=[G,y,u,o,ba E,iW T,n,ba A,m,l,d,iN (.str w)]) (w:=w) (t:=T) (f1:=dV 11) (f2:=dV 5) hv h hb (by omega) rfl rfl rfl rfl x b;have I:=bC.mp hd;have Q:mQ (row++[⟨w,T,p,q⟩]):=j.add ⟨Lv h0 h1,k.1,k.2.1,k.2.2⟩ (V w<|.head _) λs hs e=>by have U:s.t=T:=bD Prod.fst e;have R:s.m=w:=bD Prod.snd e;exact Y s hs U (by rw[R];exact .head _)
  obtain⟨c,J,M,i,R,h3,P,N,g3,l2⟩:=three hv hb G y u o T h0 h1 n b m l d L (row++[⟨w,T,p,q⟩]) B1 x1 (iN (.str w)) h2 Q (λv hv=>V v (.tail _ hv)) I.2 (λr j=>by
   rcases bh.mp j with w'|w';· exact O r w'
   · rw[aP]at w';subst w';exact iL _) (λr j e=>by
   rcases bh.mp j with w'|w';· exact λz=>Y r w' e (.tail _ z)
   · rw[aP]at w';subst w';exact I.1) (by rw[ao];simp;omega)
  refine⟨c,J,M,i,?_,h3,P,N,by rw[g3,ao,aq];simp;omega,l1.trans l2⟩;show nU (vy a Fc Zp F [G,y,u,o,ba E,iW T,n,ba A,m,l,d,iN<|.str w]<|sx B A x b) (kF (hV 11) (vy a Fc Zp F)<|L.map D.str)=_;rw[show vy a Fc Zp F [G,y,u,o,ba E,iW T,n,ba A,m,l,d,iN<|.str w] (sx B A x b)=_ from U];exact R
def aaW(W:W3 C)(r:Int)(l:0<=r)(k:r<12):∃(j:List Int) (L:List Str),L.Nodup/\(∀w∈L,w∈C)/\L.length<=3/\
    jU (.lst [.lst [.int 0],.lst [.int 0],.lst [.int 0],.lst [.int 1],.lst [.int 0,.int 1],.lst [.int 0,.int 1,.int 2],.lst [.int 2],.lst [.int 0,.int 2],.lst [.int 1,.int 2],.lst [.int 1],.lst [.int 0],.lst [.int 0,.int 1]]) (.int r)=.ok (.lst<|j.map D.int)/\j.map (λi=>jU (.lst<|C.map D.str)<|.int i)=L.map λw=>R.ok (D.str w):=by
 have o:∃u v w,C=[u,v,w]:=by
  have n:=W.len;match C,n with
  |[u,v,w],_=>exact⟨u,v,w,rfl⟩
 obtain⟨u,v,w,rfl⟩:=o;have d:=W.nd;simp only[bC,aD,cm,fA,not_or]at d;obtain⟨⟨c,h⟩,f,_⟩:=d;obtain⟨r,rfl⟩:=a9 l;have m:r=0\/r=1\/r=2\/r=3\/r=4\/r=5\/r=6\/r=7\/r=8\/r=9\/r=10\/r=11:=by have:r<12:=Int.ofNat_lt.mp k;clear l k;revert r;decide
 rcases m with rfl|rfl|rfl|rfl|rfl|rfl|rfl|rfl|rfl|rfl|rfl|rfl;·exact⟨[0],[u],by simp,by simp,by simp,rfl,rfl⟩
 ·exact⟨[0],[u],by simp,by simp,by simp,rfl,rfl⟩
 ·exact⟨[0],[u],by simp,by simp,by simp,rfl,rfl⟩
 ·exact⟨[1],[v],by simp,by simp,by simp,rfl,rfl⟩
 ·exact⟨[0,1],[u,v],by simp[c],by simp,by simp,rfl,rfl⟩
 ·exact⟨[0,1,2],[u,v,w],by simp[c,h,f],by simp,by simp,rfl,rfl⟩
 ·exact⟨[2],[w],by simp,by simp,by simp,rfl,rfl⟩
 ·exact⟨[0,2],[u,w],by simp[h],by simp,by simp,rfl,rfl⟩
 ·exact⟨[1,2],[v,w],by simp[f],by simp,by simp,rfl,rfl⟩
 ·exact⟨[1],[v],by simp,by simp,by simp,rfl,rfl⟩
 ·exact⟨[0],[u],by simp,by simp,by simp,rfl,rfl⟩
 ·exact⟨[0,1],[u,v],by simp[c],by simp,by simp,rfl,rfl⟩
variable{a:Ad}
variable{S:i3}{o:List Rd}
def u1{c:Ev->R (List D)}(e:c (lF ρ)=.ok ds):lX c h gb ρ S=kF h gb ds ρ S:=by unfold lX;rw[e];rfl
def y7(f:Pk Zp)(h:A<S.length)(i)(m x b:Int)(l:0<m)(n:m<10000):∃r c:Int,0<=r/\r<m/\∀ρ:jj,ρ[i]?=some (ba A)->zZ Zp (iM (zV i) (iM (zD (iP m)) i4)) ρ (sx S A x b)=.ok (.d (.int r)) (sx S A c b):=by obtain⟨r,c,k,j,e⟩:=f h m x b l (aF (by omega:m.natAbs<10000)<|by decide);exact⟨r,c,k,j,λρ d=>lh (i7 (kJ d)<|i7 (i0 rfl) jN) e⟩
abbrev Cl(Fc:je):Prop:=∀(ns:List Int) (k:Nat),Fc [.lst<|ns.map .int,.int k]=.ok (.int<|ns.getD k 0)
def aaa(hp:Pk Zp)(hv:Vl F)(hc:Cl Fc)(W:W3 C)(hb:b0<=E)(p:List Int)(s:Option Z)(f T c:Int)(h:Out S E<|o.map Rd.d)(U:mQ o)(ht:∀r∈o,r.t<=T)(h0:0<=T)(h1:T<9000000000)(hz:o.length<=5000)(s7 N G m l:Option Z):
    (f<o.length/\rp a Fc Zp F [iQ<|p.map .int,s,iW f,iQ<|C.map D.str,ba E,iW T,iW c,s7,N,G,m,l] S=.bk [iQ<|p.map .int,s,iW f,iQ<|C.map D.str,ba E,iW T,iW c,s7,N,G,m,l] S)
    \/(o.length<=f/\∃(T':Int) (q:List Rd) (S':i3) (t7 O t P I:Option Z),rp a Fc Zp F [iQ (p.map .int),s,iW f,iQ (C.map D.str),ba E,iW T,iW c,s7,N,G,m,l] S=.nx [iQ (p.map .int),s,iW f,iQ (C.map D.str),ba E,iW T',iW c,t7,O,t,P,I] S'
     /\Out S' E (q.map Rd.d)/\mQ q/\(∀r∈q,r.t<=T')/\T<=T'/\T'<=T+4000/\q.length<=o.length+12/\jV b0 S S'):=by
 have Lz:∀k:Bool,decide (f<(o.length:Int))=k->qa (b1 tB<|d2 rF (dA lE<|aa (dV 4) iU)<|dV 2) [iQ<|p.map .int,s,iW f,iQ<|C.map D.str,ba E,iW T,iW c,s7,N,G,m,l] S=.ok k S:=λk hk=>by refine zW ?_;show(b1 tB<|d2 rF (dA lE<|aa (dV 4) iU)<|dV 2) [_,_,.sh<|.int f,_,nV S<|ba E,_,_,_,_,_,_,_]=_;rw[wJ h.tt];show R.ok (decide<|f<(((o.map Rd.d).length:Nat):Int))=_;rw[aj,hk]
 unfold rp;by_cases hm:f<(o.length:Int)
 ·left;refine⟨hm,?_⟩;unfold iV;rw[mf<|Lz true<|aN hm];rfl
 right;refine⟨by omega,?_⟩;rw[lg<|Lz false<|aG hm];generalize hbb:p.getD 0 0/7%2=b;have e7:mE (λρ=>((aa (dV 6)<|aa (d2 jH (d2 j7 (dA Fc<|aa (dV 0)<|aa (iP 0) iU)<|iP 7)<|iP 2) iU) ρ).bind jF) [iQ<|p.map .int,s,iW f,iQ<|C.map D.str,ba E,iW T,iW c,s7,N,G,m,l] S=.ok (.loc S.length) (S++[sc c b]):=by show(lG ((((((Fc [.lst<|p.map .int,.int (0:Nat)]).bind λx=>j7 x<|.int 7).bind λy=>jH y<|.int 2).bind λy=>R.ok [y]).bind λys=>R.ok<|D.int c::ys).bind jF) S).bind _=_;rw[hc p 0];show(lG ((((((j7 (.int<|p.getD 0 0)<|.int 7).bind λy=>jH y<|.int 2).bind λy=>R.ok [y]).bind λys=>R.ok<|D.int c::ys).bind jF)) S).bind _=_;rw[rV (by decide)<|by decide];show(lG (((((jH (.int<|p.getD 0 0/7)<|.int 2).bind λy=>R.ok [y]).bind λys=>R.ok<|D.int c::ys).bind jF)) S).bind _=_;rw[m9<|by decide,hbb];rfl
 rw[jx<|jS e7<|ai rfl];have QT:=mC h.tt;have gB:Gr S (S++[sc c b]):=Gr.app λj=>my [.int c,.int b] j;have hn:S.length<(S++[sc c b]).length:=by rw[ao];exact bU _
 have mB:Mk (S++[sc c b]) E S.length o:=⟨⟨gB.get h.m0,gB.bnd h.bnd,gB.get h.tt,gB.sf _ QT h.st,h.o0⟩,hn,by omega,by have:=h.o0;omega⟩;have lB:jV b0 S (S++[sc c b]):=gB.lw (by omega);have eB:S++[sc c b]=sx (S++[sc c b]) S.length c b:=(uR S _ _).symm;generalize S++[sc c b]=B at*;generalize S.length=A at*;rw[eB];obtain⟨Q,x1,r40,r41,e4⟩:=y7 hp hn 7 4 c b (by decide) (by decide);show∃(T':Int) (q:List Rd) (S':i3) (t7 O t P I:Option Z),iV _ _ [iQ<|p.map .int,s,iW f,iQ<|C.map D.str,ba E,iW T,iW c,ba A,N,G,m,l] (sx B A c b)=_/\_;rw[jx<|jS (lH (i0 (d:=.int<|T+1) rfl) (e4 _ rfl) (w:=.int<|T+1+Q) rfl)<|ai rfl];obtain⟨r9,x2,r90,r91,e9⟩:=y7 hp hn 7 9 x1 b (by decide) (by decide);have far:∃(J x3:Int),T+1<=J/\J<=T+3900/\jE (ph tB<|z2 jJ (zZ Zp<|iM (zV 7)<|iM (zD<|iP 9) i4)<|zD<|iP 1) (jd 5<|z2 j0 (zD<|dV 5)<|zZ Zp<|iM (zV 7)<|iM (zD<|iP 3000) i4) j5 [iQ<|p.map .int,s,iW f,iQ<|C.map D.str,ba E,iW<|T+1+Q,iW c,ba A,N,G,m,l] (sx B A x1 b)=.nx [iQ<|p.map .int,s,iW f,iQ<|C.map D.str,ba E,iW J,iW c,ba A,N,G,m,l] (sx B A x3 b):=by
  have t:ph tB (z2 jJ (zZ Zp<|iM (zV 7)<|iM (zD<|iP 9) i4)<|zD<|iP 1) [iQ<|p.map .int,s,iW f,iQ<|C.map D.str,ba E,iW<|T+1+Q,iW c,ba A,N,G,m,l] (sx B A x1 b)=.ok (decide<|r9=1) (sx B A x2 b):=z5 (lH (e9 _ rfl) (i0 (d:=.int 1) rfl) (w:=.bl<|decide<|r9=1) rfl) rfl;by_cases h9:r9=1
  ·rw[aN h9]at t;obtain⟨r3,x3,r30,r31,e3⟩:=y7 hp hn 7 3000 x2 b (by decide) (by decide);refine⟨T+1+Q+r3,x3,by omega,by omega,?_⟩;rw[mf t,jS (lH (i0 (d:=.int<|T+1+Q) rfl) (e3 _ rfl) (w:=.int<|T+1+Q+r3) rfl)<|ai rfl];rfl
  ·rw[aG h9]at t;exact⟨T+1+Q,x2,by omega,by omega,(r6 t).trans rfl⟩
 obtain⟨J,x3,T20,T21,ef⟩:=far;show∃(T':Int) (q:List Rd) (S':i3) (t7 O t P I:Option Z),iV _ _ [iQ<|p.map .int,s,iW f,iQ<|C.map D.str,ba E,iW<|T+1+Q,iW c,ba A,N,G,m,l] (sx B A x1 b)=_/\_;rw[jx ef];obtain⟨z,Y,ZC,ZD,e8⟩:=y7 hp hn 7 12 x3 b (by decide) (by decide);rw[jx<|jS (e8 _ rfl)<|ai rfl];show∃(T':Int) (q:List Rd) (S':i3) (t7 O t P I:Option Z),iV _ _ [iQ<|p.map .int,s,iW f,iQ<|C.map D.str,ba E,iW J,iW c,ba A,iW z,G,m,l] (sx B A Y b)=_/\_;have Ib:∀r∈o,r.t<J:=λr U=>by have:=ht r U;omega
 have Ua:∃(M:Int) (n:List Rd) (V:i3) (x5:Int) (t:Option Z),jE (qa<|n8 (b1 tB<|d2 jJ (dV 8)<|iP 11)<|b1 tB<|d2 mY (dA lE<|aa (dV 4) iU)<|iP 50) (lX (λρ=>((aa (iP 9) iU) ρ).bind qx) (hV 9)<|sO a Fc Zp F) j5 [iQ<|p.map .int,s,iW f,iQ<|C.map D.str,ba E,iW J,iW c,ba A,iW z,G,m,l] (sx B A Y b)
  =.nx [iQ<|p.map .int,s,iW f,iQ<|C.map D.str,ba E,iW M,iW c,ba A,iW z,t,m,l] (sx V A x5 b)/\Mk V E A n/\mQ n/\(∀r∈n,r.t<M)/\J<=M/\M<=J+9/\n.length<=o.length+9/\jV b0 B V:=by
  have O:qa (n8 (b1 tB<|d2 jJ (dV 8)<|iP 11)<|b1 tB<|d2 mY (dA lE<|aa (dV 4) iU)<|iP 50) [iQ<|p.map .int,s,iW f,iQ<|C.map D.str,ba E,iW J,iW c,ba A,iW z,G,m,l] (sx B A Y b)=.ok (decide (z=11)&&decide ((o.length:Int)<50)) (sx B A Y b):=by refine zW ?_;show(n8 (b1 tB<|d2 jJ (dV 8)<|iP 11)<|b1 tB<|d2 mY (dA lE<|aa (dV 4) iU)<|iP 50) [_,_,_,_,nV _<|ba E,_,_,_,.sh<|.int z,_,_,_]=_;rw[wJ (mB.out Y b).tt];show(if decide (z=11)=true then R.ok (decide<|(((o.map Rd.d).length:Nat):Int)<50)else R.ok false)=_;rw[aj];cases decide (z=11)<;>rfl
  cases hk:(decide (z=11)&&decide ((o.length:Int)<50))with
  |false=>rw[hk]at O;exact⟨J,o,B,Y,G,(r6 O).trans rfl,mB,U,Ib,iL _,by omega,by omega,.refl _ _⟩
  |true=>rw[hk]at O;obtain⟨M,n,V,x5,t,e5,m3,r3,l3,g1,g2,g3,g4⟩:=nine (a:=a) (Fc:=Fc) (Zp:=Zp) hv W hb (iQ (p.map .int)) s (iW f) c b (iW z) m l (pN 0 9) J o B Y G mB U Ib (by omega) (show J+9<10000000000 by omega) (show o.length+9<9000 by omega);exact⟨M,n,V,x5,t,(mf O).trans e5,m3,r3,l3,g1,g2,iF g3,g4⟩
 obtain⟨M,n,V,x5,t,en,m3,QZ,Ic,T30,T31,hl3,l3⟩:=Ua;rw[jx en];obtain⟨u,L,Qe,hL2,hL3,O3,xX⟩:=aaW W z ZC ZD;rw[jx<|jS (i0 (d:=.lst<|u.map D.int) O3)<|ai rfl];obtain⟨L',pL,eL⟩:=aa3 L (by omega);have it:((jw<|λρ=>((jw<|kM (λρ=>((dV 10) ρ).bind ke) 1 [3] (gV 0) (λ_=>.ok true)<|d2 jU (dV 1)<|dV 0) ρ).bind wB) (lF [iQ<|p.map .int,s,iW f,iQ<|C.map D.str,ba E,iW M,iW c,ba A,iW z,t,iQ<|u.map D.int,l])).bind ke=.ok (L'.map D.str):=by
  have cp:∀(u:List Int) (L:List Str),u.map (λi=>jU (.lst<|C.map D.str)<|.int i)=L.map (λw=>R.ok<|D.str w)->l0 (gV 0) (λ_=>R.ok true) (d2 jU (dV 1)<|dV 0) [.no,.sh<|.lst<|C.map D.str] (u.map D.int)=some (L.map D.str):=by
   intro u;induction u with
   |nil=>intro L h;cases L with|nil=>rfl|cons _ _=>cases h
   |cons i u ih=>
    intro L h;cases L with
    |nil=>cases h
    |cons w L=>rw[aR,aR,List.cons.injEq]at h;rw[aR,aR];unfold l0;show((oz<|jU (.lst<|C.map D.str)<|.int i).bind λv=>(l0 (gV 0) (λ_=>R.ok true) (d2 jU (dV 1)<|dV 0) [.no,.sh<|.lst<|C.map D.str]<|u.map D.int).bind λvs=>some<|v::vs)=_;rw[h.1,ih L h.2];rfl
  have ixl:u.length<=3:=by have:=bD List.length xX;rw[aj,aj]at this;omega
  have hd:kM (λρ=>((dV 10) ρ).bind ke) 1 [3] (gV 0) (λ_=>.ok true) (d2 jU (dV 1)<|dV 0) (lF [iQ<|p.map .int,s,iW f,iQ<|C.map D.str,ba E,iW M,iW c,ba A,iW z,t,iQ<|u.map D.int,l])=.ok (L.map D.str):=by show(if(u.map D.int).length<=sizeLine then tw (l0 (gV 0) (λ_=>R.ok true) (d2 jU (dV 1)<|dV 0) [.no,.sh<|.lst<|C.map D.str]<|u.map D.int)else .bad)=_;rw[av<|by rw[aj];exact cI (qZ<|by omega),cp u L xX];rfl
  rw[qM (X:=L'.map D.str)<|by rw[qM hd];exact eL];rfl
 obtain⟨Z9,B4,x6,I,O4,m4,Q0,Q3,QK,l4⟩:=three (a:=a) (Fc:=Fc) (Zp:=Zp) hv hb (iQ (p.map .int)) s (iW f) (iQ (C.map D.str)) M (by omega) (by omega) (iW c) b (iW z) t (iQ (u.map D.int)) L' n V x5 l m3 QZ (λw hw=>W.ok w (hL2 w (pL.mem_iff.mp hw))) (pL.nodup_iff.mpr Qe) (λr U=>by have:=Ic r U;omega) (λr U e=>by have:=Ic r U;omega) (by rw[pL.length_eq];omega);refine⟨M,Z9,sx B4 A x6 b,ba A,iW z,t,iQ (u.map D.int),I,?_,m4.out x6 b,Q0,Q3,by omega,by omega,by rw[QK,pL.length_eq];omega,((lB.trans l3).trans l4).trans (jV.sx (by omega) x6 b)⟩;show lX _ _ _ [iQ<|p.map .int,s,iW f,iQ<|C.map D.str,ba E,iW M,iW c,ba A,iW z,t,iQ<|u.map D.int,l] (sx V A x5 b)=_;exact(u1 it).trans O4
theorem KN(Q:Pk Zp)(hv:Vl F)(R:Cl Fc)(W:W3 C)(U:b0<=E)(s:List Int)(q:Option Z)(d:Int)(hm:d<=1000):∀(t:List Int) (T:Int) (o:List Rd) (S:i3) (u m l k i f:Option Z),Out S E (o.map Rd.d)->mQ o->(∀r∈o,r.t<=T)->0<=T->T+t.length*4000<9000000000->(o.length:Int)<=d+12->
 ∃(j:List Rd) (S':i3) (t5 t6 J I G p n:Option Z),kF (hV 6) (rp a Fc Zp F) (t.map D.int) [iQ<|s.map .int,q,iW d,iQ<|C.map D.str,ba E,iW T,u,m,l,k,i,f] S
  =.nx [iQ<|s.map .int,q,iW d,iQ<|C.map D.str,ba E,t5,t6,J,I,G,p,n] S'/\Out S' E (j.map Rd.d)/\mQ j/\(j.length:Int)<=d+12/\jV b0 S S'
 |[],T,o,S,u,m,l,k,i,f,h,w,_,_,_,P=>⟨o,S,_,u,m,l,k,i,f,rfl,h,w,P,.refl _ _⟩
 |c::t,T,o,S,u,m,l,k,i,f,h,w,ht,h0,V,P=>by
  rw[aq]at V;have st:∀x:k4,nU (rp a Fc Zp F [iQ<|s.map .int,q,iW d,iQ<|C.map D.str,ba E,iW T,iW c,m,l,k,i,f] S) (kF (hV 6) (rp a Fc Zp F)<|t.map D.int)=x->kF (hV 6) (rp a Fc Zp F) ((c::t).map D.int) [iQ<|s.map .int,q,iW d,iQ<|C.map D.str,ba E,iW T,u,m,l,k,i,f] S=x:=λx hx=>hx;rcases aaa (b0:=b0) (a:=a) Q hv R W U s q d T c h w ht h0 (by omega) (by omega) m l k i f with⟨_,e⟩|⟨hle,T',j,S',J,I,G,p,n,e,h',N,L,g1,g2,g3,l1⟩;·exact⟨o,S,_,_,m,l,k,i,f,st _ (by rw[e];rfl),h,w,P,.refl _ _⟩
  ·obtain⟨v,S2,u5,u6,u7,u8,Y,z,y,e2,h2,M,O,l2⟩:=KN Q hv R W U s q d hm t T' j S' (iW c) J I G p n h' N L (by omega) (by push_cast at V;omega) (by omega);exact⟨v,S2,u5,u6,u7,u8,Y,z,y,st _ (by rw[e];exact e2),h2,M,O,l1.trans l2⟩
def Oo{c:Type}(f)(d:List c)(lo hi):∃h:List c,cutD (d.map f) lo hi=h.map f/\h.length<=d.length:=by
 unfold cutD;refine⟨?_,?_,?_⟩
 rotate_left
 ·rw[aj,<-List.map_drop,<-List.map_take]
 ·rw[cD,ck];omega
def To(z:Pk Zp)(hv:Vl F)(n:Cl Fc)(W:W3 C)(f:List Int)(G:f.length<=63)(first c:Int)(I:c<=1000/\0<=c)(r:S[0]?=some .mk)(p:mm S):
    ∃(o:List Rd) (S':i3),mQ o/\(o.length:Int)<=c+12/\Gr S S'/\i6 (yu a Fc Zp F S.length (jr 12 [.d<|.lst<|f.map .int,.d<|.int first,.d<|.int c,.d<|.lst<|C.map D.str]) S)=.ok (.d<|.lst<|o.map Rd.d) S':=by
 have L:=mC r;have gr:Gr S (S++[.li []]):=Gr.app λ_=>rfl;have M:Out (S++[.li []]) S.length (([]:List Rd).map Rd.d):=⟨gr.get r,gr.bnd p,nO S _,qY (p _<|ag _) rfl,L⟩;obtain⟨i,O,lc⟩:=Oo D.int f (some first) (some<|first+60);have m:=cB (f.getD 1 0) (show(10^9 - 10^6:Int)≠0 by decide);have u:=cj (f.getD 1 0) (show(0:Int)<10^9 - 10^6 by decide);generalize hT:f.getD 1 0%(10^9 - 10^6)=T at m u;have j:T+(i.length:Int)*4000<9000000000:=by
  have N:(i.length:Int)<=63:=by omega
  omega
 obtain⟨o,k,Z,Y,V,U,Q,t,s,P,q,y,J,w⟩:=KN (b0:=S.length) (a:=a) z hv n W (ag _) f (iW first) c I.1 i T [] (S++[.li []]) none none none none none none M ⟨(λ_ h=>nomatch h),List.Pairwise.nil⟩ (λ_ h=>nomatch h) m j (by simp;omega);have v:jV S.length k (k.set S.length .no):=jV.set (ag _) λ_ _=>rfl;have l:=((gr.lw<|ag _).trans w).trans v;refine⟨o,k.set S.length .no,y,J,⟨l.len,l.pre,l.sf,l.bnd⟩,?_⟩;unfold yu;show i6 (iV (jd 4 _) _ [iQ<|f.map .int,iW first,iW c,iQ<|C.map D.str,none,none,none,none,none,none,none,none] S)=_;rw[jx<|jS (show mE (λρ=>(iU ρ).bind jF) _ S=.ok (.loc S.length) (S++[.li []])from rfl)<|ai rfl];rw[jx (jS (i0 (d:=.int T) (by show((Fc [.lst (f.map .int),.int (1:Nat)]).bind λx=>jH x (.int (10^9 - 10^6)))=_;rw[n f 1];show jH (.int<|f.getD 1 0) (.int<|10^9 - 10^6)=_;rw[m9 (by decide),hT])) (ai rfl))]
 show i6 (iV (lX _ _ _) _ [iQ<|f.map .int,iW first,iW c,iQ<|C.map D.str,ba S.length,iW T,none,none,none,none,none,none]<|S++[.li []])=_;rw[jx<|(u1 (ds:=i.map D.int)<|by show R.ok (cutD (f.map D.int) (some first)<|some<|first+60)=_;rw[O]).trans P]
 rw[zM rfl q.tt (ag _) q.st];show i6 (jG _ [iQ<|f.map .int,iW first,iW c,iQ<|C.map D.str,(if S.length=S.length then iQ (o.map Rd.d)else _),_,_,_,_,_,_,_] _)=_;rw[av rfl,y_ret<|i0 (d:=.lst<|o.map Rd.d) rfl];rfl
end
variable{a:Ad}
def qW:List Str:=["a","bb","ab","ba","c","b","aa","d","e","f","g","h"]
structure qH(R:List lC):Prop where
 ok:∀r∈R,PyData.strOk r.1=true/\Gd Cw 4 19 r.2
 nm:∀r∈R,r.1∈qW
section
variable{p:ji}{m:je}{i b0:Nat}{f:List Str}{S:i3}
def ox:List D:=[.str "a",.str "bb",.str "ab",.str "ba",.str "c",.str "b",.str "aa",.str "d",.str "e",.str "f",.str "g",.str "h"]
def Uc:∀w∈qW,PyData.strOk w=true:=by decide+kernel
def Ub(k:Nat)(h:k<12):∃c:Str,c∈qW/\jU (.lst ox) (.int k)=.ok (.str c):=by have j:k<qW.length:=h;refine⟨qW[k],bZ _,?_⟩;show(match L2.jY ox (k:Int)with|some d=>R.ok d|none=>.bad)=_;rw[L2.ub<|show ox[k]?=some (.str qW[k])by rw[show ox=qW.map D.str from rfl,aE,au j];rfl]
theorem KP(hg:Gv p f Cw 4 19)(P:Cl m)(hb:b0<=i)(l:List Int)(first:Nat)(n:Option Z):∀(u:List Nat) (R:List lC) (S:i3) (C q:Option Z),Out S i (R.map jk)->qH R->(∀k∈u,k<12)->R.length+u.length<1000->
 ∃(Y:List lC) (S':i3) (J I:Option Z),kF (hV 6) (uc a m p) (u.map λ(k:Nat)=>D.int (k:Int)) [iQ<|l.map .int,iW first,n,iQ<|f.map D.str,iQ ox,ba i,C,q] S
  =.nx [iQ<|l.map .int,iW first,n,iQ<|f.map D.str,iQ ox,ba i,J,I] S'/\Out S' i (Y.map jk)/\qH Y/\Y.length=R.length+u.length/\jV b0 S S'
 |[],R,S,C,q,h,G,_,_=>⟨R,S,C,q,rfl,h,G,rfl,.refl _ _⟩
 |k::u,R,S,C,q,h,G,hk,hz=>by
  rw[aq]at hz;obtain⟨s,A,V⟩:=Ub k (hk k<|.head _);generalize O:l.getD (first+k) 0=c;generalize Q:l.getD 0 0/7%2=b;have e7:mE (λρ=>((aa (dA m<|aa (dV 0)<|aa (d2 j0 (dV 1)<|dV 6) iU)<|aa (d2 jH (d2 j7 (dA m<|aa (dV 0)<|aa (iP 0) iU)<|iP 7)<|iP 2) iU) ρ).bind jF) [iQ<|l.map .int,iW first,n,iQ<|f.map D.str,iQ ox,ba i,iW k,q] S=.ok (.loc S.length) (S++[sc c b]):=by show(lG (((m [.lst<|l.map .int,.int<|(first:Int)+(k:Int)]).bind λx=>((((m [.lst<|l.map .int,.int (0:Nat)]).bind λx=>j7 x<|.int 7).bind λy=>jH y<|.int 2).bind λy=>P2.R.ok [y]).bind λv=>P2.R.ok<|x::v).bind jF) S).bind _=_;rw[show((first:Int)+(k:Int))=((first+k:Nat):Int)from rfl,P l<|first+k,P l 0,O];show(lG ((((((j7 (.int<|l.getD 0 0)<|.int 7).bind λy=>jH y<|.int 2).bind λy=>P2.R.ok [y]).bind λv=>P2.R.ok<|D.int c::v).bind jF)) S).bind _=_;rw[rV (by decide)<|by decide];show(lG (((((jH (.int<|l.getD 0 0/7)<|.int 2).bind λy=>P2.R.ok [y]).bind λv=>P2.R.ok<|D.int c::v).bind jF)) S).bind _=_;rw[m9<|by decide,Q];rfl
  have M:=mC h.tt;have hn:S.length<(S++[sc c b]).length:=by rw[ao];exact bU _
  have gB:Gr S (S++[sc c b]):=Gr.app λj=>my [.int c,.int b] j;obtain⟨t,o,gd,et⟩:=hg (S:=S++[sc c b]) hn c b;rw[show sx (S++[sc c b]) S.length c b=S++[sc c b]from uR S _ _,show sx (S++[sc c b]) S.length o b=S++[sc o b]from uR S _ _]at et;have gC:Gr S (S++[sc o b]):=Gr.app λj=>my [.int o,.int b] j;have z:Out (S++[sc o b]) i (R.map jk):=⟨gC.get h.m0,gC.bnd h.bnd,gC.get h.tt,gC.sf _ M h.st,h.o0⟩
  have oD:Out ((S++[sc o b]).set i (.li<|((R++[(s,t)]).map jk).map .d)) i ((R++[(s,t)]).map jk):=
   ⟨by have:=h.o0;rw[ar<|by omega];exact z.m0,λj F=>nc (z.bnd j<|by rw[aO]at F;exact F)<|my _ _,aA<|mC z.tt,nc z.st<|my _ _,h.o0⟩
  have U:qH (R++[(s,t)]):=⟨λr L=>by
   rcases bh.mp L with w|w;· exact G.ok r w
   · rw[aP]at w;subst w;exact⟨Uc _ A,gd⟩,λr L=>by
   rcases bh.mp L with w|w;· exact G.nm r w
   · rw[aP]at w;subst w;exact A⟩
  obtain⟨R2,S2,J,I,e2,h2,T,N,l2⟩:=KP hg P hb l first n u (R++[(s,t)]) _ (iW k) (ba S.length) oD U (λj F=>hk j (.tail _ F)) (by rw[ao];simp;omega)
  refine⟨R2,S2,J,I,?_,h2,T,by rw[N,ao,aq];simp;omega,((gC.lw<|by omega).trans (jV.wz hb)).trans l2⟩;have st:uc a m p [iQ<|l.map .int,iW first,n,iQ<|f.map D.str,iQ ox,ba i,iW k,q] S=.nx [iQ<|l.map .int,iW first,n,iQ<|f.map D.str,iQ ox,ba i,iW k,ba S.length] ((S++[sc o b]).set i (.li<|((R++[(s,t)]).map jk).map .d)):=by unfold uc;rw[jx<|jS e7<|ai rfl];have oB:(S++[sc c b])[i]?=some (.li<|(R.map jk).map .d):=gB.get h.tt;show oF 5 _ [iQ<|l.map .int,iW first,n,iQ<|f.map D.str,iQ ox,ba i,iW k,ba S.length] (S++[sc c b])=_;rw[u0 rfl oB (lY [.str s,t.d] (i7 (i0 V)<|i7 (lh (i7 (kJ rfl)<|i7 (i0 (d:=.lst<|f.map D.str) rfl) jN) et) jN) (d:=jk (s,t)) rfl) z.tt<|by rw[aj,aj];omega];rw[bF,bF];rfl
  show nU (uc a m p [iQ<|l.map .int,iW first,n,iQ<|f.map D.str,iQ ox,ba i,iW k,q] S) (kF (hV 6) (uc a m p)<|u.map λ(k:Nat)=>D.int (k:Int))=_;rw[st];exact e2
def Tp(w:Gv p f Cw 4 19)(x:Cl m)(j:List Int)(first c:Nat)(I:c<=12)(r:S[0]?=some .mk)(o:mm S):
    ∃(R:List lC) (S':i3),qH R/\R.length=c/\Gr S S'/\i6 (yv a m p S.length (jr 8 [.d<|.lst<|j.map .int,.d<|.int first,.d<|.int c,.d<|.lst<|f.map D.str]) S)=.ok (.d<|.lst<|R.map jk) S':=by
 have y:=mC r;have gr:Gr S (S++[.li []]):=Gr.app λ_=>rfl;have A:Out (S++[.li []]) S.length (([]:List lC).map jk):=⟨gr.get r,gr.bnd o,nO S _,qY (o _<|ag _) rfl,y⟩;obtain⟨R,n,G,F,C,q,z,u,t⟩:=KP (b0:=S.length) (a:=a) w x (ag _) j first (iW c) (List.range c) [] (S++[.li []]) none none A ⟨(λ_ h=>nomatch h),(λ_ h=>nomatch h)⟩ (λk v=>by have:=bJ.mp v;omega) (by simp;omega)
 have s:jV S.length n (n.set S.length .no):=jV.set (ag _) λ_ _=>rfl;have l:=((gr.lw<|ag _).trans t).trans s;refine⟨R,n.set S.length .no,z,by simpa using u,⟨l.len,l.pre,l.sf,l.bnd⟩,?_⟩;unfold yv;show i6 (iV (jd 4 _) _ [iQ<|j.map .int,iW first,iW c,iQ<|f.map D.str,none,none,none,none] S)=_;rw[jx<|jS (i0 (d:=.lst ox) rfl)<|ai rfl];generalize ox=nm at*;show i6 (iV (jd 5 _) _ [iQ<|j.map .int,iW first,iW c,iQ<|f.map D.str,iQ nm,none,none,none] S)=_;rw[jx<|jS (show mE (λρ=>(iU ρ).bind jF) _ S=.ok (.loc S.length) (S++[.li []])from rfl)<|ai rfl];rw[show List.set [some<|Z.d<|.lst<|j.map .int,iW first,iW c,iQ<|f.map D.str,iQ nm,none,none,none] 5 (some<|Z.loc S.length)=[iQ<|j.map .int,iW first,iW c,iQ<|f.map D.str,iQ nm,ba S.length,none,none]from rfl];rw[jx<|(u1 (ds:=(List.range c).map λ(k:Nat)=>D.int (k:Int))<|by rw[show(aa (dV 2) iU) (lF [iQ<|j.map .int,iW first,iW c,iQ<|f.map D.str,iQ nm,ba S.length,none,none])=.ok [.int (c:Int)]from rfl,Ks,C3 (by omega)<|by omega,KC,bg];rfl).trans C]
 rw[zM rfl q.tt (ag _) q.st];show i6 (jG _ [iQ<|j.map .int,iW first,iW c,iQ<|f.map D.str,iQ nm,(if S.length=S.length then iQ (R.map jk)else _),_,_] _)=_;rw[av rfl,y_ret<|i0 (d:=.lst<|R.map jk) rfl];rfl
variable{a:Ad}{e:T7->List Ask}
def RP(h:List lC):∀d c,h.foldl (k7 e) (d,c)=(d++(judge e h c).1,(judge e h c).2):=by
 induction h with
 |nil=>intro d c;show(d,c)=(d++[],c);rw[bf]
 |cons j R k=>
  intro d c;unfold judge;rw[dG,dG];have n:k7 e (d,c) j=(d++(k7 e ([],c) j).1,(k7 e ([],c) j).2):=by unfold k7;dsimp only;rw[fJ]
  rw[n,k];have l:=k (k7 e ([],c) j).1 (k7 e ([],c) j).2;rw[show((k7 e ([],c) j).1,(k7 e ([],c) j).2)=k7 e ([],c) j from rfl]at l;rw[l,bS]
def RU(R1 R2 row):judge e (R1++R2) row=((judge e R1 row).1++(judge e R2 (judge e R1 row).2).1,(judge e R2 (judge e R1 row).2).2):=by show(R1++R2).foldl (k7 e) ([],row)=_;rw[gc];exact RP R2 (judge e R1 row).1 (judge e R1 row).2
def RV(ru R row):judge e (ru::R) row=((k7 e ([],row) ru).1++(judge e R (k7 e ([],row) ru).2).1,(judge e R (k7 e ([],row) ru).2).2):=RU [ru] R row
def stay(e:T7->List Ask):List lC->List Rd->Rd->Bool
 |[],_,_=>true
 |ru::R,c,r=>!hit c (e ru.2) ru.2 r&&stay e R (k7 e ([],c) ru).2 r
theorem BE:∀R c,(judge e R c).2=c.filter (stay e R c)
 |[],c=>(List.filter_eq_self.mpr λ_ _=>rfl).symm
 |ru::R,c=>by rw[RV];show(judge e R (k7 e ([],c) ru).2).2=_;rw[BE R];show((c.filter λr=>!hit c (e ru.2) ru.2 r).filter (stay e R _))=_;rw[List.filter_filter];refine List.filter_congr λr _=>?_;show(stay e R _ r&&!hit c (e ru.2) ru.2 r)=(!hit c (e ru.2) ru.2 r&&stay e R _ r);rw[Bool.and_comm]
def wa{r:Rd}(h:PyData.strOk r.m=true):ky r.d=true/\kR r.d<=5:=by
 constructor
 ·show(PyData.strOk r.m&&(true&&((true&&(true&&true))&&true)))=true;rw[h];rfl
 ·show 2<=5;decide
variable{a:Ad}{e:T7->List Ask}
abbrev qG(R:List lC):Prop:=∀ru∈R,Cw ru.2/\ru.2.dep<=4/\ru.2.parts.length<=19
abbrev sE(row:List Rd):Prop:=(∀r∈row,pB r)/\row.length<10000
variable{q:ji}{o:i3}
def Tr(h:q [.d x,.d y] S=.ok (.d<|.tup [A,B]) o):i6 (yk a q b (jr 2 [.d x,.d y]) S)=.ok (.d B) o:=by unfold yk;show i6 (jG _ [iN x,iN y] S)=_;rw[y_ret<|lH (lh (i7 (i0 (d:=x) rfl)<|i7 (i0 (d:=y) rfl) jN) h) (i0 (d:=.int 1) rfl) (w:=B) rfl];rfl
end
def vd(c:je)(t:T7)(A:List Ask):Prop:=c [t.d]=.ok (.lst<|A.map Ask.d)/\A.length<=3*t.parts.length+1/\∀x,x∈A↔x=.here\/x∈t.asks
open Classical in
def rm(c:je)(t:T7):List Ask:=if h:∃A,vd c t A then h.choose else[]
def Nh{t}(h:∃A,vd Fa t A):vd Fa t (rm Fa t):=by unfold rm;rw[dif_pos h];exact h.choose_spec
def aad(k:∀t:T7,t.dep<8->t.parts.length<64->∃A,vd Fa t A){R}(h:qG R):∀c∈R,Fa [c.2.d]=.ok (.lst ((rm Fa c.2).map Ask.d))/\sF (rm Fa c.2) c.2:=λc j=>by obtain⟨l,o,n⟩:=h c j;obtain⟨f,m,d⟩:=Nh (k c.2 (by omega)<|by omega);exact⟨f,l,by omega,(d _).mpr (.inl rfl),λx i=>(d x).mpr (.inr i),by omega⟩
def Qq(k:ky x=true)(u:kR x<=60):∀{c},lL c=true->∃b,rH x c=some b/\(b=true↔x∈c):=by
 intro c j;obtain⟨p,n,t,d1⟩:=wo k;obtain⟨i,f,o,d2⟩:=wq j;refine⟨i.any λy=>PyData.eqv y p,?_,?_⟩
 ·unfold rH;rw[n,f];show(if(PyData.canLayAll0 i&&PyData.canLay0 p&&decide (p.depth<=63))=true then _ else _)=_;rw[o,t,aN<|by omega];rfl
 ·clear o d2;induction c generalizing i with
  |nil=>cases f;simp
  |cons y c r=>
   have d:ky y=true/\lL c=true:=by have:(ky y&&lL c)=true:=j;simpa using this
   obtain⟨q,m,_⟩:=wo d.1;obtain⟨h,l,_⟩:=wq d.2;have s:kY (y::c)=(mM y).bind λq=>(kY c).bind λh=>some (q::h):=by rw[kY];cases mM y<;>cases kY c<;>rfl
   rw[s,m,l]at f;cases f;rw[cJ,dD,A8 d.1 k m n,r d.2 h l,aD];exact⟨λw=>w.elim (λw=>.inl w.symm) .inr,λw=>w.elim (λw=>.inl w.symm) .inr⟩
def Om{c:List D}(h:p<=c.length):cutD c (some (p:Int)) none=c.drop p:=by unfold cutD HT.jK;dsimp only;rw[aw<|by omega,bp,Nat.min_eq_left h];exact cw (by rw[ck];omega)
def Oq{c:List D}{p:Nat}:cutD c none (some (p:Int))=c.take p:=by
 unfold cutD HT.jK;dsimp only;rw[aw<|by omega,bp,List.drop_zero,Nat.sub_zero];by_cases h:p<=c.length;·rw[Nat.min_eq_left h]
 ·rw[Nat.min_eq_right<|by omega,cw<|ag _,cw<|by omega]
variable{a:Ad}
def Rj{c k:Type}{f:c->k}{l:List c}(d:(l.map f).Nodup):∀x∈l,∀y∈l,f x=f y->x=y:=by
 induction l with
 |nil=>intro _ h;cases h
 |cons z l n=>
  rw[aR]at d;obtain⟨i,m⟩:=bC.mp d;intro x o y j e;rcases aD.mp o with ex|hx'
  ·rcases aD.mp j with ey|hy';·rw[ex,ey]
   ·exact absurd (aI.mpr ⟨y,hy',by rw[<-e,ex]⟩) i
  ·rcases aD.mp j with ey|hy';·exact absurd (aI.mpr ⟨x,hx',by rw[e,ey]⟩) i
   ·exact n m x hx' y hy' e
def uy(r:Rd):List Key:=[.inr r.m,.inl r.t]
def oq(r:Rd):List Key×D:=(uy r,.bl true)
def IJ{s}:uy r=uy s↔jn r=jn s:=by
 constructor
 ·intro e;injection e with d c;injection d with d;injection c with c _;injection c with c;exact Prod.ext c d
 ·intro e;have d:r.t=s.t:=bD Prod.fst e;have c:r.m=s.m:=bD Prod.snd e;show([.inr r.m,.inl r.t]:List Key)=[.inr s.m,.inl s.t];rw[d,c]
theorem Hy:∀(c:List<|List Key×D) acc,(valZ (c.foldl (λa p=>ki a p.1<|.d p.2) acc) key).isSome=((c.any λq=>decide<|q.1=key)||(valZ acc key).isSome)
 |[],acc=>(gg _).symm
 |q::c,acc=>by
  rw[dG,Hy c,wI,cJ];by_cases e:q.1=key;·rw[av e,aN e,iH,iH];exact iG _
  ·rw[aw e,aG e,gg]
def Sr(L:List Rd)(r):(valZ (foldZ<|L.map oq)<|uy r).isSome=decide (jn r∈L.map jn):=by
 unfold foldZ;rw[Hy,show(valZ ([]:List<|List Key×Z)<|uy r).isSome=false from rfl,Bool.or_false,dB,decide_eq_true_iff,cV];constructor
 ·rintro ⟨q,d,e⟩
  obtain⟨s,c,rfl⟩:=aI.mp d;exact aI.mpr ⟨s,c,IJ.mp<|bQ e⟩
 ·intro h;obtain⟨s,c,e⟩:=aI.mp h;exact⟨oq s,aI.mpr ⟨s,c,rfl⟩,aN<|IJ.mpr e⟩
theorem JP:∀L:List Rd,nR (L.map λr=>.tup [k8<|jn r,.bl true])=some (L.map oq)
 |[]=>rfl
 |r::L=>by show(qT<|k8<|jn r).bind (λc=>(nR<|L.map λr=>.tup [k8<|jn r,.bl true]).map ((c,.bl true):: ·))=_;rw[JP L];rfl
variable{S:i3}{n:Nat}{ρ:jj}{f g:jm}
def L0{k}(c:f ρ S=.ok (.tk k) S)(hf:g ρ S=.ok (.loc n) S)(d:S[n]?=some (.dt kvs)):wQ f g ρ S=.ok (.d<|.bl (valZ kvs k).isSome) S:=by
 unfold wQ LX;rw[c];show(((g ρ S).bind _).bind _)=_;rw[hf]
 show((match S[n]? with
  |some (.dt kvs)=>RX.ok (valZ kvs k).isSome S
  |_=>.bad).bind _)=_
 rw[d];rfl
def Ie{r:Rd}{L:List Rd}(j:PyData.strOk r.m=true)(h:∀s∈L,PyData.strOk s.m=true)(m:∀s∈L,jn s=jn r->s=r):mz r.d (.lst<|L.map Rd.d)=.ok (.bl<|decide<|jn r∈L.map jn):=by
 obtain⟨b,d,c⟩:=Qq (x:=r.d) (wa j).1 (aS (wa j).2 (by decide)) (Jz (f:=Rd.d) (l:=L) λs k=>(wa (h s k)).1);unfold mz;dsimp only;rw[d];have:b=decide (jn r∈L.map jn):=by
  rw[dB,c,decide_eq_true_iff,aI,aI];constructor
  ·rintro ⟨y,i,e⟩
   refine⟨y,i,?_⟩;injection e with e;injection e with d c;injection d with d;injection c with c _;injection c with c;exact Prod.ext c d
  ·rintro ⟨y,i,e⟩
   exact⟨y,i,by rw[m y i e]⟩
 rw[this]
end WM
namespace sH
open PySem L2 P2 WP WM TM T2 PySem.NumText
variable{a:Ad}
section
variable{S:i3}
def Tc{L:List Rd}(h:L.length<10000)(b):∃S',Gr S S'/\i6 (yg a b (jr 1 [.d<|.lst<|L.map Rd.d]) S)=.ok (.loc<|S.length+1) S'/\S'[S.length+1]?=some (.dt<|foldZ<|L.map oq):=by
 let M:List Z:=(L.map λr=>D.tup [k8<|jn r,.bl true]).map .d
 refine⟨S++[.li M]++[.dt<|foldZ<|L.map oq],(Gr.app<|λj=>?_).trans (Gr.app λj=>Be j _ [] rfl),?_,by have:=nO (S++[Cell.li M])<|.dt<|foldZ<|L.map oq;rw[ao]at this;exact this⟩
 ·show((L.map λr=>D.tup [k8<|jn r,.bl true]).map Z.d).any (ml j)=false;rw[hC];exact bV.mpr λ_ _=>nofun
 ·unfold yg;show i6 (jG _ [iQ<|L.map Rd.d] S)=_;rw[y_ret (z:=.loc<|S.length+1) (S1:=S++[.li M]++[.dt<|foldZ<|L.map oq])];·rfl
  ·unfold wN mE;rw[ug (f:=Rd.d) (g:=λr=>D.tup [k8<|jn r,.bl true]) (L:=L) rfl (by omega) λr _=>rfl]
   show(match(S++[Cell.li M])[S.length]? with
    |some (.li d)=>(match(lI d).bind nR with
     |some c=>RX.ok (Z.loc (S++[Cell.li M]).length) (S++[Cell.li M]++[Cell.dt<|foldZ c])
     |none=>RX.bad)
    |_=>RX.bad)=_
   rw[nO]
   show(match(lI M).bind nR with
    |some c=>RX.ok (Z.loc (S++[Cell.li M]).length) (S++[Cell.li M]++[Cell.dt<|foldZ c])
    |none=>RX.bad)=_
   rw[show(lI M).bind nR=some (L.map oq)from by rw[rn];exact JP L];show RX.ok (Z.loc (S++[Cell.li M]).length) _=_;rw[ao];rfl
def kN(A B:List Rd)(r:Rd):Bool:=decide (jn r∈A.map jn)!=decide (jn r∈B.map jn)
def WU:Option Rd->D
 |none=>.non
 |some r=>k8 (jn r)
variable{Zs Zk:ji}{A B:List Rd}{e c:Nat}{x0 x1 x2:Option Z}
def VM(o:S[e]?=some (.dt<|foldZ<|A.map oq))(n:S[c]?=some (.dt<|foldZ<|B.map oq))(r:Rd)(s6):
    sM a Zs Zk [x0,x1,x2,ba e,ba c,iN r.d,s6] S=if kN A B r=true then .rt (.d<|k8<|jn r) S else .nx [x0,x1,x2,ba e,ba c,iN r.d,iN<|k8<|jn r] S:=by
 unfold sM;rw[jx<|jS (i0 (d:=k8<|jn r) rfl)<|ai rfl];show jE _ _ _ [x0,x1,x2,ba e,ba c,iN r.d,iN<|k8<|jn r] S=_;have h:tN (zD<|dV 6) [x0,x1,x2,ba e,ba c,iN r.d,iN<|k8<|jn r] S=.ok (.tk<|uy r) S:=LZ (i0 (d:=k8<|jn r) rfl) rfl;have m:=L0 h (kJ (i:=3) (z:=.loc e) rfl) o;have l:=L0 h (kJ (i:=4) (z:=.loc c) rfl) n;rw[Sr]at m l;have f:=z5 (q:=tB) (k:=kN A B r) (lH (q:=oV) (w:=.bl<|kN A B r) m l<|by show R.ok (D.bl<|!decide (decide (jn r∈A.map jn)=decide (jn r∈B.map jn)))=_;unfold kN;cases decide (jn r∈A.map jn)<;>cases decide (jn r∈B.map jn)<;>rfl) rfl
 cases j:kN A B r with
 |true=>rw[av rfl,mf<|by rw[j]at f;exact f,y_ret<|i0 (d:=k8<|jn r) rfl]
 |false=>rw[aw ax,r6<|by rw[j]at f;exact f];rfl
theorem JQ(j:S[e]?=some (.dt<|foldZ<|A.map oq))(i:S[c]?=some (.dt<|foldZ<|B.map oq)):∀(L:List Rd) s5 s6,
 (∃r,L.find? (kN A B)=some r/\kF (hV 5) (sM a Zs Zk) (L.map Rd.d) [x0,x1,x2,ba e,ba c,s5,s6] S=.rt (.d<|k8<|jn r) S)
 \/L.find? (kN A B)=none/\∃f d,kF (hV 5) (sM a Zs Zk) (L.map Rd.d) [x0,x1,x2,ba e,ba c,s5,s6] S=.nx [x0,x1,x2,ba e,ba c,f,d] S
 |[],s5,s6=>.inr ⟨rfl,s5,s6,rfl⟩
 |r::L,s5,s6=>by
  show(∃k,_/\nU (sM a Zs Zk [x0,x1,x2,ba e,ba c,iN r.d,s6] S) _=_)\/(_/\∃f d,nU (sM a Zs Zk [x0,x1,x2,ba e,ba c,iN r.d,s6] S) _=_);rw[VM j i];cases h:kN A B r with
  |true=>exact .inl ⟨r,by rw[gZ h],rfl⟩
  |false=>rw[hA<|by rw[h];exact ax];exact JQ j i L _ _
end
structure Fy(ak:T7->List Ask)(Zs Zk:ji):Prop where
 s:∀{S:i3} {R:List lC} {row:List Rd},qG R->sE row->S[0]?=some .mk->mm S->∃S',Gr S S'/\Zs [.d<|.lst<|row.map Rd.d,.d<|.lst<|R.map jk] S=.ok (.d<|.lst<|(judge ak R row).2.map Rd.d) S'
 k:∀{S:i3} {L:List Rd},L.length<10000->∃S',Gr S S'/\Zk [.d<|.lst<|L.map Rd.d] S=.ok (.loc<|S.length+1) S'/\S'[S.length+1]?=some (.dt<|foldZ<|L.map oq)
def md(d:T7->List Ask)(c:List Rd)(R O:List lC):D:=WU (c.find?<|kN (judge d R c).2 (judge d O c).2)
section
variable{i:T7->List Ask}{Zs Zk:ji}{S:i3}
def Jg{R}:(judge i R row).2.length<=row.length:=by rw[BE];exact ia ..
def Ti(H:Fy i Zs Zk){R}(w:qG R)(x:qG O)(c:sE row)(m:S[0]?=some .mk)(l:mm S)(b):
    ∃S',Gr S S'/\i6 (yj a Zs Zk b (jr 7 [.d<|.lst<|row.map Rd.d,.d<|.lst<|R.map jk,.d<|.lst<|O.map jk]) S)=.ok (.d<|md i row R O) S':=by
 obtain⟨s,k,C⟩:=H.s w c m l;obtain⟨I,j,A,v⟩:=H.k (S:=s) (L:=(judge i R row).2) (bY Jg c.2);have t:=j.get (k.get m);have D:=j.bnd (k.bnd l);obtain⟨q,o,z⟩:=H.s x c t D;obtain⟨p,n,y,u⟩:=H.k (S:=q) (L:=(judge i O row).2) (bY Jg c.2);have h:=n.get (o.get v);refine⟨p,((k.trans j).trans o).trans n,?_⟩;unfold yj;show i6 (iV (jd 3 _) _ [iQ<|row.map Rd.d,iQ<|R.map jk,iQ<|O.map jk,none,none,none,none] S)=_;rw[jx<|jS (lh (i7 (lh (i7 (i0 (d:=.lst<|row.map Rd.d) rfl)<|i7 (i0 (d:=.lst<|R.map jk) rfl) jN) C) jN) A)<|ai rfl];rw[jx<|jS (lh (i7 (lh (i7 (i0 (d:=.lst<|row.map Rd.d) rfl)<|i7 (i0 (d:=.lst<|O.map jk) rfl) jN) z) jN) y)<|ai rfl];show i6 (iV (lX _ _ _) _ [iQ<|row.map Rd.d,iQ<|R.map jk,iQ<|O.map jk,ba<|s.length+1,ba<|q.length+1,none,none] p)=_;unfold md;rcases JQ (a:=a) (Zs:=Zs) (Zk:=Zk) (x0:=iQ (row.map Rd.d)) (x1:=iQ (R.map jk)) (x2:=iQ (O.map jk)) h u row none none with⟨r,f,e⟩|⟨f,G,F,e⟩;·rw[f,pe<|(u1 (ds:=row.map Rd.d) rfl).trans e];rfl
 ·rw[f,jx<|(u1 (ds:=row.map Rd.d) rfl).trans e,y_ret<|i0 (d:=.non) rfl];rfl
variable{a:Ad}
def UG:PyData.strOk "num"=true/\PyData.strOk "here"=true/\PyData.strOk "times"=true/\PyData.strOk "abs"=true/\PyData.strOk "not"=true/\PyData.strOk "at"=true:=by decide+kernel
def UE(k:Fq):PyData.strOk k.s=true:=by cases k<;>decide+kernel
def UD(k:Bq):PyData.strOk k.s=true:=by cases k<;>decide+kernel
def abK{t:T7}(h:t.Ok):ky t.d=true/\kR t.d<=t.dep+2:=by induction t<;>simp_all[T7.d,T7.Ok,ky,lL,kR,og,T7.dep,UE,UD,UG]<;>omega
structure Ud(R:List lC):Prop where
 g:qG R
 q:∀ru∈R,ky (jk ru)=true/\kR (jk ru)<=7
def LG{t}(h:PyData.strOk nm=true)(g:Gd Cw 4 19 t):ky (jk (nm,t))=true/\kR (jk (nm,t))<=7:=by obtain⟨c,d⟩:=abK g.ok;have:=g.dep;refine⟨by show(PyData.strOk nm&&(ky t.d&&true))=true;rw[h,c];rfl,?_⟩;show max 0 (max (kR t.d) 0)+1<=7;omega
def Ep{R}(h:qH R):Ud R:=⟨λc d=>let g:=(h.ok c d).2;⟨g.w,g.dep,g.sz⟩,λc d=>LG (h.ok c d).1 (h.ok c d).2⟩
def ab9{R}(h:Ud R)(f:∀c∈O,c∈R):Ud O:=⟨λc d=>h.g c<|f c d,λc d=>h.q c<|f c d⟩
def qu(c:lC):lC:=("q"++c.1,c.2)
def Kx:∀w∈qW,PyData.strOk ("q"++w)=true/\w.length<=2:=by decide+kernel
def ab8{R}(h:qH R):Ud (R.map qu):=by
 refine⟨λf d=>?_,λf d=>?_⟩
 ·obtain⟨r,c,rfl⟩:=aI.mp d;exact let g:=(h.ok r c).2;⟨g.w,g.dep,g.sz⟩
 ·obtain⟨r,c,rfl⟩:=aI.mp d;exact LG (Kx _<|h.nm r c).1 (h.ok r c).2
def BV{d:Type}{f:d->D}{l:List d}(h:∀x∈l,ky (f x)=true/\kR (f x)<=7):ky (.lst<|l.map f)=true/\kR (.lst<|l.map f)<=8:=by have:og (l.map f)<=7:=OS λx c=>(h x c).2;exact⟨Jz λx c=>(h x c).1,by show og (l.map f)+1<=8;omega⟩
def T6(f:ky x=true/\kR x<=8)(d:ky y=true/\kR y<=8)(c:ky z=true/\kR z<=8):mL (.lst [x,y,z]) (.lst [x,y,z])=.ok (.bl false):=by
 refine ne_self ?_ ?_
 ·show(ky x&&(ky y&&(ky z&&true)))=true;rw[f.1,d.1,c.1];rfl
 ·show max (kR x) (max (kR y)<|max (kR z) 0)+1<=60;omega
def Ol{c:List D}{p:Nat}:cutD c (some (p:Int)) none=c.drop p:=by
 by_cases h:p<=c.length;·exact Om h
 ·unfold cutD HT.jK;dsimp only;rw[aw<|by omega,bp,Nat.min_eq_right<|by omega,List.drop_length,List.drop_of_length_le<|by omega];simp
variable{Fc Fw:List D->P2.R D}{Zr Zu Zp:ji}{A B c:List Rd}
def ui(A B L:List Rd)(d:D):D:=match L.find? (kN A B)with
 |some r=>k8 (jn r)
 |none=>d
theorem Hc(t q p o n m l k j:Option Z)(f:mQ c)(J:∀r∈A,r∈c)(I:∀r∈B,r∈c):∀(L:List Rd) (h:D) (u:Option Z),(∀r∈L,r∈c)->
 ∃v,kF (hV 12) (vt a Fc Fw Zr Zu Zp Zs) (L.map Rd.d) [t,q,p,o,n,m,l,k,j,iQ<|A.map Rd.d,iQ<|B.map Rd.d,iN h,u] S
  =.nx [t,q,p,o,n,m,l,k,j,iQ<|A.map Rd.d,iQ<|B.map Rd.d,iN<|ui A B L.reverse h,v] S
 |[],h,u,_=>⟨u,rfl⟩
 |r::L,h,u,F=>by
  have inj:∀C:List Rd,(∀r∈C,r∈c)->∀s∈C,jn s=jn r->s=r:=λC P s w e=>by have T:=P s w;have Q:=F r (.head _);have M:=f.nd;exact Rj M s T r Q e
  have O:=Ie (f.ok r<|F r<|.head _).2 (λs w=>(f.ok s<|J s w).2) (inj A J);have N:=Ie (f.ok r<|F r<|.head _).2 (λs w=>(f.ok s<|I s w).2) (inj B I)
  let d1:D:=if kN A B r=true then k8 (jn r)else h
  have st:vt a Fc Fw Zr Zu Zp Zs [t,q,p,o,n,m,l,k,j,iQ<|A.map Rd.d,iQ<|B.map Rd.d,iN h,iN r.d] S=.nx [t,q,p,o,n,m,l,k,j,iQ<|A.map Rd.d,iQ<|B.map Rd.d,iN d1,iN r.d] S:=by
   unfold vt;have G:zB (b1 tB<|d2 oV (d2 mz (dV 12)<|dV 9)<|d2 mz (dV 12)<|dV 10) [t,q,p,o,n,m,l,k,j,iQ<|A.map Rd.d,iQ<|B.map Rd.d,iN h,iN r.d] S=.ok (kN A B r) S:=mh (by show(((mz r.d<|.lst<|A.map Rd.d).bind λx=>(mz r.d<|.lst<|B.map Rd.d).bind λy=>oV x y).bind tB)=_;rw[O,N];show P2.R.ok (!decide (decide (jn r∈A.map jn)=decide (jn r∈B.map jn)))=_;unfold kN;cases decide (jn r∈A.map jn)<;>cases decide (jn r∈B.map jn)<;>rfl)
   cases z:kN A B r with
   |true=>rw[mf<|by rw[z]at G;exact G,jS (i0 (d:=k8<|jn r) rfl)<|ai rfl];show _=k4.nx [t,q,p,o,n,m,l,k,j,_,_,iN<|if kN A B r=true then _ else _,_] S;rw[z];rfl
   |false=>rw[r6<|by rw[z]at G;exact G];show _=k4.nx [t,q,p,o,n,m,l,k,j,_,_,iN<|if kN A B r=true then _ else _,_] S;rw[z];rfl
  obtain⟨v,e⟩:=Hc t q p o n m l k j f J I L d1 (iN r.d) λs w=>F s (.tail _ w);refine⟨v,?_⟩;show nU (vt a Fc Fw Zr Zu Zp Zs [t,q,p,o,n,m,l,k,j,iQ<|A.map Rd.d,iQ<|B.map Rd.d,iN h,iN r.d] S) _=_;rw[st];have U:ui A B L.reverse d1=ui A B (r::L).reverse h:=by
   unfold ui;rw[eH,List.find?_append];cases L.reverse.find? (kN A B)with
   |some s=>rfl
   |none=>show d1=(match([r].find? (kN A B))with|some r=>k8 (jn r)|none=>h);show(if kN A B r=true then _ else _)=_;rw[cz];cases kN A B r<;>rfl
  rw[<-U];exact e
end
variable{a:Ad}
structure Fz(ak:T7->List Ask)(Fc Fw:List D->P2.R D)(Zr Zu Zp Zs:ji):Prop where
 c:Cl Fc
 w:∀c:Int,∃st:Int,(st%26≠0/\st*2%26≠0)/\∀k:Int,0<=k->k<26->PyData.strOk (nD c st k)=true/\Fw [.int c,.int k]=.ok (.str<|nD c st k)
 r:∀{S:i3} {ws:List Str},W3 ws->∀(ns:List Int),ns.length<=63->∀first most:Int,most<=1000/\0<=most->S[0]?=some .mk->mm S->∃(row:List Rd) (S':i3),mQ row/\(row.length:Int)<=most+12/\Gr S S'/\Zr [.d<|.lst<|ns.map .int,.d<|.int first,.d<|.int most,.d<|.lst<|ws.map D.str] S=.ok (.d<|.lst<|row.map Rd.d) S'
 u:∀{S:i3} {ws:List Str},W3 ws->∀(ns:List Int) (first many:Nat),many<=12->S[0]?=some .mk->mm S->∃(R:List lC) (S':i3),qH R/\R.length=many/\Gr S S'/\Zu [.d<|.lst<|ns.map .int,.d<|.int first,.d<|.int many,.d<|.lst<|ws.map D.str] S=.ok (.d<|.lst<|R.map jk) S'
 p:∀{S:i3} {R O:List lC} {row:List Rd},qG R->qG O->sE row->S[0]?=some .mk->mm S->∃S',Gr S S'/\Zp [.d<|.lst<|row.map Rd.d,.d<|.lst<|R.map jk,.d<|.lst<|O.map jk] S=.ok (.d<|md ak row R O) S'
 s:∀{S:i3} {R:List lC} {row:List Rd},qG R->sE row->S[0]?=some .mk->mm S->∃S',Gr S S'/\Zs [.d<|.lst<|row.map Rd.d,.d<|.lst<|R.map jk] S=.ok (.d<|.lst<|(judge ak R row).2.map Rd.d) S'
variable{m:T7->List Ask}{Fc Fw:List D->P2.R D}{Zr Zu Zp Zs:ji}
def ON(A B r):kN A B r=kN B A r:=by unfold kN;cases decide (jn r∈A.map jn)<;>cases decide (jn r∈B.map jn)<;>rfl
def OM(A r):kN A A r=false:=by unfold kN;cases decide (jn r∈A.map jn)<;>rfl
def WY(row R O):md m row O R=md m row R O:=by unfold md;rw[show kN (judge m O row).2 (judge m R row).2=kN (judge m R row).2 (judge m O row).2 from funext λr=>ON _ _ r]
def WX(row R):md m row R R=.non:=by unfold md;rw[fV.mpr λr _=>by rw[OM];exact ax];rfl
def others(f:List Int)(x1 x2)(w:Int){R}(l:qH R)(J:qH O0)(I:R.length<=12)(S):∃O j,Ud O/\∀rest:jC,
    iV (jE (zB (b1 tB (d2 jJ (d2 jH (d2 j7 (dV 3) (iP 16)) (iP 3)) (iP 1)))) (iV (jd 6 (zD (d2 jH (d2 j7 (dV 3) (iP 48)) (dA uD (aa (iP 1) (aa (dA lE (aa (dV 4) iU)) iU))))))
     (jd 5 (zD (d2 sU (qP pT (dV 4) (λ_=>.ok none) (λρ=>((dV 6) ρ).bind pI)) (qP pT (dV 4) (λρ=>((d2 j0 (dV 6) (iP 1)) ρ).bind pI) (λ_=>.ok none)))))) j5)
    (iV (jE (zB<|b1 tB<|d2 jJ (d2 jH (d2 j7 (dV 3)<|iP 16)<|iP 3)<|iP 2) (jd 5<|zD<|jw<|kM (λρ=>((dV 4) ρ).bind ke) 2 [] (gT 2<|gC (gV 0)<|gC (gV 1) gN) (λ_=>.ok true)<|dA jz<|aa (d2 j0 (jg "q")<|dV 0)<|aa (dV 1) iU) j5) rest)
      [iQ<|f.map .int,x1,x2,iW w,iQ<|R.map jk,iQ<|O0.map jk,none,none,none,none,none,none,none] S
    =rest [iQ<|f.map .int,x1,x2,iW w,iQ<|R.map jk,iQ<|O.map jk,j,none,none,none,none,none,none] S:=by
 have c:∀(i j:Option Z) (k:Int),zB (b1 tB<|d2 jJ (d2 jH (d2 j7 (dV 3)<|iP 16)<|iP 3)<|iP k) [iQ<|f.map .int,x1,x2,iW w,iQ<|R.map jk,i,j,none,none,none,none,none,none] S=.ok (decide<|w/16%3=k) S:=λi j k=>mh (by show((((j7 (.int w)<|.int 16).bind λx=>jH x<|.int 3).bind λx=>jJ x<|.int k).bind tB)=_;rw[rV (by decide)<|by decide];show(((jH (.int<|w/16)<|.int 3).bind λx=>jJ x<|.int k).bind tB)=_;rw[m9<|by decide];rfl)
 by_cases n:w/16%3=1
 ·-- one rule less
  have q:(0:Int)<(if(R.length:Int)>1 then(R.length:Int)else 1):=by split<;>omega
  generalize G:(if(R.length:Int)>1 then(R.length:Int)else 1)=mx at q;have z:=cB (w/48) (show mx≠0 by omega);obtain⟨p,F⟩:=a9 z;have N:zD (d2 jH (d2 j7 (dV 3) (iP 48)) (dA uD (aa (iP 1) (aa (dA lE (aa (dV 4) iU)) iU)))) [iQ (f.map .int),x1,x2,iW w,iQ (R.map jk),iQ (O0.map jk),none,none,none,none,none,none,none] S=.ok (.d (.int p)) S:=i0 (by show((j7 (.int w) (.int 48)).bind λx=>(P2.R.ok (D.int (if(((R.map jk).length:Nat):Int)>1 then(((R.map jk).length:Nat):Int)else 1))).bind λy=>jH x y)=_;rw[rV (by decide)<|by decide,aj,G];show jH (.int<|w/48) (.int mx)=_;rw[m9 q,F])
  have o:∀i,zD (d2 sU (qP pT (dV 4) (λ_=>.ok none)<|λρ=>((dV 6) ρ).bind pI)<|qP pT (dV 4) (λρ=>((d2 j0 (dV 6)<|iP 1) ρ).bind pI)<|λ_=>.ok none) [iQ<|f.map .int,x1,x2,iW w,iQ<|R.map jk,i,iW p,none,none,none,none,none,none] S=.ok (.d<|.lst<|(R.take p++R.drop (p+1)).map jk) S:=λi=>i0 (by show sU (.lst<|cutD (R.map jk) none<|some (p:Int)) (.lst<|cutD (R.map jk) (some ((p+1:Nat):Int)) none)=_;rw[Oq,Ol,<-List.map_take,<-List.map_drop,bF];unfold sU AL;dsimp only;rw[av<|by rw[aj,aj,cD,ck];exact cI (qZ<|by omega)])
  refine⟨R.take p++R.drop (p+1),iW p,ab9 (Ep l) λd h=>(bh.mp h).elim iA iC,λrest=>?_⟩;rw[jx<|(mf<|by rw[c,aN n]).trans ((jx<|jS N<|ai rfl).trans (jS (o _)<|ai rfl))];show iV (jE _ _ _) _ [iQ<|f.map .int,x1,x2,iW w,iQ<|R.map jk,iQ<|(R.take p++R.drop (p+1)).map jk,iW p,none,none,none,none,none,none] S=_;rw[lg<|by rw[c,aG<|by omega]]
 ·by_cases t:w/16%3=2
  ·refine⟨R.map qu,none,ab8 l,λrest=>?_⟩;rw[lg<|by rw[c,aG n]];have M:∀L:List lC,(∀d∈L,d.1∈qW)->l0 (gT 2<|gC (gV 0)<|gC (gV 1) gN) (λ_=>P2.R.ok true) (dA jz<|aa (d2 j0 (jg "q")<|dV 0)<|aa (dV 1) iU) [.no,.no] (L.map jk)=some ((L.map qu).map jk):=by
    intro L;induction L with
    |nil=>intro _;rfl
    |cons d L A=>
     intro s;rw[aR,aR,aR];unfold l0;show((oz<|((j0 (.str "q")<|.str d.1).bind λx=>P2.R.ok [x,d.2.d]).bind jz).bind λv=>(l0 (gT 2<|gC (gV 0)<|gC (gV 1) gN) (λ_=>P2.R.ok true) (dA jz<|aa (d2 j0 (jg "q")<|dV 0)<|aa (dV 1) iU) [.no,.no]<|L.map jk).bind λu=>some<|v::u)=_;rw[A λr C=>s r<|.tail _ C];have:j0 (.str "q") (.str d.1)=.ok (.str<|"q"++d.1):=by
      have:=(Kx _<|s d<|.head _).2;show(if("q":Str).length+d.1.length<=sizeLine then _ else _)=_;have P:("q":Str).length=1:=by decide+kernel
      rw[av<|cI<|qZ<|by omega]
     rw[this];rfl
   have o:zD (jw<|kM (λρ=>((dV 4) ρ).bind ke) 2 [] (gT 2<|gC (gV 0)<|gC (gV 1) gN) (λ_=>.ok true)<|dA jz<|aa (d2 j0 (jg "q")<|dV 0)<|aa (dV 1) iU) [iQ<|f.map .int,x1,x2,iW w,iQ<|R.map jk,iQ<|O0.map jk,none,none,none,none,none,none,none] S=.ok (.d<|.lst<|(R.map qu).map jk) S:=i0 (qM<|by show(if(R.map jk).length<=sizeLine then tw (l0 (gT 2<|gC (gV 0)<|gC (gV 1) gN) (λ_=>P2.R.ok true) (dA jz<|aa (d2 j0 (jg "q")<|dV 0)<|aa (dV 1) iU) [.no,.no]<|R.map jk)else .bad)=_;rw[av<|by rw[aj];exact cI (qZ<|by omega),M R l.nm];rfl)
   rw[jx<|(mf<|by rw[c,aN t]).trans (jS o<|ai rfl)];rfl
  ·refine⟨O0,none,Ep J,λrest=>?_⟩;rw[lg<|by rw[c,aG n],lg<|by rw[c,aG t]]
variable{a:Ad}
def OZ{d}(n:d=.non\/∃r,d=k8 (jn r))(l:mL d d=.ok (.bl false))(h:dV 8 ρ=.ok d)(f:dV 11 ρ=.ok d):(pD (n8 (b1 tB<|d2 nP (dV 11)<|dC .non)<|b1 tB<|d2 oj (dV 8)<|dC .non)<|n8 (b1 tB<|d2 oj (dV 11)<|dC .non)<|pD (qO<|b1 tT<|dA (mT a.om)<|aa (dV 8)<|aa (dC<|.ty "tuple") iU)<|b1 tB<|d2 mL (dV 8)<|dV 11) ρ=.ok false:=by
 have k:b1 tB (d2 nP (dV 11)<|dC .non) ρ=(nP d .non).bind tB:=by unfold b1 d2;rw[f];rfl
 have q:b1 tB (d2 oj (dV 8)<|dC .non) ρ=(oj d .non).bind tB:=by unfold b1 d2;rw[h];rfl
 have j:b1 tB (d2 oj (dV 11)<|dC .non) ρ=(oj d .non).bind tB:=by unfold b1 d2;rw[f];rfl
 have p:b1 tT (dA (mT a.om)<|aa (dV 8)<|aa (dC<|.ty "tuple") iU) ρ=(mT a.om [d,.ty "tuple"]).bind tT:=by unfold b1 dA aa;rw[h];rfl
 have o:b1 tB (d2 mL (dV 8)<|dV 11) ρ=(mL d d).bind tB:=by unfold b1 d2;rw[h,f];rfl
 unfold pD n8 qO;rcases n with rfl|⟨r,rfl⟩;·rw[k,q,j];rfl
 ·have i:b1 tT (dA (mT a.om)<|aa (dV 8)<|aa (dC<|.ty "tuple") iU) ρ=.ok true:=by rw[p];rfl
  rw[k,j];show(((b1 tT (dA (mT a.om)<|aa (dV 8)<|aa (dC<|.ty "tuple") iU) ρ).bind λc=>P2.R.ok<|!c).bind λc=>if c=true then _ else _)=_;rw[i];show b1 tB (d2 mL (dV 8)<|dV 11) ρ=_;rw[o,l];rfl
def Td(H:Fz m Fc Fw Zr Zu Zp Zs)(l:List Int)(hn:l.length<=63)(b):∃S',i6 (Bh a Fc Fw Zr Zu Zp Zs b (jr 13 [.d<|.lst<|l.map .int]) [.mk])=.ok (.d<|.bl true) S':=by
 have o0:([Cell.mk]:i3)[0]?=some .mk:=rfl;have b0:mm [Cell.mk]:=λ_ _=>rfl
 obtain⟨st,y,F⟩:=H.w (l.getD 0 0)
 let o:List Str:=[nD (l.getD 0 0) st 0,nD (l.getD 0 0) st 1,nD (l.getD 0 0) st 2]
 have W:W3 o:=⟨λw P=>by
  have:w=nD (l.getD 0 0) st 0\/w=nD (l.getD 0 0) st 1\/w=nD (l.getD 0 0) st 2:=by simpa [o]using P
  rcases this with rfl|rfl|rfl;· exact(F 0 (by decide)<|by decide).1
  · exact(F 1 (by decide)<|by decide).1
  · exact(F 2 (by decide)<|by decide).1,by
  have n1:=Et (c:=l.getD 0 0) (i:=0) (j:=1) y (by decide) (by decide) (by decide);have n2:=Et (c:=l.getD 0 0) (i:=0) (j:=2) y (by decide) (by decide) (by decide);have n3:=Et (c:=l.getD 0 0) (i:=1) (j:=2) y (by decide) (by decide) (by decide);show List.Nodup [_,_,_];exact bC.mpr ⟨λh=>(aD.mp h).elim n1 λh=>n2 (aP.mp h),bC.mpr ⟨λh=>n3 (aP.mp h),bC.mpr ⟨(λh=>nomatch h),List.Pairwise.nil⟩⟩⟩,rfl⟩
 have e1:zD (jw<|kM (λρ=>((aa (iP 3) iU) ρ).bind qx) 1 [0] (gV 0) (λ_=>.ok true)<|dA Fw<|aa (dA Fc<|aa (dV 1)<|aa (iP 0) iU)<|aa (dV 0) iU) [iQ<|l.map .int,none,none,none,none,none,none,none,none,none,none,none,none] [.mk]=.ok (.d<|.lst<|o.map D.str) [.mk]:=by
  refine i0 (qM (X:=o.map D.str) ?_);generalize U:dA Fw (aa (dA Fc<|aa (dV 1)<|aa (iP 0) iU)<|aa (dV 0) iU)=fe;have Z:∀k:Int,0<=k->k<26->fe [.sh<|.int k,.sh<|.lst<|l.map .int]=.ok (.str<|nD (l.getD 0 0) st k):=λk k0 k1=>by subst U;show(((Fc [.lst<|l.map .int,.int (0:Nat)]).bind λx=>P2.R.ok [x,D.int k]).bind Fw)=_;rw[H.c l 0];exact(F k k0 k1).2
  have e0:=Z 0 (by decide) (by decide);have e1:=Z 1 (by decide) (by decide);have e2:=Z 2 (by decide) (by decide);show(if 3<=sizeLine then tw (l0 (gV 0) (λ_=>P2.R.ok true) fe [.no,.sh<|.lst<|l.map .int] [.int 0,.int 1,.int 2])else .bad)=_;rw[av<|by decide];have c3:l0 (gV 0) (λ_=>P2.R.ok true) fe [.no,.sh<|.lst<|l.map .int] [.int 0,.int 1,.int 2]=some (o.map D.str):=by show((oz<|fe [.sh<|.int 0,.sh<|.lst<|l.map .int]).bind λv=>((oz<|fe [.sh<|.int 1,.sh<|.lst<|l.map .int]).bind λv=>((oz<|fe [.sh<|.int 2,.sh<|.lst<|l.map .int]).bind λv=>some [v]).bind λG=>some<|v::G).bind λG=>some<|v::G)=_;rw[e0,e1,e2];rfl
  rw[c3];rfl
 clear_value o
 obtain⟨f,S1,n,hlen,g1,er⟩:=H.r W l hn 10 100 (by decide) o0 b0;have o1:=g1.get o0;have B1:=g1.bnd b0;generalize N:l.getD 3 0=w;obtain⟨p4,T⟩:=a9 (cB w<|show(4:Int)≠0 by decide);obtain⟨p5,Q⟩:=a9 (cB (w/4)<|show(4:Int)≠0 by decide);have l4:=cj w (show(0:Int)<4 by decide);have l5:=cj (w/4) (show(0:Int)<4 by decide);obtain⟨R,S2,hR,Qg,g2,eu⟩:=H.u W l 4 p4 (by omega) o1 B1;have o2:=g2.get o1;have B2:=g2.bnd B1;obtain⟨O0,S3,V,ac9,g3,eo⟩:=H.u W l 7 p5 (by omega) o2 B2;have o3:=g3.get o2;have B3:=g3.bnd B2;obtain⟨O,J,A,eO⟩:=others l (iQ<|o.map D.str) (iQ<|f.map Rd.d) w hR V (by omega) S3;have z:=Ep hR;have C:sE f:=⟨λr u=>(n.ok r u).1,by omega⟩;have GE:sE []:=⟨(λ_ h=>nomatch h),by decide⟩;obtain⟨S4,g4,e4⟩:=H.p z.g A.g C o3 B3;have o4:=g4.get o3;have B4:=g4.bnd B3;obtain⟨S5,g5,e5⟩:=H.s z.g C o4 B4;have o5:=g5.get o4;have B5:=g5.bnd B4;obtain⟨S6,g6,e6⟩:=H.s A.g C o5 B5;have o6:=g6.get o5;have B6:=g6.bnd B5;obtain⟨S7,g7,e7⟩:=H.p A.g z.g C o6 B6;have o7:=g7.get o6;have B7:=g7.bnd B6;obtain⟨S8,g8,e8⟩:=H.p z.g z.g C o7 B7;have o8:=g8.get o7;have B8:=g8.bnd B7;obtain⟨S9,g9,e9⟩:=H.p z.g A.g GE o8 B8;rw[WY]at e7;rw[WX]at e8;rw[show md m [] R O=.non from rfl]at e9;have sub:∀R':List lC,∀r∈(judge m R' f).2,r∈f:=λR' r u=>by rw[BE]at u;exact(dy.mp u).1
 have L:ky (.lst<|f.map Rd.d)=true/\kR (.lst<|f.map Rd.d)<=8:=BV λr u=>⟨(wa (n.ok r u).2).1,aS (wa (n.ok r u).2).2 (by decide)⟩;have M:=BV z.q;have oz:=BV A.q;obtain⟨I,el⟩:=Hc (a:=a) (Fc:=Fc) (Fw:=Fw) (Zr:=Zr) (Zu:=Zu) (Zp:=Zp) (Zs:=Zs) (S:=S6) (iQ (l.map .int)) (iQ (o.map D.str)) (iQ (f.map Rd.d)) (iW w) (iQ (R.map jk)) (iQ (O.map jk)) J (iQ [.lst (f.map Rd.d),.lst (R.map jk),.lst (O.map jk)]) (iN (md m f R O)) n (sub R) (sub O) f.reverse .non none λr u=>List.mem_reverse.mp u;rw[iE,show ui (judge m R f).2 (judge m O f).2 f .non=md m f R O by unfold ui md;cases f.find? (kN (judge m R f).2 (judge m O f).2)<;>rfl]at el;have t:ky (md m f R O)=true/\kR (md m f R O)<=60:=by
  unfold md;cases hf:f.find? (kN (judge m R f).2 (judge m O f).2)with
  |none=>exact⟨rfl,by decide⟩
  |some r=>have hm:=List.mem_of_find?_eq_some hf;exact⟨by show(PyData.strOk r.m&&(true&&true))=true;rw[(n.ok r hm).2];rfl,by show 1<=60;decide⟩
 let q:D:=D.lst (f.map Rd.d)
 let p:D:=D.lst (R.map jk)
 let s:D:=D.lst (O.map jk)
 let sA:D:=D.lst ((judge m R f).2.map Rd.d)
 let sB:D:=D.lst ((judge m O f).2.map Rd.d)
 refine⟨S9,?_⟩;unfold Bh;show i6 (iV (jd 1 _) _ [iQ<|l.map .int,none,none,none,none,none,none,none,none,none,none,none,none] [.mk])=_;rw[jx<|jS e1<|ai rfl];rw[jx<|jS (lh (i7 (i0 (d:=.lst<|l.map .int) rfl)<|i7 (i0 (d:=.int 10) rfl)<|i7 (i0 (d:=.int 100) rfl)<|i7 (i0 (d:=.lst<|o.map D.str) rfl) jN) er)<|ai rfl];rw[jx<|jS (i0 (d:=.int w)<|by show Fc [.lst<|l.map .int,.int (3:Nat)]=_;rw[H.c l 3,N])<|ai rfl]
 rw[jx<|jS (lh (i7 (i0 (d:=.lst<|l.map .int) rfl)<|i7 (i0 (d:=.int (4:Nat)) rfl)<|i7 (i0 (d:=.int (p4:Nat))<|by show jH (.int w) (.int 4)=_;rw[m9<|by decide,T])<|i7 (i0 (d:=.lst<|o.map D.str) rfl) jN) eu)<|ai rfl]
 rw[jx<|jS (lh (i7 (i0 (d:=.lst<|l.map .int) rfl)<|i7 (i0 (d:=.int (7:Nat)) rfl)<|i7 (i0 (d:=.int (p5:Nat))<|by show((j7 (.int w)<|.int 4).bind λx=>jH x<|.int 4)=_;rw[rV (by decide)<|by decide];show jH (.int<|w/4) (.int 4)=_;rw[m9<|by decide,Q])<|i7 (i0 (d:=.lst<|o.map D.str) rfl) jN) eo)<|ai rfl]
 show i6 (iV (jE _ _ _) (iV (jE _ _ _) _) [iQ<|l.map .int,iQ<|o.map D.str,iQ<|f.map Rd.d,iW w,iQ<|R.map jk,iQ<|O0.map jk,none,none,none,none,none,none,none] S3)=_;rw[eO];rw[jx<|jS (i0 (d:=.lst [q,p,s]) rfl)<|ai rfl];rw[jx<|jS (lh (i7 (i0 (d:=q) rfl)<|i7 (i0 (d:=p) rfl)<|i7 (i0 (d:=s) rfl) jN) e4)<|ai rfl];rw[lg<|mh (d:=false)<|by show(mL (.lst [q,p,s])<|.lst [q,p,s]).bind tB=_;rw[T6 L M oz];rfl]
 rw[jx<|jS (lh (i7 (i0 (d:=q) rfl)<|i7 (i0 (d:=p) rfl) jN) e5)<|ai rfl];rw[jx<|jS (lh (i7 (i0 (d:=q) rfl)<|i7 (i0 (d:=s) rfl) jN) e6)<|ai rfl];rw[jx<|jS (i0 (d:=.non) rfl)<|ai rfl];show i6 (iV (lX _ _ _) _ [iQ<|l.map .int,iQ<|o.map D.str,iN q,iW w,iN p,iN s,J,iQ [q,p,s],iN<|md m f R O,iN sA,iN sB,iN .non,none] S6)=_;rw[jx<|(u1 (ds:=f.reverse.map Rd.d)<|by show P2.R.ok (f.map Rd.d).reverse=_;rw[List.map_reverse]).trans el]
 rw[lg (mh (d:=false) (by
  exact OZ (d:=md m f R O) (by unfold md;cases f.find? (kN (judge m R f).2 (judge m O f).2)with
   |none=>exact .inl rfl
   |some r=>exact .inr ⟨r,rfl⟩) (ne_self t.1 t.2) rfl rfl))]
 have Y:pY (z2 qq (zZ Zp<|iM (zD<|dV 2)<|iM (zD<|dV 5)<|iM (zD<|dV 4) i4)<|zD<|dV 11) (pY (z2 nP (zZ Zp<|iM (zD<|dV 2)<|iM (zD<|dV 4)<|iM (zD<|dV 4) i4)<|zD<|dC .non)<|z2 nP (zZ Zp<|iM (zD<|jw<|λρ=>(iU ρ).bind jF)<|iM (zD<|dV 4)<|iM (zD<|dV 5) i4)<|zD<|dC .non) [iQ<|l.map .int,iQ<|o.map D.str,iN q,iW w,iN p,iN s,J,iQ [q,p,s],iN<|md m f R O,iN sA,iN sB,iN<|md m f R O,I] S6=.ok (.d<|.bl true) S9:=by unfold pY;rw[lH (lh (i7 (i0 (d:=q) rfl)<|i7 (i0 (d:=s) rfl)<|i7 (i0 (d:=p) rfl) jN) e7) (i0 (d:=md m f R O) rfl)<|eq_self t.1 t.2];show(pY _ _) _ S7=_;unfold pY;rw[lH (lh (i7 (i0 (d:=q) rfl)<|i7 (i0 (d:=p) rfl)<|i7 (i0 (d:=p) rfl) jN) e8) (i0 (d:=.non) rfl) (w:=.bl true) rfl];show(z2 nP _ _) _ S8=_;exact lH (lh (i7 (i0 (d:=.lst []) rfl)<|i7 (i0 (d:=p) rfl)<|i7 (i0 (d:=s) rfl) jN) e9) (i0 (d:=.non) rfl) rfl
 rw[y_ret Y];rfl
end sH
namespace WM
open PySem L2 P2 WP TM T2 PySem.NumText
variable{a:Ad}
def TC(hf:HF Ff){p q:Int}(h:q≠0)(c:Sz 390 q):jM (ym a Ff<|jR 1 [pr p q])=.ok (fr (p.natAbs:Int) q):=by
 unfold ym;show jM (toS (((oO [.int p]).bind λx=>R.ok [x,D.int q]).bind Ff) RT.rt)=_;have e:oO [.int p]=.ok (.int (p.natAbs:Int)):=by unfold oO;dsimp only;first|rfl|(congr 2;split<;>omega)|(congr 1;congr 1;omega)
 rw[e];show jM (toS (Ff [.int (p.natAbs:Int),.int q]) RT.rt)=_;rw[hf _ q h<|zN c<|by decide];rfl
def Tv{p q x y:Int}(h:Sz 190 p)(f:Sz 190 q)(d:Sz 190 x)(c:Sz 190 y):jM (vQ a<|jR 2 [pr p q,pr x y])=.ok (.bl<|decide<|p*y<x*q):=by unfold vQ;show jM (toS ((km (.int p)<|.int y).bind λu=>(km (.int x)<|.int q).bind λv=>mY u v) RT.rt)=_;rw[pK h c,pK d f];rfl
end WM
namespace WM
open PySem L2 P2 WP
def abU{F:ji}{d:List V}{Q:VK}{a:List Int}(p:d.length=1)(j:i9 K al H d [.lst<|a.map D.int])(i:lQ K H)(e:F [.d<|.lst<|a.map .int] [.mk]=.ok (.d<|.bl true) S')(q:∀H',kO K H H'->Q (.bl true) H'):jI 1 K F d H Q E:=by
 refine⟨p,i,λ_=>True,λ_=>none,[.d<|.lst<|a.map .int],[.mk],λ_ _=>trivial,⟨λ_ _ h=>(by cases h),λn c h _ m=>?_,λ_ _ h=>(by cases h),λ_ _ _ h=>(by cases h),λ_ _ _ _ _=>trivial⟩,.ofD (ds:=[.lst<|a.map .int])<|i9.mv (.sub λ_ _=>trivial) j,?_⟩
 ·cases n with
  |zero=>cases h;exact absurd rfl m
  |succ n=>simp at h
 ·rw[e];intro t l H' v f k;have s:v=.bl true:=by cases k;rfl
  rw[s];exact q H' ⟨λb o no r=>f.fr b o no r λ_=>nofun,f.hf,λ_=>f.tt⟩
end WM
namespace P2
open PySem PySem.Spec PyProof.Rows Fx L2
structure Wt(P:Program)(w:World)(K:W.Frag)(mg:kd)(base h:Heap):Prop where
 X:K.In h
 G:h.Ns mainGlobals mg
abbrev tU(K:W.Frag)(x:Str)(v:Value):Prop:=W.nsIn K mainGlobals x=some (some v)
abbrev nG(K:W.Frag)(x:Str):Prop:=W.nsIn K mainGlobals x=some none
abbrev Aa(K:W.Frag)(C:Addr)(x:Str)(b:String):Prop:=W.findIn K (.ref C) x=some (some<|.builtin b)
abbrev Ab(K:W.Frag)(C:Addr)(x:Str):Prop:=W.findIn K (.ref C) x=some none
def jX(K:W.Frag)(x:Str)(st:Stmt):Prop:=∃f a,jZ K x x st f a/\tU K x (.ref f)
def nY(K:W.Frag)(C:Addr)(x a:Str)(st:Stmt):Prop:=∃f c,oI K x a st .none f c/\W.findIn K (.ref C) x=some (some<|.ref f)/\W.isFn K (.ref f)=true
variable{P:Program}{w:World}{K:W.Frag}{z:kd}{i h:Heap}{x r:Str}{q:Stmt}{C:Addr}{k:Nat}{y:List Str}{A:Sp}
def Wt.g{v:Value}(Y:Wt P w K z i h)(e:tU K x v):z x=some v:=W.mg_of Y.X Y.G e
def Wt.n(Y:Wt P w K z i h)(e:nG K x):z x=none:=W.mg_none_of Y.X Y.G e
def Gu{dV:Value}(m:y.length=1)(b:∀(kV a j:Value) (l:Option Addr) (c ct:Value) (f:Value),bindArgs (W.fnOf x r (kE q) (ko q) (jo q) dV kV a j l c ct) ⟨[f],[]⟩=pure (y.zip [f]))(kV a j:Value)(l:Option Addr)(c ct:Value)(d:List Value)(h:d.length=y.length):bindArgs (W.fnOf x r (kE q) (ko q) (jo q) dV kV a j l c ct) ⟨d,[]⟩=pure (y.zip d):=by
 rw[m]at h;cases d with
 |nil=>cases h
 |cons f d=>
  cases d with
  |nil=>exact b kV a j l c ct f
  |cons u d=>simp at h
def AF{dV:Value}(n:y.length=2)(b:∀(kV c l:Value) (m:Option Addr) (d ct:Value) (j f:Value),bindArgs (W.fnOf x r (kE q) (ko q) (jo q) dV kV c l m d ct) ⟨[j,f],[]⟩=pure (y.zip [j,f]))(kV c l:Value)(m:Option Addr)(d ct:Value)(a:List Value)(h:a.length=y.length):bindArgs (W.fnOf x r (kE q) (ko q) (jo q) dV kV c l m d ct) ⟨a,[]⟩=pure (y.zip a):=by
 rw[n]at h;cases a with
 |nil=>cases h
 |cons j a=>
  cases a with
  |nil=>cases h
  |cons f a=>
   cases a with
   |nil=>exact b kV c l m d ct j f
   |cons u a=>simp at h
def Gw{dV:Value}(o:y.length=3)(b:∀(kV c m:Value) (n:Option Addr) (d ct:Value) (l j f:Value),bindArgs (W.fnOf x r (kE q) (ko q) (jo q) dV kV c m n d ct) ⟨[l,j,f],[]⟩=pure (y.zip [l,j,f]))(kV c m:Value)(n:Option Addr)(d ct:Value)(a:List Value)(h:a.length=y.length):bindArgs (W.fnOf x r (kE q) (ko q) (jo q) dV kV c m n d ct) ⟨a,[]⟩=pure (y.zip a):=by
 rw[o]at h;cases a with
 |nil=>cases h
 |cons l a=>
  cases a with
  |nil=>cases h
  |cons j a=>
   cases a with
   |nil=>cases h
   |cons f a=>
    cases a with
    |nil=>exact b kV c m n d ct l j f
    |cons u a=>simp at h
def Nz{dV:Value}(p:y.length=4)(b:∀(kV c n:Value) (o:Option Addr) (d ct:Value) (m l j f:Value),bindArgs (W.fnOf x r (kE q) (ko q) (jo q) dV kV c n o d ct) ⟨[m,l,j,f],[]⟩=pure (y.zip [m,l,j,f]))(kV c n:Value)(o:Option Addr)(d ct:Value)(a:List Value)(h:a.length=y.length):bindArgs (W.fnOf x r (kE q) (ko q) (jo q) dV kV c n o d ct) ⟨a,[]⟩=pure (y.zip a):=by
 rw[p]at h;cases a with
 |nil=>cases h
 |cons m a=>
  cases a with
  |nil=>cases h
  |cons l a=>
   cases a with
   |nil=>cases h
   |cons j a=>
    cases a with
    |nil=>cases h
    |cons f a=>
     cases a with
     |nil=>exact b kV c n o d ct m l j f
     |cons u a=>simp at h
def jX.mk{f:Addr}{p:Value}{o s:Option Addr}{j:Array<|Option Value}{kV m n d ct:Value}(a:W.nsIn K mainGlobals x=some (some<|.ref f):=by k_is)
    (l:K.lookup f=some ⟨p,o,.func<|W.fnOf x x (kE q) (ko q) (jo q) .none kV m n s d ct,j⟩:=by k_is)(c:W.codeIn K d x=true:=by k_is)(k:W.keepIn K (.ref f)=true:=by k_is):jX K x q:=⟨f,_,HE l c k,a⟩
def nY.mk{f:Addr}{s:Value}{p t:Option Addr}{j:Array<|Option Value}{kV m o d ct:Value}(a:W.findIn K (.ref C) x=some (some<|.ref f):=by k_is)(n:W.isFn K (.ref f)=true:=by k_is)
    (l:K.lookup f=some ⟨s,p,.func<|W.fnOf x r (kE q) (ko q) (jo q) .none kV m o t d ct,j⟩:=by k_is)(c:W.codeIn K d r=true:=by k_is)(k:W.keepIn K (.ref f)=true:=by k_is):nY K C x r q:=⟨f,_,PN l c k,a,n⟩
def jX.get(p:jX K x q)(Y:Wt P w K z i h)(b:∀(kV j m:Value) (n:Option Addr) (l ct:Value) (d:List Value),d.length=y.length->bindArgs (W.fnOf x x (kE q) (ko q) (jo q) .none kV j m n l ct) ⟨d,[]⟩=pure (y.zip d)):
    ∃f c,jZ K x x q f c/\Binds K c y []/\W.keepIn K (.ref f)=true/\z x=some (.ref f):=let⟨f,c,F,a⟩:=p;⟨f,c,F,F.binds b,F.kp,Y.g a⟩
def jX.has(p:jX K x q)(Y:Wt P w K z i h)(o:∀f a,jZ K x x q f a->jL P w K z i k f a y A)
    (b:∀(kV d l:Value) (n:Option Addr) (j ct:Value) (c:List Value),c.length=y.length->bindArgs (W.fnOf x x (kE q) (ko q) (jo q) .none kV d l n j ct) ⟨c,[]⟩=pure (y.zip c)):
    jD P w K z i k x y A:=let⟨f,a,F,b,k,m⟩:=p.get Y b;⟨f,a,o f a F,b,k,m⟩
def nY.has(p:nY K C x r q)(Y:Wt P w K z i h)(o:∀f c,oI K x r q .none f c->jL P w K z i k f c y A)
    (b:∀(kV j m:Value) (s:Option Addr) (l ct:Value) (d:List Value),d.length=y.length->bindArgs (W.fnOf x r (kE q) (ko q) (jo q) .none kV j m s l ct) ⟨d,[]⟩=pure (y.zip d)):
    pA P w K z i k C x y [] A:=let⟨f,c,F,a,n⟩:=p;⟨f,c,[],[],o f c F,F.binds b,.nil,λ_ _=>.nil,⟨a,n,F.kp⟩⟩
def nY.Qn(p:nY K C "__init__" r q)(Y:Wt P w K z i h)(m:W.makesIn K C=true)(kp:W.keepIn K (.ref C)=true)(o:∀f c,oI K "__init__" r q .none f c->jL P w K z i k f c y A)
    (b:∀(kV j s:Value) (t:Option Addr) (l ct:Value) (d:List Value),d.length=y.length->bindArgs (W.fnOf "__init__" r (kE q) (ko q) (jo q) .none kV j s t l ct) ⟨d,[]⟩=pure (y.zip d)):
    qg P w K z i k C y A:=let⟨f,c,F,a,n⟩:=p;⟨f,c,o f c F,F.binds b,⟨m,a,n,kp⟩⟩
def jX.rG(p:jX K x q)(Y:Wt P w K z i h)(o:∀f j,jZ K x x q f j->jL P w K z i k f j y A)
    (m:y.length=1:=by rfl)(b:∀(kV a l:Value) (n:Option Addr) (c ct:Value) (d:Value),bindArgs (W.fnOf x x (kE q) (ko q) (jo q) .none kV a l n c ct) ⟨[d],[]⟩=pure (y.zip [d]):=by intros;rfl):jD P w K z i k x y A:=p.has Y o (Gu m b)
def jX.PZ(p:jX K x q)(Y:Wt P w K z i h)(y:List Str)
    (m:y.length=1:=by rfl)(b:∀(kV a l:Value) (n:Option Addr) (c ct:Value) (d:Value),bindArgs (W.fnOf x x (kE q) (ko q) (jo q) .none kV a l n c ct) ⟨[d],[]⟩=pure (y.zip [d]):=by intros;rfl):∃f j,jZ K x x q f j/\Binds K j y []/\W.keepIn K (.ref f)=true/\z x=some (.ref f):=p.get Y (Gu m b)
def jX.mX(p:jX K x q)(Y:Wt P w K z i h)(o:∀f l,jZ K x x q f l->jL P w K z i k f l y A)
    (n:y.length=2:=by rfl)(b:∀(kV a m:Value) (s:Option Addr) (c ct:Value) (j d:Value),bindArgs (W.fnOf x x (kE q) (ko q) (jo q) .none kV a m s c ct) ⟨[j,d],[]⟩=pure (y.zip [j,d]):=by intros;rfl):jD P w K z i k x y A:=p.has Y o (AF n b)
def jX.HN(p:jX K x q)(Y:Wt P w K z i h)(y:List Str)
    (n:y.length=2:=by rfl)(b:∀(kV a m:Value) (o:Option Addr) (c ct:Value) (j d:Value),bindArgs (W.fnOf x x (kE q) (ko q) (jo q) .none kV a m o c ct) ⟨[j,d],[]⟩=pure (y.zip [j,d]):=by intros;rfl):∃f l,jZ K x x q f l/\Binds K l y []/\W.keepIn K (.ref f)=true/\z x=some (.ref f):=p.get Y (AF n b)
def nY.Qo(p:nY K C "__init__" r q)(Y:Wt P w K z i h)(m:W.makesIn K C=true)(kp:W.keepIn K (.ref C)=true)(o:∀f l,oI K "__init__" r q .none f l->jL P w K z i k f l y A)
    (s:y.length=2:=by rfl)(b:∀(kV a n:Value) (t:Option Addr) (c ct:Value) (j d:Value),bindArgs (W.fnOf "__init__" r (kE q) (ko q) (jo q) .none kV a n t c ct) ⟨[j,d],[]⟩=pure (y.zip [j,d]):=by intros;rfl):qg P w K z i k C y A:=p.Qn Y m kp o (AF s b)
def jX.vT(p:jX K x q)(Y:Wt P w K z i h)(o:∀f m,jZ K x x q f m->jL P w K z i k f m y A)
    (s:y.length=3:=by rfl)(b:∀(kV a n:Value) (t:Option Addr) (c ct:Value) (l j d:Value),bindArgs (W.fnOf x x (kE q) (ko q) (jo q) .none kV a n t c ct) ⟨[l,j,d],[]⟩=pure (y.zip [l,j,d]):=by intros;rfl):jD P w K z i k x y A:=p.has Y o (Gw s b)
def nY.vT(p:nY K C x r q)(Y:Wt P w K z i h)(o:∀f m,oI K x r q .none f m->jL P w K z i k f m y A)
    (s:y.length=3:=by rfl)(b:∀(kV a n:Value) (t:Option Addr) (c ct:Value) (l j d:Value),bindArgs (W.fnOf x r (kE q) (ko q) (jo q) .none kV a n t c ct) ⟨[l,j,d],[]⟩=pure (y.zip [l,j,d]):=by intros;rfl):pA P w K z i k C x y [] A:=p.has Y o (Gw s b)
def jX.HV(p:jX K x q)(Y:Wt P w K z i h)(o:∀f n,jZ K x x q f n->jL P w K z i k f n y A)
    (t:y.length=4:=by rfl)(b:∀(kV a s:Value) (u:Option Addr) (c ct:Value) (m l j d:Value),bindArgs (W.fnOf x x (kE q) (ko q) (jo q) .none kV a s u c ct) ⟨[m,l,j,d],[]⟩=pure (y.zip [m,l,j,d]):=by intros;rfl):jD P w K z i k x y A:=p.has Y o (Nz t b)
def _root_.L2.pz.u{j:Nat}(G:jD P w K z i j x y A)(h:j<=k:=by first|decide|omega):jD P w K z i k x y A:=pz.up G h
def pA.u{j:Nat}{a:List D}(G:pA P w K z i j C x y a A)(h:j<=k:=by first|decide|omega):pA P w K z i k C x y a A:=G.up h
def qg.u{j:Nat}(G:qg P w K z i j C y A)(h:j<=k:=by first|decide|omega):qg P w K z i k C y A:=G.up h
end P2
namespace sH
open PySem L2 P2 WP WM TM T2 PySem.NumText
abbrev fo(x q:Str)(st:Stmt)(dV kV doc pm:Value)(an:Option Addr)(cdv ct:Value):FuncData:=PySem.W.fnOf x q (kE st) (ko st) (jo st) dV kV doc pm an cdv ct
def Ed(K:PySem.W.Frag):Sp:=λc H Q E=>∃(al:Addr->Prop) (ns:List Int),c.length=1/\(∀a,H a=none->al a)/\ns.length<=63/\i9 K al H c [.lst<|ns.map D.int]/\lQ K H/\∀H',kO K H H'->Q (.bl true) H'
theorem C7{K:PySem.W.Frag}{al:Addr->Prop}{H:Hp}:∀a:List Int,i9 K al H (a.map V.int) (a.map D.int)
 |[]=>.nil
 |_::a=>.cons (.int _) (C7 a)
def aaZ{K:PySem.W.Frag}{H:Hp}{a:Addr}{c:List Int}(f:c.length<=63)(d:lQ K H)(r:Rep K (λ_=>True) H (.ref a)<|.lst<|c.map D.int):Ed K [.ref a] H (λv _=>v=.bl true) λ_ _ _=>False:=
 ⟨λ_=>True,c,rfl,λ_ _=>trivial,f,.cons r .nil,d,λ_ _=>rfl⟩
def isF(K:PySem.W.Frag)(a:List Addr)(c:Addr)(u:Value):Option Bool:=if c∈a then PySem.W.kitOne K (.ref c) u else none
def Rv{K:PySem.W.Frag}{a:List Addr}(h:∀c∈a,xw K c):xg K (isF K a):=λc u b e=>by
 unfold isF at e;split at e;·rename_i z;exact⟨h c z,e⟩
 ·cases e
variable(a:Ad)
abbrev E5:ji:=λzs S=>i6 (yb a S.length (jr 4 zs) S)
abbrev MP:ji:=λzs S=>i6 (yc a S.length (jr 6 zs) S)
abbrev E6:ji:=λzs S=>i6 (vH a (MP a) S.length (jr 6 zs) S)
abbrev MQ:je:=λds=>jM (vI a<|jR 3 ds)
abbrev MR:je:=λds=>jM (vM a<|jR 1 ds)
abbrev qi:je:=λds=>jM (vJ a (MR a) (MQ a)<|jR 3 ds)
abbrev Fn:je:=λds=>jM (vO a (qi a)<|jR 2 ds)
abbrev Fh:je:=λds=>jM (vN a (qi a)<|jR 2 ds)
abbrev Fo:je:=λds=>jM (vP a (qi a)<|jR 2 ds)
abbrev Fu:je:=λds=>jM (vQ a<|jR 2 ds)
abbrev E9:je:=λds=>jM (Bg a<|jR 1 ds)
abbrev FI(Fs:je):je:=λds=>jM (rD a (E9 a) Fs<|jR 3 ds)
abbrev Fj:je:=rC (FI a) 8
abbrev sv:je:=λds=>jM (yd a (Fj a)<|jR 6 ds)
abbrev MS:ji:=λzs S=>i6 (yi a (qi a) S.length (jr 3 zs) S)
abbrev FA:je:=λds=>jM (ym a (qi a)<|jR 1 ds)
abbrev FJ(Fs:ji):ji:=λzs S=>i6 (oi a (qi a) (Fn a) (Fh a) (Fo a) (FA a) (MS a) Fs S.length (jr 4 zs) S)
abbrev MU:ji:=nM (FJ a) 8
abbrev FH(Fs:ji):ji:=λzs S=>i6 (vL a (Fu a) (MU a) Fs S.length (jr 3 zs) S)
abbrev E8:ji:=nM (FH a) 8
abbrev E7:ji:=λzs S=>i6 (ye a S.length (jr 1 zs) S)
abbrev Fg:ji:=λzs S=>i6 (yh a S.length (jr 2 zs) S)
abbrev Fb:ji:=λzs S=>i6 (yf a (qi a) (sv a) (E5 a) (E6 a) (E7 a) (E8 a) (Fg a) S.length (jr 10 zs) S)
abbrev An:ji:=λzs S=>i6 (yk a (Fb a) S.length (jr 2 zs) S)
abbrev Fe:ji:=λzs S=>i6 (yg a S.length (jr 1 zs) S)
abbrev MT:ji:=λzs S=>i6 (yj a (An a) (Fe a) S.length (jr 7 zs) S)
abbrev xl:je:=λds=>jM (yo a<|jR 2 ds)
abbrev vg:je:=λds=>jM (yr a<|jR 4 ds)
abbrev M3:je:=λds=>jM (vR a<|jR 7 ds)
abbrev sy:ji:=λzs S=>i6 (yt a S.length (jr 3 zs) S)
abbrev M0:ji:=λzs S=>i6 (yy a (vg a) (sy a) S.length (jr 2 zs) S)
abbrev MW:ji:=λzs S=>i6 (yu a (xl a) (sy a) (M0 a) S.length (jr 12 zs) S)
abbrev MZ:ji:=λzs S=>i6 (yx a (vg a) (sy a) S.length (jr 4 zs) S)
abbrev MY:ji:=λzs S=>i6 (yw a (vg a) (sy a) (MZ a) S.length (jr 5 zs) S)
abbrev MV:ji:=λzs S=>i6 (yp a (vg a) (sy a) (MY a) S.length (jr 4 zs) S)
abbrev FC:ji:=λzs S=>i6 (yq a (sy a) (MV a) S.length (jr 4 zs) S)
abbrev MX:ji:=λzs S=>i6 (yv a (xl a) (FC a) S.length (jr 8 zs) S)
def tf:HF (qi a):=λt b f h=>SU (λi=>TB (a:=a) i) (λx y d c h=>SW (a:=a) x y d c h) t b f h
def F6:Ar a (qi a) (Fn a) (Fh a) (Fo a) (FA a) (Fu a) where
 f:=tf a
 p:=λk j i d c l=>Tn (a:=a) (tf a) k j i d c l
 m:=λk j i d c l=>Tf (a:=a) (tf a) k j i d c l
 t:=λk j i d c l=>Tu (a:=a) (tf a) k j i d c l
 a:=λh c=>TC (a:=a) (tf a) h c
 u:=λk j i d=>Tv (a:=a) k j i d
def VN(t:T7)(c:t.dep<8)(d:t.parts.length<64):Fj a [t.d]=.ok (.lst<|t.parts.map T7.d):=
 Jn (a:=a) (Fi:=E9 a) (λt=>Ta t) 8 t c (by omega)
def Nn(t:T7)(d:t.dep<8)(c:t.parts.length<64):∃A,vd (sv a) t A:=SN (VN a t d c) c
def RO:Jd a (qi a) (sv a) (E5 a) (E6 a) (E7 a) (E8 a) (Fg a) where
 f:=tf a
 i:=λS c t=>SY S c t _
 s:=λg w r A d=>Tq (λS' g r k=>Th g r k _) g w r A d _
 o:=λn m l j C=>SS n m l j C _
 h:=λp E R=>SX (F6 a) E 8 (λq z d=>TH (F6 a) E p (λx y v u=>Tg (tf a) p v u _) R.here 8 q z d) 8 R.w R.dep R.dep R.asks
 k:=λn m l j=>m_keys n m l j _
def RQ{S:i3}{R:List lC}{c:List WM.Rd}(f:qG R)(d:sE c)(i:S[0]?=some .mk)(h:mm S):∃S',Gr S S'/\Fb a [.d<|.lst<|c.map WM.Rd.d,.d<|.lst<|R.map jk] S=.ok (.d<|.tup [.lst (judge (rm<|sv a) R c).1,.lst<|(judge (rm<|sv a) R c).2.map WM.Rd.d]) S':=
 Tb (RO a) R c (aad (Nn a) f) d.1 d.2 i h
def uI:Pk (sy a):=λc m x b f d=>Tj c m x b f d _
def yI:Lw (vg a):=λt b d c=>Te t b d c
def AN:Cl (xl a):=λc k=>SO c k
def Oi{c:List Str}(W:W3 c):Gv (FC a) c Cw 4 19:=SR (uI a) (SQ (uI a) (yI a)<|Ts (uI a) (yI a)<|Tt (uI a) (yI a) W.ok<|by rw[W.len];decide)
def HG:Fy (rm<|sv a) (An a) (Fe a) where
 s:=λd c i h=>let⟨S',g,e⟩:=RQ a d c i h;⟨S',g,Tr e⟩
 k:=λf=>Tc f _
def PQ:Fz (rm<|sv a) (xl a) (M3 a) (MW a) (MX a) (MT a) (An a) where
 c:=AN a
 w:=λc=>TF c
 r:=λW i l f k j h d=>To (uI a) (Tz (uI a)<|yI a) (AN a) W i l f k j h d
 u:=λW i f k j h d=>Tp (Oi a W) (AN a) i f k j h d
 p:=λn o m h d=>Ti (HG a) n o m h d _
 s:=(HG a).s
def all_mk{l:PySem.W.OpenLaw}{w:World}{K:PySem.W.Frag}{h:Heap}{mg:kd}{fa Bc j d i:Addr}(X:K.In h)(G:h.Ns mainGlobals mg)(hfa:mg "law"=some (.ref fa))
    {UA F2:Option Addr}{aaN:Array<|Option Value}{Uz Iz GR Ke AM GP:Value}
    (p4:jX K "common_divisor" Dl)
    (p5:jX K "is_whole" Dr)
    (p6:jX K "fraction" Dn)
    (p7:jX K "plus" Dz)
    (p8:jX K "minus" Dv)
    (p9:jX K "times" DC)
    (Cq:jX K "under" DF)
    (Cr:jX K "inner_parts" Dq)
    (Cs:jX K "parts_of" Dy)
    (Ct:jX K "asked_by" Dj)
    (Cu:jX K "minutes_between" Dw)
    (Cv:jX K "without_sign" DH)
    (Cy:jX K "worth" DJ)
    (Cz:jX K "holds" Dp)
    (CA:jX K "found_of" Dm)
    (CB:jX K "keys_of" Du)
    (CC:jX K "judged" Ds)
    (CD:jX K "standing" DB)
    (CF:jX K "keys_in" Dt)
    (CG:jX K "parted" Dx)
    (CH:jX K "_law_cell_at" D1)
    (CI:jX K "_law_low" D4)
    (CJ:jX K "_law_word" Eb)
    (CK:jX K "_law_pick" D5)
    (CL:jX K "_law_value" Ea)
    (CM:jX K "_law_row" D6)
    (CN:jX K "_law_term" D9)
    (CO:jX K "_law_sum" D8)
    (CP:jX K "_law_compare" D2)
    (CQ:jX K "_law_condition" D3)
    (CS:jX K "_law_rules" D7)
    (a35:tU K "law"<|.ref Bc)
    (BJ:K.lookup Bc=some ⟨Uz,UA,.func<|fo "law" "law" tG .none Iz GR Ke F2 AM GP,aaN⟩)(AI:PySem.W.codeIn K AM "law"=true)(BF:PySem.W.keepIn K (.ref Bc)=true)
    (n:tU K "WeatherError"<|.ref j)
    (C:tU K "NoFraction"<|.ref d)
    (Z:tU K "Sight"<|.ref i)
    (V:PySem.W.plainGet K i Str.empty=true)(U:PySem.W.hasDictIn K i=true)(R:PySem.W.plainOver K i=true)(O:Aa K i "__setattr__" "object.__setattr__")(N:PySem.W.makesIn K i=true)(M:PySem.W.keepIn K (.ref i)=true)
    (r:Ab K i "masts")
    (m:Ab K i "places")
    (p1:nY K i "__init__" "Sight.__init__" Dg)
    (p2:nY K i "one_seen" "Sight.one_seen" Dh)
    (p3:nY K i "seen_from" "Sight.seen_from" Di)
    (z:PySem.W.excIn K d [.type "ValueError",.type "Exception",.type "BaseException",.type "object"] "ValueError.__new__"=true)(u:PySem.W.keepIn K (.ref d)=true)(y:Aa K d "__getattribute__" "BaseException.__getattribute__")(t:Ab K d "__getattr__")
    (A:Aa K d "__class__" "object.__class__")
    (hnt:qX K=true)
    (Ew:nG K "abs")(Ex:nG K "bool")(Ey:nG K "dict")(Ez:nG K "int")(D:nG K "isinstance")(EA:nG K "len")(EB:nG K "list")(EC:nG K "max")(EE:nG K "range")(L:nG K "reversed")(EF:nG K "set")(Y:nG K "sorted")(EG:nG K "tuple"):
    ∃fd:FuncData,(∀(s:Shared) (v:Value),BindsTo s fd ⟨[v],[]⟩ [("_law_script",v)])/\∀base:Heap,K.In base->base.Ns mainGlobals mg->BM mg base->mG l.prog w K mg base (kB l.prog w) 24 fa fd ["_law_script"] (Ed K):=by
 have e:=hfa.symm.trans (PySem.W.mg_of X G a35);cases e;have J:FO K d:=⟨z,u,y,t,A⟩;have IS:xg K (isF K []):=Rv λc hc=>by simp only[aD,cm,fA]at hc
 have W:Wt l.prog w K mg h h:=⟨X,G⟩;obtain⟨a,ea⟩:∃a:Ad,a={WeatherError:=j,NoFraction:=d,Sight:=i,om:=isF K []}:=⟨_,rfl⟩;have T:Tx K mg a:=by subst ea;exact {vz:=W.n Ew,Ge:=W.n Ex,Az:=W.n Ey,Gf:=W.n Ez,xG:=W.n D,rq:=W.n EA,xH:=W.n EB,Gg:=W.n EC,vA:=W.n EE,Gh:=W.n L,vB:=W.n EF,ud:=W.n Y,Gi:=W.n EG,NI:=W.g n,Gy:=W.g C,Gz:=W.g Z,LY:=J,qS:=⟨V,U,R,O⟩,yN:=r,yO:=m,nt:=hnt,yF:=IS}
 have ei:a.om=isF K []:=by rw[ea]
 have p:a.WeatherError=j:=by rw[ea]
 have I:a.NoFraction=d:=by rw[ea]
 have O5:a.Sight=i:=by rw[ea]
 clear ea;subst p;subst I;subst O5;have Mq:=HE (st:=tG) BJ AI BF;refine⟨PySem.W.fnOf "law" "law" (kE tG) (ko tG) (jo tG) .none Iz GR Ke F2 AM GP,λs v=>.of_eq rfl,λbase _ _ bm=>?_⟩;have W:Wt l.prog w K mg base h:=⟨X,G⟩;have MJ:=p1.Qo W N M λ_ _ F=>UH T F;have MK:=p2.vT W λ_ _ F=>UI T F;have ML:=p3.vT W λ_ _ F=>UJ T F MK.u;have H4:=p4.mX W λ_ _ F=>UL T F;have H5:=p5.rG W λ_ _ F=>UR T F;have H6:=p6.mX W λ_ _ F=>UO T F H5.u H4.u;have H7:=p7.mX W λ_ _ F=>U1 T F H6.u;have H8:=p8.mX W λ_ _ F=>UX T F H6.u;have H9:=p9.mX W λ_ _ F=>U4 T F H6.u;have Ae:=Cq.mX W λ_ _ F=>U5 T F;have Af:=Cr.rG W λ_ _ F=>UQ T F;obtain⟨Po,_,Mn,F9,Iv,Jk⟩:=Cs.PZ W ["part"];have Uv:=KG (P:=l.prog) (w:=w) (K:=K) (mg:=mg) (base:=base) (f:=Po) (x:="parts_of") (k0:=1) (st:=1) (F0:=FI a) (hn:=rfl) (λo=>⟨_,_,o,F9,Iv,Jk⟩) (λFs k hk Hh=>by exact U0 (k:=k+0) T Mn Af.u Hh.u) 8
 have xb:pz _ _ _ _ _ _ _ _ _ _:=⟨_,_,Uv,F9,Iv,Jk⟩;have Mr:=Ct.rG W λ_ _ F=>UK T F xb.u;have Ms:=Cu.vT W λ_ _ F=>UY T F H6.u;have Mt:=Cv.rG W λ_ _ F=>U6 T F H6.u;obtain⟨Pp,_,Mo,Ga,Iw,Jl⟩:=Cy.HN W ["term","found"];have Uw:=C4 (P:=l.prog) (w:=w) (K:=K) (mg:=mg) (base:=base) (f:=Pp) (x:="worth") (k0:=4) (st:=1) (F0:=FJ a) (hn:=rfl) (λo=>⟨_,_,o,Ga,Iw,Jl⟩) (λFs k hk Hh=>by exact U7 (k:=k+0) T Mo H6.u H7.u H8.u H9.u Mt.u Ms.u Hh.u) 8
 have Mu:pz _ _ _ _ _ _ _ _ _ _:=⟨_,_,Uw,Ga,Iw,Jl⟩;obtain⟨Pq,_,Mp,Gb,Iy,Jm⟩:=Cz.HN W ["condition","found"];have Ux:=C4 (P:=l.prog) (w:=w) (K:=K) (mg:=mg) (base:=base) (f:=Pq) (x:="holds") (k0:=12) (st:=1) (F0:=FH a) (hn:=rfl) (λo=>⟨_,_,o,Gb,Iy,Jm⟩) (λFs k hk Hh=>by exact UP (k:=k+0) T Mp Ae.u Mu.u Hh.u) 8
 have Mv:pz _ _ _ _ _ _ _ _ _ _:=⟨_,_,Ux,Gb,Iy,Jm⟩;have Mw:=CA.rG W λ_ _ F=>UN T F;have Mx:=CB.rG W λ_ _ F=>UU T F;have My:=CC.mX W λ_ _ F=>US T F H6.u Mr.u Mw.u Mv.u Mx.u MJ.u ML.u;have E3:=CD.mX W λ_ _ F=>U3 T F My.u;have Mz:=CF.rG W λ_ _ F=>UT T F;have MA:=CG.vT W λ_ _ F=>UZ T F E3.u Mz.u;have Ag:=CH.mX W λ_ _ F=>U8 T F;have xc:=CI.mX W λ_ _ F=>Vb T F;have MB:=CJ.mX W λ_ _ F=>Vi T F;have tR:=CK.mX W λ_ _ F=>Vc T F;have MC:=CL.rG W λ_ _ F=>Vh T F xc.u tR.u;have MD:=CM.HV W λ_ _ F=>Vd T F Ag.u tR.u MC.u;have ME:=CN.mX W λ_ _ F=>Vg T F xc.u tR.u;have MF:=CO.mX W λ_ _ F=>Vf T F xc.u tR.u ME.u;have MG:=CP.mX W λ_ _ F=>U9 T F xc.u tR.u MF.u;have MH:=CQ.mX W λ_ _ F=>Va T F tR.u MG.u;have MI:=CS.HV W λ_ _ F=>Ve T F Ag.u MH.u;have Uy:=UW (P:=l.prog) (w:=w) (base:=base) T Mq Ag.u MB.u MD.u MI.u MA.u E3.u;refine Uy.imp λvs H Q E q=>?_;obtain⟨al,ns,hl,fr,hn,rv,tt,q⟩:=q;obtain⟨S',e⟩:=Td (PQ a) ns hn 1;exact abU hl rv tt e q
def walk{l:PySem.W.OpenLaw}{q:Program}{m:List Str}{XP:(kd)->Heap->Prop}{J:World->Heap->Prop}{d:DefRec}{K:Params->PySem.W.Frag}(M:l.most=some 63)(A:d.params.defaults=[])
    (Q:∀(w:World) (h:Heap),J w h->(K w.params).In h)(hT:∀w:World,(mD<|K w.params).all (λt=>((PyProof.Rows.recsOf q).find? λe=>e.name==t.1).isSome)=true)(hN:∀w:World,PySem.W.noTabs (K w.params)=true)
    (F:∀(w:World) (k:kd) (r:Addr) (h:Heap),(K w.params).In h->h.Ns mainGlobals k->k d.name=some (.ref r)->
      ∃C:FuncData,(∀(s:Shared) (u:Value),BindsTo s C ⟨[u],[]⟩ [("_law_script",u)])/\∀c:Heap,(K w.params).In c->c.Ns mainGlobals k->BM k c->mG l.prog w (K w.params) k c (kB l.prog w) 24 r C ["_law_script"] (Ed (K w.params))):
    PySem.W.WalkO q m XP J l.row.toRowW d [] (λf x=>PySem.call f x):=by
 refine ER.Nv M A λw I D k mb r o Z cd U a x ns G Y ho hd O y i p j N=>?_;have v:=Q w _ Y;obtain⟨C,P,T⟩:=F w k r _ v G.T.g y;refine Su v G.T.g G.T.b G.T.builtins G.T.nolimit N i p (aS j<|by decide) ⟨rfl,by decide,by decide⟩ (abM G.T v<|hT w) (hN w) G.T.bmain T P (λH L R=>aaZ j L ?_) λH e V h=>?_
 ·rcases R with h|⟨o,vV,n,h1,h2,h3,h4,h5,h6⟩;·exact .lst (.inl ⟨trivial,h⟩) (C7 _)
  ·have e:=v a o h1;rw[i]at e;cases e;cases h4;exact .lst (.inr ⟨x,_,h1,by simpa using h5,by simpa using h6⟩) (C7 _)
 ·obtain⟨_,_,_,_,_,_,_,_,_,_,_,_,z⟩:=h;exact z
end sH
structure PySem.W.Fast:Prop where
 (tw17310661099075686548 tw6600997622660489306 tw7818560988129355303 tw9070887119317815065 tw11031010743747346638 tw13666439316235187368 tw7133664534188427663 tw9071389969366871862 tw16577910458875267947 tw555508421707314223 tw3665513332485739107 tw15828731230494101235 tw5758896788503175394 tw13346044563069486997 tw1567596171253809763 tw11079478509746722250 tw5824478116010501651 tw850281624579282036 tw6715122992102535893 tw8030323342803604759 tw1198844902065924842 tw1792059646318414896 tw3866858179748371678 tw6641034273213361233 tw1267747094363607536 tw6661044499794613988 tw15026240659523169553 tw17467983262700833550 tw14158641142738130127 tw12206036118169073924 tw12825101895613434052 tw8973090445786410377 tw11539586498704805525 tw14902495191862376530 tw7940861359510622211 tw16817173219614577147 tw2998766817772348645 tw777302776931480291 tw15674037879626258784 tw2939844115014795305 tw5563600394036359566 tw6138073550043491985 tw2894393216164119891 tw2659730974452086954 tw9579868243936658670 tw11923803662299555983 tw17517283240735021528 tw15219125087643367830 tw10014367975453767124 tw16980581720534694693 tw6381377618223192632 tw16583155106131815388 tw3725791123404485507 tw14225244208399162268 tw6073400076095476517 tw9810021171240579994 tw4813336154790572691 tw2878701938113548 tw4423928424321790942 tw14944994948186220498 tw1365386502621211295 tw15189621601310194960 tw2925180042635490640 tw13603292946691161929 tw5306901906589515683 tw14404871391862442517 tw16532539107881017092 tw16863846643031358918 tw12439654480186952266 tw3649499736090828043 tw7933533304838937739 tw9946431354025486793 tw11730110484880531591 tw14232355414817308502 tw13891839721213462620 tw12644495414562376971 tw134486189961466632 tw9817453541567274856 tw5783968441858510912 tw17181523442662948399 tw11463160662494565220 tw7976041309849050059 tw11060206045953631781 tw15926483415469567745 tw6819421705191695207 tw1100196423434132618 tw16970704695135876321 tw7122625566195907855 tw16407552943559854556 tw16007267991250068822 tw1947703798036019637 tw2289107436297975762 tw10835701670683206233 tw521252442607620136 tw1437674198632037034 tw1286303087273208511 tw15986634525813836464 tw5715106268229851128 tw17399376630536476817 tw15803570499736786368 tw9919158317031254596 tw397784192114126531 tw14307263350852734242 tw6534791609678617873 tw14109112198030085930 tw15074919168817367567 tw13588753502107075449 tw15635332159161619722 tw13848180822866208631 tw171097285101410551 tw2258111192944487531 tw1408222672692557644 tw16797016831956250673 tw2412811420850924313 tw8682606355233722636 tw12118704822906627675 tw17198842692206309673 tw7735698796634798963 tw6738707353514831951 tw6254459044202485197 tw7670746599350529928 tw11875365979841558217 tw3514217216941741894 tw5511411441091270345 tw4159204502781936586 tw15876044733987362136 tw2982917274098675116 tw9461677978063073457 tw298535886426531856 tw303035449093142074 tw8208848994524769992 tw4282344955733358055 tw18205551319322507989 tw10815522350176222758 tw17219871322459227956 tw3016132943184521613 tw8044409859391574176 tw17347183388627357970 tw8156550777913893930 tw195400065561300607 tw11684958596624678875 tw10119152600613826088 tw15723008007245841869 tw14475487408719815464 tw12528822656645129551 tw7439797562619732053 tw13096604255308543279 tw17171224972124974656 tw10754826601774428267 tw17691762090124936224 tw12693407551370530724 tw13774452723366900162 tw8720167851912192120 tw125706295891807183 tw328426546706429308 tw2502551827055725220 tw7837608605092458692 tw4347377306362733353 tw6287622283477465811 tw8394272669635243882 tw12894959507426560786 tw10305186310198740006 tw17331952998692265158 tw11577655653682295218 tw6958619784141958910 tw15500641620288976767 tw2055995580951748510 tw3302298884938413974 tw18409814738304611336 tw9810301506448989868 tw15917218014415215868 tw2287017618667349386 tw3279893305418787432 tw6340534110903704418 tw15028859432771353675 tw4381826833266402516 tw4333932661430996379 tw10635510740067571348 tw1348019186286671064 tw11620342659515188654 tw12604158436295301609 tw11547859059574325931 tw7383501457269500380 tw18239569904595563796 tw13849646502251106382 tw5877174025134153057 tw7481913133705248845 tw1380252698319184001 tw18378638081377402144 tw1956408542969626054:True)
open PySem PySem.W PyProof.Rows
set_option maxRecDepth 100000 in
set_option maxHeartbeats 0 in
theorem PySem.Challenge.cw_weather_k71_parted_holds : PySem.Challenge.rw_weather_k71_parted.Holds := by
 w_on;o_law;k_head;(case hw=>w_witness2)
 k_fill
 refine sH.walk (l:=PySem.Challenge.rw_weather_k71_parted) rfl rfl (λw h Y=>by first|exact PySem.W.km_in_of Y|exact PySem.W.kIn_of Y) ?hT ?hN ?F;case hT=>exact λw=>by kernel_rfl
 case hN=>exact λw=>by kernel_rfl
 case F=>
  intro w mg fa h KX G QQ;refine' sH.all_mk KX G QQ ?p4 ?p5 ?p6 ?p7 ?p8 ?p9 ?Cq ?Cr ?Cs ?Ct ?Cu ?Cv ?Cy ?Cz ?CA ?CB ?CC ?CD ?CF ?CG ?CH ?CI ?CJ ?CK ?CL ?CM ?CN ?CO ?CP ?CQ ?CS ?a35 ?BJ ?AI ?BF ?M8 ?M6 ?M7 ?N3 ?N4 ?N5 ?N6 ?N7 ?N8 ?Oe ?Of ?p1 ?p2 ?p3 ?acE ?acU ?acR ?acV ?acD ?hnt ?Ew ?Ex ?Ey ?Ez ?acy ?EA ?EB ?EC ?EE ?acA ?EF ?acC ?EG;case p4|p5|p6|p7|p8|p9|Cq|Cr|Cs|Ct|Cu|Cv|Cy|Cz|CA|CB|CC|CD|CF|CG|CH|CI|CJ|CK|CL|CM|CN|CO|CP|CQ|CS=>exact .mk
  case a35|BJ|AI|BF|M8|M6|M7=>(show _=_;k_is)
  case N3|N4|N5=>kernel_rfl
  case N6=>(show _=_;k_is)
  case N7=>kernel_rfl
  case N8|Oe|Of=>(show _=_;k_is)
  case p1|p2|p3=>exact .mk
  case acE=>k_exc
  case acU|acR|acV|acD=>(show _=_;k_is)
  case hnt=>kernel_rfl
  case Ew|Ex|Ey|Ez|acy|EA|EB|EC|EE|acA|EF|acC|EG=>(show _=_;k_is)
