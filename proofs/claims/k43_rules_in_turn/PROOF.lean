import PyProof.Rows.All
import Wide.All
import OpenK.AllK
import Wide.FinOn
import Lean
import PyProof.EqAt
import PyProof.EqKinds
import PyProof.TupleCall
import PyProof.StationsW
import KE.IntBitsLaws
import PyProof.ExcClass2
import PyProof.ExcInit
import PyProof.InstStoreFacts
import PyProof.ExcArgsOwn
import PyProof.ExcAttrAll.ValueError
import KE.KNestM
import KE.IntTextLaws
import KE.KIsAll
import PyProof.Rows.EqDataRows
import PyProof.StrCalls2
import PyProof.Rows.StrSplitJoin
import KE.KIntText
import PyProof.StrBlockI
import PyProof.StrLawsIn
import PyProof.StrLawsIdx
import KE.KLam
import KE.KRevIter
import KE.KSortTup
import PyProof.Rows.SortWalk
import PyProof.Conv_int_bool
import KE.KDictLaws
import PyProof.AttrMissHeap
import KE.KDictOf
import PyProof.DictWalks
import PyProof.StrLawsChain
import PyProof.StrLawsTight
import PySem.Challenge.RW_weather_k43_rules_in_turn
set_option linter.all false
def ae:=@PySem.wpAny_bind
def af:=@PySem.wpAny_pure
def ag:=@PySem.Heap.get?_push_of_some
def ah:=@Nat.le_refl
def ai:=@List.length_map
def aj:=@List.length_cons
def ao:=@List.getElem?_eq_getElem
def aq:=@Nat.le_of_ble_eq_true
def ar:=@List.length_append
def au:=@List.getElem?_set_ne
def av:=@if_pos
def aw:=@if_neg
def ax:=@Bool.false_ne_true
def ay:=@List.getElem?_append_left
def az:=@List.mem_map
def aA:=@List.getElem?_map
def aB:=@List.getElem?_eq_some_iff
def aC:=@Array.length_toList
def aD:=@List.getElem?_set_self
def aE:=@List.mem_cons
def aF:=@Option.map_eq_some_iff
def aG:=@PySem.Heap.get?_push_size
def aH:=@Nat.lt_of_lt_of_le
def aI:=@decide_eq_false
def aJ:=@Array.getElem?_eq_getElem
def aK:=@List.getElem?_append_right
def aL:=@Option.bind_eq_some_iff
def aM:=@List.mem_singleton
def aN:=@List.size_toArray
def aO:=@decide_eq_true
def aP:=@List.length_set
def aQ:=@List.getD_eq_getElem?_getD
def aR:=@Nat.ne_of_lt
def aS:=@Bool.and_eq_true
def aT:=@List.map_cons
def aU:=@Nat.le_trans
def aV:=@PySem.wpAny_ite_split
def aW:=@List.mem_append
def aX:=@List.map_map
def aY:=@PySem.wpAny_newObj_type
def aZ:=@List.mem_cons_of_mem
def a9:=@PySem.Heap.get?_update_self
def bc:=@Array.getElem?_toList
def bf:=@List.mem_of_getElem?
def bg:=@List.append_nil
def bh:=@Bool.false_eq_true
def bj:=@PySem.Obj.data_mapFields
def bo:=@Int.eq_ofNat_of_zero_le
def bp:=@PySem.wpAny_mono
def bq:=@List.map_append
def br:=@Array.getElem?_eq_some_iff
def bu:=@Int.toNat_natCast
def bw:=@PySem.Heap.SameBut.update
def bx:=@decide_eq_true_eq
def bz:=@List.mem_filterMap
def bA:=@PySem.wpAny_call_entry
def bB:=@List.nodup_cons
def bC:=@PySem.mem_of_lookup
def bD:=@PySem.wpAny_holding
def bE:=@PyProof.Rows.F.plain_set_update_loop
def bF:=@List.mem_cons_self
def bG:=@congrArg
def bH:=@List.mem_append_right
def bI:=@List.getElem?_replicate
def bJ:=@PySem.wpAny_callSpecial?_slot
def bK:=@List.mem_range
def bL:=@if_false
def bM:=@PySem.Heap.get?_update_other
def bN:=@Nat.lt_succ_of_lt
def bO:=@List.append_assoc
def bP:=@PySem.wpAny_Call_Name_kw
def bQ:=@Nat.zero_le
def bR:=@PySem.Obj.isFreed_of_fields
def bS:=@List.getElem_of_mem
def bT:=@List.mem_filter
def bU:=@List.not_mem_nil
def bV:=@Ne.symm
def bW:=@PySem.wpAny_setState_of
def bX:=@PySem.Around.under_plainId
def bY:=@PySem.Heap.size_push
def bZ:=@PySem.wpAny_setField
def b7:=@PySem.codeAny_builtin
def b8:=@Nat.lt_succ_self
def b9:=@List.getElem_mem
def cb:=@of_decide_eq_true
def cc:=@PySem.F.slot_list_append
def cf:=@PySem.F.plainAttrs_list
def cg:=@PyProof.Rows.callWith_builtin1
def cj:=@Classical.byContradiction
def ck:=@PyProof.Rows.F.entry_set_update_loop
def cm:=@List.map_congr_left
def cn:=@PySem.F.slot_dict_valueiterator_next
def cq:=@List.any_eq_false
def cu:=@List.length_singleton
def cw:=@PySem.F.type_list_append
def cx:=@PySem.F.slot_dict_keyiterator_next
def cy:=@Nat.lt_of_le_of_lt
def cz:=@List.length_drop
def cA:=@Nat.le_add_right
def cB:=@List.filter_cons_of_pos
def cC:=@List.filter_cons_of_neg
def cE:=@PyProof.Rows.callWith_type1
def cF:=@Array.getElem?_eq_none
def cG:=@List.take_of_length_le
def cH:=@List.length_replicate
def cI:=@PySem.Calls.spliced_cons
def cJ:=@List.length_take
def cK:=@List.all_eq_true
def cL:=@Int.emod_lt_of_pos
def cM:=@Nat.lt_irrefl
def cO:=@Nat.le_of_lt
def cP:=@Nat.le_succ
def cQ:=@PySem.wpAny_typeNameOfWhole_keyiter
def cR:=@PySem.wpAny_typeNameOfWhole_valiter
def cS:=@decide_eq_false_iff_not
def cU:=@List.find?_cons
def cV:=@List.length_nil
def cW:=@Nat.not_lt_zero
def cX:=@beq_eq_false_iff_ne
def cY:=@Nat.pow_succ
def cZ:=@List.any_cons
def c0:=@PySem.wpAny_fieldsOf
def c5:=@List.drop_eq_getElem_cons
def c6:=@PySem.wpAny_passesOwn
def c7:=@Int.mul_ne_zero
def c8:=@Int.emod_nonneg
def c9:=@PySem.wpAny_truthy_bool
def da:=@Nat.ne_of_gt
def dc:=@PySem.Calls.spliced_nil
def df:=@PySem.Obj.cls_mapFields
def dg:=@PySem.wpAny_dictEntries
def dh:=@PySem.wpAny_attempt
def dj:=@PySem.wpAny_typeNameOf_keyiter
def dm:=@PySem.wpAny_typeNameOf_valiter
def dq:=@List.length_filterMap_le
def dr:=@if_true
def du:=@PySem.wpAny_setEntries_of
def dw:=@PySem.wpAny_getItem_str_slice
def dy:=@List.any_eq_true
def dB:=@PySem.sizeLine_eq
def dD:=@PySem.codeAny_mono
def dE:=@PySem.Calls.callWith_builtin
def dF:=@List.drop_eq_nil_of_le
def dG:=@PySem.tupleKind_room_in1
def dH:=@Bool.or_eq_true
def dI:=@PySem.wpAny_dictEpoch
def dJ:=@PySem.plainId_quiet
def dM:=@PySem.F.typeOf_object_class
def dN:=@PySem.wpAny_loadPart_at
def dO:=@List.length_range
def dP:=@List.mem_append_left
def dQ:=@Array.mem_toList_iff
def dR:=@beq_iff_eq
def dS:=@PySem.wpAny_field
def dU:=@or_false
def dW:=@PySem.codeAny_call_builtin
def dX:=@Array.perm_iff_toList_perm
def dY:=@PySem.F.args_dict_valueiterator_next_1
def dZ:=@PySem.wpAny_typeOf
def d3:=@List.map_nil
def d4:=@Array.toList_inj
def d5:=@Nat.sub_self
def d6:=@PySem.wpAny_isInstance
def d7:=@Nat.succ_pos
def d8:=@PySem.F.entry_dict_valueiterator_next
def d9:=@List.filterMap_cons
def ec:=@PySem.Heap.get?_update_ne
def ee:=@PySem.F.args_dict_keyiterator_next_1
def eA:=@Option.isSome_iff_exists
def eC:=@PySem.F.entry_dict_keyiterator_next
def eD:=@List.Pairwise.imp_of_mem
def eE:=@Bool.eq_iff_iff
def eF:=@List.foldl_cons
def eH:=@of_decide_eq_false
def eI:=@List.pairwise_cons
def eJ:=@Nat.mod_lt
def eK:=@PySem.F.plainAttrs_dict
def eM:=@List.getElem?_cons_succ
def eN:=@PySem.wpAny_pyIter_list
def eP:=@Nat.lt_trans
def eQ:=@decide_false
def eR:=@PySem.wpAny_pyIter_slot
def eS:=@Nat.lt_trichotomy
def eT:=@List.pairwise_lt_range
def eU:=@List.nodup_append
def eV:=@PySem.wpAny_storeSet_of
def eX:=@PySem.wpAny_seqItems
def eY:=@Nat.Coprime.dvd_of_dvd_mul_right
def eZ:=@List.Pairwise.map
def fh:=@List.take_succ_eq_append_getElem
def fi:=@PyProof.Rows.slot_tuple_getitem
def fj:=@Array.getElem?_setIfInBounds_ne
def fm:=@List.getElem?_eq_none
def fq:=@Array.mem_of_getElem?
def fw:=@PySem.F.slot_dict_get
def fx:=@PySem.wpAny_notOrdered_dict
def fy:=@List.Pairwise.sublist
def fA:=@PySem.builtinLookup_eq_fast
def fC:=@PySem.wpAny_isOneOf_valiter
def fD:=@List.set_append_right
def fE:=@Option.getD_some
def fF:=@PySem.putSet_of
def fG:=@PySem.Around.in1_units
def fH:=@PySem.wpAny_standAt
def fJ:=@Bool.not_true
def fK:=@PySem.Calls.evalArgs_plain
def fL:=@Array.toArray_toList
def fM:=@decide_true
def fN:=@PySem.F.slot_dict_values_iter
def fP:=@PySem.wpAny_execs_nil
def fQ:=@PySem.post_val_or_str
def fR:=@PySem.F.slot_dict_setdefault
def fS:=@List.nil_append
def fT:=@List.toList_toArray
def fU:=@Array.getD_eq_getD_getElem?
def fV:=@PySem.W.kia_one
def fX:=@PySem.Calls.Name_function_global
def fY:=@PySem.Code.quiet_builtin
def fZ:=@Int.fdiv_eq_ediv_of_nonneg
def f3:=@Nat.add_sub_cancel
def f5:=@List.zip_cons_cons
def f6:=@PySem.isSubtype_stop
def f7:=@PySem.F.sub_list_frozenset
def f9:=@Bool.and_false
def gc:=@Int.natAbs_mul
def gf:=@Int.eq_of_mul_eq_mul_right
def gg:=@List.pairwise_iff_getElem
def gh:=@Bool.not_eq_true'
def gi:=@PySem.wpAny_of_eq
def gj:=@List.foldl_append
def gk:=@List.flatMap_cons
def gm:=@PySem.wpAny_handled
def gp:=@PySem.F.slot_list_extend
def gq:=@Nat.mul_assoc
def gs:=@List.length_erase_of_mem
def gu:=@List.filterMap_cons_some
def gw:=@PySem.F.slot_dict_values
def gx:=@Int.mul_assoc
def gy:=@beq_self_eq_true
def gz:=@PySem.Heap.size_update
def gA:=@List.pairwise_singleton
def gC:=@List.ext_getElem
def gD:=@List.getElem_map
def gE:=@PySem.F.args_dict_get_2
def gF:=@List.lookup_cons
def gG:=@PySem.wpAny_askSetting
def gH:=@PySem.F.entry_type_call
def gI:=@List.length_eq_zero_iff
def gJ:=@PySem.F.plain_list_iadd
def gK:=@PySem.wpAny_forIn_list
def gL:=@List.take_length
def gM:=@PySem.wpAny_rule
def gN:=@PySem.Txt.slice_le
def gP:=@UInt32.le_iff_toNat_le
def gQ:=@PySem.call_meetsIn
def gR:=@PySem.F.entry_dict_get
def gS:=@PySem.F.slot_dict_iter
def gT:=@Nat.lt_or_ge
def gU:=@PySem.F.typeCall_set_1
def gX:=@PySem.F.entry_set_init
def gY:=@Nat.mul_comm
def gZ:=@Int.le_of_lt
def hA:=@Nat.le_mul_of_pos_left
def hC:=@List.of_mem_zip
def hD:=@PySem.wpAny_specialOf
def hI:=@PySem.codeAny_of_tree
def hK:=@PySem.typeLookup_type
def hU:=@List.any_append
def hX:=@PySem.F.plain_set_new
def hY:=@PySem.F.slot_set_iter
def hZ:=@List.take_append_drop
def h8:=@List.singleton_append
def ia:=@Int.natAbs_dvd_natAbs
def ib:=@List.length_filter_le
def ic:=@PySem.wpAny_bindName
def ie:=@Array.getElem_toList
def ig:=@Bool.or_eq_false_iff
def ik:=@PySem.wpAny_throw
def il:=@Array.toList_extract
def ip:=@PySem.F.sub_list_set
def iq:=@PySem.wpAny_runValue
def ir:=@PySem.isSubtype_type
def iu:=@List.length_eraseIdx
def iw:=@List.perm_cons_erase
def ix:=@Nat.mul_add
def iy:=@Nat.add_mul
def iz:=@List.mem_erase_of_ne
def iA:=@Nat.pow_le_pow_right
def iC:=@List.mem_of_mem_take
def iD:=@List.mem_of_mem_drop
def iE:=@Bool.not_false
def iF:=@PySem.wpAny_call
def iG:=@not_or
def iH:=@Nat.le_of_eq
def iI:=@Int.mul_comm
def iJ:=@List.any_map
def iK:=@Int.mul_one
def iL:=@Nat.mul_one
def iM:=@Int.le_refl
abbrev oT:List PySem.Str:=["_law_stream","_law_words"]
abbrev rQ:List PySem.Str:=["_law_stream","_law_many"]
abbrev uF:List PySem.Str:=["_law_script","_law_k"]
abbrev uG:List PySem.Str:=["_law_top","_law_bottom"]
abbrev Cu:List PySem.Str:=["self","reading","ask"]
abbrev Cv:List PySem.Str:=["self","reading","asked"]
abbrev Cy:List PySem.Str:=["_law_script","_law_first","_law_most","_law_words"]
abbrev Cz:List PySem.Str:=["_law_script","_law_first","_law_many","_law_words"]
abbrev jW:=PySem.Value->PySem.Shared->Prop
abbrev kl:=PySem.Str->Option PySem.Value
abbrev sO:Nat:=10000000000000000000000000000000000000000000000000000000000000000000000000000000000000000000000000000000000000000000000000000000000000000000000000000000000000000000000000000000000000000000000000000000000000000000000000000000000000000000000000000000000000000000000000000000000000000000000000000000000000000000000000000000000000000000000000000000000000000000000000000000000000000000000000000000000000000
noncomputable section
set_option Elab.async false
set_option maxRecDepth 100000
namespace L2
open PySem PySem.Spec PyProof.Rows
abbrev Key:=Sum Int Str
def pF:Key->Value->Bool
 |.inl k,v=>Value.isInt k v
 |.inr x,v=>Value.isStrOf x v
def Sk(w:World):Key->Int
 |.inl k=>hashInt k
 |.inr x=>hashStr w x
def qZ:∀{k} {v},pF k v=true->(∃i t,k=Sum.inl i/\v=Value.int i t)\/(∃x t,k=Sum.inr x/\v=Value.str x t)
 |.inl i,v,h=>by obtain⟨t,e⟩:=Value.isInt_shape (k:=i) (v:=v) h;exact .inl ⟨i,t,rfl,e⟩
 |.inr x,v,h=>by obtain⟨t,e⟩:=Value.isStrOf_shape (x:=x) (v:=v) h;exact .inr ⟨x,t,rfl,e⟩
def Sm(i:Int)(t):pF (.inl i) (.int i t)=true:=by simp[pF,Value.isInt]
def Sn(x t):pF (.inr x) (.str x t)=true:=by simp[pF,Value.isStrOf]
def Sq(a b:Int):decide ((Sum.inl a:Key)=Sum.inl b)=(a==b):=by
 by_cases e:a=b;·subst e;simp
 ·have h:¬(Sum.inl a:Key)=Sum.inl b:=λq=>e (Sum.inl.inj q);rw[aI h];exact(cX.mpr e).symm
def Su(a b):decide ((Sum.inr a:Key)=Sum.inr b)=decide (a=b):=by
 by_cases e:a=b;·subst e;simp
 ·have h:¬(Sum.inr a:Key)=Sum.inr b:=λq=>e (Sum.inr.inj q);rw[aI h,aI e]
def Sr(a:Int)(b):decide ((Sum.inl a:Key)=Sum.inr b)=false:=aI (λq=>nomatch q)
def Ss(a)(b:Int):decide ((Sum.inr a:Key)=Sum.inl b)=false:=aI (λq=>nomatch q)
def j4(c:Program)(w:World):PySem.KeyKind c w Key where
 is:=pF
 hash:=Sk w
 inj:=λv a b g d=>by
  rcases qZ g with⟨i,t,rfl,rfl⟩|⟨x,t,rfl,rfl⟩
  ·rcases qZ d with⟨j,u,rfl,e⟩|⟨y,u,rfl,e⟩;·injection e with e1 _;rw[e1]
   ·exact nomatch e
  ·rcases qZ d with⟨j,u,rfl,e⟩|⟨y,u,rfl,e⟩;·exact nomatch e
   ·injection e with e1 _;rw[e1]
 byValue:=λk v h=>by rcases qZ h with⟨i,t,rfl,rfl⟩|⟨x,t,rfl,rfl⟩<;>rfl
 pyHash:=λhv h=>by
  rcases qZ hv with⟨i,t,rfl,rfl⟩|⟨x,t,rfl,rfl⟩;·exact wpAny_pyHash_int h
  ·exact wpAny_pyHash_str h
 eqBool:=λf hv h=>by
  rcases qZ f with⟨i,t,rfl,rfl⟩|⟨x,t,rfl,rfl⟩
  ·rcases qZ hv with⟨j,u,rfl,rfl⟩|⟨y,u,rfl,rfl⟩;·rw[Sq]at h;exact wpAny_eqBool_int h
   ·rw[Sr]at h;exact SeqAt.EqAt.int_str i t y u _ _ _ _ h
  ·rcases qZ hv with⟨j,u,rfl,rfl⟩|⟨y,u,rfl,rfl⟩;·rw[Ss]at h;exact SeqAt.EqAt.str_int x t j u _ _ _ _ h
   ·rw[Su]at h;exact wpAny_eqBool_str h
 «strs»:=λk x t v h=>by
  rcases qZ h with⟨i,u,rfl,e⟩|⟨y,u,rfl,e⟩;·exact nomatch e
  ·injection e with e1 _;subst e1;cases v<;>rfl
def Uo(prog w)(i:Int)(t):(j4 prog w).is (.inl i) (.int i t)=true:=Sm i t
def Up(prog w x t):(j4 prog w).is (.inr x) (.str x t)=true:=Sn x t
inductive V where
 |non|bl(b:Bool)|int(i:Int)|str(x:Str)|nG(b:Array UInt8)|flt(b:UInt64)|ref(a:Addr)|ty(n:String)
 deriving DecidableEq
def RelV:V->Value->Prop
 |.non,u=>u=Value.none
 |.bl b,u=>u=Value.bool b
 |.int i,u=>∃t,u=Value.int i t
 |.str x,u=>∃t,u=Value.str x t
 |.nG b,u=>∃t,u=Value.bytes b t
 |.flt b,u=>∃t,u=Value.float b t
 |.ref a,u=>u=Value.ref a
 |.ty n,u=>u=Value.type n
abbrev Vals:List V->List Value->Prop:=Paired RelV
def Vals.length{a:List V}{b:List Value}(r:Vals a b):a.length=b.length:=Paired.length r
theorem Vals.get:∀{a:List V} {b:List Value} {i:Nat} {x:V},Vals a b->a[i]?=some x->∃u,b[i]?=some u/\RelV x u
 |_,_,_,_,.nil,e=>by simp at e
 |_,_,0,_,.cons r _,e=>by simp at e;subst e;exact⟨_,rfl,r⟩
 |_,_,i+1,x,.cons _ t,e=>by obtain⟨u,d,c⟩:=Vals.get (i:=i) (x:=x) t (by simpa using e);exact⟨u,by simpa using d,c⟩
theorem Vals.set{u}(r:RelV x u):∀{a} {b} i,Vals a b->Vals (a.set i x) (b.set i u)
 |_,_,_,.nil=>.nil
 |_,_,0,.cons _ t=>.cons r t
 |_,_,i+1,.cons q t=>.cons q (Vals.set r i t)
theorem Vals.append:∀{b a} {d c},Vals b d->Vals a c->Vals (b++a) (d++c)
 |_,_,_,_,.nil,s=>s
 |_,_,_,_,.cons r t,s=>.cons r (Vals.append t s)
theorem Vals.take:∀{a} {b} n,Vals a b->Vals (a.take n) (b.take n)
 |_,_,0,_=>.nil
 |_,_,_+1,.nil=>.nil
 |_,_,n+1,.cons r t=>.cons r (Vals.take n t)
theorem Vals.drop:∀{a} {b} n,Vals a b->Vals (a.drop n) (b.drop n)
 |_,_,0,r=>r
 |_,_,_+1,.nil=>.nil
 |_,_,n+1,.cons _ t=>Vals.drop n t
def mq:Option V->Option Value->Prop
 |some v,some u=>RelV v u
 |none,none=>True
 |_,_=>False
def KV{a:Type}:List (a×V)->List (a×Value)->Prop:=Paired λ(p:a×V) (q:a×Value)=>p.1=q.1/\RelV p.2 q.2
def kV:Key->V
 |.inl i=>.int i
 |.inr x=>.str x
inductive HO where
  /-- a list -/
 |lst(xs:List V)
  /-- a tuple (never changes) -/
 |tup(xs:List V)
  /-- a dict whose keys are ints and texts; one whose keys are tuples of ints and texts (the empty one is both) -/
 |dK(kvs:List<|Key×V)|dT(kvs:List<|List Key×V)
  /-- a set of ints: its members, its size -/
 |set(S:Int->Bool)(n:Nat)
  /-- an instance of the class at C, its dict at dx, its attributes -/
 |ins(C dx:Addr)(fs:List<|Str×V)
  /-- the dict of the instance at x -/
 |own(x:Addr)
  /-- the dict of an exception -/
 |xd(fs:List<|Str×V)
  /-- a bound method, f of x -/
 |met(f x:Addr)
  /-- a range object lo, lo + 1, .. below hi -/
 |zP(lo hi:Int)
  /-- a thing that is known to the object (the script; a dict while a loop walks it): read, never written while it is so -/
 |ke(o:Obj)(u:HO)
  /-- a code object's table -/
 |lT(ps:Array Value)
  /-- any other thing, by what is true of its one object (a def of one's own: SetO a S n := HO.ext λh => ..) -/
 |ext(φ:Heap->Prop)
abbrev Hp:=Addr->Option HO
def upd(H:Hp)(a:Addr)(o:HO):Hp:=λb=>if b=a then some o else H b
def kC:upd H a o a=some o:=by unfold upd;rw[av rfl]
def jB(h:b≠a):upd H a o b=H b:=by unfold upd;rw[aw h]
def J3{H:Hp}{u}(h:H a=some o)(c:H b=some u)(d:o≠u):a≠b:=by intro e;subst e;rw[h]at c;exact d (Option.some.inj c)
def nc{H:Hp}(h:H a=some o)(c:H b=none):a≠b:=by intro e;subst e;rw[h]at c;cases c
section
variable(P:Program)(w:World)
def kz(H:Hp)(h:Heap)(a:Addr):HO->Prop
 |.lst d=>d.length<=sizeLine/\∃c n,Vals d c/\h.get? a=some {cls:=.type "list",data:=.seq c.toArray n}
 |.tup d=>d.length<=sizeLine/\∃c:List Value,Vals d c/\IsTup h a c.toArray
 |.dK b=>b.length<=sizeLine/\(a==sysModules)=false/\∃j,KV b j/\h.DictOf (j4 P w) a j
 |.dT b=>b.length<=sizeLine/\(a==sysModules)=false/\∃d:List (List Key×Addr×Value),
   Paired (λ(p:List Key×V) (q:List Key×Addr×Value)=>p.1=q.1/\H q.2.1=some (.tup<|p.1.map kV)/\RelV p.2 q.2.2) b d/\
   ∃o m y,h.get? a=some o/\o.ExactDict/\o.data=.dict m y/\m.toList=d.map (entryOfKey<|tupleKind<|j4 P w)/\(d.map (·.1)).Nodup
 |.set S n=>h.SetOf (intKind P w) a S n
 |.ins C g fs=>H g=some (.own a)/\fs.length<=1000/\g≠a/\h.get? a=some (W.instObj C g)/\
   ∃e,h.Ns1 g e/\(∀f,mq (fs.lookup f)<|e f)/\PySem.Within e (fs.map (·.1))
 |.own _=>∃o,h.get? a=some o
 |.xd fs=>∃e,h.Ns1 a e/\∀f,mq (fs.lookup f) (e f)
 |.zP lo s=>∃t u v,h.get? a=some {cls:=.type "range",data:=.fields #[.int lo t,.int s u,.int 1 v]}
 |.ke o u=>h.get? a=some o/\kz H h a u
 |.lT r=>h.get? a=some {cls:=.none,data:=.fields r}
 |.met f x=>h.get? a=some (W.methodObj (.ref f)<|.ref x)
 |.ext i=>i h/\(∃o,h.get? a=some o)/\∀l k:Heap,i l->(∀o,l.get? a=some o->k.get? a=some o)->i k
def kH(H:Hp)(h:Heap):Prop:=∀a o,H a=some o->kz P w H h a o
variable{P:Program}{w:World}{H i:Hp}{h h':Heap}{a:Addr}{o:HO}
def kz.lt(x:kz P w H h a o):a<h.objs.size:=by
 cases o with
 |lst c=>obtain⟨_,_,_,_,e⟩:=x;exact Heap.lt_size e
 |tup c=>obtain⟨_,_,_,p⟩:=x;exact p.lt
 |dK b=>obtain⟨_,_,_,_,o,_,_,e,_⟩:=x;exact Heap.lt_size e
 |dT b=>obtain⟨_,_,_,_,o,_,_,e,_⟩:=x;exact Heap.lt_size e
 |set S n=>obtain⟨o,_,_,_,e,_⟩:=x;exact Heap.lt_size e
 |ins C k fs=>obtain⟨_,_,_,e,_⟩:=x;exact Heap.lt_size e
 |own y=>obtain⟨_,e⟩:=x;exact Heap.lt_size e
 |xd fs=>obtain⟨_,⟨_,_,_,e,_⟩,_⟩:=x;exact Heap.lt_size e
 |zP lo j=>obtain⟨_,_,_,e⟩:=x;exact Heap.lt_size e
 |ke ob u=>obtain⟨e,_⟩:=x;exact Heap.lt_size e
 |lT g=>exact Heap.lt_size (show h.get? a=some _ from x)
 |met f y=>exact Heap.lt_size (show h.get? a=some _ from x)
 |ext d=>obtain⟨_,⟨_,e⟩,_⟩:=x;exact Heap.lt_size e
theorem Paired.CB{g e:Type}{F G:g->e->Prop}:∀{d:List g} {c:List e},Paired F d c->(∀a b,F a b->G a b)->Paired G d c
 |_,_,.nil,_=>.nil
 |_,_,.cons r t,f=>.cons (f _ _ r) (Paired.CB t f)
def kz.stay(x:kz P w H h a o)(k:∀b u,(b=a\/H b=some (.own a))->h.get? b=some u->h'.get? b=some u)
    (J:∀b,H b=some (.own a)->i b=some (.own a))(I:∀b m,H b=some (.tup m)->i b=some (.tup m)):kz P w i h' a o:=by
 induction o with
 |lst m=>obtain⟨z,l,n,r,e⟩:=x;exact⟨z,l,n,r,k _ _ (.inl rfl) e⟩
 |tup m=>obtain⟨z,l,r,ob,e,c⟩:=x;exact⟨z,l,r,ob,k _ _ (.inl rfl) e,c⟩
 |dK B=>obtain⟨z,y,F,r,ob,g,j,e,c⟩:=x;exact⟨z,y,F,r,ob,g,j,k _ _ (.inl rfl) e,c⟩
 |dT B=>obtain⟨z,y,m,r,ob,g,j,e,c⟩:=x;exact⟨z,y,m,Paired.CB r λp q z=>⟨z.1,I _ _ z.2.1,z.2.2⟩,ob,g,j,k _ _ (.inl rfl) e,c⟩
 |set S n=>obtain⟨ob,g,j,t,e,c⟩:=x;exact⟨ob,g,j,t,k _ _ (.inl rfl) e,c⟩
 |ins C N fs=>obtain⟨d,z,ne,e,A,⟨s,g,j,K,c⟩,r⟩:=x;exact⟨J _ d,z,ne,k _ _ (.inl rfl) e,A,⟨s,g,j,k _ _ (.inr d) K,c⟩,r⟩
 |own y=>obtain⟨ob,e⟩:=x;exact⟨ob,k _ _ (.inl rfl) e⟩
 |xd fs=>obtain⟨A,⟨s,g,j,e,c⟩,r⟩:=x;exact⟨A,⟨s,g,j,k _ _ (.inl rfl) e,c⟩,r⟩
 |zP lo M=>obtain⟨t,u,v,e⟩:=x;exact⟨t,u,v,k _ _ (.inl rfl) e⟩
 |ke ob u G=>obtain⟨e,q⟩:=x;exact⟨k _ _ (.inl rfl) e,G q⟩
 |lT E=>have e:h.get? a=some {cls:=.none,data:=.fields E}:=x;show h'.get? a=some {cls:=.none,data:=.fields E};exact k a _ (.inl rfl) e
 |met f y=>have e:h.get? a=some (W.methodObj (.ref f)<|.ref y):=x;show h'.get? a=some (W.methodObj (.ref f)<|.ref y);exact k a _ (.inl rfl) e
 |ext L=>obtain⟨p,⟨o,e⟩,D⟩:=x;exact⟨D _ _ p λo q=>k _ _ (.inl rfl) q,⟨o,k _ _ (.inl rfl) e⟩,D⟩
def kH.lt(x:kH P w H h)(e:H a=some o):a<h.objs.size:=(x a o e).lt
def kH.fresh(x:kH P w H h)(e:h.objs.size<=a):H a=none:=by
 cases q:H a with
 |none=>rfl
 |some u=>exact absurd (aH (x.lt q) e) (cM _)
def kH.kept(x:kH P w H h)(k:∀b u,h.get? b=some u->h'.get? b=some u):kH P w H h':=λa o e=>(x a o e).stay (λb u _ q=>k b u q) (λ_ q=>q) λ_ _ q=>q
def kH.laid(x:kH P w H h)(k:∀b u,h.get? b=some u->h'.get? b=some u)(g:h.objs.size<=a)(new:kz P w (upd H a o) h' a o):kH P w (upd H a o) h':=λb u e=>by
 have d:=x.fresh g;by_cases f:b=a;·subst f;rw[kC]at e;cases e;exact new
 ·rw[jB f]at e;exact(x b u e).stay (λc v _ q=>k c v q) (λc q=>by rw[jB<|nc q d];exact q) λc j q=>by rw[jB<|nc q d];exact q
end
def Rd(H:Hp)(a:Addr)(u:HO):Prop:=H a=some u\/∃o,H a=some (.ke o u)
def Rd.ok{w u}(r:Rd H a u)(x:kH P w H h):kz P w H h a u:=by
 rcases r with r|⟨o,r⟩;·exact x a u r
 ·obtain⟨_,q⟩:=x a _ r;exact q
def vx:Option HO->Prop
 |some (.lst _)=>True
 |some (.dK _)=>True
 |some (.dT _)=>True
 |some (.set _ _)=>True
 |some (.ins _ _ _)=>True
 |some (.ext _)=>True
 |_=>False
section
variable{P:Program}{w:World}{H:Hp}{h h':Heap}{x e:Addr}{a:HO}
def kH.write(ok:kH P w H h)(j:vx<|H x)(p:e=x\/H e=some (.own x))(k:∀b u,b≠e->h.get? b=some u->h'.get? b=some u)(n:∃u,h'.get? e=some u)
 (new:kz P w (upd H x a) h' x a):kH P w (upd H x a) h':=λb u q=>by
  have f:∀c y,H c=some (.own y)->c≠x:=λc y r z=>by subst z;rw[r]at j;exact j
  have g:∀c i,H c=some (.tup i)->c≠x:=λc i r z=>by subst z;rw[r]at j;exact j
  by_cases m:b=x;·subst m;rw[kC]at q;cases q;exact new
  ·rw[jB m]at q;by_cases d:b=e
   ·have o:H b=some (.own x):=by
     rcases p with z|z;·exact absurd (d.trans z) m
     ·rw[d];exact z
    rw[q]at o;cases o;obtain⟨v,hv⟩:=n;exact⟨v,by rw[d];exact hv⟩
   ·refine(ok b u q).stay (λc v l r=>k c v ?_ r) (λc r=>by rw[jB<|f c b r];exact r) λc i r=>by rw[jB<|g c i r];exact r
    rcases l with rfl|l;·exact d
    ·rintro rfl
     rcases p with z|z;·exact f c b l z
     ·rw[l]at z;cases z;exact m rfl
end
structure Un(fs ex:List Addr)(H H':Hp)(h h':Heap):Prop where
 keep:∀b o,h.get? b=some o->H b=none->b∉fs->b∉ex->h'.get? b=some o
 slot:∀b o,h.get? b=some o->H b=none->b∈fs->b∉ex->∃sl,h'.get? b=some {o with slots:=sl}
 free:∀b o,h.get? b=some o->H b=none->b∉ex->H' b=none
 there:∀b o,h.get? b=some o->b∉ex->∃o',h'.get? b=some o'
 tups:∀b xs,H b=some (.tup xs)->H' b=some (.tup xs)
 pD:∀b o u,H b=some (.ke o u)->H' b=some (.ke o u)
 rl:∀b ps,H b=some (.lT ps)->∃more,H' b=some (.lT<|ps++more)
section
variable{fs f ex i:List Addr}{H j m:Hp}{h c l h':Heap}{a x e:Addr}{o:HO}
def Un.any(u:Un fs ex H j h c){b:Addr}{ob:Obj}(q:h.get? b=some ob)(n:H b=none)(d:b∉ex):∃k,c.get? b=some {ob with slots:=k}:=by
 by_cases g:b∈fs;·exact u.slot b ob q n g d
 ·exact⟨ob.slots,u.keep b ob q n g d⟩
def Un.kept(k:∀b u,h.get? b=some u->h'.get? b=some u):Un fs ex H H h h':=
 ⟨λb ob q _ _ _=>k b ob q,λb ob q _ _ _=>⟨ob.slots,k b ob q⟩,λ_ _ _ n _=>n,λb ob q _=>⟨ob,k b ob q⟩,λ_ _ q=>q,λ_ _ _ q=>q,λ_ d q=>⟨#[],by rw[q];simp⟩⟩
def Un.refl:Un fs ex H H h h:=Un.kept λ_ _ q=>q
def Un.laid(k:∀b u,h.get? b=some u->h'.get? b=some u)(p:h.objs.size<=a)(d:H a=none):Un fs ex H (upd H a o) h h' where
 keep:=λb u q _ _ _=>k b u q
 slot:=λb u q _ _ _=>⟨u.slots,k b u q⟩
 free:=λb u q n _=>by rw[jB<|aR<|aH (Heap.lt_size q) p];exact n
 there:=λb u q _=>⟨u,k b u q⟩
 tups:=λb g q=>by rw[jB<|nc q d];exact q
 pD:=λb u g q=>by rw[jB<|nc q d];exact q
 rl:=λb r q=>⟨#[],by rw[jB<|nc q d,q];simp⟩
def Un.write(g:vx<|H x)(A:e=x\/H e=some (.own x))(k:∀b u,b≠e->h.get? b=some u->h'.get? b=some u)(s:∃u,h'.get? e=some u):Un fs ex H (upd H x o) h h':=by
 have t:∀b,H b=none->b≠x:=λb n z=>by subst z;rw[n]at g;exact g
 have v:∀b,H b=none->b≠e:=λb n z=>by
  subst z;rcases A with r|r;·exact t b n r
  ·rw[n]at r;cases r
 have p:∀b u,H b=some u->¬vx (some u)->b≠x:=λb u q y z=>by subst z;rw[q]at g;exact y g
 refine⟨λb u q n _ _=>k b u (v b n) q,λb u q n _ _=>⟨u.slots,k b u (v b n) q⟩,λb u q n _=>by rw[jB (t b n)];exact n,λb u q _=>?_,
  λb w q=>by rw[jB (p b _ q λz=>z)];exact q,λb u w q=>by rw[jB (p b _ q λz=>z)];exact q,λb B q=>⟨#[],by rw[jB (p b _ q λz=>z),q];simp⟩⟩
 by_cases d:b=e;·subst d;exact s
 ·exact⟨u,k b u d q⟩
end
def Aa(h:Heap)(H:Hp):List Addr:=(List.range h.objs.size).filter λa=>(H a).isSome
def qw(h:Heap)(H:Hp):Heap:=W.hideAll h (Aa h H)
def QK(h H):(qw h H).objs.size=h.objs.size:=W.hideAll_size _ _
def QJ{h:Heap}{H:Hp}(e:h.get? b=some o)(n:H b=none):(qw h H).get? b=some o:=
 W.hideAll_get _ e λa=>by have q:(H b).isSome=true:=(bT.mp a).2;rw[n]at q;simp at q
def UZ(e:(qw h H).get? b=some o):h.get? b=some o/\H b=none:=by
 have a:h.get? b=some o:=W.of_hideAll (Aa h H) e;refine⟨a,?_⟩;cases q:H b with
 |none=>rfl
 |some x=>have c:b∈Aa h H:=bT.mpr ⟨bK.mpr<|Heap.lt_size a,by simp[q]⟩;have z:(qw h H).get? b=none:=W.hideAll_none (Aa h H) c;rw[z]at e;cases e
def NU(g h:Heap)(L:Addr):List (Addr×Obj):=(List.range h.objs.size).filterMap λa=>if a=L\/(g.get? a).isSome=true then none else(h.get? a).map λo=>(a,o)
def rest(g h:Heap)(L d:Addr):List (Addr×Obj):=(NU g h L).filter λp=>decide (p.1≠d)
structure Mod(K:W.Frag)(mg:kl)(base:Heap):Prop where
 wj:K.In base
 glob:base.Ns mainGlobals mg
 blt:∃mb,base.Ns builtinsNs mb/\∀x:Str,x≠"__name__"->mb x=bootBuiltins x
 nolimit:base.NoLimit
structure Cx where
 prog:Program
 w:World
 K:W.Frag
 mg:kl
 base:Heap
 A:Around
 N:List Str
 s₀:Shared
 H₀:Hp
 env:Env
 outer:List Env
 stack:List Env
 ex:List Addr
 fn:Str->Bool
 calm:Bool
 pn:List (Addr×Obj)
 xe:jW
abbrev Cx.se(X:Cx)(e:Expr)(es:List Expr):Prop:=starEach (e::es) X.env=(false,eval e X.env)::starEach es X.env
abbrev Cx.bk(X:Cx)(pos:Pos)(es:List Expr):Prop:=(backTo pos<|starEach es X.env).any (·.1)=false
abbrev oi(x:Str):Prop:=(x==("__debug__":Str))=false
abbrev Cx.cl(X:Cx)(x:Str)(e:Expr)(es:List Expr)(pos:Pos):Prop:=oi x/\X.se e es/\X.bk pos es
abbrev Cx.hf(X:Cx)(x:Str):Prop:=X.fn x=true\/X.env.scope.names.lookup x=some .local
abbrev qy(s:Scope):Prop:=∀x∈s.names,x.2=.local->s.names.lookup x.1=some .local
abbrev pJ(s:Scope):Prop:=∀y∈s.names,y.2≠.cell
def frs(l:List Env):List Addr:=l.filterMap (·.frame)
abbrev Cx.fs(X:Cx):List Addr:=frs X.outer
def qP(sc:Scope)(x:Str):Prop:=sc.names.lookup x=some .local\/sc.names.lookup x=some .cell\/sc.names.lookup x=some .free
def Loc(sc:Scope)(x:Str):Prop:=sc.names.lookup x=some .local\/sc.names.lookup x=some .cell
def Look(a:Env)(h:Heap)(m:kl)(x:Str)(u:Value):Prop:=
 (a.kindOf x=some .local/\m x=some u)\/((a.kindOf x=some .cell\/a.kindOf x=some .free)/\∃c,a.cells.lookup x=some c/\h.IsCell c (some u))
structure Cx.Ok(X:Cx):Prop where
 mod:Mod X.K X.mg X.base
 kind:X.env.scope.kind=.function
 glob:X.env.globals=mainGlobals
 blt:X.env.builtins=builtinsNs
 above:X.s₀.heap.objs.size<=X.env.locals
 inj:∀x y c,X.env.cells.lookup x=some c->X.env.cells.lookup y=some c->x=y
 has:∀x,(X.env.kindOf x=some .cell\/X.env.kindOf x=some .free)->∃c,X.env.cells.lookup x=some c
 cab:∀x c,X.fn x=true->X.env.cells.lookup x=some c->X.s₀.heap.objs.size<=c
 hd:X.calm=true->X.A.handled=none
 frames:X.A.frames=some X.stack
 LY:X.stack=X.outer\/(X.stack=X.env::X.outer/\X.env.frame=some X.env.locals)
 Pw:∀b∈X.ex,b≠X.env.locals/\∀x c,X.env.cells.lookup x=some c->c≠b
 bs:∀b o,X.base.get? b=some o->X.s₀.heap.get? b=some o/\X.H₀ b=none
 sP:X.base.objs.size<=X.s₀.heap.objs.size
 CF:∀b o,X.base.get? b=some o->b∉X.ex
 Bt:∀b∈X.ex,b∉X.fs
 oN:X.s₀.heap.FunFrames X.base X.outer
 vP:∀b∈X.fs,X.H₀ b=none
structure Inv(X:Cx)(pins:List<|Addr×Obj)(σ:List<|Option V)(H:Hp)(s:Shared):Prop where
 ok:X.Ok
 os:s.os=X.s₀.os
 bare:AllBare s.gens
 base:Un X.fs X.ex X.H₀ H X.s₀.heap s.heap
 loc:∃m,s.heap.Ns X.env.locals m/\∀(i:Nat) (x:Str) (v:V),X.N[i]?=some x->σ[i]?=some (some v)->qP X.env.scope x->∃u,RelV v u/\Look X.env s.heap m x u
 cell:∀x c,X.env.cells.lookup x=some c->∃v,s.heap.IsCell c v
 free:H X.env.locals=none
 pC:∀x c,X.env.cells.lookup x=some c->H c=none
 pin:∀p∈X.pn++pins,s.heap.get? p.1=some p.2/\H p.1=none/\p.1≠X.env.locals/\p.1∉X.fs/\∀v,p.2.data≠.cell v
 hok:kH X.prog X.w H s.heap
 len:σ.length=X.N.length
section
variable{X:Cx}{f:List<|Addr×Obj}{B:List<|Option V}{H C:Hp}{s:Shared}{h':Heap}
def Cx.Ok.UD(ok:X.Ok)(e:X.base.get? b=some o):b∉X.fs:=λa=>by have:=(ok.oN.mem a).1;rw[e]at this;cases this
def Inv.bs(I:Inv X f B H s):∀b o,X.base.get? b=some o->s.heap.get? b=some o/\H b=none:=λb o e=>⟨I.base.keep b o (I.ok.bs b o e).1 (I.ok.bs b o e).2 (I.ok.UD e) (I.ok.CF b o e),I.base.free b o (I.ok.bs b o e).1 (I.ok.bs b o e).2 (I.ok.CF b o e)⟩
def Inv.bk(I:Inv X f B H s):∀b o,X.base.get? b=some o->s.heap.get? b=some o:=λb o e=>(I.bs b o e).1
def Inv.mod(I:Inv X f B H s):Mod X.K X.mg X.base:=I.ok.mod
def Inv.l5(I:Inv X f B H s):X.K.In s.heap:=I.ok.mod.wj.keeps I.bk
def Inv.lt(I:Inv X f B H s):X.env.locals<s.heap.objs.size:=let⟨_,a,_⟩:=I.loc;a.lt
def Inv.sz(I:Inv X f B H s):X.s₀.heap.objs.size<=s.heap.objs.size:=aU I.ok.above (cO I.lt)
def Inv.UG(I:Inv X f B H s){a:Addr}(h:s.heap.objs.size<=a):a∉X.fs:=λc=>by obtain⟨_,o,b,_⟩:=I.ok.oN.mem c;exact absurd (aH (Heap.lt_size b)<|aU I.sz h) (cM _)
def Inv.sR(I:Inv X f B H s):∀x c,X.env.cells.lookup x=some c->c≠X.env.locals:=λx c e z=>by obtain⟨v,o,d,g⟩:=I.cell x c e;obtain⟨m,⟨h,i,j,a,b,_⟩,_⟩:=I.loc;rw[z,a]at d;cases d;rw[b]at g;cases g
def Inv.oN(I:Inv X f B H s):s.heap.FunFrames X.base X.outer:=by
 have all:∀(l:List Env),(∀b∈frs l,b∈X.fs)->X.s₀.heap.FunFrames X.base l->s.heap.FunFrames X.base l:=by
  intro l;induction l with
  |nil=>intro _ _;trivial
  |cons p r g=>intro d k;obtain⟨m,⟨L,o,hf,j,i,n⟩,h⟩:=k;have c:L∈X.fs:=d L (by unfold frs;rw[d9,hf];exact bF);obtain⟨q,e⟩:=I.base.slot L o i (I.ok.vP L c) c λz=>I.ok.Bt L z c;exact⟨m,⟨L,_,hf,j,e,n⟩,g (λb a=>d b (by unfold frs;rw[d9,hf];exact aZ _ a)) h⟩
 exact all X.outer (λ_ a=>a) I.ok.oN
def Inv.stack(I:Inv X f B H s):s.heap.FunFrames X.base X.stack:=by
 rcases I.ok.LY with e|⟨e,hf⟩;·rw[e];exact I.oN
 ·rw[e];obtain⟨m,a,_⟩:=I.loc;refine .cons (by rw[I.ok.kind];decide) hf a ?_ I.oN;exact Heap.get?_none_of_le (aU I.ok.sP I.ok.above)
def Inv.z6(I:Inv X f B H s):∀b∈frs X.stack,b∈X.env.locals::X.fs:=λb a=>by
 rcases I.ok.LY with e|⟨e,hf⟩;·rw[e]at a;exact aZ _ a
 ·rw[e]at a;unfold frs at a;rw[d9,hf]at a;exact a
def Inv.EE(I:Inv X f B H s):∀b∈frs X.stack,H b=none:=λb a=>by
 rcases aE.mp (I.z6 b a)with e|a;·rw[e];exact I.free
 ·obtain⟨_,o,c,_⟩:=I.ok.oN.mem a;exact I.base.free b o c (I.ok.vP b a) λz=>I.ok.Bt b z a
def Inv.step{g':Array GenState}{W:Nat}{d':Drawn}{ch:List Addr}(I:Inv X f B H s)
    (h:∀b∈ch,(b∈X.ex\/X.s₀.heap.objs.size<=b)/\b≠X.env.locals/\(∀x c,X.env.cells.lookup x=some c->c≠b)/\∀p∈X.pn++f,p.1≠b)
    (keep:∀b o,b≠X.env.locals->b∉X.fs->b∉ch->s.heap.get? b=some o->H b=none->h'.get? b=some o)
    (A:∀b o,b≠X.env.locals->b∈X.fs->b∉ch->s.heap.get? b=some o->H b=none->∃P,h'.get? b=some {o with slots:=P})(free:∀b o,b∉ch->s.heap.get? b=some o->H b=none->C b=none)
    (there:∀b o,b∉ch->s.heap.get? b=some o->∃J,h'.get? b=some J)
    (F:∀b y,H b=some (.tup y)->C b=some (.tup y))(L:∀b o u,H b=some (.ke o u)->C b=some (.ke o u))(G:∀b N,H b=some (.lT N)->∃more,C b=some (.lT<|N++more))
    (Y:∀m,s.heap.Ns X.env.locals m->h'.Ns X.env.locals m)(Q:kH X.prog X.w C h')(hg:AllBare g'):
    Inv X f B C {s with heap:=h',gens:=g',drawn:=d',toks:=W}:=by
 have K:∀b o,X.s₀.heap.get? b=some o->b≠X.env.locals:=λb o e=>aR (aH (Heap.lt_size e) I.ok.above);have t:∀b o,X.s₀.heap.get? b=some o->b∉X.ex->b∉ch:=λb o e a D=>by
  rcases(h b D).1 with z|z;·exact a z
  ·exact absurd (aH (Heap.lt_size e) z) (cM _)
 have j:∀x c,X.env.cells.lookup x=some c->∀v,s.heap.IsCell c v->h'.IsCell c v:=λx c e v ⟨o,E,R⟩=>by
  have g:c∉ch:=λz=>(h c z).2.2.1 x c e rfl;by_cases U:c∈X.fs
  ·obtain⟨P,q⟩:=A c o (I.sR x c e) U g E (I.pC x c e);exact⟨_,q,R⟩
  ·exact⟨o,keep c o (I.sR x c e) U g E<|I.pC x c e,R⟩
 refine⟨I.ok,I.os,hg,⟨λb o e n D a=>?_,λb o e n D a=>?_,λb o e n a=>?_,λb o e a=>?_,λb y e=>F b y<|I.base.tups b y e,λb o y e=>L b o y<|I.base.pD b o y e,λb N e=>?_⟩,?_,λx c e=>?_,?_,λx c e=>?_,λp T=>?_,Q,I.len⟩;·exact keep b o (K b o e) D (t b o e a) (I.base.keep b o e n D a) (I.base.free b o e n a)
 ·obtain⟨P,w⟩:=I.base.slot b o e n D a;obtain⟨O,M⟩:=A b _ (K b o e) D (t b o e a) w (I.base.free b o e n a);exact⟨O,M⟩
 ·obtain⟨J,w⟩:=I.base.there b o e a;exact free b J (t b o e a) w (I.base.free b o e n a)
 ·obtain⟨J,w⟩:=I.base.there b o e a;exact there b J (t b o e a) w
 ·obtain⟨m1,w⟩:=I.base.rl b N e;obtain⟨Z,M⟩:=G b _ w;exact⟨m1++Z,by rw[M,Array.append_assoc]⟩
 ·obtain⟨m,hn,hl⟩:=I.loc;refine⟨m,Y m hn,λi x v w M e3=>?_⟩;obtain⟨u,r,l⟩:=hl i x v w M e3;refine⟨u,r,?_⟩;rcases l with l|⟨k,c,e,z⟩;·exact .inl l
  ·exact .inr ⟨k,c,e,j x c e _ z⟩
 ·obtain⟨v,z⟩:=I.cell x c e;exact⟨v,j x c e v z⟩
 ·obtain⟨m,⟨o,_,_,E,_⟩,_⟩:=I.loc;exact free _ o (λz=>(h _ z).2.1 rfl) E I.free
 ·obtain⟨v,o,E,R⟩:=I.cell x c e;exact free c o (λz=>(h c z).2.2.1 x c e rfl) E (I.pC x c e)
 ·obtain⟨e,n,ne,S,d⟩:=I.pin p T;have g:p.1∉ch:=λz=>(h p.1 z).2.2.2 p T rfl;exact⟨keep p.1 p.2 ne S g e n,free p.1 p.2 g e n,ne,S,d⟩
def Inv.un{t':Nat}(I:Inv X f B H s)(u:Un X.fs [] H C s.heap h')(c:kH X.prog X.w C h'):Inv X f B C {s with heap:=h',toks:=t'}:=by obtain⟨m,⟨o,v,w,i,r⟩,_⟩:=id I.loc;obtain⟨p,l⟩:=u.any i I.free (by simp);exact I.step (g':=s.gens) (d':=s.drawn) (ch:=[]) (λ_ z=>nomatch z) (λb o _ d _ e n=>u.keep b o e n d (by simp)) (λb o _ d _ e n=>u.slot b o e n d (by simp)) (λb o _ e n=>u.free b o e n (by simp)) (λb o _ e=>u.there b o e (by simp)) u.tups u.pD u.rl (λt k=>by obtain⟨q,g,h,a,j⟩:=k;rw[i]at a;cases a;exact⟨_,g,h,l,j⟩) c I.bare
def Inv.call{g':Array GenState}{t':Nat}{d':Drawn}{ch:List Addr}(I:Inv X f B H s)(u:Un (frs X.stack) ch H C s.heap h')(h:kH X.prog X.w C h')(v:AllBare g')
    (g:∀b∈ch,(b∈X.ex\/X.s₀.heap.objs.size<=b)/\b≠X.env.locals/\(∀x c,X.env.cells.lookup x=some c->c≠b)/\∀p∈X.pn++f,p.1≠b):
    Inv X f B C {s with heap:=h',gens:=g',drawn:=d',toks:=t'}:=by
 obtain⟨m,⟨o,E,F,l,r⟩,_⟩:=id I.loc;obtain⟨y,i⟩:=u.any l I.free λz=>(g _ z).2.1 rfl;exact I.step (ch:=ch) g (λb o i w a e n=>u.keep b o e n (λz=>(aE.mp (I.z6 b z)).elim i w) a) (λb o _ _ a e n=>u.any e n a) (λb o a e n=>u.free b o e n a) (λb o a e=>u.there b o e a) u.tups u.pD u.rl (λD t=>by obtain⟨A,j,k,d,q⟩:=t;rw[l]at d;cases d;exact⟨_,j,k,i,q⟩) h v
def Inv.turned{t':Nat}{a:Addr}(I:Inv X f B H s)(k:∀b o,b≠a->s.heap.get? b=some o->h'.get? b=some o)(j:H a=none)(h:a≠X.env.locals)
    (A:a∈X.ex\/X.s₀.heap.objs.size<=a)(y:∀x c,X.env.cells.lookup x=some c->c≠a)(w:∀p∈X.pn++f,p.1≠a):Inv X f B H {s with heap:=h',toks:=t'}:=by
 have g:∀b u,H b=some u->b≠a:=λb u e z=>by rw[z,j]at e;cases e
 refine I.step (g':=s.gens) (d':=s.drawn) (ch:=[a]) (λb t=>?_) (λb o _ _ d e _=>k b o (λz=>d<|by simp[z]) e) (λb o _ _ d e _=>⟨o.slots,k b o (λz=>d<|by simp[z]) e⟩) (λ_ _ _ _ n=>n)
  (λb o d e=>⟨o,k b o (λz=>d<|by simp[z]) e⟩) (λ_ _ e=>e) (λ_ _ _ e=>e) (λb F e=>⟨#[],by rw[e];simp⟩) (λm l=>?_) (λb u e=>?_) I.bare
 ·have e:b=a:=by simpa using t
  subst e;exact⟨A,h,y,w⟩
 ·obtain⟨o,D,E,i,r⟩:=l;exact⟨o,D,E,k _ o (bV h) i,r⟩
 ·refine(I.hok b u e).stay (λc v d q=>k c v ?_ q) (λ_ q=>q) λ_ _ q=>q;rcases d with z|z;·rw[z];exact g b u e
  ·exact g c _ z
def Inv.tok(I:Inv X f B H s)(t:Nat):Inv X f B H {s with toks:=t}:=I.un (h':=s.heap) (t':=t) Un.refl I.hok
def Inv.kept{t':Nat}(I:Inv X f B H s)(k:∀b u,s.heap.get? b=some u->h'.get? b=some u):Inv X f B H {s with heap:=h',toks:=t'}:=I.un (Un.kept k) (I.hok.kept k)
def Inv.laid{a:Addr}{o:HO}{t':Nat}(I:Inv X f B H s)(k:∀b u,s.heap.get? b=some u->h'.get? b=some u)(c:s.heap.objs.size<=a)(new:kz X.prog X.w (upd H a o) h' a o):
    Inv X f B (upd H a o) {s with heap:=h',toks:=t'}:=I.un (Un.laid k c<|I.hok.fresh c) (I.hok.laid k c new)
def Inv.write{x e:Addr}{o:HO}{t':Nat}(I:Inv X f B H s)(c:vx<|H x)(d:e=x\/H e=some (.own x))(k:∀b u,b≠e->s.heap.get? b=some u->h'.get? b=some u)(a:∃u,h'.get? e=some u)
    (new:kz X.prog X.w (upd H x o) h' x o):Inv X f B (upd H x o) {s with heap:=h',toks:=t'}:=I.un (Un.write c d k a) (I.hok.write c d k a new)
def Inv.weak{a:List<|Option V}(I:Inv X f B H s)(d:a.length=B.length)(w:∀(i:Nat) v,a[i]?=some (some v)->B[i]?=some (some v)):Inv X f a H s:=
 ⟨I.ok,I.os,I.bare,I.base,let⟨m,c,b⟩:=I.loc;⟨m,c,λi x v h g e=>b i x v h (w i v g) e⟩,I.cell,I.free,I.pC,I.pin,I.hok,d.trans I.len⟩
def Inv.KW{a:List<|Addr×Obj}(I:Inv X f B H s)(h:∀p∈a,s.heap.get? p.1=some p.2/\H p.1=none/\p.1≠X.env.locals/\p.1∉X.fs/\∀v,p.2.data≠.cell v):Inv X a B H s:=
 ⟨I.ok,I.os,I.bare,I.base,I.loc,I.cell,I.free,I.pC,λp b=>(aW.mp b).elim (λz=>I.pin p<|dP _ z) (h p),I.hok,I.len⟩
def J4{N:List Str}(hN:N.Nodup){i j:Nat}{x:Str}(a:N[i]?=some x)(b:N[j]?=some x):i=j:=by obtain⟨g,d⟩:=aB.mp a;obtain⟨e,c⟩:=aB.mp b;exact(List.getElem_inj hN).mp (d.trans c.symm)
def LZ{M:Model}{A:Around}{E:jW}{i:Nat}{x:Str}{v:V}{u:Value}{Q:Unit->Shared->Prop}(I:Inv X f B H s)(hN:X.N.Nodup)(R:X.N[i]?=some x)(D:Loc X.env.scope x)(r:RelV v u)
    (h:∀s',Inv X f (B.set i<|some v) H s'->(∃a,Heap.SameBut a s.heap s'.heap/\(a=X.env.locals\/X.env.cells.lookup x=some a))->Q () s')(hf:X.hf x):wpAny M A (storeName X.env x u) Q E s:=by
 obtain⟨m,hn,hl⟩:=id I.loc;have S:(X.env.scope.kind==.class||(X.env.scope.kind==.module&&X.env.locals !=X.env.globals))=false:=by rw[I.ok.kind];rfl
 have J:i<B.length:=by rw[I.len];exact(aB.mp R).1
 have sR:=I.sR;have l:∀{a:Addr} {h':Heap},(∃o,s.heap.get? a=some o/\H a=none)->Heap.SameBut a s.heap h'->kH X.prog X.w H h':=λ{a h'} ha g b ob e=>by
  obtain⟨_,_,F⟩:=ha;refine(I.hok b ob e).stay (λc W w q=>(g.2 c ?_).trans q) (λ_ q=>q) λ_ _ q=>q
  rintro rfl
  rcases w with rfl|w;·rw[F]at e;cases e
  ·rw[F]at w;cases w
 rcases D with hk|hk
 ·refine wpAny_storeName_local hk hn (λh' yV g=>?_) S;obtain⟨oL,_,_,Q5,_⟩:=id hn;refine h _ ⟨I.ok,I.os,I.bare,⟨λb o e n N D=>?_,λb o e n N D=>?_,I.base.free,λb o e D=>?_,I.base.tups,I.base.pD,I.base.rl⟩,⟨_,yV,λj y Z t G e3=>?_⟩,λy c e=>?_,I.free,I.pC,λp hp=>?_,l ⟨oL,Q5,I.free⟩ g,by simpa using I.len⟩ ⟨_,g,.inl rfl⟩;·exact(g.2 b<|aR<|aH (Heap.lt_size e) I.ok.above).trans (I.base.keep b o e n N D)
  ·obtain⟨sl,t⟩:=I.base.slot b o e n N D;exact⟨sl,(g.2 b<|aR<|aH (Heap.lt_size e) I.ok.above).trans t⟩
  ·obtain⟨o',t⟩:=I.base.there b o e D;exact⟨o',(g.2 b<|aR<|aH (Heap.lt_size e) I.ok.above).trans t⟩
  ·by_cases K:j=i
   ·subst K;rw[R]at t;cases t;rw[aD J]at G;cases G;exact⟨u,r,.inl ⟨hk,by simp⟩⟩
   ·rw[au<|bV K]at G;obtain⟨u',r',q⟩:=hl j y Z t G e3;refine⟨u',r',?_⟩;rcases q with⟨k,e⟩|⟨k,c,e,z⟩
    ·refine .inl ⟨k,?_⟩;have:y≠x:=λe=>K (J4 hN t<|e▸R);simp[this,e]
    ·exact .inr ⟨k,c,e,z.sameBut g<|sR y c e⟩
  ·obtain⟨W,z⟩:=I.cell y c e;exact⟨W,z.sameBut g<|sR y c e⟩
  ·obtain⟨e,n,ne,nf,d⟩:=I.pin p hp;exact⟨(g.2 p.1 ne).trans e,n,ne,nf,d⟩
 ·have L:X.fn x=true:=by
   rcases hf with z|z;·exact z
   ·rw[z]at hk;cases hk
  obtain⟨c,w⟩:=I.ok.has x (.inl hk);obtain⟨W,z⟩:=I.cell x c w;refine wpAny_storeName_cell I.ok.kind hk w z (λh' U g=>?_);obtain⟨oc,P,O⟩:=id z;refine h {s with heap:=h'} ⟨I.ok,I.os,I.bare,⟨λb o e n N D=>?_,λb o e n N D=>?_,I.base.free,λb o e D=>?_,I.base.tups,I.base.pD,I.base.rl⟩,⟨m,hn.sameBut g<|bV<|sR x c w,λj y Z t G e3=>?_⟩,λy Y e=>?_,I.free,I.pC,λp hp=>?_,l ⟨oc,P,I.pC x c w⟩ g,by simpa using I.len⟩ ⟨c,g,.inr w⟩;·exact(g.2 b<|aR<|aH (Heap.lt_size e)<|I.ok.cab x c L w).trans (I.base.keep b o e n N D)
  ·obtain⟨sl,t⟩:=I.base.slot b o e n N D;exact⟨sl,(g.2 b<|aR<|aH (Heap.lt_size e)<|I.ok.cab x c L w).trans t⟩
  ·obtain⟨o',t⟩:=I.base.there b o e D;exact⟨o',(g.2 b<|aR<|aH (Heap.lt_size e)<|I.ok.cab x c L w).trans t⟩
  ·by_cases K:j=i
   ·subst K;rw[R]at t;cases t;rw[aD J]at G;cases G;exact⟨u,r,.inr ⟨.inl hk,c,w,U⟩⟩
   ·rw[au<|bV K]at G;obtain⟨u',r',q⟩:=hl j y Z t G e3;refine⟨u',r',?_⟩;rcases q with q|⟨k,Y,e,z'⟩;·exact .inl q
    ·refine .inr ⟨k,Y,e,z'.sameBut g ?_⟩
     rintro rfl
     exact K (J4 hN t<|I.ok.inj _ _ _ e w▸R)
  ·by_cases T:Y=c;·subst T;exact⟨_,U⟩
   ·obtain⟨w2,z2⟩:=I.cell y Y e;exact⟨w2,z2.sameBut g T⟩
  ·obtain⟨e,n,ne,nf,d⟩:=I.pin p hp;refine⟨(g.2 p.1 ?_).trans e,n,ne,nf,d⟩;intro q;rw[q,P]at e;have q':oc=p.2:=Option.some.inj e;exact d W (by rw[<-q'];exact O)
def w8{M:Model}{A:Around}{E:jW}{i:Nat}{x:Str}{v:V}{u:Value}{Q:Unit->Shared->Prop}(I:Inv X f B H s)(hN:X.N.Nodup)(c:X.N[i]?=some x)(b:Loc X.env.scope x)(r:RelV v u)
    (h:∀a,Inv X f (B.set i<|some v) H a->Q () a)(hf:X.hf x):wpAny M A (storeName X.env x u) Q E s:=
 LZ I hN c b r (λa d _=>h a d) hf
def Inv.GV{s':Shared}{ch:List Addr}(I:Inv X f B H s)(h:s'.os=s.os)(u:Un (frs X.stack) ch H C s.heap s'.heap)(a:kH X.prog X.w C s'.heap)(i:AllBare s'.gens)
    (d:∀b∈ch,(b∈X.ex\/X.s₀.heap.objs.size<=b)/\b≠X.env.locals/\(∀x c,X.env.cells.lookup x=some c->c≠b)/\∀p∈X.pn++f,p.1≠b):Inv X f B C s':=by
 obtain⟨h',g',d',t',g⟩:=s';have e:g=s.os:=h;subst e;exact I.call (g':=g') (t':=t') (d':=d') u a i d
end
abbrev XK:=Value->Option Addr->Hp->Prop
abbrev St:=List (Option V)
abbrev VK:=V->Hp->Prop
abbrev TE:=St->Hp->VK->Prop
abbrev TT:=St->Hp->(Bool->Hp->Prop)->Prop
abbrev TA:=St->Hp->(List V->Hp->Prop)->Prop
structure Ends where
 nx:St->Hp->Prop
 rt:VK
 bk:St->Hp->Prop:=λ_ _=>False
 ct:St->Hp->Prop:=λ_ _=>False
abbrev TS:=Ends->St->Hp->Prop
def EP(X:Cx)(a:List<|Addr×Obj)(c:St)(Q:VK)(u:Value)(d:Shared):Prop:=∃v b,Inv X a c b d/\RelV v u/\Q v b
def TP(X:Cx)(a:List<|Addr×Obj)(d:St)(Q:Bool->Hp->Prop)(b:Bool)(e:Shared):Prop:=∃c,Inv X a d c e/\Q b c
def AP(X:Cx)(a:List<|Addr×Obj)(d:St)(Q:List V->Hp->Prop)(e:List Value)(f:Shared):Prop:=∃b c,Inv X a d c f/\Vals b e/\Q b c
def SP(X:Cx)(b:List<|Addr×Obj)(D:Ends)(f:Flow)(d:Shared):Prop:=
 match f with
 |.next=>∃a c,Inv X b a c d/\D.nx a c
 |.brk=>∃a c,Inv X b a c d/\D.bk a c
 |.cont=>∃a c,Inv X b a c d/\D.ct a c
 |.ret u=>∃v a c,Inv X b a c d/\RelV v u/\D.rt v c
def PE(X:Cx)(e:Expr)(t:TE):Prop:=
 ∀(a:List<|Addr×Obj) (s:Shared) (σ:St) (H:Hp) (Q:VK),Inv X a σ H s->t σ H Q->wpAny (model X.prog X.w) X.A (eval e X.env) (EP X a σ Q) X.xe s
def PT(X:Cx)(e:Expr)(t:TT):Prop:=
 ∀(a:List<|Addr×Obj) (s:Shared) (σ:St) (H:Hp) (Q:Bool->Hp->Prop),Inv X a σ H s->t σ H Q->wpAny (model X.prog X.w) X.A (isTrue e X.env<|eval e X.env) (TP X a σ Q) X.xe s
def PW(X:Cx)(e:Expr)(t:TT):Prop:=
 ∀(a:Sem Value) (pins:List<|Addr×Obj) (s:Shared) (σ:St) (H:Hp) (Q:Bool->Hp->Prop),Inv X pins σ H s->t σ H Q->wpAny (model X.prog X.w) X.A (isTrue e X.env a) (TP X pins σ Q) X.xe s
def PW.pt{t}(h:PW X e t):PT X e t:=h _
def PA(X:Cx)(b:List Expr)(t:TA):Prop:=
 ∀(a:Pos) (pins:List<|Addr×Obj) (s:Shared) (σ:St) (H:Hp) (Q:List V->Hp->Prop),Inv X pins σ H s->t σ H Q->wpAny (model X.prog X.w) X.A (spliced<|backTo a<|starEach b X.env) (AP X pins σ Q) X.xe s
def PS(X:Cx)(b:Stmt)(t:TS):Prop:=
 ∀(a:List<|Addr×Obj) (s:Shared) (σ:St) (H:Hp) (D:Ends),Inv X a σ H s->t D σ H->wpAny (model X.prog X.w) X.A (exec b X.env) (SP X a D) X.xe s
def oI(X:Cx)(b:List Stmt)(t:TS):Prop:=
 ∀(a:List<|Addr×Obj) (s:Shared) (σ:St) (H:Hp) (D:Ends),Inv X a σ H s->t D σ H->wpAny (model X.prog X.w) X.A (execs b X.env) (SP X a D) X.xe s
def ji{b:Type}{t:Sem b}{Q c:b->Shared->Prop}{M:Model}{A:Around}{E:jW}{s:Shared}(h:wpAny M A t Q E s)(d:∀a s,Q a s->c a s):wpAny M A t c E s:=bp h d λ_ _ x=>x
section
variable{X:Cx}
def abR(i:Nat):TE:=λa H Q=>∃v,a[i]?=some (some v)/\Q v H
def tC(v:V):TE:=λ_ H Q=>Q v H
def wI{i:Nat}{x:Str}{g:Pos}(hN:X.N[i]?=some x)(hv:qP X.env.scope x)(j:oi x)(k:(x==("__classdict__":Str))=false):PE X (.Name x g) (abR i):=by
 intro f s o H Q I h;obtain⟨v,e,h⟩:=h;obtain⟨m,p,t⟩:=I.loc;obtain⟨u,r,l⟩:=t i x v hN e hv;have d:EP X f o Q u s:=⟨v,H,I,r,h⟩;rcases l with⟨b,q⟩|⟨b,c,n,a⟩;·exact wpAny_Name (wpAny_loadName_local I.ok.kind b p q d) j
 ·rcases b with b|b;·exact wpAny_Name (wpAny_loadName_cell I.ok.kind b n a d) j
  ·exact wpAny_Name (wpAny_loadName_free I.ok.kind b n a d k) j
def Wo{i j a}:PE X (.Constant (.int i) j a) (tC<|.int i):=λ_ _ _ H _ I h=>wpAny_Constant_int ⟨.int i,H,I.tok _,⟨_,rfl⟩,h⟩
def Wb{b j a}:PE X (.Constant (.bool b) j a) (tC<|.bl b):=λ_ _ _ H _ I h=>Constant_bool ⟨.bl b,H,I,rfl,h⟩
def Dm{j a}:PE X (.Constant .none j a) (tC .non):=λ_ _ _ H _ I h=>Constant_none ⟨.non,H,I,rfl,h⟩
def WB{x j a}:PE X (.Constant (.str x) j a) (tC<|.str x):=λ_ _ _ H _ I h=>Calls.Constant_str ⟨.str x,H,I.tok _,⟨_,rfl⟩,h⟩
def Gl(X:Cx)(x:Str):Prop:=X.env.kindOf x=some .globalImplicit
def Cp{E:jW}{a:List<|Addr×Obj}{s:Shared}{c:St}{H:Hp}{x:Str}{u:Value}{b:Pos}{Q:jW}(I:Inv X a c H s)(e:Gl X x)(d:X.mg x=some u)(h:Q u s)
    (f:oi x):wpAny (model X.prog X.w) X.A (eval (.Name x b) X.env) Q E s:=
 fX I.ok.kind e (Calls.loadGlobal_global (by rw[I.ok.glob];exact I.mod.glob.keeps I.bk) d h) f
def pH{E:jW}{a:List<|Addr×Obj}{s:Shared}{c:St}{H:Hp}{x:Str}{u:Value}{b:Pos}{Q:jW}(I:Inv X a c H s)(f:Gl X x)(e:X.mg x=none)(hv:bootBuiltins x=some u)(h:Q u s)
    (d:x≠"__name__")(g:oi x):wpAny (model X.prog X.w) X.A (eval (.Name x b) X.env) Q E s:=by
 obtain⟨k,j,i⟩:=I.mod.blt;exact fX I.ok.kind f (Calls.loadGlobal_builtin (by rw[I.ok.glob];exact I.mod.glob.keeps I.bk) e (by rw[I.ok.blt];exact j.keeps I.bk) ((i x d).trans hv) h) g
def Wc{u}(c:Gl X x)(b:X.mg x=none)(hv:bootBuiltins x=some u)(r:RelV v u)(a:x≠"__name__")(d:oi x):PE X (.Name x pos) (tC v):=
 λ_ _ _ H _ I h=>pH I c b hv ⟨v,H,I,r,h⟩ a d
variable{a b:Expr}{F M:TE}{A:Pos}
def tB(t:TE):TT:=λd H Q=>t d H λx e=>∃c,x=.bl c/\Q c e
variable{J L:TT}{rest:List Expr}
def abo(t u:TT):TT:=λd H Q=>t d H λc e=>if c=true then u d e Q else Q false e
def tOr(t u:TT):TT:=λd H Q=>t d H λc e=>if c=true then Q true e else u d e Q
def abI(t:TT):TT:=λd H Q=>t d H λc e=>Q (!c) e
def La(g:PT X a J):PW X (.BoolOp .And [a] A) J:=by
 intro i d s f H Q I h;refine isTrue_and (ji (g d s f H Q I h) λc j e=>?_);cases c with
 |true=>exact isTrue_and_nil e
 |false=>exact e
def Lc(g:PT X a J):PW X (.BoolOp .Or [a] A) J:=by
 intro i d s f H Q I h;refine isTrue_or (ji (g d s f H Q I h) λc j e=>?_);cases c with
 |false=>exact isTrue_or_nil e
 |true=>exact e
def K9(m:PT X a J)(l:PW X (.BoolOp .And (b::rest) A) L):PW X (.BoolOp .And (a::b::rest) A) (abo J L):=by
 intro j d s e H Q I h;refine isTrue_and (ji (m d s e H _ I h) λc k ⟨i,g,f⟩=>?_);cases c with
 |true=>exact l j d k e i Q g f
 |false=>exact⟨i,g,f⟩
def Lb(m:PT X a J)(l:PW X (.BoolOp .Or (b::rest) A) L):PW X (.BoolOp .Or (a::b::rest) A) (tOr J L):=by
 intro j d s e H Q I h;refine isTrue_or (ji (m d s e H _ I h) λc k ⟨i,g,f⟩=>?_);cases c with
 |true=>exact⟨i,g,f⟩
 |false=>exact l j d k e i Q g f
def Xd(f:PT X a J):PT X (.UnaryOp .Not a A) (abI J):=by intro d s e H Q I h;exact isTrue_not (f d s e H (λc g=>Q (!c) g) I h)
def abp(F M:TE):TE:=λd H Q=>F d H λx e=>∃c,x=.bl c/\if c=true then M d e Q else Q (.bl false) e
def abJ(F:TE):TE:=λd H Q=>F d H λx e=>∃c,x=.bl c/\Q (.bl<|!c) e
def Wv{e t}(h:PE X a t):PE X (.BoolOp e [a] A) t:=λc s d H Q I f=>BoolOp_one (h c s d H Q I f)
def V9(n:PE X a F)(m:PE X (.BoolOp .And (b::rest) A) M):PE X (.BoolOp .And (a::b::rest) A) (abp F M):=by
 intro d s g H Q I h;refine BoolOp_and (ji (n d s g H _ I h) λv k f=>?_);obtain⟨x,j,i,l,e⟩:=f;obtain⟨c,rfl,e⟩:=e;cases l;refine c9 ?_;cases c with
 |true=>exact m d k g j Q i e
 |false=>exact⟨.bl false,j,i,rfl,e⟩
def KJ(j:PE X a F):PE X (.UnaryOp .Not a A) (abJ F):=by intro d s g H Q I h;refine UnaryOp_ (ji (j d s g H _ I h) λv m f=>?_);obtain⟨x,l,k,i,e⟩:=f;obtain⟨c,rfl,e⟩:=e;cases i;exact not_of (c9 ⟨.bl<|!c,l,k,rfl,e⟩)
def tIf(t:TT)(F M:TE):TE:=λd H Q=>t d H λc e=>if c=true then F d e Q else M d e Q
def Wn{c:Expr}(l:PT X c J)(n:PE X a F)(m:PE X b M):PE X (.IfExp c a b A) (tIf J F M):=by
 intro e s f H Q I h;refine wpAny_IfExp (ji (l e s f H _ I h) λd g ⟨k,j,i⟩=>?_);cases d with
 |true=>exact n e g f k Q j i
 |false=>exact m e g f k Q j i
def k7(K:W.Frag)(H:Hp)(a:Addr)(d:List V):Prop:=
 Rd H a (.lst d)\/
  ∃(o:Obj) (c:Array Value) (n:Nat),K.lookup a=some o/\o.cls=.type "list"/\o.dict=none/\o.data=.seq c n/\c.size<=sizeLine/\Vals d c.toList
def mF(K:W.Frag)(H:Hp)(a:Addr)(d:List V):Prop:=
 Rd H a (.tup d)\/
  ∃(o:Obj) (c:Array Value) (n:Nat),K.lookup a=some o/\o.cls=.type "tuple"/\o.data=.seq c n/\c.size<=sizeLine/\Vals d c.toList
def NK:Value->Option V
 |.none=>some .non
 |.bool b=>some (.bl b)
 |.int i _=>some (.int i)
 |.str x _=>some (.str x)
 |.bytes b _=>some (.nG b)
 |.float b _=>some (.flt b)
 |.ref a=>some (.ref a)
 |.type n=>some (.ty n)
 |_=>none
def RelV.abs{u}(r:RelV x u):NK u=some x:=by
 cases x with
 |non=>cases r;rfl
 |bl _=>cases r;rfl
 |int _=>obtain⟨t,rfl⟩:=r;rfl
 |str _=>obtain⟨t,rfl⟩:=r;rfl
 |nG _=>obtain⟨t,rfl⟩:=r;rfl
 |flt _=>obtain⟨t,rfl⟩:=r;rfl
 |ref _=>cases r;rfl
 |ty _=>cases r;rfl
def RelV.inj{x y:V}{u:Value}(r:RelV x u)(q:RelV y u):x=y:=Option.some.inj (r.abs.symm.trans q.abs)
theorem Vals.inj:∀{d c:List V} {e:List Value},Vals d e->Vals c e->d=c
 |_,_,_,.nil,.nil=>rfl
 |_,_,_,.cons r t,.cons g f=>by rw[r.inj g,Vals.inj t f]
variable{f:List<|Addr×Obj}{B:St}{H:Hp}{s:Shared}{a:Addr}{C N:List V}
def Inv.list(I:Inv X f B H s)(h:k7 X.K H a C):∃c:List Value,Vals C c/\PlainL s.heap a c.toArray/\C.length<=sizeLine:=by
 rcases h with h|⟨o,c,n,hk,hc,hd,hs,hz,r⟩
 ·obtain⟨z,c,n,r,e⟩:=h.ok I.hok;exact⟨c,r,⟨_,n,e,rfl,rfl,rfl⟩,z⟩
 ·refine⟨c.toList,r,⟨o,n,I.l5 a o hk,hc,hd,by simpa using hs⟩,?_⟩;have e:=r.length;simp only[aC]at e;omega
def Inv.tuple(I:Inv X f B H s)(h:mF X.K H a C):∃c:List Value,Vals C c/\IsTup s.heap a c.toArray/\C.length<=sizeLine:=by
 rcases h with h|⟨o,c,n,hk,hc,hs,hz,r⟩
 ·obtain⟨z,c,r,p⟩:=h.ok I.hok;exact⟨c,r,p,z⟩
 ·refine⟨c.toList,r,⟨o,I.l5 a o hk,hc,n,by simpa using hs⟩,?_⟩;have e:=r.length;simp only[aC]at e;omega
def Inv.SY(I:Inv X f B H s)(h:k7 X.K H a C)(l:k7 X.K H a N):C=N:=by
 obtain⟨g,r,⟨o,n,e,_,_,d⟩,_⟩:=I.list h;obtain⟨c,k,⟨m,p,i,_,_,j⟩,_⟩:=I.list l;rw[e]at i;cases i;rw[d]at j;injection j with d1 _;have:g=c:=by simpa using bG Array.toList d1
 subst this;exact r.inj k
def Inv.ab4(I:Inv X f B H s)(h:mF X.K H a C)(l:mF X.K H a N):C=N:=by
 obtain⟨g,r,⟨o,e,_,n,d⟩,_⟩:=I.tuple h;obtain⟨c,k,⟨m,i,_,p,j⟩,_⟩:=I.tuple l;rw[e]at i;cases i;rw[d]at j;injection j with d1 _;have:g=c:=by simpa using bG Array.toList d1
 subst this;exact r.inj k
end
section
variable{X:Cx}{l:Stmt}{rest:List Stmt}{t u:TS}{e:Expr}{j:TE}{i:Pos}
def abG:TS:=λD a H=>D.nx a H
def abO(t u:TS):TS:=λD a H=>t {D with nx:=u D} a H
def K6:oI X [] abG:=λ_ _ a H _ I h=>fP ⟨a,H,I,h⟩
def K5(k:PS X l t)(g:oI X rest u):oI X (l::rest) (abO t u):=by
 intro a s c H D I h;refine wpAny_execs_cons (ji (k a s c H {D with nx:=u D} I h) λf d q=>?_);cases f with
 |next=>obtain⟨b,n,m,q⟩:=q;exact g a d b n D m q
 |ret v=>exact q
 |brk=>exact q
 |cont=>exact q
def K7(c:PS X l t):oI X [l] t:=by
 intro a s b H D I h;refine wpAny_execs_cons (ji (c a s b H D I h) λf d q=>?_);cases f with
 |next=>exact fP q
 |ret v=>exact q
 |brk=>exact q
 |cont=>exact q
def abr:TS:=λD a H=>D.bk a H
def W5:PS X (.Break i) abr:=λ_ _ a H _ I h=>wpAny_Break ⟨a,H,I,h⟩
def Inv.quiet{s}(I:Inv X pins σ H s):interactive X.env=false:=by simp[interactive,I.ok.kind]
def abz(j:TE):TS:=λD a H=>j a H λ_ b=>D.nx a b
def K1(f:PE X e j)(d:swapsWith e none i.line X.env=pure false):PS X (.Expr e i) (abz j):=by intro a s b H D I h;exact wpAny_Expr_any (ji (f a s b H _ I h) λv m ⟨x,k,g,n,c⟩=>⟨b,k,g,c⟩) I.quiet d
def abN(j:TE):TS:=λD a H=>j a H D.rt
def K4(f:PE X e j):PS X (.Return (some e) i) (abN j):=by intro a s b H D I h;exact wpAny_Return_some (ji (f a s b H _ I h) λv m ⟨x,k,g,c,d⟩=>⟨x,b,k,g,c,d⟩)
def abC(c:TT)(t u:TS):TS:=λD a H=>c a H λb d=>if b=true then t D a d else u D a d
def K3(p:PT X c tc)(r:oI X a t)(q:oI X b u):PS X (.If c a b i) (abC tc t u):=by
 intro f s g H D I h;refine wpAny_If (ji (p f s g H _ I h) λd k ⟨o,n,m⟩=>?_);cases d with
 |true=>exact r f k g o D n m
 |false=>exact q f k g o D n m
end
abbrev TG:=V->St->Hp->(St->Hp->Prop)->Prop
def PG(X:Cx)(a:Expr)(t:TG):Prop:=
 ∀b s d H v u Q,Inv X b d H s->RelV v u->t v d H Q->
  wpAny (model X.prog X.w) X.A (assign a X.env u) (λ_ f=>∃c e,Inv X b c e f/\Q c e) X.xe s
abbrev F5:=V->V->V->Hp->(Hp->Prop)->Prop
def FY(X:Cx)(t:F5):Prop:=
 ∀a s b H o i v c d u Q,Inv X a b H s->RelV o c->RelV i d->RelV v u->t o i v H Q->
  wpAny (model X.prog X.w) X.A (setItem c d u) (λ_ f=>∃e,Inv X a b e f/\Q e) X.xe s
abbrev xO:=V->V->Hp->VK->Prop
def xK(X:Cx)(c:Operator)(t:xO):Prop:=
 ∀a s b H x y v u Q,Inv X a b H s->RelV x v->RelV y u->t x y H Q->
  wpAny (model X.prog X.w) X.A (inplaceOp c v u) (EP X a b Q) X.xe s
section
variable{X:Cx}{A:Pos}
def sZ(i:Nat):TG:=λv a H Q=>Q (a.set i<|some v) H
def zA(hN:X.N.Nodup)(c:X.N[i]?=some x)(b:Loc X.env.scope x)(hf:X.hf x):PG X (.Name x A) (sZ i):=by intro a s e H v u Q I r h;exact wpAny_assign_Name (w8 I hN c b r (λf d=>⟨_,H,d,h⟩) hf)
def P0(to b:TE)(t:F5):TG:=λv a H Q=>to a H λo e=>b a e λi d=>t o i v d λc=>Q a c
def WH{to t}(q:PE X o to)(w:PE X i ti)(p:FY X t)
 (z:∀v,assign (.Subscript o i A) X.env v=(do
 let c<-holding [v] (eval o X.env)
 let d<-holding [v,c] (eval i X.env)
 standAt A
 holding [v,c,d] (setItem c d v)
 release [v,c,d] [])):PG X (.Subscript o i A) (P0 to ti t):=by intro a s e H v u Q I r h;rw[z];refine ae (bD<|ji (q a s e H _ I h) λc g b=>?_);obtain⟨x,G,D,k,n⟩:=b;refine ae (bD<|ji (w a g e G _ D n) λd f b=>?_);obtain⟨y,F,C,j,m⟩:=b;refine ae (fH<|ae<|bD<|ji (p a f e F x y v c d u _ C k j r m) λ_ J ⟨E,B,l⟩=>?_);exact wpAny_release ⟨e,E,B,l⟩
def EF(b:TE)(g:TG):TS:=λD a H=>b a H λx c=>g x a c D.nx
def W2{g}(m:PE X e te)(l:PG X tg g)(k:swapsWithSole [tg] e A.line X.env=pure false)(j:swappedStores [tg] e X.env=pure none)
 (n:(assignEach [tg] X.env).map (·.2)=[assign tg X.env]):PS X (.Assign [tg] e A) (EF te g):=by intro a s c H D I h;refine wpAny_Assign_stores (ji (m a s c H _ I h) λv d b=>?_) k j;obtain⟨x,p,o,f,i⟩:=b;rw[n];exact ji (l a d c p x v _ o f i) λ_ r q=>q
def Ds(hN:X.N.Nodup)(k:X.N[i]?=some x)(g:Loc X.env.scope x)(l:PE X e te)(j:swapsWith e (some<|.Name x pos') A.line X.env=pure false)(hf:X.hf x):
    PS X (.Assign [.Name x pos'] e A) (EF te<|sZ i):=by
 intro a s c H D I h;refine wpAny_Assign_Name (ji (l a s c H _ I h) λv q b=>?_) j;obtain⟨y,o,n,d,f⟩:=b;exact w8 n hN k g d (λp m=>⟨_,o,m,f⟩) hf
def abK(i j:Nat)(c:TA):TS:=λD a H=>c a H λb d=>∃v w,b=[v,w]/\D.nx ((a.set i<|some v).set j (some w)) d
def W8{pt n r d}(S:X.calm=true)(hN:X.N.Nodup)(R:X.N[i]?=some x)(Q:X.N[j]?=some y)(z:i≠j)
 (E:X.env.scope.names.lookup x=some .local)(C:X.env.scope.names.lookup y=some .local)(T:PA X [a,b] ta)
 (O:swappedStores [.Tuple [.Name x px,.Name y py] n pt] (.Tuple [a,b] r d) X.env=pure (some [x,y]))
 (P:swapsWithSole [.Tuple [.Name x px,.Name y py] n pt] (.Tuple [a,b] r d) A.line X.env=pure false):
   PS X (.Assign [.Tuple [.Name x px,.Name y py] n pt] (.Tuple [a,b] r d) A) (abK i j ta):=by
  intro c s B H D I h;rw[exec_Assign_arm];refine ae (fH ?_);rw[P];refine ae (af ?_);rw[aw<|by decide];refine ae (Tuple_<|ji (T _ c s B H _ I h) λJ k u=>?_);obtain⟨vs,G,Z,L,m⟩:=u;obtain⟨v,w,U,m⟩:=m;subst U;obtain⟨g,f,rfl,K,l⟩:∃g f,J=[g,f]/\RelV v g/\RelV w f:=by
   cases L with
   |cons p q=>
    cases q with
    |cons N M=>cases M;exact⟨_,_,rfl,p,N⟩
  refine aY ?_ (by show 2<=sizeLine;decide);have Y:Inv X c B G {k with heap:=k.heap.push {cls:=.type "tuple",data:=.seq [g,f].toArray}}:=Z.kept (t':=k.toks) λb o e=>ag _ e;rw[O];refine ae (af ?_);show wpAny (model X.prog X.w) X.A (do rule "assign.swapped-stores";let items<-unpackItems (.ref k.heap.objs.size) 2 none;assignInOrder [λv=>bindName X.env y v,λv=>bindName X.env x v] items.reverse;pure Flow.next) _ _ _;refine ae (gM<|ae<|unpackItems_tuple (items:=#[g,f]) (I.ok.hd S) (IsTup.new k.heap _) λh' t=>?_);have W:=Y.kept (h':=h') (t':=k.toks) λb o e=>t b o (aR<|Heap.lt_size e) e;show wpAny _ _ (assignInOrder [λv=>bindName X.env y v,λv=>bindName X.env x v] [f,g]>>=λ_=>pure Flow.next) _ _ _;refine ae (assignInOrder_cons<|ic<|w8 W hN Q (.inl C) l (λs2 V=>?_)<|.inr C);refine assignInOrder_cons (ic<|w8 V hN R (.inl E) K (λs3 F=>assignInOrder_nil<|af ?_)<|.inr E);rw[List.set_comm _ _<|bV z]at F;exact⟨_,G,F,m⟩
def abq(i:Nat)(c:TE)(b:xO):TS:=λD a H=>∃x,a[i]?=some (some x)/\c a H λy e=>b x y e λz d=>D.nx (a.set i<|some z) d
def W4(hN:X.N.Nodup)(q:X.N[i]?=some x)(o:Loc X.env.scope x)(N:PE X e te)(J:xK X op ti)(hf:X.hf x):
    PS X (.AugAssign (.Name x pos') op e A) (abq i te ti):=by
 intro a s p H D I h;obtain⟨v,P,h⟩:=h;obtain⟨m,K,M⟩:=I.loc;have n:qP X.env.scope x:=by rcases o with k|k;exact .inl k;exact .inr (.inl k)
 obtain⟨u,r,l⟩:=M i x v q P n;refine wpAny_AugAssign_Name ?_;have t:wpAny (model X.prog X.w) X.A (eval e X.env) (λw j=>wpAny (model X.prog X.w) X.A (inplaceOp op u w) (λr g=>wpAny (model X.prog X.w) X.A (storeName X.env x r) (λ_=>SP X a D .next) X.xe g) X.xe j) X.xe s:=by refine ji (N a s p H _ I h) λw B d=>?_;obtain⟨y,U,S,E,G⟩:=d;refine ji (J a B p U v y u w _ S r E G) λz Y d=>?_;obtain⟨V,T,R,C,F⟩:=d;exact w8 R hN q o C (λW Q=>⟨_,T,Q,F⟩) hf
 rcases l with⟨b,L⟩|⟨b,c,O,f⟩;·exact wpAny_loadName_local I.ok.kind b K L t
 ·rcases b with b|b;·exact wpAny_loadName_cell I.ok.kind b O f t
  ·rcases o with k|k
   ·have:X.env.scope.names.lookup x=some .free:=b;rw[k]at this;cases this
   ·have:X.env.scope.names.lookup x=some .free:=b;rw[k]at this;cases this
def Ja(f:Int->Int->Int):xO:=λx y H Q=>∃i j,x=.int i/\y=.int j/\Q (.int<|f i j) H
def RD:xK X .Add (Ja λi j=>i+j):=by intro a s f H x y v u Q I c b h;obtain⟨i,j,e,d,q⟩:=h;subst e;subst d;obtain⟨t,rfl⟩:=c;obtain⟨g,rfl⟩:=b;exact iadd_int ⟨.int _,H,I.tok _,⟨_,rfl⟩,q⟩
def RF:xK X .Sub (Ja λi j=>i - j):=by intro a s f H x y v u Q I c b h;obtain⟨i,j,e,d,q⟩:=h;subst e;subst d;obtain⟨t,rfl⟩:=c;obtain⟨g,rfl⟩:=b;exact isub_int ⟨.int _,H,I.tok _,⟨_,rfl⟩,q⟩
def abS(c:TT)(h:TS):TS:=λD a H=>∃W:Nat->St->Hp->Prop,(∃m,W m a H)/\∀m a H,W m a H->
 c a H λb f=>if b=true then∃N:St->Hp->Prop,(∀d g,N d g->∃e,e<m/\W e d g)/\h {D with nx:=N,ct:=N,bk:=D.nx} a f else D.nx a f
def Xb(t:PassesOwn (model X.prog X.w) X.A X.env X.xe)(K:PT X c tc)(L:oI X body tb):PS X (.While c body [] A) (abS tc tb):=by
 intro d s z H D I h;obtain⟨W,⟨J,C⟩,i⟩:=h;refine wpAny_While (codeAny_whileLoop (λn G=>∃g y,Inv X d g y G/\W n g y) ?_ J ⟨z,H,I,C⟩)
 rintro n F ⟨e,x,M,B⟩
 refine c6 t (ji (K d F e x _ M<|i n e x B) λb E ⟨w,u,l⟩=>?_);cases b with
 |true=>
  obtain⟨N,hN,l⟩:=l;rw[av rfl];refine c6 t (ji (L d E e w _ u l) λf O k=>?_);cases f with
  |next=>obtain⟨a,j,r,o⟩:=k;obtain⟨p,q,m⟩:=hN a j o;exact⟨p,q,a,j,r,m⟩
  |cont=>obtain⟨a,j,r,o⟩:=k;obtain⟨p,q,m⟩:=hN a j o;exact⟨p,q,a,j,r,m⟩
  |brk=>exact k
  |ret v=>exact k
 |false=>rw[aw ax];exact fP ⟨e,w,u,l⟩
end
structure It where
 go:Nat->Hp->Prop
 xm:Nat->Hp->V->Hp->Prop
 stop:Nat->Hp->Prop
def ry(X:Cx)(a:List<|Addr×Obj)(H:Hp)(b:Addr):Prop:=
 H b=none/\b≠X.env.locals/\b∉X.fs/\(b∈X.ex\/X.s₀.heap.objs.size<=b)/\(∀x c,X.env.cells.lookup x=some c->c≠b)/\∀p∈X.pn++a,p.1≠b
def Inv.uw{d:Hp}{s}(I:Inv X pins σ H s)(a:s.heap.objs.size<=b)(g:d b=none):ry X pins d b:=by
 refine⟨g,da<|aH I.lt a,I.UG a,.inr<|aU I.sz a,λx c e z=>?_,λp f z=>?_⟩
 ·obtain⟨v,q⟩:=I.cell x c e;exact absurd (aH q.lt (by rw[z];exact a)) (cM _)
 ·exact absurd (aH (Heap.lt_size (I.pin p f).1)<|by rw[z];exact a) (cM _)
structure Turn(P:Program)(w:World)(K:W.Frag)(tg:Expr)(J:It)(fp:List Addr)(it:Addr)(tn:Nat->Heap->Prop):Prop where
 mem:it∈fp
 obj:∀i h,tn i h->∀b∈fp,∃o,h.get? b=some o/\∀v,o.data≠.cell v
 keep:∀i h h',tn i h->(∀b∈fp,∀o,h.get? b=some o->h'.get? b=some o)->tn i h'
 item:∀(X:Cx),X.prog=P->X.w=w->X.K=K->X.calm=true->∀(i:Nat) (pins:List<|Addr×Obj) (s:Shared) (σ:St) (H:Hp) (E:jW),Inv X pins σ H s->(∀b∈fp,ry X pins H b)->tn i s.heap->J.go i H->
  wpAny (model P w) X.A (pyNext (.ref it)) (λr s1=>∃u,r=some u/\
   wpAny (model P w) X.A (letOwnedTupleGo tg (.ref it) u) (λ_ s2=>∃x H',Inv X pins σ H' s2/\RelV x u/\J.xm i H x H'/\tn (i+1) s2.heap/\∀b∈fp,H' b=none) E s1) E s
 done:∀(X:Cx),X.prog=P->X.w=w->X.K=K->X.calm=true->∀(i:Nat) (pins:List<|Addr×Obj) (s:Shared) (σ:St) (H:Hp) (E:jW),Inv X pins σ H s->(∀b∈fp,ry X pins H b)->tn i s.heap->J.stop i H->
  wpAny (model P w) X.A (pyNext<|.ref it) (λr s1=>r=none/\Inv X pins σ H s1) E s
 self:∀(A:Around) (i:Nat) (s:Shared) (Q:jW) (E:jW),tn i s.heap->Q (.ref it) s->wpAny (model P w) A (pyIter<|.ref it) Q E s
abbrev TI:=St->Hp->(It->Hp->Prop)->Prop
def PIE(X:Cx)(a:List<|Addr×Obj)(i:St)(j:Expr)(R:It->Hp->Prop)(c:Value)(f:Shared):Prop:=
 ∃g h e J d,c=.ref g/\Inv X a i d f/\Turn X.prog X.w X.K j J h g e/\e 0 f.heap/\(∀b∈h,ry X a d b)/\R J d
def PI(X:Cx)(e b:Expr)(d:TI):Prop:=
 ∀a s c H R,Inv X a c H s->d c H R->
  wpAny (model X.prog X.w) X.A (eval b X.env) (λv f=>wpAny (model X.prog X.w) X.A (pyIter v) (PIE X a c e R) X.xe f) X.xe s
def td{s:Shared}{u n}{Q:Unit->Shared->Prop}(b:s.heap.get? it=some o)(e:o.cls=.type n)(d:o.data=.fields vs)
 (c:["enumerate","zip","dict_itemiterator","dict_reverseitemiterator","odict_iterator","itertools.zip_longest","itertools.pairwise"].contains n=false)(a:Q () s):wpAny M A (letOwnedTupleGo tg (.ref it) u) Q E s:=by
  unfold letOwnedTupleGo
  cases tg<;>first
   |exact af a
   |(cases u<;>first
      |exact af a
      |(refine ae (wpAny_load b ?_)
        rw[e,d];show wpAny M A (if(["enumerate","zip","dict_itemiterator","dict_reverseitemiterator","odict_iterator","itertools.zip_longest","itertools.pairwise"].contains n&&vs[0]?==some (rawInt _))=true then _ else _) Q E s;rw[aw (by intro h;rw[c,Bool.false_and]at h;cases h)];exact af a))
def AL(K:W.Frag)(a:Addr):It:=
 ⟨λi H=>∃b x,k7 K H a b/\b[i]?=some x,λi H x c=>c=H/\∀b,k7 K H a b->b[i]?=some x,λi H=>∃b,k7 K H a b/\b.length<=i⟩
def AM(K:W.Frag)(a:Addr):It:=
 ⟨λi H=>∃b x,mF K H a b/\b[i]?=some x,λi H x c=>c=H/\∀b,mF K H a b->b[i]?=some x,λi H=>∃b,mF K H a b/\b.length<=i⟩
def xG(lo:Int)(n:Nat):It:=⟨λi _=>i<n,λi H x a=>a=H/\x=.int (lo+i),λi _=>n<=i⟩
def ab8{P:Program}{w:World}{K:W.Frag}{R:Expr}(a j:Addr):Turn P w K R (AL K a) [j] j (λi h=>h.IsListIter j a i) where
 mem:=by simp
 obj:=λi h f b l=>by
  have e:b=j:=by simpa using l
  subst e;obtain⟨o,e,c,d⟩:=f;exact⟨o,e,λv z=>by rw[d]at z;cases z⟩
 keep:=λi h q f k=>f.at λo e=>k j (by simp) o e
 item:=by intro X C A D O i g s N H E I hf f B;subst C A D;obtain⟨Q,x,n,y⟩:=B;obtain⟨t,r,p,U⟩:=I.list n;obtain⟨u,Y,T⟩:=r.get y;obtain⟨M,L,Z,J,G,F⟩:=hf j (by simp);refine wpAny_pyNext_list_item f p.isList (x:=u) (by simpa using Y) λq m S=>?_;have I1:Inv X g N H {s with heap:=q}:=I.turned (t':=s.toks) (λb o l e=>(S.2 b l).trans e) M L J G F;obtain⟨o,e,c,d⟩:=id m;exact⟨u,rfl,td (s:={s with heap:=q}) e c d (by decide) ⟨x,H,I1,T,⟨rfl,λys V=>by rw[I.SY V n];exact y⟩,m,λb l=>(hf b l).1⟩⟩
 done:=by intro X C A D O i g s N H E I hf f B;subst C A D;obtain⟨Q,n,y⟩:=B;obtain⟨t,r,p,U⟩:=I.list n;obtain⟨M,L,Z,J,G,F⟩:=hf j (by simp);have hl:=r.length;exact wpAny_pyNext_list_end (I.ok.hd O) f p.isList (by simp;omega) λq eb=>⟨rfl,I.turned (t':=s.toks) (λb o l e=>eb b o l e) M L J G F⟩
 self:=λ_ _ _ _ _ f h=>wpAny_pyIter_listiter f h
def aca{P:Program}{w:World}{K:W.Frag}{R:Expr}(a l:Addr):Turn P w K R (AM K a) [l] l (λi h=>h.IsTupleIter l a i) where
 mem:=by simp
 obj:=λi h f b m=>by
  have e:b=l:=by simpa using m
  subst e;obtain⟨o,e,c,d⟩:=f;exact⟨o,e,λv z=>by rw[d]at z;cases z⟩
 keep:=λi h r f k=>f.at λo e=>k l (by simp) o e
 item:=by intro X C A D O i g s N H E I hf f B;subst C A D;obtain⟨Q,x,q,y⟩:=B;obtain⟨j,t,p,U⟩:=I.tuple q;obtain⟨u,Y,T⟩:=t.get y;obtain⟨M,L,Z,J,G,F⟩:=hf l (by simp);refine wpAny_pyNext_tuple_item f (show s.heap.IsTuple a j.toArray from p) (x:=u) (by simpa using Y) λr n S=>?_;have I1:Inv X g N H {s with heap:=r}:=I.turned (t':=s.toks) (λb o m e=>(S.2 b m).trans e) M L J G F;obtain⟨o,e,c,d⟩:=id n;exact⟨u,rfl,td (s:={s with heap:=r}) e c d (by decide) ⟨x,H,I1,T,⟨rfl,λys V=>by rw[I.ab4 V q];exact y⟩,n,λb m=>(hf b m).1⟩⟩
 done:=by intro X C A D O i g s N H E I hf f B;subst C A D;obtain⟨Q,q,y⟩:=B;obtain⟨j,t,p,U⟩:=I.tuple q;obtain⟨M,L,Z,J,G,F⟩:=hf l (by simp);have hl:=t.length;exact wpAny_pyNext_tuple_end (I.ok.hd O) f (show s.heap.IsTuple a j.toArray from p) (by simp;omega) λr eb=>⟨rfl,I.turned (t':=s.toks) (λb o m e=>eb b o m e) M L J G F⟩
 self:=λ_ _ _ _ _ f h=>wpAny_pyIter_tupleiter f h
def ab9{P:Program}{w:World}{K:PySem.W.Frag}{F:Expr}(d:Addr)(lo:Int)(n:Nat):Turn P w K F (xG lo n) [d] d (λi h=>IsRangeIter h d (lo+(i:Nat)*1) ((n:Int) - (i:Nat)) 1) where
 mem:=by simp
 obj:=λi h a b f=>by
  have e:b=d:=by simpa using f
  subst e;exact⟨_,a,λv z=>by have D:Data.fields _=Data.cell v:=z;cases D⟩
 keep:=λi h j a k=>k d (by simp) _ a
 item:=by intro X q l r p i c s C H E I hf a m;subst q l r;obtain⟨B,A,J,y,x,u⟩:=hf d (by simp);have W:=Walks.range (prog:=X.prog) (w:=X.w) (I.ok.hd p) d lo 1 n;refine W.item i s _ _ m a λv j tk hv g G=>?_;obtain⟨t,rfl⟩:=hv;have M:Inv X c C H {s with heap:=j,toks:=tk}:=I.turned (λb o f e=>G b o (by simpa using f) e) B A y x u;refine⟨_,rfl,td (s:={s with heap:=j,toks:=tk}) (n:="range_iterator") g rfl rfl (by decide) ⟨.int<|lo+i,H,M,⟨t,?_⟩,⟨rfl,rfl⟩,g,λb f=>(hf b f).1⟩⟩;rw[iK]
 done:=by intro X q l r p i c s C H E I hf a m;subst q l r;obtain⟨B,A,J,y,x,u⟩:=hf d (by simp);exact wpAny_pyNext_range_end (I.ok.hd p) a (by have:n<=i:=m;omega) λj L=>⟨rfl,I.turned (t':=s.toks) (λb o f e=>L b o f e) B A y x u⟩
 self:=λ_ _ _ _ _ a h=>wpAny_pyIter_rangeiter a h
section
variable{X:Cx}{U:Expr}
def Rq(K:W.Frag)(e:TE):TI:=λc H R=>e c H λx b=>∃a,x=.ref a/\(∃d,k7 K b a d)/\R (AL K a) b
def Ru(K:W.Frag)(e:TE):TI:=λc H R=>e c H λx b=>∃a,x=.ref a/\(∃d,mF K b a d)/\R (AM K a) b
def WK{l:Expr}{i:TE}(t:PE X l i):PI X U l (Rq X.K i):=by
 intro c s j H R I h;refine ji (t c s j H _ I h) λv d g=>?_;obtain⟨x,w,f,k,m⟩:=g;obtain⟨a,e,⟨y,r⟩,q⟩:=m;subst e;cases k;obtain⟨n,z,p,A⟩:=f.list r;refine eN p.isList ?_;refine⟨d.heap.objs.size,[d.heap.objs.size],_,_,w,rfl,f.kept (t':=d.toks) λb o e=>ag _ e,ab8 a _,⟨_,aG _ rfl,rfl,rfl⟩,λb u=>?_,q⟩;have e:b=d.heap.objs.size:=by simpa using u
 subst e;exact f.uw (ah _) (f.hok.fresh<|ah _)
def WO{l:Expr}{j:TE}(t:PE X l j):PI X U l (Ru X.K j):=by
 intro d s k H R I h;refine ji (t d s k H _ I h) λv c i=>?_;obtain⟨x,w,f,m,n⟩:=i;obtain⟨a,e,⟨y,r⟩,q⟩:=n;subst e;cases m;obtain⟨g,z,p,A⟩:=f.tuple r;refine wpAny_pyIter_tuple (show c.heap.IsTuple a g.toArray from p) ?_;refine⟨c.heap.objs.size,[c.heap.objs.size],_,_,w,rfl,f.kept (t':=c.toks) λb o e=>ag _ e,aca a _,⟨_,aG _ rfl,rfl,rfl⟩,λb u=>?_,q⟩;have e:b=c.heap.objs.size:=by simpa using u
 subst e;exact f.uw (ah _) (f.hok.fresh<|ah _)
def Z6{s}{R:It->Hp->Prop}{lo a:Int}{t u v:Tok}{tk:Nat}(I:Inv X pins σ H s)(i: -(2^62)<=lo)(h:lo<2^62)(g: -(2^62)<=a)(f:a<2^62)
 (q:R (xG lo (a - lo).toNat) H):wpAny (model X.prog X.w) X.A (pyIter<|.ref s.heap.objs.size) (PIE X pins σ U R) E {s with heap:=s.heap.push {cls:=.type "range",data:=.fields #[.int lo t,.int a u,.int 1 v]},toks:=tk}:=by
  refine wpAny_pyIter_range (IsRange.new ..) (small_one i h g f) ?_;have c:Inv X pins σ H {s with heap:=s.heap.push {cls:=.type "range",data:=.fields #[.int lo t,.int a u,.int 1 v]},toks:=tk}:=I.kept λb o e=>ag _ e
  refine⟨(s.heap.push {cls:=.type "range",data:=.fields #[.int lo t,.int a u,.int 1 v]}).objs.size,[(s.heap.push {cls:=.type "range",data:=.fields #[.int lo t,.int a u,.int 1 v]}).objs.size],_,_,H,rfl,
   c.kept (t':=tk) λb o e=>ag _ e,ab9 _ lo (a - lo).toNat,?_,λb d=>?_,q⟩
  ·have k:lo+((0:Nat):Int)*1=lo:=by simp
   have j:(((a - lo).toNat:Nat):Int) - ((0:Nat):Int)=Builtin.Range.rangeSize lo a 1:=by rw[rangeSize_one];split<;>omega
   show IsRangeIter _ _ (lo+((0:Nat):Int)*1) ((((a - lo).toNat:Nat):Int) - ((0:Nat):Int)) 1;rw[k,j];exact aG _ rfl
  ·have e:b=(s.heap.push {cls:=.type "range",data:=.fields #[.int lo t,.int a u,.int 1 v]}).objs.size:=by simpa using d
   subst e;exact c.uw (ah _) (c.hok.fresh<|ah _)
def Rr(c:TA):TI:=λa H R=>c a H λb d=>∃j:Int,b=[.int j]/\ -(2^62)<=j/\j<2^62/\R (xG 0 j.toNat) d
def WL(n:Gl X "range")(m:X.mg "range"=none)(o:PA X [a] ta)(l:starEach [a] X.env=[(false,eval a X.env)]):PI X U (.Call (.Name "range" p) [a] [] pos) (Rr ta):=by
 intro b s f H R I h;refine Call_ (pH I n m boot_range (cE (ji (o pos b s f H _ I h) λw x d=>?_) l rfl) (by decide)<|by decide);obtain⟨v,y,u,i,c⟩:=d;obtain⟨j,e,c,k,q⟩:=c;subst e;cases i with
 |cons r g=>cases g;obtain⟨t,rfl⟩:=r;exact call_range_1 (Z6 u (by omega) (by omega) c k<|by simpa using q)
def abB(f:TI)(g:TG)(h:TS):TS:=λD a H=>f a H λJ k=>∃W:Nat->Nat->St->Hp->Prop,(∃m,W 0 m a k)/\∀i m a H,W i m a H->
 (J.stop i H/\D.nx a H)\/(J.go i H/\∃N:St->Hp->Prop,(∀b c,N b c->∃e,e<m/\W (i+1) e b c)/\∀x c,J.xm i H x c->g x a c λd j=>h {D with nx:=N,ct:=N,bk:=D.nx} d j)
def wK(a:List Addr)(h:Heap):List (Addr×Obj):=a.filterMap λb=>(h.get? b).map λo=>(b,o)
def zf{h:Heap}(a:b∈fp)(e:h.get? b=some o):(b,o)∈wK fp h:=bz.mpr ⟨b,a,by rw[e];rfl⟩
def U0(a:p∈wK fp h):p.1∈fp/\h.get? p.1=some p.2:=by
 obtain⟨b,c,e⟩:=bz.mp a;cases q:h.get? b with
 |none=>rw[q]at e;cases e
 |some o=>rw[q]at e;have d:(b,o)=p:=Option.some.inj e;subst d;exact⟨c,q⟩
def Inv.pinned{s}(I:Inv X pins σ H s)(hf:∀b∈fp,ry X pins H b)(g:∀b∈fp,∃o,s.heap.get? b=some o/\∀v,o.data≠.cell v):Inv X (pins++wK fp s.heap) σ H s:=
 I.KW λp f=>(aW.mp f).elim (λz=>I.pin p (bH _ z)) λz=>by obtain⟨a,e⟩:=U0 z;obtain⟨j,i,h,_⟩:=hf p.1 a;obtain⟨o,c,d⟩:=g p.1 a;rw[e]at c;cases c;exact⟨e,j,i,h,d⟩
def Inv.Ab{s}(I:Inv X (pins++pl) σ H s):Inv X pins σ H s:=I.KW λp a=>I.pin p (bH _<|dP _ a)
def K2{g}(K:PassesOwn (model X.prog X.w) X.A X.env X.xe)(hc:X.calm=true)(hi:PI X U iter wi)(hg:PG X U g)(p:oI X body tb)
 (hs:∀x,foldedSetIterable iter X.env x=pure x):PS X (.For U iter body [] pos) (abB wi g tb):=by
  intro c s Z H D I h;refine wpAny_For (ji (hi c s Z H _ I h) λv s1 h1=>ji h1 λRV s2 h2=>?_) hs;obtain⟨it,M,tn,J,H2,e,I2,T,Q,f2,W,⟨m0,w0⟩,C⟩:=h2;subst e
  have l:∀{y:Hp},(∀b∈M,y b=none)->∀b∈M,ry X c y b:=λhn b p=>⟨hn b p,(f2 b p).2⟩;refine codeAny_forLoop_any (λn s'=>∃i k y,Inv X c k y s'/\tn i s'.heap/\(∀b∈M,y b=none)/\W i n k y) ?_ m0 ⟨0,Z,H2,I2,Q,λb p=>(f2 b p).1,w0⟩
  rintro n s3 ⟨i,j,O,I3,F,L,w3⟩
  rcases C i n j O w3 with⟨E,qn⟩|⟨go,N,hN,step⟩
  ·refine c6 K (ji (T.done X rfl rfl rfl hc i c s3 j O X.xe I3 (l L) F E) λr s4 ⟨S,I4⟩=>?_);subst S;exact fP ⟨j,O,I4,qn⟩
  ·refine c6 K (ji (T.item X rfl rfl rfl hc i c s3 j O X.xe I3 (l L) F go) λr s4 ⟨u,S,h4⟩=>?_);subst S;refine c6 K (ji h4 λ_ s5 B=>?_);obtain⟨x,H5,I5,r5,y5,A,V⟩:=B;have Y:=I5.pinned (l V) (T.obj _ _ A);refine c6 K (ji (hg _ s5 j H5 x u _ Y r5<|step x H5 y5) λ_ s6 B=>?_);obtain⟨P,H6,I6,q6⟩:=B;refine c6 K (ji (p _ s6 P H6 _ I6 q6) λf R z=>?_);have q:∀{a:St} {w:Hp},Inv X (c++wK M s5.heap) a w R->N a w->∃m,m<n/\∃i k y,Inv X c k y R/\tn i R.heap/\(∀b∈M,y b=none)/\W i m k y:=λ{a w} t G=>by
    obtain⟨m',hm,w7⟩:=hN a w G;refine⟨m',hm,i+1,a,w,t.Ab,T.keep _ _ _ A λb p o e=>(t.pin (b,o)<|bH _<|bH _<|zf p e).1,λb p=>?_,w7⟩;obtain⟨o,e,d⟩:=T.obj _ _ A b p;exact(t.pin (b,o)<|bH _<|bH _<|zf p e).2.1
   cases f with
   |next=>obtain⟨a,w,t,G⟩:=z;exact q t G
   |cont=>obtain⟨a,w,t,G⟩:=z;exact q t G
   |brk=>obtain⟨a,w,t,z⟩:=z;exact⟨a,w,t.Ab,z⟩
   |ret v=>obtain⟨x7,a,w,t,r7,z⟩:=z;exact⟨x7,a,w,t.Ab,r7,z⟩
abbrev R2:=V->V->Hp->VK->Prop
def kM(X:Cx)(f:Value->Value->Sem Value)(r:R2):Prop:=
 ∀a s b H x y v u Q,Inv X a b H s->RelV x v->RelV y u->r x y H Q->
  wpAny (model X.prog X.w) X.A (f v u) (EP X a b Q) X.xe s
def xR(X:Cx)(f:Value->Sem Value)(r:V->Hp->VK->Prop):Prop:=
 ∀a s b H x v Q,Inv X a b H s->RelV x v->r x H Q->
  wpAny (model X.prog X.w) X.A (f v) (EP X a b Q) X.xe s
def mZ(X:Cx)(f:Value)(r:List V->Hp->VK->Prop):Prop:=
 ∀a s b H c d Q,Inv X a b H s->Vals c d->r c H Q->
  wpAny (model X.prog X.w) X.A (call f d) (EP X a b Q) X.xe s
def NH(X:Cx)(r:V->Hp->(Bool->Hp->Prop)->Prop):Prop:=
 ∀(a:List<|Addr×Obj) (s:Shared) (σ:St) (H:Hp) (x:V) (v:Value) (Q:Bool->Hp->Prop),Inv X a σ H s->RelV x v->r x H Q->
  wpAny (model X.prog X.w) X.A (truthy v) (TP X a σ Q) X.xe s
def z8(r:R2)(c b:TE):TE:=λa H Q=>c a H λx e=>b a e λy d=>r x y d Q
def tUn(r:V->Hp->VK->Prop)(b:TE):TE:=λa H Q=>b a H λx c=>r x c Q
def rI(C:Int->Int->Prop)(g:Int->Int->V):R2:=λx y H Q=>∃i j,x=.int i/\y=.int j/\C i j/\Q (g i j) H
def rV(g:Int->Int->V):R2:=λx y H Q=>∃i j,x=.int i/\y=.int j/\Q (g i j) H
def rU(g:Int->V):V->Hp->VK->Prop:=λx H Q=>∃i,x=.int i/\Q (g i) H
variable{a b c:Expr}{F L Y:TE}{O:Pos}
def A5(r:PE X a F)(q:PE X b L){s}{R:V->V->Hp->Prop}(I:Inv X pins σ H s)
 (h:F σ H λx k=>L σ k λy e=>R x y e){f:Value->Value->Sem Value}
 (hf:∀v u j x y e,Inv X pins σ e j->RelV x v->RelV y u->R x y e->wpAny (model X.prog X.w) X.A (f v u) Q X.xe j):
   wpAny (model X.prog X.w) X.A (eval a X.env) (λv i=>wpAny (model X.prog X.w) X.A (eval b X.env) (λu g=>wpAny (model X.prog X.w) X.A (f v u) Q X.xe g) X.xe i) X.xe s:=by
  refine ji (r pins s σ H _ I h) λv l d=>?_;obtain⟨x,k,w,n,p⟩:=d;refine ji (q pins l σ k _ w p) λu j d=>?_;obtain⟨y,e,t,m,o⟩:=d;exact hf v u j x y e t n m o
def KN(j:kM X (binaryOp op) r)(l:PE X a F)(k:PE X b L):PE X (.BinOp a op b O) (z8 r F L):=by intro d s e H Q I h;exact wpAny_BinOp (A5 l k I h λv u f x y n m i g q=>j d f e n x y v u Q m i g q)
def WD(j:xR X (unaryOp op) r)(k:PE X a F):PE X (.UnaryOp op a O) (tUn r F):=by intro d s e H Q I h;exact UnaryOp_ (ji (k d s e H _ I h) λv f ⟨x,m,l,g,i⟩=>j d f e m x v Q l g i)
def wC{f:Value->Value->Sem Value}{C:Int->Int->Prop}{g:Int->Int->Int}
 (d:∀(i j:Int) t u (s:Shared) (Q:jW) E,C i j->Q (.int (g i j) s.toks) {s with toks:=s.toks+1}->wpAny (model X.prog X.w) X.A (f (.int i t)<|.int j u) Q E s):
   kM X f (rI C λi j=>.int<|g i j):=by
  intro e s o H x y v u Q I m l h;obtain⟨i,j,rfl,rfl,n,q⟩:=h;obtain⟨t,rfl⟩:=m;obtain⟨k,rfl⟩:=l;exact d i j t k s _ _ n ⟨.int<|g i j,H,I.tok _,⟨_,rfl⟩,q⟩
def Kq{f:Value->Value->Sem Value}{g:Int->Int->Int}
 (d:∀(i j:Int) t u (s:Shared) Q E,Q (.int (g i j) s.toks) {s with toks:=s.toks+1}->wpAny (model X.prog X.w) X.A (f (.int i t)<|.int j u) Q E s):
   kM X f (rV λi j=>.int<|g i j):=by
  intro e s n H x y v u Q I m l h;obtain⟨i,j,rfl,rfl,q⟩:=h;obtain⟨t,rfl⟩:=m;obtain⟨k,rfl⟩:=l;exact d i j t k s _ _ ⟨.int<|g i j,H,I.tok _,⟨_,rfl⟩,q⟩
def CM{f:Value->Value->Sem Value}{g:Int->Int->Bool}
 (d:∀(i j:Int) t u s Q E,Q (.bool<|g i j) s->wpAny (model X.prog X.w) X.A (f (.int i t)<|.int j u) Q E s):
   kM X f (rV λi j=>.bl<|g i j):=by
  intro e s n H x y v u Q I m l h;obtain⟨i,j,rfl,rfl,q⟩:=h;obtain⟨t,rfl⟩:=m;obtain⟨k,rfl⟩:=l;exact d i j t k s _ _ ⟨.bl<|g i j,H,I,rfl,q⟩
def MQ(i j:Int):Prop:=0<=j/\j<=1000000/\i.natAbs<2^64
def Az(i j:Int):Prop:=(-(2^64)<i/\i<2^64)\/(-(2^64)<j/\j<2^64)
def Az.ok{i j:Int}(h:Az i j):IntMulOk i j:=by
 rcases h with⟨e,d⟩|⟨e,d⟩;·exact .of_left (intBits_le_64 e d)
 ·exact .of_right (intBits_le_64 e d)
def VI:kM X (binaryOp .Add) (rV λi j=>.int<|i+j):=Kq λ_ _ _ _ _ _ _ q=>add_int q
def V2:kM X (binaryOp .Sub) (rV λi j=>.int<|i - j):=Kq λ_ _ _ _ _ _ _ q=>sub_int q
def VV:kM X (binaryOp .Mult) (rI Az λi j=>.int<|i*j):=wC λ_ _ _ _ _ _ _ d q=>mul_int q d.ok
def VU:kM X (binaryOp .Mod) (rI (λ_ j=>j≠0) λi j=>.int<|i.fmod j):=wC λ_ _ _ _ _ _ _ d q=>mod_int' d q
def V1:kM X (binaryOp .Pow) (rI MQ λi j=>.int<|i^j.toNat):=wC λ_ _ _ _ _ _ _ d q=>pow_int_small d.1 d.2.1 d.2.2 q
def unI{f:Value->Sem Value}{g:Int->Int}
 (d:∀(i:Int) t (s:Shared) Q E,Q (.int (g i) s.toks) {s with toks:=s.toks+1}->wpAny (model X.prog X.w) X.A (f<|.int i t) Q E s):
   xR X f (rU λi=>.int<|g i):=by
  intro e s k H x v Q I j h;obtain⟨i,rfl,q⟩:=h;obtain⟨t,rfl⟩:=j;exact d i t s _ _ ⟨.int<|g i,H,I.tok _,⟨_,rfl⟩,q⟩
def acf:xR X (unaryOp .USub) (rU λi=>.int<|-i):=unI λ_ _ _ _ _ q=>neg_int q
def Ee:V->V->Bool
 |.non,.non=>true|.non,.int _=>true|.int _,.non=>true|.non,.bl _=>true|.bl _,.non=>true|.non,.str _=>true|.str _,.non=>true
 |.int _,.int _=>true|.bl _,.bl _=>true|.str _,.str _=>true|.nG _,.nG _=>true
 |.int _,.str _=>true|.str _,.int _=>true|.bl _,.str _=>true|.str _,.bl _=>true
 |_,_=>false
def ZX:R2:=λx y H Q=>Ee x y=true/\Q (.bl<|decide<|x=y) H
def Z1:R2:=λx y H Q=>Ee x y=true/\Q (.bl<|!decide (x=y)) H
def Hk{i j:Int}:decide (V.int i=V.int j)=(i==j):=by rw[eE];simp
def Hi:decide (V.bl i=V.bl j)=(i==j):=by rw[eE];simp
def Hl:decide (V.str i=V.str j)=(i==j):=by rw[eE];simp
def Hj:decide (V.nG i=V.nG j)=(i.toList==j.toList):=by rw[eE];cases i;cases j;simp
def kJ{s}{Q:VK}{k}(I:Inv X pins σ H s)(q:Q (.bl k) H)(e:k=k'):EP X pins σ Q (.bool k') s:=by subst e;exact⟨.bl k,H,I,rfl,q⟩
def VL:kM X (compareOp .Eq) ZX:=by
 intro k s l H x y v u Q I g d h;obtain⟨f,q⟩:=h;cases x with
 |non=>
  cases g;cases y with
  |non=>cases d;exact PySem.EqNone.eq_none_none (kJ I q<|by simp)
  |bl j=>cases d;exact PySem.EqNone.eq_none_bool (kJ I q<|by simp)
  |int j=>obtain⟨e,rfl⟩:=d;exact PySem.EqNone.eq_none_int (kJ I q<|by simp)
  |str j=>obtain⟨e,rfl⟩:=d;exact PySem.EqNone.eq_none_str (kJ I q<|by simp)
  |_=>exact absurd (show false=true from f) ax
 |bl i=>
  cases g;cases y with
  |non=>cases d;exact PySem.EqNone.eq_bool_none (kJ I q<|by simp)
  |bl j=>cases d;exact eq_bool (kJ I q Hi)
  |str j=>obtain⟨e,rfl⟩:=d;exact PySem.EqMixed.eq_bool_str (kJ I q<|by simp)
  |_=>exact absurd (show false=true from f) ax
 |int i=>
  obtain⟨t,rfl⟩:=g;cases y with
  |non=>cases d;exact PySem.EqNone.eq_int_none (kJ I q<|by simp)
  |int j=>obtain⟨e,rfl⟩:=d;exact eq_int (kJ I q Hk)
  |str j=>obtain⟨e,rfl⟩:=d;exact PySem.EqMixed.eq_int_str (kJ I q<|by simp)
  |_=>exact absurd (show false=true from f) ax
 |str i=>
  obtain⟨t,rfl⟩:=g;cases y with
  |non=>cases d;exact PySem.EqNone.eq_str_none (kJ I q<|by simp)
  |bl j=>cases d;exact PySem.EqMixed.eq_str_bool (kJ I q<|by simp)
  |int j=>obtain⟨e,rfl⟩:=d;exact PySem.EqMixed.eq_str_int (kJ I q<|by simp)
  |str j=>obtain⟨e,rfl⟩:=d;exact eq_str (kJ I q Hl)
  |_=>exact absurd (show false=true from f) ax
 |nG i=>
  obtain⟨t,rfl⟩:=g;cases y with
  |nG j=>obtain⟨e,rfl⟩:=d;exact W.eq_bytes (kJ I q Hj)
  |_=>exact absurd (show false=true from f) ax
 |_=>cases y<;>exact absurd (show false=true from f) ax
def VY:kM X (compareOp .NotEq) Z1:=by
 intro k s l H x y v u Q I g d h;obtain⟨f,q⟩:=h;cases x with
 |non=>
  cases g;cases y with
  |non=>cases d;exact PySem.EqNone.ne_none_none (kJ I q<|by simp)
  |bl j=>cases d;exact PySem.EqNone.ne_none_bool (kJ I q<|by simp)
  |int j=>obtain⟨e,rfl⟩:=d;exact PySem.EqNone.ne_none_int (kJ I q<|by simp)
  |str j=>obtain⟨e,rfl⟩:=d;exact PySem.EqNone.ne_none_str (kJ I q<|by simp)
  |_=>exact absurd (show false=true from f) ax
 |bl i=>
  cases g;cases y with
  |non=>cases d;exact PySem.EqNone.ne_bool_none (kJ I q<|by simp)
  |bl j=>cases d;exact ne_bool (kJ I q<|bG not Hi)
  |str j=>obtain⟨e,rfl⟩:=d;exact PySem.EqMixed.ne_bool_str (kJ I q<|by simp)
  |_=>exact absurd (show false=true from f) ax
 |int i=>
  obtain⟨t,rfl⟩:=g;cases y with
  |non=>cases d;exact PySem.EqNone.ne_int_none (kJ I q<|by simp)
  |int j=>obtain⟨e,rfl⟩:=d;exact ne_int (kJ I q<|bG not Hk)
  |str j=>obtain⟨e,rfl⟩:=d;exact PySem.EqMixed.ne_int_str (kJ I q<|by simp)
  |_=>exact absurd (show false=true from f) ax
 |str i=>
  obtain⟨t,rfl⟩:=g;cases y with
  |non=>cases d;exact PySem.EqNone.ne_str_none (kJ I q<|by simp)
  |bl j=>cases d;exact PySem.EqMixed.ne_str_bool (kJ I q<|by simp)
  |int j=>obtain⟨e,rfl⟩:=d;exact PySem.EqMixed.ne_str_int (kJ I q<|by simp)
  |str j=>obtain⟨e,rfl⟩:=d;exact ne_str (kJ I q<|bG not Hl)
  |_=>exact absurd (show false=true from f) ax
 |nG i=>
  obtain⟨t,rfl⟩:=g;cases y with
  |nG j=>obtain⟨e,rfl⟩:=d;exact W.ne_bytes (kJ I q<|bG not Hj)
  |_=>exact absurd (show false=true from f) ax
 |_=>cases y<;>exact absurd (show false=true from f) ax
def VT:kM X (compareOp .Lt) (rV λi j=>.bl<|decide<|i<j):=CM λ_ _ _ _ _ _ _ q=>lt_int q
def VR:kM X (compareOp .LtE) (rV λi j=>.bl<|decide<|i<=j):=CM λ_ _ _ _ _ _ _ q=>le_int q
def VN:kM X (compareOp .Gt) (rV λi j=>.bl<|decide<|j<i):=CM λ_ _ _ _ _ _ _ q=>gt_int q
def VP:kM X (compareOp .In) (λx y H Q=>∃i j,x=.str i/\y=.str j/\Q (.bl<|!(Builtin.Str.occurrences j i 0 j.length 1).isEmpty) H):=by intro d s g H x y v u Q I f e h;obtain⟨i,j,rfl,rfl,q⟩:=h;obtain⟨t,rfl⟩:=f;obtain⟨k,rfl⟩:=e;exact in_str (kJ I q rfl)
def VQ:kM X (compareOp .Is) (λx y H Q=>y=.non/\Q (.bl<|decide<|x=.non) H):=by
 intro e s g H x y v u Q I d f h;obtain⟨rfl,q⟩:=h;cases f;refine is_none_gen (kJ I q ?_)
 cases x<;>first
  |(cases d;rfl)
  |(obtain⟨t,rfl⟩:=d;rfl)
def V0:kM X (compareOp .IsNot) (λx y H Q=>y=.non/\Q (.bl<|!decide (x=.non)) H):=by
 intro e s g H x y v u Q I d f h;obtain⟨rfl,q⟩:=h;cases f;refine isnot_none_gen (kJ I q ?_)
 cases x<;>first
  |(cases d;rfl)
  |(obtain⟨t,rfl⟩:=d;rfl)
def qC(b)(h:op≠.In:=by decide)(d:op≠.NotIn:=by decide):behindInMarks op b=false:=by
 have f:(op==CmpOp.In)=false:=by cases op<;>first|rfl|exact absurd rfl h
 have e:(op==CmpOp.NotIn)=false:=by cases op<;>first|rfl|exact absurd rfl d
 cases b<;>simp[behindInMarks,f,e]
def KD(j:kM X (compareOp op) r)(m:PE X a F)(l:PE X b L)(k:behindInMarks op b=false):PE X (.Compare a [op] [b] O) (z8 r F L):=by intro d s e H Q I h;exact wpAny_Compare1 (A5 m l I h λv u f x y o n i g q=>j d f e o x y v u Q n i g q) k
def L8(t:TE):TT:=λd H Q=>t d H λx e=>∃k,x=.bl k/\Q k e
def zJ(q:kM X (compareOp op) r)(A:PE X a F)(w:PE X b L)(t:behindInMarks op b=false):PT X (.Compare a [op] [b] O) (L8<|z8 r F L):=by
 intro d s f H Q I h
 refine wpAny_isTrue_Compare1 (ji (A d s f H _ I h) λv i ⟨x,J,D,m,p⟩=>ji (w d i f J _ D p) λu g ⟨y,G,C,l,o⟩=>ji (q d g f G x y v u _ C m l o) λc K ⟨z,E,B,j,k,e,n⟩=>?_) t
 subst e;cases j;exact c9 ⟨E,B,n⟩
def abt(r g:R2)(F L Y:TE):TE:=λd H Q=>F d H λx j=>L d j λy i=>r x y i λz e=>∃k,z=.bl k/\
 (if k=true then Y d e λf h=>g y f h Q else Q (.bl false) e)
def Xc(R:kM X (compareOp op) r)(j:kM X (compareOp wB) r')(W:PE X a F)(V:PE X b L)(T:PE X c Y)
 (S:lastMarks [op,wB] [b,c]=false):PT X (.Compare a [op,wB] [b,c] O) (L8<|abt r r' F L Y):=by
  intro f s g H Q I h
  refine isTrue_chain (ji (W f s g H _ I h) λv B ⟨x,H1,I1,G,N⟩=>test_link<|ji (V f B g H1 _ I1 N) λu A ⟨y,H2,I2,l,M⟩=>ji (R f A g H2 x y v u _ I2 G l M) λd w ⟨z,o,n,E,k,e,m⟩=>?_) S
  subst e;cases E;refine c9 ?_;cases k with
  |false=>obtain⟨k',e',P⟩:=m;cases e';exact ite_ff ⟨o,n,P⟩
  |true=>refine ite_tt (test_last<|ji (T f w g o _ n m) λq t ⟨p,H4,I4,D,K⟩=>ji (j f t g H4 y p u q _ I4 l D K) λd' s5 i=>?_);obtain⟨z2,H5,I5,C,k2,Z,J⟩:=i;subst Z;cases C;exact c9 ⟨H5,I5,J⟩
def vz(K:W.Frag)(x:V)(H:Hp)(k:Bool):Prop:=
 match x with
 |.non=>k=false
 |.bl b=>k=b
 |.int i=>k=(i !=0)
 |.str y=>y.length<=sizeLine/\k=((y.length:Int)!=0)
 |.nG y=>y.size<=sizeLine/\k=((y.size:Int)!=0)
 |.ref p=>(∃d,k7 K H p d/\k=!d.isEmpty)\/(∃d,mF K H p d/\k=!d.isEmpty)\/∃e,H p=some (.dK e)/\k=!e.isEmpty
 |_=>False
def RI{e:Type}{d:List<|e×V}{f:List<|e×Value}(r:KV d f):(!f.isEmpty)=!d.isEmpty:=by cases r<;>rfl
def Jb{e:List V}{d:List Value}(r:Vals e d):(!d.toArray.isEmpty)=!e.isEmpty:=by cases r<;>simp
def tq:(sizeLine:Nat)<2^63:=by rw[dB];decide
def EJ:NH X (λx H Q=>∃k,vz X.K x H k/\Q k H):=by
 intro z s D H x v Q I l h;obtain⟨k,e,q⟩:=h;have G:=tq;have E:sizeLine=16777216:=dB;cases x with
 |non=>cases l;have d:k=false:=e;subst d;exact truthy_none ⟨H,I,q⟩
 |bl b=>cases l;have d:k=b:=e;subst d;exact c9 ⟨H,I,q⟩
 |int i=>obtain⟨t,rfl⟩:=l;have d:k=(i !=0):=e;subst d;exact PySem.P.truthy_int ⟨H,I,q⟩
 |str y=>obtain⟨t,rfl⟩:=l;obtain⟨B,d⟩:y.length<=sizeLine/\k=((y.length:Int)!=0):=e;subst d;exact PySem.P.truthy_str (by omega) ⟨H,I.tok _,q⟩
 |nG y=>obtain⟨t,rfl⟩:=l;obtain⟨B,d⟩:y.size<=sizeLine/\k=((y.size:Int)!=0):=e;subst d;exact W.truthy_bytes (by omega) ⟨H,I.tok _,q⟩
 |ref p=>
  cases l;have d:(∃j,k7 X.K H p j/\k=!j.isEmpty)\/(∃j,mF X.K H p j/\k=!j.isEmpty)\/∃f,H p=some (.dK f)/\k=!f.isEmpty:=e;rcases d with⟨j,n,d⟩|⟨j,n,d⟩|⟨f,n,d⟩
  ·subst d;obtain⟨w,r,u,A⟩:=I.list n;have g:=r.length;exact wpAny_truthy_list u.isList (by simp only[aN];omega) ⟨H,I.tok _,by rw[Jb r];exact q⟩
  ·subst d;obtain⟨w,r,u,A⟩:=I.tuple n;have g:=r.length;exact truthy_tuple u (by simp only[aN];omega) ⟨H,I.tok _,by rw[Jb r];exact q⟩
  ·subst d;obtain⟨A,C,o,r,m⟩:f.length<=sizeLine/\(p==sysModules)=false/\∃o,KV f o/\s.heap.DictOf (j4 X.prog X.w) p o:=I.hok p _ n;have g:f.length=o.length:=Paired.length r;exact wpAny_truthy_dict C m (by omega) ⟨H,I.tok _,by rw[RI r];exact q⟩
 |_=>exact(show False from e).elim
def K8(n:PE X a F)(m:∀d,isTrue a X.env d=(do let v<-d;standAt a.pos;holding [v]<|truthy v)):
    PT X a (λf H Q=>F f H λx g=>∃k,vz X.K x g k/\Q k g):=by
 intro e s f H Q I h;exact isTrue_plain (ji (n e s f H _ I h) λv i ⟨x,p,o,j,l⟩=>EJ e i f p x v Q o j l) (m _)
def VJ:kM X (binaryOp .Add) (λx y H Q=>∃i j,x=.str i/\y=.str j/\i.length+j.length<=sizeLine/\Q (.str<|i++j) H):=by intro d s l H x y v u Q I g f h;obtain⟨i,j,rfl,rfl,k,q⟩:=h;obtain⟨t,rfl⟩:=g;obtain⟨e,rfl⟩:=f;exact add_str (λe tk=>⟨.str<|i++j,H,I.tok _,⟨_,rfl⟩,q⟩) k
def vals1(r:Vals [x] us):∃u,us=[u]/\RelV x u:=by
 cases r with
 |cons e d=>cases d;exact⟨_,rfl,e⟩
def vals2(r:Vals [x,y] us):∃u d,us=[u,d]/\RelV x u/\RelV y d:=by
 cases r with
 |cons h g=>
  cases g with
  |cons f e=>cases e;exact⟨_,_,rfl,h,f⟩
def Oa:mZ X (.builtin "abs") (λd H Q=>∃i,d=[.int i]/\Q (.int<|if i<0 then -i else i) H):=by intro e s f H d g Q I r h;obtain⟨i,rfl,q⟩:=h;obtain⟨u,rfl,t,rfl⟩:=vals1 r;exact call_abs_int λu tk=>⟨.int<|if i<0 then -i else i,H,I.tok _,⟨_,rfl⟩,q⟩
structure sv(h:Heap)(x dx C:Addr)(mA:kl):Prop where
 obj:h.get? x=some (W.instObj C dx)
 ns:h.Ns1 dx mA
 ne:dx≠x
def Tf{h:Heap}(n:h.Ns1 dx mA):∃g,h.get? dx=some g/\∀d,W.lookIn d g=some (mA d):=by
 obtain⟨o,i,s,k,p,m,_,l⟩:=n;refine⟨o,k,λd=>?_⟩;have e:=l d;unfold nsFind findBy at e;rw[<-Array.find?_toList]at e;unfold W.lookIn;rw[p];dsimp only;split
 ·rename_i y q;rw[q]at e;exact bG some e
 ·rename_i q;rw[q]at e;have a:i.toList.any (·.refKey)=false:=by
   rw[cq];intro y j;obtain⟨z,t,f⟩:=m y (dQ.mp j);simp[DictEntry.refKey,f]
  have r:¬i.toList.any (·.refKey)=true:=by rw[a];exact ax
  rw[aw r];exact bG some e
def sv.look(I:sv h x dx C mA):∃e,W.InstAt h x (W.instObj C dx) C (some e)/\∀d,W.lookIn d e=some (mA d):=
 let⟨e,f,g⟩:=Tf I.ns
 ⟨e,⟨I.obj,rfl,rfl,f⟩,g⟩
variable{M:Program}{w:World}{A:Around}{E:jW}{s:Shared}{K:W.Frag}{x P C f:Addr}{S:kl}{B:Str}{v:Value}
def get_map{Q:jW}(X:K.In s.heap)(I:sv s.heap x P C S)(i:W.plainGet K C B=true)(g:W.hasDictIn K C=true)
 (j:W.findIn K (.ref C) B=some none)(hv:S B=some v)(d:W.handedIn v=true)(h:Q v {s with toks:=s.toks+1}):
   wpAny (model M w) A (getAttr (.ref x) B expr) Q E s:=by
  obtain⟨k,J,e⟩:=I.look;exact W.get_value X J (W.plainGet_of i).1 (W.findObj_own g j rfl<|by rw[e,hv]) d h
def P7{Q:Value×List Value->Shared->Prop}(X:K.In s.heap)(I:sv s.heap x P C S)(d:W.plainGet K C B=true)
 (hf:W.findIn K (.ref C) B=some (some<|.ref f))(g:W.isFn K (.ref f)=true)(hv:S B=none)(h:Q (.ref f,[.ref x]) s):
   wpAny (model M w) A (getMethod (.ref x) B pl) Q E s:=by
  obtain⟨e,J,i⟩:=I.look;exact W.method_fn X J (W.plainGet_of d).1 (W.plainGet_of d).2 hf (dR.mp g) (by show(W.lookIn B e).map (·.isSome)=some false;rw[i,hv];rfl) h
def aaW{Q:Unit->Shared->Prop}(X:K.In s.heap)(I:sv s.heap x P C S)
 (q:W.findIn K (.ref C) "__setattr__"=some (some<|.builtin "object.__setattr__"))(t:W.plainOver K C=true)(o:W.takerIn K C B=some none)(u:W.hasDictIn K C=true)
 (n:PySem.Within S ns)(p:ns.length<=sizeLine)
 (h:∀g,sv g x P C (λy=>if y=B then some v else S y)->Heap.SameBut P s.heap g->Q () {s with heap:=g,toks:=s.toks+2}):
   wpAny (model M w) A (setAttr (.ref x) B v) Q E s:=by
  obtain⟨H,J,R⟩:=I.look;refine W.set_plain X J q (W.osa_open (s:={s with toks:=s.toks+1}) (r:=none) X J t o λb=>?_);obtain⟨T,z,k⟩:=W.any_some u;have m:s.heap.get? x=some ⟨.ref C,some P,.plain,#[]⟩:=I.obj;refine ae (af<|ae<|ae<|wpAny_loadPart m<|ae<|W.Looks.here (s:={s with toks:=s.toks+1}) (W.looks_clsIn X z) ?_);rw[k];refine af (a:=some P) (ae<|af<|ae ?_);refine wpAny_nsSet1 (s:={s with toks:=s.toks+1}) I.ns λg e d=>?_;obtain⟨N,D,G,i,j,l⟩:=e.count (PySem.Within.cons B v n);refine ae (wpAny_lookBehind i (by rw[j];exact pastItsLine_dict (aU l (by rw[aj];omega))) ?_);exact af (h _ ⟨(d.2 _<|bV I.ne).trans I.obj,e,I.ne⟩ d)
def Ug{R}(X:K.In s.heap)(i:W.makesIn K C=true)
 (j:W.findIn K (.ref C) "__init__"=some (some<|.ref f))(hf:W.typeIn K (.ref f)=some (.type "function"))
 (h:codeAny (model M w) (A.under (.builtin "type.__call__" ⟨.ref C::vs,kw⟩)) (.call (.ref f) ⟨.ref (s.heap.objs.size+1)::vs,kw⟩) (W.InitBack (s.heap.objs.size+1) R)
 {s with heap:=(s.heap.push W.emptyDict).push (W.instObj C s.heap.objs.size)}):
   codeAny (model M w) A (.call (.ref C) ⟨vs,kw⟩) R s:=by
  obtain⟨l,g,d,t,k⟩:=s;exact W.make_core (W.makes_of X i) (W.looks_findIn X j) (λe=>W.bind_fn X e hf) (.inl rfl) h
end
def l7(f:Str)(v:V):List (Str×V)->List (Str×V)
 |[]=>[(f,v)]
 |(g,x)::r=>if g=f then(g,v)::r else(g,x)::l7 f v r
theorem JL(f g v):∀fs:List (Str×V),(l7 f v fs).lookup g=if g=f then some v else fs.lookup g
 |[]=>by
  show List.lookup g [(f,v)]=_;by_cases h:g=f
  ·have a:(g==f)=true:=dR.mpr h;simp only[List.lookup,a,av h]
  ·have a:(g==f)=false:=cX.mpr h;simp only[List.lookup,a,aw h]
 |(k,x)::r=>by
  have c:=JL f g v r;rw[show l7 f v ((k,x)::r)=(if k=f then(k,v)::r else(k,x)::l7 f v r)from rfl];by_cases b:k=f
  ·rw[av b];by_cases h:g=k
   ·have a:(g==k)=true:=dR.mpr h;simp only[List.lookup,a,av<|h.trans b]
   ·have a:(g==k)=false:=cX.mpr h;simp only[List.lookup,a,aw (λe:g=f=>h<|e.trans b.symm)]
  ·rw[aw b];by_cases h:g=k
   ·have a:(g==k)=true:=dR.mpr h;simp only[List.lookup,a,aw (λe:g=f=>b<|h.symm.trans e)]
   ·have a:(g==k)=false:=cX.mpr h;simp only[List.lookup,a];exact c
theorem Cm(f v):∀fs:List (Str×V),f∈(l7 f v fs).map (·.1)/\∀g,g∈fs.map (·.1)->g∈(l7 f v fs).map (·.1)
 |[]=>⟨by simp[l7],λg h=>by simp at h⟩
 |(k,x)::r=>by
  obtain⟨c,b⟩:=Cm f v r;rw[show l7 f v ((k,x)::r)=(if k=f then(k,v)::r else(k,x)::l7 f v r)from rfl];by_cases a:k=f
  ·rw[av a];subst a;exact⟨by simp,λg h=>by simpa using h⟩
  ·rw[aw a];refine⟨?_,λg h=>?_⟩
   ·rw[aT];exact aZ _ c
   ·rw[aT]at h⊢;rcases aE.mp h with e|e;·exact aE.mpr (.inl e)
    ·exact aZ _ (b g e)
theorem JG(f v):∀fs:List (Str×V),(l7 f v fs).length<=fs.length+1
 |[]=>by simp[l7]
 |(k,x)::r=>by
  have b:=JG f v r;rw[show l7 f v ((k,x)::r)=(if k=f then(k,v)::r else(k,x)::l7 f v r)from rfl];by_cases a:k=f;·rw[av a,aj,aj];omega
  ·rw[aw a,aj,aj];omega
def mq.some_of(r:mq (some v) o):∃u,o=some u/\RelV v u:=by
 cases o with
 |none=>exact(show False from r).elim
 |some u=>exact⟨u,rfl,r⟩
def mq.none_of(r:mq none o):o=none:=by
 cases o with
 |none=>rfl
 |some u=>exact(show False from r).elim
def Qr{u}(r:RelV v u):W.handedIn u=true:=by
 cases v with
 |non=>cases(show u=Value.none from r);rfl
 |bl b=>cases(show u=Value.bool b from r);rfl
 |int i=>obtain⟨t,e⟩:=(show∃t,u=Value.int i t from r);cases e;rfl
 |str x=>obtain⟨t,e⟩:=(show∃t,u=Value.str x t from r);cases e;rfl
 |nG b=>obtain⟨t,e⟩:=(show∃t,u=Value.bytes b t from r);cases e;rfl
 |flt b=>obtain⟨t,e⟩:=(show∃t,u=Value.float b t from r);cases e;rfl
 |ref a=>cases(show u=Value.ref a from r);rfl
 |ty n=>cases(show u=Value.type n from r);rfl
section
variable{P:Program}{w:World}{H j:Hp}{h i:Heap}{a C b:Addr}{fs c:List<|Str×V}
def BX(k:kH P w H h)(e:H a=some (.ins C b fs)):∃g,sv h a b C g/\(∀f,mq (fs.lookup f) (g f))/\PySem.Within g (fs.map (·.1))/\fs.length<=1000/\H b=some (.own a):=by obtain⟨d,z,ne,ob,g,n,r,q⟩:=(show kz P w H h a (.ins C b fs)from k a _ e);exact⟨g,⟨ob,n,ne⟩,r,q,z,d⟩
end
structure nT(K:W.Frag)(C:Addr):Prop where
 pg:W.plainGet K C Str.empty=true
 hd:W.hasDictIn K C=true
 po:W.plainOver K C=true
 sa:W.findIn K (.ref C) "__setattr__"=some (some<|.builtin "object.__setattr__")
def nT.get{K:W.Frag}{C:Addr}(c:nT K C)(f:Str):W.plainGet K C f=true:=c.pg
def qq(K:W.Frag)(C:Addr)(f:Str):Prop:=W.findIn K (.ref C) f=some none
def qq.abV{K:W.Frag}{C:Addr}{f:Str}(n:qq K C f):W.takerIn K C f=some none:=by unfold W.takerIn;rw[show W.findIn K (.ref C) f=some none from n];rfl
structure Con(K:W.Frag)(C:Addr)(f:Str)(v:V)(u:Value):Prop where
 at_:W.findIn K (.ref C) f=some (some u)
 rel:RelV v u
 get:W.specialIn K u "__get__"=some none
 cp:W.copiedNames.contains f=false
structure Meth(K:W.Frag)(C:Addr)(m:Str)(f:Addr):Prop where
 at_:W.findIn K (.ref C) m=some (some<|.ref f)
 fn:W.isFn K (.ref f)=true
 kp:W.keepIn K (.ref f)=true
section
variable{X:Cx}{i:List<|Addr×Obj}{j:St}{H:Hp}{s:Shared}{a C B:Addr}{fs:List<|Str×V}{f:Str}{v:V}{A:Around}{E:jW}
def P8{Q:jW}(I:Inv X i j H s)(e:H a=some (.ins C B fs))(c:nT X.K C)(n:qq X.K C f)(l:fs.lookup f=some v)
 (h:∀u d,Inv X i j H d->RelV v u->Q u d):wpAny (model X.prog X.w) A (getAttr (.ref a) f b) Q E s:=by obtain⟨k,O,r,_,_,_⟩:=BX I.hok e;obtain⟨u,m,g⟩:=mq.some_of (v:=v) (o:=k f) (by rw[<-l];exact r f);exact get_map I.l5 O (c.get f) c.hd n m (Qr g) (h u _ (I.tok _) g)
def P9{g}{Q:Value×List Value->Shared->Prop}(I:Inv X i j H s)(e:H a=some (.ins C B fs))(c:nT X.K C)(k:Meth X.K C m g)(l:fs.lookup m=none)
 (h:Q (.ref g,[.ref a]) s):wpAny (model X.prog X.w) A (getMethod (.ref a) m pl) Q E s:=by obtain⟨b,O,r,_,_,_⟩:=BX I.hok e;have d:b m=none:=mq.none_of (by rw[<-l];exact r m);exact P7 I.l5 O (c.get m) k.at_ k.fn d h
def aaX{u}{Q:Unit->Shared->Prop}(I:Inv X i j H s)(e:H a=some (.ins C B fs))(c:nT X.K C)(n:qq X.K C f)(M:fs.length<1000)(w:RelV y u)
 (h:∀l,Inv X i j (upd H a<|.ins C B<|l7 f y fs) l->Q () l):wpAny (model X.prog X.w) A (setAttr (.ref a) f u) Q E s:=by
  obtain⟨m,O,r,k,_,p⟩:=BX I.hok e;have D:(fs.map (·.1)).length<=sizeLine:=by rw[ai,dB];omega
  refine aaW I.l5 O c.sa c.po n.abV c.hd k D λK d t=>h _ ?_;have G:∃o,K.get? B=some o:=let⟨o,_,_,L,_⟩:=d.ns;⟨o,L⟩;refine I.write (x:=a) (e:=B) (by rw[e];exact True.intro) (.inr p) (λb q J z=>(t.2 b J).trans z) G ?_;refine⟨by rw[jB O.ne];exact p,?_,O.ne,d.obj,_,d.ns,λg=>?_,λg F=>?_⟩;·have:=JG f y fs;omega
  ·show mq ((l7 f y fs).lookup g) (if g=f then some u else m g);rw[JL];by_cases q:g=f;·rw[av q,av q];exact w
   ·rw[aw q,aw q];exact r g
  ·by_cases q:g=f;·rw[q];exact(Cm f y fs).1
   ·refine(Cm f y fs).2 g (k g λz=>F ?_);show(if g=f then some u else m g)=none;rw[aw q];exact z
def Inv.made(I:Inv X i j H s):Inv X i j (upd (upd H s.heap.objs.size<|.own<|s.heap.objs.size+1) (s.heap.objs.size+1)<|.ins C s.heap.objs.size [])
    {s with heap:=(s.heap.push W.emptyDict).push (W.instObj C s.heap.objs.size)}:=by
 have c:(s.heap.push W.emptyDict).get? s.heap.objs.size=some W.emptyDict:=aG s.heap rfl;have k:((s.heap.push W.emptyDict).push (W.instObj C s.heap.objs.size)).get? (s.heap.objs.size+1)=some (W.instObj C s.heap.objs.size):=by
  have:=aG (s.heap.push W.emptyDict) (o:=W.instObj C s.heap.objs.size) rfl
  rwa [bY]at this
 have h:(s.heap.push W.emptyDict).Ns s.heap.objs.size (λ_=>none):=⟨W.emptyDict,#[],_,c,rfl,(λe g=>absurd g<|by simp),λ_=>rfl⟩;have l:=I.laid (a:=s.heap.objs.size) (o:=.own<|s.heap.objs.size+1) (h':=s.heap.push W.emptyDict) (t':=s.toks) (λb u q=>ag _ q) (ah _) ⟨_,c⟩;refine l.laid (a:=s.heap.objs.size+1) (o:=.ins C s.heap.objs.size []) (t':=s.toks) (λb u q=>ag _ q) (iH<|bY _ _) ?_;have ne:s.heap.objs.size≠s.heap.objs.size+1:=aR (b8 _);refine⟨by rw[jB ne,kC],bQ _,ne,k,λ_=>none,(Heap.Ns1.of_empty h).at λo q=>ag _ q,λ_=>True.intro,λy d=>absurd rfl d⟩
def N2{w s}(c:attributeBase e f env (eval e env)=eval e env)
 (h:wpAny (model prog w) A (eval e env) (λo b=>wpAny (model prog w) A (getAttr o f true) Q E b) E s):wpAny (model prog w) A (eval (.Attribute e f pos) env) Q E s:=
  Attribute_any_ h (by rw[arm_eval_Attribute,c])
def abA(K:W.Frag)(c:TE)(f:Str):TE:=λj H Q=>c j H λx b=>∃a C B fs v,x=.ref a/\b a=some (.ins C B fs)/\nT K C/\qq K C f/\fs.lookup f=some v/\Q v b
def aaw(K:W.Frag)(d c:TE)(f:Str):TS:=λD j H=>c j H λy e=>d j e λx b=>∃a C B fs,x=.ref a/\b a=some (.ins C B fs)/\nT K C/\qq K C f/\fs.length<1000/\
 D.nx j (upd b a<|.ins C B<|l7 f y fs)
variable{o e p:Expr}{F L N:Pos}{J M:TE}
def Wm(k:PE X e J)(m:attributeBase e f X.env (eval e X.env)=eval e X.env):PE X (.Attribute e f F) (abA X.K J f):=by intro i s j H Q I h;refine N2 m (ji (k i s j H _ I h) λu G b=>?_);obtain⟨x,y,w,d,a,C,B,fs,v,ex,r,c,n,l,q⟩:=b;subst ex;obtain rfl:u=Value.ref a:=d;exact P8 w r c n l λz D t g=>⟨v,y,t,g,q⟩
def W7(w:PE X o J)(hv:PE X p M)(t:swapsWith p (some<|.Attribute o f L) F.line X.env=pure false):PS X (.Assign [.Attribute o f L] p F) (aaw X.K J M f):=by intro i s j H D I h;refine plainObj_wpAny_Assign_Attribute (ji (hv i s j H _ I h) λu d ⟨y,P,O,g,q⟩=>ji (w i d j P _ O q) λr R b=>?_) t;obtain⟨x,S,K,k,a,C,B,fs,ex,z,c,n,l,m⟩:=b;subst ex;obtain rfl:r=Value.ref a:=k;exact aaX K z c n l g λQ G=>⟨j,_,G,m⟩
end
section
variable{X:Cx}{f:List<|Addr×Obj}{h:St}{H:Hp}{s:Shared}{A:Around}{E Q:jW}{c:Value}{b:Bool}
inductive pB(K:W.Frag)(H:Hp):V->Value->Prop where
 |non:pB K H .non (.type "NoneType")
 |bl (x:Bool):pB K H (.bl x) (.type "bool")
 |int (i:Int):pB K H (.int i) (.type "int")
 |str (x:Str):pB K H (.str x) (.type "str")
 |flt (x:UInt64):pB K H (.flt x) (.type "float")
 |lst {a:Addr} {xs:List V} (e:H a=some (.lst xs)):pB K H (.ref a) (.type "list")
 |ke {a:Addr} {o:Obj} {xs:List V} (e:H a=some (.ke o<|.lst xs)):pB K H (.ref a) (.type "list")
 |tup {a:Addr} {xs:List V} (e:H a=some (.tup xs)):pB K H (.ref a) (.type "tuple")
 |dK {a:Addr} {kvs:List<|Key×V} (e:H a=some (.dK kvs)):pB K H (.ref a) (.type "dict")
 |dT {a:Addr} {kvs:List<|List Key×V} (e:H a=some (.dT kvs)):pB K H (.ref a) (.type "dict")
 |ins {a C dx:Addr} {fs:List<|Str×V} (e:H a=some (.ins C dx fs)) (cl:nT K C) (ha:W.findIn K (.ref C) "__class__"=some (some<|.builtin "object.__class__"))
   (hn:W.specialIn K (.builtin "object.__class__") "__get__"=some (some<|.builtin "getset_descriptor.__get__")) (htk:W.takesIn K (.builtin "object.__class__")=some true)
   (hm:W.mroIn K C (.type "object")=some true):pB K H (.ref a) (.ref C)
end
structure kQ(k:Nat)(A:Around):Prop where
 hd:A.handled=none
 dp:A.depth+3*k+5<recursionLimit
 un:A.units+16*k+200<cLine
def kQ.mono{k}(r:kQ k A)(h:j<=k):kQ j A:=⟨r.hd,by have:=r.dp;omega,by have:=r.un;omega⟩
def kQ.deeper{k}(r:kQ (k+1) A)(env):kQ k (A.deeper env):=
 ⟨r.hd,by have:=r.dp;show A.depth+1+3*k+5<_;omega,by have:=r.un;show A.units+3+16*k+200<_;omega⟩
def Ud{A:Around}:(A.under<|.builtin "type.__call__" ⟨.ref C::us,kw⟩).depth=A.depth+1:=by first|rfl|simp[Around.under,Code.weight,Code.isCreation,Code.isGuard,Code.isCaller,Code.frames,Code.isFrame,guardIds]
def Uh{A:Around}:(A.under<|.builtin "type.__call__" ⟨.ref C::us,kw⟩).units=A.units+1:=by first|rfl|simp[Around.under,Code.cUnits,Code.frames,Code.isFrame]
def kQ.make{k}(r:kQ (k+1) A)(C us kw):kQ k (A.under<|.builtin "type.__call__" ⟨.ref C::us,kw⟩):=
 ⟨r.hd,by have:=r.dp;rw[Ud];omega,by have:=r.un;rw[Uh];omega⟩
def kQ.depth{k}(r:kQ k A):A.depth<recursionLimit:=by have:=r.dp;omega
def kQ.units{k}(r:kQ k A):A.units+64<cLine:=by have:=r.un;omega
def xc:TA:=λ_ H Q=>Q [] H
def xb(d:TE)(c:TA):TA:=λa H Q=>d a H λx f=>c a f λb e=>Q (x::b) e
section
variable{X:Cx}{e:Expr}{m:List Expr}{y:TE}{t:TA}{c:Pos}
def rf:PA X [] xc:=λ_ _ _ _ H Q I h=>dc ⟨[],H,I,.nil,h⟩
def q8(p:PE X e y)(o:PA X m t)(n:X.se e m):PA X (e::m) (xb y t):=by intro c a s d H Q I h;rw[n];show wpAny _ _ (spliced<|(false,eval e X.env)::backTo c (starEach m X.env)) _ _ s;refine cI (ji (p a s d H _ I h) λu g b=>?_);obtain⟨x,w,r,j,l⟩:=b;exact ji (o c a g d w _ r l) λz A ⟨f,v,q,i,k⟩=>⟨x::f,v,q,.cons j i,k⟩
def abQ(t:TA):TE:=λd H Q=>t d H λa b=>a.length<=sizeLine/\∀p,b p=none->Q (.ref p) (upd b p<|.tup a)
def abD(t:TA):TE:=λd H Q=>t d H λa b=>a.length<=sizeLine/\∀p,b p=none->Q (.ref p) (upd b p<|.lst a)
def Dn{k}(h:PA X m t):PE X (.Tuple m k c) (abQ t):=by intro a s i H Q I n;refine wpAny_Tuple_spliced (ji (h c a s i H _ I n) λl d ⟨j,g,f,r,z,q⟩=>⟨by rw[<-r.length];exact z,?_⟩);have hf:g d.heap.objs.size=none:=f.hok.fresh (ah _);refine⟨.ref d.heap.objs.size,upd g d.heap.objs.size<|.tup j,f.laid (t':=d.toks) (λb u e=>ag _ e) (ah _) ?_,rfl,q _ hf⟩;exact⟨z,l,r,⟨_,aG _ rfl,rfl,_,rfl⟩⟩
def Wr(h:PA X m t):PE X (.List m c) (abD t):=by intro a s i H Q I l;refine wpAny_List_spliced (ji (h c a s i H _ I l) λk d ⟨j,g,f,r,z,q⟩=>⟨by rw[<-r.length];exact z,?_⟩);have hf:g d.heap.objs.size=none:=f.hok.fresh (ah _);refine⟨.ref d.heap.objs.size,upd g d.heap.objs.size<|.lst j,f.laid (t':=d.toks) (λb u e=>ag _ e) (ah _) ?_,rfl,q _ hf⟩;exact⟨z,k,0,r,aG _ rfl⟩
abbrev Sp:=List V->Hp->VK->XK->Prop
abbrev oC:=List Env->Hp->Shared->XK->jW
structure sr(P:Program)(w:World)(K:W.Frag)(mg:kl)(base:Heap)(A:Around)(outer:List Env)(s:Shared)(H:Hp):Prop where
 frames:A.frames=some outer
 mod:Mod K mg base
 bs:∀b o,base.get? b=some o->s.heap.get? b=some o/\H b=none
 sP:base.objs.size<=s.heap.objs.size
 oN:s.heap.FunFrames base outer
 vP:∀b∈frs outer,H b=none
 hok:kH P w H s.heap
 bare:AllBare s.gens
def CE(a:List Env)(P:Program)(w:World)(H:Hp)(s:Shared)(Q:VK)(u:Value)(b:Shared):Prop:=
 ∃v d,b.os=s.os/\AllBare b.gens/\Un (frs a) [] H d s.heap b.heap/\kH P w d b.heap/\RelV v u/\Q v d
def CR(d:oC)(a:List Env)(P:Program)(w:World)(H:Hp)(s:Shared)(Q:VK)(E:XK)(r:Result)(b:Shared):Prop:=
 match r with
 |.ok (.ret u)=>CE a P w H s Q u b
 |.ok _=>False
 |.error e=>d a H s E e b
structure mE(P:Program)(w:World)(K:W.Frag)(mg:kl)(base:Heap)(CX:oC)(k:Nat)(f:Addr)(fd:FuncData)(ps:List Str)(sp:Sp):Prop where
 len:∀vs H Q E,sp vs H Q E->vs.length=ps.length
 run:∀A outer s H args us vs Q E,kQ k A->sr P w K mg base A outer s H->BindsTo s fd args (ps.zip us)->Vals vs us->sp vs H Q E->
  codeAny (model P w) A (.call (.ref f) args) (CR CX outer P w H s Q E) s
def mE.mono{P:Program}{w:World}{K:W.Frag}{l:kl}{a:Heap}{o:oC}{j k:Nat}{f:Addr}{n:FuncData}{i:List Str}{g:Sp}(F:mE P w K l a o j f n i g)(h:j<=k):
    mE P w K l a o k f n i g:=⟨F.len,λA b s H d q p Q E r=>F.run A b s H d q p Q E<|r.mono h⟩
def mE.imp{P:Program}{w:World}{K:W.Frag}{n:kl}{a:Heap}{p:oC}{k:Nat}{f:Addr}{o:FuncData}{l:List Str}{j g:Sp}(F:mE P w K n a p k f o l j)
    (h:∀d H Q E,g d H Q E->j d H Q E):mE P w K n a p k f o l g:=
 ⟨λd H Q E q=>F.len d H Q E<|h _ _ _ _ q,λA b s H i r d Q E v x z hv u=>F.run A b s H i r d Q E v x z hv<|h _ _ _ _ u⟩
def sr.make{P:Program}{w:World}{K:W.Frag}{d:kl}{b:Heap}{A:Around}{a:List Env}{s:Shared}{H:Hp}(e:sr P w K d b A a s H)(C:Addr)(f:List Value)(g:List<|Str×Value):
    sr P w K d b (A.under<|.builtin "type.__call__" ⟨.ref C::f,g⟩) a s H:=⟨by first|exact e.frames|(simpa [Around.under,Code.envs,Code.isFrame,pushEnvs]using e.frames),e.mod,e.bs,e.sP,e.oN,e.vP,e.hok,e.bare⟩
variable{a:List<|Addr×Obj}{i:St}{H:Hp}{s l:Shared}
def Inv.HQ(I:Inv X a i H s):sr X.prog X.w X.K X.mg X.base X.A X.stack s H:=
 ⟨I.ok.frames,I.ok.mod,I.bs,aU I.ok.sP I.sz,I.stack,I.EE,I.hok,I.bare⟩
def Inv.after{u}(I:Inv X a i H s)(h:CE X.stack X.prog X.w H s Q u l):EP X a i Q u l:=by obtain⟨v,p,n,f,un,k,r,q⟩:=h;obtain⟨o,g,d,t,j⟩:=l;obtain rfl:j=s.os:=n;exact⟨v,p,I.call (h':=o) (g':=g) (d':=d) (t':=t) (ch:=[]) un k f<|λb z=>absurd z<|by simp,r,q⟩
end
def L7(d:Sp)(a:List V)(E:XK)(t:TA):TE:=λb H Q=>t b H λc e=>d (c++a) e Q E
def abF(C:Addr)(m:Str)(g:Sp)(b:List V)(E:XK)(f:TE)(t:TA):TE:=λc H Q=>f c H λx d=>∃a h fs,x=.ref a/\d a=some (.ins C h fs)/\fs.lookup m=none/\
 t c d λe i=>g (x::(e++b)) i Q E
def abE(C:Addr)(f:Sp)(b:List V)(E:XK)(t:TA):TE:=λd H Q=>t d H λe c=>∀x a,c x=none->c a=none->a≠x->
 f (.ref x::(e++b)) (upd (upd c a<|.own x) x<|.ins C a []) (λv g=>v=.non/\Q (.ref x) g) E
def Binds(K:W.Frag)(c:FuncData)(a:List Str)(b:List Value):Prop:=
 ∀(s:Shared) us,K.In s.heap->(us++b).length=a.length->BindsTo s c ⟨us,[]⟩ (a.zip<|us++b)
def Binds.all{K:W.Frag}{d:FuncData}{b:List Str}(h:∀a:List Value,a.length=b.length->bindArgs d ⟨a,[]⟩=pure (b.zip a)):Binds K d b []:=λs a _ c=>by rw[bg]at c⊢;exact .of_eq (h a c)
def Passes(d:oC)(X:Cx)(E:XK):Prop:=∀a c H s e b,Inv X a c H s->d X.stack H s E e b->X.xe e b
section
variable{X:Cx}{L:oC}{k:Nat}{f C:Addr}{z:FuncData}{y:List Str}{J:Sp}{i:List V}{j:List Value}{E:XK}{x m:Str}{p b B:Pos}{e o:Expr}{A:List Expr}{N:TE}{t:TA}
def Lv{s}(F:mE X.prog X.w X.K X.mg X.base L k f z y J)(l:kQ k X.A)(v:Binds X.K z y j)(q:Vals i j)(g:Passes L X E)
 (I:Inv X pins σ H s)(r:Vals vs us)(h:J (vs++i) H Q E):wpAny (model X.prog X.w) X.A (call (.ref f) us) (EP X pins σ Q) X.xe s:=by
  have c:Vals (vs++i) (us++j):=r.append q;have n:(us++j).length=y.length:=by rw[<-c.length];exact F.len _ _ _ _ h
  refine iF (dD (F.run X.A X.stack s H ⟨us,[]⟩ (us++j) (vs++i) Q E l I.HQ (v s us I.l5 n) c h) λr d a=>?_);cases r with
  |error e=>exact g pins σ H s e d I a
  |ok w=>
   cases w with
   |ret u=>exact I.after a
   |next=>exact False.elim a
   |brk=>exact False.elim a
   |cont=>exact False.elim a
def Wd(F:mE X.prog X.w X.K X.mg X.base L k f z y J)(n:kQ k X.A)(w:Gl X x)(u:X.mg x=some (.ref f))(v:W.keepIn X.K (.ref f)=true)(G:Binds X.K z y j)(D:Vals i j)(l:Passes L X E)
 (K:PA X (e::A) t)(a:X.cl x e A b):
   PE X (.Call (.Name x p) (e::A) [] b) (L7 J i E t):=by
  intro c s g H Q I h;refine bP (Cp I w u ?_ a.1);refine W.callWith_K (h₀:=X.base) I.ok.mod.wj v (ji (K b c s g H _ I h) λO P ⟨M,R,d,r,q⟩=>⟨d.l5,?_⟩) a.2.1 a.2.2;exact Lv F n G D l d r q
def Wu(Y:PE X o N)(c:nT X.K C)(G:Meth X.K C m f)(F:mE X.prog X.w X.K X.mg X.base L k f z y J)(U:kQ k X.A)(hb:Binds X.K z y j)(Z:Vals i j)(S:Passes L X E)(ha:PA X (e::A) t)
 (g:X.se e A:=by rfl)(v:X.bk b A:=by rfl)
 (T:eval (.Call (.Attribute o m B) (e::A) [] b) X.env=(do
 let D<-eval o X.env
 standAt B.atName
 let(f,first)<-holding [D] (getMethod D m pl)
 callWith b f first (backTo b (starEach (e::A) X.env)) (backToKw b (keywordEach [] X.env))):=by rfl):
  PE X (.Call (.Attribute o m B) (e::A) [] b) (abF C m J i E N t):=by
  intro d s w H Q I h;refine W.methodCall_KW (pl:=pl) (ji (Y d s w H _ I h) λu O n=>?_) T;obtain⟨x,H1,M,P,a,dx,fs,ex,ea,l,q⟩:=n;subst ex;obtain rfl:u=Value.ref a:=P;refine P9 M ea c G l ?_;refine W.callWith_K (first:=[.ref a]) (h₀:=X.base) I.ok.mod.wj G.kp (ji (ha b d O w H1 _ M q) λus s2 ⟨vs,H2,K,r,R⟩=>⟨K.l5,?_⟩) g v;exact Lv (us:=.ref a::us) (vs:=.ref a::vs) F U hb Z S K (.cons rfl r) R
structure Mk(K:W.Frag)(C f:Addr):Prop where
 makes:W.makesIn K C=true
 init:W.findIn K (.ref C) "__init__"=some (some<|.ref f)
 fn:W.isFn K (.ref f)=true
 kp:W.keepIn K (.ref C)=true
def aas{s}{Q:VK}(M:Mk X.K C f)(F:mE X.prog X.w X.K X.mg X.base L k f z y J)(G:kQ (k+1) X.A)(P:Binds X.K z y j)(O:Vals i j)
 (D:Passes L X E)(I:Inv X pins σ H s)(r:Vals vs us)
 (h:∀x c,H x=none->H c=none->c≠x->J (.ref x::(vs++i)) (upd (upd H c<|.own x) x<|.ins C c []) (λv U=>v=.non/\Q (.ref x) U) E):
   wpAny (model X.prog X.w) X.A (call (.ref C) us) (EP X pins σ Q) X.xe s:=by
  have l:=h (s.heap.objs.size+1) s.heap.objs.size (I.hok.fresh<|cP _) (I.hok.fresh<|ah _) (aR<|b8 _);have d:=Inv.made (C:=C) I;have g:Vals (V.ref (s.heap.objs.size+1)::(vs++i)) (Value.ref (s.heap.objs.size+1)::(us++j)):=.cons rfl (r.append O);have K:(Value.ref (s.heap.objs.size+1)::us++j).length=y.length:=by have e:=g.length;rw[F.len _ _ _ _ l]at e;exact e.symm
  refine iF (Ug (f:=f) I.l5 M.makes M.init (dR.mp M.fn) (dD (F.run _ X.stack _ _ ⟨Value.ref (s.heap.objs.size+1)::us,[]⟩ (Value.ref (s.heap.objs.size+1)::(us++j)) _ _ E (G.make C us [])
   (d.HQ.make C us []) (P _ (Value.ref (s.heap.objs.size+1)::us) d.l5 K) g l) λr n a=>?_))
  cases r with
  |error e=>exact D pins σ _ _ e n d a
  |ok R=>
   cases R with
   |ret u=>obtain⟨v,W,T,q,S,w⟩:=d.after a;subst S;exact⟨q,⟨V.ref<|s.heap.objs.size+1,W,T,rfl,w⟩⟩
   |next=>exact False.elim a
   |brk=>exact False.elim a
   |cont=>exact False.elim a
def Ws(M:Mk X.K C f)(F:mE X.prog X.w X.K X.mg X.base L k f z y J)(n:kQ (k+1) X.A)(v:Gl X x)(u:X.mg x=some (.ref C))(D:Binds X.K z y j)(w:Vals i j)(l:Passes L X E)
 (G:PA X (e::A) t)(a:X.cl x e A b:=by exact⟨by decide,rfl,rfl⟩):
   PE X (.Call (.Name x p) (e::A) [] b) (abE C J i E t):=by
  intro c s g H Q I h;refine bP (Cp I v u ?_ a.1);refine W.callWith_K (h₀:=X.base) I.ok.mod.wj M.kp (ji (G b c s g H _ I h) λO P ⟨K,R,d,r,q⟩=>⟨d.l5,?_⟩) a.2.1 a.2.2;exact aas M F n D w l d r q
variable{O:List Str}{P:Pos}{S:List Keyword}{T:TE}{tk:TA}{U:Option Str}
structure ac9(K:W.Frag)(z:FuncData)(y O:List Str)(g:List Value->List Value->List Value)(gV:List V->List V->List V):Prop where
 to:∀(s:Shared) (us ws:List Value),K.In s.heap->(g us ws).length=y.length->BindsTo s z ⟨us,O.zip ws⟩ (y.zip<|g us ws)
 rel:∀{vs:List V} {us:List Value} {zs:List V} {ws:List Value},Vals vs us->Vals zs ws->Vals (gV vs zs) (g us ws)
variable{g:List Value->List Value->List Value}{gV:List V->List V->List V}
end
structure kj(N P:List Str)(sc:Scope):Prop where
 kind:sc.kind=.function
 co:sc.isCoroutine=false
 gen:sc.isGenerator=false
 nd:N.Nodup
 pre:N.take P.length=P
 par:∀x∈P,sc.names.lookup x=some .local\/sc.names.lookup x=some .cell
 UE:∀y∈sc.names,y.2≠.free
theorem GK{a:Str->Option NameKind}{x:Str}:∀{binds:List<|Str×Value} {m:kl},(∀v,(x,v)∉binds)->bindL a binds m x=m x
 |[],_,_=>rfl
 |(n,v)::r,m,h=>by
  unfold bindL;rw[GK λw b=>h w<|aZ _ b];split
  ·have:x≠n:=by rintro rfl;exact h v bF
   simp[this]
  ·rfl
theorem GI{a:Str->Option NameKind}{x:Str}:∀{binds:List<|Str×Value} {m:kl},(∀v,(x,v)∉binds)->bindC a binds m x=m x
 |[],_,_=>rfl
 |(n,v)::r,m,h=>by
  unfold bindC;rw[GI λw b=>h w<|aZ _ b];split;·rfl
  ·have:x≠n:=by rintro rfl;exact h v bF
   simp[this]
theorem GJ{a:Str->Option NameKind}{x:Str}{v:Value}:∀{P:List Str} {b:List Value} {i:Nat} {m:kl},P.Nodup->P[i]?=some x->b[i]?=some v->a x=some .local->
 bindL a (P.zip b) m x=some v
 |[],_,_,_,_,h,_,_=>by simp at h
 |_::_,[],_,_,_,_,h,_=>by simp at h
 |p::P,w::b,0,m,e,d,c,f=>by simp at d c;subst d;subst c;show bindL a ((p,w)::P.zip b) m p=_;unfold bindL;rw[GK λv hv=>(bB.mp e).1 (hC hv).1,av f];simp
 |p::P,w::b,i+1,m,e,d,c,f=>by show bindL a ((p,w)::P.zip b) m x=_;unfold bindL;exact GJ (i:=i) (bB.mp e).2 (by simpa using d) (by simpa using c) f
theorem GH{a:Str->Option NameKind}{x:Str}{v:Value}:∀{P:List Str} {b:List Value} {i:Nat} {m:kl},P.Nodup->P[i]?=some x->b[i]?=some v->a x≠some .local->
 bindC a (P.zip b) m x=some v
 |[],_,_,_,_,h,_,_=>by simp at h
 |_::_,[],_,_,_,_,h,_=>by simp at h
 |p::P,w::b,0,m,e,d,c,f=>by simp at d c;subst d;subst c;show bindC a ((p,w)::P.zip b) m p=_;unfold bindC;rw[GI λv hv=>(bB.mp e).1 (hC hv).1,aw f];simp
 |p::P,w::b,i+1,m,e,d,c,f=>by show bindC a ((p,w)::P.zip b) m x=_;unfold bindC;exact GH (i:=i) (bB.mp e).2 (by simpa using d) (by simpa using c) f
def start(N:List Str)(a:List V):St:=a.map some++List.replicate (N.length - a.length) none
def lE(g:oC)(P:Program)(w:World)(K:W.Frag)(mg:kl)(base:Heap)(N:List Str)(b:Str)(a:Scope)(f:Addr)(d:Value)(A:Around)(outer:List Env)(s:Shared)(H:Hp)(E:XK):Cx where
 prog:=P
 w:=w
 K:=K
 mg:=mg
 base:=base
 A:=A.deeper (envOfC b a s.heap.objs.size f d)
 N:=N
 s₀:=s
 H₀:=H
 env:=envOfC b a s.heap.objs.size f d
 outer:=outer
 stack:=envOfC b a s.heap.objs.size f d::outer
 ex:=[]
 calm:=true
 fn:=λ_=>true
 pn:=[]
 xe:=λe h=>wpAny (model P w) (A.deeper<|envOfC b a s.heap.objs.size f d) (leaving (envOfC b a s.heap.objs.size f d) e) (λ_ c=>g outer H s E e c) (λi c=>g outer H s E i c) h
def G1{sc:Scope}{n}(h:sc.names.lookup x=some .cell):∃c,(cellsFrom n sc.names []).lookup x=some c:=by have q:=W.cellsFrom_some sc.names n [] (.inl h);exact eA.mp q
def RB{U:oC}{P:Program}{w:World}{K:W.Frag}{O:kl}{m:Heap}{N B:List Str}{j:Str}{d:Scope}{f:Addr}{L:Value}{A:Around}{g:List Env}{s Q:Shared}{H:Hp}{E:XK}{M:List Value}{t:List V}
    (S:kj N B d)(Z:A.handled=none)(o:sr P w K O m A g s H)(hl:t.length=B.length)(r:Vals t M)
    (x:InCallC s s.heap.objs.size (bindL (envOfC j d s.heap.objs.size f L).kindOf (B.zip M) λ_=>none) (cellsFrom (s.heap.objs.size+1) d.names []) (bindC (envOfC j d s.heap.objs.size f L).kindOf (B.zip M) λ_=>none) Q):
    Inv (lE U P w K O m N j d f L A g s H E) [] (start N t) H Q:=by
 have Y:B.length<=N.length:=by have:=bG List.length S.pre;rw[cJ]at this;omega
 obtain⟨J,tk,rfl,T⟩:=x.done;have C:∀b:Addr,b∉(lE U P w K O m N j d f L A g s H E).ex:=λb z=>absurd (show b∈([]:List Addr)from z) (by simp)
 refine⟨⟨o.mod,S.kind,rfl,rfl,ah _,λy z c J l=>?_,λy D=>?_,λy c _ h=>?_,λ_=>Z,Around.frames_deeper o.frames,.inr ⟨rfl,rfl⟩,λb z=>absurd z (C b),o.bs,o.sP,λb _ _=>C b,λb z=>absurd z (C b),o.oN,o.vP⟩,
  rfl,o.bare,Un.kept T,⟨_,x.toInCall.ns,λi y v J l h3=>?_⟩,λy c h=>⟨_,x.cell y c h⟩,o.hok.fresh (ah _),λy c h=>?_,λp G=>absurd (show p∈([]:List (Addr×Obj))from G) (by simp),o.hok.kept T,?_⟩
 ·exact name_of_addr x.apart (bC J) (bC l)
 ·have D:d.names.lookup y=some .cell\/d.names.lookup y=some .free:=D;rcases D with D|D;·exact G1 D
  ·exact absurd rfl (S.UE _<|bC D)
 ·exact cO (x.above y c<|bC h)
 ·have I:i<t.length:=by
   unfold start at l;by_cases I:i<t.length;·exact I
   ·rw[aK<|by simpa using I]at l;rw[bI]at l;split at l<;>cases l
  have ha:t[i]?=some v:=by
   unfold start at l;rw[ay<|by simpa using I,aA]at l;cases e:t[i]? with
   |none=>rw[e]at l;cases l
   |some a=>rw[e]at l;cases l;rfl
  obtain⟨u,R,X⟩:=r.get ha;have G:B[i]?=some y:=by rw[<-S.pre,List.getElem?_take_of_lt<|by omega];exact J
  have F:B.Nodup:=by rw[<-S.pre];exact S.nd.sublist (List.take_sublist _ _)
  refine⟨u,X,?_⟩;rcases S.par y (bf G)with k|k;·exact .inl ⟨k,GJ F G R k⟩
  ·obtain⟨c,e⟩:=G1 (n:=s.heap.objs.size+1) k;refine .inr ⟨.inl k,c,e,?_⟩;have q:=x.cell y c e;rw[GH F G R (by show d.names.lookup y≠_;rw[k];decide)]at q;exact q
 ·exact o.hok.fresh (cO<|x.above y c<|bC h)
 ·unfold start;show _=N.length;rw[ar,ai,cH];omega
def HY{w}{K:W.Frag}{k dV kV}
 {p:Sp}(R:K.lookup f=some ⟨oc,od,.func<|W.fnOf name qual params body scope dV kV doc pm an cdv ct,osl⟩)(F:W.codeIn K cdv qual=true)(S:kj N ps scope)
 (len:∀c H Q E,p c H Q E->c.length=ps.length)
 (h:∀(A:Around) outer (s:Shared) H c Q E,kQ k (A.deeper (envOfC qual scope s.heap.objs.size f cdv))->p c H Q E->
 ∃t,oI (lE CX P w K mg base N qual scope f cdv A outer s H E) body t/\t {nx:=λ_ d=>Q .non d,rt:=Q} (start N c) H):
   mE P w K mg base CX (k+1) f (W.fnOf name qual params body scope dV kV doc pm an cdv ct) ps p:=by
  refine⟨len,λA outer s H L O c Q E D m hb r j=>?_⟩;have Y:=len _ _ _ _ j;have M:K.In s.heap:=m.mod.wj.keeps λb o e=>(m.bs b o e).1;have C:s.heap.NoLimit:=m.mod.nolimit.keeps λb o e=>(m.bs b o e).1;have g:∀y∈ps.zip O,scope.names.lookup y.1=some .local\/(scope.names.lookup y.1=some .cell/\((cellsFrom (s.heap.objs.size+1) scope.names []).lookup y.1).isSome=true):=λ⟨n,v⟩ T=>by
   rcases S.par n (hC T).1 with q|q;·exact .inl q
   ·exact .inr ⟨q,W.cellsFrom_some _ _ _<|.inl q⟩
  refine codeAny_call_function D.depth (M _ _ R) rfl S.co S.gen rfl (W.codeRec_of M F) (hb _ _ _ _ ?_);refine wpAny_newFunctionEnv_cells S.kind g λenv Z G x=>?_;subst Z;refine⟨C.keeps x.toInCall.keep,codeAny_func ?_⟩;obtain⟨t,U,X⟩:=h A outer s H c Q E (D.deeper _) j;have I:Inv (lE CX P w K mg base N qual scope f cdv A outer s H E) [] (start N c) H G:=RB S D.hd m Y r x;refine bp (U [] G (start N c) H _ I X) (λfl z i=>?_) λe z i=>i
  have l:∀{a:St} {d:Hp} {v:V} {u:Value},Inv (lE CX P w K mg base N qual scope f cdv A outer s H E) [] a d z->RelV v u->Q v d->CE outer P w H s Q u z:=
   λ{a d v u} J B q=>⟨v,d,J.os,J.bare,J.base,J.hok,B,q⟩
  cases fl with
  |ret u=>obtain⟨v,a,d,J,B,q⟩:=i;exact l J B q
  |next=>obtain⟨a,d,J,q⟩:=i;exact l (v:=V.non) (u:=Value.none) J rfl q
  |brk=>obtain⟨_,_,_,q⟩:=i;exact False.elim q
  |cont=>obtain⟨_,_,_,q⟩:=i;exact False.elim q
variable{X:Cx}{x:Str}{p pos:Pos}{e:Expr}{es:List Expr}{t:TA}{id T:String}{r:List V->Hp->VK->Prop}
def L6(r:List V->Hp->VK->Prop)(t:TA):TE:=λa H Q=>t a H λb c=>r b c Q
def We(n:mZ X (.builtin id) r)(m:Gl X x)(l:X.mg x=none)(hv:bootBuiltins x=some (.builtin id))(o:PA X (e::es) t)(k:x≠"__name__")(b:X.cl x e es pos):PE X (.Call (.Name x p) (e::es) [] pos) (L6 r t):=by intro a s c H Q I h;refine bP (pH I m l hv ?_ k b.1);exact cg (ji (o pos a s c H _ I h) λf g ⟨d,u,q,i,j⟩=>n a g c u d f Q q i j) b.2.1 b.2.2
def Wf(n:mZ X (.type T) r)(m:Gl X x)(l:X.mg x=none)(hv:bootBuiltins x=some (.type T))(o:PA X (e::es) t)(k:x≠"__name__")(b:X.cl x e es pos):PE X (.Call (.Name x p) (e::es) [] pos) (L6 r t):=by intro a s c H Q I h;refine bP (pH I m l hv ?_ k b.1);exact cE (ji (o pos a s c H _ I h) λf g ⟨d,u,q,i,j⟩=>n a g c u d f Q q i j) b.2.1 b.2.2
end L2
namespace HT
open PySem PyProof.Rows
variable{a:Program}{w:World}{A:Around}{E:jW}{s:Shared}
def jL(n d:Nat):Option Int->Nat
 |none=>d
 |some v=>if v<0 then(v+(n:Int)).toNat else min v.toNat n
def aax(n d)(b:d<=n)(o):jL n d o<=n:=by
 cases o with
 |none=>exact b
 |some v=>
  show(if v<0 then(v+(n:Int)).toNat else min v.toNat n)<=n;by_cases hv:v<0;·rw[av hv];omega
  ·rw[aw hv];exact Nat.min_le_right _ _
def G4(v:Int)(n d:Nat):(if v<0 then max (v+(n:Int)) 0 else min v (n:Int))=((jL n d<|some v:Nat):Int):=by
 show(if v<0 then max (v+(n:Int)) 0 else min v (n:Int))=(((if v<0 then(v+(n:Int)).toNat else min v.toNat n):Nat):Int);by_cases hv:v<0;·simp only[av hv];omega
 ·simp only[aw hv];omega
def NN(lo b:Option Int)(n:Nat):Builtin.Slice.sliceAdjust lo b 1 (n:Int)=(((jL n 0 lo:Nat):Int),((jL n n b:Nat):Int)):=by
 have c:¬((1:Int)<0):=by omega
 unfold Builtin.Slice.sliceAdjust;simp only[c,bL];refine Prod.ext ?_ ?_
 ·cases lo with
  |none=>rfl
  |some v=>exact G4 v n 0
 ·cases b with
  |none=>rfl
  |some v=>exact G4 v n n
def WV(i j:Nat):Builtin.Slice.slicePlaces (i:Int) (j:Int) 1=j - i:=by
 unfold Builtin.Slice.slicePlaces;have b:(1:Int)>0:=by omega
 simp only[b,dr,Int.ediv_one];split<;>omega
def LM{Q:Option Int->Shared->Prop}(p:IsPart v o)(h:Q o s):wpAny (model a w) A (Builtin.Slice.slicePartIndex v) Q E s:=by
 cases p with
 |none=>exact slicePart_none h
 |int i t=>exact slicePart_int h
def aa3{lo n}{Q:Int×Int×Nat->Shared->Prop}(f:s.heap.IsSliceOf sl vl vu .none)(e:IsPart vl lo)(d:IsPart vu hi)
 (h:Q (((jL n 0 lo:Nat):Int),1,jL n n hi - jL n 0 lo) s):wpAny (model a w) A (Builtin.Slice.sliceApplied (.ref sl) (pure (n:Int))) Q E s:=by obtain⟨i,b,g,c⟩:=id f;unfold Builtin.Slice.sliceApplied Builtin.Slice.sliceFields;refine ae (ae<|dS b c (x:=vl) rfl<|ae<|dS b c (x:=vu) rfl<|ae<|dS b c (x:=.none) rfl<|af ?_);refine ae (slicePart_none ?_);show wpAny _ _ (if((1:Int)==0)=true then _ else _) _ _ s;rw[aw<|by decide];refine ae (LM e<|ae<|LM d<|ae<|af ?_);show wpAny _ _ (match Builtin.Slice.sliceAdjust lo hi 1 (n:Int)with|(lo,hi)=>pure (lo,(1:Int),Builtin.Slice.slicePlaces lo hi 1)) _ _ s;rw[NN lo hi n];show wpAny _ _ (pure (((jL n 0 lo:Nat):Int),(1:Int),Builtin.Slice.slicePlaces ((jL n 0 lo:Nat):Int) ((jL n n hi:Nat):Int) 1)) _ _ s;rw[WV];exact af h
def WQ(b:Array Value)(i k:Nat):((List.range k).filterMap λ(m:Nat)=>b[((i:Int)+(m:Int)*1).toNat]?).toArray=((b.toList.drop i).take k).toArray:=by
 have e:(λ(m:Nat)=>b[((i:Int)+(m:Int)*1).toNat]?)=λm=>b[i+m]?:=by
  funext m;have:((i:Int)+(m:Int)*1).toNat=i+m:=by omega
  rw[this]
 rw[e];have:=pick_run b i k;rw[List.filterMap_map]at this;have c:((λx=>b[x]?)∘λx=>i+x)=λm=>b[i+m]?:=rfl;rw[c]at this;rw[this]
def P6{t f:Addr}{b:Array Value}{n l:Value}{lo d:Option Int}{Q:jW}(e:IsTup s.heap t b)(o:s.heap.IsSliceOf f n l .none)(r:IsPart n lo)(p:IsPart l d)
    (v:¬(jL b.size 0 lo=0/\jL b.size b.size d=b.size))
    (h:Q (.ref s.heap.objs.size) {s with heap:=s.heap.push {cls:=.type "tuple",data:=.seq ((b.toList.drop<|jL b.size 0 lo).take (jL b.size b.size d - jL b.size 0 lo)).toArray}})
    (x:b.size<=sizeLine):wpAny (model a w) A (getItem (.ref t)<|.ref f) Q E s:=by
 have c:sizeOk (.seq ((b.toList.drop<|jL b.size 0 lo).take (jL b.size b.size d - jL b.size 0 lo)).toArray):=by show((b.toList.drop<|jL b.size 0 lo).take (jL b.size b.size d - jL b.size 0 lo)).toArray.size<=sizeLine;rw[aN,cJ,cz,aC];omega
 have C:jL b.size b.size d<=b.size:=aax _ _ (ah _) d;obtain⟨u,g,j,y⟩:=id o;have k:s.TypeIs (.ref f) "slice":=⟨u,g,j⟩;unfold getItem;try with_reducible refine bD ?_
 first|refine ae (af ?_)|skip
 refine ae (wpAny_sequenceKey e.typeIs (by decide) ?_)
 refine ae (bJ (name:=Str.ofString "__getitem__") e.typeIs fi
  (bA fi e.typeIs entry_tuple_getitem ?_ (args_tuple_getitem _ _)))
 show wpAny _ _ (Builtin.Tuple.tupleItemsOf (.ref t)>>=_) _ _ s;refine ae (tupleItemsOf_ e ?_);refine ae (dZ k ?_);rw[av<|by decide];refine ae (aa3 o r p ?_);have i:¬((((jL b.size 0 lo:Nat):Int)==0&&(1:Int)==1&&(jL b.size b.size d - jL b.size 0 lo)==b.size)=true):=by intro q;rw[aS,aS]at q;have B:((jL b.size 0 lo:Nat):Int)=0:=eq_of_beq q.1.1;have z:jL b.size b.size d - jL b.size 0 lo=b.size:=eq_of_beq q.2;exact v ⟨by omega,by omega⟩
 show wpAny _ _ (if(((jL b.size 0 lo:Nat):Int)==0&&(1:Int)==1&&(jL b.size b.size d - jL b.size 0 lo)==b.size)=true then _ else _) _ _ s;rw[aw i,WQ]
 first
  |exact ae (m:=Builtin.Tuple.tupleExact _) (aY (af ⟨_,rfl,af h⟩) c)
  |exact ae (m:=Builtin.Tuple.tupleExact _) (aY (ae<|af<|af ⟨_,rfl,af h⟩) c)
  |exact ae (ae (m:=Builtin.Tuple.tupleExact _)<|aY (af<|af ⟨_,rfl,af h⟩) c)
  |exact ae (ae (m:=Builtin.Tuple.tupleExact _)<|aY (af ⟨_,rfl,af h⟩) c)
end HT
namespace L2
open PySem PySem.Spec PyProof.Rows
abbrev TO:=St->Hp->(Option Int->Hp->Prop)->Prop
def PO(X:Cx)(e:Option Expr)(t:TO):Prop:=
 ∀a s b H Q,Inv X a b H s->t b H Q->
  wpAny (model X.prog X.w) X.A (evalPart e X.env) (λu d=>∃o c,Inv X a b c d/\IsPart u o/\Q o c) X.xe s
def abH:TO:=λ_ H Q=>Q none H
def abL(t:TE):TO:=λa H Q=>t a H λx b=>∃i,x=.int i/\Q (some i) b
section
variable{X:Cx}{e:Expr}{f:TE}{lo c:Option Expr}{j m:TO}{y z:Pos}
def WX:PO X none abH:=by intro a s b H Q I h;rw[evalPart_none];exact af ⟨none,H,I,.none,h⟩
def WY(h:PE X e f):PO X (some e) (abL f):=by intro a s d H Q I l;rw[evalPart_some];refine ji (h a s d H _ I l) λu p b=>?_;obtain⟨x,o,n,g,k⟩:=b;obtain⟨i,rfl,q⟩:=k;obtain⟨t,rfl⟩:=g;exact⟨some i,o,n,.int i t,q⟩
def qO(X:Cx)(r:V->Option Int->Option Int->Hp->VK->Prop):Prop:=
 ∀a s b H x v g d lo c h Q,Inv X a b H s->RelV x v->s.heap.IsSliceOf h g d .none->IsPart g lo->IsPart d c->r x lo c H Q->
  ∃T i,typeLookup (.type T) "__getitem__"=pure (some<|.builtin i)/\s.TypeIs v T/\wpAny (model X.prog X.w) X.A (getItem v<|.ref h) (EP X a b Q) X.xe s
def qO.or{r l:V->Option Int->Option Int->Hp->VK->Prop}(h:qO X r)(t:qO X l):qO X (λx lo c H Q=>r x lo c H Q\/l x lo c H Q):=by
 intro a s b H x v g d lo c i Q I k p o n q;rcases q with q|q;·exact h a s b H x v g d lo c i Q I k p o n q
 ·exact t a s b H x v g d lo c i Q I k p o n q
def tSl(r:V->Option Int->Option Int->Hp->VK->Prop)(f:TE)(j m:TO):TE:=λa H Q=>f a H λx g=>j a g λl d=>m a d λu b=>r x l u b Q
def Wx(J:qO X r)(M:PE X e f)(K:PO X lo j)(F:PO X c m):PE X (.Subscript e (.Slice lo c none z) y) (tSl r f j m):=by intro a s i H Q I h;refine Subscript_ (ji (M a s i H _ I h) λv t g=>?_);obtain⟨x,U,R,w,C⟩:=g;refine wpAny_Slice (ji (K a t i U _ R C) λn p ⟨l,S,P,E,B⟩=>ji (F a p i S _ P B) λk d g=>?_);obtain⟨u,o,O,D,A⟩:=g;rw[evalPart_none];refine af ?_;have N:Inv X a i o {d with heap:=d.heap.push {cls:=.type "slice",data:=.fields #[n,k,.none]}}:=O.kept (t':=d.toks) λb ob q=>ag _ q;obtain⟨T,V,hT,G,L⟩:=J a {d with heap:=d.heap.push {cls:=.type "slice",data:=.fields #[n,k,.none]}} i o x v n k l u d.heap.objs.size Q N w (Heap.IsSliceOf.new ..) E D A;show wpAny (model X.prog X.w) X.A (subscriptTail e (.Slice lo c none z) v<|.ref d.heap.objs.size) (EP X a i Q) X.xe {d with heap:=d.heap.push {cls:=.type "slice",data:=.fields #[n,k,.none]}};exact tail_any (ops:=[.ref d.heap.objs.size,v]) G hT L (by with_unfolding_all rfl)
def rG(a:List V)(lo c:Option Int):List V:=(a.drop<|HT.jL a.length 0 lo).take (HT.jL a.length a.length c - HT.jL a.length 0 lo)
def Hc(xs lo c):(rG xs lo c).length<=xs.length:=by unfold rG;rw[cJ,cz];omega
def Z5(K:W.Frag):V->Option Int->Option Int->Hp->VK->Prop:=λx lo c H Q=>∃a b,x=.ref a/\mF K H a b/\
 ¬(HT.jL b.length 0 lo=0/\HT.jL b.length b.length c=b.length)/\∀p,H p=none->Q (.ref p) (upd H p<|.tup<|rG b lo c)
def aa2:qO X (Z5 X.K):=by
 intro k s C H x v E D lo c F Q I p B u t h;obtain⟨a,g,rfl,w,A,q⟩:=h;cases p;obtain⟨i,r,n,l⟩:=I.tuple w;have d:i.toArray.size=g.length:=by rw[aN];exact r.length.symm
 refine⟨"tuple",_,PyProof.Rows.slot_tuple_getitem.lookup,n.typeIs,?_⟩;refine HT.P6 n B u t (by rw[d];exact A) ?_ (by rw[d];exact l);rw[d];refine⟨.ref s.heap.objs.size,_,I.laid (t':=s.toks) (o:=.tup<|rG g lo c) (λb ob q=>ag _ q) (ah _) ?_,rfl,q _<|I.hok.fresh<|ah _⟩;exact⟨aU (Hc g lo c) l,_,(r.drop<|HT.jL g.length 0 lo).take (HT.jL g.length g.length c - HT.jL g.length 0 lo),IsTup.new _ _⟩
end
def qx(n:Nat)(i:Int):Option Nat:=if 0<=i then(if i<n then some i.toNat else none)else if -(n:Int)<=i then some (i+n).toNat else none
def jY{a:Type}(b:List a)(i:Int):Option a:=(qx b.length i).bind λj=>b[j]?
def Jg{n}{i:Int}(h:qx n i=some j):seqIndex? i n=some j/\j<n/\ -(n:Int)<=i/\i<n:=by
 unfold qx at h;by_cases b:0<=i
 ·rw[av b]at h;by_cases a:i<n
  ·rw[av a]at h;have e:i.toNat=j:=Option.some.inj h;exact⟨by rw[seqIndex_of b a,e],by omega,by omega,a⟩
  ·rw[aw a]at h;cases h
 ·rw[aw b]at h;by_cases a: -(n:Int)<=i
  ·rw[av a]at h;have e:(i+n).toNat=j:=Option.some.inj h;exact⟨by rw[seqIndex_neg (by omega) a,e],by omega,a,by omega⟩
  ·rw[aw a]at h;cases h
def A0{b:Type}{a:List b}{i:Int}{v:b}(h:jY a i=some v):∃j,seqIndex? i a.length=some j/\a[j]?=some v/\j<a.length/\ -(a.length:Int)<=i/\i<a.length:=by
 unfold jY at h;cases e:qx a.length i with
 |none=>rw[e]at h;cases h
 |some j=>rw[e]at h;obtain⟨g,f,d,c⟩:=Jg e;exact⟨j,g,h,f,d,c⟩
def ud{b:Type}{a:List b}{j:Nat}{v:b}(h:a[j]?=some v):jY a (j:Int)=some v:=by
 have c:j<a.length:=(aB.mp h).1;have e:qx a.length (j:Int)=some j:=by unfold qx;rw[av<|by omega,av<|by omega];simp
 unfold jY;rw[e];exact h
def AV(b:Expr):Prop:=∀o i,subscripted b false o i=operate [o,i] (getItem o i)
def qo(X:Cx)(r:R2):Prop:=
 ∀(b a:Expr) (pins:List<|Addr×Obj) (s:Shared) (σ:St) (H:Hp) (x y:V) (v u:Value) (Q:VK),Inv X pins σ H s->RelV x v->RelV y u->r x y H Q->
  subscripted a false v u=operate [v,u] (getItem v u)->wpAny (model X.prog X.w) X.A (subscriptTail b a v u) (EP X pins σ Q) X.xe s
def ND(X:Cx)(e:String)(r:V->List V->Hp->VK->Prop):Prop:=
 ∀a s b H x c v d Q,Inv X a b H s->RelV x v->Vals c d->r x c H Q->
  wpAny (model X.prog X.w) X.A (call (.builtin e)<|v::d) (EP X a b Q) X.xe s
variable{X:Cx}{a b:Expr}{Y U:TE}{P:Pos}
def qo.or{r j:R2}(h:qo X r)(l:qo X j):qo X (λx y H Q=>r x y H Q\/j x y H Q):=by
 intro c d e s f H x y v u Q I i g q k;rcases q with q|q;·exact h c d e s f H x y v u Q I i g q k
 ·exact l c d e s f H x y v u Q I i g q k
def KI(j:qo X r)(l:PE X a Y)(k:PE X b U)(i:AV b):PE X (.Subscript a b P) (z8 r Y U):=by intro c s d H Q I h;exact Subscript_ (A5 l k I h λv u e x y n m g f q=>j a b c e d n x y v u Q m g f q<|i _ _)
def Lh(K:W.Frag):R2:=λx y H Q=>∃p c i v,x=.ref p/\y=.int i/\k7 K H p c/\jY c i=some v/\Q v H
def Lj(K:W.Frag):R2:=λx y H Q=>∃p c i v,x=.ref p/\y=.int i/\mF K H p c/\jY c i=some v/\Q v H
def Li:R2:=λx y H Q=>∃z i c,x=.str z/\y=.int i/\z.length<=sizeLine/\jY z.cps.toList i=some c/\Q (.str ⟨#[c]⟩) H
def RY:qo X (Lh X.K):=by
 intro f g c s o H x y v u Q I F E h A;obtain⟨p,O,i,z,rfl,rfl,G,K,q⟩:=h;cases F;obtain⟨t,rfl⟩:=E;obtain⟨m,r,l,R⟩:=I.list G;obtain⟨j,e,N,T,M,L⟩:=A0 K;obtain⟨w,C,k⟩:=r.get N;have J:=r.length;have S:=tq;have d:EP X c o Q w s:=⟨z,H,I,k,q⟩;by_cases B:0<=i
 ·have n:i.toNat=j:=by
   rw[seqIndex_of B L]at e;exact Option.some.inj e
  exact item_listR l.isList B (by omega) (by rw[n];simpa using C) d A
 ·have n:(i+(m.toArray.size:Int)).toNat=j:=by
   rw[seqIndex_neg (by omega) M]at e;rw[aN,<-J];exact Option.some.inj e
  exact subscriptTail_builtinR (x:=w) l.isList.typeIs slot_list_getitem.lookup
   (wpAny_getItem_list_neg (Q:=λr D=>r=w/\EP X c o Q r D) l.isList (by omega) (by rw[aN]<;>omega) (by omega) (by rw[n];simpa using C) ⟨rfl,d⟩) A
def R7:qo X (Lj X.K):=by
 intro d e c s k H x y v u Q I o n h B;obtain⟨p,K,i,z,rfl,rfl,C,E,q⟩:=h;cases o;obtain⟨t,rfl⟩:=n;obtain⟨A,r,l,L⟩:=I.tuple C;obtain⟨j,G,F,R,O,N⟩:=A0 E;obtain⟨w,J,f⟩:=r.get F;have D:=r.length;have M:=tq;have g:EP X c k Q w s:=⟨z,H,I,f,q⟩
 exact subscriptTail_builtinR (x:=w) l.typeIs slot_tuple_getitem.lookup
  (getItem_tuple (j:=j) (Q:=λr m=>r=w/\EP X c k Q r m) l (by omega) (by omega) (by rw[aN,<-D];exact G) (by simpa using J) ⟨rfl,g⟩) B
def R6:qo X Li:=by
 intro d e f s C H x y v u Q I l k h m;obtain⟨z,i,c,rfl,rfl,E,o,q⟩:=h;obtain⟨t,rfl⟩:=l;obtain⟨D,rfl⟩:=k;obtain⟨j,g,w,G,r,p⟩:=A0 o;have n:z.cps.toList.length=z.length:=by simp[Str.length]
 rw[n]at g r p;have F:=tq;exact tail_any (typeIs_str s z t) slot_str_getitem.lookup (getItem_str (c:=c) (by have B:decide (i< -(2^63:Int))=false:=aI (by omega);have A:decide (i≥2^63)=false:=aI (by omega);rw[B,A,Bool.or_false]) (by rw[g];simpa using w) ⟨.str ⟨#[c]⟩,H,I.tok _,⟨_,rfl⟩,q⟩) m
def ZZ(K:W.Frag):R2:=λx y H Q=>Lh K x y H Q\/Lj K x y H Q\/Li x y H Q
def R5:qo X (ZZ X.K):=RY.or (R7.or R6)
def Ui(c:List Value)(n j:Nat)(u):Obj.mapSeq (·.setIfInBounds j u) {cls:=.type "list",data:=.seq c.toArray n}={cls:=.type "list",data:=.seq (c.set j u).toArray n}:=by simp[Obj.mapSeq]
def Inv.lst{d:List<|Addr×Obj}{g:St}{H:Hp}{s:Shared}{p:Addr}{f:List V}(I:Inv X d g H s)(h:H p=some (.lst f)):
    ∃(c:List Value) (n:Nat),Vals f c/\s.heap.get? p=some {cls:=.type "list",data:=.seq c.toArray n}/\f.length<=sizeLine:=by
 obtain⟨z,c,n,r,e⟩:=I.hok p _ h;exact⟨c,n,r,e,z⟩
def Inv.Th{s}{d c:List Value}{n}{f:Obj->Obj}(I:Inv X pins σ H s)(h:H p=some (.lst xs))
 (i:s.heap.get? p=some {cls:=.type "list",data:=.seq d.toArray n})(hf:f {cls:=.type "list",data:=.seq d.toArray n}={cls:=.type "list",data:=.seq c.toArray n'})(r:Vals ys c)(g:ys.length<=sizeLine)(t:Nat):
   Inv X pins σ (upd H p<|.lst ys) {s with heap:=s.heap.update p f,toks:=t}:=by
  have e:(s.heap.update p f).get? p=some {cls:=.type "list",data:=.seq c.toArray n'}:=by rw[a9 f i<|by rw[hf]<;>rfl,hf]
  refine I.write (x:=p) (e:=p) (by rw[h];trivial) (.inl rfl) (λb u j q=>(bM _ _<|bV j).trans q) ⟨_,e⟩ ?_;exact⟨g,c,n',r,e⟩
def Z2:V->V->V->Hp->(Hp->Prop)->Prop:=λo i v H Q=>∃p c k j,o=.ref p/\i=.int k/\H p=some (.lst c)/\qx c.length k=some j/\Q (upd H p<|.lst<|c.set j v)
def set_list:FY X Z2:=by
 intro c s A H o i v J K u Q I D E C h;obtain⟨p,B,k,j,rfl,rfl,m,G,q⟩:=h;cases D;obtain⟨t,rfl⟩:=E;obtain⟨d,n,r,f,F⟩:=I.lst m;obtain⟨e,M,x,w⟩:=Jg G;have g:=r.length;have L:=tq
 have z:Inv X c A (upd H p<|.lst<|B.set j v) {s with heap:=s.heap.update p (Obj.mapSeq (·.setIfInBounds j u))}:=
  I.Th m f (Ui d n j u) (r.set C j) (by rw[aP];exact F) s.toks
 by_cases y:0<=k
 ·have l:k.toNat=j:=by
   rw[seqIndex_of y w]at e;exact Option.some.inj e
  exact W.ki_setAt f y (by omega) (by rw[aN,<-g];exact w) (by rw[l];exact⟨_,z,q⟩)
 ·have l:(k+(d.toArray.size:Int)).toNat=j:=by
   rw[seqIndex_neg (by omega) x]at e;rw[aN,<-g];exact Option.some.inj e
  exact W.ki_setBack f (by omega) (by rw[aN,<-g];exact x) (by omega) (by rw[l];exact⟨_,z,q⟩)
def aa5(lo hi n):(sliceBounds lo hi none n).1=((HT.jL n 0 lo:Nat):Int)/\(sliceBounds lo hi none n).2.1=((HT.jL n n hi:Nat):Int)/\(sliceBounds lo hi none n).2.2=1:=by
 refine⟨?_,?_,rfl⟩
 ·cases lo with
  |none=>simp[sliceBounds,HT.jL]
  |some i=>
   simp only[sliceBounds,HT.jL,Option.getD_none,show(1:Int)>0 by decide,dr];by_cases h:i<0;·simp only[h,dr]<;>omega
   ·simp only[h,bL]<;>omega
 ·cases hi with
  |none=>simp[sliceBounds,HT.jL]
  |some i=>
   simp only[sliceBounds,HT.jL,Option.getD_none,show(1:Int)>0 by decide,dr];by_cases h:i<0;·simp only[h,dr]<;>omega
   ·simp only[h,bL]<;>omega
def aa4(c:List Value)(lo hi):slicePick c.toArray lo hi none=((c.drop (HT.jL c.length 0 lo)).take (HT.jL c.length c.length hi - HT.jL c.length 0 lo)).toArray:=by obtain⟨f,e,d⟩:=aa5 lo hi c.toArray.size;unfold slicePick;rw[f,e,d];simp only[sliceRange_one,pick_run,aN]<;>rfl
def Z3(K:W.Frag):V->Option Int->Option Int->Hp->VK->Prop:=λx lo d H Q=>∃a c,x=.ref a/\k7 K H a c/\∀p,H p=none->Q (.ref p) (upd H p<|.lst<|rG c lo d)
def aa0:qO X (Z3 X.K):=by intro f s t H x v w u lo e y Q I i p k j h;obtain⟨a,c,rfl,n,q⟩:=h;cases i;obtain⟨l,r,g,m⟩:=I.list n;have d:=r.length;refine⟨"list",_,slot_list_getitem.lookup,g.isList.typeIs,?_⟩;refine wpAny_getItem_list_slice g.isList p k j .none (by simp) ?_ (by rw[aN]<;>omega);rw[aa4,<-d];refine⟨.ref s.heap.objs.size,_,I.laid (t':=s.toks) (o:=.lst<|rG c lo e) (λb ob q=>ag _ q) (ah _) ?_,rfl,q _<|I.hok.fresh<|ah _⟩;exact⟨aU (Hc c lo e) m,_,0,(r.drop<|HT.jL c.length 0 lo).take (HT.jL c.length c.length e - HT.jL c.length 0 lo),aG _ rfl⟩
def Og:mZ X (.builtin "len") (λj H Q=>∃p d,j=[.ref p]/\(k7 X.K H p d\/mF X.K H p d)/\Q (.int d.length) H):=by
 intro k s n H j o Q I r h;obtain⟨p,d,rfl,e,q⟩:=h;obtain⟨u,rfl,l⟩:=vals1 r;cases l;have t:=tq;rcases e with e|e
 ·obtain⟨i,f,g,m⟩:=I.list e;have c:=f.length;exact Calls.call_len_list g.isList (by simp only[aN]<;>omega) ⟨.int d.length,H,I.tok _,⟨s.toks+1,by rw[aN,c]⟩,q⟩
 ·obtain⟨i,f,g,m⟩:=I.tuple e;have c:=f.length;exact len_tuple g (by simp only[aN]<;>omega) ⟨.int d.length,H,I.tok _,⟨s.toks+1,by rw[aN,c]⟩,q⟩
def Oh:mZ X (.builtin "len") (λc H Q=>∃z,c=[.str z]/\z.length<=sizeLine/\Q (.int z.length) H):=by intro d s e H c f Q I r h;obtain⟨z,rfl,g,q⟩:=h;obtain⟨u,rfl,t,rfl⟩:=vals1 r;have i:=tq;exact len_str (by omega) ⟨.int z.length,H,I.tok _,⟨_,rfl⟩,q⟩
def mZ.or{f:Value}{r i:List V->Hp->VK->Prop}(h:mZ X f r)(j:mZ X f i):mZ X f (λd H Q=>r d H Q\/i d H Q):=by
 intro c s e H d g Q I rs q;rcases q with q|q;·exact h c s e H d g Q I rs q
 ·exact j c s e H d g Q I rs q
def Mh(K:W.Frag)(T:String)(x:V)(H:Hp):Prop:=match x with
 |.str _=>T="str"
 |.int _=>T="int"
 |.ref p=>(T="list"/\∃d,k7 K H p d)\/(T="tuple"/\∃o,K.lookup p=some o/\o.cls=.type "tuple"/\o.dict=none)\/
   (T="dict"/\((∃c,H p=some (.dK c))\/∃c,H p=some (.dT c)))\/(T="set"/\∃S n,H p=some (.set S n))
 |_=>False
def ace{s}(I:Inv X pins σ H s)(r:RelV x v)(ty:Mh X.K T x H):
    s.TypeIs v T/\∀a,v=.ref a->∃ob,s.heap.get? a=some ob/\ob.dict=none:=by
 cases x with
 |str z=>obtain⟨t,rfl⟩:=r;cases(show T="str" from ty);exact⟨typeIs_str s z t,λ_ e=>nomatch e⟩
 |int i=>obtain⟨t,rfl⟩:=r;cases(show T="int" from ty);exact⟨typeIs_int s i t,λ_ e=>nomatch e⟩
 |ref p=>
  cases r;rcases ty with⟨rfl,q,l⟩|⟨rfl,o,d,m,g⟩|⟨rfl,d⟩|⟨rfl,S,n,d⟩
  ·obtain⟨k,_,j,_⟩:=I.list l;refine⟨j.isList.typeIs,λa e=>?_⟩;cases e;obtain⟨o,n,e,c,g,_⟩:=j;exact⟨o,e,g⟩
  ·refine⟨⟨o,I.l5 p o d,m⟩,λa e=>?_⟩;cases e;exact⟨o,I.l5 _ o d,g⟩
  ·have z:∃o,s.heap.get? p=some o/\o.ExactDict:=by
    rcases d with⟨f,d⟩|⟨f,d⟩
    ·obtain⟨_,_,_,_,o,_,_,e,ex,_⟩:=I.hok p _ d;exact⟨o,e,ex⟩
    ·obtain⟨_,_,_,_,o,_,_,e,ex,_⟩:=I.hok p _ d;exact⟨o,e,ex⟩
   obtain⟨o,e,ex⟩:=z;refine⟨⟨o,e,ex.1⟩,λa h=>?_⟩;cases h;exact⟨o,e,ex.2.1⟩
  ·obtain⟨o,_,_,_,e,ex,_⟩:=I.hok p _ d;refine⟨⟨o,e,ex.1⟩,λa h=>?_⟩;cases h;exact⟨o,e,ex.2.1⟩
 |_=>exact False.elim ty
def tBM(K:W.Frag)(T:String)(r:V->List V->Hp->VK->Prop)(to:TE)(t:TA):TE:=λc H Q=>to c H λx d=>Mh K T x d/\t c d λe f=>r x e f Q
variable{o e:Expr}{O:List Expr}{to:TE}{t:TA}{L:Str}{N E:Pos}{T M:String}{r:V->List V->Hp->VK->Prop}
def KC(D:PlainAttrs T)(i:Slot T L M)(l:typeOf (.builtin M)=pure (.type "method_descriptor"))(J:ND X M r)(G:PE X o to)(K:PA X (e::O) t)
 (g:attributeBase o L X.env (eval o X.env)=eval o X.env:=by rfl)
 (j:((backTo E (starEach (e::O) X.env)).all (λx=>!x.1)&&(backToKw E (keywordEach [] X.env)).all (λx=>x.1.isSome)
 &&decide ((e::O).length+([]:List Keyword).length+(if([]:List Keyword).isEmpty then 0 else 1)<30))=true:=by rfl)
 (f:(N.endLine==E.line)=true:=by rfl)(F:X.se e O:=by rfl)(d:(backTo E<|starEach O X.env).any (·.1)=false:=by rfl):
   PE X (.Call (.Attribute o L N) (e::O) [] E) (tBM X.K T r to t):=by
  intro c s k H Q I h;refine wpAny_Call_method_late g j f rfl (ji (G c s k H _ I h) λv z m=>?_);obtain⟨x,H1,q,n,ty,C⟩:=m;obtain⟨S,R⟩:=ace q n ty;refine⟨T,M,D,i,l,S,R,?_⟩;have p:=K E c z k H1 _ q C;rw[F]at p⊢;refine dE (by show(false||(backTo E (starEach O X.env)).any (·.1))=false;rw[d]<;>rfl) (fK ?_);exact ji p λw y ⟨u,Z,W,A,B⟩=>J c y k Z x u v w Q W n A B
def FW(X:Cx)(M:String)(r:V->List V->Hp->VK->Prop):Prop:=
 ∀c s d H x f v g Q,Inv X c d H s->RelV x v->Vals f g->r x f H Q->
  wpAny (model X.prog X.w) X.A (call (.builtin M)<|v::g) (EP X c d Q) X.xe s
def Vals.one:∀{x} {c},Vals [x] c->∃u,c=[u]/\RelV x u:=by
 intro x c h;cases h with
 |cons r q=>cases q;exact⟨_,rfl,r⟩
variable{A:List<|Addr×Obj}{C:St}{H:Hp}{s:Shared}{l b:Addr}{B J zs:List V}
def Inv.JP{c its':List Value}{n}{f:Array Value->Array Value}{d:Nat}(I:Inv X A C H s)(j:H l=some (.lst B))
 (e:s.heap.get? l=some {cls:=.type "list",data:=.seq c.toArray n})(hf:f c.toArray=its'.toArray)(hv:Vals J its')(g:J.length<=sizeLine):
   Inv X A C (upd H l<|.lst J) {s with heap:=s.heap.update l<|Obj.mapSeq f,toks:=d}:=by
  have q:=PySem.IsL.update e f;rw[hf]at q;refine I.write (x:=l) (e:=l) (by rw[j];exact trivial) (.inl rfl) (λk u i h=>(bM s.heap (Obj.mapSeq f)<|bV i).trans h) ⟨_,q⟩ ?_;exact⟨g,its',_,hv,q⟩
def Inv.Tb{t':Nat}(I:Inv X A C H s)(hv:Vals J rO)(c:J.length<=sizeLine):
    Inv X A C (upd H s.heap.objs.size<|.lst J) {s with heap:=s.heap.push {cls:=.type "list",data:=.seq rO.toArray},toks:=t'}:=
 I.laid (λ_ _ q=>ag _ q) (ah _) ⟨c,rO,0,hv,aG _ rfl⟩
def Inv.fresh(I:Inv X A C H s):H s.heap.objs.size=none:=I.hok.fresh (ah _)
def Inv.JQ(I:Inv X A C H s)(d:H l=some (.lst B)):B.length<=sizeLine/\∃(c:List Value) (n:Nat),Vals B c/\B.length=c.length/\s.heap.get? l=some {cls:=.type "list",data:=.seq c.toArray n}:=by obtain⟨z,c,n,r,e⟩:=I.hok l _ d;exact⟨z,c,n,r,r.length,e⟩
def UI{n}(h:n<=sizeLine):Builtin.List.listTooLong n=false:=by unfold Builtin.List.listTooLong;exact aI (by omega)
def ZU:V->List V->Hp->VK->Prop:=λx c H Q=>∃l B y,x=.ref l/\c=[y]/\H l=some (.lst B)/\B.length<sizeLine/\Q .non (upd H l<|.lst<|B++[y])
def J1:FW X "list.append" ZU:=by intro A s C H x j v k Q I f g h;obtain⟨l,B,y,rfl,rfl,d,m,q⟩:=h;cases f;obtain⟨u,rfl,i⟩:=g.one;obtain⟨z,c,n,r,p,e⟩:=I.JQ d;refine call_meets cc ⟨_,e,rfl⟩ F.entry_list_append (F.args_list_append_2 _ _) (PySem.list_append l c.toArray n u (by rw[aN];omega)) ⟨e,?_⟩;refine⟨.non,_,I.JP (its':=c++[u]) d e (by simp) (r.append<|.cons i .nil) ?_,rfl,q⟩;rw[ar,cu];omega
end L2
namespace Fg
open PySem PySem.W PySem.Calls PyProof.Rows
def RA:∀(c:List Int) vs,WellAll P h vs (c.map WData.int)->IntsAre vs c:=by
 intro c;induction c with
 |nil=>intro vs w;rw[d3]at w;cases w;exact .nil
 |cons n c d=>
  intro vs w;rw[aT]at w;cases w with
  |cons a b=>cases a;exact .cons _ _ (d _ b)
def aaK{l:OpenLaw}{n}(v:l.most=some n)
 (c:l.row.toRowW.claim.pre args=true)(j:WellAll P h vals args):
   ∃a m b,vals=[Value.ref a]/\args=[WData.list<|b.map WData.int]/\h.get? a=some {cls:=.type "list",data:=.seq m.toArray}/\IntsAre m b/\b.length<=n:=by
  have k:WShape.hasAll [] args [.list .int]=true:=(pre_splitW c).1;have o:l.pre.holds [] {args:=args}=true:=(pre_splitW c).2;obtain⟨d,r,rfl,y,x⟩:=hasAllW_cons k;obtain rfl:=hasAllW_nil x;obtain⟨z,rfl,w⟩:=hasW_list y;obtain⟨b,rfl⟩:=items_int w;have e:b.length<=n:=by
   unfold OpenLaw.pre at o;have i:(WTm.not<|.lt (.lit<|.int (n:Int))<|.len<|.arg 0).holds [] {args:=[.list<|b.map .int]}=true:=by have i:=(holds_andW o).1;rw[v]at i;exact i
   have g:=condW_of i (w_not<|w_lt w_lit<|w_len_list<|w_arg rfl);rw[ai]at g;refine Nat.le_of_not_lt λq=>?_;have t:(n:Int)<((b.length:Nat):Int):=by omega
   first
    |(rw[aO t]at g;exact absurd g (by decide))
    |(simp at g;omega)
  cases j with
  |cons s p=>
   cases p;cases s with
   |list u f=>exact⟨_,_,b,rfl,rfl,u,RA b _ f,e⟩
def WZ(l:OpenLaw)(args):l.row.toRowW.claim.post args (.bool true) args=true:=
 postW_of (r:=l.row.toRowW) (X:=(true==true))
  (show WShape.has [] (.bool true) .bool=true by first|rfl|decide|simp[WShape.has,WShape.arms,WShape.armsAll])
  (show(WTm.eq .res<|.lit<|.bool true).value [] {args:=args,res:=some<|.bool true,after:=args}=some (.bool<|true==true)from w_eq_bool (w_res rfl) w_lit) rfl
def N1{l:OpenLaw}{n XP}{z:World->Heap->Prop}{d:DefRec}
 (D:l.most=some n)(s:d.params.defaults=[])
 (call:∀w (c b:Shared) mg mb fa o pm cd doc a (g:List Value) ns,
 Ground q loose [] XP w c mg mb b.heap->z w b.heap->
 b.heap.get? fa=some o->o.data=.func (docDef d.name d.params d.body d.scope pm cd doc)->b.heap.CodeRec cd d.name->mg d.name=some (.ref fa)->
 b.heap.get? a=some {cls:=.type "list",data:=.seq g.toArray}->IntsAre g ns->ns.length<=n->b.gens=#[]->
 codeAny (model l.prog w) callerA (.call (.ref fa) ⟨[.ref a],[]⟩) (λr k=>r=.ok (.ret (.bool true))/\OldK b.heap k.heap/\k.os=b.os/\AllBare k.gens) b):
  WalkO q loose XP z l.row.toRowW d [] (λf g=>PySem.call f g):=by
  intro w c b mg mb G Y fa o pm cd doc dV kV C I t x p H y u M h v A m F;obtain rfl:dV=.none:=Dflts.none x s;obtain rfl:kV=.none:=Dflts.noKw x;obtain⟨a,g,ns,rfl,rfl,i,e,j⟩:=aaK D h m;refine enter_call (dD (call w c b mg mb fa o pm cd doc a g ns G Y C (fd_plain I) t p i e j H) λr k B=>?_);obtain⟨rfl,L,K,J⟩:=B;exact⟨.inl ⟨.bool true,.bool true,[],rfl,λ_=>rfl,.bool true,WZ l _,λ_=>⟨List.Pairwise.nil,λ_ E=>(nomatch E)⟩⟩,L,K,J⟩
end Fg
namespace L2
open PySem PySem.Spec PyProof.Rows
theorem Mj:∀{a} {b},IntsAre a b->Vals (b.map V.int) a
 |_,_,.nil=>.nil
 |_,_,.cons n t h=>.cons ⟨t,rfl⟩ (Mj h)
def inClass(s:Stmt)(j:Nat):Stmt:=match s with
 |.ClassDef _ _ _ body _ _ _ _ _ _ _=>body.getD j (.Pass ⟨0,0,0,0⟩)
 |_=>.Pass ⟨0,0,0,0⟩
def kO(s:Stmt):Arguments:=match s with
 |.FunctionDef _ a _ _ _ _ _ _ _ _=>a
 |_=>{posonlyargs:=[],args:=[],vararg:=none,kwonlyargs:=[],kw_defaults:=[],kwarg:=none,defaults:=[]}
def kx(s:Stmt):List Stmt:=match s with
 |.FunctionDef _ _ b _ _ _ _ _ _ _=>b
 |_=>[]
def jt(s:Stmt):Scope:=match s with
 |.FunctionDef _ _ _ _ _ _ sc _ _ _=>sc
 |_=>{kind:=.function,names:=[],isGenerator:=false,isCoroutine:=false}
abbrev E0:XK:=λ_ _ _=>False
structure j0(K:W.Frag)(x qual:Str)(st:Stmt)(f:Addr)(fd:FuncData):Prop where
 ex:∃oc od kV doc pm an cdv ct osl,
  fd=W.fnOf x qual (kO st) (kx st) (jt st) .none kV doc pm an cdv ct/\K.lookup f=some ⟨oc,od,.func fd,osl⟩/\W.codeIn K cdv qual=true
 kp:W.keepIn K (.ref f)=true
variable{P:Program}{w:World}{K:W.Frag}{i:kl}{e:Heap}
def j0.binds{x a:Str}{d:Stmt}{f:Addr}{m:FuncData}{j:List Str}(F:j0 K x a d f m)
    (h:∀(kV b k:Value) (l:Option Addr) (c ct:Value) (g:List Value),g.length=j.length->bindArgs (W.fnOf x a (kO d) (kx d) (jt d) .none kV b k l c ct) ⟨g,[]⟩=pure (j.zip g)):Binds K m j []:=by
 obtain⟨q,p,kV,b,k,l,c,ct,n,rfl,r,o⟩:=F.ex;exact .all (h kV b k l c ct)
def Ij{x a:Str}{st:Stmt}{f:Addr}{n:Value}{m j:Option Addr}{g:Array<|Option Value}{kV d h b ct:Value}(l:K.lookup f=some ⟨n,m,.func<|W.fnOf x a (kO st) (kx st) (jt st) .none kV d h j b ct,g⟩)
    (c:W.codeIn K b a=true)(k:W.keepIn K (.ref f)=true):j0 K x a st f (W.fnOf x a (kO st) (kx st) (jt st) .none kV d h j b ct):=⟨⟨n,m,kV,d,h,j,b,ct,g,rfl,l,c⟩,k⟩
def qW{A B:Prop}(h:B):if false=true then A else B:=by rw[aw ax];exact h
def qX{A B:Prop}(h:A):if true=true then A else B:=by rw[av rfl];exact h
def kX(H a:Hp):Prop:=∀b o,H b=some o->a b=some o
end L2
namespace Fx
open PySem
def Hm(o:Obj)(f):(o.mapFields f).dict=o.dict:=by rcases o with⟨c,d,dt,a⟩;cases dt<;>rfl
def Dk(h:Heap)(e:Addr)(d:Option Addr):Prop:=∀b,d=some b->∃a,h.get? e=some a/\a.dict=some b
def nW(B:Heap)(l:List Env)(e:Addr)(a:Value)(d:Option Addr)(h:Heap):Prop:=
 (∃b,Heap.FlyingW B l e a b h)/\Dk h e d
def xE(B:Heap)(l:List Env)(e:Addr)(a:Value)(d:Option Addr)(L:Addr)(h:Heap):Prop:=
 (∃b,Heap.HeldW B l e a b L h)/\Dk h e d
def Hq{h:Heap}{d}(c:h.get? b=some o)(l:o.data=.fields vs)(k:Dk h e d):
    Dk (h.update b<|Obj.mapFields f) e d:=by
 intro m j;obtain⟨i,a,g⟩:=k m j;by_cases q:b=e
 ·subst q;rw[c]at a;cases a;exact⟨_,a9 _ c<|bR<|bj l f,by rw[Hm];exact g⟩
 ·exact⟨i,by rw[bM _ _ q];exact a,g⟩
variable{M:Model}{A:Around}{E:jW}{s:Shared}{B:Heap}{a:Env}{outer l:List Env}{L e:Addr}{cls:Value}{d:Option Addr}{Q:Unit->Shared->Prop}
def HP{more}(x:A.frames=some (a::outer))(w:s.heap.FunFrames B<|a::outer)(hf:a.frame=some L)
 (u:s.heap.get? e=some oe)(O:B.StaysIn s.heap)(J:B.get? e=none)(v:oe.data=.fields vs)(H:1<vs.size)(T:vs[0]?=some a0)(dk:Dk s.heap e d)
 (S:∀C,xE B (a::outer) e oe.cls d L C->s.heap.UpToSlots C->Q () {s with heap:=C}):
   wpAny M A (do
    let fr<-frameOf a
    let at_<-entryPlaceOf L more
    let N<-EntryCells.newEntry head fr .none (rawInt L) .none at_
    setField (.ref e) 1 N) Q E s:=by
  have ne:e∉(a::outer).filterMap (·.frame):=λz=>by obtain⟨_,V,r,D⟩:=w.mem z;rw[u]at r;cases r;exact D vs v
  refine ae (wpAny_frameOf_fun x w hf λf t=>?_);refine ae (wpAny_entryPlaceOf λc ok=>?_);unfold EntryCells.newEntry newFields;refine ae (aY ?_ (ok.sizeOk5 _ _ _ _ _));have n:f.get? e=some oe:=by rw[t.2.1 e ne];exact u
  have i:B.StaysIn f:=λb o q=>by rw[t.2.1 b λz=>by rw[(w.mem z).1]at q;cases q];exact O b o q
  generalize I:({cls:=.type "traceback",dict:=none,data:=.fields ([head,.ref L,.none,rawInt L,.none]++(if c.isEmpty then List.replicate 6 Value.none else c)).toArray}:Obj)=xf;have m:(f.push xf).get? e=some oe:=ag _ n;refine bZ m v H (S _ ?_ ?_)
  all_goals
   have G:f.objs.size≠e:=da (Heap.lt_size n);have keep:∀b o,b≠e->f.get? b=some o->((f.push xf).update e (Obj.mapFields (·.setIfInBounds 1 (Value.ref f.objs.size)))).get? b=some o:=λb o P g=>by rw[bM _ _<|bV P];exact ag _ g
   have h:∀b o,s.heap.get? b=some o->(∀K,o.data≠.fields K)->b≠e:=λb o g j z=>by subst z;rw[u]at g;cases g;exact j vs v
  ·have p:=bj v (·.setIfInBounds 1 (Value.ref f.objs.size));have k:=a9 (Obj.mapFields (·.setIfInBounds 1 (Value.ref f.objs.size))) m (bR p);have y:((f.push xf).update e (Obj.mapFields (·.setIfInBounds 1 (Value.ref f.objs.size)))).get? f.objs.size=some xf:=by
    rw[bM _ _<|bV G];exact aG f (by rw[<-I];rfl)
   refine⟨⟨a0,λb o q=>keep b o (λz=>by rw[z,J]at q;cases q)<|i b o q,J,w.of_keeps λb o g j=>?_,?_⟩,λU R=>?_⟩
   ·obtain⟨F,z⟩:=t.2.2 b o g;exact⟨_,keep b _ (h b o g j) z,rfl⟩
   ·refine⟨_,_,f.objs.size,xf,_,k,⟨df _ _,?_⟩,p,by simp[H],i.fresh,G,y,by rw[<-I],?_⟩;·rw[fj<|by decide];exact T
    ·rcases ok with z|⟨_,_,_,_,_,_,_,z⟩<;>(rw[z];simp)
   ·obtain⟨W,r,D⟩:=dk U R;rw[u]at r;cases r;exact⟨_,k,by rw[Hm];exact D⟩
  ·intro b o g j;obtain⟨F,z⟩:=t.2.2 b o g;exact⟨F,keep b _ (h b o g j) z⟩
def PM(k:A.frames=some (a::outer))(hf:a.frame=some L)(x:nW B (a::outer) e cls d s.heap)
 (y:∀j,xE B (a::outer) e cls d L j->s.heap.UpToSlots j->Q () {s with heap:=j}):wpAny M A (noteFrame (.ref e) a) Q E s:=by
  obtain⟨⟨O,u,G,F,K,J,T,N,t,m,⟨w,D⟩,n,j,H,I,hT,f,p⟩,dk⟩:=x;subst w;unfold noteFrame;simp only[hf];refine ae (dS m n j ?_);rw[av<|by simp];refine ae (dS hT f p ?_);rw[aw<|by simp[rawInt]];refine ae (bZ hT f (br.mp p).1 ?_);have c:∀b,b≠T->(s.heap.update T (Obj.mapFields (·.setIfInBounds 3 Value.none))).get? b=s.heap.get? b:=λb z=>bM _ _ (bV z);have g:∀b o,s.heap.get? b=some o->(∀r,o.data≠.fields r)->b≠T:=λb o h i z=>by subst z;rw[hT]at h;cases h;exact i t f
  refine HP (s:={s with heap:=s.heap.update T (Obj.mapFields (·.setIfInBounds 3 Value.none))}) k (F.of_keeps λb o h i=>⟨o,by rw[c b<|g b o h i];exact h,rfl⟩) hf
   (by rw[c e<|bV I];exact m) (λb o q=>by rw[c b λz=>by rw[z,H]at q;cases q];exact u b o q) G n (br.mp j).1 D (Hq hT f dk) λC v up=>?_
  exact y C v λb o h i=>up b o (by rw[c b<|g b o h i];exact h) i
def aaf{f:Obj}{c:Array Value}{p:Value}(g:A.frames=some (a::outer))(n:s.heap.FunFrames B<|a::outer)(hf:a.frame=some L)(h:s.heap.get? e=some f)(j:B.StaysIn s.heap)
    (o:B.get? e=none)(i:f.data=.fields c)(b:c[1]?=some .none)(m:c[0]?=some p)(dk:Dk s.heap e d)
    (k:∀b,xE B (a::outer) e f.cls d L b->s.heap.UpToSlots b->Q () {s with heap:=b}):wpAny M A (noteFrame (.ref e) a) Q E s:=by
 unfold noteFrame;simp only[hf];refine ae (dS h i b ?_);rw[aw<|by decide];exact HP g n hf h j o i (br.mp b).1 m dk k
def SM(y:B.StaysIn s.heap)(I:B.get? e=none)(H:s.heap.FunFrames B l)(x:s.heap.TracedAtW B e cls a0 fl)(dk:Dk s.heap e d)
 (F:∀j,nW B l e cls d j->s.heap.UpToSlots j->Q () {s with heap:=j}):wpAny M A (setFlight (.ref e) none) Q E s:=by
  obtain⟨C,w,T,J,n,p,D,r,j,t,u,hT,c,G⟩:=x;have m:3<n.size:=(br.mp G).1;unfold setFlight;refine ae (dS p r j ?_);rw[av<|by simp];refine bZ hT c m (F _ ⟨⟨a0,?_⟩,Hq hT c dk⟩ ?_)
  all_goals
   have g:∀b,b≠T->(s.heap.update T (Obj.mapFields (·.setIfInBounds 3 ((none:Option Addr).elim Value.none λf=>rawInt f)))).get? b=s.heap.get? b:=λb z=>bM _ _ (bV z);have h:∀b o,s.heap.get? b=some o->(∀v,o.data≠.fields v)->b≠T:=λb o i k z=>by subst z;rw[hT]at i;cases i;exact k n c
  ·refine⟨λb o q=>by rw[g b λz=>by rw[z,t]at q;cases q];exact y b o q,I,H.of_keeps λb o i k=>⟨o,by rw[g b<|h b o i k];exact i,rfl⟩,?_⟩;exact⟨C,w,T,_,_,by rw[g e<|bV u];exact p,D,r,j,t,u,a9 _ hT<|bR<|bj c _,bj c _,by simp[m]⟩
  ·exact λb o i k=>⟨o.slots,by rw[g b<|h b o i k];exact i⟩
def IJ(x:xE B l e cls d L s.heap)(g:∀b,nW B l e cls d b->s.heap.UpToSlots b->Q () {s with heap:=b}):wpAny M A (setFlight (.ref e) none) Q E s:=by obtain⟨⟨j,f,i,h,c⟩,dk⟩:=x;exact SM f i h c dk g
def nW.less(x:nW B (a::outer) e cls d s.heap):nW B outer e cls d s.heap:=by obtain⟨⟨h,c,g,⟨_,_,f⟩,b⟩,dk⟩:=x;exact⟨⟨h,c,g,f,b⟩,dk⟩
def PL(c:A.frames=some (a::outer))(hf:a.frame=some L)(x:nW B (a::outer) e cls d s.heap)
 (k:∀b,nW B outer e cls d b->s.heap.UpToSlots b->Q () {s with heap:=b}):wpAny M A (leaving a<|.ref e) Q E s:=by unfold leaving;exact ae (PM c hf x λb h j=>IJ (s:={s with heap:=b}) h λf g i=>k f (nW.less (s:={s with heap:=f}) g)<|j.trans i)
def aae{f:Obj}{c:Array Value}{w:Value}(g:A.frames=some (a::outer))(u:s.heap.FunFrames B<|a::outer)(hf:a.frame=some L)(o:s.heap.get? e=some f)(n:B.StaysIn s.heap)
    (v:B.get? e=none)(p:f.data=.fields c)(b:c[1]?=some .none)(t:c[0]?=some w)(dk:Dk s.heap e d)
    (q:∀b,nW B outer e f.cls d b->s.heap.UpToSlots b->Q () {s with heap:=b}):wpAny M A (leaving a<|.ref e) Q E s:=by
 unfold leaving;exact ae (aaf g u hf o n v p b t dk λr j m=>IJ (s:={s with heap:=r}) j λh i k=>q h (nW.less (s:={s with heap:=h}) i)<|m.trans k)
end Fx
set_option maxHeartbeats 4000000
namespace L2
open PySem PySem.Spec PyProof.Rows Fx
def kL(P:Program)(w:World):oC:=λa H s E e c=>
 ∃g b d h B,e=.ref g/\c.os=s.os/\AllBare c.gens/\nW B a g b d c.heap/\
  (∀f:Heap,B.StaysIn f->c.heap.UpToSlots f->Un (frs a) [] H h s.heap f/\kH P w h f)/\h g=none/\s.heap.get? g=none/\E b d h
structure FX(X:Cx)(pins:List<|Addr×Obj)(e:Addr):Prop where
 old:X.s₀.heap.get? e=none
 pin:∀p∈X.pn++pins,p.1≠e
 loc:e≠X.env.locals
 cel:∀x c,X.env.cells.lookup x=some c->c≠e
 frm:e∉X.fs
def XP(X:Cx)(a:List<|Addr×Obj)(i:St)(R:XK)(e:Value)(f:Shared):Prop:=
 ∃c b d h B,e=.ref c/\nW B X.stack c b d f.heap/\
  (∀g:Heap,B.StaysIn g->f.heap.UpToSlots g->Inv X a i h {f with heap:=g})/\h c=none/\FX X a c/\R b d h
section
variable{X:Cx}{a:List<|Addr×Obj}{f:St}{H:Hp}{s s':Shared}{e:Value}{E:XK}
def Inv.Ut(I:Inv X a f H s)(n:s.heap.get? ea=none)(g:X.ex=[]):FX X a ea:=by
 have z:∀b o,s.heap.get? b=some o->b≠ea:=λb o q w=>by rw[w,n]at q;cases q
 refine⟨?_,λp i=>z _ _ (I.pin p i).1,λw=>?_,λx c j=>?_,λk=>?_⟩
 ·cases q:X.s₀.heap.get? ea with
  |none=>rfl
  |some o=>obtain⟨l,h⟩:=I.base.there ea o q (by rw[g];simp);rw[n]at h;cases h
 ·obtain⟨m,⟨o,_,_,d,_⟩,_⟩:=I.loc;exact z _ _ d w.symm
 ·obtain⟨v,o,d,_⟩:=I.cell x c j;exact z _ _ d
 ·obtain⟨_,o,d,_⟩:=I.oN.mem k;exact z _ _ d rfl
def acu(I:Inv X a f H s)(h:kL X.prog X.w X.stack H s E e s')(i:X.ex=[]):XP X a f E e s':=by obtain⟨q,j,d,t,B,rfl,m,c,o,cl,p,fr,n⟩:=h;refine⟨q,j,d,t,B,rfl,o,λk r l=>?_,p,I.Ut fr i,n⟩;obtain⟨un,g⟩:=cl k r l;exact I.GV (s':={s' with heap:=k}) (ch:=[]) m un g c λb z=>absurd z (by simp)
end
def kz.there{w}(x:kz P w H h a o):∃ob,h.get? a=some ob:=by
 cases o with
 |lst c=>obtain⟨_,_,_,_,q⟩:=x;exact⟨_,q⟩
 |tup c=>obtain⟨_,_,_,ob,q,_⟩:=x;exact⟨_,q⟩
 |dK b=>obtain⟨_,_,_,_,ob,_,_,q,_⟩:=x;exact⟨_,q⟩
 |dT b=>obtain⟨_,_,_,_,ob,_,_,q,_⟩:=x;exact⟨_,q⟩
 |set S n=>obtain⟨ob,_,_,_,q,_⟩:=x;exact⟨_,q⟩
 |ins C i fs=>obtain⟨_,_,_,q,_⟩:=x;exact⟨_,q⟩
 |own y=>exact x
 |xd fs=>obtain⟨_,⟨_,_,_,q,_⟩,_⟩:=x;exact⟨_,q⟩
 |zP lo g=>obtain⟨_,_,_,q⟩:=x;exact⟨_,q⟩
 |ke ob u=>obtain⟨q,_⟩:=x;exact⟨_,q⟩
 |lT e=>exact⟨_,(show h.get? a=some _ from x)⟩
 |met f y=>exact⟨_,(show h.get? a=some _ from x)⟩
 |ext d=>obtain⟨_,q,_⟩:=x;exact q
def kH.no{w}(x:kH P w H h)(n:h.get? a=none):H a=none:=by
 cases q:H a with
 |none=>rfl
 |some o=>obtain⟨ob,z⟩:=(x a o q).there;rw[n]at z;cases z
section
variable{P:Program}{w:World}{K:W.Frag}{r:kl}{p:Heap}{N:List Str}{c:Str}{m:Scope}{f:Addr}{v:Value}{A:Around}{outer:List Env}{s:Shared}{H:Hp}{E:XK}
def jd:Passes (kL P w) (lE (kL P w) P w K r p N c m f v A outer s H E) E:=λn D O F e l I h=>by obtain⟨q,j,d,C,B,rfl,o,cl,z,x,y⟩:=acu I h rfl;have J:=λb g a=>cl b g a;obtain⟨M,u,_⟩:=o.1;have t:=J l.heap u (Heap.UpToSlots.refl _);show wpAny _ _ (leaving _<|.ref q) _ _ l;refine PL (outer:=outer) (L:=s.heap.objs.size) I.ok.frames rfl o λG i k=>?_;exact⟨q,j,d,C,B,rfl,t.os,t.bare,i,λb g a=>⟨(J b g<|k.trans a).base,(J b g<|k.trans a).hok⟩,z,x.old,y⟩
def aag{d}
 (I:Inv (lE (kL P w) P w K r p N c m f v A outer s H E) pins σ H2 s2)(Y:s2.heap.get? e=some oe)(fr:s.heap.get? e=none)(Z:oe.data=.fields vs)(h1:vs[1]?=some .none)(h0:vs[0]?=some a0)
 (dk:Dk s2.heap e d)(Q:H2 e=none)(hE:E oe.cls d H2):(lE (kL P w) P w K r p N c m f v A outer s H E).xe (.ref e) s2:=by
  let X:=lE (kL P w) P w K r p N c m f v A outer s H E
  let B:=W.hideAll s2.heap (e::frs X.stack)
  have T:B.StaysIn s2.heap:=λb o q=>W.of_hideAll _ q;have fe:B.get? e=none:=W.hideAll_none _ (List.Mem.head _);have ff:s2.heap.FunFrames B X.stack:=W.funFrames_hide I.stack λG V b g=>List.Mem.tail _ (bz.mpr ⟨G,V,g⟩);show wpAny _ _ (leaving _ (.ref e)) _ _ s2;refine aae (B:=B) (outer:=outer) (L:=s.heap.objs.size) I.ok.frames ff rfl Y T fe Z h1 h0 dk λh3 F S=>?_;refine⟨e,oe.cls,d,H2,B,rfl,I.os,I.bare,F,λD b5 R=>?_,Q,fr,hE⟩;have up:s2.heap.UpToSlots D:=S.trans R;have keep:∀b o,s2.heap.get? b=some o->b≠e->b∉frs X.stack->D.get? b=some o:=λb o q x t=>b5 b o (W.hideAll_get _ q λz=>by
   rcases aE.mp z with z|z;· exact x z
   · exact t z)
  have h:∀b o,H2 b=some o->b≠e/\b∉frs X.stack:=λb o q=>⟨λz=>(by subst z;rw[Q]at q;cases q),λz=>(by rw[I.EE b z]at q;cases q)⟩;have l:∀b o,s.heap.get? b=some o->b∉frs outer->b≠e/\b∉frs X.stack:=λb o q n=>⟨λz=>(by subst z;rw[fr]at q;cases q),λz=>(aE.mp (I.z6 b z)).elim (λz=>absurd (Heap.lt_size q) (by rw[z];exact cM _)) (λz=>n z)⟩;have i:∀b o,s2.heap.get? b=some o->b∈frs outer->∃M,D.get? b=some {o with slots:=M}:=λb o q g=>by obtain⟨_,o2,j,U⟩:=I.oN.mem g;rw[q]at j;cases j;exact up b o q U
  refine⟨⟨λb o q n g _=>?_,λb o q n g _=>?_,λb o q n C=>I.base.free b o q n C,λb o q C=>?_,I.base.tups,I.base.pD,I.base.rl⟩,λa o J=>?_⟩
  ·obtain⟨x,t⟩:=l b o q g;exact keep b o (I.base.keep b o q n g (by intro z;exact absurd (show b∈([]:List Addr)from z) (by simp))) x t
  ·obtain⟨M,y⟩:=I.base.slot b o q n g (by intro z;exact absurd (show b∈([]:List Addr)from z) (by simp));obtain⟨k,j⟩:=i b _ y g;exact⟨k,j⟩
  ·obtain⟨O,y⟩:=I.base.there b o q C;by_cases g:b∈frs outer
   ·obtain⟨k,j⟩:=i b _ y g;exact⟨_,j⟩
   ·obtain⟨x,t⟩:=l b o q g;exact⟨O,keep b O y x t⟩
  ·refine(I.hok a o J).stay (λb u g q=>?_) (λ_ q=>q) λ_ _ q=>q;rcases g with rfl|g;·exact keep b u q (h b _ J).1 (h b _ J).2
   ·exact keep b u q (h b _ g).1 (h b _ g).2
def Pu{K:W.Frag}(X:K.In h)(q:W.excIn K C vL newId=true):
    ∃u N z y bs g x sub D d dd t o k j i F,h.get? C=some (excClassObj z y C N bs u g x sub D d dd t o k j i newId)/\h.Ns N F/\F "__init__"=none/\OwnTail h vL u:=by
 unfold W.excIn at q;split at q
 next dd v sl ho=>
  split at q
  next C' u t o k j n i hm hs=>
   simp only[aS,dR,gh]at q;obtain⟨⟨⟨⟨⟨rfl,rfl⟩,a⟩,G⟩,b⟩,e⟩:=q;rcases v with⟨z,bs,J,I,y,B,x,sub,D,d,M⟩;dsimp only at hm a b e;subst hm a;have L:sl=#[t,o,k,j,some (.builtin n),i]:=by rcases sl with⟨l⟩;simp only at hs;rw[hs]
   subst L;exact⟨u,I,z,y,bs,B,x,sub,D,d,dd,t,o,k,j,i,_,X _ _ ho,.of_isNs<|W.isNs_of_in X b,W.nsMap_none_of_in X b e,W.tail_of_in X G⟩
  next=>cases q
 next=>cases q
def abM(E:XK)(C:Addr):TS:=λ_ _ H=>E (.ref C) none H
def W9(l:ExcBaseFacts B newId Rx vL)(q:W.excIn K C vL newId=true)
 (F:Gl (lE (kL P w) P w K r p N c m f v A outer s H E) x)(u:r x=some (.ref C))(d:oi x):
   PS (lE (kL P w) P w K r p N c m f v A outer s H E) (.Raise (some<|.Call (.Name x np) [] [] cpos) none pos) (abM E C):=by
  intro a g n Q D I h;obtain⟨bm,NS,U,S,bs,j,R,sub,ab,M,dd,k0,Z,Y,X,V,mN,J,hN,b,k⟩:=Pu I.l5 q;refine wpAny_Raise_call_subT (bm:=bm) l (mN:=mN) (k.hasType l.hasBase) (I.ok.hd rfl) rfl b (Cp I F u ⟨rfl,evalArgs_empty ⟨rfl,bQ _,J,hN,k,λL e mk=>?_⟩⟩ d);obtain⟨t,G,_,_⟩:=mk.there;have O:Inv (lE (kL P w) P w K r p N c m f v A outer s H E) a n Q {g with heap:=L}:=I.kept (t':=g.toks) mk.keeps;refine aag O G ?_ rfl rfl rfl (by intro dx z;cases z) (I.hok.no mk.new) h;cases z:s.heap.get? e with
  |none=>rfl
  |some o=>obtain⟨T,i⟩:=I.base.there e o z (by intro y;exact absurd (show e∈([]:List Addr)from y) (by simp));rw[mk.new]at i;cases i
def j0.Kk{x c:Str}{e:Stmt}{f:Addr}{l:FuncData}{N h:List Str}{k:Nat}{g:Sp}(F:j0 K x c e f l)(S:kj N h<|jt e)(len:∀b H Q E,g b H Q E->b.length=h.length)
    (d:∀(a:Value) (A:Around) (outer:List Env) (s:Shared) (H:Hp) (b:List V) (Q:VK) (E:XK),kQ k (A.deeper (envOfC c (jt e) s.heap.objs.size f a))->g b H Q E->
      ∃t,oI (lE (kL P w) P w K r p N c (jt e) f a A outer s H E) (kx e) t/\t {nx:=λ_ y=>Q .non y,rt:=Q} (start N b) H):mE P w K r p (kL P w) (k+1) f l h g:=by
 obtain⟨C,B,kV,u,z,D,a,ct,n,rfl,o,j⟩:=F.ex;exact HY o j S len λA outer s H b Q E q i=>d a A outer s H b Q E q i
variable{X:Cx}
def MP(i j:Int):Prop:=Builtin.Int.intBits i<=1048576/\Builtin.Int.intBits j<=1048576
def VW:kM X (binaryOp .Mult) (rI MP λi j=>.int<|i*j):=wC λ_ _ _ _ _ _ _ a q=>mul_int q (IntMulOk.of_le a.1 a.2<|by decide)
def Fj(_ j:Int):Prop:=j≠0/\Builtin.Int.intBits j<=9000
def Te{j:Int}(h:Builtin.Int.intBits j<=9000):j.natAbs.log2<9000:=by
 by_cases z:j.natAbs=0;·rw[z];decide+kernel
 ·exact(Nat.log2_lt z).mpr (intBits_le_iff.mp h)
def VM:kM X (binaryOp .FloorDiv) (rI Fj λi j=>.int<|i.fdiv j):=wC λ_ _ _ _ _ _ _ a q=>floordiv_int a.1 q (.inl<|PyProof.noPylong_of_log2<|Te a.2)
end
def pw(P:Program)(w:World)(K:W.Frag)(c:kl)(a:Heap)(g:oC)(k:Nat)(x:Str)(b:List Str)(e:Sp):Prop:=
 ∃f d,mE P w K c a g k f d b e/\Binds K d b []/\W.keepIn K (.ref f)=true/\c x=some (.ref f)
abbrev jF(P:Program)(w:World)(K:W.Frag)(mg:kl)(base:Heap):=pw P w K mg base (kL P w)
abbrev jN(P:Program)(w:World)(K:W.Frag)(mg:kl)(base:Heap):=mE P w K mg base (kL P w)
def Dj{w}:Passes (kL P w) X E0:=λ_ _ _ _ _ _ _ h=>by obtain⟨_,_,_,_,_,_,_,_,_,_,_,_,z⟩:=h;exact z.elim
variable{X:Cx}{Y:oC}{k:Nat}{M:List Str}{O:Sp}{E:XK}{x:Str}{p T:Pos}{e:Expr}{U:List Expr}{t:TA}
def Dl(h:pw X.prog X.w X.K X.mg X.base Y k x M O)(d:kQ k X.A)(g:Gl X x)(c:Passes Y X E)(i:PA X (e::U) t)(a:X.cl x e U T):PE X (.Call (.Name x p) (e::U) [] T) (L7 O [] E t):=by obtain⟨f,j,F,b,kp,m⟩:=h;exact Wd F d g m kp b .nil c i a
end L2
namespace Fx
open PySem
variable{e:Program}{w:World}{A:Around}{E:jW}{h:Heap}{g:Array GenState}{d:Drawn}{t:Nat}{b:OsState}
variable{m q:Str}{C N:Addr}{bs z j:List Value}{f:Bool}{l:List Str}{sub:List Value}{F:Bool}{i:Option Bool}{dd:Option Addr}{x v r p o:Option Value}{B c a:String}
abbrev rB(h:Heap)(C:Addr)(n:Str)(y:Option Value):Prop:=∀M A E g d t b (Q:Option Value->Shared->Prop),
 Q y ⟨h,g,d,t,b⟩->wpAny M A (typeLookup (.ref C) n) Q E ⟨h,g,d,t,b⟩
end Fx
namespace L2
open PySem PySem.Spec PyProof.Rows Fx
def yt(e C:Addr)(d:Option Addr):HO:=.ext λh=>∃a c,h.get? e=some a/\a.cls=.ref C/\(∀b,d=some b->a.dict=some b)/\a.data=.fields c
def Pt(K:W.Frag)(C e:Addr)(c:List Value)(a:String):Bool:=match K.lookup C with
 |some ⟨.type "type",_,.cls b,d⟩=>(match b.mro,d.toList with
  |.ref f::bm,[_,_,_,_,some (.builtin n),_]=>f==C&&n==a&&!b.hasDel&&b.hasDict&&W.tailIn K c bm&&W.nsOkIn K b.ns&&W.nsIn K b.ns "__init__"==some (some<|.ref e)
  |_,_=>false)
 |_=>false
structure ada(K:W.Frag)(C fI:Addr)(field:Str):Prop where
 cls:Pt K C fI [.type "ValueError",.type "Exception",.type "BaseException",.type "object"] "ValueError.__new__"=true
 fn:W.isFn K (.ref fI)=true
 kp:W.keepIn K (.ref C)=true
 sa:W.findIn K (.ref C) "__setattr__"=some (some<|.builtin "object.__setattr__")
 ga:W.findIn K (.ref C) "__getattribute__"=some (some<|.builtin "BaseException.__getattribute__")
 gn:W.findIn K (.ref C) "__getattr__"=some none
 fl:W.findIn K (.ref C) field=some none
def EI{K:W.Frag}{n}(X:K.In h)(e:W.findIn K (.ref C) n=some y):rB h C n y:=λM A E g d t a Q b=>(W.looks_findIn (M:=M) X e).here (s:=⟨h,g,d,t,a⟩) b
end L2
namespace P2
open PySem L2
inductive D where
 |non|bl(b:Bool)|int(i:Int)|str(x:Str)|ty(n:String)|ref(a:Addr)
 |tup(ds:List D)|lst(ds:List D)|exc(c:Addr)(ns:List Str)(ds:List D)
inductive R(α:Type) where
 |ok(a:α)|ex(c:Addr)(ns:List Str)(ds:List D)|bad
abbrev jf:=List D->R D
noncomputable def R.bind{d b:Type}:R d->(d->R b)->R b
 |.ok a,f=>f a
 |.ex c ns ds,_=>.ex c ns ds
 |.bad,_=>.bad
def GL{b a:Type}{r:R b}{g:b->R a}{y:a}(h:r.bind g=.ok y):∃x,r=.ok x/\g x=.ok y:=by
 cases r with
 |ok x=>exact⟨x,rfl,h⟩
 |ex c d e=>cases h
 |bad=>cases h
def KL(K:W.Frag)(a:Addr)(c:List V):Prop:=∃(b:List Value) (n:Nat),K.lookup a=some {cls:=.type "list",data:=.seq b.toArray n}/\b.length<=sizeLine/\Vals c b
def KL.sq(h:KL K a vs):k7 K H a vs:=let⟨b,n,e,d,c⟩:=h;.inr ⟨_,b.toArray,n,e,rfl,rfl,rfl,by simpa using d,by simpa using c⟩
def KT(K:W.Frag)(a:Addr)(c:List V):Prop:=∃o b n,K.lookup a=some o/\o.cls=.type "tuple"/\o.data=.seq b n/\b.size<=sizeLine/\Vals c b.toList
def namesOf(K:W.Frag):List Str:=match K.lookup mainGlobals with
 |some ⟨_,_,.dict a _,_⟩=>a.toList.filterMap λe=>match e.key with
  |.str x _=>some x
  |_=>none
 |_=>[]
def WW(K:W.Frag)(x:Str):Bool:=match W.nsIn K mainGlobals x with
 |some (some (.ref f))=>(match K.lookup f with
  |some ⟨_,_,.func a,_⟩=>(match a.defaults,a.kwdefaults with
   |.none,.none=>true
   |_,_=>false)
  |_=>false)
 |_=>false
def mD(K:W.Frag):List (Str×Addr×Addr):=(namesOf K).filterMap λx=>if WW K x then(W.tabIn K x).map λq=>(x,q.1,q.2)else none
def lV(c:Addr)(q:Str):HO:=.ext λh=>h.CodeRec (.ref c) q
def lY(K:W.Frag)(H:Hp):Prop:=∀t∈mD K,∃a,H t.2.2=some (.lT a)/\TriplesOk a.toList/\∀b d,codeAmong b a.toList=some d->∃c,d=.ref c/\H c=some (lV c<|t.1++".<locals>.<lambda>")
def NT(o:HO):Prop:=∀a,o≠.lT a
def oo:NT (.lst l):=λ_ h=>nomatch h
def UM:NT (.tup l):=λ_ h=>nomatch h
def Kc{u}:NT (.ke o u):=λ_ h=>nomatch h
def zm:NT (.xd l):=λ_ h=>nomatch h
def zl:NT (.ext φ):=λ_ h=>nomatch h
structure kX(K:W.Frag)(H H':Hp):Prop where
 at':∀b o,NT o->H b=some o->H' b=some o
 fr:∀b,H' b=none->H b=none
 tt:lY K H->lY K H'
def kX.refl{K:W.Frag}(H:Hp):kX K H H:=⟨λ_ _ _ h=>h,λ_ h=>h,λh=>h⟩
def kX.trans(a:kX K H H1)(b:kX K H1 H2):kX K H H2:=⟨λc o n h=>b.at' c o n<|a.at' c o n h,λc h=>a.fr c<|b.fr c h,λh=>b.tt<|a.tt h⟩
def kX.free(e:kX K H H')(h:H' l=Option.none):H l=Option.none:=e.fr l h
def lY.off{g:Hp}(t:lY K H)(i:∀a,H p≠some (.lT a))(j:∀q,H p≠some (lV p q))(e:∀b,b≠p->g b=H b):lY K g:=λx h=>by obtain⟨a,d,l,k⟩:=t x h;refine⟨a,by rw[e _ λw=>i a (by rw[<-w];exact d)];exact d,l,λc o n=>?_⟩;obtain⟨r,m,f⟩:=k c o n;exact⟨r,m,by rw[e _ λw=>j _ (by rw[<-w];exact f)];exact f⟩
def zd{H:Hp}(h:H p=some (.lst l)):(∀a,H p≠some (.lT a))/\∀q,H p≠some (lV p q):=
 ⟨λa w=>(by rw[h]at w;exact nomatch w),λq w=>(by rw[h]at w;unfold lV at w;exact nomatch w)⟩
def lY.upd(t:lY K H)(g:∀a,H p≠some (.lT a))(h:∀q,H p≠some (lV p q)):lY K (upd H p o):=λx f=>by obtain⟨a,c,j,i⟩:=t x f;refine⟨a,by rw[jB λw=>g a (by rw[<-w];exact c)];exact c,j,λb l e=>?_⟩;obtain⟨m,k,d⟩:=i b l e;exact⟨m,k,by rw[jB λw=>h _ (by rw[<-w];exact d)];exact d⟩
mutual
inductive Rep(K:W.Frag)(al:Addr->Prop)(H:Hp):V->D->Prop
 |non:Rep K al H .non .non
 |bl (b:Bool):Rep K al H (.bl b) (.bl b)
 |int (i:Int):Rep K al H (.int i) (.int i)
 |str (x:Str):Rep K al H (.str x) (.str x)
 |ty (n:String):Rep K al H (.ty n) (.ty n)
 |ref (a:Addr):Rep K al H (.ref a) (.ref a)
 |tup {a:Addr} {vs:List V} {ds:List D}:(al a/\H a=some (.tup vs))\/KT K a vs->jb K al H vs ds->Rep K al H (.ref a) (.tup ds)
 |lst {a:Addr} {vs:List V} {ds:List D}:(al a/\Rd H a (.lst vs))\/KL K a vs->jb K al H vs ds->Rep K al H (.ref a) (.lst ds)
 |exc {a c dx:Addr} {ns:List Str} {vs:List V} {ds:List D}:al a->H a=some (yt a c<|some dx)->al dx->H dx=some (.xd<|ns.zip vs)->jb K al H vs ds->Rep K al H (.ref a) (.exc c ns ds)
 |vO {a c:Addr}:al a->H a=some (yt a c none)->Rep K al H (.ref a) (.exc c [] [])
inductive jb(K:W.Frag)(al:Addr->Prop)(H:Hp):List V->List D->Prop
 |nil:jb K al H [] []
 |cons {v:V} {d:D} {vs:List V} {ds:List D}:Rep K al H v d->jb K al H vs ds->jb K al H (v::vs) (d::ds)
end
def Xt(c:Addr->Prop)(H:Hp)(b:Addr->Prop)(d:Hp):Prop:=∀a o,NT o->c a->H a=some o->b a/\d a=some o
def Xt.refl{a:Addr->Prop}{H:Hp}:Xt a H a H:=λ_ _ _ h e=>⟨h,e⟩
def Xt.trans(x:Xt al H mr H1)(y:Xt mr H1 xW H2):Xt al H xW H2:=λa o n h e=>y a o n (x a o n h e).1 (x a o n h e).2
def Xt.of(s:kX K H H'):Xt al H al H':=λa o n h e=>⟨h,s.at' a o n e⟩
def Xt.sub{c b:Addr->Prop}(s:∀a,c a->b a):Xt c H b H:=λa o _ h e=>⟨s a h,e⟩
def aah{u}(h:Xt al H nZ H')(n:NT u)(z:al a/\Rd H a u):nZ a/\Rd H' a u:=by
 obtain⟨b,z2|⟨o,z2⟩⟩:=z;·exact⟨(h a _ n b z2).1,.inl (h a _ n b z2).2⟩
 ·exact⟨(h a _ Kc b z2).1,.inr ⟨o,(h a _ Kc b z2).2⟩⟩
mutual
theorem Rep.mv(h:Xt al H nZ H'):∀{v} {d},Rep K al H v d->Rep K nZ H' v d
 |_,_,.non=>.non
 |_,_,.bl b=>.bl b
 |_,_,.int b=>.int b
 |_,_,.str b=>.str b
 |_,_,.ty b=>.ty b
 |_,_,.ref b=>.ref b
 |_,_,.tup p q=>.tup (p.elim (λz=>.inl<|h _ _ UM z.1 z.2) .inr) (q.mv h)
 |_,_,.lst p q=>.lst (p.elim (λz=>.inl<|aah h oo z) .inr) (q.mv h)
 |_,_,.exc c a f e q=>.exc (h _ _ zl c a).1 (h _ _ zl c a).2 (h _ _ zm f e).1 (h _ _ zm f e).2 (q.mv h)
 |_,_,.vO c a=>.vO (h _ _ zl c a).1 (h _ _ zl c a).2
theorem jb.mv(h:Xt al H nZ H'):∀{v} {d},jb K al H v d->jb K nZ H' v d
 |_,_,.nil=>.nil
 |_,_,.cons p q=>.cons (p.mv h) (q.mv h)
end
section
variable{K:W.Frag}{j B:Addr->Prop}{H l:Hp}{v:V}{d:D}{c m:List V}{f A:List D}
def Rep.up(r:Rep K j H v d)(s:kX K H l):Rep K j l v d:=r.mv (.of s)
def jb.up(r:jb K j H c f)(s:kX K H l):jb K j l c f:=r.mv (.of s)
def jb.length(r:jb K j H c f):c.length=f.length:=by
 induction f generalizing c with
 |nil=>cases r;rfl
 |cons d f e=>cases r with|cons a b=>rw[aj,aj,e b]
def jb.append(r:jb K j H c f)(q:jb K j H m A):jb K j H (c++m) (f++A):=by
 induction f generalizing c with
 |nil=>cases r;exact q
 |cons d f e=>cases r with|cons a b=>exact .cons a (e b)
def jb.get(r:jb K j H c f){i:Nat}{x:V}(e:c[i]?=some x):∃y,f[i]?=some y/\Rep K j H x y:=by
 induction f generalizing c i with
 |nil=>cases r;simp at e
 |cons d f g=>
  cases r with
  |cons a b=>
   cases i with
   |zero=>simp at e;subst e;exact⟨_,rfl,a⟩
   |succ i=>simpa using g b (by simpa using e)
def jb.getD(r:jb K j H c f){i:Nat}{y:D}(e:f[i]?=some y):∃x,c[i]?=some x/\Rep K j H x y:=by
 have g:=r.length;have a:i<c.length:=by rw[g];exact(aB.mp e).1
 obtain⟨z,b,q⟩:=r.get (ao a);rw[e]at b;cases b;exact⟨_,ao a,q⟩
def jb.drop(r:jb K j H c f)(n):jb K j H (c.drop n) (f.drop n):=by
 induction n generalizing c f with
 |zero=>exact r
 |succ n e=>
  cases r with
  |nil=>exact .nil
  |cons a b=>exact e b
def jb.take(r:jb K j H c f)(n):jb K j H (c.take n) (f.take n):=by
 induction n generalizing c f with
 |zero=>exact .nil
 |succ n e=>
  cases r with
  |nil=>exact .nil
  |cons a b=>exact .cons a (e b)
def Rep.rm(r:Rep K j H v<|.tup f):∃a c,v=.ref a/\mF K H a c/\jb K j H c f:=by
 cases r with
 |tup p q=>exact⟨_,_,rfl,p.elim (λz=>.inl<|.inl z.2) .inr,q⟩
def Rep.qz(r:Rep K j H v<|.lst f):∃a c,v=.ref a/\k7 K H a c/\jb K j H c f:=by
 cases r with
 |lst p q=>exact⟨_,_,rfl,p.elim (λz=>.inl z.2) KL.sq,q⟩
def Rep.zc(r:Rep K j H v<|.lst f):∃a c,v=.ref a/\(Rd H a (.lst c)\/KL K a c)/\jb K j H c f:=by
 cases r with
 |lst p q=>exact⟨_,_,rfl,p.imp (λz=>z.2) id,q⟩
def mj(h:H p=none):kX K H (upd H p o):=⟨λb u _ q=>by rw[jB (nc q h)];exact q,λb q=>by
    by_cases z:b=p;· rw[z];exact h
    · rw[jB z]at q;exact q,λt=>t.upd (λa w=>by rw[h]at w;cases w) λq w=>by rw[h]at w;cases w⟩
def jb.EK(r:jb K j H c f)(h:H p=none)(a:j p):Rep K j (upd H p<|.tup c) (.ref p) (.tup f):=.tup (.inl ⟨a,kC⟩) (r.up<|mj h)
def jb.uH(r:jb K j H c f)(h:H p=none)(a:j p):Rep K j (upd H p<|.lst c) (.ref p) (.lst f):=.lst (.inl ⟨a,.inl kC⟩) (r.up<|mj h)
end
inductive Sl where
 |no|sh(d:D)|ow(ds:List D)
abbrev Ev:=List Sl
abbrev jw:=Ev->R D
structure RS(K:W.Frag)(P:Addr->Prop)(H0:Hp)(al:Addr->Prop)(H:Hp)(σ:St)(ρ:Ev):Prop where
 same:kX K H0 H
 tt:lY K H
 fresh:∀a,H a=none->al a
 sub:∀a,al a->P a
 pf:∀a,H0 a=none->P a
 len:ρ.length=σ.length
 sh:∀(i:Nat) (d:D),ρ[i]?=some (.sh d)->∃v,σ[i]?=some (some v)/\Rep K al H v d
 ow:∀(i:Nat) (ds:List D),ρ[i]?=some (.ow ds)->∃a vs,σ[i]?=some (some<|.ref a)/\H a=some (.lst vs)/\jb K al H vs ds/\¬al a/\H0 a=none
 apart:∀(i j:Nat) (ds O6:List D) (a:Addr),ρ[i]?=some (.ow ds)->ρ[j]?=some (.ow O6)->σ[i]?=some (some<|.ref a)->σ[j]?=some (some<|.ref a)->i=j
section
variable{K:W.Frag}{P f:Addr->Prop}{m H o:Hp}{l:St}{c:Ev}
def RS.grow(r:RS K P m f H l c)(s:kX K H o):RS K P m f o l c where
 same:=r.same.trans s
 tt:=s.tt r.tt
 fresh:=λa h=>r.fresh a (s.free h)
 sub:=r.sub
 pf:=r.pf
 len:=r.len
 sh:=λi d e=>let⟨v,a,b⟩:=r.sh i d e;⟨v,a,b.up s⟩
 ow:=λi q e=>let⟨a,g,p,n,k,j⟩:=r.ow i q e;⟨a,g,p,s.at' _ _ oo n,k.up s,j⟩
 apart:=r.apart
def RS.set(r:RS K P m f H l c){i:Nat}{v:V}{d:D}(p:i<c.length)(q:Rep K f H v d):RS K P m f H (l.set i<|some v) (c.set i<|.sh d) where
 same:=r.same
 tt:=r.tt
 fresh:=r.fresh
 sub:=r.sub
 pf:=r.pf
 len:=by rw[aP,aP];exact r.len
 sh:=λj e h=>by
  by_cases z:i=j
  ·subst z;rw[aD p]at h;cases h;exact⟨v,aD<|by rw[<-r.len];exact p,q⟩
  ·rw[au z]at h;obtain⟨w,a,b⟩:=r.sh j e h;exact⟨w,by rw[au z];exact a,b⟩
 ow:=λj t h=>by
  by_cases z:i=j
  ·subst z;rw[aD p]at h;cases h
  ·rw[au z]at h;obtain⟨a,A,n,g⟩:=r.ow j t h;exact⟨a,A,by rw[au z];exact n,g⟩
 apart:=λj k t s a n g x u=>by
  by_cases z:i=j;·subst z;rw[aD p]at n;cases n
  ·by_cases y:i=k;·subst y;rw[aD p]at g;cases g
   ·rw[au z]at n x;rw[au y]at g u;exact r.apart j k t s a n g x u
end
def XR(K:W.Frag)(e:Addr->Prop)(H:Hp)(f:Option Addr)(b:List Str)(c:List D):Prop:=
 match f with
 |none=>b=[]/\c=[]
 |some d=>e d/\∃a,H d=some (.xd<|b.zip a)/\jb K e H a c
def XR.mv(h:Xt al H nZ H')(r:XR K al H dx ns ds):XR K nZ H' dx ns ds:=by
 cases dx with
 |none=>exact r
 |some d=>obtain⟨a,b,e,q⟩:=r;exact⟨(h _ _ zm a e).1,b,(h _ _ zm a e).2,q.mv h⟩
def Aft{d:Type}(K:W.Frag)(f:Addr->Prop)(E:XK)(H:Hp)(r:R d)(k:d->Hp->Prop):Prop:=
 match r with
 |.ok a=>∀b,kX K H b->k a b
 |.ex c ns ds=>∀e b,kX K H b->XR K f b e ns ds->E (.ref c) e b
 |.bad=>False
section
variable{e f:Type}{K:W.Frag}{b:Addr->Prop}{E:XK}{H i:Hp}{r:R e}{k h:e->Hp->Prop}
def Aft.up(a:Aft K b E H r k)(s:kX K H i):Aft K b E i r k:=by
 cases r with
 |ok x=>exact λg d=>a g (s.trans d)
 |ex c l m=>exact λj g d=>a j g (s.trans d)
 |bad=>exact a
def Aft.mono(a:Aft K b E H r k)(m:∀x d,kX K H d->k x d->h x d):Aft K b E H r h:=by
 cases r with
 |ok x=>exact λd g=>m x d g (a d g)
 |ex c j l=>exact a
 |bad=>exact a
def Aft.split{g:e->R f}{k:f->Hp->Prop}(a:Aft K b E H (r.bind g) k):Aft K b E H r (λx d=>Aft K b E d (g x) k):=by
 cases r with
 |ok x=>exact λd j=>Aft.up a j
 |ex c l m=>exact a
 |bad=>exact a
end
def DE(X:Cx)(E:XK)(e:Expr)(f:jw):Prop:=∃t:TE,PE X e t/\
 ∀P h a H b c (Q:VK),RS X.K P h a H b c->Aft X.K a E H (f c) (λd g=>∀v,Rep X.K a g v d->Q v g)->t b H Q
def DT(X:Cx)(E:XK)(e:Expr)(f:Ev->R Bool):Prop:=∃t:TT,PT X e t/\
 ∀P d c H a b (Q:Bool->Hp->Prop),RS X.K P d c H a b->Aft X.K c E H (f b) Q->t a H Q
def DW(X:Cx)(E:XK)(e:Expr)(f:Ev->R Bool):Prop:=∃t:TT,PW X e t/\
 ∀P d c H a b (Q:Bool->Hp->Prop),RS X.K P d c H a b->Aft X.K c E H (f b) Q->t a H Q
def DA(X:Cx)(E:XK)(g:List Expr)(f:Ev->R (List D)):Prop:=∃t:TA,PA X g t/\
 (∀P i c H d a (Q:List V->Hp->Prop),RS X.K P i c H d a->Aft X.K c E H (f a) (λb h=>∀e,jb X.K c h e b->Q e h)->t d H Q)/\∀a b,f a=.ok b->b.length=g.length
def DN(X:Cx)(E:XK)(e:Expr)(f:Ev->R (List D)):Prop:=∃t:TE,PE X e t/\
 ∀P i a H c d (Q:VK),RS X.K P i a H c d->Aft X.K a E H (f d) (λh b=>∀p g,b p=none->jb X.K a b g h->Q (.ref p) (upd b p<|.lst g))->t c H Q
def lr(X:Cx)(E:XK)(h:Value->Value->Sem Value)(g:D->D->R D):Prop:=∃r:R2,kM X h r/\
 ∀b H x y e c (Q:VK),(∀a,H a=none->b a)->Rep X.K b H x e->Rep X.K b H y c->Aft X.K b E H (g e c) (λd f=>∀v,Rep X.K b f v d->Q v f)->r x y H Q
def AN(X:Cx)(E:XK)(g:D->D->R D):Prop:=∃r:R2,qo X r/\
 ∀b H x y e c (Q:VK),(∀a,H a=none->b a)->Rep X.K b H x e->Rep X.K b H y c->Aft X.K b E H (g e c) (λd f=>∀v,Rep X.K b f v d->Q v f)->r x y H Q
def F7(X:Cx)(E:XK)(f:Value->Sem Value)(g:D->R D):Prop:=∃r:V->Hp->VK->Prop,xR X f r/\
 ∀b H x c (Q:VK),(∀a,H a=none->b a)->Rep X.K b H x c->Aft X.K b E H (g c) (λd e=>∀v,Rep X.K b e v d->Q v e)->r x H Q
def vn(X:Cx)(E:XK)(f:Value)(g:jf):Prop:=∃r:List V->Hp->VK->Prop,mZ X f r/\
 ∀b H c e (Q:VK),(∀a,H a=none->b a)->jb X.K b H c e->Aft X.K b E H (g e) (λd h=>∀v,Rep X.K b h v d->Q v h)->r c H Q
noncomputable def dV(i:Nat):jw:=λa=>match a[i]? with
 |some (.sh d)=>.ok d
 |_=>.bad
noncomputable def dC(d:D):jw:=λ_=>.ok d
def d1(g:D->R D)(a:jw):jw:=λb=>(a b).bind g
def d2(g:D->D->R D)(a b:jw):jw:=λc=>(a c).bind λx=>(b c).bind λy=>g x y
abbrev iQ(i:Int):jw:=dC (.int i)
abbrev jc(x:Str):jw:=dC (.str x)
def tB(d:D):R Bool:=match d with
 |.bl b=>.ok b
 |_=>.bad
def tT(d:D):R Bool:=match d with
 |.non=>.ok false
 |.bl b=>.ok b
 |.int i=>.ok (i !=0)
 |.str y=>if y.length<=sizeLine then .ok ((y.length:Int)!=0)else .bad
 |.lst ds=>.ok (!ds.isEmpty)
 |.tup ds=>.ok (!ds.isEmpty)
 |_=>.bad
def b1(t:D->R Bool)(a:jw):Ev->R Bool:=λb=>(a b).bind t
def rD(a b:Ev->R Bool):Ev->R Bool:=λd=>(a d).bind λc=>if c=true then b d else .ok false
def qT(a b:Ev->R Bool):Ev->R Bool:=λd=>(a d).bind λc=>if c=true then .ok true else b d
def uf(a:Ev->R Bool):Ev->R Bool:=λb=>(a b).bind λc=>.ok (!c)
def yf(a b:jw):jw:=λd=>((a d).bind tB).bind λc=>if c=true then b d else .ok (.bl false)
def OO(a b:jw):jw:=λd=>((a d).bind tB).bind λc=>if c=true then .ok (.bl true)else b d
def yg(a:jw):jw:=λb=>((a b).bind tB).bind λc=>.ok (.bl<|!c)
def uj(c:Ev->R Bool)(a b:jw):jw:=λd=>(c d).bind λk=>if k=true then a d else b d
noncomputable def iT:Ev->R (List D):=λ_=>.ok []
def aa(a:jw)(r:Ev->R (List D)):Ev->R (List D):=λb=>(a b).bind λx=>(r b).bind λc=>.ok (x::c)
def dA(g:jf)(a:Ev->R (List D)):jw:=λb=>(a b).bind g
def jv(a:List D):R D:=if a.length<=sizeLine then .ok (.tup a)else .bad
def jy(a:List D):R (List D):=if a.length<=sizeLine then .ok a else .bad
def jq(g:Ev->R (List D)):jw:=λa=>(g a).bind λb=>.ok (.lst b)
section
variable{X:Cx}{E:XK}{e a b c:Expr}{f m B:jw}{l:Pos}
def iP(i:Nat){x:Str}(hN:X.N[i]?=some x:=by rfl)(hv:qP X.env.scope x:=by first|exact Or.inl rfl|exact Or.inr (Or.inl rfl)|exact Or.inr (Or.inr rfl))(k:oi x:=by decide)
    (g:(x==("__classdict__":Str))=false:=by decide):DE X E (.Name x l) (dV i):=by
 refine⟨_,wI hN hv k g,λP u t H p j Q r h=>?_⟩;unfold dV at h;cases q:j[i]? with
 |none=>rw[q]at h;exact h.elim
 |some s=>
  cases s with
  |sh d=>rw[q]at h;obtain⟨v,o,n⟩:=r.sh i d q;exact⟨v,o,h H (.refl H) v n⟩
  |no=>rw[q]at h;exact h.elim
  |ow _=>rw[q]at h;exact h.elim
def iZ{i j}:DE X E (.Constant (.int i) j l) (iQ i):=⟨_,Wo,λ_ _ _ H _ _ _ _ h=>h H (.refl H) _<|.int i⟩
def Bh{i j}:DE X E (.Constant (.bool i) j l) (dC<|.bl i):=⟨_,Wb,λ_ _ _ H _ _ _ _ h=>h H (.refl H) _<|.bl i⟩
def Bi{j}:DE X E (.Constant .none j l) (dC .non):=⟨_,Dm,λ_ _ _ H _ _ _ _ h=>h H (.refl H) _ .non⟩
def ju{i j}:DE X E (.Constant (.str i) j l) (jc i):=⟨_,WB,λ_ _ _ H _ _ _ _ h=>h H (.refl H) _<|.str i⟩
def Hg{n}(i:Gl X x)(g:X.mg x=none)(hv:bootBuiltins x=some (.type n))(d:x≠"__name__")(j:oi x):DE X E (.Name x l) (dC<|.ty n):=
 ⟨_,Wc (v:=.ty n) i g hv rfl d j,λ_ _ k H _ _ _ _ h=>h H (.refl H) _<|.ty n⟩
def jA{g}(z:lr X E (binaryOp op) g)(C:DE X E a m)(A:DE X E b B):DE X E (.BinOp a op b l) (d2 g m B):=by obtain⟨r,o,n⟩:=z;obtain⟨K,w,q⟩:=C;obtain⟨J,t,p⟩:=A;refine⟨_,KN o w t,λP O L H G I Q s h=>q _ _ _ _ _ _ _ s<|Aft.mono (Aft.split h) λx N i F v j=>p _ _ _ _ _ _ _ (s.grow i)<|Aft.mono (Aft.split F) λy M d D u k=>?_⟩;exact n _ _ _ _ _ _ _ ((s.grow i).grow d).fresh (j.up d) k D
def OZ{g}(p:F7 X E (unaryOp op) g)(q:DE X E a m):DE X E (.UnaryOp op a l) (d1 g m):=by obtain⟨r,k,j⟩:=p;obtain⟨y,o,n⟩:=q;exact⟨_,WD k o,λP C z H u w Q s h=>n _ _ _ _ _ _ _ s<|Aft.mono (Aft.split h) λx A d t v i=>j _ _ _ _ _ (s.grow d).fresh i t⟩
def OV{g}(z:lr X E (compareOp op) g)(D:DE X E a m)(C:DE X E b B)(A:behindInMarks op b=false):DE X E (.Compare a [op] [b] l) (d2 g m B):=by obtain⟨r,o,n⟩:=z;obtain⟨L,w,q⟩:=D;obtain⟨K,t,p⟩:=C;refine⟨_,KD o w t A,λP R M H I J Q s h=>q _ _ _ _ _ _ _ s<|Aft.mono (Aft.split h) λx O i G v j=>p _ _ _ _ _ _ _ (s.grow i)<|Aft.mono (Aft.split G) λy N d F u k=>?_⟩;exact n _ _ _ _ _ _ _ ((s.grow i).grow d).fresh (j.up d) k F
def uS{d k}(r:Rep K al H v d)(h:Aft K al E H (tB d) k):∃c,v=.bl c/\k c H:=by
 cases r with
 |bl b=>exact⟨b,rfl,h H<|.refl H⟩
 |_=>exact(h:False).elim
def kc{g}(G:lr X E (compareOp op) g)(K:DE X E a m)(J:DE X E b B)(I:behindInMarks op b=false:=by first|exact qC _|with_unfolding_all rfl):DT X E (.Compare a [op] [b] l) (b1 tB<|d2 g m B):=by
 obtain⟨r,z,t⟩:=G;obtain⟨U,F,C⟩:=K;obtain⟨T,D,A⟩:=J;refine⟨_,zJ z F D I,λP Z O H R S Q s h=>C _ _ _ _ _ _ _ s<|Aft.mono (Aft.split<|Aft.split h) λx Y n N v p=>?_⟩;refine A _ _ _ _ _ _ _ (s.grow n) (Aft.mono (Aft.split (g:=λy=>g x y) (k:=λd o=>Aft X.K O E o (tB d) Q) ?_) λy o j M u q=>?_);·exact N
 ·exact t _ _ _ _ _ _ _ ((s.grow n).grow j).fresh (p.up j) q (Aft.mono M λd W V L w i=>uS i L)
def zO{d k}(r:Rep K al H v d)(h:Aft K al E H (tT d) k):∃c,vz K v H c/\k c H:=by
 cases r with
 |non=>exact⟨_,rfl,h H<|.refl H⟩
 |bl b=>exact⟨_,rfl,h H<|.refl H⟩
 |int b=>exact⟨_,rfl,h H<|.refl H⟩
 |str b=>
  unfold tT at h;by_cases z:b.length<=sizeLine
  ·simp only[z,dr]at h;exact⟨_,⟨z,rfl⟩,h H<|.refl H⟩
  ·simp only[z,bL]at h;exact h.elim
 |tup p q=>refine⟨_,.inr<|.inl ⟨_,p.elim (λz=>.inl<|.inl z.2) .inr,?_⟩,h H<|.refl H⟩;cases q<;>rfl
 |lst p q=>refine⟨_,.inl ⟨_,p.elim (λz=>.inl z.2) KL.sq,?_⟩,h H<|.refl H⟩;cases q<;>rfl
 |_=>exact(h:False).elim
def HC(n:DE X E e m)(k:∀d,isTrue e X.env d=(do let v<-d;standAt e.pos;holding [v] (truthy v))):DT X E e (b1 tT m):=by obtain⟨r,j,i⟩:=n;exact⟨_,K8 j k,λP y u H p q Q s h=>i _ _ _ _ _ _ _ s<|Aft.mono (Aft.split h) λx w t o v g=>zO g o⟩
variable{o C:Ev->R Bool}{rest:List Expr}
def DW.dt(h:DW X E e o):DT X E e o:=let⟨t,p,r⟩:=h;⟨t,p.pt,r⟩
def HE(h:DT X E a o):DW X E (.BoolOp .And [a] l) o:=let⟨t,p,r⟩:=h;⟨t,La p,r⟩
def HG(h:DT X E a o):DW X E (.BoolOp .Or [a] l) o:=let⟨t,p,r⟩:=h;⟨t,Lc p,r⟩
def HD(r:DT X E a o)(q:DW X E (.BoolOp .And (b::rest) l) C):DW X E (.BoolOp .And (a::b::rest) l) (rD o C):=by
 obtain⟨w,p,k⟩:=r;obtain⟨v,n,j⟩:=q;refine⟨_,K9 p n,λP y x H t u Q s h=>k _ _ _ _ _ _ _ s<|Aft.mono (Aft.split h) λc g i d=>?_⟩;cases c with
 |true=>exact qX (j _ _ _ _ _ _ _ (s.grow i) d)
 |false=>exact qW (d g<|.refl g)
def Bm(r:DT X E a o)(q:DW X E (.BoolOp .Or (b::rest) l) C):DW X E (.BoolOp .Or (a::b::rest) l) (qT o C):=by
 obtain⟨w,p,k⟩:=r;obtain⟨v,n,j⟩:=q;refine⟨_,Lb p n,λP y x H t u Q s h=>k _ _ _ _ _ _ _ s<|Aft.mono (Aft.split h) λc g i d=>?_⟩;cases c with
 |true=>exact qX (d g<|.refl g)
 |false=>exact qW (j _ _ _ _ _ _ _ (s.grow i) d)
def HB(j:DT X E a o):DT X E (.UnaryOp .Not a l) (uf o):=by obtain⟨q,i,g⟩:=j;exact⟨_,Xd i,λP u t H n p Q s h=>g _ _ _ _ _ _ _ s<|Aft.mono (Aft.split h) λc d r k=>k d<|.refl d⟩
def OY(h:DE X E a m):DE X E (.BoolOp op [a] l) m:=let⟨t,p,r⟩:=h;⟨t,Wv p,r⟩
def OU(t:DE X E a m)(r:DE X E (.BoolOp .And (b::rest) l) B):DE X E (.BoolOp .And (a::b::rest) l) (yf m B):=by
 obtain⟨A,q,n⟩:=t;obtain⟨z,p,k⟩:=r;refine⟨_,V9 q p,λP F D H w y Q s h=>n _ _ _ _ _ _ _ s<|Aft.mono (Aft.split<|Aft.split h) λx g i u v j=>?_⟩;obtain⟨c,e,d⟩:=uS j u;refine⟨c,e,?_⟩;cases c with
 |true=>exact qX (k _ _ _ _ _ _ _ (s.grow i) d)
 |false=>exact qW (d g (.refl g) _<|.bl false)
def OX(k:DE X E a m):DE X E (.UnaryOp .Not a l) (yg m):=by obtain⟨t,j,i⟩:=k;refine⟨_,KJ j,λP y w H q r Q s h=>i _ _ _ _ _ _ _ s<|Aft.mono (Aft.split<|Aft.split h) λx d u p v g=>?_⟩;obtain⟨c,e,n⟩:=uS g p;exact⟨c,e,n d (.refl d) _<|.bl _⟩
def Hf(r:DT X E c o)(u:DE X E a m)(t:DE X E b B):DE X E (.IfExp c a b l) (uj o m B):=by
 obtain⟨x,n,i⟩:=r;obtain⟨z,q,k⟩:=u;obtain⟨y,p,j⟩:=t;refine⟨_,Wn n q p,λP F A H v w Q s h=>i _ _ _ _ _ _ _ s<|Aft.mono (Aft.split h) λc D d g=>?_⟩;cases c with
 |true=>exact qX (k _ _ _ _ _ _ _ (s.grow d) g)
 |false=>exact qW (j _ _ _ _ _ _ _ (s.grow d) g)
variable{A:List Expr}{fs:Ev->R (List D)}
def ja:DA X E [] iT:=⟨_,rf,λ_ _ _ H _ _ _ _ h=>h H (.refl H) _ .nil,λ_ _ h=>by cases h;rfl⟩
def iR(J:DE X E e m)(I:DA X E A fs)(G:X.se e A:=by rfl):DA X E (e::A) (aa m fs):=by
 obtain⟨N,z,t⟩:=J;obtain⟨M,w,r,F⟩:=I;refine⟨_,q8 z w G,λP U S H L i Q s h=>t _ _ _ _ _ _ _ s<|Aft.mono (Aft.split h) λx T n g v p=>r _ _ _ _ _ _ _ (s.grow n)<|Aft.mono (Aft.split g) λy j k d u q=>?_,λi O h=>?_⟩;·exact d j (.refl j) _ (.cons (p.up k) q)
 ·obtain⟨x,_,g⟩:=GL h;obtain⟨y,d,K⟩:=GL g;cases K;rw[aj,aj,F i y d]
def kT{j}(r:DA X E A fs):DE X E (.Tuple A j l) (dA jv fs):=by
 obtain⟨w,q,n,_⟩:=r;refine⟨_,Dn q,λP G y H t u Q s h=>n _ _ _ _ _ _ _ s<|Aft.mono (Aft.split h) λx F k d v i=>?_⟩;unfold jv at d;by_cases z:x.length<=sizeLine
 ·rw[av z]at d;exact⟨by rw[i.length];exact z,λp g=>d _ (mj g) _<|i.EK g<|(s.grow k).fresh p g⟩
 ·rw[aw z]at d;exact d.elim
def km(r:DA X E A fs):DN X E (.List A l) (λg=>(fs g).bind jy):=by
 obtain⟨u,n,k,_⟩:=r;refine⟨_,Wr n,λP F y H t g Q s h=>k _ _ _ _ _ _ _ s<|Aft.mono (Aft.split h) λx j w d v i=>?_⟩;unfold jy at d;by_cases z:x.length<=sizeLine
 ·rw[av z]at d;exact⟨by rw[i.length];exact z,λp q=>d j (.refl j) p v q i⟩
 ·rw[aw z]at d;exact d.elim
def DN.de{g}(h:DN X E e g):DE X E e (jq g):=by obtain⟨t,p,r⟩:=h;exact⟨t,p,λP y v H n q Q s h=>r _ _ _ _ _ _ _ s<|Aft.mono (Aft.split h) λx w i k p u d j=>k _ (mj d) _<|j.uH d<|(s.grow i).fresh p d⟩
def mH{g}(G:AN X E g)(J:DE X E a m)(I:DE X E b B)(F:AV b:=by exact λ_ _=>rfl):DE X E (.Subscript a b l) (d2 g m B):=by obtain⟨r,p,n⟩:=G;obtain⟨S,z,t⟩:=J;obtain⟨O,w,q⟩:=I;refine⟨_,KI p z w F,λP W T H M N Q s h=>t _ _ _ _ _ _ _ s<|Aft.mono (Aft.split h) λx V i L v j=>q _ _ _ _ _ _ _ (s.grow i)<|Aft.mono (Aft.split L) λy U d K u k=>?_⟩;exact n _ _ _ _ _ _ _ ((s.grow i).grow d).fresh (j.up d) k K
variable{x:Str}{p:Pos}
def n9{i:String}{g:jf}(F:vn X E (.builtin i) g)(z:Gl X x)(y:X.mg x=none)(hv:bootBuiltins x=some (.builtin i))(G:DA X E (e::A) fs)(w:x≠"__name__":=by decide)(d:X.cl x e A l:=by exact⟨by decide,rfl,rfl⟩):DE X E (.Call (.Name x p) (e::A) [] l) (dA g fs):=by obtain⟨r,q,n⟩:=F;obtain⟨L,u,t,_⟩:=G;exact⟨_,We q z y hv u w d,λP O M H J K Q s h=>t _ _ _ _ _ _ _ s<|Aft.mono (Aft.split h) λx N j I v k=>n _ _ _ _ _ (s.grow j).fresh k I⟩
def j6(n:Nat)(K:W.Frag)(F:jf):Sp:=λh H Q E=>h.length=n/\lY K H/\∃g i,(∀a,H a=none->g a)/\jb K g H h i/\Aft K g E H (F i) (λd j=>∀v,Rep K g j v d->Q v j)
variable{k n:Nat}{I:List Str}{F:jf}
def mf(G:pw X.prog X.w X.K X.mg X.base (kL X.prog X.w) k x I<|j6 n X.K F)(y:kQ k X.A)(J:Gl X x)(w:Passes (kL X.prog X.w) X E)(z:(e::A).length=n)(K:DA X E (e::A) fs)(g:X.cl x e A l:=by exact⟨by decide,rfl,rfl⟩):DE X E (.Call (.Name x p) (e::A) [] l) (dA F fs):=by
 obtain⟨O,u,t,v⟩:=K;refine⟨_,Dl G y J w u g,λP U L H M j Q s h=>t _ _ _ _ _ _ _ s ?_⟩;unfold dA at h;cases q:fs j with
 |ok i=>rw[q]at h;intro T d N r;rw[bg];exact⟨by rw[r.length,v j i q];exact z,(s.grow d).tt,L,i,(s.grow d).fresh,r,Aft.up h d⟩
 |ex c S i=>rw[q]at h;exact h
 |bad=>rw[q]at h;exact h.elim
end
inductive RT where
 |nx(ρ:Ev)|rt(d:D)|bk(ρ:Ev)|ct(ρ:Ev)|ex(c:Addr)(ns:List Str)(ds:List D)|bad
abbrev jQ:=Ev->RT
noncomputable def toS{b:Type}(r:R b)(k:b->RT):RT:=match r with
 |.ok a=>k a
 |.ex c ns ds=>.ex c ns ds
 |.bad=>.bad
def rW(r:RT)(k:jQ):RT:=match r with
 |.nx a=>k a
 |r=>r
def lh(K:W.Frag)(P:Addr->Prop)(g:Hp)(E:XK)(D:Ends)(h:Addr->Prop)(H:Hp):RT->Prop
 |.nx f=>∀e a b,Xt h H e a->RS K P g e a b f->D.nx b a
 |.bk f=>∀e a b,Xt h H e a->RS K P g e a b f->D.bk b a
 |.ct f=>∀e a b,Xt h H e a->RS K P g e a b f->D.ct b a
 |.rt d=>∀v a,kX K g a->Rep K P a v d->D.rt v a
 |.ex c ns ds=>∀i a,kX K g a->XR K P a i ns ds->E (.ref c) i a
 |.bad=>False
section
variable{K:W.Frag}{P A l:Addr->Prop}{o H B:Hp}{E:XK}{D:Ends}{s:RT}{C:St}{j:Ev}
def lh.ext(h:lh K P o E D A H s)(x:Xt A H l B):lh K P o E D l B s:=by
 cases s with
 |nx j=>exact λa e b y r=>h a e b (x.trans y) r
 |bk j=>exact λa e b y r=>h a e b (x.trans y) r
 |ct j=>exact λa e b y r=>h a e b (x.trans y) r
 |rt d=>exact h
 |ex c f g=>exact h
 |bad=>exact h
def lh.rR{d:Type}{r:R d}{k:d->RT}(h:lh K P o E D A H<|toS r k)(s:RS K P o A H C j):Aft K A E H r (λx a=>lh K P o E D A a<|k x):=by
 cases r with
 |ok x=>exact λa b=>lh.ext h (.of b)
 |ex c f g=>exact λe a b q=>h e a (s.same.trans b) (q.mv<|.sub s.sub)
 |bad=>exact h
def DS(X:Cx)(E:XK)(a:Stmt)(g:jQ):Prop:=∃t:TS,PS X a t/\
 ∀P o A H C j (D:Ends),RS X.K P o A H C j->lh X.K P o E D A H (g j)->t D C H
def pq(X:Cx)(E:XK)(a:List Stmt)(g:jQ):Prop:=∃t:TS,oI X a t/\
 ∀P o A H C j (D:Ends),RS X.K P o A H C j->lh X.K P o E D A H (g j)->t D C H
def pT:jQ:=.nx
def kn(a b:jQ):jQ:=λj=>rW (a j) b
def aav(f:jw):jQ:=λj=>toS (f j) λ_=>.nx j
def lj(f:jw):jQ:=λj=>toS (f j) .rt
def lG(i:Nat)(f:jw):jQ:=λj=>toS (f j) λd=>if i<j.length then .nx (j.set i<|.sh d)else .bad
def pS(c:Ev->R Bool)(a b:jQ):jQ:=λj=>toS (c j) λk=>if k=true then a j else b j
variable{X:Cx}{I:Stmt}{rest O M:List Stmt}{g u Q J:jQ}{e c:Expr}{f:jw}{L:Ev->R Bool}{F:Pos}
def sU:pq X E [] pT:=⟨_,K6,λ_ _ A H C j _ s h=>h A H C .refl s⟩
def lI(h:DS X E I g):pq X E [I] g:=let⟨t,p,r⟩:=h;⟨t,K7 p,r⟩
def k8(t:DS X E I g)(r:pq X E rest u):pq X E (I::rest) (kn g u):=by
 obtain⟨w,p,m⟩:=t;obtain⟨v,n,k⟩:=r;refine⟨_,K5 p n,λP o A H C j D s h=>m P o A H C j _ s ?_⟩;unfold kn at h;cases q:g j with
 |nx a=>rw[q]at h;exact λl B b x i=>k P o l B b a D i (lh.ext h x)
 |bk a=>rw[q]at h;exact h
 |ct a=>rw[q]at h;exact h
 |rt d=>rw[q]at h;exact h
 |ex c y z=>rw[q]at h;exact h
 |bad=>rw[q]at h;exact h
def mw(i:DE X E e f):DS X E (.Return (some e) F) (lj f):=by obtain⟨t,p,r⟩:=i;exact⟨_,K4 p,λP o A H C j D s h=>r _ _ _ _ _ _ _ s<|Aft.mono (lh.rR h s) λd m a k v b=>k v m (s.same.trans a)<|b.mv<|.sub s.sub⟩
def nL(i)(hN:X.N.Nodup)(q:X.N[i]?=some x)(m:Loc X.env.scope x)(w:DE X E e f)(n:swapsWith e (some<|.Name x pos') F.line X.env=pure false:=by rfl)(hf:X.hf x:=by first|exact .inl rfl|exact .inr rfl|assumption):
    DS X E (.Assign [.Name x pos'] e F) (lG i f):=by
 obtain⟨t,p,r⟩:=w;refine⟨_,Ds hN q m p n hf,λP o A H C j D s h=>r _ _ _ _ _ _ _ s<|Aft.mono (lh.rR h s) λd y b a v k=>?_⟩;by_cases z:i<j.length
 ·simp only[z,dr]at a;exact a A y _ .refl ((s.grow b).set z k)
 ·simp only[z,bL]at a;exact a.elim
def sT(r:DT X E c L)(v:pq X E O Q)(t:pq X E M J):DS X E (.If c O M F) (pS L Q J):=by
 obtain⟨w,n,d⟩:=r;obtain⟨y,q,m⟩:=v;obtain⟨x,p,i⟩:=t;refine⟨_,K3 n q p,λP o A H C j D s h=>d _ _ _ _ _ _ _ s<|Aft.mono (lh.rR h s) λk z a b=>?_⟩;cases k with
 |true=>exact qX (m _ _ _ _ _ _ _ (s.grow a) b)
 |false=>exact qW (i _ _ _ _ _ _ _ (s.grow a) b)
def turnT(r:RT)(k:jQ):RT:=match r with
 |.nx j=>k j
 |.ct j=>k j
 |.bk j=>.nx j
 |r=>r
def pj(c:Ev->R Bool)(b:jQ):Nat->jQ
 |0,_=>.bad
 |n+1,j=>toS (c j) λk=>if k=true then turnT (b j) (pj c b n)else .nx j
def Mg{K:W.Frag}{P A:Addr->Prop}{o H:Hp}{D:Ends}{r:RT}{k:jQ}{N:St->Hp->Prop}(h:lh K P o E D A H<|turnT r k)
    (hN:∀l B a b,Xt A H l B->RS K P o l B a b->lh K P o E D l B (k b)->N a B):lh K P o E {D with nx:=N,ct:=N,bk:=D.nx} A H r:=by
 cases r with
 |nx j=>exact λl B a x s=>hN l B a j x s (lh.ext h x)
 |ct j=>exact λl B a x s=>hN l B a j x s (lh.ext h x)
 |bk j=>exact h
 |rt d=>exact h
 |ex c i m=>exact h
 |bad=>exact h
def Hz(n)(T:PassesOwn (model X.prog X.w) X.A X.env X.xe)(U:DT X E c L)(V:pq X E M J):DS X E (.While c M [] F) (pj L J n):=by
 obtain⟨tc,N,y⟩:=U;obtain⟨tb,S,G⟩:=V;refine⟨_,Xb T N S,λP o A H C j D s h=>⟨λm d r=>∃a b,RS X.K P o a r d b/\lh X.K P o E D a r (pj L J m b),⟨n,A,j,s,h⟩,?_⟩⟩
 rintro m d r ⟨a,b,p,w⟩
 cases m with
 |zero=>exact w.elim
 |succ m=>
  refine y _ _ _ _ _ _ _ p (Aft.mono (lh.rR w p) λk Z t v=>?_);cases k with
  |true=>refine qX ⟨λi B=>∃a b,RS X.K P o a B i b/\lh X.K P o E D a B (pj L J m b),λi B z=>⟨m,b8 m,z⟩,G _ _ _ _ _ _ _ (p.grow t)<|Mg (k:=pj L J m) v λl B i q _ x Y=>⟨l,q,x,Y⟩⟩
  |false=>exact qW (v a Z d .refl<|p.grow t)
end
def Wk(K:W.Frag)(g:Addr->Prop)(H:Hp)(J:It)(f:List D):Prop:=∀b c,Xt g H b c->(∀a,c a=none->b a)->
 (∀i d,f[i]?=some d->J.go i c/\∀x e,J.xm i c x e->e=c/\Rep K b c x d)/\∀i,f.length<=i->J.stop i c
def DI(X:Cx)(E:XK)(h a:Expr)(f:Ev->R (List D)):Prop:=∃e:TI,PI X h a e/\
 ∀P j b H c d (R:It->Hp->Prop),RS X.K P j b H c d->Aft X.K b E H (f d) (λi g=>∀J,Wk X.K b g J i->R J g)->e c H R
def Kp(l:List Nat)(b a:St):Prop:=a.length=b.length/\∀j,j∉l->a[j]?=b[j]?
def DG(X:Cx)(j:Expr)(l:List Nat)(a:D->Ev->Option Ev):Prop:=∃g:TG,PG X j g/\
 ∀P i f H e h v d (Q:St->Hp->Prop),RS X.K P i f H e h->Rep X.K f H v d->(∃c,a d h=some c/\∀b,Kp l e b->RS X.K P i f H b c->Q b H)->g v e H Q
def gV(i:Nat):D->Ev->Option Ev:=λd a=>if i<a.length then some (a.set i<|.sh d)else none
def toO{b:Type}(r:Option b)(k:b->RT):RT:=match r with
 |some a=>k a
 |none=>.bad
def oa(a:D->Ev->Option Ev)(b:jQ):List D->jQ
 |[],e=>.nx e
 |d::r,e=>toO (a d e) λc=>turnT (b c) (oa a b r)
section
variable{X:Cx}{E:XK}{T C:Expr}{B:List Stmt}{O:Ev->R (List D)}{a:D->Ev->Option Ev}{I:jQ}{L:Pos}
def uT(O:Ev->R (List D))(a:D->Ev->Option Ev)(I:jQ):jQ:=λb=>toS (O b) λc=>oa a I c b
def nI(i:Nat){x:Str}(hN:X.N.Nodup)(l:X.N[i]?=some x)(g:Loc X.env.scope x)(hf:X.hf x:=by first|exact .inl rfl|exact .inr rfl|assumption):DG X (.Name x L) [i] (gV i):=by
 refine⟨_,zA hN l g hf,λP o n H m c v d Q s f h=>?_⟩;obtain⟨b,e,q⟩:=h;unfold gV at e;by_cases z:i<c.length
 ·rw[av z]at e;cases e;exact q _ ⟨aP ..,λj k=>au<|λw=>k<|by simp[w]⟩ (s.set z f)
 ·rw[aw z]at e;cases e
def Hw(hp:PassesOwn (model X.prog X.w) X.A X.env X.xe)(hc:X.calm=true)(u:DI X E T C O)(hg:DG X T l a)(hb:pq X E B I)(hs:∀x,foldedSetIterable C X.env x=pure x):
    DS X E (.For T C B [] L) (uT O a I):=by
 obtain⟨wi,pi,ri⟩:=u;obtain⟨g,pg,rg⟩:=hg;obtain⟨tb,pb,rb⟩:=hb;refine⟨_,K2 hp hc pi pg pb hs,λP v al H σ M D s h=>ri _ _ _ _ _ _ _ s<|Aft.mono (lh.rR h s) λd H1 s1 h1 J W=>?_⟩;refine⟨λi m j p=>∃b c,RS X.K P v b p j c/\Wk X.K b p J d/\lh X.K P v E D b p (oa a I (d.drop i) c)/\m=d.length - i,⟨_,al,M,s.grow s1,W,h1,rfl⟩,?_⟩
 rintro i m j p ⟨b,c,z,r,f,rfl⟩
 obtain⟨Z,Y⟩:=r b p .refl z.fresh;by_cases u:i<d.length
 ·right;have ed:d[i]?=some d[i]:=ao u;obtain⟨go,S⟩:=Z i _ ed;rw[c5 u]at f;refine⟨go,λn t=>∃b c,RS X.K P v b t n c/\Wk X.K b t J d/\lh X.K P v E D b t (oa a I (d.drop<|i+1) c),λn t ⟨F,o,Q,z2,N⟩=>⟨d.length - (i+1),by omega,F,o,Q,z2,N,rfl⟩,λx H3 y=>?_⟩;obtain⟨rfl,rx⟩:=S x H3 y;unfold oa at f;cases q:a d[i] c with
  |some o=>rw[q]at f;refine rg _ _ _ _ _ _ _ _ _ z rx ⟨o,q,λK _ s3=>rb _ _ _ _ _ _ _ s3<|Mg (k:=oa a I<|d.drop<|i+1) f λG t n w V s' h'=>⟨G,w,s',λA H4 U=>r A H4<|V.trans U,h'⟩⟩
  |none=>rw[q]at f;exact f.elim
 ·left;have e:d.drop i=[]:=dF (by omega);rw[e]at f;exact⟨Y i<|by omega,f b p j .refl z⟩
def jT(n:Nat)(b:List D):Ev:=b.map .sh++List.replicate (n - b.length) .no
noncomputable def jO:RT->R D
 |.rt d=>.ok d
 |.nx _=>.ok .non
 |.ex c ns ds=>.ex c ns ds
 |_=>.bad
def aao{c:Addr->Prop}(tt:lY K H)(fr:∀a,H a=none->c a)(r:jb K c H vs ds):RS K c H c H (L2.start N vs) (jT N.length ds) where
 same:=.refl H
 tt:=tt
 fresh:=fr
 sub:=λ_ h=>h
 pf:=fr
 len:=by unfold L2.start jT;simp[r.length]
 sh:=λi d h=>by
  unfold jT at h;by_cases b:i<ds.length
  ·rw[ay<|by simpa using b,aA]at h;cases q:ds[i]? with
   |none=>rw[q]at h;cases h
   |some y=>rw[q]at h;cases h;obtain⟨v,f,e⟩:=r.getD q;refine⟨v,?_,e⟩;unfold L2.start;rw[ay<|by simpa [r.length]using b,aA,f];rfl
  ·rw[aK<|by simpa using b,bI]at h;split at h<;>cases h
 ow:=λi d h=>by
  unfold jT at h;by_cases b:i<ds.length
  ·rw[ay<|by simpa using b,aA]at h;cases q:ds[i]? with
   |none=>rw[q]at h;cases h
   |some y=>rw[q]at h;cases h
  ·rw[aK<|by simpa using b,bI]at h;split at h<;>cases h
 apart:=λi j d g a h _ _ _=>by
  unfold jT at h;by_cases b:i<ds.length
  ·rw[ay<|by simpa using b,aA]at h;cases q:ds[i]? with
   |none=>rw[q]at h;cases h
   |some y=>rw[q]at h;cases h
  ·rw[aK<|by simpa using b,bI]at h;split at h<;>cases h
variable{P:Program}{w:World}{K:W.Frag}{M:kl}{o:Heap}
def nN{k g}(F:j0 K x x st f fd)(S:kj N ps<|jt st)
 (B:∀e A b s H E,kQ k (lE (kL P w) P w K M o N x (jt st) f e A b s H E).A->pq (lE (kL P w) P w K M o N x (jt st) f e A b s H E) E (kx st) g):
   jN P w K M o (k+1) f fd ps (j6 ps.length K λi=>jO<|g<|jT N.length i):=by
  refine F.Kk S (λu H Q E h=>h.1) (λe A b s H u Q E J h=>?_);obtain⟨Y,G,y,i,fr,l,h⟩:=h;obtain⟨t,p,r⟩:=B e A b s H E J;dsimp only at h;refine⟨t,p,r y H y H (L2.start N u) (jT N.length i) _ (aao G fr l) ?_⟩;cases q:g (jT N.length i)with
  |nx n=>rw[q]at h;exact λU m z _ j=>h m j.same .non .non
  |rt d=>rw[q]at h;exact λv m j l=>h m j v l
  |ex c V Z=>rw[q]at h;exact h
  |bk n=>rw[q]at h;exact h.elim
  |ct n=>rw[q]at h;exact h.elim
  |bad=>rw[q]at h;exact h.elim
def pw.up{k}(G:jF P w K M o j x ps sp)(h:j<=k):jF P w K M o k x ps sp:=let⟨f,b,fo,r⟩:=G;⟨f,b,fo.mono h,r⟩
variable{N:List Str}{Y:Str}{U:Scope}{f:Addr}{cd:Value}{A:Around}{b:List Env}{s:Shared}{H:Hp}
end
def BE(T:String):D->Bool
 |.str _=>T=="str"
 |.int _=>T=="int"
 |.lst _=>T=="list"
 |_=>false
def ON(T:String)(g:D->jf)(o:jw)(a:Ev->R (List D)):jw:=λb=>(o b).bind λx=>if BE T x=true then(a b).bind λc=>g x c else .bad
section
variable{X:Cx}{E:XK}{o e:Expr}{y:List Expr}{fo:jw}{fs:Ev->R (List D)}{b:Str}{m c:Pos}{T q:String}{g:D->jf}
def DO(X:Cx)(E:XK)(e:Option Expr)(f:Ev->R (Option Int)):Prop:=∃t:TO,PO X e t/\
 ∀P i h H a d (Q:Option Int->Hp->Prop),RS X.K P i h H a d->Aft X.K h E H (f d) Q->t a H Q
def AW(X:Cx)(E:XK)(g:D->Option Int->Option Int->R D):Prop:=∃r,qO X r/\
 ∀f H x i lo h (Q:VK),(∀a,H a=none->f a)->Rep X.K f H x i->Aft X.K f E H (g i lo h) (λd j=>∀v,Rep X.K f j v d->Q v j)->r x lo h H Q
def pI(d:D):R (Option Int):=match d with
 |.int i=>.ok (some i)
 |_=>.bad
def um:DO X E none (λ_=>.ok none):=⟨_,WX,λ_ _ _ H _ _ _ _ h=>h H<|.refl H⟩
def rK(h:DE X E e fo):DO X E (some e) (λa=>(fo a).bind pI):=by
 obtain⟨t,p,r⟩:=h;refine⟨_,WY p,λP u n H k a Q s h=>r _ _ _ _ _ _ _ s<|Aft.mono (Aft.split h) λx f l d v j=>?_⟩;cases j with
 |int i=>exact⟨i,rfl,d f<|.refl f⟩
 |_=>exact(d:False).elim
def nq(g:D->Option Int->Option Int->R D)(a:jw)(l u:Ev->R (Option Int)):jw:=λd=>(a d).bind λx=>(l d).bind λi=>(u d).bind λj=>g x i j
def sS{g lo}(C:AW X E g)(G:DE X E e fo)(F:DO X E lo fl)(B:DO X E hi fu):DE X E (.Subscript e (.Slice lo hi none p2) pos) (nq g fo fl fu):=by obtain⟨r,t,n⟩:=C;obtain⟨to,z,p⟩:=G;obtain⟨O,A,u⟩:=F;obtain⟨N,w,l⟩:=B;refine⟨_,Wx t z A w,λP Y S H L M Q s h=>p _ _ _ _ _ _ _ s<|Aft.mono (Aft.split h) λx W d K v k=>?_⟩;refine u _ _ _ _ _ _ _ (s.grow d) (Aft.mono (Aft.split K) λi V a J=>l _ _ _ _ _ _ _ ((s.grow d).grow a)<|Aft.mono (Aft.split J) λj U f I=>?_);exact n _ _ _ _ _ _ _ (((s.grow d).grow a).grow f).fresh ((k.up a).up f) I
end
def KQ(d:PI X tg iter w1)(c:PI X tg iter w2):PI X tg iter (λb H R=>w1 b H R\/w2 b H R):=λa s b H R I h=>h.elim (d a s b H R I) (c a s b H R I)
section
variable{X:Cx}{E:XK}{L e:Expr}{f:jw}
def acm(r:Rep K al H (.ref a)<|.lst ds):Wk K al H (AL K a) ds:=by intro j m x fr;obtain⟨l,b,e,q,rs⟩:=(r.mv x).qz;cases e;refine⟨λi d h=>?_,λi h=>⟨b,q,by rw[rs.length];exact h⟩⟩;obtain⟨v,c,g⟩:=rs.getD h;refine⟨⟨b,v,q,c⟩,λy k z=>⟨z.1,?_⟩⟩;have:=z.2 b q;rw[c]at this;cases this;exact g
def acp(r:Rep K al H (.ref a)<|.tup ds):Wk K al H (AM K a) ds:=by intro j m x fr;obtain⟨l,b,e,q,rs⟩:=(r.mv x).rm;cases e;refine⟨λi d h=>?_,λi h=>⟨b,q,by rw[rs.length];exact h⟩⟩;obtain⟨v,c,g⟩:=rs.getD h;refine⟨⟨b,v,q,c⟩,λy k z=>⟨z.1,?_⟩⟩;have:=z.2 b q;rw[c]at this;cases this;exact g
def pP(lo:Int)(n:Nat):List D:=(List.range n).map λ(k:Nat)=>D.int (lo+(k:Int))
def acn{lo:Int}{n}:Wk K al H (xG lo n) (pP lo n):=by
 intro b g x fr;refine⟨λi d h=>?_,λi h=>?_⟩
 ·unfold pP at h;rw[aA]at h;by_cases a:i<n
  ·rw[List.getElem?_range a]at h;cases h;exact⟨a,λy c z=>⟨z.1,by rw[z.2];exact .int _⟩⟩
  ·rw[fm<|by simpa using a]at h;cases h
 ·unfold pP at h;show n<=i;simpa using h
def qD(a:List D):R (List D):=match a with
 |[.int j]=>if -(2^62)<=j/\j<2^62 then .ok (pP 0 j.toNat)else .bad
 |_=>.bad
def yj{fs}(n:Gl X "range")(m:X.mg "range"=none)(o:DA X E [a] fs)(l:starEach [a] X.env=[(false,eval a X.env)]):DI X E L (.Call (.Name "range" p) [a] [] pos) (λc=>(fs c).bind qD):=by
 obtain⟨t,q,r,_⟩:=o;refine⟨_,WL n m q l,λP A y H u c R s h=>r _ _ _ _ _ _ _ s<|Aft.mono (Aft.split h) λx d w b v g=>?_⟩;unfold qD at b;split at b
 ·rename_i j;cases g with
  |cons k i=>
   cases i;cases k;split at b
   ·rename_i z;exact⟨j,rfl,z.1,z.2,b d (.refl d) _ acn⟩
   ·exact b.elim
 ·exact b.elim
variable{K:W.Frag}{P A:Addr->Prop}{C H:Hp}{B:St}{m:Ev}
def RS.own(r:RS K P C A H B m)(F:i<m.length)(t:H p=none)(q:jb K A H vs ds):
    RS K P C (λb=>A b/\b≠p) (upd H p<|.lst vs) (B.set i<|some<|.ref p) (m.set i<|.ow ds)/\Xt A H (λb=>A b/\b≠p) (upd H p<|.lst vs):=by
 have x:Xt A H (λb=>A b/\b≠p) (upd H p<|.lst vs):=λb o _ g e=>⟨⟨g,nc e t⟩,by rw[jB<|nc e t];exact e⟩;have s:=mj (K:=K) (o:=HO.lst vs) t;have N:i<B.length:=by rw[<-r.len];exact F
 refine⟨⟨r.same.trans s,s.tt r.tt,λb g=>?_,λb g=>r.sub b g.1,r.pf,by rw[aP,aP];exact r.len,λj d h=>?_,λj G h=>?_,λj k d1 d2 b T Q S O=>?_⟩,x⟩
 ·refine⟨r.fresh b<|s.free g,λz=>?_⟩;rw[z,kC]at g;cases g
 ·by_cases z:i=j;·subst z;rw[aD F]at h;cases h
  ·rw[au z]at h;obtain⟨v,n,u⟩:=r.sh j d h;exact⟨v,by rw[au z];exact n,u.mv x⟩
 ·by_cases z:i=j
  ·subst z;rw[aD F]at h;cases h;exact⟨p,vs,aD N,kC,q.mv x,λw=>w.2 rfl,r.same.free t⟩
  ·rw[au z]at h;obtain⟨a,M,n,u,Y,V,U⟩:=r.ow j G h;exact⟨a,M,by rw[au z];exact n,s.at' _ _ oo u,Y.mv x,λw=>V w.1,U⟩
 ·have c:∀(l:Nat) (d:List D),(m.set i<|.ow ds)[l]?=some (.ow d)->(B.set i<|some<|.ref p)[l]?=some (some<|.ref b)->(l=i/\b=p)\/(l≠i/\b≠p/\m[l]?=some (.ow d)/\B[l]?=some (some<|.ref b)):=by
   intro l d y z2;by_cases z:i=l
   ·subst z;rw[aD N]at z2;left;refine⟨rfl,?_⟩;cases z2;rfl
   ·rw[au z]at y z2;right;obtain⟨a,M,n,u,_⟩:=r.ow l d y;rw[n]at z2;cases z2;exact⟨λw=>z w.symm,nc u t,y,n⟩
  rcases c j d1 T S with⟨R,J⟩|⟨R,J,a3,a4⟩
  ·rcases c k d2 Q O with⟨b1,_⟩|⟨_,I,_⟩;·rw[R,b1]
   ·exact absurd J I
  ·rcases c k d2 Q O with⟨_,I⟩|⟨_,_,b3,Z⟩;·exact absurd I J
   ·exact r.apart j k d1 d2 b a3 b3 a4 Z
def RS.write(r:RS K P C A H B m)(h:m[i]?=some (.ow yk))(e:B[i]?=some (some<|.ref a))(q:jb K A H vs ds):
    RS K P C A (upd H a<|.lst vs) B (m.set i<|.ow ds)/\Xt A H A (upd H a<|.lst vs):=by
 obtain⟨a',Z,N,M,e3,J,u⟩:=r.ow i yk h;rw[e]at N;cases N;have I:i<m.length:=(aB.mp h).1;have ne:∀b,A b->b≠a:=λb g z=>J (z▸g);have x:Xt A H A (upd H a (.lst vs)):=λb o _ g w=>⟨g,by rw[jB (ne b g)];exact w⟩;have up:lY K H->lY K (upd H a (.lst vs)):=λt=>t.upd (λps w=>by rw[M]at w;cases w) λq w=>by rw[M]at w;unfold lV at w;cases w
 refine⟨⟨⟨λb o n w=>?_,λb w=>?_,λt=>up<|r.same.tt t⟩,up r.tt,λb g=>?_,r.sub,r.pf,by rw[aP];exact r.len,λj d z=>?_,λj d z=>?_,λj k d1 d2 b R z2 Q O=>?_⟩,x⟩;·rw[jB<|nc w u];exact r.same.at' b o n w
 ·by_cases z:b=a;·rw[z];exact u
  ·rw[jB z]at w;exact r.same.fr b w
 ·by_cases z:b=a;·rw[z,kC]at g;cases g
  ·rw[jB z]at g;exact r.fresh b g
 ·by_cases y:i=j;·subst y;rw[aD I]at z;cases z
  ·rw[au y]at z;obtain⟨v,p,s⟩:=r.sh j d z;exact⟨v,p,s.mv x⟩
 ·by_cases y:i=j
  ·subst y;rw[aD I]at z;cases z;exact⟨a,vs,e,kC,q.mv x,J,u⟩
  ·rw[au y]at z;obtain⟨b,S,p,s,V,U,T⟩:=r.ow j d z;refine⟨b,S,p,?_,V.mv x,U,T⟩;rw[jB];exact s;intro c;subst c;exact y (r.apart i j yk d b h z e p)
 ·have back:∀(l:Nat) (d:List D),(m.set i<|.ow ds)[l]?=some (.ow d)->∃Y,m[l]?=some (.ow Y):=λl d w=>by
   by_cases y:i=l;·subst y;exact⟨yk,h⟩
   ·rw[au y]at w;exact⟨d,w⟩
  obtain⟨G,p⟩:=back j d1 R;obtain⟨F,s⟩:=back k d2 z2;exact r.apart j k G F b p s Q O
def sY(i:Nat)(m:Ev):Ev:=match m[i]? with
 |some (.ow a)=>m.set i (.sh<|.lst a)
 |_=>m
def RS.freeze(r:RS K P C A H B m)(i):∃g,RS K P C g H B (sY i m)/\Xt A H g H:=by
 unfold sY;split
 ·rename_i q h;obtain⟨a,R,s,Q,O,S,N⟩:=r.ow i q h;have p:i<m.length:=(aB.mp h).1;have x:Xt A H (λb=>A b\/b=a) H:=.sub λ_ z=>.inl z;refine⟨λb=>A b\/b=a,⟨r.same,r.tt,λb c=>.inl (r.fresh b c),λb c=>?_,r.pf,by rw[aP];exact r.len,λj d z=>?_,λj d z=>?_,λj k d1 d2 b F z2 u t=>?_⟩,x⟩
  ·rcases c with c|rfl;·exact r.sub b c
   ·exact r.pf _ N
  ·by_cases y:i=j
   ·subst y;rw[aD p]at z;cases z;exact⟨.ref a,s,.lst (.inl ⟨.inr rfl,.inl Q⟩)<|O.mv x⟩
   ·rw[au y]at z;obtain⟨v,n,o⟩:=r.sh j d z;exact⟨v,n,o.mv x⟩
  ·by_cases y:i=j;·subst y;rw[aD p]at z;cases z
   ·rw[au y]at z;obtain⟨b,G,n,o,M,J,I⟩:=r.ow j d z;refine⟨b,G,n,o,M.mv x,λw=>?_,I⟩;rcases w with w|rfl;·exact J w
    ·exact y (r.apart i j q d b h z s n)
  ·have back:∀(l:Nat) (d:List D),(m.set i<|.sh<|.lst q)[l]?=some (.ow d)->m[l]?=some (.ow d):=λl d w=>by
    by_cases y:i=l;·subst y;rw[aD p]at w;cases w
    ·rw[au y]at w;exact w
   exact r.apart j k d1 d2 b (back j d1 F) (back k d2 z2) u t
 ·exact⟨A,r,.refl⟩
variable{I:List Stmt}{M:Stmt}{g:jQ}{J:Ev->R (List D)}{F:Pos}
def HA(i)(h:pq X E I g):pq X E I (λm=>g (sY i m)):=by obtain⟨t,p,r⟩:=h;refine⟨t,p,λP C A H B m D s h=>?_⟩;obtain⟨b,a,x⟩:=s.freeze i;exact r _ _ _ _ _ _ _ a (lh.ext h x)
def UB{b:Type}(r:R b):R b:=match r with
 |.ok a=>.ok a
 |_=>.bad
def tA(i:Nat)(f:Ev->R (List D)):jQ:=λm=>toS (f m) λa=>if i<m.length then .nx (m.set i<|.ow a)else .bad
def Hx(i)(hN:X.N.Nodup)(o:X.N[i]?=some x)(k:Loc X.env.scope x)(u:DN X E e J)(l:swapsWith e (some<|.Name x pos') F.line X.env=pure false)(hf:X.hf x):
    DS X E (.Assign [.Name x pos'] e F) (tA i J):=by
 obtain⟨t,p,r⟩:=u;refine⟨_,Ds hN o k p l hf,λP C A H B m D s h=>r _ _ _ _ _ _ _ s<|Aft.mono (lh.rR h s) λw y d a q v n j=>?_⟩;by_cases z:i<m.length
 ·simp only[z,dr]at a;obtain⟨c,b⟩:=(s.grow d).own z n j;exact a _ _ _ b c
 ·simp only[z,bL]at a;exact a.elim
def Lz(i:Nat)(f:jw):jQ:=λm=>match m[i]? with
 |some (.ow a)=>toS (f m) λd=>if a.length<sizeLine then .nx (m.set i<|.ow<|a++[d])else .bad
 |_=>.bad
end
variable{P:Program}{w:World}{K:W.Frag}{mg:kl}{base:Heap}{N:List Str}{qual:Str}{scope:Scope}{f:Addr}{cd:Value}{A:Around}{outer:List Env}{s:Shared}{H:Hp}{E:XK}
def O7(g:ExcBaseFacts B newId Rx vL)(q:W.excIn K C vL newId=true)
 (d:Gl (lE (kL P w) P w K mg base N qual scope f cd A outer s H E) x)(c:mg x=some (.ref C))(a:oi x):
   DS (lE (kL P w) P w K mg base N qual scope f cd A outer s H E) E (.Raise (some<|.Call (.Name x np) [] [] cpos) none pos) (λ_=>.ex C [] []):=
  ⟨_,W9 g q d c a,λl m k e i j D b h=>h none e b.same ⟨rfl,rfl⟩⟩
end P2
namespace L2
open PySem PySem.Spec PyProof.Rows
variable{f:Program}{w:World}{A:Around}{R:Result->Shared->Prop}{s:Shared}
def OH(I:Nat->Shared->Prop)
 (q:∀n s,I n s->wpAny (model f w) A (pyNext it) (λr b=>match r with
 |none=>R (.ok .next) b
 |some v=>wpAny (model f w) A (letOwnedTupleGo target it v) (λ_ l=>wpAny (model f w) A (assign target env v) (λ_ k=>
 wpAny (model f w) A (forIn ifs true λc r=>if r=true then do let ok<-isTrue c env (eval c env);pure (ForInStep.yield ok)else pure (ForInStep.yield r)) (λok a=>
 if ok=true then wpAny (model f w) A (eval elt env) (λx j=>
 wpAny (model f w) A (call (.builtin "list.append") [acc,x]) (λ_ i=>∃m,m<n/\I m i) (notedBy (model f w) A env λe d=>R (.error e) d) j) (notedBy (model f w) A env λe d=>R (.error e) d) a
 else∃m,m<n/\I m a) (notedBy (model f w) A env λe d=>R (.error e) d) k) (notedBy (model f w) A env λe d=>R (.error e) d) l) (notedBy (model f w) A env λe d=>R (.error e) d) b) (notedBy (model f w) A env λe d=>R (.error e) d) s)
 (n)(h:I n s):codeAny (model f w) A (.compLoop (.ListComp elt [⟨target,iter,ifs,0⟩] scope pos) 0 it acc env) R s:=by
  refine codeAny_loop rfl I (λn s B=>?_) n h;show wpAny _ A ((compTurn (.ListComp elt [⟨target,iter,ifs,0⟩] scope pos) 0 it acc env).onRaise (λx=>do noteFrame x env;theTreesLotGoes x)) _ _ s;refine wpAny_noted ?_;rw[compTurn_list];refine ae (fH<|ae<|bp (q n s B) (λr b p=>?_) λ_ _ g=>g);cases r with
  |none=>exact af p
  |some v=>
   refine ae (bp p (λ_ l z=>?_) λ_ _ g=>g);refine ae (bp z (λ_ k y=>ae<|bp y (λok a o=>?_) λ_ _ g=>g) λ_ _ g=>g);cases ok with
   |false=>exact af ⟨rfl,o⟩
   |true=>exact ae (ae<|bp o (λx j u=>ae<|bp u (λ_ i t=>af<|af ⟨rfl,t⟩) λ_ _ g=>g) λ_ _ g=>g)
abbrev Cx.comp(X:Cx)(scope:Scope)(N':List Str)(cl:List<|Str×Addr)(fp:List Addr)(s3:Shared)(H3:Hp)(C:Addr):Cx:=
 {X with N:=N',s₀:=s3,H₀:=H3,env:=compEnvC scope cl C X.env,outer:=X.stack,ex:=fp,fn:=λ_=>false,pn:=[],xe:=λ_ _=>False}
inductive oE(X:Cx)(cl:List<|Str×Addr):List Str->List Nat->Prop
 |nil:oE X cl [] []
 |cons {x:Str} {i:Nat} {N:List Str} {ci:List Nat}:X.N[i]?=some x->(X.env.kindOf x=some .cell\/X.env.kindOf x=some .free)->cl.lookup x=X.env.cells.lookup x->oE X cl N ci->oE X cl (x::N) (i::ci)
def oE.length(h:oE X cl N ci):N.length=ci.length:=by
 induction h with
 |nil=>rfl
 |cons _ _ _ _ a=>rw[aj,aj,a]
def oE.get{X:Cx}{cl:List<|Str×Addr}{N:List Str}{a:List Nat}(h:oE X cl N a){k:Nat}{x:Str}(e:N[k]?=some x):∃i,a[k]?=some i/\X.N[i]?=some x/\(X.env.kindOf x=some .cell\/X.env.kindOf x=some .free)/\cl.lookup x=X.env.cells.lookup x:=by
 induction h generalizing k with
 |nil=>simp at e
 |cons g d c _ b=>
  cases k with
  |zero=>simp at e;subst e;exact⟨_,rfl,g,d,c⟩
  |succ k=>simpa using b (by simpa using e)
def mG(b:Nat)(c:List Nat)(a:St):St:=List.replicate b none++c.map λi=>(a[i]?).getD none
def GY(h:(mG tn ci σ)[j]?=some (some v)):∃k i,j=tn+k/\ci[k]?=some i/\σ[i]?=some (some v):=by
 unfold mG at h;by_cases b:j<tn;·rw[ay<|by simpa using b,bI,av b]at h;cases h
 ·rw[aK<|by simpa using b,cH,aA]at h;cases q:ci[j - tn]? with
  |none=>rw[q]at h;cases h
  |some i=>
   rw[q]at h;refine⟨j - tn,i,by omega,q,?_⟩;have a:(σ[i]?).getD none=some v:=Option.some.inj h;cases z:σ[i]? with
   |none=>rw[z]at a;cases a
   |some y=>rw[z]at a;exact bG some a
def yd:(mG tn ci σ).length=tn+ci.length:=by unfold mG;simp
def EG(y:TI)(h:Nat)(n:List Nat)(g:TG)(B:TT)(z:TE):TE:=λk H Q=>y k H λJ p=>∀l,p l=none->∃W:Nat->Nat->Hp->Prop,(∃m,W 0 m<|upd p l<|.lst [])/\∀i m d,W i m d->(∀b o u,upd p l (.lst []) b=some (.ke o u)->d b=some (.ke o u))->
 (J.stop i d/\Q (.ref l) d)\/(J.go i d/\∀x t,J.xm i d x t->g x (mG h n k) t λa C=>(a.length=h+n.length/\∀j,h<=j->a[j]?=(mG h n k)[j]?)/\B a C λb r=>if b=true then z a r λv q=>∃c,q l=some (.lst c)/\c.length<sizeLine/\∃e,e<m/\W (i+1) e (upd q l<|.lst<|c++[v])else∃e,e<m/\W (i+1) e r)
def PF(X:Cx)(d:List Expr)(t:TT):Prop:=
 ∀a s b H Q,Inv X a b H s->t b H Q->
  wpAny (model X.prog X.w) X.A (forIn d true λc r=>if r=true then do let ok<-isTrue c X.env (eval c X.env);pure (ForInStep.yield ok)else pure (ForInStep.yield r)) (TP X a b Q) X.xe s
def KP:PF X [] (λ_ H Q=>Q true H):=λ_ _ _ H _ I h=>wpAny_tests_nil ⟨H,I,h⟩
def WG{t}(h:PT X c t):PF X [c] t:=λa s b H Q I d=>wpAny_tests_one (h a s b H Q I d)
variable{X:Cx}{M B K:Expr}{F:List Expr}{scope:Scope}{L:Pos}{O:TI}{g:TG}{tc:TT}{te:TE}{cl:List<|Str×Addr}{tn:Nat}{Nt Nc:List Str}{E:List Nat}
def G9{S:List<|Addr×Obj}{s:Shared}{σ:St}{H:Hp}{Q:VK}{RR:Value->Addr->Result->Shared->Prop}(I:Inv X S σ H s)(hc:X.calm=true)(hi:PI X M B O)
    (hg:∀D s3 H3 C,PG (X.comp scope (Nt++Nc) cl D s3 H3 C) M g)(hf:∀D s3 H3 C,PF (X.comp scope (Nt++Nc) cl D s3 H3 C) F tc)(he:∀D s3 H3 C,PE (X.comp scope (Nt++Nc) cl D s3 H3 C) K te)
    (hkind:scope.kind=.function)(hcell:pJ scope)(th:oE X cl Nc E)(yS:Nt.length=tn)
    (Z:∀x c,cl.lookup x=some c->X.env.cells.lookup x=some c)(hhas:∀x,((relabel scope X.env).names.lookup x=some .cell\/(relabel scope X.env).names.lookup x=some .free)->∃c,cl.lookup x=some c)
    (uA:∀x∈Nc,(relabel scope X.env).names.lookup x=some .cell\/(relabel scope X.env).names.lookup x=some .free)
    (h:EG O tn E g tc te σ H Q)
    (fin:∀l C H' s' m,s'.heap.Ns C m->Inv X S σ H' s'->H' C=none->C≠X.env.locals->X.s₀.heap.objs.size<=C->(∀x c,X.env.cells.lookup x=some c->c≠C)->(∀p∈X.pn++S,p.1≠C)->Q (.ref l) H'->RR (.ref l) C (.ok .next) s'):
    wpAny (model X.prog X.w) X.A (eval B X.env) (λx abk=>wpAny (model X.prog X.w) X.A (pyIter x) (λit abl=>wpAny (model X.prog X.w) X.A (newList []) (λacc abm=>wpAny (model X.prog X.w) X.A (newFunctionEnv scope X.env.globals cl [] X.env.qual none .none<|some X.env) (λG2 abn=>codeAny (model X.prog X.w) X.A (.compStart (.ListComp K [⟨M,B,F,0⟩] scope L) 0 it acc {G2 with scope:=relabel scope X.env}) (RR acc G2.locals) abn) X.xe abm) X.xe abl) X.xe abk) X.xe s:=by
 refine ji (hi S s σ H _ I h) λv s1 h1=>ji h1 λRV s2 h2=>?_;obtain⟨it,D,tk,J,H2,rfl,I2,T,LW,f2,hW⟩:=h2;refine aY (wpAny_newFunctionEnv hcell (by intro y hy;simp at hy) (λBU V U=>?_) hkind);dsimp only at V U⊢;generalize hG:s2.heap.push {cls:=.type "list",dict:=none,data:=.seq ([]:List Value).toArray}=G at V U⊢;have Qi:G.objs.size=s2.heap.objs.size+1:=by rw[<-hG,bY]
 have hl:H2 s2.heap.objs.size=none:=I2.hok.fresh (ah _);obtain⟨W,⟨m0,w0⟩,turn⟩:=hW _ hl;have t:Inv X S σ (upd H2 s2.heap.objs.size<|.lst []) {s2 with heap:=G}:=by rw[<-hG];exact I2.laid (t':=s2.toks) (λb u e=>ag _ e) (ah _) ⟨bQ _,[],0,.nil,aG _ rfl⟩
 generalize IA:upd H2 s2.heap.objs.size (.lst [])=H3 at w0 t;have keep:∀b o,G.get? b=some o->BU.get? b=some o:=λb o e=>U.extBut b o (aR<|Heap.lt_size e) (ag _ e);have JS:∀b∈D,b<s2.heap.objs.size:=λb a=>by obtain⟨o,e,_⟩:=T.obj 0 _ LW b a;exact Heap.lt_size e
 have Ie:∀b∈D,b≠G.objs.size:=λb a=>aR (aH (JS b a)<|by rw[Qi];exact cP _);have Ig:∀b∈D,H3 b=none:=λb a=>by rw[<-IA,jB<|aR<|JS b a];exact(f2 b a).1
 let X':=X.comp scope (Nt++Nc) cl D {s2 with heap:=G} H3 G.objs.size
 have ok':X'.Ok:=by
  refine⟨t.ok.mod,(by show(relabel scope X.env).kind=_;exact hkind),t.ok.glob,t.ok.blt,ah _,λx y c e1 e2=>t.ok.inj x y c (Z x c e1)<|Z y c e2,λx hx=>hhas x hx,(λx c z=>nomatch z),t.ok.hd,t.ok.frames,.inl rfl,λb a=>⟨Ie b a,λx c e=>(f2 b a).2.2.2.2.1 x c (Z x c e)⟩,λb o e=>t.bs b o e,aU t.ok.sP t.sz,λb o e a=>?_,λb a z=>?_,t.stack,t.EE⟩
  ·rcases(f2 b a).2.2.2.1 with z|z;·exact t.ok.CF b o e z
   ·exact absurd (aH (Heap.lt_size e)<|aU t.ok.sP z) (cM _)
  ·rcases aE.mp (t.z6 b z)with e|e;·exact(f2 b a).2.1 e
   ·exact(f2 b a).2.2.1 e
 have J0:Inv X' [] (mG tn E σ) H3 {s2 with heap:=BU,toks:=s2.toks+0}:=by
  refine⟨ok',rfl,t.bare,Un.kept keep,⟨_,V,λi x v e1 e2 e3=>?_⟩,λx c e=>?_,t.hok.fresh<|ah _,λx c e=>t.pC x c<|Z x c e,λp hp=>absurd (show p∈([]:List<|Addr×Obj)from hp)<|by simp,t.hok.kept keep,?_⟩
  ·obtain⟨k,j,rfl,q1,q2⟩:=GY e2;have HH:Nc[k]?=some x:=by
    rw[aK<|by omega]at e1;rw[show tn+k - Nt.length=k by omega]at e1;exact e1
   obtain⟨j',z1,z2,z3,z4⟩:=th.get HH;rw[q1]at z1;cases z1;obtain⟨m,hn,QU⟩:=t.loc;obtain⟨u,r,lk⟩:=QU j x v z2 q2 (z3.elim (λz=>.inr<|.inl z) λz=>.inr<|.inr z);refine⟨u,r,.inr ⟨uA x<|bf HH,?_⟩⟩;rcases lk with⟨k1,_⟩|⟨_,c,k2,k3⟩;·rcases z3 with z|z<;>(rw[k1]at z;cases z)
   ·refine⟨c,z4.trans k2,?_⟩;obtain⟨o,ho,hd⟩:=k3;exact⟨o,keep _ _ ho,hd⟩
  ·obtain⟨v,o,ho,hd⟩:=t.cell x c (Z x c e);exact⟨v,o,keep _ _ ho,hd⟩
  ·rw[yd];show _=(Nt++Nc).length;rw[ar,th.length,yS]
 have stat:∀{Dr:List<|Addr×Obj} {H':Hp},(∀p∈Dr,p.1∉D)->(∀b∈D,H' b=none)->∀b∈D,ry X' Dr H' b:=λ{Dr H'} hp hn b a=>⟨hn b a,Ie b a,λz=>ok'.Bt b a z,.inl a,λx c e=>(ok'.Pw b a).2 x c e,λp Q9 z=>hp p ((aW.mp Q9).elim (λw=>absurd (show p∈([]:List<|Addr×Obj)from w)<|by simp) λw=>w)<|by rw[z];exact a⟩
 have mk:∀(s5:Shared),(∀i H5,Inv X' [] (mG tn E σ) H5 s5->tk i s5.heap->(∀b∈D,H5 b=none)->∀n,W i n H5->
  codeAny (model X.prog X.w) X.A (.compLoop (.ListComp K [⟨M,B,F,0⟩] scope L) 0 (.ref it) (.ref s2.heap.objs.size) (compEnvC scope cl G.objs.size X.env)) (RR (.ref s2.heap.objs.size) G.objs.size) s5):=by
  intro s5 i5 H5 J5 st5 PU n5 w5;refine OH (λn s'=>∃i H',Inv X' [] (mG tn E σ) H' s'/\tk i s'.heap/\(∀b∈D,H' b=none)/\W i n H') ?_ n5 ⟨i5,H5,J5,st5,PU,w5⟩
  rintro n s6 ⟨i,H6,J6,LX,Ih,w6⟩
  rcases turn i n H6 w6 (λb o u e=>J6.base.pD b o u (show H3 b=_ by rw[<-IA];exact e))with⟨stop,q⟩|⟨go,step⟩
  ·refine bp (T.done X' rfl rfl rfl hc i [] s6 _ H6 (λ_ _=>False) J6 (stat (by simp) Ih) LX stop) (λr s7 ⟨hr,J7⟩=>?_) λ_ _ z=>z.elim;subst hr;obtain⟨m,hn,_⟩:=J7.loc;have IX:Inv X S σ H6 s7:=t.GV (ch:=D) J7.os J7.base J7.hok J7.bare λb a=>⟨(f2 b a).2.2.2.1,(f2 b a).2.1,(f2 b a).2.2.2.2.1,(f2 b a).2.2.2.2.2⟩;refine fin _ _ H6 s7 m hn IX J7.free (da t.lt) (aU t.sz<|ah _) (λx c e z=>?_) (λp hp z=>?_) q
   ·obtain⟨v,o,ho,_⟩:=t.cell x c e;exact absurd (Heap.lt_size ho) (by rw[z];exact cM _)
   ·exact absurd (Heap.lt_size (t.pin p hp).1) (by rw[z];exact cM _)
  ·refine bp (T.item X' rfl rfl rfl hc i [] s6 _ H6 (λ_ _=>False) J6 (stat (by simp) Ih) LX go) (λr s7 ⟨u,hr,h7⟩=>?_) λ_ _ z=>z.elim;subst hr;refine bp h7 (λ_ s8 nu=>?_) λ_ _ z=>z.elim;obtain⟨x,H8,J8,r8,y8,ED,PV⟩:=nu;have Nl:=J8.pinned (stat (by simp) PV) (T.obj _ _ ED)
   have back:∀{Y:St} {H9:Hp} {s9:Shared},Inv X' ([]++wK D s8.heap) Y H9 s9->Y.length=tn+E.length->(∀j,tn<=j->Y[j]?=(mG tn E σ)[j]?)->∀m',m'<n->W (i+1) m' H9->
    ∃m,m<n/\∃i H',Inv X' [] (mG tn E σ) H' s9/\tk i s9.heap/\(∀b∈D,H' b=none)/\W i m H':=λ{Y H9 s9} J9 QR QN m' hm w9=>by
    refine⟨m',hm,i+1,H9,J9.Ab.weak (by rw[yd,QR]) λj v e=>?_,T.keep _ _ _ ED λb a o e=>(J9.pin (b,o)<|bH _<|bH _<|zf a e).1,λb a=>?_,w9⟩
    ·obtain⟨k,_,rfl,_⟩:=GY e;rw[QN _<|by omega];exact e
    ·obtain⟨o,e,d⟩:=T.obj _ _ ED b a;exact(J9.pin (b,o)<|bH _<|bH _<|zf a e).2.1
   refine bp (hg D _ _ _ _ s8 _ H8 x u _ Nl r8<|step x H8 y8) (λ_ s9 nu=>?_) λ_ _ z=>z.elim;obtain⟨Y,H9,J9,⟨l9,k9⟩,q9⟩:=nu;refine bp (hf D _ _ _ _ s9 Y H9 _ J9 q9) (λb zQ ⟨AG,FG,zK⟩=>?_) λ_ _ z=>z.elim;cases b with
   |false=>rw[aw ax]at zK⊢;obtain⟨m',hm,w10⟩:=zK;exact back FG l9 k9 m' hm w10
   |true=>rw[av rfl]at zK⊢;refine bp (he D _ _ _ _ zQ Y AG _ FG zK) (λy DH nu=>?_) λ_ _ z=>z.elim;obtain⟨v,AH,Nj,ZP,acc,sW,z11,m',hm,w11⟩:=nu;refine bp (J1 (X:=X') _ DH Y AH (.ref _) [v] (.ref _) [y] (λ_ xC=>W (i+1) m' xC) Nj rfl (.cons ZP .nil) ⟨_,acc,v,rfl,rfl,sW,z11,w11⟩) (λ_ s12 nu=>?_) λ_ _ z=>z.elim;obtain⟨_,xC,Nk,_,w12⟩:=nu;exact back Nk l9 k9 m' hm w12
 have EC:tk 0 BU:=T.keep _ _ _ LW λb _ o e=>keep b o (by rw[<-hG];exact ag _ e);exact codeAny_compStart_list (mk _ 0 H3 J0 EC Ig m0 w0) (T.self _ 0 _ _ _ EC<|mk _ 0 H3 J0 EC Ig m0 w0)
def KG(Y:X.calm=true)(T:PI X M B O)(U:∀v k y C,PG (X.comp scope (Nt++Nc) cl v k y C) M g)(hf:∀v k y C,PF (X.comp scope (Nt++Nc) cl v k y C) F tc)(V:∀v k y C,PE (X.comp scope (Nt++Nc) cl v k y C) K te)
 (i:closureFor scope X.env=pure cl)(a:scope.kind=.function)(j:pJ scope)(d:qy scope)(u:oE X cl Nc E)(z:Nt.length=tn)
 (p:∀x c,cl.lookup x=some c->X.env.cells.lookup x=some c)(t:∀x,((relabel scope X.env).names.lookup x=some .cell\/(relabel scope X.env).names.lookup x=some .free)->∃c,cl.lookup x=some c)
 (n:∀x∈Nc,(relabel scope X.env).names.lookup x=some .cell\/(relabel scope X.env).names.lookup x=some .free)
 (J:∀x,foldedSetIterable B X.env x=pure x):PE X (.ListComp K [⟨M,B,F,0⟩] scope L) (EG O tn E g tc te):=by intro D s σ H Q I h;rw[eval_ListComp];refine wpAny_comprehension_free (use:=none) rfl J i a d (G9 (Nt:=Nt) (Nc:=Nc) I Y T U hf V a j u z p t n h ?_);intro l C H' G m S I' h1 h2 h3 h4 h5 q;exact⟨m,S,λQc r=>⟨.ref l,H',I'.turned (t':=G.toks) (λb o Z e=>r.extBut b o Z e) h1 h2 (.inr h3) h4 h5,rfl,q⟩⟩
def AR(X:Cx)(e:Expr)(t:TE):Prop:=
 ∀(i:Nat) (x:Str) (pos':Pos) (_:X.N.Nodup) (_:X.N[i]?=some x) (_:Loc X.env.scope x) (_:X.hf x) (pins:List<|Addr×Obj) (s:Shared) (σ:St) (H:Hp) (Q:VK),Inv X pins σ H s->t σ H Q->
  wpAny (model X.prog X.w) X.A (evalThenUse e X.env<|assign (.Name x pos') X.env) (λ_ b=>∃v a,Inv X pins (σ.set i<|some v) a b/\Q v a) X.xe s
def Xe(hc:X.calm=true)(hi:PI X M B O)(hg:∀T t U C,PG (X.comp scope (Nt++Nc) cl T t U C) M g)(hf:∀T t U C,PF (X.comp scope (Nt++Nc) cl T t U C) F tc)(he:∀T t U C,PE (X.comp scope (Nt++Nc) cl T t U C) K te)
    (n:closureFor scope X.env=pure cl)(d:scope.kind=.function)(p:pJ scope)(j:qy scope)(J:oE X cl Nc E)(Z:Nt.length=tn)
    (y:∀x c,cl.lookup x=some c->X.env.cells.lookup x=some c)(G:∀x,((relabel scope X.env).names.lookup x=some .cell\/(relabel scope X.env).names.lookup x=some .free)->∃c,cl.lookup x=some c)
    (u:∀x∈Nc,(relabel scope X.env).names.lookup x=some .cell\/(relabel scope X.env).names.lookup x=some .free)
    (hs:∀x,foldedSetIterable B X.env x=pure x):AR X (.ListComp K [⟨M,B,F,0⟩] scope L) (EG O tn E g tc te):=by
 intro i x k hN V hx Y pins s σ H Q I h;unfold evalThenUse;refine ae (wpAny_comprehension_free (use:=some<|assign (.Name x k) X.env) rfl hs n d j<|G9 (Nt:=Nt) (Nc:=Nc) I hc hi hg hf he d p J Z y G u h ?_);intro l C H' s' m hn I' h1 h2 h3 h4 h5 q;show wpAny _ _ (assign (.Name x k) X.env<|.ref l) _ _ _;refine ae (fH<|ic<|LZ I' hN V hx (v:=.ref l) rfl (λs2 I2 S=>?_) Y);obtain⟨a,sb,S⟩:=S;have ne:C≠a:=by
  rcases S with rfl|S;·exact h2
  ·exact λz=>h4 _ _ S z.symm
 obtain⟨o,es,ep,e,r⟩:=hn;refine⟨m,⟨o,es,ep,(sb.2 C ne).trans e,r⟩,λQc D=>af ⟨.ref l,H',I2.turned (t':=s2.toks) (λb o hb e=>D.extBut b o hb e) h1 h2 (.inr h3) h4 h5,q⟩⟩
def Xa{i:Nat}{x:Str}{e:Expr}{te:TE}{a b:Pos}(hN:X.N.Nodup)(l:X.N[i]?=some x)(j:Loc X.env.scope x)(m:AR X e te)(k:swapsWith e (some<|.Name x a) b.line X.env=pure true)(hf:X.hf x):
    PS X (.Assign [.Name x a] e b) (EF te<|sZ i):=by
 intro c s d H D I h;rw[exec_Assign_Name_used _ _ _ _ k];refine ae (fH<|ae<|ji (m i x a hN l j hf c s d H _ I h) λ_ p ⟨v,o,n,q⟩=>af ⟨_,o,n,q⟩)
end L2
namespace P2
open PySem L2 PyProof.Rows
abbrev bits(x:Int):Nat:=Builtin.Int.intBits x
def zy(h:kM X f r)(e:kM X f r'):kM X f (λx y H Q=>r x y H Q\/r' x y H Q):=
 λa s b H x y v u Q I d c q=>q.elim (h a s b H x y v u Q I d c) (e a s b H x y v u Q I d c)
def iB(C:Int->Int->Bool)(g:Int->Int->D)(x y:D):R D:=match x,y with
 |.int i,.int j=>if C i j=true then .ok (g i j)else .bad
 |_,_=>.bad
section
variable{X:Cx}{E:XK}
def CQ{a:Value->Value->Sem Value}{C:Int->Int->Prop}{d:Int->Int->Bool}{g:Int->Int->V}{b:Int->Int->D}(l:kM X a<|rI C g)(n:∀i j,d i j=true->C i j)(m:∀i j K c H,Rep K c H (g i j)<|b i j):lr X E a (iB d b):=by
 refine⟨_,l,λc H x y p o Q fr k e h=>?_⟩;unfold iB at h;split at h
 ·rename_i i j;cases k;cases e;split at h
  ·rename_i z;exact⟨i,j,rfl,rfl,n i j z,h H (.refl H) _<|m i j _ _ _⟩
  ·exact h.elim
 ·exact h.elim
def zx{a:Value->Value->Sem Value}{g:Int->Int->V}{b:Int->Int->D}(k:kM X a<|rV g)(l:∀i j K c H,Rep K c H (g i j)<|b i j):lr X E a (iB (λ_ _=>true) b):=by
 refine⟨_,k,λc H x y n m Q fr e d h=>?_⟩;unfold iB at h;split at h
 ·rename_i i j;cases e;cases d;exact⟨i,j,rfl,rfl,h H (.refl H) _<|l i j _ _ _⟩
 ·exact h.elim
def pe:D->D->R D:=iB (λ_ _=>true) λi j=>.int (i - j)
def rT:lr X E (binaryOp .Sub) pe:=zx V2 λ_ _ _ _ _=>.int _
def CH(i j:Int):Bool:=decide (bits i<=1048576)&&decide (bits j<=1048576)
def uL(_ j:Int):Bool:=decide (j≠0)&&decide (bits j<=9000)
def Kg(i j:Int):Bool:=decide (0<=j)&&decide (j<=1000000)&&decide (i.natAbs<2^64)
def kR:D->D->R D:=iB uL λi j=>.int (i.fdiv j)
def oq:lr X E (binaryOp .FloorDiv) kR:=CQ VM (λi j h=>by unfold uL at h;simpa [Fj]using h) λ_ _ _ _ _=>.int _
def j5:D->D->R D:=iB (λ_ j=>decide<|j≠0) λi j=>.int (i.fmod j)
def mJ:lr X E (binaryOp .Mod) j5:=CQ VU (λi j h=>by simpa using h) λ_ _ _ _ _=>.int _
def zI:D->D->R D:=iB Kg λi j=>.int (i^j.toNat)
def CP:lr X E (binaryOp .Pow) zI:=CQ V1 (λi j h=>by unfold Kg at h;simp only[aS,bx]at h;exact⟨h.1.1,h.1.2,h.2⟩) λ_ _ _ _ _=>.int _
def m9:D->D->R D:=iB (λ_ _=>true) λi j=>.bl (decide<|i<j)
def za:D->D->R D:=iB (λ_ _=>true) λi j=>.bl (decide<|i<=j)
def rN:D->D->R D:=iB (λ_ _=>true) λi j=>.bl (decide<|j<i)
def P1:D->D->R D:=iB (λ_ _=>true) λi j=>.bl (decide<|j<=i)
def uM:lr X E (compareOp .Lt) m9:=zx VT λ_ _ _ _ _=>.bl _
def VS:lr X E (compareOp .LtE) za:=zx VR λ_ _ _ _ _=>.bl _
def CO:lr X E (compareOp .Gt) rN:=zx VN λ_ _ _ _ _=>.bl _
def wu:D->R D
 |.int i=>.ok (.int<|-i)
 |_=>.bad
def acg:F7 X E (unaryOp .USub) wu:=by
 refine⟨_,acf,λc H x b Q fr a h=>?_⟩;unfold wu at h;split at h;·cases a;exact⟨_,rfl,h H (.refl H) _<|.int _⟩
 ·exact h.elim
def xM(K:W.Frag)(H:Hp)(a:Addr)(b:List V):Prop:=Rd H a (.lst b)\/KL K a b
def xM.is{s}(I:Inv X pins σ H s)(h:xM X.K H a xs):∃b n,Vals xs b/\s.heap.get? a=some {cls:=.type "list",data:=.seq b.toArray n}:=by
 rcases h with h|⟨b,n,h1,h2,h3⟩
 ·obtain⟨z,b,n,r,e⟩:=h.ok I.hok;exact⟨b,n,r,e⟩
 ·exact⟨b,n,h3,I.l5 a _ h1⟩
def ZV(K:W.Frag):R2:=λx y H Q=>∃l b c a,x=.ref l/\y=.ref b/\xM K H l c/\xM K H b a/\c.length+a.length<=sizeLine/\∀p,H p=none->Q (.ref p) (upd H p<|.lst<|c++a)
def Kr:kM X (binaryOp .Add) (ZV X.K):=by
 intro g s z H x y v u Q I j i h;obtain⟨l,b,C,B,rfl,rfl,m,o,F,q⟩:=h;cases j;cases i;obtain⟨c,n,r,e⟩:=m.is I;obtain⟨a,D,d,t⟩:=o.is I;have G:=r.length;have k:=d.length;refine PySem.P.add_list e t ?_ (by rw[aN,aN];omega);have p:c.toArray++a.toArray=(c++a).toArray:=by simp
 rw[p];exact⟨.ref _,_,I.Tb (t':=s.toks) (r.append d)<|by rw[ar];omega,rfl,q _ I.fresh⟩
def kr:D->D->R D
 |.int i,.int j=>.ok (.int<|i+j)
 |.str i,.str j=>if i.length+j.length<=sizeLine then .ok (.str<|i++j)else .bad
 |.lst xs,.lst a=>if xs.length+a.length<=sizeLine then .ok (.lst<|xs++a)else .bad
 |_,_=>.bad
def mC:lr X E (binaryOp .Add) kr:=by
 refine⟨_,zy VI<|zy VJ Kr,λq H x y o n Q fr d c h=>?_⟩;unfold kr at h;split at h;·cases d;cases c;exact .inl ⟨_,_,rfl,rfl,h H (.refl H) _<|.int _⟩
 ·cases d;cases c;split at h;·rename_i z;exact .inr (.inl ⟨_,_,rfl,rfl,z,h H (.refl H) _<|.str _⟩)
  ·exact h.elim
 ·split at h
  ·rename_i z;obtain⟨a,k,rfl,m,i⟩:=d.zc;obtain⟨b,j,rfl,l,g⟩:=c.zc;exact .inr (.inr ⟨a,b,k,j,rfl,rfl,m,l,by rw[i.length,g.length];exact z,λp e=>h _ (mj e) _ ((i.append g).uH e (fr p e))⟩)
  ·exact h.elim
 ·exact h.elim
def CI(x:Str)(n:Int):Bool:=!(decide (n< -(2^63:Int))||decide (n≥2^63))&&decide (x.length*n.toNat<=1000000)&&decide (x.length<=1000000)&&decide (n<=1000000)
def VX:kM X (binaryOp .Mult) (λx y H Q=>∃i n,x=.str i/\y=.int n/\MulOk i n/\Q (.str<|Txt.mul i n) H):=by intro a s g H x y v u Q I d c h;obtain⟨i,j,rfl,rfl,e,q⟩:=h;obtain⟨t,rfl⟩:=d;obtain⟨l,rfl⟩:=c;exact SB.mul e λb k=>⟨.str _,H,I.tok _,⟨_,rfl⟩,q⟩
def mulOk_of{n:Int}(h:CI x n=true):MulOk x n:=by
 unfold CI at h;simp only[aS,bx,gh]at h;obtain⟨⟨⟨b,i⟩,g⟩,a⟩:=h;refine⟨b,λe _=>?_,λ_ _=>?_⟩
 ·have d:(1:Int)<=n:=by omega
  have c:(1000000:Int)<=(2^63 - 1)/n:=by apply(Int.le_ediv_iff_mul_le<|by omega).mpr;have:(1000000:Int)*n<=1000000*1000000:=Int.mul_le_mul_of_nonneg_left a (by decide);omega
  omega
 ·have:sizeLine=16777216:=dB;unfold Builtin.Str.tooLong;simp only[cS];omega
def ur:D->D->Option Bool
 |.non,.non=>some true
 |.int i,.int j=>some (decide<|i=j)
 |.str i,.str j=>some (decide<|i=j)
 |.bl i,.bl j=>some (decide<|i=j)
 |.non,.int _=>some false
 |.int _,.non=>some false
 |.non,.str _=>some false
 |.str _,.non=>some false
 |.non,.bl _=>some false
 |.bl _,.non=>some false
 |.int _,.str _=>some false
 |.str _,.int _=>some false
 |_,_=>none
def jU(x y:D):R D:=match ur x y with
 |some b=>.ok (.bl b)
 |none=>.bad
def qB(x y:D):R D:=match ur x y with
 |some b=>.ok (.bl<|!b)
 |none=>.bad
def HX{K:W.Frag}{a:Addr->Prop}{H:Hp}{x y:V}{g e:D}{b:Bool}(d:Rep K a H x g)(c:Rep K a H y e)(h:ur g e=some b):Ee x y=true/\decide (x=y)=b:=by
 have l:∀{x i},Rep K a H x (.int i)->x=.int i:=λr=>by cases r;rfl
 have j:∀{x i},Rep K a H x (.str i)->x=.str i:=λr=>by cases r;rfl
 have m:∀{x i},Rep K a H x (.bl i)->x=.bl i:=λr=>by cases r;rfl
 have k:∀{x},Rep K a H x .non->x=.non:=λr=>by cases r;rfl
 unfold ur at h;split at h<;>first|(cases h;done)|(first|cases l d|cases j d|cases m d|cases k d)<;>(first|cases l c|cases j c|cases m c|cases k c)<;>(cases h;refine⟨rfl,?_⟩;simp)
def kU:lr X E (compareOp .Eq) jU:=by
 refine⟨_,VL,λj H x y i g Q fr c a h=>?_⟩;unfold jU at h;cases q:ur i g with
 |none=>rw[q]at h;exact h.elim
 |some b=>rw[q]at h;obtain⟨e,d⟩:=HX c a q;exact⟨e,by rw[d];exact h H (.refl H) _ (.bl b)⟩
def Ks:lr X E (compareOp .NotEq) qB:=by
 refine⟨_,VY,λj H x y i g Q fr c a h=>?_⟩;unfold qB at h;cases q:ur i g with
 |none=>rw[q]at h;exact h.elim
 |some b=>rw[q]at h;obtain⟨e,d⟩:=HX c a q;exact⟨e,by rw[d];exact h H (.refl H) _ (.bl _)⟩
def yY:D->D->R D
 |.str i,.str j=>.ok (.bl<|Txt.contains j i)
 |_,_=>.bad
def VO:lr X E (compareOp .In) yY:=by
 refine⟨_,VP,λe H x y d c Q fr b a h=>?_⟩;unfold yY at h;split at h;·cases b;cases a;exact⟨_,_,rfl,rfl,h H (.refl H) _<|.bl _⟩
 ·exact h.elim
def jb.jY{K:W.Frag}{c:Addr->Prop}{H:Hp}{b:List V}{a:List D}(r:jb K c H b a){i:Int}{d:D}(h:L2.jY a i=some d):∃v,L2.jY b i=some v/\Rep K c H v d:=by
 unfold L2.jY at h⊢;rw[r.length];cases q:qx a.length i with
 |none=>rw[q]at h;cases h
 |some j=>rw[q]at h;exact r.getD h
def jS:D->D->R D
 |.lst ds,.int i=>match L2.jY ds i with
  |some d=>.ok d
  |none=>.bad
 |.tup ds,.int i=>match L2.jY ds i with
  |some d=>.ok d
  |none=>.bad
 |.str z,.int i=>if z.length<=sizeLine then(match L2.jY z.cps.toList i with
  |some c=>.ok (.str ⟨#[c]⟩)
  |none=>.bad)else .bad
 |_,_=>.bad
abbrev iW(i:Nat)(k:Int):jw:=d2 jS (dV i) (iQ k)
def ly:AN X E jS:=by
 refine⟨_,R5,λt H x y r p Q fr g e h=>?_⟩;unfold jS at h;split at h
 ·rename_i n i;cases e;cases q:L2.jY n i with
  |none=>rw[q]at h;exact h.elim
  |some d=>rw[q]at h;obtain⟨a,b,rfl,k,j⟩:=g.qz;obtain⟨v,m,l⟩:=jb.jY j q;exact .inl ⟨a,b,i,v,rfl,rfl,k,m,h H (.refl H) _ l⟩
 ·rename_i n i;cases e;cases q:L2.jY n i with
  |none=>rw[q]at h;exact h.elim
  |some d=>rw[q]at h;obtain⟨a,b,rfl,k,j⟩:=g.rm;obtain⟨v,m,l⟩:=jb.jY j q;exact .inr (.inl ⟨a,b,i,v,rfl,rfl,k,m,h H (.refl H) _ l⟩)
 ·rename_i z i;cases g;cases e;split at h
  ·rename_i o;cases q:L2.jY z.cps.toList i with
   |none=>rw[q]at h;exact h.elim
   |some c=>rw[q]at h;exact .inr (.inr ⟨z,i,c,rfl,rfl,o,q,h H (.refl H) _<|.str _⟩)
  ·exact h.elim
 ·exact h.elim
def jh(i){x:Str}{k j}{p c b}(hN:X.N[i]?=some x:=by rfl)(hv:qP X.env.scope x:=by first|exact Or.inl rfl|exact Or.inr (Or.inl rfl)|exact Or.inr (Or.inr rfl))(d:(x==("__debug__":Str))=false:=by decide)(a:(x==("__classdict__":Str))=false:=by decide):DE X E (.Subscript (.Name x p) (.Constant (.int k) j c) b) (iW i k):=mH ly (iP i hN hv d a) iZ
def Z4:V->Option Int->Option Int->Hp->VK->Prop:=λx lo a H Q=>∃z,x=.str z/\z.length<=sizeLine/\Q (.str<|Txt.slice z lo a) H
def aa1:qO X Z4:=by
 intro n s B H x v D C lo G F Q I p y r m h;obtain⟨z,rfl,a,q⟩:=h;obtain⟨t,rfl⟩:=p;refine⟨"str",_,PySem.F.slot_str_getitem.lookup,typeIs_str s z t,?_⟩;obtain⟨o,d,c,b⟩:=y;cases r with
 |none=>
  cases m with
  |none=>exact dw (l:=none) (u:=none) (st:=none) ⟨o,d,c,b⟩ rfl (fQ ⟨aU (gN z none none) a,λe k=>⟨.str _,H,I.tok _,⟨_,rfl⟩,q⟩⟩)
  |int j u=>exact dw (l:=none) (u:=some (j,u)) (st:=none) ⟨o,d,c,b⟩ rfl (fQ ⟨aU (gN z none<|some j) a,λe k=>⟨.str _,H,I.tok _,⟨_,rfl⟩,q⟩⟩)
 |int i g=>
  cases m with
  |none=>exact dw (l:=some (i,g)) (u:=none) (st:=none) ⟨o,d,c,b⟩ rfl (fQ ⟨aU (gN z (some i) none) a,λe k=>⟨.str _,H,I.tok _,⟨_,rfl⟩,q⟩⟩)
  |int j u=>exact dw (l:=some (i,g)) (u:=some (j,u)) (st:=none) ⟨o,d,c,b⟩ rfl (fQ ⟨aU (gN z (some i)<|some j) a,λe k=>⟨.str _,H,I.tok _,⟨_,rfl⟩,q⟩⟩)
def cutD(a:List D)(lo b:Option Int):List D:=(a.drop<|HT.jL a.length 0 lo).take (HT.jL a.length a.length b - HT.jL a.length 0 lo)
def jb.cut{K:W.Frag}{d:Addr->Prop}{H:Hp}{a:List V}{c:List D}(r:jb K d H a c)(lo b:Option Int):jb K d H (rG a lo b) (cutD c lo b):=by unfold rG cutD;rw[r.length];exact(r.drop _).take _
def wX:D->Option Int->Option Int->R D
 |.lst ds,lo,a=>.ok (.lst<|cutD ds lo a)
 |.str z,lo,a=>if z.length<=sizeLine then .ok (.str<|Txt.slice z lo a)else .bad
 |_,_,_=>.bad
def aaZ:AW X E wX:=by
 refine⟨_,aa0.or aa1,λl H x k lo g Q fr c h=>?_⟩;unfold wX at h;split at h
 ·obtain⟨a,d,rfl,j,i⟩:=c.qz;exact .inl ⟨a,d,rfl,j,λp b=>h _ (mj b) _<|(i.cut lo g).uH b (fr p b)⟩
 ·cases c;split at h;·rename_i e;exact .inr ⟨_,rfl,e,h H (.refl H) _<|.str _⟩
  ·exact h.elim
 ·exact h.elim
def lL:jf
 |[.str z]=>if z.length<=sizeLine then .ok (.int z.length)else .bad
 |[.lst ds]=>.ok (.int ds.length)
 |[.tup ds]=>.ok (.int ds.length)
 |_=>.bad
def jb.one{K:W.Frag}{e:Addr->Prop}{H:Hp}{c:List V}{d:D}(r:jb K e H c [d]):∃v,c=[v]/\Rep K e H v d:=by
 cases r with
 |cons a b=>cases b;exact⟨_,rfl,a⟩
def jb.two{K:W.Frag}{c:Addr->Prop}{H:Hp}{g:List V}{d e:D}(r:jb K c H g [d,e]):∃v u,g=[v,u]/\Rep K c H v d/\Rep K c H u e:=by
 cases r with
 |cons a b=>obtain⟨u,rfl,q⟩:=jb.one b;exact⟨_,_,rfl,a,q⟩
def sQ:vn X E (.builtin "len") lL:=by
 refine⟨_,Oh.or Og,λj H g i Q fr r h=>?_⟩;unfold lL at h;split at h
 ·obtain⟨v,rfl,q⟩:=jb.one r;cases q;split at h;·rename_i e;exact .inl ⟨_,rfl,e,h H (.refl H) _<|.int _⟩
  ·exact h.elim
 ·obtain⟨v,rfl,q⟩:=jb.one r;obtain⟨a,b,rfl,d,c⟩:=q.qz;exact .inr ⟨a,b,rfl,.inl d,by rw[c.length];exact h H (.refl H) _ (.int _)⟩
 ·obtain⟨v,rfl,q⟩:=jb.one r;obtain⟨a,b,rfl,d,c⟩:=q.rm;exact .inr ⟨a,b,rfl,.inr d,by rw[c.length];exact h H (.refl H) _ (.int _)⟩
 ·exact h.elim
def oK:jf
 |[.int i]=>.ok (.int<|if i<0 then -i else i)
 |_=>.bad
def yc:vn X E (.builtin "abs") oK:=by
 refine⟨_,Oa,λc H a b Q fr r h=>?_⟩;unfold oK at h;split at h
 ·obtain⟨v,rfl,q⟩:=jb.one r;cases q;exact⟨_,rfl,h H (.refl H) _<|.int _⟩
 ·exact h.elim
def Uj:jf
 |[.int i,.int j]=>.ok (.int<|if j>i then j else i)
 |_=>.bad
def intD:jf
 |[.str z]=>match PySem.intText? z with
  |some n=>if z.length<=640 then .ok (.int n)else .bad
  |none=>.bad
 |_=>.bad
def vM:List D->Option (List Bool)
 |[]=>some []
 |.bl b::r=>(vM r).map (b:: ·)
 |_=>none
def NR:jf
 |[.lst ds]=>match vM ds with
  |some bs=>.ok (.bl<|bs.all id)
  |none=>.bad
 |_=>.bad
def NV:jf
 |[.lst ds]=>match vM ds with
  |some bs=>.ok (.bl<|bs.any id)
  |none=>.bad
 |_=>.bad
def abe:D->jf
 |.str i,[.str j]=>.ok (.bl<|Txt.startswith i j)
 |_,_=>.bad
def acV:D->jf
 |.str z,[.int i]=>if PadOk i=true then .ok (.str<|Txt.zfill z i)else .bad
 |_,_=>.bad
def PN:D->R D
 |.str z=>if z.length<=sizeLine then .ok (.str z)else .bad
 |.int i=>if i.natAbs.log2<1920 then .ok (.str<|toString i)else .bad
 |_=>.bad
def Sa(out:Str):jw:=λ_=>if out.length<=sizeLine then .ok (.str out)else .bad
def R9(a:jw)(r:Str->jw)(out:Str):jw:=λb=>(a b).bind λx=>match x with
 |.str y=>if(out++y).length<=sizeLine then r (out++y) b else .bad
 |_=>.bad
end
def wE(K:W.Frag)(E:XK)(f:jw):TE:=λe H Q=>∃P g a b,RS K P g a H e b/\Aft K a E H (f b) (λd c=>∀v,Rep K a c v d->Q v c)
def wT(K:W.Frag)(E:XK)(f:Ev->R Bool):TT:=λc H Q=>∃P d b a,RS K P d b H c a/\Aft K b E H (f a) Q
def wG(K:W.Frag)(l:List Nat)(a:D->Ev->Option Ev):TG:=λv g H Q=>∃P i e h d,RS K P i e H g h/\Rep K e H v d/\∃c,a d h=some c/\∀b,Kp l g b->RS K P i e H b c->Q b H
def DE.w{X:Cx}{E:XK}{e:Expr}{f:jw}(h:DE X E e f):PE X e (wE X.K E f):=by obtain⟨t,p,r⟩:=h;intro b s c H Q I i;obtain⟨P,k,j,d,g,a⟩:=i;exact p b s c H Q I (r P k j H c d Q g a)
def DT.w{X:Cx}{E:XK}{e:Expr}{f:Ev->R Bool}(h:DT X E e f):PT X e (wT X.K E f):=by obtain⟨t,p,r⟩:=h;intro b s c H Q I i;obtain⟨P,k,j,d,g,a⟩:=i;exact p b s c H Q I (r P k j H c d Q g a)
def DG.w{X:Cx}{e:Expr}{l:List Nat}{a:D->Ev->Option Ev}(h:DG X e l a):PG X e (wG X.K l a):=by obtain⟨t,p,r⟩:=h;intro b s c H v u Q I j m;obtain⟨P,o,n,g,d,i,k,a⟩:=m;exact p b s c H v u Q I j (r P o n H c g v d Q i k a)
def so(X:Cx)(a:List Expr)(f:Ev->R Bool):Prop:=PF X a (wT X.K (λ_ _ _=>False) f)
def rH:so X [] (λ_=>.ok true):=λb s c H Q I h=>by obtain⟨P,i,g,d,e,a⟩:=h;exact KP b s c H Q I (a H<|.refl H)
def yi(h:DT X (λ_ _ _=>False) c f):so X [c] f:=WG h.w
def qu(b:Nat)(c:List Nat)(a:Ev):Ev:=List.replicate b .no++c.map λi=>match a[i]? with
 |some (.sh d)=>.sh d
 |_=>.no
def pM{b:Type}:R b->Option b
 |.ok a=>some a
 |_=>none
def tu{b:Type}:Option b->R b
 |some a=>.ok a
 |none=>.bad
def l0(a:D->Ev->Option Ev)(c:Ev->R Bool)(e:jw)(g:Ev):List D->Option (List D)
 |[]=>some []
 |d::r=>(a d g).bind λh=>(pM<|c h).bind λb=>if b=true then(pM<|e h).bind λv=>(l0 a c e g r).bind λi=>some (v::i)else l0 a c e g r
def kA(h:Ev->R (List D))(g:Nat)(i:List Nat)(a:D->Ev->Option Ev)(c:Ev->R Bool)(e:jw):Ev->R (List D):=λb=>(h b).bind λd=>if d.length<=sizeLine then tu (l0 a c e (qu g i b) d)else .bad
def Kf{b:Type}{r:R b}{a:b}(h:pM r=some a):r=.ok a:=by
 cases r with
 |ok x=>cases h;rfl
 |ex _ _ _=>cases h
 |bad=>cases h
def aan{K:W.Frag}{P:Addr->Prop}{F r:Hp}{p l:Addr->Prop}{u:L2.St}{n:Ev}{t:Hp}(s:RS K P F p t u n)(x:Xt p t l r)(B:kX K t r)(fr:∀a,r a=none->l a)(sub:∀a,l a->p a)(m:Nat)(o:List Nat):
    RS K p t l r (mG m o u) (qu m o n) where
 same:=B
 tt:=B.tt s.tt
 fresh:=fr
 sub:=sub
 pf:=s.fresh
 len:=by unfold mG qu;simp
 sh:=λj d h=>by
  unfold qu at h;by_cases c:j<m;·rw[ay<|by simpa using c,bI,av c]at h;cases h
  ·rw[aK<|by simpa using c,cH,aA]at h;cases q:o[j - m]? with
   |none=>rw[q]at h;cases h
   |some i=>
    rw[q]at h;have g:(match n[i]? with|some (.sh d)=>Sl.sh d|_=>.no)=.sh d:=Option.some.inj h;cases z:n[i]? with
    |none=>rw[z]at g;cases g
    |some y=>
     rw[z]at g;cases y with
     |sh e=>cases g;obtain⟨v,D,C⟩:=s.sh i d z;refine⟨v,?_,C.mv x⟩;unfold mG;rw[aK<|by simpa using c,cH,aA,q];show some ((u[i]?).getD none)=_;rw[D];rfl
     |no=>cases g
     |ow _=>cases g
 ow:=λj d h=>by
  unfold qu at h;by_cases c:j<m;·rw[ay<|by simpa using c,bI,av c]at h;cases h
  ·rw[aK<|by simpa using c,cH,aA]at h;cases q:o[j - m]? with
   |none=>rw[q]at h;cases h
   |some i=>rw[q]at h;have g:(match n[i]? with|some (.sh d)=>Sl.sh d|_=>.no)=.ow d:=Option.some.inj h;split at g<;>cases g
 apart:=λj k d G b h _ _ _=>by
  exfalso;unfold qu at h;by_cases c:j<m;·rw[ay<|by simpa using c,bI,av c]at h;cases h
  ·rw[aK<|by simpa using c,cH,aA]at h;cases q:o[j - m]? with
   |none=>rw[q]at h;cases h
   |some i=>rw[q]at h;have g:(match n[i]? with|some (.sh d)=>Sl.sh d|_=>.no)=.ow d:=Option.some.inj h;split at g<;>cases g
variable{X:Cx}{E:XK}{F B M:Expr}{L:List Expr}{A:Scope}{U:Pos}{S:Ev->R (List D)}{a:D->Ev->Option Ev}{O:Ev->R Bool}{N:jw}{cl:List<|Str×Addr}{tn:Nat}{Nt Nc:List Str}{ci l:List Nat}
def tO(X:Cx)(E:XK)(e:Expr)(f:Ev->R (List D)):Prop:=∃t:TE,PE X e t/\AR X e t/\
 ∀P j b H d g (Q:VK),RS X.K P j b H d g->Aft X.K b E H (f g) (λi c=>∀p h,c p=none->jb X.K b c h i->Q (.ref p) (upd c p<|.lst h))->t d H Q
def tO.dn(h:tO X E e f):DN X E e f:=let⟨t,p,_,r⟩:=h;⟨t,p,r⟩
def Hs(hc:X.calm=true)(hi:DI X E F B S)(hg:∀V r G C,DG (X.comp A (Nt++Nc) cl V r G C) F l a)(hl:∀j∈l,j<tn)(hf:∀V r G C,so (X.comp A (Nt++Nc) cl V r G C) L O)
    (he:∀V r G C,DE (X.comp A (Nt++Nc) cl V r G C) (λ_ _ _=>False) M N)
    (hclos:closureFor A X.env=pure cl)(hkind:A.kind=.function)(hcell:pJ A)(T:qy A)(th:oE X cl Nc ci)(yS:Nt.length=tn)
    (hsub:∀x c,cl.lookup x=some c->X.env.cells.lookup x=some c)(hhas:∀x,((relabel A X.env).names.lookup x=some .cell\/(relabel A X.env).names.lookup x=some .free)->∃c,cl.lookup x=some c)
    (uA:∀x∈Nc,(relabel A X.env).names.lookup x=some .cell\/(relabel A X.env).names.lookup x=some .free)
    (hs:∀x,foldedSetIterable B X.env x=pure x):tO X E (.ListComp M [⟨F,B,L,0⟩] A U) (kA S tn ci a O N):=by
 obtain⟨wi,pi,ri⟩:=hi;refine⟨_,KG (te:=wE X.K (λ_ _ _=>False) N) (tc:=wT X.K (λ_ _ _=>False) O) (g:=wG X.K l a) hc pi (λV r G C=>(hg V r G C).w) hf (λV r G C=>(he V r G C).w) hclos hkind hcell T th yS hsub hhas uA hs,Xe (te:=wE X.K (λ_ _ _=>False) N) (tc:=wT X.K (λ_ _ _=>False) O) (g:=wG X.K l a) hc pi (λV r G C=>(hg V r G C).w) hf (λV r G C=>(he V r G C).w) hclos hkind hcell T th yS hsub hhas uA hs,λP H0 al H σ ρ Q s h=>ri _ _ _ _ _ _ _ s<|Aft.mono (Aft.split h) λY H1 s1 h1 J wk=>?_⟩;intro p hp;by_cases hz:Y.length<=sizeLine
 ·rw[av hz]at h1;cases q:l0 a O N (qu tn ci ρ) Y with
  |none=>rw[q]at h1;exact h1.elim
  |some out=>
   rw[q]at h1;have s2:=s.grow s1
   let k:Addr->Prop:=λb=>al b/\b≠p
   refine⟨λi m I=>∃e rest d,out=e++rest/\l0 a O N (qu tn ci ρ) (Y.drop i)=some rest/\I p=some (.lst d)/\jb X.K k I d e/\kX X.K H1 I/\(∀b,I b=none->k b)/\m=Y.length - i/\i<=Y.length/\e.length<=i,⟨_,[],out,[],rfl,q,kC,.nil,mj hp,λb hb=>?_,rfl,bQ _,ah _⟩,?_⟩
   ·have z:b≠p:=λw=>by rw[w,kC]at hb;cases hb
    rw[jB z]at hb;exact⟨s2.fresh b hb,z⟩
   ·rintro i m I ⟨e,rest,d,e1,e2,e3,e4,e5,e6,rfl,e7,e8⟩ _
    have Mv:Xt al H1 k I:=λb o n hb w=>⟨⟨hb,nc w hp⟩,e5.at' _ _ n w⟩;obtain⟨w1,w2⟩:=wk k I Mv e6;by_cases hi:i<Y.length
    ·right;have ed:Y[i]?=some Y[i]:=ao hi;obtain⟨go,yl⟩:=w1 i _ ed;refine⟨go,λx G y=>?_⟩;obtain⟨rfl,rx⟩:=yl x G y;rw[c5 hi]at e2;unfold l0 at e2;obtain⟨Fe,a1,a2⟩:=aL.mp e2;obtain⟨b,a3,a4⟩:=aL.mp a2;refine⟨al,H1,k,qu tn ci ρ,Y[i],aan s2 Mv e5 e6 (λ_ z=>z.1) tn ci,rx,Fe,a1,λσ2 kp r=>⟨⟨?_,λj hj=>kp.2 j λw=>absurd (hl j w)<|by omega⟩,al,H1,k,Fe,r,?_⟩⟩;·rw[kp.1,yd]
     ·rw[Kf a3];intro H5 Z;cases b with
      |false=>rw[aw ax]at a4⊢;exact⟨Y.length - (i+1),by omega,e,rest,d,e1,a4,Z.at' _ _ oo e3,e4.up Z,e5.trans Z,λb hb=>e6 b<|Z.free hb,rfl,hi,by omega⟩
      |true=>
       rw[av rfl]at a4⊢;obtain⟨v,a5,a6⟩:=aL.mp a4;obtain⟨vs,a7,a8⟩:=aL.mp a6;cases a8;refine⟨al,H1,k,Fe,r.grow Z,?_⟩;rw[Kf a5];intro H6 s6 u ru;have Bn:=s6.at' _ _ oo (Z.at' _ _ oo e3);have x6:Xt k H6 k (upd H6 p (.lst (d++[u]))):=λc o _ hc w=>⟨hc,by rw[jB hc.2];exact w⟩;refine⟨d,Bn,by rw[e4.length];omega,Y.length - (i+1),by omega,e++[v],vs,d++[u],by rw[e1];simp,a7,kC,((((e4.up Z).up s6).append (.cons ru .nil)).mv x6),?_,λc hc=>?_,rfl,hi,by rw[ar];simp;omega⟩
       ·exact⟨λc o n w=>by
         rw[jB<|nc w hp];exact s6.at' _ _ n (Z.at' _ _ n<|e5.at' _ _ n w),λc w=>by
         by_cases z:c=p;· rw[z];exact hp
         · rw[jB z]at w;exact e5.fr c (Z.fr c (s6.fr c w)),λt=>(s6.tt (Z.tt (e5.tt t))).upd (zd Bn).1 (zd Bn).2⟩
       ·have z:c≠p:=λw=>by rw[w,kC]at hc;cases hc
        rw[jB z]at hc;exact e6 c (Z.free<|s6.free hc)
    ·left;have ei:i=Y.length:=by omega
     rw[dF<|by omega]at e2;cases e2;rw[bg]at e1;subst e1;refine⟨w2 i<|by omega,?_⟩
     let H':Hp:=λb=>if b=p then none else I b
     have hH:upd H' p (.lst d)=I:=by
      funext b;by_cases z:b=p;·subst z;rw[kC,e3]
      ·rw[jB z];show(if b=p then none else I b)=_;rw[aw z]
     have sm:kX X.K H1 H':=⟨λb o n w=>by
      show(if b=p then none else I b)=_;rw[aw<|nc w hp];exact e5.at' _ _ n w,λb w=>by
      by_cases z:b=p;· rw[z];exact hp
      · have w':(if b=p then none else I b)=none:=w;rw[aw z]at w';exact e5.fr b w',λt=>(e5.tt t).off (zd e3).1 (zd e3).2 λb z=>by show(if b=p then none else I b)=_;rw[aw z]⟩
     rw[<-hH];refine h1 H' sm p d (by show(if p=p then none else I p)=_;rw[av rfl]) (e4.mv λb o _ hb w=>⟨hb.1,?_⟩);show(if b=p then none else I b)=_;rw[aw hb.2];exact w
 ·rw[aw hz]at h1;exact h1.elim
def Ht(I:X.calm=true)(u:DI X E F B S)(v:∀m i o C,DG (X.comp A Nt [] m i o C) F l a)(t:∀j∈l,j<tn)(hf:∀m i o C,so (X.comp A Nt [] m i o C) L O)
 (G:∀m i o C,DE (X.comp A Nt [] m i o C) (λ_ _ _=>False) M N)
 (b:∀y∈A.names,y.2≠.free)(h:A.kind=.function)(d:pJ A)(g:qy A)(p:Nt.length=tn)
 (r:∀x,foldedSetIterable B X.env x=pure x):tO X E (.ListComp M [⟨F,B,L,0⟩] A U) (kA S tn [] a O N):=by
  have e:relabel A X.env=A:=by
   have:A.names.map (λ(n,k)=>if(k==NameKind.free&&X.env.scope.kind==.function&&X.env.kindOf n==some .cell)then(n,NameKind.cell)else(n,k))=A.names:=by
    refine map_eq_self λy q=>?_;obtain⟨n,k⟩:=y;have:(k==NameKind.free)=false:=by simpa using b _ q
    simp[this]
   unfold relabel;rw[this]
  refine Hs (cl:=[]) (Nc:=[]) (ci:=[]) I u (by rw[bg];exact v) t (by rw[bg];exact hf) (by rw[bg];exact G) (closureFor_none b) h d g .nil p (λx c z=>nomatch z) (λx z=>?_) (λx z=>nomatch z) r;rw[e]at z;rcases z with z|z;·exact absurd rfl (d _<|bC z)
  ·exact absurd rfl (b _<|bC z)
def rJ(r:X.calm=true)(o:DI X E F B S)(p:∀h g i C,DG (X.comp A Nt [] h g i C) F l a)(n:∀j∈l,j<tn)(hf:∀h g i C,so (X.comp A Nt [] h g i C) L O)
 (q:∀h g i C,DE (X.comp A Nt [] h g i C) (λ_ _ _=>False) M N)
 (d:∀y∈A.names,y.2≠.free)(c:A.kind=.function)(e:pJ A)(b:qy A)(k:Nt.length=tn)
 (m:∀x,foldedSetIterable B X.env x=pure x:=by intro _;rfl):DN X E (.ListComp M [⟨F,B,L,0⟩] A U) (kA S tn [] a O N):=(Ht r o p n hf q d c e b k m).dn
def xH(x:Str):It:=⟨λi _=>i<x.cps.size,λi H v b=>b=H/\∃c,x.cps[i]?=some c/\v=.str ⟨#[c]⟩,λi _=>x.cps.size<=i⟩
def ab6{P:Program}{w:World}{K:W.Frag}{F:Expr}(x:Str)(t:Tok)(p:Addr):Turn P w K F (xH x) [p] p (λi h=>h.IsStrIter p "str_ascii_iterator" x t i) where
 mem:=by simp
 obj:=λi h j b q=>by
  have e:b=p:=by simpa using q
  subst e;obtain⟨o,e,c,d⟩:=j;exact⟨o,e,λv z=>by rw[d]at z;cases z⟩
 keep:=λi h y j k=>let⟨o,ho,r⟩:=j;⟨o,k p (by simp) o ho,r⟩
 item:=by intro X J C Q g i n s σ H E I hf j G;subst J C Q;obtain⟨f0,Z,f2,Y,V,T⟩:=hf p (by simp);have m:i<x.cps.size:=G;refine wpAny_pyNext_ascii_item j (c:=x.cps[i]) (by simp[m]) λy u sb=>?_;have I1:Inv X n σ H {s with heap:=y,toks:=s.toks+1}:=I.turned (λb o q e=>(sb.2 b q).trans e) f0 Z Y V T;obtain⟨o,e,c,d⟩:=id u;exact⟨_,rfl,td (s:={s with heap:=y,toks:=s.toks+1}) e c d (by decide) ⟨.str ⟨#[x.cps[i]]⟩,H,I1,⟨_,rfl⟩,⟨rfl,x.cps[i],by simp[m],rfl⟩,u,λb q=>(hf b q).1⟩⟩
 done:=by intro X J C Q g i n s σ H E I hf j G;subst J C Q;obtain⟨f0,Z,f2,Y,V,T⟩:=hf p (by simp);have m:x.cps.size<=i:=G;exact wpAny_pyNext_ascii_end (I.ok.hd g) j (by simp[m]) λy eb=>⟨rfl,I.turned (t':=s.toks) (λb o q e=>eb b o q e) f0 Z Y V T⟩
 self:=λ_ _ _ _ _ j h=>wpAny_pyIter_striter_ascii j h
def acd{P:Program}{w:World}{K:W.Frag}{F:Expr}(x:Str)(t:Tok)(p:Addr):Turn P w K F (xH x) [p] p (λi h=>h.IsStrIter p "str_iterator" x t i) where
 mem:=by simp
 obj:=λi h j b q=>by
  have e:b=p:=by simpa using q
  subst e;obtain⟨o,e,c,d⟩:=j;exact⟨o,e,λv z=>by rw[d]at z;cases z⟩
 keep:=λi h y j k=>let⟨o,ho,r⟩:=j;⟨o,k p (by simp) o ho,r⟩
 item:=by intro X J C Q g i n s σ H E I hf j G;subst J C Q;obtain⟨f0,Z,f2,Y,V,T⟩:=hf p (by simp);have m:i<x.cps.size:=G;refine wpAny_pyNext_wide_item j (c:=x.cps[i]) (by simp[m]) λy u sb=>?_;have I1:Inv X n σ H {s with heap:=y,toks:=s.toks+1}:=I.turned (λb o q e=>(sb.2 b q).trans e) f0 Z Y V T;obtain⟨o,e,c,d⟩:=id u;exact⟨_,rfl,td (s:={s with heap:=y,toks:=s.toks+1}) e c d (by decide) ⟨.str ⟨#[x.cps[i]]⟩,H,I1,⟨_,rfl⟩,⟨rfl,x.cps[i],by simp[m],rfl⟩,u,λb q=>(hf b q).1⟩⟩
 done:=by intro X J C Q g i n s σ H E I hf j G;subst J C Q;obtain⟨f0,Z,f2,Y,V,T⟩:=hf p (by simp);have m:x.cps.size<=i:=G;exact wpAny_pyNext_wide_end (I.ok.hd g) j (by simp[m]) λy eb=>⟨rfl,I.turned (t':=s.toks) (λb o q e=>eb b o q e) f0 Z Y V T⟩
 self:=λ_ _ _ _ _ j h=>wpAny_pyIter_striter_wide j h
variable{e:Expr}{f:jw}
def Rt(c:TE):TI:=λb H R=>c b H λx d=>∃z,x=.str z/\R (xH z) d
def WN{l:Expr}{k:TE}(y:PE X l k):PI X F l (Rt k):=by
 intro d s p H R I h;refine ji (y d s p H _ I h) λv c i=>?_;obtain⟨x,j,g,r,u⟩:=i;obtain⟨z,e,q⟩:=u;subst e;obtain⟨t,rfl⟩:=r;have n:∀b∈[c.heap.objs.size],ry X d j b:=λb C=>by
  have e:b=c.heap.objs.size:=by simpa using C
  subst e;exact g.uw (ah _) (g.hok.fresh<|ah _)
 cases m:z.cps.all (· <128)with
 |true=>refine wpAny_pyIter_ascii m ?_;exact⟨c.heap.objs.size,[c.heap.objs.size],_,_,j,rfl,g.kept (t':=c.toks) λb o e=>ag _ e,ab6 z t _,⟨_,aG _ rfl,rfl,rfl⟩,n,q⟩
 |false=>refine wpAny_pyIter_wide m ?_;exact⟨c.heap.objs.size,[c.heap.objs.size],_,_,j,rfl,g.kept (t':=c.toks) λb o e=>ag _ e,acd z t _,⟨_,aG _ rfl,rfl,rfl⟩,n,q⟩
def signs(z:Str):List D:=z.cps.toList.map λc=>.str ⟨#[c]⟩
def aco{K:W.Frag}{k:Addr->Prop}{H:Hp}{z:Str}:Wk K k H (xH z) (signs z):=by
 intro j o x fr;refine⟨λi d h=>?_,λi h=>?_⟩
 ·unfold signs at h;rw[aA,bc]at h;cases q:z.cps[i]? with
  |none=>rw[q]at h;cases h
  |some c=>rw[q]at h;cases h;refine⟨(br.mp q).1,λy m w=>⟨w.1,?_⟩⟩;obtain⟨n,b,g⟩:=w.2;rw[q]at b;cases b;subst g;exact .str _
 ·unfold signs at h;show z.cps.size<=i;simpa using h
def kd(d:D):R (List D):=match d with
 |.lst ds=>.ok ds
 |.tup ds=>.ok ds
 |.str z=>.ok (signs z)
 |_=>.bad
def mI(u:DE X E e f):DI X E F e (λj=>(f j).bind kd):=by
 obtain⟨t,p,r⟩:=u;refine⟨_,KQ (WK p)<|KQ (WO p)<|WN p,λP I G H y j R s h=>?_⟩;dsimp only at h;cases q:f j with
 |bad=>rw[q]at h;exact h.elim
 |ex c C o=>rw[q]at h;exact .inl (r _ _ _ _ _ _ _ s<|by rw[q];exact h)
 |ok d=>
  rw[q]at h;cases d with
  |lst o=>left;refine r _ _ _ _ _ _ _ s ?_;rw[q];intro i g v b;obtain⟨a,k,n,m,x⟩:=b.qz;subst n;exact⟨a,rfl,⟨k,m⟩,h i g _<|acm b⟩
  |tup o=>right;left;refine r _ _ _ _ _ _ _ s ?_;rw[q];intro i g v b;obtain⟨a,k,n,m,x⟩:=b.rm;subst n;exact⟨a,rfl,⟨k,m⟩,h i g _<|acp b⟩
  |str z=>right;right;refine r _ _ _ _ _ _ _ s ?_;rw[q];intro i g v b;cases b;exact⟨z,rfl,h i g _ aco⟩
  |_=>exact(h:False).elim
def tyName:D->Option String
 |.non=>some "NoneType"
 |.bl _=>some "bool"
 |.int _=>some "int"
 |.str _=>some "str"
 |.lst _=>some "list"
 |.tup _=>some "tuple"
 |_=>none
def uD:List String:=["NoneType","bool","int","str","list","tuple"]
def SA(K):∀T∈uD,∀n∈uD,W.kitOne K (.type T) (.type n)=some (T==n||(T=="bool"&&n=="int")):=by intro T hT n b;simp only[uD,aE,bU,dU]at hT b;rcases hT with rfl|rfl|rfl|rfl|rfl|rfl<;>rcases b with rfl|rfl|rfl|rfl|rfl|rfl<;>first|rfl|kernel_rfl
def isD:jf
 |[d,.ty n]=>match tyName d with
  |some T=>if uD.contains n then .ok (.bl<|T==n||(T=="bool"&&n=="int"))else .bad
  |none=>.bad
 |_=>.bad
def ZY(X:Cx):List V->Hp->VK->Prop:=λd H Q=>∃x n T,d=[x,.ty n]/\uD.contains T=true/\uD.contains n=true/\
 ((x=.non/\T="NoneType")\/(∃b,x=.bl b/\T="bool")\/(∃i,x=.int i/\T="int")\/(∃z,x=.str z/\T="str")\/(∃a c,x=.ref a/\k7 X.K H a c/\T="list")\/(∃a c,x=.ref a/\mF X.K H a c/\T="tuple"))/\Q (.bl<|T==n||(T=="bool"&&n=="int")) H
def Od:mZ X (.builtin "isinstance") (ZY X):=by
 intro j s G H xs us Q I r h;obtain⟨x,n,T,rfl,Z,Y,hx,q⟩:=h;obtain⟨u,c,rfl,g,V⟩:=vals2 r;cases V;have e:=SA X.K T (by simpa using Z) n (by simpa using Y);have d:∀tk,EP X j G Q (.bool<|T==n||(T=="bool"&&n=="int")) {s with toks:=tk}:=λtk=>⟨.bl _,H,I.tok tk,rfl,q⟩;rcases hx with⟨rfl,rfl⟩|⟨b,rfl,rfl⟩|⟨i,rfl,rfl⟩|⟨z,rfl,rfl⟩|⟨a,J,rfl,v,rfl⟩|⟨a,J,rfl,v,rfl⟩;·cases g;exact fV W.kitx_none I.l5 True.intro e (λz=>nomatch z) d
 ·cases g;exact fV W.kitx_bool I.l5 True.intro e (λz=>nomatch z) d
 ·obtain⟨t,rfl⟩:=g;exact fV W.kitx_int I.l5 True.intro e (λz=>nomatch z) d
 ·obtain⟨t,rfl⟩:=g;exact fV W.kitx_str I.l5 True.intro e (λz=>nomatch z) d
 ·cases g;obtain⟨p,_,m,_⟩:=I.list v;obtain⟨o,k,C,y,_⟩:=m;exact fV W.kitx_list I.l5 ⟨o,C,y⟩ e (λz=>nomatch z) d
 ·cases g;obtain⟨p,_,m,_⟩:=I.tuple v;obtain⟨o,C,y,_⟩:=m;exact fV W.kitx_tuple I.l5 ⟨o,C,y⟩ e (λz=>nomatch z) d
def Of:vn X E (.builtin "isinstance") isD:=by
 refine⟨_,Od,λm H j k Q fr r h=>?_⟩;unfold isD at h;split at h
 ·rename_i d n;obtain⟨v,u,rfl,q,i⟩:=jb.two r;cases i;cases e:tyName d with
  |none=>rw[e]at h;exact h.elim
  |some T=>
   rw[e]at h;dsimp only at h;split at h
   ·rename_i g;have c:=h H (.refl H) _ (.bl _);cases q with
    |non=>cases e;exact⟨_,n,_,rfl,rfl,g,.inl ⟨rfl,rfl⟩,c⟩
    |bl b=>cases e;exact⟨_,n,_,rfl,rfl,g,.inr<|.inl ⟨b,rfl,rfl⟩,c⟩
    |int b=>cases e;exact⟨_,n,_,rfl,rfl,g,.inr<|.inr<|.inl ⟨b,rfl,rfl⟩,c⟩
    |str b=>cases e;exact⟨_,n,_,rfl,rfl,g,.inr<|.inr<|.inr<|.inl ⟨b,rfl,rfl⟩,c⟩
    |lst p _=>cases e;exact⟨_,n,_,rfl,rfl,g,.inr<|.inr<|.inr<|.inr<|.inl ⟨_,_,rfl,p.elim (λz=>.inl z.2) KL.sq,rfl⟩,c⟩
    |tup p _=>cases e;exact⟨_,n,_,rfl,rfl,g,.inr<|.inr<|.inr<|.inr<|.inr ⟨_,_,rfl,p.elim (λz=>.inl<|.inl z.2) .inr,rfl⟩,c⟩
    |_=>cases e
   ·exact h.elim
 ·exact h.elim
def GQ:bootBuiltins "isinstance"=some (.builtin "isinstance"):=by decide+kernel
def rE:bootBuiltins "len"=some (.builtin "len"):=by decide+kernel
def yb:bootBuiltins "abs"=some (.builtin "abs"):=by decide+kernel
def N7:bootBuiltins "int"=some (.type "int"):=by decide+kernel
def N6:bootBuiltins "bool"=some (.type "bool"):=by decide+kernel
variable{x:Str}
inductive FE(mg:kl)(x:Str):D->Prop
 |int {i:Int} {t:Tok}:mg x=some (.int i t)->FE mg x (.int i)
 |str {z:Str} {t:Tok}:mg x=some (.str z t)->FE mg x (.str z)
end P2
namespace Fx
open PySem
variable{c:Program}{w:World}{A:Around}{E:jW}{h:Heap}{g:Array GenState}{d:Drawn}{t:Nat}{f:OsState}
variable{l q:Str}{C N:Addr}{bs e B:List Value}{b:Bool}{j:List Str}{sub:List Value}{z:Bool}{i:Option Bool}{dd:Option Addr}{y v r p m:Option Value}{a:String}
def OD{R:Result->Shared->Prop}(G:h.get? C=some (excClassObj l q C N bs e b j sub z i dd y v r p m a))(k:e.contains (.type "object")=true)
 (D:h.get? x=some o)(F:o.cls=.ref C)(I:R (.ok<|.ret<|.ref C) ⟨h,g,d,t,f⟩):
   codeAny (model c w) A (.call (.builtin "getset_descriptor.__get__") ⟨[.builtin "object.__class__",.ref x,.ref C],[]⟩) R ⟨h,g,d,t,f⟩:=by
  have u:(⟨h,g,d,t,f⟩:Shared).TypeIs (.builtin "object.__class__") "getset_descriptor":=dM;have ow:".".intercalate ("object.__class__".cutAt '.').dropLast="object":=by decide+kernel
  have n:(Value.ref C::e).contains (.type<|".".intercalate ("object.__class__".cutAt '.').dropLast)=true:=by rw[ow,List.contains_cons,k,Bool.or_true]
  refine dW PySem.F.slot_gs_get.plain PySem.F.entry_gs_get (PySem.F.slot_gs_get.check _ _ _ _ _ _ _ _ u (PySem.F.args_gs_get _ _ _) ?_);repeat(any_goals(first|assumption|(with_reducible refine dN D ?_;rw[F])|(with_reducible refine wpAny_isSubtype_exc G ?_;rw[n])|wp_step))
  refine⟨fY _<|by decide+kernel,b7 PySem.F.entry_object_class ?_⟩;repeat(any_goals(first|assumption|(with_reducible refine dN D ?_;rw[F])|wp_step))
def OC{Q:Fin->Shared->Prop}(G:h.get? C=some (excClassObj l q C N bs e b j sub z i dd y v r p m a))(k:e.contains (.type "object")=true)
 (D:rB h C "__class__"<|some<|.builtin "object.__class__")(n:h.get? x=some o)(u:o.cls=.ref C)(I:Q (.done<|.ret<|.ref C) ⟨h,g,d,t,f⟩):
   wpAny (model c w) A (Builtin.«object.__getattribute__» ⟨[.ref x,.str "__class__" tk],[]⟩) Q E ⟨h,g,d,t,f⟩:=by
  have F:(⟨h,g,d,t,f⟩:Shared).TypeIs (.builtin "object.__class__") "getset_descriptor":=dM;have M:=dM;have L:=PySem.F.slot_gs_get.lookup;have J:=PySem.F.slot_gs_set.lookup;repeat(any_goals(first|assumption|(with_reducible refine dN n ?_;rw[u])|with_reducible refine D _ _ _ _ _ _ _ _ ?_|wp_step))
  refine OD G k n u ?_;repeat(any_goals(first|assumption|wp_step))
def Om{Q:Unit->Shared->Prop}(J:h.get? C=some (excClassObj l q C N bs e b j sub z i dd y v r p m a))
 (n:e.contains (.type "BaseException")=true)(D:h.get? x=some o)(I:o.cls=.ref C)(F:Q () ⟨h,g,d,t,f⟩):wpAny M A (checkBuiltinCall "BaseException.__getattribute__" ⟨[.ref x,nv],[]⟩) Q E ⟨h,g,d,t,f⟩:=by
  have G:builtinKind "BaseException.__getattribute__"=some .slot:=by decide+kernel
  have k:splitId "BaseException.__getattribute__"=some ("BaseException","__getattribute__"):=by decide+kernel
  have u:(Value.ref C::e).contains (.type "BaseException")=true:=by rw[List.contains_cons,n,Bool.or_true]
  have L:=PySem.F.args_bexc_ga (.ref x) nv;simp only[checkBuiltinCall,G,k];refine ae ?_;unfold isInstance;repeat(first|(with_reducible refine dN D ?_;rw[I])|(with_reducible refine wpAny_isSubtype_exc J ?_;rw[u])|wp_step)
  exact F
def OB{Q:jW}(D:h.get? C=some (excClassObj l q C N bs e b j sub z i dd y v r p m a))(L:e.contains (.type "BaseException")=true)(n:e.contains (.type "object")=true)
 (J:rB h C "__getattribute__"<|some<|.builtin "BaseException.__getattribute__")(I:rB h C "__getattr__" none)(G:rB h C "__class__"<|some<|.builtin "object.__class__")(k:h.get? x=some o)(u:o.cls=.ref C)(O:Q (.ref C) ⟨h,g,d,t,f⟩):
   wpAny (model c w) A (getAttrBy (.ref x) (.str "__class__" tk) false) Q E ⟨h,g,d,t,f⟩:=by
  have F:=PySem.F.attr_ValueError;have R:=F.ga.bind (.ref x);have z2:(Value.builtin "BaseException.__getattribute__"==Value.builtin "object.__getattribute__")=false:=by decide+kernel
  have M:(onTheHeap (Value.ref C)&&Value.builtin "BaseException.__getattribute__"==Value.builtin "object.__getattribute__")=false:=by rw[z2];rfl
  repeat(any_goals(first|assumption|(with_reducible refine dN k ?_;rw[u])|with_reducible refine J _ _ _ _ _ _ _ _ ?_|with_reducible refine I _ _ _ _ _ _ _ _ ?_|wp_step))
  refine dW F.ga.plain PySem.F.entry_bexc_ga (Om D L k u<|OC D n G k u ?_);repeat(any_goals(first|assumption|wp_step))
def OA{Q:Option Value->Shared->Prop}(J:h.get? C=some (excClassObj l q C N bs e b j sub z i dd y v r p m a))(I:e.contains (.type "BaseException")=true)(k:e.contains (.type "object")=true)
 (D:rB h C "__getattribute__"<|some<|.builtin "BaseException.__getattribute__")(u:rB h C "__getattr__" none)(n:rB h C "__class__"<|some<|.builtin "object.__class__")(F:h.get? x=some o)(G:o.cls=.ref C)(L:Q (some<|.ref C) ⟨h,g,d,t+1,f⟩):
   wpAny (model c w) A (getAttr? (.ref x) "__class__") Q E ⟨h,g,d,t,f⟩:=by
  unfold getAttr? getAttrBy?;repeat(any_goals(first|assumption|with_reducible apply OB J I k D u n F G|wp_step))
end Fx
namespace L2
open PySem PySem.Spec PyProof.Rows
structure xS(K:W.Frag)(C:Addr):Prop where
 ob:∀h:Heap,K.In h->∃nm q N bs bm Qz sn sub ab col dd k0 k1 k2 k3 k5 newId,h.get? C=some (excClassObj nm q C N bs bm Qz sn sub ab col dd k0 k1 k2 k3 k5 newId)/\bm.contains (.type "BaseException")=true/\bm.contains (.type "object")=true
 ga:W.findIn K (.ref C) "__getattribute__"=some (some<|.builtin "BaseException.__getattribute__")
 gn:W.findIn K (.ref C) "__getattr__"=some none
 cl:W.findIn K (.ref C) "__class__"=some (some<|.builtin "object.__class__")
structure F8(K:W.Frag)(C:Addr):Prop where
 cls:W.excIn K C [.type "ValueError",.type "Exception",.type "BaseException",.type "object"] "ValueError.__new__"=true
 kp:W.keepIn K (.ref C)=true
 ga:W.findIn K (.ref C) "__getattribute__"=some (some<|.builtin "BaseException.__getattribute__")
 gn:W.findIn K (.ref C) "__getattr__"=some none
 cl:W.findIn K (.ref C) "__class__"=some (some<|.builtin "object.__class__")
def SD{K:W.Frag}{x C:Addr}(c:xS K C):W.KitX K (.ref x) (.ref C) (λh=>∃o,h.get? x=some o/\o.cls=.ref C) where
 ty:=λM h k p=>by obtain⟨o,m,l⟩:=p;exact l▸(W.Looks.ld m).andThen .now
 it:=λM h k p=>by obtain⟨y,q,N,bs,L,a,u,sub,O,i,dd,J,I,G,F,D,B,b,_⟩:=c.ob h k;intro A' Q' E' s' T S;unfold isType loadHead;exact ae (wpAny_loadPart (T _ _ b)<|af S)
 ne:=λh R dd U n Z k j=>by obtain⟨y,q,N,bs,L,a,u,sub,O,i,r,J,I,G,F,D,B,b,_⟩:=c.ob h k;refine Bool.eq_false_iff.mpr λz=>?_;have e:C=R:=Value.ref.inj (dR.mp z);subst e;have z:=bG Obj.cls (Option.some.inj<|b.symm.trans j);have z2:Value.type "type"=Value.type "tuple":=z;exact absurd (Value.type.inj z2) (by decide)
 ca:=λ{v w A E Q s} k p V=>by obtain⟨o,m,l⟩:=p;obtain⟨y,q,N,bs,L,a,u,sub,O,i,r,J,I,G,F,D,B,b,Y,X⟩:=c.ob _ k;obtain⟨h,g,d,t,os⟩:=s;exact Fx.OA b Y X (EI k c.ga) (EI k c.gn) (EI k c.cl) m l V
variable{X:Cx}
def Oe:mZ X (.builtin "isinstance") (λi H Q=>∃a c d g u b,i=[.ref a,g]/\H a=some (yt a c d)/\xS X.K c/\(∀z,RelV g z->z=u)/\W.kitOne X.K (.ref c) u=some b/\Q (.bl b) H):=by intro j s x H i B Q I r h;obtain⟨a,c,d,g,u,b,rfl,p,k,un,e,q⟩:=h;obtain⟨C,l,rfl,n,m⟩:=vals2 r;cases un l m;cases n;obtain⟨⟨o,y,v,t,F,D⟩,_,_⟩:=I.hok a _ p;exact fV (SD k) I.l5 ⟨o,v,t⟩ e (λz=>nomatch z) λtk=>⟨.bl b,H,I.tok tk,rfl,q⟩
end L2
namespace P2
open PySem L2 PySem.Spec
open PyProof.Rows hiding St
section
variable{X:Cx}{E:XK}{x:Str}{e:Pos}
def Oj(h:mZ X f r)(i:mZ X f r'):mZ X f (λb H Q=>r b H Q\/r' b H Q):=
 λa s c H b d Q I g q=>q.elim (h a s c H b d Q I g) (i a s c H b d Q I g)
def G5:D->Option Value
 |.ref C=>some (.ref C)
 |.ty T=>some (.type T)
 |_=>none
def pE(q:Addr->Value->Option Bool)(a:List D):R D:=match a with
 |[.exc c _ _,d]=>(match(G5 d).bind (q c)with
  |some b=>.ok (.bl b)
  |none=>.bad)
 |a=>isD a
def xF(K:W.Frag)(q:Addr->Value->Option Bool):Prop:=∀c u b,q c u=some b->xS K c/\W.kitOne K (.ref c) u=some b
def GW(D:xF X.K q):vn X E (.builtin "isinstance") (pE q):=by
 obtain⟨L,I,G⟩:=Of (X:=X) (E:=E);refine⟨_,Oj Oe I,λJ H n F Q fr r h=>?_⟩;unfold pE at h;split at h
 ·rename_i c S U d;obtain⟨v,u,rfl,p,g⟩:=jb.two r;left;cases z:(G5 d).bind (q c)with
  |none=>rw[z]at h;exact h.elim
  |some b=>
   rw[z]at h;have B:=h H (.refl H) _ (.bl _);obtain⟨w,i,z2⟩:=aL.mp z;obtain⟨m,t⟩:=D _ _ _ z2;have j:∃a k,v=.ref a/\H a=some (yt a c k):=by
    cases p with
    |exc o g R O M=>exact⟨_,_,rfl,g⟩
    |vO o g=>exact⟨_,_,rfl,g⟩
   obtain⟨a,k,rfl,j⟩:=j;refine⟨a,c,k,u,w,b,rfl,j,m,λy l=>?_,t,B⟩;cases g with
   |ref C=>cases i;exact l
   |ty T=>cases i;exact l
   |_=>cases i
 ·exact .inr (G J H n F Q fr r h)
mutual
def mT:D->Option PyData
 |.non=>some .none
 |.bl b=>some (.bool b)
 |.int i=>some (.int i)
 |.str z=>some (.str z)
 |.tup ds=>(lA ds).map .tuple
 |.lst ds=>(lA ds).map .list
 |_=>none
def lA:List D->Option (List PyData)
 |[]=>some []
 |d::a=>(mT d).bind λp=>(lA a).map (p:: ·)
end
mutual
theorem uR{s}(I:Inv X pins σ H s):∀{v} {d} {u} {p},Rep X.K al H v d->RelV v u->mT d=some p->∃a,Reads s.heap u p a
 |_,_,_,_,.non,r,e=>by cases r;cases e;exact⟨_,.none⟩
 |_,_,_,_,.bl b,r,e=>by cases r;cases e;exact⟨_,.bool _⟩
 |_,_,_,_,.int b,r,e=>by obtain⟨t,rfl⟩:=r;cases e;exact⟨_,.int _ _⟩
 |_,_,_,_,.str b,r,e=>by obtain⟨t,rfl⟩:=r;cases e;exact⟨_,.str _ _⟩
 |_,_,_,_,.ty b,r,e=>by cases e
 |_,_,_,_,.ref b,r,e=>by cases e
 |_,_,_,_,.tup (vs:=vs) z q,r,e=>by cases r;have l:(lA _).map PyData.tuple=some _:=e;obtain⟨x,k,rfl⟩:=aF.mp l;have c:mF X.K H _ vs:=z.elim (λz=>.inl<|.inl z.2) .inr;obtain⟨h,g,⟨o,j,i,n,m⟩,_⟩:=I.tuple c;obtain⟨a,w⟩:=Dz I q g k;exact⟨a,reads_tuple_at j i m<|by simpa using w⟩
 |_,_,_,_,.lst (vs:=vs) z q,r,e=>by cases r;have l:(lA _).map PyData.list=some _:=e;obtain⟨x,k,rfl⟩:=aF.mp l;have c:k7 X.K H _ vs:=z.elim (λz=>.inl z.2) KL.sq;obtain⟨h,g,⟨o,n,j,i,m,y⟩,_⟩:=I.list c;obtain⟨a,w⟩:=Dz I q g k;exact⟨_,reads_list_at j i y<|by simpa using w⟩
 |_,_,_,_,.exc _ _ _ _ _,r,e=>by cases e
 |_,_,_,_,.vO _ _,r,e=>by cases e
theorem Dz{s}(I:Inv X pins σ H s):∀{b} {d} {c} {a},jb X.K al H b d->Vals b c->lA d=some a->∃g,ReadsAll s.heap c a g
 |_,_,_,_,.nil,r,e=>by cases r;cases e;exact⟨_,.nil⟩
 |_,_,_,_,.cons p q,r,e=>by
  cases r with
  |cons k j=>obtain⟨o,n,m⟩:=aL.mp e;obtain⟨a,l,rfl⟩:=aF.mp m;obtain⟨g,i⟩:=uR I p k n;obtain⟨bs,h⟩:=Dz I q j l;exact⟨_,.cons i h⟩
end
def qV(a b:D):Option Bool:=(mT a).bind λp=>(mT b).bind λq=>if(SeqAt.shaped p&&SeqAt.shaped q)=true then some (PyData.eqv p q)else none
def m8(a b:D):R D:=match qV a b with
 |some r=>.ok (.bl r)
 |none=>.bad
def mS(a b:D):R D:=match qV a b with
 |some r=>.ok (.bl<|!r)
 |none=>.bad
def HR{c:List<|Addr×Obj}{i:L2.St}{H:Hp}{s:Shared}(I:Inv X c i H s){h:Addr->Prop}{x y:V}{a b:D}{u v:Value}{r:Bool}(o:Rep X.K h H x a)(n:Rep X.K h H y b)(m:RelV x u)(l:RelV y v)(e:qV a b=some r):
    ∃p q g bs,Reads s.heap u p g/\Reads s.heap v q bs/\SeqAt.shaped p=true/\SeqAt.shaped q=true/\PyData.eqv p q=r:=by
 obtain⟨p,C,B⟩:=aL.mp e;obtain⟨q,t,d⟩:=aL.mp B;split at d
 ·rename_i z;rw[aS]at z;obtain⟨g,k⟩:=uR I o m C;obtain⟨bs,j⟩:=uR I n l t;exact⟨p,q,g,bs,k,j,z.1,z.2,Option.some.inj d⟩
 ·cases d
def zw(t:X.A.units+64<cLine):lr X E (compareOp .Eq) m8:=by
 refine⟨λx y H Q=>∃c a b r,Rep X.K c H x a/\Rep X.K c H y b/\qV a b=some r/\Q (.bl r) H,λg s F H x y v u Q I e d h=>?_,λc H x y j i Q fr e d h=>?_⟩
 ·obtain⟨c,a,b,r,D,C,B,z⟩:=h;obtain⟨p,q,G,bs,o,n,m,l,k⟩:=HR I D C e d B;exact eq_dataH o n m l t (by rw[k];exact⟨.bl r,H,I,rfl,z⟩)
 ·unfold m8 at h;cases q:qV j i with
  |none=>rw[q]at h;exact h.elim
  |some r=>rw[q]at h;exact⟨c,j,i,r,e,d,q,h H (.refl H) _<|.bl r⟩
def wF(t:X.A.units+64<cLine):lr X E (compareOp .NotEq) mS:=by
 refine⟨λx y H Q=>∃c a b r,Rep X.K c H x a/\Rep X.K c H y b/\qV a b=some r/\Q (.bl<|!r) H,λg s F H x y v u Q I e d h=>?_,λc H x y j i Q fr e d h=>?_⟩
 ·obtain⟨c,a,b,r,D,C,B,z⟩:=h;obtain⟨p,q,G,bs,o,n,m,l,k⟩:=HR I D C e d B;exact ne_dataH o n m l t (by rw[k];exact⟨.bl (!r),H,I,rfl,z⟩)
 ·unfold mS at h;cases q:qV j i with
  |none=>rw[q]at h;exact h.elim
  |some r=>rw[q]at h;exact⟨c,j,i,r,e,d,q,h H (.refl H) _<|.bl<|!r⟩
end
section
variable{X:Cx}{E:XK}{m e h:Expr}{f:List Expr}{b:Scope}{o:Pos}{r:Ev->R (List D)}{l:List Nat}{a:D->Ev->Option Ev}{A:Ev->R Bool}{v:jw}{tn:Nat}{Nt:List Str}
def Hu(i nm)(Z:X.calm=true)(U:DI X E m e r)(V:∀J u L C,DG (X.comp b (Nt++[x]) [(x,c)] J u L C) m l a)(S:∀j∈l,j<tn)(hf:∀J u L C,so (X.comp b (Nt++[x]) [(x,c)] J u L C) f A)
 (Y:∀J u L C,DE (X.comp b (Nt++[x]) [(x,c)] J u L C) (λ_ _ _=>False) h v)
 (k:b.kind=.function)(t:pJ b)(g:qy b)(M:Nt.length=tn)
 (hN:X.N[i]?=some x)(T:X.env.kindOf x=some .cell)(I:X.env.cells.lookup x=some c)(n:closureFor b X.env=pure [(x,c)])(F:(relabel b X.env).names=nm)
 (G:∀p∈nm,(p.2=.cell\/p.2=.free)->p.1=x)(B:nm.lookup x=some .cell\/nm.lookup x=some .free)
 (Q:∀x,foldedSetIterable e X.env x=pure x):tO X E (.ListComp h [⟨m,e,f,0⟩] b o) (kA r tn [i] a A v):=by
  refine Hs (cl:=[(x,c)]) (Nc:=[x]) (ci:=[i]) Z U V S hf Y n k t g (.cons hN (.inl T) (by rw[I];simp[List.lookup]) .nil) M (λy d z=>?_) (λy z=>?_) (λy O=>?_) Q
  ·by_cases w:y=x;·subst w;simp[List.lookup]at z;rw[I,z]
   ·have:(y==x)=false:=by simpa using w
    simp[List.lookup,this]at z
  ·rw[F]at z;have:y=x:=z.elim (λq=>G _ (bC q)<|.inl rfl) λq=>G _ (bC q) (.inr rfl);subst this;exact⟨c,by simp[List.lookup]⟩
  ·rw[aM]at O;subst O;rw[F];exact B
def Hr(i nm)(S:X.calm=true)(M:DI X E m e r)(O:∀u q y C,DG (X.comp b (Nt++[x]) [(x,c)] u q y C) m l a)(J:∀j∈l,j<tn)(hf:∀u q y C,so (X.comp b (Nt++[x]) [(x,c)] u q y C) f A)
 (Q:∀u q y C,DE (X.comp b (Nt++[x]) [(x,c)] u q y C) (λ_ _ _=>False) h v)
 (g:b.kind=.function)(n:pJ b)(d:qy b)(G:Nt.length=tn)
 (hN:X.N[i]?=some x)(L:X.env.kindOf x=some .cell)(F:X.env.cells.lookup x=some c)(k:closureFor b X.env=pure [(x,c)])(z:(relabel b X.env).names=nm)
 (B:∀p∈nm,(p.2=.cell\/p.2=.free)->p.1=x)(t:nm.lookup x=some .cell\/nm.lookup x=some .free)
 (I:∀x,foldedSetIterable e X.env x=pure x):DN X E (.ListComp h [⟨m,e,f,0⟩] b o) (kA r tn [i] a A v):=
  (Hu i nm S M O J hf Q g n d G hN L F k z B t I).dn
end
open PySem.Builtin PySem.Builtin.Str
open PyProof.Rows hiding St
variable{X:Cx}{E:XK}
def zq(i j:Int):Bool:=(decide (-18446744073709551616<i)&&decide (i<18446744073709551616))||(decide (-18446744073709551616<j)&&decide (j<18446744073709551616))
end P2
namespace P2
open PySem L2 PySem.Spec
def oX{a:oC}{P:Program}{w:World}{K:W.Frag}{mg:kl}{base:Heap}{N:List Str}{qual:Str}{scope:Scope}{f:Addr}{cd:Value}{A:Around}{outer:List Env}{s:Shared}{H:Hp}{E:XK}:
    PassesOwn (model (lE a P w K mg base N qual scope f cd A outer s H E).prog (lE a P w K mg base N qual scope f cd A outer s H E).w) (lE a P w K mg base N qual scope f cd A outer s H E).A (lE a P w K mg base N qual scope f cd A outer s H E).env (lE a P w K mg base N qual scope f cd A outer s H E).xe:=
 PassesOwn.leaving (Q₁:=λe b=>a outer H s E e b)
section
variable{X:Cx}{E:XK}{e a b c A:Expr}{f q o m:jw}{l:Pos}
def zS(i j:Nat)(fs:Ev->R (List D)):jQ:=λd=>toS (fs d) λg=>match g with
 |[d1,d2]=>if i<d.length/\j<d.length then .nx ((d.set i<|.sh d1).set j (.sh d2))else .bad
 |_=>.bad
def Hy{fs pt n u d}(i j)(R:X.calm=true)(hN:X.N.Nodup)(Q:X.N[i]?=some x)(O:X.N[j]?=some y)(v:i≠j)
 (J:X.env.scope.names.lookup x=some .local)(I:X.env.scope.names.lookup y=some .local)(S:DA X E [a,b] fs)
 (L:swappedStores [.Tuple [.Name x px,.Name y py] n pt] (.Tuple [a,b] u d) X.env=pure (some [x,y]))
 (M:swapsWithSole [.Tuple [.Name x px,.Name y py] n pt] (.Tuple [a,b] u d) l.line X.env=pure false):
   DS X E (.Assign [.Tuple [.Name x px,.Name y py] n pt] (.Tuple [a,b] u d) l) (zS i j fs):=by
  obtain⟨t,p,r,_⟩:=S;refine⟨_,W8 R hN Q O v J I p L M,λP H0 T H V Y D s h=>r _ _ _ _ _ _ _ s<|Aft.mono (lh.rR h s) λds U B g Z C=>?_⟩;split at g
  ·rename_i d1 d2;cases C with
   |cons G k=>
    cases k with
    |cons k F=>
     cases F;split at g
     ·rename_i z;exact⟨_,_,rfl,g T U _ .refl (((s.grow B).set z.1 G).set (by rw[aP];exact z.2) k)⟩
     ·exact g.elim
  ·exact g.elim
def Be(g h:D->D->R D)(q o m:jw):jw:=λd=>(q d).bind λx=>(o d).bind λy=>(g x y).bind λz=>match z with
 |.bl true=>(m d).bind λw=>h y w
 |.bl false=>.ok (.bl false)
 |_=>.bad
def O8{g}(U:lr X E (compareOp op) g)(n:lr X E (compareOp wB) g')(ha:DE X E a q)(Z:DE X E b o)(Y:DE X E c m)
 (V:lastMarks [op,wB] [b,c]=false):DT X E (.Compare a [op,wB] [b,c] l) (b1 tB<|Be g g' q o m):=by
  obtain⟨r1,T,d1⟩:=U;obtain⟨r2,S,d2⟩:=n;obtain⟨ta,R,J⟩:=ha;obtain⟨tb,O,I⟩:=Z;obtain⟨tc,M,G⟩:=Y;refine⟨_,Xc T S R O M V,λP H0 al H σ ρ Q s h=>J _ _ _ _ _ _ _ s<|Aft.mono (Aft.split<|Aft.split h) λx H1 t h1 v F=>I _ _ _ _ _ _ _ (s.grow t)<|Aft.mono (Aft.split h1) λy H2 r h2 u C=>?_⟩;have i:=(s.grow t).grow r;refine d1 _ _ _ _ _ _ _ i.fresh (F.up r) C (Aft.mono (Aft.split h2) λz D j d zv B=>?_);split at d
  ·cases B;refine⟨true,rfl,?_⟩;rw[av rfl];exact G _ _ _ _ _ _ _ (i.grow j) (Aft.mono (Aft.split d) λw H4 p h4 wv k=>d2 _ _ _ _ _ _ _ ((i.grow j).grow p).fresh (C.up<|j.trans p) k (Aft.mono h4 λz H5 s5 h5 v5 L=>uS L h5))
  ·cases B;refine⟨false,rfl,?_⟩;rw[aw<|by decide];exact uS (.bl false) (d D<|.refl D)
  ·exact d.elim
def LA:D->D->Option Bool
 |.non,.non=>some true
 |.bl a,.bl b=>some (a==b)
 |.bl _,.non=>some false
 |.int _,.non=>some false
 |.str _,.non=>some false
 |.tup _,.non=>some false
 |.lst _,.non=>some false
 |_,_=>none
def BZ(x y:D):R D:=match LA x y with
 |some b=>.ok (.bl b)
 |none=>.bad
def Cb(x y:D):R D:=match LA x y with
 |some b=>.ok (.bl<|!b)
 |none=>.bad
def mU:D->Option Int->Option Int->R D
 |.tup ds,lo,g=>if¬(HT.jL ds.length 0 lo=0/\HT.jL ds.length ds.length g=ds.length)then .ok (.tup<|cutD ds lo g)else .bad
 |d,lo,g=>wX d lo g
def tI:AW X E mU:=by
 obtain⟨u,k,t⟩:=aaZ (X:=X) (E:=E);refine⟨_,aa2.or k,λy H x v lo n Q fr g h=>?_⟩;unfold mU at h;split at h
 ·obtain⟨a,j,rfl,r,i⟩:=g.rm;split at h
  ·rename_i z;exact .inl ⟨a,j,rfl,r,by rw[i.length];exact z,λp d=>h _ (mj d) _ ((i.cut lo n).EK d (fr p d))⟩
  ·exact h.elim
 ·exact .inr (t _ _ _ _ _ _ _ fr g h)
def AJ(X:Cx)(E:XK)(n:Operator)(g:D->D->R D):Prop:=∃t:xO,xK X n t/\
 ∀h H x y j i (Q:VK),(∀a,H a=none->h a)->Rep X.K h H x j->Rep X.K h H y i->Aft X.K h E H (g j i) (λd k=>∀v,Rep X.K h k v d->Q v k)->t x y H Q
def x8:D->D->R D
 |.int i,.int j=>.ok (.int<|i+j)
 |_,_=>.bad
def x9:D->D->R D
 |.int i,.int j=>.ok (.int<|i - j)
 |_,_=>.bad
def RE:AJ X E .Add x8:=by
 refine⟨_,RD,λk H x y j i Q fr g d h=>?_⟩;unfold x8 at h;split at h;·cases g;cases d;exact⟨_,_,rfl,rfl,h H (.refl H) _<|.int _⟩
 ·exact h.elim
def RG:AJ X E .Sub x9:=by
 refine⟨_,RF,λk H x y j i Q fr g d h=>?_⟩;unfold x9 at h;split at h;·cases g;cases d;exact⟨_,_,rfl,rfl,h H (.refl H) _<|.int _⟩
 ·exact h.elim
end
section
variable{X:Cx}{E:XK}
def oh(x:D)(b:List D):Option Bool:=(mT x).bind λp=>(lA b).bind λa=>if(PyData.canLayAll0 a&&PyData.canLay0 p&&decide (p.depth<=63))=true then some (a.any λy=>PyData.eqv y p)else none
def nO(x y:D):R D:=match y with
 |.lst a=>(match oh x a with
  |some b=>.ok (.bl b)
  |none=>.bad)
 |.tup a=>(match oh x a with
  |some b=>.ok (.bl b)
  |none=>.bad)
 |_=>yY x y
def oV(x y:D):R D:=match y with
 |.lst a=>(match oh x a with
  |some b=>.ok (.bl<|!b)
  |none=>.bad)
 |.tup a=>(match oh x a with
  |some b=>.ok (.bl<|!b)
  |none=>.bad)
 |_=>.bad
def IE{s}(I:Inv X pins σ H s)(r:X.A.units+64<cLine){d u}(n:Rep X.K al H x d)(g:Rep X.K al H y (.lst ys)\/Rep X.K al H y (.tup ys))(m:RelV x u)(k:RelV y v)(e:oh d ys=some b):
    ∃p a c bs,(Reads s.heap v (.list a) c\/Reads s.heap v (.tuple a) c)/\Reads s.heap u p bs/\PyData.canLayAll0 a=true/\PyData.canLay0 p=true/\X.A.units+1+min (PyData.depthAll a) p.depth<cLine/\(a.any λy=>PyData.eqv y p)=b:=by
 obtain⟨p,q,o⟩:=aL.mp e;obtain⟨a,l,h⟩:=aL.mp o;split at h
 ·rename_i z;simp only[aS,bx]at z;obtain⟨bs,j⟩:=uR I n m q;have:=Nat.min_le_right (PyData.depthAll a) p.depth;rcases g with g|g
  ·obtain⟨c,i⟩:=uR (p:=.list a) I g k (show(lA ys).map PyData.list=some _ by rw[l];rfl);exact⟨p,a,c,bs,.inl i,j,z.1.1,z.1.2,by omega,Option.some.inj h⟩
  ·obtain⟨c,i⟩:=uR (p:=.tuple a) I g k (show(lA ys).map PyData.tuple=some _ by rw[l];rfl);exact⟨p,a,c,bs,.inr i,j,z.1.1,z.1.2,by omega,Option.some.inj h⟩
 ·cases h
def wD(D:X.A.units+64<cLine):lr X E (compareOp .In) nO:=by
 obtain⟨B,C,L⟩:=VO (X:=X) (E:=E);refine⟨λx y H Q=>(∃c d a b,Rep X.K c H x d/\(Rep X.K c H y (.lst a)\/Rep X.K c H y (.tup a))/\oh d a=some b/\Q (.bl b) H)\/B x y H Q,λj s z H x y v u Q I g e h=>?_,λc H x y k O Q fr g e h=>?_⟩
 ·rcases h with⟨c,d,a,b,J,G,F,t⟩|h
  ·obtain⟨p,M,R,bs,i,r,o,n,m,l⟩:=IE I D J G g e F;rcases i with i|i;·exact SeqAt.in_list_reads i r o n m (by rw[l];exact⟨.bl b,H,I,rfl,t⟩)
   ·exact SeqAt.in_tuple_reads i r o n m (by rw[l];exact⟨.bl b,H,I,rfl,t⟩)
  ·exact C j s z H x y v u Q I g e h
 ·unfold nO at h;split at h
  ·rename_i a;cases q:oh k a with
   |none=>rw[q]at h;exact h.elim
   |some b=>rw[q]at h;exact .inl ⟨c,k,a,b,g,.inl e,q,h H (.refl H) _<|.bl b⟩
  ·rename_i a;cases q:oh k a with
   |none=>rw[q]at h;exact h.elim
   |some b=>rw[q]at h;exact .inl ⟨c,k,a,b,g,.inr e,q,h H (.refl H) _<|.bl b⟩
  ·exact .inr (L _ _ _ _ _ _ _ fr g e h)
def VZ(z:X.A.units+64<cLine):lr X E (compareOp .NotIn) oV:=by
 refine⟨λx y H Q=>∃c d a b,Rep X.K c H x d/\(Rep X.K c H y (.lst a)\/Rep X.K c H y (.tup a))/\oh d a=some b/\Q (.bl<|!b) H,λr s F H x y v u Q I i g h=>?_,λc H x y j J Q fr i g h=>?_⟩
 ·obtain⟨c,d,a,b,D,C,B,t⟩:=h;obtain⟨p,G,L,bs,e,o,n,m,l,k⟩:=IE I z D C i g B;rcases e with e|e;·exact SeqAt.notIn_list_reads e o n m l (by rw[k];exact⟨.bl (!b),H,I,rfl,t⟩)
  ·exact SeqAt.notIn_tuple_reads e o n m l (by rw[k];exact⟨.bl<|!b,H,I,rfl,t⟩)
 ·unfold oV at h;split at h
  ·rename_i a;cases q:oh j a with
   |none=>rw[q]at h;exact h.elim
   |some b=>rw[q]at h;exact⟨c,j,a,b,i,.inl g,q,h H (.refl H) _<|.bl<|!b⟩
  ·rename_i a;cases q:oh j a with
   |none=>rw[q]at h;exact h.elim
   |some b=>rw[q]at h;exact⟨c,j,a,b,i,.inr g,q,h H (.refl H) _<|.bl<|!b⟩
  ·exact h.elim
end
open PyProof.Rows hiding St
inductive vo:V->D->Prop
 |non:vo .non .non
 |bl (b:Bool):vo (.bl b) (.bl b)
 |int (i:Int):vo (.int i) (.int i)
 |str (x:Str):vo (.str x) (.str x)
inductive xB:List V->List D->Prop
 |nil:xB [] []
 |cons {v:V} {d:D} {vs:List V} {ds:List D}:vo v d->xB vs ds->xB (v::vs) (d::ds)
structure GlT(K:W.Frag)(mg:kl)(x:Str)(ds:List D):Prop where
 ex:∃(a:Addr) (vs:List V),mg x=some (.ref a)/\KT K a vs/\xB vs ds
variable{X:Cx}{E:XK}{a b:Expr}{F C:jw}{B:Pos}
def ye(x y:D):R (List D):=match x,y with
 |.lst xs,.lst c=>if xs.length+c.length<=sizeLine then .ok (xs++c)else .bad
 |_,_=>.bad
def Um:jf
 |[.int i,.int j]=>.ok (.int<|if j<i then j else i)
 |_=>.bad
end P2
namespace TM
open PySem PySem.NumText PySem.StrLaws Builtin Builtin.Str
def rF(x:Str):List Nat:=x.cps.toList
def ext(h:rF x=rF y):x=y:=by obtain⟨x⟩:=x;obtain⟨y⟩:=y;have:x=y:=d4.mp h;rw[this]
def GZ(x y):rF (x++y)=rF x++rF y:=by show(x.cps++y.cps).toList=x.cps.toList++y.cps.toList;simp
def Cq(x:Str):x.length=(rF x).length:=by simp[Str.length,rF]
def num(m:Nat):List Nat:=(Nat.toDigits 10 m).map Char.toNat
def O3{c:Char}(h:c.isDigit=true):48<=c.toNat/\c.toNat<=57:=by unfold Char.isDigit at h;simp only[aS,bx,ge_iff_le]at h;obtain⟨e,d⟩:=h;have a:(48:UInt32).toNat<=c.val.toNat:=gP.mp e;have b:c.val.toNat<=(57:UInt32).toNat:=gP.mp d;exact⟨a,b⟩
def UO(m):AllDigits (num m):=by intro c a;obtain⟨b,h,rfl⟩:=az.mp a;exact O3 (Nat.isDigit_of_mem_toDigits (by decide) (by decide) h)
def two(n:Nat):List Nat:=[48+n/10,48+n%10]
end TM
namespace P2
open PySem L2
def bits_le{i:Int}{k}(h:i.natAbs<2^k):bits i<=k:=intBits_le_iff.mpr h
section
variable{B T:Type}{a:B}{c:Addr}{p:List Str}{v:List D}{k:B->RT}{h:B->R T}{e:Ev}{g u:jQ}{f q A:jw}{o H:Ev->R Bool}{fs:Ev->R (List D)}{i j:Int}{x y:Str}{b S:Bool}{l E:List D}{d:D}{n m:Nat}{K U:D->D->R D}{M:D->R D}{J:jf}{I:D->jf}
variable{t:String}{L:D->Option Int->Option Int->R D}{O N:Ev->R (Option Int)}{Q:List Nat}{C:D->Ev->Option Ev}{lo F:Option Int}{P:Str->jw}
def Ld:(R.ok a).bind h=h a:=rfl
def XC:(R.ex c p v:R B).bind h=.ex c p v:=rfl
def XB:(R.bad:R B).bind h=.bad:=rfl
def Zg:toS (R.ok a) k=k a:=rfl
def Zj:toS (R.ex c p v:R B) k=.ex c p v:=rfl
def Ze:toS (R.bad:R B) k=.bad:=rfl
def YX:rW (.nx e) g=g e:=rfl
def YY:rW (.rt d) g=.rt d:=rfl
def YZ:rW (.ex c p v) g=.ex c p v:=rfl
def YW:rW .bad g=.bad:=rfl
def Lf:turnT (.nx e) g=g e:=rfl
def Zn:turnT (.ct e) g=g e:=rfl
def Zo:turnT (.bk e) g=.nx e:=rfl
def Zq:turnT (.rt d) g=.rt d:=rfl
def Zl:turnT .bad g=.bad:=rfl
def Zv:turnT (.ex c p v) g=.ex c p v:=rfl
def XZ:jO (.rt d)=.ok d:=rfl
def XY:jO (.nx e)=.ok .non:=rfl
def X0:jO (.ex c p v)=.ex c p v:=rfl
def YJ:UB (R.ok a)=.ok a:=rfl
def YL:pM (R.ok a)=some a:=rfl
def YK:tu (some a)=.ok a:=rfl
def YU:kn g u e=rW (g e) u:=rfl
def YQ:pT e=.nx e:=rfl
def YT:lj f e=toS (f e) .rt:=rfl
def YN:aav f e=toS (f e) λ_=>.nx e:=rfl
def YV:lG n f e=toS (f e) λd=>if n<e.length then .nx (e.set n<|.sh d)else .bad:=rfl
def YP:pS o g u e=toS (o e) λk=>if k=true then g e else u e:=rfl
def XH:dC d e=.ok d:=rfl
def XD:d1 M f e=(f e).bind M:=rfl
def XE:d2 K q A e=(q e).bind λx=>(A e).bind λy=>K x y:=rfl
def Xw:b1 P2.tB f e=(f e).bind P2.tB:=rfl
def Xx:b1 tT f e=(f e).bind tT:=rfl
def Xy:rD o H e=(o e).bind λc=>if c=true then H e else .ok false:=rfl
def XA:qT o H e=(o e).bind λc=>if c=true then .ok true else H e:=rfl
def Xz:uf o e=(o e).bind λc=>.ok (!c):=rfl
def XG:yf q A e=((q e).bind P2.tB).bind λc=>if c=true then A e else .ok (.bl false):=rfl
def XQ:OO q A e=((q e).bind P2.tB).bind λc=>if c=true then .ok (.bl true)else A e:=rfl
def XN:yg q e=((q e).bind P2.tB).bind λc=>.ok (.bl<|!c):=rfl
def XJ:uj o q A e=(o e).bind λk=>if k=true then q e else A e:=rfl
def XF:dA J fs e=(fs e).bind J:=rfl
def Xh:iT e=.ok []:=rfl
def Xg:aa f fs e=(f e).bind λx=>(fs e).bind λr=>.ok (x::r):=rfl
def Xv:jq fs e=(fs e).bind λl=>.ok (.lst l):=rfl
def XM:ON t I f fs e=(f e).bind λx=>if BE t x=true then(fs e).bind λr=>I x r else .bad:=rfl
def XS:nq L f O N e=(f e).bind λx=>(O e).bind λi=>(N e).bind λj=>L x i j:=rfl
def XI:kA fs n Q C o f e=(fs e).bind λl=>if l.length<=sizeLine then tu (l0 C o f (qu n Q e) l)else .bad:=rfl
def YO:uT fs C g e=toS (fs e) λl=>oa C g l e:=rfl
def X4:oa C g (d::l) e=toO (C d e) λr=>turnT (g r) (oa C g l):=rfl
def Zd:toO (some a) k=k a:=rfl
def X7:gV n d e=if n<e.length then some (e.set n<|.sh d)else none:=rfl
def Y6:P2.tB (.bl b)=.ok b:=rfl
def Y7:tT (.bl b)=.ok b:=rfl
def Y8:tT (.int i)=.ok (i !=0):=rfl
def Za:tT .non=.ok false:=rfl
def Y9:tT (.lst l)=.ok (!l.isEmpty):=rfl
def Zb:tT (.tup l)=.ok (!l.isEmpty):=rfl
def Xj:kr (.int i) (.int j)=.ok (.int<|i+j):=rfl
def Xm:kr (.str x) (.str y)=if x.length+y.length<=sizeLine then .ok (.str<|x++y)else .bad:=rfl
def Xk:kr (.lst l) (.lst E)=if l.length+E.length<=sizeLine then .ok (.lst<|l++E)else .bad:=rfl
def Y5:pe (.int i) (.int j)=.ok (.int<|i - j):=rfl
def Dt:kR (.int i) (.int j)=if uL i j=true then .ok (.int<|i.fdiv j)else .bad:=rfl
def YD:j5 (.int i) (.int j)=if decide (j≠0)=true then .ok (.int<|i.fmod j)else .bad:=rfl
def Yx:P2.m9 (.int i) (.int j)=.ok (.bl<|decide<|i<j):=rfl
def Yt:za (.int i) (.int j)=.ok (.bl<|decide<|i<=j):=rfl
def X9:rN (.int i) (.int j)=.ok (.bl<|decide<|j<i):=rfl
def X8:P1 (.int i) (.int j)=.ok (.bl<|decide<|j<=i):=rfl
def YI:wu (.int i)=.ok (.int<|-i):=rfl
def XU:jU (.int i) (.int j)=.ok (.bl<|decide<|i=j):=rfl
def XW:jU (.str x) (.str y)=.ok (.bl<|decide<|x=y):=rfl
def XT:jU (.bl b) (.bl S)=.ok (.bl<|decide<|b=S):=rfl
def YG:qB (.int i) (.int j)=.ok (.bl<|!decide (i=j)):=rfl
def YH:qB (.str x) (.str y)=.ok (.bl<|!decide (x=y)):=rfl
def Yb:yY (.str x) (.str y)=.ok (.bl<|Txt.contains y x):=rfl
def Yo:jS (.lst l) (.int i)=match L2.jY l i with|some d=>.ok d|none=>.bad:=rfl
def Yq:jS (.tup l) (.int i)=match L2.jY l i with|some d=>.ok d|none=>.bad:=rfl
def Yp:jS (.str x) (.int i)=if x.length<=sizeLine then(match L2.jY x.cps.toList i with|some c=>.ok (.str ⟨#[c]⟩)|none=>.bad)else .bad:=rfl
def Y2:wX (.lst l) lo F=.ok (.lst<|cutD l lo F):=rfl
def Y3:wX (.str x) lo F=if x.length<=sizeLine then .ok (.str<|Txt.slice x lo F)else .bad:=rfl
def YM:pI (.int i)=.ok (some i):=rfl
def Yv:lL [.str x]=if x.length<=sizeLine then .ok (.int x.length)else .bad:=rfl
def Yu:lL [.lst l]=.ok (.int l.length):=rfl
def Yw:lL [.tup l]=.ok (.int l.length):=rfl
def Xi:oK [.int i]=.ok (.int<|if i<0 then -i else i):=rfl
def Yz:Uj [.int i,.int j]=.ok (.int<|if j>i then j else i):=rfl
def Yc:intD [.str x]=match PySem.intText? x with|some n=>if x.length<=640 then .ok (.int n)else .bad|none=>.bad:=rfl
def Xn:NR [.lst l]=match vM l with|some bs=>.ok (.bl<|bs.all id)|none=>.bad:=rfl
def Xo:NV [.lst l]=match vM l with|some bs=>.ok (.bl<|bs.any id)|none=>.bad:=rfl
def Y4:abe (.str x) [.str y]=.ok (.bl<|Txt.startswith x y):=rfl
def ZO:acV (.str x) [.int i]=if PadOk i=true then .ok (.str<|Txt.zfill x i)else .bad:=rfl
def Ya:BE "str" (.str x)=true:=by rfl
def YB:jv l=if l.length<=sizeLine then .ok (.tup l)else .bad:=rfl
def X1:jy l=if l.length<=sizeLine then .ok l else .bad:=rfl
def Xr:kd (.lst l)=.ok l:=rfl
def Xu:kd (.tup l)=.ok l:=rfl
def Xs:kd (.str x)=.ok (signs x):=rfl
def X3:PN (.str x)=if x.length<=sizeLine then .ok (.str x)else .bad:=rfl
def Ys:Sa x e=if x.length<=sizeLine then .ok (.str x)else .bad:=rfl
def Yr:R9 f P x e=(f e).bind λz=>match z with|.str y=>if(x++y).length<=sizeLine then P (x++y) e else .bad|_=>.bad:=rfl
def Zw:dV 0 (.sh d::r)=.ok d:=rfl
def Zx:dV 1 (s0::.sh d::r)=.ok d:=rfl
def ZF:dV 2 (s0::s1::.sh d::r)=.ok d:=rfl
def ZH:dV 3 (s0::s1::s2::.sh d::r)=.ok d:=rfl
def ZI:dV 4 (s0::s1::s2::s3::.sh d::r)=.ok d:=rfl
def ZJ:dV 5 (s0::s1::s2::s3::s4::.sh d::r)=.ok d:=rfl
def ZK:dV 6 (s0::s1::s2::s3::s4::s5::.sh d::r)=.ok d:=rfl
def ZL:dV 7 (s0::s1::s2::s3::s4::s5::s6::.sh d::r)=.ok d:=rfl
def ZM:dV 8 (s0::s1::s2::s3::s4::s5::s6::s7::.sh d::r)=.ok d:=rfl
def ZN:dV 9 (s0::s1::s2::s3::s4::s5::s6::s7::s8::.sh d::r)=.ok d:=rfl
def Zy:dV 10 (s0::s1::s2::s3::s4::s5::s6::s7::s8::s9::.sh d::r)=.ok d:=rfl
def Zz:dV 11 (s0::s1::s2::s3::s4::s5::s6::s7::s8::s9::zQ::.sh d::r)=.ok d:=rfl
def ZC:dV 12 (s0::s1::s2::s3::s4::s5::s6::s7::s8::s9::zQ::DH::.sh d::r)=.ok d:=rfl
def ZD:dV 13 (s0::s1::s2::s3::s4::s5::s6::s7::s8::s9::zQ::DH::s12::.sh d::r)=.ok d:=rfl
def ou(r:0<j):j5 (.int i) (.int j)=.ok (.int<|i%j):=by rw[YD,av<|by simp;omega,Int.fmod_eq_emod_of_nonneg _<|by omega]
def wO(r:0<j)(G:j<18446744073709551616):kR (.int i) (.int j)=.ok (.int<|i/j):=by have z:bits j<=64:=bits_le (by omega);rw[Dt,av<|by unfold uL;simp only[aS,bx];omega,fZ _<|by omega]
def wN{x y:Str}(z:x.length<=1000)(r:y.length<=1000):kr (.str x) (.str y)=.ok (.str<|x++y):=by rw[Xm,av<|aU (Nat.add_le_add z r)<|by decide]
def Xl{x y:List D}(z:x.length<=1000)(r:y.length<=1000):kr (.lst x) (.lst y)=.ok (.lst<|x++y):=by rw[Xk,av<|aU (Nat.add_le_add z r)<|by decide]
def X2{x:List D}(r:x.length<=1000):jy x=.ok x:=by rw[X1,av<|aU r<|by decide]
def YC{x:List D}(r:x.length<=1000):jv x=.ok (.tup x):=by rw[YB,av<|aU r<|by decide]
end
open PySem.Spec
open PyProof.Rows hiding St
section
variable{X:Cx}{E:XK}
def rS(i j:Int):Bool:=CH i j||zq i j
def ku:D->D->R D
 |.int i,.int j=>if rS i j=true then .ok (.int<|i*j)else .bad
 |.str x,.int n=>if CI x n=true then .ok (.str<|Txt.mul x n)else .bad
 |_,_=>.bad
def nB:lr X E (binaryOp .Mult) ku:=by
 refine⟨_,zy (zy VV VW) VX,λe H x y d c Q fr b a h=>?_⟩;unfold ku at h;split at h
 ·cases b;cases a;split at h
  ·rename_i z;unfold rS at z;rw[dH]at z;rcases z with z|z
   ·unfold CH at z;simp only[aS,bx]at z;exact .inl (.inr ⟨_,_,rfl,rfl,z,h H (.refl H) _<|.int _⟩)
   ·refine .inl (.inl ⟨_,_,rfl,rfl,?_,h H (.refl H) _<|.int _⟩);unfold zq at z;simp only[dH,aS,bx]at z;exact z
  ·exact h.elim
 ·cases b;cases a;split at h;·rename_i z;exact .inr ⟨_,_,rfl,rfl,mulOk_of z,h H (.refl H) _<|.str _⟩
  ·exact h.elim
 ·exact h.elim
def V5:(10:Nat)^400<2^1500:=by decide+kernel
def A6{i:Int}(h:i.natAbs<10^400):bits i<=1500:=bits_le (eP h V5)
def YE{i j:Int}(b:i.natAbs<10^400)(a:j.natAbs<10^400):ku (.int i) (.int j)=.ok (.int<|i*j):=by have d:=A6 b;have c:=A6 a;show(if rS i j=true then R.ok (D.int<|i*j)else .bad)=_;rw[av<|by unfold rS CH;simp only[dH,aS,bx];left;omega]
def Du{i j:Int}(b: -18446744073709551616<j)(a:j<18446744073709551616):ku (.int i) (.int j)=.ok (.int<|i*j):=by show(if rS i j=true then R.ok (D.int<|i*j)else .bad)=_;rw[av<|by unfold rS zq;simp only[dH,aS,bx];right;right;exact⟨b,a⟩]
def YF{i j:Int}(b: -18446744073709551616<i)(a:i<18446744073709551616):ku (.int i) (.int j)=.ok (.int<|i*j):=by show(if rS i j=true then R.ok (D.int<|i*j)else .bad)=_;rw[av<|by unfold rS zq;simp only[dH,aS,bx];right;left;exact⟨b,a⟩]
def zM{i j:Int}(b:j≠0)(a:j.natAbs<10^400):kR (.int i) (.int j)=.ok (.int<|i.fdiv j):=by have c:=A6 a;rw[Dt,av<|by unfold uL;simp only[aS,bx];omega]
def Ye{i:Int}:pE q [.int i,.ty "int"]=.ok (.bl true):=rfl
def Yd{i:Int}:pE q [.int i,.ty "bool"]=.ok (.bl false):=rfl
def Yg:pE q [.str x,.ty "str"]=.ok (.bl true):=rfl
def Yh:pE q [.tup ds,.ty "tuple"]=.ok (.bl true):=rfl
def Yf:pE q [.lst ds,.ty "list"]=.ok (.bl true):=rfl
def Y0{lo}:mU (.lst ds) lo hi=.ok (.lst<|cutD ds lo hi):=rfl
def Y1{lo}:mU (.str x) lo hi=if x.length<=sizeLine then .ok (.str<|Txt.slice x lo hi)else .bad:=rfl
def Yi:BZ (.bl a) (.bl b)=.ok (.bl<|a==b):=rfl
def Yl:Cb (.bl a) (.bl b)=.ok (.bl<|!(a==b)):=rfl
def Yj:BZ .non .non=.ok (.bl true):=rfl
def Ym:Cb .non .non=.ok (.bl false):=rfl
def Yk:BZ (.tup ds) .non=.ok (.bl false):=rfl
def Yn:Cb (.tup ds) .non=.ok (.bl true):=rfl
def Lg{n}:pj c b (n+1) ρ=toS (c ρ) λk=>if k=true then turnT (b ρ) (pj c b n)else .nx ρ:=rfl
variable{a b:Expr}{rest:List Expr}{e:Pos}{l f:TE}{o m:jw}
def Ww(C:PE X a l)(B:PE X (.BoolOp .Or (b::rest) e) f):PE X (.BoolOp .Or (a::b::rest) e) (λi H Q=>l i H λx j=>∃k,vz X.K x j k/\if k=true then Q x j else f i j Q):=by
 intro d s i H Q I h;refine BoolOp_or (ji (C d s i H _ I h) λv u g=>?_);obtain⟨x,j,G,p,y⟩:=g;obtain⟨k,z,q⟩:=y;refine ji (EJ d u i j x v (λc n=>c=k/\n=j) G p ⟨k,z,rfl,rfl⟩) λc t g=>?_;obtain⟨n,r,F,D⟩:=g;subst F D;cases c with
 |true=>exact⟨x,n,r,p,by simpa using q⟩
 |false=>exact B d t i n Q r (by simpa using q)
def OP(a b:jw):jw:=λd=>(a d).bind λx=>(tT x).bind λc=>if c=true then .ok x else b d
def XO:OP o m ρ=(o ρ).bind λx=>(tT x).bind λc=>if c=true then .ok x else m ρ:=rfl
end
open PySem.Calls
def BM(mg:kl)(h:Heap):Prop:=∃a ob,mg "__builtins__"=some (.ref a)/\a≠builtinsNs/\h.get? a=some ob/\ob.cls=.type "module"/\ob.dict=some builtinsNs/\ob.data=.plain
def SN{w}{K:W.Frag}{k}{c:Shared}{D:List Value}
 (KX:K.In c.heap)(S:c.heap.Ns mainGlobals mg)(hb:c.heap.Ns builtinsNs mb)(hbb:∀x:Str,x≠"__name__"->mb x=bootBuiltins x)(T:c.heap.NoLimit)(hg:c.gens=#[])
 (I:c.heap.get? a=some {cls:=.type "list",data:=.seq D.toArray})(hi:IntsAre D ns)(hl:ns.length<=sizeLine)(hr:kQ k callerA)(hT:∀t∈mD K,W.CodeHd c.heap t.2.1 t.2.2/\c.heap.get? t.2.2=some (W.tabObj #[]))(hN:W.noTabs K=true)
 (hB:BM mg c.heap)
 (F:∀base:Heap,K.In base->base.Ns mainGlobals mg->BM mg base->mE P w K mg base CX k fa fd [x] sp)(G:∀s u,BindsTo s fd ⟨[u],[]⟩ [(x,u)])
 (hsp:∀H:Hp,lY K H->k7 K H a (ns.map V.int)->sp [.ref a] H (λv _=>v=.bl true) λ_ _ _=>False)
 (Qh:∀H e l,CX [] H c (λ_ _ _=>False) e l->False):
   codeAny (model P w) callerA (.call (.ref fa) ⟨[.ref a],[]⟩) (λr l=>r=.ok (.ret<|.bool true)/\OldK c.heap l.heap/\l.os=c.os/\AllBare l.gens) c:=by
  have rv:=Mj hi;have Q:=hi.length;have na:∀t∈mD K,t.2.2≠a:=λt g e=>by have:=(hT t g).2;rw[e,I]at this;cases this
  have nK:∀t∈mD K,K.lookup t.2.2=none:=λt g=>by
   cases q:K.lookup t.2.2 with
   |none=>rfl
   |some o=>have Z:=KX _ _ q;rw[(hT t g).2]at Z;cases Z;have h2:=cK.mp hN (t.2.2,W.tabObj #[]) (W.mem_of_lookupK q);exact absurd (show false=true from h2) ax
  have C:∀H:Hp,(∀b,H b=none\/(∃o O,H b=some (.ke o<|.lst O)/\b=a/\K.lookup a=none)\/∃t∈mD K,b=t.2.2/\H b=some (.lT #[]))->(∀t∈mD K,H t.2.2=some (.lT #[]))->k7 K H a (ns.map V.int)->kH P w H c.heap->
   codeAny (model P w) callerA (.call (.ref fa) ⟨[.ref a],[]⟩) (λr l=>r=.ok (.ret<|.bool true)/\OldK c.heap l.heap/\l.os=c.os/\AllBare l.gens) c:=by
   intro H hO Qq hS R;have j:∀{b:Addr} {o:Obj},c.heap.get? b=some o->H b=none->(qw c.heap H).get? b=some o:=λe n=>QJ e n;have UA:∀{b:Addr} {o:Obj} {J:Array DictEntry} {L:Nat},c.heap.get? b=some o->o.data=.dict J L->H b=none:=λ{b o J L} e d=>by
    rcases hO b with z|⟨ob,O,z,i,_⟩|⟨t,g,i,z⟩;·exact z
    ·subst i;rw[I]at e;cases e;have d':Data.seq D.toArray _=Data.dict J L:=d;cases d'
    ·subst i;rw[(hT t g).2]at e;cases e;have d':Data.fields #[]=Data.dict J L:=d;cases d'
   have p:∀{b:Addr} {m:kl},c.heap.Ns b m->(qw c.heap H).Ns b m:=λ{b m} ⟨o,J,L,e,d,r⟩=>⟨o,J,L,j e (UA e d),d,r⟩;have Y:K.In (qw c.heap H):=λb o e=>j (KX b o e) (by
    rcases hO b with z|⟨ob,O,z,i,U⟩|⟨t,g,i,z⟩;· exact z
    · subst i;rw[U]at e;cases e
    · subst i;rw[nK t g]at e;cases e)
   have Qe:BM mg (qw c.heap H):=by
    obtain⟨bm,ob,b1,b2,b3,b4,b5,b6⟩:=hB;refine⟨bm,ob,b1,b2,j b3 ?_,b4,b5,b6⟩;rcases hO bm with z|⟨o2,O,z,i,_⟩|⟨t,g,i,z⟩;·exact z
    ·subst i;rw[I]at b3;cases b3;cases b6
    ·subst i;rw[(hT t g).2]at b3;cases b3;cases b6
   have hM:Mod K mg (qw c.heap H):=⟨Y,p S,⟨mb,p hb,hbb⟩,let⟨mc,h1,h2⟩:=T;⟨mc,p h1,h2⟩⟩;have e0:sr P w K mg (qw c.heap H) callerA [] c H:=⟨rfl,hM,λb o e=>UZ e,iH<|QK _ _,trivial,λb hb=>absurd (show b∈([]:List Addr)from hb)<|by simp,R,.of_eq hg⟩;have tb:lY K H:=λt g=>⟨#[],Qq t g,trivial,λpos cv e=>by cases e⟩;refine dD ((F _ Y (p S) Qe).run callerA [] c H ⟨[.ref a],[]⟩ [.ref a] [.ref a] _ _ hr e0 (G c<|.ref a) (.cons rfl .nil) (hsp H tb hS)) λr l h=>?_;cases r with
   |error e=>exact(Qh H e l h).elim
   |ok fl=>
    cases fl with
    |next=>exact False.elim h
    |brk=>exact False.elim h
    |cont=>exact False.elim h
    |ret u=>
     obtain⟨v,H',os,bare,un,B,r',q⟩:=h;have q':v=.bl true:=q;subst q';obtain rfl:u=Value.bool true:=r';have kept:∀b o,c.heap.get? b=some o->l.heap.get? b=some o\/∃t∈mD K,b=t.2.2/\∃ps,l.heap.get? b=some (W.tabObj ps):=λb o e=>by
      rcases hO b with z|⟨ob,O,z,_⟩|⟨t,g,i,z⟩;·exact .inl (un.keep b o e z (by intro y;exact absurd (show b∈([]:List Addr)from y) (by simp)) (by simp))
      ·have z2:=un.pD b ob _ z;obtain⟨Z,_⟩:=R b _ z;obtain⟨M,_⟩:=B b _ z2;rw[e]at Z;cases Z;exact .inl M
      ·obtain⟨more,z2⟩:=un.rl b #[] z;have M:l.heap.get? b=some {cls:=.none,data:=.fields<|#[]++more}:=B b _ z2;exact .inr ⟨t,g,i,_,M⟩
     refine⟨rfl,⟨λb o e=>?_,λb o e=>?_⟩,os,bare⟩
     ·rcases kept b o e with z|⟨t,g,i,ps,z⟩;·exact .inl z
      ·subst i;have M:=(hT t g).2;rw[e]at M;cases M;exact .inr (.inl ⟨((hT t g).1.tab (hT t g).2).isCodeTable,rfl,#[],ps,rfl,by rw[Array.empty_append];exact z⟩)
     ·rcases kept b o e with z|⟨_,_,_,ps,z⟩;·exact⟨o,z⟩
      ·exact⟨_,z⟩
  have nz:¬∃t∈mD K,a=t.2.2:=λ⟨t,g,e⟩=>na t g e.symm;have lT:∀(H:Hp) (b:Addr),(∃t∈mD K,b=t.2.2)->kz P w H c.heap b (.lT #[]):=λH b ⟨t,g,e⟩=>by subst e;exact(hT t g).2
  cases U:K.lookup a with
  |some o=>
   have e:=KX a o U;rw[I]at e;cases e;refine C (λb=>if(∃t∈mD K,b=t.2.2)then some (.lT #[])else none) (λb=>?_) (λt g=>av ⟨t,g,rfl⟩) (.inr ⟨_,D.toArray,_,U,rfl,rfl,rfl,by rw[aN,Q];exact hl,by simpa using rv⟩) (λb u e=>?_)
   ·by_cases z:∃t∈mD K,b=t.2.2
    ·obtain⟨t,g,e⟩:=z;exact .inr (.inr ⟨t,g,e,av ⟨t,g,e⟩⟩)
    ·exact .inl (aw z)
   ·by_cases z:∃t∈mD K,b=t.2.2
    ·have i:=(av z).symm.trans e;cases i;exact lT _ b z
    ·have i:=(aw z).symm.trans e;cases i
  |none=>
   refine C (λb=>if(∃t∈mD K,b=t.2.2)then some (.lT #[])else if b=a then some (.ke {cls:=.type "list",data:=.seq D.toArray}<|.lst<|ns.map V.int)else none) (λb=>?_) (λt g=>av ⟨t,g,rfl⟩) (.inl<|.inr ⟨{cls:=.type "list",data:=.seq D.toArray},(aw nz).trans (av rfl)⟩) (λb u e=>?_)
   ·by_cases z:∃t∈mD K,b=t.2.2
    ·obtain⟨t,g,e⟩:=z;exact .inr (.inr ⟨t,g,e,av ⟨t,g,e⟩⟩)
    ·by_cases y:b=a;·exact .inr (.inl ⟨_,_,(aw z).trans (av y),y,U⟩)
     ·exact .inl ((aw z).trans (aw y))
   ·by_cases z:∃t∈mD K,b=t.2.2
    ·have i:=(av z).symm.trans e;cases i;exact lT _ b z
    ·by_cases y:b=a
     ·have i:=((aw z).trans (av y)).symm.trans e;cases i;subst y;exact⟨I,by rw[ai];exact hl,D,_,rv,I⟩
     ·have i:=((aw z).trans (aw y)).symm.trans e;cases i
def abU{K:W.Frag}(T:Top p loose ado mg mb h)(X:K.In h)(b:(mD K).all (λt=>((recsOf p).find? λe=>e.name==t.1).isSome)=true):
    ∀t∈mD K,W.CodeHd h t.2.1 t.2.2/\h.get? t.2.2=some (W.tabObj #[]):=λt a=>by
 have g:=cK.mp b t a;obtain⟨d,c⟩:=eA.mp g;unfold mD at a;obtain⟨x,_,e⟩:=bz.mp a;split at e
 ·obtain⟨q,j,i⟩:=aF.mp e;subst i;exact W.tab_of T X c j
 ·cases e
end P2
namespace WP
open PySem L2 P2
structure Ad where
 WeatherError:Addr:=0
 NoFraction:Addr:=0
 NoText:Addr:=0
 Twice:Addr:=0
 TooMany:Addr:=0
 NoRow:Addr:=0
 Tokens:Addr:=0
 Book:Addr:=0
 Sight:Addr:=0
 Desk:Addr:=0
 adf:Addr:=0
 adb:Addr:=0
 ade:Addr:=0
 tm:Addr->Value->Option Bool:=λ_ _=>none
def vE(a:Ad):jQ:=(kn (lG 2 (d2 j5 (dV 0) (dV 1)))
    (kn (lG 0 (dV 1))
    (lG 1 (dV 2))))
def vR(a:Ad):jQ:=(kn (pj (b1 tB (d2 qB (dV 1) (iQ 0))) (vE a) sO)
    (lj (dV 0)))
def vU(a:Ad):jQ:=(lj<|yf (dA (pE a.tm)<|aa (dV 0)<|aa (dC<|.ty "int") iT)<|yg<|dA (pE a.tm)<|aa (dV 0)<|aa (dC<|.ty "bool") iT)
def vS(a:Ad)(c b:jf):jQ:=(kn (pS (qT (uf (b1 tT (dA c (aa (dV 0) iT)))) (qT (uf (b1 tT (dA c (aa (dV 1) iT)))) (b1 tB (d2 jU (dV 1) (iQ 0))))) (λ_=>.ex a.NoFraction [] []) pT)
    (kn (lG 2 (dA b (aa (dA oK (aa (dV 0) iT)) (aa (dA oK (aa (dV 1) iT)) iT))))
    (kn (pS (b1 tB (d2 m9 (dV 1) (iQ 0))) (lG 2 (d1 wu (dV 2))) pT)
    (lj (dA jv (aa (d2 kR (dV 0) (dV 2)) (aa (d2 kR (dV 1) (dV 2)) iT)))))))
def vW(a:Ad)(b:jf):jQ:=(lj<|dA b<|aa (d2 kr (d2 ku (iW 0 0)<|iW 1 1)<|d2 ku (iW 1 0)<|iW 0 1)<|aa (d2 ku (iW 0 1)<|iW 1 1) iT)
def vV(a:Ad)(b:jf):jQ:=(lj<|dA b<|aa (d2 pe (d2 ku (iW 0 0)<|iW 1 1)<|d2 ku (iW 1 0)<|iW 0 1)<|aa (d2 ku (iW 0 1)<|iW 1 1) iT)
def vX(a:Ad)(b:jf):jQ:=(lj<|dA b<|aa (d2 ku (iW 0 0)<|iW 1 0)<|aa (d2 ku (iW 0 1)<|iW 1 1) iT)
def vY(a:Ad):jQ:=(lj<|d2 m9 (d2 ku (iW 0 0)<|iW 1 1)<|d2 ku (iW 1 0)<|iW 0 1)
def By(a:Ad):jQ:=(kn (pS (b1 tB (d2 nO (iW 0 0) (dA jv (aa (jc "+") (aa (jc "-") (aa (jc "<") (aa (jc "=") (aa (jc "and") (aa (jc "or") iT))))))))) (lj (jq (λb=>((aa (iW 0 1) (aa (iW 0 2) iT)) b).bind jy))) pT)
    (kn (pS (b1 tB (d2 jU (iW 0 0) (jc "times"))) (lj (jq (λb=>((aa (iW 0 2) iT) b).bind jy))) pT)
    (kn (pS (b1 tB (d2 nO (iW 0 0) (dA jv (aa (jc "abs") (aa (jc "not") iT))))) (lj (jq (λb=>((aa (iW 0 1) iT) b).bind jy))) pT)
    (lj (jq (λb=>(iT b).bind jy))))))
def yF(a:Ad)(b:jf):jQ:=(lj<|dA b<|aa (dA oK<|aa (iW 0 0) iT)<|aa (iW 0 1) iT)
def yH(a:Ad):jQ:=(kn (pS (b1 tB (d2 m9 (dV 1) (dA lL (aa (dV 0) iT)))) (lj (d2 jS (dV 0) (dV 1))) pT)
    (lj (iQ 0)))
def A1(a:Ad):jQ:=(zS 2 3<|aa (dV 3)<|aa (d2 j5 (dV 2)<|dV 3) iT)
def yK(a:Ad):jQ:=(kn (zS 2 3 (aa (dA oK (aa (dV 0) iT)) (aa (dV 1) iT)))
    (kn (pj (b1 tB (d2 rN (dV 3) (iQ 0))) (A1 a) sO)
    (lj (dA jv (aa (d2 kR (dV 0) (dV 2)) (aa (d2 kR (dV 1) (dV 2)) iT))))))
def vF(a:Ad):jQ:=(lG 5<|d2 kr (dV 5)<|d2 jS (jc "qxz")<|d2 j5 (d2 kR (dV 0)<|d2 kr (iQ 3)<|dV 6)<|iQ 3)
def vZ(a:Ad):jQ:=(kn (lG 2 (jc "abcdefghijklmnopqrstuvwxyz"))
    (kn (lG 3 (d2 jS (jq (λb=>((aa (iQ 1) (aa (iQ 3) (aa (iQ 5) (aa (iQ 7) (aa (iQ 9) (aa (iQ 11) (aa (iQ 15) (aa (iQ 17) (aa (iQ 19) (aa (iQ 21) (aa (iQ 23) (aa (iQ 25) iT)))))))))))) b).bind jy)) (d2 j5 (d2 kR (dV 0) (iQ 26)) (iQ 12))))
    (kn (lG 4 (d2 kr (d2 jS (dV 2) (d2 j5 (d2 kr (dV 0) (d2 ku (dV 1) (dV 3))) (iQ 26))) (d2 jS (jc "qxz") (d2 j5 (d2 kR (dV 1) (iQ 26)) (iQ 3)))))
    (kn (lG 5 (jc ""))
    (kn (uT (λb=>((aa (d2 j5 (d2 kR (dV 0) (iQ 312)) (iQ 7)) iT) b).bind qD) (gV 6) (vF a))
    (kn (pS (b1 tB (d2 jU (d2 j5 (d2 kR (dV 0) (iQ 2184)) (iQ 2)) (iQ 1))) (lj (d2 kr (dV 5) (dV 4))) pT)
    (lj (d2 kr (dV 4) (dV 5)))))))))
end WP
namespace P2
open PySem PySem.W PyProof.Rows
def lD{b:Type}(n:Nat)(c:Nat->Nat->Bool):KasT b->(b->Prop)->Prop
 |.ret a,Q=>Q a
 |.ask i j k,Q=>i<n/\j<n/\lD n c (k<|c i j) Q
theorem lD.bind{d b:Type}{n:Nat}{c:Nat->Nat->Bool}{f:d->KasT b}{Q:b->Prop}:∀{t:KasT d},lD n c t (λa=>lD n c (f a) Q)->lD n c (t.bind f) Q
 |.ret _,h=>h
 |.ask i j k,h=>⟨h.1,h.2.1,lD.bind (t:=k<|c i j) h.2.2⟩
theorem lD.wp{d:Type}{n}{c:Nat->Nat->Bool}{b:Nat->Nat->(Bool->Shared->Prop)->Shared->Prop}{Q:d->Prop}{G:d->Shared->Prop}{s}
 (e:∀i j,i<n->j<n->∀C:Bool->Shared->Prop,C (c i j) s->b i j C s)(g:∀a,Q a->G a s):∀{t},lD n c t Q->t.kasWp b G s
  |.ret a,h=>g a h
  |.ask i j k,h=>e i j h.1 h.2.1 _ (lD.wp e g (t:=k<|c i j) h.2.2)
section
variable{n:Nat}{c:Nat->Nat->Bool}{o:Nat->Int}
def KK(o:Nat->Int)(p:Array Nat)(i:Nat):Int:=o ((p[i]?).getD 0)
def kP(n:Nat)(p:Array Nat):Prop:=p.Perm (List.toArray<|List.range n)
def kP.size(h:kP n p):p.size=n:=by rw[h.size_eq];simp
def kP.lt(h:kP n p)(b:0<n)(k):p.getD k 0<n:=by
 rw[fU];cases e:p[k]? with
 |none=>simpa using b
 |some x=>
  have a:x∈p.toList:=by have:=fq e;exact dQ.mpr this
  have:=(dX.mp h).mem_iff.mp a;simpa using this
def yG(o:Nat->Int)(p:Array Nat)(i):o (p.getD i 0)=KK o p i:=by unfold KK;rw[fU]
def KK_congr(h:p[i]?=q[j]?):KK o p i=KK o q j:=by unfold KK;rw[h]
def xI{p:Array Nat}(a:j<=p.size)(k):KK o (kas_rev p i j) k=if i<=k/\k<j then KK o p (i+j - 1 - k)else KK o p k:=by
 have:=getElem?_mirror_all (i:=i) a k;unfold kas_rev;split;·rename_i h;rw[av h]at this;exact KK_congr this
 ·rename_i h;rw[aw h]at this;exact KK_congr this
def kP.rev(h:kP n p)(i j):kP n (kas_rev p i j):=(mirror_perm ..).trans h
def kP.N8(h:kP n p)(i j):kP n (bubble p i j):=(bubble_perm ..).trans h
variable(v:∀i j,i<n->j<n->c i j=decide (o i<o j))
include v
theorem vB{b:Type}{p:Array Nat}(h:kP n p)(a:0<n)(i j:Nat){k:Bool->KasT b}{Q:b->Prop}(q:lD n c (k<|decide<|KK o p i<KK o p j) Q):lD n c (.ask (p.getD i 0) (p.getD j 0) k) Q:=by refine⟨h.lt a i,h.lt a j,?_⟩;rw[v _ _ (h.lt a i)<|h.lt a j,yG o p i,yG o p j];exact q
def nS(o:Nat->Int)(p:Array Nat)(m:Nat):Prop:=∀i j,i<=j->j<m->KK o p i<=KK o p j
def nV(o:Nat->Int)(p:Array Nat)(m:Nat):Prop:=∀i j,i<=j->j<m->KK o p j<=KK o p i
omit v in
theorem nS.snoc(h:nS o p m)(d:1<=m)(e:KK o p (m - 1)<=KK o p m):nS o p (m+1):=λi j a b=>by
 by_cases z:j=m
 ·subst z;by_cases y:i=j;·subst y;omega
  ·have:=h i (j - 1) (by omega) (by omega);omega
 ·exact h i j a (by omega)
omit v in
theorem nV.snoc(h:nV o p m)(d:1<=m)(e:KK o p m<=KK o p (m - 1)):nV o p (m+1):=λi j a b=>by
 by_cases z:j=m
 ·subst z;by_cases y:i=j;·subst y;omega
  ·have:=h i (j - 1) (by omega) (by omega);omega
 ·exact h i j a (by omega)
theorem CJ{p:Array Nat}(h:kP n p)(d:0<n){Q:Nat->Prop}:∀(f m:Nat),1<=m->nS o p m->(∀b,m<=b->b<=m+f->nS o p b->(b<m+f->KK o p b<KK o p (b - 1))->Q b)->lD n c (kas_asc p f m) Q
 |0,m,_,a,q=>q m (ah _) (ah _) a λw=>absurd w (by omega)
 |f+1,m,e,a,q=>by
  refine vB v h d m (m - 1) ?_;by_cases z:KK o p m<KK o p (m - 1)
  ·rw[aO z,av rfl];exact q m (ah _) (by omega) a λ_=>z
  ·rw[aI z,aw<|by decide];exact CJ h d f (m+1) (by omega) (a.snoc e<|by omega) λb r l k g=>q b (by omega) (by omega) k λw=>g (by omega)
omit v in
theorem nV.rev(h:nV o p m)(d:b<=p.size)(g:b<=m)(e:∀k,a<=k->k<b->KK o p k=KK o p (b - 1))(k):KK o (kas_rev p a b) k=KK o p k:=by
 rw[xI d];split
 ·rename_i z;rw[e _ (by omega)<|by omega,e k z.1 z.2]
 ·rfl
theorem zu(u:0<n){Q:Array Nat×Nat×Nat->Prop}:∀(f:Nat) (p:Array Nat) (m q:Nat),kP n p->1<=m->m+f<=n->q<m->nV o p m->(∀k,m - (q+1)<=k->k<m->KK o p k=KK o p (m - 1))->
 (∀g d l,kP n g->m<=d->d<=m+f->l<d->nV o g d->(∀k,d - (l+1)<=k->k<d->KK o g k=KK o g (d - 1))->Q (g,d,l))->lD n c (kas_desc f p m q) Q
 |0,p,m,q,h,_,_,G,a,e,r=>r p m q h (ah _) (ah _) G a e
 |f+1,p,m,q,h,J,M,G,a,e,r=>by
  have S:=h.size;refine vB v h u m (m - 1) ?_;by_cases z:KK o p m<KK o p (m - 1)
  ·rw[aO z,av rfl];by_cases y:q>0
   ·rw[av y];have F:=nV.rev (a:=m - (q+1)) (b:=m) a (by omega) (ah _) e;have R:nV o (kas_rev p (m - (q+1)) m) (m+1):=nV.snoc (λi j I O=>by rw[F,F];exact a i j I O) J (by rw[F,F];omega);exact zu u f _ (m+1) 0 (h.rev _ _) (by omega) (by omega) (by omega) R (λk t D=>by rw[show k=m+1 - 1 by omega]) λg d l t D L C B x=>r g d l t (by omega) (by omega) C B x
   ·rw[aw y];exact zu u f p (m+1) 0 h (by omega) (by omega) (by omega) (a.snoc J<|by omega) (λk t D=>by rw[show k=m+1 - 1 by omega]) λg d l t D L C B x=>r g d l t (by omega) (by omega) C B x
  ·rw[aI z,aw<|by decide];refine vB v h u (m - 1) m ?_;by_cases y:KK o p (m - 1)<KK o p m
   ·rw[aO y,av rfl];exact r p m q h (ah _) (by omega) G a e
   ·rw[aI y,aw<|by decide];have eq:KK o p m=KK o p (m - 1):=by omega
    refine zu u f p (m+1) (q+1) h (by omega) (by omega) (by omega) (a.snoc J<|by omega) (λk t D=>?_) λg d l t D L C B x=>r g d l t (by omega) (by omega) C B x;rw[f3];by_cases w:k=m;·rw[w]
    ·rw[e k (by omega)<|by omega,eq]
theorem Ko{p:Array Nat}(h:kP n p)(k:0<n){m:Nat}(g:1<=m)(t:m<=n)(a:nV o p m){Q:Nat×Array Nat->Prop}(q:∀b d,kP n d->1<=b->b<=n->nS o d b->Q (b,d)):lD n c (kas_tail3 m n p) Q:=by have r:=h.size;refine lD.bind (CJ v (h.rev 0 m) k _ _ g (λi j e u=>?_) λb z y l x=>q b _ (h.rev 0 m) (by omega) (by omega) l);rw[xI<|by omega,xI<|by omega,av<|by omega,av<|by omega];exact a _ _ (by omega) (by omega)
theorem Km{p:Array Nat}(h:kP n p)(t:0<n){m:Nat}(B:1<=m)(G:m<n)(a:nV o p m)(e:KK o p m<KK o p (m - 1)){Q:Nat×Array Nat->Prop}(q:∀d g,kP n g->1<=d->d<=n->nS o g d->Q (d,g)):lD n c (kas_descPart m n p) Q:=by
 refine lD.bind (zu v t _ _ _ _ h (by omega) (by omega) (by omega) (a.snoc B<|by omega) (λk l D=>by rw[show k=m+1 - 1 by omega]) λg d y l D J I u C=>?_);dsimp only;have F:=l.size;split
 ·have x:=nV.rev (a:=d - (y+1)) (b:=d) u (by omega) (ah _) C;exact Ko v (l.rev _ _) t (by omega) (by omega) (λi j r z=>by rw[x,x];exact u i j r z) q
 ·exact Ko v l t (by omega) (by omega) u q
theorem U7{p:Array Nat}(h:kP n p)(g:1<=n){Q:Nat×Array Nat->Prop}(q:∀b u,kP n u->1<=b->b<=n->nS o u b->Q (b,u)):lD n c (kas_count n p) Q:=by
 have F:=h.size;refine lD.bind (CJ v h g _ _ (ah 1) (λi j a x=>by rw[show i=j by omega];omega) λm r G l D=>?_);by_cases z:m=n
 ·subst z;simp only[gy,dr];exact q m p h r (ah _) l
 ·have B:¬(m==n)=true:=by simpa using z
  rw[aw B];have e:=D (by omega);split
  ·refine vB v h g 0 (m - 1) ?_;by_cases y:KK o p 0<KK o p (m - 1)
   ·rw[aO y,av rfl];exact q m p h r (by omega) l
   ·rw[aI y,aw<|by decide];have t:∀k,k<m->KK o p k=KK o p (m - 1):=λk C=>by
     have:=l 0 k (by omega) C;have:=l k (m - 1) (by omega) (by omega);omega
    have d:∀k,KK o (kas_rev p 0 m) k=KK o p k:=λk=>by
     rw[xI<|by omega];split;·rw[t _<|by omega,t k<|by omega]
     ·rfl
    exact Km v (h.rev 0 m) g r (by omega) (λi j a x=>by rw[d,d,t i<|by omega,t j x];omega) (by rw[d,d];exact e) q
  ·exact Km v h g r (by omega) (λi j a x=>by rw[show i=j by omega];omega) e q
theorem CL{p:Array Nat}(h:kP n p)(g:0<n){k:Nat}(a:nS o p k){Q:Nat->Prop}(q:∀l,l<=k->(∀i,i<l->KK o p i<=KK o p k)->(∀i,l<=i->i<k->KK o p k<KK o p i)->Q l):
 ∀(f l r:Nat),l<=r->r<=k->r - l<=f->(∀i,i<l->KK o p i<=KK o p k)->(∀i,r<=i->i<k->KK o p k<KK o p i)->lD n c (kas_place p k f l r) Q
 |0,l,r,x,u,t,e,d=>q l (by omega) e λi m b=>d i (by omega) b
 |f+1,l,r,x,u,t,e,d=>by
  show lD n c (if l≥r then .ret l else _) Q;split;·exact q l (by omega) e λi m b=>d i (by omega) b
  ·refine vB v h g k ((l+r)/2) ?_;by_cases z:KK o p k<KK o p ((l+r)/2)
   ·rw[aO z,av rfl];exact CL h g a q f l ((l+r)/2) (by omega) (by omega) (by omega) e λi m b=>by have:=a ((l+r)/2) i (by omega) b;omega
   ·rw[aI z,aw<|by decide];exact CL h g a q f ((l+r)/2+1) r (by omega) (by omega) (by omega) (λi w=>by have:=a i ((l+r)/2) (by omega) (by omega);omega) d
theorem Kl(u:0<n){Q:Array Nat->Prop}(q:∀p,kP n p->nS o p n->Q p):∀(f:Nat) (p:Array Nat) (k:Nat),kP n p->k+f=n->nS o p k->lD n c (kas_bin f p k) Q
 |0,p,k,h,e,a=>q p h (by rw[<-e];exact a)
 |f+1,p,k,h,e,a=>by
  have D:=h.size;refine lD.bind (CL v h u a (λl G C B=>?_) k 0 k (by omega) (ah _) (by omega) (λi w=>absurd w<|by omega) λi z d=>absurd z<|by omega);refine Kl u q f _ (k+1) (h.N8 _ _) (by omega) λi j g F=>?_;have y:∀x,KK o (bubble p k<|k - l) x=if x=l then KK o p k else if l<x/\x<=k then KK o p (x - 1)else KK o p x:=λx=>by
   have:=getElem?_bubble (xs:=p) (src:=k) (by omega) (k - l) (by omega) x;rw[show k - (k - l)=l by omega]at this;split;·rename_i w;rw[av w]at this;exact KK_congr this
   ·rename_i w;rw[aw w]at this;split;·rename_i d;rw[av d]at this;exact KK_congr this
    ·rename_i d;rw[aw d]at this;exact KK_congr this
  rw[y,y];by_cases t:i=l
  ·rw[av t];by_cases b:j=l;·rw[av b];omega
   ·rw[aw b,av<|by omega];have:=B (j - 1) (by omega) (by omega);omega
  ·rw[aw t];by_cases r:l<i/\i<=k
   ·rw[av r,aw<|by omega,av<|by omega];exact a _ _ (by omega) (by omega)
   ·rw[aw r];by_cases b:j=l;·rw[av b];exact C i (by omega)
    ·rw[aw b];by_cases m:l<j/\j<=k;·rw[av m];exact a _ _ (by omega) (by omega)
     ·rw[aw m];exact a _ _ g (by omega)
theorem Vo(b:1<=n){Q:Array Nat->Prop}(q:∀p,kP n p->nS o p n->Q p):lD n c (kas_sort n) Q:=by
 refine lD.bind (U7 v (Array.Perm.refl _) b λa g e k h d=>?_);dsimp only;split
 ·rename_i z;rw[show max a 1=a by omega];exact Kl v b q _ _ _ e (by omega) d
 ·exact q g e (by rw[show n=a by omega];exact d)
end
def rankOf(n:Nat)(c:Nat->Nat->Bool)(i:Nat):Int:=(((List.range n).filter λj=>c j i).length:Nat)
def HV{c:Type}{l:List c}{p q:c->Bool}(h:∀x∈l,p x=true->q x=true):(l.filter p).length<=(l.filter q).length:=by
 induction l with
 |nil=>simp
 |cons a l d=>
  have b:=d λx e=>h x (.tail _ e);have i:=h a (.head _);simp only[List.filter_cons];cases g:p a with
  |true=>rw[i g];simpa using b
  |false=>
   cases j:q a with
   |true=>simp;omega
   |false=>simpa using b
def PC{d:Type}{l:List d}{p q:d->Bool}(h:∀x∈l,p x=true->q x=true){y:d}(c:y∈l)(m:p y=false)(k:q y=true):(l.filter p).length<(l.filter q).length:=by
 induction l with
 |nil=>simp at c
 |cons a l g=>
  have j:=h a (.head _);have le:=HV λx e=>h x (.tail _ e);simp only[List.filter_cons];rcases aE.mp c with rfl|c
  ·rw[m,k];simp only[bh,bL,dr,aj];omega
  ·have b:=g (λx e=>h x<|.tail _ e) c;cases i:p a with
   |true=>rw[j i];simpa using b
   |false=>
    cases n:q a with
    |true=>simp;omega
    |false=>simpa using b
def Z7{n:Nat}{c:Nat->Nat->Bool}(b:∀i,i<n->c i i=false)(m:∀i j k,i<n->j<n->k<n->c i j=true->c j k=true->c i k=true)
    (o:∀i j k,i<n->j<n->k<n->c i j=true->c k j=true\/c i k=true)(i j:Nat)(a:i<n)(g:j<n):c i j=decide (rankOf n c i<rankOf n c j):=by
 cases h:c i j with
 |true=>
  symm
  rw[bx];have:=PC (l:=List.range n) (p:=λk=>c k i) (q:=λk=>c k j) (λk d e=>m k i j (by simpa using d) a g e h) (y:=i) (by simpa using a) (b i a) h;unfold rankOf;omega
 |false=>
  symm
  rw[cS];have:=HV (l:=List.range n) (p:=λk=>c k j) (q:=λk=>c k i) (λk d e=>by
   rcases o k j i (by simpa using d) g a e with h2|h2;· rw[h]at h2;cases h2
   · exact h2)
  unfold rankOf;omega
end P2
namespace P2
open PySem L2 PySem.Spec PySem.Calls
def A9:bootBuiltins "sorted"=some (.builtin "sorted"):=by decide+kernel
open PySem.W
open PyProof.Rows hiding St K
variable{prog:Program}{w:World}{A:Around}{E:jW}{s:Shared}
abbrev aar(κ:SortKind)(us:List Value):SortSt:=SortSt.mk' κ (us.toArray.zip us.toArray) #[] 7 none
def xN(prog:Program)(w:World)(G:Array Value->Prop)(a:List Value)(t:Shared):Prop:=
 ∀B:Around,wpAny (model prog w) B (keyKind' a.toArray) (λc d=>d=t/\wpAny (model prog w) B ((sortRuns').run (aar c a)) (λr b=>b=t/\failedOf r.2=none/\((arrOf r.2).map (·.2)).size=a.length/\G ((arrOf r.2).map (·.2))) (λ_ _=>False) t) (λ_ _=>False) t
def LV{d}{a:List Value}{G:Array Value->Prop}{Q:PySem.Fin->Shared->Prop}(p:s.heap.get? d=some (seqObj "list" a.toArray e))(D:a.length<=sizeLine)(F:a.length<2->G a.toArray)
 (O:2<=a.length->∀t:Shared,(∀b o,b≠d->s.heap.get? b=some o->t.heap.get? b=some o)->xN prog w G a t)
 (k:∀out:Array Value,out.size=a.length->G out->Q (.done<|.ret .none) {s with heap:=sortedHeap s.heap d a out}):wpAny (model prog w) A (Builtin.«list.sort» ⟨[.ref d],[]⟩) Q E s:=by
  have j:d<s.heap.objs.size:=Heap.lt_size p;rw[list_sort_plain];apply ae;apply listItems_at p rfl;apply ae;apply listUpdate_at p rfl (hsz:=by simpa using D) (hsz2:=bQ _);have g:=get?_update_seq p (λ_=>(#[]:Array Value));apply ae;apply seqEpoch_at g rfl;apply ae;refine wpAny_newTuple ?_ (by simpa using D);apply ae;refine wpAny_newList ?_ (bQ _);refine bD ?_;generalize C:((s.heap.update d<|Obj.mapSeq λ_=>(#[]:Array Value)).push (seqObj "tuple" a.toArray 0)).push (seqObj "list" #[] 0)=h6;have R:∀out:Array Value,h6.update d (Obj.mapSeq λ_=>out)=sortedHeap s.heap d a out:=λout=>by rw[<-C];rfl
  have y:d≠(s.heap.update d<|Obj.mapSeq λ_=>(#[]:Array Value)).objs.size:=by rw[gz];exact aR j
  have v:∀o:Obj,d≠((s.heap.update d<|Obj.mapSeq λ_=>(#[]:Array Value)).push o).objs.size:=λo=>by rw[size_push',gz];exact aR (bN j)
  have c:∃m,h6.get? d=some (seqObj "list" #[] m)/\((s.heap.update d<|Obj.mapSeq λ_=>(#[]:Array Value)).get? d=some (seqObj "list" #[] m)):=by refine⟨_,?_,g⟩;rw[<-C,Heap.get?_push_ne _ _ _<|v _,Heap.get?_push_ne _ _ _ y];exact g
  obtain⟨m,c,l⟩:=c;have I:=g.symm.trans l;have u:∀b o,b≠d->s.heap.get? b=some o->h6.get? b=some o:=λb o M q=>by rw[<-C];refine ag _ (ag _ ?_);rw[ec _ _ _ _ M];exact q
  show wpAny (model prog w) A _ Q E {s with heap:=h6};dsimp only;have h:∀out:Array Value,out.size=a.length->G out->wpAny (model prog w) A (Builtin.List.listUpdate (.ref d) λ_=>out) (λ_ t=>t={s with heap:=sortedHeap s.heap d a out}) E {s with heap:=h6}:=λout L n=>by refine listUpdate_at (s:={s with heap:=h6}) c rfl ?_ (hsz:=bQ _) (hsz2:=by rw[L];omega);show({s with heap:=h6.update d<|Obj.mapSeq λ_=>out}:Shared)=_;rw[R out]
  by_cases i:a.toArray.size<2
  ·rw[av i,av i];apply ae;apply af;rw[StateT.run_pure];apply ae;apply af;dsimp only;apply ae;apply seqEpoch_at (s:={s with heap:=h6}) c rfl;have S:(arrOf<|SortSt.mk' general' (a.toArray.zip a.toArray) #[] 7 none).map (·.2)=a.toArray:=by
    show(a.toArray.zip a.toArray).map (·.2)=_;apply d4.mp;rw[Array.toList_map];simp only[Array.toList_zip];rw[<-List.unzip_snd,List.unzip_zip rfl]
   rw[S];refine ae (bp (h a.toArray (by simp)<|F<|by simpa using i) (λ_ t z=>?_) λ_ _ x=>x);subst z;have:m=(if(#[]:Array Value).size==a.toArray.size then e else e+1):=by injection I with w1;injection w1 with _ _ w2;injection w2 with _ w3;exact w3.symm
   rw[<-this];simp only[bne_self_eq_false,bh,bL];exact af (k _ (by simp)<|F<|by simpa using i)
  ·rw[aw i,aw i];refine ae (bp (O (by simpa using i) {s with heap:=h6} u A) (λT t B=>?_) λ_ _ x=>x.elim);obtain⟨rfl,B⟩:=B;refine ae (bp B (λr t J=>?_) λ_ _ x=>x.elim);obtain⟨rfl,hf,hsz,n⟩:=J;obtain⟨⟨⟩,U⟩:=r;dsimp only at hf hsz n⊢;apply ae;apply seqEpoch_at (s:={s with heap:=h6}) c rfl;refine ae (bp (h _ hsz n) (λ_ t z=>?_) λ_ _ x=>x);subst z;rw[hf];have:m=(if(#[]:Array Value).size==a.toArray.size then e else e+1):=by injection I with w1;injection w1 with _ _ w2;injection w2 with _ w3;exact w3.symm
   rw[<-this];simp only[bne_self_eq_false,bh,bL];exact af (k _ hsz n)
def abc{a:List Value}{G:Array Value->Prop}{Q:jW}(n:s.heap.IsList l a.toArray)(d:a.length<=sizeLine)(v:a.length<2->G a.toArray)
 (u:2<=a.length->∀t:Shared,(∀b o,s.heap.get? b=some o->t.heap.get? b=some o)->xN prog w G a t)
 (k:∀out:Array Value,out.size=a.length->G out->Q (.ref<|s.heap.objs.size+1) {s with heap:=sortedAll s.heap a out}):wpAny (model prog w) A (call (.builtin "sorted") [.ref l]) Q E s:=by
  refine call_function_entry kind_sorted plain_sorted entry_sorted (args_sorted1 _) ?_;unfold Builtin.«sorted»;refine ae (m:=checkCount "sorted" 1 1 _) (af ?_);apply ae;refine collect_list n ?_ d;apply ae;refine wpAny_newList ?_ d;have c:((s.heap.push<|seqObj "list" #[] 0).update s.heap.objs.size (Obj.mapSeq (· ++a.toArray))).objs.size=s.heap.objs.size+1:=by rw[gz,size_push']
  generalize h:(s.heap.push<|seqObj "list" #[] 0).update s.heap.objs.size (Obj.mapSeq (· ++a.toArray))=g at c;have here:(g.push<|seqObj "list" a.toArray 0).get? (s.heap.objs.size+1)=some (seqObj "list" a.toArray 0):=by rw[<-c];exact aG _ rfl
  have kp:∀b o,s.heap.get? b=some o->b≠s.heap.objs.size+1/\(g.push<|seqObj "list" a.toArray 0).get? b=some o:=λb o q=>by have lt:=Heap.lt_size q;refine⟨aR<|bN lt,ag _ ?_⟩;rw[<-h,ec _ _ _ _<|aR lt];exact ag _ q
  show wpAny _ _ _ _ _ {s with heap:=g.push<|seqObj "list" a.toArray 0};rw[c];refine ae (bD<|bA slot_list_sort ⟨_,here,rfl⟩ entry_list_sort (LV (s:={s with heap:=g.push<|seqObj "list" a.toArray 0}) here d v (λr t i=>u r t λb o q=>i b o (kp b o q).1 (kp b o q).2) λout j p=>⟨_,rfl,?_⟩)<|args_list_sort _);refine af ⟨_,rfl,?_⟩;have e:sortedHeap (g.push<|seqObj "list" a.toArray 0) (s.heap.objs.size+1) a out=sortedAll s.heap a out:=by rw[<-h];rfl
  show Q _ ({s with heap:=sortedHeap (g.push<|seqObj "list" a.toArray 0) (s.heap.objs.size+1) a out}:Shared);rw[e];exact k out j p
def ny:List D->List D->Bool
 |.int i::xs,.int j::a=>if i=j then ny xs a else decide (i<j)
 |.str i::xs,.str j::a=>if i=j then ny xs a else decide (i.cps.toList<j.cps.toList)
 |[],_::_=>true
 |_,_=>false
def ltQ:D->D->Bool
 |.int i,.int j=>decide (i<j)
 |.str i,.str j=>decide (i.cps.toList<j.cps.toList)
 |.tup a,.tup b=>ny a b
 |_,_=>false
def ox:List D->Option (List Nat)
 |[]=>some []
 |.int _::r=>(ox r).map (0:: ·)
 |.str _::r=>(ox r).map (1:: ·)
 |_=>none
def ki:D->Option (List Nat)
 |.int _=>some [0]
 |.str _=>some [1]
 |.tup (a::r)=>(ox<|a::r).map (2:: ·)
 |_=>none
def mi:List D->Bool
 |[]=>true
 |d::r=>(ki d).isSome&&r.all λe=>ki e==ki d
def yW(h:mi ds=true):∃s,∀d∈ds,ki d=some s:=by
 cases ds with
 |nil=>exact⟨[],λd c=>by simp at c⟩
 |cons d r=>
  unfold mi at h;simp only[aS,cK,dR]at h;obtain⟨s,b⟩:=eA.mp h.1;refine⟨s,λe a=>?_⟩;rcases aE.mp a with rfl|a;·exact b
  ·rw[h.2 e a,b]
def abj{x y:Str}(h:x.cps.toList=y.cps.toList):x=y:=by
 cases x;cases y;simp only at h
 congr 1
 exact d4.mp h
def LO{x y:Str}(b:¬x.cps.toList<y.cps.toList)(a:¬y.cps.toList<x.cps.toList):x=y:=
 abj (List.le_antisymm (List.not_lt.mp a)<|List.not_lt.mp b)
def tG{i:Int}{s}(h:ox (.int i::r)=some s):∃t,s=0::t/\ox r=some t:=by obtain⟨t,b,a⟩:=aF.mp (show(ox r).map (0:: ·)=some s from h);exact⟨t,a.symm,b⟩
def tH{s}(h:ox (.str i::r)=some s):∃t,s=1::t/\ox r=some t:=by obtain⟨t,b,a⟩:=aF.mp (show(ox r).map (1:: ·)=some s from h);exact⟨t,a.symm,b⟩
inductive nk:List D->List D->Prop
 |nil:nk [] []
 |int (i j:Int) {xs ys:List D}:nk xs ys->nk (.int i::xs) (.int j::ys)
 |str (i j:Str) {xs ys:List D}:nk xs ys->nk (.str i::xs) (.str j::ys)
theorem EL:∀{a b} {s},ox a=some s->ox b=some s->nk a b
 |[],b,s,c,g=>by
  cases c;cases b with
  |nil=>exact .nil
  |cons d r=>
   cases d with
   |int i=>obtain⟨t,e,_⟩:=tG g;cases e
   |str i=>obtain⟨t,e,_⟩:=tH g;cases e
   |_=>cases g
 |.int i::xs,b,s,c,g=>by
  obtain⟨t,rfl,l⟩:=tG c;cases b with
  |nil=>cases g
  |cons d r=>
   cases d with
   |int j=>obtain⟨h,e,k⟩:=tG g;cases e;exact .int i j (EL l k)
   |str j=>obtain⟨h,e,_⟩:=tH g;cases e
   |_=>cases g
 |.str i::xs,b,s,c,g=>by
  obtain⟨t,rfl,l⟩:=tH c;cases b with
  |nil=>cases g
  |cons d r=>
   cases d with
   |str j=>obtain⟨h,e,k⟩:=tH g;cases e;exact .str i j (EL l k)
   |int j=>obtain⟨h,e,_⟩:=tG g;cases e
   |_=>cases g
 |.non::_,_,_,c,_=>by cases c
 |.bl _::_,_,_,c,_=>by cases c
 |.ty _::_,_,_,c,_=>by cases c
 |.ref _::_,_,_,c,_=>by cases c
 |.tup _::_,_,_,c,_=>by cases c
 |.lst _::_,_,_,c,_=>by cases c
 |.exc _ _ _::_,_,_,c,_=>by cases c
def wo(i j:Int)(xs ys):ny (.int i::xs) (.int j::ys)=if i=j then ny xs ys else decide (i<j):=rfl
def wq(i j xs ys):ny (.str i::xs) (.str j::ys)=if i=j then ny xs ys else decide (i.cps.toList<j.cps.toList):=rfl
def JH(h:nk a b):ny a a=false:=by
 induction h with
 |nil=>rfl
 |int i j h c=>rw[wo,av rfl];exact c
 |str i j h c=>rw[wq,av rfl];exact c
def SX(h:nk a b)(d:ny a b=false)(c:ny b a=false):a=b:=by
 induction h with
 |nil=>rfl
 |int i j h g=>
  rw[wo]at d c;by_cases e:i=j
  ·subst e;rw[av rfl]at d c;rw[g d c]
  ·rw[aw e]at d;rw[aw<|bV e]at c;simp only[cS]at d c;omega
 |str i j h g=>
  rw[wq]at d c;by_cases e:i=j
  ·subst e;rw[av rfl]at d c;rw[g d c]
  ·rw[aw e]at d;rw[aw<|bV e]at c;simp only[cS]at d c;exact absurd (LO d c) e
def SW{a b c:List D}(p:nk a b)(q:nk b c)(l:ny a b=true)(d:ny b c=true):ny a c=true:=by
 have o:∀{α m:Type} [DecidableEq α] [LT m] [DecidableRel (α:=m) (· < ·)] (g:α->m),(∀{i j k:m},i<j->j<k->i<k)->(∀i:m,¬i<i)->∀{i j k:α} {P Q R:Bool},(P=true->Q=true->R=true)->(if i=j then P else decide (g i<g j))=true->(if j=k then Q else decide (g j<g k))=true->(if i=k then R else decide (g i<g k))=true:=by
  intro α m _ _ _ g r u i j k P Q R h l d;by_cases e:i=j
  ·subst e;rw[av rfl]at l;by_cases f:i=k
   ·subst f;rw[av rfl]at d⊢;exact h l d
   ·rw[aw f]at d⊢;exact d
  ·rw[aw e]at l;by_cases f:j=k
   ·subst f;rw[aw e];exact l
   ·rw[aw f]at d;have t:=r (cb l) (cb d);rw[aw λw=>u _<|w▸t];exact aO t
 induction p generalizing c with
 |nil=>cases l
 |int i j p n=>
  cases q with
  |int _ k q=>rw[wo]at l d⊢;exact o id Int.lt_trans Int.lt_irrefl (n q) l d
 |str i j p n=>
  cases q with
  |str _ k q=>rw[wq]at l d⊢;exact o (λx:Str=>x.cps.toList) List.lt_trans (λ_=>List.lt_irrefl _) (n q) l d
inductive xQ:D->D->Prop
 |int (i j:Int):xQ (.int i) (.int j)
 |str (i j:Str):xQ (.str i) (.str j)
 |tup {a b:List D} {d e:D}:nk (d::a) (e::b)->xQ (.tup<|d::a) (.tup<|e::b)
def pU{s}(h:ki x=some s):(∃i,x=.int i/\s=[0])\/(∃i,x=.str i/\s=[1])\/∃d r t,x=.tup (d::r)/\s=2::t/\ox (d::r)=some t:=by
 unfold ki at h;split at h;·cases h;exact .inl ⟨_,rfl,rfl⟩
 ·cases h;exact .inr (.inl ⟨_,rfl,rfl⟩)
 ·rename_i a r;obtain⟨t,c,b⟩:=aF.mp h;exact .inr (.inr ⟨a,r,t,rfl,b.symm,c⟩)
 ·cases h
def rn{s}(k:ki x=some s)(a:ki y=some s):xQ x y:=by
 rcases pU k with⟨i,rfl,rfl⟩|⟨i,rfl,rfl⟩|⟨d,r,t,rfl,rfl,l⟩
 ·rcases pU a with⟨j,rfl,_⟩|⟨j,rfl,e⟩|⟨h,g,c,rfl,e,b⟩;·exact .int i j
  ·cases e
  ·cases e
 ·rcases pU a with⟨j,rfl,e⟩|⟨j,rfl,e⟩|⟨h,g,c,rfl,e,b⟩;·cases e
  ·exact .str i j
  ·cases e
 ·rcases pU a with⟨j,rfl,e⟩|⟨j,rfl,e⟩|⟨h,g,c,rfl,e,b⟩;·cases e
  ·cases e
  ·cases e;exact .tup (EL l b)
def JT{s}(h:ki x=some s):ltQ x x=false:=by
 cases rn h h with
 |int i j=>exact aI (by omega)
 |str i j=>exact aI (List.lt_irrefl _)
 |tup q=>exact JH q
def CA{s}(g:ki x=some s)(e:ki y=some s)(d:ltQ x y=false)(c:ltQ y x=false):x=y:=by
 cases rn g e with
 |int i j=>have a:=eH d;have b:=eH c;rw[show i=j by omega]
 |str i j=>rw[LO (eH d)<|eH c]
 |tup q=>rw[SX q d c]
def ze{s}(l:ki x=some s)(c:ki y=some s)(d:ki z=some s)(g:ltQ x y=true)(e:ltQ y z=true):ltQ x z=true:=by
 cases rn l c with
 |int i j=>
  cases rn c d with
  |int _ k=>have a:=cb g;have b:=cb e;exact aO (by omega)
 |str i j=>
  cases rn c d with
  |str _ k=>exact aO (List.lt_trans (cb g)<|cb e)
 |tup q=>
  cases rn c d with
  |tup h=>exact SW q h g e
def uB(x:D):List D->List D
 |[]=>[x]
 |y::r=>if ltQ y x=true then y::uB x r else x::y::r
def ky(a:List D):List D:=a.foldr uB []
def tY(c:List D):Prop:=c.Pairwise λa b=>ltQ b a=false
theorem BW(x):∀r:List D,(uB x r).Perm (x::r)
 |[]=>.refl _
 |y::r=>by
  unfold uB;split;·exact((BW x r).cons y).trans (.swap x y r)
  ·exact .refl _
theorem mV:∀a:List D,(ky a).Perm a
 |[]=>.refl _
 |d::r=>(BW d<|ky r).trans ((mV r).cons d)
theorem I7{s}(e:ki x=some s):∀{r},(∀d∈r,ki d=some s)->tY r->tY (uB x r)
 |[],_,_=>gA ..
 |y::r,i,h=>by
  have c:=i y (.head _);obtain⟨j,m⟩:=eI.mp h;unfold uB;split
  ·rename_i lt;refine eI.mpr ⟨λz a=>?_,I7 e (λd l=>i d<|.tail _ l) m⟩;rcases aE.mp ((BW x r).mem_iff.mp a)with rfl|a
   ·cases q:ltQ z y with
    |false=>rfl
    |true=>have:=ze c e c lt q;rw[JT c]at this;cases this
   ·exact j z a
  ·rename_i lt;have b:ltQ y x=false:=by simpa using lt
   refine eI.mpr ⟨λz a=>?_,h⟩;rcases aE.mp a with rfl|a;·exact b
   ·cases q:ltQ z x with
    |false=>rfl
    |true=>
     have g:=i z (.tail _ a);cases k:ltQ x y with
     |true=>have:=ze g e c q k;rw[j z a]at this;cases this
     |false=>rw[CA e c k b]at q;rw[j z a]at q;cases q
theorem uX{s}:∀{b},(∀d∈b,ki d=some s)->tY (ky b)
 |[],_=>.nil
 |d::r,h=>I7 (h d<|.head _) (λe a=>h e<|.tail _<|(mV r).mem_iff.mp a) (uX λe a=>h e<|.tail _ a)
def DB{s}{a:List D}(h:a.Perm b)(c:∀d∈a,ki d=some s)(j:tY a)(i:tY b):a=b:=
 List.Perm.eq_of_pairwise (λx y g e l k=>CA (c x g) (c y<|h.symm.mem_iff.mp e) k l) j i h
def wY:D->R (List D)
 |.lst ds=>if mi ds=true/\ds.length<64 then .ok (ky ds)else .bad
 |_=>.bad
def tQ:D->Value->Prop
 |.int i,.int j _=>i=j
 |.str x,.str y _=>x=y
 |_,_=>False
inductive qK:List D->List Value->Prop
 |nil:qK [] []
 |cons {d:D} {v:Value} {ds:List D} {vs:List Value}:tQ d v->qK ds vs->qK (d::ds) (v::vs)
def TupAt(h:Heap)(u:Value)(c:List D):Prop:=∃a o b n,u=.ref a/\h.get? a=some o/\o.cls=.type "tuple"/\o.data=.seq b n/\qK c b.toList
def TupAt.keep{c:Heap}{u}(t:TupAt h u ds)(k:∀b o,h.get? b=some o->c.get? b=some o):TupAt c u ds:=
 let⟨a,o,d,n,g,e,r⟩:=t;⟨a,o,d,n,g,k a o e,r⟩
def qL(h:Heap)(u:Value):D->Prop
 |.int i=>tQ (.int i) u
 |.str x=>tQ (.str x) u
 |.tup ds=>TupAt h u ds
 |_=>False
def qL.keep{a:Heap}{u d}(t:qL h u d)(k:∀b o,h.get? b=some o->a.get? b=some o):qL a u d:=by
 cases d with
 |tup c=>exact TupAt.keep t k
 |_=>exact t
def uu{i:Int}(h:tQ (.int i) v):∃t,v=.int i t:=by
 cases v with
 |int j t=>cases h;exact⟨t,rfl⟩
 |_=>exact h.elim
def uv(h:tQ (.str i) v):∃t,v=.str i t:=by
 cases v with
 |str j t=>cases h;exact⟨t,rfl⟩
 |_=>exact h.elim
def VG{i j:Int}{t u}{Q:Bool->Shared->Prop}(h:Q (decide<|i<j) s):wpAny (model prog w) A (oneLt' b (.int i t)<|.int j u) Q E s:=by
 cases b with
 |true=>exact oneLt_int h
 |false=>exact kat_one _ _ (lt_int h)
def VH{i j:Str}{t u}{Q:Bool->Shared->Prop}(h:Q (decide<|i.cps.toList<j.cps.toList) s):wpAny (model prog w) A (oneLt' b (.str i t)<|.str j u) Q E s:=by
 cases b with
 |true=>exact oneLt_str h
 |false=>exact kat_one _ _ (PyProof.Rows.lt_str h)
def SU{Q:Bool->Shared->Prop}:∀{b a},nk b a->∀{d c} i,qK b d->qK a c->(b=a->Q fin s)->(b≠a->Q (ny b a) s)->KatLex prog w A fl fin Q (d.zip c) i s:=by
 intro b a q;induction q with
 |nil=>intro d c i f g h _;cases f;cases g;exact h rfl
 |int x y q m=>
  intro d c i f g n j;cases f with
  |cons p l=>
   cases g with
   |cons o k=>
    obtain⟨t,rfl⟩:=uu p;obtain⟨r,rfl⟩:=uu o;rw[f5];refine kat_cons (wpAny_eqBool_int ?_);by_cases e:x=y
    ·subst e;rw[show(x==x)=true by simp];refine kat_yes (m (i+1) l k (λw=>n<|by rw[w]) λw=>?_);have:=j (λz=>w<|by injection z)
     rwa [wo,av rfl]at this
    ·rw[show(x==y)=false by simpa using e];refine kat_no (VG ?_);have:=j (λz=>e<|by injection z with z1;injection z1)
     rwa [wo,aw e]at this
 |str x y q m=>
  intro d c i f g n j;cases f with
  |cons p l=>
   cases g with
   |cons o k=>
    obtain⟨t,rfl⟩:=uv p;obtain⟨r,rfl⟩:=uv o;rw[f5];refine kat_cons (wpAny_eqBool_str ?_);by_cases e:x=y
    ·subst e;rw[show decide (x=x)=true by simp];refine kat_yes (m (i+1) l k (λw=>n<|by rw[w]) λw=>?_);have:=j (λz=>w<|by injection z)
     rwa [wq,av rfl]at this
    ·rw[show decide (x=y)=false by simpa using e];refine kat_no (VH ?_);have:=j (λz=>e<|by injection z with z1;injection z1)
     rwa [wq,aw e]at this
def nk.len(q:nk xs ys):xs.length=ys.length:=by
 induction q with
 |nil=>rfl
 |int i j h a=>rw[aj,aj,a]
 |str i j h a=>rw[aj,aj,a]
def Gj(h:qK xs us):xs.length=us.length:=by
 induction h with
 |nil=>rfl
 |cons _ _ a=>rw[aj,aj,a]
def ab3{u}{Q:Bool->Shared->Prop}(q:nk xs ys)(l:TupAt s.heap u xs)(hv:TupAt s.heap v ys)(h:Q (ny xs ys) s):wpAny (model prog w) A (keyLt' (tuples' fl) u v) Q E s:=by obtain⟨a,o,i,n,rfl,t,B,r,c⟩:=l;obtain⟨b,p,g,m,rfl,y,C,x,d⟩:=hv;refine kat_lt t r y x (SU q 0 c d (λe=>?_) λ_=>h);have k:=Gj c;have j:=Gj d;have z:=q.len;simp only[aC]at k j;subst e;rw[JH q]at h;rw[show decide (i.size<g.size)=false from aI (by omega)];exact h
inductive mm(h:Heap):List Value->List D->Prop
 |nil:mm h [] []
 |cons {u:Value} {d:D} {us:List Value} {ds:List D}:qL h u d->mm h us ds->mm h (u::us) (d::ds)
def mm.keep{c:Heap}(t:mm h us ds)(k:∀b o,h.get? b=some o->c.get? b=some o):mm c us ds:=by
 induction t with
 |nil=>exact .nil
 |cons a _ d=>exact .cons (a.keep k) d
def mm.len(t:mm h us ds):us.length=ds.length:=by
 induction t with
 |nil=>rfl
 |cons a _ b=>rw[aj,aj,b]
def mm.get(t:mm h us ds):∀{i},i<ds.length->qL h (us.getD i .none) (ds.getD i .non):=by
 induction t with
 |nil=>intro i b;simp at b
 |cons a _ c=>
  intro i b;cases i with
  |zero=>simpa using a
  |succ i=>simpa using c (by simpa using b)
theorem I8:∀{c} {g},mm h c g->(∀d∈g,ki d=some [0])->∃b,IntsAre c b
 |_,_,.nil,_=>⟨[],.nil⟩
 |_,_,.cons (d:=d) a r,hs=>by
  rcases pU (hs d (.head _))with⟨i,rfl,_⟩|⟨i,rfl,e⟩|⟨_,_,_,rfl,e,_⟩
  ·obtain⟨t,rfl⟩:=uu a;obtain⟨b,j⟩:=I8 r λd k=>hs d (.tail _ k);exact⟨i::b,.cons i t j⟩
  ·cases e
  ·cases e
theorem L0:∀{c} {g},mm h c g->(∀d∈g,ki d=some [1])->∃b,StrsAre c b
 |_,_,.nil,_=>⟨[],.nil⟩
 |_,_,.cons (d:=d) a r,hs=>by
  rcases pU (hs d (.head _))with⟨i,rfl,e⟩|⟨i,rfl,_⟩|⟨_,_,_,rfl,e,_⟩;·cases e
  ·obtain⟨t,rfl⟩:=uv a;obtain⟨b,j⟩:=L0 r λd k=>hs d (.tail _ k);exact⟨i::b,.cons i t j⟩
  ·cases e
theorem Mf{k t}:∀{g} {q},mm h g q->(∀d∈q,ki d=some (2::k::t))->∃fs,KatTups h g fs/\fs.length=g.length/\∀v∈fs,(k=0/\∃i u,v=.int i u)\/(k=1/\∃i u,v=.str i u)
 |_,_,.nil,_=>⟨[],.nil,rfl,λv hv=>by simp at hv⟩
 |_,_,.cons (d:=d) a r,hs=>by
  obtain⟨fs,I,G,F⟩:=Mf r λd x=>hs d (.tail _ x);rcases pU (hs d (.head _))with⟨i,rfl,e⟩|⟨i,rfl,e⟩|⟨J,O,M,rfl,e,l⟩;·cases e
  ·cases e
  ·cases e;obtain⟨b,o,p,n,rfl,C,B,y,c⟩:=a;cases j:p.toList with
   |nil=>rw[j]at c;cases c
   |cons f L=>
    rw[j]at c;cases c with
    |cons hf Q=>
     have D:p[0]?=some f:=by rw[<-bc,j];rfl
     refine⟨f::fs,.cons C B y D I,by simp[G],λv hv=>?_⟩;rcases aE.mp hv with rfl|hv
     ·cases J with
      |int i=>obtain⟨z,m,_⟩:=tG l;cases m;obtain⟨u,rfl⟩:=uu hf;exact .inl ⟨rfl,i,u,rfl⟩
      |str i=>obtain⟨z,m,_⟩:=tH l;cases m;obtain⟨u,rfl⟩:=uv hf;exact .inr ⟨rfl,i,u,rfl⟩
      |_=>cases l
     ·exact F v hv
def Sy(t:mm s.heap us ds)(h2:2<=us.length)(G:∀d∈ds,ki d=some sg):
    ∃O:SortKind,(∀Q:SortKind->Shared->Prop,Q O s->wpAny (model prog w) A (keyKind' us.toArray) Q E s)/\
     ∀i j,i<ds.length->j<ds.length->∀C:Bool->Shared->Prop,C (ltQ (ds.getD i .non)<|ds.getD j .non) s->wpAny (model prog w) A (keyLt' O (us.getD i .none)<|us.getD j .none) C E s:=by
 have hl:=t.len;have n:∀i,i<ds.length->ki (ds.getD i .non)=some sg:=λi h=>by rw[aQ,ao h,fE];exact G _ (b9 h)
 have d0:=n 0 (by omega);obtain⟨D,B,r,rfl⟩:∃D B r,us=D::B::r:=by
  match us,h2 with
  |D::B::r,_=>exact⟨D,B,r,rfl⟩
 rcases pU d0 with⟨i0,S,rfl⟩|⟨i0,S,rfl⟩|⟨U,r0,Y,S,rfl,o⟩
 ·obtain⟨Z,J⟩:=I8 t G;refine⟨oneType',λQ q=>by rw[keyKind_ints J];exact af q,λi j h l C c=>?_⟩;have a:=t.get h;have b:=t.get l;have g:=n i h;have m:=n j l;generalize ds.getD i .non=x at a c g;generalize ds.getD j .non=y at b c m;cases rn g m with
  |int x y=>obtain⟨F,p⟩:=uu a;obtain⟨V,o⟩:=uu b;rw[p,o,keyLt'_oneType];exact oneLt_int c
  |str x y=>cases g
  |tup q=>rcases pU g with⟨_,e,_⟩|⟨_,e,_⟩|⟨_,_,_,_,e,_⟩<;>cases e
 ·obtain⟨Z,J⟩:=L0 t G;refine⟨oneType',λQ q=>by rw[keyKind_strs J];exact af q,λi j h l C c=>?_⟩;have a:=t.get h;have b:=t.get l;have g:=n i h;have m:=n j l;generalize ds.getD i .non=x at a c g;generalize ds.getD j .non=y at b c m;cases rn g m with
  |int x y=>cases g
  |str x y=>obtain⟨F,p⟩:=uv a;obtain⟨V,o⟩:=uv b;rw[p,o,keyLt'_oneType];exact oneLt_str c
  |tup q=>rcases pU g with⟨_,e,_⟩|⟨_,e,_⟩|⟨_,_,_,_,e,_⟩<;>cases e
 ·obtain⟨k,F,I⟩:∃k F,Y=k::F:=by
   cases U with
   |int i=>obtain⟨z,p,_⟩:=tG o;exact⟨_,_,p⟩
   |str i=>obtain⟨z,p,_⟩:=tH o;exact⟨_,_,p⟩
   |_=>cases o
  subst I;obtain⟨fs,R,M,L⟩:=Mf t G;refine⟨tuples' true,λQ q=>?_,λi j h l C c=>?_⟩
  ·have hk:k=0\/k=1:=by
    cases fs with
    |nil=>simp at M
    |cons f fr=>rcases L f (.head _)with⟨e,_⟩|⟨e,_⟩<;>omega
   rcases hk with rfl|rfl
   ·refine kat_kind (T:=.type "int") R (by rw[M];omega) (λv hv=>?_) (by rfl) q;rcases L v hv with⟨_,i,u,rfl⟩|⟨e,_⟩;·exact .now
    ·cases e
   ·refine kat_kind (T:=.type "str") R (by rw[M];omega) (λv hv=>?_) (by rfl) q;rcases L v hv with⟨e,_⟩|⟨_,i,u,rfl⟩;·cases e
    ·exact .now
  ·have a:=t.get h;have b:=t.get l;have g:=n i h;have m:=n j l;generalize ds.getD i .non=x at a c g;generalize ds.getD j .non=y at b c m;cases rn g m with
   |int x y=>cases g
   |str x y=>cases g
   |tup q=>exact ab3 q a b c
def outs(a:List Value)(p:Array Nat):List Value:=p.toList.map λi=>a.getD i .none
def outD(a:List D)(p:Array Nat):List D:=p.toList.map λi=>a.getD i .non
def BA{a:Type}(l:List a)(x):(List.range l.length).map (λi=>l.getD i x)=l:=by
 apply gC;·simp
 ·intro i c b;simp[gD,b]
def V3{a:List D}(h:kP a.length p):(outD a p).Perm a:=by have:=(dX.mp h).map λi=>a.getD i .non;rw[show(List.range a.length).toArray.toList=List.range a.length from rfl,BA]at this;exact this
def V4(q:∀d∈ds,ki d=some sg)(h:kP ds.length p)(k:0<ds.length)
 (a:nS (rankOf ds.length λi j=>ltQ (ds.getD i .non)<|ds.getD j .non) p ds.length)(o:∀i j,i<ds.length->j<ds.length->ltQ (ds.getD i .non) (ds.getD j .non)=decide (rankOf ds.length (λi j=>ltQ (ds.getD i .non)<|ds.getD j .non) i<rankOf ds.length (λi j=>ltQ (ds.getD i .non)<|ds.getD j .non) j)):tY (outD ds p):=by
  have sz:=h.size;refine gg.mpr λi j c b n=>?_;unfold outD at c b⊢;rw[ai,aC]at c b;rw[gD,gD,ie,ie];have m:p.getD i 0=p[i]:=by simp[Array.getD,c]
  have l:p.getD j 0=p[j]:=by simp[Array.getD,b]
  have g:=h.lt k i;have e:=h.lt k j;have le:=a i j (by omega) (by omega);rw[<-yG,<-yG]at le;rw[m]at g le;rw[l]at e le;rw[o _ _ e g];exact aI (by omega)
def EB(t:mm s.heap us ds)(T:mi ds=true)(J:2<=us.length)(v:us.length<64):xN prog w (λout=>∃p,kP ds.length p/\out.toList=P2.outs us p/\outD ds p=ky ds) us s:=by
 intro B;obtain⟨L,m⟩:=yW T;obtain⟨κ,R,O⟩:=Sy (prog:=prog) (w:=w) (A:=B) (E:=λ_ _=>False) t J m;have S:=t.len;have g:∀i,i<ds.length->ki (ds.getD i .non)=some L:=λi a=>by rw[aQ,ao a,fE];exact m _ (b9 a)
 have I:=Z7 (n:=ds.length) (c:=λi j=>ltQ (ds.getD i .non)<|ds.getD j .non) (λi a=>JT<|g i a) (λi j k a o u=>ze (g i a) (g j o)<|g k u) λi j k a o u h=>by
  cases D:ltQ (ds.getD k .non) (ds.getD j .non)with
  |true=>exact .inl rfl
  |false=>
   cases M:ltQ (ds.getD i .non) (ds.getD k .non)with
   |true=>exact .inr rfl
   |false=>
    cases z:ltQ (ds.getD k .non) (ds.getD i .non)with
    |true=>have:=ze (g k u) (g i a) (g j o) z h;rw[D]at this;cases this
    |false=>have:=CA (g i a) (g k u) M z;rw[this,D]at h;cases h
 refine R _ ⟨rfl,?_⟩
 refine bp (kat_run (ks:=us) (vs:=us) (Q:=λb l=>l=s/\failedOf b=none/\((arrOf b).map (·.2)).size=us.length/\∃p,kP ds.length p/\((arrOf b).map (·.2)).toList=P2.outs us p/\outD ds p=ky ds)
  (G:=λp l=>l=s/\kP ds.length p/\outD ds p=ky ds) rfl J v (λp b l a1 a2 a3 a4=>?_) ?_) (λr l q=>q) λ_ _ x=>x
 ·obtain⟨b1,Z,Y⟩:=a4;have e:=kat_snds rfl a2;refine⟨b1,a3,?_,p,Z,?_,Y⟩;·rw[e];simp[a1]
  ·rw[e];rfl
 ·rw[S];refine lD.wp (c:=λi j=>ltQ (ds.getD i .non)<|ds.getD j .non) (Q:=λp=>kP ds.length p/\outD ds p=ky ds) (λi j a o C c=>O i j a o C c) (λp q=>⟨rfl,q⟩) ?_;refine Vo I (by omega) λp y V=>⟨y,?_⟩;have F:=V3 y;exact DB (F.trans (mV ds).symm) (λd U=>m d<|F.mem_iff.mp U) (V4 m y (by omega) V I) (uX m)
variable{X:Cx}{E:XK}{e:Expr}{J:TE}{f:jw}{L F:Pos}
def yu{d u}(r:Rep K al H v d)(hv:RelV v u)(h:(∃i,d=.int i)\/∃i,d=.str i):tQ d u:=by
 rcases h with⟨i,rfl⟩|⟨i,rfl⟩;·cases r;obtain⟨t,rfl⟩:=hv;rfl
 ·cases r;obtain⟨t,rfl⟩:=hv;rfl
def PH:∀{c} {k} {g} {j},ox c=some k->jb K al H g c->Vals g j->qK c j:=by
 intro c k g j h r v;induction c generalizing k g j with
 |nil=>cases r;cases v;exact .nil
 |cons d _ l=>
  cases r with
  |cons a b=>
   cases v with
   |cons hv m=>
    cases d with
    |int i=>obtain⟨t,_,e⟩:=tG h;exact .cons (yu a hv<|.inl ⟨i,rfl⟩) (l e b m)
    |str i=>obtain⟨t,_,e⟩:=tH h;exact .cons (yu a hv<|.inr ⟨i,rfl⟩) (l e b m)
    |_=>cases h
def RO{s}(I:Inv X pins σ H s){d u}(r:Rep X.K al H v d)(hv:RelV v u)(h:ki d=some sg):qL s.heap u d:=by
 rcases pU h with⟨i,rfl,_⟩|⟨i,rfl,_⟩|⟨x,p,t,rfl,_,e⟩;·exact yu r hv (.inl ⟨i,rfl⟩)
 ·exact yu r hv (.inr ⟨i,rfl⟩)
 ·obtain⟨a,m,rfl,g,c⟩:=r.rm;obtain rfl:u=.ref a:=hv;obtain⟨b,q,⟨o,l,k,n,j⟩,_⟩:=I.tuple g;exact⟨a,o,_,n,rfl,l,k,j,PH e c q⟩
def RP{s}(I:Inv X pins σ H s):∀{c} {g} {i},(∀d∈c,ki d=some sg)->jb X.K al H g c->Vals g i->mm s.heap i c:=by
 intro c g i h r v;induction c generalizing g i with
 |nil=>cases r;cases v;exact .nil
 |cons d _ j=>
  cases r with
  |cons a b=>
   cases v with
   |cons hv k=>exact .cons (RO I a hv<|h d<|.head _) (j (λe l=>h e<|.tail _ l) b k)
theorem Mm(h:Vals vs us):∀l:List Nat,(∀i∈l,i<us.length)->Vals (l.map λi=>vs.getD i .non) (l.map λi=>us.getD i .none)
 |[],_=>.nil
 |i::l,c=>by
  have get:∀{vs:List V} {us:List Value},Vals vs us->∀i,i<us.length->RelV (vs.getD i .non) (us.getD i .none):=λ{vs us} h=>by
   induction h with
   |nil=>intro i b;simp at b
   |cons a _ d=>
    intro i b;cases i with
    |zero=>simpa using a
    |succ i=>simpa using d i (by simpa using b)
  exact .cons (get h i<|c i<|.head _) (Mm h l λj g=>c j<|.tail _ g)
theorem Lp(h:jb K al H vs ds):∀l:List Nat,(∀i∈l,i<ds.length)->jb K al H (l.map λi=>vs.getD i .non) (l.map λi=>ds.getD i .non)
 |[],_=>.nil
 |i::l,a=>by have b:=a i (.head _);obtain⟨v,g,d⟩:=h.getD (ao b);refine .cons ?_ (Lp h l λj c=>a j<|.tail _ c);show Rep K al H (vs.getD i V.non) (ds.getD i D.non);rw[aQ,aQ,g,ao b];exact d
def BV{n}(h:kP n p):∀i∈p.toList,i<n:=λi a=>by have:=(dX.mp h).mem_iff.mp a;simpa using this
def Wy(he:PE X e J)(hg:Gl X "sorted")(hm:X.mg "sorted"=none)
 (hs:X.se e [])(hpl:X.bk F []):
   PE X (.Call (.Name "sorted" L) [e] [] F) (λz H Q=>J z H λx0 g=>∃x,[x0]=[x]/\∃l m c y,x=.ref l/\k7 X.K g l m/\jb X.K y g m c/\mi c=true/\c.length<64/\∀p a,g p=none->jb X.K y g a (ky c)->Q (.ref p) (upd g p<|.lst a)):=by
  intro j s z H Q I h;refine bP (pH I hg hm A9 ?_ (by decide) (by decide));have sy:PA X [e] (xb J xc):=q8 he rf hs;refine cg (ji (sy F j s z H (λC g=>∃x,C=[x]/\∃(l:Addr) (m:List V) (c:List D) (y:Addr->Prop),x=.ref l/\k7 X.K g l m/\jb X.K y g m c/\mi c=true/\c.length<64/\∀p a,g p=none->jb X.K y g a (ky c)->Q (.ref p) (upd g p<|.lst a)) I h) λus n nu=>?_) hs hpl;obtain⟨C,g,Y,r1,q1⟩:=nu;obtain⟨x,rfl,l,m,c,y,rfl,hl,T,hh,BC,q⟩:=q1;obtain⟨u,rfl,ru⟩:=vals1 r1;obtain rfl:u=Value.ref l:=ru;obtain⟨k,S,pl,hz⟩:=Y.list hl;obtain⟨sg,Z⟩:=yW hh;have hle:=S.length;have M:=T.length;have it:=RP Y Z T S;have O:∀(out:Array Value) (a:List V),out.size=k.length->Vals a out.toList->jb X.K y g a (ky c)->∃v H',Inv X j z H' {n with heap:=sortedAll n.heap k out}/\RelV v (.ref<|n.heap.objs.size+1)/\Q v H':=λout a ho U o=>by
   obtain⟨ep,he⟩:=sortedAll_at n.heap k out;have lw:a.length<=sizeLine:=by have:=U.length;simp only[aC]at this;omega
   have I2:Inv X j z (upd g (n.heap.objs.size+1)<|.lst a) {n with heap:=sortedAll n.heap k out}:=
    Y.laid (t':=n.toks) (λb u e=>sortedAll_old e) (cP _) (show kz X.prog X.w _ _ _ (.lst a)from⟨lw,out.toList,ep,U,by rw[fL];exact he⟩)
   exact⟨.ref _,_,I2,rfl,q _ a (Y.hok.fresh<|cP _) o⟩
  refine abc (G:=λout=>∃a,Vals a out.toList/\jb X.K y g a (ky c)) pl.isList (by omega) (λh2=>⟨m,by simpa using S,?_⟩) (λh2 t kp B=>?_) λout ho hG=>?_
  ·have:ky c=c:=by
    match c,M with
    |[],_=>rfl
    |[d],_=>rfl
    |_::_::r,w=>simp at w;omega
   rw[this];exact T
  ·have:=EB (prog:=X.prog) (w:=X.w) (s:=t) (it.keep kp) hh h2 (by omega) B;refine bp this (λκ t' hk=>⟨hk.1,bp hk.2 (λr t'' o=>⟨o.1,o.2.1,o.2.2.1,?_⟩) λ_ _ x=>x⟩) λ_ _ x=>x;obtain⟨p,g1,g2,g3⟩:=o.2.2.2;have R:=BV g1;refine⟨p.toList.map λi=>m.getD i .non,?_,?_⟩;·rw[g2];exact Mm S _ λi hi=>by have:=R i hi;omega
   ·rw[<-g3];exact Lp T _ R
  ·obtain⟨a,U,o⟩:=hG;exact O out a ho U o
def O5(y:Gl X "sorted")(u:X.mg "sorted"=none)(B:DE X E e f)
 (o:X.se e [])(c:X.bk F []):
   DN X E (.Call (.Name "sorted" L) [e] [] F) (λg=>(f g).bind wY):=by
  obtain⟨t,p,r⟩:=B;refine⟨_,Wy p y u o c,λP M D H G g Q s h=>r _ _ _ _ _ _ _ s<|Aft.mono (Aft.split h) λd i I a v m=>⟨v,rfl,?_⟩⟩;unfold wY at a;split at a
  ·rename_i C;split at a
   ·rename_i z;obtain⟨l,k,rfl,x,b⟩:=m.qz;exact⟨l,k,C,D,rfl,x,b,z.1,z.2,λp j q n=>a i (.refl i) p j q n⟩
   ·exact a.elim
  ·exact a.elim
end P2
namespace P2
open PySem L2
inductive Z where
 |d(x:D)|loc(n:Nat)|tk(ks:List Key)
abbrev iX(x:Int):Option Z:=some (.d<|.int x)
abbrev iV(x:List D):Option Z:=some (.d<|.lst x)
abbrev ba(x:D):Option Z:=some (.d x)
abbrev iO(n:Nat):Option Z:=some (.loc n)
inductive Cell where
 |li(zs:List Z)|ob(C:Addr)(fs:List<|Str×Z)|dk(kvs:List<|Key×Z)|dt(kvs:List<|List Key×Z)|ft(kvs:List<|List Key×Z)|no|mk
abbrev i6:=List Cell
abbrev Lo:=Nat->Option Addr
abbrev jg:=List (Option Z)
def kq(K:W.Frag)(b:Addr->Prop)(lo:Lo)(H:Hp)(v:V):Z->Prop
 |.d x=>Rep K b H v x
 |.loc n=>∃a,lo n=some a/\v=.ref a
 |.tk c=>∃a,b a/\H a=some (.tup<|c.map kV)/\v=.ref a
inductive kg(K:W.Frag)(al:Addr->Prop)(lo:Lo)(H:Hp):List V->List Z->Prop
 |nil:kg K al lo H [] []
 |cons {v:V} {z:Z} {vs:List V} {zs:List Z}:kq K al lo H v z->kg K al lo H vs zs->kg K al lo H (v::vs) (z::zs)
inductive ko{κ:Type}(K:W.Frag)(al:Addr->Prop)(lo:Lo)(H:Hp):List (κ×V)->List (κ×Z)->Prop
 |nil:ko K al lo H [] []
 |cons {k:κ} {v:V} {z:Z} {vs:List<|κ×V} {zs:List<|κ×Z}:kq K al lo H v z->ko K al lo H vs zs->ko K al lo H ((k,v)::vs) ((k,z)::zs)
def lU(K:W.Frag)(d:Addr->Prop)(lo:Lo)(H:Hp)(a:Addr):Cell->Prop
 |.li zs=>∃e,H a=some (.lst e)/\kg K d lo H e zs
 |.ob C fs=>∃g b,H a=some (.ins C g b)/\ko K d lo H b fs
 |.dk c=>∃b,H a=some (.dK b)/\ko K d lo H b c
 |.dt c=>∃b,H a=some (.dT b)/\ko K d lo H b c
 |.ft c=>∃b o,H a=some (.ke o<|.dT b)/\ko K d lo H b c
 |.no=>False
 |.mk=>False
def F6(o:HO):Prop:=(∃a,o=.tup a)\/∃b,o=.lT b
structure sD(K:W.Frag)(al:Addr->Prop)(lo:Lo)(H:Hp)(S:i6):Prop where
 at':∀n a,lo n=some a->∃c,S[n]?=some c/\lU K al lo H a c
 has:∀n c,S[n]?=some c->c≠.no->c≠.mk->∃a,lo n=some a
 na:∀n a,lo n=some a->¬al a
 inj:∀m n a,lo m=some a->lo n=some a->m=n
 tl:S[0]?=some .mk->∀b o,H b=some o->F6 o->al b
structure Z0 where
 H:Hp
 al:Addr->Prop
 lo:Lo
 n:Nat
structure EZ(K:W.Frag)(B:Z0)(al:Addr->Prop)(lo:Lo)(H:Hp)(S:i6):Prop where
 fr:∀b o,NT o->B.H b=some o->(∀n,B.lo n≠some b)->H b=some o
 hf:∀b,H b=none->B.H b=none
 tt:lY K H
 fresh:∀a,H a=none->al a
 st:sD K al lo H S
 lx:∀n a,B.lo n=some a->lo n=some a
 nw:∀n a,lo n=some a->B.lo n=some a\/(B.H a=none/\B.n<=n)
 bd:∀n a,B.lo n=some a->n<B.n
 sz:B.n<=S.length
 xt:Xt B.al B.H al H
 sb:∀a,al a->B.al a\/B.H a=none
structure RZ(K:W.Frag)(B:Z0)(al:Addr->Prop)(lo:Lo)(H:Hp)(σ:St)(ρ:jg)(S:i6):Prop extends EZ K B al lo H S where
 len:ρ.length=σ.length
 vr:∀(i:Nat) (z:Z),ρ[i]?=some (some z)->∃v,σ[i]?=some (some v)/\kq K al lo H v z
def Lx(lo b:Lo):Prop:=∀n a,lo n=some a->b n=some a
def Lx.refl{lo}:Lx lo lo:=λ_ _ h=>h
def Lx.trans{lo}(x:Lx lo lo1)(y:Lx lo1 uE):Lx lo uE:=λn a h=>y n a (x n a h)
section
variable{K:W.Frag}{f A:Addr->Prop}{lo l:Lo}{H F:Hp}
def kq.mv(x:Xt f H A F)(y:Lx lo l){v:V}{z:Z}(r:kq K f lo H v z):kq K A l F v z:=by
 cases z with
 |d d=>exact Rep.mv x r
 |loc n=>obtain⟨a,c,b⟩:=r;exact⟨a,y n a c,b⟩
 |tk e=>obtain⟨a,c,b,g⟩:=r;obtain⟨j,i⟩:=x a (.tup<|e.map kV) (λ_ h=>nomatch h) c b;exact⟨a,j,i,g⟩
def kg.mv(x:Xt f H A F)(y:Lx lo l){c:List V}{b:List Z}(r:kg K f lo H c b):kg K A l F c b:=by
 induction r with
 |nil=>exact .nil
 |cons a _ d=>exact .cons (a.mv x y) d
def ko.mv{b:Type}(x:Xt f H A F)(y:Lx lo l){d:List<|b×V}{c:List<|b×Z}(r:ko K f lo H d c):ko K A l F d c:=by
 induction r with
 |nil=>exact .nil
 |cons a _ e=>exact .cons (a.mv x y) e
def kg.length(r:kg K f lo H vs zs):vs.length=zs.length:=by
 induction r with
 |nil=>rfl
 |cons _ _ a=>rw[aj,aj,a]
def kg.append(r:kg K f lo H vs zs)(q:kg K f lo H ws ys):kg K f lo H (vs++ws) (zs++ys):=by
 induction r with
 |nil=>exact q
 |cons a _ b=>exact .cons a b
def kg.get{c:List V}{b:List Z}(r:kg K f lo H c b){i:Nat}{z:Z}(e:b[i]?=some z):∃v,c[i]?=some v/\kq K f lo H v z:=by
 induction r generalizing i with
 |nil=>simp at e
 |cons a _ d=>
  cases i with
  |zero=>simp at e;subst e;exact⟨_,rfl,a⟩
  |succ i=>simpa using d (by simpa using e)
def kg.set(r:kg K f lo H vs zs)(q:kq K f lo H v z)(i):kg K f lo H (vs.set i v) (zs.set i z):=by
 induction r generalizing i with
 |nil=>exact .nil
 |cons a b c=>
  cases i with
  |zero=>exact .cons q b
  |succ i=>exact .cons a (c i)
def kg.ofD(r:jb K f H vs ds):kg K f lo H vs (ds.map .d):=by
 induction ds generalizing vs with
 |nil=>cases r;exact .nil
 |cons d ds c=>cases r with|cons a b=>exact .cons a (c b)
def kg.toD{c:List D}(r:kg K f lo H vs<|c.map .d):jb K f H vs c:=by
 induction c generalizing vs with
 |nil=>cases r;exact .nil
 |cons d c e=>cases r with|cons a b=>exact .cons a (e b)
def lU.mv(x:Xt f H A F)(y:Lx lo l){a:Addr}{c:Cell}(e:∀o,NT o->H a=some o->F a=some o)(r:lU K f lo H a c):lU K A l F a c:=by
 cases c with
 |li m=>obtain⟨j,d,b⟩:=r;exact⟨j,e _ oo d,b.mv x y⟩
 |ob C fs=>obtain⟨k,g,d,b⟩:=r;exact⟨k,g,e _ (λ_ h=>nomatch h) d,b.mv x y⟩
 |dk i=>obtain⟨g,d,b⟩:=r;exact⟨g,e _ (λ_ h=>nomatch h) d,b.mv x y⟩
 |dt i=>obtain⟨g,d,b⟩:=r;exact⟨g,e _ (λ_ h=>nomatch h) d,b.mv x y⟩
 |ft i=>obtain⟨g,o,d,b⟩:=r;exact⟨g,o,e _ (λ_ h=>nomatch h) d,b.mv x y⟩
 |no=>exact r
 |mk=>exact r
def lU.tj(r:lU K f lo H a c):H a≠none/\(∀h,H a≠some (.lT h))/\(∀q,H a≠some (lV a q)):=by
 cases c with
 |li i=>obtain⟨j,b,e⟩:=r;rw[b];exact⟨nofun,λ_=>nofun,λ_ w=>by unfold lV at w;exact nomatch w⟩
 |ob C fs=>obtain⟨k,g,b,e⟩:=r;rw[b];exact⟨nofun,λ_=>nofun,λ_ w=>by unfold lV at w;exact nomatch w⟩
 |dk d=>obtain⟨g,b,e⟩:=r;rw[b];exact⟨nofun,λ_=>nofun,λ_ w=>by unfold lV at w;exact nomatch w⟩
 |dt d=>obtain⟨g,b,e⟩:=r;rw[b];exact⟨nofun,λ_=>nofun,λ_ w=>by unfold lV at w;exact nomatch w⟩
 |ft d=>obtain⟨g,o,b,e⟩:=r;rw[b];exact⟨nofun,λ_=>nofun,λ_ w=>by unfold lV at w;exact nomatch w⟩
 |no=>exact r.elim
 |mk=>exact r.elim
def lU.J2(r:lU K f lo H a c)(h:H a=some o):¬F6 o:=by
 rintro (⟨k,rfl⟩|⟨i,rfl⟩)
 ·cases c with
  |li j=>obtain⟨m,b,e⟩:=r;rw[h]at b;cases b
  |ob C fs=>obtain⟨n,g,b,e⟩:=r;rw[h]at b;cases b
  |dk d=>obtain⟨g,b,e⟩:=r;rw[h]at b;cases b
  |dt d=>obtain⟨g,b,e⟩:=r;rw[h]at b;cases b
  |ft d=>obtain⟨g,o,b,e⟩:=r;rw[h]at b;cases b
  |no=>exact r.elim
  |mk=>exact r.elim
 ·exact r.tj.2.1 i h
variable{B:Z0}{I:St}{E:jg}{S:i6}
def EZ.start{zs:List Z}(tt:lY K H)(fr:∀a,H a=none->f a)(st:sD K f lo H S):EZ K ⟨H,f,lo,S.length⟩ f lo H S where
 fr:=λ_ _ _ h _=>h
 hf:=λ_ h=>h
 tt:=tt
 fresh:=fr
 st:=st
 lx:=λ_ _ h=>h
 nw:=λ_ _ h=>.inl h
 bd:=λn a h=>by obtain⟨c,e,_⟩:=st.at' n a h;exact(aB.mp e).1
 sz:=ah _
 xt:=.refl
 sb:=λ_ h=>.inl h
def EZ.grow(r:EZ K B f lo H S)(s:kX K H F):EZ K B f lo F S where
 fr:=λb o n h w=>s.at' b o n (r.fr b o n h w)
 hf:=λb h=>r.hf b (s.fr b h)
 tt:=s.tt r.tt
 fresh:=λa h=>r.fresh a (s.fr a h)
 st:={
  at':=λn a h=>by obtain⟨c,e,q⟩:=r.st.at' n a h;exact⟨c,e,q.mv (.of s) .refl λo no h=>s.at' _ o no h⟩
  has:=r.st.has
  na:=r.st.na
  inj:=r.st.inj
  tl:=λm b o k j=>by
   cases q:H b with
   |none=>exact r.fresh b q
   |some d=>
    by_cases g:NT d
    · have e:=s.at' b d g q;rw[k]at e;cases e;exact r.st.tl m b o q j
    · exact r.st.tl m b d q (.inr (cj λw=>g λi e=>w ⟨i,e⟩))}
 lx:=r.lx
 nw:=r.nw
 bd:=r.bd
 sz:=r.sz
 xt:=r.xt.trans (.of s)
 sb:=r.sb
def RZ.grow(r:RZ K B f lo H I E S)(s:kX K H F):RZ K B f lo F I E S:=
 ⟨r.toEZ.grow s,r.len,λi z e=>let⟨v,b,a⟩:=r.vr i z e;⟨v,b,a.mv (.of s) .refl⟩⟩
def Xf:Option Z->Sl
 |some (.d x)=>.sh x
 |_=>.no
def kh(E:jg):Ev:=E.map Xf
def RZ.rs(r:RZ K B f lo H I E S):RS K f H f H I (kh E) where
 same:=.refl H
 tt:=r.tt
 fresh:=r.fresh
 sub:=λ_ h=>h
 pf:=r.fresh
 len:=by unfold kh;rw[ai];exact r.len
 sh:=λi d h=>by
  unfold kh at h;rw[aA]at h;obtain⟨z,c,b⟩:=aF.mp h;cases z with
  |none=>cases b
  |some z=>
   cases z with
   |d x=>cases b;exact r.vr i _ c
   |loc n=>cases b
   |tk k=>cases b
 ow:=λi g h=>by
  unfold kh at h;rw[aA]at h;obtain⟨z,c,b⟩:=aF.mp h;cases z with
  |none=>cases b
  |some z=>cases z<;>cases b
 apart:=λi j g e a h _ _ _=>by
  unfold kh at h;rw[aA]at h;obtain⟨z,c,b⟩:=aF.mp h;cases z with
  |none=>cases b
  |some z=>cases z<;>cases b
def RZ.set(r:RZ K B f lo H I E S){i:Nat}{v:V}{z:Z}(c:i<E.length)(q:kq K f lo H v z):RZ K B f lo H (I.set i<|some v) (E.set i<|some z) S where
 toEZ:=r.toEZ
 len:=by rw[aP,aP];exact r.len
 vr:=λj e h=>by
  by_cases w:i=j
  ·subst w;rw[aD c]at h;cases h;exact⟨v,aD<|by rw[<-r.len];exact c,q⟩
  ·rw[au w]at h;obtain⟨u,a,b⟩:=r.vr j e h;exact⟨u,by rw[au w];exact a,b⟩
def kZ(lo:Lo)(n:Nat)(p:Addr):Lo:=λm=>if m=n then some p else lo m
def sD.none(b:sD K f lo H S):lo S.length=Option.none:=by
 cases h:lo S.length with
 |none=>rfl
 |some a=>obtain⟨c,e,_⟩:=b.at' _ a h;have:=(aB.mp e).1;omega
def oR(b:sD K f lo H S)(p):Lx lo (kZ lo S.length p):=λn a h=>by
 unfold kZ;rw[aw];·exact h
 ·intro w;rw[w,b.none]at h;cases h
def qH(a:H p=none):Xt f H (λb=>f b/\b≠p) (upd H p o):=λb u _ c e=>⟨⟨c,nc e a⟩,by rw[jB<|nc e a];exact e⟩
def EZ.new(r:EZ K B f lo H S)(C:H p=none)(no:NT o)(G:lU K (λb=>f b/\b≠p) (kZ lo S.length p) (upd H p o) p c)(Q:c≠.no):
    EZ K B (λb=>f b/\b≠p) (kZ lo S.length p) (upd H p o) (S++[c]):=by
 have s:kX K H (upd H p o):=mj C;have x:Xt f H (λb=>f b/\b≠p) (upd H p o):=qH C;have g:=r.grow s;refine⟨g.fr,g.hf,g.tt,λa h=>⟨g.fresh a h,λw=>by rw[w,kC]at h;cases h⟩,⟨λn a h=>?_,λn D h w L=>?_,λn a h w=>?_,λm n a i j=>?_,λm b u t J=>?_⟩,λn a h=>oR r.st p n a<|r.lx n a h,λn a h=>?_,r.bd,by rw[ar];have:=r.sz;omega,r.xt.trans x,λb t=>r.sb b t.1⟩
 ·unfold kZ at h;by_cases w:n=S.length
  ·rw[av w]at h;cases h;exact⟨c,by rw[w];simp,G⟩
  ·rw[aw w]at h;obtain⟨D,e,q⟩:=r.st.at' n a h;have ne:a≠p:=λz=>q.tj.1 (by rw[z];exact C);exact⟨D,by rw[ay (aB.mp e).1];exact e,q.mv x (oR r.st p) λu _ h=>by rw[jB ne];exact h⟩
 ·by_cases z:n<S.length
  ·rw[ay z]at h;obtain⟨a,i⟩:=r.st.has n D h w L;exact⟨a,oR r.st p n a i⟩
  ·have:n=S.length:=by
    have:=(aB.mp h).1;rw[ar,cu]at this;omega
   exact⟨p,by unfold kZ;rw[av this]⟩
 ·unfold kZ at h;by_cases z:n=S.length;·rw[av z]at h;cases h;exact w.2 rfl
  ·rw[aw z]at h;exact r.st.na n a h w.1
 ·have v:∀k b,lo k=some b->b≠p:=λk b O z=>by
   obtain⟨D,_,q⟩:=r.st.at' k b O;exact q.tj.1 (by rw[z];exact C)
  unfold kZ at i j;by_cases z:m=S.length
  ·rw[av z]at i;cases i;by_cases y:n=S.length;·omega
   ·rw[aw y]at j;exact absurd rfl (v n _ j)
  ·rw[aw z]at i;by_cases y:n=S.length;·rw[av y]at j;cases j;exact absurd rfl (v m _ i)
   ·rw[aw y]at j;exact r.st.inj m n a i j
 ·have M:S[0]?=some .mk:=by
   cases S with
   |nil=>have e:some c=some Cell.mk:=m;cases e;exact G.elim
   |cons d r=>exact m
  by_cases z:b=p
  ·rw[z]at t;exact absurd J (G.J2 t)
  ·rw[jB z]at t;exact⟨r.st.tl M b u t J,z⟩
 ·unfold kZ at h;by_cases z:n=S.length;·rw[av z]at h;cases h;exact .inr ⟨r.hf _ C,by rw[z];exact r.sz⟩
  ·rw[aw z]at h;exact r.nw n a h
def RZ.new(r:RZ K B f lo H I E S){p:Addr}{o:HO}{c:Cell}(a:H p=none)(no:NT o)(d:lU K (λb=>f b/\b≠p) (kZ lo S.length p) (upd H p o) p c)(j:c≠.no):
    RZ K B (λb=>f b/\b≠p) (kZ lo S.length p) (upd H p o) I E (S++[c]):=
 ⟨r.toEZ.new a no d j,r.len,λi z e=>let⟨v,h,g⟩:=r.vr i z e;⟨v,h,g.mv (qH a)<|oR r.st p⟩⟩
def EZ.write(r:EZ K B f lo H S){n}(g:lo n=some a)(no:NT o)(L:∀q,o≠lV a q)(i:lU K f lo (upd H a o) a c)(M:c≠.no):EZ K B f lo (upd H a o) (S.set n c)/\Xt f H f (upd H a o):=by
 obtain⟨O,J,k⟩:=r.st.at' n a g;have t:n<S.length:=(aB.mp J).1;have C:=r.st.na n a g;have x:Xt f H f (upd H a o):=λb u _ d e=>⟨d,by rw[jB λw=>C (by rw[<-w];exact d)];exact e⟩;refine⟨⟨λb u y h w=>?_,λb h=>?_,r.tt.upd k.tj.2.1 k.tj.2.2,λb h=>?_,⟨λm b h=>?_,λm j h w v=>?_,r.st.na,r.st.inj,λm b u d p=>?_⟩,r.lx,r.nw,r.bd,by rw[aP];exact r.sz,r.xt.trans x,r.sb⟩,x⟩
 ·have:=r.fr b u y h w;by_cases z:b=a
  ·subst z;rcases r.nw n b g with q|q;·exact absurd q (w n)
   ·rw[q.1]at h;cases h
  ·rw[jB z];exact this
 ·by_cases z:b=a;·rw[z,kC]at h;cases h
  ·rw[jB z]at h;exact r.hf b h
 ·by_cases z:b=a;·rw[z,kC]at h;cases h
  ·rw[jB z]at h;exact r.fresh b h
 ·by_cases z:n=m
  ·subst z;rw[g]at h;cases h;exact⟨c,aD t,i⟩
  ·obtain⟨j,e,q⟩:=r.st.at' m b h;refine⟨j,by rw[au z];exact e,q.mv x .refl λu _ G=>?_⟩;rw[jB λw=>z (r.st.inj n m a g (by rw[<-w];exact h))];exact G
 ·by_cases z:n=m;·subst z;exact⟨a,g⟩
  ·rw[au z]at h;exact r.st.has m j h w v
 ·have D:S[0]?=some .mk:=by
   by_cases z:n=0
   ·subst z;rw[aD t]at m;cases m;exact i.elim
   ·rw[au z]at m;exact m
  by_cases z:b=a
  ·rw[z]at d;exact absurd p (i.J2 d)
  ·rw[jB z]at d;exact r.st.tl D b u d p
def RZ.write(r:RZ K B f lo H I E S){n:Nat}{a:Addr}{o:HO}{c:Cell}(d:lo n=some a)(no:NT o)(b:∀q,o≠lV a q)(g:lU K f lo (upd H a o) a c)(k:c≠.no):RZ K B f lo (upd H a o) I E (S.set n c)/\Xt f H f (upd H a o):=
 let⟨e,x⟩:=r.toEZ.write d no b g k
 ⟨⟨e,r.len,λi z e=>let⟨v,j,h⟩:=r.vr i z e;⟨v,j,h.mv x .refl⟩⟩,x⟩
end
inductive RX(α:Type) where
 |ok(a:α)(S:i6)|ex(c:Addr)(ns:List Str)(ds:List D)(S:i6)|bad
abbrev jr:=jg->i6->RX Z
abbrev jo:=List Z->i6->RX Z
noncomputable def RX.bind{d b:Type}:RX d->(d->i6->RX b)->RX b
 |.ok a S,f=>f a S
 |.ex c ns ds S,_=>.ex c ns ds S
 |.bad,_=>.bad
def lJ{b:Type}(r:R b)(S:i6):RX b:=match r with
 |.ok a=>.ok a S
 |.ex c ns ds=>.ex c ns ds S
 |.bad=>.bad
def i3{g:Type}(K:W.Frag)(B:Z0)(E:XK)(l:Addr->Prop)(lo:Lo)(H:Hp)(i:St)(j:jg)(r:RX g)(k:g->(Addr->Prop)->Lo->Hp->i6->Prop):Prop:=match r with
 |.ok x e=>∀a b d,RZ K B a b d i j e->Xt l H a d->Lx lo b->k x a b d e
 |.ex c ns ds e=>∀a b d h,EZ K B a b d e->XR K a d h ns ds->E (.ref c) h d
 |.bad=>False
section
variable{U Y:Type}{K:W.Frag}{B:Z0}{E:XK}{l C:Addr->Prop}{lo A:Lo}{H J:Hp}{o:St}{j:jg}{S O:i6}{k k':U->(Addr->Prop)->Lo->Hp->i6->Prop}
def i3.up(h:i3 K B E l lo H o j r k)(x:Xt l H C J)(y:Lx lo A):i3 K B E C A J o j r k:=by
 cases r with
 |ok a S=>exact λd b i z g e=>h d b i z (x.trans g) (y.trans e)
 |ex c m n S=>exact h
 |bad=>exact h
def i3.mono(h:i3 K B E l lo H o j r k)(m:∀x C A J O,RZ K B C A J o j O->Xt l H C J->Lx lo A->k x C A J O->k' x C A J O):i3 K B E l lo H o j r k':=by
 cases r with
 |ok a S=>exact λd b i z g e=>m _ _ _ _ _ z g e (h d b i z g e)
 |ex c n p S=>exact h
 |bad=>exact h
def i3.split{r:RX U}{g:U->i6->RX Y}{k:Y->(Addr->Prop)->Lo->Hp->i6->Prop}(h:i3 K B E l lo H o j (r.bind g) k):i3 K B E l lo H o j r (λx C A J O=>i3 K B E C A J o j (g x O) k):=by
 cases r with
 |ok a S=>exact λi e p z d b=>i3.up h d b
 |ex c m n S=>exact h
 |bad=>exact h
def i3.toAft(z:RZ K B l lo H o j S)(h:i3 K B E l lo H o j (lJ r S) k):Aft K l E H r (λx J=>k x l lo J S):=by
 cases r with
 |ok a=>exact λd b=>h l lo d (z.grow b) (.of b) .refl
 |ex c g i=>exact λe d b q=>h l lo d e (z.toEZ.grow b) q
 |bad=>exact h
def ZE(X:Cx)(E:XK)(e:Expr)(f:jr):Prop:=∃t:TE,PE X e t/\
 ∀B l lo H o j S (Q:VK),RZ X.K B l lo H o j S->i3 X.K B E l lo H o j (f j S) (λz C A J _=>∀v,kq X.K C A J v z->Q v J)->t o H Q
def ZT(X:Cx)(E:XK)(e:Expr)(f:jg->i6->RX Bool):Prop:=∃t:TT,PT X e t/\
 ∀B l lo H o j S (Q:Bool->Hp->Prop),RZ X.K B l lo H o j S->i3 X.K B E l lo H o j (f j S) (λb _ _ J _=>Q b J)->t o H Q
def ZA(X:Cx)(E:XK)(c:List Expr)(f:jg->i6->RX (List Z)):Prop:=∃t:TA,PA X c t/\
 (∀B l lo H o j S (Q:List V->Hp->Prop),RZ X.K B l lo H o j S->i3 X.K B E l lo H o j (f j S) (λa C A J _=>∀b,kg X.K C A J b a->Q b J)->t o H Q)/\∀j S a O,f j S=.ok a O->a.length=c.length
noncomputable def zD(f:jw):jr:=λj S=>(lJ (f<|kh j) S).bind λd S=>.ok (.d d) S
def zB(f:Ev->R Bool):jg->i6->RX Bool:=λj S=>lJ (f<|kh j) S
noncomputable def zV(i:Nat):jr:=λj S=>match j[i]? with
 |some (some z)=>.ok z S
 |_=>.bad
def md:List Z->Option (List D)
 |[]=>some []
 |.d x::r=>(md r).map (x:: ·)
 |_::_=>none
theorem sH:∀{b} {a},md b=some a->b=a.map .d
 |[],_,h=>by cases h;rfl
 |.d x::r,a,h=>by obtain⟨t,d,c⟩:=aF.mp (show(md r).map (x:: ·)=some a from h);subst c;rw[aT,<-sH d]
 |.loc _::_,_,h=>by cases h
theorem sI:∀a:List D,md (a.map .d)=some a
 |[]=>rfl
 |d::r=>by show(md<|r.map .d).map (d:: ·)=_;rw[sI r];rfl
def z2(g:D->D->R D)(a b:jr):jr:=λj S=>(a j S).bind λx e=>(b j e).bind λy c=>match x,y with
 |.d x,.d y=>(lJ (g x y) c).bind λd S=>.ok (.d d) S
 |_,_=>.bad
def nD(t:D->R Bool)(a:jr):jg->i6->RX Bool:=λj S=>(a j S).bind λx b=>match x with
 |.d x=>lJ (t x) b
 |_=>.bad
def tM(a b:jg->i6->RX Bool):jg->i6->RX Bool:=λj S=>(a j S).bind λk c=>if k=true then b j c else .ok false c
def EW(a b:jg->i6->RX Bool):jg->i6->RX Bool:=λj S=>(a j S).bind λk c=>if k=true then .ok true c else b j c
noncomputable def i7:jg->i6->RX (List Z):=λ_ S=>.ok [] S
def iN(a:jr)(r:jg->i6->RX (List Z)):jg->i6->RX (List Z):=λj S=>(a j S).bind λx d=>(r j d).bind λb c=>.ok (x::b) c
def zF(g:jf)(a:jg->i6->RX (List Z)):jr:=λj S=>(a j S).bind λb e=>match md b with
 |some c=>(lJ (g c) e).bind λd S=>.ok (.d d) S
 |none=>.bad
def zZ(F:jo)(a:jg->i6->RX (List Z)):jr:=λj S=>(a j S).bind F
variable{X:Cx}{e a b c:Expr}{M rest:List Expr}{I:Pos}{f L P:jr}{N T:jg->i6->RX Bool}{fs:jg->i6->RX (List Z)}
def iU{f:jw}(h:DE X E e f):ZE X E e (zD f):=by obtain⟨t,p,r⟩:=h;refine⟨t,p,λB l lo H o j S Q z h=>r _ _ _ _ _ _ _ z.rs ?_⟩;have:=i3.toAft z (i3.split h);exact Aft.mono this λd n g m v i=>m l lo n (z.grow g) .refl .refl v i
def lK{f:Ev->R Bool}(h:DT X E e f):ZT X E e (zB f):=by obtain⟨t,p,r⟩:=h;exact⟨t,p,λB l lo H o j S Q z h=>r _ _ _ _ _ _ _ z.rs<|i3.toAft z h⟩
def jz(i)(hN:X.N[i]?=some x:=by rfl)(hv:qP X.env.scope x:=by first|exact Or.inl rfl|exact Or.inr (Or.inl rfl)|exact Or.inr (Or.inr rfl))(m:oi x:=by decide)
 (d:(x==("__classdict__":Str))=false:=by decide):ZE X E (.Name x I) (zV i):=by
  refine⟨_,wI hN hv m d,λB l lo H o j S Q z h=>?_⟩;unfold zV at h;split at h
  ·rename_i g q;obtain⟨v,p,n⟩:=z.vr i g q;exact⟨v,p,h l lo H z .refl .refl v n⟩
  ·exact h.elim
def oA{t:Operator}{g:D->D->R D}(ho:lr X E (binaryOp t) g)(ha:ZE X E a L)(hb:ZE X E b P):ZE X E (.BinOp a t b I) (z2 g L P):=by
 obtain⟨r,ro,rr⟩:=ho;obtain⟨ta,pa,ra⟩:=ha;obtain⟨tb,pb,rb⟩:=hb;refine⟨_,KN ro pa pb,λB l lo H o j S Q s h=>ra _ _ _ _ _ _ _ _ s<|i3.mono (i3.split h) λx mr lo1 H1 S1 V x1 y1 h1 v rv=>rb _ _ _ _ _ _ _ _ V<|i3.mono (i3.split h1) λy q n H2 S2 i F z p u ru=>?_⟩;split at p;·exact rr _ _ _ _ _ _ _ i.fresh (kq.mv F z rv) ru (Aft.mono (i3.toAft i<|i3.split p) λd H3 G h3 w m=>h3 q n H3 (i.grow G) .refl .refl w m)
 ·exact p.elim
def Aw{n:CmpOp}{g:D->D->R D}(ho:lr X E (compareOp n) g)(ha:ZE X E a L)(hb:ZE X E b P)(hm:behindInMarks n b=false):ZE X E (.Compare a [n] [b] I) (z2 g L P):=by
 obtain⟨r,ro,rr⟩:=ho;obtain⟨ta,pa,ra⟩:=ha;obtain⟨tb,pb,rb⟩:=hb;refine⟨_,KD ro pa pb hm,λB l lo H o j S Q s h=>ra _ _ _ _ _ _ _ _ s<|i3.mono (i3.split h) λx mr lo1 H1 S1 V x1 y1 h1 v rv=>rb _ _ _ _ _ _ _ _ V<|i3.mono (i3.split h1) λy t p H2 S2 i F z q u ru=>?_⟩;split at q;·exact rr _ _ _ _ _ _ _ i.fresh (kq.mv F z rv) ru (Aft.mono (i3.toAft i<|i3.split q) λd H3 G h3 w m=>h3 t p H3 (i.grow G) .refl .refl w m)
 ·exact q.elim
def xw{n:CmpOp}{g:D->D->R D}(ho:lr X E (compareOp n) g)(ha:ZE X E a L)(hb:ZE X E b P)(hm:behindInMarks n b=false:=by first|exact qC _|with_unfolding_all rfl):ZT X E (.Compare a [n] [b] I) (nD tB<|z2 g L P):=by
 obtain⟨r,ro,rr⟩:=ho;obtain⟨ta,pa,ra⟩:=ha;obtain⟨tb,pb,rb⟩:=hb;refine⟨_,zJ ro pa pb hm,λB l lo H o j S Q s h=>ra _ _ _ _ _ _ _ _ s<|i3.mono (i3.split<|i3.split h) λx mr lo1 H1 S1 s1 x1 y1 h1 v rv=>rb _ _ _ _ _ _ _ _ s1<|i3.mono (i3.split h1) λy z p H2 S2 i V G t u ru=>?_⟩;split at t
 ·refine rr _ _ _ _ _ _ _ i.fresh (kq.mv V G rv) ru (Aft.mono (i3.toAft i<|i3.split t) λd H3 F h3 w m=>?_);have h4:=h3 z p H3 (i.grow F) .refl .refl;exact uS m (Aft.mono (i3.toAft (i.grow F) h4) λ_ _ _ q=>q)
 ·exact t.elim
def ac3(t:ZE X E e L)(r:∀d,isTrue e X.env d=(do let v<-d;standAt e.pos;holding [v]<|truthy v)):ZT X E e (nD tT L):=by
 obtain⟨D,p,n⟩:=t;refine⟨_,K8 p r,λB l lo H o j S Q s h=>n _ _ _ _ _ _ _ _ s<|i3.mono (i3.split h) λx u q G F i z y g v m=>?_⟩;split at g;·exact zO m (i3.toAft i g)
 ·exact g.elim
def ZW(X:Cx)(E:XK)(e:Expr)(f:jg->i6->RX Bool):Prop:=∃t:TT,PW X e t/\
 ∀B l lo H o j S (Q:Bool->Hp->Prop),RZ X.K B l lo H o j S->i3 X.K B E l lo H o j (f j S) (λb _ _ J _=>Q b J)->t o H Q
def ZW.zt(h:ZW X E e N):ZT X E e N:=let⟨t,p,r⟩:=h;⟨t,p.pt,r⟩
def ac5(h:ZT X E a N):ZW X E (.BoolOp .And [a] I) N:=let⟨t,p,r⟩:=h;⟨t,La p,r⟩
def ac7(h:ZT X E a N):ZW X E (.BoolOp .Or [a] I) N:=let⟨t,p,r⟩:=h;⟨t,Lc p,r⟩
def ac4(u:ZT X E a N)(t:ZW X E (.BoolOp .And (b::rest) I) T):ZW X E (.BoolOp .And (a::b::rest) I) (tM N T):=by
 obtain⟨y,r,p⟩:=u;obtain⟨x,q,n⟩:=t;refine⟨_,K9 r q,λB l lo H o j S Q s h=>p _ _ _ _ _ _ _ _ s<|i3.mono (i3.split h) λc g d v z i _ _ m=>?_⟩;cases c with
 |true=>exact qX (n _ _ _ _ _ _ _ _ i m)
 |false=>exact qW (m g d v i .refl .refl)
def ac6(u:ZT X E a N)(t:ZW X E (.BoolOp .Or (b::rest) I) T):ZW X E (.BoolOp .Or (a::b::rest) I) (EW N T):=by
 obtain⟨y,r,p⟩:=u;obtain⟨x,q,n⟩:=t;refine⟨_,Lb r q,λB l lo H o j S Q s h=>p _ _ _ _ _ _ _ _ s<|i3.mono (i3.split h) λc g d v z i _ _ m=>?_⟩;cases c with
 |true=>exact qX (m g d v i .refl .refl)
 |false=>exact qW (n _ _ _ _ _ _ _ _ i m)
def rq{g:D->D->R D}(ho:AN X E g)(ha:ZE X E a L)(hb:ZE X E b P)(hs:AV b:=by exact λ_ _=>rfl):ZE X E (.Subscript a b I) (z2 g L P):=by
 obtain⟨r,ro,rr⟩:=ho;obtain⟨ta,pa,ra⟩:=ha;obtain⟨tb,pb,rb⟩:=hb;refine⟨_,KI ro pa pb hs,λB l lo H o j S Q s h=>ra _ _ _ _ _ _ _ _ s<|i3.mono (i3.split h) λx mr lo1 H1 S1 G x1 y1 h1 v V=>rb _ _ _ _ _ _ _ _ G<|i3.mono (i3.split h1) λy q n H2 S2 i z t p u ru=>?_⟩;split at p;·exact rr _ _ _ _ _ _ _ i.fresh (kq.mv z t V) ru (Aft.mono (i3.toAft i<|i3.split p) λd H3 F h3 w m=>h3 q n H3 (i.grow F) .refl .refl w m)
 ·exact p.elim
def je:ZA X E [] i7:=⟨_,rf,λB l lo H o j S Q s h=>h l lo H s .refl .refl _ .nil,λ_ _ _ _ h=>by cases h;rfl⟩
def iS(ha:ZE X E e L)(hr:ZA X E M fs)(hs:X.se e M:=by rfl):ZA X E (e::M) (iN L fs):=by
 obtain⟨ta,pa,ra⟩:=ha;obtain⟨tb,pb,rb,lb⟩:=hr;refine⟨_,q8 pa pb hs,λB l lo H o j S Q s h=>ra _ _ _ _ _ _ _ _ s<|i3.mono (i3.split h) λx mr lo1 H1 g G x1 y1 h1 v R=>rb _ _ _ _ _ _ _ _ G<|i3.mono (i3.split h1) λy n m H2 p F D z h2 u V=>?_,λj S t O h=>?_⟩;·exact h2 n m H2 F .refl .refl _ (.cons (R.mv D z) V)
 ·unfold iN at h;cases q:L j S with
  |bad=>rw[q]at h;cases h
  |ex c ns ds g=>rw[q]at h;cases h
  |ok x g=>
   rw[q]at h;have d:(fs j g).bind (λr p=>.ok (x::r) p)=RX.ok t O:=h;cases i:fs j g with
   |bad=>rw[i]at d;cases d
   |ex c ns ds g=>rw[i]at d;cases d
   |ok r p=>rw[i]at d;cases d;rw[aj,aj,lb _ _ _ _ i]
def nF{u}(R:ZA X E M fs):ZE X E (.Tuple M u I) (zF jv fs):=by
 obtain⟨ta,G,F,_⟩:=R;refine⟨_,Dn G,λB l lo H o j S Q s h=>F _ _ _ _ _ _ _ _ s<|i3.mono (i3.split h) λx t n H1 S1 m u y1 r v D=>?_⟩;split at r
 ·rename_i ds e;have:=sH e;subst this;have g:=D.toD;have i:=Aft.mono (i3.toAft m<|i3.split r) λd H3 y V=>V t n H3 (m.grow y) .refl .refl;unfold jv at i;by_cases z:ds.length<=sizeLine
  ·rw[av z]at i;exact⟨by rw[g.length];exact z,λp q=>i _ (mj q) _<|g.EK q<|m.fresh p q⟩
  ·rw[aw z]at i;exact i.elim
 ·exact r.elim
variable{x:Str}{p:Pos}
variable{k n:Nat}{ps:List Str}{F:jf}
def qI(G:pw X.prog X.w X.K X.mg X.base (kL X.prog X.w) k x ps<|j6 n X.K F)(hr:kQ k X.A)(hg:Gl X x)(hx:Passes (kL X.prog X.w) X E)(hn:(e::M).length=n)(ha:ZA X E (e::M) fs)(u:X.cl x e M I:=by exact⟨by decide,rfl,rfl⟩):ZE X E (.Call (.Name x p) (e::M) [] I) (zF F fs):=by
 obtain⟨ta,pa,ra,lb⟩:=ha;refine⟨_,Dl G hr hg hx pa u,λB l lo H o j S Q s h=>ra _ _ _ _ _ _ _ _ s ?_⟩;unfold zF at h;cases q:fs j S with
 |bad=>rw[q]at h;exact h.elim
 |ex c ns r R=>rw[q]at h;exact h
 |ok V R=>
  rw[q]at h;intro i t H1 m x1 y1 vs rv;have D:=lb _ _ _ _ q;have y:i3 X.K B E l lo H o j (match md V with|some r=>(lJ (F r) R).bind λd S=>.ok (.d d) S|none=>.bad) (λz C A J _=>∀v,kq X.K C A J v z->Q v J):=h;split at y
  ·rename_i r e;have:=sH e;subst this;have g:=rv.toD;rw[bg];exact⟨by rw[g.length];rw[ai]at D;rw[D];exact hn,m.tt,i,r,m.fresh,g,Aft.mono (i3.toAft m (i3.split (i3.up y x1 y1))) λd H3 s3 h3=>h3 i t H3 (m.grow s3) .refl .refl⟩
  ·exact y.elim
end
def MN(K:W.Frag)(B:Z0)(E:XK)(r:RX Z)(Q:VK):Prop:=match r with
 |.ok z e=>∀a b d v,EZ K B a b d e->kq K a b d v z->Q v d
 |.ex c ns ds e=>∀a b d g,EZ K B a b d e->XR K a d g ns ds->E (.ref c) g d
 |.bad=>False
def jJ(n:Nat)(K:W.Frag)(F:jo):Sp:=λd H Q E=>d.length=n/\lY K H/\∃b lo c S,(∀a,H a=none->b a)/\sD K b lo H S/\kg K b lo H d c/\MN K ⟨H,b,lo,S.length⟩ E (F c S) Q
def EZ.trans{lo}(r:EZ K B al lo H S)(q:EZ K ⟨H,al,lo,S.length⟩ nZ wt H' S'):EZ K B nZ wt H' S' where
 fr:=λb o n h w=>q.fr b o n (r.fr b o n h w) λm c=>by
  rcases r.nw m b c with z|z;·exact w m z
  ·rw[z.1]at h;cases h
 hf:=λb h=>r.hf b (q.hf b h)
 tt:=q.tt
 fresh:=q.fresh
 st:=q.st
 lx:=λn a h=>q.lx n a (r.lx n a h)
 nw:=λn a h=>by
  rcases q.nw n a h with z|z;·exact r.nw n a z
  ·exact .inr ⟨r.hf a z.1,aU r.sz z.2⟩
 bd:=r.bd
 sz:=aU r.sz q.sz
 xt:=r.xt.trans q.xt
 sb:=λa h=>by
  rcases q.sb a h with z|z;·exact r.sb a z
  ·exact .inr (r.hf a z)
def RZ.after{lo}(r:RZ K B al lo H σ ρ S)(q:EZ K ⟨H,al,lo,S.length⟩ nZ wt H' S'):RZ K B nZ wt H' σ ρ S':=
 ⟨r.toEZ.trans q,r.len,λi z e=>let⟨v,b,a⟩:=r.vr i z e;⟨v,b,a.mv q.xt q.lx⟩⟩
section
variable{X:Cx}{E:XK}{e:Expr}{L:List Expr}{I p:Pos}{fs:jg->i6->RX (List Z)}{x:Str}{k n:Nat}{Y:List Str}{F:jo}
def jC(G:pw X.prog X.w X.K X.mg X.base (kL X.prog X.w) k x Y<|jJ n X.K F)(hr:kQ k X.A)(hg:Gl X x)(hx:Passes (kL X.prog X.w) X E)(hn:(e::L).length=n)(ha:ZA X E (e::L) fs)(u:X.cl x e L I:=by exact⟨by decide,rfl,rfl⟩):ZE X E (.Call (.Name x p) (e::L) [] I) (zZ F fs):=by
 obtain⟨ta,pa,ra,lb⟩:=ha;refine⟨_,Dl G hr hg hx pa u,λB al lo H R J S Q s h=>ra _ _ _ _ _ _ _ _ s ?_⟩;unfold zZ at h;cases q:fs J S with
 |bad=>rw[q]at h;exact h.elim
 |ex c ns ds j=>rw[q]at h;exact h
 |ok l j=>
  rw[q]at h;intro y r H1 g V T vs M;have ll:=lb _ _ _ _ q;have d:i3 X.K B E al lo H R J (F l j) (λz C t O _=>∀v,kq X.K C t O v z->Q v O):=h;rw[bg];refine⟨by rw[M.length,ll];exact hn,g.tt,y,r,l,j,g.fresh,g.st,M,?_⟩;cases o:F l j with
  |bad=>rw[o]at d;exact d.elim
  |ex c ns ds S2=>rw[o]at d;exact λb a D dx i U=>d b a D dx (g.toEZ.trans i) U
  |ok z S2=>rw[o]at d;exact λb a D v i m=>d b a D (g.after i) (V.trans i.xt) (T.trans i.lx) v m
inductive lH where
 |nx(ρ:jg)(S:i6)|rt(z:Z)(S:i6)|bk(ρ:jg)(S:i6)|ct(ρ:jg)(S:i6)|ex(c:Addr)(ns:List Str)(ds:List D)(S:i6)|bad
abbrev jH:=jg->i6->lH
noncomputable def toZ{b:Type}(r:RX b)(k:b->i6->lH):lH:=match r with
 |.ok a S=>k a S
 |.ex c ns ds S=>.ex c ns ds S
 |.bad=>.bad
def aaP(r:lH)(k:jH):lH:=match r with
 |.nx a S=>k a S
 |r=>r
def kF(K:W.Frag)(B:Z0)(E:XK)(D:Ends)(i:Addr->Prop)(H:Hp):lH->Prop
 |.nx h S=>∀a b d g,Xt i H a d->RZ K B a b d g h S->D.nx g d
 |.bk h S=>∀a b d g,Xt i H a d->RZ K B a b d g h S->D.bk g d
 |.ct h S=>∀a b d g,Xt i H a d->RZ K B a b d g h S->D.ct g d
 |.rt z S=>∀a b d v,EZ K B a b d S->kq K a b d v z->D.rt v d
 |.ex c ns ds S=>∀a b d j,EZ K B a b d S->XR K a d j ns ds->E (.ref c) j d
 |.bad=>False
variable{K:W.Frag}{B:Z0}{D:Ends}{A j:Addr->Prop}{lo:Lo}{H o:Hp}{s:lH}{C:St}{m:jg}
def kF.ext(h:kF K B E D A H s)(x:Xt A H j o):kF K B E D j o s:=by
 cases s with
 |nx m S=>exact λa l g b y r=>h a l g b (x.trans y) r
 |bk m S=>exact λa l g b y r=>h a l g b (x.trans y) r
 |ct m S=>exact λa l g b y r=>h a l g b (x.trans y) r
 |rt d S=>exact h
 |ex c i q S=>exact h
 |bad=>exact h
def kF.nA{a:Type}{r:RX a}{k:a->i6->lH}(h:kF K B E D A H<|toZ r k):i3 K B E A lo H C m r (λx j g o l=>kF K B E D j o<|k x l):=by
 cases r with
 |ok x S=>exact λi d y t b q=>kF.ext h b
 |ex c u v S=>exact h
 |bad=>exact h
def ZS(X:Cx)(E:XK)(b:Nat)(a:Stmt)(g:jH):Prop:=∃t:TS,PS X a t/\
 ∀B:Z0,B.n=b->∀A lo H C m S (D:Ends),RZ X.K B A lo H C m S->kF X.K B E D A H (g m S)->t D C H
def qQ(X:Cx)(E:XK)(b:Nat)(a:List Stmt)(g:jH):Prop:=∃t:TS,oI X a t/\
 ∀B:Z0,B.n=b->∀A lo H C m S (D:Ends),RZ X.K B A lo H C m S->kF X.K B E D A H (g m S)->t D C H
def kf:jH:=.nx
def iY(a b:jH):jH:=λm S=>aaP (a m S) b
def jG(f:jr):jH:=λm S=>toZ (f m S) .rt
def jk(i:Nat)(f:jr):jH:=λm S=>toZ (f m S) λz a=>if i<m.length then .nx (m.set i<|some z) a else .bad
def jM(c:jg->i6->RX Bool)(a b:jH):jH:=λm S=>toZ (c m S) λk d=>if k=true then a m d else b m d
variable{b:Nat}{J:Stmt}{rest O M:List Stmt}{g u T P:jH}{c:Expr}{f:jr}{U:jg->i6->RX Bool}
def kG:qQ X E b [] kf:=⟨_,K6,λB a A lo H C m S _ s h=>h A lo H C .refl s⟩
def jE(h:ZS X E b J g):qQ X E b [J] g:=let⟨t,p,r⟩:=h;⟨t,K7 p,r⟩
def jj(V:ZS X E b J g)(R:qQ X E b rest u):qQ X E b (J::rest) (iY g u):=by
 obtain⟨t1,Q,z⟩:=V;obtain⟨t2,G,y⟩:=R;refine⟨_,K5 Q G,λB t A lo H C m S D s h=>z B t A lo H C m S _ s ?_⟩;unfold iY at h;cases q:g m S with
 |nx a i=>rw[q]at h;exact λj r o l x v=>y B t j r o l a i D v (kF.ext h x)
 |bk a i=>rw[q]at h;exact h
 |ct a i=>rw[q]at h;exact h
 |rt d i=>rw[q]at h;exact h
 |ex c ns ds i=>rw[q]at h;exact h
 |bad=>rw[q]at h;exact h
def ac1:ZS X E b (.Break I) .bk:=⟨_,W5,λB a A lo H C m S _ s h=>h A lo H C .refl s⟩
def j7(q:ZE X E e f):ZS X E b (.Return (some e) I) (jG f):=by obtain⟨t,p,r⟩:=q;exact⟨_,K4 p,λB V A lo H C m S D s h=>r _ _ _ _ _ _ _ _ s<|i3.mono (kF.nA h) λz d a G S1 i R Q y v l=>y d a G v i.toEZ l⟩
def j8(i:Nat){x:Str}{a:Pos}(hN:X.N.Nodup)(V:X.N[i]?=some x)(Q:Loc X.env.scope x)(he:ZE X E e f)(R:swapsWith e (some<|.Name x a) I.line X.env=pure false:=by rfl)(hf:X.hf x:=by first|exact .inl rfl|exact .inr rfl|assumption):
    ZS X E b (.Assign [.Name x a] e I) (jk i f):=by
 obtain⟨t,p,r⟩:=he;refine⟨_,Ds hN V Q p R hf,λB hb A lo H C m S D s h=>r _ _ _ _ _ _ _ _ s<|i3.mono (kF.nA h) λz q l H1 S1 y x1 y1 d v G=>?_⟩;by_cases w:i<m.length
 ·simp only[w,dr]at d;exact d q l H1 _ .refl (y.set w G)
 ·simp only[w,bL]at d;exact d.elim
def kE(G:ZT X E c U)(Q:qQ X E b O T)(a:qQ X E b M P):ZS X E b (.If c O M I) (jM U T P):=by
 obtain⟨tc,t,l⟩:=G;obtain⟨ta,y,r⟩:=Q;obtain⟨tb,v,q⟩:=a;refine⟨_,K3 t y v,λB a A lo H C m S D s h=>l _ _ _ _ _ _ _ _ s<|i3.mono (kF.nA h) λk R z H1 S1 d x1 V i=>?_⟩;cases k with
 |true=>exact qX (r _ a _ _ _ _ _ _ _ d i)
 |false=>exact qW (q _ a _ _ _ _ _ _ _ d i)
def pY(r:lH)(k:jH):lH:=match r with
 |.nx m S=>k m S
 |.ct m S=>k m S
 |.bk m S=>.nx m S
 |r=>r
def ab5{K:W.Frag}{B:Z0}{E:XK}{A:Addr->Prop}{H:Hp}{D:Ends}{r:lH}{k:jH}{N:St->Hp->Prop}(h:kF K B E D A H<|pY r k)
    (hN:∀j i o a l q,Xt A H j o->RZ K B j i o a l q->kF K B E D j o (k l q)->N a o):kF K B E {D with nx:=N,ct:=N,bk:=D.nx} A H r:=by
 cases r with
 |nx m S=>exact λj i o a x s=>hN j i o a m S x s (kF.ext h x)
 |ct m S=>exact λj i o a x s=>hN j i o a m S x s (kF.ext h x)
 |bk m S=>exact h
 |rt d S=>exact h
 |ex c t v S=>exact h
 |bad=>exact h
end
def ZG(X:Cx)(j:Expr)(a:D->jg->Option jg):Prop:=∃g:TG,PG X j g/\
 ∀B e lo H h i S v d (Q:St->Hp->Prop),RZ X.K B e lo H h i S->Rep X.K e H v d->(∃c,a d i=some c/\∀b,RZ X.K B e lo H b c S->Q b H)->g v h H Q
def hV(i:Nat):D->jg->Option jg:=λd a=>if i<a.length then some (a.set i<|ba d)else none
def hN:List D->jg->Option jg:=λb a=>match b with
 |[]=>some a
 |_=>none
def hT(n:Nat)(a:List D->jg->Option jg):D->jg->Option jg:=λd b=>match d with
 |.tup ds=>if ds.length=n then a ds b else none
 |_=>none
def abX{b:Type}(r:Option b)(k:b->lH):lH:=match r with
 |some a=>k a
 |none=>.bad
def kY(a:D->jg->Option jg)(b:jH):List D->jH
 |[],e,S=>.nx e S
 |d::r,e,S=>abX (a d e) λc=>pY (b c S) (kY a b r)
section
variable{X:Cx}{E:XK}{b:Nat}{T C:Expr}{j:List Stmt}{O:Ev->R (List D)}{a:D->jg->Option jg}{M:jH}{l:Pos}{e:Expr}{f:jr}
def mK(O:Ev->R (List D))(a:D->jg->Option jg)(M:jH):jH:=λc S=>toZ (lJ (O<|kh c) S) λd g=>kY a M d c g
def si(i)(hN:X.N.Nodup)(n:X.N[i]?=some x)(m:Loc X.env.scope x)(hf:X.hf x:=by first|exact .inl rfl|exact .inr rfl|assumption):ZG X (.Name x l) (hV i):=by
 refine⟨_,zA hN n m hf,λB p lo H o g S v d Q s k h=>?_⟩;obtain⟨c,e,q⟩:=h;unfold hV at e;by_cases z:i<g.length
 ·rw[av z]at e;cases e;exact q _ (s.set z k)
 ·rw[aw z]at e;cases e
def sj(hp:PassesOwn (model X.prog X.w) X.A X.env X.xe)(hc:X.calm=true)(Q:DI X E T C O)(hg:ZG X T a)(Z:qQ X E b j M)(hs:∀x,foldedSetIterable C X.env x=pure x:=by intro _;rfl):
    ZS X E b (.For T C j [] l) (mK O a M):=by
 obtain⟨wi,pi,ri⟩:=Q;obtain⟨g,pg,rg⟩:=hg;obtain⟨tb,pb,rb⟩:=Z;refine⟨_,K2 hp hc pi pg pb hs,λB Z al lo H σ ρ S D s h=>ri _ _ _ _ _ _ _ s.rs<|Aft.mono (i3.toAft (k:=λn v L z S'=>kF X.K B E D v z<|kY a M n ρ S') s<|kF.nA h) λn H1 s1 h1 J wk=>?_⟩;refine⟨λi m r G=>∃c o d F,RZ X.K B c o G r d F/\Wk X.K c G J n/\kF X.K B E D c G (kY a M (n.drop i) d F)/\m=n.length - i,⟨_,al,lo,ρ,S,s.grow s1,wk,h1,rfl⟩,?_⟩
 rintro i m r G ⟨c,o,d,F,V,I,p,rfl⟩
 obtain⟨w1,w2⟩:=I c G .refl V.fresh;by_cases Q:i<n.length
 ·right;have ed:n[i]?=some n[i]:=ao Q;obtain⟨go,yl⟩:=w1 i _ ed;rw[c5 Q]at p;refine⟨go,λt z=>∃c o d F,RZ X.K B c o z t d F/\Wk X.K c z J n/\kF X.K B E D c z (kY a M (n.drop<|i+1) d F),λt z ⟨xX,Y,u,S3,z1,z2,z3⟩=>⟨n.length - (i+1),by omega,xX,Y,u,S3,z1,z2,z3,rfl⟩,λx H3 y=>?_⟩;obtain⟨rfl,rx⟩:=yl x H3 y;unfold kY at p;cases q:a n[i] d with
  |some u=>rw[q]at p;refine rg _ _ _ _ _ _ _ _ _ _ V rx ⟨u,q,λσ3 s3=>rb _ Z _ _ _ _ _ _ _ s3<|ab5 (k:=kY a M<|n.drop<|i+1) p λv L z t U S' x' s' h'=>⟨v,L,U,S',s',λvA H4 x4=>I vA H4<|x'.trans x4,h'⟩⟩
  |none=>rw[q]at p;exact p.elim
 ·left;have e:n.drop i=[]:=dF (by omega);rw[e]at p;exact⟨w2 i<|by omega,p c o G r .refl V⟩
def u1(i:Nat)(g:D->D->R D)(f:jr):jH:=λc S=>match c[i]? with
 |some (some (.d d))=>toZ (f c S) λz k=>match z with
  |.d e=>toZ (lJ (g d e) k) λr h=>.nx (c.set i<|ba r) h
  |_=>.bad
 |_=>.bad
def MH(i:Nat){x:Str}{y:Operator}{g:D->D->R D}{c:Pos}(hN:X.N.Nodup)(hi:X.N[i]?=some x)(Y:Loc X.env.scope x)(Z:AJ X E y g)(he:ZE X E e f)(hf:X.hf x):
    ZS X E b (.AugAssign (.Name x c) y e l) (u1 i g f):=by
 obtain⟨ti,V,di⟩:=Z;obtain⟨t,p,r⟩:=he;refine⟨_,W4 hN hi Y p V hf,λB hb al lo H σ G S D s h=>?_⟩;unfold u1 at h;split at h
 ·rename_i d F;obtain⟨v,hv,Q⟩:=s.vr i _ F;have hl:i<G.length:=(aB.mp F).1;refine⟨v,hv,r _ _ _ _ _ _ _ _ s<|i3.mono (kF.nA h) λz q m H1 S1 k I y1 o u U=>?_⟩;cases z with
  |loc n=>exact o.elim
  |tk ks=>exact o.elim
  |d e=>refine di _ _ _ _ _ _ _ k.fresh (Rep.mv I Q) U (Aft.mono (i3.toAft k<|kF.nA o) λz H2 J h2 w L=>?_);exact h2 q m H2 _ .refl ((k.grow J).set hl L)
 ·exact h.elim
def jx(n:Nat)(c:List Z):jg:=c.map some++List.replicate (n - c.length) none
noncomputable def i8:lH->RX Z
 |.rt z S=>.ok z S
 |.nx _ S=>.ok (.d .non) S
 |.ex c ns ds S=>.ex c ns ds S
 |_=>.bad
def Ly{c:Addr->Prop}{lo}(g:lY K H)(fr:∀a,H a=none->c a)(k:sD K c lo H S)(r:kg K c lo H vs zs):RZ K ⟨H,c,lo,S.length⟩ c lo H (L2.start N vs) (jx N.length zs) S where
 toEZ:=EZ.start (zs:=zs) g fr k
 len:=by unfold L2.start jx;simp[r.length]
 vr:=λi z h=>by
  unfold jx at h;by_cases d:i<zs.length
  ·rw[ay<|by simpa using d,aA]at h;cases q:zs[i]? with
   |none=>rw[q]at h;cases h
   |some y=>rw[q]at h;cases h;obtain⟨v,n,m⟩:=r.get q;refine⟨v,?_,m⟩;unfold L2.start;rw[ay<|by simpa [r.length]using d,aA,n];rfl
  ·rw[aK<|by simpa using d,bI]at h;split at h<;>cases h
variable{P:Program}{w:World}{K:W.Frag}{U:kl}{I:Heap}
def mP{x:Str}{i:Stmt}{f:Addr}{J:FuncData}{N u:List Str}{k:Nat}{g:Nat->jH}(F:j0 K x x i f J)(S:kj N u<|jt i)
    (j:∀(b:Nat) (d:Value) (A:Around) (outer:List Env) (s:Shared) (H:Hp) (E:XK),kQ k (lE (kL P w) P w K U I N x (jt i) f d A outer s H E).A->qQ (lE (kL P w) P w K U I N x (jt i) f d A outer s H E) E b (kx i) (g b)):
    jN P w K U I (k+1) f J u (jJ u.length K λn S=>i8<|g S.length (jx N.length n) S):=by
 refine F.Kk S (λG H Q E h=>h.1) (λd A outer s H G Q E hr h=>?_);obtain⟨hl,Y,L,lo,n,m,fr,i,rv,h⟩:=h;obtain⟨t,p,r⟩:=j m.length d A outer s H E hr;dsimp only at h;refine⟨t,p,r ⟨H,L,lo,m.length⟩ rfl L lo H (L2.start N G) (jx N.length n) m _ (Ly Y fr i rv) ?_⟩;cases q:g m.length (jx N.length n) m with
 |nx B o=>rw[q]at h;exact λy v H' V _ Z=>h y v H' .non Z.toEZ .non
 |rt z o=>rw[q]at h;exact h
 |ex c ns es o=>rw[q]at h;exact h
 |bk B o=>rw[q]at h;exact h.elim
 |ct B o=>rw[q]at h;exact h.elim
 |bad=>rw[q]at h;exact h.elim
variable{L:Stmt}
def mY(g:Ev->R (List D)):jr:=λd S=>(lJ (g<|kh d) S).bind λh c=>.ok (.loc c.length) (c++[.li<|h.map .d])
def tN(m:DN X E e fn):ZE X E e (mY fn):=by obtain⟨t,p,r⟩:=m;refine⟨t,p,λB u lo H x y S Q s h=>r _ _ _ _ _ _ _ s.rs<|Aft.mono (i3.toAft s<|i3.split h) λq v i o p g d k=>?_⟩;have c:=s.grow i;have n:lU X.K (λb=>u b/\b≠p) (kZ lo S.length p) (upd v p<|.lst g) p (.li<|q.map .d):=⟨g,kC,kg.mv (qH d) (oR c.st p)<|.ofD k⟩;exact o _ _ _ (c.new d oo n nofun) (qH d) (oR c.st p) _ ⟨p,by unfold kZ;rw[av rfl],rfl⟩
def ML(i)(hN:X.N.Nodup)(z:X.N[i]?=some x)(v:Loc X.env.scope x)(F:tO X E e fn)(y:swapsWith e (some<|.Name x pos') l.line X.env=pure true)(hf:X.hf x):
    ZS X E b (.Assign [.Name x pos'] e l) (jk i<|zD<|jq fn):=by
 obtain⟨t,_,p,r⟩:=F;refine⟨_,Xa hN z v p y hf,λB Y n lo H V q S D s h=>r _ _ _ _ _ _ _ s.rs ?_⟩;have J:=i3.toAft s (i3.split<|kF.nA h);refine Aft.mono (Aft.split J) λQ Z m G p g d u=>?_;have k:=(s.grow m).grow (mj (K:=X.K) (o:=HO.lst g) d);have c:=G _ (mj (K:=X.K) (o:=HO.lst g) d) n lo _ k .refl .refl;dsimp only at c;by_cases w:i<q.length
 ·rw[av w]at c;exact c _ _ _ _ .refl (k.set w<|show kq X.K n lo _ (.ref p) (.d<|.lst Q)from u.uH d ((s.grow m).fresh p d))
 ·rw[aw w]at c;exact c.elim
end
section
variable{X:Cx}{E:XK}{b:Nat}{e:Expr}{l:Pos}{f:jr}
def oz(i:Nat)(f:jr):jH:=λa S=>match a[i]? with
 |some (some (.loc n))=>(match S[n]? with
  |some (.li _)=>toZ (f a S) λz d=>(match d[n]? with
   |some (.li c)=>if c.length<sizeLine then .nx a (d.set n<|.li<|c++[z])else .bad
   |_=>.bad)
  |_=>.bad)
 |_=>.bad
def RZ.cell{lo}(s:RZ K B al lo H σ ρ S){n}(g:lo n=some a)(h:S[n]?=some c):lU K al lo H a c:=by obtain⟨j,d,i⟩:=s.st.at' n a g;rw[h]at d;cases d;exact i
def vi(i){d:Pos}(pa:PlainAttrs "list")(C:Slot "list" "append" "list.append")(L:typeOf (.builtin "list.append")=pure (.type "method_descriptor"))(he:ZE X E e f)
 (hN:X.N[i]?=some x:=by rfl)(hv:qP X.env.scope x:=by first|exact Or.inl rfl|exact Or.inr (Or.inl rfl)|exact Or.inr (Or.inr rfl))(hd:oi x:=by decide)
 (O:(x==("__classdict__":Str))=false:=by decide)
 (m:attributeBase (.Name x ng) "append" X.env (eval (.Name x ng) X.env)=eval (.Name x ng) X.env:=by rfl)
 (F:((backTo cpos (starEach [e] X.env)).all (λx=>!x.1)&&(backToKw cpos (keywordEach [] X.env)).all (λx=>x.1.isSome)
 &&decide ([e].length+([]:List Keyword).length+(if([]:List Keyword).isEmpty then 0 else 1)<30))=true:=by rfl)
 (k:(d.endLine==cpos.line)=true:=by rfl)(T:X.se e []:=by rfl)(g:(backTo cpos<|starEach [] X.env).any (·.1)=false:=by rfl)
 (M:swapsWith (.Call (.Attribute (.Name x ng) "append" d) [e] [] cpos) none l.line X.env=pure false:=by rfl):
   ZS X E b (.Expr (.Call (.Attribute (.Name x ng) "append" d) [e] [] cpos) l) (oz i f):=by
  obtain⟨t,p,r⟩:=he;refine⟨_,K1 (KC pa C L J1 (wI hN hv hd O) (q8 p rf T) m F k T g) M,λB Q al lo H σ ρ S D s h=>?_⟩;unfold oz at h;split at h
  ·rename_i n q;split at h
   ·rename_i Z q0;obtain⟨v,e1,a,U,rfl⟩:=s.vr i _ q;obtain⟨vs,e2,e3⟩:=s.cell U q0;refine⟨_,e1,.inl ⟨rfl,vs,.inl<|.inl e2⟩,r _ _ _ _ _ _ _ _ s<|i3.mono (kF.nA h) λz G lo1 Y S1 J x1 y1 y u ru=>?_⟩;split at y
    ·rename_i R q1;have j:=y1 n a U;obtain⟨I,g2,V⟩:=J.cell j q1;by_cases w:R.length<sizeLine
     ·rw[av w]at y;have x2:Xt G Y G (upd Y a (.lst (I++[u]))):=λb o _ Q eb=>⟨Q,by rw[jB λz=>J.st.na n a j (by rw[<-z];exact Q)];exact eb⟩;obtain⟨s2,x3⟩:=J.write j (o:=.lst (I++[u])) (c:=.li (R++[z])) oo (λq w=>by unfold lV at w;cases w) ⟨_,kC,kg.mv x2 .refl (V.append (.cons ru .nil))⟩ nofun;exact⟨a,I,u,rfl,rfl,g2,by rw[V.length];exact w,y _ _ _ _ x3 s2⟩
     ·rw[aw w]at y;exact y.elim
    ·exact y.elim
   ·exact h.elim
  ·exact h.elim
def u3(i:Nat)(d:jw)(f:jr):jH:=λa S=>toZ (f a S) λz g=>match a[i]? with
 |some (some (.loc n))=>toZ (lJ (d (kh a)) g) λk c=>(match k,c[n]? with
  |.int j,some (.li zs)=>(match qx zs.length j with
   |some m=>.nx a (c.set n<|.li<|zs.set m z)
   |none=>.bad)
  |_,_=>.bad)
 |_=>.bad
variable{k:Expr}{y:jw}
def MK(i)(hk:DE X E k y)(he:ZE X E e f)
 (hN:X.N[i]?=some x)(hv:qP X.env.scope x)(hd:oi x)
 (R:(x==("__classdict__":Str))=false)
 (ha:∀v,assign (.Subscript (.Name x ng) k u0) X.env v=(do
 let G<-holding [v] (eval (.Name x ng) X.env)
 let O<-holding [v,G] (eval k X.env)
 standAt u0
 holding [v,G,O] (setItem G O v)
 release [v,G,O] []))
 (hs:swapsWithSole [.Subscript (.Name x ng) k u0] e l.line X.env=pure false)(hw:swappedStores [.Subscript (.Name x ng) k u0] e X.env=pure none)
 (g:(assignEach [.Subscript (.Name x ng) k u0] X.env).map (·.2)=[assign (.Subscript (.Name x ng) k u0) X.env]):
   ZS X E b (.Assign [.Subscript (.Name x ng) k u0] e l) (u3 i y f):=by
  obtain⟨t,p,r⟩:=he;obtain⟨tk,pk,rk⟩:=hk;refine⟨_,W2 p (WH (wI hN hv hd R) pk set_list ha) hs hw g,λB T al lo H σ ρ S D s h=>r _ _ _ _ _ _ _ _ s<|i3.mono (kF.nA h) λz C lo1 H1 S1 F x1 y1 g v rv=>?_⟩;split at g
  ·rename_i n q;obtain⟨u,e1,a,Q,rfl⟩:=F.vr i _ q;refine⟨_,e1,rk _ _ _ _ _ _ _ F.rs<|Aft.mono (i3.toAft F<|kF.nA g) λdk Y U d w L=>?_⟩;have J:=F.grow U;split at d
   ·rename_i j Z q2;cases L;obtain⟨I,g1,V⟩:=J.cell Q q2;split at d
    ·rename_i m qm;have M:=kq.mv (.of U) .refl rv;have x2:Xt C Y C (upd Y a (.lst (I.set m v))):=λb o _ T eb=>⟨T,by rw[jB λz=>J.st.na n a Q (by rw[<-z];exact T)];exact eb⟩;obtain⟨s4,x4⟩:=J.write Q (o:=.lst (I.set m v)) (c:=.li (Z.set m z)) oo (λq w=>by unfold lV at w;cases w) ⟨_,kC,kg.mv x2 .refl (V.set M m)⟩ nofun;exact⟨a,I,j,m,rfl,rfl,g1,by rw[V.length];exact qm,d _ _ _ _ x4 s4⟩
    ·exact d.elim
   ·exact d.elim
  ·exact g.elim
end
mutual
def oW:D->Bool
 |.lst _=>false
 |.tup ds=>zk ds
 |.exc _ _ _=>false
 |_=>true
def zk:List D->Bool
 |[]=>true
 |d::r=>oW d&&zk r
end
def nR(S:i6):Option Z->Sl
 |some (.d x)=>.sh x
 |some (.loc n)=>(match S[n]? with
  |some (.li a)=>(match md a with
   |some b=>.sh (.lst b)
   |none=>.no)
  |_=>.no)
 |_=>.no
def vw(S:i6)(a:jg):Ev:=a.map (nR S)
section
variable{K:W.Frag}{B:Z0}{c:Addr->Prop}{lo:Lo}{H l:Hp}{e:St}{f:jg}{S:i6}
def xY(c:Addr->Prop)(lo:Lo):Addr->Prop:=λa=>c a\/∃n,lo n=some a
def RZ.Ls(r:RZ K B c lo H e f S):RS K (xY c lo) H (xY c lo) H e (vw S f) where
 same:=.refl H
 tt:=r.tt
 fresh:=λa h=>.inl (r.fresh a h)
 sub:=λ_ h=>h
 pf:=λa h=>.inl (r.fresh a h)
 len:=by unfold vw;rw[ai];exact r.len
 sh:=λi d h=>by
  unfold vw at h;rw[aA]at h;obtain⟨z,g,b⟩:=aF.mp h;cases z with
  |none=>cases b
  |some z=>
   obtain⟨v,y,m⟩:=r.vr i z g;refine⟨v,y,?_⟩;cases z with
   |d x=>cases b;exact Rep.mv (.sub λ_ h=>.inl h) m
   |tk G=>cases b
   |loc n=>
    unfold nR at b;dsimp only at b;split at b
    ·rename_i D q;split at b
     ·rename_i o p;cases b;have:=sH p;subst this;obtain⟨a,k,rfl⟩:=m;obtain⟨F,u,t⟩:=r.cell k q;exact .lst (.inl ⟨.inr ⟨n,k⟩,.inl u⟩) (jb.mv (.sub λ_ h=>.inl h) t.toD)
     ·cases b
    ·cases b
 ow:=λi o h=>by
  unfold vw at h;rw[aA]at h;obtain⟨z,g,b⟩:=aF.mp h;unfold nR at b;split at b;·cases b
  ·split at b;·split at b<;>cases b
   ·cases b
  ·cases b
 apart:=λi j o C a h _ _ _=>by
  unfold vw at h;rw[aA]at h;obtain⟨z,g,b⟩:=aF.mp h;unfold nR at b;split at b;·cases b
  ·split at b;·split at b<;>cases b
   ·cases b
  ·cases b
mutual
theorem Rep.oW(g:∀n a,lo n=some a->¬∃i,Rd H a<|.tup i):∀{v} {d},Rep K (xY c lo) H v d->P2.oW d=true->Rep K c H v d
 |_,_,.non,_=>.non
 |_,_,.bl b,_=>.bl b
 |_,_,.int b,_=>.int b
 |_,_,.str b,_=>.str b
 |_,_,.ty b,_=>.ty b
 |_,_,.ref b,_=>.ref b
 |_,_,.tup p q,h=>.tup (p.elim (λz=>.inl ⟨z.1.elim id λ⟨n,m⟩=>absurd ⟨_,.inl z.2⟩<|g n _ m,z.2⟩) .inr) (jb.oW g q h)
 |_,_,.lst p q,h=>by cases h
 |_,_,.exc k j r o q,h=>by cases h
 |_,_,.vO k j,h=>by cases h
theorem jb.oW(g:∀n a,lo n=some a->¬∃i,Rd H a<|.tup i):∀{v} {d},jb K (xY c lo) H v d->zk d=true->jb K c H v d
 |_,_,.nil,_=>.nil
 |_,_,.cons (d:=d) (ds:=ds) p q,h=>by have b:(P2.oW d&&zk ds)=true:=h;rw[aS]at b;exact .cons (Rep.oW g p b.1) (jb.oW g q b.2)
end
def RZ.q7(r:RZ K B al lo H σ ρ S):∀n a,lo n=some a->¬∃e,Rd H a (.tup e):=λn a i ⟨e,h⟩=>by
 obtain⟨c,_,q⟩:=r.st.at' n a i;cases c with
 |li j=>obtain⟨d,g,_⟩:=q;rcases h with h|⟨o,h⟩<;>(rw[g]at h;cases h)
 |ob C fs=>obtain⟨l,d,g,_⟩:=q;rcases h with h|⟨o,h⟩<;>(rw[g]at h;cases h)
 |dk b=>obtain⟨d,g,_⟩:=q;rcases h with h|⟨o,h⟩<;>(rw[g]at h;cases h)
 |dt b=>obtain⟨d,g,_⟩:=q;rcases h with h|⟨o,h⟩<;>(rw[g]at h;cases h)
 |ft b=>obtain⟨d,k,g,_⟩:=q;rcases h with h|⟨o,h⟩<;>(rw[g]at h;cases h)
 |no=>exact q
 |mk=>exact q
end
def zR(f:jw):jr:=λa S=>match f (vw S a)with
 |.ok d=>if oW d=true then .ok (.d d) S else .bad
 |_=>.bad
def qg(f:Ev->R Bool):jg->i6->RX Bool:=λa S=>match f (vw S a)with
 |.ok d=>.ok d S
 |_=>.bad
variable{X:Cx}{E:XK}{b:Nat}{e:Expr}{pos:Pos}
def vh(h:DE X E e f):ZE X E e (zR f):=by
 obtain⟨t,p,r⟩:=h;refine⟨t,p,λB j lo H l g S Q z h=>r _ _ _ _ _ _ _ z.Ls ?_⟩;unfold zR at h;cases q:f (vw S g)with
 |bad=>rw[q]at h;exact h.elim
 |ex c m n=>rw[q]at h;exact h.elim
 |ok d=>
  rw[q]at h;dsimp only at h;by_cases w:oW d=true
  ·rw[av w]at h;exact λk a v i=>h j lo k (z.grow a) (.of a) .refl v (Rep.oW (z.grow a).q7 i w)
  ·rw[aw w]at h;exact h.elim
def Fb(h:DT X E e f):ZT X E e (qg f):=by
 obtain⟨t,p,r⟩:=h;refine⟨t,p,λB i lo H k g S Q z h=>r _ _ _ _ _ _ _ z.Ls ?_⟩;unfold qg at h;cases q:f (vw S g)with
 |bad=>rw[q]at h;exact h.elim
 |ex c l m=>rw[q]at h;exact h.elim
 |ok d=>rw[q]at h;exact λj a=>h i lo j (z.grow a) (.of a) .refl
def pX(n:Nat)(d:D):Option Z->Option Z
 |some (.loc m)=>if m=n then ba d else iO m
 |o=>o
def mx(n:Nat):Z->Bool
 |.loc m=>decide (m=n)
 |_=>false
def kN(n:Nat):Cell->Bool
 |.li zs=>zs.any (mx n)
 |.ob _ fs=>fs.any λp=>mx n p.2
 |.dk a=>a.any λp=>mx n p.2
 |.dt a=>a.any λp=>mx n p.2
 |.ft a=>a.any λp=>mx n p.2
 |.no=>false
 |.mk=>false
def ux(b i:Nat)(a:jg)(S:i6):Option (jg×i6):=match a[i]? with
 |some (some (.loc n))=>(match S[n]? with
  |some (.li c)=>(match md c with
   |some d=>if b<=n/\(S.any<|kN n)=false then some (a.map<|pX n<|.lst d,S.set n .no)else none
   |none=>none)
  |_=>none)
 |some _=>some (a,S)
 |none=>none
variable{K:W.Frag}{B:Z0}{al:Addr->Prop}{lo:Lo}{H:Hp}{σ:St}{ρ sk:jg}{S S':i6}
def kq.out{g:Addr->Prop}{c:Lo}{n:Nat}(x:Xt al H g H)(y:∀m a,m≠n->lo m=some a->c m=some a){v:V}{z:Z}(r:kq K al lo H v z)(h:mx n z=false):kq K g c H v z:=by
 cases z with
 |d d=>exact Rep.mv x r
 |loc m=>obtain⟨a,j,i⟩:=r;exact⟨a,y m a (by simpa [mx]using h) j,i⟩
 |tk k=>obtain⟨a,j,i,l⟩:=r;obtain⟨p,o⟩:=x a (.tup<|k.map kV) (λ_ h=>nomatch h) j i;exact⟨a,p,o,l⟩
def kg.out{d:Addr->Prop}{c:Lo}{n:Nat}(x:Xt al H d H)(y:∀m a,m≠n->lo m=some a->c m=some a){i:List V}{g:List Z}(r:kg K al lo H i g)(h:g.any (mx n)=false):kg K d c H i g:=by
 induction r with
 |nil=>exact .nil
 |cons a _ j=>rw[cZ,ig]at h;exact .cons (a.out x y h.1) (j h.2)
def ko.out{i:Type}{d:Addr->Prop}{c:Lo}{n:Nat}(x:Xt al H d H)(y:∀m a,m≠n->lo m=some a->c m=some a){j:List<|i×V}{g:List<|i×Z}(r:ko K al lo H j g)(h:(g.any λp=>mx n p.2)=false):ko K d c H j g:=by
 induction r with
 |nil=>exact .nil
 |cons a _ k=>rw[cZ,ig]at h;exact .cons (a.out x y h.1) (k h.2)
def lU.out{l:Addr->Prop}{j:Lo}{n:Nat}(x:Xt al H l H)(y:∀m a,m≠n->lo m=some a->j m=some a){a:Addr}{c:Cell}(r:lU K al lo H a c)(h:kN n c=false):lU K l j H a c:=by
 cases c with
 |li t=>obtain⟨p,g,d⟩:=r;exact⟨p,g,d.out x y h⟩
 |ob C fs=>obtain⟨q,i,g,d⟩:=r;exact⟨q,i,g,d.out x y h⟩
 |dk k=>obtain⟨i,g,d⟩:=r;exact⟨i,g,d.out x y h⟩
 |dt k=>obtain⟨i,g,d⟩:=r;exact⟨i,g,d.out x y h⟩
 |ft k=>obtain⟨i,o,g,d⟩:=r;exact⟨i,o,g,d.out x y h⟩
 |no=>exact r
 |mk=>exact r
def RZ.freeze(r:RZ K B al lo H σ ρ S)(h:ux B.n i ρ S=some (sk,S')):∃C t,RZ K B C t H σ sk S'/\Xt al H C H/\∀n,ρ[i]?=some (iO n)->∀m a,m≠n->lo m=some a->t m=some a:=by
 unfold ux at h;split at h
 ·rename_i n q;split at h
  ·rename_i zs R;split at h
   ·rename_i ds qd;split at h
    ·rename_i w;cases h;obtain⟨v,e1,a,J,rfl⟩:=r.vr i _ q;have:=sH qd;subst this;obtain⟨vs,g1,g2⟩:=r.cell J R;have V:n<S.length:=(aB.mp R).1;have x:Xt al H (λb=>al b\/b=a) H:=λb o _ l e=>⟨.inl l,e⟩;have hB:B.H a=none:=by
      rcases r.nw n a J with z|z;·exact absurd (r.bd n a z) (by omega)
      ·exact z.1
     refine⟨λb=>al b\/b=a,λm=>if m=n then none else lo m,?_,x,λn' e m b g l=>?_⟩;rotate_left;·rw[q]at e;cases e;dsimp only;rw[aw g];exact l
     have y:∀m b,m≠n->lo m=some b->(λm=>if m=n then none else lo m) m=some b:=λm b g h=>by dsimp only;rw[aw g];exact h
     have back:∀m b,(if m=n then none else lo m)=some b->m≠n/\lo m=some b:=λm b h=>by
      by_cases z:m=n;·rw[av z]at h;cases h
      ·rw[aw z]at h;exact⟨z,h⟩
     have cl:∀c∈S,kN n c=false:=λc L=>by have:=cq.mp w.2 c L;simpa using this
     refine {fr:=r.fr,hf:=r.hf,tt:=r.tt,fresh:=λb l=>.inl<|r.fresh b l,st:=⟨λm b g=>?_,λm c g L O=>?_,λm b g l=>?_,λm T b h1 h2=>?_,λm b u l hu=>.inl<|r.st.tl ?_ b u l hu⟩,lx:=λm b g=>?_,nw:=λm b g=>r.nw m b (back m b g).2,bd:=r.bd,sz:=by rw[aP];exact r.sz,xt:=r.xt.trans x,sb:=λb l=>?_,len:=by rw[ai];exact r.len,vr:=λj z U=>?_}
     ·obtain⟨M,z2⟩:=back m b g;obtain⟨c,I,p⟩:=r.st.at' m b z2;exact⟨c,by rw[au (bV M)];exact I,p.out x y (cl c (bf I))⟩
     ·by_cases z:n=m
      ·subst z;rw[aD V]at g;cases g;exact absurd rfl L
      ·rw[au z]at g;obtain⟨b,k⟩:=r.st.has m c g L O;exact⟨b,by show(if m=n then none else lo m)=some b;rw[aw<|bV z];exact k⟩
     ·obtain⟨M,z2⟩:=back m b g;rcases l with l|rfl;·exact r.st.na m b z2 l
      ·exact M (r.st.inj m n _ z2 J)
     ·exact r.st.inj m T b (back m b h1).2 (back T b h2).2
     ·by_cases z:n=0
      ·subst z;rw[aD V]at m;cases m
      ·rw[au z]at m;exact m
     ·have:=r.bd m b g;show(if m=n then none else lo m)=some b;rw[aw<|by omega];exact r.lx m b g
     ·rcases l with l|rfl;·exact r.sb b l
      ·exact .inr hB
     ·rw[aA]at U;obtain⟨o,I,p⟩:=aF.mp U;cases o with
      |none=>cases p
      |some Q=>
       obtain⟨u,m1,F⟩:=r.vr j Q I;refine⟨u,m1,?_⟩;cases Q with
       |d x0=>cases p;exact Rep.mv x F
       |tk ks=>cases p;obtain⟨Y,j1,j2,j3⟩:=F;obtain⟨i1,i2⟩:=x Y (.tup<|ks.map kV) (λ_ h=>nomatch h) j1 j2;exact⟨Y,i1,i2,j3⟩
       |loc m=>
        have p:(if m=n then some (Z.d<|.lst ds)else some (Z.loc m))=some z:=p;by_cases D:m=n
        ·rw[av D]at p;cases p;obtain⟨b,G,rfl⟩:=F;rw[D,J]at G;cases G;exact .lst (.inl ⟨.inr rfl,.inl g1⟩) (jb.mv x g2.toD)
        ·rw[aw D]at p;cases p;obtain⟨b,G,rfl⟩:=F;exact⟨b,by dsimp only;rw[aw D];exact G,rfl⟩
    ·cases h
   ·cases h
  ·cases h
 ·cases h;exact⟨al,lo,r,.refl,λ_ _ _ _ _ h=>h⟩
 ·cases h
variable{sts:List Stmt}{st:Stmt}{g:jH}
def rZ(b i:Nat)(g:jH):jH:=λρ S=>match ux b i ρ S with
 |some (sk,S')=>g sk S'
 |none=>.bad
def Ay(i)(h:ZS X E b st g):ZS X E b st (rZ b i g):=by
 obtain⟨t,p,r⟩:=h;refine⟨t,p,λB a al lo H σ ρ S D s h=>?_⟩;unfold rZ at h;split at h
 ·rename_i sk S' q;rw[<-a]at q;obtain⟨j,d,c,x,_⟩:=s.freeze q;exact r B a _ _ _ _ _ _ _ c (kF.ext h x)
 ·exact h.elim
end P2
namespace L2
open PySem PySem.Spec PyProof.Rows
section
variable{a:Type}[DecidableEq a]
def lP(c:List<|a×V)(k:a):Option V:=(c.find? λd=>decide<|d.1=k).map (·.2)
def putK(c:List<|a×V)(k:a)(v:V):List (a×V):=
 if(c.any λd=>decide<|d.1=k)=true then c.map (λd=>if d.1=k then(d.1,v)else d)else c++[(k,v)]
def EO{p:a×V}{k}(e:p.1=k):lP (p::r) k=some p.2:=by simp[lP,cU,e]
def EN{p:a×V}{k}(e:¬p.1=k):lP (p::r) k=lP r k:=by simp[lP,cU,e]
theorem Mi(k):∀c:List (a×V),(c.any λd=>decide<|d.1=k)=(lP c k).isSome
 |[]=>rfl
 |p::r=>by
  rw[cZ];by_cases e:p.1=k;·simp only[EO e,aO e,Bool.true_or,Option.isSome_some]
  ·rw[EN e,aI e,Bool.false_or];exact Mi k r
def Cr(c:List<|a×V)(k:a)(v:V):(putK c k v).length<=c.length+1:=by
 unfold putK;split;·rw[ai];omega
 ·rw[ar,aj,cV];omega
def mq.RL{u}(r:mq o u):o.isSome=u.isSome:=by
 cases o with
 |none=>cases u with
  |none=>rfl
  |some _=>exact(show False from r).elim
 |some _=>cases u with
  |none=>exact(show False from r).elim
  |some _=>rfl
def mq.getD{u d}(r:mq o u)(c:RelV d d'):RelV (o.getD d) (u.getD d'):=by
 cases o with
 |none=>cases u with
  |none=>exact c
  |some _=>exact(show False from r).elim
 |some _=>cases u with
  |none=>exact(show False from r).elim
  |some _=>exact r
def KV.val{c:List<|a×V}{j:List<|a×Value}(r:KV c j)(k:a):mq (lP c k) (valueAt j k):=by
 unfold KV at r;induction r with
 |nil=>exact True.intro
 |@cons p q o d h t m=>
  obtain⟨l,n⟩:=h;by_cases e:p.1=k
  ·have i:q.1=k:=l.symm.trans e;have b:valueAt (q::d) k=some q.2:=by simp[valueAt,cU,i]
   rw[EO e,b];exact n
  ·have i:¬q.1=k:=λz=>e (l.trans z);have b:valueAt (q::d) k=valueAt d k:=by simp[valueAt,cU,i]
   rw[EN e,b];exact m
def KV.any{c:List<|a×V}{i:List<|a×Value}(r:KV c i)(k:a):(c.any λd=>decide<|d.1=k)=i.any λd=>decide (d.1=k):=by
 unfold KV at r;induction r with
 |nil=>rfl
 |cons h t j=>rw[cZ,cZ,j,h.1]
def KV.Dx(r:KV kvs vs)(k:a){u}(i:RelV y u):
    KV (kvs.map λc=>if c.1=k then(c.1,y)else c) (vs.map λc=>if c.1=k then(c.1,u)else c):=by
 unfold KV at r⊢;induction r with
 |nil=>exact .nil
 |@cons p q n m h t j=>
  rw[aT,aT];refine .cons ?_ j;obtain⟨d,l⟩:=h;by_cases e:p.1=k;·rw[av e,av<|d.symm.trans e];exact⟨d,i⟩
  ·rw[aw e,aw<|λz=>e<|d.trans z];exact⟨d,l⟩
def KV.put{c:List<|a×V}{d:List<|a×Value}(r:KV c d)(k:a){y:V}{u:Value}(h:RelV y u):KV (putK c k y) (stored d k u):=by
 unfold putK stored;rw[r.any k];by_cases e:(d.any λi=>decide<|i.1=k)=true;·rw[av e,av e];exact r.Dx k h
 ·rw[aw e,aw e];exact Paired.snoc r ⟨rfl,h⟩
def KV.length(r:KV kvs vs):kvs.length=vs.length:=Paired.length r
end
def oP{w k u}(r:RelV (kV k) u):(j4 P w).is k u=true:=by
 cases k with
 |inl i=>obtain⟨t,e⟩:=(show∃t,u=Value.int i t from r);subst e;exact Uo P w i t
 |inr x=>obtain⟨t,e⟩:=(show∃t,u=Value.str x t from r);subst e;exact Up P w x t
theorem Ce{w}:∀{a:List Key} {c},Vals (a.map kV) c->ItemsAre (j4 P w) a c
 |[],_,r=>by rw[d3]at r;cases r;exact .nil
 |k::a,_,r=>by
  rw[aT]at r;cases r with
  |cons h t=>exact .cons (oP h) (Ce t)
abbrev KT(H:Hp):List (List Key×V)->List (List Key×Addr×Value)->Prop:=Paired λp q=>p.1=q.1/\H q.2.1=some (.tup<|p.1.map kV)/\RelV p.2 q.2.2
def KT.val(r:KT H kvs xs)(k):mq (lP kvs k) ((atKey xs k).map (·.2)):=by
 induction r with
 |nil=>exact True.intro
 |@cons p q l a h t i=>
  obtain⟨d,_,j⟩:=h;by_cases e:p.1=k
  ·have c:q.1=k:=d.symm.trans e;have b:atKey (q::a) k=some q.2:=by simp[atKey,cU,c]
   rw[EO e,b];exact j
  ·have c:¬q.1=k:=λz=>e (d.trans z);have b:atKey (q::a) k=atKey a k:=by simp[atKey,cU,c]
   rw[EN e,b];exact i
def KT.Dx(r:KT H kvs xs)(k:List Key){u}(i:RelV y u):
    KT H (kvs.map λc=>if c.1=k then(c.1,y)else c) (xs.map<|putAt k u):=by
 induction r with
 |nil=>exact .nil
 |@cons p q n m h t j=>
  rw[aT,aT];refine .cons ?_ j;obtain⟨a,d,l⟩:=h;unfold putAt;by_cases e:p.1=k;·rw[av e,av<|a.symm.trans e];exact⟨a,d,i⟩
  ·rw[aw e,aw<|λz=>e<|a.trans z];exact⟨a,d,l⟩
def KT.put(r:KT H kvs xs)(k:List Key){u}(d:H b=some (.tup<|k.map kV))(a:RelV y u):
    KT H (putK kvs k y) (storedH xs k b u):=by
 have e:(kvs.any λc=>decide<|c.1=k)=(atKey xs k).isSome:=by rw[Mi,(r.val k).RL,Option.isSome_map]
 unfold putK storedH;rw[e];by_cases q:(atKey xs k).isSome=true;·rw[av q,av q];exact r.Dx k a
 ·rw[aw q,aw q];exact Paired.snoc r ⟨rfl,d,a⟩
def KT.keeps{H':Hp}(r:KT H kvs xs)(c:∀b a,H b=some (.tup a)->H' b=some (.tup a)):KT H' kvs xs:=
 Paired.CB r λ_ _ z=>⟨z.1,c _ _ z.2.1,z.2.2⟩
section
variable{P:Program}{w:World}{H:Hp}{h:Heap}{a:Addr}
def Ll{u}(ok:kH P w H h)(e:Rd H a u):kz P w H h a u:=e.ok ok
def vN(ok:kH P w H h)(e:Rd H a<|.dK kvs):kvs.length<=sizeLine/\(a==sysModules)=false/\∃c,KV kvs c/\h.DictOf (j4 P w) a c:=
 show kz P w H h a (.dK kvs)from Ll ok e
def Ho(ok:kH P w H h)(e:H a=some (.dK kvs)):kvs.length<=sizeLine/\(a==sysModules)=false/\∃c,KV kvs c/\h.DictOf (j4 P w) a c:=vN ok (.inl e)
def wh{c:List Key}(ok:kH P w H h)(e:H a=some (.tup (c.map kV))):(tupleKind (j4 P w)).is h c a:=by obtain⟨_,d,r,o,k,j,n,i⟩:=(show kz P w H h a (.tup<|c.map kV)from ok a _ e);exact⟨o,d.toArray,n,k,j,i,by simpa using Ce r⟩
def uo(ok:kH P w H h)(e:Rd H a<|.dT kvs):kvs.length<=sizeLine/\(a==sysModules)=false/\
    ∃d,KT H kvs d/\h.DictOfH (tupleKind<|j4 P w) a d:=by
 obtain⟨z,y,d,r,o,D,F,C,v,u,n,k⟩:=(show kz P w H h a (.dT kvs)from Ll ok e);refine⟨z,y,d,r,o,D,F,C,v,u,n,λx c=>?_,k⟩;have all:∀{l:List<|List Key×V} {m:List<|List Key×Addr×Value},KT H l m->∀x∈m,(tupleKind<|j4 P w).is h x.1 x.2.1:=by
  intro l m q;induction q with
  |nil=>intro x c;exact nomatch c
  |@cons p q I G i t j=>
   intro x c;rcases aE.mp c with e|c
   ·subst e;exact wh ok (by rw[<-i.1];exact i.2.1)
   ·exact j x c
 exact all r x c
def Bl(ok:kH P w H h)(e:H a=some (.dT kvs)):kvs.length<=sizeLine/\(a==sysModules)=false/\
    ∃c,KT H kvs c/\h.DictOfH (tupleKind<|j4 P w) a c:=uo ok (.inl e)
end
def qJ(H:Hp)(a:Addr)(y:V)(r:Option V):Prop:=
 (∃c k,Rd H a (.dK c)/\y=kV k/\r=lP c k)\/∃c k b,Rd H a (.dT c)/\y=.ref b/\H b=some (.tup<|k.map kV)/\r=lP c k
def xy(H:Hp)(a:Addr)(y v:V)(d:Hp):Prop:=
 (∃c k,H a=some (.dK c)/\y=kV k/\c.length<sizeLine/\d=upd H a (.dK<|putK c k v))\/
 ∃c k b,H a=some (.dT c)/\y=.ref b/\H b=some (.tup<|k.map kV)/\c.length<sizeLine/\d=upd H a (.dT<|putK c k v)
def qJ.k{H:Hp}{k}(e:H a=some (.dK kvs)):qJ H a (kV k) (lP kvs k):=.inl ⟨kvs,k,.inl e,rfl,rfl⟩
def qJ.t{H:Hp}{k:List Key}(e:H a=some (.dT kvs))(c:H b=some (.tup<|k.map kV)):qJ H a (.ref b) (lP kvs k):=.inr ⟨kvs,k,b,.inl e,rfl,c,rfl⟩
def xy.t{H:Hp}{k:List Key}(e:H a=some (.dT kvs))(d:H b=some (.tup<|k.map kV))(c:kvs.length<sizeLine):
    xy H a (.ref b) v (upd H a<|.dT<|putK kvs k v):=.inr ⟨kvs,k,b,e,rfl,d,c,rfl⟩
section
variable{X:Cx}{f:List<|Addr×Obj}{i:St}{H:Hp}{s:Shared}{a:Addr}{y v:V}{u r:Value}{o:Option V}{A:Around}{E:jW}
def Inv.big(I:Inv X f i H s):sysModules<s.heap.objs.size:=by have h:mainGlobals<s.heap.objs.size:=(I.mod.glob.keeps I.bk).lt;exact eP (by decide) h
def OR{Q:jW}(G:A.units+1<cLine)(I:Inv X f i H s)(g:qJ H a y<|some v)(C:RelV y u)(h:∀j x,Inv X f i H x->RelV v j->Q j x):
    wpAny (model X.prog X.w) A (getItem (.ref a) u) Q E s:=by
 rcases g with⟨m,k,e,t,l⟩|⟨m,k,b,e,t,M,l⟩
 ·subst t;obtain⟨z,L,F,d,dd⟩:=vN I.hok e;obtain⟨j,n,c⟩:=mq.some_of (v:=v) (o:=valueAt F k) (by rw[l];exact d.val k);exact wpAny_getItem_of (oP C) dd.mapOf n (h j _ (I.tok _) c)
 ·subst t;cases(show u=Value.ref b from C);obtain⟨z,L,D,d,dd⟩:=uo I.hok e;obtain⟨j,n,c⟩:=mq.some_of (v:=v) (o:=(atKey D k).map (·.2)) (by rw[l];exact d.val k);obtain⟨p,J,q⟩:=aF.mp n;refine wpAny_getItem_heap (dG G) (wh I.hok M) dd J ?_;rw[q];exact h j _ (I.tok _) c
def Bf{c:Nat}(I:Inv X f i H s)(d:vx<|H a)(h:Heap.SameBut a s.heap h')(j:∃q,h'.get? a=some q)(new:kz X.prog X.w (upd H a ob) h' a ob):
    Inv X f i (upd H a ob) {s with heap:=h',toks:=c}:=
 I.write (x:=a) (e:=a) d (.inl rfl) (λb q k z=>(h.2 b k).trans z) j new
def Hn{w}{h:Heap}{c:List<|Key×V}(z:c.length<=sizeLine)(j:(a==sysModules)=false)(d:KV c vs)(dd:h.DictOf (j4 P w) a vs):
    kz P w H' h a (.dK c):=⟨z,j,vs,d,dd⟩
def OS{T:Hp}{Q:Unit->Shared->Prop}(Z:A.units+1<cLine)(I:Inv X f i H s)(g:xy H a y v T)(J:RelV y u)(L:RelV v r)(h:∀G,Inv X f i T G->Q () G):
    wpAny (model X.prog X.w) A (setItem (.ref a) u r) Q E s:=by
 rcases g with⟨j,k,e,D,l,F⟩|⟨j,k,b,e,D,R,l,F⟩
 ·subst D F;obtain⟨z,C,Y,d,dd⟩:=Ho I.hok e;have p:Y.length<=sizeLine:=by rw[<-d.length];exact z
  have x:(putK j k v).length<=sizeLine:=by have:=Cr j k v;omega
  refine wpAny_setItem_pairs (hsz:=p) (oP J) dd λM m t=>h _ ?_;have he:∃q,M.get? a=some q:=let⟨q,_,_,n,_⟩:=m;⟨q,n⟩;exact Bf I (by rw[e];exact True.intro) t he (Hn x C (d.put k L) m)
 ·subst D F;cases(show u=Value.ref b from J);obtain⟨z,C,U,d,dd⟩:=Bl I.hok e;have p:U.length<=sizeLine:=by rw[<-Paired.length d];exact z
  have x:(putK j k v).length<=sizeLine:=by have:=Cr j k v;omega
  refine wpAny_setItem_heap (hsz:=p) (dG Z) (wh I.hok R) dd λM m t=>h _ ?_;obtain⟨q,es,ep,n,h2,h3,h4,_,h5⟩:=m;refine Bf I (by rw[e];exact True.intro) t ⟨q,n⟩ ⟨x,C,_,(d.put k R L).keeps λc ys O=>?_,q,es,ep,n,h2,h3,h4,h5⟩;rw[jB<|J3 O e<|λz=>nomatch z];exact O
end
def tU(i:Expr):Prop:=∀a c,subscripted i false a c=operate [a,c] (getItem a c)
def L1{a:Program}{w:World}{A:Around}{E:jW}{s:Shared}{p:Env}{d c:Expr}{pos:Pos}{T u:String}{Q:jW}
    (y:typeLookup (.type T) "__getitem__"=pure (some<|.builtin u))(v:tU c)
    (h:wpAny (model a w) A (eval d p) (λo m=>wpAny (model a w) A (eval c p) (λi j=>j.TypeIs o T/\wpAny (model a w) A (getItem o i) Q E j) E m) E s):
    wpAny (model a w) A (eval (.Subscript d c pos) p) Q E s:=by
 refine Subscript_ (bp h (λo m t=>bp t (λi j k=>?_) λ_ _ x=>x) λ_ _ x=>x);obtain⟨hT,k⟩:=k;unfold subscriptTail;refine ae ?_;rw[getitemInPython_of_ne hT.not_modules];refine ae (hD hT y ?_);have n:wpAny (model a w) A (subscripted c false o i) (λr l=>wpAny (model a w) A (letTemporaryGo d o r>>=λ_=>pure r) Q E l) E j:=by rw[v o i];exact wpAny_operating (bp k (λr l q=>ae<|wpAny_letTemporaryGo<|af q) λ_ _ x=>x)
 first
  |exact af (ae n)
  |exact ae (af<|ae n)
  |exact ae n
def O2{s}(I:Inv X pins σ H s)(g:qJ H a y o):s.TypeIs (.ref a) "dict":=by
 rcases g with⟨c,k,e,_,_⟩|⟨c,k,b,e,_,_,_⟩
 ·obtain⟨_,_,h,_,dd⟩:=vN I.hok e;exact dd.typeIs
 ·obtain⟨_,_,d,_,dd⟩:=uo I.hok e;exact dd.typeIs
def abu(d ty:TE):TE:=λσ H Q=>d σ H λx h=>ty σ h λy c=>∃a v,x=.ref a/\qJ c a y (some v)/\Q v c
def aau(h ty d:TE):TS:=λD σ H=>d σ H λv k=>h σ k λx j=>ty σ j λy i=>∃a c,x=.ref a/\xy i a y v c/\D.nx σ c
section
variable{X:Cx}{o i e b:Expr}{c f m:Pos}{j ty l:TE}
def Wg(D:X.A.units+1<cLine)(G:PE X o j)(J:PE X i ty)(F:tU i):PE X (.Subscript o i c) (abu j ty):=by intro d s σ H Q I h;refine L1 PySem.F.slot_dict_getitem.lookup F (ji (G d s σ H _ I h) λu q ⟨x,R,M,t,C⟩=>ji (J d q σ R _ M C) λY V n=>?_);obtain⟨y,O,p,r,a,v,ex,g,z⟩:=n;subst ex;obtain rfl:u=Value.ref a:=t;exact⟨O2 p g,OR D p g r λT U L k=>⟨v,O,L,k,z⟩⟩
def W6(J:X.A.units+1<cLine)(M:PE X o j)(O:PE X i ty)(hv:PE X b l)(L:swapsWith b (some<|.Subscript o i f) c.line X.env=pure false):
    PS X (.Assign [.Subscript o i f] b c) (aau j ty l):=by
 intro d s σ H D I h;refine wpAny_Assign_Subscript (ji (hv d s σ H _ I h) λr p ⟨v,Z,U,z,G⟩=>ji (M d p σ Z _ U G) λu n ⟨x,Y,T,t,F⟩=>ji (O d n σ Y _ T F) λiv s3 k=>?_) L;obtain⟨y,H3,R,q,a,V,ex,g,C⟩:=k;subst ex;obtain rfl:u=Value.ref a:=t;exact OS J R g q z λs4 Q=>⟨σ,V,Q,C⟩
def O4{w}(h:Heap)(a:sysModules<h.objs.size):kz P w H (h.push {cls:=.type "dict",data:=.dict #[]}) h.objs.size (.dK []):=
 ⟨bQ _,cX.mpr<|bV<|aR a,[],.nil,Heap.DictOf.new h⟩
def O9{w}(h:Heap)(a:sysModules<h.objs.size):kz P w H (h.push {cls:=.type "dict",data:=.dict #[]}) h.objs.size (.dT []):=
 ⟨bQ _,cX.mpr<|bV<|aR a,[],.nil,_,#[],0,aG _ rfl,⟨rfl,rfl,rfl⟩,rfl,rfl,List.nodup_nil⟩
def abw:TE:=λ_ H Q=>∀p,H p=none->Q (.ref p) (upd H p<|.dK [])
def abx:TE:=λ_ H Q=>∀p,H p=none->Q (.ref p) (upd H p<|.dT [])
def Wi:PE X (.Dict [] [] c) abw:=λd s σ H Q I h=>wpAny_Dict_empty ⟨.ref s.heap.objs.size,_,I.laid (a:=s.heap.objs.size) (o:=.dK []) (t':=s.toks) (λ_ _ q=>ag _ q) (ah _)<|O4 s.heap I.big,rfl,h _<|I.hok.fresh<|ah _⟩
def Wj:PE X (.Dict [] [] c) abx:=λd s σ H Q I h=>wpAny_Dict_empty ⟨.ref s.heap.objs.size,_,I.laid (a:=s.heap.objs.size) (o:=.dT []) (t':=s.toks) (λ_ _ q=>ag _ q) (ah _)<|O9 s.heap I.big,rfl,h _<|I.hok.fresh<|ah _⟩
end
structure M1(X:Cx)(o:Expr)(m:Str)(apos:Pos)(e:Expr)(cpos:Pos):Prop where
 base:attributeBase o m X.env (eval o X.env)=eval o X.env
 few:((backTo cpos (starEach [e] X.env)).all (λx=>!x.1)&&(backToKw cpos (keywordEach [] X.env)).all (λx=>x.1.isSome)
  &&decide (([e]:List Expr).length+([]:List Keyword).length+(if([]:List Keyword).isEmpty then 0 else 1)<30))=true
 line:(apos.endLine==cpos.line)=true
 trees:backTo cpos (starEach [e] X.env)=[(false,eval e X.env)]
structure M2(X:Cx)(o:Expr)(m:Str)(apos:Pos)(e f:Expr)(cpos:Pos):Prop where
 base:attributeBase o m X.env (eval o X.env)=eval o X.env
 few:((backTo cpos (starEach [e,f] X.env)).all (λx=>!x.1)&&(backToKw cpos (keywordEach [] X.env)).all (λx=>x.1.isSome)
  &&decide (([e,f]:List Expr).length+([]:List Keyword).length+(if([]:List Keyword).isEmpty then 0 else 1)<30))=true
 line:(apos.endLine==cpos.line)=true
 trees:backTo cpos (starEach [e,f] X.env)=[(false,eval e X.env),(false,eval f X.env)]
def AK(H:Hp)(a:Addr):Prop:=(∃c,Rd H a<|.dK c)\/∃c,Rd H a (.dT c)
def B0{s}(I:Inv X pins σ H s)(d:AK H a):
    s.TypeIs (.ref a) "dict"/\(∀b,Value.ref a=.ref b->∃ob,s.heap.get? b=some ob/\ob.dict=none)/\(a==sysModules)=false:=by
 rcases d with⟨c,e⟩|⟨c,e⟩
 ·obtain⟨_,h,l,_,dd⟩:=vN I.hok e;refine⟨dd.typeIs,λb q=>?_,h⟩;cases q;obtain⟨ob,_,_,j,i,_⟩:=dd;exact⟨ob,j,i.2.1⟩
 ·obtain⟨_,h,k,_,dd⟩:=uo I.hok e;refine⟨dd.typeIs,λb q=>?_,h⟩;cases q;obtain⟨ob,_,_,j,i,_⟩:=dd;exact⟨ob,j,i.2.1⟩
variable{X:Cx}{B:List<|Addr×Obj}{F:St}{H:Hp}{s:Shared}{a:Addr}{y d:V}{u r:Value}{o:Option V}{A:Around}{E:jW}
def OQ{Q:jW}(v:A.units+1<cLine)(I:Inv X B F H s)(g:qJ H a y o)(q:RelV y u)(h:∀n p,Inv X B F H p->RelV (o.getD .non) n->Q n p):
    wpAny (model X.prog X.w) A (call (.builtin "dict.get") [.ref a,u]) Q E s:=by
 rcases g with⟨i,k,e,m,l⟩|⟨i,k,b,e,m,x,l⟩
 ·subst m;obtain⟨z,j,C,c,dd⟩:=vN I.hok e;refine gQ fw dd.typeIs gR (gE _ _) (meets_dict_get (j4 X.prog X.w) a (oP q) j) ⟨_,dd.mapOf,h _ _ (I.tok _) ?_⟩;rw[l];exact(c.val k).getD rfl
 ·subst m;cases(show u=Value.ref b from q);obtain⟨z,j,t,c,dd⟩:=uo I.hok e;refine gQ fw dd.typeIs gR (gE _ _) (meetsH_dict_get (tupleKind<|j4 X.prog X.w) a b j) ⟨dG v,k,t,wh I.hok x,dd,h _ _ (I.tok _) ?_⟩;rw[l];exact(c.val k).getD rfl
def abv(i ty:TE):TE:=λF H Q=>i F H λx h=>∃a,x=.ref a/\AK h a/\ty F h λy c=>∃o,qJ c a y o/\Q (o.getD .non) c
variable{o e f:Expr}{J C:Pos}{K ty L:TE}
def Wh(z:X.A.units+1<cLine)(D:PE X o K)(G:PE X e ty)(m:M1 X o "get" J e C):PE X (.Call (.Attribute o "get" J) [e] [] C) (abv K ty):=by intro B s F H Q I h;refine wpAny_Call_method m.base m.few m.line eK fw PySem.F.type_dict_get (ji (D B s F H _ I h) λu n i=>?_);obtain⟨x,T,j,q,a,ex,d,v⟩:=i;subst ex;obtain rfl:u=Value.ref a:=q;obtain⟨l,k,_⟩:=B0 j d;refine⟨l,k,?_⟩;rw[m.trees];refine dE rfl (fK<|cI<|ji (G B n F T _ j v) λiv Z ⟨y,R,O,p,ov,g,t⟩=>dc ?_);exact OQ z O g p λU Y M c=>⟨_,R,M,c,t⟩
end L2
namespace P2
open PySem L2
section
variable{b:Type}[DecidableEq b]{K:W.Frag}{c:Addr->Prop}{lo:Lo}{H:Hp}
def valZ(a:List<|b×Z)(k:b):Option Z:=(a.find? λd=>decide<|d.1=k).map (·.2)
def kv(a:List<|b×Z)(k:b)(v:Z):List (b×Z):=
 if(a.any λd=>decide<|d.1=k)=true then a.map λd=>if d.1=k then(d.1,v)else d else a++[(k,v)]
def ko.val{i:List<|b×V}{d:List<|b×Z}(r:ko K c lo H i d){k:b}{z:Z}(h:valZ d k=some z):∃v,lP i k=some v/\kq K c lo H v z:=by
 induction r with
 |nil=>cases h
 |@cons j v m n d a _ l=>
  unfold valZ at h;unfold lP;rw[cU]at h⊢;by_cases e:j=k
  ·simp only[e,fM]at h⊢;cases h;exact⟨v,rfl,a⟩
  ·simp only[e,eQ]at h⊢;exact l h
def ko.none{i:List<|b×V}{d:List<|b×Z}(r:ko K c lo H i d){k:b}(h:valZ d k=Option.none):lP i k=Option.none:=by
 induction r with
 |nil=>rfl
 |@cons j v m n d a _ l=>
  unfold valZ at h;unfold lP;rw[cU]at h⊢;by_cases e:j=k
  ·simp only[e,fM]at h;cases h
  ·simp only[e,eQ]at h⊢;exact l h
def ko.length(r:ko K c lo H us zs):us.length=zs.length:=by
 induction r with
 |nil=>rfl
 |cons _ _ a=>rw[aj,aj,a]
def ko.any{h:List<|b×V}{d:List<|b×Z}(r:ko K c lo H h d)(k:b):(h.any λa=>decide<|a.1=k)=d.any λa=>decide (a.1=k):=by
 induction r with
 |nil=>rfl
 |cons _ _ i=>rw[cZ,cZ,i]
def ko.put{j:List<|b×V}{h:List<|b×Z}(r:ko K c lo H j h)(k:b){v:V}{z:Z}(q:kq K c lo H v z):ko K c lo H (putK j k v) (kv h k z):=by
 unfold putK kv;rw[r.any k];split
 ·rename_i i;clear i;induction r with
  |nil=>exact .nil
  |@cons l o m n h a _ d=>
   rw[aT,aT];by_cases e:l=k
   ·simp only[e,dr];exact .cons q d
   ·simp only[e,bL];exact .cons a d
 ·rename_i i;clear i;induction r with
  |nil=>exact .cons q .nil
  |cons a _ d=>exact .cons a d
end
def oQ:D->Option Key
 |.int i=>some (.inl i)
 |.str x=>some (.inr x)
 |_=>none
def Cj{d k}(r:Rep K al H v d)(h:oQ d=some k):v=kV k:=by
 cases r with
 |int i=>cases h;rfl
 |str i=>cases h;rfl
 |_=>cases h
def xn(fo:jr)(h:jw):jr:=λρ S=>(fo ρ S).bind λz i=>(lJ (h<|kh ρ) i).bind λd c=>match z,oQ d with
 |.loc n,some k=>(match c[n]? with
  |some (.dk a)=>(match valZ a k with
   |some z=>.ok z c
   |none=>.bad)
  |_=>.bad)
 |_,_=>.bad
section
variable{X:Cx}{E:XK}{b:Nat}{o k e:Expr}{fo f:jr}{p:jw}{j:Pos}
def Kb:NT (.dK l):=λ_ h=>nomatch h
def CG:NT (.dT l):=λ_ h=>nomatch h
def acK(hu:X.A.units+64<cLine)(M:ZE X E o fo)(R:DE X E k p)(L:tU k):ZE X E (.Subscript o k j) (xn fo p):=by
 obtain⟨to,I,D⟩:=M;obtain⟨tk,pk,F⟩:=R;refine⟨_,Wg (by omega) I pk L,λB al lo H σ ρ S Q s h=>D _ _ _ _ _ _ _ _ s<|i3.mono (i3.split h) λz r l H1 S1 i x1 y1 T v y=>F _ _ _ _ _ _ _ i.rs<|Aft.mono (i3.toAft i<|i3.split T) λd H2 x c u C=>?_⟩;have t:=i.grow x;split at c
 ·rename_i n k0 m;split at c
  ·rename_i J q;split at c
   ·rename_i z0 G;obtain⟨a,O,rfl⟩:=y;have Y:=Cj C m;subst Y;obtain⟨us,V,U⟩:=t.cell O q;obtain⟨w,e1,Z⟩:=U.val G;refine⟨a,w,rfl,?_,c r l H2 t .refl .refl w Z⟩;rw[<-e1];exact .k V
   ·exact c.elim
  ·exact c.elim
 ·exact c.elim
variable{P:Program}{w:World}{K:W.Frag}{mg:kl}{base:Heap}{f:Addr}{i:FuncData}{x:Str}{c:List Str}
def PQ{k}:jN P w K mg base k f i c (j6 c.length K λ_=>.bad):=
 ⟨λd H Q E h=>h.1,λA outer s H a l d Q E _ _ _ _ h=>by obtain⟨_,_,_,_,_,_,h⟩:=h;exact h.elim⟩
def PR{k}:jN P w K mg base k f i c (jJ c.length K λ_ _=>.bad):=
 ⟨λd H Q E h=>h.1,λA outer s H a l d Q E _ _ _ _ h=>by obtain⟨_,_,_,_,_,_,_,_,_,h⟩:=h;exact h.elim⟩
noncomputable def rL(a:(jf)->jf):Nat->jf
 |0=>λ_=>.bad
 |m+1=>a (rL a m)
noncomputable def nM(a:(jo)->jo):Nat->jo
 |0=>λ_ _=>.bad
 |m+1=>a (nM a m)
theorem Lm{n}{F0:(jf)->jf}(hn:n=c.length)
 (a:∀{k} {d},jN P w K mg base k f i c d->jF P w K mg base k x c d)
 (step:∀h k,k0<=k->jF P w K mg base k x c (j6 n K h)->jN P w K mg base (k+st) f i c (j6 n K<|F0 h)):∀m:Nat,jN P w K mg base (k0+m*st) f i c (j6 n K<|rL F0 m)
  |0=>by subst hn;exact PQ
  |m+1=>by have:=step (rL F0 m) (k0+m*st) (cA _ _) (a<|Lm hn a step m);rw[Nat.succ_mul,<-Nat.add_assoc];exact this
theorem Dw{n}{F0:(jo)->jo}(hn:n=c.length)
 (a:∀{k} {d},jN P w K mg base k f i c d->jF P w K mg base k x c d)
 (step:∀h k,k0<=k->jF P w K mg base k x c (jJ n K h)->jN P w K mg base (k+st) f i c (jJ n K<|F0 h)):∀m:Nat,jN P w K mg base (k0+m*st) f i c (jJ n K<|nM F0 m)
  |0=>by subst hn;exact PR
  |m+1=>by have:=step (nM F0 m) (k0+m*st) (cA _ _) (a<|Dw hn a step m);rw[Nat.succ_mul,<-Nat.add_assoc];exact this
end
def tx(f:Str)(v:Z):List (Str×Z)->List (Str×Z)
 |[]=>[(f,v)]
 |(g,x)::r=>if g=f then(g,v)::r else(g,x)::tx f v r
section
variable{K:W.Frag}{a:Addr->Prop}{lo:Lo}{H:Hp}
def ko.look{d:List<|Str×V}{c:List<|Str×Z}(r:ko K a lo H d c){f:Str}{z:Z}(h:c.lookup f=some z):∃v,d.lookup f=some v/\kq K a lo H v z:=by
 induction r with
 |nil=>cases h
 |@cons k v l m i q _ j=>
  rw[gF]at h⊢;cases e:f==k with
  |true=>rw[e]at h;cases h;exact⟨v,rfl,q⟩
  |false=>rw[e]at h;exact j h
def ko.UH{d:List<|Str×V}{c:List<|Str×Z}(r:ko K a lo H d c){f:Str}(h:c.lookup f=Option.none):d.lookup f=Option.none:=by
 induction r with
 |nil=>rfl
 |@cons k v l m i q _ j=>
  rw[gF]at h⊢;cases e:f==k with
  |true=>rw[e]at h;cases h
  |false=>rw[e]at h;exact j h
def ko.l7(r:ko K a lo H us zs)(f)(q:kq K a lo H v z):ko K a lo H (L2.l7 f v us) (tx f z zs):=by
 induction r with
 |nil=>exact .cons q .nil
 |@cons k m j l c h d i=>
  unfold L2.l7 tx;by_cases e:k=f;·rw[av e,av e];exact .cons q d
  ·rw[aw e,aw e];exact .cons h i
def Kd:NT (.ins C dx us):=λ_ h=>nomatch h
end
def qb(C:Addr)(fo:jr)(f:Str):jr:=λρ S=>(fo ρ S).bind λz a=>match z with
 |.loc n=>(match a[n]? with
  |some (.ob c fs)=>if c=C then(match fs.lookup f with
   |some z=>.ok z a
   |none=>.bad)else .bad
  |_=>.bad)
 |_=>.bad
def xk(C:Addr)(fo:jr)(f:Str)(d:jr):jH:=λρ S=>toZ (d ρ S) λv h=>toZ (fo ρ h) λz a=>match z with
 |.loc n=>(match a[n]? with
  |some (.ob c fs)=>if c=C/\fs.length<1000 then .nx ρ (a.set n<|.ob c<|tx f v fs)else .bad
  |_=>.bad)
 |_=>.bad
def xu(C:Addr)(m:Str)(F:jo)(h:List D)(fo:jr)(fs:jg->i6->RX (List Z)):jr:=λρ S=>(fo ρ S).bind λz a=>match z with
 |.loc n=>(match a[n]? with
  |some (.ob j d)=>if j=C/\d.lookup m=none then(fs ρ a).bind λc i=>F (.loc n::(c++h.map .d)) i else .bad
  |_=>.bad)
 |_=>.bad
def xq(C:Addr)(F:jo)(fs:jg->i6->RX (List Z)):jr:=λρ S=>(fs ρ S).bind λh d=>match F (.loc d.length::h) (d++[.ob C []])with
 |.ok (.d .non) a=>.ok (.loc d.length) a
 |.ex c ns ds a=>.ex c ns ds a
 |_=>.bad
def pz(P:Program)(w:World)(K:W.Frag)(mg:kl)(base:Heap)(k:Nat)(C:Addr)(m:Str)(c:List Str)(j:List D)(i:Sp):Prop:=
 ∃f d h a,jN P w K mg base k f d c i/\Binds K d c h/\Vals a h/\(∀al H,jb K al H a j)/\Meth K C m f
def pz.up{w k}(G:pz P w K mg base j C m ps dz sp)(h:j<=k):pz P w K mg base k C m ps dz sp:=
 let⟨f,c,d,a,fo,r⟩:=G;⟨f,c,d,a,fo.mono h,r⟩
def ql(P:Program)(w:World)(K:W.Frag)(mg:kl)(base:Heap)(k:Nat)(C:Addr)(a:List Str)(d:Sp):Prop:=
 ∃f c,jN P w K mg base k f c a d/\Binds K c a []/\Mk K C f
def ql.up{w k}(G:ql P w K mg base j C ps sp)(h:j<=k):ql P w K mg base k C ps sp:=
 let⟨f,a,fo,r⟩:=G;⟨f,a,fo.mono h,r⟩
section
variable{X:Cx}{E:XK}{b:Nat}{o e l:Expr}{A:List Expr}{i p I J M:Pos}{fo O:jr}{fs:jg->i6->RX (List Z)}{f m x:Str}{C:Addr}{k n:Nat}{N:List Str}{L:List D}{F:jo}
def Ax(c:nT X.K C)(U:qq X.K C f)(V:ZE X E o fo)(hb:attributeBase o f X.env (eval o X.env)=eval o X.env):ZE X E (.Attribute o f i) (qb C fo f):=by
 obtain⟨to,T,G⟩:=V;refine⟨_,Wm T hb,λB al lo H σ ρ S Q s h=>G _ _ _ _ _ _ _ _ s<|i3.mono (i3.split h) λz r j H1 S1 t x1 y1 d v y=>?_⟩;split at d
 ·rename_i n;split at d
  ·rename_i C' us q;split at d
   ·rename_i hc;subst hc;split at d
    ·rename_i z0 R;obtain⟨a,Y,rfl⟩:=y;obtain⟨dx,u,g1,g2⟩:=t.cell Y q;obtain⟨w,e1,e2⟩:=g2.look R;exact⟨a,_,dx,u,w,rfl,g1,c,U,e1,d r j H1 t .refl .refl w e2⟩
    ·exact d.elim
   ·exact d.elim
  ·exact d.elim
 ·exact d.elim
def MJ(c:nT X.K C)(na:qq X.K C f)(ho:ZE X E o fo)(hv:ZE X E l O)(hs:swapsWith l (some<|.Attribute o f J) i.line X.env=pure false):ZS X E b (.Assign [.Attribute o f J] l i) (xk C fo f O):=by
 obtain⟨to,po,ro⟩:=ho;obtain⟨tv,pv,rv⟩:=hv;refine⟨_,W7 po pv hs,λB T al lo H σ ρ S D s h=>rv _ _ _ _ _ _ _ _ s<|i3.mono (kF.nA h) λy NQ Tc H0 S0 s0 x0 y0 h0 t r0=>ro _ _ _ _ _ _ _ _ s0<|i3.mono (kF.nA h0) λz j G V S1 u x1 y1 d v1 r1=>?_⟩;split at d
 ·rename_i n;split at d
  ·rename_i Y us q;split at d
   ·rename_i R;obtain⟨R,hl⟩:=R;subst R;obtain⟨a,Q,rfl⟩:=r1;obtain⟨U,r,g1,g2⟩:=u.cell Q q;have v:kq X.K j G V t y:=r0.mv x1 y1;have x2:Xt j V j (upd V a (.ins Y U (L2.l7 f t r))):=λb o _ T eb=>⟨T,by rw[jB λz=>u.st.na n a Q (by rw[<-z];exact T)];exact eb⟩;obtain⟨s4,x4⟩:=u.write Q (o:=.ins Y U (L2.l7 f t r)) (c:=.ob Y (tx f y us)) Kd (λq w=>by unfold lV at w;cases w) ⟨_,_,kC,ko.mv x2 .refl (g2.l7 f v)⟩ nofun;exact⟨a,_,U,r,rfl,g1,c,na,by rw[g2.length];exact hl,d _ _ _ _ x4 s4⟩
   ·exact d.elim
  ·exact d.elim
 ·exact d.elim
def aak{lo}(r:kg K al lo H vs zs)(q:jb K al H ws ds):kg K al lo H (vs++ws) (zs++ds.map .d):=r.append (.ofD q)
def Ul{lo}{Q:VK}(s:RZ X.K B al lo H σ ρ S)(T:kg X.K al lo H vs zs)(U:vs.length=n)
 (h:i3 X.K B E al lo H σ ρ (F zs S) (λz u t G _=>∀v,kq X.K u t G v z->Q v G)):jJ n X.K F vs H Q E:=by
  refine⟨U,s.tt,al,lo,zs,S,s.fresh,s.st,T,?_⟩;cases r:F zs S with
  |bad=>rw[r]at h;exact h.elim
  |ex c ns ds Y=>rw[r]at h;exact λd a y V j R=>h d a y V (s.toEZ.trans j) R
  |ok z Y=>rw[r]at h;exact λd a y v j q=>h d a y (s.after j) j.xt j.lx v q
def ME{pl:Sem Bool}(G:pz X.prog X.w X.K X.mg X.base k C m N L<|jJ n X.K F)(c:nT X.K C)(hr:kQ k X.A)(hx:Passes (kL X.prog X.w) X E)(ho:ZE X E o fo)(ha:ZA X E (e::A) fs)(hn:(e::A).length+1+L.length=n)
    (R:X.se e A:=by rfl)(T:X.bk i A:=by rfl)
    (ht:eval (.Call (.Attribute o m I) (e::A) [] i) X.env=(do
      let ov<-eval o X.env
      standAt I.atName
      let(f,first)<-holding [ov] (getMethod ov m pl)
      callWith i f first (backTo i (starEach (e::A) X.env)) (backToKw i (keywordEach [] X.env))):=by rfl):
    ZE X E (.Call (.Attribute o m I) (e::A) [] i) (xu C m F L fo fs):=by
 obtain⟨to,po,ro⟩:=ho;obtain⟨ta,pa,ra,lb⟩:=ha;obtain⟨f,fd,ds,dvs,V,bi,va,rd,me⟩:=G;refine⟨_,Wu po c me V hr bi va hx pa R T ht,λB al lo H σ ρ S Q s h=>ro _ _ _ _ _ _ _ _ s<|i3.mono (i3.split h) λz mr lo1 H1 S1 s1 x1 y1 d v rv=>?_⟩;split at d
 ·rename_i j;split at d
  ·rename_i C' us q;split at d
   ·rename_i U;obtain⟨U,hl⟩:=U;subst U;obtain⟨a,t,rfl⟩:=rv;obtain⟨dx,vs,g1,g2⟩:=s1.cell t q;refine⟨a,dx,vs,rfl,g1,g2.UH hl,ra _ _ _ _ _ _ _ _ s1 ?_⟩;cases y:fs ρ S1 with
    |bad=>rw[y]at d;exact d.elim
    |ex c ns ds S2=>rw[y]at d;exact d
    |ok zs S2=>rw[y]at d;have ll:=lb _ _ _ _ y;intro u uE H2 s2 x2 Y ws r;refine Ul s2 (zs:=.loc j::(zs++L.map .d)) (.cons ⟨a,Y _ _ t,rfl⟩<|aak r<|rd u H2) ?_ (i3.up d x2 Y);have:=(rd u H2).length;rw[aj,ar,r.length,this,ll,<-hn];omega
   ·exact d.elim
  ·exact d.elim
 ·exact d.elim
def Ue{lo}{Q:VK}(s:RZ X.K B al lo H σ ρ S)(rv:kg X.K al lo H vs zs)(hl:vs.length+1=n)
 (h:i3 X.K B E al lo H σ ρ (match F (.loc S.length::zs) (S++[.ob C []])with
 |.ok (.d .non) G=>RX.ok (Z.loc S.length) G
 |.ex c ns ds G=>.ex c ns ds G
 |_=>.bad) (λz V U H' _=>∀v,kq X.K V U H' v z->Q v H'))(hy:H y=none)(hd:H dx=none)(ne:dx≠y):jJ n X.K F (.ref y::(vs++[])) (upd (upd H dx (.own y)) y (.ins C dx [])) (λv H2=>v=.non/\Q (.ref y) H2) E:=by
  have s1:=s.grow (mj (K:=X.K) (o:=.own y) hd);have u:(upd H dx<|.own y) y=none:=by rw[jB<|bV ne];exact hy
  have hc:lU X.K (λb=>al b/\b≠y) (kZ lo S.length y) (upd (upd H dx<|.own y) y<|.ins C dx []) y (.ob C []):=⟨dx,[],kC,.nil⟩;have t:=s1.new u Kd hc nofun;have x2:Xt al H (λb=>al b/\b≠y) (upd (upd H dx<|.own y) y<|.ins C dx []):=(Xt.of<|mj (K:=X.K) (o:=.own y) hd).trans (qH u);have y2:=oR s1.st y;have hn:kZ lo S.length y S.length=some y:=by unfold kZ;rw[av rfl]
  refine⟨by rw[bg,aj];exact hl,t.tt,_,_,.loc S.length::zs,S++[.ob C []],t.fresh,t.st,.cons ⟨y,hn,rfl⟩<|by rw[bg];exact rv.mv x2 y2,?_⟩;cases T:F (.loc S.length::zs) (S++[.ob C []])with
  |bad=>rw[T]at h;exact h.elim
  |ex c ns ds G=>rw[T]at h;exact λq a Y dx r xr=>h q a Y dx (t.toEZ.trans r) xr
  |ok z G=>
   rw[T]at h;cases z with
   |loc j=>exact h.elim
   |tk ks=>exact h.elim
   |d d=>
    cases d with
    |non=>
     intro q a Y v r R;have ev:v=.non:=by cases R;rfl
     exact⟨ev,h q a Y (t.after r) (x2.trans r.xt) (y2.trans r.lx) _ ⟨y,r.lx _ _ hn,rfl⟩⟩
    |_=>exact h.elim
def acR(G:ql X.prog X.w X.K X.mg X.base k C N<|jJ n X.K F)(hr:kQ (k+1) X.A)(hg:Gl X x)(hm:X.mg x=some (.ref C))(Y:Passes (kL X.prog X.w) X E)(ha:ZA X E (e::A) fs)(hn:(e::A).length+1=n)
 (a:X.cl x e A i):
   ZE X E (.Call (.Name x p) (e::A) [] i) (xq C F fs):=by
  obtain⟨ta,z,v,U⟩:=ha;obtain⟨f,fd,d,bi,mk⟩:=G;refine⟨_,Ws mk d hr hg hm bi .nil Y z a,λB al lo H σ ρ S Q s h=>v _ _ _ _ _ _ _ _ s ?_⟩;unfold xq at h;cases q:fs ρ S with
  |bad=>rw[q]at h;exact h.elim
  |ex c ns ds S1=>rw[q]at h;exact h
  |ok zs S1=>rw[q]at h;intro mr R H1 u t r vs j y dx V hd ne;have T:=U _ _ _ _ q;exact Ue u j (by rw[j.length,T];exact hn) (i3.up h t r) V hd ne
end
structure oF(K:W.Frag)(x qual:Str)(st:Stmt)(dV:Value)(f:Addr)(fd:FuncData):Prop where
 ex:∃(oc:Value) (od:Option Addr) (kV doc pm:Value) (an:Option Addr) (cdv ct:Value) (osl:Array<|Option Value),
  fd=W.fnOf x qual (kO st) (kx st) (jt st) dV kV doc pm an cdv ct/\K.lookup f=some ⟨oc,od,.func fd,osl⟩/\W.codeIn K cdv qual=true
 kp:W.keepIn K (.ref f)=true
section
variable{P:Program}{w:World}{K:W.Frag}{e:kl}{a:Heap}
def PY{x qual:Str}{st:Stmt}{f:Addr}{o:Value}{n m:Option Addr}{i:Array<|Option Value}{dV kV h j d ct:Value}(l:K.lookup f=some ⟨o,n,.func<|W.fnOf x qual (kO st) (kx st) (jt st) dV kV h j m d ct,i⟩)
    (c:W.codeIn K d qual=true)(k:W.keepIn K (.ref f)=true):oF K x qual st dV f (W.fnOf x qual (kO st) (kx st) (jt st) dV kV h j m d ct):=⟨⟨o,n,kV,h,j,m,d,ct,i,rfl,l,c⟩,k⟩
def Bw{x qual:Str}{st:Stmt}{dV:Value}{f:Addr}{C:FuncData}{N n:List Str}{k:Nat}{g:Nat->jH}(F:oF K x qual st dV f C)(S:kj N n<|jt st)
    (i:∀(b:Nat) (d:Value) (A:Around) (outer:List Env) (s:Shared) (H:Hp) (E:XK),kQ k (lE (kL P w) P w K e a N qual (jt st) f d A outer s H E).A->qQ (lE (kL P w) P w K e a N qual (jt st) f d A outer s H E) E b (kx st) (g b)):
    jN P w K e a (k+1) f C n (jJ n.length K λl S=>i8<|g S.length (jx N.length l) S):=by
 obtain⟨Y,V,kV,R,U,an,d,ct,L,rfl,M,u⟩:=F.ex;refine HY M u S (λy H Q E h=>h.1) λA outer s H y Q E O h=>?_;obtain⟨hl,G,al,lo,l,j,fr,st,J,h⟩:=h;obtain⟨t,p,r⟩:=i j.length d A outer s H E O;dsimp only at h;refine⟨t,p,r ⟨H,al,lo,j.length⟩ rfl al lo H (L2.start N y) (jx N.length l) j _ (Ly G fr st J) ?_⟩;cases q:g j.length (jx N.length l) j with
 |nx ρ m=>rw[q]at h;exact λv o T D _ I=>h v o T .non I.toEZ .non
 |rt z m=>rw[q]at h;exact h
 |ex c Z es m=>rw[q]at h;exact h
 |bk ρ m=>rw[q]at h;exact h.elim
 |ct ρ m=>rw[q]at h;exact h.elim
 |bad=>rw[q]at h;exact h.elim
def oF.binds{x qual:Str}{st:Stmt}{dV:Value}{f:Addr}{m:FuncData}{j:List Str}(F:oF K x qual st dV f m)
    (h:∀(kV c k:Value) (l:Option Addr) (d ct:Value) (i:List Value),i.length=j.length->bindArgs (W.fnOf x qual (kO st) (kx st) (jt st) dV kV c k l d ct) ⟨i,[]⟩=pure (j.zip i)):Binds K m j []:=by
 obtain⟨q,p,kV,c,k,l,d,ct,n,rfl,r,o⟩:=F.ex;exact .all (h kV c k l d ct)
end
def kS:List D->Option (List Key)
 |[]=>some []
 |d::r=>(oQ d).bind λk=>(kS r).map (k:: ·)
theorem uC:∀{c} {d} {a},jb K al H c d->kS d=some a->c=a.map kV
 |_,_,_,.nil,h=>by cases h;rfl
 |_,_,_,.cons r q,h=>by obtain⟨k,l,j⟩:=aL.mp h;obtain⟨a,i,rfl⟩:=aF.mp j;rw[Cj r l,uC q i];rfl
def ve(fs:jg->i6->RX (List Z)):jr:=λρ S=>(fs ρ S).bind λc d=>match(md c).bind kS with
 |some a=>if a.length<=sizeLine then .ok (.tk a) d else .bad
 |none=>.bad
def u2(fo d f:jr):jH:=λρ S=>toZ (f ρ S) λv i=>toZ (fo ρ i) λz h=>toZ (d ρ h) λy c=>match z,y with
 |.loc n,.tk k=>(match c[n]? with
  |some (.dt a)=>if a.length<sizeLine then .nx ρ (c.set n<|.dt<|kv a k v)else .bad
  |_=>.bad)
 |_,_=>.bad
def Am:jr:=λ_ S=>.ok (.loc S.length) (S++[.dt []])
section
variable{X:Cx}{E:XK}{b:Nat}{o k e:Expr}{l:List Expr}{fo j f:jr}{fs:jg->i6->RX (List Z)}{i:Pos}
def MD{q}(F:ZA X E l fs):ZE X E (.Tuple l q i) (ve fs):=by
 obtain⟨O,C,z,_⟩:=F;refine⟨_,Dn C,λB al lo H σ ρ S Q s h=>z _ _ _ _ _ _ _ _ s<|i3.mono (i3.split h) λx n d U T r q M a v y=>?_⟩;split at a
 ·rename_i t I;obtain⟨R,L,J⟩:=aL.mp I;have:=sH L;subst this;have c:=y.toD;have G:=uC c J;subst G;split at a
  ·rename_i D;refine⟨by rw[ai];exact D,λp m=>?_⟩;have u:=r.grow (mj (K:=X.K) (o:=.tup<|t.map kV) m);exact a n d _ u (Xt.of<|mj (K:=X.K) (o:=.tup<|t.map kV) m) .refl (.ref p) ⟨p,r.fresh p m,kC,rfl⟩
  ·exact a.elim
 ·exact a.elim
def MC:ZE X E (.Dict [] [] i) Am:=by
 refine⟨_,Wj,λB al lo H σ ρ S Q s h=>λp a=>?_⟩;have m:lU X.K (λb=>al b/\b≠p) (kZ lo S.length p) (upd H p<|.dT []) p (.dt []):=⟨[],kC,.nil⟩;have c:=s.new a CG m nofun;have d:kZ lo S.length p S.length=some p:=by unfold kZ;rw[av rfl]
 exact h _ _ _ c (qH a) (oR s.st p) _ ⟨p,d,rfl⟩
def MI(hu:X.A.units+64<cLine)(ho:ZE X E o fo)(hk:ZE X E k j)(hv:ZE X E e f)(hs:swapsWith e (some<|.Subscript o k pos') i.line X.env=pure false):
    ZS X E b (.Assign [.Subscript o k pos'] e i) (u2 fo j f):=by
 obtain⟨to,po,ro⟩:=ho;obtain⟨tk,pk,rk⟩:=hk;obtain⟨tv,pv,rv⟩:=hv;refine⟨_,W6 (by omega) po pk pv hs,λB G al lo H σ ρ S D s h=>rv _ _ _ _ _ _ _ _ s<|i3.mono (kF.nA h) λy NQ Tc H0 S0 s0 x0 y0 h0 t r0=>ro _ _ _ _ _ _ _ _ s0<|i3.mono (kF.nA h0) λz mr lo1 H1 S1 s1 V Q h1 v1 r1=>rk _ _ _ _ _ _ _ _ s1<|i3.mono (kF.nA h1) λO p C I S2 v U J m u ru=>?_⟩;split at m
 ·rename_i n r;split at m
  ·rename_i F q;split at m
   ·rename_i hl;obtain⟨a,hn,rfl⟩:=r1;obtain⟨c,ha,hc,rfl⟩:=ru;have d:=J _ _ hn;obtain⟨L,g1,M⟩:=v.cell d q;have x:kq X.K p C I t y:=(r0.mv V Q).mv U J;have T:Xt p I p (upd I a (.dT (putK L r t))):=λb o _ G eb=>⟨G,by rw[jB λz=>v.st.na n a d (by rw[<-z];exact G)];exact eb⟩;obtain⟨Y,R⟩:=v.write d (o:=.dT (putK L r t)) (c:=.dt (kv F r y)) CG (λq w=>by unfold lV at w;cases w) ⟨_,kC,ko.mv T .refl (M.put r x)⟩ nofun;exact⟨a,_,rfl,.t g1 hc (by rw[M.length];exact hl),m _ _ _ _ R Y⟩
   ·exact m.elim
  ·exact m.elim
 ·exact m.elim
end
def Mn(K:W.Frag)(f:jr):TE:=λσ H Q=>∃B al lo ρ S,RZ K B al lo H σ ρ S/\i3 K B (λ_ _ _=>False) al lo H σ ρ (f ρ S) (λz c a d _=>∀v,kq K c a d v z->Q v d)
def Mo(K:W.Frag)(f:jg->i6->RX Bool):TT:=λσ H Q=>∃B al lo ρ S,RZ K B al lo H σ ρ S/\i3 K B (λ_ _ _=>False) al lo H σ ρ (f ρ S) (λb _ _ a _=>Q b a)
def ZE.w(h:ZE X (λ_ _ _=>False) e f):PE X e (Mn X.K f):=by obtain⟨t,p,r⟩:=h;intro c s σ H Q I i;obtain⟨B,al,lo,ρ,S,d,a⟩:=i;exact p c s σ H Q I (r B al lo H σ ρ S Q d a)
def xT(X:Cx)(a:List Expr)(f:jg->i6->RX Bool):Prop:=PF X a (Mo X.K f)
def qh:jg->i6->RX Bool:=λ_ S=>.ok true S
def MF:xT X [] qh:=λc s σ H Q I h=>by obtain⟨B,al,lo,ρ,S,d,a⟩:=h;exact KP c s σ H Q I (a al lo H d .refl .refl)
def n6(a:List Nat)(ρ:jg):jg:=none::a.map λi=>(ρ[i]?).getD none
def aat(s:RZ K B mr lo1 H1 σ ρ S1)(m:EZ K B xW uE H2 S2)(x:Xt mr H1 xW H2)(y:Lx lo1 uE)(ci):RZ K B xW uE H2 (mG 1 ci σ) (n6 ci ρ) S2 where
 toEZ:=m
 len:=by unfold mG n6;simp
 vr:=λj z h=>by
  unfold n6 at h;cases j with
  |zero=>cases h
  |succ k=>
   rw[eM,aA]at h;cases q:ci[k]? with
   |none=>rw[q]at h;cases h
   |some i=>
    rw[q]at h;have a:(ρ[i]?).getD none=some z:=Option.some.inj h;cases w:ρ[i]? with
    |none=>rw[w]at a;cases a
    |some o=>rw[w]at a;have c:o=some z:=a;subst c;obtain⟨v,l,d⟩:=s.vr i z w;refine⟨v,?_,d.mv x y⟩;unfold mG;show(none::(ci.map λi=>(σ[i]?).getD none))[k+1]?=_;rw[eM,aA,q];show some ((σ[i]?).getD none)=_;rw[l];rfl
def zY(n:Nat):Option Z->Bool
 |some z=>mx n z
 |none=>false
def vd(f:jr):jr:=λρ S=>match f ρ S with
 |.ok z a=>(match z with
  |.loc n=>(match a[n]? with
   |some (.li h)=>(match md h with
    |some d=>if S.length<=n/\a.any (kN n)=false/\ρ.any (zY n)=false then .ok (.d<|.lst d) (a.set n .no)else .bad
    |none=>.bad)
   |_=>.bad)
  |_=>.bad)
 |.ex c ns d a=>.ex c ns d a
 |.bad=>.bad
section
variable{X:Cx}{E:XK}{e:Expr}{f:jr}
def abW{n d}(h:zY n o=false):pX n d o=o:=by
 cases o with
 |none=>rfl
 |some z=>
  cases z with
  |d x=>rfl
  |tk c=>rfl
  |loc m=>
   have a:decide (m=n)=false:=h;have:m≠n:=by simpa using a
   show(if m=n then some (Z.d d)else some (Z.loc m))=_;rw[aw this]
def acQ(he:ZE X E e f):ZE X E e (vd f):=by
 obtain⟨t,p,r⟩:=he;refine⟨t,p,λB al lo H σ ρ S Q s h=>r _ _ _ _ _ _ _ _ s ?_⟩;unfold vd at h;cases q:f ρ S with
 |bad=>rw[q]at h;exact h.elim
 |ex c ns o G=>rw[q]at h;exact h
 |ok z G=>
  rw[q]at h;intro O L R j x1 Y v rv;dsimp only at h;split at h
  ·rename_i n;split at h
   ·rename_i zs q0;split at h
    ·rename_i o qd;split at h
     ·rename_i w;obtain⟨w1,w2,w3⟩:=w;obtain⟨a,hn,rfl⟩:=rv;have J:RZ X.K B O L R (σ++[some (.ref a)]) (ρ++[iO n]) G:=⟨j.toEZ,by rw[ar,ar,j.len];rfl,λi z d=>by
       by_cases x:i<ρ.length
       · rw[ay x]at d;obtain⟨u,k,D⟩:=j.vr i z d;exact⟨u,by rw[ay (by rw[<-j.len];exact x)];exact k,D⟩
       · rw[aK<|by omega]at d;have U:i - ρ.length=0:=by
          have:=(aB.mp d).1;simp at this;omega
         rw[U]at d;cases d;refine⟨.ref a,?_,a,hn,rfl⟩;rw[aK (by rw[<-j.len];omega),<-j.len,U];rfl⟩
      have l:(ρ++[some<|Z.loc n])[ρ.length]?=some (iO n):=by simp
      have fz:ux B.n ρ.length (ρ++[iO n]) G=some ((ρ++[some<|Z.loc n]).map (pX n<|.lst o),G.set n .no):=by unfold ux;rw[l];dsimp only;rw[q0];dsimp only;rw[qd];dsimp only;rw[av ⟨aU s.sz w1,w2⟩]
      obtain⟨F,y,I,x2,V⟩:=J.freeze fz;have M:∀i z,ρ[i]?=some (some z)->((ρ++[some<|Z.loc n]).map (pX n<|.lst o))[i]?=some (some z):=λi z d=>by have x:=(aB.mp d).1;rw[aA,ay x,d];have:=cq.mp w3 (some z) (bf d);show some (pX n (.lst o)<|some z)=_;rw[abW<|by simpa using this]
      have s3:RZ X.K B F y R σ ρ (G.set n .no):=⟨I.toEZ,j.len,λi z d=>by obtain⟨u,k,D⟩:=I.vr i z (M i z d);have x:=(aB.mp d).1;rw[ay (by rw[<-j.len];exact x)]at k;exact⟨u,k,D⟩⟩
      have C:((ρ++[some<|Z.loc n]).map (pX n<|.lst o))[ρ.length]?=some (iV o):=by rw[aA,l];show some (if n=n then some (Z.d<|.lst o)else some (Z.loc n))=_;rw[av rfl]
      obtain⟨u,k,D⟩:=I.vr _ _ C;rw[j.len,aK<|ah _,d5]at k;cases k;refine h F y R s3 (x1.trans x2) (λm b T=>?_) _ D;obtain⟨c,g1,_⟩:=s.st.at' m b T;have hm2:=(aB.mp g1).1;exact V n l m b (by omega) (Y m b T)
     ·exact h.elim
    ·exact h.elim
   ·exact h.elim
  ·exact h.elim
end
open PySem.Spec PySem.Calls PySem.W
open PyProof.Rows hiding St K
def rA(h:Heap)(d:Addr)(a:Array DictEntry)(c:Nat):Prop:=∃o,h.get? d=some o/\o.ExactDict/\o.data=.dict a c
def rA.typeIs{s:Shared}{d}(x:rA s.heap d es ep):s.TypeIs (.ref d) "dict":=let⟨o,a,c,_⟩:=x;⟨o,a,c.1⟩
section
variable{j:Program}{w:World}{A:Around}{E:jW}{s:Shared}{c d:Addr}{i q:Nat}{f:Array DictEntry}
def aad{Q:jW}(l:(d==sysModules)=false)(k:rA s.heap d f q)
 (m:Q (.ref s.heap.objs.size) {s with heap:=s.heap.push {cls:=.type "dict_keyiterator",data:=.fields #[.ref d,.int 0 0,.int f.size 0,.int q 0]}}):wpAny (model j w) A (pyIter (.ref d)) Q E s:=by obtain⟨o,h,n,a⟩:=id k;have hT:=k.typeIs;refine eR hT gS (bA gS hT PySem.F.entry_dict_iter ?_ (PySem.F.args_dict_iter_1 _));unfold Builtin.«dict.__iter__»;refine ae ?_;unfold Builtin.Dict.dictSlotNone;refine ae (fx hT ?_);show wpAny _ _ (pure<|Value.ref d) _ _ s;refine af ?_;show wpAny _ _ (Builtin.Dict.showsAll d>>=_) _ _ s;unfold Builtin.Dict.showsAll;rw[aw (by rw[l];exact ax)];refine ae (af ?_);refine ae (dg h a ?_);refine ae (dI h a ?_);refine ae (aY<|af ⟨_,rfl,"dict_keyiterator",_,⟨_,aG _ rfl,rfl⟩,PySem.F.slot_dict_keyiterator_next.lookup,?_⟩);simpa [rawInt]using m
def aac{Q:Option Value->Shared->Prop}(hit:s.heap.IsKeyIter c d i f.size q)(t:rA s.heap d f q)(l:i<f.size)
 (x:∀r,r.IsKeyIter c d (i+1) f.size q->Heap.SameBut c s.heap r->Q (some f[i].key) {s with heap:=r}):wpAny (model j w) A (pyNext<|.ref c) Q E s:=by
  obtain⟨o,p,v,n⟩:=id hit;obtain⟨y,k,u,m⟩:=id t;unfold pyNext
  refine ae (dh (bJ (name:=Str.ofString "__next__") hit.typeIs cx
   (bA cx hit.typeIs eC ?_ (ee _))))
  refine ae (af ?_);refine ae ?_;refine ae ?_;first|refine ae (cQ hit.typeIs<|af ?_)|refine ae (dj hit.typeIs<|af ?_)
  refine ae (c0 p n ?_);have h:Builtin.Dict_items.ownsTuple "dict_keyiterator"=false:=by decide
  simp only[h,bh,bL];show wpAny _ _ (if(Value.ref d==Value.none)=true then _ else _) _ _ s;rw[aw<|show¬((Value.ref d==Value.none)=true)from ax];refine ae (af ?_);refine ae (dg k m ?_);rw[aw<|by simp];refine ae (af ?_);refine ae (dI k m ?_);rw[aw<|by simp];refine af ?_;simp only[show¬((i:Int)<0)from by omega,bL,bu,aJ l];refine ae ?_;first|refine ae (cQ hit.typeIs<|af ?_)|refine ae (dj hit.typeIs<|af ?_)
  refine ae (wpAny_isOneOf_keyiter hit.typeIs ?_);show wpAny _ _ (setField (.ref c) 1 (rawInt<|(i:Int)+1)>>=_) _ _ s;refine ae (bZ p n (by simp) ?_)
  have a:(s.heap.update c (Obj.mapFields (·.setIfInBounds 1 (rawInt<|(i:Int)+1)))).IsKeyIter c d (i+1) f.size q:=
   ⟨_,a9 _ p<|bR<|bj n _,(df ..).trans v,by rw[bj n];simp[rawInt]⟩
  refine ae (bD ?_);refine ae (wpAny_isOneOf_keyiter (s:={s with heap:=s.heap.update c (Obj.mapFields (·.setIfInBounds 1 (rawInt<|(i:Int)+1)))}) a.typeIs ?_);show wpAny _ _ (pure f[i].key) _ _ _;exact af (af ⟨_,rfl,af<|x _ a<|bw ..⟩)
def aab{Q:Option Value->Shared->Prop}(v:A.handled=none)(hit:s.heap.IsKeyIter c d i f.size q)(u:rA s.heap d f q)(n:f.size<=i)
 (y:∀t,Heap.ExtBut c s.heap t->Q none {s with heap:=t}):wpAny (model j w) A (pyNext<|.ref c) Q E s:=by
  obtain⟨o,p,C,r⟩:=id hit;obtain⟨z,k,x,l⟩:=id u;unfold pyNext
  refine ae (dh (bJ (name:=Str.ofString "__next__") hit.typeIs cx
   (bA cx hit.typeIs eC ?_ (ee _))))
  refine ae (af ?_);refine ae ?_;refine ae ?_;first|refine ae (cQ hit.typeIs<|af ?_)|refine ae (dj hit.typeIs<|af ?_)
  refine ae (c0 p r ?_);have h:Builtin.Dict_items.ownsTuple "dict_keyiterator"=false:=by decide
  simp only[h,bh,bL];show wpAny _ _ (if(Value.ref d==Value.none)=true then _ else _) _ _ s;rw[aw<|show¬((Value.ref d==Value.none)=true)from ax];refine ae (af ?_);refine ae (dg k l ?_);rw[aw<|by simp];refine ae (af ?_);refine ae (dI k l ?_);rw[aw<|by simp];refine af ?_;simp only[show¬((i:Int)<0)from by omega,bL,bu,cF n];refine ae ?_;first|refine ae (cQ hit.typeIs<|af ?_)|refine ae (dj hit.typeIs<|af ?_)
  show wpAny _ _ (setField (.ref c) 0 .none>>=_) _ _ s;refine ae (bZ p r (by simp) ?_);show wpAny _ _ (newExc (.type "StopIteration") []>>=_) _ _ _;refine ae ?_;simp only[newExc,newTuple];refine ae (aY ?_ (by size_fits));refine ae (m:=firstArgMember _ _) (gi (a:=Value.none) (by first|rfl|(simp only[firstArgMember];rfl)) ?_);refine aY ?_ (by size_fits);simp only[raiseNew];refine ae (gm ?_);rw[show A.in1.handled=none from v];refine ae (af<|ik ?_);refine ae (d6 (T:="StopIteration") (b:=true) ⟨_,aG _ rfl,rfl⟩ f6 ?_);exact af (y _<|((bw ..).extBut.push _).push _)
def kD:Key->D
 |.inl i=>.int i
 |.inr x=>.str x
theorem wR:∀k:List Key,jb K al H (k.map kV) (k.map kD)
 |[]=>.nil
 |.inl i::r=>.cons (.int i) (wR r)
 |.inr x::r=>.cons (.str x) (wR r)
theorem Ml:∀a:List (List Key×Addr×Value),Vals (a.map λx=>V.ref x.2.1) (a.map λx=>Value.ref x.2.1)
 |[]=>.nil
 |_::r=>.cons rfl (Ml r)
variable{X:Cx}{E:XK}{e o k:Expr}{F C ty:TE}{J B:Pos}
def Sv{s}(I:Inv X pins σ H s){l:List Key}(h:mF X.K H b (l.map kV)):(tupleKind (j4 X.prog X.w)).is s.heap l b:=by obtain⟨a,r,⟨o,t,p,n,m⟩,_⟩:=I.tuple h;exact⟨o,a.toArray,n,t,p,m,by simpa using Ce r⟩
def KH(hu:X.A.units+1<cLine)(ho:PE X o C)(hi:PE X k ty)(hs:tU k):PE X (.Subscript o k B) (λσ H Q=>C σ H λx R=>ty σ R λy t=>∃a b n r v,x=.ref a/\y=.ref b/\Rd t a (.dT n)/\mF X.K t b (r.map kV)/\lP n r=some v/\Q v t):=by intro m s σ H Q I h;refine L1 PySem.F.slot_dict_getitem.lookup hs (ji (ho m s σ H _ I h) λu U ⟨x,R,I1,Y,q1⟩=>ji (hi m U σ R _ I1 q1) λiv s2 L=>?_);obtain⟨y,t,O,V,a,b,n,r,v,ex,ey,e,hb,l,Z⟩:=L;subst ex ey;obtain rfl:u=Value.ref a:=Y;obtain rfl:iv=Value.ref b:=V;obtain⟨z,hd,T,G,dd⟩:=uo O.hok e;refine⟨dd.typeIs,?_⟩;obtain⟨w',hw,D⟩:=mq.some_of (v:=v) (o:=(atKey T r).map (·.2)) (by rw[<-l];exact G.val r);obtain⟨p,hp,M⟩:=aF.mp hw;refine wpAny_getItem_heap (dG hu) (Sv O hb) dd hp ?_;rw[M];exact⟨v,t,O.tok _,D,Z⟩
end
def r6(fo d:jr):jr:=λρ S=>(fo ρ S).bind λz h=>(d ρ h).bind λy c=>match z,y with
 |.loc n,.d (.tup ds)=>(match kS ds,c[n]? with
  |some k,some (.dt a)=>(match valZ a k with
   |some z=>.ok z c
   |none=>.bad)
  |_,_=>.bad)
 |_,_=>.bad
def qa(a b:jr):jr:=λρ S=>(a ρ S).bind λx i=>match x with
 |.d d=>(lJ (tT d) i).bind λc h=>if c=true then b ρ h else .ok (.d d) h
 |_=>.bad
variable{X:Cx}{E:XK}{b:Nat}{o k e a c:Expr}{rest:List Expr}{fo Y f fa fb:jr}{U p1:Pos}
def E8(hu:X.A.units+64<cLine)(V:ZE X E o fo)(hk:ZE X E k Y)(T:tU k):ZE X E (.Subscript o k U) (r6 fo Y):=by
 obtain⟨to,L,F⟩:=V;obtain⟨tk,pk,G⟩:=hk;refine⟨_,KH (by omega) L pk T,λB al lo H σ ρ S Q s h=>F _ _ _ _ _ _ _ _ s<|i3.mono (i3.split h) λz mr M H1 S1 x x1 y1 h1 v C=>G _ _ _ _ _ _ _ _ x<|i3.mono (i3.split h1) λy i l p S2 m x2 r d u D=>?_⟩;split at d
 ·rename_i n ds;split at d
  ·rename_i R O I q;split at d
   ·rename_i z0 J;obtain⟨a,Z,rfl⟩:=C;obtain⟨b,vs,rfl,hb,j⟩:=Rep.rm (show Rep X.K i p u (.tup ds)from D);have ev:=uC j I;subst ev;obtain⟨t,g1,g2⟩:=m.cell (r _ _ Z) q;obtain⟨w,e1,e2⟩:=g2.val J;exact⟨a,b,t,R,w,rfl,rfl,.inl g1,hb,e1,d i l p m .refl .refl w e2⟩
   ·exact d.elim
  ·exact d.elim
 ·exact d.elim
def Wa(z:PE X a ta)(y:PE X (.BoolOp .And (c::rest) U) tb):PE X (.BoolOp .And (a::c::rest) U) (λσ H Q=>ta σ H λx j=>∃k,vz X.K x j k/\if k=true then tb σ j Q else Q x j):=by
 intro d s σ H Q I h;refine BoolOp_and (ji (z d s σ H _ I h) λv r i=>?_);obtain⟨x,j,F,m,t⟩:=i;obtain⟨k,u,q⟩:=t;refine ji (EJ d r σ j x v (λc l=>c=k/\l=j) F m ⟨k,u,rfl,rfl⟩) λc p i=>?_;obtain⟨l,n,D,C⟩:=i;subst D C;cases c with
 |false=>exact⟨x,l,n,m,by simpa using q⟩
 |true=>exact y d p σ l Q n (by simpa using q)
def E7(C:ZE X E a fa)(z:ZE X E (.BoolOp .And (c::rest) U) fb):ZE X E (.BoolOp .And (a::c::rest) U) (qa fa fb):=by
 obtain⟨J,u,r⟩:=C;obtain⟨I,t,p⟩:=z;refine⟨_,Wa u t,λB al lo H σ ρ S Q s h=>r _ _ _ _ _ _ _ _ s<|i3.mono (i3.split h) λx m j D L i G F l v n=>?_⟩;split at l
 ·rename_i d;obtain⟨k,y,q⟩:=zO n (i3.toAft i<|i3.split l);refine⟨k,y,?_⟩;cases k with
  |false=>rw[aw<|by simp]at q⊢;exact q m j D i .refl .refl v n
  |true=>rw[av rfl]at q⊢;exact p _ _ _ _ _ _ _ _ i q
 ·exact l.elim
def E9(i:ZE X E a fa):ZE X E (.BoolOp op [a] U) fa:=let⟨t,p,r⟩:=i;⟨t,λd s σ H Q I h=>BoolOp_one<|p d s σ H Q I h,r⟩
end P2
namespace P2
open PySem
def ma(a:Array Nat):Prop:=a.toList.Pairwise (· < ·)
def ma.lt(h:ma xs)(a:i<j)(c:j<xs.size):xs[i]<xs[j]:=by have:=gg.mp h i j (by simpa using eP a c) (by simpa using c) a;simpa using this
theorem A4(xs j)(h:ma xs):∀a lo c,lo<=c->c<=xs.size->c - lo<=a->(∀i,(d:i<xs.size)->i<lo->xs[i]<j)->(∀i,(d:i<xs.size)->c<=i->j<=xs[i])->
 SetTable.below.go xs j a lo c<=xs.size/\(∀i,(d:i<xs.size)->i<SetTable.below.go xs j a lo c->xs[i]<j)/\∀i,(d:i<xs.size)->SetTable.below.go xs j a lo c<=i->j<=xs[i]
 |0,lo,c,u,n,t,m,l=>by
  have e:lo=c:=by omega
  subst e;show lo<=xs.size/\_;exact⟨n,m,l⟩
 |a+1,lo,c,u,n,t,m,l=>by
  unfold SetTable.below.go;by_cases p:lo<c
  ·rw[av p];have o:(lo+c)/2<xs.size:=by omega
   have v:xs.getD ((lo+c)/2) j=xs[(lo+c)/2]:=by simp[Array.getD,o]
   dsimp only;rw[v];by_cases k:xs[(lo+c)/2]<j
   ·rw[av k];refine A4 xs j h a _ c (by omega) n (by omega) (λi d q=>?_) l;by_cases e:i=(lo+c)/2;·subst e;exact k
    ·exact eP (h.lt (show i<(lo+c)/2 by omega) o) k
   ·rw[aw k];refine A4 xs j h a lo _ (by omega) (by omega) (by omega) m λi d r=>?_;by_cases e:i=(lo+c)/2;·subst e;omega
    ·have:=h.lt (show(lo+c)/2<i by omega) d;omega
  ·rw[aw p];have e:lo=c:=by omega
   subst e;exact⟨n,m,l⟩
def ya(h:ma xs)(j):SetTable.below xs j<=xs.size/\(∀i,(a:i<xs.size)->i<SetTable.below xs j->xs[i]<j)/\∀i,(a:i<xs.size)->SetTable.below xs j<=i->j<=xs[i]:=
 A4 xs j h xs.size 0 xs.size (bQ _) (ah _) (ah _) (λi _ h=>absurd h<|cW _) λi a h=>absurd a (Nat.not_lt.mpr h)
def N3(h:ma xs)(c:i<xs.size):SetTable.below xs (xs[i]+1)=i+1:=by
 obtain⟨m,j,d⟩:=ya h (xs[i]+1);generalize SetTable.below xs (xs[i]+1)=b at*;rcases eS b (i+1)with q|q|q;·have:=d i c (by omega);omega
 ·exact q
 ·have a:i+1<xs.size:=by omega
  have l:=j (i+1) a q;have k:xs[i]<xs[i+1]:=h.lt (show i<i+1 by omega) a;omega
def N4(h:ma xs):SetTable.below xs 0=0:=by
 obtain⟨d,a,c⟩:=ya h 0;generalize SetTable.below xs 0=b at*;cases b with
 |zero=>rfl
 |succ b=>exact absurd (a 0 (by omega)<|by omega) (cW _)
def Lq(h:ma xs)(r:xs[SetTable.below xs j]?≠some j):ma (SetTable.insertAt xs (SetTable.below xs j) j):=by
 obtain⟨z,u,t⟩:=ya h j;generalize v:SetTable.below xs j=b at*;have l:∀i,(c:i<xs.size)->b<=i->j<xs[i]:=λi c o=>by
  rcases gT j xs[i]with q|q;·exact q
  ·have C:=t b (by omega) (ah _);have:xs[b]<=xs[i]:=by
    by_cases e:b=i;·subst e;exact ah _
    ·exact cO (h.lt (show b<i by omega) c)
   exact absurd (by rw[aJ<|show b<xs.size by omega];exact bG some (by omega)) r
 unfold ma;have e:(SetTable.insertAt xs b j).toList=xs.toList.take b++j::xs.toList.drop b:=by unfold SetTable.insertAt;simp[il];exact cG (by rw[cz,aC];exact ah _)
 rw[e];refine List.pairwise_append.mpr ⟨fy (List.take_sublist _ _) h,eI.mpr ⟨λy a=>?_,fy (List.drop_sublist _ _) h⟩,λx n y a=>?_⟩
 ·obtain⟨i,d,rfl⟩:=bS a;rw[List.getElem_drop];rw[cz,aC]at d;simpa using l (b+i) (by omega) (by omega)
 ·obtain⟨i,d,rfl⟩:=bS n;rw[cJ,aC]at d;have m:=u i (by omega) (by omega);rw[List.getElem_take];rcases aE.mp a with rfl|a;·simpa using m
  ·obtain⟨k,p,rfl⟩:=bS a;rw[List.getElem_drop];rw[cz,aC]at p;have:=l (b+k) (by omega) (by omega);have q:xs[i]<xs[b+k]:=by omega
   simpa using q
structure nY(bt:Bool)(t:SetTable):Prop where
 led:t.led=!bt
 pQ:t.plain=true->ma t.place
 oM:t.plain=true->t.dummies=#[]
def abY(bt):nY bt (.fresh 0 0<|!bt):=⟨rfl,λ_=>by unfold ma;exact .nil,λ_=>rfl⟩
def z9{t}(h:nY bt t)(n):nY bt (t.standIn n):=⟨h.led,λw=>(by cases w),λw=>(by cases w)⟩
def ab0{t}(h:nY bt t)(n):nY bt (t.orStandIn n):=by
 unfold SetTable.orStandIn;split;·exact h
 ·exact z9 h n
theorem K0{t:SetTable}(k:t.dummies=#[]){h:Int}:∀a (p:SetTable.Probe) j d,p.dummy=none->SetTable.probe.go t f h a p=some (.empty j d)->d=none/\t.slot j=.empty
 |0,p,j,d,_,e=>by cases e
 |a+1,p,j,d,c,e=>by
  unfold SetTable.probe.go at e;cases q:t.slot p.j with
  |empty=>rw[q]at e;cases e;exact⟨c,q⟩
  |dummy=>
   exfalso;unfold SetTable.slot at q;dsimp only at q;split at q;·cases q
   ·rw[k]at q;have:SetTable.has #[] p.j=false:=rfl;rw[this]at q;cases q
  |live i=>
   rw[q]at e;dsimp only at e;split at e;·cases e
   ·refine K0 k a (t.advance p) j d ?_ e;unfold SetTable.advance;split<;>exact c
def abZ{t}(h:nY bt t)(es)(l:Int)(x):nY bt (layNew t es l x).2.1:=by
 unfold layNew;cases e:t.freeSlot l with
 |none=>exact z9 h _
 |some r=>
  obtain⟨a,wd⟩:=r;dsimp only;refine ab0 (t:=(t.put a).1) ⟨h.led,λw=>?_,λw=>?_⟩ _
  ·have i:=h.oM w;unfold SetTable.freeSlot at e;split at e
   ·rename_i j d q;obtain⟨rfl,c⟩:=K0 i _ _ _ _ rfl q;cases e;refine Lq (h.pQ w) λk=>?_;unfold SetTable.slot at c;dsimp only at c;rw[show(none:Option Nat).getD j=j from rfl]at k;rw[k]at c;simp at c
   ·cases e
  ·show(if SetTable.has t.dummies a then SetTable.eraseAt t.dummies (SetTable.below t.dummies a)else t.dummies)=#[];have i:=h.oM w;rw[i];rfl
def ab1{t}(h:nY bt t)(es n):nY bt (relayAll t es n).2.1:=by
 unfold relayAll;cases e:t.relaid (es.map (·.1)) n with
 |none=>exact z9 h _
 |some r=>
  obtain⟨p,d⟩:=r;dsimp only;split
  ·unfold SetTable.relaid SetTable.laid at e;cases q:SetTable.layClean (SetTable.sizeAbove n - 1) (es.map (·.1))with
   |none=>rw[q]at e;cases e
   |some c=>
    rw[q]at e;cases e;refine⟨h.led,λ_=>?_,λ_=>rfl⟩;unfold ma;show((List.map _<|List.filterMap _<|List.range _).toArray).toList.Pairwise _;rw[fT,List.map_filterMap];have sub:∀(l:List Nat) (g:Nat->Option Nat),(∀j k,g j=some k->k=j)->(l.filterMap g).Sublist l:=λl g m=>by
     induction l with
     |nil=>exact .slnil
     |cons a l i=>
      rw[d9];cases q:g a with
      |none=>exact i.cons _
      |some k=>rw[m a k q];exact i.cons₂ _
    refine fy (sub _ _ λj k w=>?_) eT;cases z:c.getD j none with
    |none=>rw[z]at w;cases w
    |some o=>rw[z]at w;cases w;rfl
  ·exact z9 h _
open L2 PySem.Spec PySem.Calls PySem.W
open PyProof.Rows hiding St K
def vK:Value->Key
 |.int i _=>.inl i
 |.str x _=>.inr x
 |_=>.inl 0
def qj(v:Value):Prop:=RelV (kV<|vK v) v
def Ac{k}(h:RelV (kV k) v):vK v=k:=by
 cases k with
 |inl i=>obtain⟨t,rfl⟩:=(show∃t,v=Value.int i t from h);rfl
 |inr x=>obtain⟨t,rfl⟩:=(show∃t,v=Value.str x t from h);rfl
def PJ{k}(h:RelV (kV k) v):qj v:=by unfold qj;rw[Ac h];exact h
def Ef{k}(h:RelV (kV k) v):v.scannable=true:=by
 cases k with
 |inl i=>obtain⟨t,rfl⟩:=(show∃t,v=Value.int i t from h);rfl
 |inr x=>obtain⟨t,rfl⟩:=(show∃t,v=Value.str x t from h);rfl
def xA(P:Program)(w:World)(a:List<|Int×Value):Prop:=∀e∈a,qj e.2/\e.1=(j4 P w).hash (vK e.2)
def xA.elems{w}(h:xA P w es):ElemsOf (j4 P w) es:=λe a=>⟨⟨vK e.2,oP (h e a).1,(h e a).2⟩,Ef (h e a).1⟩
def pG(a:List<|Int×Value):List Key:=a.map λe=>vK e.2
def oJ(P:Program)(w:World)(h:Heap)(a:Addr)(d:List Key)(n:Nat):Prop:=
 ∃o c i t,h.get? a=some o/\o.ExactSet/\o.data=.set c i t/\xA P w c.toList/\c.size<=n/\t.fits c.size=true/\nY (w.params.followText "set-order") t/\(pG c.toList).Nodup/\∀k,k∈pG c.toList↔k∈d
def oJ.keep{w}{c:Heap}{n}(x:oJ P w h a ks n)(k:∀o,h.get? a=some o->c.get? a=some o):oJ P w c a ks n:=let⟨o,i,j,t,d,r⟩:=x;⟨o,i,j,t,k o d,r⟩
section
variable{f:Program}{w:World}{A:Around}{E:jW}{s:Shared}
def NM{n k}{Q:Bool->Shared->Prop}(hx:RelV (kV k) x)(hS:oJ f w s.heap a ks n)(hroom:n+1<scanBound)
 (h:∀b G,Heap.SameBut a s.heap G->oJ f w G a (k::ks) (n+1)->Q b {s with heap:=G}):
   wpAny (model f w) A (setAddHashed a x<|(j4 f w).hash k) Q E s:=by
  obtain⟨o,v,ep,t,ho,Z,hd,p,hn,hf,tok,pK,D⟩:=hS;have II:=p.elems;have BO:(j4 f w).is k x=true:=oP hx;have IU:=Ef hx;have hb:v.size<scanBound:=by omega
  unfold setAddHashed setAddHashedIn;refine bD (ae<|bW ho hd hf ?_);dsimp only;rw[byScan_of IU hb II];simp only[↓reduceIte];unfold setAddByScan;refine ae ?_;refine ae (gM ?_);refine ae (wpAny_setScan_of BO ho hd hf II ?_);cases hr:List.findIdx? (λe=>(j4 f w).is k e.2) v.toList with
  |some j=>
   dsimp only;obtain⟨hj,Q8,_⟩:=List.findIdx?_eq_some_iff_getElem.mp hr;refine af (af ?_);have e:s={s with heap:=s.heap}:=by cases s;rfl
   have hin:k∈pG v.toList:=by have T:=(p v.toList[j] (b9 hj)).1;have h2:=(j4 f w).inj _ _ _ Q8 (oP T);rw[h2];exact az.mpr ⟨_,b9 hj,rfl⟩
   have:=h false s.heap (Heap.SameBut.refl a s.heap) ⟨o,v,ep,t,ho,Z,hd,p,by omega,hf,tok,pK,λO=>by rw[D O,aE];exact⟨.inr,λz=>z.elim (λz=>by rw[z];exact(D k).mp hin) id⟩⟩
   rw[e];exact this
  |none=>
   dsimp only;have hnot:k∉pG v.toList:=λhk=>by obtain⟨e,F,ek⟩:=az.mp hk;have:=List.findIdx?_eq_none_iff.mp hr e F;have T:=oP (P:=f) (w:=w) (p e F).1;rw[ek]at T;rw[T]at this;exact Bool.noConfusion this
   have hgw:∀(b:Bool) {C:Shared} {Q':Unit->Shared->Prop},Q' () C->wpAny (model f w) A (match b with|true=>rule "set.scan.the-table-gave-way"|false=>pure ()) Q' E C:=
    λb C Q' hq=>by cases b<;>first|exact af hq|exact gM hq
   have d:=layNew_perm t v ((j4 f w).hash k) x;have i:=layNew_fits t v ((j4 f w).hash k) x;have m:=abZ tok v ((j4 f w).hash k) x;generalize hL:layNew t v ((j4 f w).hash k) x=L at d i m⊢;obtain⟨c,t1,u,adg⟩:=L;dsimp only at d i m⊢;rw[Array.toList_push]at d;have HJ:xA f w c.toList:=λe F=>by
    rcases aW.mp (d.mem_iff.mp F)with F|F;·exact p e F
    ·rw[aM]at F;subst F;exact⟨PJ hx,by rw[Ac hx]⟩
   have kp:(pG c.toList).Perm (pG v.toList++[k]):=by have:=d.map λe=>vK e.2;rw[bq]at this;rw[show[k]=List.map (λe=>vK e.2) [((j4 f w).hash k,x)]from by rw[aT,d3,Ac hx]];exact this
   have J:(pG c.toList).Nodup:=kp.nodup_iff.mpr (eU.mpr ⟨pK,by simp,λy hy z hz w=>hnot<|by rw[aM]at hz;rw[<-hz,<-w];exact hy⟩);have M:∀O,O∈pG c.toList↔O∈k::ks:=λO=>by rw[kp.mem_iff,aW,aM,aE,D O];exact or_comm
   have adl:c.size=v.size+1:=by rw[<-aC,d.length_eq,ar,aC];rfl
   have uz:c.size<scanBound:=by omega
   refine ae (hgw _ ?_)
   have I:∀(l:SetTable),l.fits c.size=true->nY (w.params.followText "set-order") l->wpAny (model f w) A (do
    storeSet a c l
    if(!u&&l.tooFull)=true then do
       (match(relayAll l c<|SetTable.grown c.size).2.2 with|true=>rule "set.scan.the-table-gave-way"|false=>pure ())
       storeSet a (relayAll l c<|SetTable.grown c.size).1 (relayAll l c<|SetTable.grown c.size).2.1
       pure (some true)
     else pure (some true)) (λr s'=>∃G,s'={s with heap:=G}/\r=some true/\Heap.SameBut a s.heap G/\oJ f w G a (k::ks) (n+1)) E s:=λl QC tJ=>by
    refine ae (eV ho hd ?_ (fits_of_scanBound uz));have V:(s.heap.update a<|Obj.putSet c l).get? a=some {o with data:=.set c (ep+1) l}:=by have:=a9 (Obj.putSet c l) ho (by rw[fF c l hd];rfl);rw[fF c l hd]at this;exact this
    have R:=bw s.heap a (Obj.putSet c l);split
    ·have hp:=relayAll_perm l c (SetTable.grown c.size);have Y:=relayAll_fits l c (SetTable.grown c.size);have U:=ab1 tJ c (SetTable.grown c.size);generalize IB:relayAll l c (SetTable.grown c.size)=Rl at hp Y U⊢;obtain⟨q,t3,adh⟩:=Rl;dsimp only at hp Y U⊢;have hsz:q.size=c.size:=by rw[<-aC,hp.length_eq,aC]
     refine ae (hgw _ ?_);refine ae (eV V rfl ?_ (fits_of_scanBound<|by rw[hsz];exact uz));have BQ:((s.heap.update a<|Obj.putSet c l).update a (Obj.putSet q t3)).get? a=some {o with data:=.set q (ep+1+1) t3}:=by have:=a9 (Obj.putSet q t3) V (by rw[fF q t3 rfl];rfl);rw[fF q t3 rfl]at this;exact this
     exact af ⟨_,rfl,rfl,R.trans<|bw _ a _,_,q,_,t3,BQ,Z,rfl,λe F=>HJ e<|hp.mem_iff.mp F,by omega,Y,U,(hp.map λe:Int×Value=>vK e.2).nodup_iff.mpr J,λO=>by rw[<-M O];exact(hp.map λe:Int×Value=>vK e.2).mem_iff⟩
    ·exact af ⟨_,rfl,rfl,R,_,c,_,l,V,Z,rfl,HJ,by omega,QC,tJ,J,M⟩
   split
   ·refine ae ?_;rw[hashByValue_scannable 8 IU];refine af ?_;refine bp (I _ ?_ ?_) (λr s' hr=>?_) λ_ _ z=>z
    ·split;·exact i
     ·exact SetTable.fits_plain_off i
    ·split;·exact m
     ·exact⟨m.led,λz=>(by cases z),λz=>(by cases z)⟩
    ·obtain⟨G,rfl,rfl,T,h2⟩:=hr;exact af (h true G T h2)
   ·refine ae (af ?_);simp only[↓reduceIte];refine bp (I _ i m) (λr s' hr=>?_) λ_ _ z=>z;obtain⟨G,rfl,rfl,T,h2⟩:=hr;exact af (h true G T h2)
variable{R:Result->Shared->Prop}{I:Addr}{K J:List Addr}{G:Array GenState->Array GenState->Prop}{n:Nat}{P:Nat->Value->Prop}{St:Nat->Shared->Prop}
def aaV(W:WalksS f w A.in1 I K J G n P St)(S)(F:S∉K)
 (val:Nat->Key)(t:∀i v,P i v->RelV (kV<|val i) v)(m:n+1<scanBound):
   ∀k i s j,n - i=k->i<=n->St i s->oJ f w s.heap S j i->(∀x,x∈j↔x∈(List.range i).map val)->
    (∀a q,Moved (S::J) G s a->oJ f w a.heap S q n->(∀x,x∈q↔x∈(List.range n).map val)->R (.ok<|.ret .none) a)->
    codeAny (model f w) A (.builtin "set.update.loop" ⟨[.ref S,.ref I],[]⟩) R s:=by
  have D:S∉J:=λh=>F (W.sub _ h);have d:∀b∈J,b∈S::J:=λb m=>aZ _ m;intro k;induction k with
  |zero=>
   intro i s j hk hi l V O Y;have Q:i=n:=by omega
   subst Q;refine b7 ck ?_;rw[bX bE _];show wpAny _ A.in1 (pyNext (.ref I)>>=_) _ _ s;refine ae (W.done s _ _ l λa c=>?_);show wpAny _ A.in1 (ret Value.none) _ _ a;exact af (Y a j (c.mono d) (V.keep λo e=>c.heap S _ D e) O)
  |succ k ih=>
   intro i s j hk hi l V O Y;have C:i<n:=by omega
   refine b7 ck ?_;rw[bX bE _];show wpAny _ A.in1 (pyNext (.ref I)>>=_) _ _ s;refine ae (W.item i s _ _ C l λv a hP u c=>?_);have Z:=t i v hP;have U:oJ f w a.heap S j i:=V.keep λo e=>c.heap S _ D e;show wpAny _ A.in1 (holding [v] (setAdd S v)>>=_) _ _ a;refine ae (bD ?_);unfold setAdd;refine bD ?_;refine ae ((j4 f w).pyHash (k:=val i) (oP Z) ?_);refine NM (s:={a with toks:=a.toks+1}) Z U (by omega) λb h' y T=>?_;refine af ⟨dJ bE _,ih (i+1) _ (val i::j) (by omega) C (W.frame _ a _ _ u (cP _) λb m o e=>?_) T (λx=>?_) λM p z L r=>?_⟩;·rw[y.2 b (λh:b=S=>F<|by rw[<-h];exact m)];exact e
   ·rw[List.range_succ,bq,aW,aE,O x];show x=val i\/_↔_\/x∈[val i];rw[aM];exact or_comm
   ·refine Y M p (Moved.trans W.gtrans ((c.mono d).then_heap (cP _) λb o m e=>?_) z) L r;rw[y.2 b (λh:b=S=>m<|by rw[h];exact bF)];exact e
abbrev l6(w:World):Obj:={cls:=.type "set",dict:=none,data:=.set #[] 0 (.fresh 0 0<|!(w.params.followText "set-order"))}
def G6(a){Q₁:jW}(h:Q₁ (.ref s.heap.objs.size) {s with heap:=s.heap.push<|l6 w}):
    codeAny (model f w) A (.call (.builtin "set.__new__") ⟨[.type "set",a],[]⟩) (wants Q₁ E) s:=by
 refine hI ?_;show wpAny _ A.in1 (do checkBuiltinCall "set.__new__" ⟨[.type "set",a],[]⟩;again (.builtin "set.__new__" ⟨[.type "set",a],[]⟩)) _ _ s;refine ae (gi (PySem.F.newCall_set_1 a)<|af ⟨dJ hX _,b7 PySem.F.entry_set_new ?_⟩);rw[bX hX _];unfold Builtin.«set.__new__» Builtin.Frozenset.newClass;have c:=sub_set_self;obtain⟨j,g,d,tk,i⟩:=s;dsimp only
 wp_walk
 refine gG (af ?_);dsimp only;simp only[newObj];refine ae (wpAny_alloc<|af ?_);exact af h
def aaR{h:Heap}(e:h.get? a=some (l6 w)):oJ f w h a [] 0:=
 ⟨_,#[],0,_,e,⟨rfl,rfl,rfl⟩,rfl,λe c=>by simp at c,ah _,by rfl,abY _,by unfold pG;exact .nil,λk=>by unfold pG;simp⟩
def Oi{ks:List Key}{Q:jW}(hh:A.handled=none)(hl:s.heap.IsList l items)(hi:Vals (ks.map kV) items.toList)(hb:items.size+1<scanBound)
 (h:∀d tk p,oJ f w d s.heap.objs.size p items.size->(∀x,x∈p↔x∈ks)->
 (∀b o,b<s.heap.objs.size->s.heap.get? b=some o->d.get? b=some o)->Q (.ref s.heap.objs.size) {s with heap:=d,toks:=tk}):
   wpAny (model f w) A (call (.type "set") [.ref l]) Q E s:=by
  have q:items.size=ks.length:=by have:=hi.length;rw[ai,aC]at this;exact this.symm
  obtain⟨c,tl,Q1⟩:=PySem.F.called_set.mro;have QY:=PySem.F.called_set.made;have hsub:=PySem.F.called_set.sub;refine iF (hI ?_);show wpAny _ _ (callAny (.type "set") _) _ _ _;refine af ⟨fY _<|by decide+kernel,b7 gH ?_⟩;rw[Around.under_plain (weight_type_call_type "set" [.ref l] []) rfl];have h1:=PySem.F.called_set.notType;have h2:=PySem.F.called_set.canCreate;have Qy:=gU (.ref l);repeat(any_goals(first|assumption|wp_step))
  refine dD (G6 (.ref l) (E:=E) (Q₁:=λD m=>D=.ref s.heap.objs.size/\m={s with heap:=s.heap.push<|l6 w}) ⟨rfl,rfl⟩) λr m hr=>?_;cases r with
  |error e=>exact hr
  |ok fl=>
   cases fl with
   |ret D=>
    obtain⟨rfl,rfl⟩:=hr;have hS:(s.heap.push<|l6 w).get? s.heap.objs.size=some (l6 w):=aG _ rfl;have hT:Shared.TypeIs {s with heap:=s.heap.push<|l6 w} (.ref s.heap.objs.size) "set":=⟨_,hS,rfl⟩;have QT:=PySem.F.called_set.init.lookup;have Qw:=PySem.F.called_set.init.bind (.ref s.heap.objs.size);repeat(any_goals(first|assumption|wp_step))
    refine dD (dW (R:=wants (λr k=>r=.none/\∃d tk p,k={s with heap:=d,toks:=tk}/\oJ f w d s.heap.objs.size p items.size/\(∀x,x∈p↔x∈ks)/\
     (∀b o,b<s.heap.objs.size->s.heap.get? b=some o->d.get? b=some o)) E) PySem.F.called_set.init.plain gX (check_set_init_1 hT ?_)) λC k a=>?_
    ·obtain⟨ol,M,Z,nl,Y⟩:=hl;obtain⟨UW,t,UY,j⟩:=ol;simp only at Z Y;subst Z;subst Y;have L:(s.heap.push<|l6 w).get? l=some {cls:=.type "list",dict:=t,data:=.seq items nl,slots:=j}:=ag _ M;have Rg:=ip;have Rf:=f7;have hne:(Value.type "list"==Value.type "dict")=false:=by decide
     have V:(s.heap.push<|l6 w).IsList l items:=⟨_,L,rfl,nl,rfl⟩;unfold Builtin.«set.__init__» noKeywords Builtin.Frozenset.updateFrom;generalize BD:pyIter=PI
     wp_walk
     subst BD;refine eN V ?_;refine ae (iq ?_);have U:l<s.heap.objs.size:=Heap.lt_size M;have v9:A.in1.in1.in1.handled=none:=by simp[hh]
     have O:l≠(s.heap.push<|l6 w).objs.size:=by rw[bY];exact aR (bN U)
     have hSf:s.heap.objs.size∉[(s.heap.push<|l6 w).objs.size,l]:=by rw[bY];simp only[aE,aM,bU,dU,iG];exact⟨aR<|b8 _,da U⟩
     have F:∀(i:Nat) (v:Value),items[i]?=some v->RelV (kV<|(λi=>ks.getD i<|.inl 0) i) v:=λi v hv=>by
      have T:i<ks.length:=by rw[<-q];exact(br.mp hv).1
      have ev:(ks.map kV)[i]?=some (kV<|ks.getD i<|.inl 0):=by rw[aA,ao T,aQ,ao T];rfl
      obtain⟨u,hu,ru⟩:=hi.get ev;rw[bc,hv]at hu;cases hu;exact ru
     refine aaV ((Walks.list v9 _ l O items).toS) s.heap.objs.size
      hSf (λi=>ks.getD i<|.inl 0) F hb (items.size - 0) 0 _ [] (by omega) (bQ _)
      ⟨⟨_,aG _ rfl,rfl,rfl⟩,(V.push _)⟩ ?hS0 (λx=>by simp) ?hR
     case hS0=>exact aaR (ag _ hS)
     case hR=>
      intro s' p hm y BL;obtain⟨d,g',d',xg,wH⟩:=s';have eg:g'=s.gens:=hm.gens;have ed:d'=s.drawn:=hm.drawn;have eo:wH=s.os:=hm.os;subst eg;subst ed;subst eo;show wpAny _ _ _ _ _ _;refine af ?_;show wpAny _ _ (ret Value.none) _ _ _;refine af ⟨rfl,d,xg,p,rfl,y,λx=>?_,λb o hb e=>?_⟩
      ·rw[BL x,q];have e2:(List.range ks.length).map (λi=>ks.getD i<|.inl 0)=ks:=BA ks (.inl 0);rw[e2]
      ·have uz:b≠s.heap.objs.size:=aR hb;have BG:b≠(s.heap.push<|l6 w).objs.size:=by
        rw[bY];exact aR (bN hb)
       exact hm.heap b o (by simp only[aE,aM,bU,dU,iG];exact⟨uz,BG⟩) (ag _<|ag _ e)
    ·cases C with
     |error e=>exact a
     |ok z=>
      cases z with
      |ret r=>
       obtain⟨rfl,d,tk,p,rfl,y,wa,BN⟩:=a;repeat(any_goals(first|assumption|wp_step))
       exact h _ _ _ y wa BN
      |_=>exact a.elim
   |_=>exact hr.elim
def pV:Slot "set_iterator" "__next__" "set_iterator.__next__":=
 .of (owner:="set_iterator") (n:="__next__") (by rw[hK,fA];kernel_rfl) (by decide+kernel) (by decide+kernel) (by decide+kernel)
  (by first|exact .inl (by decide+kernel)|exact .inr (by decide+kernel)) (by rw[ir];kernel_rfl)
def yq:entryFor table "set_iterator.__next__"=some Builtin.«set_iterator.__next__»:=entryFor_of_tree (by kernel_rfl)
def Kv:Manifest.owners.lookup (String.ofList ['r','o','t','a','r','e','t','i','_','t','e','s'].reverse)=some Manifest.sig_set_iterator:=by kernel_rfl
def xZ(a):argsOk "set_iterator.__next__" ⟨[a],[]⟩:=by unfold argsOk;rw[signature?_of (id:="set_iterator.__next__") (n:=['_','_','t','x','e','n','_','_']) (o:=['r','o','t','a','r','e','t','i','_','t','e','s']) (by kernel_rfl) Kv];kernel_rfl
def Pm:entryFor table "set.__iter__"=some Builtin.«frozenset.__iter__»:=
 entryFor_alias (id':="frozenset.__iter__") (by kernel_rfl) rfl (by decide+kernel) (by kernel_rfl)
theorem Dp{a:Type}:∀(l:List a) i (h:i<l.length),(l[i]::l.eraseIdx i).Perm l
 |x::l,0,_=>.refl _
 |x::l,i+1,h=>by
  have c:i<l.length:=by simpa using h
  show(l[i]::x::l.eraseIdx i).Perm (x::l);exact(List.Perm.swap _ _ _).trans (List.Perm.cons x<|Dp l i c)
def Ah{Q:Bool->Shared->Prop}(h:Q (w.params.followText "set-order") s):wpAny (model f w) A setsByText Q E s:=by unfold setsByText;exact ae (gG<|af h)
def wp_choose{n}{Q:Nat->Shared->Prop}(a:n≠0)(h:∀i d,i<n->Q i {s with drawn:=d}):wpAny (model f w) A (choose src n) Q E s:=λj p c=>by show Sem.wp _ _ (.choose src n .pure) _ _ _ _;rw[Sem.wp_choose];refine⟨a,?_⟩;exact h _ _ (eJ _<|Nat.pos_of_ne_zero a)
theorem Mt{k:Type}:∀n (xs:List k) {s:Shared} {Q:List k->Shared->Prop},xs.length=n->(∀c d,c.Perm xs->Q c {s with drawn:=d})->wpAny (model f w) A (drawOrder n xs) Q E s
 |0,xs,s,Q,a,h=>by have e:xs=[]:=gI.mp a;subst e;unfold drawOrder;exact af (h [] s.drawn<|.refl _)
 |n+1,[],s,Q,a,h=>by simp at a
 |n+1,x::xs,s,Q,a,h=>by unfold drawOrder;refine ae (wp_choose (by simp) λi d j=>?_);rw[ao j];dsimp only;refine ae (Mt n ((x::xs).eraseIdx i) (by rw[iu,av j];omega) λc d2 l=>af ?_);refine h _ d2 ?_;exact(List.Perm.cons _ l).trans (Dp (x::xs) i j)
def ml(h:Heap)(c:Addr)(first:Value)(i:Nat)(a:Addr)(n d:Nat):Prop:=∃o,h.get? c=some o/\o.cls=.type "set_iterator"/\o.data=.fields #[first,.int i 0,.ref a,.int n 0,.int d 0]
def m5(h:Heap)(a:Addr)(c:Array<|Int×Value)(d:Nat)(t:SetTable):Prop:=∃o,h.get? a=some o/\o.ExactSet/\o.data=.set c d t/\t.fits c.size=true
def m5.at'{h':Heap}{t}(x:m5 h a es ep t)(k:∀o,h.get? a=some o->h'.get? a=some o):m5 h' a es ep t:=let⟨o,c,r⟩:=x;⟨o,k o c,r⟩
def ml.at'{h':Heap}{n}(x:ml h it first i a n ep)(k:∀o,h.get? it=some o->h'.get? it=some o):ml h' it first i a n ep:=let⟨o,c,r⟩:=x;⟨o,k o c,r⟩
def ml.typeIs{s:Shared}{n}(x:ml s.heap it first i a n ep):s.TypeIs (.ref it) "set_iterator":=let⟨o,c,d,_⟩:=x;⟨o,c,d⟩
variable{H a:Addr}{i F:Nat}{C:Array<|Int×Value}{t:SetTable}
def LH{Q:Option (Value×Nat)->Shared->Prop}(q:w.params.followText "set-order"=false)(l:m5 s.heap a C F t)(k:(!t.plain&&decide (C.size>1))=false)(d:t.led=true)
 (h:Q (match C[SetTable.below t.place slot]?,t.place[SetTable.below t.place slot]? with|some (_,x),some j=>some (x,j+1)|_,_=>none) s):wpAny (model f w) A (setNext a slot i F) Q E s:=by obtain⟨o,m,_,p,hf⟩:=l;unfold setNext;refine ae (bW m p hf ?_);dsimp only;refine ae (Ah ?_);rw[q];refine aV (λc=>absurd c ax) (λ_=>?_);refine aV (λc=>absurd (show(!t.plain&&decide (C.size>1))=true from c) (by rw[k];exact ax)) (λ_=>?_);refine ae ?_;show wpAny _ _ (if(!t.led&&!C.isEmpty)=true then _ else _) _ _ _;rw[d];refine aV (λc=>absurd (show false=true from c) ax) (λ_=>af ?_);exact af h
def LI{Q:Option (Value×Nat)->Shared->Prop}(k:w.params.followText "set-order"=true)(l:m5 s.heap a C F t)
 (h:Q (((pickOrder (w.params.setOrder a F) C)[i]?).map λe=>(e.2,slot)) s):wpAny (model f w) A (setNext a slot i F) Q E s:=by obtain⟨o,d,_,j,hf⟩:=l;unfold setNext;refine ae (bW d j hf ?_);dsimp only;refine ae (Ah ?_);rw[k];refine aV (λ_=>?_) (λc=>absurd rfl c);refine aV (λc=>absurd c<|by simp) (λ_=>?_);refine ae ?_;unfold setWalk;refine ae (bW d j hf ?_);dsimp only;refine ae (Ah ?_);rw[k];refine aV (λ_=>?_) (λc=>absurd rfl c);refine ae (gG<|af ?_);exact af h
def Je{slot nx:Nat}{x:Value}{Q:Option Value->Shared->Prop}(hit:ml s.heap H (.int slot 0) i a C.size F)(v:m5 s.heap a C F t)
    (y:∀(B:Around) (M:jW) (u:Option (Value×Nat)->Shared->Prop),u (some (x,nx)) s->wpAny (model f w) B (setNext a slot i F) u M s)
    (L:∀r,ml r H (.int nx 0) (i+1) a C.size F->Heap.SameBut H s.heap r->Q (some x) {s with heap:=r}):wpAny (model f w) A (pyNext<|.ref H) Q E s:=by
 obtain⟨o,l,D,h⟩:=id hit;obtain⟨O,j,z,p,m⟩:=id v;unfold pyNext
 refine ae (dh (bJ (name:=Str.ofString "__next__") hit.typeIs pV
  (bA pV hit.typeIs yq ?_ (xZ _))))
 show wpAny _ _ (fieldsOf (.ref H)>>=_) _ _ s;refine ae (c0 l h ?_);show wpAny _ _ (setEntries a>>=_) _ _ s;refine ae (du j p m ?_);refine aV (λq=>absurd q<|by simp) (λ_=>?_);show wpAny _ _ (setNext a (Int.toNat slot) (Int.toNat i) (Int.toNat F)>>=_) _ _ s;rw[bu,bu,bu];refine ae (y _ _ _ ?_);show wpAny _ _ (setField (.ref H) 0 (rawInt nx)>>=_) _ _ s;refine ae (bZ l h (by simp) ?_);have d:=a9 (Obj.mapFields (·.setIfInBounds 0 (rawInt nx))) l (bR<|bj h _);have c:(Obj.mapFields (·.setIfInBounds 0 (rawInt nx)) o).data=.fields #[rawInt nx,.int i 0,.ref a,.int C.size 0,.int F 0]:=by rw[bj h];simp
 show wpAny _ _ (setField (.ref H) 1 (rawInt<|(i:Int)+1)>>=_) _ _ _;refine ae (bZ d c (by simp) ?_);have k:=a9 (Obj.mapFields (·.setIfInBounds 1 (rawInt<|(i:Int)+1))) d (bR<|bj c _);show wpAny _ _ (pure _) _ _ _;exact af ⟨_,rfl,af<|L _ ⟨_,k,(df ..).trans ((df ..).trans D),by rw[bj c];simp[rawInt]⟩<|(bw ..).trans (bw ..)⟩
def Jc{c:Nat}{Q:Option Value->Shared->Prop}(x:A.handled=none)(hit:ml s.heap H (.int c 0) i a C.size F)(u:m5 s.heap a C F t)
    (v:∀(B:Around) (D:jW) (r:Option (Value×Nat)->Shared->Prop),r none s->wpAny (model f w) B (setNext a c i F) r D s)
    (z:∀q,Heap.ExtBut H s.heap q->Q none {s with heap:=q}):wpAny (model f w) A (pyNext<|.ref H) Q E s:=by
 obtain⟨o,l,M,p⟩:=id hit;obtain⟨L,d,y,j,h⟩:=id u;unfold pyNext
 refine ae (dh (bJ (name:=Str.ofString "__next__") hit.typeIs pV
  (bA pV hit.typeIs yq ?_ (xZ _))))
 show wpAny _ _ (fieldsOf (.ref H)>>=_) _ _ s;refine ae (c0 l p ?_);show wpAny _ _ (setEntries a>>=_) _ _ s;refine ae (du d j h ?_);refine aV (λk=>absurd k<|by simp) (λ_=>?_);show wpAny _ _ (setNext a (Int.toNat c) (Int.toNat i) (Int.toNat F)>>=_) _ _ s;rw[bu,bu,bu];refine ae (v _ _ _ ?_);show wpAny _ _ (setField (.ref H) 2 .none>>=_) _ _ s;refine ae (bZ l p (by simp) ?_);show wpAny _ _ (newExc (.type "StopIteration") []>>=_) _ _ _;refine ae ?_;simp only[newExc,newTuple];refine ae (aY ?_ (by size_fits));refine ae (m:=firstArgMember _ _) (gi (a:=Value.none) (by first|rfl|(simp only[firstArgMember];rfl)) ?_);refine aY ?_ (by size_fits);simp only[raiseNew];refine ae (gm ?_);rw[show A.in1.handled=none from x];refine ae (af<|ik ?_);refine ae (d6 (T:="StopIteration") (b:=true) ⟨_,aG _ rfl,rfl⟩ f6 ?_);exact af (z _<|((bw ..).extBut.push _).push _)
def RN{p:Addr}{y:Obj}{x:Array Value}{m q:Nat}{tk:Tok}{e:Int×Value}{Q:Option Value->Shared->Prop}(L:s.heap.get? p=some y)(l:y.data=.seq x m)(hit:ml s.heap H (.ref p) i a C.size F)(z:m5 s.heap a C F t)
    (D:x[i]?=some (.int q tk))(O:C[q]?=some e)
    (U:∀v,ml v H (.ref p) (i+1) a C.size F->Heap.SameBut H s.heap v->Q (some e.2) {s with heap:=v}):wpAny (model f w) A (pyNext<|.ref H) Q E s:=by
 obtain⟨o,u,T,k⟩:=id hit;obtain⟨V,d,M,j,h⟩:=id z;unfold pyNext
 refine ae (dh (bJ (name:=Str.ofString "__next__") hit.typeIs pV
  (bA pV hit.typeIs yq ?_ (xZ _))))
 show wpAny _ _ (fieldsOf (.ref H)>>=_) _ _ s;refine ae (c0 u k ?_);show wpAny _ _ (setEntries a>>=_) _ _ s;refine ae (du d j h ?_);refine aV (λc=>absurd c<|by simp) (λ_=>?_);show wpAny _ _ (seqItems? (.ref p)>>=_) _ _ s;refine ae (eX L l ?_);dsimp only;rw[show(Int.toNat (i:Int))=i from bu i,D];show wpAny _ _ (setNextDrawn a (Int.toNat q) (Int.toNat F)>>=_) _ _ s;rw[bu,bu];refine ae ?_;unfold setNextDrawn;refine ae (bW d j h ?_);dsimp only;refine aV (λc=>absurd c<|by simp) (λ_=>?_);rw[O];refine af ?_;show wpAny _ _ (setField (.ref H) 1 (rawInt<|(i:Int)+1)>>=_) _ _ s;refine ae (bZ u k (by simp) ?_);have r:=a9 (Obj.mapFields (·.setIfInBounds 1 (rawInt<|(i:Int)+1))) u (bR<|bj k _);show wpAny _ _ (pure _) _ _ _;exact af ⟨_,rfl,af<|U _ ⟨_,r,(df ..).trans T,by rw[bj k];simp[rawInt]⟩<|bw ..⟩
def RM{Q:Option Value->Shared->Prop}(D:A.handled=none)(z:s.heap.get? p=some op)(d:op.data=.seq pl m)(hit:ml s.heap H (.ref p) i a C.size F)(x:m5 s.heap a C F t)
 (y:pl[i]?=none)(M:∀v,Heap.ExtBut H s.heap v->Q none {s with heap:=v}):wpAny (model f w) A (pyNext<|.ref H) Q E s:=by
  obtain⟨o,k,U,c⟩:=id hit;obtain⟨O,h,L,q,l⟩:=id x;unfold pyNext
  refine ae (dh (bJ (name:=Str.ofString "__next__") hit.typeIs pV
   (bA pV hit.typeIs yq ?_ (xZ _))))
  show wpAny _ _ (fieldsOf (.ref H)>>=_) _ _ s;refine ae (c0 k c ?_);show wpAny _ _ (setEntries a>>=_) _ _ s;refine ae (du h q l ?_);refine aV (λu=>absurd u<|by simp) (λ_=>?_);show wpAny _ _ (seqItems? (.ref p)>>=_) _ _ s;refine ae (eX z d ?_);dsimp only;rw[show(Int.toNat (i:Int))=i from bu i,y];show wpAny _ _ (setField (.ref H) 0 (rawInt 0)>>=_) _ _ s;refine ae (bZ k c (by simp) ?_);have j:=a9 (Obj.mapFields (·.setIfInBounds 0 (rawInt 0))) k (bR<|bj c _);have r:(Obj.mapFields (·.setIfInBounds 0 (rawInt 0)) o).data=.fields #[rawInt 0,.int i 0,.ref a,.int C.size 0,.int F 0]:=by rw[bj c];simp
  show wpAny _ _ (setField (.ref H) 2 .none>>=_) _ _ _;refine ae (bZ j r (by simp) ?_);show wpAny _ _ (newExc (.type "StopIteration") []>>=_) _ _ _;refine ae ?_;simp only[newExc,newTuple];refine ae (aY ?_ (by size_fits));refine ae (m:=firstArgMember _ _) (gi (a:=Value.none) (by first|rfl|(simp only[firstArgMember];rfl)) ?_);refine aY ?_ (by size_fits);simp only[raiseNew];refine ae (gm ?_);rw[show A.in1.handled=none from D];refine ae (af<|ik ?_);refine ae (d6 (T:="StopIteration") (b:=true) ⟨_,aG _ rfl,rfl⟩ f6 ?_);exact af (M _<|(((bw ..).trans (bw ..)).extBut.push _).push _)
end
def LN:Slot "set_iterator" "__iter__" "set_iterator.__iter__":=
 .of (owner:="set_iterator") (n:="__iter__") (by rw[hK,fA];kernel_rfl) (by decide+kernel) (by decide+kernel) (by decide+kernel)
  (by first|exact .inl (by decide+kernel)|exact .inr (by decide+kernel)) (by rw[ir];kernel_rfl)
def Pn:entryFor table "set_iterator.__iter__"=some Builtin.«dict_keyiterator.__iter__»:=
 entryFor_alias (id':="dict_keyiterator.__iter__") (by kernel_rfl) rfl (by decide+kernel) (by kernel_rfl)
def NW(a):argsOk "set_iterator.__iter__" ⟨[a],[]⟩:=by unfold argsOk;rw[signature?_of (id:="set_iterator.__iter__") (n:=['_','_','r','e','t','i','_','_']) (o:=['r','o','t','a','r','e','t','i','_','t','e','s']) (by kernel_rfl) Kv];kernel_rfl
def Cd{w}{s:Shared}{n}{Q:jW}(hit:ml s.heap it first i a n ep)(h:Q (.ref it) s):wpAny (model prog w) A (pyIter<|.ref it) Q E s:=by refine eR hit.typeIs LN (bA LN hit.typeIs Pn ?_ (NW _));show wpAny _ _ (ret<|.ref it) _ _ s;exact af ⟨_,rfl,"set_iterator",_,hit.typeIs,pV.lookup,h⟩
theorem KR{h:Type}(f):∀a k (left:List h) out,left.length=a->(pickOrder.go f a k left out).toList.Perm (out.toList++left)
 |0,k,left,out,d=>by have e:left=[]:=gI.mp d;subst e;show out.toList.Perm (out.toList++[]);rw[bg]
 |a+1,k,left,out,d=>by unfold pickOrder.go;have c:f k%left.length<left.length:=eJ _ (by omega);rw[ao c];dsimp only;refine(KR f a (k+1) _ _<|by rw[iu,av c];omega).trans ?_;rw[Array.toList_push,bO];exact List.Perm.append_left _ (Dp left _ c)
def Dq{c:Type}(f:Nat->Nat)(a:Array c):(pickOrder f a).toList.Perm a.toList:=by have:=KR f a.size 0 a.toList #[] (by simp);simpa [pickOrder]using this
def slotAt(place:Array Nat)(i:Nat):Nat:=if i=0 then 0 else place.getD (i - 1) 0+1
def GF{place}(h:ma place):∀i,i<=place.size->SetTable.below place (slotAt place i)=i
 |0,_=>N4 h
 |i+1,a=>by
  have e:slotAt place (i+1)=place[i]+1:=by unfold slotAt;rw[aw<|by omega,f3];simp[Array.getD,show i<place.size by omega]
  rw[e];exact N3 h (by omega)
section
variable{f:Program}{w:World}{A:Around}{E:jW}{s:Shared}{a:Addr}{C:Nat}{c:Array<|Int×Value}{t:SetTable}
def Mr(F:A.handled=none)(d:w.params.followText "set-order"=false)(I)(ne:a≠I)(k:ma t.place)(L:t.place.size=c.size)(n:(!t.plain&&decide (c.size>1))=false)(j:t.led=true):
    Walks f w A I [I,a] [I] c.size (λi v=>(c.toList.map Prod.snd)[i]?=some v) (λi h=>ml h I (.int (slotAt t.place i) 0) i a c.size C/\m5 h a c C t) where
 sub:=λb d=>by simp at d;simp[d]
 frame:=λ_ _ _ st z=>⟨st.1.at' λo e=>z I (by simp) o e,st.2.at' λo e=>z a (by simp) o e⟩
 item:=λi s Q E D st p=>by
  have y:i<t.place.size:=by omega
  refine Je (slot:=slotAt t.place i) (nx:=slotAt t.place<|i+1) (x:=c[i].2) st.1 st.2 (λB J G q=>LH d st.2 n j ?_) λu m l=>?_
  ·rw[GF k i<|by omega,aJ D,aJ y];have e:slotAt t.place (i+1)=t.place[i]+1:=by
    unfold slotAt;rw[aw<|by omega,f3];simp[Array.getD,y]
   rw[e]at q;exact q
  ·exact p _ u s.toks (by rw[aA,bc,aJ D];rfl) ⟨m,st.2.at' λo e=>l.extBut a o ne e⟩ λb o d e=>l.extBut b o (λh=>d<|by simp[h]) e
 done:=λs Q E st p=>by refine Jc F st.1 st.2 (λB J G q=>LH d st.2 n j ?_) λu r=>p u s.toks λb o d e=>r b o (λh=>d<|by simp[h]) e;rw[GF k c.size<|by omega,cF<|ah _];exact q
 self:=λi s Q E st p=>Cd st.1 p
def ack(y:A.handled=none)(d:w.params.followText "set-order"=true)(I:Addr)(ne:a≠I):
    Walks f w A I [I,a] [I] c.size (λi v=>((pickOrder (w.params.setOrder a C) c).toList.map Prod.snd)[i]?=some v) (λi h=>ml h I (.int (0:Nat) 0) i a c.size C/\m5 h a c C t) where
 sub:=λb d=>by simp at d;simp[d]
 frame:=λ_ _ _ st u=>⟨st.1.at' λo e=>u I (by simp) o e,st.2.at' λo e=>u a (by simp) o e⟩
 item:=λi s Q E F st l=>by
  have m:(pickOrder (w.params.setOrder a C) c).size=c.size:=by have:=(Dq (w.params.setOrder a C) c).length_eq;simpa using this
  have r:i<(pickOrder (w.params.setOrder a C) c).size:=by omega
  refine Je (slot:=0) (nx:=0) (x:=(pickOrder (w.params.setOrder a C) c)[i].2) st.1 st.2 (λB D z q=>LI d st.2 ?_) λp k j=>?_
  ·rw[aJ r];exact q
  ·exact l _ p s.toks (by rw[aA,bc,aJ r];rfl) ⟨k,st.2.at' λo e=>j.extBut a o ne e⟩ λb o d e=>j.extBut b o (λh=>d<|by simp[h]) e
 done:=λs Q E st l=>by
  have m:(pickOrder (w.params.setOrder a C) c).size=c.size:=by have:=(Dq (w.params.setOrder a C) c).length_eq;simpa using this
  refine Jc y st.1 st.2 (λB D z q=>LI d st.2 ?_) λp n=>l p s.toks λb o d e=>n b o (λh=>d<|by simp[h]) e;rw[cF<|by omega];exact q
 self:=λi s Q E st l=>Cd st.1 l
def acj(T:A.handled=none)(I p)(ne:a≠I)(R:p≠I){d:List Nat}(k:d.Perm<|List.range c.size):
    Walks f w A I [I,a,p] [I] c.size (λi v=>(d.map λq=>(c.getD q (0,.none)).2)[i]?=some v) (λi h=>ml h I (.ref p) i a c.size C/\m5 h a c C t/\∃j m,h.get? p=some j/\j.data=.seq (d.map λ(i:Nat)=>rawInt i).toArray m) where
 sub:=λb r=>by simp at r;simp[r]
 frame:=λ_ _ _ st G=>⟨st.1.at' λo e=>G I (by simp) o e,st.2.1.at' λo e=>G a (by simp) o e,let⟨j,m,x,u⟩:=st.2.2;⟨j,m,G p (by simp) j x,u⟩⟩
 item:=λi s Q E U st z=>by
  obtain⟨F,D,j,m,x,u⟩:=st;have O:d.length=c.size:=by have:=k.length_eq;simpa using this
  have n:i<d.length:=by omega
  have M:d[i]<c.size:=by have:=k.mem_iff.mp (b9 n);simpa using this
  refine RN (q:=d[i]) (tk:=0) (e:=c[d[i]]) x u F D (by simp[n,rawInt]) (aJ M) λL y l=>?_;exact z _ L s.toks (by rw[aA,ao n];simp[Array.getD,M]) ⟨y,D.at' λo e=>l.extBut a o ne e,j,m,l.extBut p j R x,u⟩ λb o r e=>l.extBut b o (λh=>r<|by simp[h]) e
 done:=λs Q E st z=>by
  obtain⟨F,D,j,m,x,u⟩:=st;have O:d.length=c.size:=by have:=k.length_eq;simpa using this
  exact RM T x u F D (by simp[O]) λL J=>z L s.toks λb o r e=>J b o (λh=>r<|by simp[h]) e
 self:=λi s Q E st z=>Cd st.1 z
def WE{h:List Nat}(d:h.Perm<|List.range c.size):(h.map λq=>(c.getD q (0,.none)).2).Perm (c.toList.map Prod.snd):=by
 refine(d.map _).trans ?_;have:(List.range c.size).map (λq=>(c.getD q (0,.none)).2)=c.toList.map Prod.snd:=by
  apply gC;·simp
  ·intro i j k;have:i<c.size:=by simpa using j
   simp[Array.getD,this]
 rw[this]
def aaT{Q:jW}(hr:m5 s.heap a c C t)(tok:nY (w.params.followText "set-order") t)(hn:c.size<=sizeLine)
    (V:∀(Y:Heap) (d:Drawn) (J:Addr) (fp:List Addr) (I:List Value) (St:Nat->Heap->Prop),J∈fp->s.heap.objs.size<=J->(∀b∈fp,(b=a\/s.heap.objs.size<=b)/\b<Y.objs.size)->I.Perm (c.toList.map Prod.snd)->
      (∀B:Around,B.handled=none->Walks f w B J fp [J] c.size (λi v=>I[i]?=some v) St)->St 0 Y->(∀b o,s.heap.get? b=some o->Y.get? b=some o)->Q (.ref J) {s with heap:=Y,drawn:=d}):
    wpAny (model f w) A (pyIter<|.ref a) Q E s:=by
 obtain⟨o,F,hex,U,hf⟩:=id hr;have hT:s.TypeIs (.ref a) "set":=⟨o,F,hex.1⟩;have l:a<s.heap.objs.size:=Heap.lt_size F;have L:t.place.size=c.size:=by simp only[SetTable.fits,aS,dR]at hf;exact hf.1
 refine eR hT hY (bA hY hT Pm ?_ (PySem.F.args_set_iter_1 _));unfold Builtin.«frozenset.__iter__»;refine ae (m:=Builtin.Frozenset.slot0 _ _) (af ?_);refine ae ?_;unfold Builtin.Frozenset.sizeOf;refine ae (du F U hf<|af ?_);refine ae ?_;unfold setDrawn;refine ae (bW F U hf ?_);dsimp only;refine ae (Ah<|af ?_);have n:∀(h:(!(w.params.followText "set-order")&&(!t.plain&&decide (c.size>1)))=false),wpAny (model f w) A.in1 (setEpoch a>>=λe=>newFields "set_iterator" [rawInt 0,rawInt 0,.ref a,rawInt c.size,rawInt e]>>=λv=>ret v) (λfin s'=>∃v,fin=.done (.ret v)/\∃T,∃x,s'.TypeIs v T/\typeLookup (.type T) "__next__"=pure (some x)/\Q v s') E s:=λh=>by
  refine ae (wpAny_setEpoch_of F U hf ?_);refine ae (aY ?_);have hit:ml (s.heap.push {cls:=.type "set_iterator",data:=.fields [rawInt 0,rawInt 0,.ref a,rawInt c.size,rawInt C].toArray}) s.heap.objs.size (.int (0:Nat) 0) 0 a c.size C:=⟨_,aG _ rfl,rfl,rfl⟩;refine af ⟨_,rfl,"set_iterator",_,ml.typeIs (s:={s with heap:=_}) hit,pV.lookup,?_⟩;have ne:a≠s.heap.objs.size:=aR l;have q:m5 (s.heap.push {cls:=.type "set_iterator",data:=.fields [rawInt 0,rawInt 0,.ref a,rawInt c.size,rawInt C].toArray}) a c C t:=hr.at' λo e=>ag _ e;have z:∀b∈[s.heap.objs.size,a],(b=a\/s.heap.objs.size<=b)/\b<(s.heap.push {cls:=.type "set_iterator",data:=.fields [rawInt 0,rawInt 0,.ref a,rawInt c.size,rawInt C].toArray}).objs.size:=λb j=>by
   rw[bY];rcases aE.mp j with rfl|j;·exact⟨.inr<|ah _,b8 _⟩
   ·rw[aM.mp j];exact⟨.inl rfl,bN l⟩
  cases j:w.params.followText "set-order" with
  |true=>exact V _ s.drawn _ _ _ _ (.head _) (ah _) z ((Dq (w.params.setOrder a C) c).map _) (λB u=>ack u j _ ne) ⟨hit,q⟩ λb o e=>ag _ e
  |false=>
   rw[j]at h;have G:t.led=true:=by rw[tok.led,j];rfl
   by_cases R:t.plain=true;·exact V _ s.drawn _ _ _ _ (.head _) (ah _) z (.refl _) (λB u=>Mr (t:=t) u j _ ne (tok.pQ R) L (by simpa using h) G) ⟨hit,q⟩ λb o e=>ag _ e
   ·have h1:c.size<=1:=by
     have Q6:t.plain=false:=by simpa using R
     rw[Q6]at h;simpa using h
    have Z:ma t.place:=by
     unfold ma;match hx:t.place.toList with
     |[]=>exact .nil
     |[x]=>exact gA _ _
     |x::y::r=>have:=bG List.length hx;rw[aC]at this;simp at this;omega
    exact V _ s.drawn _ _ _ _ (.head _) (ah _) z (.refl _) (λB u=>Mr (t:=t) u j _ ne Z L (by simpa using h) G) ⟨hit,q⟩ λb o e=>ag _ e
 refine aV (λO=>?_) (λO=>?_)
 ·refine ae (Mt c.size (List.range c.size) (by simp) λD d p=>?_);have hl:D.length=c.size:=by have:=p.length_eq;simpa using this
  refine ae (wpAny_newTuple ?_ (by rw[ai,hl];exact hn));have wc:(s.heap.push<|seqObj "tuple" (D.map λ(i:Nat)=>rawInt i).toArray 0).get? a=some o:=ag _ F;refine ae (wpAny_setEpoch_of (s:={s with heap:=s.heap.push<|seqObj "tuple" (D.map λ(i:Nat)=>rawInt i).toArray 0,drawn:=d}) wc U hf ?_);refine ae (aY ?_);have k:(s.heap.push<|seqObj "tuple" (D.map λ(i:Nat)=>rawInt i).toArray 0).objs.size=s.heap.objs.size+1:=size_push' ..;generalize hg:s.heap.push (seqObj "tuple" (D.map λ(i:Nat)=>rawInt i).toArray 0)=g at*;have R:g.get? s.heap.objs.size=some (seqObj "tuple" (D.map λ(i:Nat)=>rawInt i).toArray 0):=by rw[<-hg];exact aG _ rfl
  have kp:∀b o,s.heap.get? b=some o->g.get? b=some o:=λb o e=>by rw[<-hg];exact ag _ e
  have hit:ml (g.push {cls:=.type "set_iterator",data:=.fields [.ref s.heap.objs.size,rawInt 0,.ref a,rawInt c.size,rawInt C].toArray}) g.objs.size (.ref s.heap.objs.size) 0 a c.size C:=⟨_,aG _ rfl,rfl,rfl⟩;refine af ⟨_,rfl,"set_iterator",_,ml.typeIs (s:={s with heap:=_,drawn:=d}) hit,pV.lookup,?_⟩;refine V _ d g.objs.size [g.objs.size,a,s.heap.objs.size] _ _ (.head _) (by rw[k];exact cP _) (λb j=>?_) (WE p) (λB u=>acj u _ _ (by rw[k];exact aR (bN l)) (by rw[k];exact aR (b8 _)) p) ⟨hit,hr.at' λo e=>ag _ (kp a o e),_,0,ag _ R,rfl⟩ λb o e=>ag _ (kp b o e);rw[bY,k];simp only[aE,bU,dU]at j;rcases j with rfl|rfl|rfl;·rw[k];exact⟨.inr<|cP _,b8 _⟩
  ·exact⟨.inl rfl,bN<|bN l⟩
  ·exact⟨.inr<|ah _,bN<|b8 _⟩
 ·have M:(!(w.params.followText "set-order")&&(!t.plain&&decide (c.size>1)))=false:=Bool.eq_false_iff.mpr O;exact ae (af<|n M)
def A8:bootBuiltins "set"=some (.type "set"):=by decide+kernel
def aaS{Q:Bool->Shared->Prop}(hT:s.TypeIs (.ref r) "set")(h:Q false s):wpAny (model f w) A (Builtin.List.listLengthHint<|.ref r) Q E s:=by
 unfold Builtin.List.listLengthHint;refine ae (hD hT PySem.F.slot_set_len.lookup ?_);generalize i:("set.__len__":String)=Rv
 wp_delta
 rw[show splitId Rv=some ("set","__len__")from by subst i;decide+kernel];subst i;refine ae (d6 (T:="set") (b:=true) hT (by rw[ir];kernel_rfl) ?_);refine aV (λd=>absurd d<|by decide) (λ_=>?_);refine aV (λ_=>?_) (λd=>absurd (by decide+kernel) d);refine ae (dZ hT ?_);exact af h
def LJ{Q:List Value->Shared->Prop}(hh:A.handled=none)(hr:m5 s.heap a c C t)(tok:nY (w.params.followText "set-order") t)(hn:c.size<=sizeLine)
 (hQ:∀(h':Heap) tk d (us:List Value),us.Perm (c.toList.map Prod.snd)->(∀b o,s.heap.get? b=some o->h'.get? b=some o)->s.heap.objs.size<=h'.objs.size->Q us {s with heap:=h',toks:=tk,drawn:=d}):wpAny (model f w) A (collect<|.ref a) Q E s:=by
  obtain⟨o,ho,G,hd,hf⟩:=id hr;have D:a<s.heap.objs.size:=Heap.lt_size ho;unfold collect;refine ae (iq<|b7 PySem.F.entry_proto_collect ?_);rw[bX PySem.F.plain_proto_collect _];show wpAny _ A.in1 (newList []>>=λl=>again<|.builtin "list.__iadd__" ⟨[l,.ref a],[]⟩) _ _ s;refine ae (aY ?_);refine af ⟨dJ gJ _,b7 PySem.F.entry_list_iadd ?_⟩;rw[bX gJ _];show wpAny _ A.in1 (Builtin.List.listExtendWith (.ref s.heap.objs.size) (.ref a)<|.ref s.heap.objs.size) _ _ _;have v:(s.heap.push {cls:=.type "list",data:=.seq ([]:List Value).toArray}).get? s.heap.objs.size=some {cls:=.type "list",data:=.seq #[]}:=aG _ rfl;have x:(s.heap.push {cls:=.type "list",data:=.seq ([]:List Value).toArray}).objs.size=s.heap.objs.size+1:=bY ..;have L:∀b o,s.heap.get? b=some o->(s.heap.push {cls:=.type "list",data:=.seq ([]:List Value).toArray}).get? b=some o:=λb o e=>ag _ e;generalize s.heap.push {cls:=.type "list",data:=.seq ([]:List Value).toArray}=g at*;have Ra:m5 g a c C t:=hr.at' λo e=>L a o e;have Qo:Shared.TypeIs {s with heap:=g} (.ref a) "set":=⟨o,L a o ho,G.1⟩;unfold Builtin.List.listExtendWith;refine ae (dZ (T:="set") Qo ?_);have h1:Builtin.List.listSameRef (.ref s.heap.objs.size) (.ref a)=false:=by simp[Builtin.List.listSameRef,da D]
  rw[aw<|by rw[h1];decide];refine ae (aaT (s:={s with heap:=g}) Ra tok hn λR d it fp r St adj QG hfp q W V Z=>?_);have p:=Z _ _ v;have I:s.heap.objs.size∉fp:=λM=>by
   rcases(hfp _ M).1 with z|z;·exact absurd z (da D)
   ·exact absurd (show g.objs.size<=s.heap.objs.size from z) (by rw[x];exact Nat.not_succ_le_self _)
  have Qp:Shared.TypeIs {s with heap:=R,drawn:=d} (.ref a) "set":=⟨o,Z a o<|L a o ho,G.1⟩;refine ae (bD<|aaS Qp ?_);refine aV (λ_=>?_) (λv8=>absurd (by decide) v8);refine ae (gM ?_);refine ae ?_;show wpAny _ _ (updateSeq s.heap.objs.size (·.push .none)>>=λ_=>updateSeq s.heap.objs.size (·.pop)) _ _ _;refine ae (wpAny_updateSeq p rfl ?_);have n:=a9 (Obj.mapSeq (·.push Value.none)) p rfl;refine wpAny_updateSeq (hz:=by seq_fits) n rfl ?_;have u:=a9 (Obj.mapSeq (·.pop)) n rfl
  have y:∀b o,b≠s.heap.objs.size->R.get? b=some o->((R.update s.heap.objs.size (Obj.mapSeq (·.push Value.none))).update s.heap.objs.size (Obj.mapSeq (·.pop))).get? b=some o:=
   λb o O e=>(bM _ _<|bV O).trans ((bM _ _<|bV O).trans e)
  have W1:=W A.in1 hh;have U:St 0 ((R.update s.heap.objs.size (Obj.mapSeq (·.push Value.none))).update s.heap.objs.size (Obj.mapSeq (·.pop))):=W1.frame 0 _ _ V λb O o e=>y b o (λh=>I<|h▸O) e;refine af ⟨dJ PySem.F.plain_extend_loop _,codeAny_extend_loopS W1.toS hn _ I _ c.size 0 _ #[] _ rfl (bQ _) U u (ItemsOf.nil _) λY i c' M J m=>?_⟩;show wpAny _ A (load s.heap.objs.size>>=_) _ _ Y;refine ae (wpAny_load J ?_);show wpAny _ _ (pure i.toList) _ _ _;have lp:r.length=c.size:=by have:=q.length_eq;simpa using this
  have ea:i.toList=r:=by
   apply List.ext_getElem?;intro j;rw[bc];by_cases hj:j<c.size
   ·have h3:j<i.size:=by rw[m.1];exact hj
    rw[m.2 j i[j] (by simp[h3])];simp[h3]
   ·rw[cF<|by rw[m.1];omega,fm<|by omega]
  rw[ea];rw[Moved.eq_with M];refine af (hQ Y.heap Y.toks d r q (λb o e=>M.heap b o (λk=>?_)<|y b o (aR<|Heap.lt_size e)<|Z b o<|L b o e)<|cO<|Heap.lt_size J);rcases aE.mp k with e'|k;·exact absurd (Heap.lt_size e) (by rw[e'];exact cM _)
  ·have e2:=aM.mp k;have F:g.objs.size<=it:=QG;exact absurd (Heap.lt_size e) (by rw[e2];exact Nat.not_lt.mpr (aU (by rw[x];exact cP _) F))
def LU{Gd:List Value->Prop}{G:Array Value->Prop}{Q:jW}(J:A.handled=none)
 (r:∀(B:Around) (z:List Value->Shared->Prop),B.handled=none->(∀j tk d h,Gd h->(∀b o,s.heap.get? b=some o->j.get? b=some o)->s.heap.objs.size<=j.objs.size->z h {s with heap:=j,toks:=tk,drawn:=d})->wpAny (model f w) B (collect<|.ref l) z E s)
 (D:∀h,Gd h->h.length<=sizeLine)(T:∀h,Gd h->h.length<2->G h.toArray)
 (R:∀h,Gd h->2<=h.length->∀t:Shared,(∀b o,s.heap.get? b=some o->t.heap.get? b=some o)->xN f w G h t)
 (k:∀(out:Array Value) p (j:Heap) tk e d,out.size<=sizeLine->G out->s.heap.objs.size<=p->(∀b o,s.heap.get? b=some o->j.get? b=some o)->j.get? p=some (seqObj "list" out e)->Q (.ref p) {s with heap:=j,toks:=tk,drawn:=d}):wpAny (model f w) A (call (.builtin "sorted") [.ref l]) Q E s:=by
  refine call_function_entry kind_sorted plain_sorted entry_sorted (args_sorted1 _) ?_;unfold Builtin.«sorted»;refine ae (m:=checkCount "sorted" 1 1 _) (af ?_);apply ae;refine r _ _ J λg tk d h x v n=>?_;have i:=D h x;apply ae;refine wpAny_newList ?_ i;have here:(g.push<|seqObj "list" h.toArray 0).get? g.objs.size=some (seqObj "list" h.toArray 0):=aG _ rfl
  have kp:∀b o,s.heap.get? b=some o->b≠g.objs.size/\(g.push<|seqObj "list" h.toArray 0).get? b=some o:=λb o q=>⟨aR<|aH (Heap.lt_size q) n,ag _<|v b o q⟩
  refine ae (bD<|bA slot_list_sort ⟨_,here,rfl⟩ entry_list_sort (LV (s:={s with heap:=g.push<|seqObj "list" h.toArray 0,toks:=tk,drawn:=d}) here i (T h x) (λO t F=>R h x O t λb o q=>F b o (kp b o q).1 (kp b o q).2) λout I M=>⟨_,rfl,?_⟩)<|args_list_sort _);refine af ⟨_,rfl,?_⟩;have U:=get?_update_seq here (λ_=>(#[]:Array Value));have u:∀b o,b≠g.objs.size->(g.push<|seqObj "list" h.toArray 0).get? b=some o->(sortedHeap (g.push<|seqObj "list" h.toArray 0) g.objs.size h out).get? b=some o:=λb o y q=>by show((((((g.push<|seqObj "list" h.toArray 0).update g.objs.size (Obj.mapSeq λ_=>(#[]:Array Value))).push (seqObj "tuple" h.toArray 0)).push (seqObj "list" #[] 0)).update g.objs.size (Obj.mapSeq λ_=>out))).get? b=some o;rw[ec _ _ _ _ y];refine ag _ (ag _ ?_);rw[ec _ _ _ _ y];exact q
  have new:∃e,(sortedHeap (g.push<|seqObj "list" h.toArray 0) g.objs.size h out).get? g.objs.size=some (seqObj "list" out e):=by exact⟨_,get?_update_seq (ag (seqObj "list" #[] 0)<|ag (seqObj "tuple" h.toArray 0) U)<|λ_=>out⟩
  obtain⟨e,L⟩:=new;exact k out g.objs.size _ tk e d (by rw[I];exact i) M n (λb o q=>u b o (kp b o q).1 (kp b o q).2) L
end
def dd:List Key->List Key
 |[]=>[]
 |k::r=>if(r.any λj=>decide<|j=k)=true then dd r else k::dd r
def Gm{k}{r:List Key}:(r.any λj=>decide<|j=k)=true↔k∈r:=by rw[dy];exact⟨λ⟨x,a,e⟩=>by rw[<-cb e];exact a,λh=>⟨k,h,aO rfl⟩⟩
theorem tr(x):∀a:List Key,x∈dd a↔x∈a
 |[]=>Iff.rfl
 |k::r=>by
  unfold dd;by_cases h:(r.any λj=>decide<|j=k)=true
  ·rw[av h,tr x r,aE];exact⟨.inr,λz=>z.elim (λz=>by rw[z];exact Gm.mp h) id⟩
  ·rw[aw h,aE,aE,tr x r]
theorem CD:∀a:List Key,(dd a).Nodup
 |[]=>.nil
 |k::r=>by
  unfold dd;by_cases h:(r.any λj=>decide<|j=k)=true;·rw[av h];exact CD r
  ·rw[aw h];exact bB.mpr ⟨λz=>h<|Gm.mpr<|(tr k r).mp z,CD r⟩
theorem JD:∀a:List Key,(dd a).length<=a.length
 |[]=>ah _
 |k::r=>by
  have d:=JD r;have c:(k::r).length=r.length+1:=rfl;unfold dd;split;·omega
  ·rw[aj];omega
theorem wJ{i:Type}[DecidableEq i]:∀{d c:List i},d.Nodup->c.Nodup->(∀x,x∈d↔x∈c)->d.Perm c
 |[],c,_,_,h=>by
  cases c with
  |nil=>exact .refl _
  |cons y r=>exact absurd ((h y).mpr (.head _)) (by simp)
 |a::l,c,o,j,h=>by
  have p:=(h a).mp (.head _);obtain⟨n,m⟩:=bB.mp o;refine(List.Perm.cons a<|wJ m (j.erase a) λx=>?_).trans (iw p).symm;rw[j.mem_erase_iff];constructor
  ·intro k;exact⟨λe=>n<|by rw[<-e];exact k,(h x).mp (.tail _ k)⟩
  ·rintro ⟨t,q⟩
   rcases aE.mp ((h x).mpr q)with e|e;·exact absurd e t
   ·exact e
def vD(v:Value):D:=kD (vK v)
def PK(h:qj v):qL hp v (vD v):=by
 unfold qj at h;cases v with
 |int i t=>rfl
 |str x t=>rfl
 |_=>obtain⟨t,e⟩:=(show∃t,_=Value.int 0 t from h);cases e
theorem Jf:∀a:List Value,(∀v∈a,qj v)->mm h a (a.map vD)
 |[],_=>.nil
 |u::a,H=>.cons (PK<|H u<|.head _) (Jf a λv hv=>H v<|.tail _ hv)
theorem ER:∀a:List Value,(∀v∈a,qj v)->Vals ((a.map vK).map kV) a
 |[],_=>.nil
 |u::a,H=>.cons (H u<|.head _) (ER a λv hv=>H v<|.tail _ hv)
def Si{d k}(h:oQ d=some k):kD k=d:=by
 cases d with
 |int i=>cases h;rfl
 |str x=>cases h;rfl
 |_=>cases h
theorem Ci:∀{c} {a},kS c=some a->a.map kD=c
 |[],_,h=>by cases h;rfl
 |d::r,_,h=>by obtain⟨k,l,j⟩:=aL.mp h;obtain⟨a,i,rfl⟩:=aF.mp j;rw[aT,Si l,Ci i]
def IQ(h:∀d∈ds,ki d=some sg):mi ds=true:=by
 cases ds with
 |nil=>rfl
 |cons d r=>show((ki d).isSome&&r.all λe=>ki e==ki d)=true;rw[h d<|.head _,aS];exact⟨rfl,cK.mpr λe a=>by rw[h e<|.tail _ a];simp⟩
def z5{i:List D}(h:i.Perm es)(a:∀d∈es,ki d=some sg):ky i=ky es:=
 DB ((mV _).trans (h.trans (mV _).symm)) (λd c=>a d<|h.mem_iff.mp<|(mV _).mem_iff.mp c) (uX λd c=>a d<|h.mem_iff.mp c) (uX a)
def LQ{a:List D}(h:a.length<2):ky a=a:=by
 match a,h with
 |[],_=>rfl
 |[d],_=>rfl
 |_::_::r,w=>simp at w;omega
def nQ:D->R (List D)
 |.lst ds=>match kS ds with
  |some a=>if mi ds=true/\ds.length<64 then .ok (ky<|(dd a).map kD)else .bad
  |none=>.bad
 |_=>.bad
variable{X:Cx}{E:XK}{e:Expr}{Y:TE}{f:jw}{U O N M:Pos}
def Wz(hc:X.calm=true)(he:PE X e Y)(hg:Gl X "sorted")(hm:X.mg "sorted"=none)(hg2:Gl X "set")(hm2:X.mg "set"=none)
 (hs:X.se e [])(hpl:X.bk M [])
 (hs2:starEach [.Call (.Name "set" O) [e] [] M] X.env=(false,eval (.Call (.Name "set" O) [e] [] M) X.env)::starEach [] X.env)(BR:X.bk N []):
   PE X (.Call (.Name "sorted" U) [.Call (.Name "set" O) [e] [] M] [] N) (λσ H Q=>Y σ H λx0 c=>∃x,[x0]=[x]/\∃l Z y al ks,x=.ref l/\k7 X.K c l Z/\jb X.K al c Z y/\kS y=some ks/\mi y=true/\y.length<64/\∀p j,c p=none->jb X.K al c j (ky<|(dd ks).map kD)->Q (.ref p) (upd c p<|.lst j)):=by
  intro m s σ H Q I h;refine bP (pH I hg hm A9 ?_ (by decide) (by decide));refine cg ?_ hs2 BR;rw[hs2];show wpAny _ _ (spliced<|(false,eval (.Call (.Name "set" O) [e] [] M) X.env)::backTo N (starEach [] X.env)) _ _ s;refine cI ?_;refine bP (pH I hg2 hm2 A8 ?_ (by decide) (by decide));have sy:PA X [e] (xb Y xc):=q8 he rf hs;refine cE (ji (sy M m s σ H (λxi c=>∃x,xi=[x]/\∃(l:Addr) (Z:List V) (y:List D) (al:Addr->Prop) (ks:List Key),x=.ref l/\k7 X.K c l Z/\jb X.K al c Z y/\kS y=some ks/\mi y=true/\y.length<64/\∀p j,c p=none->jb X.K al c j (ky<|(dd ks).map kD)->Q (.ref p) (upd c p<|.lst j)) I h) λa s1 nu=>?_) hs hpl;obtain⟨xi,c,I1,r1,q1⟩:=nu;obtain⟨x,rfl,l,Z,y,al,ks,rfl,hl,rv,hk,hh,BC,q⟩:=q1;obtain⟨u,rfl,ru⟩:=vals1 r1;obtain rfl:u=Value.ref l:=ru;obtain⟨L,vv,pl,hz⟩:=I1.list hl;have ev:=uC rv hk;subst ev;have uq:=Ci hk;obtain⟨sg,BS⟩:=yW hh;have Jy:y.length=ks.length:=by rw[<-uq,ai]
  have lits:L.length=ks.length:=by have:=vv.length;rw[ai]at this;exact this.symm
  have sb:scanBound=4096:=rfl;refine Oi (A:=X.A) (items:=L.toArray) (ks:=ks) (I1.ok.hd hc) pl.isList (by simpa using vv) (by rw[aN];omega) λh' tk js SV mem ext=>?_;have ext':∀b o,s1.heap.get? b=some o->h'.get? b=some o:=λb o e=>ext b o (Heap.lt_size e) e;have I2:Inv X m σ c {s1 with heap:=h',toks:=tk}:=I1.kept (t':=tk) ext';refine dc ?_;obtain⟨o,es,ep,t,ho,hex,hd,el,hn,hf,tok,pK,BP⟩:=SV;have J:(pG es.toList).Perm (dd ks):=wJ pK (CD ks) λx=>by rw[BP x,mem x,tr]
  have R:∀d∈(dd ks).map kD,ki d=some sg:=λd hd=>by obtain⟨k,wb,rfl⟩:=az.mp hd;exact BS _ (by rw[<-uq];exact az.mpr ⟨k,(tr k ks).mp wb,rfl⟩)
  have sl:=dB;have yV:es.size<=L.length:=by simpa using hn
  have n:∀a:List Value,a.Perm (es.toList.map Prod.snd)->(∀v∈a,qj v)/\(a.map vD).Perm ((dd ks).map kD)/\a.length<64:=λa z=>by
   have fl:∀v∈a,qj v:=λv hv=>by obtain⟨e,he,rfl⟩:=az.mp (z.mem_iff.mp hv);exact(el e he).1
   have U:(a.map vK).Perm (dd ks):=by have:=z.map vK;rw[aX]at this;exact this.trans J
   refine⟨fl,?_,?_⟩
   ·have:=U.map kD;rw[aX]at this;exact this
   ·have:=U.length_eq;rw[ai]at this;have:=JD ks;omega
  refine LU (A:=X.A) (s:={s1 with heap:=h',toks:=tk}) (Gd:=λa=>a.Perm<|es.toList.map Prod.snd) (G:=λout=>∃j,Vals j out.toList/\jb X.K al c j (ky<|(dd ks).map kD)) (I2.ok.hd hc)
   (λB Q' hB hq=>LJ hB ⟨o,ho,hex,hd,hf⟩ tok (by omega) λh2 tJ d a z e2 s2=>hq h2 tJ d a z e2 s2)
   (λa z=>by have:=(n a z).2.2;omega) (λa z h2=>?_) (λa z h2 t' kp B=>?_) λout p h3 xh Bp d Rn hG C wm BI=>?_
  ·obtain⟨fl,pm,_⟩:=n a z;refine⟨(a.map vK).map kV,by simpa using ER a fl,?_⟩;rw[<-z5 pm R,LQ (by rw[ai];exact h2)];have:=wR (K:=X.K) (al:=al) (H:=c) (a.map vK);rw[aX (f:=vK) (g:=kD)]at this;exact this
  ·obtain⟨fl,pm,Co⟩:=n a z;have Ek:∀d∈a.map vD,ki d=some sg:=λd hd=>R d (pm.mem_iff.mp hd);have:=EB (prog:=X.prog) (w:=X.w) (s:=t') (Jf a fl) (IQ Ek) h2 Co B;refine bp this (λκ t1 hk=>⟨hk.1,bp hk.2 (λr t2 hr=>⟨hr.1,hr.2.1,hr.2.2.1,?_⟩) λ_ _ x=>x⟩) λ_ _ x=>x;obtain⟨pp,g1,g2,g3⟩:=hr.2.2.2;have T:=BV g1;rw[ai]at T;have fo:∀v∈outs a pp,qj v:=λv hv=>by
    unfold outs at hv;obtain⟨i,hi,rfl⟩:=az.mp hv;have F:=T i hi;rw[aQ,ao F,fE];exact fl _ (b9 F)
   refine⟨((outs a pp).map vK).map kV,by rw[g2];exact ER _ fo,?_⟩;rw[<-z5 pm R,<-g3];have e9:(outs a pp).map vD=outD (a.map vD) pp:=by unfold outs outD;rw[aX];refine cm λi hi=>?_;have F:=T i hi;show vD (a.getD i .none)=(a.map vD).getD i .non;rw[aQ,aQ,aA,ao F];rfl
   rw[<-e9];have:=wR (K:=X.K) (al:=al) (H:=c) ((outs a pp).map vK);rw[aX (f:=vK) (g:=kD)]at this;exact this
  ·obtain⟨j,hw,hr⟩:=hG;have lw:j.length<=sizeLine:=by
    have:=hw.length;simp only[aC]at this;omega
   have new:kz X.prog X.w (upd c p<|.lst j) h3 p (.lst j):=⟨lw,out.toList,Bp,hw,by rw[fL];exact BI⟩
   have I3:Inv X m σ (upd c p<|.lst j) {s1 with heap:=h3,toks:=xh,drawn:=d}:=
    Inv.call (s:={s1 with heap:=h',toks:=tk}) (g':=s1.gens) (t':=xh) (d':=d) (ch:=[]) I2 (Un.laid wm C<|I2.hok.fresh C) (I2.hok.laid wm C new) I2.bare (λb hb=>by simp at hb)
   exact⟨.ref p,_,I3,rfl,q p j (I2.hok.fresh C) hr⟩
def Bj(T:X.calm=true)(L:Gl X "sorted")(G:X.mg "sorted"=none)(n:Gl X "set")(m:X.mg "set"=none)(R:DE X E e f)
 (D:X.se e [])(k:X.bk M [])
 (j:starEach [.Call (.Name "set" O) [e] [] M] X.env=(false,eval (.Call (.Name "set" O) [e] [] M) X.env)::starEach [] X.env)(c:X.bk N []):
   DN X E (.Call (.Name "sorted" U) [.Call (.Name "set" O) [e] [] M] [] N) (λρ=>(f ρ).bind nQ):=by
  obtain⟨t,p,r⟩:=R;refine⟨_,Wz T p L G n m D k j c,λP H0 al H σ ρ Q s h=>r _ _ _ _ _ _ _ s<|Aft.mono (Aft.split h) λd o Z a v x=>⟨v,rfl,?_⟩⟩;unfold nQ at a;split at a
  ·rename_i V;split at a
   ·rename_i y J;split at a
    ·rename_i z;obtain⟨l,u,rfl,I,i⟩:=x.qz;exact⟨l,u,V,al,y,rfl,I,i,J,z.1,z.2,λp q F C=>a o (.refl o) p q F C⟩
    ·exact a.elim
   ·exact a.elim
  ·exact a.elim
def Uq:FW X "list.extend" (λx o H Q=>∃l b i d,x=.ref l/\o=[.ref b]/\H l=some (.lst i)/\k7 X.K H b d/\i.length+d.length<=sizeLine/\Q .non (upd H l<|.lst<|i++d)):=by
 intro t s σ H x o v Z Q I C D h;obtain⟨l,b,i,d,rfl,rfl,y,V,hz,q⟩:=h;cases C;obtain⟨u,rfl,F⟩:=D.one;cases F;obtain⟨z,j,n,r,hl,e⟩:=I.JQ y;obtain⟨a,p,G,J⟩:=I.list V;have R:=p.length;obtain⟨ob,c,m,nb,k⟩:=G.isList;refine bA gp ⟨_,e,rfl⟩ PySem.F.entry_list_extend ?_ (PySem.F.args_list_extend_2 _ _);show wpAny _ _ (Builtin.List.listExtendWith (.ref l) (.ref b) .none) _ _ s;unfold Builtin.List.listExtendWith;refine ae (dZ (T:="list") ⟨ob,c,m⟩ ?_);have L:(Value.type "list"==Value.type "list")=true:=by rfl
 rw[av<|by rw[L];simp];refine ae (listItems_at c k ?_);refine ae (listItems_at e rfl ?_);rw[aw<|by rw[UI<|by rw[aN,aN];omega,f9];exact ax];refine ae (listUpdate_at e rfl ?_ (by rw[aN];omega) (by simp only[Array.size_append,aN];omega));refine af ⟨_,rfl,?_⟩;refine⟨.non,_,I.JP (its':=j++a) y e (by simp) (r.append p) ?_,rfl,q⟩;rw[ar];omega
def pR(i:Nat)(f:jw):jQ:=λρ=>match ρ[i]? with
 |some (.ow c)=>toS (f ρ) λd=>(match d with
  |.lst a=>if c.length+a.length<=sizeLine then .nx (ρ.set i<|.ow<|c++a)else .bad
  |_=>.bad)
 |_=>.bad
def ym(i){c:Pos}(he:DE X E e f)
 (hN:X.N[i]?=some x:=by rfl)(hv:qP X.env.scope x:=by first|exact Or.inl rfl|exact Or.inr (Or.inl rfl)|exact Or.inr (Or.inr rfl))(hd:oi x:=by decide)
 (C:(x==("__classdict__":Str))=false:=by decide)
 (l:attributeBase (.Name x ng) "extend" X.env (eval (.Name x ng) X.env)=eval (.Name x ng) X.env:=by rfl)
 (o:((backTo cpos (starEach [e] X.env)).all (λx=>!x.1)&&(backToKw cpos (keywordEach [] X.env)).all (λx=>x.1.isSome)
 &&decide ([e].length+([]:List Keyword).length+(if([]:List Keyword).isEmpty then 0 else 1)<30))=true:=by rfl)
 (k:(c.endLine==cpos.line)=true:=by rfl)(G:X.se e []:=by rfl)(j:(backTo cpos<|starEach [] X.env).any (·.1)=false:=by rfl)
 (y:swapsWith (.Call (.Attribute (.Name x ng) "extend" c) [e] [] cpos) none N.line X.env=pure false:=by rfl):
   DS X E (.Expr (.Call (.Attribute (.Name x ng) "extend" c) [e] [] cpos) N) (pR i f):=by
  obtain⟨t,p,r⟩:=he;refine⟨_,K1 (KC cf gp PySem.F.type_list_extend Uq (wI hN hv hd C) (q8 p rf G) l o k G j) y,λP H0 al H σ ρ D s h=>?_⟩;unfold pR at h;split at h
  ·rename_i Q q;obtain⟨a,F,L,J,I,e4,e5⟩:=s.ow i Q q;refine⟨_,L,.inl ⟨rfl,F,.inl<|.inl J⟩,r _ _ _ _ _ _ _ s<|Aft.mono (lh.rR h s) λd H1 u m v Z=>?_⟩;split at m
   ·rename_i es;obtain⟨b,T,rfl,hb,n⟩:=Z.qz;by_cases z:Q.length+es.length<=sizeLine
    ·simp only[z,dr]at m;obtain⟨V,R⟩:=(s.grow u).write q L ((I.up u).append n);exact⟨a,b,F,T,rfl,rfl,u.at' _ _ oo J,hb,by rw[I.length,n.length];exact z,m _ _ _ R V⟩
    ·simp only[z,bL]at m;exact m.elim
   ·exact m.elim
  ·exact h.elim
end P2
set_option maxHeartbeats 1000000
namespace P2
open PySem L2
def An(f:jr):jr:=λρ S=>(f ρ S).bind λz a=>match z with
 |.d (.bl b)=>.ok (.d<|.bl<|!b) a
 |_=>.bad
def Ao(a b:jr):jr:=λρ S=>(a ρ S).bind λx i=>match x with
 |.d d=>(lJ (tT d) i).bind λc h=>if c=true then .ok (.d d) h else b ρ h
 |_=>.bad
def wg:Z->Bool
 |.d .non=>true
 |_=>false
def xo(f:jr):jg->i6->RX Bool:=λρ S=>(f ρ S).bind λz a=>.ok (wg z) a
def xp(f:jr):jg->i6->RX Bool:=λρ S=>(f ρ S).bind λz a=>.ok (!wg z) a
variable{X:Cx}{E:XK}{b:Nat}{o k e a c:Expr}{rest:List Expr}{fo C f F J:jr}{i L:Pos}
def acS(u:ZE X E a F):ZE X E (.UnaryOp .Not a i) (An F):=by
 obtain⟨D,t,r⟩:=u;refine⟨_,KJ t,λB al lo H σ ρ S Q s h=>r _ _ _ _ _ _ _ _ s<|i3.mono (i3.split h) λz d l n G p y x m v q=>?_⟩;split at m
 ·rename_i b;have j:Rep X.K d n v (.bl b):=q;cases j;exact⟨b,rfl,m d l n p .refl .refl _<|show Rep X.K d n (.bl<|!b) (.bl<|!b)from .bl _⟩
 ·exact m.elim
def acT(G:ZE X E a F)(D:ZE X E (.BoolOp .Or (c::rest) i) J):ZE X E (.BoolOp .Or (a::c::rest) i) (Ao F J):=by
 obtain⟨T,y,t⟩:=G;obtain⟨R,u,r⟩:=D;refine⟨_,Ww y u,λB al lo H σ ρ S Q s h=>t _ _ _ _ _ _ _ _ s<|i3.mono (i3.split h) λx n l I U j O M m v p=>?_⟩;split at m
 ·rename_i d;obtain⟨k,z,q⟩:=zO p (i3.toAft j<|i3.split m);refine⟨k,z,?_⟩;cases k with
  |true=>rw[av rfl]at q⊢;exact q n l I j .refl .refl v p
  |false=>rw[aw<|by simp]at q⊢;exact r _ _ _ _ _ _ _ _ j q
 ·exact m.elim
def Ln{lo}(r:kq K al lo H v z):decide (v=.non)=wg z:=by
 cases z with
 |loc n=>obtain⟨a,_,rfl⟩:=r;rfl
 |tk j=>obtain⟨a,_,_,rfl⟩:=r;rfl
 |d d=>have h:Rep K al H v d:=r;cases h<;>rfl
def MM(u:ZE X E a F)(t:behindInMarks .Is (.Constant .none j p2)=false):ZT X E (.Compare a [.Is] [.Constant .none j p2] i) (xo F):=by obtain⟨G,r,q⟩:=u;refine⟨_,zJ VQ r Dm t,λB al lo H σ ρ S Q s h=>q _ _ _ _ _ _ _ _ s<|i3.mono (i3.split h) λz l d x I n D y m v p=>?_⟩;rw[<-Ln p]at m;exact⟨rfl,_,rfl,m l d x n .refl .refl⟩
def ac2(u:ZE X E a F)(t:behindInMarks .IsNot (.Constant .none j p2)=false):ZT X E (.Compare a [.IsNot] [.Constant .none j p2] i) (xp F):=by obtain⟨G,r,q⟩:=u;refine⟨_,zJ V0 r Dm t,λB al lo H σ ρ S Q s h=>q _ _ _ _ _ _ _ _ s<|i3.mono (i3.split h) λz l d x I n D y m v p=>?_⟩;rw[<-Ln p]at m;exact⟨rfl,_,rfl,m l d x n .refl .refl⟩
def EV:jr:=λ_ S=>.ok (.loc S.length) (S++[.dk []])
def acO:ZE X E (.Dict [] [] i) EV:=by
 refine⟨_,Wi,λB al lo H σ ρ S Q s h=>λp d=>?_⟩;have m:lU X.K (λb=>al b/\b≠p) (kZ lo S.length p) (upd H p<|.dK []) p (.dk []):=⟨[],kC,.nil⟩;have j:=s.new d Kb m nofun;have l:kZ lo S.length p S.length=some p:=by unfold kZ;rw[av rfl]
 exact h _ _ _ j (qH d) (oR s.st p) _ ⟨p,l,rfl⟩
def Al(fo C:jr):jr:=λρ S=>(fo ρ S).bind λz j=>match z with
 |.loc n=>(match j[n]? with
  |some (.dt _)=>(C ρ j).bind λy h=>(match y,h[n]? with
   |.tk k,some (.dt d)=>.ok ((valZ d k).getD (.d .non)) h
   |_,_=>.bad)
  |_=>.bad)
 |_=>.bad
def acL(hu:X.A.units+64<cLine)(ho:ZE X E o fo)(hk:ZE X E k C)(m:M1 X o "get" apos k i):ZE X E (.Call (.Attribute o "get" apos) [k] [] i) (Al fo C):=by
 obtain⟨to,po,Y⟩:=ho;obtain⟨tk,pk,Z⟩:=hk;refine⟨_,Wh (by omega) po pk m,λB al lo H σ ρ S Q s h=>Y _ _ _ _ _ _ _ _ s<|i3.mono (i3.split h) λz mr lo1 H1 S1 G x1 y1 p v U=>?_⟩;split at p
 ·rename_i n;split at p
  ·rename_i SK q0;obtain⟨a,M,rfl⟩:=U;obtain⟨r,g0,_⟩:=G.cell M q0;refine⟨a,rfl,.inr ⟨r,.inl g0⟩,Z _ _ _ _ _ _ _ _ G<|i3.mono (i3.split p) λy d l D S2 t x2 R j u V=>?_⟩;split at j
   ·rename_i I x q;obtain⟨c,ha,hc,rfl⟩:=V;obtain⟨T,g1,O⟩:=t.cell (R _ _ M) q;refine⟨lP T I,.t g1 hc,?_⟩;cases e:valZ x I with
    |none=>rw[O.none e];rw[e]at j;exact j d l D t .refl .refl .non (show Rep X.K d D .non .non from .non)
    |some z0=>obtain⟨w,e1,e2⟩:=O.val e;rw[e1];rw[e]at j;exact j d l D t .refl .refl w e2
   ·exact j.elim
  ·exact p.elim
 ·exact p.elim
def OT{h:List<|Addr×Obj}{σ:St}{H:Hp}{s:Shared}{a:Addr}{d:List<|Key×V}{k:Key}{z:V}{u r:Value}{A:Around}{E Q:jW}(I:Inv X h σ H s)(e:H a=some (.dK d))(hl:d.length<sizeLine)
    (G:RelV (kV k) u)(D:RelV z r)(h1:∀v p m,lP d k=some v->Inv X h σ H m->RelV v p->Q p m)(Z:lP d k=none->∀m,Inv X h σ (upd H a<|.dK<|putK d k z) m->Q r m):
    wpAny (model X.prog X.w) A (call (.builtin "dict.setdefault") [.ref a,u,r]) Q E s:=by
 obtain⟨y,x,t,l,dd⟩:=Ho I.hok e;have M:t.length<=sizeLine:=by rw[<-l.length];exact y
 have T:(putK d k z).length<=sizeLine:=by have:=Cr d k z;omega
 refine gQ fR dd.typeIs PySem.F.entry_dict_setdefault (PySem.F.args_dict_setdefault_3 _ _ _) (kt_meets_setdefault (j4 X.prog X.w) a (oP G) x r) ⟨t,dd,M,λv hv=>?_,λU h' n O=>?_⟩
 ·have j:=l.val k;rw[hv]at j;cases q:lP d k with
  |none=>rw[q]at j;exact j.elim
  |some w=>rw[q]at j;exact h1 w v _ q (I.tok _) j
 ·have j:=l.val k;rw[U]at j;cases q:lP d k with
  |some w=>rw[q]at j;exact j.elim
  |none=>have Y:∃q,h'.get? a=some q:=let⟨q,_,_,R,_⟩:=n;⟨q,R⟩;exact Z q _ (Bf I (by rw[e];exact True.intro) O Y<|Hn T x (l.put k D) n)
def aby(m ty l:TE):TE:=λσ H Q=>m σ H λx j=>∃a,x=.ref a/\AK j a/\ty σ j λy n=>l σ n λz h=>∃d k,h a=some (.dK d)/\d.length<sizeLine/\y=kV k/\
 (∀v,lP d k=some v->Q v h)/\(lP d k=none->Q z (upd h a<|.dK<|putK d k z))
def Wl{p n:Pos}{G ty D:TE}{f:Expr}(ho:PE X o G)(he:PE X e ty)(hf:PE X f D)(m:M2 X o "setdefault" p e f n):PE X (.Call (.Attribute o "setdefault" p) [e,f] [] n) (aby G ty D):=by
 intro j s σ H Q I h;refine wpAny_Call_method m.base m.few m.line eK fR PySem.F.type_dict_setdefault (ji (ho j s σ H _ I h) λu Y r=>?_);obtain⟨x,H1,O,rx,a,ex,d,q1⟩:=r;subst ex;obtain rfl:u=Value.ref a:=rx;obtain⟨T,R,_⟩:=B0 O d;refine⟨T,R,?_⟩;rw[m.trees]
 refine dE rfl (fK<|cI<|ji (he j Y σ H1 _ O q1) λiv V ⟨y,H2,I2,Z,q2⟩=>cI<|ji (hf j V σ H2 _ I2 q2) λfv s3 ⟨z,H3,I3,M,kvs,k,ea,hl,ey,q3,q4⟩=>dc ?_)
 subst ey;exact OT I3 ea hl Z M (λv w' U l t q=>⟨v,H3,t,q,q3 v l⟩) λl U t=>⟨z,_,t,M,q4 l⟩
def xv(fo C f:jr):jr:=λρ S=>(fo ρ S).bind λz l=>match z with
 |.loc n=>(match l[n]? with
  |some (.dk _)=>(C ρ l).bind λy m=>(f ρ m).bind λx j=>(match y,j[n]? with
   |.d d,some (.dk h)=>(match oQ d with
    |some k=>if h.length<sizeLine then(match valZ h k with
     |some z=>.ok z j
     |none=>.ok x (j.set n (.dk (kv h k x))))else .bad
    |none=>.bad)
   |_,_=>.bad)
  |_=>.bad)
 |_=>.bad
def acP{l:Pos}{g:Expr}{fg:jr}(ho:ZE X E o fo)(hk:ZE X E k C)(hg:ZE X E g fg)(m:M2 X o "setdefault" l k g i):ZE X E (.Call (.Attribute o "setdefault" l) [k,g] [] i) (xv fo C fg):=by
 obtain⟨to,po,ro⟩:=ho;obtain⟨tk,pk,rk⟩:=hk;obtain⟨tg,pg,rg⟩:=hg;refine⟨_,Wl po pk pg m,λB al lo H σ ρ S Q s h=>ro _ _ _ _ _ _ _ _ s<|i3.mono (i3.split h) λz mr lo1 H1 S1 s1 x1 y1 I v rv=>?_⟩;split at I
 ·rename_i n;split at I
  ·rename_i SK q0;obtain⟨a,hn,rfl⟩:=rv;obtain⟨R,g0,_⟩:=s1.cell hn q0;refine⟨a,rfl,.inl ⟨R,.inl g0⟩,rk _ _ _ _ _ _ _ _ s1<|i3.mono (i3.split I) λy Z uE H2 S2 s2 x2 y2 h2 u ru=>rg _ _ _ _ _ _ _ _ s2<|i3.mono (i3.split h2) λx D V H3 S3 O x3 y3 j w G=>?_⟩;split at j
   ·rename_i d p q;split at j
    ·rename_i r ek;split at j
     ·rename_i hl;have t:=y3 _ _ (y2 _ _ hn);obtain⟨T,g1,M⟩:=O.cell t q;have U:Rep X.K Z H2 u d:=ru;refine⟨T,r,g1,by rw[M.length];exact hl,Cj U ek,λv' hv=>?_,λhv=>?_⟩
      ·cases e:valZ p r with
       |none=>rw[M.none e]at hv;cases hv
       |some z0=>obtain⟨w0,Y,e2⟩:=M.val e;rw[Y]at hv;cases hv;rw[e]at j;exact j D V H3 O .refl .refl _ e2
      ·cases e:valZ p r with
       |some z0=>obtain⟨w0,Y,e2⟩:=M.val e;rw[Y]at hv;cases hv
       |none=>rw[e]at j;have xx:Xt D H3 D (upd H3 a (.dK (putK T r w))):=λb o _ hb eb=>⟨hb,by rw[jB λz=>O.st.na n a t (by rw[<-z];exact hb)];exact eb⟩;obtain⟨s4,x4⟩:=O.write t (o:=.dK (putK T r w)) (c:=.dk (kv p r x)) Kb (λq w=>by unfold lV at w;cases w) ⟨_,kC,ko.mv xx .refl (M.put r G)⟩ nofun;exact j _ _ _ s4 x4 .refl w (kq.mv x4 .refl G)
     ·exact j.elim
    ·exact j.elim
   ·exact j.elim
  ·exact I.elim
 ·exact I.elim
end P2
namespace P2
open PySem
namespace xP
def G:Nat->Nat
 |0=>0
 |n+1=>5*G n+1
theorem zH:∀n,5^n=4*G n+1
 |0=>rfl
 |n+1=>by rw[cY,zH n];show _=4*(5*G n+1)+1;omega
theorem FD:∀n,G n%2=n%2
 |0=>rfl
 |n+1=>by have:=FD n;show(5*G n+1)%2=_;omega
theorem AF(a):∀b,G (a+b)=G a+5^a*G b
 |0=>by show G a=G a+5^a*0;omega
 |b+1=>by
  show 5*G (a+b)+1=G a+5^a*(5*G b+1);rw[AF a b,zH a,ix,ix,iL];have e:(4*G a+1)*(5*G b)=5*((4*G a+1)*G b):=by rw[Nat.mul_left_comm]
  rw[e];omega
def Bd{k}(h:c%2=1):Nat.Coprime (2^k) c:=by apply Nat.Coprime.pow_left;show Nat.gcd 2 c=1;rw[Nat.gcd_rec,h];rfl
theorem FC:∀k b,2^k∣G b->2^k∣b
 |0,b,_=>by rw[Nat.pow_zero];exact Nat.one_dvd b
 |k+1,b,h=>by
  have l:2∣G b:=Nat.dvd_trans ⟨2^k,by rw[cY,gY]⟩ h;have m:=FD b;have a:b=b/2+b/2:=by have:G b%2=0:=Nat.mod_eq_zero_of_dvd l;omega
  generalize b/2=c at a;subst a;rw[AF,zH]at h;have e:G c+(4*G c+1)*G c=2*(G c*(2*G c+1)):=by rw[iy,Nat.one_mul,ix,ix,iL,gq,Nat.mul_left_comm (G c) 2<|G c];omega
  rw[e,cY,gY (2^k) 2]at h;have j:2^k∣G c*(2*G c+1):=Nat.dvd_of_mul_dvd_mul_left (by decide) h;have i:=FC k c (eY (Bd<|by omega) j);obtain⟨d,rfl⟩:=i;exact⟨d,by rw[cY];rw[<-Nat.two_mul,gY (2^k) 2,gq]⟩
def stp(N i:Nat):Nat:=(i*5+1)%N
def pW(N:Nat):Nat->Nat->Nat
 |0,x=>x
 |n+1,x=>stp N (pW N n x)
theorem z7(a:x<N):∀d,pW N d x=(x+G d*(4*x+1))%N
 |0=>by show x=(x+0*_)%N;rw[Nat.zero_mul,Nat.add_zero,Nat.mod_eq_of_lt a]
 |d+1=>by
  show(pW N d x*5+1)%N=(x+(5*G d+1)*(4*x+1))%N;rw[z7 a d,Nat.add_mod,Nat.mul_mod,Nat.mod_mod,<-Nat.mul_mod,<-Nat.add_mod]
  congr 1
  rw[iy,iy,gq 5,Nat.one_mul];omega
def abi{k}(c:x<2^k)(i:a<b)(n:b<2^k):pW (2^k) a x≠pW (2^k) b x:=λe=>by
 rw[z7 c,z7 c]at e;obtain⟨d,rfl⟩:∃d,b=a+d:=⟨b - a,by omega⟩;rw[AF]at e;have h:2^k∣(x+(G a+5^a*G d)*(4*x+1)) - (x+G a*(4*x+1)):=Nat.dvd_of_mod_eq_zero (Nat.sub_mod_eq_zero_of_mod_eq e.symm);have m:(x+(G a+5^a*G d)*(4*x+1)) - (x+G a*(4*x+1))=5^a*G d*(4*x+1):=by rw[iy];omega
 rw[m]at h;have l:2^k∣5^a*G d:=eY (Bd<|by omega) h;have j:2^k∣G d:=Nat.Coprime.dvd_of_dvd_mul_left (Bd<|by rw[zH];omega) l;have o:=Nat.le_of_dvd (by omega) (FC k d j);omega
theorem zj:∀{l m:List Nat},l.Nodup->(∀x∈l,x∈m)->l.length<=m.length
 |[],m,_,_=>bQ _
 |a::l,m,h,s=>by obtain⟨j,i⟩:=bB.mp h;have d:=s a (.head _);have:=zj (l:=l) (m:=m.erase a) i λx c=>(iz (λe=>j (by rw[<-e];exact c))).mpr (s x (.tail _ c));rw[gs d]at this;have:=List.length_pos_of_mem d;rw[aj];omega
def CC(n):(List.range n).Nodup:=List.nodup_range
def abh{k}(i:x<2^k)(l:e<2^k):∃d,d<2^k/\pW (2^k) d x=e:=by
 have j:((List.range<|2^k).map λd=>pW (2^k) d x).Nodup:=by refine eZ _ (R:=λa b=>a<b/\b<2^k) (λa b h=>abi i h.1 h.2) ?_;refine eD (λ{a b} q o h=>⟨h,bK.mp o⟩) eT
 have lt:∀d,pW (2^k) d x<2^k:=λd=>by rw[z7 i];exact eJ _ (Nat.two_pow_pos k)
 by_cases h:e∈(List.range<|2^k).map λd=>pW (2^k) d x
 ·obtain⟨d,n,p⟩:=az.mp h;exact⟨d,bK.mp n,p⟩
 ·exfalso;have:=zj (m:=(List.range<|2^k).erase e) j λy c=>by
   have:y≠e:=λw=>h (by rw[<-w];exact c);refine(iz this).mpr (bK.mpr ?_);obtain⟨d,_,rfl⟩:=az.mp c;exact lt d
  rw[gs<|bK.mpr l,ai,dO]at this;have:=Nat.two_pow_pos k;omega
def lS(a:Nat):Nat->Nat×Nat->Nat×Nat
 |0,q=>q
 |n+1,q=>SetTable.leap a (lS a n q).1 (lS a n q).2
theorem JA(mask q):∀n,(lS mask n q).2=q.2/32^n
 |0=>by show q.2=q.2/1;rw[Nat.div_one]
 |n+1=>by show(lS mask n q).2/32=_;rw[JA mask q n,Nat.div_div_eq_div_mul,cY]
def SQ(mask q):∀n,(lS mask (n+1) q).1<mask+1:=λn=>eJ _ (d7 _)
theorem Jz{q:Nat×Nat}(a:q.2<2^64):∀d,(lS mask (13+d) q).1=pW (mask+1) d (lS mask 13 q).1
 |0=>rfl
 |d+1=>by
  show(SetTable.leap mask (lS mask (13+d) q).1 (lS mask (13+d) q).2).1=stp (mask+1) (pW (mask+1) d (lS mask 13 q).1);have z:(lS mask (13+d) q).2=0:=by rw[JA,Nat.div_eq_of_lt];refine aH a ?_;rw[Nat.pow_add];exact aU (show 2^64<=32^13 by decide) (Nat.le_mul_of_pos_right _<|Nat.pow_pos<|by decide)
  rw[Jz a d,z];rfl
def JB{k}(a:mask+1=2^k){q:Nat×Nat}(c:q.2<2^64)(i:e<=mask):∃m,13<=m/\m<=13+mask/\(lS mask m q).1=e:=by obtain⟨d,j,h⟩:=abh (k:=k) (x:=(lS mask 13 q).1) (e:=e) (by rw[<-a];exact SQ mask q 12) (by omega);exact⟨13+d,by omega,by omega,by rw[Jz c,a];exact h⟩
open SetTable
def jR(t:SetTable):Nat->Probe->Probe
 |0,p=>p
 |n+1,p=>jR t n (t.advance p)
theorem qR(t):∀a b p,jR t (a+b) p=jR t b (jR t a p)
 |0,b,p=>by rw[Nat.zero_add];rfl
 |a+1,b,p=>by rw[Nat.succ_add];exact qR t a b (t.advance p)
def NP(t n p):jR t (n+1) p=t.advance (jR t n p):=qR t n 1 p
def blk(a:Nat)(q:Nat×Nat)(d:Option Nat):Probe:={j:=q.1,more:=runEnd a q.1 - q.1,i:=q.1,perturb:=q.2,dummy:=d}
def DF(mask i):runEnd mask i - i<=9:=by unfold runEnd;split<;>omega
def DD{a i:Nat}(h:i<=a):runEnd a i<=a:=by unfold runEnd;split<;>omega
def DC(mask i):i<=runEnd mask i:=by unfold runEnd;split<;>omega
theorem AY(t):∀k (p:Probe),k<=p.more->jR t k p={p with j:=p.j+k,more:=p.more - k}
 |0,p,_=>rfl
 |k+1,p,h=>by
  have a:p.more>0:=by omega
  show jR t k (t.advance p)=_;have e:t.advance p={p with j:=p.j+1,more:=p.more - 1}:=by unfold advance;rw[av a]
  rw[e,AY t k _<|by show k<=p.more - 1;omega];show({p with j:=p.j+1+k,more:=p.more - 1 - k}:Probe)=_;rw[show p.j+1+k=p.j+(k+1)by omega,show p.more - 1 - k=p.more - (k+1)by omega]
def xV(t)(p:Probe):jR t (p.more+1) p=blk t.mask (leap t.mask p.i p.perturb) p.dummy:=by rw[NP,AY t p.more p<|ah _];unfold advance;rw[aw<|by show¬p.more - p.more>0;omega];rfl
theorem Gh(t):∀m q d,∃n,n<=10*m/\jR t n (blk t.mask q d)=blk t.mask (lS t.mask m q) d
 |0,q,d=>⟨0,ah _,rfl⟩
 |m+1,q,d=>by
  obtain⟨n,c,a⟩:=Gh t m q d;have:=DF t.mask (lS t.mask m q).1;refine⟨n+((blk t.mask (lS t.mask m q) d).more+1),?_,?_⟩;·show n+(runEnd t.mask (lS t.mask m q).1 - (lS t.mask m q).1+1)<=_;omega
  ·rw[qR,a,xV];rfl
def Gg{t:SetTable}{k}(c:t.mask+1=2^k){p:Probe}(a:p.perturb<2^64)(l:p.more<=9)(h:e<=t.mask):∃n,n<10*turns t.mask/\(jR t n p).j=e:=by have d:(leap t.mask p.i p.perturb).2<2^64:=cy (Nat.div_le_self _ _) a;obtain⟨m,r,q,j⟩:=JB c d h;obtain⟨n,o,i⟩:=Gh t m (leap t.mask p.i p.perturb) p.dummy;refine⟨p.more+1+n,by unfold turns;omega,?_⟩;rw[qR,xV,i];exact j
structure oH(t:SetTable)(p:Probe):Prop where
 b:p.perturb<2^64
 r:p.more<=9
 j:p.j+p.more<=t.mask
 d:p.dummy=none
def KZ(t:SetTable)(h:Int):oH t (t.probeStart h) where
 b:=by unfold probeStart;show SetTable.bits h<2^64;unfold SetTable.bits;omega
 r:=by unfold probeStart;exact DF _ _
 j:=by unfold probeStart;show SetTable.bits h%(t.mask+1)+(runEnd t.mask (SetTable.bits h%(t.mask+1)) - SetTable.bits h%(t.mask+1))<=t.mask;have i:SetTable.bits h%(t.mask+1)<t.mask+1:=eJ _ (d7 _);have c:=DD (show SetTable.bits h%(t.mask+1)<=t.mask by omega);have a:=DC t.mask (SetTable.bits h%(t.mask+1));omega
 d:=by unfold probeStart;rfl
def oH.NO{t:SetTable}{p:Probe}(h:oH t p):oH t (t.advance p):=by
 obtain⟨a,i,d,c⟩:=h;unfold advance;by_cases w:p.more>0
 ·rw[av w];exact⟨a,by show p.more - 1<=9;omega,by show p.j+1+(p.more - 1)<=t.mask;omega,c⟩
 ·rw[aw w];refine⟨cy (Nat.div_le_self _ _) a,DF _ _,?_,c⟩;show(leap t.mask p.i p.perturb).1+(runEnd t.mask (leap t.mask p.i p.perturb).1 - (leap t.mask p.i p.perturb).1)<=t.mask;have a:(leap t.mask p.i p.perturb).1<t.mask+1:=eJ _ (d7 _);have i:=DD (show(leap t.mask p.i p.perturb).1<=t.mask by omega);have d:=DC t.mask (leap t.mask p.i p.perturb).1;omega
theorem oH.jR{t}:∀n {p},oH t p->oH t (jR t n p)
 |0,_,h=>h
 |n+1,_,h=>oH.jR n h.NO
theorem sF{t a:SetTable}(h:t.mask=a.mask):∀n p,jR t n p=jR a n p
 |0,_=>rfl
 |n+1,p=>by
  show jR t n (t.advance p)=jR a n (a.advance p);have:t.advance p=a.advance p:=by unfold advance;rw[h]
  rw[this];exact sF h n _
def uY{t a:SetTable}(h:t.mask=a.mask)(x:Int):t.probeStart x=a.probeStart x:=by unfold probeStart;rw[h]
def slot_mem{t:SetTable}(c:ma t.place)(h:j∈t.place.toList):∃i,t.slot j=.live i/\t.place[i]?=some j:=by
 obtain⟨p,o,n⟩:=ya c j;obtain⟨m,k,e⟩:=bS h;have a:m<t.place.size:=by simpa using k
 have d:t.place[m]=j:=by simpa using e
 have l:below t.place j=m:=by
  rcases eS (below t.place j) m with q|q|q
  ·have:=n _ (by omega) (ah<|below t.place j);have:=c.lt q a;omega
  ·exact q
  ·have:=o m a q;omega
 refine⟨m,?_,by rw[aJ a,d]⟩;unfold slot;dsimp only;rw[l,aJ a,d];simp
def aa6{t:SetTable}(c:t.dummies=#[])(h:j∉t.place.toList):t.slot j=.empty:=by
 unfold slot;dsimp only;rw[aw,c];·rfl
 ·intro w;have a:=eq_of_beq w;exact h (dQ.mpr<|fq a)
def vy(t:SetTable)(h:Int)(j:Nat):Prop:=∃m,(jR t m<|t.probeStart h).j=j/\∀a,a<m->(jR t a<|t.probeStart h).j∈t.place.toList
structure Tab(t:SetTable)(es:List<|Int×Value):Prop where
 k:∃k,3<=k/\t.mask+1=2^k
 pQ:ma t.place
 le:∀j∈t.place.toList,j<=t.mask
 oM:t.dummies=#[]
 sz:t.place.size=es.length
 fl:es.length<=t.mask
 reach:∀j e,(j,e)∈List.zip t.place.toList es->vy t e.1 j
variable{t:SetTable}{o:List<|Int×Value}
def Tab.odd(a:Tab t o):t.gaveWay=false:=by
 obtain⟨k,c,h⟩:=a.k;obtain⟨j,rfl⟩:∃j,k=j+1:=⟨k - 1,by omega⟩;rw[cY]at h;unfold gaveWay;have:t.mask%2=1:=by omega
 rw[this];rfl
def Tab.m7(a:Tab t o):7<=t.mask:=by obtain⟨k,c,h⟩:=a.k;have:2^3<=2^k:=iA (by decide) c;omega
def Tab.fits(a:Tab t o):t.fits o.length=true:=by unfold SetTable.fits fill;rw[a.oM,a.sz];have:=a.fl;simp;exact this
def Tab.room(a:Tab t o):∃e,e<=t.mask/\e∉t.place.toList:=by refine cj λw=>?_;have:=zj (m:=t.place.toList) (CC<|t.mask+1) λx c=>cj λy=>w ⟨x,by have:=bK.mp c;omega,y⟩;rw[dO,aC,a.sz]at this;have:=a.fl;omega
theorem Iw(j:Tab t o)(f:Nat->Int)(h:Int):∀a (p:Probe),p.dummy=none->(∃n,n<a/\(jR t n p).j∉t.place.toList)->
 ∃m,m<a/\(∀c,c<m->∃i,t.place[i]?=some (jR t c p).j/\f i≠h)/\(((jR t m p).j∉t.place.toList/\probe.go t f h a p=some (.empty (jR t m p).j none))\/∃i,t.place[i]?=some (jR t m p).j/\t.slot (jR t m p).j=.live i/\f i=h/\probe.go t f h a p=some (.candidate (jR t m p).j i (jR t (m+1) p)))
 |0,p,_,⟨n,r,_⟩=>absurd r (cW _)
 |a+1,p,q,⟨n,r,u⟩=>by
  by_cases d:p.j∈t.place.toList
  ·obtain⟨i,l,v⟩:=slot_mem j.pQ d;by_cases hf:f i=h
   ·refine⟨0,d7 _,λc w=>absurd w<|cW _,.inr ⟨i,v,l,hf,?_⟩⟩;unfold probe.go;rw[l];simp[hf];exact⟨rfl,rfl⟩
   ·have x:(t.advance p).dummy=none:=by unfold advance;split<;>exact q
    obtain⟨k,rfl⟩:∃k,n=k+1:=⟨n - 1,by cases n with|zero=>exact absurd d u|succ n=>rfl⟩;obtain⟨m,D,z,y⟩:=Iw j f h a (t.advance p) x ⟨k,by omega,u⟩;have C:probe.go t f h (a+1) p=probe.go t f h a (t.advance p):=by rw[probe.go];rw[l];simp[hf]
    refine⟨m+1,by omega,λc w=>?_,?_⟩
    ·cases c with
     |zero=>exact⟨i,v,hf⟩
     |succ c=>exact z c (by omega)
    ·rw[C];exact y
  ·refine⟨0,d7 _,λc w=>absurd w<|cW _,.inl ⟨d,?_⟩⟩;unfold probe.go;rw[aa6 j.oM d];simp[q];rfl
def W0(a:Tab t o)(f:Nat->Int)(h:Int)(c:oH t p):
    ∃m,(∀d,d<m->∃i,t.place[i]?=some (jR t d p).j/\f i≠h)/\(((jR t m p).j∉t.place.toList/\t.probe f h p=some (.empty (jR t m p).j none))\/∃i,t.place[i]?=some (jR t m p).j/\t.slot (jR t m p).j=.live i/\f i=h/\t.probe f h p=some (.candidate (jR t m p).j i (jR t (m+1) p))):=by
 obtain⟨e,u,r⟩:=a.room;obtain⟨k,_,j⟩:=a.k;obtain⟨n,q,l⟩:=Gg j c.b c.r u;obtain⟨m,y,x,v⟩:=Iw a f h (10*turns t.mask) p c.d ⟨n,q,by rw[l];exact r⟩;exact⟨m,x,v⟩
def BY{c:Type}(a:Array c)(p:Nat)(x:c):(insertAt a p x).toList=a.toList.take p++x::a.toList.drop p:=by unfold insertAt;simp[il];exact cG (by rw[cz,aC];exact ah _)
def insertAt_perm{a:Type}(c:Array a)(p:Nat)(x:a):(insertAt c p x).toList.Perm (x::c.toList):=by rw[BY];refine List.perm_middle.trans ?_;rw[hZ]
def acY{i d:Type}(a:List i)(b:List d)(x y p)(h:a.length=b.length)(q)(c:q∈List.zip (a.take p++x::a.drop p) (b.take p++y::b.drop p)):q=(x,y)\/q∈List.zip a b:=by
 rw[List.zip_append<|by rw[cJ,cJ,h],f5]at c;rcases aW.mp c with c|c
 ·rw[List.zip_eq_zipWith,<-List.take_zipWith]at c;exact .inr (iC c)
 ·rcases aE.mp c with c|c;·exact .inl c
  ·rw[List.zip_eq_zipWith,<-List.drop_zipWith]at c;exact .inr (iD c)
def Tab.put{l:Array<|Int×Value}(a:Tab t l.toList)(hf:l.size+1<=t.mask){h:Int}(z:j∉t.place.toList)(v:j<=t.mask)(u:vy t h j):
    Tab (t.put j).1 (insertAt l (t.put j).2 (h,x)).toList/\(t.put j).1.mask=t.mask/\(t.put j).1.led=t.led/\(t.put j).1.moves=t.moves:=by
 have F:has t.dummies j=false:=by rw[a.oM];rfl
 have i:(t.put j).1.place=insertAt t.place (below t.place j) j:=rfl;have k:(t.put j).1.mask=t.mask:=rfl;have sub:∀y,y∈t.place.toList->y∈(t.put j).1.place.toList:=λy d=>by rw[i];exact(insertAt_perm _ _ _).mem_iff.mpr (.tail _ d)
 have n:∀{q p},vy t q p->vy (t.put j).1 q p:=λ⟨m,D,C⟩=>⟨m,by rw[sF k,uY k];exact D,λr w=>by rw[sF k,uY k];exact sub _ (C r w)⟩;refine⟨⟨a.k,?_,?_,?_,?_,?_,?_⟩,k,rfl,rfl⟩
 ·rw[i];refine Lq a.pQ λw=>z (dQ.mpr<|fq w)
 ·intro y d;rw[i]at d;rcases aE.mp ((insertAt_perm _ _ _).mem_iff.mp d)with rfl|d;·exact v
  ·exact a.le y d
 ·show(if has t.dummies j=true then _ else t.dummies)=#[];rw[F,aw<|by decide];exact a.oM
 ·rw[i,<-aC,(insertAt_perm _ _ _).length_eq,(insertAt_perm _ _ _).length_eq,aj,aj,aC,a.sz]
 ·rw[(insertAt_perm _ _ _).length_eq,aj,aC];exact hf
 ·intro y e c;rw[i,BY,BY]at c;rcases acY _ _ _ _ _ (by rw[aC,a.sz]) _ c with c|c;·cases c;exact n u
  ·exact n (a.reach y e c)
def Tab.off(a:Tab t o)(b:Bool):Tab {t with plain:=b} o where
 k:=a.k
 pQ:=a.pQ
 le:=a.le
 oM:=a.oM
 sz:=a.sz
 fl:=a.fl
 reach:=λj e h=>by obtain⟨m,l,i⟩:=a.reach j e h;have c:({t with plain:=b}:SetTable).mask=t.mask:=rfl;exact⟨m,by rw[sF c,uY c];exact l,λd w=>by rw[sF c,uY c];exact i d w⟩
def abT(f m l):Tab (.fresh f m l) [] where
 k:=⟨3,ah _,rfl⟩
 pQ:=by unfold ma;exact .nil
 le:=λj h=>by cases h
 oM:=rfl
 sz:=rfl
 fl:=bQ _
 reach:=λj e h=>by cases h
theorem KO:∀{d c:List Nat},d.Nodup->c.Nodup->(∀x,x∈d↔x∈c)->d.Perm c
 |[],c,_,_,h=>by
  cases c with
  |nil=>exact .refl _
  |cons y r=>exact absurd ((h y).mpr (.head _)) (by simp)
 |a::l,c,n,i,h=>by
  have p:=(h a).mp (.head _);obtain⟨m,k⟩:=bB.mp n;refine(List.Perm.cons a<|KO k (i.erase a) λx=>?_).trans (iw p).symm;rw[i.mem_erase_iff];constructor
  ·intro j;exact⟨λe=>m<|by rw[<-e];exact j,(h x).mp (.tail _ j)⟩
  ·rintro ⟨u,q⟩
   rcases aE.mp ((h x).mpr q)with e|e;·exact absurd e u
   ·exact e
theorem JC(mask q):∀n,lS mask (n+1) q=lS mask n (leap mask q.1 q.2)
 |0=>rfl
 |n+1=>by show leap mask (lS mask (n+1) q).1 (lS mask (n+1) q).2=_;rw[JC mask q n];rfl
abbrev tW(owner:Array<|Option Nat)(j:Nat):Prop:=((owner.getD j<|some 0).isNone)=false
def HW:∀{n},(∀k,(List.range n).find? p=some k->k<n/\p k=true/\∀a,a<k->p a=false)/\((List.range n).find? p=none->∀k,k<n->p k=false)
 |n=>by
  constructor
  ·intro k h;rw[List.find?_range_eq_some]at h;refine⟨bK.mp h.2.1,h.1,λa w=>?_⟩;have:=h.2.2 a w;simpa using this
  ·intro h k c;have:=List.find?_eq_none.mp h k (bK.mpr c);simpa using this
theorem Ii(T:SetTable)(owner):∀a (q:Nat×Nat),q.1<=T.mask->(∃m,m<a/\¬tW owner (lS T.mask m q).1)->
 ∃j n,layClean.free T.mask owner a q.1 q.2=some j/\(jR T n<|blk T.mask q none).j=j/\j<=T.mask/\¬tW owner j/\∀c,c<n->tW owner (jR T c<|blk T.mask q none).j
 |0,q,_,⟨m,r,_⟩=>absurd r (cW _)
 |a+1,q,u,⟨m,r,l⟩=>by
  have L:=DD u;have M:=DC T.mask q.1;have d:∀k,k<=runEnd T.mask q.1 - q.1->(jR T k<|blk T.mask q none).j=q.1+k:=λk x=>by rw[AY T k (blk T.mask q none) x];rfl
  unfold layClean.free;cases hf:(List.range<|runEnd T.mask q.1+1 - q.1).find? λk=>(owner.getD (q.1+k)<|some 0).isNone with
  |some k=>obtain⟨p,C,y⟩:=HW.1 k hf;refine⟨q.1+k,k,rfl,d k (by omega),by omega,by unfold tW;rw[C];decide,λc w=>?_⟩;rw[d c<|by omega];exact y c w
  |none=>
   have p:=HW.2 hf;have v:m≠0:=λe=>by subst e;exact l (p 0<|by omega)
   obtain⟨i,rfl⟩:∃i,m=i+1:=⟨m - 1,by omega⟩;rw[JC]at l;obtain⟨j,n,J,I,G,F,D⟩:=Ii T owner a (leap T.mask q.1 q.2) (by have:(leap T.mask q.1 q.2).1<T.mask+1:=eJ _ (d7 _);omega) ⟨i,by omega,l⟩;refine⟨j,(blk T.mask q none).more+1+n,J,?_,G,F,λc w=>?_⟩;·rw[qR,xV];exact I
   ·by_cases z:c<=(blk T.mask q none).more
    ·rw[d c z];exact p c (by have:(blk T.mask q none).more=runEnd T.mask q.1 - q.1:=rfl;omega)
    ·obtain⟨h,rfl⟩:∃h,c=(blk T.mask q none).more+1+h:=⟨c - ((blk T.mask q none).more+1),by omega⟩;rw[qR,xV];exact D h (by omega)
structure qM(T:SetTable)(hs:List Int)(owner:Array<|Option Nat)(pl:List Nat):Prop where
 len:pl.length=hs.length
 sz:owner.size=T.mask+1
 own:∀(j k:Nat),owner[j]?=some (some k)↔pl[k]?=some j
 le:∀j∈pl,j<=T.mask
 nd:pl.Nodup
 reach:∀(k:Nat) (h:Int) (j:Nat),hs[k]?=some h->pl[k]?=some j->∃m,(jR T m<|T.probeStart h).j=j/\∀m',m'<m->(jR T m'<|T.probeStart h).j∈pl
def qM.wy(L:qM T hs owner pl)(l:j<=T.mask):tW owner j↔j∈pl:=by
 have a:j<owner.size:=by rw[L.sz];omega
 have e:owner.getD j (some 0)=owner[j]:=by simp[Array.getD,a]
 unfold tW;rw[e];constructor
 ·intro h;cases q:owner[j]with
  |none=>rw[q]at h;cases h
  |some k=>exact bf ((L.own j k).mp (by rw[aJ a,q]))
 ·intro h;obtain⟨k,c,d⟩:=bS h;have:=(L.own j k).mpr (by rw[ao c,d]);rw[aJ a]at this;have i:owner[j]=some k:=Option.some.inj this;rw[i];rfl
def qM.step{T:SetTable}{k}(Y:T.mask+1=2^k)(L:qM T hs owner pl)(h:Int)(hl:hs.length<=T.mask):
    ∃j,layClean.free T.mask owner (turns T.mask) (SetTable.bits h%(T.mask+1)) (SetTable.bits h)=some j/\qM T (hs++[h]) (owner.setIfInBounds j<|some hs.length) (pl++[j]):=by
 have F:SetTable.bits h<2^64:=by unfold SetTable.bits;omega
 have V:SetTable.bits h%(T.mask+1)<=T.mask:=Nat.le_of_lt_succ (eJ (SetTable.bits h)<|d7 T.mask);obtain⟨e,r,D⟩:∃e,e<=T.mask/\e∉pl:=by refine cj λw=>?_;have:=zj (m:=pl) (CC (T.mask+1)) λx U=>cj λy=>w ⟨x,by have:=bK.mp U;omega,y⟩;rw[dO,L.len]at this;omega
 obtain⟨m,h13,h14,G⟩:=JB Y (q:=(SetTable.bits h%(T.mask+1),SetTable.bits h)) F r;obtain⟨j,n,g1,O,M,g4,J⟩:=Ii T owner (turns T.mask) (SetTable.bits h%(T.mask+1),SetTable.bits h) V ⟨m,by unfold turns;omega,by rw[G];exact λz=>D ((L.wy r).mp z)⟩;have I:j∉pl:=λz=>g4 ((L.wy M).mpr z);have eb:blk T.mask (SetTable.bits h%(T.mask+1),SetTable.bits h) none=T.probeStart h:=rfl;rw[eb]at O J;refine⟨j,g1,⟨?_,?_,?_,?_,?_,?_⟩⟩;·rw[ar,ar,L.len];rfl
 ·rw[Array.size_setIfInBounds];exact L.sz
 ·intro i c;have C:j<owner.size:=by rw[L.sz];omega
  by_cases w:j=i
  ·subst w;rw[Array.getElem?_setIfInBounds_self_of_lt C];constructor
   ·intro z;cases z;rw[<-L.len,aK<|ah _];simp
   ·intro z;by_cases y:c<pl.length
    ·rw[ay y]at z;exact absurd (bf z) I
    ·have:c=pl.length:=by
      have:=(aB.mp z).1;rw[ar,cu]at this;omega
     rw[this,L.len]
  ·rw[fj w,L.own i c];constructor
   ·intro z;rw[ay (aB.mp z).1];exact z
   ·intro z;by_cases y:c<pl.length;·rw[ay y]at z;exact z
    ·rw[aK<|by omega]at z;have:c - pl.length=0:=by
      have:=(aB.mp z).1;rw[cu]at this;omega
     rw[this]at z;simp at z;exact absurd z w
 ·intro i p;rcases aW.mp p with p|p;·exact L.le i p
  ·rw[aM.mp p];exact M
 ·exact eU.mpr ⟨L.nd,by simp,λa Z b F e=>I<|by rw[<-aM.mp F,<-e];exact Z⟩
 ·intro c h' i u d;by_cases y:c<pl.length
  ·rw[ay y]at d;rw[ay (by rw[<-L.len];exact y)]at u;obtain⟨m,R,Q⟩:=L.reach c h' i u d;exact⟨m,R,λv w=>dP _<|Q v w⟩
  ·have l:c=pl.length:=by
    have:=(aB.mp d).1;rw[ar,cu]at this;omega
   rw[l,aK<|ah _]at d;rw[l,L.len,aK<|ah _]at u;simp at u d;subst u;subst d;refine⟨n,O,λv w=>dP _<|(L.wy ?_).mp (J v w)⟩;have:=(oH.jR v<|KZ T h).j;omega
theorem Jx{T:SetTable}{k}(n:T.mask+1=2^k):∀(more c:List Int) owner pl,qM T c owner pl->c.length+more.length<=T.mask->
 ∃a d,more.foldl (λ(i:Option (Array (Option Nat)×Nat)) h=>do
  let(owner,k)<-i
  let j<-layClean.free T.mask owner (turns T.mask) (SetTable.bits h%(T.mask+1)) (SetTable.bits h)
  pure (owner.setIfInBounds j (some k),k+1)) (some (owner,c.length))=some (a,(c++more).length)/\qM T (c++more) a d
 |[],c,owner,pl,L,_=>⟨owner,pl,by rw[bg];rfl,by rw[bg];exact L⟩
 |h::more,c,owner,pl,L,r=>by
  rw[aj]at r;obtain⟨j,v,u⟩:=L.step n h (by omega);obtain⟨q,p,m,l⟩:=Jx n more (c++[h]) _ _ u (by rw[ar,cu];omega);refine⟨q,p,?_,?_⟩
  ·rw[bO,h8]at m;rw[<-m,eF]
   congr 1
   show(layClean.free T.mask owner (turns T.mask) (SetTable.bits h%(T.mask+1))<|SetTable.bits h).bind _=_;rw[v,ar,cu];rfl
  ·rw[bO,h8]at l;exact l
def SO{T:SetTable}{k}(q:T.mask+1=2^k)(c:Array Int)(p:c.size<=T.mask):∃a l,layClean T.mask c=some a/\qM T c.toList a l:=by
 have r:qM T [] (Array.replicate (T.mask+1) none) []:=by refine⟨rfl,by simp,λj k=>?_,λj h=>(by cases h),List.Pairwise.nil,λk h j e=>(by simp at e)⟩;rw[Array.getElem?_replicate];split<;>simp
 obtain⟨n,m,d,i⟩:=Jx q c.toList [] _ _ r (by simpa using p);refine⟨n,m,?_,i⟩;unfold layClean;rw[<-Array.foldl_toList];rw[cV]at d;rw[d];rfl
def LL(n)(m:n<10^6):∃k,3<=k/\sizeAbove n=2^k/\n<sizeAbove n/\sizeAbove n<=2*n+8:=by
 have p:∀(a size k:Nat),size=2^k->3<=k->(size<=2*n+8)->n<size*2^a->∃i,3<=i/\sizeAbove.go n a size=2^i/\n<sizeAbove.go n a size/\sizeAbove.go n a size<=2*n+8:=by
  intro a;induction a with
  |zero=>intro size k c h d j;exact⟨k,h,c,by show n<size;omega,d⟩
  |succ a l=>
   intro size k c h d j;unfold sizeAbove.go;by_cases w:size<=n
   ·rw[av w];refine l (size*2) (k+1) (by rw[c,cY]) (by omega) (by omega) ?_;rw[gq,gY 2,<-cY];exact j
   ·rw[aw w];exact⟨k,h,c,by omega,d⟩
 exact p 64 8 3 rfl (ah _) (by omega) (aH m<|by decide)
def aai(t:SetTable)(c:Array<|Int×Value)(n)(hn:n<10^6)(hl:4*c.size<=n):
    ∃M p,t.relaid (c.map (·.1)) n=some (M,p)/\(p.filterMap (c[·]?)).toList.Perm c.toList/\Tab M (p.filterMap (c[·]?)).toList/\M.led=t.led/\M.plain=t.plain/\n<=M.mask/\M.mask<=2*n+7:=by
 obtain⟨k,h3,hk,G,hu⟩:=LL n hn;obtain⟨T,hT⟩:∃T:SetTable,T={t with mask:=sizeAbove n - 1}:=⟨_,rfl⟩;have I:T.mask=sizeAbove n - 1:=by rw[hT]
 have U:T.mask+1=2^k:=by rw[I,<-hk];omega
 obtain⟨C,Z,e,L⟩:=SO U (c.map (·.1)) (by rw[Array.size_map,I];omega);have D:Z.length=c.size:=by rw[L.len];simp
 unfold relaid laid;rw[<-I,e];generalize v:(List.range<|T.mask+1).filterMap (λj=>(C.getD j none).map (j, ·))=live;have u:∀j i,(j,i)∈live↔Z[i]?=some j:=λj i=>by
  rw[<-v,bz,<-L.own j i];constructor
  ·rintro ⟨a,ha,e⟩
   obtain⟨b,G,e2⟩:=aF.mp e;obtain⟨rfl,rfl⟩:=Prod.mk.inj e2;have d:a<C.size:=by rw[L.sz];exact bK.mp ha
   rw[aJ d];simp[Array.getD,d]at G;rw[G]
  ·intro z;have d:=(br.mp z).1;refine⟨j,bK.mpr<|by rw[<-L.sz];exact d,?_⟩;rw[aJ d]at z;have z':=Option.some.inj z;simp[Array.getD,d,z']
 have O:live.Pairwise λa b=>a.1<b.1:=by rw[<-v];refine List.Pairwise.filterMap (R:=λa b=>a<b) (S:=λ(a b:Nat×Nat)=>a.1<b.1) _ ?_ eT;intro a a' h b G b' Qv;obtain⟨_,_,V⟩:=aF.mp G;obtain⟨_,_,e2⟩:=aF.mp Qv;subst V;subst e2;exact h
 have Ur:(live.map (·.2)).Nodup:=by refine eZ _ (R:=λa b=>a.2≠b.2) (λ_ _ h=>h) ?_;refine eD (λ{a b} ha G h w=>?_) O;have y:=(u a.1 a.2).mp ha;have h2:=(u b.1 b.2).mp G;rw[w,h2]at y;have:=Option.some.inj y;omega
 have p2:(live.map (·.2)).Perm (List.range c.size):=KO Ur (CC _) λx=>by
  rw[az,bK];constructor
  ·rintro ⟨⟨j,i⟩,y,rfl⟩
   have:=(aB.mp<|(u j i).mp y).1;rw[D]at this;exact this
  ·intro h;exact⟨(Z[x]'(by rw[D];exact h),x),(u _ _).mpr (ao _),rfl⟩
 have J:((live.map (·.2)).toArray.filterMap (c[·]?)).toList=live.map λq=>c.getD q.2 (0,.none):=by
  rw[Array.toList_filterMap,List.filterMap_map];have go:∀l:List (Nat×Nat),(∀q∈l,q.2<c.size)->l.filterMap ((λx=>c[x]?)∘λx=>x.2)=l.map λq=>c.getD q.2 (0,.none):=by
   intro l;induction l with
   |nil=>intro _;rfl
   |cons q r ih=>
    intro h;have d:=h q (.head _);have V:((λx=>c[x]?)∘λ(x:Nat×Nat)=>x.2) q=some (c.getD q.2 (0,.none)):=by show c[q.2]?=_;rw[aJ d];simp[Array.getD,d]
    rw[gu V,ih λx hx=>h x<|.tail _ hx,aT]
  exact go live λq hq=>bK.mp (p2.mem_iff.mp<|az.mpr ⟨q,hq,rfl⟩)
 have F:((live.map (·.2)).toArray.filterMap (c[·]?)).toList.Perm c.toList:=by
  rw[J];have y:=p2.map λi=>c.getD i (0,.none);rw[aX]at y;refine y.trans ?_;have:(List.range c.size).map (λi=>c.getD i (0,.none))=c.toList:=by
   apply gC;·simp
   ·intro i y h2;have:i<c.size:=by simpa using y
    simp[Array.getD,this]
  rw[this]
 have L4:=L.len;refine⟨{mask:=T.mask,place:=(live.map (·.1)).toArray,dummies:=#[],finger:=t.finger,led:=t.led,moves:=t.movedTo T.mask,plain:=t.plain},(live.map (·.2)).toArray,by rw[<-v];rfl,F,⟨⟨k,h3,U⟩,?_,?_,rfl,?_,?_,?_⟩,rfl,rfl,by show n<=T.mask;omega,by show T.mask<=_;omega⟩
 ·show ma (live.map (·.1)).toArray;unfold ma;rw[fT];exact eZ _ (λ_ _ h=>h) O
 ·intro j hj;have wa:j∈live.map (·.1):=by simpa using hj
  obtain⟨⟨a,i⟩,y,rfl⟩:=az.mp wa;exact L.le _ (bf<|(u a i).mp y)
 ·rw[J];simp
 ·rw[F.length_eq,aC];show c.size<=T.mask;omega
 ·intro j e hz;rw[J]at hz;have Q:(j,e)∈List.zip (live.map (·.1)) (live.map λq=>c.getD q.2 (0,.none)):=by simpa using hz
  rw[List.zip_map',az]at Q;obtain⟨⟨a,i⟩,y,V⟩:=Q;cases V;have hp:=(u a i).mp y;have hi:i<c.size:=by rw[<-D];exact(aB.mp hp).1
  obtain⟨m,r1,r2⟩:=L.reach i (c.getD i (0,.none)).1 a (by simp[Array.getD,hi]) hp;have Y:T.mask=(({mask:=T.mask,place:=(live.map (·.1)).toArray,dummies:=#[],finger:=t.finger,led:=t.led,moves:=t.movedTo T.mask,plain:=t.plain}:SetTable)).mask:=rfl;refine⟨m,by rw[<-sF Y,<-uY Y];exact r1,λm' w=>?_⟩;rw[<-sF Y,<-uY Y];obtain⟨k',wb,QM⟩:=bS (r2 m' w);show _∈(live.map (·.1)).toArray.toList;rw[fT];exact az.mpr ⟨(_,k'),(u _ _).mpr (by rw[ao wb,QM]),rfl⟩
end xP
open L2 PySem.Spec PySem.Calls PySem.W xP
open PyProof.Rows hiding St K
def tK(h:Heap):Value->List Key
 |.ref b=>match h.get? b with
  |some o=>match o.data with
   |.seq items _=>items.toList.map vK
   |_=>[]
  |none=>[]
 |_=>[]
variable{prog:Program}{w:World}{A:Around}{E:jW}{s:Shared}
abbrev lZ(P:Program)(w:World)(h:Heap)(ks:List Key)(b:Addr):Prop:=IsTupleKey (j4 P w) h ks b
abbrev lu(P:Program)(w:World)(ks:List Key):Int:=tupleKeyHash (j4 P w) ks
def Ca{k}(h:(j4 prog w).is k v=true):RelV (kV k) v:=by
 have a:pF k v=true:=h;cases k with
 |inl i=>
  cases v with
  |int j t=>
   have e:j=i:=by simpa [pF,Value.isInt]using a
   exact⟨t,by rw[e]⟩
  |_=>exact absurd a (by simp[pF,Value.isInt])
 |inr x=>
  cases v with
  |str y t=>
   have e:y=x:=by simpa [pF,Value.isStrOf]using a
   exact⟨t,by rw[e]⟩
  |_=>exact absurd a (by simp[pF,Value.isStrOf])
def RQ(h:ItemsAre (j4 prog w) ks vs):vs.map vK=ks:=by
 induction h with
 |nil=>rfl
 |cons c _ a=>rw[aT,a,Ac<|Ca c]
def lZ.tK(x:lZ prog w h ks b):tK h (.ref b)=ks:=by obtain⟨o,a,n,c,_,i,d⟩:=x;unfold P2.tK;dsimp only;rw[c];dsimp only;rw[i];exact RQ d
def TK(P:Program)(w:World)(h:Heap)(v:Value):Prop:=∃b,v=.ref b/\lZ P w h (tK h v) b
def lZ.at'{h':Heap}(x:lZ prog w h ks b)(e:∀o,h.get? b=some o->h'.get? b=some o):lZ prog w h' ks b:=by obtain⟨o,a,n,c,r⟩:=x;exact⟨o,a,n,e o c,r⟩
def lZ.ne{t}(x:lZ prog w h ks b)(j:h.get? a=some o)(k:o.data=.set es ep t):b≠a:=by
 rintro rfl
 obtain⟨l,i,n,c,_,d,_⟩:=x;rw[j]at c;cases c;rw[k]at d;cases d
def qi(P:Program)(w:World)(h:Heap)(a:List<|Int×Value):Prop:=∀e∈a,TK P w h e.2/\e.1=lu P w (tK h e.2)
def lR(h:Heap)(a:List<|Int×Value):List (List Key):=a.map λe=>tK h e.2
def nj(P:Program)(w:World)(M:Value->Prop)(h:Heap)(a:Addr)(d:List<|List Key)(n:Nat):Prop:=
 ∃o c i t,h.get? a=some o/\o.ExactSet/\o.data=.set c i t/\qi P w h c.toList/\(∀e∈c.toList,M e.2)/\c.size<=n/\Tab t c.toList/\c.size*5<t.mask*3/\t.mask<=8100/\t.led=!(w.params.followText "set-order")/\(lR h c.toList).Nodup/\∀k,k∈lR h c.toList↔k∈d
def qi.at'{h':Heap}(x:qi prog w h es)(k:∀e∈es,∀b o,e.2=.ref b->h.get? b=some o->h'.get? b=some o):qi prog w h' es/\lR h' es=lR h es:=by
 have eq:∀e∈es,TK prog w h' e.2/\tK h' e.2=tK h e.2:=λe a=>by
  obtain⟨⟨b,d,tk⟩,_⟩:=x e a;have c:=tk.at' (λo j=>k e a b o d j);have i:tK h' e.2=tK h e.2:=by rw[d]at c⊢;exact c.tK
  exact⟨⟨b,d,by rw[i];exact c⟩,i⟩
 refine⟨λe a=>⟨(eq e a).1,by rw[(eq e a).2];exact(x e a).2⟩,?_⟩;unfold lR;exact cm λe a=>(eq e a).2
def nj.keep{h':Heap}{n}(x:nj prog w M h a jK n)(k:∀b o,h.get? b=some o->(∀c m,o.data=.seq c m->o.cls=.type "tuple"->True)->(b=a\/∃c m,o.data=.seq c m/\o.cls=.type "tuple")->h'.get? b=some o):nj prog w M h' a jK n:=by
 obtain⟨o,R,T,t,I,l,L,u,F,D,C,z,y,v,G,j⟩:=x;obtain⟨Q,r⟩:=u.at' (h':=h') λe J b ob U q=>by obtain⟨⟨Y,i,tk⟩,_⟩:=u e J;rw[U]at i;cases i;obtain⟨V,c,m,d,O,p,_⟩:=tk;rw[q]at d;cases d;exact k b ob q (λ_ _ _ _=>True.intro) (.inr ⟨c,m,p,O⟩)
 exact⟨o,R,T,t,k a o I (λ_ _ _ _=>True.intro)<|.inl rfl,l,L,Q,F,D,C,z,y,v,by rw[r];exact G,by rw[r];exact j⟩
def OE(n)(h:carriedByValue v=true):ofAClassStatement n v=pure false:=by
 cases v with
 |ref a=>simp[carriedByValue]at h
 |_=>first|rfl|simp[ofAClassStatement]|(unfold ofAClassStatement;rfl)
def Mu{Q:Bool->Shared->Prop}(k:lZ prog w s.heap ks b)(h:Q false s):wpAny (model prog w) A (ofAClassStatement 8<|.ref b) Q E s:=by
 have hT:=k.typeIs;obtain⟨o,d,n,l,_,p,m⟩:=k;unfold ofAClassStatement;refine ae (dZ hT ?_);dsimp only;rw[av<|by decide];refine ae (af ?_);simp only[fJ,bh,bL];refine ae (eX l p ?_);dsimp only;refine ae ?_;rw[<-Array.forIn_toList];refine gK _ (λrest r c=>r.1=none/\c=s/\∀v∈rest,carriedByValue v=true) _ ?_ ?_ _ _ ⟨rfl,rfl,m.byValue⟩
 ·rintro v rest r c ⟨j,rfl,a⟩
  rw[OE _<|a v bF];refine ae (af ?_);simp only[bh,bL];exact af ⟨rfl,rfl,λu i=>a u<|aZ _ i⟩
 ·rintro ⟨t,q⟩ c ⟨j,rfl,_⟩
  simp only at j;subst j;exact af h
def acs{Q:Bool->Shared->Prop}(k:lZ prog w s.heap ks b)(m:∀y∈ys,TK prog w s.heap y)(h:Q false s):wpAny (model prog w) A (searchCouldBeSeen (.ref b) ys) Q E s:=by
 unfold searchCouldBeSeen;refine ae ?_;refine gK _ (λrest r d=>r.1=none/\d=s/\∀y∈rest,TK prog w s.heap y) _ ?_ ?_ _ _ ⟨rfl,rfl,m⟩
 ·rintro y rest r d ⟨j,rfl,a⟩
  obtain⟨c,rfl,l⟩:=a y bF;dsimp only;refine aV (λ_=>af ⟨rfl,rfl,λu i=>a u<|aZ _ i⟩) (λ_=>?_);refine ae (wpAny_eqIsQuiet_tuple k ?_);simp only[fJ,bh,bL];refine ae (wpAny_eqIsQuiet_tuple l ?_);simp only[fJ,bh,bL];refine ae (Mu k ?_);simp only[bh,bL];refine ae (Mu l ?_);simp only[bh,bL];exact af ⟨rfl,rfl,λu i=>a u<|aZ _ i⟩
 ·rintro ⟨o,n⟩ d ⟨j,rfl,_⟩
  simp only at j;subst j;exact af h
def acr{Q:Bool->Shared->Prop}(k:lZ prog w s.heap ks b)(h:∀r,Q r s):wpAny (model prog w) A (hashByValue 8<|.ref b) Q E s:=by
 have hT:=k.typeIs;obtain⟨o,a,n,l,_,p,m⟩:=k;unfold hashByValue;refine ae (hD hT PySem.F.slot_tuple_hash.lookup ?_);dsimp only;refine ae (eX l p ?_);refine ae ?_;show wpAny _ _ (forIn a _ _) _ _ s;rw[<-Array.forIn_toList];refine gK _ (λrest r d=>r.1=none/\d=s/\∃c,ItemsAre (j4 prog w) c rest) _ ?_ ?_ _ _ ⟨rfl,rfl,ks,m⟩
 ·rintro v rest r d ⟨i,rfl,c,j⟩
  cases j with
  |cons t q=>
   rw[hashByValue_scannable _<|Ef<|Ca t];refine ae (af ?_);cases plainKind v with
   |true=>simp only[fJ,bh,bL];exact af ⟨rfl,rfl,_,q⟩
   |false=>simp only[iE,dr];exact af (af<|h false)
 ·rintro ⟨x,u⟩ d ⟨i,rfl,_⟩
  simp only at i;subst i;exact af (h true)
def RK{Q:Bool->Shared->Prop}(h:Q true s):wpAny (model prog w) A (isSame (.ref b)<|.ref b) Q E s:=by unfold isSame;dsimp only;refine aV (λ_=>af h) (λa=>absurd (gy b) a)
def Bo{h:Heap}{c:Array<|Int×Value}(d:qi prog w h c.toList){i:Nat}{e:Int×Value}(a:c[i]?=some e):TK prog w h e.2/\e.1=lu prog w (tK h e.2):=
 d e (by rw[<-bc]at a;exact bf a)
def So{h:Heap}{c:Array<|Int×Value}{i:Nat}{e:Int×Value}(a:c[i]?=some e):tK h e.2∈lR h c.toList:=by unfold lR;rw[<-bc]at a;exact az.mpr ⟨e,bf a,rfl⟩
def acX{t:SetTable}{d:Array<|Int×Value}{i j:Nat}{e:Int×Value}(c:t.place[i]?=some j)(a:d[i]?=some e):(j,e)∈List.zip t.place.toList d.toList:=by rw[<-bc]at c a;exact bf (i:=i) (by rw[List.getElem?_zip_eq_some];exact⟨c,a⟩)
def aaL{a b:Addr}{d:List Key}{o:Obj}{l:Array<|Int×Value}{ep:Nat}{t:SetTable}{Q:SetFound->Shared->Prop}(hx:lZ prog w s.heap d b)(hu:A.units<cLine)(ho:s.heap.get? a=some o)(hd:o.data=.set l ep t)(el:qi prog w s.heap l.toList)(G:Tab t l.toList)(hm:t.mask<=8100)
    (hin:d∈lR s.heap l.toList->Q (.there none) s)(T:∀j,j∉t.place.toList->j<=t.mask->vy t (lu prog w d) j->d∉lR s.heap l.toList->Q (.free j false) s):
    wpAny (model prog w) A (setSearch a (.ref b) (lu prog w d) true) Q E s:=by
 have hf:t.fits l.size=true:=by have:=G.fits;rw[aC]at this;exact this
 have R:t.place.size=l.size:=by rw[G.sz,aC]
 obtain⟨em,QA,QB⟩:=G.room;obtain⟨kk,_,QO⟩:=G.k;have I:=KZ t (lu prog w d);obtain⟨C,Qf,Qg⟩:=Gg QO I.b I.r QA;have Iz:(jR t C<|t.probeStart<|lu prog w d).j∉t.place.toList:=by rw[Qg];exact QB
 have go:∀(k c:Nat) (v:Option SetTable.Probe),v.getD (t.probeStart<|lu prog w d)=jR t c (t.probeStart<|lu prog w d)->c<=C->C - c<k->
  (∀m,m<c->∃(i:Nat) (e:Int×Value),t.place[i]?=some (jR t m<|t.probeStart<|lu prog w d).j/\l[i]?=some e/\tK s.heap e.2≠d)->wpAny (model prog w) A (setSearchFrom a (.ref b) (lu prog w d) true k v) Q E s:=by
  intro k;induction k with
  |zero=>intro c st _ _ h;exact absurd h (cW _)
  |succ k ih=>
   intro c v hs hc hfu old;obtain⟨m,g1,g2⟩:=W0 G (λi=>(l[i]?.map (·.1)).getD 0) (lu prog w d) (oH.jR c I);have wy:∀n,n<m->∃(i:Nat) (e:Int×Value),t.place[i]?=some (jR t (c+n)<|t.probeStart<|lu prog w d).j/\l[i]?=some e/\tK s.heap e.2≠d:=λn Y=>by
    obtain⟨i,L,h2⟩:=g1 n Y;rw[<-qR]at L;have V:i<l.size:=by rw[<-R];exact(br.mp L).1
    have F:=aJ V;refine⟨i,l[i],L,F,λz=>h2 ?_⟩;rw[F];show l[i].1=_;rw[(Bo el F).2,z]
   have x:∀n,n<c+m->∃(i:Nat) (e:Int×Value),t.place[i]?=some (jR t n<|t.probeStart<|lu prog w d).j/\l[i]?=some e/\tK s.heap e.2≠d:=λn Y=>by
    by_cases z:n<c;·exact old n z
    ·obtain⟨m2,rfl⟩:∃m2,n=c+m2:=⟨n - c,by omega⟩;exact wy m2 (by omega)
   have Z:∀n,(∃(i:Nat) (e:Int×Value),t.place[i]?=some (jR t n<|t.probeStart<|lu prog w d).j/\l[i]?=some e/\tK s.heap e.2≠d)->(jR t n<|t.probeStart<|lu prog w d).j∈t.place.toList:=λn ⟨i,e,L,_⟩=>by rw[<-bc]at L;exact bf L
   have hcm:c+m<=C:=Nat.le_of_not_lt λz=>Iz (Z C<|x C z);rw[<-qR,<-qR,<-hs]at g2;unfold setSearchFrom;refine ae (bW ho hd hf ?_);dsimp only;refine aV (λv8=>absurd v8 (by rw[G.odd];decide)) (λ_=>?_);rcases g2 with⟨M,g4⟩|⟨i,M,g4,g5,g6⟩
   ·split
    ·rename_i met p;have e:=g4.symm.trans p;cases e;dsimp only;refine af (T _ M (by have:=(oH.jR (c+m) I).j;omega) ⟨c+m,rfl,λn Y=>Z n (x n Y)⟩ λhk=>?_);unfold lR at hk;obtain⟨e,F,ek⟩:=az.mp hk;obtain⟨i,V,ei⟩:=bS F;have QH:i<l.size:=by simpa using V
     have IK:i<t.place.size:=by rw[R];exact QH
     have U:l[i]?=some e:=by rw[<-bc,ao V,ei]
     have IT:t.place[i]?=some t.place[i]:=aJ IK;obtain⟨m1,r1,r2⟩:=G.reach _ _ (acX IT U);have eh:e.1=lu prog w d:=by rw[(Bo el U).2,ek]
     rw[eh]at r1 r2;rcases eS m1 (c+m)with q|q|q
     ·obtain⟨D,e',L,h2,h3⟩:=x m1 q;rw[r1]at L;have:D=i:=by
       have QI:=(br.mp L);obtain⟨l1,l2⟩:=QI;rcases eS D i with q2|q2|q2;·have:=G.pQ.lt q2 IK;omega
       ·exact q2
       ·have:=G.pQ.lt q2 l1;omega
      subst this;rw[U]at h2;cases h2;exact h3 ek
     ·subst q;exact M (by rw[r1,<-bc]at*;exact bf IT)
     ·exact M (r2 _ q)
    ·rename_i p;exact(p _ g4).elim
   ·split
    ·rename_i met p;have e:=g6.symm.trans p;cases e;dsimp only;have V:i<l.size:=by rw[<-R];exact(br.mp M).1
     have F:l[i]?=some l[i]:=aJ V;obtain⟨⟨y,ey,hy⟩,_⟩:=Bo el F
     have rest:wpAny (model prog w) A (do
      let r<-holding [l[i].2] (eqBool l[i].2 (.ref b))
      let(es',_,t')<-setState a
      if true&&r then return .there none
      let some Ez:=t'.sameMemory t.moves t.mask|unsupported "set.changed-during-lookup:is-the-new-block-at-the-old-address"
      let u<-match(if Ez then t'.slot (jR t (c+m)<|t.probeStart<|lu prog w d).j else .empty)with
       |.live D=>match es'[D]? with
        |some (_,y')=>do pure (if<-isSame y' l[i].2 then some D else none)
        |none=>pure none
       |_=>pure none
      match u with
      |none=>rule "set.search.anew";setSearchFrom a (.ref b) (lu prog w d) true k none
      |some D=>if r then return .there (some D)else setSearchFrom a (.ref b) (lu prog w d) true k (some (jR t (c+(m+1)) (t.probeStart (lu prog w d))))) Q E s:=by
      rw[ey]at hy⊢;refine ae (bD<|wpAny_eqBool_tuple hu hy hx ?_);refine ae (bW ho hd hf ?_);dsimp only;by_cases J:tK s.heap (.ref y)=d
      ·rw[aO J];refine aV (λ_=>af<|hin ?_) (λz=>absurd rfl z);have:=So (h:=s.heap) F;rw[ey,J]at this;exact this
      ·rw[aI J];refine aV (λz=>absurd z<|by decide) (λ_=>?_);have sm:t.sameMemory t.moves t.mask=some true:=by unfold SetTable.sameMemory;simp
       rw[sm];dsimp only;rw[av rfl,g4];dsimp only;rw[F];dsimp only;rw[ey];refine ae (RK<|ae<|af ?_);rw[av rfl];dsimp only;refine aV (λz=>absurd z<|by decide) (λ_=>?_);have IM:c+(m+1)<=C:=by
        rcases gT (c+m) C with q|q;·omega
        ·have:c+m=C:=by omega
         rw[this]at M;rw[<-bc]at M;exact absurd (bf M) Iz
       refine ih (c+(m+1)) _ rfl IM (by omega) λn Y=>?_;rcases gT n (c+m)with q|q;·exact x n q
       ·have:n=c+m:=by omega
        subst this;exact⟨i,l[i],M,F,by rw[ey];exact J⟩
     have O:wpAny (model prog w) A (do
      let some (_,y):=l[i]?|unsupported "internal:set-entry"
      let r<-holding [y] (eqBool y<|.ref b)
      let(es',_,t')<-setState a
      if true&&r then return .there none
      let some Ez:=t'.sameMemory t.moves t.mask|unsupported "set.changed-during-lookup:is-the-new-block-at-the-old-address"
      let u<-match(if Ez then t'.slot (jR t (c+m)<|t.probeStart<|lu prog w d).j else .empty)with
       |.live D=>match es'[D]? with
        |some (_,y')=>do pure (if<-isSame y' y then some D else none)
        |none=>pure none
       |_=>pure none
      match u with
      |none=>rule "set.search.anew";setSearchFrom a (.ref b) (lu prog w d) true k none
      |some D=>if r then return .there (some D)else setSearchFrom a (.ref b) (lu prog w d) true k (some (jR t (c+(m+1)) (t.probeStart (lu prog w d))))) Q E s:=by
      rw[F];exact rest
     refine aV (λ_=>?_) (λ_=>O);refine ae (acs hx (λy' hy'=>?_) ?_)
     ·obtain⟨e,IH,rfl⟩:=az.mp hy';have:e∈l.toList:=by
       rw[Array.toList_filter]at IH;exact(bT.mp IH).1
      exact(el e this).1
     ·refine aV (λz=>absurd z<|by decide) (λ_=>O)
    ·rename_i p;exact(p _ g6).elim
 unfold setSearch;refine go 100000 0 none rfl (bQ _) ?_ λm h=>absurd h (cW _);unfold SetTable.turns at Qf;omega
def HK{h:Heap}(j:h.get? a=some o)(l:o.data=.set es0 ep t0)(d:qi prog w h es)(i:Heap.SameBut a h h'):qi prog w h' es/\lR h' es=lR h es:=
 d.at' λe k b ob n m=>by obtain⟨⟨p,c,tk⟩,_⟩:=d e k;rw[n]at c;cases c;rw[i.2 b<|tk.ne j l];exact m
def aaj{t n}{Q:Unit->Shared->Prop}(l:s.heap.get? a=some o)(p:o.data=.set es ep t)(hf:t.fits es.size=true)(m:n<10^6)(u:4*es.size<=n)
 (h:∀(c:Array<|Int×Value) t',c.toList.Perm es.toList->Tab t' c.toList->t'.led=t.led->n<=t'.mask->t'.mask<=2*n+7->Q () {s with heap:=s.heap.update a<|Obj.putSet c t'}):
   wpAny (model prog w) A (setRelay a n) Q E s:=by
  obtain⟨k,_,z,C,y⟩:=LL n m;obtain⟨t',d,e,j,q,x,D,v,r⟩:=aai t es n m u;unfold setRelay;refine ae (bW l p hf ?_);dsimp only;refine aV (λi=>absurd i (by rw[dB];omega)) (λ_=>?_);rw[e];have sz:(d.filterMap (es[·]?)).size=es.size:=by rw[<-aC,j.length_eq,aC]
  refine ae ?_
  show wpAny _ _ (do
   let c:=d.filterMap (es[·]?)
   if c.size !=es.size then unsupported "internal:set-table-lost-an-element"
   pure (c,t')) _ _ s
  dsimp only;refine aV (λi=>absurd i<|by rw[sz];simp) (λ_=>af ?_);dsimp only;refine eV l p (h _ t' j q x v r) (by rw[sz,dB];omega)
def NL{M:Value->Prop}{n}{Q:Bool->Shared->Prop}(hx:lZ prog w s.heap ks b)(hu:A.units<cLine)(hM:M<|.ref b)(hS:nj prog w M s.heap a jK n)(hroom:n+1<=1000)
 (h:∀r h',Heap.SameBut a s.heap h'->nj prog w M h' a (ks::jK) (n+1)->Q r {s with heap:=h'}):
   wpAny (model prog w) A (setAddHashed a (.ref b)<|lu prog w ks) Q E s:=by
  obtain⟨o,y,ep,t,U,hex,G,el,hin,hn,tb,BK,i,u,pK,q⟩:=hS;have hf:t.fits y.size=true:=by have:=tb.fits;rw[aC]at this;exact this
  have m7:=tb.m7;unfold setAddHashed setAddHashedIn;refine bD (ae<|bW U G hf ?_);dsimp only;refine aV (λv8=>absurd v8<|by unfold byScan;simp[Value.scannable]) (λ_=>?_);refine ae (aaL hx hu U G el tb i (λhk=>?_) λj hj hl hr hk=>?_)
  ·dsimp only;refine af ?_;have e:s={s with heap:=s.heap}:=by cases s;rfl
   have:=h false s.heap (Heap.SameBut.refl a s.heap) ⟨o,y,ep,t,U,hex,G,el,hin,by omega,tb,BK,i,u,pK,λR=>by rw[q R,aE];exact⟨.inr,λz=>z.elim (λz=>by rw[z];exact(q ks).mp hk) id⟩⟩
   rw[e];exact this
  ·dsimp only;refine ae (bW U G hf ?_);dsimp only;obtain⟨k,em,I,_⟩:=tb.put (x:=.ref b) (by omega) hj hl hr;generalize adk:t.put j=pt at k em I⊢;obtain⟨t1,p⟩:=pt;dsimp only at k em I⊢;have l:=insertAt_perm y p (lu prog w ks,Value.ref b);generalize adi:SetTable.insertAt y p (lu prog w ks,Value.ref b)=mh at k l⊢;have Z:mh.size=y.size+1:=by rw[<-aC,l.length_eq,aj,aC]
   have HL:qi prog w s.heap mh.toList:=λe v=>by
    rcases aE.mp (l.mem_iff.mp v)with rfl|v;·exact⟨⟨b,rfl,by rw[hx.tK];exact hx⟩,by rw[hx.tK]⟩
    ·exact el e v
   have V:∀e∈mh.toList,M e.2:=λe v=>by
    rcases aE.mp (l.mem_iff.mp v)with rfl|v;·exact hM
    ·exact hin e v
   have kp:(lR s.heap mh.toList).Perm (ks::lR s.heap y.toList):=by have:=l.map λe=>tK s.heap e.2;rw[aT,hx.tK]at this;exact this
   have L:(lR s.heap mh.toList).Nodup:=kp.nodup_iff.mpr (bB.mpr ⟨hk,pK⟩);have O:∀R,R∈lR s.heap mh.toList↔R∈ks::jK:=λR=>by rw[kp.mem_iff,aE,aE,q R]
   have J:∀(c:SetTable),Tab c mh.toList->c.mask=t.mask->c.led=t.led->wpAny (model prog w) A (do
    storeSet a mh c
    if(!false&&c.tooFull)=true then setRelay a (SetTable.grown<|y.size+1)
    return true) Q E s:=λc C Pj HI=>by
    refine ae (eV U G ?_ (by rw[Z,dB];omega));have wc:(s.heap.update a<|Obj.putSet mh c).get? a=some {o with data:=.set mh (ep+1) c}:=by have:=a9 (Obj.putSet mh c) U (by rw[fF mh c G];rfl);rw[fF mh c G]at this;exact this
    have m:=bw s.heap a (Obj.putSet mh c);obtain⟨Pf,ka⟩:=HK U G HL m;have QD:c.fill=y.size+1:=by unfold SetTable.fill;rw[C.oM,C.sz,aC,Z];rfl
    have fin:∀(F:¬(c.tooFull=true)),nj prog w M (s.heap.update a<|Obj.putSet mh c) a (ks::jK) (n+1):=λF=>by refine⟨_,mh,_,c,wc,hex,rfl,Pf,V,by omega,C,?_,by rw[Pj];exact i,by rw[HI];exact u,by rw[ka];exact L,by rw[ka];exact O⟩;unfold SetTable.tooFull at F;rw[QD]at F;rw[Z];simp at F;omega
    by_cases BJ:c.tooFull=true
    ·rw[BJ];simp only[iE,Bool.and_true,dr];have g4:SetTable.grown (y.size+1)=4*(y.size+1):=by
      unfold SetTable.grown;rw[aw<|by omega];omega
     rw[g4];refine ae (aaj (s:={s with heap:=s.heap.update a<|Obj.putSet mh c}) wc rfl (by have:=C.fits;rw[aC]at this;exact this) (by omega) (by omega) λd Y D tb3 Pe hm3 hm4=>af ?_);have BQ:((s.heap.update a<|Obj.putSet mh c).update a (Obj.putSet d Y)).get? a=some {o with data:=.set d (ep+1+1) Y}:=by have:=a9 (Obj.putSet d Y) wc (by rw[fF d Y rfl];rfl);rw[fF d Y rfl]at this;exact this
     have T:=m.trans (bw (s.heap.update a<|Obj.putSet mh c) a<|Obj.putSet d Y);have Ph:qi prog w s.heap d.toList:=λe v=>HL e (D.mem_iff.mp v);obtain⟨Pg,kb⟩:=HK U G Ph T;have Jt:(lR s.heap d.toList).Perm (lR s.heap mh.toList):=D.map _;have sz2:d.size=mh.size:=by rw[<-aC,D.length_eq,aC]
     exact h true _ T ⟨_,d,_,Y,BQ,hex,rfl,Pg,λe v=>V e<|D.mem_iff.mp v,by omega,tb3,by omega,by omega,by rw[Pe,HI];exact u,by rw[kb];exact Jt.nodup_iff.mpr L,λR=>by rw[kb,Jt.mem_iff];exact O R⟩
    ·have QE:c.tooFull=false:=by simpa using BJ
     rw[QE];simp only[f9,bh,bL];exact ae (af<|af<|h true _ m<|fin BJ)
   refine aV (λhp=>ae<|acr hx λr=>?_) (λhp=>ae<|af ?_)
   ·refine J _ ?_ ?_ ?_
    ·split;·exact k
     ·exact k.off false
    ·split<;>exact em
    ·split<;>exact I
   ·simp only[dr];exact J t1 k em I
def nj.kp{prog:Program}{w:World}{M:Value->Prop}{h r:Heap}{a:Addr}{d:List<|List Key}{n:Nat}{l:List Addr}(x:nj prog w M h a d n)(p:∀b∈l,b≠a/\∀o c m,h.get? b=some o->o.data=.seq c m->o.cls=.type "tuple"->False)(k:∀b o,b∉l->h.get? b=some o->r.get? b=some o):nj prog w M r a d n:=
 x.keep λb o q _ j=>k b o (λi=>by
  rcases j with rfl|⟨c,m,h1,h2⟩;· exact(p _ i).1 rfl
  · exact(p b i).2 o c m q h1 h2) q
variable{R:Result->Shared->Prop}{I:Addr}{fp wr:List Addr}{G:Array GenState->Array GenState->Prop}{n:Nat}{P:Nat->Value->Prop}{St:Nat->Shared->Prop}
def aaU{M:Value->Prop}(W:WalksS prog w A.in1 I fp wr G n P St)(S:Addr)(U:S∉fp)(hu:A.units+1<cLine)(h0:Heap)
    (val:Nat->List Key)(F:∀i v,P i v->∃b,v=.ref b/\b∉S::wr/\M (.ref b)/\lZ prog w h0 (val i) b)(a:n+1<=1000)(O:∀i s,St i s->∀b∈wr,∀o rO m,s.heap.get? b=some o->o.data=.seq rO m->o.cls=.type "tuple"->False):
    ∀(k i:Nat) (s:Shared) (q:List<|List Key),n - i=k->i<=n->St i s->(∀b o,b∉S::wr->h0.get? b=some o->s.heap.get? b=some o)->nj prog w M s.heap S q i->(∀x,x∈q↔x∈(List.range i).map val)->
     (∀c C,Moved (S::wr) G s c->nj prog w M c.heap S C n->(∀x,x∈C↔x∈(List.range n).map val)->R (.ok<|.ret .none) c)->
     codeAny (model prog w) A (.builtin "set.update.loop" ⟨[.ref S,.ref I],[]⟩) R s:=by
 have hSw:S∉wr:=λh=>U (W.sub _ h);have j:∀b∈wr,b∈S::wr:=λb a=>aZ _ a;have u:∀b∈wr,b≠S:=λb a e=>hSw (by rw[<-e];exact a);intro k;induction k with
 |zero=>
  intro i s q hk hi l Y hS hm hR;have hin:i=n:=by omega
  subst hin;refine b7 ck ?_;rw[bX bE _];show wpAny _ A.in1 (pyNext (.ref I)>>=_) _ _ s;refine ae (W.done s _ _ l λc d=>?_);show wpAny _ A.in1 (ret Value.none) _ _ c;exact af (hR c q (d.mono j) (hS.kp (λb a=>⟨u b a,O _ s l b a⟩) d.heap) hm)
 |succ k ih=>
  intro i s q hk hi l Y hS hm hR;have T:i<n:=by omega
  refine b7 ck ?_;rw[bX bE _];show wpAny _ A.in1 (pyNext (.ref I)>>=_) _ _ s;refine ae (W.item i s _ _ T l λv c hP L d=>?_);obtain⟨b,rfl,BH,hM,Rk⟩:=F i v hP;have p:∀b o,b∉S::wr->h0.get? b=some o->c.heap.get? b=some o:=λb o a e=>d.heap b o (λz=>a<|j b z) (Y b o a e);have hx:lZ prog w c.heap (val i) b:=Rk.at' λo e=>p b o BH e;have v7:nj prog w M c.heap S q i:=hS.kp (λb a=>⟨u b a,O _ s l b a⟩) d.heap;show wpAny _ A.in1 (holding [.ref b] (setAdd S<|.ref b)>>=_) _ _ c;refine ae (bD ?_);unfold setAdd;refine bD ?_;have J:A.in1.units<cLine:=by rw[fG];exact hu
  refine ae (wpAny_pyHash_tuple J hx ?_);refine NL (s:={c with toks:=c.toks+((val i).length+1)}) hx J hM v7 (by omega) λr h' t Qn=>?_;refine af ⟨dJ bE _,ih (i+1) _ (val i::q) (by omega) T (W.frame _ c _ _ L (cA _ _) λb a o e=>?_) (λb o a e=>?_) Qn (λx=>?_) λZ y Q V D=>?_⟩;·rw[t.2 b (λh:b=S=>U<|by rw[<-h];exact a)];exact e
  ·show h'.get? b=some o;rw[t.2 b (λh:b=S=>a<|by rw[h];exact bF)];exact p b o a e
  ·rw[List.range_succ,bq,aW,aE,hm x];show x=val i\/_↔_\/x∈[val i];rw[aM];exact or_comm
  ·refine hR Z y (Moved.trans W.gtrans ((d.mono j).then_heap (cA _ _) λb o a e=>?_) Q) V D;rw[t.2 b (λh:b=S=>a<|by rw[h];exact bF)];exact e
def aaQ{h:Heap}(e:h.get? a=some (l6 w)):nj prog w M h a [] 0:=
 ⟨_,#[],0,_,e,⟨rfl,rfl,rfl⟩,rfl,λe c=>(by simp at c),λe c=>(by simp at c),ah _,abT _ _ _,(show 0*5<7*3 by decide),(show 7<=8100 by decide),rfl,by unfold lR;exact .nil,λk=>by unfold lR;simp⟩
def GX{jK:List<|List Key}{Q:jW}(hh:A.handled=none)(hu:A.units+64<cLine)(hl:s.heap.IsList l items)(T:items.size=jK.length)(hi:∀i v,items[i]?=some v->∃b,v=.ref b/\lZ prog w s.heap (jK.getD i []) b)(u:items.size+1<=1000)
 (h:∀d tk q,nj prog w (λv=>v∈items.toList) d s.heap.objs.size q items.size->(∀x,x∈q↔x∈jK)->
 (∀b o,b<s.heap.objs.size->s.heap.get? b=some o->d.get? b=some o)->Q (.ref s.heap.objs.size) {s with heap:=d,toks:=tk}):
   wpAny (model prog w) A (call (.type "set") [.ref l]) Q E s:=by
  obtain⟨c,tl,Q1⟩:=PySem.F.called_set.mro;have QY:=PySem.F.called_set.made;have hsub:=PySem.F.called_set.sub;refine iF (hI ?_);show wpAny _ _ (callAny (.type "set") _) _ _ _;refine af ⟨fY _<|by decide+kernel,b7 gH ?_⟩;rw[Around.under_plain (weight_type_call_type "set" [.ref l] []) rfl];have h1:=PySem.F.called_set.notType;have h2:=PySem.F.called_set.canCreate;have Qy:=gU (.ref l);repeat(any_goals(first|assumption|wp_step))
  refine dD (G6 (.ref l) (E:=E) (Q₁:=λD p=>D=.ref s.heap.objs.size/\p={s with heap:=s.heap.push<|l6 w}) ⟨rfl,rfl⟩) λr p hr=>?_;cases r with
  |error e=>exact hr
  |ok fl=>
   cases fl with
   |ret D=>
    obtain⟨rfl,rfl⟩:=hr;have hS:(s.heap.push<|l6 w).get? s.heap.objs.size=some (l6 w):=aG _ rfl;have hT:Shared.TypeIs {s with heap:=s.heap.push<|l6 w} (.ref s.heap.objs.size) "set":=⟨_,hS,rfl⟩;have QT:=PySem.F.called_set.init.lookup;have Qw:=PySem.F.called_set.init.bind (.ref s.heap.objs.size);repeat(any_goals(first|assumption|wp_step))
    refine dD (dW (R:=wants (λr k=>r=.none/\∃d tk q,k={s with heap:=d,toks:=tk}/\nj prog w (λv=>v∈items.toList) d s.heap.objs.size q items.size/\(∀x,x∈q↔x∈jK)/\
     (∀b o,b<s.heap.objs.size->s.heap.get? b=some o->d.get? b=some o)) E) PySem.F.called_set.init.plain gX (check_set_init_1 hT ?_)) λC k a=>?_
    ·obtain⟨ol,L,Z,nl,Y⟩:=hl;obtain⟨UW,t,UY,j⟩:=ol;simp only at Z Y;subst Z;subst Y;have J:(s.heap.push<|l6 w).get? l=some {cls:=.type "list",dict:=t,data:=.seq items nl,slots:=j}:=ag _ L;have Rg:=ip;have Rf:=f7;have hne:(Value.type "list"==Value.type "dict")=false:=by decide
     have V:(s.heap.push<|l6 w).IsList l items:=⟨_,J,rfl,nl,rfl⟩;unfold Builtin.«set.__init__» noKeywords Builtin.Frozenset.updateFrom;generalize BD:pyIter=PI
     wp_walk
     subst BD;refine eN V ?_;refine ae (iq ?_);have U:l<s.heap.objs.size:=Heap.lt_size L;have v9:A.in1.in1.in1.handled=none:=by simp[hh]
     have O:l≠(s.heap.push<|l6 w).objs.size:=by rw[bY];exact aR (bN U)
     have hSf:s.heap.objs.size∉[(s.heap.push<|l6 w).objs.size,l]:=by rw[bY];simp only[aE,aM,bU,dU,iG];exact⟨aR<|b8 _,da U⟩
     have F:∀(i:Nat) (v:Value),items[i]?=some v->∃b,v=.ref b/\b∉[s.heap.objs.size,(s.heap.push<|l6 w).objs.size]/\(Value.ref b)∈items.toList/\lZ prog w s.heap ((λi=>jK.getD i []) i) b:=λi v hv=>by
      obtain⟨b,rfl,tk⟩:=hi i v hv;have IF:b<s.heap.objs.size:=by obtain⟨o,_,_,ho,_⟩:=tk;exact Heap.lt_size ho
      refine⟨b,rfl,?_,by rw[<-bc]at hv;exact bf hv,tk⟩;rw[bY];simp only[aE,aM,bU,dU,iG];exact⟨aR IF,aR<|bN IF⟩
     refine aaU ((Walks.list v9 _ l O items).toS) s.heap.objs.size
      hSf (by simp only[fG];omega) s.heap (λi=>jK.getD i []) F u ?hnt (items.size - 0) 0 _ [] (by omega) (bQ _)
      ⟨⟨_,aG _ rfl,rfl,rfl⟩,(V.push _)⟩ (λb o _ e=>ag _<|ag _ e) ?hS0 (λx=>by simp) ?hR
     case hnt=>intro i s3 we b u o rO m ho hd hc;rw[aM]at u;subst u;obtain⟨⟨o',M,IG,_⟩,_⟩:=we;rw[ho]at M;cases M;rw[hc]at IG;exact absurd IG (by simp)
     case hS0=>exact aaQ (ag _ hS)
     case hR=>
      intro s' q hm y BL;obtain⟨d,g',d',xg,wH⟩:=s';have eg:g'=s.gens:=hm.gens;have ed:d'=s.drawn:=hm.drawn;have eo:wH=s.os:=hm.os;subst eg;subst ed;subst eo;show wpAny _ _ _ _ _ _;refine af ?_;show wpAny _ _ (ret Value.none) _ _ _;refine af ⟨rfl,d,xg,q,rfl,y,λx=>?_,λb o u e=>?_⟩
      ·rw[BL x,T];have e2:(List.range jK.length).map (λi=>jK.getD i [])=jK:=BA jK [];rw[e2]
      ·have uz:b≠s.heap.objs.size:=aR u;have BG:b≠(s.heap.push<|l6 w).objs.size:=by
        rw[bY];exact aR (bN u)
       exact hm.heap b o (by simp only[aE,aM,bU,dU,iG];exact⟨uz,BG⟩) (ag _<|ag _ e)
    ·cases C with
     |error e=>exact a
     |ok z=>
      cases z with
      |ret r=>
       obtain⟨rfl,d,tk,q,rfl,y,wa,BN⟩:=a;repeat(any_goals(first|assumption|wp_step))
       exact h _ _ _ y wa BN
      |_=>exact a.elim
   |_=>exact hr.elim
end P2
namespace PySem
open Sem (wp)
def P5{w}{A:Around}{s:Shared}{k}{Q:Option Value->Shared->Prop}
 (r:s.heap.get? a=some o)(u:o.cls=.type "list")(i:o.data=.seq xs k)(t:o.dict=none)(l:typeLookup (.type "list") name=pure none)(j:(["__module__","__name__","__qualname__","__doc__","__annotations__"]:List Str).contains name=false)(z:A.handled=none)
 (h:∀q tk e,Heap.NewExcOf s.heap q e "AttributeError"->Q none {s with heap:=q,toks:=tk})(p:name.length+100<=sizeLine):
   wpAny (model prog w) A (getAttr? (.ref a) name) Q E s:=by
  obtain⟨c,C,D,v⟩:=o;simp only at u i t;subst u i t;obtain⟨y,g,d,tk,x⟩:=s;have hT:∀m,(⟨y,g,d,m,x⟩:Shared).TypeIs (.ref a) "list":=λ_=>⟨_,r,rfl⟩;have R:=sub_AttributeError;have O:=F.slot_list_getattribute.lookup;have M:=F.slot_list_getattribute.bind (.ref a);have L:=am_list_getattr_none;unfold getAttr? getAttrBy? getAttrBy;repeat(any_goals(first|assumption|exact hT _|((with_reducible show wpAny _ _ (call (Value.builtin "list.__getattribute__") _ _) _ _ _);refine call_meets F.slot_list_getattribute (hT _) am_entry_list_getattribute (F.args_list_getattribute_2 _ _) (meets_getattribute_miss_list a xs k v name _ l j p) ⟨r,z,λq m e n=>?_⟩)|wp_step))
  obtain⟨I,G,J⟩:=n.there;show wpAny _ _ (getattributeRaised _ _ _ _ _ _ _) _ _ _;unfold getattributeRaised;repeat(any_goals(first|assumption|wp_step))
  exact h _ _ _ n.of
end PySem
namespace P2
open PySem L2 PySem.Spec PySem.Calls PySem.W xP
open PyProof.Rows hiding St K
def HN:entryFor table "dict.update.loop"=some Builtin.«dict.update.loop»:=entryFor_of_tree (by kernel_rfl)
def zG:plainId "dict.update.loop"=true:=by decide+kernel
def O0{w}{h i:Heap}(x:h.DictOfH (tupleKind (j4 prog w)) a xs)(k:∀b o,(b=a\/∃p∈xs,p.2.1=b)->h.get? b=some o->i.get? b=some o):i.DictOfH (tupleKind (j4 prog w)) a xs:=by obtain⟨o,D,F,u,t,r,m,l,j⟩:=x;refine⟨o,D,F,k a o (.inl rfl) u,t,r,m,λp d=>?_,j⟩;obtain⟨q,c,n,C,z,y,v⟩:=l p d;exact⟨q,c,n,k _ _ (.inr ⟨p,d,rfl⟩) C,z,y,v⟩
variable{f:Program}{w:World}{A:Around}{R:Result->Shared->Prop}{I:Addr}{y wr:List Addr}{G:Array GenState->Array GenState->Prop}{n:Nat}{P:Nat->Value->Prop}{St:Nat->Shared->Prop}
def AS(f:Program)(w:World)(h:Heap)(a:List Addr)(x:List Key×Addr×Value)(b:Addr):Prop:=
 b∉a/\x.2.1∉a/\(∃o m,h.get? b=some o/\o.cls=.type "tuple"/\o.data=.seq #[.ref x.2.1,x.2.2] m)/\(tupleKind<|j4 f w).is h x.1 x.2.1
def O1(W:WalksS f w A.in1 I y wr G n P St)(S)(hSf:S∉y)(hu:A.units+1<cLine)(h0){rs}
 (val:Nat->List Key×Addr×Value)(Y:∀i v,P i v->∃b,v=.ref b/\AS f w h0 (S::wr) (val i) b)(r:n<=sizeLine)(J:Nat->List (List Key×Addr×Value)->Prop)
 (hJ:∀i a,i<n->J i a->J (i+1) (storedH a (val i).1 (val i).2.1 (val i).2.2))(yR:∀i a,J i a->a.length<=i/\∀p∈a,p.2.1∉S::wr):
   ∀k i s t a,n - i=k->i<=n->St i s->(∀b o,b∉S::wr->h0.get? b=some o->s.heap.get? b=some o)->s.heap.DictOfH (tupleKind<|j4 f w) S a->J i a->
    (∀d Q,Moved (S::wr) G s d->d.heap.DictOfH (tupleKind<|j4 f w) S Q->J n Q->R (.ok<|.ret rs) d)->
    codeAny (model f w) A (.builtin "dict.update.loop" ⟨[.ref S,.ref I,.int (i:Int) t,rs],[]⟩) R s:=by
  have hSw:S∉wr:=λh=>hSf (W.sub _ h);have l:∀b∈wr,b∈S::wr:=λb r=>aZ _ r;have U:∀{i:Nat} {a:List (List Key×Addr×Value)} {s d:Shared},J i a->s.heap.DictOfH (tupleKind (j4 f w)) S a->Moved wr G s d->d.heap.DictOfH (tupleKind (j4 f w)) S a:=λj hd hm=>O0 hd λb o r e=>hm.heap b o (λz=>by
   rcases r with rfl|⟨p,hp,rfl⟩;· exact hSw z
   · exact(yR _ _ j).2 p hp (l _ z)) e
  intro k;induction k with
  |zero=>
   intro i s t a hk hi C Iy hS M hR;have hin:i=n:=by omega
   subst hin;refine b7 HN ?_;rw[bX zG _];show wpAny _ A.in1 (pyNext (.ref I)>>=_) _ _ s;refine ae (W.done s _ _ C λd u=>?_);show wpAny _ A.in1 (Builtin.Dict.addKeywords S []>>=_) _ _ d;refine ae (af ?_);exact af (hR d a (u.mono l) (U M hS u) M)
  |succ k ih=>
   intro i s t a hk hi C Iy hS M hR;have F:i<n:=by omega
   refine b7 HN ?_;rw[bX zG _];show wpAny _ A.in1 (pyNext (.ref I)>>=_) _ _ s;refine ae (W.item i s _ _ F C λv d hP Z u=>?_);obtain⟨b,rfl,BH,QP,⟨o,m,ho,hc,hd⟩,BO⟩:=Y i v hP;have x:∀b o,b∉S::wr->h0.get? b=some o->d.heap.get? b=some o:=λb o r e=>u.heap b o (λz=>r<|l b z) (Iy b o r e);have IP:=x b o BH ho;have L:(tupleKind (j4 f w)).is d.heap (val i).1 (val i).2.1:=by obtain⟨q,rO,n',g1,g2⟩:=BO;exact⟨q,rO,n',x _ _ QP g1,g2⟩
   have v7:=U M hS u;have hT:d.TypeIs (.ref b) "tuple":=⟨o,IP,hc⟩;have hu':A.in1.units<cLine:=by rw[fG];exact hu
   show wpAny _ A.in1 (holding [.ref b] _>>=_) _ _ d;refine ae (bD ?_);refine ae (wpAny_tryCatch ?_);unfold Builtin.Dict.pairItems;refine ae (dZ hT ?_);rw[av<|by decide];refine ae (eX IP hd<|af ?_);show wpAny _ _ (holding [.ref (val i).2.1,(val i).2.2]<|dictSet S (.ref (val i).2.1) (val i).2.2) _ _ _;refine bD (wpAny_dictSet_heap (hsz:=by have:=(yR _ _ M).1;omega) (dG hu) L v7 λh' QV D=>?_);have er:rawInt ((i:Int)+1)=.int ((i+1:Nat):Int) 0:=by unfold rawInt;rfl
   rw[er];have T:∀{c:Addr},c∉S::wr->c≠S:=λh z=>h (by rw[z];exact bF);refine af ⟨dJ zG _,ih (i+1) _ 0 _ (by omega) F (W.frame _ d _ _ Z (cA _ _) λb r o e=>?_) (λb o r e=>?_) QV (hJ i a F M) λs'' O QW Qm V=>?_⟩;·rw[D.2 b (λh:b=S=>hSf<|by rw[<-h];exact r)];exact e
   ·show h'.get? b=some o;rw[D.2 b<|T r];exact x b o r e
   ·refine hR s'' O (Moved.trans W.gtrans ((u.mono l).then_heap (cA _ _) λb o r e=>?_) QW) Qm V;rw[D.2 b<|T r];exact e
def Ta:typeLookup (.type "list") "keys"=pure none:=by rw[hK,fA];kernel_rfl
def qv(a:List<|List Key×Addr×Value):List (List Key×Addr×Value):=a.foldl (λc x=>storedH c x.1 x.2.1 x.2.2) []
def abf{d:List<|List Key×Addr×Value}{k:List Key}{a:Addr}{v:Value}:∀p∈storedH d k a v,p.2.1=a\/∃q∈d,q.2.1=p.2.1:=by
 intro p c;unfold storedH at c;split at c
 ·obtain⟨q,i,e⟩:=az.mp c;right;refine⟨q,i,?_⟩;subst e;unfold putAt;split<;>rfl
 ·rcases aW.mp c with h|h;·exact .inr ⟨p,h,rfl⟩
  ·rw[aM]at h;subst h;exact .inl rfl
def abg{c:List<|List Key×Addr×Value}{k:List Key}{a:Addr}{v:Value}:(storedH c k a v).length<=c.length+1:=by
 unfold storedH;split;·rw[ai];omega
 ·rw[ar];simp
theorem yv(a:List<|List Key×Addr×Value):∀i≤a.length,(qv<|a.take i).length<=i/\∀p∈qv (a.take i),∃q∈a,q.2.1=p.2.1
 |0,_=>⟨ah _,λp d=>nomatch d⟩
 |i+1,h=>by
  obtain⟨m,k⟩:=yv a i (by omega);have c:i<a.length:=by omega
  have e:qv (a.take<|i+1)=storedH (qv<|a.take i) a[i].1 a[i].2.1 a[i].2.2:=by unfold qv;rw[fh c,gj];rfl
  rw[e];refine⟨aU abg<|by omega,λp d=>?_⟩;rcases abf p d with h|⟨q,hq,e⟩;·exact⟨a[i],b9 c,h.symm⟩
  ·obtain⟨r,j,l⟩:=k q hq;exact⟨r,j,l.trans e⟩
variable{E:jW}{s:Shared}
def Oc{vals:List<|List Key×Addr×Value}{Q:jW}(hh:A.handled=none)(hu:A.units+64<cLine)(hl:s.heap.get? l=some {cls:=.type "list",data:=.seq items nl})(M:items.size=vals.length)
 (hi:∀(i:Nat) v x,items[i]?=some v->vals[i]?=some x->∃b,v=.ref b/\AS f w s.heap [] x b)(hb:items.size<=sizeLine)
 (h:∀(h':Heap) tk,h'.DictOfH (tupleKind<|j4 f w) s.heap.objs.size (qv vals)->(∀b o,b<s.heap.objs.size->s.heap.get? b=some o->h'.get? b=some o)->Q (.ref s.heap.objs.size) {s with heap:=h',toks:=tk}):
   wpAny (model f w) A (call (.type "dict") [.ref l]) Q E s:=by
  refine callType_codes (Q₁:=λD c=>D=.ref s.heap.objs.size/\c={s with heap:=s.heap.push {cls:=.type "dict",data:=.dict #[]}}) F.kt_called_dict (F.kt_typeCall_dict_1 _) F.entry_dict_init (kt_code_dict_new _ ⟨rfl,rfl⟩) ?_
  rintro D c ⟨rfl,rfl⟩
  have d:(s.heap.push {cls:=.type "dict",data:=.dict #[]}).DictOfH (tupleKind<|j4 f w) s.heap.objs.size []:=Heap.DictOfH.new s.heap;have r:(s.heap.push {cls:=.type "dict",data:=.dict #[]}).get? l=some {cls:=.type "list",data:=.seq items nl}:=ag _ hl;have O:l<s.heap.objs.size:=Heap.lt_size hl;refine⟨d.typeIs,F.args_dict_init_2 _ _,?_⟩;unfold Builtin.«dict.__init__»;refine ae ?_;unfold Builtin.Dict.selfAndRest;refine ae (fx d.typeIs ?_);show wpAny _ _ (pure (s.heap.objs.size,[Value.ref l])) _ _ _;refine af ?_;show wpAny _ _ (Builtin.Dict.updateFrom "dict.__init__" s.heap.objs.size (.ref l) [] .none) _ _ _;unfold Builtin.Dict.updateFrom;refine ae (dZ (T:="list") ⟨_,r,rfl⟩ ?_);rw[av<|by decide];refine ae (P5 r rfl rfl rfl Ta (by decide+kernel) (by simp[hh]) (λu tJ e hx=>?_)<|by decide+kernel);rw[av<|show(none:Option Value).isNone=true from rfl];have U:u.IsList l items:=⟨_,hx.keeps _ _ r,rfl,nl,rfl⟩;have C:∀{b:Addr} {o:Obj},s.heap.get? b=some o->u.get? b=some o:=λe=>hx.keeps _ _ (ag _ e);have Z:u.get? s.heap.objs.size=some {cls:=.type "dict",data:=.dict #[]}:=hx.keeps _ _ (aG _ rfl);have t:s.heap.objs.size<u.objs.size:=Heap.lt_size Z;have a:∀{b:Addr} {o:Obj},s.heap.get? b=some o->b∉[s.heap.objs.size,u.objs.size]:=λe=>by have h1:=Heap.lt_size e;simp only[aE,bU,dU,iG];exact⟨aR h1,aR<|eP h1 t⟩
  refine ae (gM<|ae<|eN U ?_);have v9:A.in1.in1.handled=none:=by simp[hh]
  have e0:rawInt 0=.int ((0:Nat):Int) 0:=rfl;rw[e0];refine af ⟨dJ zG _,?_⟩
  refine O1 (A:=A.in1) (wr:=[u.objs.size]) ((Walks.list v9 u.objs.size l (aR<|eP O t) items).toS) s.heap.objs.size ?hSf (by simp only[fG];omega) s.heap (λi=>vals.getD i ([],0,.none)) ?hval hb (λi xs=>xs=qv (vals.take i)) ?hJ ?yR (items.size - 0) 0 _ 0 [] (by omega) (bQ _)
   ⟨⟨_,aG _ rfl,rfl,rfl⟩,U.push _⟩ (λb o _ e=>ag _<|C e) ?hS0 rfl ?hR
  case hSf=>simp only[aE,bU,dU,iG];exact⟨aR t,da O⟩
  case hval=>
   intro i v hv;have hiv:i<items.size:=by
    rcases gT i items.size with h|h;·exact h
    ·rw[cF h]at hv;cases hv
   have Rm:vals[i]?=some (vals.getD i ([],0,.none)):=by rw[aQ,ao<|by omega];rfl
   obtain⟨b,rfl,_,_,⟨o,m,h1,Qd,h3⟩,z⟩:=hi i v _ hv Rm;refine⟨b,rfl,a h1,?_,⟨o,m,h1,Qd,h3⟩,z⟩;obtain⟨q,J,n',g1,g2⟩:=z;exact a g1
  case hJ=>
   rintro i xs IM rfl
   have k:i<vals.length:=by omega
   unfold qv;rw[fh k,gj];rw[show vals.getD i ([],0,.none)=vals[i]by rw[aQ,ao k];rfl];rfl
  case yR=>
   rintro i xs rfl
   by_cases hle:i<=vals.length
   ·obtain⟨f1,f2⟩:=yv vals i hle;refine⟨f1,λp L=>?_⟩;obtain⟨q,hq,e⟩:=f2 p L;obtain⟨j,Y,ej⟩:=bS hq;obtain⟨b,_,_,_,_,z⟩:=hi j items[j] q (aJ<|by omega) (by rw[ao Y,ej]);obtain⟨q',J,n',g1,g2⟩:=z;rw[<-e];exact a g1
   ·rw[cG<|by omega];obtain⟨f1,f2⟩:=yv vals vals.length (ah _);rw[gL]at f1 f2;refine⟨by omega,λp L=>?_⟩;obtain⟨q,hq,e⟩:=f2 p L;obtain⟨j,Y,ej⟩:=bS hq;obtain⟨b,_,_,_,_,z⟩:=hi j items[j] q (aJ<|by omega) (by rw[ao Y,ej]);obtain⟨q',J,n',g1,g2⟩:=z;rw[<-e];exact a g1
  case hS0=>exact⟨_,#[],0,ag _ Z,⟨rfl,rfl,rfl⟩,rfl,rfl,(λp L=>nomatch L),.nil⟩
  case hR=>intro s' xs' hm v7 Y;obtain⟨h',g',d',xg,wH⟩:=s';have eg:g'=s.gens:=hm.gens;have ed:d'=s.drawn:=hm.drawn;have eo:wH=s.os:=hm.os;subst eg;subst ed;subst eo;have V:xs'=qv (vals.take items.size):=Y;rw[M,gL]at V;subst V;exact⟨rfl,h h' xg v7 λb o hb e=>hm.heap b o (a e)<|ag _<|C e⟩
end P2
namespace P2
open PySem L2
def BB:List Key->Bool
 |[.inr x]=>decide (x=Str.ofString "here")
 |[.inr _,.inl _]=>true
 |[.inr x,.inr _]=>decide (x=Str.ofString "at")
 |_=>false
def A3:List Value->Bool
 |[.str x _]=>decide (x=Str.ofString "here")
 |[.str _ _,.int _ _]=>true
 |[.str x _,.str _ _]=>decide (x=Str.ofString "at")
 |_=>false
def q7(K:W.Frag):Bool:=K.all λp=>match p.2.data with
 |.seq a _=>!A3 a.toList
 |_=>true
def rP:D->Option (List Key)
 |.tup ds=>(kS ds).bind λa=>if BB a=true then some a else none
 |_=>none
theorem JJ:∀{K:List<|Addr×Obj},K.lookup a=some o->(a,o)∈K
 |(b,q)::K,h=>by
  rw[gF]at h;split at h
  ·rename_i z;obtain rfl:a=b:=by simpa using z
   cases h;exact .head _
  ·exact .tail _ (JJ h)
def UC(h:q7 K=true)(i:BB ks=true)(k:KT K a<|ks.map kV):False:=by
 obtain⟨o,d,n,z,D,y,C,j⟩:=k;have x:(a,o)∈K:=JJ z;have:=cK.mp h _ x;dsimp only at this;rw[y]at this;have u:A3 d.toList=true:=by
  generalize d.toList=l at j;unfold BB at i;split at i
  ·cases j with
   |cons p q=>cases q;obtain⟨t,rfl⟩:=p;exact i
  ·cases j with
   |cons p q=>
    cases q with
    |cons r m=>cases m;obtain⟨t,rfl⟩:=p;obtain⟨v,rfl⟩:=r;rfl
  ·cases j with
   |cons p q=>
    cases q with
    |cons r m=>cases m;obtain⟨t,rfl⟩:=p;obtain⟨v,rfl⟩:=r;exact i
  ·cases i
 have c:(!A3 d.toList)=true:=this;rw[u]at c;cases c
def Jo{d}(k:q7 K=true)(r:Rep K al H v d)(e:rP d=some ks):∃b,al b/\H b=some (.tup<|ks.map kV)/\v=.ref b:=by
 cases r with
 |tup p q=>
  obtain⟨i,m,a⟩:=aL.mp (show((kS _).bind _)=some ks from e);have l:=uC q m;subst l;split at a
  ·rename_i j;cases a;rcases p with⟨h,c⟩|p;·exact⟨_,h,c,rfl⟩
   ·exact(UC k j p).elim
  ·cases a
 |_=>cases e
def Ak(f:jr):jr:=λρ S=>(f ρ S).bind λz c=>match z with
 |.d d=>(match rP d with
  |some a=>.ok (.tk a) c
  |none=>.bad)
 |_=>.bad
section
variable{X:Cx}{E:XK}{e:Expr}{f:jr}{a c:Pos}
def acN(o:q7 X.K=true)(h:ZE X E e f):ZE X E e (Ak f):=by
 obtain⟨t,p,r⟩:=h;refine⟨t,p,λB al lo H σ ρ S Q s h=>r _ _ _ _ _ _ _ _ s<|i3.mono (i3.split h) λz j k l G m D C i v n=>?_⟩;split at i
 ·rename_i d;split at i
  ·rename_i F y;obtain⟨b,x,u,q⟩:=Jo o (show Rep X.K j l v d from n) y;exact i j k l m .refl .refl v ⟨b,x,u,q⟩
  ·exact i.elim
 ·exact i.elim
end
inductive tX(K:W.Frag)(H:Hp):List V->List (List Key×V)->Prop
 |nil:tX K H [] []
 |cons {b kb:Addr} {k:List Key} {y:V} {vs:List V} {kvs:List<|List Key×V}:mF K H b [.ref kb,y]->H kb=some (.tup<|k.map kV)->tX K H vs kvs->tX K H (.ref b::vs) ((k,y)::kvs)
def V6{s}(I:Inv X pins σ H s):∀{j} {d} {c},tX X.K H j c->Vals j d->
    ∃a:List (List Key×Addr×Value),a.length=d.length/\(∀(i:Nat) v x,d[i]?=some v->a[i]?=some x->∃b,v=.ref b/\AS X.prog X.w s.heap [] x b)/\L2.KT H c a:=by
 intro j d c r v;induction r generalizing d with
 |nil=>cases v;exact⟨[],rfl,λi v x h=>by simp at h,.nil⟩
 |@cons b m k _ _ _ sq t r M=>
  cases v with
  |cons p q=>
   obtain⟨a,R,Q,O⟩:=M q;have J:_=Value.ref b:=p;subst J;obtain⟨L,C,⟨o,V,U,n,T⟩,_⟩:=I.tuple sq;cases C with
   |cons G D=>
    cases D with
    |cons z F=>
     cases F;rename_i y u;obtain rfl:y=Value.ref m:=G;refine⟨(k,m,u)::a,by simp[R],λi v x hv l=>?_,.cons ⟨rfl,t,z⟩ O⟩;cases i with
     |zero=>simp at hv l;subst hv l;exact⟨b,rfl,by simp,by simp,⟨o,n,V,U,T⟩,wh I.hok t⟩
     |succ i=>exact Q i v x (by simpa using hv) (by simpa using l)
theorem HZ:∀{kvs} {vals} {acc} {xs},L2.KT H kvs vals->L2.KT H acc xs->L2.KT H (kvs.foldl (λa p=>putK a p.1 p.2) acc) (vals.foldl (λa x=>storedH a x.1 x.2.1 x.2.2) xs)
 |_,_,_,_,.nil,r=>r
 |_,_,_,_,.cons (a:=p) (b:=q) h t,r=>by obtain⟨pk,j⟩:=p;obtain⟨m,i,d⟩:=q;obtain⟨c,l,k⟩:=h;dsimp only at c;subst c;exact HZ (kvs:=_) (vals:=_) (acc:=putK _ pk j) (xs:=storedH _ pk i d) t (L2.KT.put r pk l k)
section
variable{X:Cx}{E:XK}{e:Expr}{f:jr}{N O:Pos}
def Ob(hc:X.calm=true)(Y:X.A.units+64<cLine):mZ X (.type "dict") (λm d Q=>∃l y c,m=[.ref l]/\d l=some (.lst y)/\tX X.K d y c/\
    ∀p,d p=none->Q (.ref p) (upd d p (.dT (c.foldl (λa p=>putK a p.1 p.2) [])))):=by
 intro r j σ d m us Q k T h;obtain⟨l,y,c,rfl,hl,Z,q⟩:=h;obtain⟨u,rfl,R⟩:=vals1 T;obtain rfl:u=Value.ref l:=R;obtain⟨z,U,n,G,ho⟩:=(show kz X.prog X.w d j.heap l (.lst y)from k.hok l _ hl);obtain⟨vals,h1,h2,h3⟩:=V6 k Z G;have J:=Paired.length G;have t:=k.hok.fresh (ah j.heap.objs.size);refine Oc (vals:=vals) (k.ok.hd hc) Y ho (by simp[h1]) (λi v x M C=>h2 i v x (by simpa using M) C) (by simp;omega) λL tk dd kp=>?_;have D:∀b u,j.heap.get? b=some u->L.get? b=some u:=λb u e=>kp b u (Heap.lt_size e) e;have I:=HZ h3 (acc:=[]) (xs:=[]) .nil;obtain⟨o,es,ep,g1,g2,g3,g4,g5,g6⟩:=dd;have hk:=L2.KT.keeps (H':=upd d j.heap.objs.size (.dT (c.foldl (λa p=>putK a p.1 p.2) []))) I (λb ys e=>by rw[jB (nc e t)];exact e);have F:(c.foldl (λa p=>putK a p.1 p.2) ([]:List<|List Key×V)).length<=sizeLine:=by have M:=Paired.length I;have C:=(yv vals vals.length<|ah _).1;rw[gL]at C;unfold qv at C;omega
 have I2:Inv X r σ (upd d j.heap.objs.size<|.dT<|c.foldl (λa p=>putK a p.1 p.2) []) {j with heap:=L,toks:=tk}:=
  k.laid (t':=tk) D (ah _) ⟨F,by simpa using da k.big,_,hk,o,es,ep,g1,g2,g3,g4,g6⟩
 exact⟨.ref _,_,I2,rfl,q _ t⟩
def rh:List D->Option (List<|List Key×D)
 |[]=>some []
 |.tup [k,v]::r=>(rP k).bind λa=>(rh r).map ((a,v):: ·)
 |_::_=>none
theorem Kx(k:q7 K=true):∀{j} {l} {c},jb K al H j l->rh l=some c->
 ∃a,tX K H j a/\Paired (λ(p:List Key×V) (q:List Key×D)=>p.1=q.1/\Rep K al H p.2 q.2) a c
 |_,_,_,.nil,h=>by cases h;exact⟨[],.nil,.nil⟩
 |_,_,_,.cons (d:=d) r q,h=>by
  cases r with
  |tup p u=>
   cases u with
   |nil=>cases h
   |cons n t=>
    cases t with
    |nil=>cases h
    |cons m o=>
     cases o with
     |cons _ _=>cases h
     |nil=>obtain⟨i,C,y⟩:=aL.mp (show((rP _).bind λi=>(rh _).map ((i,_):: ·))=some _ from h);obtain⟨c,x,rfl⟩:=aF.mp y;obtain⟨a,G,F⟩:=Kx k q x;obtain⟨b,_,v,rfl⟩:=Jo k n C;exact⟨(i,_)::a,.cons (p.elim (λz=>.inl<|.inl z.2) .inr) v G,.cons ⟨rfl,m⟩ F⟩
  |_=>cases h
def foldZ(c:List<|List Key×D):List (List Key×Z):=c.foldl (λa p=>kv a p.1<|.d p.2) []
theorem Ia{lo}:∀{c} {j} {us} {zs},Paired (λ(p:List Key×V) (q:List Key×D)=>p.1=q.1/\Rep K al H p.2 q.2) c j->ko K al lo H us zs->
 ko K al lo H (c.foldl (λa p=>putK a p.1 p.2) us) (j.foldl (λa p=>kv a p.1<|.d p.2) zs)
 |_,_,_,_,.nil,r=>r
 |_,_,_,_,.cons (a:=p) (b:=q) h t,r=>by obtain⟨pk,i⟩:=p;obtain⟨m,d⟩:=q;obtain⟨k,l⟩:=h;dsimp only at k;subst k;exact Ia (us:=putK _ pk i) (zs:=kv _ pk<|.d d) t (ko.put r pk<|show kq K al lo H i (.d d)from l)
def EU(f:jr):jr:=λρ S=>(f ρ S).bind λz a=>match z with
 |.loc n=>(match a[n]? with
  |some (.li c)=>(match(md c).bind rh with
   |some d=>.ok (.loc a.length) (a++[.dt<|foldZ d])
   |none=>.bad)
  |_=>.bad)
 |_=>.bad
def acM(Y:q7 X.K=true)(V:X.calm=true)(L:X.A.units+64<cLine)(U:Gl X "dict")(T:X.mg "dict"=none)(hv:bootBuiltins "dict"=some (.type "dict"))(M:ZE X E e f)
 (u:X.se e [])(k:X.bk N []):ZE X E (.Call (.Name "dict" O) [e] [] N) (EU f):=by
  obtain⟨to,J,D⟩:=M;refine⟨_,Wf (Ob V L) U T hv (q8 J rf u) (by decide) ⟨by decide,u,k⟩,λB al lo H σ ρ S Q s h=>D _ _ _ _ _ _ _ _ s<|i3.mono (i3.split h) λz r c H1 t j x1 y1 d v C=>?_⟩;split at d
  ·rename_i n;split at d
   ·rename_i zs q;split at d
    ·rename_i I G;obtain⟨ds,e1,e2⟩:=aL.mp G;have ez:=sH e1;subst ez;obtain⟨a,R,rfl⟩:=C;obtain⟨x,g1,g2⟩:=j.cell R q;obtain⟨i,g3,Z⟩:=Kx Y g2.toD e2;refine⟨a,x,i,rfl,g1,g3,λp l=>?_⟩;have F:=Ia (lo:=c) Z (us:=[]) (zs:=[]) .nil;have o:lU X.K (λb=>r b/\b≠p) (kZ c t.length p) (upd H1 p<|.dT<|i.foldl (λa p=>putK a p.1 p.2) []) p (.dt<|foldZ I):=⟨_,kC,F.mv (qH l)<|oR j.st p⟩;have y:=j.new l CG o nofun;have m:kZ c t.length p t.length=some p:=by unfold kZ;rw[av rfl]
     exact d _ _ _ y (qH l) (oR j.st p) _ ⟨p,m,rfl⟩
    ·exact d.elim
   ·exact d.elim
  ·exact d.elim
variable{y:List<|Addr×Obj}{M:St}{H:Hp}{s:Shared}{a:Addr}{o:Obj}{j:List<|List Key×V}
def I9(I:Inv X y M H s)(e:H a=some (.dT j))(h:s.heap.get? a=some o):Inv X y M (upd H a<|.ke o<|.dT j) s:=by
 have ok:=I.hok a _ e;obtain⟨z,l,k,d,r⟩:=(show kz X.prog X.w H s.heap a (.dT j)from ok)
 exact I.write (x:=a) (e:=a) (t':=s.toks) (h':=s.heap) (by rw[e];exact True.intro) (.inl rfl) (λb u _ z=>z) ⟨o,h⟩
  (show kz X.prog X.w (upd H a<|.ke o<|.dT j) s.heap a (.ke o<|.dT j)from⟨h,z,l,k,L2.KT.keeps d<|λc m i=>by rw[jB<|J3 i e<|λz=>nomatch z];exact i,r⟩)
def Ka(I:Inv X y M H s)(e:H a=some (.dT j)):∀c u,X.H₀ a≠some (.ke c u):=λc u z=>by have:=I.base.pD a c u z;rw[e]at this;cases this
def RC(I:Inv X y M H s)(e:H a=some (.ke o<|.dT j))(Q:∀d u,X.H₀ a≠some (.ke d u)):Inv X y M (upd H a<|.dT j) s:=by
 have l:∀{b:Addr},H b=none->b≠a:=λh z=>by rw[z,e]at h;cases h
 have C:∀{b:Addr} {m:List V},H b=some (.tup m)->b≠a:=λh z=>by rw[z,e]at h;cases h
 obtain⟨_,z,T,m,t,r⟩:=(show kz X.prog X.w H s.heap a (.ke o<|.dT j)from I.hok a _ e);refine⟨I.ok,I.os,I.bare,⟨I.base.keep,I.base.slot,λb d J n D=>by rw[jB (l (I.base.free b d J n D))];exact I.base.free b d J n D,I.base.there,λb k h=>by rw[jB<|C<|I.base.tups b k h];exact I.base.tups b k h,λb d u h=>?_,λb L h=>?_⟩,I.loc,I.cell,by rw[jB (l I.free)];exact I.free,λx c h=>by rw[jB<|l<|I.pC x c h];exact I.pC x c h,λp R=>?_,λb u h=>?_,I.len⟩
 ·by_cases i:b=a;·subst i;exact absurd h (Q d u)
  ·rw[jB i];exact I.base.pD b d u h
 ·obtain⟨more,q⟩:=I.base.rl b L h;have i:b≠a:=λz=>by rw[z,e]at q;cases q
  exact⟨more,by rw[jB i];exact q⟩
 ·obtain⟨Y,F,U⟩:=I.pin p R;exact⟨Y,by rw[jB (l F)];exact F,U⟩
 ·by_cases i:b=a
  ·subst i;rw[kC]at h;cases h;exact⟨z,T,m,L2.KT.keeps t<|λc k G=>by rw[jB<|C G];exact G,r⟩
  ·rw[jB i]at h;exact(I.hok b u h).stay (λc v Z r=>r) (λc r=>by rw[jB<|λz=>by rw[z,e]at r;cases r];exact r) λc k r=>by rw[jB<|C r];exact r
open PySem.Spec PySem.Calls PySem.W
open PyProof.Rows hiding St K
variable{J:Program}{w:World}{A:Around}{E:jW}{F d:Addr}{i L:Nat}{C:Array DictEntry}
def aaa{Q:jW}(hv:s.heap.IsValuesView v d)(n:rA s.heap d C L)
 (q:Q (.ref s.heap.objs.size) {s with heap:=s.heap.push {cls:=.type "dict_valueiterator",data:=.fields #[.ref d,.int 0 0,.int C.size 0,.int L 0]}}):wpAny (model J w) A (pyIter<|.ref v) Q E s:=by
  obtain⟨r,k,p,l⟩:=id hv;obtain⟨o,m,t,c⟩:=id n;refine eR hv.typeIs fN (bA fN hv.typeIs PySem.F.entry_dict_values_iter ?_ (PySem.F.args_dict_values_iter_1 _));unfold Builtin.«dict_values.__iter__»;refine ae (af ?_);refine ae ?_;unfold Builtin.Dict_items.dictOf;refine ae (dS k l (x:=.ref d) rfl<|af ?_);refine ae ?_;unfold Builtin.Dict_items.newIterator;refine ae (dg m c ?_);refine ae (dI m c ?_);have h:Builtin.Dict_items.ownsTuple "dict_valueiterator"=false:=by decide
  simp only[h,bh,bL];refine aY (af ⟨_,rfl,"dict_valueiterator",_,⟨_,aG _ rfl,rfl⟩,PySem.F.slot_dict_valueiterator_next.lookup,?_⟩);simpa [rawInt]using q
def Z9{Q:Option Value->Shared->Prop}(hit:s.heap.IsValIter F d i C.size L)(r:rA s.heap d C L)(l:i<C.size)
 (v:∀q,q.IsValIter F d (i+1) C.size L->Heap.SameBut F s.heap q->Q (some C[i].val) {s with heap:=q}):wpAny (model J w) A (pyNext<|.ref F) Q E s:=by
  obtain⟨o,p,u,n⟩:=id hit;obtain⟨x,k,t,m⟩:=id r;unfold pyNext
  refine ae (dh (bJ (name:=Str.ofString "__next__") hit.typeIs cn
   (bA cn hit.typeIs d8 ?_ (dY _))))
  refine ae (af ?_);refine ae ?_;refine ae ?_;first|refine ae (cR hit.typeIs<|af ?_)|refine ae (dm hit.typeIs<|af ?_)
  refine ae (c0 p n ?_);have h:Builtin.Dict_items.ownsTuple "dict_valueiterator"=false:=by decide
  simp only[h,bh,bL];show wpAny _ _ (if(Value.ref d==Value.none)=true then _ else _) _ _ s;rw[aw<|show¬((Value.ref d==Value.none)=true)from ax];refine ae (af ?_);refine ae (dg k m ?_);rw[aw<|by simp];refine ae (af ?_);refine ae (dI k m ?_);rw[aw<|by simp];refine af ?_;simp only[show¬((i:Int)<0)from by omega,bL,bu,aJ l];refine ae ?_;first|refine ae (cR hit.typeIs<|af ?_)|refine ae (dm hit.typeIs<|af ?_)
  refine ae (fC hit.typeIs ?_);show wpAny _ _ (setField (.ref F) 1 (rawInt<|(i:Int)+1)>>=_) _ _ s;refine ae (bZ p n (by simp) ?_)
  have c:(s.heap.update F (Obj.mapFields (·.setIfInBounds 1 (rawInt<|(i:Int)+1)))).IsValIter F d (i+1) C.size L:=
   ⟨_,a9 _ p<|bR<|bj n _,(df ..).trans u,by rw[bj n];simp[rawInt]⟩
  refine ae (bD ?_);refine ae (fC (s:={s with heap:=s.heap.update F (Obj.mapFields (·.setIfInBounds 1 (rawInt<|(i:Int)+1)))}) c.typeIs ?_);refine ae (fC (s:={s with heap:=s.heap.update F (Obj.mapFields (·.setIfInBounds 1 (rawInt<|(i:Int)+1)))}) c.typeIs ?_);show wpAny _ _ (pure C[i].val) _ _ _;exact af (af ⟨_,rfl,af<|v _ c<|bw ..⟩)
def Z8{Q:Option Value->Shared->Prop}(t:A.handled=none)(hit:s.heap.IsValIter F d i C.size L)(r:rA s.heap d C L)(l:C.size<=i)
 (v:∀q,Heap.ExtBut F s.heap q->Q none {s with heap:=q}):wpAny (model J w) A (pyNext<|.ref F) Q E s:=by
  obtain⟨o,n,z,p⟩:=id hit;obtain⟨x,h,u,k⟩:=id r;unfold pyNext
  refine ae (dh (bJ (name:=Str.ofString "__next__") hit.typeIs cn
   (bA cn hit.typeIs d8 ?_ (dY _))))
  refine ae (af ?_);refine ae ?_;refine ae ?_;first|refine ae (cR hit.typeIs<|af ?_)|refine ae (dm hit.typeIs<|af ?_)
  refine ae (c0 n p ?_);have c:Builtin.Dict_items.ownsTuple "dict_valueiterator"=false:=by decide
  simp only[c,bh,bL];show wpAny _ _ (if(Value.ref d==Value.none)=true then _ else _) _ _ s;rw[aw<|show¬((Value.ref d==Value.none)=true)from ax];refine ae (af ?_);refine ae (dg h k ?_);rw[aw<|by simp];refine ae (af ?_);refine ae (dI h k ?_);rw[aw<|by simp];refine af ?_;simp only[show¬((i:Int)<0)from by omega,bL,bu,cF l];refine ae ?_;first|refine ae (cR hit.typeIs<|af ?_)|refine ae (dm hit.typeIs<|af ?_)
  show wpAny _ _ (setField (.ref F) 0 .none>>=_) _ _ s;refine ae (bZ n p (by simp) ?_);show wpAny _ _ (newExc (.type "StopIteration") []>>=_) _ _ _;refine ae ?_;simp only[newExc,newTuple];refine ae (aY ?_ (by size_fits));refine ae (m:=firstArgMember _ _) (gi (a:=Value.none) (by first|rfl|(simp only[firstArgMember];rfl)) ?_);refine aY ?_ (by size_fits);simp only[raiseNew];refine ae (gm ?_);rw[show A.in1.handled=none from t];refine ae (af<|ik ?_);refine ae (d6 (T:="StopIteration") (b:=true) ⟨_,aG _ rfl,rfl⟩ f6 ?_);exact af (v _<|((bw ..).extBut.push _).push _)
end
def vq(a:Addr)(o:Obj)(u:HO)(c:List V):It where
 go:=λi H=>H a=some (.ke o u)/\i<c.length
 xm:=λi H x d=>d=H/\c[i]?=some x
 stop:=λi H=>H a=some (.ke o u)/\c.length<=i
def ab7{w}(a it){o:Obj}{u}(q:o.ExactDict)(l:o.data=.dict es ep)(hv:Vals vs (es.toList.map (·.key))):
    Turn P w K tg (vq a o u vs) [it] it (λi h=>h.IsKeyIter it a i es.size ep) where
 mem:=by simp
 obj:=λi h st b m=>by
  have e:b=it:=by simpa using m
  subst e;obtain⟨o,e,c,d⟩:=st;exact⟨o,e,λv z=>by rw[d]at z;cases z⟩
 keep:=λi h t st k=>let⟨o,e,r⟩:=st;⟨o,k it (by simp) o e,r⟩
 item:=by
  intro X J x L V i j s σ H E I hf st G;subst J x L;obtain⟨y,F⟩:=G;obtain⟨C,_⟩:=(show kz X.prog X.w H s.heap a (.ke o u)from I.hok a _ y);obtain⟨T,R,f2,Q,O,M⟩:=hf it (by simp);have D:=Paired.length hv;have p:i<es.size:=by simp at D;omega
  obtain⟨Y,U,ru⟩:=Vals.get hv (ao F);have eu:Y=es[i].key:=by rw[aA,bc,aJ p]at U;exact(Option.some.inj U).symm
  subst eu;refine aac st ⟨o,C,q,l⟩ p λt n Z=>?_;have I1:Inv X j σ H {s with heap:=t}:=I.turned (t':=s.toks) (λb o m e=>(Z.2 b m).trans e) T R Q O M;obtain⟨o',e,c,d⟩:=id n;exact⟨_,rfl,td (s:={s with heap:=t}) e c d (by decide) ⟨vs[i],H,I1,ru,⟨rfl,ao F⟩,n,λb m=>(hf b m).1⟩⟩
 done:=by intro X J x L V i j s σ H E I hf st G;subst J x L;obtain⟨y,F⟩:=G;obtain⟨C,_⟩:=(show kz X.prog X.w H s.heap a (.ke o u)from I.hok a _ y);obtain⟨T,R,f2,Q,O,M⟩:=hf it (by simp);have D:=Paired.length hv;exact aab (I.ok.hd V) st ⟨o,C,q,l⟩ (by simp at D;omega) λt eb=>⟨rfl,I.turned (t':=s.toks) (λb o m e=>eb b o m e) T R Q O M⟩
 self:=λ_ _ _ _ _ st h=>wpAny_pyIter_keyiter st h
def acb{w}(a it){o:Obj}{u}(q:o.ExactDict)(l:o.data=.dict es ep)(hv:Vals vs (es.toList.map (·.val))):
    Turn P w K tg (vq a o u vs) [it] it (λi h=>h.IsValIter it a i es.size ep) where
 mem:=by simp
 obj:=λi h st b m=>by
  have e:b=it:=by simpa using m
  subst e;obtain⟨o,e,c,d⟩:=st;exact⟨o,e,λv z=>by rw[d]at z;cases z⟩
 keep:=λi h t st k=>let⟨o,e,r⟩:=st;⟨o,k it (by simp) o e,r⟩
 item:=by
  intro X J x L V i j s σ H E I hf st G;subst J x L;obtain⟨y,F⟩:=G;obtain⟨C,_⟩:=(show kz X.prog X.w H s.heap a (.ke o u)from I.hok a _ y);obtain⟨T,R,f2,Q,O,M⟩:=hf it (by simp);have D:=Paired.length hv;have p:i<es.size:=by simp at D;omega
  obtain⟨Y,U,ru⟩:=Vals.get hv (ao F);have eu:Y=es[i].val:=by rw[aA,bc,aJ p]at U;exact(Option.some.inj U).symm
  subst eu;refine Z9 st ⟨o,C,q,l⟩ p λt n Z=>?_;have I1:Inv X j σ H {s with heap:=t}:=I.turned (t':=s.toks) (λb o m e=>(Z.2 b m).trans e) T R Q O M;obtain⟨o',e,c,d⟩:=id n;exact⟨_,rfl,td (s:={s with heap:=t}) e c d (by decide) ⟨vs[i],H,I1,ru,⟨rfl,ao F⟩,n,λb m=>(hf b m).1⟩⟩
 done:=by intro X J x L V i j s σ H E I hf st G;subst J x L;obtain⟨y,F⟩:=G;obtain⟨C,_⟩:=(show kz X.prog X.w H s.heap a (.ke o u)from I.hok a _ y);obtain⟨T,R,f2,Q,O,M⟩:=hf it (by simp);have D:=Paired.length hv;exact Z8 (I.ok.hd V) st ⟨o,C,q,l⟩ (by simp at D;omega) λt eb=>⟨rfl,I.turned (t':=s.toks) (λb o m e=>eb b o m e) T R Q O M⟩
 self:=λ_ _ _ _ _ st h=>wpAny_pyIter_valiter st h
def AO(H:Hp)(a:List<|List Key×V)(c:List V):Prop:=Paired (λ(p:List Key×V) (v:V)=>∃b,v=.ref b/\H b=some (.tup<|p.1.map kV)) a c
theorem keys_of:∀{a} {c},L2.KT H a c->AO H a (c.map λx=>V.ref x.2.1)
 |_,_,.nil=>.nil
 |_,_,.cons h t=>.cons ⟨_,rfl,h.2.1⟩ (keys_of t)
theorem Jw:∀{a} {c},L2.KT H a c->Vals (a.map (·.2)) (c.map (·.2.2))
 |_,_,.nil=>.nil
 |_,_,.cons h t=>.cons h.2.2 (Jw t)
section
variable{X:Cx}{tg o:Expr}{M:TE}{L J:Pos}
def Ro(X:Cx)(M:TE):TI:=λσ H R=>M σ H λx d=>∃a c,x=.ref a/\d a=some (.dT c)/\∀ob h,(∀i u,X.H₀ a≠some (.ke i u))->AO d c h->R (vq a ob (.dT c) h) (upd d a<|.ke ob<|.dT c)
def Rp(X:Cx)(M:TE):TI:=λσ H R=>M σ H λx h=>∃a c,x=.ref a/\h a=some (.dT c)/\∀ob d,(∀i u,X.H₀ a≠some (.ke i u))->d=c.map (·.2)->R (vq a ob (.dT c) d) (upd h a<|.ke ob<|.dT c)
def WI(C:PE X o M):PI X tg o (Ro X M):=by
 intro c s σ H R I h;refine ji (C c s σ H _ I h) λv d k=>?_;obtain⟨x,H1,m,t,u⟩:=k;obtain⟨a,y,ex,e,q⟩:=u;subst ex;cases t;obtain⟨z,D,i,j,dd⟩:=Bl m.hok e;obtain⟨ob,O,Z,r,p,n,G,Y,U⟩:=dd;have Q:O.toList.map (·.key)=i.map λx=>Value.ref x.2.1:=by rw[G,aX];rfl
 have l:=I9 m e r;refine aad D ⟨ob,r,p,n⟩ ?_;refine⟨d.heap.objs.size,[d.heap.objs.size],_,_,_,rfl,l.kept (t':=d.toks) λb o e=>ag _ e,ab7 a _ p n (vs:=i.map λx=>V.ref x.2.1)<|by rw[Q];exact Ml i,⟨_,aG _ rfl,rfl,rfl⟩,λb F=>?_,q ob _ (Ka m e)<|keys_of j⟩;have T:b=d.heap.objs.size:=by simpa using F
 subst T;exact l.uw (ah _) (l.hok.fresh<|ah _)
def Uk{w}(d)(c:(d==sysModules)=false):
    MeetsIn prog w (Builtin.«dict.values» ⟨[.ref d],[]⟩) (λ_ R s=>s.TypeIs (.ref d) "dict"/\R (.ok<|.ret<|.ref s.heap.objs.size) {s with heap:=s.heap.push {cls:=.type "dict_values",data:=.fields #[.ref d]}}):=
 .of_wp λA R s ⟨a,h⟩=>by refine ae ?_;unfold Builtin.Dict.noArgs;refine ae (fx a ?_);show wpAny _ _ (pure d) _ _ s;refine af ?_;show wpAny _ _ (Builtin.Dict.showsAll d>>=_) _ _ s;unfold Builtin.Dict.showsAll;rw[aw<|by rw[c];exact ax];refine ae (af ?_);exact ae (aY<|af ⟨_,rfl,h⟩)
def WJ(O:PE X o M)(j:attributeBase o "values" X.env (eval o X.env)=eval o X.env)(i:(L.endLine==J.line)=true):PI X tg (.Call (.Attribute o "values" L) [] [] J) (Rp X M):=by
 intro c s σ H R I h;refine wpAny_Call_method0_late j i (ji (O c s σ H _ I h) λv k p=>?_);obtain⟨x,H1,l,F,G⟩:=p;obtain⟨a,d,ex,e,q⟩:=G;subst ex;cases F;obtain⟨m,D,Q⟩:=B0 l (.inr ⟨d,.inl e⟩);obtain⟨z,_,C,n,dd⟩:=Bl l.hok e;obtain⟨ob,Y,ep,y,u,t,U,h5,h6⟩:=dd;have V:Y.toList.map (·.val)=C.map (·.2.2):=by rw[U,aX];rfl
 refine⟨"dict","dict.values",eK,gw,PySem.F.type_dict_values,m,D,dE rfl<|PySem.evalArgs_none ?_⟩;refine gQ gw m PySem.F.entry_dict_values (PySem.F.args_dict_values_1 _) (Uk a Q) ⟨m,?_⟩;have I2:=I9 l e y;have r:Inv X c σ (upd H1 a<|.ke ob<|.dT d) {k with heap:=k.heap.push {cls:=.type "dict_values",data:=.fields #[.ref a]}}:=I2.kept (t':=k.toks) λb o e=>ag _ e;refine aaa ⟨_,aG _ rfl,rfl,rfl⟩ ⟨ob,ag _ y,u,t⟩ ?_;refine⟨_,[_],_,_,_,rfl,r.kept (t':=k.toks) λb o e=>ag _ e,acb a _ u t (vs:=d.map (·.2))<|by rw[V];exact Jw n,⟨_,aG _ rfl,rfl,rfl⟩,λb T=>?_,q ob _ (Ka l e) rfl⟩;have Z:=aM.mp T;subst Z;exact r.uw (ah _) (r.hok.fresh<|ah _)
variable{e:Expr}{t:TE}
def abP(X:Cx)(t:TE):TE:=λσ H Q=>t σ H λv d=>∃a o c,d a=some (.ke o<|.dT c)/\(∀h u,X.H₀ a≠some (.ke h u))/\Q v (upd d a<|.dT c)
def WC(h:PE X e t):PE X e (abP X t):=λc s σ H Q I k=>ji (h c s σ H _ I k) λv n ⟨x,p,m,d,a,o,j,l,i,q⟩=>⟨x,_,RC m l i,d,q⟩
def qf(c:jg->i6->RX Bool)(e:jr)(a:jg)(h:Nat):jo
 |[],S=>.ok (.loc h) S
 |d::r,S=>match c (a.set 0<|some d) S with
  |.ok b k=>if b=true then(match e (a.set 0 (some d)) k with
   |.ok z j=>(match j[h]? with
    |some (.li i)=>if i.length<sizeLine then qf c e a h r (j.set h<|.li<|i++[z])else .bad
    |_=>.bad)
   |_=>.bad)else qf c e a h r k
  |_=>.bad
def Aq(n:Nat)(a:List<|List Key×Z):RX Z->RX Z
 |.ok z S=>.ok z (S.set n<|.dt a)
 |_=>.bad
def rp(d:List (List Key×Z)->List Z)(fo:jr)(i:List Nat)(c:jg->i6->RX Bool)(e:jr):jr:=λρ S=>(fo ρ S).bind λz h=>match z with
 |.loc n=>(match h[n]?,(h[0]?:Option Cell)with
  |some (.dt a),some Cell.mk=>Aq n a (qf c e (n6 i ρ) h.length (d a)<|h.set n (.ft a)++[.li []])
  |_,_=>.bad)
 |_=>.bad
def AU(K:W.Frag)(V:Hp->List (List Key×V)->List V->Prop)(a:List (List Key×Z)->List Z):Prop:=
 ∀al lo H h c d,V H h d->ko K al lo H h c->(∀b i,H b=some (.tup i)->al b)->kg K al lo H d (a c)
def ID(X:Cx)(j:Hp->List (List Key×V)->List V->Prop)(M:TE):TI:=λσ H R=>M σ H λx d=>∃a c,x=.ref a/\d a=some (.dT c)/\∀ob h,(∀i u,X.H₀ a≠some (.ke i u))->j d c h->R (vq a ob (.dT c) h) (upd d a<|.ke ob<|.dT c)
theorem kg.at{K:W.Frag}{al:Addr->Prop}{lo:Lo}{H:Hp}:∀{c:List V} {a:List Z},kg K al lo H c a->∀(i:Nat) (v:V),c[i]?=some v->∃z,a[i]?=some z/\kq K al lo H v z
 |_,_,.nil,i,v,h=>by simp at h
 |_,_,.cons r t,0,v,h=>by cases h;exact⟨_,rfl,r⟩
 |_,_,.cons r t,i+1,v,h=>by rw[eM]at h⊢;exact kg.at t i v h
variable{E:XK}{F O:Expr}{N:List Expr}{f:Scope}{P Y:Pos}{fo:jr}{U:jg->i6->RX Bool}{T:jr}{cl:List<|Str×Addr}{Nc:List Str}{ci:List Nat}{x:Str}{Vs:Hp->List (List Key×V)->List V->Prop}{l:List (List Key×Z)->List Z}
def MA(hp:AU X.K Vs l)(hpi:∀M,PE X o M->∃wi,PI X (.Name x Y) F wi/\∀σ H R,ID X Vs M σ H R->wi σ H R)(ho:ZE X E o fo)(hc:X.calm=true)(hg:∀fp s3 H3 C,PG (X.comp f ([x]++Nc) cl fp s3 H3 C) (.Name x Y)<|sZ 0)(hf:∀fp s3 H3 C,xT (X.comp f ([x]++Nc) cl fp s3 H3 C) N U)
    (he:∀fp s3 H3 C,ZE (X.comp f ([x]++Nc) cl fp s3 H3 C) (λ_ _ _=>False) O T)
    (hclos:closureFor f X.env=pure cl)(hkind:f.kind=.function)(hcell:pJ f)(hnames:qy f)(th:oE X cl Nc ci)
    (hsub:∀x c,cl.lookup x=some c->X.env.cells.lookup x=some c)(hhas:∀x,((relabel f X.env).names.lookup x=some .cell\/(relabel f X.env).names.lookup x=some .free)->∃c,cl.lookup x=some c)
    (uA:∀x∈Nc,(relabel f X.env).names.lookup x=some .cell\/(relabel f X.env).names.lookup x=some .free)
    (hs:∀x,foldedSetIterable F X.env x=pure x):ZE X E (.ListComp O [⟨.Name x Y,F,N,0⟩] f P) (rp l fo ci U T):=by
 obtain⟨M,pd,rd⟩:=ho;obtain⟨wi,pi,ri⟩:=hpi M pd;refine⟨_,WC<|KG (Nt:=[x]) (tn:=1) (te:=Mn X.K T) (tc:=Mo X.K U) (g:=sZ 0) hc pi hg hf (λfp s3 H3 C=>(he fp s3 H3 C).w) hclos hkind hcell hnames th rfl hsub hhas uA hs,λB al lo H σ ρ S Q s h=>ri _ _ _<|rd _ _ _ _ _ _ _ _ s<|i3.mono (i3.split h) λz D I H1 S1 s1 x1 y1 h1 v rv=>?_⟩;split at h1
 ·rename_i n;split at h1
  ·rename_i d q1 q0;obtain⟨a,hn,rfl⟩:=rv;obtain⟨us,g1,g2⟩:=s1.cell hn q1;refine⟨a,us,rfl,g1,λob vs nf hv=>?_⟩;have xa:Xt D H1 D (upd H1 a (.ke ob (.dT us))):=λb o _ hb eb=>⟨hb,by rw[jB λz=>s1.st.na _ a hn (by rw[<-z];exact hb)];exact eb⟩;have rz:=hp D I H1 us d vs hv g2 λb ys e=>s1.st.tl q0 b _ e (.inl ⟨_,rfl⟩);obtain⟨ea,xa'⟩:=s1.toEZ.write hn (o:=.ke ob (.dT us)) (c:=.ft d) (λ_ z=>nomatch z) (λq w=>by unfold lV at w;cases w) ⟨us,ob,kC,g2.mv xa .refl⟩ nofun;intro p hp;have UL:p≠a:=λz=>by rw[z,kC]at hp;cases hp
   have ln:(S1.set n<|.ft d).length=S1.length:=aP;have Qx:lU X.K (λb=>D b/\b≠p) (kZ I (S1.set n<|.ft d).length p) (upd (upd H1 a<|.ke ob<|.dT us) p<|.lst []) p (.li []):=⟨[],kC,.nil⟩;have e0:=ea.new hp oo Qx nofun;have Q2:kZ I (S1.set n<|.ft d).length p S1.length=some p:=by unfold kZ;rw[av ln.symm]
   have x0:Xt D H1 (λb=>D b/\b≠p) (upd (upd H1 a<|.ke ob<|.dT us) p<|.lst []):=xa'.trans (qH hp);have y0:Lx I (kZ I (S1.set n<|.ft d).length p):=oR ea.st p;have hlen:vs.length=(l d).length:=rz.length;refine⟨λi m H2=>∃r G S2,EZ X.K B r G H2 S2/\Xt D H1 r H2/\Lx I G/\G S1.length=some p/\i3 X.K B E D I H1 σ ρ (Aq n d<|qf U T (n6 ci ρ) S1.length ((l d).drop i) S2) (λz nZ wt H' _=>∀v,kq X.K nZ wt H' v z->Q v H')/\m=(l d).length - i,⟨_,_,_,_,e0,x0,y0,Q2,h1,rfl⟩,?_⟩
   rintro i m H2 ⟨r,G,S2,e2,x2,y2,n2,k,rfl⟩ fz
   have ha:H2 a=some (.ke ob<|.dT us):=fz a ob _ (by rw[jB<|bV UL,kC]);have Ol:=aat s1 e2 x2 y2 ci;have rz2:=kg.mv x2 y2 rz;by_cases hi:i<(l d).length
   ·right;refine⟨⟨ha,by omega⟩,λv H3 y=>?_⟩;obtain⟨rfl,Ri⟩:=(show H3=H2/\vs[i]?=some v from y);obtain⟨zi,HS,rx⟩:=rz2.at i v Ri;have Px:(l d)[i]=zi:=by rw[ao hi]at HS;exact Option.some.inj HS
    rw[c5 hi,Px]at k;unfold qf at k;have c1:RZ X.K B r G H3 ((mG 1 ci σ).set 0 (some v)) ((n6 ci ρ).set 0 (some zi)) S2:=Ol.set (by unfold n6;simp) rx;refine⟨⟨by rw[aP,yd],λj hj=>au<|by omega⟩,B,r,G,_,S2,c1,?_⟩;cases qc:U ((n6 ci ρ).set 0 (some zi)) S2 with
    |bad=>rw[qc]at k;exact k.elim
    |ex c ns es S3=>rw[qc]at k;exact k.elim
    |ok b S3=>
     rw[qc]at k;intro xX JK H4 c3 x3 y3;dsimp only at k;cases b with
     |false=>rw[aw ax]at k⊢;exact⟨(l d).length - (i+1),by omega,xX,JK,S3,c3.toEZ,x2.trans x3,y2.trans y3,y3 _ _ n2,k,rfl⟩
     |true=>
      rw[av rfl]at k⊢;refine⟨B,xX,JK,_,S3,c3,?_⟩;cases qe:T ((n6 ci ρ).set 0 (some zi)) S3 with
      |bad=>rw[qe]at k;exact k.elim
      |ex c ns es S4=>rw[qe]at k;exact k.elim
      |ok z S4=>
       rw[qe]at k;dsimp only at k;split at k
       ·rename_i zs q4;split at k
        ·rename_i hz;intro vA Td H5 c4 x4 y4 u ru;have n4:=y4 _ _ (y3 _ _ n2);obtain⟨ws,g1,g2⟩:=c4.cell n4 q4;have xx:Xt vA H5 vA (upd H5 p (.lst (ws++[u]))):=λb o _ hb eb=>⟨hb,by rw[jB λz=>c4.st.na _ p n4 (by rw[<-z];exact hb)];exact eb⟩;obtain⟨e5,x5⟩:=c4.toEZ.write n4 (o:=.lst (ws++[u])) (c:=.li (zs++[z])) oo (λq w=>by unfold lV at w;cases w) ⟨_,kC,kg.mv xx .refl (g2.append (.cons ru .nil))⟩ nofun;exact⟨ws,g1,by rw[g2.length];exact hz,(l d).length - (i+1),by omega,vA,Td,_,e5,((x2.trans x3).trans x4).trans x5,(y2.trans y3).trans y4,n4,k,rfl⟩
        ·exact k.elim
       ·exact k.elim
   ·left;rw[dF<|by omega]at k;have xx:Xt r H2 r (upd H2 a (.dT us)):=λb o _ hb eb=>⟨hb,by rw[jB λz=>e2.st.na _ a (y2 _ _ hn) (by rw[<-z];exact hb)];exact eb⟩;obtain⟨e5,x5⟩:=e2.write (y2 _ _ hn) (o:=.dT us) (c:=.dt d) (λ_ z=>nomatch z) (λq w=>by unfold lV at w;cases w) ⟨us,kC,(g2.mv x2 y2).mv xx .refl⟩ nofun;refine⟨⟨ha,by omega⟩,a,ob,us,ha,nf,?_⟩;exact k r G _ ⟨e5,s1.len,λi z e=>let⟨v,k1,k2⟩:=s1.vr i z e;⟨v,k1,k2.mv (x2.trans x5) y2⟩⟩ (x2.trans x5) y2 _ ⟨p,n2,rfl⟩
  ·exact h1.elim
 ·exact h1.elim
def pickK(a:List<|List Key×Z):List Z:=a.map λp=>.d (.tup<|p.1.map kD)
def tw(a:List<|List Key×Z):List Z:=a.map (·.2)
def WR:AU K AO pickK:=by
 intro al lo H k d c hv r j;induction r generalizing c with
 |nil=>cases hv;exact .nil
 |cons m n i=>
  cases hv with
  |cons h t=>obtain⟨b,rfl,a⟩:=h;exact .cons (show Rep K al H (.ref b) _ from .tup (.inl ⟨j b _ a,a⟩) (wR _)) (i _ t)
def WS:AU K (λ_ c a=>a=c.map (·.2)) tw:=by
 intro al lo H c h a hv r k;subst hv;induction r with
 |nil=>exact .nil
 |cons d j i=>exact .cons d i
def sd(fo d:jr):jr:=λρ S=>(fo ρ S).bind λz h=>(d ρ h).bind λy c=>match z,y with
 |.loc n,.d (.tup ds)=>(match kS ds,c[n]? with
  |some k,some (.ft a)=>(match valZ a k with
   |some z=>.ok z c
   |none=>.bad)
  |_,_=>.bad)
 |_,_=>.bad
variable{k:Expr}{fk:jr}
def MB(hu:X.A.units+64<cLine)(ho:ZE X E o fo)(hk:ZE X E k fk)(hs:tU k):ZE X E (.Subscript o k P) (sd fo fk):=by
 obtain⟨to,po,R⟩:=ho;obtain⟨tk,pk,rk⟩:=hk;refine⟨_,KH (by omega) po pk hs,λB al lo H σ ρ S Q s h=>R _ _ _ _ _ _ _ _ s<|i3.mono (i3.split h) λz mr lo1 H1 S1 D x1 y1 h1 v G=>rk _ _ _ _ _ _ _ _ D<|i3.mono (i3.split h1) λy d j p S2 m x2 r c u I=>?_⟩;split at c
 ·rename_i n ds;split at c
  ·rename_i k0 kvs qk q;split at c
   ·rename_i z0 q0;obtain⟨a,hn,rfl⟩:=G;obtain⟨b,vs,rfl,hb,i⟩:=Rep.rm (show Rep X.K d p u (.tup ds)from I);have ev:=uC i qk;subst ev;obtain⟨C,ob,g1,g2⟩:=m.cell (r _ _ hn) q;obtain⟨w,e1,e2⟩:=g2.val q0;exact⟨a,b,C,k0,w,rfl,rfl,.inr ⟨ob,g1⟩,hb,e1,c d j p m .refl .refl w e2⟩
   ·exact c.elim
  ·exact c.elim
 ·exact c.elim
def acI(i nm)(hc:X.calm=true)(ho:ZE X E F fo)(hg:∀I r Q C,PG (X.comp f ([x]++[y]) [(y,c)] I r Q C) (.Name x Y)<|sZ 0)(hf:∀I r Q C,xT (X.comp f ([x]++[y]) [(y,c)] I r Q C) N U)
 (he:∀I r Q C,ZE (X.comp f ([x]++[y]) [(y,c)] I r Q C) (λ_ _ _=>False) O T)
 (j:f.kind=.function)(n:pJ f)(a:qy f)
 (hN:X.N[i]?=some y)(hk:X.env.kindOf y=some .cell)(G:X.env.cells.lookup y=some c)(m:closureFor f X.env=pure [(y,c)])(v:(relabel f X.env).names=nm)
 (D:∀p∈nm,(p.2=.cell\/p.2=.free)->p.1=y)(u:nm.lookup y=some .cell\/nm.lookup y=some .free)
 (hs:∀x,foldedSetIterable F X.env x=pure x):ZE X E (.ListComp O [⟨.Name x Y,F,N,0⟩] f P) (rp pickK fo [i] U T):=by
  refine MA WR (λM h=>⟨_,WI h,λ_ _ _ h=>h⟩) (cl:=[(y,c)]) (Nc:=[y]) (ci:=[i]) ho hc hg hf he m j n a (.cons hN (.inl hk) (by rw[G];simp[List.lookup]) .nil) (λz d q=>?_) (λz q=>?_) (λz R=>?_) hs
  ·by_cases w:z=y;·subst w;simp[List.lookup]at q;rw[G,q]
   ·have:(z==y)=false:=by simpa using w
    simp[List.lookup,this]at q
  ·rw[v]at q;have:z=y:=q.elim (λq=>D _ (bC q)<|.inl rfl) λq=>D _ (bC q) (.inr rfl);subst this;exact⟨c,by simp[List.lookup]⟩
  ·rw[aM]at R;subst R;rw[v];exact u
def acJ{L J:Pos}(hc:X.calm=true)(I:ZE X E o fo)(Q:∀u r v C,PG (X.comp f [x] [] u r v C) (.Name x Y)<|sZ 0)(hf:∀u r v C,xT (X.comp f [x] [] u r v C) N U)
 (he:∀u r v C,ZE (X.comp f [x] [] u r v C) (λ_ _ _=>False) O T)
 (a:∀y∈f.names,y.2≠.free)(m:f.kind=.function)(d:pJ f)(i:qy f)
 (p:attributeBase o "values" X.env (eval o X.env)=eval o X.env)(j:(L.endLine==J.line)=true)
 (G:∀x,foldedSetIterable (.Call (.Attribute o "values" L) [] [] J) X.env x=pure x):ZE X E (.ListComp O [⟨.Name x Y,.Call (.Attribute o "values" L) [] [] J,N,0⟩] f P) (rp tw fo [] U T):=by
  have e:relabel f X.env=f:=by
   have:f.names.map (λ(n,k)=>if(k==NameKind.free&&X.env.scope.kind==.function&&X.env.kindOf n==some .cell)then(n,NameKind.cell)else(n,k))=f.names:=by
    refine map_eq_self λy D=>?_;obtain⟨n,k⟩:=y;have:(k==NameKind.free)=false:=by simpa using a _ D
    simp[this]
   unfold relabel;rw[this]
  refine MA WS (λM h=>⟨_,WJ h p j,λσ H R q=>?_⟩) (cl:=[]) (Nc:=[]) (ci:=[]) I hc (by rw[bg];exact Q) (by rw[bg];exact hf) (by rw[bg];exact he) (closureFor_none a) m d i .nil (λx c z=>nomatch z) (λx z=>?_) (λx z=>nomatch z) G;·exact q
  ·rw[e]at z;rcases z with z|z;·exact absurd rfl (d _<|bC z)
   ·exact absurd rfl (a _<|bC z)
end
open PySem.Spec PySem.Calls PySem.W xP
open PyProof.Rows hiding St K
def tD(a:List Key):D:=.tup (a.map kD)
def ph:List D->Option (List<|List Key)
 |[]=>some []
 |.tup ds::r=>(kS ds).bind λa=>(ph r).map (a:: ·)
 |_=>none
theorem EH:∀{c} {a},ph c=some a->a.map tD=c
 |[],_,h=>by cases h;rfl
 |.tup x::r,_,h=>by obtain⟨k,j,i⟩:=aL.mp h;obtain⟨l,d,rfl⟩:=aF.mp i;rw[aT,EH d];show D.tup (k.map kD)::r=_;rw[Ci j]
 |.non::_,_,h=>by cases h
 |.bl _::_,_,h=>by cases h
 |.int _::_,_,h=>by cases h
 |.str _::_,_,h=>by cases h
 |.ty _::_,_,h=>by cases h
 |.ref _::_,_,h=>by cases h
 |.lst _::_,_,h=>by cases h
 |.exc _ _ _::_,_,h=>by cases h
theorem Jr:∀a:List Key,kS (a.map kD)=some a
 |[]=>rfl
 |k::r=>by show(oQ<|kD k).bind (λk=>(kS<|r.map kD).map (k:: ·))=_;rw[Jr r];cases k<;>rfl
def kI:List (List Key)->List (List Key)
 |[]=>[]
 |k::r=>if(r.any λj=>decide<|j=k)=true then kI r else k::kI r
def AZ{k}{r:List<|List Key}:(r.any λj=>decide<|j=k)=true↔k∈r:=by rw[dy];exact⟨λ⟨x,a,e⟩=>by rw[<-cb e];exact a,λh=>⟨k,h,aO rfl⟩⟩
theorem oU(x):∀a:List (List Key),x∈kI a↔x∈a
 |[]=>Iff.rfl
 |k::r=>by
  unfold kI;by_cases h:(r.any λj=>decide<|j=k)=true
  ·rw[av h,oU x r,aE];exact⟨.inr,λz=>z.elim (λz=>by rw[z];exact AZ.mp h) id⟩
  ·rw[aw h,aE,aE,oU x r]
theorem uK:∀a:List (List Key),(kI a).Nodup
 |[]=>.nil
 |k::r=>by
  unfold kI;by_cases h:(r.any λj=>decide<|j=k)=true;·rw[av h];exact uK r
  ·rw[aw h];exact bB.mpr ⟨λz=>h<|AZ.mpr<|(oU k r).mp z,uK r⟩
theorem JE:∀a:List (List Key),(kI a).length<=a.length
 |[]=>ah _
 |k::r=>by
  have d:=JE r;have c:(k::r).length=r.length+1:=rfl;unfold kI;split;·omega
  ·rw[aj];omega
def wZ:D->R (List D)
 |.lst ds=>match ph ds with
  |some a=>if mi ds=true/\ds.length<64 then .ok (ky<|(kI a).map tD)else .bad
  |none=>.bad
 |_=>.bad
variable{X:Cx}
def Sw{w}:∀{m} {c} {j} {l},kS m=some c->jb K al H j m->Vals j l->ItemsAre (j4 P w) c l:=by
 intro m c j l h r v;induction m generalizing c j l with
 |nil=>cases r;cases v;cases h;exact .nil
 |cons d _ o=>
  cases r with
  |cons a b=>
   cases v with
   |cons hv p=>
    obtain⟨k,n,t⟩:=aL.mp h;obtain⟨c,q,rfl⟩:=aF.mp t;refine .cons ?_ (o q b p);cases d with
    |int i=>cases n;cases a;exact oP hv
    |str i=>cases n;cases a;exact oP hv
    |_=>cases n
def Mc{s}(I:Inv X pins σ H s){u}(r:Rep X.K al H v (tD ks))(hv:RelV v u):∃b,u=.ref b/\v=.ref b/\lZ X.prog X.w s.heap ks b:=by obtain⟨a,l,rfl,h,d⟩:=r.rm;obtain rfl:u=.ref a:=hv;obtain⟨c,q,⟨o,k,j,n,i⟩,_⟩:=I.tuple h;exact⟨a,rfl,rfl,o,_,n,k,j,i,Sw (Jr ks) d q⟩
def PD{w}(h:ItemsAre (j4 P w) ks vs):qK (ks.map kD) vs:=by
 induction h with
 |nil=>exact .nil
 |@cons k v ks vs c _ a=>
  refine .cons ?_ a;have:=Ca c;cases k with
  |inl i=>obtain⟨t,rfl⟩:=(show∃t,v=Value.int i t from this);rfl
  |inr x=>obtain⟨t,rfl⟩:=(show∃t,v=Value.str x t from this);rfl
def item_tup{w}(x:lZ P w h ks b):qL h (.ref b) (tD ks):=by obtain⟨o,a,n,c,j,i,d⟩:=x;exact⟨b,o,a,n,rfl,c,j,i,PD d⟩
def wQ:Value->V
 |.ref b=>.ref b
 |_=>.non
variable{E:XK}{e:Expr}{ta:TE}{f:jw}{p1 p2 pos uO:Pos}
def WA(hc:X.calm=true)(O:X.A.units+64<cLine)(he:PE X e ta)(hg:Gl X "sorted")(hm:X.mg "sorted"=none)(hg2:Gl X "set")(hm2:X.mg "set"=none)
 (hs:X.se e [])(hpl:X.bk uO [])
 (hs2:starEach [.Call (.Name "set" p2) [e] [] uO] X.env=(false,eval (.Call (.Name "set" p2) [e] [] uO) X.env)::starEach [] X.env)(BR:X.bk pos []):
   PE X (.Call (.Name "sorted" p1) [.Call (.Name "set" p2) [e] [] uO] [] pos) (λσ H Q=>ta σ H λx0 m=>∃x,[x0]=[x]/\∃l vs z al jK,x=.ref l/\k7 X.K m l vs/\jb X.K al m vs z/\ph z=some jK/\mi z=true/\z.length<64/\∀p n,m p=none->jb X.K al m n (ky<|(kI jK).map tD)->Q (.ref p) (upd m p<|.lst n)):=by
  intro J s σ H Q I h;refine bP (pH I hg hm A9 ?_ (by decide) (by decide));refine cg ?_ hs2 BR;rw[hs2];show wpAny _ _ (spliced<|(false,eval (.Call (.Name "set" p2) [e] [] uO) X.env)::backTo pos (starEach [] X.env)) _ _ s;refine cI ?_;refine bP (pH I hg2 hm2 A8 ?_ (by decide) (by decide));have sy:PA X [e] (xb ta xc):=q8 he rf hs;refine cE (ji (sy uO J s σ H (λxi m=>∃x,xi=[x]/\∃(l:Addr) (vs:List V) (z:List D) (al:Addr->Prop) (jK:List<|List Key),x=.ref l/\k7 X.K m l vs/\jb X.K al m vs z/\ph z=some jK/\mi z=true/\z.length<64/\∀p n,m p=none->jb X.K al m n (ky<|(kI jK).map tD)->Q (.ref p) (upd m p<|.lst n)) I h) λa s1 nu=>?_) hs hpl;obtain⟨xi,m,I1,r1,q1⟩:=nu;obtain⟨x,rfl,l,vs,z,al,jK,rfl,hl,rv,hk,hh,BC,q⟩:=q1;obtain⟨u,rfl,ru⟩:=vals1 r1;obtain rfl:u=Value.ref l:=ru;obtain⟨c,vv,pl,hz⟩:=I1.list hl;have uq:=EH hk;obtain⟨sg,BS⟩:=yW hh;have Jy:z.length=jK.length:=by rw[<-uq,ai]
  have Tj:vs.length=z.length:=rv.length;have U:c.length=jK.length:=by have:=vv.length;omega
  have at_:∀(i:Nat) (v:Value),c[i]?=some v->∃b,v=.ref b/\lZ X.prog X.w s1.heap (jK.getD i []) b/\Rep X.K al m (.ref b) (tD<|jK.getD i [])/\tD (jK.getD i [])∈z:=λi v hv=>by
   have Y:i<jK.length:=by rw[<-U];exact(aB.mp hv).1
   have ed:z[i]?=some (tD<|jK.getD i []):=by rw[<-uq,aA,ao Y,aQ,ao Y];rfl
   obtain⟨y,e1,e2⟩:=rv.getD ed;obtain⟨u',IY,ru⟩:=vv.get e1;rw[hv]at IY;cases IY;obtain⟨b,rfl,rfl,tk⟩:=Mc I1 e2 ru;exact⟨b,rfl,tk,e2,bf ed⟩
  refine GX (A:=X.A) (items:=c.toArray) (jK:=jK) (I1.ok.hd hc) O pl.isList (by rw[aN];exact U) (λi v hv=>by obtain⟨b,h1,C,_⟩:=at_ i v (by simpa using hv);exact⟨b,h1,C⟩) (by rw[aN];omega) λj tk js SV mem ext=>?_
  have Z:∀b o,s1.heap.get? b=some o->j.get? b=some o:=λb o e=>ext b o (Heap.lt_size e) e;have I2:Inv X J σ m {s1 with heap:=j,toks:=tk}:=I1.kept (t':=tk) Z;refine dc ?_;obtain⟨o,es,ep,t,ho,hex,hd,el,hin,hn,tb,BK,QZ,IL,pK,BP⟩:=SV;have hf:t.fits es.size=true:=by have:=tb.fits;rw[aC]at this;exact this
  have SE:(lR j es.toList).Perm (kI jK):=wJ pK (uK jK) λx=>by rw[BP x,mem x,oU]
  have Bk:∀d∈(kI jK).map tD,ki d=some sg:=λd hd=>by obtain⟨k,wb,rfl⟩:=az.mp hd;exact BS _ (by rw[<-uq];exact az.mpr ⟨k,(oU k jK).mp wb,rfl⟩)
  have sl:=dB;have yV:es.size<=c.length:=by simpa using hn
  have Gw:∀u∈c,∃b,u=.ref b/\lZ X.prog X.w j (tK j u) b/\Rep X.K al m (.ref b) (tD (tK j u)):=λu O=>by obtain⟨i,Y,ei⟩:=bS O;obtain⟨b,rfl,C,h3,_⟩:=at_ i u (by rw[ao Y,ei]);have t2:=C.at' (λo e=>Z b o e);rw[t2.tK];exact⟨b,rfl,t2,h3⟩
  have L:∀a:List Value,a.Perm (es.toList.map Prod.snd)->(∀v∈a,v∈c)/\(a.map λu=>tD<|tK j u).Perm ((kI jK).map tD)/\a.length<64:=λa M=>by
   have fl:∀v∈a,v∈c:=λv hv=>by obtain⟨e,he,rfl⟩:=az.mp (M.mem_iff.mp hv);simpa using hin e he
   have p1:(a.map λu=>tK j u).Perm (kI jK):=by have:=M.map λu=>tK j u;rw[aX]at this;exact this.trans SE
   refine⟨fl,?_,?_⟩
   ·have:=p1.map tD;rw[aX]at this;exact this
   ·have:=p1.length_eq;rw[ai]at this;have:=JE jK;omega
  have F:∀a:List Value,(∀v∈a,v∈c)->Vals (a.map wQ) a/\jb X.K al m (a.map wQ) (a.map λu=>tD<|tK j u):=λa=>by
   induction a with
   |nil=>intro _;exact⟨.nil,.nil⟩
   |cons u r ih=>
    intro O;obtain⟨g1,g2⟩:=ih λv hv=>O v (.tail _ hv);obtain⟨b,e1,_,h3⟩:=Gw u (O u<|.head _);have e2:wQ u=.ref b:=by rw[e1];rfl
    rw[aT,aT,e2];exact⟨.cons (by rw[e1];rfl) g1,.cons h3 g2⟩
  refine LU (A:=X.A) (s:={s1 with heap:=j,toks:=tk}) (Gd:=λa=>a.Perm<|es.toList.map Prod.snd) (G:=λout=>∃n,Vals n out.toList/\jb X.K al m n (ky<|(kI jK).map tD)) (I2.ok.hd hc)
   (λB Q' hB hq=>LJ hB ⟨o,ho,hex,hd,hf⟩ ⟨IL,λ_=>tb.pQ,λ_=>tb.oM⟩ (by omega) λC tJ d a M e2 s2=>hq C tJ d a M e2 s2)
   (λa M=>by have:=(L a M).2.2;omega) (λa M C=>?_) (λa M C t' kp B=>?_) λout p h3 xh Bp d Rn hG R wm BI=>?_
  ·obtain⟨fl,pm,_⟩:=L a M;obtain⟨g1,g2⟩:=F a fl;refine⟨a.map wQ,by simpa using g1,?_⟩;rw[<-z5 pm Bk,LQ (by rw[ai];exact C)];exact g2
  ·obtain⟨fl,pm,Co⟩:=L a M;have Ek:∀d∈a.map λu=>tD (tK j u),ki d=some sg:=λd hd=>Bk d (pm.mem_iff.mp hd);have RU:mm t'.heap a (a.map λu=>tD<|tK j u):=by
    have:∀a:List Value,(∀v∈a,v∈c)->mm t'.heap a (a.map λu=>tD<|tK j u):=λa=>by
     induction a with
     |nil=>intro _;exact .nil
     |cons u r ih=>intro O;obtain⟨b,e1,C,_⟩:=Gw u (O u<|.head _);refine .cons ?_ (ih λv hv=>O v<|.tail _ hv);rw[e1]at C⊢;exact qL.keep (item_tup C) kp
    exact this a fl
   have:=EB (prog:=X.prog) (w:=X.w) (s:=t') RU (IQ Ek) C Co B;refine bp this (λκ t1 hk=>⟨hk.1,bp hk.2 (λr t2 hr=>⟨hr.1,hr.2.1,hr.2.2.1,?_⟩) λ_ _ x=>x⟩) λ_ _ x=>x;obtain⟨pp,g1,g2,g3⟩:=hr.2.2.2;have mr:=BV g1;rw[ai]at mr;have fo:∀v∈outs a pp,v∈c:=λv hv=>by unfold outs at hv;obtain⟨i,Y,rfl⟩:=az.mp hv;have T:=mr i Y;rw[aQ,ao T,fE];exact fl _ (b9 T)
   obtain⟨v1,v2⟩:=F _ fo;refine⟨(outs a pp).map wQ,by rw[g2];exact v1,?_⟩;rw[<-z5 pm Bk,<-g3];have e9:((outs a pp).map λu=>tD<|tK j u)=outD (a.map λu=>tD<|tK j u) pp:=by unfold outs outD;rw[aX];refine cm λi Y=>?_;have T:=mr i Y;show tD (tK j<|a.getD i .none)=(a.map λu=>tD<|tK j u).getD i .non;rw[aQ,aQ,aA,ao T];rfl
   rw[<-e9];exact v2
  ·obtain⟨n,hw,hr⟩:=hG;have lw:n.length<=sizeLine:=by
    have:=hw.length;simp only[aC]at this;omega
   have new:kz X.prog X.w (upd m p<|.lst n) h3 p (.lst n):=⟨lw,out.toList,Bp,hw,by rw[fL];exact BI⟩
   have I3:Inv X J σ (upd m p<|.lst n) {s1 with heap:=h3,toks:=xh,drawn:=d}:=
    Inv.call (s:={s1 with heap:=j,toks:=tk}) (g':=s1.gens) (t':=xh) (d':=d) (ch:=[]) I2 (Un.laid wm R<|I2.hok.fresh R) (I2.hok.laid wm R new) I2.bare (λb hb=>by simp at hb)
   exact⟨.ref p,_,I3,rfl,q p n (I2.hok.fresh R) hr⟩
end P2
namespace P2
open PySem L2
def Ap(f:jr):jr:=λρ S=>(f ρ S).bind λz a=>match z with
 |.d d=>(match wZ d with
  |.ok ds=>.ok (.d<|.lst ds) a
  |_=>.bad)
 |_=>.bad
section
variable{X:Cx}{E:XK}{e:Expr}{f:jr}{b a i c:Pos}
def acU(O:X.A.units+64<cLine)(hc:X.calm=true)(Z:Gl X "sorted")(U:X.mg "sorted"=none)(F:Gl X "set")(D:X.mg "set"=none)(he:ZE X E e f)
 (R:X.se e [])(C:X.bk a [])
 (y:starEach [.Call (.Name "set" c) [e] [] a] X.env=(false,eval (.Call (.Name "set" c) [e] [] a) X.env)::starEach [] X.env)(o:X.bk b []):
   ZE X E (.Call (.Name "sorted" i) [.Call (.Name "set" c) [e] [] a] [] b) (Ap f):=by
  obtain⟨t,p,r⟩:=he;refine⟨_,WA hc O p Z U F D R C y o,λB al lo H σ ρ S Q s h=>r _ _ _ _ _ _ _ _ s<|i3.mono (i3.split h) λz j n H1 S1 I x1 y1 m v L=>⟨v,rfl,?_⟩⟩;split at m
  ·rename_i d;have x:Rep X.K j H1 v d:=L;unfold wZ at m;split at m
   ·rename_i yk k;split at k
    ·rename_i ds;split at k
     ·rename_i M Y;split at k
      ·rename_i G;cases k;obtain⟨l,J,rfl,V,u⟩:=x.qz;exact⟨l,J,ds,j,M,rfl,V,u,Y,G.1,G.2,λp ws q T=>m j n _ (I.grow<|mj q) (.of<|mj (K:=X.K) q) .refl _<|show kq X.K j n _ (.ref p) (.d<|.lst _)from T.uH q (I.fresh p q)⟩
      ·cases k
     ·cases k
    ·cases k
   ·exact m.elim
  ·exact m.elim
end
def n7(x y:D):R D:=match ye x y with
 |.ok ds=>.ok (.lst ds)
 |_=>.bad
def CN:lr X E (binaryOp .Add) n7:=by
 refine⟨_,Kr,λal H x y u t Q fr o n h=>?_⟩;unfold n7 ye at h;split at h
 ·rename_i v a;split at a
  ·split at a
   ·rename_i z;cases a;obtain⟨l,k,rfl,r,i⟩:=o.zc;obtain⟨m,j,rfl,q,d⟩:=n.zc;exact⟨l,m,k,j,rfl,rfl,r,q,by rw[i.length,d.length];exact z,λp c=>h _ (mj c) _ ((i.append d).uH c (fr p c))⟩
   ·cases a
  ·cases a
 ·exact h.elim
def tp:D->R D
 |.lst ds=>match ph ds with
  |some a=>if ds.length<900 then .ok (.int (kI a).length)else .bad
  |none=>.bad
 |_=>.bad
variable{X:Cx}{E:XK}{e:Expr}{J:TE}{f:jw}{C j L F:Pos}
def Wq(hc:X.calm=true)(hu:X.A.units+64<cLine)(he:PE X e J)(hg:Gl X "len")(hm:X.mg "len"=none)(hg2:Gl X "set")(hm2:X.mg "set"=none)
 (hs:X.se e [])(hpl:X.bk j [])
 (G:starEach [.Call (.Name "set" F) [e] [] j] X.env=(false,eval (.Call (.Name "set" F) [e] [] j) X.env)::starEach [] X.env)(M:X.bk C []):
   PE X (.Call (.Name "len" L) [.Call (.Name "set" F) [e] [] j] [] C) (λσ H Q=>J σ H λx0 c=>∃x,[x0]=[x]/\∃l n a al jK,x=.ref l/\k7 X.K c l n/\jb X.K al c n a/\ph a=some jK/\a.length<900/\Q (.int (kI jK).length) c):=by
  intro k s σ H Q I h;refine bP (pH I hg hm rE ?_ (by decide) (by decide));refine cg ?_ G M;rw[G];show wpAny _ _ (spliced<|(false,eval (.Call (.Name "set" F) [e] [] j) X.env)::backTo C (starEach [] X.env)) _ _ s;refine cI ?_;refine bP (pH I hg2 hm2 A8 ?_ (by decide) (by decide));have sy:PA X [e] (xb J xc):=q8 he rf hs;refine cE (ji (sy j k s σ H (λr c=>∃x,r=[x]/\∃(l:Addr) (n:List V) (a:List D) (al:Addr->Prop) (jK:List<|List Key),x=.ref l/\k7 X.K c l n/\jb X.K al c n a/\ph a=some jK/\a.length<900/\Q (.int (kI jK).length) c) I h) λus s1 nu=>?_) hs hpl;obtain⟨r,c,Z,r1,q1⟩:=nu;obtain⟨x,rfl,l,n,a,al,jK,rfl,hl,rv,hk,BC,q⟩:=q1;obtain⟨u,rfl,ru⟩:=vals1 r1;obtain rfl:u=Value.ref l:=ru;obtain⟨d,vv,pl,hz⟩:=Z.list hl;have U:=EH hk;have Jy:a.length=jK.length:=by rw[<-U,ai]
  have Tj:n.length=a.length:=rv.length;have m:d.length=jK.length:=by have:=vv.length;omega
  have at_:∀(i:Nat) (v:Value),d[i]?=some v->∃b,v=.ref b/\lZ X.prog X.w s1.heap (jK.getD i []) b:=λi v hv=>by
   have hi:i<jK.length:=by rw[<-m];exact(aB.mp hv).1
   have ed:a[i]?=some (tD<|jK.getD i []):=by rw[<-U,aA,ao hi,aQ,ao hi];rfl
   obtain⟨y,e1,e2⟩:=rv.getD ed;obtain⟨u',z,ru⟩:=vv.get e1;rw[hv]at z;cases z;obtain⟨b,rfl,rfl,tk⟩:=Mc Z e2 ru;exact⟨b,rfl,tk⟩
  refine GX (A:=X.A) (items:=d.toArray) (jK:=jK) (Z.ok.hd hc) hu pl.isList (by rw[aN];exact m) (λi v hv=>at_ i v (by simpa using hv)) (by rw[aN];omega) λh' tk js SV mem ext=>?_;have T:∀b o,s1.heap.get? b=some o->h'.get? b=some o:=λb o e=>ext b o (Heap.lt_size e) e;have I2:Inv X k σ c {s1 with heap:=h',toks:=tk}:=Z.kept (t':=tk) T;refine dc ?_;obtain⟨o,Y,ep,t,ho,hex,hd,el,hin,hn,tb,BK,QZ,IL,pK,O⟩:=SV;have hf:t.fits Y.size=true:=by have:=tb.fits;rw[aC]at this;exact this
  have p:(lR h' Y.toList).Perm (kI jK):=wJ pK (uK jK) λx=>by rw[O x,mem x,oU]
  have yV:Y.size<=d.length:=by simpa using hn
  have R:Y.size=(kI jK).length:=by have:=p.length_eq;unfold lR at this;rw[ai,aC]at this;exact this
  exact PySem.call_len_set ho hex hd hf (by omega) ⟨.int (kI jK).length,c,I2.tok _,⟨_,by rw[R]⟩,q⟩
def OW(U:X.calm=true)(D:X.A.units+64<cLine)(R:Gl X "len")(I:X.mg "len"=none)(o:Gl X "set")(n:X.mg "set"=none)(T:DE X E e f)
 (G:X.se e [])(m:X.bk j [])
 (k:starEach [.Call (.Name "set" F) [e] [] j] X.env=(false,eval (.Call (.Name "set" F) [e] [] j) X.env)::starEach [] X.env)(c:X.bk C []):
   DE X E (.Call (.Name "len" L) [.Call (.Name "set" F) [e] [] j] [] C) (λρ=>(f ρ).bind tp):=by
  obtain⟨t,p,r⟩:=T;refine⟨_,Wq U D p R I o n G m k c,λP Z al H σ ρ Q s h=>r _ _ _ _ _ _ _ s<|Aft.mono (Aft.split h) λd q Y a v x=>⟨v,rfl,?_⟩⟩;unfold tp at a;split at a
  ·rename_i V;split at a
   ·rename_i y O;split at a
    ·rename_i z;obtain⟨l,u,rfl,M,i⟩:=x.qz;exact⟨l,u,V,al,y,rfl,M,i,O,z,a q (.refl q) _<|.int _⟩
    ·exact a.elim
   ·exact a.elim
  ·exact a.elim
end P2
namespace WM
open PySem L2 P2 WP
def sL(a:Ad)(d c:jf):jQ:=(pR 1<|dA c<|aa (dV 2) iT)
def rM(a:Ad)(c d:jf):jQ:=(kn (tA 1 (λρ=>((aa (dV 0) iT) ρ).bind jy))
    (kn (uT (λρ=>((dA c (aa (dV 0) iT)) ρ).bind kd) (gV 2) (sL a c d))
    (λρ=>(lj (dV 1)) (sY 1 ρ))))
def yy(a:Ad)(c:jf):jQ:=(kn (lG 1 (dA c (aa (dV 0) iT)))
    (kn (lG 2 (jq (λρ=>((jq (kA (λρ=>((dV 1) ρ).bind kd) 1 [] (gV 0) (b1 tB (d2 nO (iW 0 0) (dA jv (aa (jc "back") (aa (jc "ago") iT))))) (iW 0 1))) ρ).bind nQ)))
    (kn (lG 3 (jq (λρ=>((jq (kA (λρ=>((dV 1) ρ).bind kd) 1 [] (gV 0) (b1 tB (d2 nO (iW 0 0) (dA jv (aa (jc "on") (aa (jc "until") iT))))) (iW 0 1))) ρ).bind nQ)))
    (kn (lG 4 (jq (λρ=>((jq (kA (λρ=>((dV 1) ρ).bind kd) 1 [] (gV 0) (b1 tB (d2 jU (iW 0 0) (jc "at"))) (iW 0 1))) ρ).bind nQ)))
    (kn (tA 5 (λρ=>((aa (dA jv (aa (jc "here") iT)) iT) ρ).bind jy))
    (kn (pR 5 (jq (kA (λρ=>((dV 2) ρ).bind kd) 1 [] (gV 0) (λ_=>.ok true) (dA jv (aa (jc "back") (aa (dV 0) iT))))))
    (kn (pR 5 (jq (kA (λρ=>((dV 3) ρ).bind kd) 1 [] (gV 0) (λ_=>.ok true) (dA jv (aa (jc "on") (aa (dV 0) iT))))))
    (kn (pR 5 (jq (kA (λρ=>((dV 4) ρ).bind kd) 1 [] (gV 0) (λ_=>.ok true) (dA jv (aa (jc "at") (aa (dV 0) iT))))))
    (λρ=>(lj (dV 5)) (sY 5 ρ))))))))))
def yD(a:Ad)(c:jf)(b:Nat):jH:=(jG<|zF c<|iN (z2 pe (z2 jS (r6 (zV 2)<|zD<|dV 1)<|zD<|iQ 0)<|z2 jS (r6 (zV 2)<|zD<|dV 0)<|zD<|iQ 0)<|iN (zD<|iQ 1) i7)
def og(a:Ad)(h l k j i:jf)(c d:jo)(b:Nat):jH:=(iY (jk 2 (zD (iW 0 0)))
    (iY (jM (zB (b1 tB (d2 jU (dV 2) (jc "num")))) (jG (zD (dA h (aa (d2 jS (iW 0 1) (iQ 0)) (aa (d2 jS (iW 0 1) (iQ 1)) iT))))) kf)
    (iY (jM (zB (b1 tB (d2 jU (dV 2) (jc "ago")))) (jG (zZ c (iN (zD (dA jv (aa (jc "back") (aa (iW 0 1) iT)))) (iN (zD (dA jv (aa (jc "here") iT))) (iN (zV 1) i7))))) kf)
    (iY (jM (zB (b1 tB (d2 jU (dV 2) (jc "until")))) (jG (zZ c (iN (zD (dA jv (aa (jc "here") iT))) (iN (zD (dA jv (aa (jc "on") (aa (iW 0 1) iT)))) (iN (zV 1) i7))))) kf)
    (iY (jM (zB (b1 tB (d2 jU (dV 2) (jc "+")))) (jG (zF l (iN (zZ d (iN (zD (iW 0 1)) (iN (zV 1) i7))) (iN (zZ d (iN (zD (iW 0 2)) (iN (zV 1) i7))) i7)))) kf)
    (iY (jM (zB (b1 tB (d2 jU (dV 2) (jc "-")))) (jG (zF k (iN (zZ d (iN (zD (iW 0 1)) (iN (zV 1) i7))) (iN (zZ d (iN (zD (iW 0 2)) (iN (zV 1) i7))) i7)))) kf)
    (iY (jM (zB (b1 tB (d2 jU (dV 2) (jc "times")))) (jG (zF j (iN (zD (iW 0 1)) (iN (zZ d (iN (zD (iW 0 2)) (iN (zV 1) i7))) i7)))) kf)
    (iY (jM (zB (b1 tB (d2 jU (dV 2) (jc "abs")))) (jG (zF i (iN (zZ d (iN (zD (iW 0 1)) (iN (zV 1) i7))) i7))) kf)
    (iY (jk 3 (z2 jS (r6 (zV 1) (zD (dV 0))) (zD (iQ 1))))
    (jG (zD (dA h (aa (iW 3 0) (aa (iW 3 1) iT))))))))))))))
def vT(a:Ad)(h:jf)(d c:jo)(b:Nat):jH:=(iY (jk 2 (zD (iW 0 0)))
    (iY (jM (zB (b1 tB (d2 jU (dV 2) (jc "<")))) (jG (zF h (iN (zZ d (iN (zD (iW 0 1)) (iN (zV 1) i7))) (iN (zZ d (iN (zD (iW 0 2)) (iN (zV 1) i7))) i7)))) kf)
    (iY (jM (zB (b1 tB (d2 jU (dV 2) (jc "=")))) (jG (z2 m8 (zZ d (iN (zD (iW 0 1)) (iN (zV 1) i7))) (zZ d (iN (zD (iW 0 2)) (iN (zV 1) i7))))) kf)
    (iY (jM (zB (b1 tB (d2 jU (dV 2) (jc "not")))) (jG (An (zZ c (iN (zD (iW 0 1)) (iN (zV 1) i7))))) kf)
    (iY (jM (zB (b1 tB (d2 jU (dV 2) (jc "and")))) (jG (qa (zZ c (iN (zD (iW 0 1)) (iN (zV 1) i7))) (zZ c (iN (zD (iW 0 2)) (iN (zV 1) i7))))) kf)
    (jG (Ao (zZ c (iN (zD (iW 0 1)) (iN (zV 1) i7))) (zZ c (iN (zD (iW 0 2)) (iN (zV 1) i7))))))))))
def sJ(a:Ad):jH:=(iY (jk 3 (xv (qb a.Sight (zV 0) "masts") (zD (iW 2 0)) (mY (λρ=>(iT ρ).bind jy))))
    (iY (u2 (qb a.Sight (zV 0) "places") (ve (iN (zD (iW 2 0)) (iN (zD (iW 2 1)) i7))) (zR (dA lL (aa (dV 3) iT))))
    (oz 3 (zD (dV 2)))))
def yw(a:Ad)(b:Nat):jH:=(iY (xk a.Sight (zV 0) "masts" EV)
    (iY (xk a.Sight (zV 0) "places" Am)
    (mK (λρ=>((dV 1) ρ).bind kd) (hV 2) (sJ a))))
def yx(a:Ad)(b:Nat):jH:=(iY (jk 3 (zD (uj (b1 tB (d2 jU (iW 2 0) (jc "at"))) (iW 2 1) (iW 1 0))))
    (iY (jk 4 (Al (qb a.Sight (zV 0) "places") (ve (iN (zD (dV 3)) (iN (zD (iW 1 1)) i7)))))
    (iY (jM (xo (zV 4)) (jG (zD (dC .non))) kf)
    (iY (jM (zB (b1 tB (d2 jU (iW 2 0) (jc "back")))) (u1 4 x9 (zD (iW 2 1))) kf)
    (iY (jM (zB (b1 tB (d2 jU (iW 2 0) (jc "on")))) (u1 4 x8 (zD (iW 2 1))) kf)
    (iY (jk 5 (xn (qb a.Sight (zV 0) "masts") (dV 3)))
    (jG (zR (uj (b1 tB (Be za m9 (iQ 0) (dV 4) (dA lL (aa (dV 5) iT)))) (d2 jS (dV 5) (dV 4)) (dC .non))))))))))
def qt(a:Ad)(c:jo):jH:=(iY (jk 5 (xu a.Sight "one_seen" c [] (zV 0) (iN (zD (dV 1)) (iN (zD (dV 4)) i7))))
    (iY (jM (xo (zV 5)) (jG (zD (dC .non))) kf)
    (u2 (zV 3) (Ak (zD (dV 4))) (zD (dV 5)))))
def vQ(a:Ad)(c:jo)(b:Nat):jH:=(iY (jk 3 Am)
    (iY (mK (λρ=>((dV 2) ρ).bind kd) (hV 4) (qt a c))
    (jG (zV 3))))
def yz(a:Ad)(b:Nat):jH:=(jG<|EU<|rp pickK (zV 0) [0] qh<|zF jv<|iN (zD<|dV 0)<|iN (zF jv<|iN (z2 jS (sd (zV 1)<|zD<|dV 0)<|zD<|iQ 1)<|iN (z2 jS (sd (zV 1)<|zD<|dV 0)<|zD<|iQ 2) i7) i7)
def yB(a:Ad)(b:Nat):jH:=(iY (jk 1 (Ap (vd (rp tw (zV 0) [] qh (zD (dA jv (aa (iW 0 1) (aa (iW 0 0) iT))))))))
    (jG (zD (jq (kA (λρ=>((dV 1) ρ).bind kd) 1 [] (gV 0) (λ_=>.ok true) (dA jv (aa (iW 0 1) (aa (iW 0 0) iT))))))))
def qS(a:Ad)(k l:jf)(i c d j h:jo):jH:=(iY (jk 9 (xu a.Sight "seen_from" c [] (zV 5) (iN (zD (dV 8)) (iN (zD (dV 6)) i7))))
    (jM (tM (xp (zV 9)) (nD tT (zZ j (iN (zD (iW 4 1)) (iN (zZ d (iN (zV 9) i7)) i7))))) (oz 2 (zF jv (iN (zD (iW 8 0)) (iN (zD (iW 8 1)) (iN (zD (iW 4 0)) (iN (zZ h (iN (zV 9) i7)) i7)))))) (oz 7 (zD (dV 8)))))
def sN(a:Ad)(j h:jf)(c d i l k:jo)(b:Nat):jH:=(iY (jk 5 (xq a.Sight c (iN (zD (dV 3)) i7)))
    (iY (jk 6 (zD (dA h (aa (iW 4 1) iT))))
    (iY (jk 7 (mY (λρ=>(iT ρ).bind jy)))
    (iY (mK (λρ=>((dV 3) ρ).bind kd) (hV 8) (qS a j h c d i l k))
    (rZ b 7 (jk 3 (zD (dV 7))))))))
def yA(a:Ad)(d j:jf)(h c i l k:jo)(b:Nat):jH:=(iY (jk 2 (mY (λρ=>(iT ρ).bind jy)))
    (iY (jk 3 (zD (jq (kA (λρ=>((dV 0) ρ).bind kd) 1 [] (gV 0) (λ_=>.ok true) (dA jv (aa (iW 0 0) (aa (iW 0 1) (aa (dA d (aa (d2 jS (iW 0 2) (iQ 0)) (aa (d2 jS (iW 0 2) (iQ 1)) iT))) iT))))))))
    (iY (mK (λρ=>((dV 1) ρ).bind kd) (hV 4) (sN a d j h c i l k b))
    (rZ b 2 (jG (zD (dA jv (aa (dV 2) (aa (dV 3) iT)))))))))
def yC(a:Ad)(c:jo)(b:Nat):jH:=(jG<|z2 jS (zZ c<|iN (zD<|dV 0)<|iN (zD<|dV 1) i7)<|zD<|iQ 0)
def yE(a:Ad)(c:jo)(b:Nat):jH:=(jG<|z2 jS (zZ c<|iN (zD<|dV 0)<|iN (zD<|dV 1) i7)<|zD<|iQ 1)
def yL(a:Ad)(b:Nat):jH:=(iY (jM (qg (b1 tB (d2 jU (iW 0 1) (iQ 0)))) (iY (jk 2 (zR (d2 j5 (iW 0 0) (dV 1))))
    (iY (u3 0 (iQ 0) (zR (d2 kR (iW 0 0) (dV 1))))
    (jG (zD (dV 2))))) kf)
    (iY (u3 0 (iQ 0) (zR (d2 j5 (d2 kr (d2 ku (d2 j5 (iW 0 0) (iQ 2147483647)) (iQ 48271)) (iQ 1013)) (iQ 2147483629))))
    (jG (zR (d2 j5 (d2 kR (d2 j5 (d2 ku (iW 0 0) (iQ 69621)) (iQ 2147483587)) (iQ 11)) (dV 1))))))
def yQ(a:Ad)(d:jf)(c:jo)(b:Nat):jH:=(iY (jk 1 (zZ c (iN (zV 0) (iN (zD (iQ 8)) i7))))
    (iY (jM (zB (b1 tB (d2 jU (dV 1) (iQ 7)))) (jG (zF jv (iN (z2 ku (zZ c (iN (zV 0) (iN (zD (d2 zI (iQ 10) (iQ 60))) i7))) (z2 pe (zD (iQ 1)) (z2 ku (zD (iQ 2)) (zZ c (iN (zV 0) (iN (zD (iQ 2)) i7)))))) (iN (zD (iQ 1)) i7)))) kf)
    (iY (jM (zB (b1 tB (d2 jU (dV 1) (iQ 6)))) (jG (zF d (iN (z2 pe (zZ c (iN (zV 0) (iN (zD (iQ 9)) i7))) (zD (iQ 3))) (iN (zD (iQ 2)) i7)))) kf)
    (jG (zF jv (iN (zZ c (iN (zV 0) (iN (zD (iQ 4)) i7))) (iN (zD (iQ 1)) i7)))))))
def sM(a:Ad)(d:jf)(h c:jo):jH:=(iY (oz 4 (zF jv (iN (zD (d2 jS (dV 3) (d2 j5 (dV 6) (iQ 3)))) (iN (zD (dV 5)) (iN (zZ c (iN (zV 7) i7)) i7)))))
    (jk 5 (zD (d2 kr (dV 5) (iQ 1)))))
def vG(a:Ad)(d:jf)(h c:jo):jH:=(oz 4<|zF jv<|iN (zD<|dV 11)<|iN (zD<|dV 5)<|iN (zZ c<|iN (zV 7) i7) i7)
def rC(a:Ad)(d:jf)(c h:jo):jH:=(iY (jM (qg (b1 tB (d2 rN (dA lL (aa (dV 4) iT)) (dV 2)))) lH.bk kf)
    (iY (jk 7 (mY (λρ=>((aa (dV 6) (aa (d2 j5 (d2 kR (dA d (aa (dV 0) (aa (iQ 0) iT))) (iQ 7)) (iQ 2)) iT)) ρ).bind jy)))
    (iY (jk 5 (z2 kr (zD (d2 kr (dV 5) (iQ 1))) (zZ c (iN (zV 7) (iN (zD (iQ 4)) i7)))))
    (iY (jM (nD tB (z2 jU (zZ c (iN (zV 7) (iN (zD (iQ 9)) i7))) (zD (iQ 1)))) (jk 5 (z2 kr (zD (dV 5)) (zZ c (iN (zV 7) (iN (zD (iQ 3000)) i7))))) kf)
    (iY (jk 8 (zZ c (iN (zV 7) (iN (zD (iQ 12)) i7))))
    (iY (jM (qg (rD (b1 tB (d2 jU (dV 8) (iQ 11))) (b1 tB (d2 m9 (dA lL (aa (dV 4) iT)) (iQ 50))))) (mK (λρ=>((aa (iQ 9) iT) ρ).bind qD) (hV 9) (sM a d c h)) kf)
    (iY (jk 10 (zD (d2 jS (jq (λρ=>((aa (jq (λρ=>((aa (iQ 0) iT) ρ).bind jy)) (aa (jq (λρ=>((aa (iQ 0) iT) ρ).bind jy)) (aa (jq (λρ=>((aa (iQ 0) iT) ρ).bind jy)) (aa (jq (λρ=>((aa (iQ 1) iT) ρ).bind jy)) (aa (jq (λρ=>((aa (iQ 0) (aa (iQ 1) iT)) ρ).bind jy)) (aa (jq (λρ=>((aa (iQ 0) (aa (iQ 1) (aa (iQ 2) iT))) ρ).bind jy)) (aa (jq (λρ=>((aa (iQ 2) iT) ρ).bind jy)) (aa (jq (λρ=>((aa (iQ 0) (aa (iQ 2) iT)) ρ).bind jy)) (aa (jq (λρ=>((aa (iQ 1) (aa (iQ 2) iT)) ρ).bind jy)) (aa (jq (λρ=>((aa (iQ 1) iT) ρ).bind jy)) (aa (jq (λρ=>((aa (iQ 0) iT) ρ).bind jy)) (aa (jq (λρ=>((aa (iQ 0) (aa (iQ 1) iT)) ρ).bind jy)) iT)))))))))))) ρ).bind jy)) (dV 8))))
    (mK (λρ=>((jq (λρ=>((jq (kA (λρ=>((dV 10) ρ).bind kd) 1 [3] (gV 0) (λ_=>.ok true) (d2 jS (dV 1) (dV 0)))) ρ).bind wY)) ρ).bind kd) (hV 11) (vG a d c h)))))))))
def yM(a:Ad)(c:jf)(h d:jo)(b:Nat):jH:=(iY (jk 4 (mY (λρ=>(iT ρ).bind jy)))
    (iY (jk 5 (zD (d2 j5 (dA c (aa (dV 0) (aa (iQ 1) iT))) (d2 pe (d2 zI (iQ 10) (iQ 9)) (d2 zI (iQ 10) (iQ 6))))))
    (iY (mK (λρ=>((nq mU (dV 0) (λρ=>((dV 1) ρ).bind pI) (λρ=>((d2 kr (dV 1) (iQ 60)) ρ).bind pI)) ρ).bind kd) (hV 6) (rC a c h d))
    (rZ b 4 (jG (zD (dV 4)))))))
def yP(a:Ad)(d:jf)(c:jo)(b:Nat):jH:=(iY (jk 2 (zZ c (iN (zV 0) (iN (zD (iQ 10)) i7))))
    (iY (jM (zB (b1 tB (d2 jU (dV 2) (iQ 0)))) (jG (zF jv (iN (zD (jc "num")) (iN (zF d (iN (zZ c (iN (zV 0) (iN (zD (iQ 9)) i7))) (iN (z2 kr (zD (iQ 1)) (zZ c (iN (zV 0) (iN (zD (iQ 3)) i7)))) i7))) i7)))) kf)
    (iY (jM (zB (rD (b1 tB (d2 jU (dV 2) (iQ 8))) (b1 tB (d2 mS (dV 1) (jq (λρ=>(iT ρ).bind jy)))))) (jG (zF jv (iN (zD (jc "at")) (iN (z2 jS (zD (dV 1)) (zZ c (iN (zV 0) (iN (zD (dA lL (aa (dV 1) iT))) i7)))) i7)))) kf)
    (iY (jM (zB (b1 tB (d2 nO (dV 2) (jq (λρ=>((aa (iQ 1) (aa (iQ 2) (aa (iQ 8) (aa (iQ 9) iT)))) ρ).bind jy))))) (jG (zD (dA jv (aa (jc "here") iT)))) kf)
    (iY (jk 3 (z2 kr (zD (iQ 1)) (zZ c (iN (zV 0) (iN (zD (iQ 3)) i7)))))
    (iY (jM (zB (b1 tB (d2 jU (dV 3) (iQ 3)))) (jk 3 (z2 kr (zD (iQ 1)) (zZ c (iN (zV 0) (iN (zD (iQ 9)) i7))))) kf)
    (jG (zD (dA jv (aa (d2 jS (jq (λρ=>((aa (jc "back") (aa (jc "back") (aa (jc "on") (aa (jc "ago") (aa (jc "until") iT))))) ρ).bind jy)) (d2 pe (dV 2) (iQ 3))) (aa (dV 3) iT)))))))))))
def yO(a:Ad)(h:jf)(c d:jo)(b:Nat):jH:=(iY (jk 2 (zZ c (iN (zV 0) (iN (zD (iQ 6)) i7))))
    (iY (jk 3 (zZ d (iN (zV 0) (iN (zD (dV 1)) i7))))
    (iY (jM (zB (b1 tB (d2 jU (dV 2) (iQ 3)))) (jG (zF jv (iN (zD (jc "times")) (iN (zF h (iN (zZ c (iN (zV 0) (iN (zD (iQ 4)) i7))) (iN (z2 kr (zD (iQ 1)) (zZ c (iN (zV 0) (iN (zD (iQ 3)) i7)))) i7))) (iN (zD (dV 3)) i7))))) kf)
    (iY (jM (zB (b1 tB (d2 rN (dV 2) (iQ 3)))) (jG (zD (dV 3))) kf)
    (iY (jk 4 (zZ d (iN (zV 0) (iN (zD (dV 1)) i7))))
    (iY (jM (zB (b1 tB (d2 jU (dV 2) (iQ 0)))) (jG (zD (dA jv (aa (jc "abs") (aa (dA jv (aa (jc "-") (aa (dV 3) (aa (dV 4) iT)))) iT))))) kf)
    (jG (zD (dA jv (aa (d2 jS (jq (λρ=>((aa (jc "+") (aa (jc "-") iT)) ρ).bind jy)) (d2 pe (dV 2) (iQ 1))) (aa (dV 3) (aa (dV 4) iT))))))))))))
def yI(a:Ad)(h:jf)(c d:jo)(b:Nat):jH:=(iY (jk 2 (z2 jS (zD (jq (λρ=>((aa (jc "<") (aa (jc "<") (aa (jc "=") iT))) ρ).bind jy))) (zZ c (iN (zV 0) (iN (zD (iQ 3)) i7)))))
    (iY (jk 3 (zZ d (iN (zV 0) (iN (zD (dV 1)) i7))))
    (iY (jM (nD tB (z2 jU (zZ c (iN (zV 0) (iN (zD (iQ 2)) i7))) (zD (iQ 0)))) (jG (zF jv (iN (zD (dV 2)) (iN (zD (dV 3)) (iN (zF jv (iN (zD (jc "num")) (iN (zF h (iN (zZ c (iN (zV 0) (iN (zD (iQ 6)) i7))) (iN (z2 kr (zD (iQ 1)) (zZ c (iN (zV 0) (iN (zD (iQ 2)) i7)))) i7))) i7))) i7))))) kf)
    (jG (zF jv (iN (zD (dV 2)) (iN (zD (dV 3)) (iN (zZ d (iN (zV 0) (iN (zD (dV 1)) i7))) i7))))))))
def yJ(a:Ad)(d c:jo)(b:Nat):jH:=(iY (jk 2 (zZ d (iN (zV 0) (iN (zD (iQ 6)) i7))))
    (iY (jk 3 (zZ c (iN (zV 0) (iN (zD (dV 1)) i7))))
    (iY (jM (zB (b1 tB (d2 m9 (dV 2) (iQ 3)))) (jG (zD (dV 3))) kf)
    (iY (jM (zB (b1 tB (d2 jU (dV 2) (iQ 3)))) (jG (zD (dA jv (aa (jc "not") (aa (dV 3) iT))))) kf)
    (jG (zF jv (iN (zD (d2 jS (jq (λρ=>((aa (jc "and") (aa (jc "or") iT)) ρ).bind jy)) (d2 pe (dV 2) (iQ 4)))) (iN (zD (dV 3)) (iN (zZ c (iN (zV 0) (iN (zD (dV 1)) i7))) i7)))))))))
def ue(a:Ad)(c:jf)(d:jo):jH:=(iY (jk 7 (mY (λρ=>((aa (dA c (aa (dV 0) (aa (d2 kr (dV 1) (dV 6)) iT))) (aa (d2 j5 (d2 kR (dA c (aa (dV 0) (aa (iQ 0) iT))) (iQ 7)) (iQ 2)) iT)) ρ).bind jy)))
    (oz 5 (zF jv (iN (zD (d2 jS (dV 4) (dV 6))) (iN (zZ d (iN (zV 7) (iN (zD (dV 3)) i7))) i7)))))
def yN(a:Ad)(d:jf)(c:jo)(b:Nat):jH:=(iY (jk 4 (zD (jq (λρ=>((aa (jc "a") (aa (jc "bb") (aa (jc "ab") (aa (jc "ba") (aa (jc "c") (aa (jc "b") (aa (jc "aa") (aa (jc "d") (aa (jc "e") (aa (jc "f") (aa (jc "g") (aa (jc "h") iT)))))))))))) ρ).bind jy))))
    (iY (jk 5 (mY (λρ=>(iT ρ).bind jy)))
    (iY (mK (λρ=>((aa (dV 2) iT) ρ).bind qD) (hV 6) (ue a d c))
    (rZ b 5 (jG (zD (dV 5)))))))
end WM
namespace sE
open PySem L2 P2 WP WM
def at_(i:Nat):Stmt:=PySem.Challenge.pw_weather_k43_rules_in_turn.main.body.getD i (.Pass ⟨0,0,0,0⟩)
abbrev DJ:Stmt:=inClass (at_ 20) 0
abbrev DL:Stmt:=inClass (at_ 20) 1
abbrev DK:Stmt:=inClass (at_ 20) 2
abbrev DR:Stmt:=at_ 4
abbrev DX:Stmt:=at_ 5
abbrev DP:Stmt:=at_ 6
abbrev D4:Stmt:=at_ 7
abbrev D1:Stmt:=at_ 8
abbrev D6:Stmt:=at_ 9
abbrev D7:Stmt:=at_ 10
abbrev DM:Stmt:=at_ 12
abbrev D3:Stmt:=at_ 13
abbrev DV:Stmt:=at_ 14
abbrev D9:Stmt:=at_ 15
abbrev D2:Stmt:=at_ 16
abbrev D8:Stmt:=at_ 17
abbrev DU:Stmt:=at_ 18
abbrev D0:Stmt:=at_ 22
abbrev D5:Stmt:=at_ 23
abbrev DY:Stmt:=at_ 24
abbrev DQ:Stmt:=at_ 25
abbrev DZ:Stmt:=at_ 26
abbrev Em:Stmt:=at_ 28
abbrev Ep:Stmt:=at_ 29
abbrev Ey:Stmt:=at_ 30
abbrev Er:Stmt:=at_ 31
abbrev Ex:Stmt:=at_ 32
abbrev Es:Stmt:=at_ 33
abbrev Ew:Stmt:=at_ 34
abbrev Eu:Stmt:=at_ 35
abbrev En:Stmt:=at_ 36
abbrev Eo:Stmt:=at_ 37
abbrev Et:Stmt:=at_ 38
abbrev tE:Stmt:=at_ 39
structure Tx(K:PySem.W.Frag)(mg:kl)(a:Ad):Prop where
 vH:mg "abs"=none
 GB:mg "bool"=none
 GC:mg "dict"=none
 GD:mg "int"=none
 A2:mg "isinstance"=none
 qU:mg "len"=none
 vI:mg "range"=none
 ug:mg "set"=none
 uh:mg "sorted"=none
 N9:mg "WeatherError"=some (.ref a.WeatherError)
 GS:mg "NoFraction"=some (.ref a.NoFraction)
 GU:mg "Sight"=some (.ref a.Sight)
 Mx:F8 K a.NoFraction
 qY:nT K a.Sight
 zg:qq K a.Sight "masts"
 zh:qq K a.Sight "places"
 nt:q7 K=true
 Cc:xF K a.tm
section
variable{P:Program}{w:World}{K:PySem.W.Frag}{e:kl}{base:Heap}{f:Addr}{o:FuncData}
variable{Fn l c L q h B X Fo C Fu Fy FA J:jf}{I z v F9 U N Ga Y O j xU M Gb Ge Gf p r m Q:jo}
local macro_rules|`(tactic|walk_at "sc")=>`(tactic|exact⟨rfl,rfl,rfl,by decide+kernel,rfl,by decide+kernel,by decide+kernel⟩)
def Ea:kj ["self","row","reading","own"] ["self","row"] (jt DJ):=by walk_at "sc"
def U2{dV}(T:Tx K e a)(F:oF K "__init__" "Sight.__init__" DJ dV f o):
    jN P w K e base 1 f o ["self","row"] (jJ 2 K λd S=>i8<|yw a S.length (jx 4 d) S):=
 Bw F Ea λb k A outer s H E i=>(jj (MJ T.qY T.zg (jz 0) acO (by rfl))
  (jj (MJ T.qY T.zh (jz 0) MC (by rfl))
  (jE (sj oX rfl (mI (iP 1)) (si 2 Ea.nd rfl (Or.inl rfl)) (jj (j8 3 Ea.nd rfl (Or.inl rfl) (acP (Ax T.qY T.zg (jz 0) (by rfl)) (iU (jh 2)) (tN (km ja)) ⟨rfl,rfl,rfl,rfl⟩))
  (jj (MI i.units (Ax T.qY T.zh (jz 0) (by rfl)) (MD (iS (iU (jh 2)) (iS (iU (jh 2)) je))) (vh (n9 sQ rfl T.qU rE (iR (iP 3) ja))) (by rfl))
  (jE (vi 3 cf cc cw (iU (iP 2))))))))))
def uU:kj ["self","reading","ask","mast","place","own"] Cu (jt DK):=by walk_at "sc"
def U3{dV}(T:Tx K e a)(F:oF K "one_seen" "Sight.one_seen" DK dV f o):
    jN P w K e base 1 f o Cu (jJ 3 K λi S=>i8<|yx a S.length (jx 6 i) S):=
 Bw F uU λb k A outer s H E d=>(jj (j8 3 uU.nd rfl (Or.inl rfl) (iU (Hf (kc kU (jh 2) ju) (jh 2) (jh 1))))
  (jj (j8 4 uU.nd rfl (Or.inl rfl) (acL d.units (Ax T.qY T.zh (jz 0) (by rfl)) (MD (iS (iU (iP 3)) (iS (iU (jh 1)) je))) ⟨rfl,rfl,rfl,rfl⟩))
  (jj (kE (MM (jz 4) (by first|exact qC _|with_unfolding_all rfl)) (jE (j7 (iU Bi))) kG)
  (jj (kE (lK (kc kU (jh 2) ju)) (jE (MH 4 uU.nd rfl (Or.inl rfl) RG (iU (jh 2)) (by first|exact .inl rfl|exact .inr rfl|assumption))) kG)
  (jj (kE (lK (kc kU (jh 2) ju)) (jE (MH 4 uU.nd rfl (Or.inl rfl) RE (iU (jh 2)) (by first|exact .inl rfl|exact .inr rfl|assumption))) kG)
  (jj (j8 5 uU.nd rfl (Or.inl rfl) (acK d.units (Ax T.qY T.zg (jz 0) (by rfl)) (iP 3) (by exact λ_ _=>rfl)))
  (jE (j7 (vh (Hf (O8 VS uM iZ (iP 4) (n9 sQ rfl T.qU rE (iR (iP 5) ja)) (by with_unfolding_all rfl)) (mH ly (iP 5) (iP 4)) Bi))))))))))
def zT:kj ["self","reading","asked","seen","ask","one"] Cv (jt DL):=by walk_at "sc"
def U4{dV}(T:Tx K e a)(F:oF K "seen_from" "Sight.seen_from" DL dV f o)
 (d:pz P w K e base 1 a.Sight "one_seen" Cu []<|jJ 3 K z):
   jN P w K e base 2 f o Cv (jJ 3 K λk S=>i8<|vQ a z S.length (jx 6 k) S):=
  Bw F zT λb n A outer s H E i=>(jj (j8 3 zT.nd rfl (Or.inl rfl) MC)
   (jj (sj oX rfl (mI (iP 2)) (si 4 zT.nd rfl (Or.inl rfl)) (jj (j8 5 zT.nd rfl (Or.inl rfl) (ME d T.qY i jd (jz 0) (iS (iU (iP 1)) (iS (iU (iP 4)) je)) rfl))
   (jj (kE (MM (jz 5) (by first|exact qC _|with_unfolding_all rfl)) (jE (j7 (iU Bi))) kG)
   (jE (MI i.units (jz 3) (acN T.nt (iU (iP 4))) (iU (iP 5)) (by rfl))))))
   (jE (j7 (jz 3)))))
def zU:kj ["one","other","rest"] ["one","other"] (jt DP):=by walk_at "sc"
def vE(a:Ad):jQ:=(kn (lG 2 (d2 j5 (dV 0) (dV 1)))
    (kn (lG 0 (dV 1))
    (lG 1 (dV 2))))
def vR(a:Ad):jQ:=(kn (pj (b1 tB (d2 qB (dV 1) (iQ 0))) (vE a) sO)
    (lj (dV 0)))
def U6(T:Tx K e a)(F:j0 K "common_divisor" "common_divisor" DP f o):
    jN P w K e base 1 f o ["one","other"] (j6 2 K λd=>jO<|vR a<|jT 3 d):=
 nN F zU λi A outer s H E k=>(k8 (Hz sO oX (kc Ks (iP 1) iZ) (k8 (nL 2 zU.nd rfl (Or.inl rfl) (jA mJ (iP 0) (iP 1)))
  (k8 (nL 0 zU.nd rfl (Or.inl rfl) (iP 1))
  (lI (nL 1 zU.nd rfl (Or.inl rfl) (iP 2))))))
  (lI (mw (iP 0))))
def aaA:kj ["thing"] ["thing"] (jt DX):=by walk_at "sc"
def vU(a:Ad):jQ:=(lj<|yf (dA (pE a.tm)<|aa (dV 0)<|aa (dC<|.ty "int") iT)<|yg<|dA (pE a.tm)<|aa (dV 0)<|aa (dC<|.ty "bool") iT)
def Vc(T:Tx K e a)(F:j0 K "is_whole" "is_whole" DX f o):
    jN P w K e base 1 f o ["thing"] (j6 1 K λd=>jO<|vU a<|jT 1 d):=
 nN F aaA λi A outer s H E k=>(lI<|mw<|OU (n9 (GW T.Cc) rfl T.A2 GQ<|iR (iP 0)<|iR (Hg rfl T.GD N7 (by decide)<|by decide) ja)<|OY<|OX<|n9 (GW T.Cc) rfl T.A2 GQ<|iR (iP 0)<|iR (Hg rfl T.GB N6 (by decide)<|by decide) ja)
def Eb:kj ["top","bottom","divisor"] ["top","bottom"] (jt DR):=by walk_at "sc"
def vS(a:Ad)(q l:jf):jQ:=(kn (pS (qT (uf (b1 tT (dA q (aa (dV 0) iT)))) (qT (uf (b1 tT (dA q (aa (dV 1) iT)))) (b1 tB (d2 jU (dV 1) (iQ 0))))) (λ_=>.ex a.NoFraction [] []) pT)
    (kn (lG 2 (dA l (aa (dA oK (aa (dV 0) iT)) (aa (dA oK (aa (dV 1) iT)) iT))))
    (kn (pS (b1 tB (d2 m9 (dV 1) (iQ 0))) (lG 2 (d1 wu (dV 2))) pT)
    (lj (dA jv (aa (d2 kR (dV 0) (dV 2)) (aa (d2 kR (dV 1) (dV 2)) iT)))))))
def U9(T:Tx K e a)(F:j0 K "fraction" "fraction" DR f o)
 (i:jF P w K e base 2 "is_whole" ["thing"]<|j6 1 K q)
 (d:jF P w K e base 2 "common_divisor" ["one","other"]<|j6 2 K l):
   jN P w K e base 3 f o ["top","bottom"] (j6 2 K λn=>jO<|vS a q l<|jT 3 n):=
  nN F Eb λt A outer s H E k=>(k8 (sT (DW.dt (Bm (HB (HC (mf i k rfl jd rfl (iR (iP 0) ja)) (by intro _;rfl))) (Bm (HB (HC (mf i k rfl jd rfl (iR (iP 1) ja)) (by intro _;rfl))) (HG (kc kU (iP 1) iZ))))) (lI (O7 PySem.F.excBase_ValueError T.Mx.cls rfl T.GS (by decide))) sU)
   (k8 (nL 2 Eb.nd rfl (Or.inl rfl) (mf d k rfl jd rfl (iR (n9 yc rfl T.vH yb (iR (iP 0) ja)) (iR (n9 yc rfl T.vH yb (iR (iP 1) ja)) ja))))
   (k8 (sT (kc uM (iP 1) iZ) (lI (nL 2 Eb.nd rfl (Or.inl rfl) (OZ acg (iP 2)))) sU)
   (lI (mw (kT (iR (jA oq (iP 0) (iP 2)) (iR (jA oq (iP 1) (iP 2)) ja))))))))
def aaE:kj ["one","other"] ["one","other"] (jt D4):=by walk_at "sc"
def vW(a:Ad)(c:jf):jQ:=(lj<|dA c<|aa (d2 kr (d2 ku (iW 0 0)<|iW 1 1)<|d2 ku (iW 1 0)<|iW 0 1)<|aa (d2 ku (iW 0 1)<|iW 1 1) iT)
def Vm(T:Tx K e a)(F:j0 K "plus" "plus" D4 f o)
 (d:jF P w K e base 3 "fraction" ["top","bottom"]<|j6 2 K c):
   jN P w K e base 4 f o ["one","other"] (j6 2 K λk=>jO<|vW a c<|jT 2 k):=
  nN F aaE λn A outer s H E i=>(lI<|mw<|mf d i rfl jd rfl<|iR (jA mC (jA nB (jh 0)<|jh 1)<|jA nB (jh 1)<|jh 0)<|iR (jA nB (jh 0)<|jh 1) ja)
def aaC:kj ["one","other"] ["one","other"] (jt D1):=by walk_at "sc"
def vV(a:Ad)(c:jf):jQ:=(lj<|dA c<|aa (d2 pe (d2 ku (iW 0 0)<|iW 1 1)<|d2 ku (iW 1 0)<|iW 0 1)<|aa (d2 ku (iW 0 1)<|iW 1 1) iT)
def Vi(T:Tx K e a)(F:j0 K "minus" "minus" D1 f o)
 (d:jF P w K e base 3 "fraction" ["top","bottom"]<|j6 2 K c):
   jN P w K e base 4 f o ["one","other"] (j6 2 K λk=>jO<|vV a c<|jT 2 k):=
  nN F aaC λn A outer s H E i=>(lI<|mw<|mf d i rfl jd rfl<|iR (jA rT (jA nB (jh 0)<|jh 1)<|jA nB (jh 1)<|jh 0)<|iR (jA nB (jh 0)<|jh 1) ja)
def aaG:kj ["one","other"] ["one","other"] (jt D6):=by walk_at "sc"
def vX(a:Ad)(c:jf):jQ:=(lj<|dA c<|aa (d2 ku (iW 0 0)<|iW 1 0)<|aa (d2 ku (iW 0 1)<|iW 1 1) iT)
def Vq(T:Tx K e a)(F:j0 K "times" "times" D6 f o)
 (d:jF P w K e base 3 "fraction" ["top","bottom"]<|j6 2 K c):
   jN P w K e base 4 f o ["one","other"] (j6 2 K λk=>jO<|vX a c<|jT 2 k):=
  nN F aaG λn A outer s H E i=>(lI<|mw<|mf d i rfl jd rfl<|iR (jA nB (jh 0)<|jh 1)<|iR (jA nB (jh 0)<|jh 1) ja)
def aaH:kj ["one","other"] ["one","other"] (jt D7):=by walk_at "sc"
def vY(a:Ad):jQ:=(lj<|d2 m9 (d2 ku (iW 0 0)<|iW 1 1)<|d2 ku (iW 1 0)<|iW 0 1)
def Vr(T:Tx K e a)(F:j0 K "under" "under" D7 f o):
    jN P w K e base 1 f o ["one","other"] (j6 2 K λd=>jO<|vY a<|jT 2 d):=
 nN F aaH λi A outer s H E k=>(lI<|mw<|OV uM (jA nB (jh 0)<|jh 1) (jA nB (jh 1)<|jh 0)<|by first|exact qC _|with_unfolding_all rfl)
def aaz:kj ["part"] ["part"] (jt DV):=by walk_at "sc"
def Vb(T:Tx K e a)(F:j0 K "inner_parts" "inner_parts" DV f o):
    jN P w K e base 1 f o ["part"] (j6 1 K λi=>jO<|By a<|jT 1 i):=
 nN F aaz λk A outer s H E d=>(k8 (sT (kc (wD d.units) (jh 0) (kT (iR ju (iR ju (iR ju (iR ju (iR ju (iR ju ja)))))))) (lI (mw (DN.de (km (iR (jh 0) (iR (jh 0) ja)))))) sU)
  (k8 (sT (kc kU (jh 0) ju) (lI (mw (DN.de (km (iR (jh 0) ja))))) sU)
  (k8 (sT (kc (wD d.units) (jh 0) (kT (iR ju (iR ju ja)))) (lI (mw (DN.de (km (iR (jh 0) ja))))) sU)
  (lI (mw (DN.de (km ja)))))))
def Ec:kj ["part","parts","inner"] ["part"] (jt D3):=by walk_at "sc"
def Vk{k}(T:Tx K e a)(F:j0 K "parts_of" "parts_of" D3 f o)
 (d:jF P w K e base k "inner_parts" ["part"]<|j6 1 K L)
 (i:jF P w K e base k "parts_of" ["part"]<|j6 1 K C):
   jN P w K e base (k+1) f o ["part"] (j6 1 K λt=>jO<|rM a L C<|jT 3 t):=
  nN F Ec λu A outer s H E n=>(k8 (Hx 1 Ec.nd rfl (Or.inl rfl) (km (iR (iP 0) ja)) (by rfl) (by first|exact .inl rfl|exact .inr rfl|assumption))
   (k8 (Hw oX rfl (mI (mf d n rfl jd rfl (iR (iP 0) ja))) (nI 2 Ec.nd rfl (Or.inl rfl)) (lI (ym 1 (mf i n rfl jd rfl (iR (iP 2) ja)))) (by intro _;rfl))
   (HA 1 (lI (mw (iP 1))))))
def uV:kj ["condition","parts","back","on","masts","asked"] ["condition"] (jt DM):=by walk_at "sc"
def U5(T:Tx K e a)(F:j0 K "asked_by" "asked_by" DM f o)
 (d:jF P w K e base 9 "parts_of" ["part"]<|j6 1 K C):
   jN P w K e base 10 f o ["condition"] (j6 1 K λk=>jO<|yy a C<|jT 6 k):=
  nN F uV λn A outer s H E i=>(k8 (nL 1 uV.nd rfl (Or.inl rfl) (mf d i rfl jd rfl (iR (iP 0) ja)))
   (k8 (nL 2 uV.nd rfl (Or.inl rfl) (DN.de (Bj rfl rfl T.uh rfl T.ug (DN.de (rJ (Nt:=["part"]) (tn:=1) rfl (mI (iP 1)) (λ_ _ _ _=>(nI 0 (show List.Nodup (["part"]:List Str)from by decide+kernel) rfl (Or.inl rfl))) (by simp) (λ_ _ _ _=>yi (kc (wD i.units) (jh 0) (kT (iR ju (iR ju ja))))) (λ_ _ _ _=>(jh 0)) (by decide+kernel) rfl (by decide+kernel) (by decide+kernel) rfl)) (by rfl) (by rfl) (by rfl) (by rfl))))
   (k8 (nL 3 uV.nd rfl (Or.inl rfl) (DN.de (Bj rfl rfl T.uh rfl T.ug (DN.de (rJ (Nt:=["part"]) (tn:=1) rfl (mI (iP 1)) (λ_ _ _ _=>(nI 0 (show List.Nodup (["part"]:List Str)from by decide+kernel) rfl (Or.inl rfl))) (by simp) (λ_ _ _ _=>yi (kc (wD i.units) (jh 0) (kT (iR ju (iR ju ja))))) (λ_ _ _ _=>(jh 0)) (by decide+kernel) rfl (by decide+kernel) (by decide+kernel) rfl)) (by rfl) (by rfl) (by rfl) (by rfl))))
   (k8 (nL 4 uV.nd rfl (Or.inl rfl) (DN.de (Bj rfl rfl T.uh rfl T.ug (DN.de (rJ (Nt:=["part"]) (tn:=1) rfl (mI (iP 1)) (λ_ _ _ _=>(nI 0 (show List.Nodup (["part"]:List Str)from by decide+kernel) rfl (Or.inl rfl))) (by simp) (λ_ _ _ _=>yi (kc kU (jh 0) ju)) (λ_ _ _ _=>(jh 0)) (by decide+kernel) rfl (by decide+kernel) (by decide+kernel) rfl)) (by rfl) (by rfl) (by rfl) (by rfl))))
   (k8 (Hx 5 uV.nd rfl (Or.inl rfl) (km (iR (kT (iR ju ja)) ja)) (by rfl) (by first|exact .inl rfl|exact .inr rfl|assumption))
   (k8 (ym 5 (DN.de (rJ (Nt:=["place"]) (tn:=1) rfl (mI (iP 2)) (λ_ _ _ _=>(nI 0 (show List.Nodup (["place"]:List Str)from by decide+kernel) rfl (Or.inl rfl))) (by simp) (λ_ _ _ _=>rH) (λ_ _ _ _=>(kT (iR ju (iR (iP 0) ja)))) (by decide+kernel) rfl (by decide+kernel) (by decide+kernel) rfl)))
   (k8 (ym 5 (DN.de (rJ (Nt:=["place"]) (tn:=1) rfl (mI (iP 3)) (λ_ _ _ _=>(nI 0 (show List.Nodup (["place"]:List Str)from by decide+kernel) rfl (Or.inl rfl))) (by simp) (λ_ _ _ _=>rH) (λ_ _ _ _=>(kT (iR ju (iR (iP 0) ja)))) (by decide+kernel) rfl (by decide+kernel) (by decide+kernel) rfl)))
   (k8 (ym 5 (DN.de (rJ (Nt:=["mast"]) (tn:=1) rfl (mI (iP 4)) (λ_ _ _ _=>(nI 0 (show List.Nodup (["mast"]:List Str)from by decide+kernel) rfl (Or.inl rfl))) (by simp) (λ_ _ _ _=>rH) (λ_ _ _ _=>(kT (iR ju (iR (iP 0) ja)))) (by decide+kernel) rfl (by decide+kernel) (by decide+kernel) rfl)))
   (HA 5 (lI (mw (iP 5))))))))))))
def aaD:kj ["first","second","found"] ["first","second","found"] (jt D2):=by walk_at "sc"
def Vj(T:Tx K e a)(F:j0 K "minutes_between" "minutes_between" D2 f o)
 (d:jF P w K e base 3 "fraction" ["top","bottom"]<|j6 2 K c):
   jN P w K e base 4 f o ["first","second","found"] (jJ 3 K λk S=>i8<|yD a c S.length (jx 3 k) S):=
  mP F aaD λb n A outer s H E i=>(jE<|j7<|qI d i rfl jd rfl<|iS (oA rT (rq ly (E8 i.units (jz 2) (iU<|iP 1)<|by exact λ_ _=>rfl)<|iU iZ)<|rq ly (E8 i.units (jz 2) (iU<|iP 0)<|by exact λ_ _=>rfl)<|iU iZ)<|iS (iU iZ) je)
def aaI:kj ["value"] ["value"] (jt D8):=by walk_at "sc"
def Vt(T:Tx K e a)(F:j0 K "without_sign" "without_sign" D8 f o)
 (d:jF P w K e base 3 "fraction" ["top","bottom"]<|j6 2 K c):
   jN P w K e base 4 f o ["value"] (j6 1 K λk=>jO<|yF a c<|jT 1 k):=
  nN F aaI λn A outer s H E i=>(lI<|mw<|mf d i rfl jd rfl<|iR (n9 yc rfl T.vH yb<|iR (jh 0) ja)<|iR (jh 0) ja)
def Ed:kj ["term","found","kind","value"] ["term","found"] (jt D9):=by walk_at "sc"
def Vu{k}(T:Tx K e a)(F:j0 K "worth" "worth" D9 f o)
 (n:jF P w K e base k "fraction" ["top","bottom"]<|j6 2 K c)
 (D:jF P w K e base k "plus" ["one","other"]<|j6 2 K Fu)
 (y:jF P w K e base k "minus" ["one","other"]<|j6 2 K Fo)
 (x:jF P w K e base k "times" ["one","other"]<|j6 2 K Fy)
 (t:jF P w K e base k "without_sign" ["value"]<|j6 1 K J)
 (d:jF P w K e base k "minutes_between" ["first","second","found"]<|jJ 3 K r)
 (i:jF P w K e base k "worth" ["term","found"]<|jJ 2 K Q):
   jN P w K e base (k+1) f o ["term","found"] (jJ 2 K λG S=>i8<|og a c Fu Fo Fy J r Q S.length (jx 4 G) S):=
  mP F Ed λb R A outer s H E u=>(jj (j8 2 Ed.nd rfl (Or.inl rfl) (iU (jh 0)))
   (jj (kE (lK (kc kU (iP 2) ju)) (jE (j7 (iU (mf n u rfl jd rfl (iR (mH ly (jh 0) iZ) (iR (mH ly (jh 0) iZ) ja)))))) kG)
   (jj (kE (lK (kc kU (iP 2) ju)) (jE (j7 (jC d u rfl jd rfl (iS (iU (kT (iR ju (iR (jh 0) ja)))) (iS (iU (kT (iR ju ja))) (iS (jz 1) je)))))) kG)
   (jj (kE (lK (kc kU (iP 2) ju)) (jE (j7 (jC d u rfl jd rfl (iS (iU (kT (iR ju ja))) (iS (iU (kT (iR ju (iR (jh 0) ja)))) (iS (jz 1) je)))))) kG)
   (jj (kE (lK (kc kU (iP 2) ju)) (jE (j7 (qI D u rfl jd rfl (iS (jC i u rfl jd rfl (iS (iU (jh 0)) (iS (jz 1) je))) (iS (jC i u rfl jd rfl (iS (iU (jh 0)) (iS (jz 1) je))) je))))) kG)
   (jj (kE (lK (kc kU (iP 2) ju)) (jE (j7 (qI y u rfl jd rfl (iS (jC i u rfl jd rfl (iS (iU (jh 0)) (iS (jz 1) je))) (iS (jC i u rfl jd rfl (iS (iU (jh 0)) (iS (jz 1) je))) je))))) kG)
   (jj (kE (lK (kc kU (iP 2) ju)) (jE (j7 (qI x u rfl jd rfl (iS (iU (jh 0)) (iS (jC i u rfl jd rfl (iS (iU (jh 0)) (iS (jz 1) je))) je))))) kG)
   (jj (kE (lK (kc kU (iP 2) ju)) (jE (j7 (qI t u rfl jd rfl (iS (jC i u rfl jd rfl (iS (iU (jh 0)) (iS (jz 1) je))) je)))) kG)
   (jj (j8 3 Ed.nd rfl (Or.inl rfl) (rq ly (E8 u.units (jz 1) (iU (iP 0)) (by exact λ_ _=>rfl)) (iU iZ)))
   (jE (j7 (iU (mf n u rfl jd rfl (iR (jh 3) (iR (jh 3) ja)))))))))))))))
def LB:kj ["condition","found","kind"] ["condition","found"] (jt DU):=by walk_at "sc"
def Va{k}(T:Tx K e a)(F:j0 K "holds" "holds" DU f o)
 (t:jF P w K e base k "under" ["one","other"]<|j6 2 K FA)
 (i:jF P w K e base k "worth" ["term","found"]<|jJ 2 K Q)
 (d:jF P w K e base k "holds" ["condition","found"]<|jJ 2 K U):
   jN P w K e base (k+1) f o ["condition","found"] (jJ 2 K λu S=>i8<|vT a FA Q U S.length (jx 3 u) S):=
  mP F LB λb x A outer s H E n=>(jj (j8 2 LB.nd rfl (Or.inl rfl) (iU (jh 0)))
   (jj (kE (lK (kc kU (iP 2) ju)) (jE (j7 (qI t n rfl jd rfl (iS (jC i n rfl jd rfl (iS (iU (jh 0)) (iS (jz 1) je))) (iS (jC i n rfl jd rfl (iS (iU (jh 0)) (iS (jz 1) je))) je))))) kG)
   (jj (kE (lK (kc kU (iP 2) ju)) (jE (j7 (Aw (zw n.units) (jC i n rfl jd rfl (iS (iU (jh 0)) (iS (jz 1) je))) (jC i n rfl jd rfl (iS (iU (jh 0)) (iS (jz 1) je))) (by first|exact qC _|with_unfolding_all rfl)))) kG)
   (jj (kE (lK (kc kU (iP 2) ju)) (jE (j7 (acS (jC d n rfl jd rfl (iS (iU (jh 0)) (iS (jz 1) je)))))) kG)
   (jj (kE (lK (kc kU (iP 2) ju)) (jE (j7 (E7 (jC d n rfl jd rfl (iS (iU (jh 0)) (iS (jz 1) je))) (E9 (jC d n rfl jd rfl (iS (iU (jh 0)) (iS (jz 1) je))))))) kG)
   (jE (j7 (acT (jC d n rfl jd rfl (iS (iU (jh 0)) (iS (jz 1) je))) (E9 (jC d n rfl jd rfl (iS (iU (jh 0)) (iS (jz 1) je))))))))))))
def aay:kj ["seen"] ["seen"] (jt DQ):=by walk_at "sc"
def U8(T:Tx K e a)(F:j0 K "found_of" "found_of" DQ f o):
    jN P w K e base 1 f o ["seen"] (jJ 1 K λk S=>i8<|yz a S.length (jx 1 k) S):=
 mP F aay λb n A outer s H E d=>(jE<|j7<|acM T.nt rfl d.units rfl T.GC rfl (acI (x:="ask") (y:="seen") 0 [(".0",.local),("ask",.local),("seen",.cell)] rfl (jz 0) (λ_ _ _ _=>(zA (i:=0) (show List.Nodup (["ask","seen"]:List Str)from by decide+kernel) rfl (Or.inl rfl)<|by first|exact .inl rfl|exact .inr rfl|assumption)) (λ_ _ _ _=>MF) (λ_ _ _ _=>(nF<|iS (iU<|iP 0)<|iS (nF<|iS (rq ly (MB d.units (jz 1) (iU<|iP 0)<|by exact λ_ _=>rfl)<|iU iZ)<|iS (rq ly (MB d.units (jz 1) (iU<|iP 0)<|by exact λ_ _=>rfl)<|iU iZ) je) je)) rfl (by decide+kernel) (by decide+kernel) rfl rfl rfl rfl rfl (by decide+kernel) (by decide+kernel)<|by intro _;rfl) (by rfl)<|by rfl)
def LC:kj ["seen","keys"] ["seen"] (jt DZ):=by walk_at "sc"
def Ve(T:Tx K e a)(F:j0 K "keys_of" "keys_of" DZ f o):
    jN P w K e base 1 f o ["seen"] (jJ 1 K λd S=>i8<|yB a S.length (jx 2 d) S):=
 mP F LC λb n A outer s H E k=>(jj (j8 1 LC.nd rfl (Or.inl rfl) (acU k.units rfl rfl T.uh rfl T.ug (acQ (acJ (x:="reading") rfl (jz 0) (λ_ _ _ _=>(zA (i:=0) (show List.Nodup (["reading"]:List Str)from by decide+kernel) rfl (Or.inl rfl) (by first|exact .inl rfl|exact .inr rfl|assumption))) (λ_ _ _ _=>MF) (λ_ _ _ _=>(iU (kT (iR (jh 0) (iR (jh 0) ja))))) (by decide+kernel) rfl (by decide+kernel) (by decide+kernel) (by rfl) (by rfl) (by intro _;rfl))) (by rfl) (by rfl) (by rfl) (by rfl)))
  (jE (j7 (iU (DN.de (rJ (Nt:=["key"]) (tn:=1) rfl (mI (iP 1)) (λ_ _ _ _=>(nI 0 (show List.Nodup (["key"]:List Str)from by decide+kernel) rfl (Or.inl rfl))) (by simp) (λ_ _ _ _=>rH) (λ_ _ _ _=>(kT (iR (jh 0) (iR (jh 0) ja)))) (by decide+kernel) rfl (by decide+kernel) (by decide+kernel) rfl))))))
def qE:kj ["row","rules","told","stands","rule","sight","asked","left","reading","seen"] ["row","rules"] (jt DY):=by walk_at "sc"
def Vd(T:Tx K e a)(F:j0 K "judged" "judged" DY f o)
 (k:jF P w K e base 20 "fraction" ["top","bottom"]<|j6 2 K c)
 (t:jF P w K e base 20 "asked_by" ["condition"]<|j6 1 K Fn)
 (n:jF P w K e base 20 "found_of" ["seen"]<|jJ 1 K F9)
 (x:jF P w K e base 20 "holds" ["condition","found"]<|jJ 2 K U)
 (u:jF P w K e base 20 "keys_of" ["seen"]<|jJ 1 K Ga)
 (i:ql P w K e base 19 a.Sight ["self","row"]<|jJ 2 K I)
 (d:pz P w K e base 20 a.Sight "seen_from" Cv []<|jJ 3 K v):
   jN P w K e base 21 f o ["row","rules"] (jJ 2 K λD S=>i8<|yA a c Fn I v F9 U Ga S.length (jx 10 D) S):=
  mP F qE λb G A outer s H E y=>(jj (j8 2 qE.nd rfl (Or.inl rfl) (tN (km ja)))
   (jj (ML 3 qE.nd rfl (Or.inl rfl) (Ht (Nt:=["reading"]) (tn:=1) rfl (mI (iP 0)) (λ_ _ _ _=>(nI 0 (show List.Nodup (["reading"]:List Str)from by decide+kernel) rfl (Or.inl rfl))) (by simp) (λ_ _ _ _=>rH) (λ_ _ _ _=>(kT (iR (jh 0) (iR (jh 0) (iR (mf k y rfl Dj rfl (iR (mH ly (jh 0) iZ) (iR (mH ly (jh 0) iZ) ja))) ja))))) (by decide+kernel) rfl (by decide+kernel) (by decide+kernel) rfl (by intro _;rfl)) (by rfl) (by first|exact .inl rfl|exact .inr rfl|assumption))
   (jj (sj oX rfl (mI (iP 1)) (si 4 qE.nd rfl (Or.inl rfl)) (jj (j8 5 qE.nd rfl (Or.inl rfl) (acR i y rfl T.GU jd (iS (iU (iP 3)) je) rfl (by exact⟨by decide,rfl,rfl⟩)))
   (jj (j8 6 qE.nd rfl (Or.inl rfl) (iU (mf t y rfl jd rfl (iR (jh 4) ja))))
   (jj (j8 7 qE.nd rfl (Or.inl rfl) (tN (km ja)))
   (jj (sj oX rfl (mI (iP 3)) (si 8 qE.nd rfl (Or.inl rfl)) (jj (j8 9 qE.nd rfl (Or.inl rfl) (ME d T.qY y jd (jz 5) (iS (iU (iP 8)) (iS (iU (iP 6)) je)) rfl))
   (jE (kE (ZW.zt (ac4 (ac2 (jz 9) (by first|exact qC _|with_unfolding_all rfl)) (ac5 (ac3 (jC x y rfl jd rfl (iS (iU (jh 4)) (iS (jC n y rfl jd rfl (iS (jz 9) je)) je))) (by intro _;rfl))))) (jE (vi 2 cf cc cw (nF (iS (iU (jh 8)) (iS (iU (jh 8)) (iS (iU (jh 4)) (iS (jC u y rfl jd rfl (iS (jz 9) je)) je))))))) (jE (vi 7 cf cc cw (iU (iP 8))))))))
   (jE (Ay 7 (j8 3 qE.nd rfl (Or.inl rfl) (iU (iP 7))))))))))
   (jE (Ay 2 (j7 (iU (kT (iR (iP 2) (iR (iP 3) ja))))))))))
def aaB:kj ["row","rules"] ["row","rules"] (jt D0):=by walk_at "sc"
def Vh(T:Tx K e a)(F:j0 K "marks" "marks" D0 f o)
 (d:jF P w K e base 21 "judged" ["row","rules"]<|jJ 2 K N):
   jN P w K e base 22 f o ["row","rules"] (jJ 2 K λi S=>i8<|yC a N S.length (jx 2 i) S):=
  mP F aaB λb n A outer s H E k=>(jE<|j7<|rq ly (jC d k rfl jd rfl<|iS (iU<|iP 0)<|iS (iU<|iP 1) je)<|iU iZ)
def aaF:kj ["row","rules"] ["row","rules"] (jt D5):=by walk_at "sc"
def Vp(T:Tx K e a)(F:j0 K "standing" "standing" D5 f o)
 (d:jF P w K e base 21 "judged" ["row","rules"]<|jJ 2 K N):
   jN P w K e base 22 f o ["row","rules"] (jJ 2 K λi S=>i8<|yE a N S.length (jx 2 i) S):=
  mP F aaF λb n A outer s H E k=>(jE<|j7<|rq ly (jC d k rfl jd rfl<|iS (iU<|iP 0)<|iS (iU<|iP 1) je)<|iU iZ)
def aaJ:kj uF uF (jt Em):=by walk_at "sc"
def Vv(T:Tx K e a)(F:j0 K "_law_cell_at" "_law_cell_at" Em f o):
    jN P w K e base 1 f o uF (j6 2 K λd=>jO<|yH a<|jT 2 d):=
 nN F aaJ λi A outer s H E k=>(k8 (sT (kc uM (iP 1) (n9 sQ rfl T.qU rE (iR (iP 0) ja))) (lI (mw (mH ly (iP 0) (iP 1)))) sU)
  (lI (mw iZ)))
def Ei:kj ["_law_top","_law_bottom","_law_one","_law_other"] uG (jt Ep):=by walk_at "sc"
def Vy(T:Tx K e a)(F:j0 K "_law_low" "_law_low" Ep f o):
    jN P w K e base 1 f o uG (j6 2 K λd=>jO<|yK a<|jT 4 d):=
 nN F Ei λi A outer s H E k=>(k8 (Hy 2 3 rfl Ei.nd rfl rfl (by decide) rfl rfl (iR (n9 yc rfl T.vH yb (iR (iP 0) ja)) (iR (iP 1) ja)) (by rfl) (by rfl))
  (k8 (Hz sO oX (kc CO (iP 3) iZ) (lI (Hy 2 3 rfl Ei.nd rfl rfl (by decide) rfl rfl (iR (iP 3) (iR (jA mJ (iP 2) (iP 3)) ja)) (by rfl) (by rfl))))
  (lI (mw (kT (iR (jA oq (iP 0) (iP 2)) (iR (jA oq (iP 1) (iP 2)) ja)))))))
def tF:kj ["_law_cell","_law_k","_law_letters","_law_stride","_law_pair","_law_more","_law_j"] ["_law_cell","_law_k"] (jt Ey):=by walk_at "sc"
def VF(T:Tx K e a)(F:j0 K "_law_word" "_law_word" Ey f o):
    jN P w K e base 1 f o ["_law_cell","_law_k"] (j6 2 K λd=>jO<|vZ a<|jT 7 d):=
 nN F tF λi A outer s H E k=>(k8 (nL 2 tF.nd rfl (Or.inl rfl) ju)
  (k8 (nL 3 tF.nd rfl (Or.inl rfl) (mH ly (DN.de (km (iR iZ (iR iZ (iR iZ (iR iZ (iR iZ (iR iZ (iR iZ (iR iZ (iR iZ (iR iZ (iR iZ (iR iZ ja)))))))))))))) (jA mJ (jA oq (iP 0) iZ) iZ)))
  (k8 (nL 4 tF.nd rfl (Or.inl rfl) (jA mC (mH ly (iP 2) (jA mJ (jA mC (iP 0) (jA nB (iP 1) (iP 3))) iZ)) (mH ly ju (jA mJ (jA oq (iP 1) iZ) iZ))))
  (k8 (nL 5 tF.nd rfl (Or.inl rfl) ju)
  (k8 (Hw oX rfl (yj rfl T.vI (iR (jA mJ (jA oq (iP 0) iZ) iZ) ja) (by rfl)) (nI 6 tF.nd rfl (Or.inl rfl)) (lI (nL 5 tF.nd rfl (Or.inl rfl) (jA mC (iP 5) (mH ly ju (jA mJ (jA oq (iP 0) (jA mC iZ (iP 6))) iZ))))) (by intro _;rfl))
  (k8 (sT (kc kU (jA mJ (jA oq (iP 0) iZ) iZ) iZ) (lI (mw (jA mC (iP 5) (iP 4)))) sU)
  (lI (mw (jA mC (iP 4) (iP 5))))))))))
def LD:kj ["_law_stream","_law_many","_law_found"] rQ (jt Er):=by walk_at "sc"
def Vz(T:Tx K e a)(F:j0 K "_law_pick" "_law_pick" Er f o):
    jN P w K e base 1 f o rQ (jJ 2 K λd S=>i8<|yL a S.length (jx 3 d) S):=
 mP F LD λb i A outer s H E k=>(jj (kE (Fb (kc kU (jh 0) iZ)) (jj (j8 2 LD.nd rfl (Or.inl rfl) (vh (jA mJ (jh 0) (iP 1))))
  (jj (MK 0 iZ (vh (jA oq (jh 0) (iP 1))) (by rfl) (by first|exact Or.inl rfl|exact Or.inr (Or.inl rfl)|exact Or.inr (Or.inr rfl)) (by decide) (by decide) (by intro _;rfl) (by rfl) (by rfl) (by rfl))
  (jE (j7 (iU (iP 2)))))) kG)
  (jj (MK 0 iZ (vh (jA mJ (jA mC (jA nB (jA mJ (jh 0) iZ) iZ) iZ) iZ)) (by rfl) (by first|exact Or.inl rfl|exact Or.inr (Or.inl rfl)|exact Or.inr (Or.inr rfl)) (by decide) (by decide) (by intro _;rfl) (by rfl) (by rfl) (by rfl))
  (jE (j7 (vh (jA mJ (jA oq (jA mJ (jA nB (jh 0) iZ) iZ) iZ) (iP 1)))))))
def LF:kj ["_law_stream","_law_way"] ["_law_stream"] (jt Ex):=by walk_at "sc"
def VE(T:Tx K e a)(F:j0 K "_law_value" "_law_value" Ex f o)
 (i:jF P w K e base 1 "_law_low" uG<|j6 2 K B)
 (d:jF P w K e base 1 "_law_pick" rQ<|jJ 2 K j):
   jN P w K e base 2 f o ["_law_stream"] (jJ 1 K λn S=>i8<|yQ a B j S.length (jx 2 n) S):=
  mP F LF λb t A outer s H E k=>(jj (j8 1 LF.nd rfl (Or.inl rfl) (jC d k rfl jd rfl (iS (jz 0) (iS (iU iZ) je))))
   (jj (kE (lK (kc kU (iP 1) iZ)) (jE (j7 (nF (iS (oA nB (jC d k rfl jd rfl (iS (jz 0) (iS (iU (jA CP iZ iZ)) je))) (oA rT (iU iZ) (oA nB (iU iZ) (jC d k rfl jd rfl (iS (jz 0) (iS (iU iZ) je)))))) (iS (iU iZ) je))))) kG)
   (jj (kE (lK (kc kU (iP 1) iZ)) (jE (j7 (qI i k rfl jd rfl (iS (oA rT (jC d k rfl jd rfl (iS (jz 0) (iS (iU iZ) je))) (iU iZ)) (iS (iU iZ) je))))) kG)
   (jE (j7 (nF (iS (jC d k rfl jd rfl (iS (jz 0) (iS (iU iZ) je))) (iS (iU iZ) je))))))))
def oZ:kj ["_law_script","_law_first","_law_most","_law_words","_law_row_here","_law_time","_law_cell","_law_stream","_law_who","_law_k","_law_here","_law_word_here"] Cy (jt Es):=by walk_at "sc"
def VA(T:Tx K e a)(F:j0 K "_law_row" "_law_row" Es f o)
 (i:jF P w K e base 2 "_law_cell_at" uF<|j6 2 K h)
 (d:jF P w K e base 2 "_law_pick" rQ<|jJ 2 K j)
 (k:jF P w K e base 2 "_law_value" ["_law_stream"]<|jJ 1 K Gf):
   jN P w K e base 3 f o Cy (jJ 4 K λt S=>i8<|yM a h j Gf S.length (jx 12 t) S):=
  mP F oZ λb u A outer s H E n=>(jj (j8 4 oZ.nd rfl (Or.inl rfl) (tN (km ja)))
   (jj (j8 5 oZ.nd rfl (Or.inl rfl) (iU (jA mJ (mf i n rfl jd rfl (iR (iP 0) (iR iZ ja))) (jA rT (jA CP iZ iZ) (jA CP iZ iZ)))))
   (jj (sj oX rfl (mI (sS tI (iP 0) (rK (iP 1)) (rK (jA mC (iP 1) iZ)))) (si 6 oZ.nd rfl (Or.inl rfl)) (jj (kE (Fb (kc CO (n9 sQ rfl T.qU rE (iR (iP 4) ja)) (iP 2))) (jE ac1) kG)
   (jj (j8 7 oZ.nd rfl (Or.inl rfl) (tN (km (iR (iP 6) (iR (jA mJ (jA oq (mf i n rfl jd rfl (iR (iP 0) (iR iZ ja))) iZ) iZ) ja)))))
   (jj (j8 5 oZ.nd rfl (Or.inl rfl) (oA mC (iU (jA mC (iP 5) iZ)) (jC d n rfl jd rfl (iS (jz 7) (iS (iU iZ) je)))))
   (jj (kE (xw kU (jC d n rfl jd rfl (iS (jz 7) (iS (iU iZ) je))) (iU iZ)) (jE (j8 5 oZ.nd rfl (Or.inl rfl) (oA mC (iU (iP 5)) (jC d n rfl jd rfl (iS (jz 7) (iS (iU iZ) je)))))) kG)
   (jj (j8 8 oZ.nd rfl (Or.inl rfl) (jC d n rfl jd rfl (iS (jz 7) (iS (iU iZ) je))))
   (jj (kE (Fb (DW.dt (HD (kc kU (iP 8) iZ) (HE (kc uM (n9 sQ rfl T.qU rE (iR (iP 4) ja)) iZ))))) (jE (sj oX rfl (yj rfl T.vI (iR iZ ja) (by rfl)) (si 9 oZ.nd rfl (Or.inl rfl)) (jj (vi 4 cf cc cw (nF (iS (iU (mH ly (iP 3) (jA mJ (iP 6) iZ))) (iS (iU (iP 5)) (iS (jC k n rfl jd rfl (iS (jz 7) je)) je)))))
   (jE (j8 5 oZ.nd rfl (Or.inl rfl) (iU (jA mC (iP 5) iZ))))))) kG)
   (jj (j8 10 oZ.nd rfl (Or.inl rfl) (iU (mH ly (DN.de (km (iR (DN.de (km (iR iZ ja))) (iR (DN.de (km (iR iZ ja))) (iR (DN.de (km (iR iZ ja))) (iR (DN.de (km (iR iZ ja))) (iR (DN.de (km (iR iZ (iR iZ ja)))) (iR (DN.de (km (iR iZ (iR iZ (iR iZ ja))))) (iR (DN.de (km (iR iZ ja))) (iR (DN.de (km (iR iZ (iR iZ ja)))) (iR (DN.de (km (iR iZ (iR iZ ja)))) (iR (DN.de (km (iR iZ ja))) (iR (DN.de (km (iR iZ ja))) (iR (DN.de (km (iR iZ (iR iZ ja)))) ja)))))))))))))) (iP 8))))
   (jE (sj oX rfl (mI (DN.de (O5 rfl T.uh (DN.de (Hr (Nt:=["_law_k"]) (tn:=1) (x:="_law_words") 3 [(".0",.local),("_law_k",.local),("_law_words",.cell)] rfl (mI (iP 10)) (λ_ _ _ _=>(nI 0 (show List.Nodup (["_law_k","_law_words"]:List Str)from by decide+kernel) rfl (Or.inl rfl))) (by simp) (λ_ _ _ _=>rH) (λ_ _ _ _=>(mH ly (iP 1) (iP 0))) rfl (by decide+kernel) (by decide+kernel) rfl rfl rfl rfl rfl rfl (by decide+kernel) (by decide+kernel) (by intro _;rfl))) (by rfl) (by rfl)))) (si 11 oZ.nd rfl (Or.inl rfl)) (jE (vi 4 cf cc cw (nF (iS (iU (iP 11)) (iS (iU (iP 5)) (iS (jC k n rfl jd rfl (iS (jz 7) je)) je))))))))))))))))
   (jE (Ay 4 (j7 (iU (iP 4))))))))
def zX:kj ["_law_stream","_law_words","_law_way","_law_far"] oT (jt Ew):=by walk_at "sc"
def VD(T:Tx K e a)(F:j0 K "_law_term" "_law_term" Ew f o)
 (k:jF P w K e base 1 "_law_low" uG<|j6 2 K B)
 (d:jF P w K e base 1 "_law_pick" rQ<|jJ 2 K j):
   jN P w K e base 2 f o oT (jJ 2 K λn S=>i8<|yP a B j S.length (jx 4 n) S):=
  mP F zX λb t A outer s H E i=>(jj (j8 2 zX.nd rfl (Or.inl rfl) (jC d i rfl jd rfl (iS (jz 0) (iS (iU iZ) je))))
   (jj (kE (lK (kc kU (iP 2) iZ)) (jE (j7 (nF (iS (iU ju) (iS (qI k i rfl jd rfl (iS (jC d i rfl jd rfl (iS (jz 0) (iS (iU iZ) je))) (iS (oA mC (iU iZ) (jC d i rfl jd rfl (iS (jz 0) (iS (iU iZ) je)))) je))) je))))) kG)
   (jj (kE (lK (DW.dt (HD (kc kU (iP 2) iZ) (HE (kc (wF i.units) (iP 1) (DN.de (km ja))))))) (jE (j7 (nF (iS (iU ju) (iS (rq ly (iU (iP 1)) (jC d i rfl jd rfl (iS (jz 0) (iS (iU (n9 sQ rfl T.qU rE (iR (iP 1) ja))) je)))) je))))) kG)
   (jj (kE (lK (kc (wD i.units) (iP 2) (DN.de (km (iR iZ (iR iZ (iR iZ (iR iZ ja)))))))) (jE (j7 (iU (kT (iR ju ja))))) kG)
   (jj (j8 3 zX.nd rfl (Or.inl rfl) (oA mC (iU iZ) (jC d i rfl jd rfl (iS (jz 0) (iS (iU iZ) je)))))
   (jj (kE (lK (kc kU (iP 3) iZ)) (jE (j8 3 zX.nd rfl (Or.inl rfl) (oA mC (iU iZ) (jC d i rfl jd rfl (iS (jz 0) (iS (iU iZ) je)))))) kG)
   (jE (j7 (iU (kT (iR (mH ly (DN.de (km (iR ju (iR ju (iR ju (iR ju (iR ju ja))))))) (jA rT (iP 2) iZ)) (iR (iP 3) ja))))))))))))
def zW:kj ["_law_stream","_law_words","_law_way","_law_one","_law_other"] oT (jt Eu):=by walk_at "sc"
def VC(T:Tx K e a)(F:j0 K "_law_sum" "_law_sum" Eu f o)
 (k:jF P w K e base 2 "_law_low" uG<|j6 2 K B)
 (d:jF P w K e base 2 "_law_pick" rQ<|jJ 2 K j)
 (i:jF P w K e base 2 "_law_term" oT<|jJ 2 K Ge):
   jN P w K e base 3 f o oT (jJ 2 K λt S=>i8<|yO a B j Ge S.length (jx 5 t) S):=
  mP F zW λb u A outer s H E n=>(jj (j8 2 zW.nd rfl (Or.inl rfl) (jC d n rfl jd rfl (iS (jz 0) (iS (iU iZ) je))))
   (jj (j8 3 zW.nd rfl (Or.inl rfl) (jC i n rfl jd rfl (iS (jz 0) (iS (iU (iP 1)) je))))
   (jj (kE (lK (kc kU (iP 2) iZ)) (jE (j7 (nF (iS (iU ju) (iS (qI k n rfl jd rfl (iS (jC d n rfl jd rfl (iS (jz 0) (iS (iU iZ) je))) (iS (oA mC (iU iZ) (jC d n rfl jd rfl (iS (jz 0) (iS (iU iZ) je)))) je))) (iS (iU (iP 3)) je)))))) kG)
   (jj (kE (lK (kc CO (iP 2) iZ)) (jE (j7 (iU (iP 3)))) kG)
   (jj (j8 4 zW.nd rfl (Or.inl rfl) (jC i n rfl jd rfl (iS (jz 0) (iS (iU (iP 1)) je))))
   (jj (kE (lK (kc kU (iP 2) iZ)) (jE (j7 (iU (kT (iR ju (iR (kT (iR ju (iR (iP 3) (iR (iP 4) ja)))) ja)))))) kG)
   (jE (j7 (iU (kT (iR (mH ly (DN.de (km (iR ju (iR ju ja)))) (jA rT (iP 2) iZ)) (iR (iP 3) (iR (iP 4) ja)))))))))))))
def Eg:kj ["_law_stream","_law_words","_law_sign","_law_one"] oT (jt En):=by walk_at "sc"
def Vw(T:Tx K e a)(F:j0 K "_law_compare" "_law_compare" En f o)
 (k:jF P w K e base 3 "_law_low" uG<|j6 2 K B)
 (d:jF P w K e base 3 "_law_pick" rQ<|jJ 2 K j)
 (i:jF P w K e base 3 "_law_sum" oT<|jJ 2 K Gb):
   jN P w K e base 4 f o oT (jJ 2 K λt S=>i8<|yI a B j Gb S.length (jx 4 t) S):=
  mP F Eg λb u A outer s H E n=>(jj (j8 2 Eg.nd rfl (Or.inl rfl) (rq ly (iU (DN.de (km (iR ju (iR ju (iR ju ja)))))) (jC d n rfl jd rfl (iS (jz 0) (iS (iU iZ) je)))))
   (jj (j8 3 Eg.nd rfl (Or.inl rfl) (jC i n rfl jd rfl (iS (jz 0) (iS (iU (iP 1)) je))))
   (jj (kE (xw kU (jC d n rfl jd rfl (iS (jz 0) (iS (iU iZ) je))) (iU iZ)) (jE (j7 (nF (iS (iU (iP 2)) (iS (iU (iP 3)) (iS (nF (iS (iU ju) (iS (qI k n rfl jd rfl (iS (jC d n rfl jd rfl (iS (jz 0) (iS (iU iZ) je))) (iS (oA mC (iU iZ) (jC d n rfl jd rfl (iS (jz 0) (iS (iU iZ) je)))) je))) je))) je)))))) kG)
   (jE (j7 (nF (iS (iU (iP 2)) (iS (iU (iP 3)) (iS (jC i n rfl jd rfl (iS (jz 0) (iS (iU (iP 1)) je))) je)))))))))
def Eh:kj ["_law_stream","_law_words","_law_way","_law_one"] oT (jt Eo):=by walk_at "sc"
def Vx(T:Tx K e a)(F:j0 K "_law_condition" "_law_condition" Eo f o)
 (i:jF P w K e base 4 "_law_pick" rQ<|jJ 2 K j)
 (d:jF P w K e base 4 "_law_compare" oT<|jJ 2 K Y):
   jN P w K e base 5 f o oT (jJ 2 K λn S=>i8<|yJ a j Y S.length (jx 4 n) S):=
  mP F Eh λb t A outer s H E k=>(jj (j8 2 Eh.nd rfl (Or.inl rfl) (jC i k rfl jd rfl (iS (jz 0) (iS (iU iZ) je))))
   (jj (j8 3 Eh.nd rfl (Or.inl rfl) (jC d k rfl jd rfl (iS (jz 0) (iS (iU (iP 1)) je))))
   (jj (kE (lK (kc uM (iP 2) iZ)) (jE (j7 (iU (iP 3)))) kG)
   (jj (kE (lK (kc kU (iP 2) iZ)) (jE (j7 (iU (kT (iR ju (iR (iP 3) ja)))))) kG)
   (jE (j7 (nF (iS (iU (mH ly (DN.de (km (iR ju (iR ju ja)))) (jA rT (iP 2) iZ))) (iS (iU (iP 3)) (iS (jC d k rfl jd rfl (iS (jz 0) (iS (iU (iP 1)) je))) je))))))))))
def wU:kj ["_law_script","_law_first","_law_many","_law_words","_law_names","_law_rules_here","_law_k","_law_stream"] Cz (jt Et):=by walk_at "sc"
def VB(T:Tx K e a)(F:j0 K "_law_rules" "_law_rules" Et f o)
 (d:jF P w K e base 5 "_law_cell_at" uF<|j6 2 K h)
 (i:jF P w K e base 5 "_law_condition" oT<|jJ 2 K O):
   jN P w K e base 6 f o Cz (jJ 4 K λn S=>i8<|yN a h O S.length (jx 8 n) S):=
  mP F wU λb t A outer s H E k=>(jj (j8 4 wU.nd rfl (Or.inl rfl) (iU (DN.de (km (iR ju (iR ju (iR ju (iR ju (iR ju (iR ju (iR ju (iR ju (iR ju (iR ju (iR ju (iR ju ja))))))))))))))))
   (jj (j8 5 wU.nd rfl (Or.inl rfl) (tN (km ja)))
   (jj (sj oX rfl (yj rfl T.vI (iR (iP 2) ja) (by rfl)) (si 6 wU.nd rfl (Or.inl rfl)) (jj (j8 7 wU.nd rfl (Or.inl rfl) (tN (km (iR (mf d k rfl jd rfl (iR (iP 0) (iR (jA mC (iP 1) (iP 6)) ja))) (iR (jA mJ (jA oq (mf d k rfl jd rfl (iR (iP 0) (iR iZ ja))) iZ) iZ) ja)))))
   (jE (vi 5 cf cc cw (nF (iS (iU (mH ly (iP 4) (iP 6))) (iS (jC i k rfl jd rfl (iS (jz 7) (iS (iU (iP 3)) je))) je)))))))
   (jE (Ay 5 (j7 (iU (iP 5))))))))
def qF:kj ["_law_script","_law_words","_law_row_here","_law_rules_here","_law_found","_law_left","_law_at","_law_ahead","_law_gone","_law_nothing"] ["_law_script"] (jt tE):=by walk_at "sc"
def Bz(a:Ad)(h X:jf)(xU M p m:jo)(b:Nat):jH:=(iY (jk 1 (zD (jq (kA (λρ=>((aa (iQ 3) iT) ρ).bind qD) 1 [0] (gV 0) (λ_=>.ok true) (dA X (aa (dA h (aa (dV 1) (aa (iQ 0) iT))) (aa (dV 0) iT)))))))
    (iY (jk 2 (zZ xU (iN (zD (dV 0)) (iN (zD (iQ 7)) (iN (zD (iQ 100)) (iN (zD (dV 1)) i7))))))
    (iY (jk 3 (zZ M (iN (zD (dV 0)) (iN (zD (iQ 4)) (iN (zD (iQ 3)) (iN (zD (dV 1)) i7))))))
    (iY (jk 4 (zZ p (iN (zD (dV 2)) (iN (zD (dV 3)) i7))))
    (iY (jk 5 (zZ m (iN (zD (dV 2)) (iN (zD (dV 3)) i7))))
    (iY (jk 6 (zD (d2 j5 (dA h (aa (dV 0) (aa (iQ 3) iT))) (iQ 4))))
    (iY (jk 7 (zZ m (iN (zD (dV 2)) (iN (zD (nq mU (dV 3) (λ_=>.ok none) (λρ=>((dV 6) ρ).bind pI))) i7))))
    (iY (jM (EW (nD tB (z2 mS (z2 n7 (zZ p (iN (zD (dV 2)) (iN (zD (nq mU (dV 3) (λ_=>.ok none) (λρ=>((dV 6) ρ).bind pI))) i7))) (zZ p (iN (zD (dV 7)) (iN (zD (nq mU (dV 3) (λρ=>((dV 6) ρ).bind pI) (λ_=>.ok none))) i7)))) (zD (dV 4)))) (nD tB (z2 mS (zZ m (iN (zD (dV 7)) (iN (zD (nq mU (dV 3) (λρ=>((dV 6) ρ).bind pI) (λ_=>.ok none))) i7))) (zD (dV 5))))) (jG (zD (dC (.bl false)))) kf)
    (iY (jk 8 (zD (jq (kA (λρ=>((dV 4) ρ).bind kd) 1 [] (gV 0) (λ_=>.ok true) (dA jv (aa (iW 0 0) (aa (iW 0 1) iT)))))))
    (iY (jM (zB (qT (b1 tB (d2 qB (λρ=>((dV 8) ρ).bind tp) (dA lL (aa (dV 8) iT)))) (b1 tB (d2 mS (jq (kA (λρ=>((dV 2) ρ).bind kd) 1 [8] (gV 0) (b1 tB (d2 oV (dA jv (aa (iW 0 0) (aa (iW 0 1) iT))) (dV 1))) (dV 0))) (dV 5))))) (jG (zD (dC (.bl false)))) kf)
    (iY (jk 9 (zD (dA jv (aa (jc "z") (aa (dA jv (aa (jc "<") (aa (dA jv (aa (jc "here") iT)) (aa (dA jv (aa (jc "here") iT)) iT)))) iT)))))
    (iY (jM (nD tB (z2 mS (zZ p (iN (zD (dV 2)) (iN (zD (d2 n7 (d2 n7 (nq mU (dV 3) (λ_=>.ok none) (λρ=>((dV 6) ρ).bind pI)) (jq (λρ=>((aa (dV 9) iT) ρ).bind jy))) (nq mU (dV 3) (λρ=>((dV 6) ρ).bind pI) (λ_=>.ok none)))) i7))) (zD (dV 4)))) (jG (zD (dC (.bl false)))) kf)
    (jG (qa (z2 m8 (zZ p (iN (zD (dV 2)) (iN (zD (jq (λρ=>(iT ρ).bind jy))) i7))) (zD (jq (λρ=>(iT ρ).bind jy)))) (qa (z2 m8 (zZ m (iN (zD (dV 2)) (iN (zD (jq (λρ=>(iT ρ).bind jy))) i7))) (zD (dV 2))) (z2 m8 (zZ p (iN (zD (jq (λρ=>(iT ρ).bind jy))) (iN (zD (dV 3)) i7))) (zD (jq (λρ=>(iT ρ).bind jy)))))))))))))))))))
def Vf(T:Tx K e a)(F:j0 K "law" "law" tE f o)
 (k:jF P w K e base 22 "_law_cell_at" uF<|j6 2 K h)
 (u:jF P w K e base 22 "_law_word" ["_law_cell","_law_k"]<|j6 2 K X)
 (y:jF P w K e base 22 "_law_row" Cy<|jJ 4 K xU)
 (t:jF P w K e base 22 "_law_rules" Cz<|jJ 4 K M)
 (i:jF P w K e base 22 "marks" ["row","rules"]<|jJ 2 K p)
 (d:jF P w K e base 22 "standing" ["row","rules"]<|jJ 2 K m):
   jN P w K e base 23 f o ["_law_script"] (jJ 1 K λD S=>i8<|Bz a h X xU M p m S.length (jx 10 D) S):=
  mP F qF λb G A outer s H E n=>(jj (ML 1 qF.nd rfl (Or.inl rfl) (Hu (Nt:=["_law_k"]) (tn:=1) (x:="_law_script") 0 [(".0",.local),("_law_k",.local),("_law_word",.globalImplicit),("_law_cell_at",.globalImplicit),("_law_script",.cell)] rfl (yj rfl T.vI (iR iZ ja) (by rfl)) (λ_ _ _ _=>(nI 0 (show List.Nodup (["_law_k","_law_script"]:List Str)from by decide+kernel) rfl (Or.inl rfl))) (by simp) (λ_ _ _ _=>rH) (λ_ _ _ _=>(mf u n rfl Dj rfl (iR (mf k n rfl Dj rfl (iR (iP 1) (iR iZ ja))) (iR (iP 0) ja)))) rfl (by decide+kernel) (by decide+kernel) rfl rfl rfl rfl rfl rfl (by decide+kernel) (by decide+kernel) (by intro _;rfl)) (by rfl) (by first|exact .inl rfl|exact .inr rfl|assumption))
   (jj (j8 2 qF.nd rfl (Or.inl rfl) (jC y n rfl jd rfl (iS (iU (iP 0)) (iS (iU iZ) (iS (iU iZ) (iS (iU (iP 1)) je))))))
   (jj (j8 3 qF.nd rfl (Or.inl rfl) (jC t n rfl jd rfl (iS (iU (iP 0)) (iS (iU iZ) (iS (iU iZ) (iS (iU (iP 1)) je))))))
   (jj (j8 4 qF.nd rfl (Or.inl rfl) (jC i n rfl jd rfl (iS (iU (iP 2)) (iS (iU (iP 3)) je))))
   (jj (j8 5 qF.nd rfl (Or.inl rfl) (jC d n rfl jd rfl (iS (iU (iP 2)) (iS (iU (iP 3)) je))))
   (jj (j8 6 qF.nd rfl (Or.inl rfl) (iU (jA mJ (mf k n rfl jd rfl (iR (iP 0) (iR iZ ja))) iZ)))
   (jj (j8 7 qF.nd rfl (Or.inl rfl) (jC d n rfl jd rfl (iS (iU (iP 2)) (iS (iU (sS tI (iP 3) um (rK (iP 6)))) je))))
   (jj (kE (ZW.zt (ac6 (xw (wF n.units) (oA CN (jC i n rfl jd rfl (iS (iU (iP 2)) (iS (iU (sS tI (iP 3) um (rK (iP 6)))) je))) (jC i n rfl jd rfl (iS (iU (iP 7)) (iS (iU (sS tI (iP 3) (rK (iP 6)) um)) je)))) (iU (iP 4))) (ac7 (xw (wF n.units) (jC d n rfl jd rfl (iS (iU (iP 7)) (iS (iU (sS tI (iP 3) (rK (iP 6)) um)) je))) (iU (iP 5)))))) (jE (j7 (iU Bh))) kG)
   (jj (j8 8 qF.nd rfl (Or.inr rfl) (iU (DN.de (rJ (Nt:=["_law_mark"]) (tn:=1) rfl (mI (iP 4)) (λ_ _ _ _=>(nI 0 (show List.Nodup (["_law_mark"]:List Str)from by decide+kernel) rfl (Or.inl rfl))) (by simp) (λ_ _ _ _=>rH) (λ_ _ _ _=>(kT (iR (jh 0) (iR (jh 0) ja)))) (by decide+kernel) rfl (by decide+kernel) (by decide+kernel) rfl))))
   (jj (kE (lK (DW.dt (Bm (kc Ks (OW rfl n.units rfl T.qU rfl T.ug (iP 8) (by rfl) (by rfl) (by rfl) (by rfl)) (n9 sQ rfl T.qU rE (iR (iP 8) ja))) (HG (kc (wF n.units) (DN.de (Hr (Nt:=["_law_one"]) (tn:=1) (x:="_law_gone") 8 [(".0",.local),("_law_one",.local),("_law_gone",.cell)] rfl (mI (iP 2)) (λ_ _ _ _=>(nI 0 (show List.Nodup (["_law_one","_law_gone"]:List Str)from by decide+kernel) rfl (Or.inl rfl))) (by simp) (λ_ _ _ _=>yi (kc (VZ n.units) (kT (iR (jh 0) (iR (jh 0) ja))) (iP 1))) (λ_ _ _ _=>(iP 0)) rfl (by decide+kernel) (by decide+kernel) rfl rfl rfl rfl rfl rfl (by decide+kernel) (by decide+kernel) (by intro _;rfl))) (iP 5)))))) (jE (j7 (iU Bh))) kG)
   (jj (j8 9 qF.nd rfl (Or.inl rfl) (iU (kT (iR ju (iR (kT (iR ju (iR (kT (iR ju ja)) (iR (kT (iR ju ja)) ja)))) ja)))))
   (jj (kE (xw (wF n.units) (jC i n rfl jd rfl (iS (iU (iP 2)) (iS (iU (jA CN (jA CN (sS tI (iP 3) um (rK (iP 6))) (DN.de (km (iR (iP 9) ja)))) (sS tI (iP 3) (rK (iP 6)) um))) je))) (iU (iP 4))) (jE (j7 (iU Bh))) kG)
   (jE (j7 (E7 (Aw (zw n.units) (jC i n rfl jd rfl (iS (iU (iP 2)) (iS (iU (DN.de (km ja))) je))) (iU (DN.de (km ja))) (by first|exact qC _|with_unfolding_all rfl)) (E7 (Aw (zw n.units) (jC d n rfl jd rfl (iS (iU (iP 2)) (iS (iU (DN.de (km ja))) je))) (iU (iP 2)) (by first|exact qC _|with_unfolding_all rfl)) (E9 (Aw (zw n.units) (jC i n rfl jd rfl (iS (iU (DN.de (km ja))) (iS (iU (iP 3)) je))) (iU (DN.de (km ja))) (by first|exact qC _|with_unfolding_all rfl)))))))))))))))))))
end
end sE
namespace P2
open PySem
mutual
def lM:D->Bool
 |.non=>true
 |.int _=>true
 |.str z=>PyData.strOk z
 |.tup ds=>lN ds
 |.lst ds=>lN ds
 |_=>false
def lN:List D->Bool
 |[]=>true
 |d::r=>lM d&&lN r
end
mutual
def mu:D->Nat
 |.tup ds=>nJ ds+1
 |.lst ds=>nJ ds+1
 |_=>0
def nJ:List D->Nat
 |[]=>0
 |d::r=>max (mu d) (nJ r)
end
mutual
theorem wL:∀{d},lM d=true->∃p,mT d=some p/\PyData.canLay0 p=true/\p.depth<=mu d
 |.non,_=>⟨.none,rfl,by simp[PyData.canLay0],by simp[PyData.depth]⟩
 |.int i,_=>⟨.int i,rfl,by simp[PyData.canLay0],by simp[PyData.depth]⟩
 |.str z,h=>⟨.str z,rfl,by have k:PyData.strOk z=true:=h;simpa [PyData.canLay0]using k,by simp[PyData.depth]⟩
 |.tup ds,h=>by obtain⟨a,j,c,l⟩:=wM (show lN ds=true from h);exact⟨.tuple a,by show(lA ds).map PyData.tuple=_;rw[j];rfl,by simpa [PyData.canLay0]using c,by simp only[PyData.depth,mu];omega⟩
 |.lst ds,h=>by obtain⟨a,j,c,l⟩:=wM (show lN ds=true from h);exact⟨.list a,by show(lA ds).map PyData.list=_;rw[j];rfl,by simpa [PyData.canLay0]using c,by simp only[PyData.depth,mu];omega⟩
 |.bl _,h=>by cases h
 |.ty _,h=>by cases h
 |.ref _,h=>by cases h
 |.exc _ _ _,h=>by cases h
theorem wM:∀{i},lN i=true->∃a,lA i=some a/\PyData.canLayAll0 a=true/\PyData.depthAll a<=nJ i
 |[],_=>⟨[],rfl,by simp[PyData.canLayAll0],by simp[PyData.depthAll]⟩
 |d::r,h=>by
  have c:(lM d&&lN r)=true:=h;rw[aS]at c;obtain⟨p,m,l,o⟩:=wL c.1;obtain⟨a,k,j,n⟩:=wM c.2;refine⟨p::a,?_,?_,?_⟩
  ·show(mT d).bind (λp=>(lA r).map (p:: ·))=_;rw[m,k];rfl
  ·simp[PyData.canLayAll0,l,j]
  ·simp only[PyData.depthAll,nJ];omega
end
def uQ(h:mT (.tup ds)=some p):∃a,p=.tuple a/\lA ds=some a:=by obtain⟨a,d,c⟩:=aF.mp (show(lA ds).map PyData.tuple=some p from h);exact⟨a,c.symm,d⟩
def uP(h:mT (.lst ds)=some p):∃a,p=.list a/\lA ds=some a:=by obtain⟨a,d,c⟩:=aF.mp (show(lA ds).map PyData.list=some p from h);exact⟨a,c.symm,d⟩
mutual
theorem Br:∀{a b} {p q},lM a=true->lM b=true->mT a=some p->mT b=some q->(PyData.eqv p q=true↔a=b)
 |a,b,p,q,k,d,h,eq=>by
  cases a with
  |non=>
   cases h;cases b with
   |non=>cases eq;simp[PyData.eqv]
   |int i=>cases eq;simp[PyData.eqv]
   |str i=>cases eq;simp[PyData.eqv]
   |tup r=>obtain⟨c,rfl,_⟩:=uQ eq;simp[PyData.eqv]
   |lst r=>obtain⟨c,rfl,_⟩:=uP eq;simp[PyData.eqv]
   |_=>cases d
  |int i=>
   cases h;cases b with
   |non=>cases eq;simp[PyData.eqv]
   |int i=>cases eq;simp[PyData.eqv]
   |str i=>cases eq;simp[PyData.eqv]
   |tup r=>obtain⟨c,rfl,_⟩:=uQ eq;simp[PyData.eqv]
   |lst r=>obtain⟨c,rfl,_⟩:=uP eq;simp[PyData.eqv]
   |_=>cases d
  |str i=>
   cases h;cases b with
   |non=>cases eq;simp[PyData.eqv]
   |int i=>cases eq;simp[PyData.eqv]
   |str i=>cases eq;simp[PyData.eqv]
   |tup r=>obtain⟨c,rfl,_⟩:=uQ eq;simp[PyData.eqv]
   |lst r=>obtain⟨c,rfl,_⟩:=uP eq;simp[PyData.eqv]
   |_=>cases d
  |tup n=>
   obtain⟨c,rfl,m⟩:=uQ h;cases b with
   |non=>cases eq;simp[PyData.eqv]
   |int i=>cases eq;simp[PyData.eqv]
   |str i=>cases eq;simp[PyData.eqv]
   |tup r=>obtain⟨j,rfl,l⟩:=uQ eq;have:=Bs (show lN n=true from k) (show lN r=true from d) m l;simp only[PyData.eqv,this,D.tup.injEq]
   |lst r=>obtain⟨j,rfl,_⟩:=uP eq;simp[PyData.eqv]
   |_=>cases d
  |lst n=>
   obtain⟨c,rfl,m⟩:=uP h;cases b with
   |non=>cases eq;simp[PyData.eqv]
   |int i=>cases eq;simp[PyData.eqv]
   |str i=>cases eq;simp[PyData.eqv]
   |tup r=>obtain⟨j,rfl,_⟩:=uQ eq;simp[PyData.eqv]
   |lst r=>obtain⟨j,rfl,l⟩:=uP eq;have:=Bs (show lN n=true from k) (show lN r=true from d) m l;simp only[PyData.eqv,this,D.lst.injEq]
   |_=>cases d
  |_=>cases k
 termination_by a=>sizeOf a
theorem Bs:∀{a b} {p q},lN a=true->lN b=true->lA a=some p->lA b=some q->(PyData.eqvAll p q=true↔a=b)
 |[],[],p,q,_,_,j,eq=>by cases j;cases eq;simp[PyData.eqvAll]
 |[],d::r,p,q,_,_,j,eq=>by cases j;obtain⟨x,_,h⟩:=aL.mp (show(mT d).bind (λp=>(lA r).map (p:: ·))=some q from eq);obtain⟨k,_,rfl⟩:=aF.mp h;simp[PyData.eqvAll]
 |d::r,[],p,q,_,_,j,eq=>by cases eq;obtain⟨x,_,h⟩:=aL.mp (show(mT d).bind (λp=>(lA r).map (p:: ·))=some p from j);obtain⟨k,_,rfl⟩:=aF.mp h;simp[PyData.eqvAll]
 |d::r,e::s,p,q,z,v,j,eq=>by have i:(lM d&&lN r)=true:=z;have c:(lM e&&lN s)=true:=v;rw[aS]at i c;obtain⟨x,o,h⟩:=aL.mp (show(mT d).bind (λp=>(lA r).map (p:: ·))=some p from j);obtain⟨k,n,rfl⟩:=aF.mp h;obtain⟨y,m,C⟩:=aL.mp (show(mT e).bind (λp=>(lA s).map (p:: ·))=some q from eq);obtain⟨D,l,rfl⟩:=aF.mp C;have u:=Br i.1 c.1 o m;have t:=Bs i.2 c.2 n l;simp only[PyData.eqvAll,aS,u,t,List.cons.injEq]
 termination_by a=>sizeOf a
end
def yr(i:lM a=true)(h:lM b=true)(o:mu a<=60)(n:mu b<=60):∃r,qV a b=some r/\(r=true↔a=b):=by obtain⟨p,d,k,m⟩:=wL i;obtain⟨q,c,j,l⟩:=wL h;refine⟨PyData.eqv p q,?_,Br i h d c⟩;unfold qV;rw[d,c];show(if(SeqAt.shaped p&&SeqAt.shaped q)=true then some (PyData.eqv p q)else none)=_;rw[av];simp only[SeqAt.shaped,aS,bx];exact⟨⟨k,by omega⟩,j,by omega⟩
def ne_self(c:lM a=true)(d:mu a<=60):mS a a=.ok (.bl false):=by obtain⟨r,e,h⟩:=yr c c d d;unfold mS;rw[e,h.mpr rfl];rfl
def eq_self(c:lM a=true)(d:mu a<=60):m8 a a=.ok (.bl true):=by obtain⟨r,e,h⟩:=yr c c d d;unfold m8;rw[e,h.mpr rfl]
def Pq(d:lM a=true)(c:lM b=true)(k:mu a<=60)(j:mu b<=60)(h:a≠b):m8 a b=.ok (.bl false):=by
 obtain⟨r,e,i⟩:=yr d c k j;unfold m8;rw[e];cases r with
 |false=>rfl
 |true=>exact absurd (i.mp rfl) h
def Kh{c:Type}{f:c->D}{l:List c}(h:∀x∈l,lM (f x)=true):lN (l.map f)=true:=by
 induction l with
 |nil=>rfl
 |cons a l d=>show(lM (f a)&&lN (l.map f))=true;rw[h a<|.head _,d λx i=>h x<|.tail _ i];rfl
def Hv{c:Type}{f:c->D}{l:List c}{k:Nat}(h:∀x∈l,mu (f x)<=k):nJ (l.map f)<=k:=by
 induction l with
 |nil=>exact bQ _
 |cons a l d=>show max (mu<|f a) (nJ<|l.map f)<=k;have:=h a (.head _);have:=d λx i=>h x (.tail _ i);omega
end P2
namespace FM
def g(a b:Int):Int:=(Int.gcd a b:Int)
def Iu{a:Int}(c:0<=a):g a 0=a:=by unfold g;rw[Int.gcd_zero_right];omega
def Ir{a b:Int}(d:0<=a)(c:0<b):g b (a%b)=g a b:=by
 unfold g
 congr 1
 obtain⟨m,rfl⟩:=bo d;obtain⟨n,rfl⟩:=bo (gZ c);show Nat.gcd n ((m:Int)%(n:Int)).natAbs=Nat.gcd m n;rw[show((m:Int)%(n:Int)).natAbs=m%n from by omega];rw[Nat.gcd_comm m n,Nat.gcd_rec n m,Nat.gcd_comm]
def Im(a b:Int):g (if a<0 then -a else a) (if b<0 then -b else b)=g a b:=by
 unfold g
 congr 1
 unfold Int.gcd
 congr 1
 ·split<;>omega
 ·split<;>omega
def Iq{a b:Int}(c:b≠0):0<g a b:=by unfold g;have h:=Int.gcd_pos_of_ne_zero_right a c;omega
def Io(a b:Int):g a b∣a:=Int.gcd_dvd_left ..
def Ip(a b:Int):g a b∣b:=Int.gcd_dvd_right ..
def dv(t b:Int):Int:=if b<0 then -(g t b)else g t b
def top(t b:Int):Int:=t.fdiv (dv t b)
def bot(t b:Int):Int:=b.fdiv (dv t b)
def sV{t b:Int}(c:b≠0):dv t b≠0:=by have:=Iq (a:=t) c;unfold dv;split<;>omega
def HU{a d q:Int}(c:d≠0)(h:a=d*q):a.fdiv d=q:=by subst h;rw[iI];exact Int.mul_fdiv_cancel q c
theorem split{t b:Int}(h:b≠0):t=dv t b*top t b/\b=dv t b*bot t b:=by
 have d:=sV (t:=t) h;have j:dv t b∣t:=by
  unfold dv;split;·exact Int.neg_dvd.mpr (Io t b)
  ·exact Io t b
 have i:dv t b∣b:=by
  unfold dv;split;·exact Int.neg_dvd.mpr (Ip t b)
  ·exact Ip t b
 obtain⟨p,c⟩:=j;obtain⟨q,a⟩:=i;constructor
 ·show t=dv t b*t.fdiv (dv t b);rw[HU d c];exact c
 ·show b=dv t b*b.fdiv (dv t b);rw[HU d a];exact a
structure oG(p q:Int):Prop where
 pos:0<q
 one:Int.gcd p q=1
def Ct{t b:Int}(c:b≠0):oG (top t b) (bot t b):=by
 obtain⟨m,j⟩:=split (t:=t) c;have n:=sV (t:=t) c;have k:=Iq (a:=t) c;have i:(dv t b).natAbs=Int.gcd t b:=by unfold dv g;split<;>omega
 refine⟨?_,?_⟩
 ·rcases Int.lt_trichotomy b 0 with h|h|h
  ·have e:dv t b= -(g t b):=by unfold dv;rw[av h]
   rw[e]at j;refine Int.lt_of_not_ge λd=>?_;have:0<= -(g t b)*bot t b:=by have:=Int.mul_nonneg_of_nonpos_of_nonpos (show -(g t b)<=0 by omega) d;exact this
   omega
  ·exact absurd h c
  ·have e:dv t b=g t b:=by unfold dv;rw[aw<|by omega]
   rw[e]at j;refine Int.lt_of_not_ge λd=>?_;have:g t b*bot t b<=0:=Int.mul_nonpos_of_nonneg_of_nonpos (gZ k) d;omega
 ·have e:Int.gcd (dv t b*top t b) (dv t b*bot t b)=(dv t b).natAbs*Int.gcd (top t b) (bot t b):=Int.gcd_mul_left ..;rw[<-m,<-j,i]at e;have l:0<Int.gcd t b:=by unfold g at k;omega
  exact(Nat.eq_of_mul_eq_mul_left l<|by rw[iL];exact e).symm
def OJ{t b:Int}(a:b≠0):top t b*b=t*bot t b:=by
 obtain⟨d,c⟩:=split (t:=t) a;have i:top t b*b=top t b*(dv t b*bot t b):=by rw[<-c]
 have h:t*bot t b=(dv t b*top t b)*bot t b:=by rw[<-d]
 rw[i,h];rw[<-gx,iI<|top t b]
def Ha{a b c:Int}(h:Int.gcd a b=1)(d:a∣b*c):a∣c:=by
 have i:Nat.Coprime a.natAbs b.natAbs:=h;have j:a.natAbs∣b.natAbs*c.natAbs:=by rw[<-gc];exact ia.mpr d
 exact ia.mp (i.dvd_of_dvd_mul_left j)
def Tg{p q d c:Int}(a:oG p q)(b:oG d c)(h:p*c=d*q):p=d/\q=c:=by
 obtain⟨j,l⟩:=a;obtain⟨i,k⟩:=b;have d1:q∣c:=by
  have:q∣p*c:=by rw[h];exact Int.dvd_mul_left ..
  exact Ha (by rw[Int.gcd_comm];exact l) this
 have d2:c∣q:=by
  have:c∣d*q:=by rw[<-h];exact Int.dvd_mul_left ..
  exact Ha (by rw[Int.gcd_comm];exact k) this
 have e:q=c:=Int.dvd_antisymm (gZ j) (gZ i) d1 d2;subst e;exact⟨gf (by omega) h,rfl⟩
def scaled{p q k:Int}(L:oG p q)(a:k≠0):top (p*k) (q*k)=p/\bot (p*k) (q*k)=q:=by
 have h:q≠0:=by have:=L.pos;omega
 have d:q*k≠0:=c7 h a;refine Tg (Ct d) L ?_;have c:=OJ (t:=p*k) d
 refine gf a ?_;rw[gx,c,gx,gx,iI k]
def Pb(t b:Int):(dv t b).natAbs=Int.gcd t b:=by unfold dv g;split<;>omega
def Pc{t b:Int}(a:b≠0):(dv t b).natAbs<=b.natAbs:=by rw[Pb];exact Nat.le_of_dvd (by omega) (Nat.gcd_dvd_right ..)
end FM
namespace T2
open PySem PySem.NumText TM
def zp(t:Int):List Nat:=if t<0 then 45::num t.natAbs else num t.natAbs
def oy(c:Nat):List Nat->List (List Nat)
 |[]=>[[]]
 |x::r=>if x=c then[]::oy c r else match oy c r with
  |p::a=>(x::p)::a
  |[]=>[[x]]
def abb:oy c (c::r)=[]::oy c r:=by show(if c=c then[]::oy c r else _)=_;rw[av rfl]
def LS(h:x≠c)(e:oy c r=p::ps):oy c (x::r)=(x::p)::ps:=by show(if x=c then[]::oy c r else match oy c r with|p::ps=>(x::p)::ps|[]=>[[x]])=_;rw[aw h,e]
theorem LR:∀{l},c∉l->oy c l=[l]
 |[],_=>rfl
 |x::r,h=>LS (λz=>h<|by rw[z];exact bF ..) (LR λz=>h<|aZ _ z)
theorem w4:∀{l},c∉l->oy c (l++c::r)=l::oy c r
 |[],_=>abb
 |x::l,h=>LS (λz=>h<|by rw[z];exact bF ..) (w4 λz=>h<|aZ _ z)
def UJ(h:c<48\/57<c):c∉num m:=λz=>by have:=UO m c z;omega
structure Ok(t b:Int):Prop where
 low:FM.oG t b
 ht:t.natAbs<10^60
 hb:b.natAbs<10^60
def Ma(t:Int){b:Int}(c:b≠0):(FM.top t b).natAbs<=t.natAbs/\(FM.bot t b).natAbs<=b.natAbs:=by
 obtain⟨h,d⟩:=FM.split (t:=t) c;have k:=FM.sV (t:=t) c;have a:1<=(FM.dv t b).natAbs:=by omega
 have j:t.natAbs=(FM.dv t b).natAbs*(FM.top t b).natAbs:=by rw[<-gc,<-h]
 have i:b.natAbs=(FM.dv t b).natAbs*(FM.bot t b).natAbs:=by rw[<-gc,<-d]
 rw[j,i];exact⟨hA _ a,hA _ a⟩
end T2
namespace TR
open PySem PySem.NumText TM T2
def Jp:List (List Nat):=[[109,97,114,107],[102,105,108,108],[104,101,114,101],[98,97,99,107],[111,110],[97,116],[97,103,111],[117,110,116,105,108],[97,98,115],[97,110,100],[111,114],[110,111,116]]
def JU(c:Nat):Bool:=decide (97<=c)&&decide (c<=122)
def Ag(m:List Nat):Bool:=decide (m≠[])&&decide (m.length<=8)&&m.all JU&&!decide (m∈Jp)
def yU(t:Nat):List Nat:=two (t%1440/60)++58::two (t%1440%60)
def LK(m:List Nat)(t u:Nat)(n:Int):List Nat:=m++32::(num (t/1440)++32::(yU t++32::(num u++32::zp n)))
structure Ok(m:List Nat)(t u:Nat)(n:Int):Prop where
 m:Ag m=true
 t:t<=1000000000
 u:u<=1000000000
 n:n.natAbs<10^60
def acq(h:Ag m=true):m≠[]/\m.length<=8/\(∀c∈m,97<=c/\c<=122)/\m∉Jp:=by unfold Ag at h;simp only[aS,bx,gh,cS,cK]at h;refine⟨h.1.1.1,h.1.1.2,λc a=>?_,h.2⟩;have:=h.1.2 c a;unfold JU at this;simpa using this
def Uz(h:Ag m=true):32∉m:=λz=>by have:=(acq h).2.2.1 32 z;omega
def zo(k):32∉num k:=UJ (.inl<|by decide)
def QX(t):32∉yU t:=by unfold yU two;intro z;simp only[aW,aE,bU,dU]at z;omega
def UN(n:Int):32∉zp n:=by
 unfold zp;split
 ·intro z;rcases aE.mp z with z|z;·cases z
  ·exact zo _ z
 ·exact zo _
def parts{t u}{n:Int}(O:Ok m t u n):oy 32 (LK m t u n)=[m,num<|t/1440,yU t,num u,zp n]:=by unfold LK;rw[w4<|Uz O.m,w4<|zo _,w4<|QX _,w4<|zo _,LR<|UN _]
end TR
set_option exponentiation.threshold 500
namespace P2
open PySem L2
def YR:tA i f ρ=toS (f ρ) λa=>if i<ρ.length then .nx (ρ.set i<|.ow a)else .bad:=rfl
def YS{fs}:zS i j fs ρ=toS (fs ρ) λa=>match a with
 |[d1,d2]=>if i<ρ.length/\j<ρ.length then .nx ((ρ.set i<|.sh d1).set j (.sh d2))else .bad
 |_=>.bad:=rfl
def Xp:Lz 3 f (s0::s1::s2::.ow ds::r)=toS (f<|s0::s1::s2::.ow ds::r) λd=>if ds.length<sizeLine then .nx (s0::s1::s2::.ow (ds++[d])::r)else .bad:=rfl
def Xq:Lz 4 f (s0::s1::s2::s3::.ow ds::r)=toS (f<|s0::s1::s2::s3::.ow ds::r) λd=>if ds.length<sizeLine then .nx (s0::s1::s2::s3::.ow (ds++[d])::r)else .bad:=rfl
def X5:sY 3 (s0::s1::s2::.ow ds::r)=s0::s1::s2::.sh (.lst ds)::r:=rfl
def X6:sY 4 (s0::s1::s2::s3::.ow ds::r)=s0::s1::s2::s3::.sh (.lst ds)::r:=rfl
def YA{i j:Int}:Um [.int i,.int j]=.ok (.int<|if j<i then j else i):=rfl
def Dv{j:Int}(c:0<=j)(a:j<1000000):qD [.int j]=.ok (pP 0 j.toNat):=by show(if -(2^62)<=j/\j<2^62 then R.ok (pP 0 j.toNat)else .bad)=_;rw[av<|by omega]
end P2
local macro_rules|`(tactic|walk_at "d")=>`(tactic|try simp(disch:=first|assumption|decide|exact aq rfl)only[P2.Ld,P2.XC,P2.XB,P2.Zg,P2.Zj,P2.Ze,P2.YX,P2.YY,P2.YZ,P2.YW,P2.Lf,P2.Zn,P2.Zo,P2.Zq,P2.Zl,P2.Zv,P2.XZ,P2.XY,P2.X0,P2.YJ,P2.YL,P2.YK,P2.YU,P2.YQ,P2.YT,P2.YN,P2.YV,P2.YP,P2.XH,P2.XD,P2.XE,P2.Xw,P2.Xx,P2.Xy,P2.XA,P2.Xz,P2.XG,P2.XQ,P2.XO,P2.XN,P2.XJ,P2.XF,P2.Xh,P2.Xg,P2.Xv,P2.XM,P2.XS,P2.XI,P2.YO,P2.YR,P2.YS,P2.Xp,P2.Xq,P2.X5,P2.X6,P2.YA,P2.Dv,P2.Zd,P2.X7,P2.Y6,P2.Y7,P2.Y8,P2.Za,P2.Y9,P2.Zb,P2.Xj,P2.Y5,P2.wO,P2.ou,P2.Yx,P2.Yt,P2.X9,P2.X8,P2.YI,P2.XU,P2.XW,P2.XT,P2.YG,P2.YH,P2.Yb,P2.Yo,P2.Yq,P2.Yp,P2.Y2,P2.Y3,P2.YM,P2.Yv,P2.Yu,P2.Yw,P2.Xi,P2.Yz,P2.Yc,P2.Xn,P2.Xo,P2.Y4,P2.ZO,P2.Ya,P2.X2,P2.wN,P2.Xl,P2.YC,P2.Xr,P2.Xu,P2.Xs,P2.X3,P2.Ys,P2.Yr,P2.Ye,P2.Yd,P2.Yg,P2.Yh,P2.Yf,P2.Y0,P2.Y1,P2.Yi,P2.Yl,P2.Yj,P2.Ym,P2.Yk,P2.Yn,P2.Zw,P2.Zx,P2.ZF,P2.ZH,P2.ZI,P2.ZJ,P2.ZK,P2.ZL,P2.ZM,P2.ZN,P2.Zy,P2.Zz,P2.ZC,P2.ZD,P2.jT,aT,d3,aj,cV,d5,Nat.reduceAdd,Nat.reduceSub,List.replicate_zero,List.replicate_succ,bg,fS,List.cons_append,List.set_cons_zero,List.set_cons_succ,dr,bL,Nat.reduceLT,Nat.zero_lt_succ,fJ,iE,bh,reduceIte,fM,eQ,Int.reduceLT,Int.reduceEq,Int.reduceNeg,Int.reducePow,Int.reduceSub,Int.reduceAdd,Int.reduceMul,aP])
namespace WP
open PySem L2 P2 TM T2 PySem.NumText
variable{a:Ad}
def T9(i:Int):jO (vU a<|jT 1 [.int i])=.ok (.bl true):=by unfold vU;iterate 3 (walk_at "d")
theorem Mp:∀(n:Nat) (x y:Int) (s2:Sl),0<=x->0<=y->y<n->
 ∃s,pj (b1 tB<|d2 qB (dV 1)<|iQ 0) (vE a) n [.sh<|.int x,.sh<|.int y,s2]=.nx [.sh<|.int<|FM.g x y,.sh<|.int 0,s]
 |0,x,y,s2,c,i,h=>by omega
 |n+1,x,y,s2,c,i,h=>by
  rw[Lg];by_cases z:y=0
  ·subst z;refine⟨s2,?_⟩;walk_at "d"
   rw[FM.Iu c]
  ·have d:0<y:=by omega
   have j:=cL x d;obtain⟨s,e⟩:=Mp n y (x%y) (.sh<|.int<|x%y) i (c8 x z) (by omega);refine⟨s,?_⟩;unfold vE;iterate 4 (walk_at "d";try simp only[z,ou d])
   rw[<-FM.Ir c d];exact e
def Tt(x y:Int)(d:0<=x)(c:0<=y)(h:y.natAbs<10^400):jO (vR a<|jT 3 [.int x,.int y])=.ok (.int<|FM.g x y):=by
 obtain⟨s,e⟩:=Mp (a:=a) 10000000000000000000000000000000000000000000000000000000000000000000000000000000000000000000000000000000000000000000000000000000000000000000000000000000000000000000000000000000000000000000000000000000000000000000000000000000000000000000000000000000000000000000000000000000000000000000000000000000000000000000000000000000000000000000000000000000000000000000000000000000000000000000000000000000000000000 x y .no d c (by omega);unfold vR;walk_at "d"
 rw[e];walk_at "d"
def yn{t b:Int}(c:b≠0)(h:b.natAbs<10^400):(FM.dv t b).natAbs<10^400:=by have:=FM.Pc (t:=t) (b:=b) c;omega
abbrev fr(t b:Int):D:=.tup [.int<|FM.top t b,.int<|FM.bot t b]
def Ts{k l:jf}(j:∀i:Int,k [.int i]=.ok (.bl true))(m:∀x y:Int,0<=x->0<=y->y.natAbs<10^400->l [.int x,.int y]=.ok (.int<|FM.g x y))(t b:Int)(c:b≠0)(h:b.natAbs<10^400):
    jO (vS a k l<|jT 3 [.int t,.int b])=.ok (fr t b):=by
 have d:=m (if t<0 then -t else t) (if b<0 then -b else b) (by split<;>omega) (by split<;>omega) (by split<;>omega);rw[FM.Im t b]at d;have d1:=zM (i:=t) (FM.sV (t:=t) (b:=b) c) (yn c h);have d2:=zM (i:=b) (FM.sV (t:=t) (b:=b) c) (yn c h);unfold vS;by_cases b1:b<0
 ·have e:FM.dv t b= -(FM.g t b):=by unfold FM.dv;rw[av b1]
  rw[av b1]at d;rw[e]at d1 d2;iterate 8 (walk_at "d";try simp only[j,c,b1,d,d1,d2,eQ,fM])
  unfold fr FM.top FM.bot;rw[e]
 ·have e:FM.dv t b=FM.g t b:=by unfold FM.dv;rw[aw b1]
  rw[aw b1]at d;rw[e]at d1 d2;iterate 8 (walk_at "d";try simp only[j,c,b1,d,d1,d2,eQ,fM])
  unfold fr FM.top FM.bot;rw[e]
variable{a:Ad}
def Sz(n:Nat)(i:Int):Prop:=i.natAbs<10^n
def Sz.mono{n}{i:Int}(h:Sz m i)(le:m<=n):Sz n i:=aH h (iA (by decide) le)
def Sz.mul{n}{i j:Int}(h:Sz m i)(g:Sz n j):Sz (m+n) (i*j):=by unfold Sz at*;rw[gc,Nat.pow_add];exact Nat.mul_lt_mul'' h g
def Sz.add{n}{i j:Int}(h:Sz n i)(g:Sz n j):Sz (n+1) (i+j):=by unfold Sz at*;have:(10:Nat)^(n+1)=10^n*10:=cY ..;omega
def Sz.sub{n}{i j:Int}(h:Sz n i)(g:Sz n j):Sz (n+1) (i - j):=by unfold Sz at*;have:(10:Nat)^(n+1)=10^n*10:=cY ..;omega
def Sz.top{n}{t b:Int}(h:Sz n t)(c:b≠0):Sz n (FM.top t b):=cy (Ma t c).1 h
def Sz.bot{n}{t b:Int}(h:Sz n b)(c:b≠0):Sz n (FM.bot t b):=cy (Ma t c).2 h
def pN{i j:Int}(h:Sz 190 i)(g:Sz 190 j):ku (.int i) (.int j)=.ok (.int<|i*j):=YE (h.mono<|by decide) (g.mono<|by decide)
abbrev pr(p q:Int):D:=.tup [.int p,.int q]
section
variable{j:jf}(hf:∀t b:Int,b≠0->b.natAbs<10^400->j [.int t,.int b]=.ok (fr t b)){p q x y:Int}(i:Sz 190 p)(e:Sz 190 q)(h:Sz 190 x)(c:Sz 190 y)
include hf i e h c
theorem TU(v:q≠0)(u:y≠0):jO (vW a j<|jT 2 [pr p q,pr x y])=.ok (fr (p*y+x*q)<|q*y):=by have r:L2.jY [D.int p,D.int q] 0=some (.int p):=rfl;have o:L2.jY [D.int p,D.int q] 1=some (.int q):=rfl;have n:L2.jY [D.int x,D.int y] 0=some (.int x):=rfl;have m:L2.jY [D.int x,D.int y] 1=some (.int y):=rfl;have l:=pN i c;have k:=pN h e;have d:=pN e c;have f:=hf (p*y+x*q) (q*y) (c7 v u) ((e.mul c).mono (by decide));unfold vW;iterate 7 (walk_at "d";try simp only[r,o,n,m,l,k,d,f])
theorem TJ(v:q≠0)(u:y≠0):jO (vV a j<|jT 2 [pr p q,pr x y])=.ok (fr (p*y - x*q)<|q*y):=by have r:L2.jY [D.int p,D.int q] 0=some (.int p):=rfl;have o:L2.jY [D.int p,D.int q] 1=some (.int q):=rfl;have n:L2.jY [D.int x,D.int y] 0=some (.int x):=rfl;have m:L2.jY [D.int x,D.int y] 1=some (.int y):=rfl;have l:=pN i c;have k:=pN h e;have d:=pN e c;have f:=hf (p*y - x*q) (q*y) (c7 v u) ((e.mul c).mono (by decide));unfold vV;iterate 7 (walk_at "d";try simp only[r,o,n,m,l,k,d,f])
theorem T5(u:q≠0)(r:y≠0):jO (vX a j<|jT 2 [pr p q,pr x y])=.ok (fr (p*x)<|q*y):=by have o:L2.jY [D.int p,D.int q] 0=some (.int p):=rfl;have n:L2.jY [D.int p,D.int q] 1=some (.int q):=rfl;have m:L2.jY [D.int x,D.int y] 0=some (.int x):=rfl;have l:L2.jY [D.int x,D.int y] 1=some (.int y):=rfl;have k:=pN i h;have d:=pN e c;have f:=hf (p*x) (q*y) (c7 u r) ((e.mul c).mono (by decide));unfold vX;iterate 7 (walk_at "d";try simp only[o,n,m,l,k,d,f])
end
structure Ck where
 m:Str
 t:Int
 p:Int
 q:Int
abbrev Ck.d(c:Ck):D:=.tup [.str c.m,.int c.t,pr c.p c.q]
def El(t c d:Int):Int×Int:=if c=d then(0,1)else(FM.top (t - c)<|d - c,FM.bot (t - c)<|d - c)
def GG(t:Int)(c d:Ck):Int×Int:=
 let s:=El t c.t d.t
 let i:=FM.top (d.p*c.q - c.p*d.q) (d.q*c.q)
 let j:=FM.bot (d.p*c.q - c.p*d.q) (d.q*c.q)
 let k:=FM.top (s.1*i) (s.2*j)
 let h:=FM.bot (s.1*i) (s.2*j)
 (FM.top (c.p*h+k*c.q)<|c.q*h,FM.bot (c.p*h+k*c.q)<|c.q*h)
structure Ck.Ok(c:Ck):Prop where
 low:FM.oG c.p c.q
 p:Sz 9 c.p
 q:Sz 6 c.q
 t:0<=c.t/\c.t<=1000000000
 s:PyData.strOk c.m=true
structure Os(a:Ad)(Ff Ft Fs Fm Fx Fp:jf):Prop where
 f:∀t b:Int,b≠0->b.natAbs<10^400->Ff [.int t,.int b]=.ok (fr t b)
 t:∀c:Ck,Ft [c.d]=.ok (.int c.t)
 s:∀t t1 t2:Int,Sz 20 t1->Sz 20 t2->Fs [.int t,.int t1,.int t2]=.ok (pr (El t t1 t2).1 (El t t1 t2).2)
 m:∀p q x y:Int,Sz 190 p->Sz 190 q->Sz 190 x->Sz 190 y->q≠0->y≠0->Fm [pr p q,pr x y]=.ok (fr (p*y - x*q)<|q*y)
 x:∀p q x y:Int,Sz 190 p->Sz 190 q->Sz 190 x->Sz 190 y->q≠0->y≠0->Fx [pr p q,pr x y]=.ok (fr (p*x)<|q*y)
 p:∀p q x y:Int,Sz 190 p->Sz 190 q->Sz 190 x->Sz 190 y->q≠0->y≠0->Fp [pr p q,pr x y]=.ok (fr (p*y+x*q)<|q*y)
structure Ov(a:Ad)(Ff Ft Fv:jf):Prop where
 f:∀t b:Int,b≠0->b.natAbs<10^400->Ff [.int t,.int b]=.ok (fr t b)
 t:∀c:Ck,Ft [c.d]=.ok (.int c.t)
 v:∀{t:Int},(0<=t/\t<=1000000000)->∀{c d:Ck},c.Ok->d.Ok->Fv [.int t,c.d,d.d]=.ok (pr (GG t c d).1 (GG t c d).2)
end WP
namespace WP
open PySem L2 P2 TM T2 PySem.NumText
variable{a:Ad}
def lt_size{n}(h:n<1000000):n<sizeLine:=aH h (by decide)
def NX(c:List Int)(k)(h:k<c.length):L2.jY (c.map D.int) (k:Int)=some (.int<|c.getD k 0):=by refine ud ?_;rw[aA,ao h,aQ,ao h];rfl
def To(c:List Int)(k:Nat):jO (yH a<|jT 2 [.lst<|c.map .int,.int k])=.ok (.int<|c.getD k 0):=by
 unfold yH;walk_at "d"
 rw[ai];by_cases h:k<c.length
 ·rw[av<|aO<|by omega,NX c k h];walk_at "d"
 ·rw[aw<|by simp;omega];walk_at "d"
  rw[aQ,fm<|by omega];rfl
theorem Mq:∀(n:Nat) (x y:Int) (d c:Sl),0<=x->0<=y->y<n->
 pj (b1 tB<|d2 rN (dV 3)<|iQ 0) (A1 a) n [d,c,.sh<|.int x,.sh<|.int y]=.nx [d,c,.sh<|.int<|FM.g x y,.sh<|.int 0]
 |0,x,y,d,c,j,k,h=>by omega
 |n+1,x,y,d,c,j,k,h=>by
  rw[Lg];by_cases z:y=0
  ·subst z;walk_at "d"
   rw[FM.Iu j]
  ·have i:0<y:=by omega
   have l:=cL x i;have e:=Mq n y (x%y) d c k (c8 x z) (by omega);unfold A1;iterate 4 (walk_at "d";try simp only[aO i,ou i,and_self])
   rw[<-FM.Ir j i];exact e
def TF(t b:Int)(d:0<b)(h:b.natAbs<10^400):jO (yK a<|jT 4 [.int t,.int b])=.ok (fr t b):=by
 have e:=Mq (a:=a) sO (if t<0 then -t else t) b (.sh<|.int t) (.sh<|.int b) (by split<;>omega) (by omega) (by unfold sO;omega);have c:FM.g (if t<0 then -t else t) b=FM.dv t b:=by have:=FM.Im t b;rw[aw<|show¬b<0 by omega]at this;rw[this];unfold FM.dv;rw[aw<|by omega]
 rw[c]at e;have d1:=zM (i:=t) (FM.sV (t:=t) (b:=b)<|by omega) (yn (t:=t) (b:=b) (by omega) h);have d2:=zM (i:=b) (FM.sV (t:=t) (b:=b)<|by omega) (yn (t:=t) (b:=b) (by omega) h);unfold yK;iterate 4 (walk_at "d";try simp only[and_self])
 rw[e];iterate 4 (walk_at "d";try simp only[d1,d2])
 rfl
structure FOk(p q:Int):Prop where
 low:FM.oG p q
 p:Sz 9 p
 q:Sz 6 q
def zr(d:PyData.strOk x=true)(c:PyData.strOk y=true):PyData.strOk (x++y)=true:=by unfold PyData.strOk at*;rw[<-Array.all_toList]at*;show((rF<|x++y).all _)=true;rw[GZ,List.all_append,aS];exact⟨d,c⟩
def len_app{x y:Str}:(x++y).length=x.length+y.length:=by rw[Cq,GZ,ar,<-Cq,<-Cq]
def NZ:∀n:Nat,n<3->∃c,c<128/\L2.jY (Str.ofString "qxz").cps.toList (n:Int)=some c:=by decide
def NY:∀n:Nat,n<26->∃c,c<128/\L2.jY (Str.ofString "abcdefghijklmnopqrstuvwxyz").cps.toList (n:Int)=some c:=by decide
def CK(h:c<128):PyData.strOk ⟨#[c]⟩=true:=by unfold PyData.strOk;simp;omega
def R4(j:Int)(h:0<=j/\j<3):∃c,c<128/\L2.jY (Str.ofString "qxz").cps.toList j=some c:=by obtain⟨n,rfl⟩:=bo h.1;exact NZ n (by omega)
def RW(j:Int)(h:0<=j/\j<26):∃c,c<128/\L2.jY (Str.ofString "abcdefghijklmnopqrstuvwxyz").cps.toList j=some c:=by obtain⟨n,rfl⟩:=bo h.1;exact NY n (by omega)
def lq:(Str.ofString "qxz").length<=sizeLine:=by decide
def la:(Str.ofString "abcdefghijklmnopqrstuvwxyz").length<=sizeLine:=by decide
def Lk(n):pP 0 n=((List.range n).map λ(k:Nat)=>(k:Int)).map D.int:=by unfold pP;rw[aX];refine cm λk _=>?_;show D.int (0+(k:Int))=D.int (k:Int);rw[Int.zero_add]
end WP
namespace WM
open PySem L2 P2 WP TM T2 PySem.NumText
variable{a:Ad}
inductive Fq where
 |back|on|ago|rX
inductive Bq where
 |add|sub|lt|eq|and|or
inductive T7 where
 |num(p q:Int)|at(w:Str)|here|far(k:Fq)(n:Int)|times(p q:Int)(t:T7)|abs(t:T7)|not(t:T7)|bin(k:Bq)(l r:T7)
def Fq.s:Fq->Str
 |.back=>"back"|.on=>"on"|.ago=>"ago"|.rX=>"until"
def Bq.s:Bq->Str
 |.add=>"+"|.sub=>"-"|.lt=>"<"|.eq=>"="|.and=>"and"|.or=>"or"
def T7.d:T7->D
 |.num p q=>.tup [.str "num",.tup [.int p,.int q]]
 |.at w=>.tup [.str "at",.str w]
 |.here=>.tup [.str "here"]
 |.far k n=>.tup [.str k.s,.int n]
 |.times p q t=>.tup [.str "times",.tup [.int p,.int q],t.d]
 |.abs t=>.tup [.str "abs",t.d]
 |.not t=>.tup [.str "not",t.d]
 |.bin k l r=>.tup [.str k.s,l.d,r.d]
def T7.kids:T7->List T7
 |.times _ _ t=>[t]
 |.abs t=>[t]
 |.not t=>[t]
 |.bin _ l r=>[l,r]
 |_=>[]
def T7.parts:T7->List T7
 |.times p q t=>.times p q t::t.parts
 |.abs t=>.abs t::t.parts
 |.not t=>.not t::t.parts
 |.bin k l r=>.bin k l r::(l.parts++r.parts)
 |t=>[t]
def T7.dep:T7->Nat
 |.times _ _ t=>t.dep+1
 |.abs t=>t.dep+1
 |.not t=>t.dep+1
 |.bin _ l r=>max l.dep r.dep+1
 |_=>0
def Kz(t:T7):t.parts=t::t.kids.flatMap T7.parts:=by cases t<;>simp[T7.parts,T7.kids]
def Sx{t u:T7}(h:u∈t.kids):u.dep<t.dep:=by
 cases t<;>simp[T7.kids]at h;·subst h;show _<_+1;omega
 ·subst h;show _<_+1;omega
 ·subst h;show _<_+1;omega
 ·rename_i k l r;show _<max l.dep r.dep+1;rcases h with rfl|rfl<;>omega
def Tz(t:T7):jO (By a<|jT 1 [t.d])=.ok (.lst<|t.kids.map T7.d):=by
 cases t with
 |far k n=>cases k<;>kernel_rfl
 |bin k l r=>cases k<;>kernel_rfl
 |_=>kernel_rfl
section
variable{Fi o:jf}
def V8{t:T7}(h:o [t.d]=.ok (.lst<|t.parts.map T7.d))(s0)(c:List D)(d:c.length+t.parts.length<=1000000):
    sL a Fi o [s0,.ow c,.sh t.d]=.nx [s0,.ow<|c++t.parts.map T7.d,.sh t.d]:=by
 show toS (o [t.d]) _=_;rw[h];show(if c.length+(t.parts.map T7.d).length<=sizeLine then RT.nx _ else .bad)=_;rw[av<|by rw[ai];exact aU d (by decide)];rfl
theorem KA(c:Sl):∀(L:List T7) (acc:List D) (s2:Sl),(∀t∈L,o [t.d]=.ok (.lst<|t.parts.map T7.d))->acc.length+(L.flatMap T7.parts).length<=1000000->
 ∃d,oa (gV 2) (sL a Fi o) (L.map T7.d) [c,.ow acc,s2]=.nx [c,.ow<|acc++(L.flatMap T7.parts).map T7.d,d]
 |[],acc,s2,_,_=>⟨s2,by rw[List.flatMap_nil,d3,bg];rfl⟩
 |t::L,acc,s2,h,i=>by rw[gk,ar]at i;obtain⟨d,e⟩:=KA c L (acc++t.parts.map T7.d) (.sh t.d) (λu j=>h u (.tail _ j)) (by rw[ar,ai];omega);refine⟨d,?_⟩;rw[gk,bq,<-bO,<-e];show turnT (sL a Fi o [c,.ow acc,.sh t.d]) (oa (gV 2) (sL a Fi o)<|L.map T7.d)=_;rw[V8 (h t<|.head _) c acc<|by omega];rfl
theorem JY(j:∀t:T7,Fi [t.d]=.ok (.lst<|t.kids.map T7.d)):∀(n:Nat) (t:T7),t.dep<n->t.parts.length<=1000000->
 rL (λF c=>jO<|rM a Fi F<|jT 3 c) n [t.d]=.ok (.lst<|t.parts.map T7.d)
 |0,t,h,_=>by omega
 |n+1,t,h,m=>by
  have d:=m;rw[Kz,aj]at d;have l:∀u∈t.kids,rL (λF c=>jO (rM a Fi F (jT 3 c))) n [u.d]=.ok (.lst (u.parts.map T7.d)):=λu i=>JY j n u (by have:=Sx i;omega) (by
   have:u.parts.length<=(t.kids.flatMap T7.parts).length:=by obtain⟨x,y,e⟩:=List.append_of_mem i;rw[e,List.flatMap_append,gk,ar,ar];omega
   omega)
  obtain⟨k,e⟩:=KA (a:=a) (Fi:=Fi) (.sh t.d) t.kids [t.d] .no l (by simp only[aj,cV];omega);show jO (rM a Fi (rL (λF c=>jO<|rM a Fi F<|jT 3 c) n) [.sh t.d,.no,.no])=_;generalize rL (λF c=>jO<|rM a Fi F<|jT 3 c) n=o at*;have q:tA 1 (λρ=>((aa (dV 0) iT) ρ).bind jy) [.sh t.d,.no,.no]=.nx [.sh t.d,.ow [t.d],.no]:=rfl;have p:uT (λρ=>((dA Fi<|aa (dV 0) iT) ρ).bind kd) (gV 2) (sL a Fi o) [.sh t.d,.ow [t.d],.no]=.nx [.sh t.d,.ow<|[t.d]++(t.kids.flatMap T7.parts).map T7.d,k]:=by rw[<-e];show toS ((Fi [t.d]).bind kd) _=_;rw[j t];rfl
  unfold rM;show jO (rW (tA 1 (λρ=>((aa (dV 0) iT) ρ).bind jy) [.sh t.d,.no,.no]) _)=_;rw[q];show jO (rW (uT (λρ=>((dA Fi<|aa (dV 0) iT) ρ).bind kd) (gV 2) (sL a Fi o) [.sh t.d,.ow [t.d],.no]) _)=_;rw[p,Kz];rfl
theorem G8{d j:Type}{f:d->D}{k:d->Option j}{g:j->D}{fc:Ev->R Bool}{fe:jw}:∀L:List d,(∀x∈L,k x=none->fc [.sh<|f x]=.ok false)->(∀x∈L,∀y,k x=some y->fc [.sh<|f x]=.ok true/\fe [.sh<|f x]=.ok (g y))->
 l0 (gV 0) fc fe [.no] (L.map f)=some ((L.filterMap k).map g)
 |[],_,_=>rfl
 |x::L,l,i=>by
  have n:=G8 (f:=f) (k:=k) (g:=g) (fc:=fc) (fe:=fe) L (λy h=>l y<|.tail _ h) (λy h=>i y<|.tail _ h);show(some [Sl.sh<|f x]).bind (λc=>(pM<|fc c).bind λb=>if b=true then(pM<|fe c).bind λv=>(l0 (gV 0) fc fe [.no]<|L.map f).bind λm=>some (v::m)else l0 (gV 0) fc fe [.no] (L.map f))=_;rw[Option.bind_some,n];cases q:k x with
  |none=>rw[List.filterMap_cons_none q,l x (.head _) q];rfl
  |some y=>rw[gu q,(i x (.head _) y q).1,(i x (.head _) y q).2];rfl
def yh{c d:Type}{f:c->D}{k:c->Option d}{g:d->D}{fc:Ev->R Bool}{fe:jw}{h:Ev->R (List D)}{ρ:Ev}{L:List c}(j:h ρ=.ok (L.map f))(i:L.length<=1000000)(m:∀x∈L,k x=none->fc [.sh<|f x]=.ok false)(l:∀x∈L,∀y,k x=some y->fc [.sh<|f x]=.ok true/\fe [.sh<|f x]=.ok (g y)):
    kA h 1 [] (gV 0) fc fe ρ=.ok ((L.filterMap k).map g):=by
 unfold kA;rw[j];show(if(L.map f).length<=sizeLine then tu (l0 (gV 0) fc fe [.no]<|L.map f)else .bad)=_;rw[av<|by rw[ai];exact aU i (by decide),G8 L m l];rfl
def uk{c:Type}{f g:c->D}{fe:jw}{d:Ev->R (List D)}{ρ:Ev}{L:List c}(l:d ρ=.ok (L.map f))(i:L.length<=1000000)(m:∀x∈L,fe [.sh<|f x]=.ok (g x)):
    kA d 1 [] (gV 0) (λ_=>.ok true) fe ρ=.ok (L.map g):=by
 have:=yh (k:=λx=>some x) (g:=g) (fc:=λ_=>.ok true) (fe:=fe) l i (λx _ h=>by cases h) (λx j y h=>by cases h;exact⟨rfl,m x j⟩);rw[this,List.filterMap_some]
theorem Js:∀c:List Int,kS (c.map D.int)=some (c.map Sum.inl)
 |[]=>rfl
 |n::r=>by show(some<|Sum.inl n).bind (λk=>(kS<|r.map D.int).map (k:: ·))=_;rw[Js r];rfl
theorem keys_str:∀c:List Str,kS (c.map D.str)=some (c.map Sum.inr)
 |[]=>rfl
 |n::r=>by show(some<|Sum.inr n).bind (λk=>(kS<|r.map D.str).map (k:: ·))=_;rw[keys_str r];rfl
def yX{c:Type}{f:c->D}(h:∀x,ki (f x)=some sg)(L:List c):mi (L.map f)=true:=by
 cases L with
 |nil=>rfl
 |cons x r=>show((ki<|f x).isSome&&(r.map f).all λe=>ki e==ki (f x))=true;rw[h x,aS];refine⟨rfl,cK.mpr λd i=>?_⟩;obtain⟨y,_,rfl⟩:=az.mp i;rw[h y];exact gy _
theorem KS:∀c,(∀d∈c,∃n,d=D.int n)->∃L:List Int,c=L.map D.int
 |[],_=>⟨[],rfl⟩
 |d::r,h=>by obtain⟨n,rfl⟩:=h d (.head _);obtain⟨L,rfl⟩:=KS r λd i=>h d (.tail _ i);exact⟨n::L,rfl⟩
theorem KU:∀c,(∀d∈c,∃n,d=D.str n)->∃L:List Str,c=L.map D.str
 |[],_=>⟨[],rfl⟩
 |d::r,h=>by obtain⟨n,rfl⟩:=h d (.head _);obtain⟨L,rfl⟩:=KU r λd i=>h d (.tail _ i);exact⟨n::L,rfl⟩
theorem Bg:∀c:List Key,(dd c).length<=c.length
 |[]=>ah _
 |k::r=>by
  have:=Bg r;unfold dd;split;·rw[aj];omega
  ·rw[aj,aj];omega
def JZ(ks d):d∈ky ((dd ks).map kD)↔∃k∈ks,d=kD k:=by rw[(mV _).mem_iff,az];exact⟨λ⟨k,h,e⟩=>⟨k,(tr k ks).mp h,e.symm⟩,λ⟨k,h,e⟩=>⟨k,(tr k ks).mpr h,e.symm⟩⟩
def LP(c:List Int)(h:c.length<64):∃L:List Int,nQ (.lst<|c.map D.int)=.ok (L.map D.int)/\(∀x,x∈L↔x∈c)/\L.length<=c.length:=by
 have l:=JZ (c.map Sum.inl);obtain⟨L,e⟩:=KS (ky ((dd (c.map Sum.inl)).map kD)) λd r=>by obtain⟨k,j,rfl⟩:=(l d).mp r;obtain⟨n,_,rfl⟩:=az.mp j;exact⟨n,rfl⟩
 refine⟨L,?_,λx=>?_,?_⟩
 ·show(match kS (c.map D.int)with|some m=>if mi (c.map D.int)=true/\(c.map D.int).length<64 then R.ok (ky<|(dd m).map kD)else .bad|none=>.bad)=_;rw[Js];show(if mi (c.map D.int)=true/\(c.map D.int).length<64 then R.ok (ky<|(dd<|c.map Sum.inl).map kD)else .bad)=_;rw[av ⟨yX (sg:=[0]) (λ_=>rfl) c,by rw[ai];exact h⟩,e]
 ·have:=l (.int x);rw[e]at this;constructor
  ·intro i;obtain⟨k,j,v⟩:=this.mp (az.mpr ⟨x,i,rfl⟩);obtain⟨n,q,rfl⟩:=az.mp j;cases v;exact q
  ·intro i;obtain⟨y,p,u⟩:=az.mp (this.mpr ⟨.inl x,az.mpr ⟨x,i,rfl⟩,rfl⟩);cases u;exact p
 ·have t:=bG List.length e;rw[(mV _).length_eq,ai,ai]at t;have:=Bg (c.map Sum.inl);rw[ai]at this;omega
def aa8(c:List Str)(h:c.length<64):∃L:List Str,nQ (.lst<|c.map D.str)=.ok (L.map D.str)/\(∀x,x∈L↔x∈c)/\L.length<=c.length:=by
 have l:=JZ (c.map Sum.inr);obtain⟨L,e⟩:=KU (ky ((dd (c.map Sum.inr)).map kD)) λd r=>by obtain⟨k,j,rfl⟩:=(l d).mp r;obtain⟨n,_,rfl⟩:=az.mp j;exact⟨n,rfl⟩
 refine⟨L,?_,λx=>?_,?_⟩
 ·show(match kS (c.map D.str)with|some m=>if mi (c.map D.str)=true/\(c.map D.str).length<64 then R.ok (ky<|(dd m).map kD)else .bad|none=>.bad)=_;rw[keys_str];show(if mi (c.map D.str)=true/\(c.map D.str).length<64 then R.ok (ky<|(dd<|c.map Sum.inr).map kD)else .bad)=_;rw[av ⟨yX (sg:=[1]) (λ_=>rfl) c,by rw[ai];exact h⟩,e]
 ·have:=l (.str x);rw[e]at this;constructor
  ·intro i;obtain⟨k,j,v⟩:=this.mp (az.mpr ⟨x,i,rfl⟩);obtain⟨n,q,rfl⟩:=az.mp j;cases v;exact q
  ·intro i;obtain⟨y,p,u⟩:=az.mp (this.mpr ⟨.inr x,az.mpr ⟨x,i,rfl⟩,rfl⟩);cases u;exact p
 ·have t:=bG List.length e;rw[(mV _).length_eq,ai,ai]at t;have:=Bg (c.map Sum.inr);rw[ai]at this;omega
inductive Ask where
 |here|back(n:Int)|on(n:Int)|at(w:Str)
def Ask.d:Ask->D
 |.here=>.tup [.str "here"]
 |.back n=>.tup [.str "back",.int n]
 |.on n=>.tup [.str "on",.int n]
 |.at w=>.tup [.str "at",.str w]
def Gs:T7->Option Ask
 |.far .back n=>some (.back n)
 |.far .ago n=>some (.back n)
 |.far .on n=>some (.on n)
 |.far .rX n=>some (.on n)
 |.at w=>some (.at w)
 |_=>none
def vJ:T7->Option Int
 |.far .back n=>some n
 |.far .ago n=>some n
 |_=>none
def wz:T7->Option Int
 |.far .on n=>some n
 |.far .rX n=>some n
 |_=>none
def vC:T7->Option Str
 |.at w=>some w
 |_=>none
def T7.asks(t:T7):List Ask:=t.parts.filterMap Gs
def qs{f:Ev->R (List D)}(h:f ρ=.ok X):jq f ρ=.ok (.lst X):=by unfold jq;rw[h];rfl
def Ej{f:Ev->R (List D)}(h:f ρ=.ok X)(c:nQ (.lst X)=.ok Y)(d:i<ρ.length):lG i (jq<|λρ=>((jq f) ρ).bind nQ) ρ=.nx (ρ.set i<|.sh<|.lst Y):=by have e:jq (λρ=>((jq f) ρ).bind nQ) ρ=.ok (.lst Y):=qs (by rw[qs h];exact c);show toS (jq (λρ=>((jq f) ρ).bind nQ) ρ) _=_;rw[e];exact av d
def Bu{f:Ev->R (List D)}(d:ρ[i]?=some (.ow X))(h:f ρ=.ok Y)(c:X.length+Y.length<=1000000):pR i (jq f) ρ=.nx (ρ.set i<|.ow<|X++Y):=by unfold pR;rw[d];show toS (jq f ρ) _=_;rw[qs h];exact av (aU c<|by decide)
def Tn{t:T7}(V:o [t.d]=.ok (.lst<|t.parts.map T7.d))(hz:t.parts.length<64):
    ∃A:List Ask,jO (yy a o<|jT 6 [t.d])=.ok (.lst<|A.map Ask.d)/\A.length<=3*t.parts.length+1/\∀x,x∈A↔x=.here\/x∈t.asks:=by
 have Q:t.parts.length<=1000000:=by omega
 have J {Z:Type} (k:T7->Option Z):(t.parts.filterMap k).length<64:=cy (dq ..) hz;obtain⟨B,eB,mB,lB⟩:=LP (t.parts.filterMap vJ) (J _);obtain⟨O,eO,mO,lO⟩:=LP (t.parts.filterMap wz) (J _);obtain⟨W,eW,mW,lW⟩:=aa8 (t.parts.filterMap vC) (J _);have fB:=J vJ;have gB:=dq vJ t.parts;have gO:=dq wz t.parts;have gW:=dq vC t.parts;have fO:=J wz;have fW:=J vC;refine⟨.here::(B.map .back++(O.map .on++W.map .at)),?_,by simp only[aj,ar,ai];omega,λx=>?_⟩
 ·generalize T:t.parts.map T7.d=P at V;have c1:∀ρ:Ev,ρ[1]?=some (.sh<|.lst P)->kA (λρ=>((dV 1) ρ).bind kd) 1 [] (gV 0) (b1 tB<|d2 nO (iW 0 0)<|dA jv<|aa (jc "back")<|aa (jc "ago") iT) (iW 0 1) ρ=.ok ((t.parts.filterMap vJ).map D.int):=λρ F=>by
   refine yh (f:=T7.d) (L:=t.parts) (k:=vJ) (by show(dV 1 ρ).bind kd=_;unfold dV;rw[F,T];rfl) Q (λx _ M=>?_) (λx _ y I=>?_)
   ·cases x with
    |far k n=>cases k<;>first|cases M;done|kernel_rfl
    |bin k l r=>cases k<;>kernel_rfl
    |_=>kernel_rfl
   ·cases x with
    |far k n=>cases k<;>first|(cases I;done)|(cases I;exact⟨by kernel_rfl,rfl⟩)
    |_=>cases I
  have c2:∀ρ:Ev,ρ[1]?=some (.sh<|.lst P)->kA (λρ=>((dV 1) ρ).bind kd) 1 [] (gV 0) (b1 tB<|d2 nO (iW 0 0)<|dA jv<|aa (jc "on")<|aa (jc "until") iT) (iW 0 1) ρ=.ok ((t.parts.filterMap wz).map D.int):=λρ F=>by
   refine yh (f:=T7.d) (L:=t.parts) (k:=wz) (by show(dV 1 ρ).bind kd=_;unfold dV;rw[F,T];rfl) Q (λx _ M=>?_) (λx _ y I=>?_)
   ·cases x with
    |far k n=>cases k<;>first|cases M;done|kernel_rfl
    |bin k l r=>cases k<;>kernel_rfl
    |_=>kernel_rfl
   ·cases x with
    |far k n=>cases k<;>first|(cases I;done)|(cases I;exact⟨by kernel_rfl,rfl⟩)
    |_=>cases I
  have c3:∀ρ:Ev,ρ[1]?=some (.sh<|.lst P)->kA (λρ=>((dV 1) ρ).bind kd) 1 [] (gV 0) (b1 tB<|d2 jU (iW 0 0)<|jc "at") (iW 0 1) ρ=.ok ((t.parts.filterMap vC).map D.str):=λρ F=>by
   refine yh (f:=T7.d) (L:=t.parts) (k:=vC) (by show(dV 1 ρ).bind kd=_;unfold dV;rw[F,T];rfl) Q (λx _ M=>?_) (λx _ y I=>?_)
   ·cases x with
    |far k n=>cases k<;>kernel_rfl
    |bin k l r=>cases k<;>kernel_rfl
    |«at» w=>cases M
    |_=>kernel_rfl
   ·cases x with
    |«at» w=>cases I;exact⟨by kernel_rfl,rfl⟩
    |_=>cases I
  have n1:∀(c q j d z:Sl),lG 2 (jq<|λρ=>((jq<|kA (λρ=>((dV 1) ρ).bind kd) 1 [] (gV 0) (b1 tB<|d2 nO (iW 0 0)<|dA jv<|aa (jc "back")<|aa (jc "ago") iT)<|iW 0 1) ρ).bind nQ) [c,.sh<|.lst P,q,j,d,z]=.nx [c,.sh<|.lst P,.sh<|.lst<|B.map D.int,j,d,z]:=λc q j d z=>Ej (c1 _ rfl) eB (aq rfl);have n2:∀(c q j d z:Sl),lG 3 (jq<|λρ=>((jq<|kA (λρ=>((dV 1) ρ).bind kd) 1 [] (gV 0) (b1 tB<|d2 nO (iW 0 0)<|dA jv<|aa (jc "on")<|aa (jc "until") iT)<|iW 0 1) ρ).bind nQ) [c,.sh<|.lst P,q,j,d,z]=.nx [c,.sh<|.lst P,q,.sh<|.lst<|O.map D.int,d,z]:=λc q j d z=>Ej (c2 _ rfl) eO (aq rfl);have n3:∀(c q j d z:Sl),lG 4 (jq<|λρ=>((jq<|kA (λρ=>((dV 1) ρ).bind kd) 1 [] (gV 0) (b1 tB<|d2 jU (iW 0 0)<|jc "at")<|iW 0 1) ρ).bind nQ) [c,.sh<|.lst P,q,j,d,z]=.nx [c,.sh<|.lst P,q,j,.sh<|.lst<|W.map D.str,z]:=λc q j d z=>Ej (c3 _ rfl) eW (aq rfl)
  have e1:∀(c C j d:Sl) (X:List D),X.length<=10000->pR 5 (jq<|kA (λρ=>((dV 2) ρ).bind kd) 1 [] (gV 0) (λ_=>.ok true)<|dA jv<|aa (jc "back")<|aa (dV 0) iT) [c,C,.sh<|.lst<|B.map D.int,j,d,.ow X]=.nx [c,C,.sh<|.lst<|B.map D.int,j,d,.ow<|X++(B.map Ask.back).map Ask.d]:=λc C j d X Y=>Bu (i:=5) rfl (by rw[aX];exact uk (f:=D.int) (L:=B) rfl (by omega) λx _=>rfl) (by rw[ai,ai];omega)
  have e2:∀(c C q d:Sl) (X:List D),X.length<=10000->pR 5 (jq<|kA (λρ=>((dV 3) ρ).bind kd) 1 [] (gV 0) (λ_=>.ok true)<|dA jv<|aa (jc "on")<|aa (dV 0) iT) [c,C,q,.sh<|.lst<|O.map D.int,d,.ow X]=.nx [c,C,q,.sh<|.lst<|O.map D.int,d,.ow<|X++(O.map Ask.on).map Ask.d]:=λc C j d X Y=>Bu (i:=5) rfl (by rw[aX];exact uk (f:=D.int) (L:=O) rfl (by omega) λx _=>rfl) (by rw[ai,ai];omega)
  have e3:∀(c C q j:Sl) (X:List D),X.length<=10000->pR 5 (jq<|kA (λρ=>((dV 4) ρ).bind kd) 1 [] (gV 0) (λ_=>.ok true)<|dA jv<|aa (jc "at")<|aa (dV 0) iT) [c,C,q,j,.sh<|.lst<|W.map D.str,.ow X]=.nx [c,C,q,j,.sh<|.lst<|W.map D.str,.ow<|X++(W.map Ask.at).map Ask.d]:=λc C j d X Y=>Bu (i:=5) rfl (by rw[aX];exact uk (f:=D.str) (L:=W) rfl (by omega) λx _=>rfl) (by rw[ai,ai];omega)
  have h0:lG 1 (dA o<|aa (dV 0) iT) [.sh t.d,.no,.no,.no,.no,.no]=.nx [.sh t.d,.sh<|.lst P,.no,.no,.no,.no]:=by show toS (o [t.d]) _=_;rw[V];rfl
  have p:∀{g h:jQ} {ρ sk:Ev},g ρ=.nx sk->kn g h ρ=h sk:=λe=>by unfold kn;rw[e];rfl
  unfold yy;show jO (kn _ _ [.sh t.d,.no,.no,.no,.no,.no])=_;rw[p h0,p<|n1 _ _ _ _ _,p<|n2 _ _ _ _ _,p<|n3 _ _ _ _ _];have ho:tA 5 (λρ=>((aa (dA jv<|aa (jc "here") iT) iT) ρ).bind jy) [.sh t.d,.sh<|.lst P,.sh<|.lst<|B.map D.int,.sh<|.lst<|O.map D.int,.sh<|.lst<|W.map D.str,.no]=.nx [.sh t.d,.sh<|.lst P,.sh<|.lst<|B.map D.int,.sh<|.lst<|O.map D.int,.sh<|.lst<|W.map D.str,.ow [Ask.here.d]]:=rfl;rw[p ho,p<|e1 _ _ _ _ _<|by simp,p<|e2 _ _ _ _ _<|by simp only[ar,ai,aj,cV];omega,p<|e3 _ _ _ _ _<|by simp only[ar,ai,aj,cV];omega];show R.ok (D.lst _)=_
  congr 2
  simp
 ·have U:∀y:Ask,y∈t.asks↔∃u∈t.parts,Gs u=some y:=λy=>bz;rw[U];simp only[aE,aW,az,mB,mO,mW,bz];constructor
  ·rintro (h|⟨n,⟨u,G,e⟩,rfl⟩|⟨n,⟨u,G,e⟩,rfl⟩|⟨w,⟨u,G,e⟩,rfl⟩)
   ·exact .inl h
   ·refine .inr ⟨u,G,?_⟩;cases u with
    |far k m=>cases k<;>first|(cases e;done)|(cases e;rfl)
    |_=>cases e
   ·refine .inr ⟨u,G,?_⟩;cases u with
    |far k m=>cases k<;>first|(cases e;done)|(cases e;rfl)
    |_=>cases e
   ·refine .inr ⟨u,G,?_⟩;cases u with
    |«at» v=>cases e;rfl
    |_=>cases e
  ·rintro (h|⟨u,G,e⟩)
   ·exact .inl h
   ·cases u with
    |far k m=>
     cases k with
     |back=>cases e;exact .inr (.inl ⟨m,⟨_,G,rfl⟩,rfl⟩)
     |ago=>cases e;exact .inr (.inl ⟨m,⟨_,G,rfl⟩,rfl⟩)
     |on=>cases e;exact .inr (.inr<|.inl ⟨m,⟨_,G,rfl⟩,rfl⟩)
     |rX=>cases e;exact .inr (.inr<|.inl ⟨m,⟨_,G,rfl⟩,rfl⟩)
    |«at» w=>cases e;exact .inr (.inr<|.inr ⟨w,⟨_,G,rfl⟩,rfl⟩)
    |_=>cases e
variable{a:Ad}
variable{j p:jg}{S S1 C E:i6}{f g h:jr}{i:Nat}{z:Z}{c:jg->i6->RX Bool}{u v:jH}
def jI(e:u j S=.nx p S1):iY u v j S=v p S1:=by unfold iY;rw[e];rfl
def pZ(e:u j S=.rt z S1):iY u v j S=.rt z S1:=by unfold iY;rw[e];rfl
def j9(e:f j S=.ok z S1)(d:i<j.length):jk i f j S=.nx (j.set i<|some z) S1:=by unfold jk;rw[e];exact av d
def y_ret(e:f j S=.ok z S1):jG f j S=.rt z S1:=by unfold jG;rw[e];rfl
def mX(e:c j S=.ok true S1):jM c u v j S=u j S1:=by unfold jM;rw[e];rfl
def vc(e:c j S=.ok false S1):jM c u v j S=v j S1:=by unfold jM;rw[e];rfl
def lQ{w}(e:c j S=.ok false S1):iY (jM c u kf) w j S=w j S1:=jI (vc e)
def xl{w}(e:c j S=.ok true S1)(h:u j S1=.rt z C):iY (jM c u kf) w j S=.rt z C:=pZ ((mX e).trans h)
def kW(e:j[i]?=some (some z)):zV i j S=.ok z S:=by unfold zV;rw[e]
def i4{q:jw}{d}(e:q (kh j)=.ok d):zD q j S=.ok (.d d) S:=by unfold zD;rw[e];rfl
def mL{q:Ev->R Bool}{d}(e:q (kh j)=.ok d):zB q j S=.ok d S:=by unfold zB;rw[e];rfl
def vf{q:jw}{d}(e:q (vw S j)=.ok d)(h:oW d=true):zR q j S=.ok (.d d) S:=by unfold zR;rw[e];exact av h
def As{q:Ev->R Bool}{d}(e:q (vw S j)=.ok d):qg q j S=.ok d S:=by unfold qg;rw[e]
def jP:i7 j S=.ok [] S:=rfl
def i9{r:jg->i6->RX (List Z)}(e:f j S=.ok z S1)(d:r j S1=.ok zs C):iN f r j S=.ok (z::zs) C:=by unfold iN;rw[e];show((r j S1).bind _)=_;rw[d];rfl
def l8{q:jf}{r:jg->i6->RX (List Z)}(k:List D){d}(e:r j S=.ok (k.map .d) S1)(l:q k=.ok d):zF q r j S=.ok (.d d) S1:=by
 unfold zF;rw[e];show(match md (k.map Z.d)with
 |some k=>(lJ (q k) S1).bind λd S=>RX.ok (Z.d d) S
 |none=>.bad)=_
 rw[sI];show(lJ (q k) S1).bind _=_;rw[l];rfl
def k6{q:D->D->R D}{w}(l:f j S=.ok (.d x) S1)(k:g j S1=.ok (.d y) C)(d:q x y=.ok w):z2 q f g j S=.ok (.d w) C:=by unfold z2;rw[l];show((g j S1).bind _)=_;rw[k];show((lJ (q x y) C).bind _)=_;rw[d];rfl
def vg{q:D->R Bool}{k}(l:f j S=.ok (.d x) S1)(d:q x=.ok k):nD q f j S=.ok k S1:=by unfold nD;rw[l];show lJ (q x) S1=_;rw[d];rfl
def lC{F:jo}{r:jg->i6->RX (List Z)}(e:r j S=.ok zs S1)(d:F zs S1=x):zZ F r j S=x:=by unfold zZ;rw[e];exact d
def acv(d:c j S=.ok true S1):tM c e j S=e j S1:=by unfold tM;rw[d];rfl
def acw(d:c j S=.ok false S1):tM c e j S=.ok false S1:=by unfold tM;rw[d];rfl
def Av(e:f j S=.ok z S1):xo f j S=.ok (wg z) S1:=by unfold xo;rw[e];rfl
def My(e:f j S=.ok z S1):xp f j S=.ok (!wg z) S1:=by unfold xp;rw[e];rfl
def acz{n k}(h:f j S=.ok (.loc n) S)(d:g j S=.ok (.d<|.tup ds) S)(l:kS ds=some k)(m:S[n]?=some (.dt kvs))(hv:valZ kvs k=some z):r6 f g j S=.ok z S:=by
 unfold r6;rw[h];show((g j S).bind _)=_;rw[d]
 show(match kS ds,S[n]? with
  |some k,some (.dt kvs)=>(match valZ kvs k with
   |some z=>RX.ok z S
   |none=>.bad)
  |_,_=>.bad)=_
 rw[l,m]
 show(match valZ kvs k with
  |some z=>RX.ok z S
  |none=>.bad)=_
 rw[hv]
end
def Ask.k:Ask->List Key
 |.here=>[.inr "here"]
 |.back n=>[.inr "back",.inl n]
 |.on n=>[.inr "on",.inl n]
 |.at w=>[.inr "at",.inr w]
def Gu(x:Ask):∃c,x.d=.tup c/\kS c=some x.k:=by cases x<;>exact⟨_,rfl,rfl⟩
abbrev Env:=Ask->Int×Int×Int
def lo(t b:Int):Int×Int:=(FM.top t b,FM.bot t b)
abbrev oY(x:Int×Int):D:=pr x.1 x.2
def wv(e:Env):T7->Int×Int
 |.num p q=>lo p q
 |.here=>lo (e .here).2.1 (e .here).2.2
 |.at w=>lo (e<|.at w).2.1 (e<|.at w).2.2
 |.far .back n=>lo (e<|.back n).2.1 (e<|.back n).2.2
 |.far .on n=>lo (e<|.on n).2.1 (e<|.on n).2.2
 |.far .ago n=>lo ((e .here).1 - (e<|.back n).1) 1
 |.far .rX n=>lo ((e<|.on n).1 - (e .here).1) 1
 |.times p q t=>lo (p*(wv e t).1) (q*(wv e t).2)
 |.abs t=>lo ((wv e t).1.natAbs:Int) (wv e t).2
 |.bin .add l r=>lo ((wv e l).1*(wv e r).2+(wv e r).1*(wv e l).2) ((wv e l).2*(wv e r).2)
 |.bin .sub l r=>lo ((wv e l).1*(wv e r).2 - (wv e r).1*(wv e l).2) ((wv e l).2*(wv e r).2)
 |_=>(0,1)
def hv(e:Env):T7->Bool
 |.bin .lt l r=>decide ((wv e l).1*(wv e r).2<(wv e r).1*(wv e l).2)
 |.bin .eq l r=>decide (wv e l=wv e r)
 |.not t=>!hv e t
 |.bin .and l r=>hv e l&&hv e r
 |.bin .or l r=>hv e l||hv e r
 |_=>false
inductive Tw:Nat->T7->Prop
 |num {p q:Int}:q≠0->Sz 62 p->Sz 62 q->Tw 62 (.num p q)
 |«at» (w:Str):Tw 62 (.at w)
 |here:Tw 62 .here
 |far (k:Fq) (n:Int):Tw 62 (.far k n)
 |times {p q:Int} {s:Nat} {t:T7}:q≠0->Sz 62 p->Sz 62 q->Tw s t->s<=190->Tw (62+s) (.times p q t)
 |abs {s:Nat} {t:T7}:Tw s t->Tw s (.abs t)
 |add {s r:Nat} {t u:T7}:Tw s t->Tw r u->s<=190->r<=190->Tw (s+r+1) (.bin .add t u)
 |sub {s r:Nat} {t u:T7}:Tw s t->Tw r u->s<=190->r<=190->Tw (s+r+1) (.bin .sub t u)
inductive Cw:T7->Prop
 |lt {s r:Nat} {t u:T7}:Tw s t->Tw r u->s<=190->r<=190->Cw (.bin .lt t u)
 |eq {s r:Nat} {t u:T7}:Tw s t->Tw r u->s<=190->r<=190->Cw (.bin .eq t u)
 |not {t:T7}:Cw t->Cw (.not t)
 |and {t u:T7}:Cw t->Cw u->Cw (.bin .and t u)
 |or {t u:T7}:Cw t->Cw u->Cw (.bin .or t u)
structure tP(e:Env):Prop where
 t:∀x,Sz 61 (e x).1
 p:∀x,Sz 62 (e x).2.1
 q:∀x,Sz 62 (e x).2.2
 n:∀x,(e x).2.2≠0
def oS{s}{t b:Int}(c:b≠0)(d:Sz s t)(i:Sz r b):Sz s (lo t b).1/\Sz r (lo t b).2/\(lo t b).2≠0:=⟨d.top c,i.bot c,λh=>by have:=(FM.Ct (t:=t) c).pos;have j:FM.bot t b=0:=h;omega⟩
def wA:Sz 62 1:=by unfold Sz;decide
def rY(E:tP e){s t}(h:Tw s t):Sz s (wv e t).1/\Sz s (wv e t).2/\(wv e t).2≠0:=by
 induction h with
 |num m l j=>exact oS m l j
 |«at» w=>exact oS (E.n _) (E.p _) (E.q _)
 |here=>exact oS (E.n _) (E.p _) (E.q _)
 |far k n=>
  cases k with
  |back=>exact oS (E.n _) (E.p _) (E.q _)
  |on=>exact oS (E.n _) (E.p _) (E.q _)
  |ago=>exact oS (by decide) ((E.t _).sub (E.t _)) wA
  |rX=>exact oS (by decide) ((E.t _).sub (E.t _)) wA
 |times m l j _ _ i=>exact oS (c7 m i.2.2) (l.mul i.1) (j.mul i.2.1)
 |abs _ i=>exact oS i.2.2 (show Nat.lt _ _ by rw[Int.natAbs_natCast];exact i.1) i.2.1
 |add _ _ _ _ d c=>exact oS (c7 d.2.2 c.2.2) ((d.1.mul c.2.1).add ((c.1.mul d.2.1).mono (by omega))) ((d.2.1.mul c.2.1).mono (by omega))
 |sub _ _ _ _ d c=>exact oS (c7 d.2.2 c.2.2) ((d.1.mul c.2.1).sub ((c.1.mul d.2.1).mono (by omega))) ((d.2.1.mul c.2.1).mono (by omega))
structure Fd(S:i6)(n:Nat)(A:List Ask)(e:Env)(kvs:List<|List Key×Z):Prop where
 at':S[n]?=some (.dt kvs)
 val:∀x∈A,valZ kvs x.k=ba (.tup [.int (e x).1,pr (e x).2.1 (e x).2.2])
abbrev HF(Ff:jf):Prop:=∀t b:Int,b≠0->b.natAbs<10^400->Ff [.int t,.int b]=.ok (fr t b)
section
variable{S:i6}{n:Nat}{A:List Ask}{e:Env}{l:List<|List Key×Z}{c r v o B I:jf}{H E:jo}{C:jg}{i j:Nat}{x:Ask}
def Bx(F:Fd S n A e l)(k:x∈A)(m:C[i]?=some (iO n))(h:C[j]?=some (ba x.d)):r6 (zV i) (zD (dV j)) C S=.ok (.d (.tup [.int (e x).1,pr (e x).2.1 (e x).2.2])) S:=by obtain⟨t,q,p⟩:=Gu x;rw[q]at h;exact acz (kW m) (i4 (d:=.tup t) (by unfold dV kh;rw[aA,h];rfl)) p F.at' (F.val x k)
def TL(hf:HF c)(F:Fd S n A e l)(k:x∈A)(h:y∈A)(b):
    i8 (yD a c b (jx 3 [.d x.d,.d y.d,.loc n]) S)=.ok (.d<|fr ((e y).1 - (e x).1) 1) S:=by
 unfold yD;show i8 (jG _ [ba x.d,ba y.d,iO n] S)=_;rw[y_ret<|l8 [.int<|(e y).1 - (e x).1,.int 1] (i9 (k6 (k6 (Bx F h rfl rfl) (i4 (d:=.int 0) rfl) (w:=.int (e y).1) rfl) (k6 (Bx F k rfl rfl) (i4 (d:=.int 0) rfl) (w:=.int (e x).1) rfl) rfl)<|i9 (i4 (d:=.int 1) rfl) jP)<|hf _ 1 (by decide)<|by decide];rfl
def Le(x y):zB (b1 tB<|d2 jU (dV 2)<|jc y) (s0::s1::ba (.str x)::s3) S=.ok (decide<|x=y) S:=rfl
def kB{m k:Option Z}{d:jg}{x y:Str}{u w:jH}(h:decide (x=y)=false):iY (jM (zB<|b1 tB<|d2 jU (dV 2)<|jc y) u kf) w (m::k::ba (.str x)::d) S=w (m::k::ba (.str x)::d) S:=lQ (by rw[Le,h])
def pO{m k:Option Z}{d:jg}{x y:Str}{u w:jH}{z:Z}(h:decide (x=y)=true)(p:u (m::k::ba (.str x)::d) S=.rt z S):iY (jM (zB<|b1 tB<|d2 jU (dV 2)<|jc y) u kf) w (m::k::ba (.str x)::d) S=.rt z S:=xl (by rw[Le,h]) p
structure Ar(a:Ad)(c r v o B I:jf):Prop where
 f:HF c
 p:∀{p q x y:Int},Sz 190 p->Sz 190 q->Sz 190 x->Sz 190 y->q≠0->y≠0->r [pr p q,pr x y]=.ok (fr (p*y+x*q)<|q*y)
 m:∀{p q x y:Int},Sz 190 p->Sz 190 q->Sz 190 x->Sz 190 y->q≠0->y≠0->v [pr p q,pr x y]=.ok (fr (p*y - x*q)<|q*y)
 t:∀{p q x y:Int},Sz 190 p->Sz 190 q->Sz 190 x->Sz 190 y->q≠0->y≠0->o [pr p q,pr x y]=.ok (fr (p*x)<|q*y)
 a:∀{p q:Int},q≠0->Sz 390 q->B [pr p q]=.ok (fr (p.natAbs:Int) q)
 u:∀{p q x y:Int},Sz 190 p->Sz 190 q->Sz 190 x->Sz 190 y->I [pr p q,pr x y]=.ok (.bl<|decide<|p*y<x*q)
abbrev FZ(a:Ad)(c r v o B:jf)(H:jo):(jo)->jo:=λE zs S=>i8 (og a c r v o B H E S.length (jx 4 zs) S)
end
variable{a:Ad}
section
variable{S:i6}{n:Nat}{A:List Ask}{e:Env}{I:List<|List Key×Z}{i B C o H f:jf}{J c:jo}
def nh{x:Str}{rest:List D}{h z2:Option Z}{k:jg}{v:jH}:iY (jk 2<|zD<|iW 0 0) v (ba (.tup<|.str x::rest)::h::z2::k) S=v (ba (.tup<|.str x::rest)::h::ba (.str x)::k) S:=by refine jI (j9 (i4 (d:=.str x) ?_)<|by simp);show jS (.tup<|.str x::rest) (.int 0)=_;unfold jS;dsimp only;rw[show L2.jY (D.str x::rest) 0=some (.str x)from L2.ud (j:=0) rfl];try rfl
def Aj{q:Int}{s}(h:Sz s q)(d:s<=400):q.natAbs<10^400:=h.mono d
def Af(hf:HF i)(E:tP e)(F:Fd S n A e I)(l:x∈A)(b):i8 (og a i B C o H J c b (jx 4 [.d x.d,.loc n]) S)=.ok (.d<|fr (e x).2.1 (e x).2.2) S:=by
 have h:∀j:Str,(iY (jk 3<|z2 jS (r6 (zV 1)<|zD<|dV 0)<|zD<|iQ 1)<|jG<|zD<|dA i<|aa (iW 3 0)<|aa (iW 3 1) iT) [ba x.d,iO n,ba<|.str j,none] S=.rt (.d<|fr (e x).2.1 (e x).2.2) S:=λj=>by rw[jI<|j9 (k6 (Bx F l rfl rfl) (i4 (d:=.int 1) rfl) (w:=pr (e x).2.1 (e x).2.2) rfl)<|aq rfl];exact y_ret (i4<|hf _ _ (E.n x)<|Aj (E.q x)<|by decide)
 unfold og;cases x with
 |here=>show i8 (iY (jk 2 _) _ (ba (.tup<|.str "here"::[])::iO n::none::[none]) S)=_;rw[nh];simp(disch:=decide+kernel)only[kB];first|exact bG i8 (h _)|(rw[h];rfl)
 |back k=>show i8 (iY (jk 2 _) _ (ba (.tup<|.str "back"::[.int k])::iO n::none::[none]) S)=_;rw[nh];simp(disch:=decide+kernel)only[kB];first|exact bG i8 (h _)|(rw[h];rfl)
 |on k=>show i8 (iY (jk 2 _) _ (ba (.tup<|.str "on"::[.int k])::iO n::none::[none]) S)=_;rw[nh];simp(disch:=decide+kernel)only[kB];first|exact bG i8 (h _)|(rw[h];rfl)
 |«at» w=>show i8 (iY (jk 2 _) _ (ba (.tup<|.str "at"::[.str w])::iO n::none::[none]) S)=_;rw[nh];simp(disch:=decide+kernel)only[kB];first|exact bG i8 (h _)|(rw[h];rfl)
def Tw.le{s t}(h:Tw s t):s<=381:=by induction h<;>omega
def ub{k}{l:T7}(h:x∈l.asks):x∈(T7.bin k l r).asks:=by unfold T7.asks at*;obtain⟨u,d,q⟩:=bz.mp h;exact bz.mpr ⟨u,aZ _<|aW.mpr<|.inl d,q⟩
def uc{k}{r:T7}(h:x∈r.asks):x∈(T7.bin k l r).asks:=by unfold T7.asks at*;obtain⟨u,d,q⟩:=bz.mp h;exact bz.mpr ⟨u,aZ _<|aW.mpr<|.inr d,q⟩
def nE{F:jo}{t:T7}{d}{q:jw}(k:q (kh ρ)=.ok t.d)(j:ρ[1]?=some (iO n))(h:F [.d t.d,.loc n] S=.ok (.d d) S):zZ F (iN (zD q)<|iN (zV 1) i7) ρ S=.ok (.d d) S:=
 lC (i9 (i4 k)<|i9 (kW j) jP) h
def Uc(R:Ar a i B C o H f)(E:tP e)(F:Fd S n A e I)(hm:∀x y,x∈A->y∈A->J [.d x.d,.d y.d,.loc n] S=.ok (.d<|fr ((e y).1 - (e x).1) 1) S)(h0:Ask.here∈A):
    ∀m {s} {t},Tw s t->t.dep<m->(∀x∈t.asks,x∈A)->nM (FZ a i B C o H J) m [.d t.d,.loc n] S=.ok (.d<|oY<|wv e t) S:=by
 intro m;induction m with
 |zero=>intro s t _ h;omega
 |succ m O=>
  intro s t h U D;show i8 (og a i B C o H J (nM (FZ a i B C o H J) m) S.length (jx 4 [.d t.d,.loc n]) S)=_;cases h with
  |«at» w=>exact Af (x:=.at w) R.f E F (D _<|.head _) _
  |here=>exact Af (x:=.here) R.f E F h0 _
  |num h1 h2 Y=>rename_i p q;unfold og;show i8 (iY (jk 2 _) _ (ba (.tup<|.str "num"::[pr p q])::iO n::none::[none]) S)=_;rw[nh];rw[pO (by decide+kernel)<|y_ret<|i4<|R.f p q h1<|Aj Y<|by decide];rfl
  |far k j=>
   cases k with
   |back=>exact Af (x:=.back j) R.f E F (D _<|.head _) _
   |on=>exact Af (x:=.on j) R.f E F (D _<|.head _) _
   |ago=>unfold og;show i8 (iY (jk 2 _) _ (ba (.tup<|.str "ago"::[.int j])::iO n::none::[none]) S)=_;rw[nh];rw[kB<|by decide+kernel];rw[pO (by decide+kernel)<|y_ret<|lC (i9 (i4 (d:=(Ask.back j).d) rfl)<|i9 (i4 (d:=Ask.here.d) rfl)<|i9 (kW rfl) jP)<|hm (.back j) .here (D _<|.head _) h0];rfl
   |rX=>unfold og;show i8 (iY (jk 2 _) _ (ba (.tup<|.str "until"::[.int j])::iO n::none::[none]) S)=_;rw[nh];rw[kB<|by decide+kernel,kB<|by decide+kernel];rw[pO (by decide+kernel)<|y_ret<|lC (i9 (i4 (d:=Ask.here.d) rfl)<|i9 (i4 (d:=(Ask.on j).d) rfl)<|i9 (kW rfl) jP)<|hm .here (.on j) h0<|D _<|.head _];rfl
  |add v Q G T=>rename_i s r t u;have d':max t.dep u.dep+1<m+1:=U;have l:=rY E v;have L:=rY E Q;have M:=O v (by omega) λx z=>D x (ub z);have V:=O Q (by omega) λx z=>D x (uc z);unfold og;show i8 (iY (jk 2 _) _ (ba (.tup<|.str "+"::[t.d,u.d])::iO n::none::[none]) S)=_;rw[nh];rw[kB<|by decide+kernel,kB<|by decide+kernel,kB<|by decide+kernel];rw[pO (by decide+kernel)<|y_ret<|l8 [oY<|wv e t,oY<|wv e u] (i9 (nE (t:=t) rfl rfl M)<|i9 (nE (t:=u) rfl rfl V) jP)<|R.p (l.1.mono G) (l.2.1.mono G) (L.1.mono T) (L.2.1.mono T) l.2.2 L.2.2];rfl
  |sub v Q G T=>rename_i s r t u;have d':max t.dep u.dep+1<m+1:=U;have l:=rY E v;have L:=rY E Q;have M:=O v (by omega) λx z=>D x (ub z);have V:=O Q (by omega) λx z=>D x (uc z);unfold og;show i8 (iY (jk 2 _) _ (ba (.tup<|.str "-"::[t.d,u.d])::iO n::none::[none]) S)=_;rw[nh];rw[kB<|by decide+kernel,kB<|by decide+kernel,kB<|by decide+kernel,kB<|by decide+kernel];rw[pO (by decide+kernel)<|y_ret<|l8 [oY<|wv e t,oY<|wv e u] (i9 (nE (t:=t) rfl rfl M)<|i9 (nE (t:=u) rfl rfl V) jP)<|R.m (l.1.mono G) (l.2.1.mono G) (L.1.mono T) (L.2.1.mono T) l.2.2 L.2.2];rfl
  |times h1 h2 Y v G=>rename_i p q s t;have d':t.dep+1<m+1:=U;have l:=rY E v;have M:=O v (by omega) λx z=>D x z;unfold og;show i8 (iY (jk 2 _) _ (ba (.tup<|.str "times"::[pr p q,t.d])::iO n::none::[none]) S)=_;rw[nh];rw[kB<|by decide+kernel,kB<|by decide+kernel,kB<|by decide+kernel,kB<|by decide+kernel,kB<|by decide+kernel];rw[pO (by decide+kernel)<|y_ret<|l8 [pr p q,oY<|wv e t] (i9 (i4 (d:=pr p q) rfl)<|i9 (nE (t:=t) rfl rfl M) jP)<|R.t (h2.mono<|by decide) (Y.mono<|by decide) (l.1.mono G) (l.2.1.mono G) h1 l.2.2];rfl
  |abs v=>rename_i t;have d':t.dep+1<m+1:=U;have l:=rY E v;have M:=O v (by omega) λx z=>D x z;unfold og;show i8 (iY (jk 2 _) _ (ba (.tup<|.str "abs"::[t.d])::iO n::none::[none]) S)=_;rw[nh];rw[kB<|by decide+kernel,kB<|by decide+kernel,kB<|by decide+kernel,kB<|by decide+kernel,kB<|by decide+kernel,kB<|by decide+kernel];rw[pO (by decide+kernel)<|y_ret<|l8 [oY<|wv e t] (i9 (nE (t:=t) rfl rfl M) jP)<|R.a l.2.2<|l.2.1.mono<|aU v.le<|by decide];rfl
variable{a:Ad}
def Pr(x y:Int×Int):m8 (oY x) (oY y)=.ok (.bl<|decide<|x=y):=by
 by_cases h:x=y;·subst h;rw[eq_self rfl<|by show 1<=60;decide,aO rfl]
 ·rw[Pq rfl rfl (by show 1<=60;decide) (by show 1<=60;decide) λd=>h ?_,aI h];injection d with d;injection d with h1 h2;injection h1 with h1;injection h2 with h2 _;injection h2 with h2;exact Prod.ext h1 h2
abbrev sA(a:Ad)(f:jf)(c:jo):(jo)->jo:=λZh zs S=>i8 (vT a f c Zh S.length (jx 3 zs) S)
def Tu(R:Ar a i B C o H f)(E:tP e)(M)(D:∀{s} {t},Tw s t->t.dep<M->(∀x∈t.asks,x∈A)->c [.d t.d,.loc n] S=.ok (.d<|oY<|wv e t) S):
    ∀m {t},Cw t->t.dep<m->t.dep<M->(∀x∈t.asks,x∈A)->nM (sA a f c) m [.d t.d,.loc n] S=.ok (.d<|.bl<|hv e t) S:=by
 intro m;induction m with
 |zero=>intro t _ h;omega
 |succ m p=>
  intro t h Q v k;show i8 (vT a f c (nM (sA a f c) m) S.length (jx 3 [.d t.d,.loc n]) S)=_;unfold vT;cases h with
  |lt j l L G=>rename_i s r t u;have F:max t.dep u.dep+1<M:=v;have U:=rY E j;have T:=rY E l;show i8 (iY (jk 2 _) _ (ba (.tup<|.str "<"::[t.d,u.d])::iO n::none::[]) S)=_;rw[nh];rw[pO (by decide+kernel)<|y_ret<|l8 [oY<|wv e t,oY<|wv e u] (i9 (nE (t:=t) rfl rfl<|D j (by omega) λx d=>k x<|ub d)<|i9 (nE (t:=u) rfl rfl<|D l (by omega) λx d=>k x<|uc d) jP)<|R.u (U.1.mono L) (U.2.1.mono L) (T.1.mono G)<|T.2.1.mono G];rfl
  |eq j l L G=>rename_i s r t u;have F:max t.dep u.dep+1<M:=v;show i8 (iY (jk 2 _) _ (ba (.tup<|.str "="::[t.d,u.d])::iO n::none::[]) S)=_;rw[nh,kB<|by decide+kernel];rw[pO (by decide+kernel)<|y_ret<|k6 (nE (t:=t) rfl rfl<|D j (by omega) λx d=>k x<|ub d) (nE (t:=u) rfl rfl<|D l (by omega) λx d=>k x<|uc d)<|Pr (wv e t)<|wv e u];rfl
  |not j=>
   rename_i t;have F:t.dep+1<m+1:=Q;have y:t.dep+1<M:=v;have q:=p j (by omega) (by omega) λx d=>k x d;show i8 (iY (jk 2 _) _ (ba (.tup<|.str "not"::[t.d])::iO n::none::[]) S)=_;rw[nh,kB<|by decide+kernel,kB<|by decide+kernel];have z:An (zZ (nM (sA a f c) m)<|iN (zD<|iW 0 1)<|iN (zV 1) i7) (ba (.tup<|.str "not"::[t.d])::iO n::ba (.str "not")::[]) S=.ok (.d<|.bl<|!hv e t) S:=by unfold An;rw[nE (t:=t) rfl rfl q];rfl
   rw[pO (by decide+kernel)<|y_ret z];rfl
  |and j l=>
   rename_i t u;have F:max t.dep u.dep+1<m+1:=Q;have y:max t.dep u.dep+1<M:=v;have q:=p j (by omega) (by omega) λx d=>k x (ub d);have O:=p l (by omega) (by omega) λx d=>k x (uc d);show i8 (iY (jk 2 _) _ (ba (.tup<|.str "and"::[t.d,u.d])::iO n::none::[]) S)=_;rw[nh,kB<|by decide+kernel,kB<|by decide+kernel,kB<|by decide+kernel];have z:qa (zZ (nM (sA a f c) m)<|iN (zD<|iW 0 1)<|iN (zV 1) i7) (zZ (nM (sA a f c) m)<|iN (zD<|iW 0 2)<|iN (zV 1) i7) (ba (.tup<|.str "and"::[t.d,u.d])::iO n::ba (.str "and")::[]) S=.ok (.d<|.bl<|hv e t&&hv e u) S:=by
    unfold qa;rw[nE (t:=t) rfl rfl q];show(if hv e t=true then _ else _)=_;cases hv e t with
    |true=>rw[av rfl,nE (t:=u) rfl rfl O];rfl
    |false=>rw[aw ax];rfl
   rw[pO (by decide+kernel)<|y_ret z];rfl
  |or j l=>
   rename_i t u;have F:max t.dep u.dep+1<m+1:=Q;have y:max t.dep u.dep+1<M:=v;have q:=p j (by omega) (by omega) λx d=>k x (ub d);have O:=p l (by omega) (by omega) λx d=>k x (uc d);show i8 (iY (jk 2 _) _ (ba (.tup<|.str "or"::[t.d,u.d])::iO n::none::[]) S)=_;rw[nh,kB<|by decide+kernel,kB<|by decide+kernel,kB<|by decide+kernel,kB<|by decide+kernel];have z:Ao (zZ (nM (sA a f c) m)<|iN (zD<|iW 0 1)<|iN (zV 1) i7) (zZ (nM (sA a f c) m)<|iN (zD<|iW 0 2)<|iN (zV 1) i7) (ba (.tup<|.str "or"::[t.d,u.d])::iO n::ba (.str "or")::[]) S=.ok (.d<|.bl<|hv e t||hv e u) S:=by
    unfold Ao;rw[nE (t:=t) rfl rfl q];show(if hv e t=true then _ else _)=_;cases hv e t with
    |true=>rw[av rfl];rfl
    |false=>rw[aw ax,nE (t:=u) rfl rfl O];rfl
   rw[y_ret z];rfl
end
variable{a:Ad}
section
variable{c:Type}[DecidableEq c]{a:List<|c×Z}{k b:c}{v:Z}
def tL(x):valZ (x::a) k=if x.1=k then some x.2 else valZ a k:=by
 unfold valZ;by_cases h:x.1=k;·rw[List.find?_cons_of_pos<|by simpa using h,av h];rfl
 ·rw[List.find?_cons_of_neg<|by simpa using h,aw h]
def ach(x):valZ (a++[x]) k=(match valZ a k with|some z=>some z|none=>if x.1=k then some x.2 else none):=by
 induction a with
 |nil=>exact tL x
 |cons y r d=>
  rw[List.cons_append,tL,tL];by_cases h:y.1=k;·rw[av h,av h]
  ·rw[aw h,aw h,d]
def aci(h:(a.any λd=>decide<|d.1=k)=false):valZ a k=none:=by unfold valZ;rw[List.find?_eq_none.mpr λx i=>by simpa using cq.mp h x i];rfl
def Ae:valZ (kv a k v) b=if k=b then some v else valZ a b:=by
 unfold kv;cases h:a.any λj=>decide (j.1=k)with
 |false=>
  rw[aw ax,ach];by_cases e:k=b;·subst e;rw[aci h,av rfl];try rfl
  ·rw[aw e];cases valZ a b<;>simp[e]
 |true=>
  rw[av rfl];by_cases e:k=b
  ·subst e;rw[av rfl];induction a with
   |nil=>cases h
   |cons x r i=>
    rw[aT,tL];by_cases d:x.1=k;·rw[av d,av d]
    ·rw[aw d,aw d];rw[cZ,aI d,Bool.false_or]at h;exact i h
  ·rw[aw e];clear h;induction a with
   |nil=>rfl
   |cons x r i=>
    rw[aT,tL,tL,i];by_cases d:x.1=k;·rw[av d,aw<|show¬(x.1,v).1=b from λw=>e<|d.symm.trans w,aw λw=>e<|d.symm.trans w]
    ·rw[aw d]
def JF:(kv a k v).length<=a.length+1:=by
 unfold kv;split;·rw[ai];omega
 ·rw[ar];exact ah _
def BF{n}(h:((kv a k v).any λp=>mx n p.2)=true):(a.any λp=>mx n p.2)=true\/mx n v=true:=by
 obtain⟨x,d,q⟩:=dy.mp h;unfold kv at d;split at d
 ·obtain⟨y,i,rfl⟩:=az.mp d;by_cases e:y.1=k;·rw[av e]at q;exact .inr q
  ·rw[aw e]at q;exact .inl (dy.mpr ⟨y,i,q⟩)
 ·rcases aW.mp d with d|d;·exact .inl (dy.mpr ⟨x,d,q⟩)
  ·rw[aM]at d;subst d;exact .inr q
end
abbrev nX(S:i6)(j:Nat):Prop:=S.any (kN j)=false
def mM(S:i6):Prop:=∀j,S.length<=j->nX S j
def rj(h:nX S j)(d:kN j c=false):nX (S++[c]) j:=by show(S++[c]).any (kN j)=false;rw[hU,h];simpa using d
def ni{n}(h:nX S j)(i:kN j c=false):nX (S.set n c) j:=
 cq.mpr λx d=>by
  rcases List.mem_or_eq_of_mem_set d with d|d;·exact cq.mp h x d
  ·subst d;rw[i];exact ax
def my(L:List D)(j):kN j (.li<|L.map Z.d)=false:=by show(L.map Z.d).any (mx j)=false;rw[iJ];exact cq.mpr λ_ _=>nofun
structure Gr(S S':i6):Prop where
 len:S.length<=S'.length
 pre:∀j,j<S.length->S'[j]?=S[j]?
 sf:∀j,j<S.length->nX S j->nX S' j
 bnd:mM S->mM S'
def Gr.trans(g:Gr S S1)(h:Gr S1 S2):Gr S S2:=⟨aU g.len h.len,λj c=>(h.pre j<|aH c g.len).trans (g.pre j c),λj c s=>h.sf j (aH c g.len)<|g.sf j c s,λb=>h.bnd<|g.bnd b⟩
def Gr.app(i:∀j,kN j c=false):Gr S (S++[c]):=⟨by rw[ar];exact cA ..,λj d=>ay d,λj _ h=>rj h<|i j,λb j d=>rj (b j<|by rw[ar]at d;omega)<|i j⟩
def Gr.get{S S':i6}{n:Nat}{c:Cell}(g:Gr S S')(h:S[n]?=some c):S'[n]?=some c:=(g.pre n (aB.mp h).1).trans h
def qG{n}(h:n<100000):n<sizeLine:=aH h (by decide)
def oO(S:i6)(c:Cell):(S++[c])[S.length]?=some c:=by simp
def mz{S:i6}{n:Nat}{c:Cell}(h:S[n]?=some c):n<S.length:=(aB.mp h).1
section
variable{a:jg}{S b c e:i6}{f g h:jr}{i n:Nat}{z:Z}{q:jw}
def Au{fs}(h:f a S=.ok (.loc n) S)(j:S[n]?=some (.ob C fs))(d:fs.lookup x=some z):qb C f x a S=.ok z S:=by
 unfold qb;rw[h]
 show(match S[n]? with
  |some (.ob k fs)=>if k=C then(match fs.lookup x with
   |some z=>RX.ok z S
   |none=>.bad)else .bad
  |_=>.bad)=_
 rw[j];show(if C=C then _ else _)=_;rw[av rfl,d]
def Mz{fs:jg->i6->RX (List Z)}{ds:List D}{k}(h:fs a S=.ok (ds.map Z.d) S)(j:kS ds=some k)(l:k.length<1000):ve fs a S=.ok (.tk k) S:=by
 unfold ve;rw[h]
 show(match(md (ds.map Z.d)).bind kS with
  |some d=>if d.length<=sizeLine then RX.ok (Z.tk d) S else .bad
  |none=>.bad)=_
 rw[sI]
 show(match kS ds with
  |some d=>if d.length<=sizeLine then RX.ok (Z.tk d) S else .bad
  |none=>.bad)=_
 rw[j];exact av (cO<|qG<|by omega)
def acx{d k}(h:f a S=.ok (.d d) S)(l:rP d=some k):Ak f a S=.ok (.tk k) S:=by
 unfold Ak;rw[h]
 show(match rP d with
  |some j=>RX.ok (Z.tk j) S
  |none=>.bad)=_
 rw[l]
def acy{k}(h:f a S=.ok (.loc n) S)(d:S[n]?=some (.dt kvs))(j:g a S=.ok (.tk k) S):Al f g a S=.ok ((valZ kvs k).getD (.d .non)) S:=by
 unfold Al;rw[h]
 show(match S[n]? with
  |some (.dt _)=>(g a S).bind λy c=>(match y,c[n]? with
   |.tk k,some (.dt kvs)=>RX.ok ((valZ kvs k).getD (.d .non)) c
   |_,_=>.bad)
  |_=>.bad)=_
 rw[d];show((g a S).bind _)=_;rw[j]
 show(match Z.tk k,S[n]? with
  |.tk k,some (.dt kvs)=>RX.ok ((valZ kvs k).getD (.d .non)) S
  |_,_=>.bad)=_
 rw[d]
def acB{d k}(h:f a S=.ok (.loc n) S)(j:q (kh a)=.ok d)(l:oQ d=some k)(m:S[n]?=some (.dk kvs))(hv:valZ kvs k=some z):xn f q a S=.ok z S:=by
 unfold xn;rw[h];show((lJ (q<|kh a) S).bind _)=_;rw[j]
 show(match Z.loc n,oQ d with
  |.loc n,some k=>(match S[n]? with
   |some (.dk kvs)=>(match valZ kvs k with
    |some z=>RX.ok z S
    |none=>.bad)
   |_=>.bad)
  |_,_=>.bad)=_
 rw[l]
 show(match S[n]? with
  |some (.dk kvs)=>(match valZ kvs k with
   |some z=>RX.ok z S
   |none=>.bad)
  |_=>.bad)=_
 rw[m]
 show(match valZ kvs k with
      |some z=>RX.ok z S
      |none=>.bad)=_
 rw[hv]
def Mw{k}(l:h a S=.ok z S)(hf:f a S=.ok (.loc n) S)(j:g a S=.ok (.tk k) S)(m:S[n]?=some (.dt kvs))(d:kvs.length<100000):u2 f g h a S=.nx a (S.set n<|.dt<|kv kvs k z):=by
 unfold u2;rw[l];show toZ (f a S) _=_;rw[hf];show toZ (g a S) _=_;rw[j]
 show(match S[n]? with
  |some (.dt kvs)=>if kvs.length<sizeLine then lH.nx a (S.set n<|.dt<|kv kvs k z)else .bad
  |_=>.bad)=_
 rw[m];exact av (qG d)
def vb(j:a[i]?=some (iO n))(l:S[n]?=some (.li zs))(hf:f a S=.ok z b)(k:b[n]?=some (.li MG))(d:MG.length<100000):oz i f a S=.nx a (b.set n<|.li<|MG++[z]):=by
 unfold oz;rw[j]
 show(match S[n]? with
  |some (.li _)=>toZ (f a S) λz b=>(match b[n]? with
   |some (.li zs)=>if zs.length<sizeLine then lH.nx a (b.set n<|.li<|zs++[z])else .bad
   |_=>.bad)
  |_=>.bad)=_
 rw[l];show toZ (f a S) _=_;rw[hf]
 show(match b[n]? with
  |some (.li zs)=>if zs.length<sizeLine then lH.nx a (b.set n<|.li<|zs++[z])else .bad
  |_=>.bad)=_
 rw[k];exact av (qG d)
def xj{L:List D}(k:S[n]?=some (.li<|L.map Z.d)):nR S (iO n)=.sh (.lst L):=by
 show(match S[n]? with
  |some (.li j)=>(match md j with
   |some d=>Sl.sh (.lst d)
   |none=>.no)
  |_=>.no)=_
 rw[k]
 show(match md (L.map Z.d)with
  |some d=>Sl.sh (.lst d)
  |none=>.no)=_
 rw[sI]
end
variable{a:Ad}
structure Rd where
 m:Str
 t:Int
 p:Int
 q:Int
def Rd.d(r:Rd):D:=.tup [.str r.m,.int r.t,pr r.p r.q]
def own(c:List Rd)(m:Str):List Rd:=c.filter λr=>decide (r.m=m)
def zE:List Rd->Str->Int->Option Nat
 |[],_,_=>none
 |r::l,m,t=>if r.m=m/\r.t=t then some (own l m).length else zE l m t
def place(c:List Rd)(m:Str)(t:Int):Option Nat:=zE c.reverse m t
def Ku(l:List Rd)(m):(own l.reverse m).length=(own l m).length:=by unfold own;rw[List.filter_reverse,List.length_reverse]
def zz(row r m):own (row++[r]) m=own row m++(if r.m=m then[r]else[]):=by
 unfold own;rw[List.filter_append];by_cases h:r.m=m;·rw[av h,cB<|by simpa using h];rfl
 ·rw[aw h,cC<|by simpa using h];rfl
def WT(row r m)(t:Int):place (row++[r]) m t=if r.m=m/\r.t=t then some (own row m).length else place row m t:=by unfold place;rw[List.reverse_append];show(if r.m=m/\r.t=t then some (own row.reverse m).length else zE row.reverse m t)=_;rw[Ku]
def WU{t:Int}(h:place row m t=some i):∃r,(own row m)[i]?=some r/\r.t=t/\r.m=m:=by
 unfold place at h;rw[<-List.reverse_reverse row];generalize row.reverse=l at h;induction l with
 |nil=>cases h
 |cons r l j=>
  rw[List.reverse_cons,zz];unfold zE at h;split at h
  ·rename_i w;cases h;refine⟨r,?_,w.2,w.1⟩;rw[av w.1,<-Ku];simp
  ·obtain⟨d,c,k⟩:=j h;exact⟨d,by rw[ay (aB.mp c).1];exact c,k⟩
def Ask.uJ(r:Rd):Ask->Str
 |.at w=>w
 |_=>r.m
def Ask.to(i:Int):Ask->Int
 |.back n=>i - n
 |.on n=>i+n
 |_=>i
def see(c:List Rd)(r:Rd)(k:Ask):Option Rd:=match place c (k.uJ r) r.t with
 |none=>none
 |some i=>if 0<=k.to i/\k.to i<(own c<|k.uJ r).length then(own c<|k.uJ r)[(k.to i).toNat]? else none
def wV:Option Rd->D
 |none=>.non
 |some r=>r.d
def LG{s k}(h:see row r k=some s):s∈row:=by
 unfold see at h;split at h;·cases h
 ·split at h;·exact(bT.mp<|bf h).1
  ·cases h
abbrev pk(m:Str)(t:Int):List Key:=[.inr m,.inl t]
structure Sg(a:Ad)(S:i6)(n hi nm np:Nat)(M:List<|Key×Z)(P:List<|List Key×Z)(lc:Str->Option Nat)(row:List Rd):Prop where
 b1:n<nm
 b2:nm<hi
 b3:n<np
 b4:np<hi
 b5:nm≠np
 ob:S[n]?=some (.ob a.Sight [("masts",.loc nm),("places",.loc np)])
 mc:S[nm]?=some (.dk M)
 pc:S[np]?=some (.dt P)
 vp:∀m t,valZ P (pk m t)=(place row m t).map λi=>Z.d (.int i)
 vm:∀m:Str,valZ M (.inr m)=(lc m).map Z.loc
 no:∀m,lc m=none->own row m=[]
 li:∀m q,lc m=some q->n<q/\q<hi/\q≠nm/\q≠np/\S[q]?=some (.li<|(own row m).map λr=>Z.d r.d)
 ij:∀m m' q,lc m=some q->lc m'=some q->m=m'
 hm:∀j,kN j (.dk M)=true->n<j/\j<hi
 hp:∀j,kN j (.dt P)=false
section
variable{S v:i6}{n p l f:Nat}{M:List<|Key×Z}{P:List<|List Key×Z}{o:Str->Option Nat}{c:List Rd}
def Sg.mv(g:Sg a S n p l f M P o c)(h:∀j,n<=j->j<p->v[j]?=S[j]?):Sg a v n p l f M P o c:=
 {g with
  ob:=by have:=g.b1;have:=g.b2;rw[h n (ah _)<|by omega];exact g.ob
  mc:=by have:=g.b1;rw[h l (by omega) g.b2];exact g.mc
  pc:=by have:=g.b3;rw[h f (by omega) g.b4];exact g.pc
  li:=λm q e=>by obtain⟨t,d,r,k,i⟩:=g.li m q e;exact⟨t,d,r,k,by rw[h q (by omega) d];exact i⟩}
def Ask.RH:Ask->Bool
 |.back _=>true
 |_=>false
def Ask.tj:Ask->Bool
 |.on _=>true
 |_=>false
def zL(x:Ask):zB (b1 tB<|d2 jU (iW 2 0)<|jc "back") (s0::s1::ba x.d::s3) S=.ok x.RH S:=by cases x<;>kernel_rfl
def zN(x:Ask):zB (b1 tB<|d2 jU (iW 2 0)<|jc "on") (s0::s1::ba x.d::s3) S=.ok x.tj S:=by cases x<;>kernel_rfl
def Yy(r:Rd)(x:Ask):zD (uj (b1 tB<|d2 jU (iW 2 0)<|jc "at") (iW 2 1)<|iW 1 0) (s0::ba r.d::ba x.d::s3) S=.ok (.d<|.str<|x.uJ r) S:=by cases x<;>kernel_rfl
def TN(g:Sg a S n p l f M P o c)(r:Rd)(x:Ask)(b):
    i8 (yx a b (jx 6 [.loc n,.d r.d,.d x.d]) S)=.ok (.d<|wV<|see c r x) S:=by
 unfold yx;show i8 (iY (jk 3 _) _ [iO n,ba r.d,ba x.d,none,none,none] S)=_;rw[jI<|j9 (Yy r x)<|aq rfl];show i8 (iY (jk 4 _) _ [iO n,ba r.d,ba x.d,ba<|.str<|x.uJ r,none,none] S)=_;generalize U:x.uJ r=m;rw[jI<|j9 (acy (Au (kW rfl) g.ob rfl) g.pc<|Mz (ds:=[.str m,.int r.t]) (i9 (i4 rfl)<|i9 (i4 rfl) jP) rfl (by decide:2<1000))<|aq rfl];rw[g.vp];unfold see;rw[U];cases G:place c m r.t with
 |none=>show i8 (iY _ _ [iO n,ba r.d,ba x.d,ba<|.str m,ba .non,none] S)=_;rw[xl (Av<|kW (z:=.d .non) rfl)<|y_ret<|i4 (d:=.non) rfl];rfl
 |some i=>
  show i8 (iY _ _ [iO n,ba r.d,ba x.d,ba<|.str m,iX i,none] S)=_;rw[lQ<|Av<|kW (z:=.d<|.int i) rfl];obtain⟨V,O,e2,Y⟩:=WU G;have I:o m≠none:=λw=>by rw[g.no m w]at O;cases O
  obtain⟨q,L⟩:=Option.ne_none_iff_exists'.mp I;obtain⟨_,_,_,_,J⟩:=g.li m q L;have u:S[q]?=some (.li<|((own c m).map Rd.d).map Z.d):=by rw[aX];exact J
  have T:valZ M (.inr m)=iO q:=by rw[g.vm,L];rfl
  generalize C:x.to (i:Int)=j
  have h:(iY (jk 5 (xn (qb a.Sight (zV 0) "masts") (dV 3)))
   (jG (zR (uj (b1 tB (Be za m9 (iQ 0) (dV 4) (dA lL (aa (dV 5) iT)))) (d2 jS (dV 5) (dV 4)) (dC .non))))) [iO n,ba r.d,ba x.d,ba (.str m),iX j,none] S
   =.rt (.d<|wV<|if 0<=j/\j<(own c m).length then(own c m)[j.toNat]? else none) S:=by
   rw[jI<|j9 (acB (Au (kW rfl) g.ob rfl) (d:=.str m) rfl rfl g.mc T)<|aq rfl];show jG _ [iO n,ba r.d,ba x.d,ba<|.str m,iX j,iO q] S=_;have hv:vw S [iO n,ba r.d,ba x.d,ba<|.str m,iX j,iO q]=[nR S<|iO n,.sh r.d,.sh x.d,.sh<|.str m,.sh<|.int j,.sh<|.lst<|(own c m).map Rd.d]:=by show[nR S<|iO n,Sl.sh r.d,.sh x.d,.sh<|.str m,.sh<|.int j,nR S<|iO q]=_;rw[xj u]
   refine y_ret (vf (d:=wV<|if 0<=j/\j<(own c m).length then(own c m)[j.toNat]? else none) ?_ ?_)
   ·rw[hv]
    show((((R.ok (D.bl (decide (0<=j)))).bind λz=>match z with
     |.bl true=>(R.ok<|D.int ((own c m).map Rd.d).length).bind λw=>m9 (.int j) w
     |.bl false=>.ok (.bl false)
     |_=>.bad).bind tB).bind λk=>if k=true then jS (.lst ((own c m).map Rd.d)) (.int j)else R.ok .non)=_
    rw[ai];by_cases y:0<=j
    ·rw[aO y];show(if decide (j<((own c m).length:Int))=true then jS (.lst<|(own c m).map Rd.d) (.int j)else R.ok .non)=_;by_cases F:j<((own c m).length:Int)
     ·rw[av<|aO F,av ⟨y,F⟩];have t:j.toNat<(own c m).length:=by omega
      have e:((own c m).map Rd.d)[j.toNat]?=some ((own c m)[j.toNat]).d:=by rw[aA,ao t];rfl
      have Q:=L2.ud e;rw[Int.toNat_of_nonneg y]at Q
      show(match L2.jY ((own c m).map Rd.d) j with
       |some d=>R.ok d
       |none=>.bad)=_
      rw[Q,ao t];rfl
     ·rw[aw<|by simpa using F,aw λw=>F w.2];rfl
    ·rw[aI y,aw λw=>y w.1];rfl
   ·split;·cases(own c m)[j.toNat]?<;>rfl
    ·rfl
  cases x with
  |here=>rw[lQ<|zL (x:=.here),lQ<|zN (x:=.here)];subst C;rw[show(Ask.here).to (i:Int)=(i:Int)from rfl]at h;exact bG i8 h
  |«at» w=>rw[lQ<|zL (x:=.at w),lQ<|zN (x:=.at w)];subst C;exact bG i8 h
  |back k=>rw[jI<|(mX<|zL (x:=.back k)).trans (show u1 4 x9 (zD<|iW 2 1) [iO n,ba r.d,ba (Ask.back k).d,ba<|.str m,iX i,none] S=.nx [iO n,ba r.d,ba (Ask.back k).d,ba<|.str m,iX<|i - k,none] S from rfl),lQ<|zN (x:=.back k)];subst C;exact bG i8 h
  |on k=>rw[lQ<|zL (x:=.on k),jI<|(mX<|zN (x:=.on k)).trans (show u1 4 x8 (zD<|iW 2 1) [iO n,ba r.d,ba (Ask.on k).d,ba<|.str m,iX i,none] S=.nx [iO n,ba r.d,ba (Ask.on k).d,ba<|.str m,iX<|i+k,none] S from rfl)];subst C;exact bG i8 h
end
variable{a:Ad}
def y9{x y:Ask}(h:x.k=y.k):x=y:=by cases x<;>cases y<;>simp[Ask.k]at h<;>first|rfl|(subst h;rfl)|(exact absurd h (by decide+kernel))|(exact absurd h.1 (by decide+kernel))|(obtain⟨c,d⟩:=h;exact absurd c (by decide+kernel))
abbrev encP(p:Ask×Rd):List Key×Z:=(p.1.k,Z.d p.2.d)
structure Seen(row:List Rd)(r:Rd)(A:List Ask)(B:List<|Ask×Rd):Prop where
 mem:∀p,p∈B↔p.1∈A/\see row r p.1=some p.2
 len:B.length<=A.length
def aaO{c:List Rd}{r:Rd}{B:List<|Ask×Rd}(h:∀p∈B,see c r p.1=some p.2){k:Ask}{s:Rd}(d:(k,s)∈B):valZ (B.map encP) k.k=ba s.d:=by
 induction B with
 |nil=>cases d
 |cons p B j=>
  rw[aT,tL];by_cases e:p.1=k
  ·have i:=h p (.head _);have m:=h (k,s) d;rw[e]at i;have:some p.2=some s:=i.symm.trans m;rw[av<|show p.1.k=k.k by rw[e]];show some (Z.d p.2.d)=_;rw[Option.some.inj this]
  ·rw[aw λw=>e (y9 w)];exact j (λp l=>h p (.tail _ l)) (by
    rcases aE.mp d with w|w;· exact absurd (by rw[<-w]) e
    · exact w)
def aaN{c:List Rd}{r:Rd}{B:List<|Ask×Rd}(h:∀p∈B,see c r p.1=some p.2){k:Ask}{s:Rd}(l:see c r k=some s):∃j:List (Ask×Rd),kv (B.map encP) k.k (.d s.d)=j.map encP/\(∀p,p∈j↔p∈B\/p=(k,s))/\j.length<=B.length+1:=by
 unfold kv;cases q:(B.map encP).any λo=>decide (o.1=k.k)with
 |false=>rw[aw ax];exact⟨B++[(k,s)],by rw[bq];rfl,λp=>by simp,by simp⟩
 |true=>
  rw[av rfl];obtain⟨y,t,e⟩:=dy.mp q;obtain⟨p,m,rfl⟩:=az.mp t;have n:p.1=k:=y9 (cb e);have i:p=(k,s):=by have d:=h p m;rw[n,l]at d;exact Prod.ext n (Option.some.inj d).symm
  refine⟨B,?_,λx=>⟨.inl,λw=>w.elim id λw=>by rw[w,<-i];exact m⟩,cP _⟩;rw[aX];refine cm λx u=>?_;show(if(encP x).1=k.k then((encP x).1,Z.d s.d)else encP x)=encP x;by_cases w:(encP x).1=k.k
  ·rw[av w];have ex:x.1=k:=y9 w;have d:=h x u;rw[ex,l]at d;show(x.1.k,Z.d s.d)=(x.1.k,Z.d x.2.d);rw[Option.some.inj d]
  ·rw[aw w]
def Jq(x:Ask):rP x.d=some x.k:=by cases x<;>rfl
def Sj(x:Ask):D.tup (x.k.map kD)=x.d:=by cases x<;>rfl
def Pa{c:Type}(B:List c)(f:c->List Key×D)(j):kN j (.dt<|B.map λp=>((f p).1,Z.d (f p).2))=false:=by show(B.map λp=>((f p).1,Z.d (f p).2)).any (λp=>mx j p.2)=false;rw[iJ];exact cq.mpr λ_ _=>nofun
def HM(B:List<|Ask×Rd)(j):kN j (.dt<|B.map encP)=false:=Pa B (λp=>(p.1.k,p.2.d)) j
section
variable{S o:i6}{n v E y:Nat}{M:List<|Key×Z}{P:List<|List Key×Z}{H:Str->Option Nat}{l:List Rd}{m:jo}
def E4{F:jo}{f:jr}{c:jg->i6->RX (List Z)}{fs}(h:f ρ S=.ok (.loc n) S)(p:S[n]?=some (.ob C fs))(k:fs.lookup mn=none)(i:c ρ S=.ok zs o)(j:F (.loc n::(zs++[])) o=x):xu C mn F [] f c ρ S=x:=by
 unfold xu;rw[h]
 show(match S[n]? with
  |some (.ob r d)=>if r=C/\d.lookup mn=none then(c ρ S).bind λzs q=>F (.loc n::(zs++[].map Z.d)) q else .bad
  |_=>.bad)=_
 rw[p];show(if C=C/\fs.lookup mn=none then _ else _)=_;rw[av ⟨rfl,k⟩,i];exact j
def uW(S:i6)(c d:Cell):(S++[c]).set S.length d=S++[d]:=by rw[fD _ _<|ah _,d5];rfl
def aaM(ho:∀o,Sg a o n v E y M P H l->∀r k,m [.loc n,.d r.d,.d k.d] o=.ok (.d<|wV<|see l r k) o)(g:Sg a S n v E y M P H l)(hl:v<=S.length)(r:Rd)(A:D):∀(c:List Ask) (B:List<|Ask×Rd) (x q:Option Z),(∀p∈B,see l r p.1=some p.2)->B.length+c.length<=10000->
    (∃k∈c,see l r k=none)/\(∃i:List<|Ask×Rd,kY (hV 4) (qt a m) (c.map Ask.d) [iO n,ba r.d,ba A,iO S.length,x,q] (S++[.dt<|B.map encP])=.rt (.d .non) (S++[.dt<|i.map encP]))
    \/(∀k∈c,∃s,see l r k=some s)/\∃(i:List<|Ask×Rd) (G F:Option Z),(∀p,p∈i↔p∈B\/(p.1∈c/\see l r p.1=some p.2))/\i.length<=B.length+c.length/\kY (hV 4) (qt a m) (c.map Ask.d) [iO n,ba r.d,ba A,iO S.length,x,q] (S++[.dt<|B.map encP])=.nx [iO n,ba r.d,ba A,iO S.length,G,F] (S++[.dt<|i.map encP]):=by
 intro c;induction c with
 |nil=>intro B x q _ _;exact .inr ⟨(λ_ h=>nomatch h),B,x,q,λp=>⟨.inl,λw=>w.elim id<|λw=>nomatch w.1⟩,ah _,rfl⟩
 |cons k c ih=>
  intro B x q T hz;rw[aj]at hz;have V:Sg a (S++[.dt<|B.map encP]) n v E y M P H l:=g.mv λj _ hj=>ay (by omega)
  have step:qt a m [iO n,ba r.d,ba A,iO S.length,ba k.d,q] (S++[.dt (B.map encP)])=(match see l r k with
   |none=>.rt (.d .non) (S++[.dt<|B.map encP])
   |some s=>.nx [iO n,ba r.d,ba A,iO S.length,ba k.d,ba s.d] (S++[.dt (kv (B.map encP) k.k (.d s.d))])):=by
   unfold qt;rw[jI<|j9 (E4 (kW rfl) V.ob (by kernel_rfl) (i9 (i4 (d:=r.d) rfl)<|i9 (i4 (d:=k.d) rfl) jP)<|ho _ V r k)<|aq rfl];cases see l r k with
   |none=>show iY _ _ [iO n,ba r.d,ba A,iO S.length,ba k.d,ba .non] _=_;rw[xl (Av<|kW (z:=.d .non) rfl)<|y_ret<|i4 (d:=.non) rfl]
   |some s=>show iY _ _ [iO n,ba r.d,ba A,iO S.length,ba k.d,ba s.d] _=_;rw[lQ<|Av<|kW (z:=.d s.d) rfl];rw[Mw (i4 (d:=s.d) rfl) (kW rfl) (acx (i4 (d:=k.d) rfl)<|Jq k) (oO S _)<|by rw[ai];omega,uW]
  show(∃C∈k::c,see l r C=none)/\(∃i,pY (qt a m [iO n,ba r.d,ba A,iO S.length,ba k.d,q]<|S++[.dt<|B.map encP]) _=_)\/(_/\∃i G F,_/\_/\pY (qt a m [iO n,ba r.d,ba A,iO S.length,ba k.d,q]<|S++[.dt<|B.map encP]) _=_);cases t:see l r k with
  |none=>rw[t]at step;rw[show qt a m _ _=_ from step];exact .inl ⟨⟨k,.head _,t⟩,B,rfl⟩
  |some s=>
   rw[t]at step;rw[show qt a m _ _=lH.nx _ _ from step];obtain⟨i,e1,Y,e3⟩:=aaN T t;rw[e1];have L:∀p∈i,see l r p.1=some p.2:=λp hp=>by
    rcases(Y p).mp hp with w|w;·exact T p w
    ·rw[w];exact t
   rcases ih i (ba k.d) (ba s.d) L (by omega)with⟨⟨C,Q,O⟩,R,U⟩|⟨Q,R,G,F,O,U,h4⟩;·exact .inl ⟨⟨C,.tail _ Q,O⟩,R,U⟩
   ·refine .inr ⟨λC J=>?_,R,G,F,λp=>?_,by rw[aj];omega,h4⟩
    ·rcases aE.mp J with rfl|J;·exact⟨s,t⟩
     ·exact Q C J
    ·rw[O p,Y p];constructor
     ·rintro ((w|w)|⟨I,u⟩)
      ·exact .inl w
      ·rw[w];exact .inr ⟨.head _,t⟩
      ·exact .inr ⟨.tail _ I,u⟩
     ·rintro (w|⟨I,u⟩)
      ·exact .inl (.inl w)
      ·rcases aE.mp I with w3|w3
       ·rw[w3,t]at u;exact .inl (.inr<|Prod.ext w3 (Option.some.inj u).symm)
       ·exact .inr ⟨w3,u⟩
def TY(i:∀o,Sg a o n v E y M P H l->∀r k,m [.loc n,.d r.d,.d k.d] o=.ok (.d<|wV<|see l r k) o)(g:Sg a S n v E y M P H l)(j:v<=S.length)(r:Rd)(A:List Ask)(q:A.length<=10000)(b:Nat):
    (∃k∈A,see l r k=none)/\(∃B:List<|Ask×Rd,i8 (vQ a m b (jx 6 [.loc n,.d r.d,.d<|.lst<|A.map Ask.d]) S)=.ok (.d .non) (S++[.dt<|B.map encP]))
    \/(∀k∈A,∃s,see l r k=some s)/\∃B:List (Ask×Rd),Seen l r A B/\i8 (vQ a m b (jx 6 [.loc n,.d r.d,.d<|.lst<|A.map Ask.d]) S)=.ok (.loc S.length) (S++[.dt<|B.map encP]):=by
 have x:vQ a m b (jx 6 [.loc n,.d r.d,.d<|.lst<|A.map Ask.d]) S=iY (λρ S=>kY (hV 4) (qt a m) (A.map Ask.d) ρ S) (jG<|zV 3) [iO n,ba r.d,iV<|A.map Ask.d,iO S.length,none,none] (S++[.dt<|([]:List<|Ask×Rd).map encP]):=rfl;rw[x];rcases aaM i g j r (.lst (A.map Ask.d)) A [] none none (λ_ h=>nomatch h) (by simpa using q)with⟨d,B,c⟩|⟨d,B,C,z,c,u,t⟩;·exact .inl ⟨d,B,by rw[pZ c];rfl⟩
 ·refine .inr ⟨d,B,⟨λp=>(c p).trans ⟨λw=>w.elim (λw=>nomatch w) id,.inr⟩,by simpa using u⟩,?_⟩;rw[jI t,y_ret<|kW rfl];rfl
variable{a:Ad}
variable{S0:i6}{ρ vj:jg}{e f g:jr}{z:Z}
theorem JM{i:Type}{u h:i->Z}:∀(L:List i) (acc:List Z),(∀p∈L,∀c,e (vj.set 0<|some<|u p) (S0++[.li c])=.ok (h p) (S0++[.li c]))->acc.length+L.length<100000->
 qf qh e vj S0.length (L.map u) (S0++[.li acc])=.ok (.loc S0.length) (S0++[.li<|acc++L.map h])
 |[],acc,_,_=>by rw[d3,d3,bg];rfl
 |p::L,acc,j,r=>by
  rw[aj]at r;rw[aT];unfold qf
  show(match e (vj.set 0 (some (u p))) (S0++[.li acc])with
   |.ok z k=>(match k[S0.length]? with
    |some (.li d)=>if d.length<sizeLine then qf qh e vj S0.length (L.map u) (k.set S0.length<|.li<|d++[z])else .bad
    |_=>.bad)
   |_=>.bad)=_
  rw[j p (.head _) acc]
  show(match(S0++[Cell.li acc])[S0.length]? with
   |some (.li d)=>if d.length<sizeLine then qf qh e vj S0.length (L.map u) ((S0++[Cell.li acc]).set S0.length (.li<|d++[h p]))else .bad
   |_=>RX.bad)=_
  rw[oO];show(if acc.length<sizeLine then _ else _)=_;rw[av<|qG<|by omega,uW,JM L (acc++[h p]) (λq t=>j q<|.tail _ t)<|by rw[ar];simp;omega,bO];rfl
def G7{k:Type}{u h:k->Z}{L:List k}{pick:List (List Key×Z)->List Z}{ci:List Nat}{c:List<|List Key×Z}(hf:f ρ S=.ok (.loc n) S)(j:S[n]?=some (.dt c))(F:S[0]?=some .mk)(C:pick c=L.map u)
    (D:∀p∈L,∀d,e ((n6 ci ρ).set 0 (some<|u p)) (S.set n (.ft c)++[.li d])=.ok (h p) (S.set n (.ft c)++[.li d]))(x:L.length<100000):rp pick f ci qh e ρ S=.ok (.loc S.length) (S++[.li<|L.map h]):=by
 unfold rp;rw[hf]
 show(match S[n]?,(S[0]?:Option Cell)with
  |some (.dt c),some Cell.mk=>Aq n c (qf qh e (n6 ci ρ) S.length (pick c)<|S.set n (.ft c)++[Cell.li []])
  |_,_=>RX.bad)=_
 rw[j,F];show Aq n c (qf qh e (n6 ci ρ) S.length (pick c)<|S.set n (.ft c)++[Cell.li []])=_;have t:=mz j;have r:=JM (S0:=S.set n<|.ft c) (vj:=n6 ci ρ) (e:=e) (u:=u) (h:=h) L [] D (by simpa using x);rw[aP]at r;rw[C,r];show RX.ok (Z.loc S.length) ((S.set n (.ft c)++[Cell.li<|[]++L.map h]).set n (.dt c))=_;rw[List.set_append_left _ _<|by rw[aP];exact t,List.set_set,fS];have:S.set n (.dt c)=S:=by
  apply List.ext_getElem?;intro i;by_cases q:n=i;·subst q;rw[aD t,j]
  ·rw[au q]
 rw[this]
def acA{k}(h:f ρ S=.ok (.loc n) S)(c:g ρ S=.ok (.d<|.tup ds) S)(d:kS ds=some k)(i:S[n]?=some (.ft kvs))(hv:valZ kvs k=some z):sd f g ρ S=.ok z S:=by
 unfold sd;rw[h];show((g ρ S).bind _)=_;rw[c]
 show(match kS ds,S[n]? with
  |some k,some (.ft kvs)=>(match valZ kvs k with
   |some z=>RX.ok z S
   |none=>.bad)
  |_,_=>.bad)=_
 rw[d,i]
 show(match valZ kvs k with
  |some z=>RX.ok z S
  |none=>.bad)=_
 rw[hv]
end
def mQ(s:Rd):D:=.tup [.int s.t,pr s.p s.q]
theorem Ic{d:D}{c:List Key}:∀(i:List<|List Key×D) (acc:List<|List Key×Z),(∀q∈i,q.1=c->q.2=d)->((∃q∈i,q.1=c)\/valZ acc c=ba d)->valZ (i.foldl (λa p=>kv a p.1<|.d p.2) acc) c=ba d
 |[],acc,_,h=>h.elim (λ⟨_,w,_⟩=>nomatch w) id
 |q::i,acc,j,h=>by
  rw[eF];refine Ic i _ (λq m=>j q<|.tail _ m) ?_;by_cases e:q.1=c;·exact .inr (by rw[Ae,av e,j q (.head _) e])
  ·rcases h with⟨l,n,k⟩|h
   ·rcases aE.mp n with w|w;·exact absurd (by rw[<-w];exact k) e
    ·exact .inl ⟨l,w,k⟩
   ·exact .inr (by rw[Ae,aw e];exact h)
theorem Ib(j):∀(c:List<|List Key×D) acc,kN j (.dt acc)=false->kN j (.dt<|c.foldl (λa p=>kv a p.1<|.d p.2) acc)=false
 |[],acc,h=>h
 |q::c,acc,h=>by
  rw[eF];refine Ib j c _ ?_;cases w:kN j (.dt<|kv acc q.1<|.d q.2)with
  |false=>rfl
  |true=>exact(BF<|show((kv acc q.1<|.d q.2).any λp=>mx j p.2)=true from w).elim (λw=>absurd (h.symm.trans w) ax) (λw=>nomatch w)
theorem Ky:∀B:List (Ask×Rd),rh (B.map λp=>.tup [p.1.d,mQ p.2])=some (B.map λp=>(p.1.k,mQ p.2))
 |[]=>rfl
 |p::B=>by show(rP p.1.d).bind (λc=>(rh<|B.map λp=>.tup [p.1.d,mQ p.2]).map ((c,mQ p.2):: ·))=_;rw[Jq,Ky B];rfl
section
variable{S:i6}{n:Nat}{m:List Rd}{r:Rd}{A:List Ask}{B:List<|Ask×Rd}
def envOf(m:List Rd)(r:Rd):Env:=λk=>match see m r k with
 |some s=>(s.t,s.p,s.q)
 |none=>(0,0,1)
def Pp{k s}(h:see m r k=some s):D.tup [.int (envOf m r k).1,pr (envOf m r k).2.1 (envOf m r k).2.2]=mQ s:=by unfold envOf;rw[h];rfl
def Tr(G:Seen m r A B)(Q:∀k∈A,∃s,see m r k=some s)(I:S[n]?=some (.dt<|B.map encP))(R:S[0]?=some .mk)(Y:B.length<1000)(b:Nat):
    ∃S' x,Gr S S'/\i8 (yz a b (jx 1 [.loc n]) S)=.ok (.loc<|S.length+1) S'/\Fd S' (S.length+1) A (envOf m r) x:=by
 have i:∀p∈B,see m r p.1=some p.2:=λp o=>((G.mem p).mp o).2
 let L:List Z:=B.map λp=>Z.d (.tup [p.1.d,mQ p.2])
 have C:=mz I;refine⟨S++[.li L]++[.dt<|foldZ<|B.map λp=>(p.1.k,mQ p.2)],_,(Gr.app<|λj=>?_).trans (Gr.app λj=>Ib j _ [] rfl),?_,⟨(by have:=oO (S++[Cell.li L])<|.dt<|foldZ<|B.map λp=>(p.1.k,mQ p.2);rw[ar]at this;exact this),λk F=>?_⟩⟩
 ·show(B.map λp=>Z.d<|.tup [p.1.d,mQ p.2]).any (mx j)=false;rw[iJ];exact cq.mpr λ_ _=>nofun
 ·unfold yz;show i8 (jG _ [iO n] S)=_;have c:=G7 (pick:=pickK) (ci:=[0]) (f:=zV 0) (ρ:=[iO n]) (u:=λp:Ask×Rd=>Z.d p.1.d) (h:=λp=>Z.d (.tup [p.1.d,mQ p.2])) (L:=B) (e:=zF jv (iN (zD (dV 0)) (iN (zF jv (iN (z2 jS (sd (zV 1) (zD (dV 0))) (zD (iQ 1))) (iN (z2 jS (sd (zV 1) (zD (dV 0))) (zD (iQ 2))) i7))) i7))) (kW rfl) I R (by
   unfold pickK;rw[aX];exact cm λp _=>bG Z.d (Sj p.1)) (λp o l=>by
   obtain⟨V,U,t⟩:=Gu p.1
   have J:sd (zV 1) (zD<|dV 0) [ba p.1.d,iO n] (S.set n (.ft<|B.map encP)++[.li l])=.ok (.d p.2.d) (S.set n (.ft<|B.map encP)++[.li l]):=
    acA (kW rfl) (i4 (d:=.tup V)<|by rw[<-U];rfl) t (by rw[ay<|by rw[aP];exact C,aD C]) (aaO i o)
   exact l8 [p.1.d,mQ p.2] (i9 (i4 (d:=p.1.d) rfl) (i9 (l8 [.int p.2.t,pr p.2.p p.2.q] (i9 (k6 J (i4 (d:=.int 1) rfl) (w:=.int p.2.t) rfl) (i9 (k6 J (i4 (d:=.int 2) rfl) (w:=pr p.2.p p.2.q) rfl) jP)) rfl) jP)) rfl) (by omega)
  rw[y_ret (z:=.loc<|S.length+1) (S1:=S++[.li L]++[.dt<|foldZ<|B.map λp=>(p.1.k,mQ p.2)])];·rfl
  ·unfold EU;rw[c]
   show(match(S++[Cell.li L])[S.length]? with
    |some (.li M)=>(match(md M).bind rh with
     |some v=>RX.ok (Z.loc (S++[Cell.li L]).length) (S++[Cell.li L]++[Cell.dt<|foldZ v])
     |none=>RX.bad)
    |_=>RX.bad)=_
   rw[oO]
   show(match(md L).bind rh with
    |some v=>RX.ok (Z.loc (S++[Cell.li L]).length) (S++[Cell.li L]++[Cell.dt<|foldZ v])
    |none=>RX.bad)=_
   have T:L=(B.map λp=>D.tup [p.1.d,mQ p.2]).map Z.d:=by rw[aX];rfl
   rw[show(md L).bind rh=some (B.map λp=>(p.1.k,mQ p.2))from by rw[T,sI];exact Ky B];show RX.ok (Z.loc (S++[Cell.li L]).length) _=_;rw[ar];rfl
 ·obtain⟨s,y⟩:=Q k F;rw[Pp y];refine Ic _ [] (λq O e=>?_) (.inl ⟨(k.k,mQ s),az.mpr ⟨(k,s),(G.mem (k,s)).mpr ⟨F,y⟩,rfl⟩,rfl⟩);obtain⟨p,o,rfl⟩:=az.mp O;have:p.1=k:=y9 e;have t:=i p o;rw[this,y]at t;show mQ p.2=mQ s;rw[Option.some.inj t]
variable{a:Ad}
abbrev Kt:=Int×Str
def lF(k:Kt):D:=.tup [.int k.1,.str k.2]
def lg(k:Kt):D:=.tup [.str k.2,.int k.1]
def q5(k:Kt):List Key:=[.inl k.1,.inr k.2]
def Ju:D->Kt
 |.tup [.int i,.str x]=>(i,x)
 |_=>(0,Str.ofString "")
def ktL(c:List Kt):List Kt:=(ky<|(kI<|c.map q5).map tD).map Ju
theorem Md:∀c:List Kt,ph (c.map lF)=some (c.map q5)
 |[]=>rfl
 |k::r=>by show(kS [.int k.1,.str k.2]).bind (λx=>(ph<|r.map lF).map (x:: ·))=_;rw[Md r];rfl
def Jv(ks):(ktL ks).map lF=ky ((kI<|ks.map q5).map tD):=by
 unfold ktL;rw[aX];have:∀d∈ky ((kI (ks.map q5)).map tD),(lF∘Ju) d=d:=λd h=>by obtain⟨k,c,rfl⟩:=az.mp ((mV _).mem_iff.mp h);obtain⟨j,_,rfl⟩:=az.mp ((oU k _).mp c);rfl
 exact(cm this).trans (List.map_id' _)
def SI(ks k):k∈ktL ks↔k∈ks:=by
 have inj:∀x y:Kt,lF x=lF y->x=y:=λx y h=>by injection h with h;injection h with c h2;injection c with c;injection h2 with h2 _;injection h2 with h2;exact Prod.ext c h2
 have c:k∈ktL ks↔lF k∈(ktL ks).map lF:=⟨λh=>az.mpr ⟨k,h,rfl⟩,λh=>by obtain⟨j,d,e⟩:=az.mp h;rw[<-inj j k e];exact d⟩;rw[c,Jv,(mV _).mem_iff];constructor
 ·intro h;obtain⟨x,i,e⟩:=az.mp h;obtain⟨j,d,rfl⟩:=az.mp ((oU x _).mp i);rw[<-inj j k e];exact d
 ·intro h;exact az.mpr ⟨q5 k,(oU _ _).mpr (az.mpr ⟨k,h,rfl⟩),rfl⟩
def SG(h:∀k,k∈ks↔k∈js):ktL ks=ktL js:=by
 have t:(kI<|ks.map q5).Perm (kI<|js.map q5):=wJ (uK _) (uK _) λx=>by rw[oU,oU,az,az];exact⟨λ⟨k,p,o⟩=>⟨k,(h k).mp p,o⟩,λ⟨k,p,o⟩=>⟨k,(h k).mpr p,o⟩⟩
 have c:∀(l:List Kt),∀d∈(kI (l.map q5)).map tD,ki d=some [2,0,1]:=λl d i=>by obtain⟨x,q,rfl⟩:=az.mp i;obtain⟨j,_,rfl⟩:=az.mp ((oU x _).mp q);rfl
 unfold ktL;rw[DB ((mV _).trans ((t.map tD).trans (mV _).symm)) (λd i=>c ks d<|(mV _).mem_iff.mp i) (uX<|c ks)<|uX<|c js]
def SH(ks):(ktL ks).length<=ks.length:=by
 have e:(ktL ks).length=(kI<|ks.map q5).length:=by unfold ktL;rw[ai,(mV _).length_eq,ai]
 have d:∀l:List (List Key),(kI l).length<=l.length:=by
  intro l;induction l with
  |nil=>exact ah _
  |cons x r c=>
   unfold kI;split;·exact aU c (cP _)
   ·exact Nat.succ_le_succ c
 rw[e];exact aU (d _) (by rw[ai];exact ah _)
def aa9(c:List Kt)(h:c.length<64):wZ (.lst<|c.map lF)=.ok ((ktL c).map lF):=by unfold wZ;dsimp only;rw[Md];show(if mi (c.map lF)=true/\(c.map lF).length<64 then _ else _)=_;rw[av ⟨yX (sg:=[2,0,1]) (λ_=>rfl) c,by rw[ai];exact h⟩,Jv]
def jX(s:Rd):Kt:=(s.t,s.m)
def m_keys(j:S[n]?=some (.dt<|B.map encP))(v:S[0]?=some .mk)(t:mM S)(q:B.length<64)(b):
    ∃S',Gr S S'/\i8 (yB a b (jx 2 [.loc n]) S)=.ok (.d<|.lst<|(ktL<|B.map λp=>jX p.2).map lg) S':=by
 have C:=mz j;refine⟨S++[.no],Gr.app λ_=>rfl,?_⟩;unfold yB;show i8 (iY (jk 1 _) _ [iO n,none] S)=_;have c:=G7 (pick:=tw) (ci:=[]) (f:=zV 0) (ρ:=[iO n,none]) (u:=λp:Ask×Rd=>Z.d p.2.d) (h:=λp=>Z.d<|lF<|jX p.2) (L:=B) (e:=zD<|dA jv<|aa (iW 0 1)<|aa (iW 0 0) iT) (kW rfl) j v (by unfold tw;rw[aX];rfl) (λp _ k=>i4 rfl) (by omega);have z:(B.map λp=>Z.d<|lF<|jX p.2)=((B.map λp=>jX p.2).map lF).map Z.d:=by rw[aX,aX];rfl
 rw[z]at c;have y:vd (rp tw (zV 0) [] qh<|zD<|dA jv<|aa (iW 0 1)<|aa (iW 0 0) iT) [iO n,none] S=.ok (.d<|.lst<|(B.map λp=>jX p.2).map lF) (S++[.no]):=by
  unfold vd;rw[c]
  show(match(S++[Cell.li (((B.map λp:Ask×Rd=>jX p.2).map lF).map Z.d)])[S.length]? with
   |some (.li l)=>(match md l with
    |some i=>if S.length<=S.length/\(S++[Cell.li<|((B.map λp:Ask×Rd=>jX p.2).map lF).map Z.d]).any (kN S.length)=false/\[some<|Z.loc n,none].any (zY S.length)=false then RX.ok (Z.d<|.lst i) ((S++[Cell.li<|((B.map λp:Ask×Rd=>jX p.2).map lF).map Z.d]).set S.length .no)else .bad
    |none=>.bad)
   |_=>.bad)=_
  rw[oO]
  show(match md (((B.map λp=>jX p.2).map lF).map Z.d)with
   |some i=>if S.length<=S.length/\(S++[Cell.li<|((B.map λp:Ask×Rd=>jX p.2).map lF).map Z.d]).any (kN S.length)=false/\[some<|Z.loc n,none].any (zY S.length)=false then RX.ok (Z.d<|.lst i) ((S++[Cell.li<|((B.map λp:Ask×Rd=>jX p.2).map lF).map Z.d]).set S.length .no)else RX.bad
   |none=>RX.bad)=_
  rw[sI];show(if _ then _ else _)=_;rw[av ⟨ah _,rj (t _<|ah _)<|my _ _,by show(decide (n=S.length)||(false||false))=false;rw[aI<|by omega];rfl⟩,uW]
 have o:Ap (vd<|rp tw (zV 0) [] qh<|zD<|dA jv<|aa (iW 0 1)<|aa (iW 0 0) iT) [iO n,none] S=.ok (.d<|.lst<|(ktL<|B.map λp=>jX p.2).map lF) (S++[.no]):=by
  unfold Ap;rw[y]
  show(match wZ (.lst ((B.map λp=>jX p.2).map lF))with
   |.ok i=>RX.ok (Z.d<|.lst i) (S++[Cell.no])
   |_=>.bad)=_
  rw[aa9 _<|by rw[ai];exact q]
 rw[jI<|j9 o<|aq rfl];show i8 (jG _ [iO n,iV<|(ktL<|B.map λp=>jX p.2).map lF] _)=_;rw[y_ret<|i4 (d:=.lst<|(ktL<|B.map λp=>jX p.2).map lg)<|qs<|uk (f:=lF) (g:=lg) (L:=ktL<|B.map λp=>jX p.2) rfl (by have:=SH<|B.map λp=>jX p.2;rw[ai]at this;omega) λx _=>rfl];rfl
end
variable{a:Ad}
structure jV(n:Nat)(T T':i6):Prop where
 len:T.length<=T'.length
 pre:∀j,j<n->T'[j]?=T[j]?
 sf:∀j,j<n->nX T j->nX T' j
 bnd:mM T->mM T'
def jV.refl(n T):jV n T T:=⟨ah _,λ_ _=>rfl,λ_ _ h=>h,λh=>h⟩
def jV.trans{n}(x:jV n T T1)(y:jV n T1 T2):jV n T T2:=⟨aU x.len y.len,λj h=>(y.pre j h).trans (x.pre j h),λj h s=>y.sf j h<|x.sf j h s,λb=>y.bnd<|x.bnd b⟩
def jV.app{n}{T:i6}(k:n<=T.length)(i:∀j,(j<n\/T.length<j)->kN j c=false):jV n T (T++[c]):=⟨by rw[ar];exact cA ..,λj h=>ay<|by omega,λj h s=>rj s<|i j<|.inl h,λb j d=>by rw[ar]at d;exact rj (b j<|by omega) (i j<|.inr<|by simp at d;omega)⟩
def jV.set{n}{T:i6}(l:n<=i)(k:∀j,(j<n\/T.length<=j)->kN j c=false):jV n T (T.set i c):=⟨by rw[aP];exact ah _,λj h=>au<|by omega,λj h s=>ni s<|k j<|.inl h,λb j d=>by rw[aP]at d;exact ni (b j d) (k j<|.inr d)⟩
section
variable{T:i6}{n o i q:Nat}{M:List<|Key×Z}{P:List<|List Key×Z}{l:Str->Option Nat}{b:List Rd}{ρ:jg}{f fk:jr}
def acE{d k}(hf:f ρ T=.ok (.loc n) T)(h:T[n]?=some (.dk M))(r:fk ρ T=.ok (.d d) T)(m:oQ d=some k)(p:M.length<100000):xv f fk (mY (λρ=>(iT ρ).bind jy)) ρ T=(match valZ M k with
    |some z=>RX.ok z (T++[Cell.li []])
    |none=>RX.ok (Z.loc T.length) ((T++[Cell.li []]).set n (.dk (kv M k (.loc T.length))))):=by
 have t:(T++[Cell.li []])[n]?=some (.dk M):=by rw[ay<|mz h];exact h
 unfold xv;rw[hf]
 show(match T[n]? with
  |some (.dk _)=>(fk ρ T).bind λy u=>(mY (λρ=>(iT ρ).bind jy) ρ u).bind λx j=>(match y,j[n]? with
   |.d d,some (.dk c)=>(match oQ d with
    |some k=>if c.length<sizeLine then(match valZ c k with
     |some z=>RX.ok z j
     |none=>RX.ok x (j.set n (.dk (kv c k x))))else RX.bad
    |none=>RX.bad)
   |_,_=>RX.bad)
  |_=>RX.bad)=_
 rw[h];show((fk ρ T).bind _)=_;rw[r]
 show(match Z.d d,(T++[Cell.li []])[n]? with
  |.d d,some (.dk c)=>(match oQ d with
   |some k=>if c.length<sizeLine then(match valZ c k with
    |some z=>RX.ok z (T++[Cell.li []])
    |none=>RX.ok (.loc T.length) ((T++[Cell.li []]).set n (.dk (kv c k (.loc T.length)))))else RX.bad
   |none=>RX.bad)
  |_,_=>RX.bad)=_
 rw[t]
 show(match oQ d with
      |some k=>if M.length<sizeLine then(match valZ M k with
       |some z=>RX.ok z (T++[Cell.li []])
       |none=>RX.ok (.loc T.length) ((T++[Cell.li []]).set n (.dk (kv M k (.loc T.length)))))else RX.bad
      |none=>RX.bad)=_
 rw[m];exact av (qG p)
def Sg.wide(g:Sg a T n Uy o i M P l b)(h:Uy<=hi):Sg a T n hi o i M P l b:=
 {g with
  b2:=aH g.b2 h
  b4:=aH g.b4 h
  li:=λm q e=>let⟨d,c,k⟩:=g.li m q e;⟨d,aH c h,k⟩
  hm:=λj e=>let⟨d,c⟩:=g.hm j e;⟨d,aH c h⟩}
def Ry(g:Sg a T n T.length o i M P l b)(r:Rd)(hM:M.length<=10000)(A s3):∃F M1 t q,xv (qb a.Sight (zV 0) "masts") (zD<|iW 2 0) (mY<|λρ=>(iT ρ).bind jy) [iO n,A,ba r.d,s3] T=.ok (.loc q) F
    /\Sg a F n F.length o i M1 P t b/\t r.m=some q/\M1.length<=M.length+1/\jV n T F:=by
 have b1:=g.b1;have b2:=g.b2;have b3:=g.b3;have b4:=g.b4;have z:=acE (f:=qb a.Sight (zV 0) "masts") (fk:=zD<|iW 2 0) (ρ:=[iO n,A,ba r.d,s3]) (d:=.str r.m) (k:=.inr r.m) (Au (kW rfl) g.ob rfl) g.mc (i4 rfl) rfl (by omega);rw[g.vm]at z;have la:jV n T (T++[.li []]):=jV.app (by omega) λ_ _=>rfl;have Y:Sg a (T++[.li []]) n T.length o i M P l b:=g.mv λj _ h=>ay h;cases y:l r.m with
 |some q=>rw[y]at z;exact⟨_,M,l,q,z,Y.wide la.len,y,cP _,la⟩
 |none=>
  rw[y]at z;have G:(T++[Cell.li []]).length=T.length+1:=by rw[ar];rfl
  have u:∀j,kN j (.dk<|kv M (.inr r.m)<|.loc T.length)=true->n<j/\j<T.length+1:=λj e=>by
   rcases BF (show((kv M (.inr r.m) (.loc T.length)).any λp=>mx j p.2)=true from e)with w|w;·obtain⟨C,L⟩:=g.hm j w;exact⟨C,by omega⟩
   ·have:T.length=j:=cb w;omega
  refine⟨_,kv M (.inr r.m)<|.loc T.length,λm=>if m=r.m then some T.length else l m,T.length,z,?_,av rfl,JF,la.trans<|jV.set (by omega) λj h=>?_⟩
  ·have R:((T++[Cell.li []]).set o (.dk<|kv M (.inr r.m)<|.loc T.length)).length=T.length+1:=by rw[aP,G]
   have keep:∀j c,j≠o->T[j]?=some c->((T++[Cell.li []]).set o (.dk<|kv M (.inr r.m)<|.loc T.length))[j]?=some c:=λj c h e=>by rw[au<|bV h,ay<|mz e];exact e
   rw[R];refine⟨b1,by omega,b3,by omega,g.b5,keep n _ (by omega) g.ob,aD<|by rw[G];omega,keep i _ (bV g.b5) g.pc,g.vp,λm=>?_,λm e=>?_,λm q e=>?_,λm I q D x=>?_,u,g.hp⟩
   ·rw[Ae,g.vm];by_cases w:m=r.m;·subst w;rw[av rfl,av rfl];rfl
    ·rw[aw w,aw λv=>w (Sum.inr.inj v).symm]
   ·split at e;·cases e
    ·exact g.no m e
   ·split at e
    ·rename_i w;cases e;refine⟨by omega,by omega,by omega,by omega,?_⟩;rw[au<|by omega,oO,w,g.no _ y];rfl
    ·obtain⟨C,L,J,V,U⟩:=g.li m q e;exact⟨C,by omega,J,V,keep q _ J U⟩
   ·split at D
    ·rename_i Q;split at x;·rename_i O;rw[Q,O]
     ·cases D;have:=(g.li I _ x).2.1;omega
    ·split at x
     ·cases x;have:=(g.li m _ D).2.1;omega
     ·exact g.ij m I q D x
  ·cases w:kN j (.dk<|kv M (.inr r.m)<|.loc T.length)with
   |false=>rfl
   |true=>obtain⟨C,L⟩:=u j w;rw[G]at h;rcases h with h|h<;>omega
def Rz(g:Sg a T n T.length o i M P l b)(r:Rd)(y:l r.m=some q)(hP:P.length<=10000)(hz:b.length<=10000)(A):
    ∃z u,(iY (u2 (qb a.Sight (zV 0) "places") (ve<|iN (zD<|iW 2 0)<|iN (zD<|iW 2 1) i7)<|zR<|dA lL<|aa (dV 3) iT)<|oz 3<|zD<|dV 2) [iO n,A,ba r.d,iO q] T=.nx [iO n,A,ba r.d,iO q] z
     /\Sg a z n z.length o i M u l (b++[r])/\u.length<=P.length+1/\jV n T z:=by
 have b1:=g.b1;have b3:=g.b3;obtain⟨V,Q,O,F,L⟩:=g.li _ _ y;have C:T[q]?=some (.li<|((own b r.m).map Rd.d).map Z.d):=by rw[aX];exact L
 have Y:zR (dA lL<|aa (dV 3) iT) [iO n,A,ba r.d,iO q] T=.ok (.d<|.int (own b r.m).length) T:=by refine vf ?_ rfl;show(dA lL<|aa (dV 3) iT) [nR T<|iO n,nR T A,.sh r.d,nR T<|iO q]=_;rw[xj C];show R.ok (D.int ((own b r.m).map Rd.d).length)=_;rw[ai]
 let u:=kv P (pk r.m r.t) (.d<|.int (own b r.m).length)
 let d:Cell:=.dt u
 let k:Cell:=.li (((own b r.m).map λr=>Z.d r.d)++[.d r.d])
 have h:∀j,kN j d=false:=λj=>by
  cases w:kN j d with
  |false=>rfl
  |true=>exact(BF<|show((kv P (pk r.m r.t)<|.d<|.int (own b r.m).length).any λp=>mx j p.2)=true from w).elim (λw=>absurd ((g.hp j).symm.trans w) ax) (λw=>nomatch w)
 have G:∀j,kN j k=false:=λj=>by
  have:k=.li (((own b r.m++[r]).map Rd.d).map Z.d):=by show Cell.li _=_;rw[aX,bq];rfl
  rw[this];exact my _ _
 have hT:q<T.length:=Q;refine⟨(T.set i d).set q k,u,?_,?_,JF,(jV.set (by omega) λj _=>h j).trans (jV.set (by omega) λj _=>G j)⟩
 ·rw[jI<|Mw Y (Au (kW rfl) g.ob rfl) (Mz (ds:=[.str r.m,.int r.t]) (i9 (i4 rfl)<|i9 (i4 rfl) jP) rfl (by decide:2<1000)) g.pc<|by omega];have e:(T.set i d)[q]?=some (.li<|(own b r.m).map λr=>Z.d r.d):=by rw[au<|bV F];exact L
  exact vb rfl e (i4 rfl) e (by rw[ai];exact cy (ib ..) (by omega))
 ·have hl:((T.set i d).set q k).length=T.length:=by rw[aP,aP]
  have keep:∀j c,j≠i->j≠q->T[j]?=some c->((T.set i d).set q k)[j]?=some c:=λj c J I e=>by rw[au<|bV I,au<|bV J];exact e
  rw[hl];refine⟨b1,g.b2,b3,g.b4,g.b5,keep n _ (by omega) (by omega) g.ob,keep o _ g.b5 (bV O) g.mc,?_,λm t=>?_,g.vm,λm e=>?_,λm x e=>?_,g.ij,g.hm,h⟩;·rw[au F,aD g.b4]
  ·show valZ (kv P (pk r.m r.t) _) _=_;rw[Ae,WT,g.vp];by_cases w:r.m=m/\r.t=t
   ·obtain⟨rfl,rfl⟩:=w;rw[av rfl,av ⟨rfl,rfl⟩];rfl
   ·rw[aw w,aw λv=>w ?_];injection v with v1 v2;injection v1 with v1;injection v2 with v2 _;injection v2 with v2;exact⟨v1,v2⟩
  ·have ne:r.m≠m:=λw=>by rw[<-w,y]at e;cases e
   rw[zz,g.no m e,aw ne];rfl
  ·by_cases w:x=q
   ·have em:m=r.m:=g.ij m r.m x e (by rw[w];exact y);rw[w,em];refine⟨V,Q,O,F,?_⟩;rw[aD<|by rw[aP];exact hT,zz,av rfl,bq];rfl
   ·obtain⟨J,I,h3,U,h5⟩:=g.li m x e;have ne:r.m≠m:=λv=>w (by rw[<-v,y]at e;exact(Option.some.inj e).symm);refine⟨J,I,h3,U,?_⟩;rw[zz,aw ne,bg];exact keep x _ U w h5
theorem IZ(N A):∀(rest b:List Rd) T M P l s2 s3,Sg a T N T.length o i M P l b->M.length<=b.length->P.length<=b.length->b.length+rest.length<=10000->
 ∃d M1 U c j h,kY (hV 2) (sJ a) (rest.map Rd.d) [iO N,A,s2,s3] T=.nx [iO N,A,j,h] d/\Sg a d N d.length o i M1 U c (b++rest)/\jV N T d
 |[],b,T,M,P,l,s2,s3,g,_,_,_=>⟨T,M,P,l,s2,s3,rfl,by rw[bg];exact g,.refl _ _⟩
 |r::rest,b,T,M,P,l,s2,s3,g,hM,Y,y=>by
  rw[aj]at y;obtain⟨d,M1,c,q,L,G,z,D,x⟩:=Ry g r (by omega) A s3;obtain⟨t,R,J,F,C,v⟩:=Rz G r z (by omega) (by omega) A;have m:(b++[r]).length=b.length+1:=by rw[ar];rfl
  obtain⟨O,V,Q,k,j,h,I,p,u⟩:=IZ N A rest (b++[r]) t M1 R c (ba r.d) (iO q) F (by rw[m];omega) (by rw[m];omega) (by rw[m];omega);refine⟨O,V,Q,k,j,h,?_,by rw[bO]at p;exact p,(x.trans v).trans u⟩;have st:sJ a [iO N,A,ba r.d,s3] T=.nx [iO N,A,ba r.d,iO q] t:=by unfold sJ;rw[jI<|j9 L<|aq rfl];exact J
  show pY (sJ a [iO N,A,ba r.d,s3] T) (kY (hV 2) (sJ a)<|rest.map Rd.d)=_;rw[st];exact I
end
def Tv(S:i6)(d:List Rd)(x:d.length<=10000)(b):∃S',i8 (yw a b (jx 4 [.loc S.length,.d<|.lst<|d.map Rd.d])<|S++[.ob a.Sight []])=.ok (.d .non) S'/\(∃r q M P t,Sg a S' S.length S'.length r q M P t d)/\Gr S S':=by
 let k:Cell:=.ob a.Sight [("masts",.loc<|S.length+1),("places",.loc<|S.length+2)]
 have D:Sg a (S++[k,.dk [],.dt []]) S.length (S++[k,.dk [],.dt []]).length (S.length+1) (S.length+2) [] [] (λ_=>none) []:=by
  have at_:∀(i:Nat) (c:Cell),[k,Cell.dk [],Cell.dt []][i]?=some c->(S++[k,.dk [],.dt []])[S.length+i]?=some c:=λi c h=>by rw[aK<|by omega,Nat.add_sub_cancel_left];exact h
  have y:(S++[k,Cell.dk [],Cell.dt []]).length=S.length+3:=by rw[ar];rfl
  rw[y];exact⟨by omega,by omega,by omega,by omega,by omega,at_ 0 _ rfl,at_ 1 _ rfl,at_ 2 _ rfl,λ_ _=>rfl,λ_=>rfl,λ_ _=>rfl,(λ_ _ e=>by cases e),(λ_ _ _ e=>by cases e),(λ_ e=>by cases e),λ_=>rfl⟩
 obtain⟨J,M1,L,n,Q,O,I,C,u⟩:=IZ (a:=a) S.length (iV (d.map Rd.d)) d [] _ [] [] (λ_=>none) none none D (ah _) (ah _) (by simpa using x);have v:jV S.length S (S++[k,.dk [],.dt []]):=by
  have p:∀j,(j<S.length\/S.length+2<j)->kN j k=false:=λj o=>by show(decide (S.length+1=j)||(decide (S.length+2=j)||false))=false;rw[aI<|by omega,aI<|by omega];rfl
  refine⟨by rw[ar];exact cA ..,λj h=>ay h,λj h s=>?_,λb j o=>?_⟩
  ·show(S++[k,.dk [],.dt []]).any (kN j)=false;rw[hU,s];show(false||(kN j k||(false||(false||false))))=false;rw[p j<|.inl h];rfl
  ·rw[ar]at o;have z:S.length+3<=j:=o;show(S++[k,.dk [],.dt []]).any (kN j)=false;rw[hU,show S.any (kN j)=false from b j (by omega)];show(false||(kN j k||(false||(false||false))))=false;rw[p j<|.inr<|by omega];rfl
 have l:=v.trans u;refine⟨J,?_,⟨_,_,M1,L,n,by simpa using C⟩,⟨l.len,l.pre,l.sf,l.bnd⟩⟩;unfold yw;show i8 (iY _ _ [iO S.length,iV<|d.map Rd.d,none,none]<|S++[.ob a.Sight []])=_;have G:xk a.Sight (zV 0) "masts" EV [iO S.length,iV<|d.map Rd.d,none,none] (S++[.ob a.Sight []])=.nx [iO S.length,iV<|d.map Rd.d,none,none] (S++[.ob a.Sight [("masts",.loc<|S.length+1)],.dk []]):=by
  show(match(S++[Cell.ob a.Sight []]++[Cell.dk []])[S.length]? with
   |some (.ob m fs)=>if m=a.Sight/\fs.length<1000 then lH.nx [iO S.length,iV<|d.map Rd.d,none,none] ((S++[Cell.ob a.Sight []]++[Cell.dk []]).set S.length (.ob m<|tx "masts" (.loc (S++[Cell.ob a.Sight []]).length) fs))else .bad
   |_=>.bad)=_
  rw[bO,aK<|ah _,d5];show(if a.Sight=a.Sight/\0<1000 then _ else _)=_;rw[av ⟨rfl,by decide⟩,fD _ _<|ah _,d5,ar];rfl
 have F:xk a.Sight (zV 0) "places" Am [iO S.length,iV<|d.map Rd.d,none,none] (S++[.ob a.Sight [("masts",.loc<|S.length+1)],.dk []])=.nx [iO S.length,iV<|d.map Rd.d,none,none] (S++[k,.dk [],.dt []]):=by
  show(match(S++[Cell.ob a.Sight [("masts",.loc (S.length+1))],.dk []]++[Cell.dt []])[S.length]? with
   |some (.ob m fs)=>if m=a.Sight/\fs.length<1000 then lH.nx [iO S.length,iV<|d.map Rd.d,none,none] ((S++[Cell.ob a.Sight [("masts",.loc<|S.length+1)],.dk []]++[Cell.dt []]).set S.length (.ob m<|tx "places" (.loc (S++[Cell.ob a.Sight [("masts",.loc<|S.length+1)],.dk []]).length) fs))else .bad
   |_=>.bad)=_
  rw[bO,aK<|ah _,d5];show(if a.Sight=a.Sight/\1<1000 then _ else _)=_;rw[av ⟨rfl,by decide⟩,fD _ _<|ah _,d5,ar];kernel_rfl
 rw[jI G,jI F];show i8 (kY (hV 2) (sJ a) (d.map Rd.d) [iO S.length,iV<|d.map Rd.d,none,none]<|S++[k,.dk [],.dt []])=_;rw[I];rfl
variable{a:Ad}
structure pA(r:Rd):Prop where
 t:Sz 61 r.t
 low:FM.oG r.p r.q
 p:Sz 62 r.p
 q:Sz 62 r.q
def pA.n(h:pA r):r.q≠0:=by have:=h.low.pos;omega
def PX{p q:Int}(L:FM.oG p q):fr p q=pr p q:=by have:=FM.scaled L (show(1:Int)≠0 by decide);rw[iK,iK]at this;show D.tup [.int<|FM.top p q,.int<|FM.bot p q]=_;rw[this.1,this.2]
def Po(h:∀r∈row,pA r)(r):tP (envOf row r):=by
 have c:∀x,Sz 61 (envOf row r x).1/\Sz 62 (envOf row r x).2.1/\Sz 62 (envOf row r x).2.2/\(envOf row r x).2.2≠0:=λx=>by
  unfold envOf;cases q:see row r x with
  |none=>exact⟨(by unfold Sz;decide:Sz 61 0),(by unfold Sz;decide:Sz 62 0),wA,by decide⟩
  |some s=>have k:=h s (LG q);exact⟨k.t,k.p,k.q,k.n⟩
 exact⟨λx=>(c x).1,λx=>(c x).2.1,λx=>(c x).2.2.1,λx=>(c x).2.2.2⟩
abbrev lX:=Str×T7
def jD(r:lX):D:=.tup [.str r.1,r.2.d]
def hit(c:List Rd)(A:List Ask)(t:T7)(r:Rd):Bool:=(A.all λk=>(see c r k).isSome)&&hv (envOf c r) t
def ts(c:List Rd)(A:List Ask)(d:Str)(r:Rd):D:=.tup [.str r.m,.int r.t,.str d,.lst<|(ktL<|(A.filterMap<|see c r).map jX).map lg]
structure sC(A:List Ask)(t:T7):Prop where
 w:Cw t
 dep:t.dep<8
 here:Ask.here∈A
 asks:∀x∈t.asks,x∈A
 len:A.length<64
structure Jd(a:Ad)(Ff Fa:jf)(Zi Zs Zf Zh Zk:jo):Prop where
 f:HF Ff
 i:∀(S:i6) (row:List Rd),row.length<=10000->∃S',Zi [.loc S.length,.d<|.lst<|row.map Rd.d] (S++[.ob a.Sight []])=.ok (.d .non) S'/\(∃nm np M P lc,Sg a S' S.length S'.length nm np M P lc row)/\Gr S S'
 s:∀{S} {n hi nm np} {M} {P} {lc} {row},Sg a S n hi nm np M P lc row->hi<=S.length->∀r (A:List Ask),A.length<=10000->
  (∃k∈A,see row r k=none)/\(∃B:List<|Ask×Rd,Zs [.loc n,.d r.d,.d<|.lst<|A.map Ask.d] S=.ok (.d .non) (S++[.dt<|B.map encP]))
  \/(∀k∈A,∃s,see row r k=some s)/\∃B:List (Ask×Rd),Seen row r A B/\Zs [.loc n,.d r.d,.d<|.lst<|A.map Ask.d] S=.ok (.loc S.length) (S++[.dt<|B.map encP])
 o:∀{S} {n} {row} {r} {A} {B},Seen row r A B->(∀k∈A,∃s,see row r k=some s)->S[n]?=some (.dt<|B.map encP)->S[0]?=some .mk->B.length<1000->
  ∃S' kvs,Gr S S'/\Zf [.loc n] S=.ok (.loc<|S.length+1) S'/\Fd S' (S.length+1) A (envOf row r) kvs
 h:∀{S} {n} {A} {e} {kvs} {t},Fd S n A e kvs->tP e->sC A t->Zh [.d t.d,.loc n] S=.ok (.d<|.bl<|hv e t) S
 k:∀{S} {n} {B:List<|Ask×Rd},S[n]?=some (.dt<|B.map encP)->S[0]?=some .mk->mM S->B.length<64->∃S',Gr S S'/\Zk [.loc n] S=.ok (.d<|.lst<|(ktL<|B.map λp=>jX p.2).map lg) S'
structure In(a:Ad)(S:i6)(nt ns nl:Nat)(row:List Rd)(told left:List D):Prop where
 m0:S[0]?=some .mk
 bnd:mM S
 tt:S[nt]?=some (.li<|told.map .d)
 st:nX S nt
 ll:S[nl]?=some (.li<|left.map .d)
 sl:nX S nl
 sg:∃hi nm np M P lc,hi<=nl/\Sg a S ns hi nm np M P lc row
 o0:0<nt
 o1:nt<ns
 o2:ns<nl
section
variable{S v:i6}{q E H b:Nat}{m:List Rd}{o left:List D}
def In.gr(h:In a S q E H m o left)(g:Gr S v):In a v q E H m o left:=
 ⟨g.get h.m0,g.bnd h.bnd,g.get h.tt,g.sf _ (mz h.tt) h.st,g.get h.ll,g.sf _ (mz h.ll) h.sl,let⟨k,d,c,M,P,i,n,l⟩:=h.sg;⟨k,d,c,M,P,i,n,l.mv λj _ p=>g.pre j (by have:=mz h.ll;omega)⟩,h.o0,h.o1,h.o2⟩
def In.tld(h:In a S q E H m o left)(d):In a (S.set q<|.li<|(o++[d]).map .d) q E H m (o++[d]) left:=by have l:=h.o0;have k:=h.o1;have i:=h.o2;exact⟨by rw[au<|by omega];exact h.m0,λj c=>ni (h.bnd j<|by rw[aP]at c;exact c)<|my _ _,aD<|mz h.tt,ni h.st<|my _ _,by rw[au<|by omega];exact h.ll,ni h.sl<|my _ _,let⟨t,p,n,M,P,r,x,u⟩:=h.sg;⟨t,p,n,M,P,r,x,u.mv λj c _=>au<|by omega⟩,l,k,i⟩
def In.JI(h:In a S q E H m o left)(d):In a (S.set H<|.li<|(left++[d]).map .d) q E H m o (left++[d]):=by have l:=h.o0;have k:=h.o1;have i:=h.o2;exact⟨by rw[au<|by omega];exact h.m0,λj c=>ni (h.bnd j<|by rw[aP]at c;exact c)<|my _ _,by rw[au<|by omega];exact h.tt,ni h.st<|my _ _,aD<|mz h.ll,ni h.sl<|my _ _,let⟨t,p,n,M,P,r,x,u⟩:=h.sg;⟨t,p,n,M,P,r,x,u.mv λj _ c=>au<|by omega⟩,l,k,i⟩
def Gr.lw(g:Gr S v)(c:b<=S.length):jV b S v:=⟨g.len,λj h=>g.pre j<|by omega,λj h=>g.sf j<|by omega,g.bnd⟩
def jV.wW{L:List D}(h:b<=i):jV b S (S.set i<|.li<|L.map .d):=jV.set h λj _=>my _ _
variable{Q I:jf}{U T O N K:jo}
def SF(h:Seen m r A B):ktL (B.map λp=>jX p.2)=ktL ((A.filterMap<|see m r).map jX):=SG λk=>by
 rw[az,az];constructor
 ·rintro ⟨p,j,rfl⟩
  obtain⟨d,c⟩:=(h.mem p).mp j;exact⟨p.2,bz.mpr ⟨p.1,d,c⟩,rfl⟩
 ·rintro ⟨s,i,rfl⟩
  obtain⟨k,d,c⟩:=bz.mp i;exact⟨(k,s),(h.mem (k,s)).mpr ⟨d,c⟩,rfl⟩
def Sd(J:Jd a Q I U T O N K){t}(R:sC A t)(F:∀r∈m,pA r)(h:In a S q E H m o left)(hb:b<=q)(hz:o.length<50000/\left.length<50000)(r:Rd)(R0 R1 R3 s9):
    ∃v t9,qS a Q I U T O N K [R0,R1,iO q,R3,ba<|jD (nm,t),iO E,iV<|A.map Ask.d,iO H,ba r.d,s9] S
     =.nx [R0,R1,iO q,R3,ba<|jD (nm,t),iO E,iV<|A.map Ask.d,iO H,ba r.d,t9] v
     /\In a v q E H m (if hit m A t r=true then o++[ts m A nm r]else o) (if hit m A t r=true then left else left++[r.d])/\jV b S v:=by
 obtain⟨hi,nm',np,M,P,lc,h1,g⟩:=h.sg;have hlen:=mz h.ll;have o1:=h.o1;have o2:=h.o2;unfold qS;rcases J.s g (by omega) r A (by have:=R.len;omega)with⟨⟨k,k1,k2⟩,B,e⟩|⟨i,B,Y,e⟩
 ·-- not all is there
  have l:hit m A t r=false:=by unfold hit;rw[show(A.all λk=>(see m r k).isSome)=false from List.all_eq_false.mpr ⟨k,k1,by rw[k2];exact ax⟩];rfl
  rw[l,aw ax,aw ax];have y:Gr S (S++[.dt<|B.map encP]):=Gr.app (HM B);have x:=h.gr y;rw[jI<|j9 (E4 (kW rfl) g.ob (by kernel_rfl) (i9 (i4 (d:=r.d) rfl)<|i9 (i4 (d:=.lst<|A.map Ask.d) rfl) jP) e)<|aq rfl];refine⟨_,ba .non,?_,x.JI r.d,(y.lw<|by omega).trans (jV.wW<|by omega)⟩;show jM _ _ _ [R0,R1,iO q,R3,ba<|jD (nm,t),iO E,iV<|A.map Ask.d,iO H,ba r.d,ba .non] (S++[.dt<|B.map encP])=_;rw[vc<|acw<|My<|kW (z:=.d .non) rfl];rw[vb rfl x.ll (i4 (d:=r.d) rfl) x.ll<|by rw[ai];omega,bq];rfl
 ·have j:(A.all λk=>(see m r k).isSome)=true:=cK.mpr λk hk=>by obtain⟨s,hs⟩:=i k hk;rw[hs];rfl
  have y:Gr S (S++[.dt<|B.map encP]):=Gr.app (HM B);have x:=h.gr y;have V:B.length<64:=cy Y.len R.len;obtain⟨Z,kvs,L,e2,fd⟩:=J.o (S:=S++[.dt (B.map encP)]) (n:=S.length) Y i (oO S _) x.m0 (by omega);have u:=x.gr L;have eh:=J.h fd (Po F r) R;rw[jI<|j9 (E4 (kW rfl) g.ob (by kernel_rfl) (i9 (i4 (d:=r.d) rfl)<|i9 (i4 (d:=.lst<|A.map Ask.d) rfl) jP) e)<|aq rfl];have c:tM (xp<|zV 9) (nD tT<|zZ N<|iN (zD<|iW 4 1)<|iN (zZ O<|iN (zV 9) i7) i7) [R0,R1,iO q,R3,ba<|jD (nm,t),iO E,iV<|A.map Ask.d,iO H,ba r.d,iO S.length] (S++[.dt<|B.map encP])=.ok (hv (envOf m r) t) Z:=by rw[acv<|My<|kW (z:=.loc S.length) rfl];exact vg (lC (i9 (i4 (d:=t.d) rfl)<|i9 (lC (i9 (kW rfl) jP) e2) jP) eh) rfl
  cases G:hv (envOf m r) t with
  |false=>
   have l:hit m A t r=false:=by unfold hit;rw[G,f9]
   rw[l,aw ax,aw ax];rw[G]at c;refine⟨_,iO S.length,?_,u.JI r.d,((y.trans L).lw (by omega)).trans (jV.wW<|by omega)⟩;show jM _ _ _ [R0,R1,iO q,R3,ba<|jD (nm,t),iO E,iV<|A.map Ask.d,iO H,ba r.d,iO S.length] (S++[.dt<|B.map encP])=_;rw[vc c];rw[vb rfl u.ll (i4 (d:=r.d) rfl) u.ll<|by rw[ai];omega,bq];rfl
  |true=>
   have C:hit m A t r=true:=by unfold hit;rw[G,j];rfl
   rw[C,av rfl,av rfl];rw[G]at c;obtain⟨S3,g3,e3⟩:=J.k (S:=Z) (n:=S.length) (L.get (oO S _)) u.m0 u.bnd V;have h4:=u.gr g3;have em:ts m A nm r=.tup [.str r.m,.int r.t,.str nm,.lst<|(ktL<|B.map λp=>jX p.2).map lg]:=by unfold ts;rw[SF Y]
   refine⟨_,iO S.length,?_,h4.tld<|ts m A nm r,(((y.trans L).trans g3).lw (by omega)).trans (jV.wW hb)⟩;show jM _ _ _ [R0,R1,iO q,R3,ba<|jD (nm,t),iO E,iV<|A.map Ask.d,iO H,ba r.d,iO S.length] (S++[.dt<|B.map encP])=_;rw[mX c];have ev:zF jv (iN (zD<|iW 8 0)<|iN (zD<|iW 8 1)<|iN (zD<|iW 4 0)<|iN (zZ K<|iN (zV 9) i7) i7) [R0,R1,iO q,R3,ba<|jD (nm,t),iO E,iV<|A.map Ask.d,iO H,ba r.d,iO S.length] Z=.ok (.d<|ts m A nm r) S3:=by rw[em];exact l8 [.str r.m,.int r.t,.str nm,.lst<|(ktL<|B.map λp=>jX p.2).map lg] (i9 (i4 rfl)<|i9 (i4 rfl)<|i9 (i4 rfl)<|i9 (lC (i9 (kW rfl) jP) e3) jP) rfl
   rw[vb rfl u.tt ev h4.tt<|by rw[ai];omega,bq];rfl
variable{a:Ad}
variable{X:jg}
def acD{F:jo}{fs:jg->i6->RX (List Z)}(i:fs X S=.ok zs S)(h:F (.loc S.length::zs) (S++[.ob C []])=.ok (.d .non) v):xq C F fs X S=.ok (.loc S.length) v:=by
 unfold xq;rw[i]
 show(match F (.loc S.length::zs) (S++[.ob C []])with
  |.ok (.d .non) d=>RX.ok (Z.loc S.length) d
  |.ex c E ds d=>.ex c E ds d
  |_=>.bad)=_
 rw[h]
def Ai{n g}{L:List D}(j:X[i]?=some (iO n))(h:S[n]?=some (.li<|L.map .d))(d:b<=n)(c:nX S n):rZ b i g X S=g (X.map<|pX n<|.lst L) (S.set n .no):=by unfold rZ ux;rw[j];dsimp only;rw[h];dsimp only;rw[sI];dsimp only;rw[av ⟨d,c⟩]
theorem EM{c:Type}(p):∀l:List c,(l.filter p).length+(l.filter λx=>!p x).length=l.length
 |[]=>rfl
 |x::l=>by
  have:=EM p l;cases h:p x with
  |true=>rw[cB h,cC<|by rw[h];decide,aj,aj];omega
  |false=>rw[cC<|by rw[h];decide,cB<|by rw[h];rfl,aj,aj];omega
theorem Cf(J:Jd a Q I U T O N K){t}(y:sC A t)(c:∀r∈m,pA r)(u:b<=q)(R0 R1 R3):∀(rest:List Rd) S o left s8 s9,In a S q E H m o left->o.length+left.length+rest.length<50000->
 ∃v L i,kY (hV 8) (qS a Q I U T O N K) (rest.map Rd.d) [R0,R1,iO q,R3,ba<|jD (nm,t),iO E,iV<|A.map Ask.d,iO H,s8,s9] S
  =.nx [R0,R1,iO q,R3,ba<|jD (nm,t),iO E,iV<|A.map Ask.d,iO H,L,i] v
  /\In a v q E H m (o++(rest.filter<|hit m A t).map (ts m A nm)) (left++(rest.filter λr=>!hit m A t r).map Rd.d)/\jV b S v
 |[],S,o,left,s8,s9,h,_=>⟨S,s8,s9,rfl,by simpa using h,.refl _ _⟩
 |r::rest,S,o,left,s8,s9,h,M=>by
  rw[aj]at M;obtain⟨F,i,V,k,G⟩:=Sd (nm:=nm) J y c h u ⟨by omega,by omega⟩ r R0 R1 R3 s9;have st:∀x:lH,kY (hV 8) (qS a Q I U T O N K) (rest.map Rd.d) [R0,R1,iO q,R3,ba<|jD (nm,t),iO E,iV<|A.map Ask.d,iO H,ba r.d,i] F=x->kY (hV 8) (qS a Q I U T O N K) ((r::rest).map Rd.d) [R0,R1,iO q,R3,ba<|jD (nm,t),iO E,iV<|A.map Ask.d,iO H,s8,s9] S=x:=λx R=>by show pY (qS a Q I U T O N K [R0,R1,iO q,R3,ba<|jD (nm,t),iO E,iV<|A.map Ask.d,iO H,ba r.d,s9] S) (kY (hV 8) (qS a Q I U T O N K)<|rest.map Rd.d)=_;rw[V];exact R
  cases d:hit m A t r with
  |true=>rw[d,av rfl,av rfl]at k;obtain⟨C,n,l,z,j,p⟩:=Cf J y c u R0 R1 R3 rest F _ _ (ba r.d) i k (by rw[ar];simp;omega);refine⟨C,n,l,st _ z,?_,G.trans p⟩;rw[cB d,cC (by rw[d];decide),aT];rw[bO]at j;exact j
  |false=>rw[d,aw ax,aw ax]at k;obtain⟨C,n,l,z,j,p⟩:=Cf J y c u R0 R1 R3 rest F _ _ (ba r.d) i k (by rw[ar];simp;omega);refine⟨C,n,l,st _ z,?_,G.trans p⟩;rw[cC (by rw[d];decide),cB (by rw[d];rfl),aT];rw[bO]at j;exact j
structure Out(S:i6)(q:Nat)(o:List D):Prop where
 m0:S[0]?=some .mk
 bnd:mM S
 tt:S[q]?=some (.li<|o.map .d)
 st:nX S q
 o0:0<q
def kK(d:T7->List Ask)(st:List D×List Rd)(c:lX):List D×List Rd:=(st.1++(st.2.filter<|hit st.2 (d c.2) c.2).map (ts st.2 (d c.2) c.1),st.2.filter λr=>!hit st.2 (d c.2) c.2 r)
def judge(d:T7->List Ask)(c:List lX)(m:List Rd):List D×List Rd:=c.foldl (kK d) ([],m)
def Sb(J:Jd a Q I U T O N K){i:T7->List Ask}(k:lX)(hF:I [k.2.d]=.ok (.lst<|(i k.2).map Ask.d))(hR:sC (i k.2) k.2)(n:∀r∈m,pA r)(h:Out S q o)(hb:b<=q)(hz:o.length+m.length<10000)(d0 d1 s5 s6 s7 s8 s9):
    ∃v Y V R z y,sN a Q I U T O N K b [ba d0,ba d1,iO q,iV<|m.map Rd.d,ba<|jD k,s5,s6,s7,s8,s9] S
     =.nx [ba d0,ba d1,iO q,iV<|(kK i (o,m) k).2.map Rd.d,ba<|jD k,Y,V,R,z,y] v/\Out v q (kK i (o,m) k).1/\jV b S v:=by
 obtain⟨nm,t⟩:=k;have p:=mz h.tt;obtain⟨c,e1,⟨m1,Z,M,P,lc,F⟩,x⟩:=J.i S m (by omega);have g1b:=F.b1;have g1c:=F.b2;have u:Gr c (c++[.li []]):=Gr.app λ_=>rfl;have gr:=x.trans u
 have h2:In a (c++[.li []]) q S.length c.length m o []:=
  ⟨gr.get h.m0,gr.bnd h.bnd,gr.get h.tt,gr.sf _ p h.st,oO c _,rj (x.bnd h.bnd _<|ah _) rfl,⟨c.length,m1,Z,M,P,lc,ah _,F.mv λj _ C=>u.pre j C⟩,h.o0,p,by omega⟩
 obtain⟨G,z,y,e3,l,l3⟩:=Cf (nm:=nm) J hR n hb (ba d0) (ba d1) (iV (m.map Rd.d)) m (c++[.li []]) o [] s8 s9 h2 (by simp;omega);rw[fS]at l;have L:q≠c.length:=by omega
 have l4:jV b G (G.set c.length .no):=jV.set (by omega) λ_ _=>rfl;refine⟨G.set c.length .no,iO S.length,iV<|(i t).map Ask.d,iV<|(m.filter λr=>!hit m (i t) t r).map Rd.d,pX c.length (.lst<|(m.filter λr=>!hit m (i t) t r).map Rd.d) z,pX c.length (.lst<|(m.filter λr=>!hit m (i t) t r).map Rd.d) y,?_,⟨?_,λj C=>ni (l.bnd j<|by rw[aP]at C;exact C) rfl,?_,ni l.st rfl,h.o0⟩,((gr.lw<|by omega).trans l3).trans l4⟩
 ·unfold sN;rw[jI<|j9 (acD (i9 (i4 (d:=.lst<|m.map Rd.d) rfl) jP) e1)<|aq rfl];rw[jI<|j9 (i4 (d:=.lst<|(i t).map Ask.d) hF)<|aq rfl];rw[jI<|j9 (show mY (λX=>(iT X).bind jy) _ c=.ok (.loc c.length) (c++[.li []])from rfl)<|aq rfl];show iY (mK _ _ _) _ [ba d0,ba d1,iO q,iV<|m.map Rd.d,ba<|jD (nm,t),iO S.length,iV<|(i t).map Ask.d,iO c.length,s8,s9] (c++[.li []])=_;rw[jI<|show mK (λX=>((dV 3) X).bind kd) (hV 8) (qS a Q I U T O N K) [ba d0,ba d1,iO q,iV<|m.map Rd.d,ba<|jD (nm,t),iO S.length,iV<|(i t).map Ask.d,iO c.length,s8,s9] (c++[.li []])=_ from e3];rw[Ai rfl l.ll (by omega) l.sl];show jk 3 _ [ba d0,ba d1,(if q=c.length then _ else iO q),iV<|m.map Rd.d,ba<|jD (nm,t),(if S.length=c.length then _ else iO S.length),iV<|(i t).map Ask.d,(if c.length=c.length then iV ((m.filter λr=>!hit m (i t) t r).map Rd.d)else _),pX c.length (.lst<|(m.filter λr=>!hit m (i t) t r).map Rd.d) z,pX c.length (.lst<|(m.filter λr=>!hit m (i t) t r).map Rd.d) y] _=_;rw[aw L,aw<|show¬S.length=c.length by omega,av rfl];rfl
 ·rw[au<|by omega];exact l.m0
 ·rw[au<|bV L];exact l.tt
theorem Jh(J:Jd a Q I U T O N K){i:T7->List Ask}(V:b<=q)(u d1:D):∀(c:List lX) (S:i6) (o:List D) (m:List Rd) (x t p n l k:Option Z),(∀d∈c,I [d.2.d]=.ok (.lst<|(i d.2).map Ask.d)/\sC (i d.2) d.2)->(∀r∈m,pA r)->Out S q o->o.length+m.length<10000->
 ∃v t4 G F C z y,kY (hV 4) (sN a Q I U T O N K b) (c.map jD) [ba u,ba d1,iO q,iV<|m.map Rd.d,x,t,p,n,l,k] S
  =.nx [ba u,ba d1,iO q,iV<|(c.foldl (kK i) (o,m)).2.map Rd.d,t4,G,F,C,z,y] v/\Out v q (c.foldl (kK i) (o,m)).1/\jV b S v
 |[],S,o,m,x,t,p,n,l,k,_,_,h,_=>⟨S,x,t,p,n,l,k,rfl,h,.refl _ _⟩
 |d::c,S,o,m,x,t,p,n,l,k,R,j,h,hz=>by
  obtain⟨S1,G,F,C,z,y,e1,h1,l1⟩:=Sb J d (R d<|.head _).1 (R d<|.head _).2 j h V hz u d1 t p n l k;have L:(kK i (o,m) d).1.length+(kK i (o,m) d).2.length<10000:=by show(o++(m.filter<|hit m (i d.2) d.2).map _).length+(m.filter λr=>!hit m (i d.2) d.2 r).length<10000;have:=EM (hit m (i d.2) d.2) m;rw[ar,ai];omega
  obtain⟨S2,u4,u5,u6,u7,u8,Y,e2,h2,l2⟩:=Jh J V u d1 c S1 (kK i (o,m) d).1 (kK i (o,m) d).2 (ba<|jD d) G F C z y (λr M=>R r<|.tail _ M) (λr M=>j r (bT.mp M).1) h1 L;refine⟨S2,u4,u5,u6,u7,u8,Y,?_,h2,l1.trans l2⟩;show pY (sN a Q I U T O N K b [ba u,ba d1,iO q,iV<|m.map Rd.d,ba<|jD d,t,p,n,l,k] S) (kY (hV 4) (sN a Q I U T O N K b)<|c.map jD)=_;rw[e1];exact e2
def TB(J:Jd a Q I U T O N K){i:T7->List Ask}(c:List lX)(m:List Rd)(hR:∀j∈c,I [j.2.d]=.ok (.lst<|(i j.2).map Ask.d)/\sC (i j.2) j.2)(h:∀r∈m,pA r)(V:m.length<10000)(u:S[0]?=some .mk)(p:mM S):
    ∃v,Gr S v/\i8 (yA a Q I U T O N K S.length (jx 10 [.d<|.lst<|m.map Rd.d,.d<|.lst<|c.map jD]) S)=.ok (.d<|.tup [.lst (judge i c m).1,.lst<|(judge i c m).2.map Rd.d]) v:=by
 have Z:=mz u;have gr:Gr S (S++[.li []]):=Gr.app λ_=>rfl;have hO:Out (S++[.li []]) S.length []:=⟨gr.get u,gr.bnd p,oO S _,rj (p _<|ah _) rfl,Z⟩;obtain⟨n,t4,t5,t6,t7,t8,t9,e1,t,M⟩:=Jh (b:=S.length) J (ah _) (.lst (m.map Rd.d)) (.lst (c.map jD)) c (S++[.li []]) [] m none none none none none none hR h hO (by simpa using V);have G:jV S.length n (n.set S.length .no):=jV.set (ah _) λ_ _=>rfl;have l:=((gr.lw<|ah _).trans M).trans G;refine⟨n.set S.length .no,⟨l.len,l.pre,l.sf,l.bnd⟩,?_⟩;unfold yA;show i8 (iY (jk 2 _) _ [iV<|m.map Rd.d,iV<|c.map jD,none,none,none,none,none,none,none,none] S)=_;rw[jI<|j9 (show mY (λX=>(iT X).bind jy) _ S=.ok (.loc S.length) (S++[.li []])from rfl)<|aq rfl];rw[jI (j9 (i4 (d:=.lst (m.map Rd.d)) (qs (uk (f:=Rd.d) (g:=Rd.d) (L:=m) rfl (by omega) λr Y=>by have k:=h r Y;show((R.ok<|D.str r.m).bind λx=>((R.ok<|D.int r.t).bind λy=>((Q [.int r.p,.int r.q]).bind λz=>(R.ok [z])).bind λC=>R.ok<|y::C).bind λF=>R.ok<|x::F).bind jv=_;rw[J.f r.p r.q k.n<|Aj k.q<|by decide,PX k.low];rfl))) (aq rfl))]
 show i8 (iY (mK _ _ _) _ [iV<|m.map Rd.d,iV<|c.map jD,iO S.length,iV<|m.map Rd.d,none,none,none,none,none,none]<|S++[.li []])=_;rw[jI<|show mK (λX=>((dV 1) X).bind kd) (hV 4) (sN a Q I U T O N K S.length) [iV<|m.map Rd.d,iV<|c.map jD,iO S.length,iV<|m.map Rd.d,none,none,none,none,none,none] (S++[.li []])=_ from e1];rw[Ai rfl t.tt (ah _) t.st];show i8 (jG _ [iV<|m.map Rd.d,iV<|c.map jD,(if S.length=S.length then iV (c.foldl (kK i) ([],m)).1 else _),iV<|(c.foldl (kK i) ([],m)).2.map Rd.d,_,_,_,_,_,_] _)=_;rw[av rfl,y_ret<|i4 (d:=.tup [.lst (judge i c m).1,.lst<|(judge i c m).2.map Rd.d]) rfl];rfl
end
variable{a:Ad}
abbrev sc(x b:Int):Cell:=.li [.d<|.int x,.d<|.int b]
abbrev sx(S:i6)(nn:Nat)(x b:Int):i6:=S.set nn (sc x b)
variable{S:i6}{nn:Nat}
def L3(c:nn<S.length)(x b:Int):(sx S nn x b)[nn]?=some (.li<|([.int x,.int b]:List D).map Z.d):=aD c
def uZ(c:nn<S.length)(x b:Int)(s):vw (sx S nn x b) (iO nn::s)=.sh (.lst [.int x,.int b])::vw (sx S nn x b) s:=by show nR _ _::_=_;rw[xj<|L3 c x b];rfl
def L5(c:nn<S.length){x b y:Int}{s}{f:jr}(h:f (iO nn::s) (sx S nn x b)=.ok (.d<|.int y) (sx S nn x b)):u3 0 (iQ 0) f (iO nn::s) (sx S nn x b)=.nx (iO nn::s) (sx S nn y b):=by
 unfold u3;rw[h]
 show(match D.int 0,(sx S nn x b)[nn]? with
  |.int j,some (.li zs)=>(match qx zs.length j with
   |some m=>lH.nx (iO nn::s) ((sx S nn x b).set nn (.li<|zs.set m<|.d<|.int y))
   |none=>.bad)
  |_,_=>.bad)=_
 rw[L3 c];show lH.nx (iO nn::s) ((sx S nn x b).set nn (sc y b))=_;rw[List.set_set]
def XX{i j:Int}(d:0<j)(c:j.natAbs<2^300):kR (.int i) (.int j)=.ok (.int<|i/j):=by have h:bits j<=300:=bits_le c;rw[Dt,av<|by unfold uL;simp only[aS,bx];omega,fZ _<|by omega]
def TQ(h:nn<S.length)(m x b:Int)(i:0<m)(p:m.natAbs<2^300)(bb):∃r c:Int,0<=r/\r<m/\i8 (yL a bb (jx 3 [.loc nn,.d<|.int m])<|sx S nn x b)=.ok (.d<|.int r) (sx S nn c b):=by
 have n:=c8 x (show m≠0 by omega);have l:=cL x i;unfold yL;show∃r c:Int,0<=r/\r<m/\i8 (iY (jM (qg _) _ _) _ [iO nn,iX m,none]<|sx S nn x b)=_;by_cases k:b=0
 ·subst k;refine⟨x%m,x/m,n,l,?_⟩;rw[pZ (z:=.d<|.int<|x%m) (S1:=sx S nn (x/m) 0)];·rfl
  ·rw[mX<|As (d:=true)<|by rw[uZ h];rfl];rw[jI<|j9 (vf (d:=.int<|x%m) (by rw[uZ h];show j5 (.int x) (.int m)=_;exact ou i) rfl)<|aq rfl];show iY (u3 0 _ _) _ [iO nn,iX m,iX<|x%m] (sx S nn x 0)=_;rw[jI<|L5 h (y:=x/m)<|vf (by rw[uZ h];show kR (.int x) (.int m)=_;exact XX i p) rfl];exact y_ret (i4 rfl)
 ·generalize o:(x%2147483647*48271+1013)%2147483629=c;generalize j:c*69621%2147483587/11%m=r;refine⟨r,c,by rw[<-j];exact c8 _ (by omega),by rw[<-j];exact cL _ i,?_⟩;rw[lQ (As (d:=false) (S:=sx S nn x b) (by rw[uZ h];show(R.ok (decide (b=0)):R Bool)=_;rw[aI k]))];rw[jI (L5 h (y:=c) (vf (by
   rw[uZ h];show(((((j5 (.int x) (.int 2147483647)).bind λy=>ku y (.int 48271)).bind λy=>kr y (.int 1013)).bind λy=>j5 y (.int 2147483629)))=_;rw[ou (by decide)];show(((ku (.int (x%2147483647)) (.int 48271)).bind λy=>kr y (.int 1013)).bind λy=>j5 y (.int 2147483629))=_;rw[Du (by decide) (by decide)];show j5 (.int (x%2147483647*48271+1013)) (.int 2147483629)=_;rw[ou (by decide),o]) rfl))]
  rw[y_ret<|vf (d:=.int r) (by rw[uZ h];show(((((ku (.int c)<|.int 69621).bind λy=>j5 y<|.int 2147483587).bind λy=>kR y<|.int 11).bind λy=>j5 y<|.int m))=_;rw[Du (by decide)<|by decide];show(((j5 (.int<|c*69621)<|.int 2147483587).bind λy=>kR y<|.int 11).bind λy=>j5 y<|.int m)=_;rw[ou<|by decide];show((kR (.int<|c*69621%2147483587)<|.int 11).bind λy=>j5 y<|.int m)=_;rw[wO (by decide)<|by decide];show j5 (.int<|c*69621%2147483587/11) (.int m)=_;rw[ou i,j]) rfl]
  rfl
def T7.Ok:T7->Prop
 |.at w=>PyData.strOk w=true
 |.far _ n=>0<=n
 |.times _ _ t=>t.Ok
 |.abs t=>t.Ok
 |.not t=>t.Ok
 |.bin _ l r=>l.Ok/\r.Ok
 |_=>True
structure Gd(Q:T7->Prop)(n k:Nat)(t:T7):Prop where
 ok:t.Ok
 dep:t.dep<=n
 sz:t.parts.length<=k
 w:Q t
def QS(t:T7):Prop:=∃s,s<=190/\Tw s t
def Pk(d:jo):Prop:=∀{S:i6} {nn},nn<S.length->∀m x b:Int,0<m->m.natAbs<2^300->∃r c:Int,0<=r/\r<m/\d [.loc nn,.d<|.int m] (sx S nn x b)=.ok (.d<|.int r) (sx S nn c b)
def Lw(c:jf):Prop:=∀t b:Int,0<b->b.natAbs<10^400->c [.int t,.int b]=.ok (fr t b)
def Gv(h:jo)(d:List Str)(Q:T7->Prop)(n k:Nat):Prop:=∀{S:i6} {nn:Nat},nn<S.length->∀x b:Int,∃(t:T7) (c:Int),Gd Q n k t/\h [.loc nn,.d<|.lst<|d.map D.str] (sx S nn x b)=.ok (.d t.d) (sx S nn c b)
variable{Zp Zt Zs Zc:jo}{Fl:jf}{b:Int}{ws:List Str}{Q:T7->Prop}{n k:Nat}
def Kw{m:Int}(d:0<m)(c:m<1000):m.natAbs<2^300:=aH (by omega:m.natAbs<1000) (by decide)
def ot(i:Pk Zp)(j:nn<S.length)(m x:Int)(h:0<m)(p:m<1000):∃r c:Int,0<=r/\r<m/\∀ρ:jg,ρ[0]?=some (iO nn)->zZ Zp (iN (zV 0) (iN (zD (iQ m)) i7)) ρ (sx S nn x b)=.ok (.d (.int r)) (sx S nn c b):=by obtain⟨r,c,o,l,e⟩:=i j m x b h (Kw h p);exact⟨r,c,o,l,λρ d=>lC (i9 (kW d)<|i9 (i4 rfl) jP) e⟩
def gv(h:Gv Zt ws Q n k)(d:nn<S.length)(x:Int):∃(t:T7) (c:Int),Gd Q n k t/\∀ρ:jg,ρ[0]?=some (iO nn)->ρ[1]?=some (iV (ws.map D.str))->zZ Zt (iN (zV 0) (iN (zD (dV 1)) i7)) ρ (sx S nn x b)=.ok (.d t.d) (sx S nn c b):=by obtain⟨t,c,i,e⟩:=h d x b;refine⟨t,c,i,λρ l j=>lC (i9 (kW l)<|i9 (i4 ?_) jP) e⟩;show dV 1 (kh ρ)=_;unfold dV kh;rw[aA,j];rfl
def JO{t b:Int}(d:0<b)(i:b<1000)(c:t.natAbs<1000):(lo t b).2≠0/\Sz 62 (lo t b).1/\Sz 62 (lo t b).2:=by have h:=oS (t:=t) (b:=b) (s:=62) (r:=62) (by omega) (aH c<|by decide) (aH (by omega:b.natAbs<1000)<|by decide);exact⟨h.2.2,h.1,h.2.1⟩
def Cs(c:Pk Zp)(u:Lw Fl)(d:nn<S.length)(m k x:Int)(i:0<m/\m<1000)(v:0<k/\k<900):∃p q o:Int,(q≠0/\Sz 62 p/\Sz 62 q)/\∀ρ:jg,ρ[0]?=some (iO nn)->
    zF Fl (iN (zZ Zp<|iN (zV 0)<|iN (zD<|iQ m) i7)<|iN (z2 kr (zD<|iQ 1)<|zZ Zp<|iN (zV 0)<|iN (zD<|iQ k) i7) i7) ρ (sx S nn x b)=.ok (.d<|.tup [.int p,.int q]) (sx S nn o b):=by
 obtain⟨r,l,G,F,z⟩:=ot (b:=b) c d m x i.1 i.2;obtain⟨s,j,D,C,y⟩:=ot (b:=b) c d k l v.1 (by omega);exact⟨_,_,j,JO (t:=r) (b:=1+s) (by omega) (by omega)<|by omega,λρ h=>l8 [.int r,.int<|1+s] (i9 (z ρ h)<|i9 (k6 (i4 rfl) (y ρ h) rfl) jP)<|u r (1+s) (by omega)<|aH (by omega:(1+s).natAbs<2000)<|by decide⟩
def Us(l:∀w∈ws,PyData.strOk w=true):mS (.lst<|ws.map D.str) (.lst [])=.ok (.bl<|!ws.isEmpty):=by
 have m:∀L:List Str,(∀w∈L,PyData.strOk w=true)->lN (L.map D.str)=true/\nJ (L.map D.str)=0:=by
  intro L;induction L with
  |nil=>intro _;exact⟨rfl,rfl⟩
  |cons w L i=>
   intro h;obtain⟨c,d⟩:=i λx j=>h x (.tail _ j);refine⟨?_,?_⟩
   ·show(PyData.strOk w&&lN (L.map D.str))=true;rw[h w<|.head _,c];rfl
   ·show max 0 (nJ<|L.map D.str)=0;rw[d];rfl
 obtain⟨c,d⟩:=m ws l;obtain⟨r,e,h⟩:=yr (a:=.lst (ws.map D.str)) (b:=.lst []) c rfl (by show nJ (ws.map D.str)+1<=60;omega) (by decide);unfold mS;rw[e];cases ws with
 |nil=>rw[h.mpr rfl];rfl
 |cons w L=>
  have:r=false:=by
   cases r with
   |false=>rfl
   |true=>cases h.mp rfl
  rw[this];rfl
def Rw(r:Int)(d:0<=r)(c:r<10):nO (.int r) (.lst [.int 1,.int 2,.int 8,.int 9])=.ok (.bl<|decide<|r=1\/r=2\/r=8\/r=9):=by
 obtain⟨r,rfl⟩:=bo d;have:r=0\/r=1\/r=2\/r=3\/r=4\/r=5\/r=6\/r=7\/r=8\/r=9:=by have:r<10:=Int.ofNat_lt.mp c;clear d c;revert r;decide
 rcases this with rfl|rfl|rfl|rfl|rfl|rfl|rfl|rfl|rfl|rfl<;>kernel_rfl
abbrev wd(ws:List Str):D:=.lst (ws.map D.str)
def T4(y:Pk Zp)(hl:Lw Fl)(T:∀w∈ws,PyData.strOk w=true)(o:ws.length<1000):Gv (λZ S=>i8<|yP a Fl Zp S.length (jx 4 Z) S) ws (Tw 62) 0 1:=by
 intro S nn o x b;obtain⟨r,l,r0,r1,e1⟩:=ot (b:=b) y o 10 x (by decide) (by decide);have nw:=Us T;have I:=Rw r r0 r1;have step:∀g:jH,iY (jk 2<|zZ Zp<|iN (zV 0)<|iN (zD<|iQ 10) i7) g [iO nn,ba<|wd ws,none,none] (sx S nn x b)=g [iO nn,ba<|wd ws,iX r,none] (sx S nn l b):=λg=>jI (j9 (e1 _ rfl)<|aq rfl);have O:∀S,zB (b1 tB<|d2 jU (dV 2)<|iQ 0) [iO nn,ba<|wd ws,iX r,none] S=.ok (decide<|r=0) S:=λS=>mL rfl;have M:∀S,zB (rD (b1 tB (d2 jU (dV 2) (iQ 8))) (b1 tB (d2 mS (dV 1) (jq (λρ=>(iT ρ).bind jy))))) [iO nn,ba (wd ws),iX r,none] S=.ok (decide (r=8)&&!ws.isEmpty) S:=λS=>mL (by show((R.ok (decide (r=8)):R Bool).bind λk=>if k=true then(mS (wd ws) (.lst [])).bind P2.tB else .ok false)=_;rw[nw];by_cases h:r=8<;>simp[h,R.bind,P2.tB])
 have L:∀S,zB (b1 tB<|d2 nO (dV 2)<|jq<|λρ=>((aa (iQ 1)<|aa (iQ 2)<|aa (iQ 8)<|aa (iQ 9) iT) ρ).bind jy) [iO nn,ba<|wd ws,iX r,none] S=.ok (decide<|r=1\/r=2\/r=8\/r=9) S:=λS=>mL (by show(nO (.int r)<|.lst [.int 1,.int 2,.int 8,.int 9]).bind P2.tB=_;rw[I];rfl)
 dsimp only;unfold yP;show∃(t:T7) (x':Int),Gd (Tw 62) 0 1 t/\i8 (iY _ _ [iO nn,ba<|wd ws,none,none]<|sx S nn x b)=_;rw[step];by_cases Y:r=0
 ·obtain⟨p,q,c,m,F⟩:=Cs (b:=b) y hl o 9 3 l (by decide) (by decide);refine⟨.num p q,c,⟨trivial,ah _,ah _,.num m.1 m.2.1 m.2.2⟩,?_⟩;rw[pZ (z:=.d (T7.num p q).d) (S1:=sx S nn c b)];·rfl
  ·rw[mX<|(O _).trans (by rw[aO Y])];exact y_ret (l8 [.str "num",.tup [.int p,.int q]] (i9 (i4 rfl)<|i9 (F _ rfl) jP) rfl)
 ·rw[lQ<|(O _).trans (by rw[aI Y])];by_cases G:r=8/\ws≠[]
  ·obtain⟨G,C⟩:=G;have lw:0<ws.length:=List.length_pos_iff.mpr C;obtain⟨k,c,k0,k1,F⟩:=y o (ws.length:Int) l b (by omega) (Kw (by omega)<|by omega);obtain⟨j,rfl⟩:=bo k0;have jl:j<ws.length:=by omega
   refine⟨.at ws[j],c,⟨T _<|b9 _,ah _,ah _,.at _⟩,?_⟩;rw[pZ (z:=.d (T7.at ws[j]).d) (S1:=sx S nn c b)];·rfl
   ·rw[mX<|(M _).trans (by rw[aO G,List.isEmpty_eq_false_iff.mpr C];rfl)];have ea:zZ Zp (iN (zV 0)<|iN (zD<|dA lL<|aa (dV 1) iT) i7) [iO nn,ba<|wd ws,iX r,none] (sx S nn l b)=.ok (.d<|.int (j:Int)) (sx S nn c b):=lC (i9 rfl<|i9 (i4 (d:=.int (ws.length:Int))<|by show lL [wd ws]=_;show R.ok (D.int ((ws.map D.str).length:Int))=_;rw[ai]) jP) F;refine y_ret (l8 [.str "at",.str ws[j]] (i9 (i4 rfl)<|i9 (k6 (x:=wd ws) (i4 rfl) ea ?_) jP) rfl);show(match L2.jY (ws.map D.str) (j:Int)with|some d=>R.ok d|none=>.bad)=_;rw[L2.ud<|show(ws.map D.str)[j]?=some (.str ws[j])by rw[aA,ao jl];rfl]
  ·rw[lQ ((M _).trans (by
    congr 1
    by_cases z:r=8
    · have:ws=[]:=cj λw=>G ⟨z,w⟩;rw[this];simp
    · rw[aI z];rfl))]
   by_cases U:r=1\/r=2\/r=8\/r=9
   ·refine⟨.here,l,⟨trivial,ah _,ah _,.here⟩,?_⟩;rw[pZ (z:=.d T7.here.d) (S1:=sx S nn l b)];·rfl
    ·rw[mX<|(L _).trans (by rw[aO U])];exact y_ret (i4 rfl)
   ·rw[lQ<|(L _).trans (by rw[aI U])];obtain⟨f,c,f0,f1,F⟩:=ot (b:=b) y o 3 l (by decide) (by decide);rw[jI<|j9 (z:=.d<|.int<|1+f) (k6 (i4 rfl) (F _ rfl) rfl)<|aq rfl];have v:∃(n i:Int),0<=n/\jM (zB<|b1 tB<|d2 jU (dV 3)<|iQ 3) (jk 3<|z2 kr (zD<|iQ 1)<|zZ Zp<|iN (zV 0)<|iN (zD<|iQ 9) i7) kf [iO nn,ba<|wd ws,iX r,iX<|1+f] (sx S nn c b)=.nx [iO nn,ba<|wd ws,iX r,iX n] (sx S nn i b):=by
     by_cases V:1+f=3
     ·obtain⟨g,i,g0,g1,J⟩:=ot (b:=b) y o 9 c (by decide) (by decide);refine⟨1+g,i,by omega,?_⟩;rw[mX (mL (d:=true) (by show(R.ok (decide (1+f=3)):R Bool)=_;rw[aO V]))];exact j9 (k6 (i4 rfl) (J _ rfl) rfl) (aq rfl)
     ·refine⟨1+f,c,by omega,?_⟩;rw[vc<|mL (d:=false)<|by show(R.ok<|decide<|1+f=3:R Bool)=_;rw[aI V]];rfl
    obtain⟨n,i,u,J⟩:=v;show∃(t:T7) (x':Int),Gd (Tw 62) 0 1 t/\i8 (iY _ _ [iO nn,ba<|wd ws,iX r,iX<|1+f]<|sx S nn c b)=_;rw[jI J];have hk:r=3\/r=4\/r=5\/r=6\/r=7:=by omega
    rcases hk with rfl|rfl|rfl|rfl|rfl;·exact⟨.far .back n,i,⟨u,ah _,ah _,.far _ _⟩,by kernel_rfl⟩
    ·exact⟨.far .back n,i,⟨u,ah _,ah _,.far _ _⟩,by kernel_rfl⟩
    ·exact⟨.far .on n,i,⟨u,ah _,ah _,.far _ _⟩,by kernel_rfl⟩
    ·exact⟨.far .ago n,i,⟨u,ah _,ah _,.far _ _⟩,by kernel_rfl⟩
    ·exact⟨.far .rX n,i,⟨u,ah _,ah _,.far _ _⟩,by kernel_rfl⟩
def uy{n k}{Q':T7->Prop}(q)(d:Gd Q n k l)(c:Gd Q n k r)(w:Q'<|.bin q l r):Gd Q' (n+1) (2*k+1) (.bin q l r):=
 ⟨⟨d.ok,c.ok⟩,by show max l.dep r.dep+1<=n+1;have:=d.dep;have:=c.dep;omega,by show(l.parts++r.parts).length+1<=_;rw[ar];have:=d.sz;have:=c.sz;omega,w⟩
def Gd.up{n k}{c:T7->Prop}{t}(h:Gd Q n k t)(i:n<=m)(d:k<=j)(w:Q t->c t):Gd c m j t:=⟨h.ok,aU h.dep i,aU h.sz d,w h.w⟩
def T3(F:Pk Zp)(M:Lw Fl)(D:Gv Zt ws (Tw 62) 0 1):Gv (λJ S=>i8<|yO a Fl Zp Zt S.length (jx 5 J) S) ws QS 2 4:=by
 intro S nn o x b;obtain⟨r,L,Y,V,U⟩:=ot (b:=b) F o 6 x (by decide) (by decide);obtain⟨t,l,c,T⟩:=gv (b:=b) D o L;dsimp only;unfold yO;show∃(m:T7) (C:Int),Gd QS 2 4 m/\i8 (iY _ _ [iO nn,ba<|wd ws,none,none,none]<|sx S nn x b)=_;rw[jI<|j9 (U _ rfl)<|aq rfl,jI<|j9 (T _ rfl rfl)<|aq rfl];show∃(m:T7) (C:Int),Gd QS 2 4 m/\i8 (iY (jM _ _ _) _ [iO nn,ba<|wd ws,iX r,ba t.d,none]<|sx S nn l b)=_;by_cases I:r=3
 ·obtain⟨p,q,h,i,y⟩:=Cs (b:=b) F M o 4 3 l (by decide) (by decide);refine⟨.times p q t,h,⟨c.ok,by show t.dep+1<=2;have:=c.dep;omega,by show t.parts.length+1<=4;have:=c.sz;omega,⟨62+62,by decide,.times i.1 i.2.1 i.2.2 c.w (by decide)⟩⟩,?_⟩;rw[pZ (z:=.d (T7.times p q t).d) (S1:=sx S nn h b)];·rfl
  ·rw[mX<|mL (d:=true)<|by show(R.ok<|decide<|r=3:R Bool)=_;rw[aO I]];exact y_ret (l8 [.str "times",.tup [.int p,.int q],t.d] (i9 (i4 rfl)<|i9 (y _ rfl)<|i9 (i4 rfl) jP) rfl)
 ·rw[lQ<|mL (d:=false)<|by show(R.ok<|decide<|r=3:R Bool)=_;rw[aI I]];by_cases G:3<r
  ·refine⟨t,l,c.up (by decide) (by decide) λw=>⟨62,by decide,w⟩,?_⟩;rw[pZ (z:=.d t.d) (S1:=sx S nn l b)];·rfl
   ·rw[mX<|mL (d:=true)<|by show(R.ok<|decide<|r>3:R Bool)=_;rw[aO G]];exact y_ret (i4 rfl)
  ·rw[lQ (mL (d:=false) (by show(R.ok (decide (r>3)):R Bool)=_;rw[aI G]))];obtain⟨u,h,j,y⟩:=gv (b:=b) D o l;rw[jI<|j9 (y _ rfl rfl)<|aq rfl];show∃(m:T7) (C:Int),Gd QS 2 4 m/\i8 (iY (jM _ _ _) _ [iO nn,ba<|wd ws,iX r,ba t.d,ba u.d]<|sx S nn h b)=_;have O:r=0\/r=1\/r=2:=by omega
   rcases O with rfl|rfl|rfl
   ·have v:=uy (Q':=QS) .sub c j ⟨62+62+1,by decide,.sub c.w j.w (by decide)<|by decide⟩;exact⟨.abs<|.bin .sub t u,h,⟨v.ok,by show(T7.bin .sub t u).dep+1<=2;have:=v.dep;omega,by show(T7.bin .sub t u).parts.length+1<=4;have:=v.sz;omega,⟨62+62+1,by decide,.abs<|.sub c.w j.w (by decide)<|by decide⟩⟩,by kernel_rfl⟩
   ·exact⟨.bin .add t u,h,(uy (Q':=QS) .add c j ⟨62+62+1,by decide,.add c.w j.w (by decide)<|by decide⟩).up (by decide) (by decide) id,by kernel_rfl⟩
   ·exact⟨.bin .sub t u,h,(uy (Q':=QS) .sub c j ⟨62+62+1,by decide,.sub c.w j.w (by decide)<|by decide⟩).up (by decide) (by decide) id,by kernel_rfl⟩
def Tp(I:Pk Zp)(Z:Lw Fl)(L:Gv Zs ws QS 2 4):Gv (λT S=>i8<|yI a Fl Zp Zs S.length (jx 4 T) S) ws Cw 3 9:=by
 intro S nn j x b;obtain⟨r,U,r0,r1,e1⟩:=ot (b:=b) I j 3 x (by decide) (by decide);obtain⟨t,F,C,e2⟩:=gv (b:=b) L j U;obtain⟨k,D,k0,k1,e3⟩:=ot (b:=b) I j 2 F (by decide) (by decide);have hk:∃q:Bq,(∀t u,QS t->QS u->Cw (.bin q t u))/\jS (.lst [.str "<",.str "<",.str "="]) (.int r)=.ok (.str q.s):=by
  have:r=0\/r=1\/r=2:=by omega
  rcases this with rfl|rfl|rfl;·exact⟨.lt,λ_ _ ⟨_,v,o⟩ ⟨_,m,l⟩=>.lt o l v m,rfl⟩
  ·exact⟨.lt,λ_ _ ⟨_,v,o⟩ ⟨_,m,l⟩=>.lt o l v m,rfl⟩
  ·exact⟨.eq,λ_ _ ⟨_,v,o⟩ ⟨_,m,l⟩=>.eq o l v m,rfl⟩
 obtain⟨q,i,Y⟩:=hk;dsimp only;unfold yI;show∃(G:T7) (V:Int),Gd Cw 3 9 G/\i8 (iY _ _ [iO nn,ba<|wd ws,none,none]<|sx S nn x b)=_;rw[jI<|j9 (k6 (i4 (d:=.lst [.str "<",.str "<",.str "="]) rfl) (e1 _ rfl) Y)<|aq rfl,jI<|j9 (e2 _ rfl rfl)<|aq rfl];show∃(G:T7) (V:Int),Gd Cw 3 9 G/\i8 (iY (jM _ _ _) _ [iO nn,ba<|wd ws,ba<|.str q.s,ba t.d]<|sx S nn F b)=_;have h:nD tB (z2 jU (zZ Zp<|iN (zV 0)<|iN (zD<|iQ 2) i7)<|zD<|iQ 0) [iO nn,ba<|wd ws,ba<|.str q.s,ba t.d] (sx S nn F b)=.ok (decide<|k=0) (sx S nn D b):=vg (k6 (e3 _ rfl) (i4 rfl) rfl) rfl;by_cases M:k=0
 ·obtain⟨p,s,y,c,J⟩:=Cs (b:=b) I Z j 6 2 D (by decide) (by decide);have R:Gd QS 2 4 (T7.num p s):=⟨trivial,by show 0<=2;decide,by show 1<=4;decide,⟨62,by decide,.num c.1 c.2.1 c.2.2⟩⟩;refine⟨.bin q t<|.num p s,y,uy q C R<|i _ _ C.w R.w,?_⟩;rw[pZ (z:=.d (T7.bin q t<|.num p s).d) (S1:=sx S nn y b)];·rfl
  ·rw[mX<|h.trans<|by rw[aO M]];exact y_ret (l8 [.str q.s,t.d,.tup [.str "num",.tup [.int p,.int s]]] (i9 (i4 rfl)<|i9 (i4 rfl)<|i9 (l8 [.str "num",.tup [.int p,.int s]] (i9 (i4 rfl)<|i9 (J _ rfl) jP) rfl) jP) rfl)
 ·rw[lQ<|h.trans<|by rw[aI M]];obtain⟨u,y,O,J⟩:=gv (b:=b) L j D;refine⟨.bin q t u,y,uy q C O<|i _ _ C.w O.w,?_⟩;rw[y_ret<|l8 [.str q.s,t.d,u.d] (i9 (i4 rfl)<|i9 (i4 rfl)<|i9 (J _ rfl rfl) jP) rfl];rfl
def Tq(I:Pk Zp)(m:Gv Zc ws Cw 3 9):Gv (λy S=>i8<|yJ a Zp Zc S.length (jx 4 y) S) ws Cw 4 19:=by
 intro S nn l x b;obtain⟨r,D,U,T,O⟩:=ot (b:=b) I l 6 x (by decide) (by decide);obtain⟨t,h,c,M⟩:=gv (b:=b) m l D;dsimp only;unfold yJ;show∃(i:T7) (F:Int),Gd Cw 4 19 i/\i8 (iY _ _ [iO nn,ba<|wd ws,none,none]<|sx S nn x b)=_;rw[jI<|j9 (O _ rfl)<|aq rfl,jI<|j9 (M _ rfl rfl)<|aq rfl];show∃(i:T7) (F:Int),Gd Cw 4 19 i/\i8 (iY (jM _ _ _) _ [iO nn,ba<|wd ws,iX r,ba t.d]<|sx S nn h b)=_;by_cases p:r<3
 ·refine⟨t,h,c.up (by decide) (by decide) id,?_⟩;rw[pZ (z:=.d t.d) (S1:=sx S nn h b)];·rfl
  ·rw[mX<|mL (d:=true)<|by show(R.ok<|decide<|r<3:R Bool)=_;rw[aO p]];exact y_ret (i4 rfl)
 ·rw[lQ<|mL (d:=false)<|by show(R.ok<|decide<|r<3:R Bool)=_;rw[aI p]];by_cases o:r=3
  ·refine⟨.not t,h,⟨c.ok,by show t.dep+1<=4;have:=c.dep;omega,by show t.parts.length+1<=19;have:=c.sz;omega,.not c.w⟩,?_⟩;rw[pZ (z:=.d (T7.not t).d) (S1:=sx S nn h b)];·rfl
   ·rw[mX<|mL (d:=true)<|by show(R.ok<|decide<|r=3:R Bool)=_;rw[aO o]];exact y_ret (i4 rfl)
  ·rw[lQ (mL (d:=false) (by show(R.ok (decide (r=3)):R Bool)=_;rw[aI o]))];obtain⟨u,C,v,L⟩:=gv (b:=b) m l h;have J:∃q:Bq,(∀t u,Cw t->Cw u->Cw (.bin q t u))/\∀S:i6,zD (d2 jS (jq<|λρ=>((aa (jc "and")<|aa (jc "or") iT) ρ).bind jy)<|d2 pe (dV 2)<|iQ 4) [iO nn,ba<|wd ws,iX r,ba t.d] S=.ok (.d<|.str q.s) S:=by
    have:r=4\/r=5:=by omega
    rcases this with rfl|rfl;·exact⟨.and,λ_ _=>.and,λS=>i4 rfl⟩
    ·exact⟨.or,λ_ _=>.or,λS=>i4 rfl⟩
   obtain⟨q,j,G⟩:=J;refine⟨.bin q t u,C,uy q c v<|j _ _ c.w v.w,?_⟩;rw[y_ret<|l8 [.str q.s,t.d,u.d] (i9 (G _)<|i9 (i4 rfl)<|i9 (L _ rfl rfl) jP) rfl];rfl
end WM
namespace WP
open PySem L2 P2 TM T2 PySem.NumText
variable{a:Ad}
def n8(j:Int):Nat:=(L2.jY (Str.ofString "qxz").cps.toList j).getD 0
def nH(j:Int):Nat:=(L2.jY (Str.ofString "abcdefghijklmnopqrstuvwxyz").cps.toList j).getD 0
def G3(j:Int)(h:0<=j/\j<3):n8 j<128/\L2.jY (Str.ofString "qxz").cps.toList j=some (n8 j):=by obtain⟨c,i,d⟩:=R4 j h;unfold n8;rw[d];exact⟨i,rfl⟩
def Oo(j:Int)(h:0<=j/\j<26):nH j<128/\L2.jY (Str.ofString "abcdefghijklmnopqrstuvwxyz").cps.toList j=some (nH j):=by obtain⟨c,i,d⟩:=RW j h;unfold nH;rw[d];exact⟨i,rfl⟩
def Oq{i j:Int}(k:0<=i/\i<26)(d:0<=j/\j<26)(h:nH i=nH j):i=j:=by
 have c:∀n:Nat,n<26->nH (n:Int)=97+n:=by decide+kernel
 obtain⟨n,rfl⟩:=bo k.1;obtain⟨m,rfl⟩:=bo d.1;have o:=c n (by omega);have l:=c m (by omega);have:nH (n:Int)=nH (m:Int):=h;omega
def more(c:Int)(d:List Int)(z:Str):Str:=d.foldl (λz j=>z++⟨#[n8<|c/(3+j)%3]⟩) z
theorem Ms(c:Int)(s1 s2 s3 s4):∀d z k,(∀j∈d,0<=j/\j<100)->PyData.strOk z=true->z.length+d.length<=100->
 ∃h,PyData.strOk (more c d z)=true/\(more c d z).length=z.length+d.length/\oa (gV 6) (vF a) (d.map D.int) [.sh<|.int c,s1,s2,s3,s4,.sh<|.str z,k]=.nx [.sh<|.int c,s1,s2,s3,s4,.sh<|.str<|more c d z,h]
 |[],z,k,_,m,n=>⟨k,m,by simp[more],rfl⟩
 |j::d,z,k,o,m,n=>by
  have q:=o j (bF ..);rw[aj]at n;obtain⟨t,p⟩:=G3 (c/(3+j)%3) (by omega);have y:kR (.int c) (.int<|3+j)=.ok (.int<|c/(3+j)):=wO (by omega) (by omega);have l:(⟨#[n8<|c/(3+j)%3]⟩:Str).length=1:=rfl;have C:kr (.str z) (.str ⟨#[n8 (c/(3+j)%3)]⟩)=.ok (.str (z++⟨#[n8 (c/(3+j)%3)]⟩)):=wN (by omega) (by rw[l];decide);obtain⟨h,x,v,u⟩:=Ms c s1 s2 s3 s4 d (z++⟨#[n8 (c/(3+j)%3)]⟩) (.sh (.int j)) (λi r=>o i (aZ _ r)) (zr m (CK t)) (by rw[len_app,l];omega);refine⟨h,x,by show(more c d (z++_)).length=_;rw[v,len_app,l,aj];omega,?_⟩;rw[aT,X4];walk_at "d"
  have e:vF a [.sh<|.int c,s1,s2,s3,s4,.sh<|.str z,.sh<|.int j]=.nx [.sh<|.int c,s1,s2,s3,s4,.sh<|.str<|z++⟨#[n8<|c/(3+j)%3]⟩,.sh<|.int j]:=by unfold vF;iterate 4 (walk_at "d";try simp only[y,av lq,p,C])
  rw[e,Lf];exact u
def qA(c:Int):Str:=more c ((List.range (c/312%7).toNat).map λ(k:Nat)=>(k:Int)) (Str.ofString "")
def nP(c st k:Int):Str:=⟨#[nH<|(c+k*st)%26]⟩++⟨#[n8<|k/26%3]⟩
def nC(c st k:Int):Str:=if c/2184%2=1 then qA c++nP c st k else nP c st k++qA c
def N0(n:Nat)(h:n<12):∃st:Int,(st%26≠0/\st*2%26≠0)/\0<st/\st<26/\L2.jY [D.int 1,.int 3,.int 5,.int 7,.int 9,.int 11,.int 15,.int 17,.int 19,.int 21,.int 23,.int 25] (n:Int)=some (.int st):=by
 have:n=0\/n=1\/n=2\/n=3\/n=4\/n=5\/n=6\/n=7\/n=8\/n=9\/n=10\/n=11:=by revert n;decide
 rcases this with rfl|rfl|rfl|rfl|rfl|rfl|rfl|rfl|rfl|rfl|rfl|rfl<;>exact⟨_,by decide,by decide,by decide,rfl⟩
def Ub(c:Int):∃st:Int,(st%26≠0/\st*2%26≠0)/\∀k:Int,0<=k->k<26->PyData.strOk (nC c st k)=true/\jO (vZ a<|jT 7 [.int c,.int k])=.ok (.str<|nC c st k):=by
 obtain⟨n,D⟩:=bo (show 0<=c/26%12 by omega);obtain⟨st,M,I,G,p⟩:=N0 n (by omega);refine⟨st,M,λk R Q=>?_⟩;have mk:ku (.int k) (.int st)=.ok (.int<|k*st):=Du (by omega) (by omega);obtain⟨Y,v⟩:=Oo ((c+k*st)%26) (by omega);obtain⟨V,u⟩:=G3 (k/26%3) (by omega);have C:(⟨#[nH<|(c+k*st)%26]⟩:Str).length=1:=rfl;have y:(⟨#[n8<|k/26%3]⟩:Str).length=1:=rfl;have ad:kr (.str ⟨#[nH ((c+k*st)%26)]⟩) (.str ⟨#[n8 (k/26%3)]⟩)=.ok (.str (nP c st k)):=wN (by rw[C];decide) (by rw[y];decide);have l:PyData.strOk (nP c st k)=true:=zr (CK Y) (CK V);have L:(nP c st k).length=2:=by unfold nP;rw[len_app,C,y]
 obtain⟨d,m⟩:∃d,d=nP c st k:=⟨_,rfl⟩;have h:d=(⟨#[nH<|(c+k*st)%26]⟩:Str)++⟨#[n8<|k/26%3]⟩:=m;rw[<-m]at ad l L;have O:0<=c/312%7/\c/312%7<7:=by omega
 have x:qD [.int<|c/312%7]=.ok (pP 0 (c/312%7).toNat):=Dv O.1 (by omega);have e0:PyData.strOk (Str.ofString "")=true:=by decide+kernel
 have o:(Str.ofString "").length=0:=by decide
 obtain⟨J,g1,Z,F⟩:=Ms (a:=a) c (.sh (.int k)) (.sh (.str (Str.ofString "abcdefghijklmnopqrstuvwxyz"))) (.sh (.int st)) (.sh (.str d)) ((List.range (c/312%7).toNat).map λ(k:Nat)=>(k:Int)) (Str.ofString "") .no (λj T=>by obtain⟨i,U,rfl⟩:=az.mp T;have:=bK.mp U;omega) e0 (by rw[o,ai,dO];omega)
 rw[<-Lk]at F;have lz:(qA c).length<=7:=by show(more c _ _).length<=7;rw[Z,o,ai,dO];omega
 have q:oa (gV 6) (vF a) (pP 0 (c/312%7).toNat) [.sh<|.int c,.sh<|.int k,.sh<|.str<|Str.ofString "abcdefghijklmnopqrstuvwxyz",.sh<|.int st,.sh<|.str d,.sh<|.str<|Str.ofString "",.no]=.nx [.sh<|.int c,.sh<|.int k,.sh<|.str<|Str.ofString "abcdefghijklmnopqrstuvwxyz",.sh<|.int st,.sh<|.str d,.sh<|.str<|qA c,J]:=F;have r:PyData.strOk (qA c)=true:=g1;unfold nC;rw[<-m];generalize qA c=z at*;have a1:kr (.str z) (.str d)=.ok (.str<|z++d):=wN (by omega) (by omega);have a2:kr (.str d) (.str z)=.ok (.str<|d++z):=wN (by omega) (by omega);by_cases t:c/2184%2=1
 ·rw[av t];refine⟨zr r l,?_⟩;unfold vZ;iterate 6 (walk_at "d";try simp only[D,p,mk,av lq,av la,v,u,<-h,x])
  simp only[q];iterate 6 (walk_at "d";try simp only[t,a1,fM])
 ·rw[aw t];refine⟨zr l r,?_⟩;unfold vZ;iterate 6 (walk_at "d";try simp only[D,p,mk,av lq,av la,v,u,<-h,x])
  simp only[q];iterate 6 (walk_at "d";try simp only[t,a2,eQ])
def ui(x y:Str):(x++y).cps.toList=x.cps.toList++y.cps.toList:=by show(x.cps++y.cps).toList=_;simp
def ES{c st i j:Int}(n:st%26≠0/\st*2%26≠0)(p:0<=i/\i<3)(o:0<=j/\j<3)(h:i≠j):nC c st i≠nC c st j:=by
 intro w;have e:nP c st i=nP c st j:=by
  unfold nC at w;have inj:∀x y:Str,x.cps=y.cps->x=y:=λx y h=>by cases x;cases y;exact bG Str.mk h
  split at w
  ·have l:=bG (λs:Str=>s.cps.toList) w;refine inj _ _ (d4.mp ?_);have k:(qA c).cps.toList++(nP c st i).cps.toList=(qA c).cps.toList++(nP c st j).cps.toList:=by rw[<-ui,<-ui];exact l
   exact List.append_cancel_left k
  ·have l:=bG (λs:Str=>s.cps.toList) w;refine inj _ _ (d4.mp ?_);have k:(nP c st i).cps.toList++(qA c).cps.toList=(nP c st j).cps.toList++(qA c).cps.toList:=by rw[<-ui,<-ui];exact l
   exact List.append_cancel_right k
 have m:nH ((c+i*st)%26)=nH ((c+j*st)%26):=by
  have:=bG (λs:Str=>s.cps.toList[0]?) e;unfold nP at this;try dsimp only at this
  rw[ui,ui]at this;exact Option.some.inj this
 have q:=Oq (by omega) (by omega) m;have d:(i=0\/i=1\/i=2)/\(j=0\/j=1\/j=2):=by omega
 rcases d with⟨rfl|rfl|rfl,rfl|rfl|rfl⟩<;>omega
end WP
namespace WM
open PySem L2 P2 WP TM T2 PySem.NumText
variable{a:Ad}
def Vl(h:jo):Prop:=∀{S:i6} {c},c<S.length->∀x b:Int,∃p q d:Int,(FM.oG p q/\Sz 62 p/\Sz 62 q)/\h [.loc c] (sx S c x b)=.ok (.d<|pr p q) (sx S c d b)
def JN(p:Int):FM.oG p 1:=⟨by decide,by simp⟩
section
variable{l i:jo}{m o:jf}
def T8(h:Pk l)(T:Lw m):Vl (λJ S=>i8<|yQ a m l S.length (jx 2 J) S):=by
 intro S y j x b;obtain⟨r,n,r0,r1,V⟩:=ot (b:=b) h j 8 x (by decide) (by decide);dsimp only;unfold yQ;show∃p q M:Int,_/\i8 (iY (jk 1 _) _ [iO y,none]<|sx S y x b)=_;rw[jI<|j9 (V _ rfl)<|aq rfl];show∃p q M:Int,_/\i8 (iY _ _ [iO y,iX r]<|sx S y n b)=_;by_cases G:r=7
 ·obtain⟨u,c,Z,Y,k⟩:=h j (10^60) n b (by decide) (by decide);obtain⟨v,L,D,C,U⟩:=ot (b:=b) h j 2 c (by decide) (by decide);have hv:v=0\/v=1:=by omega
  have z:Sz 62 u:=aH (show u.natAbs<10^60 by omega) (by decide);have O:Sz 62 (1 - 2*v):=aH (show(1 - 2*v).natAbs<10 by omega) (by decide);have Q:Sz 62 (u*(1 - 2*v)):=by
   rcases hv with rfl|rfl;·rw[show u*(1 - 2*0)=u by omega];exact z
   ·rw[show u*(1 - 2*1)= -u by omega];unfold Sz;rw[Int.natAbs_neg];exact z
  refine⟨u*(1 - 2*v),1,L,⟨JN _,Q,wA⟩,?_⟩;rw[xl (mL (d:=true)<|by show(R.ok<|decide<|r=7:R Bool)=_;rw[aO G])<|y_ret<|l8 [.int<|u*(1 - 2*v),.int 1] (i9 (k6 (lC (i9 (kW rfl)<|i9 (i4 (d:=.int<|10^60) rfl) jP) k) (k6 (i4 (d:=.int 1) rfl) (k6 (i4 (d:=.int 2) rfl) (U _ rfl)<|YF (by decide)<|by decide) (w:=.int<|1 - 2*v) rfl)<|pN (z.mono<|by decide)<|O.mono<|by decide)<|i9 (i4 (d:=.int 1) rfl) jP) rfl];rfl
 ·rw[lQ<|mL (d:=false)<|by show(R.ok<|decide<|r=7:R Bool)=_;rw[aI G]];by_cases I:r=6
  ·obtain⟨v,c,D,C,k⟩:=ot (b:=b) h j 9 n (by decide) (by decide);have F:=JO (t:=v - 3) (b:=2) (by decide) (by decide) (by omega);refine⟨_,_,c,⟨FM.Ct (t:=v - 3) (b:=2)<|by decide,F.2.1,F.2.2⟩,?_⟩;rw[xl (mL (d:=true) (by show(R.ok (decide (r=6)):R Bool)=_;rw[aO I])) (y_ret (l8 [.int (v - 3),.int 2] (i9 (k6 (k _ rfl) (i4 (d:=.int 3) rfl) (w:=.int (v - 3)) rfl) (i9 (i4 (d:=.int 2) rfl) jP)) (T (v - 3) 2 (by decide) (by decide))))];rfl
  ·rw[lQ (mL (d:=false) (by show(R.ok (decide (r=6)):R Bool)=_;rw[aI I]))];obtain⟨v,c,D,C,k⟩:=ot (b:=b) h j 4 n (by decide) (by decide);refine⟨v,1,c,⟨JN _,aH (show v.natAbs<10 by omega)<|by decide,wA⟩,?_⟩;rw[y_ret<|l8 [.int v,.int 1] (i9 (k _ rfl)<|i9 (i4 (d:=.int 1) rfl) jP) rfl];rfl
structure m6(row:List Rd):Prop where
 ok:∀r∈row,pA r/\PyData.strOk r.m=true
 nd:(row.map jX).Nodup
def m6.add(h:m6 row)(p:pA r)(n:PyData.strOk r.m=true)(k:∀s∈row,jX s≠jX r):m6 (row++[r]):=by
 refine⟨λs c=>?_,?_⟩
 ·rcases aW.mp c with w|w;·exact h.ok s w
  ·rw[aM]at w;subst w;exact⟨p,n⟩
 ·rw[bq];refine eU.mpr ⟨h.nd,by simp,λx j y d e=>?_⟩;obtain⟨s,c,rfl⟩:=az.mp j;have:y=jX r:=by simpa using d
  exact k s c (by rw[e,this])
structure Mk(B:i6)(nr nn:Nat)(row:List Rd):Prop extends Out B nr (row.map Rd.d) where
 hn:nn<B.length
 ne:nr≠nn
 n0:0<nn
section
variable{B:i6}{f c b0:Nat}{a:List Rd}{ρ:jg}
def Mk.out(h:Mk B f c a)(x b:Int):Out (sx B c x b) f (a.map Rd.d):=
 ⟨by have:=h.n0;rw[au<|by omega];exact h.m0,λj d=>ni (h.bnd j<|by rw[aP]at d;exact d)<|my [.int x,.int b] _,by rw[au<|bV h.ne];exact h.tt,ni h.st<|my [.int x,.int b] _,h.o0⟩
def jV.sx(d:b0<=c)(x b:Int):jV b0 B (sx B c x b):=jV.set d λj _=>my [.int x,.int b] j
def Gn(hv:Vl i)(h:Mk B f c a)(u:b0<=f)(F:a.length<10000){w:Str}{t:Int}{f1 f2:jw}(y:ρ[4]?=some (iO f))(v:ρ[7]?=some (iO c))(D:f1 (kh ρ)=.ok (.str w))(C:f2 (kh ρ)=.ok (.int t))(x b:Int):
    ∃(p q d:Int) (n:i6),(FM.oG p q/\Sz 62 p/\Sz 62 q)/\oz 4 (zF jv<|iN (zD f1)<|iN (zD f2)<|iN (zZ i<|iN (zV 7) i7) i7) ρ (sx B c x b)=.nx ρ (sx n c d b)/\Mk n f c (a++[⟨w,t,p,q⟩])/\jV b0 B n:=by
 obtain⟨p,q,d,k,e⟩:=hv h.hn x b;refine⟨p,q,d,B.set f (.li (((a++[(⟨w,t,p,q⟩:Rd)]).map Rd.d).map .d)),k,?_,⟨⟨?_,λj r=>ni (h.bnd j (by rw[aP]at r;exact r)) (my _ _),aD (mz h.tt),ni h.st (my _ _),h.o0⟩,by rw[aP];exact h.hn,h.ne,h.n0⟩,jV.wW u⟩
 ·have z:zF jv (iN (zD f1)<|iN (zD f2)<|iN (zZ i<|iN (zV 7) i7) i7) ρ (sx B c x b)=.ok (.d<|Rd.d ⟨w,t,p,q⟩) (sx B c d b):=l8 [.str w,.int t,pr p q] (i9 (i4 D)<|i9 (i4 C)<|i9 (lC (i9 (kW v) jP) e) jP) rfl;rw[vb y (h.out x b).tt z (h.out d b).tt (by rw[ai,ai];omega)];rw[List.set_comm _ _<|bV h.ne,bq,bq];rfl
 ·have:=h.o0;rw[au<|by omega];exact h.m0
end
end
variable{a:Ad}
def abd(c:List Str)(h:c.length<64):∃L:List Str,L.Perm c/\wY (.lst<|c.map D.str)=.ok (L.map D.str):=by
 let bk:D->Str:=λd=>match d with|.str x=>x|_=>Str.ofString ""
 have i:mi (c.map D.str)=true:=yX (λ_=>rfl) c;refine⟨(ky<|c.map D.str).map bk,?_,?_⟩
 ·have:=(mV<|c.map D.str).map bk;rw[aX,show bk∘D.str=id from rfl,List.map_id]at this;exact this
 ·show(if mi (c.map D.str)=true/\(c.map D.str).length<64 then R.ok (ky<|c.map D.str)else .bad)=_;rw[av ⟨i,by rw[ai];exact h⟩,aX]
  congr 1
  refine((cm λd j=>?_).trans (List.map_id' _)).symm;obtain⟨w,_,rfl⟩:=az.mp ((mV _).mem_iff.mp j);rfl
structure W3(ws:List Str):Prop where
 ok:∀w∈ws,PyData.strOk w=true
 nd:ws.Nodup
 len:ws.length=3
def L9{t:Int}(d:0<=t)(c:t<10000000000):Sz 61 t:=aH (show t.natAbs<10000000000 by omega) (by decide)
section
variable{Zp F:jo}{Fc:jf}{E A b0:Nat}{C:List Str}
def R8(W:W3 C)(c:Int):∃w∈C,((j5 (.int c)<|.int 3).bind λi=>jS (.lst<|C.map D.str) i)=.ok (.str w):=by
 have l:=c8 c (show(3:Int)≠0 by decide);have m:=cL c (show(0:Int)<3 by decide);obtain⟨j,k⟩:=bo l;have h:j<C.length:=by rw[W.len];omega
 refine⟨C[j],b9 _,?_⟩;rw[ou<|by decide,k];show(match L2.jY (C.map D.str) (j:Int)with|some d=>R.ok d|none=>.bad)=_;rw[L2.ud<|show(C.map D.str)[j]?=some (.str C[j])by rw[aA,ao h];rfl]
theorem nine(hv:Vl F)(W:W3 C)(Y:b0<=E)(u o n:Option Z)(c b:Int)(m j i:Option Z):∀(l:List D) (T:Int) (row:List Rd) (B:i6) (x:Int) (I:Option Z),Mk B E A row->m6 row->(∀r∈row,r.t<T)->0<=T->T+l.length<10000000000->row.length+l.length<9000->
 ∃(y:Int) (d:List Rd) (G:i6) (L:Int) (M:Option Z),kY (hV 9) (sM a Fc Zp F) l [u,o,n,iV<|C.map D.str,iO E,iX T,iX c,iO A,m,I,j,i] (sx B A x b)
  =.nx [u,o,n,iV<|C.map D.str,iO E,iX y,iX c,iO A,m,M,j,i] (sx G A L b)/\Mk G E A d/\m6 d/\(∀r∈d,r.t<y)/\T<=y/\y<=T+l.length/\d.length=row.length+l.length/\jV b0 B G
 |[],T,row,B,x,I,h,z,J,h0,h1,V=>⟨T,row,B,x,I,rfl,h,z,J,iM _,by simp,rfl,.refl _ _⟩
 |k::l,T,row,B,x,I,h,z,J,h0,h1,V=>by
  rw[aj]at h1 V;obtain⟨w,hw,ew⟩:=R8 W c;obtain⟨p,q,U,B1,v,e1,h2,l1⟩:=Gn (b0:=b0) (ρ:=[u,o,n,iV (C.map D.str),iO E,iX T,iX c,iO A,m,ba k,j,i]) (w:=w) (t:=T) (f1:=d2 jS (dV 3) (d2 j5 (dV 6) (iQ 3))) (f2:=dV 5) hv h Y (by omega) rfl rfl ew rfl x b;have R:m6 (row++[⟨w,T,p,q⟩]):=z.add ⟨L9 h0<|show T<10000000000 by omega,v.1,v.2.1,v.2.2⟩ (W.ok w hw) λs hs e=>by have:s.t=T:=bG Prod.fst e;have:=J s hs;omega
  obtain⟨y,d,G,L,M,e2,h3,Q,O,g1,g2,g3,l2⟩:=nine hv W Y u o n c b m j i l (T+1) (row++[⟨w,T,p,q⟩]) B1 U (ba k) h2 R (λr z=>by
   rcases aW.mp z with w'|w';· have:=J r w';omega
   · rw[aM]at w';subst w';show T<T+1;omega) (by omega) (by omega) (by rw[ar];simp;omega)
  refine⟨y,d,G,L,M,?_,h3,Q,O,by omega,by rw[aj];omega,by rw[g3,ar,aj];simp;omega,l1.trans l2⟩;have st:sM a Fc Zp F [u,o,n,iV<|C.map D.str,iO E,iX T,iX c,iO A,m,ba k,j,i] (sx B A x b)=.nx [u,o,n,iV<|C.map D.str,iO E,iX<|T+1,iX c,iO A,m,ba k,j,i] (sx B1 A U b):=by unfold sM;rw[jI e1];rfl
  show pY (sM a Fc Zp F [u,o,n,iV<|C.map D.str,iO E,iX T,iX c,iO A,m,ba k,j,i]<|sx B A x b) (kY (hV 9) (sM a Fc Zp F) l)=_;rw[st];exact e2
theorem three(hv:Vl F)(hb:b0<=E)(I G y u:Option Z)(T:Int)(h0:0<=T)(h1:T<10000000000)(o:Option Z)(b:Int)(n m d:Option Z):∀(L:List Str) (row:List Rd) (B:i6) (x:Int) (i:Option Z),Mk B E A row->m6 row->(∀w∈L,PyData.strOk w=true)->L.Nodup->(∀r∈row,r.t<=T)->(∀r∈row,r.t=T->r.m∉L)->row.length+L.length<9000->
 ∃(c:List Rd) (M:i6) (O:Int) (j:Option Z),kY (hV 11) (vG a Fc Zp F) (L.map D.str) [I,G,y,u,iO E,iX T,o,iO A,n,m,d,i] (sx B A x b)
  =.nx [I,G,y,u,iO E,iX T,o,iO A,n,m,d,j] (sx M A O b)/\Mk M E A c/\m6 c/\(∀r∈c,r.t<=T)/\c.length=row.length+L.length/\jV b0 B M
 |[],row,B,x,i,h,k,_,_,R,_,_=>⟨row,B,x,i,rfl,h,k,R,rfl,.refl _ _⟩
 |w::L,row,B,x,i,h,k,ho,hd,R,hn,hz=>by
  rw[aj]at hz;obtain⟨p,q,x1,B1,l,e1,h2,l1⟩:=Gn (b0:=b0) (ρ:=[I,G,y,u,iO E,iX T,o,iO A,n,m,d,ba (.str w)]) (w:=w) (t:=T) (f1:=dV 11) (f2:=dV 5) hv h hb (by omega) rfl rfl rfl rfl x b;have J:=bB.mp hd;have V:m6 (row++[⟨w,T,p,q⟩]):=k.add ⟨L9 h0 h1,l.1,l.2.1,l.2.2⟩ (ho w<|.head _) λs hs e=>by have e1:s.t=T:=bG Prod.fst e;have Y:s.m=w:=bG Prod.snd e;exact hn s hs e1 (by rw[Y];exact .head _)
  obtain⟨c,M,O,j,Y,h3,U,Q,g3,l2⟩:=three hv hb I G y u T h0 h1 o b n m d L (row++[⟨w,T,p,q⟩]) B1 x1 (ba (.str w)) h2 V (λv hv=>ho v (.tail _ hv)) J.2 (λr k=>by
   rcases aW.mp k with w'|w';· exact R r w'
   · rw[aM]at w';subst w';exact iM _) (λr k e=>by
   rcases aW.mp k with w'|w';· exact λz=>hn r w' e (.tail _ z)
   · rw[aM]at w';subst w';exact J.1) (by rw[ar];simp;omega)
  refine⟨c,M,O,j,?_,h3,U,Q,by rw[g3,ar,aj];simp;omega,l1.trans l2⟩;show pY (vG a Fc Zp F [I,G,y,u,iO E,iX T,o,iO A,n,m,d,ba<|.str w]<|sx B A x b) (kY (hV 11) (vG a Fc Zp F)<|L.map D.str)=_;rw[show vG a Fc Zp F [I,G,y,u,iO E,iX T,o,iO A,n,m,d,ba<|.str w] (sx B A x b)=_ from e1];exact Y
def aa7(W:W3 C)(r:Int)(m:0<=r)(l:r<12):∃(k:List Int) (L:List Str),L.Nodup/\(∀w∈L,w∈C)/\L.length<=3/\
    jS (.lst [.lst [.int 0],.lst [.int 0],.lst [.int 0],.lst [.int 1],.lst [.int 0,.int 1],.lst [.int 0,.int 1,.int 2],.lst [.int 2],.lst [.int 0,.int 2],.lst [.int 1,.int 2],.lst [.int 1],.lst [.int 0],.lst [.int 0,.int 1]]) (.int r)=.ok (.lst<|k.map D.int)/\k.map (λi=>jS (.lst<|C.map D.str)<|.int i)=L.map λw=>R.ok (D.str w):=by
 have p:∃u v w,C=[u,v,w]:=by
  have o:=W.len;match C,o with
  |[u,v,w],_=>exact⟨u,v,w,rfl⟩
 obtain⟨u,v,w,rfl⟩:=p;have d:=W.nd;simp only[bB,aE,bU,dU,iG]at d;obtain⟨⟨c,j⟩,h,_⟩:=d;obtain⟨r,rfl⟩:=bo m;have n:r=0\/r=1\/r=2\/r=3\/r=4\/r=5\/r=6\/r=7\/r=8\/r=9\/r=10\/r=11:=by have:r<12:=Int.ofNat_lt.mp l;clear m l;revert r;decide
 rcases n with rfl|rfl|rfl|rfl|rfl|rfl|rfl|rfl|rfl|rfl|rfl|rfl;·exact⟨[0],[u],by simp,by simp,by simp,rfl,rfl⟩
 ·exact⟨[0],[u],by simp,by simp,by simp,rfl,rfl⟩
 ·exact⟨[0],[u],by simp,by simp,by simp,rfl,rfl⟩
 ·exact⟨[1],[v],by simp,by simp,by simp,rfl,rfl⟩
 ·exact⟨[0,1],[u,v],by simp[c],by simp,by simp,rfl,rfl⟩
 ·exact⟨[0,1,2],[u,v,w],by simp[c,j,h],by simp,by simp,rfl,rfl⟩
 ·exact⟨[2],[w],by simp,by simp,by simp,rfl,rfl⟩
 ·exact⟨[0,2],[u,w],by simp[j],by simp,by simp,rfl,rfl⟩
 ·exact⟨[1,2],[v,w],by simp[h],by simp,by simp,rfl,rfl⟩
 ·exact⟨[1],[v],by simp,by simp,by simp,rfl,rfl⟩
 ·exact⟨[0],[u],by simp,by simp,by simp,rfl,rfl⟩
 ·exact⟨[0,1],[u,v],by simp[c],by simp,by simp,rfl,rfl⟩
variable{a:Ad}
variable{S:i6}{o:List Rd}
def ET{c:Ev->R (List D)}(e:c (kh ρ)=.ok ds):mK c h gb ρ S=kY h gb ds ρ S:=by unfold mK;rw[e];rfl
def zC(h:Pk Zp)(j:A<S.length)(i)(m x b:Int)(n:0<m)(p:m<10000):∃r c:Int,0<=r/\r<m/\∀ρ:jg,ρ[i]?=some (iO A)->zZ Zp (iN (zV i) (iN (zD (iQ m)) i7)) ρ (sx S A x b)=.ok (.d (.int r)) (sx S A c b):=by obtain⟨r,c,l,k,e⟩:=h j m x b n (aH (by omega:m.natAbs<10000)<|by decide);exact⟨r,c,l,k,λρ d=>lC (i9 (kW d)<|i9 (i4 rfl) jP) e⟩
abbrev Cl(Fc:jf):Prop:=∀(ns:List Int) (k:Nat),Fc [.lst<|ns.map .int,.int k]=.ok (.int<|ns.getD k 0)
def aam(hp:Pk Zp)(hv:Vl F)(hc:Cl Fc)(W:W3 C)(hb:b0<=E)(q:List Int)(u:Option Z)(l T c:Int)(h:Out S E<|o.map Rd.d)(hr:m6 o)(ht:∀r∈o,r.t<=T)(h0:0<=T)(h1:T<9000000000)(hz:o.length<=5000)(s7 U J n m:Option Z):
    (l<o.length/\rC a Fc Zp F [iV<|q.map .int,u,iX l,iV<|C.map D.str,iO E,iX T,iX c,s7,U,J,n,m] S=.bk [iV<|q.map .int,u,iX l,iV<|C.map D.str,iO E,iX T,iX c,s7,U,J,n,m] S)
    \/(o.length<=l/\∃(T':Int) (t:List Rd) (S':i6) (t7 V z Y M:Option Z),rC a Fc Zp F [iV (q.map .int),u,iX l,iV (C.map D.str),iO E,iX T,iX c,s7,U,J,n,m] S=.nx [iV (q.map .int),u,iX l,iV (C.map D.str),iO E,iX T',iX c,t7,V,z,Y,M] S'
     /\Out S' E (t.map Rd.d)/\m6 t/\(∀r∈t,r.t<=T')/\T<=T'/\T'<=T+4000/\t.length<=o.length+12/\jV b0 S S'):=by
 have Mb:∀k:Bool,decide (l<(o.length:Int))=k->qg (b1 tB<|d2 rN (dA lL<|aa (dV 4) iT)<|dV 2) [iV<|q.map .int,u,iX l,iV<|C.map D.str,iO E,iX T,iX c,s7,U,J,n,m] S=.ok k S:=λk hk=>by refine As ?_;show(b1 tB<|d2 rN (dA lL<|aa (dV 4) iT)<|dV 2) [_,_,.sh<|.int l,_,nR S<|iO E,_,_,_,_,_,_,_]=_;rw[xj h.tt];show R.ok (decide<|l<(((o.map Rd.d).length:Nat):Int))=_;rw[ai,hk]
 unfold rC;by_cases hm:l<(o.length:Int)
 ·left;refine⟨hm,?_⟩;unfold iY;rw[mX<|Mb true<|aO hm];rfl
 right;refine⟨by omega,?_⟩;rw[lQ<|Mb false<|aI hm];generalize hbb:q.getD 0 0/7%2=b;have e7:mY (λρ=>((aa (dV 6)<|aa (d2 j5 (d2 kR (dA Fc<|aa (dV 0)<|aa (iQ 0) iT)<|iQ 7)<|iQ 2) iT) ρ).bind jy) [iV<|q.map .int,u,iX l,iV<|C.map D.str,iO E,iX T,iX c,s7,U,J,n,m] S=.ok (.loc S.length) (S++[sc c b]):=by show(lJ ((((((Fc [.lst<|q.map .int,.int (0:Nat)]).bind λx=>kR x<|.int 7).bind λy=>j5 y<|.int 2).bind λy=>R.ok [y]).bind λys=>R.ok<|D.int c::ys).bind jy) S).bind _=_;rw[hc q 0];show(lJ ((((((kR (.int<|q.getD 0 0)<|.int 7).bind λy=>j5 y<|.int 2).bind λy=>R.ok [y]).bind λys=>R.ok<|D.int c::ys).bind jy)) S).bind _=_;rw[wO (by decide)<|by decide];show(lJ (((((j5 (.int<|q.getD 0 0/7)<|.int 2).bind λy=>R.ok [y]).bind λys=>R.ok<|D.int c::ys).bind jy)) S).bind _=_;rw[ou<|by decide,hbb];rfl
 rw[jI<|j9 e7<|aq rfl];have Q4:=mz h.tt;have gB:Gr S (S++[sc c b]):=Gr.app λj=>my [.int c,.int b] j;have hn:S.length<(S++[sc c b]).length:=by rw[ar];exact b8 _
 have mB:Mk (S++[sc c b]) E S.length o:=⟨⟨gB.get h.m0,gB.bnd h.bnd,gB.get h.tt,gB.sf _ Q4 h.st,h.o0⟩,hn,by omega,by have:=h.o0;omega⟩;have lB:jV b0 S (S++[sc c b]):=gB.lw (by omega);have eB:S++[sc c b]=sx (S++[sc c b]) S.length c b:=(uW S _ _).symm;generalize S++[sc c b]=B at*;generalize S.length=A at*;rw[eB];obtain⟨r4,x1,r40,r41,e4⟩:=zC hp hn 7 4 c b (by decide) (by decide);show∃(T':Int) (t:List Rd) (S':i6) (t7 V z Y M:Option Z),iY _ _ [iV<|q.map .int,u,iX l,iV<|C.map D.str,iO E,iX T,iX c,iO A,U,J,n,m] (sx B A c b)=_/\_;rw[jI<|j9 (k6 (i4 (d:=.int<|T+1) rfl) (e4 _ rfl) (w:=.int<|T+1+r4) rfl)<|aq rfl];obtain⟨r9,x2,r90,r91,e9⟩:=zC hp hn 7 9 x1 b (by decide) (by decide);have far:∃(O x3:Int),T+1<=O/\O<=T+3900/\jM (nD tB<|z2 jU (zZ Zp<|iN (zV 7)<|iN (zD<|iQ 9) i7)<|zD<|iQ 1) (jk 5<|z2 kr (zD<|dV 5)<|zZ Zp<|iN (zV 7)<|iN (zD<|iQ 3000) i7) kf [iV<|q.map .int,u,iX l,iV<|C.map D.str,iO E,iX<|T+1+r4,iX c,iO A,U,J,n,m] (sx B A x1 b)=.nx [iV<|q.map .int,u,iX l,iV<|C.map D.str,iO E,iX O,iX c,iO A,U,J,n,m] (sx B A x3 b):=by
  have z:nD tB (z2 jU (zZ Zp<|iN (zV 7)<|iN (zD<|iQ 9) i7)<|zD<|iQ 1) [iV<|q.map .int,u,iX l,iV<|C.map D.str,iO E,iX<|T+1+r4,iX c,iO A,U,J,n,m] (sx B A x1 b)=.ok (decide<|r9=1) (sx B A x2 b):=vg (k6 (e9 _ rfl) (i4 (d:=.int 1) rfl) (w:=.bl<|decide<|r9=1) rfl) rfl;by_cases h9:r9=1
  ·rw[aO h9]at z;obtain⟨r3,x3,r30,r31,e3⟩:=zC hp hn 7 3000 x2 b (by decide) (by decide);refine⟨T+1+r4+r3,x3,by omega,by omega,?_⟩;rw[mX z,j9 (k6 (i4 (d:=.int<|T+1+r4) rfl) (e3 _ rfl) (w:=.int<|T+1+r4+r3) rfl)<|aq rfl];rfl
  ·rw[aI h9]at z;exact⟨T+1+r4,x2,by omega,by omega,(vc z).trans rfl⟩
 obtain⟨O,x3,T20,T21,ef⟩:=far;show∃(T':Int) (t:List Rd) (S':i6) (t7 V z Y M:Option Z),iY _ _ [iV<|q.map .int,u,iX l,iV<|C.map D.str,iO E,iX<|T+1+r4,iX c,iO A,U,J,n,m] (sx B A x1 b)=_/\_;rw[jI ef];obtain⟨I,x4,ZQ,ZR,e8⟩:=zC hp hn 7 12 x3 b (by decide) (by decide);rw[jI<|j9 (e8 _ rfl)<|aq rfl];show∃(T':Int) (t:List Rd) (S':i6) (t7 V z Y M:Option Z),iY _ _ [iV<|q.map .int,u,iX l,iV<|C.map D.str,iO E,iX O,iX c,iO A,iX I,J,n,m] (sx B A x4 b)=_/\_;have IV:∀r∈o,r.t<O:=λr hr=>by have:=ht r hr;omega
 have Uu:∃(Q:Int) (p:List Rd) (B3:i6) (x5:Int) (z:Option Z),jM (qg<|rD (b1 tB<|d2 jU (dV 8)<|iQ 11)<|b1 tB<|d2 m9 (dA lL<|aa (dV 4) iT)<|iQ 50) (mK (λρ=>((aa (iQ 9) iT) ρ).bind qD) (hV 9)<|sM a Fc Zp F) kf [iV<|q.map .int,u,iX l,iV<|C.map D.str,iO E,iX O,iX c,iO A,iX I,J,n,m] (sx B A x4 b)
  =.nx [iV<|q.map .int,u,iX l,iV<|C.map D.str,iO E,iX Q,iX c,iO A,iX I,z,n,m] (sx B3 A x5 b)/\Mk B3 E A p/\m6 p/\(∀r∈p,r.t<Q)/\O<=Q/\Q<=O+9/\p.length<=o.length+9/\jV b0 B B3:=by
  have V:qg (rD (b1 tB<|d2 jU (dV 8)<|iQ 11)<|b1 tB<|d2 m9 (dA lL<|aa (dV 4) iT)<|iQ 50) [iV<|q.map .int,u,iX l,iV<|C.map D.str,iO E,iX O,iX c,iO A,iX I,J,n,m] (sx B A x4 b)=.ok (decide (I=11)&&decide ((o.length:Int)<50)) (sx B A x4 b):=by refine As ?_;show(rD (b1 tB<|d2 jU (dV 8)<|iQ 11)<|b1 tB<|d2 m9 (dA lL<|aa (dV 4) iT)<|iQ 50) [_,_,_,_,nR _<|iO E,_,_,_,.sh<|.int I,_,_,_]=_;rw[xj (mB.out x4 b).tt];show(if decide (I=11)=true then R.ok (decide<|(((o.map Rd.d).length:Nat):Int)<50)else R.ok false)=_;rw[ai];cases decide (I=11)<;>rfl
  cases hk:(decide (I=11)&&decide ((o.length:Int)<50))with
  |false=>rw[hk]at V;exact⟨O,o,B,x4,J,(vc V).trans rfl,mB,hr,IV,iM _,by omega,by omega,.refl _ _⟩
  |true=>rw[hk]at V;obtain⟨Q,p,B3,x5,z,e5,m3,r3,l3,g1,g2,g3,g4⟩:=nine (a:=a) (Fc:=Fc) (Zp:=Zp) hv W hb (iV (q.map .int)) u (iX l) c b (iX I) n m (pP 0 9) O o B x4 J mB hr IV (by omega) (show O+9<10000000000 by omega) (show o.length+9<9000 by omega);exact⟨Q,p,B3,x5,z,(mX V).trans e5,m3,r3,l3,g1,g2,iH g3,g4⟩
 obtain⟨Q,p,B3,x5,z,en,m3,Rb,IW,T30,T31,hl3,l3⟩:=Uu;rw[jI en];obtain⟨G,L,Qj,hL2,hL3,yo,sW⟩:=aa7 W I ZQ ZR;rw[jI<|j9 (i4 (d:=.lst<|G.map D.int) yo)<|aq rfl];obtain⟨L',pL,eL⟩:=abd L (by omega);have it:((jq<|λρ=>((jq<|kA (λρ=>((dV 10) ρ).bind kd) 1 [3] (gV 0) (λ_=>.ok true)<|d2 jS (dV 1)<|dV 0) ρ).bind wY) (kh [iV<|q.map .int,u,iX l,iV<|C.map D.str,iO E,iX Q,iX c,iO A,iX I,z,iV<|G.map D.int,m])).bind kd=.ok (L'.map D.str):=by
  have cp:∀(G:List Int) (L:List Str),G.map (λi=>jS (.lst<|C.map D.str)<|.int i)=L.map (λw=>R.ok<|D.str w)->l0 (gV 0) (λ_=>R.ok true) (d2 jS (dV 1)<|dV 0) [.no,.sh<|.lst<|C.map D.str] (G.map D.int)=some (L.map D.str):=by
   intro G;induction G with
   |nil=>intro L h;cases L with|nil=>rfl|cons _ _=>cases h
   |cons i G ih=>
    intro L h;cases L with
    |nil=>cases h
    |cons w L=>rw[aT,aT,List.cons.injEq]at h;rw[aT,aT];unfold l0;show((pM<|jS (.lst<|C.map D.str)<|.int i).bind λv=>(l0 (gV 0) (λ_=>R.ok true) (d2 jS (dV 1)<|dV 0) [.no,.sh<|.lst<|C.map D.str]<|G.map D.int).bind λvs=>some<|v::vs)=_;rw[h.1,ih L h.2];rfl
  have ixl:G.length<=3:=by have:=bG List.length sW;rw[ai,ai]at this;omega
  have hd:kA (λρ=>((dV 10) ρ).bind kd) 1 [3] (gV 0) (λ_=>.ok true) (d2 jS (dV 1)<|dV 0) (kh [iV<|q.map .int,u,iX l,iV<|C.map D.str,iO E,iX Q,iX c,iO A,iX I,z,iV<|G.map D.int,m])=.ok (L.map D.str):=by show(if(G.map D.int).length<=sizeLine then tu (l0 (gV 0) (λ_=>R.ok true) (d2 jS (dV 1)<|dV 0) [.no,.sh<|.lst<|C.map D.str]<|G.map D.int)else .bad)=_;rw[av<|by rw[ai];exact cO (qG<|by omega),cp G L sW];rfl
  rw[qs (X:=L'.map D.str)<|by rw[qs hd];exact eL];rfl
 obtain⟨aal,B4,x6,M,yp,m4,Rc,Rh,QQ,l4⟩:=three (a:=a) (Fc:=Fc) (Zp:=Zp) hv hb (iV (q.map .int)) u (iX l) (iV (C.map D.str)) Q (by omega) (by omega) (iX c) b (iX I) z (iV (G.map D.int)) L' p B3 x5 m m3 Rb (λw hw=>W.ok w (hL2 w (pL.mem_iff.mp hw))) (pL.nodup_iff.mpr Qj) (λr hr=>by have:=IW r hr;omega) (λr hr e=>by have:=IW r hr;omega) (by rw[pL.length_eq];omega);refine⟨Q,aal,sx B4 A x6 b,iO A,iX I,z,iV (G.map D.int),M,?_,m4.out x6 b,Rc,Rh,by omega,by omega,by rw[QQ,pL.length_eq];omega,((lB.trans l3).trans l4).trans (jV.sx (by omega) x6 b)⟩;show mK _ _ _ [iV<|q.map .int,u,iX l,iV<|C.map D.str,iO E,iX Q,iX c,iO A,iX I,z,iV<|G.map D.int,m] (sx B3 A x5 b)=_;exact(ET it).trans yp
theorem Lr(hp:Pk Zp)(hv:Vl F)(hc:Cl Fc)(W:W3 C)(hb:b0<=E)(u:List Int)(t:Option Z)(d:Int)(hm:d<=1000):∀(v:List Int) (T:Int) (o:List Rd) (S:i6) (y n m l j i:Option Z),Out S E (o.map Rd.d)->m6 o->(∀r∈o,r.t<=T)->0<=T->T+v.length*4000<9000000000->(o.length:Int)<=d+12->
 ∃(k:List Rd) (S':i6) (t5 t6 O M L q p:Option Z),kY (hV 6) (rC a Fc Zp F) (v.map D.int) [iV<|u.map .int,t,iX d,iV<|C.map D.str,iO E,iX T,y,n,m,l,j,i] S
  =.nx [iV<|u.map .int,t,iX d,iV<|C.map D.str,iO E,t5,t6,O,M,L,q,p] S'/\Out S' E (k.map Rd.d)/\m6 k/\(k.length:Int)<=d+12/\jV b0 S S'
 |[],T,o,S,y,n,m,l,j,i,h,G,_,_,_,Y=>⟨o,S,_,y,n,m,l,j,i,rfl,h,G,Y,.refl _ _⟩
 |c::v,T,o,S,y,n,m,l,j,i,h,G,ht,h0,h1,Y=>by
  rw[aj]at h1;have st:∀x:lH,pY (rC a Fc Zp F [iV<|u.map .int,t,iX d,iV<|C.map D.str,iO E,iX T,iX c,n,m,l,j,i] S) (kY (hV 6) (rC a Fc Zp F)<|v.map D.int)=x->kY (hV 6) (rC a Fc Zp F) ((c::v).map D.int) [iV<|u.map .int,t,iX d,iV<|C.map D.str,iO E,iX T,y,n,m,l,j,i] S=x:=λx hx=>hx;rcases aam (b0:=b0) (a:=a) hp hv hc W hb u t d T c h G ht h0 (by omega) (by omega) n m l j i with⟨_,e⟩|⟨hle,T',k,S',O,M,L,q,p,e,h',U,Q,g1,g2,g3,l1⟩;·exact⟨o,S,_,_,n,m,l,j,i,st _ (by rw[e];rfl),h,G,Y,.refl _ _⟩
  ·obtain⟨z,S2,u5,u6,u7,u8,u9,J,I,e2,h2,R,V,l2⟩:=Lr hp hv hc W hb u t d hm v T' k S' (iX c) O M L q p h' U Q (by omega) (by push_cast at h1;omega) (by omega);exact⟨z,S2,u5,u6,u7,u8,u9,J,I,st _ (by rw[e];exact e2),h2,R,V,l1.trans l2⟩
def OL{c:Type}(f)(d:List c)(lo hi):∃h:List c,cutD (d.map f) lo hi=h.map f/\h.length<=d.length:=by
 unfold cutD;refine⟨?_,?_,?_⟩
 rotate_left
 ·rw[ai,<-List.map_drop,<-List.map_take]
 ·rw[cJ,cz];omega
def TV(J:Pk Zp)(hv:Vl F)(p:Cl Fc)(W:W3 C)(i:List Int)(L:i.length<=63)(first c:Int)(M:c<=1000/\0<=c)(t:S[0]?=some .mk)(q:mM S):
    ∃(o:List Rd) (S':i6),m6 o/\(o.length:Int)<=c+12/\Gr S S'/\i8 (yM a Fc Zp F S.length (jx 12 [.d<|.lst<|i.map .int,.d<|.int first,.d<|.int c,.d<|.lst<|C.map D.str]) S)=.ok (.d<|.lst<|o.map Rd.d) S':=by
 have Q:=mz t;have gr:Gr S (S++[.li []]):=Gr.app λ_=>rfl;have U:Out (S++[.li []]) S.length (([]:List Rd).map Rd.d):=⟨gr.get t,gr.bnd q,oO S _,rj (q _<|ah _) rfl,Q⟩;obtain⟨j,Y,lc⟩:=OL D.int i (some first) (some<|first+60);have n:=c8 (i.getD 1 0) (show(10^9 - 10^6:Int)≠0 by decide);have y:=cL (i.getD 1 0) (show(0:Int)<10^9 - 10^6 by decide);generalize hT:i.getD 1 0%(10^9 - 10^6)=T at n y;have k:T+(j.length:Int)*4000<9000000000:=by
  have V:(j.length:Int)<=63:=by omega
  omega
 obtain⟨o,m,t5,t6,t7,t8,t9,v,u,Z,r,I,O,G⟩:=Lr (b0:=S.length) (a:=a) J hv p W (ah _) i (iX first) c M.1 j T [] (S++[.li []]) none none none none none none U ⟨(λ_ h=>nomatch h),List.Pairwise.nil⟩ (λ_ h=>nomatch h) n k (by simp;omega);have z:jV S.length m (m.set S.length .no):=jV.set (ah _) λ_ _=>rfl;have l:=((gr.lw<|ah _).trans G).trans z;refine⟨o,m.set S.length .no,I,O,⟨l.len,l.pre,l.sf,l.bnd⟩,?_⟩;unfold yM;show i8 (iY (jk 4 _) _ [iV<|i.map .int,iX first,iX c,iV<|C.map D.str,none,none,none,none,none,none,none,none] S)=_;rw[jI<|j9 (show mY (λρ=>(iT ρ).bind jy) _ S=.ok (.loc S.length) (S++[.li []])from rfl)<|aq rfl];rw[jI (j9 (i4 (d:=.int T) (by show((Fc [.lst (i.map .int),.int (1:Nat)]).bind λx=>j5 x (.int (10^9 - 10^6)))=_;rw[p i 1];show j5 (.int<|i.getD 1 0) (.int<|10^9 - 10^6)=_;rw[ou (by decide),hT])) (aq rfl))]
 show i8 (iY (mK _ _ _) _ [iV<|i.map .int,iX first,iX c,iV<|C.map D.str,iO S.length,iX T,none,none,none,none,none,none]<|S++[.li []])=_;rw[jI<|(ET (ds:=j.map D.int)<|by show R.ok (cutD (i.map D.int) (some first)<|some<|first+60)=_;rw[Y]).trans Z]
 rw[Ai rfl r.tt (ah _) r.st];show i8 (jG _ [iV<|i.map .int,iX first,iX c,iV<|C.map D.str,(if S.length=S.length then iV (o.map Rd.d)else _),_,_,_,_,_,_,_] _)=_;rw[av rfl,y_ret<|i4 (d:=.lst<|o.map Rd.d) rfl];rfl
end
variable{a:Ad}
structure ua(R:List lX):Prop where
 ok:∀r∈R,PyData.strOk r.1=true/\Gd Cw 4 19 r.2
section
variable{q:jo}{p:jf}{m b0:Nat}{i:List Str}{S:i6}
def oj:List D:=[.str "a",.str "bb",.str "ab",.str "ba",.str "c",.str "b",.str "aa",.str "d",.str "e",.str "f",.str "g",.str "h"]
def wx:List Str:=["a","bb","ab","ba","c","b","aa","d","e","f","g","h"]
def Ux:∀w∈wx,PyData.strOk w=true:=by decide+kernel
def Uw(k:Nat)(h:k<12):∃c:Str,PyData.strOk c=true/\jS (.lst oj) (.int k)=.ok (.str c):=by have j:k<wx.length:=h;refine⟨wx[k],Ux _<|b9 _,?_⟩;show(match L2.jY oj (k:Int)with|some d=>R.ok d|none=>.bad)=_;rw[L2.ud<|show oj[k]?=some (.str wx[k])by rw[show oj=wx.map D.str from rfl,aA,ao j];rfl]
theorem Lu(hg:Gv q i Cw 4 19)(V:Cl p)(hb:b0<=m)(l:List Int)(first:Nat)(n:Option Z):∀(z:List Nat) (R:List lX) (S:i6) (I u:Option Z),Out S m (R.map jD)->ua R->(∀k∈z,k<12)->R.length+z.length<1000->
 ∃(R':List lX) (S':i6) (M L:Option Z),kY (hV 6) (ue a p q) (z.map λ(k:Nat)=>D.int (k:Int)) [iV<|l.map .int,iX first,n,iV<|i.map D.str,iV oj,iO m,I,u] S
  =.nx [iV<|l.map .int,iX first,n,iV<|i.map D.str,iV oj,iO m,M,L] S'/\Out S' m (R'.map jD)/\ua R'/\R'.length=R.length+z.length/\jV b0 S S'
 |[],R,S,I,u,h,hR,_,_=>⟨R,S,I,u,rfl,h,hR,rfl,.refl _ _⟩
 |k::z,R,S,I,u,h,hR,hk,hz=>by
  rw[aj]at hz;obtain⟨v,O,Pl⟩:=Uw k (hk k<|.head _);generalize U:l.getD (first+k) 0=c;generalize Y:l.getD 0 0/7%2=b;have e7:mY (λρ=>((aa (dA p<|aa (dV 0)<|aa (d2 kr (dV 1)<|dV 6) iT)<|aa (d2 j5 (d2 kR (dA p<|aa (dV 0)<|aa (iQ 0) iT)<|iQ 7)<|iQ 2) iT) ρ).bind jy) [iV<|l.map .int,iX first,n,iV<|i.map D.str,iV oj,iO m,iX k,u] S=.ok (.loc S.length) (S++[sc c b]):=by show(lJ (((p [.lst<|l.map .int,.int<|(first:Int)+(k:Int)]).bind λx=>((((p [.lst<|l.map .int,.int (0:Nat)]).bind λx=>kR x<|.int 7).bind λy=>j5 y<|.int 2).bind λy=>P2.R.ok [y]).bind λC=>P2.R.ok<|x::C).bind jy) S).bind _=_;rw[show((first:Int)+(k:Int))=((first+k:Nat):Int)from rfl,V l<|first+k,V l 0,U];show(lJ ((((((kR (.int<|l.getD 0 0)<|.int 7).bind λy=>j5 y<|.int 2).bind λy=>P2.R.ok [y]).bind λC=>P2.R.ok<|D.int c::C).bind jy)) S).bind _=_;rw[wO (by decide)<|by decide];show(lJ (((((j5 (.int<|l.getD 0 0/7)<|.int 2).bind λy=>P2.R.ok [y]).bind λC=>P2.R.ok<|D.int c::C).bind jy)) S).bind _=_;rw[ou<|by decide,Y];rfl
  have Q:=mz h.tt;have hn:S.length<(S++[sc c b]).length:=by rw[ar];exact b8 _
  have gB:Gr S (S++[sc c b]):=Gr.app λj=>my [.int c,.int b] j;obtain⟨t,o,gd,et⟩:=hg (S:=S++[sc c b]) hn c b;rw[show sx (S++[sc c b]) S.length c b=S++[sc c b]from uW S _ _,show sx (S++[sc c b]) S.length o b=S++[sc o b]from uW S _ _]at et;have G:Gr S (S++[sc o b]):=Gr.app λj=>my [.int o,.int b] j;have F:Out (S++[sc o b]) m (R.map jD):=⟨G.get h.m0,G.bnd h.bnd,G.get h.tt,G.sf _ Q h.st,h.o0⟩
  have oD:Out ((S++[sc o b]).set m (.li<|((R++[(v,t)]).map jD).map .d)) m ((R++[(v,t)]).map jD):=
   ⟨by have:=h.o0;rw[au<|by omega];exact F.m0,λj J=>ni (F.bnd j<|by rw[aP]at J;exact J)<|my _ _,aD<|mz F.tt,ni F.st<|my _ _,h.o0⟩
  have Qk:ua (R++[(v,t)]):=⟨λr hr=>by
   rcases aW.mp hr with w|w;· exact hR.ok r w
   · rw[aM]at w;subst w;exact⟨O,gd⟩⟩
  obtain⟨R2,S2,M,L,e2,h2,Ql,T,l2⟩:=Lu hg V hb l first n z (R++[(v,t)]) _ (iX k) (iO S.length) oD Qk (λj J=>hk j (.tail _ J)) (by rw[ar];simp;omega)
  refine⟨R2,S2,M,L,?_,h2,Ql,by rw[T,ar,aj];simp;omega,((G.lw<|by omega).trans (jV.wW hb)).trans l2⟩;have st:ue a p q [iV<|l.map .int,iX first,n,iV<|i.map D.str,iV oj,iO m,iX k,u] S=.nx [iV<|l.map .int,iX first,n,iV<|i.map D.str,iV oj,iO m,iX k,iO S.length] ((S++[sc o b]).set m (.li<|((R++[(v,t)]).map jD).map .d)):=by unfold ue;rw[jI<|j9 e7<|aq rfl];have oB:(S++[sc c b])[m]?=some (.li<|(R.map jD).map .d):=gB.get h.tt;show oz 5 _ [iV<|l.map .int,iX first,n,iV<|i.map D.str,iV oj,iO m,iX k,iO S.length] (S++[sc c b])=_;rw[vb rfl oB (l8 [.str v,t.d] (i9 (i4 Pl)<|i9 (lC (i9 (kW rfl)<|i9 (i4 (d:=.lst<|i.map D.str) rfl) jP) et) jP) (d:=jD (v,t)) rfl) F.tt<|by rw[ai,ai];omega];rw[bq,bq];rfl
  show pY (ue a p q [iV<|l.map .int,iX first,n,iV<|i.map D.str,iV oj,iO m,iX k,u] S) (kY (hV 6) (ue a p q)<|z.map λ(k:Nat)=>D.int (k:Int))=_;rw[st];exact e2
def TX(z:Gv q i Cw 4 19)(C:Cl p)(j:List Int)(first c:Nat)(O:c<=12)(t:S[0]?=some .mk)(o:mM S):
    ∃(R:List lX) (S':i6),ua R/\R.length=c/\Gr S S'/\i8 (yN a p q S.length (jx 8 [.d<|.lst<|j.map .int,.d<|.int first,.d<|.int c,.d<|.lst<|i.map D.str]) S)=.ok (.d<|.lst<|R.map jD) S':=by
 have F:=mz t;have gr:Gr S (S++[.li []]):=Gr.app λ_=>rfl;have I:Out (S++[.li []]) S.length (([]:List lX).map jD):=⟨gr.get t,gr.bnd o,oO S _,rj (o _<|ah _) rfl,F⟩;obtain⟨R,n,M,L,J,r,G,x,v⟩:=Lu (b0:=S.length) (a:=a) z C (ah _) j first (iX c) (List.range c) [] (S++[.li []]) none none I ⟨λ_ h=>nomatch h⟩ (λk y=>by have:=bK.mp y;omega) (by simp;omega)
 have u:jV S.length n (n.set S.length .no):=jV.set (ah _) λ_ _=>rfl;have l:=((gr.lw<|ah _).trans v).trans u;refine⟨R,n.set S.length .no,G,by simpa using x,⟨l.len,l.pre,l.sf,l.bnd⟩,?_⟩;unfold yN;show i8 (iY (jk 4 _) _ [iV<|j.map .int,iX first,iX c,iV<|i.map D.str,none,none,none,none] S)=_;rw[jI<|j9 (i4 (d:=.lst oj) rfl)<|aq rfl];generalize oj=nm at*;show i8 (iY (jk 5 _) _ [iV<|j.map .int,iX first,iX c,iV<|i.map D.str,iV nm,none,none,none] S)=_;rw[jI<|j9 (show mY (λρ=>(iT ρ).bind jy) _ S=.ok (.loc S.length) (S++[.li []])from rfl)<|aq rfl];rw[show List.set [some<|Z.d<|.lst<|j.map .int,iX first,iX c,iV<|i.map D.str,iV nm,none,none,none] 5 (some<|Z.loc S.length)=[iV<|j.map .int,iX first,iX c,iV<|i.map D.str,iV nm,iO S.length,none,none]from rfl];rw[jI<|(ET (ds:=(List.range c).map λ(k:Nat)=>D.int (k:Int))<|by rw[show(aa (dV 2) iT) (kh [iV<|j.map .int,iX first,iX c,iV<|i.map D.str,iV nm,iO S.length,none,none])=.ok [.int (c:Int)]from rfl,Ld,Dv (by omega)<|by omega,Lk,aX];rfl).trans J]
 rw[Ai rfl r.tt (ah _) r.st];show i8 (jG _ [iV<|j.map .int,iX first,iX c,iV<|i.map D.str,iV nm,(if S.length=S.length then iV (R.map jD)else _),_,_] _)=_;rw[av rfl,y_ret<|i4 (d:=.lst<|R.map jD) rfl];rfl
variable{a:Ad}{ak:T7->List Ask}
def Sf(h:List lX):∀d c,h.foldl (kK ak) (d,c)=(d++(judge ak h c).1,(judge ak h c).2):=by
 induction h with
 |nil=>intro d c;show(d,c)=(d++[],c);rw[bg]
 |cons j R k=>
  intro d c;unfold judge;rw[eF,eF];have n:kK ak (d,c) j=(d++(kK ak ([],c) j).1,(kK ak ([],c) j).2):=by unfold kK;dsimp only;rw[fS]
  rw[n,k];have l:=k (kK ak ([],c) j).1 (kK ak ([],c) j).2;rw[show((kK ak ([],c) j).1,(kK ak ([],c) j).2)=kK ak ([],c) j from rfl]at l;rw[l,bO]
def yZ(R1 R2 row):judge ak (R1++R2) row=((judge ak R1 row).1++(judge ak R2 (judge ak R1 row).2).1,(judge ak R2 (judge ak R1 row).2).2):=by show(R1++R2).foldl (kK ak) ([],row)=_;rw[gj];exact Sf R2 (judge ak R1 row).1 (judge ak R1 row).2
def y6(ru R row):judge ak (ru::R) row=((kK ak ([],row) ru).1++(judge ak R (kK ak ([],row) ru).2).1,(judge ak R (kK ak ([],row) ru).2).2):=yZ [ru] R row
def Sh(R):judge ak R []=([],[]):=by
 induction R with
 |nil=>rfl
 |cons d R c=>rw[y6];show([]++(judge ak R []).1,(judge ak R []).2)=_;rw[c];rfl
def judge_none{ru:lX}(h:∀c r,hit c (ak ru.2) ru.2 r=false)(R1 R2 c):judge ak (R1++[ru]++R2) c=judge ak (R1++R2) c:=by
 have e:∀c,kK ak ([],c) ru=([],c):=λc=>by
  have hf:c.filter (hit c (ak ru.2) ru.2)=[]:=List.filter_eq_nil_iff.mpr λr _=>by rw[h c r];exact ax
  have d:(c.filter λr=>!hit c (ak ru.2) ru.2 r)=c:=List.filter_eq_self.mpr λr _=>by rw[h c r];rfl
  show([]++(c.filter _).map _,c.filter _)=_;rw[hf,d];rfl
 rw[bO,yZ R1<|[ru]++R2,yZ R1 R2];show((judge ak R1 c).1++(judge ak (ru::R2) (judge ak R1 c).2).1,(judge ak (ru::R2) (judge ak R1 c).2).2)=_;rw[y6,e];rfl
abbrev Mark:=Rd×Str×List Kt
def uI(g:Mark):D:=.tup [.str g.1.m,.int g.1.t,.str g.2.1,.lst<|g.2.2.map lg]
def stay(ak:T7->List Ask):List lX->List Rd->Rd->Bool
 |[],_,_=>true
 |ru::R,c,r=>!hit c (ak ru.2) ru.2 r&&stay ak R (kK ak ([],c) ru).2 r
theorem y7:∀R c,(judge ak R c).2=c.filter (stay ak R c)
 |[],c=>(List.filter_eq_self.mpr λ_ _=>rfl).symm
 |ru::R,c=>by rw[y6];show(judge ak R (kK ak ([],c) ru).2).2=_;rw[y7 R];show((c.filter λr=>!hit c (ak ru.2) ru.2 r).filter (stay ak R _))=_;rw[List.filter_filter];refine List.filter_congr λr _=>?_;show(stay ak R _ r&&!hit c (ak ru.2) ru.2 r)=(!hit c (ak ru.2) ru.2 r&&stay ak R _ r);rw[Bool.and_comm]
theorem Jj:∀R c,∃G:List Mark,(judge ak R c).1=G.map uI/\(∀g∈G,g.1∈c/\(∃d∈R,g.2.1=d.1)/\∀k∈g.2.2,∃s∈c,k=jX s)/\(∀r∈c,(∃g∈G,g.1=r)↔stay ak R c r=false)/\(c.Nodup->(G.map (·.1)).Nodup)/\G.length<=c.length
 |[],c=>⟨[],rfl,(λ_ h=>nomatch h),(λr _=>⟨(λ⟨_,h,_⟩=>nomatch h),(λh=>by cases h)⟩),(λ_=>List.Pairwise.nil),bQ _⟩
 |d::R,c=>by
  obtain⟨G,e,F,U,T,Q⟩:=Jj R (kK ak ([],c) d).2;have sub:∀r∈(kK ak ([],c) d).2,r∈c:=λr n=>(bT.mp n).1;refine⟨(c.filter<|hit c (ak d.2) d.2).map (λr=>(r,d.1,ktL<|((ak d.2).filterMap (see c r)).map jX))++G,?_,λg j=>?_,λr n=>?_,λD=>?_,?_⟩
  ·rw[y6,e,bq,aX];rfl
  ·rcases aW.mp j with j|j
   ·obtain⟨r,n,rfl⟩:=az.mp j;refine⟨(bT.mp n).1,⟨d,.head _,rfl⟩,λk z=>?_⟩;obtain⟨s,l,rfl⟩:=az.mp ((SI _ k).mp z);obtain⟨x,_,u⟩:=bz.mp l;exact⟨s,LG u,rfl⟩
   ·obtain⟨o,⟨I,t,L⟩,J⟩:=F g j;exact⟨sub _ o,⟨I,.tail _ t,L⟩,λk z=>let⟨s,l,e⟩:=J k z;⟨s,sub s l,e⟩⟩
  ·show _↔(!hit c (ak d.2) d.2 r&&stay ak R (kK ak ([],c) d).2 r)=false;cases C:hit c (ak d.2) d.2 r with
   |true=>refine⟨λ_=>rfl,λ_=>⟨_,aW.mpr<|.inl<|az.mpr ⟨r,bT.mpr ⟨n,C⟩,rfl⟩,rfl⟩⟩
   |false=>
    have v:r∈(kK ak ([],c) d).2:=bT.mpr ⟨n,by rw[C];rfl⟩;show _↔stay ak R (kK ak ([],c) d).2 r=false;rw[<-U r v];constructor
    ·rintro ⟨g,j,rfl⟩
     rcases aW.mp j with j|j
     ·obtain⟨s,l,rfl⟩:=az.mp j;have:=(bT.mp l).2;rw[show hit c (ak d.2) d.2 s=false from C]at this;exact absurd this ax
     ·exact⟨g,j,rfl⟩
    ·rintro ⟨g,j,rfl⟩
     exact⟨g,aW.mpr<|.inr j,rfl⟩
  ·rw[bq,aX];refine eU.mpr ⟨?_,T<|D.filter _,λx u y M e=>?_⟩
   ·rw[show((λg:Mark=>g.1)∘λr=>((r,d.1,ktL<|((ak d.2).filterMap (see c r)).map jX):Mark))=id from rfl,List.map_id];exact D.filter _
   ·obtain⟨s,l,rfl⟩:=az.mp u;obtain⟨g,j,rfl⟩:=az.mp M;have o:=(bT.mp (F g j).1).2;have t:=(bT.mp l).2;rw[<-show s=g.1 from e,t]at o;exact absurd o (by decide)
  ·rw[ar,ai];have:=EM (hit c (ak d.2) d.2) c;have O:G.length<=(c.filter λr=>!hit c (ak d.2) d.2 r).length:=Q;omega
def Kn{c:List Kt}(h:∀k∈c,PyData.strOk k.2=true):lN (c.map lg)=true:=Kh λk d=>by show(PyData.strOk k.2&&(true&&true))=true;rw[h k d];rfl
def Vg{g:Mark}(h:PyData.strOk g.1.m=true)(d:PyData.strOk g.2.1=true)(c:∀k∈g.2.2,PyData.strOk k.2=true):lM (uI g)=true/\mu (uI g)<=5:=by
 constructor
 ·show(PyData.strOk g.1.m&&(true&&(PyData.strOk g.2.1&&(lN (g.2.2.map lg)&&true))))=true;rw[h,d,Kn c];rfl
 ·have:nJ (g.2.2.map lg)<=1:=Hv λk _=>ah _;show max 0 (max 0<|max 0<|max (nJ (g.2.2.map lg)+1) 0)+1<=5;omega
def Vn{r:Rd}(h:PyData.strOk r.m=true):lM r.d=true/\mu r.d<=5:=by
 constructor
 ·show(PyData.strOk r.m&&(true&&((true&&(true&&true))&&true)))=true;rw[h];rfl
 ·show 2<=5;decide
def JR{d:Type}{f:d->D}{l:List d}(h:∀x∈l,lM (f x)=true/\mu (f x)<=5):lM (.lst<|l.map f)=true/\mu (.lst<|l.map f)<=60:=by have:nJ (l.map f)<=5:=Hv λx c=>(h x c).2;exact⟨Kh λx c=>(h x c).1,by show nJ (l.map f)+1<=60;omega⟩
variable{a:Ad}{ak:T7->List Ask}
abbrev qN(R:List lX):Prop:=∀ru∈R,Cw ru.2/\ru.2.dep<=4/\ru.2.parts.length<=19
abbrev tZ(row:List Rd):Prop:=(∀r∈row,pA r)/\row.length<10000
variable{v:jo}{o:i6}
def TH(h:v [.d x,.d y] S=.ok (.d<|.tup [A,B]) o):i8 (yC a v b (jx 2 [.d x,.d y]) S)=.ok (.d A) o:=by unfold yC;show i8 (jG _ [ba x,ba y] S)=_;rw[y_ret<|k6 (lC (i9 (i4 (d:=x) rfl)<|i9 (i4 (d:=y) rfl) jP) h) (i4 (d:=.int 0) rfl) (w:=A) rfl];rfl
def TZ(h:v [.d x,.d y] S=.ok (.d<|.tup [A,B]) o):i8 (yE a v b (jx 2 [.d x,.d y]) S)=.ok (.d B) o:=by unfold yE;show i8 (jG _ [ba x,ba y] S)=_;rw[y_ret<|k6 (lC (i9 (i4 (d:=x) rfl)<|i9 (i4 (d:=y) rfl) jP) h) (i4 (d:=.int 1) rfl) (w:=B) rfl];rfl
end
def vk(c:jf)(t:T7)(A:List Ask):Prop:=c [t.d]=.ok (.lst<|A.map Ask.d)/\A.length<=3*t.parts.length+1/\∀x,x∈A↔x=.here\/x∈t.asks
open Classical in
def sG(c:jf)(t:T7):List Ask:=if h:∃A,vk c t A then h.choose else[]
def Gi{t}(h:∃A,vk Fa t A):vk Fa t (sG Fa t):=by unfold sG;rw[dif_pos h];exact h.choose_spec
def aap(l:∀t:T7,t.dep<8->t.parts.length<64->∃A,vk Fa t A){R}(h:qN R):∀c∈R,Fa [c.2.d]=.ok (.lst ((sG Fa c.2).map Ask.d))/\sC (sG Fa c.2) c.2:=λc k=>by obtain⟨m,p,o⟩:=h c k;obtain⟨i,n,d⟩:=Gi (l c.2 (by omega)<|by omega);exact⟨i,m,by omega,(d _).mpr (.inl rfl),λx j=>(d x).mpr (.inr j),by omega⟩
def Qu(l:lM x=true)(z:mu x<=60):∀{c},lN c=true->∃b,oh x c=some b/\(b=true↔x∈c):=by
 intro c k;obtain⟨p,o,v,d1⟩:=wL l;obtain⟨j,h,r,d2⟩:=wM k;refine⟨j.any λy=>PyData.eqv y p,?_,?_⟩
 ·unfold oh;rw[o,h];show(if(PyData.canLayAll0 j&&PyData.canLay0 p&&decide (p.depth<=63))=true then _ else _)=_;rw[r,v,aO<|by omega];rfl
 ·clear r d2;induction c generalizing j with
  |nil=>cases h;simp
  |cons y c t=>
   have d:lM y=true/\lN c=true:=by have:(lM y&&lN c)=true:=k;simpa using this
   obtain⟨q,n,_⟩:=wL d.1;obtain⟨i,m,_⟩:=wM d.2;have u:lA (y::c)=(mT y).bind λq=>(lA c).bind λi=>some (q::i):=by rw[lA];cases mT y<;>cases lA c<;>rfl
   rw[u,n,m]at h;cases h;rw[cZ,dH,Br d.1 l n o,t d.2 i m,aE];exact⟨λw=>w.elim (λw=>.inl w.symm) .inr,λw=>w.elim (λw=>.inl w.symm) .inr⟩
theorem He:∀{l:List<|List Key},l.Nodup->(kI l).length=l.length
 |[],_=>rfl
 |k::r,h=>by have c:=bB.mp h;unfold kI;rw[aw λw=>c.1<|AZ.mp w,aj,aj,He c.2]
theorem Me:∀c:List Kt,ph (c.map lg)=some (c.map λk=>[.inr k.2,.inl k.1])
 |[]=>rfl
 |k::r=>by show(kS [.str k.2,.int k.1]).bind (λx=>(ph<|r.map lg).map (x:: ·))=_;rw[Me r];rfl
def SS{c:List Kt}(h:c.Nodup)(j:c.length<900):tp (.lst<|c.map lg)=.ok (.int c.length):=by
 unfold tp;dsimp only;rw[Me];show(if(c.map lg).length<900 then _ else _)=_;have i:(c.map λk:Kt=>([.inr k.2,.inl k.1]:List Key)).Nodup:=eZ _ (λx y d e=>by injection e with e1 e2;injection e1 with e1;injection e2 with e2 _;injection e2 with e2;exact d (Prod.ext e2 e1)) h
 rw[av<|by rw[ai];exact j,He i,ai]
def SJ(h:lg x=lg y):x=y:=by injection h with h;injection h with h1 h2;injection h1 with h1;injection h2 with h2 _;injection h2 with h2;exact Prod.ext h2 h1
def Uv{k:Kt}{c:List Kt}(i:PyData.strOk k.2=true)(h:∀k∈c,PyData.strOk k.2=true):oV (lg k) (.lst<|c.map lg)=.ok (.bl<|!decide (k∈c)):=by
 obtain⟨b,l,j⟩:=Qu (x:=lg k) (by show(PyData.strOk k.2&&(true&&true))=true;rw[i];rfl) (by show 1<=60;decide) (Kn h);unfold oV;dsimp only;rw[l];have:b=decide (k∈c):=by rw[eE,j,decide_eq_true_iff,az];exact⟨λ⟨y,d,e⟩=>by rw[<-SJ e];exact d,λh=>⟨k,h,rfl⟩⟩
 rw[this]
def OK{c:List D}(h:p<=c.length):cutD c (some (p:Int)) none=c.drop p:=by unfold cutD HT.jL;dsimp only;rw[aw<|by omega,bu,Nat.min_eq_left h];exact cG (by rw[cz];omega)
def OM{c:List D}{p:Nat}:cutD c none (some (p:Int))=c.take p:=by
 unfold cutD HT.jL;dsimp only;rw[aw<|by omega,bu,List.drop_zero,Nat.sub_zero];by_cases h:p<=c.length;·rw[Nat.min_eq_left h]
 ·rw[Nat.min_eq_right<|by omega,cG<|ah _,cG<|by omega]
end WM
namespace sE
open PySem L2 P2 WP WM TM T2 PySem.NumText
variable{a:Ad}
structure Fz(ak:T7->List Ask)(Fc Fw:List D->P2.R D)(Zr Zu Zm Zs:jo):Prop where
 c:Cl Fc
 w:∀c:Int,∃st:Int,(st%26≠0/\st*2%26≠0)/\∀k:Int,0<=k->k<26->PyData.strOk (nC c st k)=true/\Fw [.int c,.int k]=.ok (.str<|nC c st k)
 r:∀{S:i6} {ws:List Str},W3 ws->∀(ns:List Int),ns.length<=63->∀first most:Int,most<=1000/\0<=most->S[0]?=some .mk->mM S->∃(row:List Rd) (S':i6),m6 row/\(row.length:Int)<=most+12/\Gr S S'/\Zr [.d<|.lst<|ns.map .int,.d<|.int first,.d<|.int most,.d<|.lst<|ws.map D.str] S=.ok (.d<|.lst<|row.map Rd.d) S'
 u:∀{S:i6} {ws:List Str},W3 ws->∀(ns:List Int) (first many:Nat),many<=12->S[0]?=some .mk->mM S->∃(R:List lX) (S':i6),ua R/\R.length=many/\Gr S S'/\Zu [.d<|.lst<|ns.map .int,.d<|.int first,.d<|.int many,.d<|.lst<|ws.map D.str] S=.ok (.d<|.lst<|R.map jD) S'
 m:∀{S:i6} {R:List lX} {row:List Rd},qN R->tZ row->S[0]?=some .mk->mM S->∃S',Gr S S'/\Zm [.d<|.lst<|row.map Rd.d,.d<|.lst<|R.map jD] S=.ok (.d<|.lst (judge ak R row).1) S'
 s:∀{S:i6} {R:List lX} {row:List Rd},qN R->tZ row->S[0]?=some .mk->mM S->∃S',Gr S S'/\Zs [.d<|.lst<|row.map Rd.d,.d<|.lst<|R.map jD] S=.ok (.d<|.lst<|(judge ak R row).2.map Rd.d) S'
 h:∀t:T7,t.dep<8->t.parts.length<64->Ask.here∈ak t
variable{ak:T7->List Ask}{o q:List D->P2.R D}{F E B C:jo}
def aaq{R}(h:ua R):qN R:=λc d=>let g:=(h.ok c d).2;⟨g.w,g.dep,g.sz⟩
def om:lX:=("z",.bin .lt .here .here)
def I0{c k:Type}{f:c->k}{l:List c}(d:(l.map f).Nodup):∀x∈l,∀y∈l,f x=f y->x=y:=by
 induction l with
 |nil=>intro _ h;cases h
 |cons z l n=>
  rw[aT]at d;obtain⟨i,m⟩:=bB.mp d;intro x p y j e;rcases aE.mp p with ex|hx'
  ·rcases aE.mp j with ey|hy';·rw[ex,ey]
   ·exact absurd (az.mpr ⟨y,hy',by rw[<-e,ex]⟩) i
  ·rcases aE.mp j with ey|hy';·exact absurd (az.mpr ⟨x,hx',by rw[e,ey]⟩) i
   ·exact n m x hx' y hy' e
def UK(row A r):hit row A om.2 r=false:=by unfold hit;show(_&&decide (_<_))=false;rw[aI<|Int.lt_irrefl _,f9]
def TC(H:Fz ak o q F E B C)(m:List Int)(hn:m.length<=63)(b:Nat):∃S',i8 (Bz a o q F E B C b (jx 10 [.d<|.lst<|m.map .int]) [.mk])=.ok (.d<|.bl true) S':=by
 have o0:([Cell.mk]:i6)[0]?=some .mk:=rfl;have b0:mM [Cell.mk]:=λ_ _=>rfl
 obtain⟨st,we,hw⟩:=H.w (m.getD 0 0)
 let u:List Str:=[nC (m.getD 0 0) st 0,nC (m.getD 0 0) st 1,nC (m.getD 0 0) st 2]
 have W:W3 u:=⟨λw Rj=>by
  have:w=nC (m.getD 0 0) st 0\/w=nC (m.getD 0 0) st 1\/w=nC (m.getD 0 0) st 2:=by simpa [u]using Rj
  rcases this with rfl|rfl|rfl;· exact(hw 0 (by decide)<|by decide).1
  · exact(hw 1 (by decide)<|by decide).1
  · exact(hw 2 (by decide)<|by decide).1,by
  have n1:=ES (c:=m.getD 0 0) (i:=0) (j:=1) we (by decide) (by decide) (by decide);have n2:=ES (c:=m.getD 0 0) (i:=0) (j:=2) we (by decide) (by decide) (by decide);have n3:=ES (c:=m.getD 0 0) (i:=1) (j:=2) we (by decide) (by decide) (by decide);show List.Nodup [_,_,_];exact bB.mpr ⟨λh=>(aE.mp h).elim n1 λh=>n2 (aM.mp h),bB.mpr ⟨λh=>n3 (aM.mp h),bB.mpr ⟨(λh=>nomatch h),List.Pairwise.nil⟩⟩⟩,rfl⟩
 have e1:zD (jq<|kA (λρ=>((aa (iQ 3) iT) ρ).bind qD) 1 [0] (gV 0) (λ_=>.ok true)<|dA q<|aa (dA o<|aa (dV 1)<|aa (iQ 0) iT)<|aa (dV 0) iT) [iV<|m.map .int,none,none,none,none,none,none,none,none,none] [.mk]=.ok (.d<|.lst<|u.map D.str) [.mk]:=by
  refine i4 (qs (X:=u.map D.str) ?_);have ev:∀k:Int,0<=k->k<26->(dA q<|aa (dA o<|aa (dV 1)<|aa (iQ 0) iT)<|aa (dV 0) iT) [.sh<|.int k,.sh<|.lst<|m.map .int]=.ok (.str<|nC (m.getD 0 0) st k):=λk k0 k1=>by show(((o [.lst<|m.map .int,.int (0:Nat)]).bind λx=>P2.R.ok [x,D.int k]).bind q)=_;rw[H.c m 0];exact(hw k k0 k1).2
  have e0:=ev 0 (by decide) (by decide);have e1:=ev 1 (by decide) (by decide);have e2:=ev 2 (by decide) (by decide);show(if 3<=sizeLine then tu (l0 (gV 0) (λ_=>P2.R.ok true) (dA q<|aa (dA o<|aa (dV 1)<|aa (iQ 0) iT)<|aa (dV 0) iT) [.no,.sh<|.lst<|m.map .int] [.int 0,.int 1,.int 2])else .bad)=_;rw[av<|by decide];have c3:l0 (gV 0) (λ_=>P2.R.ok true) (dA q<|aa (dA o<|aa (dV 1)<|aa (iQ 0) iT)<|aa (dV 0) iT) [.no,.sh<|.lst<|m.map .int] [.int 0,.int 1,.int 2]=some (u.map D.str):=by show((pM<|(dA q<|aa (dA o<|aa (dV 1)<|aa (iQ 0) iT)<|aa (dV 0) iT) [.sh<|.int 0,.sh<|.lst<|m.map .int]).bind λv=>((pM<|(dA q<|aa (dA o<|aa (dV 1)<|aa (iQ 0) iT)<|aa (dV 0) iT) [.sh<|.int 1,.sh<|.lst<|m.map .int]).bind λv=>((pM<|(dA q<|aa (dA o<|aa (dV 1)<|aa (iQ 0) iT)<|aa (dV 0) iT) [.sh<|.int 2,.sh<|.lst<|m.map .int]).bind λv=>some [v]).bind λvs=>some<|v::vs).bind λvs=>some<|v::vs)=_;rw[e0,e1,e2];rfl
  rw[c3];rfl
 clear_value u
 obtain⟨l,S1,n,hlen,g1,er⟩:=H.r W m hn 7 100 (by decide) o0 b0;have o1:=g1.get o0;have B1:=g1.bnd b0;obtain⟨R,S2,hR,IB,g2,eu⟩:=H.u W m 4 3 (by decide) o1 B1;have o2:=g2.get o1;have B2:=g2.bnd B1;have GR:=aaq hR;have Y:tZ l:=⟨λr M=>(n.ok r M).1,by omega⟩;obtain⟨S3,g3,em⟩:=H.m GR Y o2 B2;have o3:=g3.get o2;have B3:=g3.bnd B2;obtain⟨S4,g4,es⟩:=H.s GR Y o3 B3;have o4:=g4.get o3;have B4:=g4.bnd B3;have p0:=c8 (m.getD 3 0) (show(4:Int)≠0 by decide);have p1:=cL (m.getD 3 0) (show(0:Int)<4 by decide);obtain⟨p,hp⟩:=bo p0;have Q7:p<=R.length:=by omega
 have AD:qN (R.take p):=λru h=>GR ru (iC h);have AE:qN (R.drop p):=λru h=>GR ru (iD h);obtain⟨S5,g5,e5⟩:=H.s AD Y o4 B4;have o5:=g5.get o4;have B5:=g5.bnd B4;have sub:∀R':List lX,∀r∈(judge ak R' l).2,r∈l:=λR' r M=>by rw[y7]at M;exact(bT.mp M).1
 have Ti:∀R':List lX,(judge ak R' l).2.length<=l.length:=λR'=>by rw[y7];exact ib ..
 have GA:tZ (judge ak (R.take p) l).2:=⟨λr M=>Y.1 r<|sub _ r M,cy (Ti _) Y.2⟩;obtain⟨S6,g6,e6⟩:=H.m AD Y o5 B5;have o6:=g6.get o5;have B6:=g6.bnd B5;obtain⟨S7,g7,e7⟩:=H.m AE GA o6 B6;have o7:=g7.get o6;have B7:=g7.bnd B6;obtain⟨S8,g8,e8⟩:=H.s AE GA o7 B7;have o8:=g8.get o7;have B8:=g8.bnd B7;have GN:qN (R.take p++[om]++R.drop p):=λru h=>by
  rcases aW.mp h with h|h
  ·rcases aW.mp h with h|h;·exact AD ru h
   ·rw[aM]at h;subst h;exact⟨.lt .here .here (by decide)<|by decide,by show 1<=4;decide,by show 3<=19;decide⟩
  ·exact AE ru h
 obtain⟨S9,g9,e9⟩:=H.m GN Y o8 B8;have o9:=g9.get o8;have B9:=g9.bnd B8;have G0:qN []:=λ_ h=>nomatch h;have GE:tZ []:=⟨(λ_ h=>nomatch h),by decide⟩;obtain⟨NF,Ik,yo⟩:=H.m G0 Y o9 B9;have Ke:=Ik.get o9;have Fh:=Ik.bnd B9;obtain⟨NG,Il,sW⟩:=H.s G0 Y Ke Fh;have UP:=Il.get Ke;have MO:=Il.bnd Fh;obtain⟨F4,g12,yp⟩:=H.m GR GE UP MO
 have cut:R=R.take p++R.drop p:=(hZ p R).symm;have j1:=yZ (ak:=ak) (R.take p) (R.drop p) l;rw[<-cut]at j1;have jm:(judge ak (R.take p) l).1++(judge ak (R.drop p) (judge ak (R.take p) l).2).1=(judge ak R l).1:=by rw[j1]
 have js:(judge ak (R.drop p) (judge ak (R.take p) l).2).2=(judge ak R l).2:=by rw[j1]
 have jn:judge ak (R.take p++[om]++R.drop p) l=judge ak R l:=by rw[judge_none (ru:=om)<|λl r=>UK l _ r,<-cut]
 rw[jn]at e9;rw[js]at e8;rw[show(judge ak [] l).1=[]from rfl]at yo;rw[show(judge ak [] l).2=l from rfl]at sW;rw[Sh]at yp
 obtain⟨G,eG,hG,Z,Q3,hGl⟩:=Jj (ak:=ak) R l;have U1:∀g∈G,lM (uI g)=true/\mu (uI g)<=5:=λg T=>by obtain⟨k1,⟨ru,k2,k3⟩,k4⟩:=hG g T;exact Vg (n.ok _ k1).2 (by rw[k3];exact(hR.ok ru k2).1) λk hk=>by obtain⟨s,hs,rfl⟩:=k4 k hk;exact(n.ok s hs).2
 have U:=JR U1;have Ki:∀L:List Rd,(∀r∈L,r∈l)->lM (.lst<|L.map Rd.d)=true/\mu (.lst<|L.map Rd.d)<=60:=λL hL=>JR λr M=>Vn (n.ok r<|hL r M).2;have V:=Ki _ (sub R);have Kj:=Ki l λ_ h=>h;have rnd:l.Nodup:=by have:=n.nd;exact(List.pairwise_map.mp this).imp λh e=>h (by rw[e])
 have Qa:(G.map λg=>jX g.1).Nodup:=by
  have h1:=Q3 rnd;have h2:((G.map (·.1)).map jX).Nodup:=by refine List.pairwise_map.mpr (eD (λ{x y} hx hy hne e=>hne ?_) h1);obtain⟨g,T,rfl⟩:=az.mp hx;obtain⟨g',QF,rfl⟩:=az.mp hy;have QL:∀x∈l,∀y∈l,jX x=jX y->x=y:=λx hx y hy e=>I0 n.nd x hx y hy e;exact QL _ (hG g T).1 _ (hG g' QF).1 e
  rwa [aX]at h2
 have Qb:∀k∈(G.map λg=>jX g.1),PyData.strOk k.2=true:=λk hk=>by obtain⟨g,T,rfl⟩:=az.mp hk;exact(n.ok _ (hG g T).1).2
 have flt:(judge ak R l).2=l.filter λr=>!decide (jX r∈G.map λg=>jX g.1):=by
  rw[y7];refine List.filter_congr λr M=>?_;cases hs:stay ak R l r with
  |false=>obtain⟨g,T,e⟩:=(Z r M).mpr hs;rw[aO<|az.mpr ⟨g,T,by rw[e]⟩];rfl
  |true=>rw[aI λw=>?_];rfl;obtain⟨g,T,e⟩:=az.mp w;have:g.1=r:=I0 n.nd _ (hG g T).1 _ M e;have:=(Z r M).mp ⟨g,T,this⟩;rw[hs]at this;cases this
 let z:D:=.lst (l.map Rd.d)
 let t:D:=.lst (R.map jD)
 let O:D:=.lst (judge ak R l).1
 let I:D:=.lst ((judge ak R l).2.map Rd.d)
 let Q:D:=.lst ((judge ak (R.take p) l).2.map Rd.d)
 let J:D:=.lst ((G.map λg=>jX g.1).map lg)
 have cT:∀ρ:jg,ρ[3]?=some (ba t)->ρ[6]?=some (iX p)->(nq mU (dV 3) (λ_=>.ok none)<|λρ=>((dV 6) ρ).bind pI) (kh ρ)=.ok (.lst<|(R.take p).map jD):=λρ h3 h6=>by
  have v3:dV 3 (kh ρ)=.ok t:=by unfold dV kh;rw[aA,h3];rfl
  have v6:dV 6 (kh ρ)=.ok (.int p):=by unfold dV kh;rw[aA,h6];rfl
  unfold nq;rw[v3];show(((dV 6) (kh ρ)).bind pI).bind (λhi=>mU t none hi)=_;rw[v6];show P2.R.ok (D.lst<|cutD (R.map jD) none<|some (p:Int))=_;rw[OM,List.map_take]
 have cD:∀ρ:jg,ρ[3]?=some (ba t)->ρ[6]?=some (iX p)->(nq mU (dV 3) (λρ=>((dV 6) ρ).bind pI)<|λ_=>.ok none) (kh ρ)=.ok (.lst<|(R.drop p).map jD):=λρ h3 h6=>by
  have v3:dV 3 (kh ρ)=.ok t:=by unfold dV kh;rw[aA,h3];rfl
  have v6:dV 6 (kh ρ)=.ok (.int p):=by unfold dV kh;rw[aA,h6];rfl
  unfold nq;rw[v3];show(((dV 6) (kh ρ)).bind pI).bind (λlo=>mU t lo none)=_;rw[v6];show P2.R.ok (D.lst<|cutD (R.map jD) (some (p:Int)) none)=_;rw[OK<|by rw[ai];exact Q7,List.map_drop]
 refine⟨F4,?_⟩;unfold Bz;show i8 (iY (jk 1 _) _ [iV<|m.map .int,none,none,none,none,none,none,none,none,none] [.mk])=_;rw[jI<|j9 e1<|aq rfl];rw[jI<|j9 (lC (i9 (i4 (d:=.lst<|m.map .int) rfl)<|i9 (i4 (d:=.int 7) rfl)<|i9 (i4 (d:=.int 100) rfl)<|i9 (i4 (d:=.lst<|u.map D.str) rfl) jP) er)<|aq rfl];rw[jI<|j9 (lC (i9 (i4 (d:=.lst<|m.map .int) rfl)<|i9 (i4 (d:=.int (4:Nat)) rfl)<|i9 (i4 (d:=.int (3:Nat)) rfl)<|i9 (i4 (d:=.lst<|u.map D.str) rfl) jP) eu)<|aq rfl];rw[jI<|j9 (lC (i9 (i4 (d:=z) rfl)<|i9 (i4 (d:=t) rfl) jP) em)<|aq rfl];rw[jI<|j9 (lC (i9 (i4 (d:=z) rfl)<|i9 (i4 (d:=t) rfl) jP) es)<|aq rfl];rw[jI<|j9 (i4 (d:=.int p)<|by show((o [.lst<|m.map .int,.int (3:Nat)]).bind λx=>j5 x<|.int 4)=_;rw[H.c m 3];show j5 (.int<|m.getD 3 0) (.int 4)=_;rw[ou<|by decide,hp])<|aq rfl]
 show i8 (iY (jk 7 _) _ [iV<|m.map .int,iV<|u.map D.str,ba z,ba t,ba O,ba I,iX p,none,none,none] S4)=_;rw[jI<|j9 (lC (i9 (i4 (d:=z) rfl)<|i9 (i4<|cT _ rfl rfl) jP) e5)<|aq rfl];show i8 (iY (jM _ _ _) _ [iV<|m.map .int,iV<|u.map D.str,ba z,ba t,ba O,ba I,iX p,ba Q,none,none] S5)=_;have adm:(judge ak R l).1.length<=200:=by rw[eG,ai];omega
 rw[lQ (S1:=S8) (by
  unfold EW;rw[vg (k:=false) (k6 (k6 (lC (i9 (i4 (d:=z) rfl) (i9 (i4 (cT _ rfl rfl)) jP)) e6) (lC (i9 (i4 (d:=Q) rfl) (i9 (i4 (cD _ rfl rfl)) jP)) e7) (w:=O) (by
   show(match(if(judge ak (R.take p) l).1.length+(judge ak (R.drop p) (judge ak (R.take p) l).2).1.length<=sizeLine then P2.R.ok ((judge ak (R.take p) l).1++(judge ak (R.drop p) (judge ak (R.take p) l).2).1)else .bad)with
    |.ok ds=>P2.R.ok (D.lst ds)
    |_=>.bad)=_
   rw[av (by rw[<-ar,jm];exact cO (qG (by omega))),jm])) (i4 (d:=O) rfl) (w:=.bl false) (by show mS (.lst (judge ak R l).1) (.lst (judge ak R l).1)=_;rw[eG];exact ne_self U.1 U.2)) rfl]
  show nD tB _ _ S7=_;exact vg (k6 (lC (i9 (i4 (d:=Q) rfl) (i9 (i4 (cD _ rfl rfl)) jP)) e8) (i4 (d:=I) rfl) (w:=.bl false) (ne_self V.1 V.2)) rfl)]
 show i8 (iY (jk 8 _) _ [iV<|m.map .int,iV<|u.map D.str,ba z,ba t,ba O,ba I,iX p,ba Q,none,none] S8)=_;rw[jI<|j9 (i4 (d:=J)<|by show jq _ _=P2.R.ok (.lst<|(G.map λg=>jX g.1).map lg);rw[aX];exact qs (uk (f:=uI) (g:=lg∘λg:Mark=>jX g.1) (L:=G) (by show P2.R.ok (judge ak R l).1=_;rw[eG]) (by omega) λg _=>rfl))<|aq rfl]
 show i8 (iY (jM _ _ _) _ [iV<|m.map .int,iV<|u.map D.str,ba z,ba t,ba O,ba I,iX p,ba Q,ba J,none] S8)=_;have SR:(G.map λg=>jX g.1).length<900:=by rw[ai];omega
 have cp:kA (λρ=>((dV 2) ρ).bind kd) 1 [8] (gV 0) (b1 tB<|d2 oV (dA jv<|aa (iW 0 0)<|aa (iW 0 1) iT)<|dV 1) (dV 0) (kh [iV<|m.map .int,iV<|u.map D.str,ba z,ba t,ba O,ba I,iX p,ba Q,ba J,none])=.ok ((judge ak R l).2.map Rd.d):=by
  show(if(l.map Rd.d).length<=sizeLine then tu (l0 (gV 0) (b1 tB<|d2 oV (dA jv<|aa (iW 0 0)<|aa (iW 0 1) iT)<|dV 1) (dV 0) [.no,.sh J]<|l.map Rd.d)else .bad)=_;rw[av<|by rw[ai];exact cO (qG<|by omega),flt];have go:∀L:List Rd,(∀r∈L,PyData.strOk r.m=true)->l0 (gV 0) (b1 tB<|d2 oV (dA jv<|aa (iW 0 0)<|aa (iW 0 1) iT)<|dV 1) (dV 0) [.no,.sh J] (L.map Rd.d)=some ((L.filter λr=>!decide (jX r∈G.map λg=>jX g.1)).map Rd.d):=by
   intro L;induction L with
   |nil=>intro _;rfl
   |cons r L ih=>
    intro hL;rw[aT];unfold l0;show((pM<|(oV (lg<|jX r) J).bind tB).bind λb=>if b=true then(some r.d).bind λv=>(l0 (gV 0) (b1 tB<|d2 oV (dA jv<|aa (iW 0 0)<|aa (iW 0 1) iT)<|dV 1) (dV 0) [.no,.sh J]<|L.map Rd.d).bind λvs=>some (v::vs)else l0 (gV 0) (b1 tB<|d2 oV (dA jv<|aa (iW 0 0)<|aa (iW 0 1) iT)<|dV 1) (dV 0) [.no,.sh J] (L.map Rd.d))=_;rw[Uv (k:=jX r) (hL r<|.head _) Qb,ih λx hx=>hL x<|.tail _ hx];by_cases hk:jX r∈G.map λg=>jX g.1
    ·rw[cC<|by rw[aO hk];decide,aO hk];rfl
    ·rw[cB<|by rw[aI hk];rfl,aI hk];rfl
  rw[go l λr M=>(n.ok r M).2];rfl
 rw[lQ (mL (d:=false) (by
  show(qT _ _) _=_;unfold qT;rw[show(b1 tB<|d2 qB (λρ=>((dV 8) ρ).bind tp)<|dA lL<|aa (dV 8) iT) (kh [iV<|m.map .int,iV<|u.map D.str,ba z,ba t,ba O,ba I,iX p,ba Q,ba J,none])=.ok false from by show(((tp J).bind λx=>(P2.R.ok<|D.int (((G.map λg=>jX g.1).map lg).length:Nat)).bind λy=>qB x y).bind tB)=_;rw[SS Qa SR];show P2.R.ok (!decide (((G.map λg=>jX g.1).length:Int)=((((G.map λg=>jX g.1).map lg).length:Nat):Int)))=_;rw[ai (f:=lg),aO rfl];rfl]
  show(((jq (kA (λρ=>((dV 2) ρ).bind kd) 1 [8] (gV 0) (b1 tB (d2 oV (dA jv (aa (iW 0 0) (aa (iW 0 1) iT))) (dV 1))) (dV 0))) (kh [iV (m.map .int),iV (u.map D.str),ba z,ba t,ba O,ba I,iX p,ba Q,ba J,none])).bind λx=>(P2.R.ok I).bind λy=>mS x y).bind tB=_;rw[qs cp];show(mS I I).bind tB=_;rw[ne_self V.1 V.2];rfl))]
 rw[jI<|j9 (i4 (d:=jD om) rfl)<|aq rfl];show i8 (iY (jM _ _ _) _ [iV<|m.map .int,iV<|u.map D.str,ba z,ba t,ba O,ba I,iX p,ba Q,ba J,ba<|jD om] S8)=_;have adn:R.length=3:=IB;have cN:(d2 n7 (d2 n7 (nq mU (dV 3) (λ_=>.ok none)<|λρ=>((dV 6) ρ).bind pI)<|jq<|λρ=>((aa (dV 9) iT) ρ).bind jy)<|nq mU (dV 3) (λρ=>((dV 6) ρ).bind pI)<|λ_=>.ok none) (kh [iV<|m.map .int,iV<|u.map D.str,ba z,ba t,ba O,ba I,iX p,ba Q,ba J,ba<|jD om])=.ok (.lst<|(R.take p++[om]++R.drop p).map jD):=by
  have lt:((R.take p).map jD).length<=3:=by rw[ai,cJ];omega
  have ld:((R.drop p).map jD).length<=3:=by rw[ai,cz];omega
  unfold d2;rw[cT _ rfl rfl,cD _ rfl rfl];show((n7 (.lst<|(R.take p).map jD)<|.lst [jD om]).bind λx=>n7 x<|.lst<|(R.drop p).map jD)=_;have c1:n7 (.lst<|(R.take p).map jD) (.lst [jD om])=.ok (.lst<|(R.take p).map jD++[jD om]):=by unfold n7 ye;dsimp only;rw[av<|by simp only[aj,cV];exact cO (qG<|by omega)]
  rw[c1];show n7 (.lst<|(R.take p).map jD++[jD om]) (.lst<|(R.drop p).map jD)=_;unfold n7 ye;dsimp only;rw[av<|by rw[ar];simp only[aj,cV];exact cO (qG<|by omega)];rw[bq,bq];rfl
 rw[lQ<|vg (k:=false) (k6 (lC (i9 (i4 (d:=z) rfl)<|i9 (i4 cN) jP) e9) (i4 (d:=O) rfl) (w:=.bl false)<|by show mS (.lst (judge ak R l).1) (.lst (judge ak R l).1)=_;rw[eG];exact ne_self U.1 U.2) rfl];have fin:qa (z2 m8 (zZ B<|iN (zD<|dV 2)<|iN (zD<|jq<|λρ=>(iT ρ).bind jy) i7)<|zD<|jq<|λρ=>(iT ρ).bind jy) (qa (z2 m8 (zZ C<|iN (zD<|dV 2)<|iN (zD<|jq<|λρ=>(iT ρ).bind jy) i7)<|zD<|dV 2)<|z2 m8 (zZ B<|iN (zD<|jq<|λρ=>(iT ρ).bind jy)<|iN (zD<|dV 3) i7)<|zD<|jq<|λρ=>(iT ρ).bind jy) [iV<|m.map .int,iV<|u.map D.str,ba z,ba t,ba O,ba I,iX p,ba Q,ba J,ba<|jD om] S9=.ok (.d<|.bl true) F4:=by have q1:m8 (.lst []) (.lst [])=.ok (.bl true):=eq_self (a:=.lst []) rfl (by decide);unfold qa;rw[k6 (lC (i9 (i4 (d:=z) rfl)<|i9 (i4 (d:=.lst []) rfl) jP) yo) (i4 (d:=.lst []) rfl) q1];show(qa _ _) _ NF=_;unfold qa;rw[k6 (lC (i9 (i4 (d:=z) rfl)<|i9 (i4 (d:=.lst []) rfl) jP) sW) (i4 (d:=z) rfl)<|eq_self Kj.1 Kj.2];show(z2 m8 _ _) _ NG=_;exact k6 (lC (i9 (i4 (d:=.lst []) rfl)<|i9 (i4 (d:=t) rfl) jP) yp) (i4 (d:=.lst []) rfl) q1
 rw[y_ret fin];rfl
end sE
namespace WM
open PySem L2 P2 WP TM T2 PySem.NumText
variable{a:Ad}
def Ua(hf:HF Ff){p q:Int}(h:q≠0)(c:Sz 390 q):jO (yF a Ff<|jT 1 [pr p q])=.ok (fr (p.natAbs:Int) q):=by
 unfold yF;show jO (toS (((oK [.int p]).bind λx=>R.ok [x,D.int q]).bind Ff) RT.rt)=_;have e:oK [.int p]=.ok (.int (p.natAbs:Int)):=by unfold oK;dsimp only;first|rfl|(congr 2;split<;>omega)|(congr 1;congr 1;omega)
 rw[e];show jO (toS (Ff [.int (p.natAbs:Int),.int q]) RT.rt)=_;rw[hf _ q h<|Aj c<|by decide];rfl
def T6{p q x y:Int}(i:Sz 190 p)(h:Sz 190 q)(d:Sz 190 x)(c:Sz 190 y):jO (vY a<|jT 2 [pr p q,pr x y])=.ok (.bl<|decide<|p*y<x*q):=by unfold vY;show jO (toS ((ku (.int p)<|.int y).bind λu=>(ku (.int x)<|.int q).bind λv=>m9 u v) RT.rt)=_;rw[pN i c,pN d h];rfl
end WM
namespace WM
open PySem L2 P2 WP
def ab2{F:jo}{i:List V}{Q:VK}{a:List Int}(t:i.length=1)(l:jb K al H i [.lst<|a.map D.int])(k:lY K H)(e:F [.d<|.lst<|a.map .int] [.mk]=.ok (.d<|.bl true) S')(q:∀d,kX K H d->Q (.bl true) d):jJ 1 K F i H Q E:=by
 refine⟨t,k,λ_=>True,λ_=>none,[.d<|.lst<|a.map .int],[.mk],λ_ _=>trivial,⟨λ_ _ h=>(by cases h),λn c h _ r=>?_,λ_ _ h=>(by cases h),λ_ _ _ h=>(by cases h),λ_ _ _ _ _=>trivial⟩,.ofD (ds:=[.lst<|a.map .int])<|jb.mv (.sub λ_ _=>trivial) l,?_⟩
 ·cases n with
  |zero=>cases h;exact absurd rfl r
  |succ n=>simp at h
 ·rw[e];intro y p d v j m;have x:v=.bl true:=by cases m;rfl
  rw[x];exact q d ⟨λb o no u=>j.fr b o no u λ_=>nofun,j.hf,λ_=>j.tt⟩
end WM
namespace P2
open PySem PySem.Spec PyProof.Rows Fx L2
structure Wt(P:Program)(w:World)(K:W.Frag)(mg:kl)(base h:Heap):Prop where
 X:K.In h
 G:h.Ns mainGlobals mg
abbrev tV(K:W.Frag)(x:Str)(v:Value):Prop:=W.nsIn K mainGlobals x=some (some v)
abbrev qr(K:W.Frag)(x:Str):Prop:=W.nsIn K mainGlobals x=some none
abbrev AA(K:W.Frag)(C:Addr)(x:Str)(b:String):Prop:=W.findIn K (.ref C) x=some (some<|.builtin b)
abbrev AB(K:W.Frag)(C:Addr)(x:Str):Prop:=W.findIn K (.ref C) x=some none
def jZ(K:W.Frag)(x:Str)(st:Stmt):Prop:=∃f a,j0 K x x st f a/\tV K x (.ref f)
def nU(K:W.Frag)(C:Addr)(x qual:Str)(st:Stmt):Prop:=∃f a,oF K x qual st .none f a/\W.findIn K (.ref C) x=some (some<|.ref f)/\W.isFn K (.ref f)=true
variable{P:Program}{w:World}{K:W.Frag}{z:kl}{i h:Heap}{x r:Str}{q:Stmt}{C:Addr}{k:Nat}{y:List Str}{A:Sp}
def Wt.g{v:Value}(Y:Wt P w K z i h)(e:tV K x v):z x=some v:=W.mg_of Y.X Y.G e
def Wt.n(Y:Wt P w K z i h)(e:qr K x):z x=none:=W.mg_none_of Y.X Y.G e
def GO{dV:Value}(n:y.length=1)(b:∀(kV a l:Value) (m:Option Addr) (c ct:Value) (j:Value),bindArgs (W.fnOf x r (kO q) (kx q) (jt q) dV kV a l m c ct) ⟨[j],[]⟩=pure (y.zip [j]))(kV a l:Value)(m:Option Addr)(c ct:Value)(d:List Value)(h:d.length=y.length):bindArgs (W.fnOf x r (kO q) (kx q) (jt q) dV kV a l m c ct) ⟨d,[]⟩=pure (y.zip d):=by
 rw[n]at h;cases d with
 |nil=>cases h
 |cons j d=>
  cases d with
  |nil=>exact b kV a l m c ct j
  |cons u d=>simp at h
def A7{dV:Value}(o:y.length=2)(b:∀(kV c m:Value) (n:Option Addr) (d ct:Value) (l j:Value),bindArgs (W.fnOf x r (kO q) (kx q) (jt q) dV kV c m n d ct) ⟨[l,j],[]⟩=pure (y.zip [l,j]))(kV c m:Value)(n:Option Addr)(d ct:Value)(a:List Value)(h:a.length=y.length):bindArgs (W.fnOf x r (kO q) (kx q) (jt q) dV kV c m n d ct) ⟨a,[]⟩=pure (y.zip a):=by
 rw[o]at h;cases a with
 |nil=>cases h
 |cons l a=>
  cases a with
  |nil=>cases h
  |cons j a=>
   cases a with
   |nil=>exact b kV c m n d ct l j
   |cons u a=>simp at h
def GP{dV:Value}(p:y.length=3)(b:∀(kV c n:Value) (o:Option Addr) (d ct:Value) (m l j:Value),bindArgs (W.fnOf x r (kO q) (kx q) (jt q) dV kV c n o d ct) ⟨[m,l,j],[]⟩=pure (y.zip [m,l,j]))(kV c n:Value)(o:Option Addr)(d ct:Value)(a:List Value)(h:a.length=y.length):bindArgs (W.fnOf x r (kO q) (kx q) (jt q) dV kV c n o d ct) ⟨a,[]⟩=pure (y.zip a):=by
 rw[p]at h;cases a with
 |nil=>cases h
 |cons m a=>
  cases a with
  |nil=>cases h
  |cons l a=>
   cases a with
   |nil=>cases h
   |cons j a=>
    cases a with
    |nil=>exact b kV c n o d ct m l j
    |cons u a=>simp at h
def N5{dV:Value}(t:y.length=4)(b:∀(kV c o:Value) (p:Option Addr) (d ct:Value) (n m l j:Value),bindArgs (W.fnOf x r (kO q) (kx q) (jt q) dV kV c o p d ct) ⟨[n,m,l,j],[]⟩=pure (y.zip [n,m,l,j]))(kV c o:Value)(p:Option Addr)(d ct:Value)(a:List Value)(h:a.length=y.length):bindArgs (W.fnOf x r (kO q) (kx q) (jt q) dV kV c o p d ct) ⟨a,[]⟩=pure (y.zip a):=by
 rw[t]at h;cases a with
 |nil=>cases h
 |cons n a=>
  cases a with
  |nil=>cases h
  |cons m a=>
   cases a with
   |nil=>cases h
   |cons l a=>
    cases a with
    |nil=>cases h
    |cons j a=>
     cases a with
     |nil=>exact b kV c o p d ct n m l j
     |cons u a=>simp at h
def jZ.mk{f:Addr}{p:Value}{o t:Option Addr}{j:Array<|Option Value}{kV m n d ct:Value}(a:W.nsIn K mainGlobals x=some (some<|.ref f):=by k_is)
    (l:K.lookup f=some ⟨p,o,.func<|W.fnOf x x (kO q) (kx q) (jt q) .none kV m n t d ct,j⟩:=by k_is)(c:W.codeIn K d x=true:=by k_is)(k:W.keepIn K (.ref f)=true:=by k_is):jZ K x q:=⟨f,_,Ij l c k,a⟩
def nU.mk{f:Addr}{t:Value}{p u:Option Addr}{j:Array<|Option Value}{kV m o d ct:Value}(a:W.findIn K (.ref C) x=some (some<|.ref f):=by k_is)(n:W.isFn K (.ref f)=true:=by k_is)
    (l:K.lookup f=some ⟨t,p,.func<|W.fnOf x r (kO q) (kx q) (jt q) .none kV m o u d ct,j⟩:=by k_is)(c:W.codeIn K d r=true:=by k_is)(k:W.keepIn K (.ref f)=true:=by k_is):nU K C x r q:=⟨f,_,PY l c k,a,n⟩
def jZ.get(p:jZ K x q)(Y:Wt P w K z i h)(b:∀(kV j m:Value) (n:Option Addr) (l ct:Value) (d:List Value),d.length=y.length->bindArgs (W.fnOf x x (kO q) (kx q) (jt q) .none kV j m n l ct) ⟨d,[]⟩=pure (y.zip d)):
    ∃f c,j0 K x x q f c/\Binds K c y []/\W.keepIn K (.ref f)=true/\z x=some (.ref f):=let⟨f,c,F,a⟩:=p;⟨f,c,F,F.binds b,F.kp,Y.g a⟩
def jZ.has(p:jZ K x q)(Y:Wt P w K z i h)(o:∀f a,j0 K x x q f a->jN P w K z i k f a y A)
    (b:∀(kV d l:Value) (n:Option Addr) (j ct:Value) (c:List Value),c.length=y.length->bindArgs (W.fnOf x x (kO q) (kx q) (jt q) .none kV d l n j ct) ⟨c,[]⟩=pure (y.zip c)):
    jF P w K z i k x y A:=let⟨f,a,F,b,k,m⟩:=p.get Y b;⟨f,a,o f a F,b,k,m⟩
def nU.has(p:nU K C x r q)(Y:Wt P w K z i h)(o:∀f c,oF K x r q .none f c->jN P w K z i k f c y A)
    (b:∀(kV j m:Value) (t:Option Addr) (l ct:Value) (d:List Value),d.length=y.length->bindArgs (W.fnOf x r (kO q) (kx q) (jt q) .none kV j m t l ct) ⟨d,[]⟩=pure (y.zip d)):
    pz P w K z i k C x y [] A:=let⟨f,c,F,a,n⟩:=p;⟨f,c,[],[],o f c F,F.binds b,.nil,λ_ _=>.nil,⟨a,n,F.kp⟩⟩
def nU.Qs(p:nU K C "__init__" r q)(Y:Wt P w K z i h)(m:W.makesIn K C=true)(kp:W.keepIn K (.ref C)=true)(o:∀f c,oF K "__init__" r q .none f c->jN P w K z i k f c y A)
    (b:∀(kV j t:Value) (u:Option Addr) (l ct:Value) (d:List Value),d.length=y.length->bindArgs (W.fnOf "__init__" r (kO q) (kx q) (jt q) .none kV j t u l ct) ⟨d,[]⟩=pure (y.zip d)):
    ql P w K z i k C y A:=let⟨f,c,F,a,n⟩:=p;⟨f,c,o f c F,F.binds b,⟨m,a,n,kp⟩⟩
def jZ.tf(p:jZ K x q)(Y:Wt P w K z i h)(o:∀f j,j0 K x x q f j->jN P w K z i k f j y A)
    (m:y.length=1:=by rfl)(b:∀(kV a l:Value) (n:Option Addr) (c ct:Value) (d:Value),bindArgs (W.fnOf x x (kO q) (kx q) (jt q) .none kV a l n c ct) ⟨[d],[]⟩=pure (y.zip [d]):=by intros;rfl):jF P w K z i k x y A:=p.has Y o (GO m b)
def jZ.P4(p:jZ K x q)(Y:Wt P w K z i h)(y:List Str)
    (m:y.length=1:=by rfl)(b:∀(kV a l:Value) (n:Option Addr) (c ct:Value) (d:Value),bindArgs (W.fnOf x x (kO q) (kx q) (jt q) .none kV a l n c ct) ⟨[d],[]⟩=pure (y.zip [d]):=by intros;rfl):∃f j,j0 K x x q f j/\Binds K j y []/\W.keepIn K (.ref f)=true/\z x=some (.ref f):=p.get Y (GO m b)
def jZ.mR(p:jZ K x q)(Y:Wt P w K z i h)(o:∀f l,j0 K x x q f l->jN P w K z i k f l y A)
    (n:y.length=2:=by rfl)(b:∀(kV a m:Value) (t:Option Addr) (c ct:Value) (j d:Value),bindArgs (W.fnOf x x (kO q) (kx q) (jt q) .none kV a m t c ct) ⟨[j,d],[]⟩=pure (y.zip [j,d]):=by intros;rfl):jF P w K z i k x y A:=p.has Y o (A7 n b)
def jZ.Iv(p:jZ K x q)(Y:Wt P w K z i h)(y:List Str)
    (n:y.length=2:=by rfl)(b:∀(kV a m:Value) (o:Option Addr) (c ct:Value) (j d:Value),bindArgs (W.fnOf x x (kO q) (kx q) (jt q) .none kV a m o c ct) ⟨[j,d],[]⟩=pure (y.zip [j,d]):=by intros;rfl):∃f l,j0 K x x q f l/\Binds K l y []/\W.keepIn K (.ref f)=true/\z x=some (.ref f):=p.get Y (A7 n b)
def nU.Qt(p:nU K C "__init__" r q)(Y:Wt P w K z i h)(m:W.makesIn K C=true)(kp:W.keepIn K (.ref C)=true)(o:∀f l,oF K "__init__" r q .none f l->jN P w K z i k f l y A)
    (t:y.length=2:=by rfl)(b:∀(kV a n:Value) (u:Option Addr) (c ct:Value) (j d:Value),bindArgs (W.fnOf "__init__" r (kO q) (kx q) (jt q) .none kV a n u c ct) ⟨[j,d],[]⟩=pure (y.zip [j,d]):=by intros;rfl):ql P w K z i k C y A:=p.Qs Y m kp o (A7 t b)
def jZ.yT(p:jZ K x q)(Y:Wt P w K z i h)(o:∀f m,j0 K x x q f m->jN P w K z i k f m y A)
    (t:y.length=3:=by rfl)(b:∀(kV a n:Value) (u:Option Addr) (c ct:Value) (l j d:Value),bindArgs (W.fnOf x x (kO q) (kx q) (jt q) .none kV a n u c ct) ⟨[l,j,d],[]⟩=pure (y.zip [l,j,d]):=by intros;rfl):jF P w K z i k x y A:=p.has Y o (GP t b)
def nU.yT(p:nU K C x r q)(Y:Wt P w K z i h)(o:∀f m,oF K x r q .none f m->jN P w K z i k f m y A)
    (t:y.length=3:=by rfl)(b:∀(kV a n:Value) (u:Option Addr) (c ct:Value) (l j d:Value),bindArgs (W.fnOf x r (kO q) (kx q) (jt q) .none kV a n u c ct) ⟨[l,j,d],[]⟩=pure (y.zip [l,j,d]):=by intros;rfl):pz P w K z i k C x y [] A:=p.has Y o (GP t b)
def jZ.IC(p:jZ K x q)(Y:Wt P w K z i h)(o:∀f n,j0 K x x q f n->jN P w K z i k f n y A)
    (u:y.length=4:=by rfl)(b:∀(kV a t:Value) (v:Option Addr) (c ct:Value) (m l j d:Value),bindArgs (W.fnOf x x (kO q) (kx q) (jt q) .none kV a t v c ct) ⟨[m,l,j,d],[]⟩=pure (y.zip [m,l,j,d]):=by intros;rfl):jF P w K z i k x y A:=p.has Y o (N5 u b)
def _root_.L2.pw.u{j:Nat}(G:jF P w K z i j x y A)(h:j<=k:=by first|decide|omega):jF P w K z i k x y A:=pw.up G h
def pz.u{j:Nat}{a:List D}(G:pz P w K z i j C x y a A)(h:j<=k:=by first|decide|omega):pz P w K z i k C x y a A:=G.up h
def ql.u{j:Nat}(G:ql P w K z i j C y A)(h:j<=k:=by first|decide|omega):ql P w K z i k C y A:=G.up h
end P2
namespace sE
open PySem L2 P2 WP WM TM T2 PySem.NumText
abbrev fo(x q:Str)(st:Stmt)(dV kV doc pm:Value)(an:Option Addr)(cdv ct:Value):FuncData:=PySem.W.fnOf x q (kO st) (kx st) (jt st) dV kV doc pm an cdv ct
def EA(K:PySem.W.Frag):Sp:=λc H Q E=>∃(al:Addr->Prop) (ns:List Int),c.length=1/\(∀a,H a=none->al a)/\ns.length<=63/\jb K al H c [.lst<|ns.map D.int]/\lY K H/\∀d,kX K H d->Q (.bl true) d
theorem Dy{K:PySem.W.Frag}{al:Addr->Prop}{H:Hp}:∀a:List Int,jb K al H (a.map V.int) (a.map D.int)
 |[]=>.nil
 |_::a=>.cons (.int _) (Dy a)
def aba{K:PySem.W.Frag}{H:Hp}{a:Addr}{c:List Int}(h:c.length<=63)(d:lY K H)(r:Rep K (λ_=>True) H (.ref a)<|.lst<|c.map D.int):EA K [.ref a] H (λv _=>v=.bl true) λ_ _ _=>False:=
 ⟨λ_=>True,c,rfl,λ_ _=>trivial,h,.cons r .nil,d,λ_ _=>rfl⟩
def isF(K:PySem.W.Frag)(a:List Addr)(c:Addr)(u:Value):Option Bool:=if c∈a then PySem.W.kitOne K (.ref c) u else none
def RJ{K:PySem.W.Frag}{a:List Addr}(h:∀c∈a,xS K c):xF K (isF K a):=λc u b e=>by
 unfold isF at e;split at e;·rename_i z;exact⟨h c z,e⟩
 ·cases e
variable(a:Ad)
abbrev FH:jo:=λzs S=>i8 (yw a S.length (jx 4 zs) S)
abbrev Nm:jo:=λzs S=>i8 (yx a S.length (jx 6 zs) S)
abbrev FI:jo:=λzs S=>i8 (vQ a (Nm a) S.length (jx 6 zs) S)
abbrev Nn:jf:=λds=>jO (vR a<|jT 3 ds)
abbrev Np:jf:=λds=>jO (vU a<|jT 1 ds)
abbrev qp:jf:=λds=>jO (vS a (Np a) (Nn a)<|jT 3 ds)
abbrev FQ:jf:=λds=>jO (vW a (qp a)<|jT 2 ds)
abbrev FO:jf:=λds=>jO (vV a (qp a)<|jT 2 ds)
abbrev FR:jf:=λds=>jO (vX a (qp a)<|jT 2 ds)
abbrev FT:jf:=λds=>jO (vY a<|jT 2 ds)
abbrev FL:jf:=λds=>jO (By a<|jT 1 ds)
abbrev F2(Fs:jf):jf:=λds=>jO (rM a (FL a) Fs<|jT 3 ds)
abbrev FP:jf:=rL (F2 a) 8
abbrev tS:jf:=λds=>jO (yy a (FP a)<|jT 6 ds)
abbrev Nr:jo:=λzs S=>i8 (yD a (qp a) S.length (jx 3 zs) S)
abbrev FU:jf:=λds=>jO (yF a (qp a)<|jT 1 ds)
abbrev F3(Fs:jo):jo:=λzs S=>i8 (og a (qp a) (FQ a) (FO a) (FR a) (FU a) (Nr a) Fs S.length (jx 4 zs) S)
abbrev Nv:jo:=nM (F3 a) 8
abbrev F1(Fs:jo):jo:=λzs S=>i8 (vT a (FT a) (Nv a) Fs S.length (jx 3 zs) S)
abbrev FK:jo:=nM (F1 a) 8
abbrev FJ:jo:=λzs S=>i8 (yz a S.length (jx 1 zs) S)
abbrev FN:jo:=λzs S=>i8 (yB a S.length (jx 2 zs) S)
abbrev AQ:jo:=λzs S=>i8 (yA a (qp a) (tS a) (FH a) (FI a) (FJ a) (FK a) (FN a) S.length (jx 10 zs) S)
abbrev Nq:jo:=λzs S=>i8 (yC a (AQ a) S.length (jx 2 zs) S)
abbrev Nu:jo:=λzs S=>i8 (yE a (AQ a) S.length (jx 2 zs) S)
abbrev xJ:jf:=λds=>jO (yH a<|jT 2 ds)
abbrev vt:jf:=λds=>jO (yK a<|jT 4 ds)
abbrev NC:jf:=λds=>jO (vZ a<|jT 7 ds)
abbrev su:jo:=λzs S=>i8 (yL a S.length (jx 3 zs) S)
abbrev NB:jo:=λzs S=>i8 (yQ a (vt a) (su a) S.length (jx 2 zs) S)
abbrev Nx:jo:=λzs S=>i8 (yM a (xJ a) (su a) (NB a) S.length (jx 12 zs) S)
abbrev NA:jo:=λzs S=>i8 (yP a (vt a) (su a) S.length (jx 4 zs) S)
abbrev Nz:jo:=λzs S=>i8 (yO a (vt a) (su a) (NA a) S.length (jx 5 zs) S)
abbrev Nw:jo:=λzs S=>i8 (yI a (vt a) (su a) (Nz a) S.length (jx 4 zs) S)
abbrev FV:jo:=λzs S=>i8 (yJ a (su a) (Nw a) S.length (jx 4 zs) S)
abbrev Ny:jo:=λzs S=>i8 (yN a (xJ a) (FV a) S.length (jx 8 zs) S)
def sX:HF (qp a):=λt b j h=>Ts (λi=>T9 (a:=a) i) (λx y d c h=>Tt (a:=a) x y d c h) t b j h
def Gp:Ar a (qp a) (FQ a) (FO a) (FR a) (FU a) (FT a) where
 f:=sX a
 p:=λk j i d c l=>TU (a:=a) (sX a) k j i d c l
 m:=λk j i d c l=>TJ (a:=a) (sX a) k j i d c l
 t:=λk j i d c l=>T5 (a:=a) (sX a) k j i d c l
 a:=λh c=>Ua (a:=a) (sX a) h c
 u:=λk j i d=>T6 (a:=a) k j i d
def V7(t:T7)(c:t.dep<8)(d:t.parts.length<64):FP a [t.d]=.ok (.lst<|t.parts.map T7.d):=
 JY (a:=a) (Fi:=FL a) (λt=>Tz t) 8 t c (by omega)
def Gq(t:T7)(d:t.dep<8)(c:t.parts.length<64):∃A,vk (tS a) t A:=Tn (V7 a t d c) c
def Se:Jd a (qp a) (tS a) (FH a) (FI a) (FJ a) (FK a) (FN a) where
 f:=sX a
 i:=λS c t=>Tv S c t _
 s:=λg z r A d=>TY (λS' g r k=>TN g r k _) g z r A d _
 o:=λn m l j D=>Tr n m l j D _
 h:=λp E R=>Tu (Gp a) E 8 (λq C d=>Uc (Gp a) E p (λx y v u=>TL (sX a) p v u _) R.here 8 q C d) 8 R.w R.dep R.dep R.asks
 k:=λn m l j=>m_keys n m l j _
def Ji{S:i6}{R:List lX}{c:List WM.Rd}(h:qN R)(d:tZ c)(j:S[0]?=some .mk)(i:mM S):∃S',Gr S S'/\AQ a [.d<|.lst<|c.map WM.Rd.d,.d<|.lst<|R.map jD] S=.ok (.d<|.tup [.lst (judge (sG<|tS a) R c).1,.lst<|(judge (sG<|tS a) R c).2.map WM.Rd.d]) S':=
 TB (Se a) R c (aap (Gq a) h) d.1 d.2 j i
def uN:Pk (su a):=λc m x b h d=>TQ c m x b h d _
def zb:Lw (vt a):=λt b d c=>TF t b d c
def Bc:Cl (xJ a):=λc k=>To c k
def OI{c:List Str}(W:W3 c):Gv (FV a) c Cw 4 19:=Tq (uN a) (Tp (uN a) (zb a)<|T3 (uN a) (zb a)<|T4 (uN a) (zb a) W.ok<|by rw[W.len];decide)
def PZ:Fz (sG<|tS a) (xJ a) (NC a) (Nx a) (Ny a) (Nq a) (Nu a) where
 c:=Bc a
 w:=λc=>Ub c
 r:=λW j p f k l i d=>TV (uN a) (T8 (uN a)<|zb a) (Bc a) W j p f k l i d
 u:=λW j f k l i d=>TX (OI a W) (Bc a) j f k l i d
 m:=λo n i d=>let⟨S',g,e⟩:=Ji a o n i d;⟨S',g,TH e⟩
 s:=λo n i d=>let⟨S',g,e⟩:=Ji a o n i d;⟨S',g,TZ e⟩
 h:=λt v q=>((Gi<|Gq a t v q).2.2 _).mpr (.inl rfl)
def all_mk{l:PySem.W.OpenLaw}{w:World}{K:PySem.W.Frag}{h:Heap}{mg:kl}{fa Bv j d i:Addr}(X:K.In h)(G:h.Ns mainGlobals mg)(hfa:mg "law"=some (.ref fa))
    {UX Gk:Option Addr}{aaY:Array<|Option Value}{UU Jn Hd KY Bb Hb:Value}
    (p4:jZ K "common_divisor" DP)
    (p5:jZ K "is_whole" DX)
    (p6:jZ K "fraction" DR)
    (p7:jZ K "plus" D4)
    (p8:jZ K "minus" D1)
    (p9:jZ K "times" D6)
    (CS:jZ K "under" D7)
    (CT:jZ K "inner_parts" DV)
    (CU:jZ K "parts_of" D3)
    (CV:jZ K "asked_by" DM)
    (CW:jZ K "minutes_between" D2)
    (CY:jZ K "without_sign" D8)
    (CZ:jZ K "worth" D9)
    (C0:jZ K "holds" DU)
    (C1:jZ K "found_of" DQ)
    (C2:jZ K "keys_of" DZ)
    (C3:jZ K "judged" DY)
    (C4:jZ K "marks" D0)
    (C5:jZ K "standing" D5)
    (C6:jZ K "_law_cell_at" Em)
    (C7:jZ K "_law_low" Ep)
    (C8:jZ K "_law_word" Ey)
    (C9:jZ K "_law_pick" Er)
    (Dc:jZ K "_law_value" Ex)
    (Dd:jZ K "_law_row" Es)
    (De:jZ K "_law_term" Ew)
    (Df:jZ K "_law_sum" Eu)
    (Dg:jZ K "_law_compare" En)
    (Dh:jZ K "_law_condition" Eo)
    (Di:jZ K "_law_rules" Et)
    (a34:tV K "law"<|.ref Bv)
    (Cn:K.lookup Bv=some ⟨UU,UX,.func<|fo "law" "law" tE .none Jn Hd KY Gk Bb Hb,aaY⟩)(Ba:PySem.W.codeIn K Bb "law"=true)(Cg:PySem.W.keepIn K (.ref Bv)=true)
    (n:tV K "WeatherError"<|.ref j)
    (D:tV K "NoFraction"<|.ref d)
    (AX:tV K "Sight"<|.ref i)
    (Y:PySem.W.plainGet K i Str.empty=true)(V:PySem.W.hasDictIn K i=true)(U:PySem.W.plainOver K i=true)(R:AA K i "__setattr__" "object.__setattr__")(O:PySem.W.makesIn K i=true)(M:PySem.W.keepIn K (.ref i)=true)
    (r:AB K i "masts")
    (m:AB K i "places")
    (p1:nU K i "__init__" "Sight.__init__" DJ)
    (p2:nU K i "one_seen" "Sight.one_seen" DK)
    (p3:nU K i "seen_from" "Sight.seen_from" DL)
    (z:PySem.W.excIn K d [.type "ValueError",.type "Exception",.type "BaseException",.type "object"] "ValueError.__new__"=true)(u:PySem.W.keepIn K (.ref d)=true)(y:AA K d "__getattribute__" "BaseException.__getattribute__")(t:AB K d "__getattr__")
    (C:AA K d "__class__" "object.__class__")
    (hnt:q7 K=true)
    (EX:qr K "abs")(EY:qr K "bool")(E1:qr K "dict")(E2:qr K "int")(I:qr K "isinstance")(E3:qr K "len")(E5:qr K "range")(E6:qr K "set")(Z:qr K "sorted"):
    ∃fd:FuncData,(∀(s:Shared) (v:Value),BindsTo s fd ⟨[v],[]⟩ [("_law_script",v)])/\∀base:Heap,K.In base->base.Ns mainGlobals mg->BM mg base->mE l.prog w K mg base (kL l.prog w) 23 fa fd ["_law_script"] (EA K):=by
 have e:=hfa.symm.trans (PySem.W.mg_of X G a34);cases e;have L:F8 K d:=⟨z,u,y,t,C⟩;have IS:xF K (isF K []):=RJ λc hc=>by simp only[aE,bU,dU]at hc
 have W:Wt l.prog w K mg h h:=⟨X,G⟩;obtain⟨a,ea⟩:∃a:Ad,a={WeatherError:=j,NoFraction:=d,Sight:=i,tm:=isF K []}:=⟨_,rfl⟩;have T:Tx K mg a:=by subst ea;exact {vH:=W.n EX,GB:=W.n EY,GC:=W.n E1,GD:=W.n E2,A2:=W.n I,qU:=W.n E3,vI:=W.n E5,ug:=W.n E6,uh:=W.n Z,N9:=W.g n,GS:=W.g D,GU:=W.g AX,Mx:=L,qY:=⟨Y,V,U,R⟩,zg:=r,zh:=m,nt:=hnt,Cc:=IS}
 have ei:a.tm=isF K []:=by rw[ea]
 have p:a.WeatherError=j:=by rw[ea]
 have J:a.NoFraction=d:=by rw[ea]
 have Pd:a.Sight=i:=by rw[ea]
 clear ea;subst p;subst J;subst Pd;have MU:=Ij (st:=tE) Cn Ba Cg;refine⟨PySem.W.fnOf "law" "law" (kO tE) (kx tE) (jt tE) .none Jn Hd KY Gk Bb Hb,λs v=>.of_eq rfl,λbase _ _ bm=>?_⟩;have W:Wt l.prog w K mg base h:=⟨X,G⟩;have Ng:=p1.Qt W O M λ_ _ F=>U2 T F;have Nh:=p2.yT W λ_ _ F=>U3 T F;have Ni:=p3.yT W λ_ _ F=>U4 T F Nh.u;have H4:=p4.mR W λ_ _ F=>U6 T F;have H5:=p5.tf W λ_ _ F=>Vc T F;have H6:=p6.mR W λ_ _ F=>U9 T F H5.u H4.u;have H7:=p7.mR W λ_ _ F=>Vm T F H6.u;have H8:=p8.mR W λ_ _ F=>Vi T F H6.u;have H9:=p9.mR W λ_ _ F=>Vq T F H6.u;have AG:=CS.mR W λ_ _ F=>Vr T F;have AH:=CT.tf W λ_ _ F=>Vb T F;obtain⟨Py,_,MR,Gx,Jk,JV⟩:=CU.P4 W ["part"];have UQ:=Lm (P:=l.prog) (w:=w) (K:=K) (mg:=mg) (base:=base) (f:=Py) (x:="parts_of") (k0:=1) (st:=1) (F0:=F2 a) (hn:=rfl) (λo=>⟨_,_,o,Gx,Jk,JV⟩) (λFs k hk Hh=>by exact Vk (k:=k+0) T MR AH.u Hh.u) 8
 have xC:pw _ _ _ _ _ _ _ _ _ _:=⟨_,_,UQ,Gx,Jk,JV⟩;have MV:=CV.tf W λ_ _ F=>U5 T F xC.u;have MW:=CW.yT W λ_ _ F=>Vj T F H6.u;have MX:=CY.tf W λ_ _ F=>Vt T F H6.u;obtain⟨Pz,_,MS,Gy,Jl,JW⟩:=CZ.Iv W ["term","found"];have UR:=Dw (P:=l.prog) (w:=w) (K:=K) (mg:=mg) (base:=base) (f:=Pz) (x:="worth") (k0:=4) (st:=1) (F0:=F3 a) (hn:=rfl) (λo=>⟨_,_,o,Gy,Jl,JW⟩) (λFs k hk Hh=>by exact Vu (k:=k+0) T MS H6.u H7.u H8.u H9.u MX.u MW.u Hh.u) 8
 have MY:pw _ _ _ _ _ _ _ _ _ _:=⟨_,_,UR,Gy,Jl,JW⟩;obtain⟨PB,_,MT,Gz,Jm,JX⟩:=C0.Iv W ["condition","found"];have US:=Dw (P:=l.prog) (w:=w) (K:=K) (mg:=mg) (base:=base) (f:=PB) (x:="holds") (k0:=12) (st:=1) (F0:=F1 a) (hn:=rfl) (λo=>⟨_,_,o,Gz,Jm,JX⟩) (λFs k hk Hh=>by exact Va (k:=k+0) T MT AG.u MY.u Hh.u) 8
 have MZ:pw _ _ _ _ _ _ _ _ _ _:=⟨_,_,US,Gz,Jm,JX⟩;have M0:=C1.tf W λ_ _ F=>U8 T F;have M3:=C2.tf W λ_ _ F=>Ve T F;have FF:=C3.mR W λ_ _ F=>Vd T F H6.u MV.u M0.u MZ.u M3.u Ng.u Ni.u;have M4:=C4.mR W λ_ _ F=>Vh T F FF.u;have M5:=C5.mR W λ_ _ F=>Vp T F FF.u;have AI:=C6.mR W λ_ _ F=>Vv T F;have xD:=C7.mR W λ_ _ F=>Vy T F;have M6:=C8.mR W λ_ _ F=>VF T F;have tR:=C9.mR W λ_ _ F=>Vz T F;have M7:=Dc.tf W λ_ _ F=>VE T F xD.u tR.u;have M8:=Dd.IC W λ_ _ F=>VA T F AI.u tR.u M7.u;have M9:=De.mR W λ_ _ F=>VD T F xD.u tR.u;have Na:=Df.mR W λ_ _ F=>VC T F xD.u tR.u M9.u;have Nb:=Dg.mR W λ_ _ F=>Vw T F xD.u tR.u Na.u;have Nd:=Dh.mR W λ_ _ F=>Vx T F tR.u Nb.u;have Nf:=Di.IC W λ_ _ F=>VB T F AI.u Nd.u;have UT:=Vf (P:=l.prog) (w:=w) (base:=base) T MU AI.u M6.u M8.u Nf.u M4.u M5.u;refine UT.imp λvs H Q E q=>?_;obtain⟨al,ns,hl,fr,hn,rv,tt,q⟩:=q;obtain⟨S',e⟩:=TC (PZ a) ns hn 1;exact ab2 hl rv tt e q
def walk{l:PySem.W.OpenLaw}{q:Program}{j:List Str}{XP:(kl)->Heap->Prop}{I:World->Heap->Prop}{d:DefRec}{K:Params->PySem.W.Frag}(L:l.most=some 63)(x:d.params.defaults=[])
    (R:∀(w:World) (h:Heap),I w h->(K w.params).In h)(hT:∀w:World,(mD<|K w.params).all (λt=>((PyProof.Rows.recsOf q).find? λe=>e.name==t.1).isSome)=true)(hN:∀w:World,PySem.W.noTabs (K w.params)=true)
    (F:∀(w:World) (mg:kl) (m:Addr) (h:Heap),(K w.params).In h->h.Ns mainGlobals mg->mg d.name=some (.ref m)->
      ∃y:FuncData,(∀(s:Shared) (u:Value),BindsTo s y ⟨[u],[]⟩ [("_law_script",u)])/\∀base:Heap,(K w.params).In base->base.Ns mainGlobals mg->BM mg base->mE l.prog w (K w.params) mg base (kL l.prog w) 23 m y ["_law_script"] (EA (K w.params))):
    PySem.W.WalkO q j XP I l.row.toRowW d [] (λf r=>PySem.call f r):=by
 refine Fg.N1 L x λw D C mg mb m o pm cd V a r ns G Y ho hd O v c k i M=>?_;have p:=R w _ Y;obtain⟨y,Q,U⟩:=F w mg m _ p G.T.g v;refine SN p G.T.g G.T.b G.T.builtins G.T.nolimit M c k (aU i<|by decide) ⟨rfl,by decide,by decide⟩ (abU G.T p<|hT w) (hN w) G.T.bmain U Q (λH J T=>aba i J ?_) λH e Z h=>?_
 ·rcases T with h|⟨o,rO,n,h1,h2,h3,h4,h5,h6⟩;·exact .lst (.inl ⟨trivial,h⟩) (Dy _)
  ·have e:=p a o h1;rw[c]at e;cases e;cases h4;exact .lst (.inr ⟨r,_,h1,by simpa using h5,by simpa using h6⟩) (Dy _)
 ·obtain⟨_,_,_,_,_,_,_,_,_,_,_,_,z⟩:=h;exact z
end sE
structure PySem.W.Fast:Prop where
 (tw4910683348266656702 tw16352277654778366416 tw6875179621614789187 tw6847006545412554034 tw14128339466595343523 tw6347096082933070165 tw7222675585876900156 tw3646128688628729330 tw14950827561602938945 tw14763331241341247749 tw16631386383100016786 tw461724772711250889 tw13173734778124875341 tw17949244383064450330 tw14957812213740683685 tw10494139469279515369 tw17648638575740649018 tw1877468405462962105 tw5647822850782496890 tw882833282137169215 tw14882431713577284142 tw4748798863342796667 tw15823796721775122368 tw11142967767703202318 tw7014958460519243754 tw17357818355231277115 tw73515600752798978 tw16191522228719717422 tw4482689938204057434 tw17125507887390981841 tw5830088630126386158 tw3581230484443280951 tw3440655519605778334 tw7656862791169892692 tw16011385578879493416 tw15155953982493835757 tw3797734683965159439 tw9374807652681195449 tw3869471001184268841 tw18219006182356111315 tw4391028931882974160 tw18259013811911745648 tw10778358576213221823 tw11315775101593215156 tw6529896861167396224 tw1479817685489816933 tw10441419143484763789 tw16220393725436269395 tw4279525903460085090 tw5907455415556801162 tw17981848102328925958 tw8760771628442854991 tw13995329179222568646 tw11478182695809845601 tw10590875055210773870 tw16065597669907582774 tw17285141230689963357 tw3750143009562369875 tw11871298714168561722 tw5505819288959224709 tw13124008847711075571 tw2036577267552414469 tw3931640342924536953 tw15833968153327460201 tw17312993055223796403 tw552756975875723820 tw17270593312881666716 tw18234123029155548751 tw3286067321336787602 tw11066117967979337589 tw9716436436045264672 tw7129089885488877140 tw10154802595643299733 tw12513257974931053446 tw12304184887206456458 tw7485321743783437966 tw16140140241168632062 tw811594763844952938 tw3824457119898129576 tw1130539726819724418 tw14836366043576007137 tw603135369143026219 tw18006152730154403851 tw12048394874757039545 tw476388349397764257 tw9474083122492115296 tw11107698733599158724 tw8015108391706991513 tw3645511575644820083 tw14332368969373534644 tw10215391138419729234 tw18285071749524301696 tw4548206595800191037 tw9020882478977879263 tw1479384018851837315 tw15462368533310192857 tw14212127726757312847 tw3293777795034639291 tw12732087913916868842 tw10911563810697574904 tw976850454702501947 tw1937866917669648101 tw1199400227202651811 tw3907464373556527283 tw9969568634172342715 tw1622445606785978376 tw9384694741222619112 tw3808370167352804187 tw5863197724574792506 tw9651771728549135871 tw15299331814249878112 tw12287734538866901979 tw5156438771829505603 tw15338544357560206002 tw8817456125891091718 tw8669543641164660383 tw5856457134216456414 tw9192122532529373398 tw17987486369853049462 tw2250206800288084671 tw14293458257761832447 tw9476771251035210066 tw16415007494215632333 tw7695107940031069184 tw8671708680156373693 tw5827593132379599008 tw6119592335161990437 tw14968336431758818487 tw7160127540139680528 tw16809844770790116468 tw12541838148083187176 tw13388622127850774116 tw208154092255205697 tw7584071592023855360 tw17980247300002145235 tw2177072548705300732 tw13934131290890558785 tw10455182195290441894 tw14409822754799450277 tw11493819090430408152 tw7447927844995654308 tw17367007449221899210 tw13823218534774041340 tw15062407751788801201 tw4672489773748265477 tw15060751223658115967 tw3471848851170054793 tw3380782845019724023 tw13745551577180467632 tw8718081737991768476 tw2172343068997757427 tw17998970189745822801 tw17723570770382635680 tw6785110133295005804 tw10086382046081494841 tw3144041902667141669 tw9112812750027503186 tw17394283516945414997 tw11809872578845452361 tw5046826483680363402 tw7562733510628222572 tw13982816116502938321 tw3168802062105246321 tw13677929292474759166 tw18039944014762715425 tw9112724417403788244 tw5057286668237191140 tw560450711415785266 tw1663788999411050034 tw1113573140069282262 tw9840655902714802214 tw16864340867363036808 tw324095575859684460 tw6111825467406559678 tw14638154526734293598 tw15801852968174595347 tw12396606504463544964 tw5523393404741119873 tw10368408396396264710 tw1739747033623758850 tw16299411011700181054 tw8110398157187235108 tw4163873660993925259 tw3500146542010758787 tw13125545532638139255 tw13746005407941244272 tw249488935644211868 tw15174130051990376522 tw5148684870000106970 tw1751134076716532019 tw1650137218098587895 tw11944794307275379505 tw9682066726267452734 tw1782901622878985774 tw3450902183835509301 tw7088461332216226984 tw11360542798325374601 tw7799661858437612157 tw3709105089324646880 tw13944521134120928238 tw4680856437623177771 tw9261615431786738661 tw16367855252872362853 tw2257075159180339886 tw14833691959693825866 tw3193820517122562533 tw7764090063490127725 tw11784636551422613494 tw5617799511118106783 tw2247856332972722657 tw3239071064445158428 tw4315824274772404709 tw1662701001755643908 tw6408582534441843829 tw15681353476963894630 tw5318233088167598047 tw11187412345211152297 tw445786496807676972 tw5509373788372304979 tw15911853869094727147 tw11793514812629809794 tw7809428454111823928 tw12710694992596209484 tw4656699340976540150 tw14588391840518704949 tw12775807027197146573 tw10025892440215543448 tw8159409594322400851 tw5088219168109782480 tw12357564532062543093 tw6906555727211926477 tw10222811385716043112 tw10789829376942953605 tw12386878682856076203 tw8441440814785067941 tw12405259854041666637 tw9557674891188305298 tw8869097133001052451 tw6076602852254333154 tw3338522701024666079 tw14561544114391819318 tw11079911047541845804 tw14873634453277750178 tw14888908671968392994 tw14101501844060134602 tw8378806676166549593 tw13276139180126109868 tw16520277557524474658 tw9796114925430002587 tw2970521738865203517 tw10650991519830589802 tw11663970262882011306 tw4840841708656863489 tw15365837300735181012 tw15892160517492474354 tw5430323345870473715 tw14507850265812638247 tw4788451575734686581:True)
open PySem PySem.W PyProof.Rows
set_option maxRecDepth 100000 in
set_option maxHeartbeats 0 in
theorem PySem.Challenge.cw_weather_k43_rules_in_turn_holds : PySem.Challenge.rw_weather_k43_rules_in_turn.Holds := by
 w_on;o_law;k_head;(case hw=>w_witness2)
 k_fill
 refine sE.walk (l:=PySem.Challenge.rw_weather_k43_rules_in_turn) rfl rfl (λw h Y=>by first|exact PySem.W.km_in_of Y|exact PySem.W.kIn_of Y) ?hT ?hN ?F;case hT=>exact λw=>by kernel_rfl
 case hN=>exact λw=>by kernel_rfl
 case F=>
  intro w mg fa h KX G Q0;refine' sE.all_mk KX G Q0 ?p4 ?p5 ?p6 ?p7 ?p8 ?p9 ?CS ?CT ?CU ?CV ?CW ?CY ?CZ ?C0 ?C1 ?C2 ?C3 ?C4 ?C5 ?C6 ?C7 ?C8 ?C9 ?Dc ?Dd ?De ?Df ?Dg ?Dh ?Di ?a34 ?Cn ?Ba ?Cg ?NJ ?NI ?AX ?Ot ?Ou ?Ow ?Ox ?Oy ?Oz ?OF ?OG ?p1 ?p2 ?p3 ?acH ?acZ ?acW ?ac0 ?acG ?hnt ?EX ?EY ?E1 ?E2 ?acC ?E3 ?E5 ?E6 ?acF;case p4|p5|p6|p7|p8|p9|CS|CT|CU|CV|CW|CY|CZ|C0|C1|C2|C3|C4|C5|C6|C7|C8|C9|Dc|Dd|De|Df|Dg|Dh|Di=>exact .mk
  case a34|Cn|Ba|Cg|NJ|NI|AX=>(show _=_;k_is)
  case Ot|Ou|Ow=>kernel_rfl
  case Ox=>(show _=_;k_is)
  case Oy=>kernel_rfl
  case Oz|OF|OG=>(show _=_;k_is)
  case p1|p2|p3=>exact .mk
  case acH=>k_exc
  case acZ|acW|ac0|acG=>(show _=_;k_is)
  case hnt=>kernel_rfl
  case EX|EY|E1|E2|acC|E3|E5|E6|acF=>(show _=_;k_is)
