import PyProof.Rows.All
import Wide.All
import OpenK.AllK
import PySem.Challenge.RW_weather_k73_whole_one_reading_more
set_option compiler.extract_closed false
set_option bootstrap.genMatcherCode false
set_option linter.all false
def ae:=@PySem.wpAny_bind
def af:=@PySem.wpAny_pure
def ah:=@PySem.Heap.get?_push_of_some
def ai:=@Nat.le_refl
def aj:=@Nat.le_of_ble_eq_true
def ao:=@List.length_map
def aq:=@List.length_append
def ar:=@List.getElem?_eq_getElem
def au:=@if_pos
def av:=@List.getElem?_set_ne
def aw:=@List.length_cons
def ax:=@if_neg
def ay:=@Bool.false_ne_true
def az:=@List.mem_cons
def aA:=@List.getElem?_append_left
def aB:=@Option.map_eq_some_iff
def aC:=@List.getElem?_eq_some_iff
def aD:=@PySem.Heap.get?_push_size
def aE:=@Nat.lt_of_lt_of_le
def aF:=@List.getElem?_set_self
def aG:=@Array.length_toList
def aH:=@List.getElem?_map
def aI:=@List.mem_singleton
def aJ:=@decide_eq_false
def aK:=@Bool.and_eq_true
def aL:=@List.mem_filter
def aM:=@Array.getElem?_eq_getElem
def aN:=@List.getElem?_append_right
def aO:=@List.mem_map
def aP:=@Option.bind_eq_some_iff
def aQ:=@List.size_toArray
def aR:=@decide_eq_true
def aS:=@decide_eq_true_eq
def aT:=@List.length_set
def aU:=@Nat.ne_of_lt
def aV:=@Nat.le_trans
def aW:=@List.map_cons
def aX:=@List.mem_append
def aY:=@PySem.Heap.get?_update_self
def aZ:=@PySem.wpAny_ite_split
def a9:=@PySem.wpAny_newObj_type
def bc:=@List.getD_eq_getElem?_getD
def bf:=@List.mem_cons_of_mem
def bg:=@Array.getElem?_toList
def bh:=@List.map_map
def bj:=@List.filter_cons_of_neg
def bo:=@List.mem_filterMap
def bp:=@List.mem_of_getElem?
def br:=@PySem.Heap.get?_update_other
def bu:=@Int.eq_ofNat_of_zero_le
def bw:=@PySem.Obj.data_mapFields
def bx:=@of_decide_eq_true
def bz:=@List.append_nil
def bA:=@Bool.false_eq_true
def bB:=@PySem.wpAny_call_entry
def bC:=@PySem.wpAny_mono
def bD:=@Array.getElem?_eq_some_iff
def bE:=@List.filter_filter
def bF:=@PySem.Heap.SameBut.update
def bG:=@List.filter_cons_of_pos
def bH:=@Nat.lt_succ_self
def bI:=@PySem.wpAny_holding
def bJ:=@Int.toNat_natCast
def bK:=@List.mem_append_right
def bL:=@List.nodup_cons
def bM:=@List.map_append
def bN:=@congrArg
def bO:=@PySem.mem_of_lookup
def bP:=@List.append_assoc
def bQ:=@Nat.zero_le
def bR:=@PySem.wpAny_callSpecial?_slot
def bS:=@List.getElem_of_mem
def bT:=@if_false
def bU:=@List.getElem_mem
def bV:=@Ne.symm
def bW:=@Nat.lt_succ_of_lt
def bX:=@PySem.Around.under_plainId
def bY:=@List.mem_cons_self
def bZ:=@List.pairwise_cons
def b7:=@PySem.Obj.isFreed_of_fields
def b8:=@List.getElem?_replicate
def b9:=@List.any_eq_false
def cb:=@PySem.wpAny_setState_of
def cf:=@List.mem_range
def cg:=@PySem.wpAny_setField
def cj:=@PySem.codeAny_builtin
def ck:=@List.filter_sublist
def cm:=@List.length_singleton
def cq:=@PySem.F.plain_max_loop
def cu:=@Classical.byContradiction
def cw:=@PySem.F.slot_dict_valueiterator_next
def cx:=@Nat.lt_irrefl
def cy:=@PySem.Heap.size_push
def cz:=@PySem.wpAny_Call_Name_kw
def cB:=@PySem.F.slot_dict_keyiterator_next
def cC:=@Nat.lt_of_le_of_lt
def cD:=@Int.emod_lt_of_pos
def cF:=@List.not_mem_nil
def cG:=@List.all_eq_true
def cH:=@PySem.wpAny_truthy_bool
def cI:=@Array.getElem?_eq_none
def cJ:=@Bool.or_eq_true
def cK:=@Nat.not_lt_zero
def cL:=@Int.emod_nonneg
def cM:=@Array.getElem?_setIfInBounds_ne
def cN:=@List.drop_eq_getElem_cons
def cO:=@Nat.le_add_right
def cP:=@Nat.ne_of_gt
def cQ:=@if_true
def cR:=@PySem.plainId_quiet
def cS:=@List.mem_append_left
def cT:=@PySem.wpAny_typeNameOfWhole_keyiter
def cU:=@PySem.wpAny_typeNameOfWhole_valiter
def cV:=@decide_eq_false_iff_not
def cW:=@List.find?_cons
def cX:=@List.countP_eq_length_filter
def cY:=@PyProof.Rows.F.plain_set_update_loop
def cZ:=@List.drop_eq_nil_of_le
def c0:=@List.take_of_length_le
def c5:=@PyProof.Rows.IntsAre.int_at
def c6:=@Nat.le_succ
def c7:=@List.length_take
def c9:=@List.length_drop
def da:=@PySem.wpAny_fieldsOf
def dc:=@PySem.wpAny_seqItems
def df:=@List.length_replicate
def dg:=@PySem.wpAny_passesOwn
def dh:=@Bool.eq_iff_iff
def di:=@List.length_nil
def dj:=@Int.mul_ne_zero
def dm:=@PySem.wpAny_pyIter_list
def dq:=@PySem.sizeLine_eq
def dr:=@List.map_nil
def du:=@PySem.Obj.cls_mapFields
def dw:=@Bool.not_eq_true'
def dB:=@PySem.wpAny_dictEntries
def dD:=@Nat.pow_succ
def dE:=@PySem.wpAny_attempt
def dF:=@PySem.wpAny_typeNameOf_keyiter
def dG:=@PySem.wpAny_typeNameOf_valiter
def dH:=@List.length_filterMap_le
def dI:=@List.filterMap_cons
def dJ:=@beq_eq_false_iff_ne
def dM:=@PySem.wpAny_setEntries_of
def dN:=@List.map_congr_left
def dO:=@PyProof.Rows.callWith_builtin1
def dP:=@PySem.wpAny_getItem_str_slice
def dQ:=@List.pairwise_singleton
def dR:=@PySem.wpAny_isInstance
def dS:=@Nat.le_of_lt
def dU:=@PySem.Calls.spliced_cons
def dW:=@PySem.Calls.callWith_builtin
def dX:=@of_decide_eq_false
def dY:=@PySem.tupleKind_room_in1
def dZ:=@Nat.succ_pos
def d3:=@PySem.wpAny_dictEpoch
def d4:=@List.Pairwise.sublist
def d5:=@List.length_filter_le
def d6:=@PyProof.Rows.callWith_type1
def d7:=@PySem.F.typeOf_object_class
def d8:=@PySem.wpAny_loadPart_at
def d9:=@List.pairwise_map
def ec:=@List.filter_congr
def ee:=@beq_iff_eq
def ez:=@PySem.wpAny_field
def eA:=@Array.perm_iff_toList_perm
def eD:=@List.pairwise_append
def eE:=@PySem.wpAny_tryCatch
def eF:=@PySem.F.args_dict_valueiterator_next_1
def eG:=@PySem.wpAny_typeOf
def eH:=@List.any_eq_true
def eI:=@Array.toList_inj
def eJ:=@PySem.F.entry_dict_valueiterator_next
def eK:=@List.cons_append
def eM:=@PySem.Heap.get?_update_ne
def eN:=@PySem.F.args_dict_keyiterator_next_1
def eP:=@PyProof.Rows.F.entry_set_update_loop
def eQ:=@List.filter_eq_self
def eR:=@Option.isSome_iff_exists
def eS:=@PySem.F.entry_dict_keyiterator_next
def eT:=@List.Pairwise.imp_of_mem
def eU:=@PySem.wpAny_updateSeq
def eV:=@List.foldl_cons
def eX:=@PySem.wpAny_rule
def eY:=@Nat.mod_lt
def eZ:=@PySem.F.plainAttrs_dict
def fh:=@List.getElem?_cons_succ
def fj:=@PySem.Calls.spliced_nil
def fm:=@PySem.codeAny_mono
def fq:=@Nat.lt_trans
def fw:=@decide_false
def fx:=@Nat.sub_self
def fy:=@PySem.wpAny_pyIter_slot
def fA:=@Nat.lt_trichotomy
def fC:=@List.pairwise_lt_range
def fD:=@PySem.wpAny_storeSet_of
def fE:=@List.foldl_append
def fF:=@PySem.F.entry_max_loop
def fG:=@Nat.Coprime.dvd_of_dvd_mul_right
def fH:=@List.length_range
def fI:=@List.take_succ_eq_append_getElem
def fJ:=@List.filter_eq_nil_iff
def fK:=@PyProof.Rows.slot_tuple_getitem
def fL:=@PySem.F.slot_dict_get
def fM:=@PySem.wpAny_notOrdered_dict
def fN:=@PySem.builtinLookup_eq_fast
def fP:=@PySem.wpAny_isOneOf_valiter
def fQ:=@PySem.putSet_of
def fR:=@PySem.wpAny_forIn_list
def fS:=@List.mem_reverse
def fT:=@PySem.wpAny_standAt
def fU:=@List.any_cons
def fV:=@Bool.not_true
def fX:=@PySem.Calls.evalArgs_plain
def fY:=@or_false
def fZ:=@PySem.codeAny_call_builtin
def f3:=@PySem.wpAny_of_eq
def f5:=@PySem.F.slot_dict_values_iter
def f6:=@PySem.wpAny_execs_nil
def f7:=@PySem.post_val_or_str
def f9:=@PySem.F.slot_dict_setdefault
def gc:=@List.nil_append
def gf:=@List.toList_toArray
def gg:=@Nat.le_of_eq
def gh:=@Array.getD_eq_getD_getElem?
def gi:=@PySem.wpAny_richCompare_same_room
def gj:=@PySem.W.kia_one
def gk:=@PySem.Calls.Name_function_global
def gm:=@PyProof.Rows.assignInOrder_cons
def gp:=@Int.fdiv_eq_ediv_of_nonneg
def gq:=@List.zip_cons_cons
def gs:=@PySem.isSubtype_stop
def gu:=@Bool.not_false
def gw:=@Int.natAbs_mul
def gx:=@Int.eq_of_mul_eq_mul_right
def gy:=@List.pairwise_iff_getElem
def gz:=@List.Pairwise.map
def gA:=@List.flatMap_cons
def gC:=@Int.le_refl
def gD:=@PySem.wpAny_newList
def gE:=@PySem.wpAny_handled
def gF:=@PySem.F.slot_list_extend
def gG:=@Nat.mul_assoc
def gH:=@List.filterMap_cons_some
def gI:=@PySem.F.slot_dict_values
def gJ:=@Int.mul_assoc
def gK:=@Bool.and_comm
def gL:=@PySem.wpAny_eqBool_int
def gM:=@PySem.wpAny_eqBool_str
def gN:=@beq_self_eq_true
def gP:=@PySem.Heap.size_update
def gQ:=@Option.getD_some
def gR:=@List.ext_getElem
def gT:=@List.getElem_map
def gU:=@PySem.F.args_dict_get_2
def gX:=@List.lookup_cons
def gY:=@PySem.wpAny_askSetting
def gZ:=@List.length_eq_zero_iff
def hA:=@PySem.F.plain_list_iadd
def hI:=@PySem.F.plainAttrs_list
def hK:=@PySem.Around.in1_units
def hU:=@List.take_length
def hY:=@Nat.add_sub_cancel_left
def hZ:=@PySem.Txt.slice_le
def h8:=@UInt32.le_iff_toNat_le
def ia:=@PySem.call_meetsIn
def ib:=@PySem.F.entry_dict_get
def ic:=@PySem.F.slot_dict_iter
def ie:=@Nat.lt_or_ge
def ig:=@Nat.mul_comm
def ik:=@Int.le_of_lt
def il:=@Nat.le_mul_of_pos_left
def ip:=@List.any_map
def iq:=@List.of_mem_zip
def ir:=@PySem.wpAny_specialOf
def iu:=@PySem.typeLookup_type
def iw:=@List.any_append
def ix:=@PyProof.Rows.gt_int
def iy:=@PySem.F.plain_set_new
def iz:=@PySem.F.slot_set_iter
def iA:=@List.singleton_append
def iC:=@PySem.F.slot_tuple_lt
def iD:=@PySem.F.slot_tuple_gt
def iE:=@Int.natAbs_dvd_natAbs
def iF:=@List.set_append_right
def iG:=@PySem.wpAny_bindName
def iH:=@Array.mem_toList_iff
def iI:=@List.lt_irrefl
def iJ:=@Array.getElem_toList
def iK:=@Array.toArray_toList
def iL:=@Bool.or_eq_false_iff
def iM:=@PySem.wpAny_throw
def iN:=@Array.toList_extract
def iO:=@PySem.isSubtype_type
def iP:=@List.length_eraseIdx
def iQ:=@List.perm_cons_erase
def iR:=@Bool.and_false
def iS:=@PySem.wpAny_letGo
def iT:=@Nat.mul_add
def iU:=@Nat.add_mul
def iV:=@Nat.pow_le_pow_right
def iW:=@decide_true
def iX:=@List.lt_trans
def iY:=@List.sum_cons
def iZ:=@Nat.not_lt
def i3:=@Int.mul_comm
def i4:=@Nat.mul_one
def i6:=@not_or
abbrev je:=PySem.Value
abbrev ja:=PySem.Addr
abbrev jr:=PySem.Shared
abbrev lF:=PySem.SetTable
abbrev jw:=PySem.Heap
abbrev jT:=PySem.Program
abbrev kh:=PySem.Around
abbrev jK:=PySem.World
abbrev jB:=PySem.Expr
abbrev kr:=@Array
abbrev jm:=@Option
abbrev jd:=PySem.Str
abbrev jk:=Bool
abbrev aa:=@List
abbrev lE:=PySem.Obj
abbrev nu:=PySem.FuncData
abbrev zc:aa PySem.Str:=["_law_stream","_law_words"]
abbrev ki:=PySem.Value->PySem.Shared->Prop
abbrev kG:=PySem.Str->jm PySem.Value
abbrev uU:Nat:=10000000000000000000000000000000000000000000000000000000000000000000000000000000000000000000000000000000000000000000000000000000000000000000000000000000000000000000000000000000000000000000000000000000000000000000000000000000000000000000000000000000000000000000000000000000000000000000000000000000000000000000000000000000000000000000000000000000000000000000000000000000000000000000000000000000000000000
noncomputable section
set_option hygiene false in
local macro_rules|`(tactic|walk_at "l")=>`(tactic|first|assumption|exact Nat.le_of_lt ‹_›|exact Nat.le_trans ‹_› ‹_›|exact Nat.lt_of_le_of_lt ‹_› ‹_›|exact Nat.le_succ_of_le ‹_›|exact Nat.lt_succ_of_le ‹_›|exact Nat.le_of_lt_succ ‹_›|exact Nat.lt_succ_self _|exact Int.le_trans ‹_› ‹_›|exact Int.lt_of_le_of_lt ‹_› ‹_›|exact Int.le_of_lt ‹_›|exact Nat.ne_of_lt ‹_›|exact Nat.ne_of_gt ‹_›|exact Nat.not_le.mp ‹_›|exact Int.not_lt.mp ‹_›|exact Nat.le_of_eq ‹_›|exact Nat.le_trans (Nat.le_add_right _ _) ‹_›|exact Nat.le_trans ‹_› (by decide)|exact Nat.lt_of_le_of_lt ‹_› (by decide)|exact Int.le_trans ‹_› (by decide)|exact Nat.sub_lt ‹_› (by decide)|exact (Nat.add_assoc _ _ _).symm)
def bZ0(_:True:=by rfl):=0
def aZ0:Lean.Syntax:=bZ0._auto_1
def bZ1(_:True:=by decide):=0
def aZ1:Lean.Syntax:=bZ1._auto_1
def bZ2(_:True:=by intro _;rfl):=0
def aZ2:Lean.Syntax:=bZ2._auto_1
def bZ3(_:True:=by first|exact .inl rfl|exact .inr rfl|assumption):=0
def aZ3:Lean.Syntax:=bZ3._auto_1
def bZ4(_:True:=by k_is):=0
def aZ4:Lean.Syntax:=bZ4._auto_1
def bZ5(_:True:=by first|exact Or.inl rfl|exact Or.inr (Or.inl rfl)|exact Or.inr (Or.inr rfl)):=0
def aZ5:Lean.Syntax:=bZ5._auto_1
def bZ6(_:True:=by first|exact vi _|with_unfolding_all rfl):=0
def aZ6:Lean.Syntax:=bZ6._auto_1
def bZ7(_:True:=by exact λ_ _=>rfl):=0
def aZ7:Lean.Syntax:=bZ7._auto_1
def bZ8(_:True:=by intro _ _ _ _ _ _ _;kernel_rfl):=0
def aZ8:Lean.Syntax:=bZ8._auto_1
def bZ9(_:True:=by first|exact .nil|exact .cons rfl (.inl rfl) rfl .nil|exact .cons rfl (.inl rfl) rfl (.cons rfl (.inl rfl) rfl .nil)|exact .cons rfl (.inl rfl) rfl (.cons rfl (.inl rfl) rfl<|.cons rfl (.inl rfl) rfl .nil)|exact .cons rfl (.inl rfl) rfl (.cons rfl (.inl rfl) rfl<|.cons rfl (.inl rfl) rfl<|.cons rfl (.inl rfl) rfl<|.cons rfl (.inl rfl) rfl .nil)):=0
def aZ9:Lean.Syntax:=bZ9._auto_1
def bZ10(_:True:=by decide+kernel):=0
def aZ10:Lean.Syntax:=bZ10._auto_1
def bZ11(_:True:=by kernel_rfl):=0
def aZ11:Lean.Syntax:=bZ11._auto_1
def bZ12(_:True:=by first|decide|omega|(simp only[Nat.add_eq];omega)):=0
def aZ12:Lean.Syntax:=bZ12._auto_1
set_option Elab.async false
set_option maxRecDepth 100000
namespace L2
open PySem PySem.Spec PyProof.Rows
abbrev Key:=Sum Int jd
def qb:Key->je->jk
 |.inl k,v=>Value.isInt k v
 |.inr x,v=>Value.isStrOf x v
def S6(w:jK):Key->Int
 |.inl k=>hashInt k
 |.inr x=>hashStr w x
def rE:∀{k} {v},qb k v=true->(∃i t,k=Sum.inl i/\v=Value.int i t)\/(∃x t,k=Sum.inr x/\v=Value.str x t)
 |.inl i,v,h=>by obtain⟨t,e⟩:=Value.isInt_shape (k:=i) (v:=v) h;exact .inl ⟨i,t,rfl,e⟩
 |.inr x,v,h=>by obtain⟨t,e⟩:=Value.isStrOf_shape (x:=x) (v:=v) h;exact .inr ⟨x,t,rfl,e⟩
def S7(i)(t):qb (.inl i) (.int i t)=true:=by simp[qb,Value.isInt]
def Ta(x t):qb (.inr x) (.str x t)=true:=by simp[qb,Value.isStrOf]
def Tc(a b):decide ((Sum.inl a:Key)=Sum.inl b)=(a==b):=by lia
def Tf(a b):decide ((Sum.inr a:Key)=Sum.inr b)=decide (a=b):=by simp
def Td(a)(b):decide ((Sum.inl a:Key)=Sum.inr b)=false:=aJ (λq=>nomatch q)
def Te(a)(b):decide ((Sum.inr a:Key)=Sum.inl b)=false:=aJ (λq=>nomatch q)
def kg(c:jT)(w:jK):PySem.KeyKind c w Key where
 is:=qb
 hash:=S6 w
 inj:=λv a b g d=>by
  rcases rE g with⟨i,t,rfl,rfl⟩|⟨x,t,rfl,rfl⟩
  ·rcases rE d with⟨j,u,rfl,e⟩|⟨y,u,rfl,e⟩;·injection e with e1 _;rw[e1]
   ·exact nomatch e
  ·rcases rE d with⟨j,u,rfl,e⟩|⟨y,u,rfl,e⟩;·exact nomatch e
   ·injection e with e1 _;rw[e1]
 byValue:=λk v h=>by rcases rE h with⟨i,t,rfl,rfl⟩|⟨x,t,rfl,rfl⟩<;>rfl
 pyHash:=λhv h=>by
  rcases rE hv with⟨i,t,rfl,rfl⟩|⟨x,t,rfl,rfl⟩;·exact wpAny_pyHash_int h
  ·exact wpAny_pyHash_str h
 eqBool:=λf hv h=>by
  rcases rE f with⟨i,t,rfl,rfl⟩|⟨x,t,rfl,rfl⟩
  ·rcases rE hv with⟨j,u,rfl,rfl⟩|⟨y,u,rfl,rfl⟩;·rw[Tc]at h;exact gL h
   ·rw[Td]at h;exact SeqAt.EqAt.int_str i t y u _ _ _ _ h
  ·rcases rE hv with⟨j,u,rfl,rfl⟩|⟨y,u,rfl,rfl⟩;·rw[Te]at h;exact SeqAt.EqAt.str_int x t j u _ _ _ _ h
   ·rw[Tf]at h;exact gM h
 «strs»:=λk x t v h=>by
  rcases rE h with⟨i,u,rfl,e⟩|⟨y,u,rfl,e⟩;·exact nomatch e
  ·injection e with e1 _;subst e1;cases v<;>rfl
def UT(prog w)(i)(t):(kg prog w).is (.inl i) (.int i t)=true:=S7 i t
def UU(prog w x t):(kg prog w).is (.inr x) (.str x t)=true:=Ta x t
inductive V where
 |non|bl(b:Bool)|int(i:Int)|str(x:Str)|oC(b:Array UInt8)|flt(b:UInt64)|ref(a:Addr)|ty(n:String)
 deriving DecidableEq
def RelV:V->je->Prop
 |.non,u=>u=Value.none
 |.bl b,u=>u=Value.bool b
 |.int i,u=>∃t,u=Value.int i t
 |.str x,u=>∃t,u=Value.str x t
 |.oC b,u=>∃t,u=Value.bytes b t
 |.flt b,u=>∃t,u=Value.float b t
 |.ref a,u=>u=Value.ref a
 |.ty n,u=>u=Value.type n
abbrev Vals:aa V->aa je->Prop:=Paired RelV
abbrev _root_.kL:=aa je
def Vals.length{a:aa V}{b:kL}(r:Vals a b):a.length=b.length:=Paired.length r
theorem Vals.get:∀{a:aa V} {b:kL} {i:Nat} {x:V},Vals a b->a[i]?=some x->∃u,b[i]?=some u/\RelV x u
 |_,_,_,_,.nil,e=>by simp at e
 |_,_,0,_,.cons r _,e=>by simp at e;subst e;exact⟨_,rfl,r⟩
 |_,_,i+1,x,.cons _ t,e=>by obtain⟨u,d,c⟩:=Vals.get (i:=i) (x:=x) t (by simpa using e);exact⟨u,by simpa using d,c⟩
theorem Vals.set{u}(r:RelV x u):∀{a} {b} i,Vals a b->Vals (a.set i x) (b.set i u)
 |_,_,_,.nil=>.nil
 |_,_,0,.cons _ t=>.cons r t
 |_,_,i+1,.cons q t=>.cons q (Vals.set r i t)
theorem Vals.append:∀{b a} {d c},Vals b d->Vals a c->Vals (b++a) (d++c)
 |_,_,_,_,.nil,s=>s
 |_,_,_,_,.cons r t,s=>.cons r (Vals.append t s)
theorem Vals.take:∀{a} {b} n,Vals a b->Vals (a.take n) (b.take n)
 |_,_,0,_=>.nil
 |_,_,_+1,.nil=>.nil
 |_,_,n+1,.cons r t=>.cons r (Vals.take n t)
theorem Vals.drop:∀{a} {b} n,Vals a b->Vals (a.drop n) (b.drop n)
 |_,_,0,r=>r
 |_,_,_+1,.nil=>.nil
 |_,_,n+1,.cons _ t=>Vals.drop n t
def mY:jm V->jm je->Prop
 |some v,some u=>RelV v u
 |none,none=>True
 |_,_=>False
def KV{a:Type}:aa (a×V)->aa (a×je)->Prop:=Paired λ(p:a×V) (q:a×je)=>p.1=q.1/\RelV p.2 q.2
def kV:Key->V
 |.inl i=>.int i
 |.inr x=>.str x
inductive HO where
  /-- a list -/
 |lst(xs:List V)
  /-- a tuple (never changes) -/
 |tup(xs:List V)
  /-- a dict whose keys are ints and texts; one whose keys are tuples of ints and texts (the empty one is both) -/
 |dK(kvs:List<|Key×V)|dT(kvs:List<|List Key×V)
  /-- a set of ints: its members, its size -/
 |set(S:Int->Bool)(n:Nat)
  /-- an instance of the class at C, its dict at dx, its attributes -/
 |ins(C dx:Addr)(fs:List<|Str×V)
  /-- the dict of the instance at x -/
 |own(x:Addr)
  /-- the dict of an exception -/
 |xd(fs:List<|Str×V)
  /-- a bound method, f of x -/
 |met(f x:Addr)
  /-- a range object lo, lo + 1, .. below hi -/
 |zP(lo hi:Int)
  /-- a thing that is known to the object (the script; a dict while a loop walks it): read, never written while it is so -/
 |ku(o:Obj)(u:HO)
  /-- a code object's table -/
 |l6(ps:Array Value)
  /-- any other thing, by what is true of its one object (a def of one's own: SetO a S n := HO.ext λh => ..) -/
 |ext(φ:Heap->Prop)
abbrev Hp:=ja->jm HO
def upd(H:Hp)(a:ja)(o:HO):Hp:=λb=>if b=a then some o else H b
def kK{o}:upd H a o a=some o:=by unfold upd;rw[au rfl]
def jL{o}(h:b≠a):upd H a o b=H b:=by unfold upd;rw[ax h]
def JY{H:Hp}{o u}(h:H a=some o)(c:H b=some u)(d:o≠u):a≠b:=by lia
def nS{H:Hp}{o}(h:H a=some o)(c:H b=none):a≠b:=by lia
section
variable(P:jT)(w:jK)
def kQ(H:Hp)(h:jw)(a:ja):HO->Prop
 |.lst d=>d.length<=sizeLine/\∃c n,Vals d c/\h.get? a=some {cls:=.type "list",data:=.seq c.toArray n}
 |.tup d=>d.length<=sizeLine/\∃c:aa je,Vals d c/\IsTup h a c.toArray
 |.dK b=>b.length<=sizeLine/\(a==sysModules)=false/\∃j,KV b j/\h.DictOf (kg P w) a j
 |.dT b=>b.length<=sizeLine/\(a==sysModules)=false/\∃d:aa (aa Key×ja×je),
   Paired (λ(p:aa Key×V) (q:aa Key×ja×je)=>p.1=q.1/\H q.2.1=some (.tup<|p.1.map kV)/\RelV p.2 q.2.2) b d/\
   ∃o m y,h.get? a=some o/\o.ExactDict/\o.data=.dict m y/\m.toList=d.map (entryOfKey<|tupleKind<|kg P w)/\(d.map (·.1)).Nodup
 |.set S n=>h.SetOf (intKind P w) a S n
 |.ins C g fs=>H g=some (.own a)/\fs.length<=1000/\g≠a/\h.get? a=some (W.instObj C g)/\
   ∃e,h.Ns1 g e/\(∀f,mY (fs.lookup f)<|e f)/\PySem.Within e (fs.map (·.1))
 |.own _=>∃o,h.get? a=some o
 |.xd fs=>∃e,h.Ns1 a e/\∀f,mY (fs.lookup f) (e f)
 |.zP lo s=>∃t u v,h.get? a=some {cls:=.type "range",data:=.fields #[.int lo t,.int s u,.int 1 v]}
 |.ku o u=>h.get? a=some o/\kQ H h a u
 |.l6 r=>h.get? a=some {cls:=.none,data:=.fields r}
 |.met f x=>h.get? a=some (W.methodObj (.ref f)<|.ref x)
 |.ext i=>i h/\(∃o,h.get? a=some o)/\∀l k:jw,i l->(∀o,l.get? a=some o->k.get? a=some o)->i k
def kU(H:Hp)(h:jw):Prop:=∀a o,H a=some o->kQ P w H h a o
variable{P:jT}{w:jK}{H i:Hp}{h h':jw}{a:ja}{o:HO}
def kQ.lt(x:kQ P w H h a o):a<h.objs.size:=by
 cases o with
 |lst c=>obtain⟨_,_,_,_,e⟩:=x;exact Heap.lt_size e
 |tup c=>obtain⟨_,_,_,p⟩:=x;exact p.lt
 |dK b=>obtain⟨_,_,_,_,o,_,_,e,_⟩:=x;exact Heap.lt_size e
 |dT b=>obtain⟨_,_,_,_,o,_,_,e,_⟩:=x;exact Heap.lt_size e
 |set S n=>obtain⟨o,_,_,_,e,_⟩:=x;exact Heap.lt_size e
 |ins C k fs=>obtain⟨_,_,_,e,_⟩:=x;exact Heap.lt_size e
 |own y=>obtain⟨_,e⟩:=x;exact Heap.lt_size e
 |xd fs=>obtain⟨_,⟨_,_,_,e,_⟩,_⟩:=x;exact Heap.lt_size e
 |zP lo j=>obtain⟨_,_,_,e⟩:=x;exact Heap.lt_size e
 |ku ob u=>obtain⟨e,_⟩:=x;exact Heap.lt_size e
 |l6 g=>exact Heap.lt_size (show h.get? a=some _ from x)
 |met f y=>exact Heap.lt_size (show h.get? a=some _ from x)
 |ext d=>obtain⟨_,⟨_,e⟩,_⟩:=x;exact Heap.lt_size e
theorem Paired.DJ{G}:∀{d:aa α} {c:aa β},Paired F d c->(∀a b,F a b->G a b)->Paired G d c
 |_,_,.nil,_=>.nil
 |_,_,.cons r t,f=>.cons (f _ _ r) (Paired.DJ t f)
def kQ.ur(x:kQ P w H h a o)(k:∀b u,(b=a\/H b=some (.own a))->h.get? b=some u->h'.get? b=some u)
    (J:∀b,H b=some (.own a)->i b=some (.own a))(I:∀b m,H b=some (.tup m)->i b=some (.tup m)):kQ P w i h' a o:=by
 induction o with
 |lst m=>obtain⟨z,l,n,r,e⟩:=x;exact⟨z,l,n,r,k _ _ (.inl rfl) e⟩
 |tup m=>obtain⟨z,l,r,ob,e,c⟩:=x;exact⟨z,l,r,ob,k _ _ (.inl rfl) e,c⟩
 |dK B=>obtain⟨z,y,E,r,ob,g,j,e,c⟩:=x;exact⟨z,y,E,r,ob,g,j,k _ _ (.inl rfl) e,c⟩
 |dT B=>obtain⟨z,y,m,r,ob,g,j,e,c⟩:=x;exact⟨z,y,m,Paired.DJ r λp q z=>⟨z.1,I _ _ z.2.1,z.2.2⟩,ob,g,j,k _ _ (.inl rfl) e,c⟩
 |set S n=>obtain⟨ob,g,j,t,e,c⟩:=x;exact⟨ob,g,j,t,k _ _ (.inl rfl) e,c⟩
 |ins C N fs=>obtain⟨d,z,ne,e,A,⟨s,g,j,K,c⟩,r⟩:=x;exact⟨J _ d,z,ne,k _ _ (.inl rfl) e,A,⟨s,g,j,k _ _ (.inr d) K,c⟩,r⟩
 |own y=>obtain⟨ob,e⟩:=x;exact⟨ob,k _ _ (.inl rfl) e⟩
 |xd fs=>obtain⟨A,⟨s,g,j,e,c⟩,r⟩:=x;exact⟨A,⟨s,g,j,k _ _ (.inl rfl) e,c⟩,r⟩
 |zP lo M=>obtain⟨t,u,v,e⟩:=x;exact⟨t,u,v,k _ _ (.inl rfl) e⟩
 |ku ob u G=>obtain⟨e,q⟩:=x;exact⟨k _ _ (.inl rfl) e,G q⟩
 |l6 F=>have e:h.get? a=some {cls:=.none,data:=.fields F}:=x;exact k a _ (.inl rfl) e
 |met f y=>have e:h.get? a=some (W.methodObj (.ref f)<|.ref y):=x;exact k a _ (.inl rfl) e
 |ext L=>obtain⟨p,⟨o,e⟩,D⟩:=x;exact⟨D _ _ p λo q=>k _ _ (.inl rfl) q,⟨o,k _ _ (.inl rfl) e⟩,D⟩
def kU.lt(x:kU P w H h)(e:H a=some o):a<h.objs.size:=(x a o e).lt
def kU.fresh(x:kU P w H h)(e:h.objs.size<=a):H a=none:=by
 cases q:H a with
 |none=>rfl
 |some u=>exact absurd (aE (x.lt q) e) (cx _)
def kU.kept(x:kU P w H h)(k:∀b u,h.get? b=some u->h'.get? b=some u):kU P w H h':=λa o e=>(x a o e).ur (λb u _ q=>k b u q) (λ_ q=>q) λ_ _ q=>q
def kU.laid(x:kU P w H h)(k:∀b u,h.get? b=some u->h'.get? b=some u)(g:h.objs.size<=a)(new:kQ P w (upd H a o) h' a o):kU P w (upd H a o) h':=λb u e=>by
 have d:=x.fresh g;by_cases f:b=a;·subst f;rw[kK]at e;cases e;exact new
 ·rw[jL f]at e;exact(x b u e).ur (λc v _ q=>k c v q) (λc q=>by rw[jL<|nS q d];exact q) λc j q=>by rw[jL<|nS q d];exact q
end
def Rd(H:Hp)(a:ja)(u:HO):Prop:=H a=some u\/∃o,H a=some (.ku o u)
def Rd.ok{w u}(r:Rd H a u)(x:kU P w H h):kQ P w H h a u:=by
 rcases r with r|⟨o,r⟩;·exact x a u r
 ·obtain⟨_,q⟩:=x a _ r;exact q
def vQ:jm HO->Prop
 |some (.lst _)=>True
 |some (.dK _)=>True
 |some (.dT _)=>True
 |some (.set _ _)=>True
 |some (.ins _ _ _)=>True
 |some (.ext _)=>True
 |_=>False
section
variable{P:jT}{w:jK}{H:Hp}{h h':jw}{x e:ja}{a:HO}
def kU.write(ok:kU P w H h)(j:vQ<|H x)(p:e=x\/H e=some (.own x))(k:∀b u,b≠e->h.get? b=some u->h'.get? b=some u)(n:∃u,h'.get? e=some u)
 (new:kQ P w (upd H x a) h' x a):kU P w (upd H x a) h':=λb u q=>by
  have f:∀c y,H c=some (.own y)->c≠x:=λc y r z=>by subst z;rw[r]at j;exact j
  have g:∀c i,H c=some (.tup i)->c≠x:=λc i r z=>by subst z;rw[r]at j;exact j
  by_cases m:b=x;·subst m;rw[kK]at q;cases q;exact new
  ·rw[jL m]at q;by_cases d:b=e
   ·have o:H b=some (.own x):=by
     rcases p with z|z;·exact absurd (d.trans z) m
     ·rw[d];exact z
    rw[q]at o;cases o;obtain⟨v,hv⟩:=n;exact⟨v,by rw[d];exact hv⟩
   ·refine(ok b u q).ur (λc v l r=>k c v ?_ r) (λc r=>by rw[jL<|f c b r];exact r) λc i r=>by rw[jL<|g c i r];exact r
    rcases l with rfl|l;·exact d
    ·rintro rfl
     rcases p with z|z;·exact f c b l z
     ·rw[l]at z;cases z;exact m rfl
end
abbrev _root_.nN:=aa ja
structure Un(fs ex:nN)(H H':Hp)(h h':jw):Prop where
 keep:∀b o,h.get? b=some o->H b=none->b∉fs->b∉ex->h'.get? b=some o
 slot:∀b o,h.get? b=some o->H b=none->b∈fs->b∉ex->∃sl,h'.get? b=some {o with slots:=sl}
 free:∀b o,h.get? b=some o->H b=none->b∉ex->H' b=none
 there:∀b o,h.get? b=some o->b∉ex->∃o',h'.get? b=some o'
 tups:∀b xs,H b=some (.tup xs)->H' b=some (.tup xs)
 qa:∀b o u,H b=some (.ku o u)->H' b=some (.ku o u)
 rN:∀b ps,H b=some (.l6 ps)->∃more,H' b=some (.l6<|ps++more)
section
variable{fs i ex j:nN}{H l v:Hp}{h c m h':jw}{a x e:ja}{o:HO}
def Un.any(u:Un fs ex H l h c){b:ja}{ob:lE}(q:h.get? b=some ob)(n:H b=none)(d:b∉ex):∃g,c.get? b=some {ob with slots:=g}:=by
 by_cases f:b∈fs;·exact u.slot b ob q n f d
 ·exact⟨ob.slots,u.keep b ob q n f d⟩
def Un.kept(k:∀b u,h.get? b=some u->h'.get? b=some u):Un fs ex H H h h':=
 ⟨λb ob q _ _ _=>k b ob q,λb ob q _ _ _=>⟨ob.slots,k b ob q⟩,λ_ _ _ n _=>n,λb ob q _=>⟨ob,k b ob q⟩,λ_ _ q=>q,λ_ _ _ q=>q,λ_ d q=>⟨#[],by rw[q];simp⟩⟩
def Un.refl:Un fs ex H H h h:=Un.kept λ_ _ q=>q
def Un.laid(k:∀b u,h.get? b=some u->h'.get? b=some u)(g:h.objs.size<=a)(d:H a=none):Un fs ex H (upd H a o) h h' where
 keep:=λb u q _ _ _=>k b u q
 slot:=λb u q _ _ _=>⟨u.slots,k b u q⟩
 free:=λb u q n _=>by rw[jL<|aU<|aE (Heap.lt_size q) g];exact n
 there:=λb u q _=>⟨u,k b u q⟩
 tups:=λb f q=>by rw[jL<|nS q d];exact q
 qa:=λb u f q=>by rw[jL<|nS q d];exact q
 rN:=λb p q=>⟨#[],by rw[jL<|nS q d,q];simp⟩
def Un.write(d:vQ<|H x)(y:e=x\/H e=some (.own x))(k:∀b u,b≠e->h.get? b=some u->h'.get? b=some u)(t:∃u,h'.get? e=some u):Un fs ex H (upd H x o) h h':=by
 have s:∀b,H b=none->b≠x:=λb n z=>by subst z;rw[n]at d;exact d
 have g:∀b,H b=none->b≠e:=λb n z=>by simp_all
 have f:∀b u,H b=some u->¬vQ (some u)->b≠x:=λb u q r z=>by subst z;rw[q]at d;exact r d
 refine⟨λb u q n _ _=>k b u (g b n) q,λb u q n _ _=>⟨u.slots,k b u (g b n) q⟩,λb u q n _=>by rw[jL (s b n)];exact n,λb u q _=>?_,
  λb p q=>by rw[jL (f b _ q λz=>z)];exact q,λb u p q=>by rw[jL (f b _ q λz=>z)];exact q,λb w q=>⟨#[],by rw[jL (f b _ q λz=>z),q];simp⟩⟩
 grind
end
def z8(h:jw)(H:Hp):aa ja:=(List.range h.objs.size).filter λa=>(H a).isSome
def qP(h:jw)(H:Hp):jw:=W.hideAll h (z8 h H)
def Rg(h H):(qP h H).objs.size=h.objs.size:=W.hideAll_size _ _
def Rf{h}{H}{o}(e:h.get? b=some o)(n:H b=none):(qP h H).get? b=some o:=
 W.hideAll_get _ e λa=>by have q:(H b).isSome=true:=(aL.mp a).2;rw[n]at q;simp at q
def Vr{o}(e:(qP h H).get? b=some o):h.get? b=some o/\H b=none:=by
 have a:h.get? b=some o:=W.of_hideAll (z8 h H) e;refine⟨a,?_⟩;cases q:H b with
 |none=>rfl
 |some x=>
  have c:b∈z8 h H:=aL.mpr ⟨cf.mpr<|Heap.lt_size a,by simp[q]⟩;have z:(qP h H).get? b=none:=W.hideAll_none (z8 h H) c
  lia
noncomputable def Ni(g h:jw)(L:ja):aa (ja×lE):=(List.range h.objs.size).filterMap λa=>if a=L\/(g.get? a).isSome=true then none else(h.get? a).map λo=>(a,o)
def rest(g h:jw)(L d:ja):aa (ja×lE):=(Ni g h L).filter λp=>decide (p.1≠d)
abbrev _root_.jx:=W.Frag
structure Mod(K:jx)(mg:kG)(base:jw):Prop where
 wM:K.In base
 glob:base.Ns mainGlobals mg
 blt:∃mb,base.Ns builtinsNs mb/\∀x:jd,x≠"__name__"->mb x=bootBuiltins x
 nolimit:base.NoLimit
structure Cx where
 prog:jT
 w:jK
 K:W.Frag
 mg:kG
 base:jw
 A:kh
 N:aa jd
 s₀:jr
 H₀:Hp
 env:Env
 outer:aa Env
 stack:aa Env
 ex:aa ja
 fn:jd->jk
 calm:jk
 pn:aa (ja×lE)
 xe:ki
abbrev _root_.lr:=aa jB
abbrev Cx.se(X:Cx)(e:jB)(es:lr):Prop:=starEach (e::es) X.env=(false,eval e X.env)::starEach es X.env
abbrev Cx.bk(X:Cx)(pos:Pos)(es:lr):Prop:=(backTo pos<|starEach es X.env).any (·.1)=false
abbrev mq(x:jd):Prop:=(x==("__debug__":jd))=false
abbrev Cx.hf(X:Cx)(x:jd):Prop:=X.fn x=true\/X.env.scope.names.lookup x=some .local
abbrev sN(s:Scope):Prop:=∀x∈s.names,x.2=.local->s.names.lookup x.1=some .local
abbrev rG(s:Scope):Prop:=∀y∈s.names,y.2≠.cell
abbrev _root_.my:=aa Env
def frs(l:my):aa ja:=l.filterMap (·.frame)
abbrev Cx.fs(X:Cx):aa ja:=frs X.outer
def rm(sc:Scope)(x:jd):Prop:=sc.names.lookup x=some .local\/sc.names.lookup x=some .cell\/sc.names.lookup x=some .free
def Loc(sc:Scope)(x:jd):Prop:=sc.names.lookup x=some .local\/sc.names.lookup x=some .cell
def Look(a:Env)(h:jw)(m:kG)(x:jd)(u:je):Prop:=
 (a.kindOf x=some .local/\m x=some u)\/((a.kindOf x=some .cell\/a.kindOf x=some .free)/\∃c,a.cells.lookup x=some c/\h.IsCell c (some u))
structure Cx.Ok(X:Cx):Prop where
 mod:Mod X.K X.mg X.base
 kind:X.env.scope.kind=.function
 glob:X.env.globals=mainGlobals
 blt:X.env.builtins=builtinsNs
 above:X.s₀.heap.objs.size<=X.env.locals
 inj:∀x y c,X.env.cells.lookup x=some c->X.env.cells.lookup y=some c->x=y
 has:∀x,(X.env.kindOf x=some .cell\/X.env.kindOf x=some .free)->∃c,X.env.cells.lookup x=some c
 cab:∀x c,X.fn x=true->X.env.cells.lookup x=some c->X.s₀.heap.objs.size<=c
 hd:X.calm=true->X.A.handled=none
 frames:X.A.frames=some X.stack
 L3:X.stack=X.outer\/(X.stack=X.env::X.outer/\X.env.frame=some X.env.locals)
 PK:∀b∈X.ex,b≠X.env.locals/\∀x c,X.env.cells.lookup x=some c->c≠b
 bs:∀b o,X.base.get? b=some o->X.s₀.heap.get? b=some o/\X.H₀ b=none
 tN:X.base.objs.size<=X.s₀.heap.objs.size
 DX:∀b o,X.base.get? b=some o->b∉X.ex
 BV:∀b∈X.ex,b∉X.fs
 pE:X.s₀.heap.FunFrames X.base X.outer
 wB:∀b∈X.fs,X.H₀ b=none
abbrev _root_.kX:=aa (ja×lE)
structure Inv(X:Cx)(pins:kX)(σ:aa<|jm V)(H:Hp)(s:jr):Prop where
 ok:X.Ok
 os:s.os=X.s₀.os
 bare:AllBare s.gens
 base:Un X.fs X.ex X.H₀ H X.s₀.heap s.heap
 loc:∃m,s.heap.Ns X.env.locals m/\∀(i:Nat) (x:jd) (v:V),X.N[i]?=some x->σ[i]?=some (some v)->rm X.env.scope x->∃u,RelV v u/\Look X.env s.heap m x u
 cell:∀x c,X.env.cells.lookup x=some c->∃v,s.heap.IsCell c v
 free:H X.env.locals=none
 pZ:∀x c,X.env.cells.lookup x=some c->H c=none
 pin:∀p∈X.pn++pins,s.heap.get? p.1=some p.2/\H p.1=none/\p.1≠X.env.locals/\p.1∉X.fs/\∀v,p.2.data≠.cell v
 hok:kU X.prog X.w H s.heap
 len:σ.length=X.N.length
section
variable{X:Cx}{B:kX}{C:aa<|jm V}{H F:Hp}{s:jr}{h':jw}
def Cx.Ok.Vc(ok:X.Ok){o}(e:X.base.get? b=some o):b∉X.fs:=λa=>by have:=(ok.pE.mem a).1;rw[e]at this;cases this
def Inv.bs(I:Inv X B C H s):∀b o,X.base.get? b=some o->s.heap.get? b=some o/\H b=none:=λb o e=>⟨I.base.keep b o (I.ok.bs b o e).1 (I.ok.bs b o e).2 (I.ok.Vc e) (I.ok.DX b o e),I.base.free b o (I.ok.bs b o e).1 (I.ok.bs b o e).2 (I.ok.DX b o e)⟩
def Inv.bk(I:Inv X B C H s):∀b o,X.base.get? b=some o->s.heap.get? b=some o:=λb o e=>(I.bs b o e).1
def Inv.mod(I:Inv X B C H s):Mod X.K X.mg X.base:=I.ok.mod
def Inv.mm(I:Inv X B C H s):X.K.In s.heap:=I.ok.mod.wM.keeps I.bk
def Inv.lt(I:Inv X B C H s):X.env.locals<s.heap.objs.size:=let⟨_,a,_⟩:=I.loc;a.lt
def Inv.sz(I:Inv X B C H s):X.s₀.heap.objs.size<=s.heap.objs.size:=aV I.ok.above (dS I.lt)
def Inv.Ve(I:Inv X B C H s){a}(h:s.heap.objs.size<=a):a∉X.fs:=λc=>by obtain⟨_,o,b,_⟩:=I.ok.pE.mem c;exact absurd (aE (Heap.lt_size b)<|aV I.sz h) (cx _)
def Inv.tO(I:Inv X B C H s):∀x c,X.env.cells.lookup x=some c->c≠X.env.locals:=λx c e z=>by obtain⟨v,o,d,f⟩:=I.cell x c e;obtain⟨m,⟨g,h,i,a,b,_⟩,_⟩:=I.loc;rw[z,a]at d;cases d;rw[b]at f;cases f
def Inv.pE(I:Inv X B C H s):s.heap.FunFrames X.base X.outer:=by
 have all:∀(l:my),(∀b∈frs l,b∈X.fs)->X.s₀.heap.FunFrames X.base l->s.heap.FunFrames X.base l:=by
  intro l;induction l with
  |nil=>intro _ _;trivial
  |cons n r f=>intro d j;obtain⟨k,⟨L,o,hf,i,h,m⟩,g⟩:=j;have c:L∈X.fs:=d L (by unfold frs;rw[dI,hf];exact bY);obtain⟨p,e⟩:=I.base.slot L o h (I.ok.wB L c) c λz=>I.ok.BV L z c;exact⟨k,⟨L,_,hf,i,e,m⟩,f (λb a=>d b (by unfold frs;rw[dI,hf];exact bf _ a)) g⟩
 exact all X.outer (λ_ a=>a) I.ok.pE
def Inv.stack(I:Inv X B C H s):s.heap.FunFrames X.base X.stack:=by
 rcases I.ok.L3 with e|⟨e,hf⟩;·rw[e];exact I.pE
 ·rw[e];obtain⟨m,a,_⟩:=I.loc;refine .cons (by rw[I.ok.kind];decide) hf a ?_ I.pE;exact Heap.get?_none_of_le (aV I.ok.tN I.ok.above)
def Inv.zU(I:Inv X B C H s):∀b∈frs X.stack,b∈X.env.locals::X.fs:=λb a=>by
 rcases I.ok.L3 with e|⟨e,hf⟩;·rw[e]at a;exact bf _ a
 ·rw[e]at a;unfold frs at a;rw[dI,hf]at a;exact a
def Inv.EI(I:Inv X B C H s):∀b∈frs X.stack,H b=none:=λb a=>by
 rcases az.mp (I.zU b a)with e|a;·rw[e];exact I.free
 ·obtain⟨_,o,c,_⟩:=I.ok.pE.mem a;exact I.base.free b o c (I.ok.wB b a) λz=>I.ok.BV b z a
def Inv.step{g':kr GenState}{W:Nat}{d':Drawn}{ch:nN}(I:Inv X B C H s)
    (g:∀b∈ch,(b∈X.ex\/X.s₀.heap.objs.size<=b)/\b≠X.env.locals/\(∀x c,X.env.cells.lookup x=some c->c≠b)/\∀p∈X.pn++B,p.1≠b)
    (keep:∀b o,b≠X.env.locals->b∉X.fs->b∉ch->s.heap.get? b=some o->H b=none->h'.get? b=some o)
    (y:∀b o,b≠X.env.locals->b∈X.fs->b∉ch->s.heap.get? b=some o->H b=none->∃P,h'.get? b=some {o with slots:=P})(free:∀b o,b∉ch->s.heap.get? b=some o->H b=none->F b=none)
    (there:∀b o,b∉ch->s.heap.get? b=some o->∃J,h'.get? b=some J)
    (E:∀b w,H b=some (.tup w)->F b=some (.tup w))(L:∀b o u,H b=some (.ku o u)->F b=some (.ku o u))(G:∀b N,H b=some (.l6 N)->∃more,F b=some (.l6<|N++more))
    (Y:∀m,s.heap.Ns X.env.locals m->h'.Ns X.env.locals m)(Q:kU X.prog X.w F h')(hg:AllBare g'):
    Inv X B C F {s with heap:=h',gens:=g',drawn:=d',toks:=W}:=by
 have K:∀b o,X.s₀.heap.get? b=some o->b≠X.env.locals:=λb o e=>aU (aE (Heap.lt_size e) I.ok.above);have j:∀b o,X.s₀.heap.get? b=some o->b∉X.ex->b∉ch:=λb o e a A=>by
  rcases(g b A).1 with z|z;·exact a z
  ·exact absurd (aE (Heap.lt_size e) z) (cx _)
 have h:∀x c,X.env.cells.lookup x=some c->∀v,s.heap.IsCell c v->h'.IsCell c v:=λx c e v ⟨o,D,R⟩=>by
  have f:c∉ch:=λz=>(g c z).2.2.1 x c e rfl;by_cases U:c∈X.fs
  ·obtain⟨P,q⟩:=y c o (I.tO x c e) U f D (I.pZ x c e);exact⟨_,q,R⟩
  ·exact⟨o,keep c o (I.tO x c e) U f D<|I.pZ x c e,R⟩
 refine⟨I.ok,I.os,hg,⟨λb o e n A a=>?_,λb o e n A a=>?_,λb o e n a=>?_,λb o e a=>?_,λb w e=>E b w<|I.base.tups b w e,λb o w e=>L b o w<|I.base.qa b o w e,λb N e=>?_⟩,?_,λx c e=>?_,?_,λx c e=>?_,λp T=>?_,Q,I.len⟩;·exact keep b o (K b o e) A (j b o e a) (I.base.keep b o e n A a) (I.base.free b o e n a)
 ·obtain⟨P,t⟩:=I.base.slot b o e n A a;obtain⟨O,M⟩:=y b _ (K b o e) A (j b o e a) t (I.base.free b o e n a);exact⟨O,M⟩
 ·obtain⟨J,t⟩:=I.base.there b o e a;exact free b J (j b o e a) t (I.base.free b o e n a)
 ·obtain⟨J,t⟩:=I.base.there b o e a;exact there b J (j b o e a) t
 ·obtain⟨m1,t⟩:=I.base.rN b N e;obtain⟨Z,M⟩:=G b _ t;exact⟨m1++Z,by rw[M,Array.append_assoc]⟩
 ·obtain⟨m,hn,hl⟩:=I.loc;refine⟨m,Y m hn,λi x v t M e3=>?_⟩;obtain⟨u,r,l⟩:=hl i x v t M e3;refine⟨u,r,?_⟩;rcases l with l|⟨k,c,e,z⟩;·exact .inl l
  ·exact .inr ⟨k,c,e,h x c e _ z⟩
 ·obtain⟨v,z⟩:=I.cell x c e;exact⟨v,h x c e v z⟩
 ·obtain⟨m,⟨o,_,_,D,_⟩,_⟩:=I.loc;exact free _ o (λz=>(g _ z).2.1 rfl) D I.free
 ·obtain⟨v,o,D,R⟩:=I.cell x c e;exact free c o (λz=>(g c z).2.2.1 x c e rfl) D (I.pZ x c e)
 ·obtain⟨e,n,ne,S,d⟩:=I.pin p T;have f:p.1∉ch:=λz=>(g p.1 z).2.2.2 p T rfl;exact⟨keep p.1 p.2 ne S f e n,free p.1 p.2 f e n,ne,S,d⟩
def Inv.un{t':Nat}(I:Inv X B C H s)(u:Un X.fs [] H F s.heap h')(c:kU X.prog X.w F h'):Inv X B C F {s with heap:=h',toks:=t'}:=by obtain⟨m,⟨o,t,v,h,r⟩,_⟩:=id I.loc;obtain⟨l,k⟩:=u.any h I.free (by simp);exact I.step (g':=s.gens) (d':=s.drawn) (ch:=[]) (λ_ z=>nomatch z) (λb o _ d _ e n=>u.keep b o e n d (by simp)) (λb o _ d _ e n=>u.slot b o e n d (by simp)) (λb o _ e n=>u.free b o e n (by simp)) (λb o _ e=>u.there b o e (by simp)) u.tups u.qa u.rN (λq j=>by obtain⟨p,f,g,a,i⟩:=j;rw[h]at a;cases a;exact⟨_,f,g,k,i⟩) c I.bare
def Inv.call{g':kr GenState}{t':Nat}{d':Drawn}{ch:nN}(I:Inv X B C H s)(u:Un (frs X.stack) ch H F s.heap h')(g:kU X.prog X.w F h')(t:AllBare g')
    (f:∀b∈ch,(b∈X.ex\/X.s₀.heap.objs.size<=b)/\b≠X.env.locals/\(∀x c,X.env.cells.lookup x=some c->c≠b)/\∀p∈X.pn++B,p.1≠b):
    Inv X B C F {s with heap:=h',gens:=g',drawn:=d',toks:=t'}:=by
 obtain⟨m,⟨o,D,E,k,r⟩,_⟩:=id I.loc;obtain⟨w,h⟩:=u.any k I.free λz=>(f _ z).2.1 rfl;exact I.step (ch:=ch) f (λb o h v a e n=>u.keep b o e n (λz=>(az.mp (I.zU b z)).elim h v) a) (λb o _ _ a e n=>u.any e n a) (λb o a e n=>u.free b o e n a) (λb o a e=>u.there b o e a) u.tups u.qa u.rN (λA q=>by obtain⟨y,i,j,d,l⟩:=q;rw[k]at d;cases d;exact⟨_,i,j,h,l⟩) g t
def Inv.turned{t':Nat}(I:Inv X B C H s)(k:∀b o,b≠it->s.heap.get? b=some o->h'.get? b=some o)(g:H it=none)(i:it≠X.env.locals)
 (D:it∈X.ex\/X.s₀.heap.objs.size<=it)(A:∀x c,X.env.cells.lookup x=some c->c≠it)(y:∀p∈X.pn++B,p.1≠it):Inv X B C H {s with heap:=h',toks:=t'}:=by
  have d:∀b u,H b=some u->b≠it:=λb u e z=>by rw[z,g]at e;cases e
  refine I.step (g':=s.gens) (d':=s.drawn) (ch:=[it]) (λb w=>?_) (λb o _ _ a e _=>k b o (λz=>a<|by simp[z]) e) (λb o _ _ a e _=>⟨o.slots,k b o (λz=>a<|by simp[z]) e⟩) (λ_ _ _ _ n=>n)
   (λb o a e=>⟨o,k b o (λz=>a<|by simp[z]) e⟩) (λ_ _ e=>e) (λ_ _ _ e=>e) (λb t e=>⟨#[],by rw[e];simp⟩) (λm h=>?_) (λb u e=>?_) I.bare
  ·grind
  ·obtain⟨o,j,l,f,r⟩:=h;exact⟨o,j,l,k _ o (bV i) f,r⟩
  ·refine(I.hok b u e).ur (λc v a q=>k c v ?_ q) (λ_ q=>q) λ_ _ q=>q
   lia
def Inv.tok(I:Inv X B C H s)(t:Nat):Inv X B C H {s with toks:=t}:=I.un (h':=s.heap) (t':=t) Un.refl I.hok
def Inv.kept{t':Nat}(I:Inv X B C H s)(k:∀b u,s.heap.get? b=some u->h'.get? b=some u):Inv X B C H {s with heap:=h',toks:=t'}:=I.un (Un.kept k) (I.hok.kept k)
def Inv.laid{a:ja}{o:HO}{t':Nat}(I:Inv X B C H s)(k:∀b u,s.heap.get? b=some u->h'.get? b=some u)(c:s.heap.objs.size<=a)(new:kQ X.prog X.w (upd H a o) h' a o):
    Inv X B C (upd H a o) {s with heap:=h',toks:=t'}:=I.un (Un.laid k c<|I.hok.fresh c) (I.hok.laid k c new)
def Inv.write{x e:ja}{o:HO}{t':Nat}(I:Inv X B C H s)(c:vQ<|H x)(d:e=x\/H e=some (.own x))(k:∀b u,b≠e->s.heap.get? b=some u->h'.get? b=some u)(a:∃u,h'.get? e=some u)
    (new:kQ X.prog X.w (upd H x o) h' x o):Inv X B C (upd H x o) {s with heap:=h',toks:=t'}:=I.un (Un.write c d k a) (I.hok.write c d k a new)
def Inv.weak(I:Inv X B C H s)(c:pS.length=C.length)(w:∀(i:Nat) v,pS[i]?=some (some v)->C[i]?=some (some v)):Inv X B pS H s:=
 ⟨I.ok,I.os,I.bare,I.base,let⟨m,b,a⟩:=I.loc;⟨m,b,λi x v f e d=>a i x v f (w i v e) d⟩,I.cell,I.free,I.pZ,I.pin,I.hok,c.trans I.len⟩
def Inv.KR(I:Inv X B C H s)(h:∀p∈Xw,s.heap.get? p.1=some p.2/\H p.1=none/\p.1≠X.env.locals/\p.1∉X.fs/\∀v,p.2.data≠.cell v):Inv X Xw C H s:=
 ⟨I.ok,I.os,I.bare,I.base,I.loc,I.cell,I.free,I.pZ,λp a=>(aX.mp a).elim (λz=>I.pin p<|cS _ z) (h p),I.hok,I.len⟩
abbrev _root_.jS:=aa jd
def J2{N:jS}(hN:N.Nodup){j:Nat}{x}(a:N[i]?=some x)(b:N[j]?=some x):i=j:=by obtain⟨f,d⟩:=aC.mp a;obtain⟨e,c⟩:=aC.mp b;exact(List.getElem_inj hN).mp (d.trans c.symm)
abbrev _root_.uN:=Unit->jr->Prop
def L5{A}{E:ki}{i:Nat}{x}{v}{u}{Q:uN}(I:Inv X B C H s)(hN:X.N.Nodup)(R:X.N[i]?=some x)(w:Loc X.env.scope x)(r:RelV v u)
 (h:∀s',Inv X B (C.set i<|some v) H s'->(∃a,Heap.SameBut a s.heap s'.heap/\(a=X.env.locals\/X.env.cells.lookup x=some a))->Q () s')(hf:X.hf x):wpAny M A (storeName X.env x u) Q E s:=by
  obtain⟨m,hn,hl⟩:=id I.loc;have S:(X.env.scope.kind==.class||(X.env.scope.kind==.module&&X.env.locals !=X.env.globals))=false:=by rw[I.ok.kind];rfl
  have J:i<C.length:=by rw[I.len];exact(aC.mp R).1
  have tO:=I.tO;have g:∀{a:ja} {h':jw},(∃o,s.heap.get? a=some o/\H a=none)->Heap.SameBut a s.heap h'->kU X.prog X.w H h':=λ{a h'} ha f b ob e=>by
   obtain⟨_,_,D⟩:=ha;refine(I.hok b ob e).ur (λc W t q=>(f.2 c ?_).trans q) (λ_ q=>q) λ_ _ q=>q
   rintro rfl
   rcases t with rfl|t;·rw[D]at e;cases e
   ·rw[D]at t;cases t
  rcases w with hk|hk
  ·refine wpAny_storeName_local hk hn (λh' wI f=>?_) S;obtain⟨oL,_,_,RJ,_⟩:=id hn;refine h _ ⟨I.ok,I.os,I.bare,⟨λb o e n N w=>?_,λb o e n N w=>?_,I.base.free,λb o e w=>?_,I.base.tups,I.base.qa,I.base.rN⟩,⟨_,wI,λj y Z l G e3=>?_⟩,λy c e=>?_,I.free,I.pZ,λp hp=>?_,g ⟨oL,RJ,I.free⟩ f,by simpa using I.len⟩ ⟨_,f,.inl rfl⟩;·exact(f.2 b<|aU<|aE (Heap.lt_size e) I.ok.above).trans (I.base.keep b o e n N w)
   ·obtain⟨sl,l⟩:=I.base.slot b o e n N w;exact⟨sl,(f.2 b<|aU<|aE (Heap.lt_size e) I.ok.above).trans l⟩
   ·obtain⟨o',l⟩:=I.base.there b o e w;exact⟨o',(f.2 b<|aU<|aE (Heap.lt_size e) I.ok.above).trans l⟩
   ·by_cases K:j=i
    ·subst K;rw[R]at l;cases l;rw[aF J]at G;cases G;exact⟨u,r,.inl ⟨hk,by simp⟩⟩
    ·rw[av<|bV K]at G;obtain⟨u',r',q⟩:=hl j y Z l G e3;refine⟨u',r',?_⟩;rcases q with⟨k,e⟩|⟨k,c,e,z⟩
     ·refine .inl ⟨k,?_⟩;have:y≠x:=λe=>K (J2 hN l<|e▸R);simp[this,e]
     ·exact .inr ⟨k,c,e,z.sameBut f<|tO y c e⟩
   ·obtain⟨W,z⟩:=I.cell y c e;exact⟨W,z.sameBut f<|tO y c e⟩
   ·obtain⟨e,n,ne,nf,d⟩:=I.pin p hp;exact⟨(f.2 p.1 ne).trans e,n,ne,nf,d⟩
  ·have L:X.fn x=true:=by
    rcases hf with z|z;·exact z
    ·rw[z]at hk;cases hk
   obtain⟨c,t⟩:=I.ok.has x (.inl hk);obtain⟨W,z⟩:=I.cell x c t;refine wpAny_storeName_cell I.ok.kind hk t z (λh' U f=>?_);obtain⟨oc,P,O⟩:=id z;refine h {s with heap:=h'} ⟨I.ok,I.os,I.bare,⟨λb o e n N w=>?_,λb o e n N w=>?_,I.base.free,λb o e w=>?_,I.base.tups,I.base.qa,I.base.rN⟩,⟨m,hn.sameBut f<|bV<|tO x c t,λj y Z l G e3=>?_⟩,λy Y e=>?_,I.free,I.pZ,λp hp=>?_,g ⟨oc,P,I.pZ x c t⟩ f,by simpa using I.len⟩ ⟨c,f,.inr t⟩;·exact(f.2 b<|aU<|aE (Heap.lt_size e)<|I.ok.cab x c L t).trans (I.base.keep b o e n N w)
   ·obtain⟨sl,l⟩:=I.base.slot b o e n N w;exact⟨sl,(f.2 b<|aU<|aE (Heap.lt_size e)<|I.ok.cab x c L t).trans l⟩
   ·obtain⟨o',l⟩:=I.base.there b o e w;exact⟨o',(f.2 b<|aU<|aE (Heap.lt_size e)<|I.ok.cab x c L t).trans l⟩
   ·by_cases K:j=i
    ·subst K;rw[R]at l;cases l;rw[aF J]at G;cases G;exact⟨u,r,.inr ⟨.inl hk,c,t,U⟩⟩
    ·rw[av<|bV K]at G;obtain⟨u',r',q⟩:=hl j y Z l G e3;refine⟨u',r',?_⟩;rcases q with q|⟨k,Y,e,z'⟩;·exact .inl q
     ·refine .inr ⟨k,Y,e,z'.sameBut f ?_⟩
      rintro rfl
      exact K (J2 hN l<|I.ok.inj _ _ _ e t▸R)
   ·by_cases T:Y=c;·subst T;exact⟨_,U⟩
    ·obtain⟨w2,z2⟩:=I.cell y Y e;exact⟨w2,z2.sameBut f T⟩
   ·obtain⟨e,n,ne,nf,d⟩:=I.pin p hp;refine⟨(f.2 p.1 ?_).trans e,n,ne,nf,d⟩;intro q;rw[q,P]at e;have q':oc=p.2:=Option.some.inj e;exact d W (by rw[<-q'];exact O)
def xC{A}{E:ki}{x}{v}{u}{Q}(I:Inv X B C H s)(hN:X.N.Nodup)(c:X.N[i]?=some x)(b:Loc X.env.scope x)(r:RelV v u)
 (h:∀a,Inv X B (C.set i<|some v) H a->Q () a)(hf:X.hf x):wpAny M A (storeName X.env x u) Q E s:=
  L5 I hN c b r (λa d _=>h a d) hf
def Inv.GP{s'}(I:Inv X B C H s)(g:s'.os=s.os)(u:Un (frs X.stack) ch H F s.heap s'.heap)(a:kU X.prog X.w F s'.heap)(h:AllBare s'.gens)
 (d:∀b∈ch,(b∈X.ex\/X.s₀.heap.objs.size<=b)/\b≠X.env.locals/\(∀x c,X.env.cells.lookup x=some c->c≠b)/\∀p∈X.pn++B,p.1≠b):Inv X B C F s':=by obtain⟨h',g',d',t',f⟩:=s';have e:f=s.os:=g;subst e;exact I.call (g':=g') (t':=t') (d':=d') u a h d
end
abbrev XK:=je->jm ja->Hp->Prop
abbrev St:=aa (jm V)
abbrev VK:=V->Hp->Prop
abbrev TE:=St->Hp->VK->Prop
abbrev TT:=St->Hp->(jk->Hp->Prop)->Prop
abbrev TA:=St->Hp->(aa V->Hp->Prop)->Prop
structure Ends where
 nx:St->Hp->Prop
 rt:VK
 bk:St->Hp->Prop:=λ_ _=>False
 ct:St->Hp->Prop:=λ_ _=>False
abbrev TS:=Ends->St->Hp->Prop
def EP(X:Cx)(a:kX)(c:St)(Q:VK)(u:je)(d:jr):Prop:=∃v b,Inv X a c b d/\RelV v u/\Q v b
abbrev _root_.sd:=jk->Hp->Prop
def TP(X:Cx)(a:kX)(d:St)(Q:sd)(b:jk)(e:jr):Prop:=∃c,Inv X a d c e/\Q b c
def AP(X:Cx)(a:kX)(d:St)(Q:aa V->Hp->Prop)(e:kL)(f:jr):Prop:=∃b c,Inv X a d c f/\Vals b e/\Q b c
def SP(X:Cx)(b:kX)(D:Ends)(f:Flow)(d:jr):Prop:=
 match f with
 |.next=>∃a c,Inv X b a c d/\D.nx a c
 |.brk=>∃a c,Inv X b a c d/\D.bk a c
 |.cont=>∃a c,Inv X b a c d/\D.ct a c
 |.ret u=>∃v a c,Inv X b a c d/\RelV v u/\D.rt v c
def PE(X:Cx)(e:jB)(t:TE):Prop:=
 ∀(a:kX) (s:jr) (σ:St) (H:Hp) (Q:VK),Inv X a σ H s->t σ H Q->wpAny (model X.prog X.w) X.A (eval e X.env) (EP X a σ Q) X.xe s
def PT(X:Cx)(e:jB)(t:TT):Prop:=
 ∀(a:kX) (s:jr) (σ:St) (H:Hp) (Q:sd),Inv X a σ H s->t σ H Q->wpAny (model X.prog X.w) X.A (isTrue e X.env<|eval e X.env) (TP X a σ Q) X.xe s
def PW(X:Cx)(e:jB)(t:TT):Prop:=
 ∀(a:Sem je) (pins:kX) (s:jr) (σ:St) (H:Hp) (Q:sd),Inv X pins σ H s->t σ H Q->wpAny (model X.prog X.w) X.A (isTrue e X.env a) (TP X pins σ Q) X.xe s
def PW.pt{t}(h:PW X e t):PT X e t:=h _
def PA(X:Cx)(b:lr)(t:TA):Prop:=
 ∀(a:Pos) (pins:kX) (s:jr) (σ:St) (H:Hp) (Q:aa V->Hp->Prop),Inv X pins σ H s->t σ H Q->wpAny (model X.prog X.w) X.A (spliced<|backTo a<|starEach b X.env) (AP X pins σ Q) X.xe s
def PS(X:Cx)(b:Stmt)(t:TS):Prop:=
 ∀(a:kX) (s:jr) (σ:St) (H:Hp) (D:Ends),Inv X a σ H s->t D σ H->wpAny (model X.prog X.w) X.A (exec b X.env) (SP X a D) X.xe s
def pj(X:Cx)(b:aa Stmt)(t:TS):Prop:=
 ∀(a:kX) (s:jr) (σ:St) (H:Hp) (D:Ends),Inv X a σ H s->t D σ H->wpAny (model X.prog X.w) X.A (execs b X.env) (SP X a D) X.xe s
def jC{t}{Q}{A}{E}{s}(h:wpAny M A t Q E s)(b:∀a s,Q a s->Q' a s):wpAny M A t Q' E s:=bC h b λ_ _ x=>x
section
variable{X:Cx}
def abf(i:Nat):TE:=λa H Q=>∃v,a[i]?=some (some v)/\Q v H
def tC(v:V):TE:=λ_ H Q=>Q v H
def xh{x}{g}(hN:X.N[i]?=some x)(hv:rm X.env.scope x)(j:mq x)(k:(x==("__classdict__":jd))=false):PE X (.Name x g) (abf i):=by
 intro f s o H Q I h;obtain⟨v,e,h⟩:=h;obtain⟨m,p,t⟩:=I.loc;obtain⟨u,r,l⟩:=t i x v hN e hv;have d:EP X f o Q u s:=⟨v,H,I,r,h⟩;rcases l with⟨b,q⟩|⟨b,c,n,a⟩;·exact wpAny_Name (wpAny_loadName_local I.ok.kind b p q d) j
 ·rcases b with b|b;·exact wpAny_Name (wpAny_loadName_cell I.ok.kind b n a d) j
  ·exact wpAny_Name (wpAny_loadName_free I.ok.kind b n a d k) j
def W5{i j a}:PE X (.Constant (.int i) j a) (tC<|.int i):=λ_ _ _ H _ I h=>wpAny_Constant_int ⟨.int i,H,I.tok _,⟨_,rfl⟩,h⟩
def WR{b j a}:PE X (.Constant (.bool b) j a) (tC<|.bl b):=λ_ _ _ H _ I h=>Constant_bool ⟨.bl b,H,I,rfl,h⟩
def Ee{j a}:PE X (.Constant .none j a) (tC .non):=λ_ _ _ H _ I h=>Constant_none ⟨.non,H,I,rfl,h⟩
def Xf{x j a}:PE X (.Constant (.str x) j a) (tC<|.str x):=λ_ _ _ H _ I h=>Calls.Constant_str ⟨.str x,H,I.tok _,⟨_,rfl⟩,h⟩
def Gl(X:Cx)(x:jd):Prop:=X.env.kindOf x=some .globalImplicit
def Du{E}{a}{s}{c}{H}{x}{u}{b}{Q}(I:Inv X a c H s)(e:Gl X x)(d:X.mg x=some u)(h:Q u s)
 (f:mq x):wpAny (model X.prog X.w) X.A (eval (.Name x b) X.env) Q E s:=
  gk I.ok.kind e (Calls.loadGlobal_global (by rw[I.ok.glob];exact I.mod.glob.keeps I.bk) d h) f
def sJ{E:ki}{a}{s}{c}{H}{x}{u}{b}{Q}(I:Inv X a c H s)(f:Gl X x)(e:X.mg x=none)(hv:bootBuiltins x=some u)(h:Q u s)
 (d:x≠"__name__")(g:mq x):wpAny (model X.prog X.w) X.A (eval (.Name x b) X.env) Q E s:=by obtain⟨k,j,i⟩:=I.mod.blt;exact gk I.ok.kind f (Calls.loadGlobal_builtin (by rw[I.ok.glob];exact I.mod.glob.keeps I.bk) e (by rw[I.ok.blt];exact j.keeps I.bk) ((i x d).trans hv) h) g
def WS{u}(c:Gl X x)(b:X.mg x=none)(hv:bootBuiltins x=some u)(r:RelV v u)(a:x≠"__name__")(d:mq x):PE X (.Name x pos) (tC v):=
 λ_ _ _ H _ I h=>sJ I c b hv ⟨v,H,I,r,h⟩ a d
variable{a b:jB}{L S:TE}{C:Pos}
def tB(t:TE):TT:=λd H Q=>t d H λx e=>∃c,x=.bl c/\Q c e
variable{M O:TT}{rest:lr}
def aaO(t u:TT):TT:=λd H Q=>t d H λc e=>if c=true then u d e Q else Q false e
def tOr(t u:TT):TT:=λd H Q=>t d H λc e=>if c=true then Q true e else u d e Q
def aa6(t:TT):TT:=λd H Q=>t d H λc e=>Q (!c) e
def Le(g:PT X a M):PW X (.BoolOp .And [a] C) M:=by
 intro i d s f H Q I h;refine isTrue_and (jC (g d s f H Q I h) λc j e=>?_);cases c with
 |true=>exact isTrue_and_nil e
 |false=>exact e
def XX(g:PT X a M):PW X (.BoolOp .Or [a] C) M:=by
 intro i d s f H Q I h;refine isTrue_or (jC (g d s f H Q I h) λc j e=>?_);cases c with
 |false=>exact isTrue_or_nil e
 |true=>exact e
def Ld(m:PT X a M)(l:PW X (.BoolOp .And (b::rest) C) O):PW X (.BoolOp .And (a::b::rest) C) (aaO M O):=by
 intro j d s e H Q I h;refine isTrue_and (jC (m d s e H _ I h) λc k ⟨i,g,f⟩=>?_);cases c with
 |true=>exact l j d k e i Q g f
 |false=>exact⟨i,g,f⟩
def XW(m:PT X a M)(l:PW X (.BoolOp .Or (b::rest) C) O):PW X (.BoolOp .Or (a::b::rest) C) (tOr M O):=by
 intro j d s e H Q I h;refine isTrue_or (jC (m d s e H _ I h) λc k ⟨i,g,f⟩=>?_);cases c with
 |true=>exact⟨i,g,f⟩
 |false=>exact l j d k e i Q g f
def XQ(f:PT X a M):PT X (.UnaryOp .Not a C) (aa6 M):=by intro d s e H Q I h;exact isTrue_not (f d s e H (λc g=>Q (!c) g) I h)
def aaP(L S:TE):TE:=λd H Q=>L d H λx e=>∃c,x=.bl c/\if c=true then S d e Q else Q (.bl false) e
def aa7(L:TE):TE:=λd H Q=>L d H λx e=>∃c,x=.bl c/\Q (.bl<|!c) e
def W9{e t}(h:PE X a t):PE X (.BoolOp e [a] C) t:=λc s d H Q I f=>BoolOp_one (h c s d H Q I f)
def WO(n:PE X a L)(m:PE X (.BoolOp .And (b::rest) C) S):PE X (.BoolOp .And (a::b::rest) C) (aaP L S):=by
 intro d s g H Q I h;refine BoolOp_and (jC (n d s g H _ I h) λv k f=>?_);obtain⟨x,j,i,l,e⟩:=f;obtain⟨c,rfl,e⟩:=e;cases l;refine cH ?_;cases c with
 |true=>exact m d k g j Q i e
 |false=>exact⟨.bl false,j,i,rfl,e⟩
def KC(j:PE X a L):PE X (.UnaryOp .Not a C) (aa7 L):=by intro d s g H Q I h;refine UnaryOp_ (jC (j d s g H _ I h) λv m f=>?_);obtain⟨x,l,k,i,e⟩:=f;obtain⟨c,rfl,e⟩:=e;cases i;exact not_of (cH ⟨.bl<|!c,l,k,rfl,e⟩)
def tIf(t:TT)(L S:TE):TE:=λd H Q=>t d H λc e=>if c=true then L d e Q else S d e Q
def W4{c:jB}(l:PT X c M)(n:PE X a L)(m:PE X b S):PE X (.IfExp c a b C) (tIf M L S):=by
 intro e s f H Q I h;refine wpAny_IfExp (jC (l e s f H _ I h) λd g ⟨k,j,i⟩=>?_);cases d with
 |true=>exact n e g f k Q j i
 |false=>exact m e g f k Q j i
abbrev _root_.tr:=kr je
def lz(K:jx)(H:Hp)(a:ja)(d:aa V):Prop:=
 Rd H a (.lst d)\/
  ∃(o:lE) (c:tr) (n:Nat),K.lookup a=some o/\o.cls=.type "list"/\o.dict=none/\o.data=.seq c n/\c.size<=sizeLine/\Vals d c.toList
def mx(K:jx)(H:Hp)(a:ja)(d:aa V):Prop:=
 Rd H a (.tup d)\/
  ∃(o:lE) (c:tr) (n:Nat),K.lookup a=some o/\o.cls=.type "tuple"/\o.data=.seq c n/\c.size<=sizeLine/\Vals d c.toList
noncomputable def Na:je->jm V
 |.none=>some .non
 |.bool b=>some (.bl b)
 |.int i _=>some (.int i)
 |.str x _=>some (.str x)
 |.bytes b _=>some (.oC b)
 |.float b _=>some (.flt b)
 |.ref a=>some (.ref a)
 |.type n=>some (.ty n)
 |_=>none
def RelV.abs{u}(r:RelV x u):Na u=some x:=by
 cases x with
 |non=>cases r;rfl
 |bl _=>cases r;rfl
 |int _=>obtain⟨t,rfl⟩:=r;rfl
 |str _=>obtain⟨t,rfl⟩:=r;rfl
 |oC _=>obtain⟨t,rfl⟩:=r;rfl
 |flt _=>obtain⟨t,rfl⟩:=r;rfl
 |ref _=>cases r;rfl
 |ty _=>cases r;rfl
def RelV.inj{x}{u}(r:RelV x u)(q:RelV y u):x=y:=Option.some.inj (r.abs.symm.trans q.abs)
theorem Vals.inj:∀{d c:aa V} {e:kL},Vals d e->Vals c e->d=c
 |_,_,_,.nil,.nil=>rfl
 |_,_,_,.cons r t,.cons g f=>by rw[r.inj g,Vals.inj t f]
variable{B:kX}{F:St}{H:Hp}{s:jr}{a:ja}{J U:aa V}
def Inv.list(I:Inv X B F H s)(h:lz X.K H a J):∃c:aa je,Vals J c/\PlainL s.heap a c.toArray/\J.length<=sizeLine:=by
 rcases h with h|⟨o,c,n,hk,hc,hd,hs,hz,r⟩
 ·obtain⟨z,c,n,r,e⟩:=h.ok I.hok;exact⟨c,r,⟨_,n,e,rfl,rfl,rfl⟩,z⟩
 ·refine⟨c.toList,r,⟨o,n,I.mm a o hk,hc,hd,by simpa using hs⟩,?_⟩;have e:=r.length;simp_all
def Inv.tuple(I:Inv X B F H s)(h:mx X.K H a J):∃c:aa je,Vals J c/\IsTup s.heap a c.toArray/\J.length<=sizeLine:=by
 rcases h with h|⟨o,c,n,hk,hc,hs,hz,r⟩
 ·obtain⟨z,c,r,p⟩:=h.ok I.hok
  grind
 ·refine⟨c.toList,r,⟨o,I.mm a o hk,hc,n,by simpa using hs⟩,?_⟩;have e:=r.length;simp_all
def Inv.TJ(I:Inv X B F H s)(h:lz X.K H a J)(j:lz X.K H a U):J=U:=by
 obtain⟨f,r,⟨o,n,e,_,_,d⟩,_⟩:=I.list h;obtain⟨c,i,⟨k,l,g,_,_,m⟩,_⟩:=I.list j;rw[e]at g;cases g;have:f=c:=by lia
 subst this;exact r.inj i
def Inv.abu(I:Inv X B F H s)(h:mx X.K H a J)(j:mx X.K H a U):J=U:=by
 obtain⟨f,r,⟨o,e,_,n,d⟩,_⟩:=I.tuple h;obtain⟨c,i,⟨k,g,_,l,m⟩,_⟩:=I.tuple j;rw[e]at g;cases g;have:f=c:=by lia
 subst this;exact r.inj i
end
section
variable{X:Cx}{l:Stmt}{rest:aa Stmt}{t u:TS}{e:jB}{j:TE}{i:Pos}
def aa5:TS:=λD a H=>D.nx a H
def abc(t u:TS):TS:=λD a H=>t {D with nx:=u D} a H
def K7:pj X [] aa5:=λ_ _ a H _ I h=>f6 ⟨a,H,I,h⟩
def K6(k:PS X l t)(g:pj X rest u):pj X (l::rest) (abc t u):=by
 intro a s c H D I h;refine wpAny_execs_cons (jC (k a s c H {D with nx:=u D} I h) λf d q=>?_);cases f with
 |next=>obtain⟨b,n,m,q⟩:=q;exact g a d b n D m q
 |ret v=>exact q
 |brk=>exact q
 |cont=>exact q
def K8(c:PS X l t):pj X [l] t:=by
 intro a s b H D I h;refine wpAny_execs_cons (jC (c a s b H D I h) λf d q=>?_);cases f with
 |next=>exact f6 q
 |ret v=>exact q
 |brk=>exact q
 |cont=>exact q
def aaR:TS:=λD a H=>D.bk a H
def XH:PS X (.Break i) aaR:=λ_ _ a H _ I h=>wpAny_Break ⟨a,H,I,h⟩
def Inv.quiet{s}(I:Inv X pins σ H s):interactive X.env=false:=by simp[interactive,I.ok.kind]
def aaY(j:TE):TS:=λD a H=>j a H λ_ b=>D.nx a b
def K1(f:PE X e j)(d:swapsWith e none i.line X.env=pure false):PS X (.Expr e i) (aaY j):=by intro a s b H D I h;exact wpAny_Expr_any (jC (f a s b H _ I h) λv m ⟨x,k,g,n,c⟩=>⟨b,k,g,c⟩) I.quiet d
def abb(j:TE):TS:=λD a H=>j a H D.rt
def K4(f:PE X e j):PS X (.Return (some e) i) (abb j):=by intro a s b H D I h;exact wpAny_Return_some (jC (f a s b H _ I h) λv m ⟨x,k,g,c,d⟩=>⟨x,b,k,g,c,d⟩)
def aa1(c:TT)(t u:TS):TS:=λD a H=>c a H λb d=>if b=true then t D a d else u D a d
def K3(p:PT X c tc)(r:pj X a t)(q:pj X b u):PS X (.If c a b i) (aa1 tc t u):=by
 intro f s g H D I h;refine wpAny_If (jC (p f s g H _ I h) λd k ⟨o,n,m⟩=>?_);cases d with
 |true=>exact r f k g o D n m
 |false=>exact q f k g o D n m
end
abbrev TG:=V->St->Hp->(St->Hp->Prop)->Prop
abbrev uK:=aa V->St->Hp->(St->Hp->Prop)->Prop
def PG(X:Cx)(a:jB)(t:TG):Prop:=
 ∀b s d H v u Q,Inv X b d H s->RelV v u->t v d H Q->
  wpAny (model X.prog X.w) X.A (assign a X.env u) (λ_ f=>∃c e,Inv X b c e f/\Q c e) X.xe s
def vR(X:Cx)(g:lr)(t:uK):Prop:=
 ∀a s c H d e Q,Inv X a c H s->Vals d e->t d c H Q->
  wpAny (model X.prog X.w) X.A (assignInOrder ((assignEach g X.env).map (·.2)) e) (λ_ h=>∃b f,Inv X a b f h/\Q b f) X.xe s
abbrev F7:=V->V->V->Hp->(Hp->Prop)->Prop
def FX(X:Cx)(t:F7):Prop:=
 ∀a s b H o i v c d u Q,Inv X a b H s->RelV o c->RelV i d->RelV v u->t o i v H Q->
  wpAny (model X.prog X.w) X.A (setItem c d u) (λ_ f=>∃e,Inv X a b e f/\Q e) X.xe s
abbrev yf:=V->V->Hp->VK->Prop
def yb(X:Cx)(c:Operator)(t:yf):Prop:=
 ∀a s b H x y v u Q,Inv X a b H s->RelV x v->RelV y u->t x y H Q->
  wpAny (model X.prog X.w) X.A (inplaceOp c v u) (EP X a b Q) X.xe s
section
variable{X:Cx}{B:Pos}
def qN(i:Nat):TG:=λv a H Q=>Q (a.set i<|some v) H
def xi(hN:X.N.Nodup)(c:X.N[i]?=some x)(b:Loc X.env.scope x)(hf:X.hf x):PG X (.Name x B) (qN i):=by intro a s e H v u Q I r h;exact wpAny_assign_Name (xC I hN c b r (λf d=>⟨_,H,d,h⟩) hf)
def Qe:uK:=λb a H Q=>b=[]/\Q a H
def Qd(t:TG)(u:uK):uK:=λc b H Q=>∃v r,c=v::r/\t v b H λa d=>u r a d Q
def Xm:vR X [] Qe:=by intro a s b H c d Q I r h;obtain⟨e,h⟩:=h;subst e;cases r;exact assignInOrder_nil ⟨b,H,I,h⟩
def Xl{t u}(l:PG X e t)(k:vR X es u)
 (j:(assignEach (e::es) X.env).map (·.2)=assign e X.env::(assignEach es X.env).map (·.2)):vR X (e::es) (Qd t u):=by
  intro a s d H p w Q I r h;obtain⟨v,q,m,h⟩:=h;subst m;cases r with
  |cons r g=>rw[j];refine gm (jC (l a s d H _ _ _ I r h) λ_ f c=>?_);obtain⟨b,o,n,i⟩:=c;exact k a f b o _ _ Q n g i
def Qg(K:jx)(n:Nat)(t:uK):TG:=λv c H Q=>∃a b,v=.ref a/\mx K H a b/\b.length=n/\t b c H Q
def Xk{k t n}(y:X.calm=true)(h:vR X es t)
 (w:(assignEach es X.env).length=n)(f:(assignEach es X.env).findIdx? (·.1)=none):PG X (.Tuple es k B) (Qg X.K n t):=by intro c s g H v u Q I r d;obtain⟨a,j,A,q,x,d⟩:=d;subst A;cases r;obtain⟨l,i,p,D⟩:=I.tuple q;refine assign_Tuple_tuple (I.ok.hd y) p (by simp[w,<-x,i.length]) f λz m=>?_;have C:Inv X c g H {s with heap:=z}:=I.kept (t':=s.toks) λb o e=>m b o (aU<|Heap.lt_size e) e;exact h c _ g H j _ Q C (by simpa using i) d
def Qf(to b:TE)(t:F7):TG:=λv a H Q=>to a H λo e=>b a e λi d=>t o i v d λc=>Q a c
def Xj{o to t}(q:PE X o to)(w:PE X i ti)(p:FX X t)
 (z:∀v,assign (.Subscript o i B) X.env v=(do
 let c<-holding [v] (eval o X.env)
 let d<-holding [v,c] (eval i X.env)
 standAt B
 holding [v,c,d] (setItem c d v)
 release [v,c,d] [])):PG X (.Subscript o i B) (Qf to ti t):=by intro a s e H v u Q I r h;rw[z];refine ae (bI<|jC (q a s e H _ I h) λc g b=>?_);obtain⟨x,G,D,k,n⟩:=b;refine ae (bI<|jC (w a g e G _ D n) λd f b=>?_);obtain⟨y,F,C,j,m⟩:=b;refine ae (fT<|ae<|bI<|jC (p a f e F x y v c d u _ C k j r m) λ_ J ⟨E,A,l⟩=>?_);exact wpAny_release ⟨e,E,A,l⟩
def EK(b:TE)(g:TG):TS:=λD a H=>b a H λx c=>g x a c D.nx
def XF{g}(m:PE X e te)(l:PG X tg g)(k:swapsWithSole [tg] e B.line X.env=pure false)(j:swappedStores [tg] e X.env=pure none)
 (n:(assignEach [tg] X.env).map (·.2)=[assign tg X.env]):PS X (.Assign [tg] e B) (EK te g):=by intro a s c H D I h;refine wpAny_Assign_stores (jC (m a s c H _ I h) λv d b=>?_) k j;obtain⟨x,p,o,f,i⟩:=b;rw[n];exact jC (l a d c p x v _ o f i) λ_ r q=>q
def Ej(hN:X.N.Nodup)(k:X.N[i]?=some x)(g:Loc X.env.scope x)(l:PE X e te)(j:swapsWith e (some<|.Name x pos') B.line X.env=pure false)(hf:X.hf x):
    PS X (.Assign [.Name x pos'] e B) (EK te<|qN i):=by
 intro a s c H D I h;refine wpAny_Assign_Name (jC (l a s c H _ I h) λv q b=>?_) j;obtain⟨y,o,n,d,f⟩:=b;exact xC n hN k g d (λp m=>⟨_,o,m,f⟩) hf
def aa8(i j:Nat)(c:TA):TS:=λD a H=>c a H λb d=>∃v w,b=[v,w]/\D.nx ((a.set i<|some v).set j (some w)) d
def XM{pt n r d}(S:X.calm=true)(hN:X.N.Nodup)(R:X.N[i]?=some x)(Q:X.N[j]?=some y)(z:i≠j)
 (E:X.env.scope.names.lookup x=some .local)(C:X.env.scope.names.lookup y=some .local)(T:PA X [a,b] ta)
 (O:swappedStores [.Tuple [.Name x px,.Name y py] n pt] (.Tuple [a,b] r d) X.env=pure (some [x,y]))
 (P:swapsWithSole [.Tuple [.Name x px,.Name y py] n pt] (.Tuple [a,b] r d) B.line X.env=pure false):
   PS X (.Assign [.Tuple [.Name x px,.Name y py] n pt] (.Tuple [a,b] r d) B) (aa8 i j ta):=by
  intro c s A H D I h;rw[exec_Assign_arm];refine ae (fT ?_);rw[P];refine ae (af ?_);rw[ax<|by decide];refine ae (Tuple_<|jC (T _ c s A H _ I h) λJ k u=>?_);obtain⟨vs,G,Z,L,m⟩:=u;obtain⟨v,w,U,m⟩:=m;subst U;obtain⟨g,f,rfl,K,l⟩:∃g f,J=[g,f]/\RelV v g/\RelV w f:=by
   cases L with
   |cons p q=>
    cases q with
    |cons N M=>cases M;exact⟨_,_,rfl,p,N⟩
  refine a9 ?_ (by show 2<=sizeLine;decide);have Y:Inv X c A G {k with heap:=k.heap.push {cls:=.type "tuple",data:=.seq [g,f].toArray}}:=Z.kept (t':=k.toks) λb o e=>ah _ e;rw[O];refine ae (af ?_);show wpAny (model X.prog X.w) X.A (do rule "assign.swapped-stores";let items<-unpackItems (.ref k.heap.objs.size) 2 none;assignInOrder [λv=>bindName X.env y v,λv=>bindName X.env x v] items.reverse;pure Flow.next) _ _ _;refine ae (eX<|ae<|unpackItems_tuple (items:=#[g,f]) (I.ok.hd S) (IsTup.new k.heap _) λh' t=>?_);have W:=Y.kept (h':=h') (t':=k.toks) λb o e=>t b o (aU<|Heap.lt_size e) e;show wpAny _ _ (assignInOrder [λv=>bindName X.env y v,λv=>bindName X.env x v] [f,g]>>=λ_=>pure Flow.next) _ _ _;refine ae (gm<|iG<|xC W hN Q (.inl C) l (λs2 V=>?_)<|.inr C);refine gm (iG<|xC V hN R (.inl E) K (λs3 F=>assignInOrder_nil<|af ?_)<|.inr E);rw[List.set_comm _ _<|bV z]at F;exact⟨_,G,F,m⟩
def aaQ(i:Nat)(c:TE)(b:yf):TS:=λD a H=>∃x,a[i]?=some (some x)/\c a H λy e=>b x y e λz d=>D.nx (a.set i<|some z) d
def XG(hN:X.N.Nodup)(q:X.N[i]?=some x)(o:Loc X.env.scope x)(N:PE X e te)(J:yb X op ti)(hf:X.hf x):
    PS X (.AugAssign (.Name x pos') op e B) (aaQ i te ti):=by
 intro a s p H D I h;obtain⟨v,P,h⟩:=h;obtain⟨m,K,M⟩:=I.loc;have n:rm X.env.scope x:=by rcases o with k|k;exact .inl k;exact .inr (.inl k)
 obtain⟨u,r,l⟩:=M i x v q P n;refine wpAny_AugAssign_Name ?_;have t:wpAny (model X.prog X.w) X.A (eval e X.env) (λw j=>wpAny (model X.prog X.w) X.A (inplaceOp op u w) (λr g=>wpAny (model X.prog X.w) X.A (storeName X.env x r) (λ_=>SP X a D .next) X.xe g) X.xe j) X.xe s:=by refine jC (N a s p H _ I h) λw A d=>?_;obtain⟨y,U,S,E,G⟩:=d;refine jC (J a A p U v y u w _ S r E G) λz Y d=>?_;obtain⟨V,T,R,C,F⟩:=d;exact xC R hN q o C (λW Q=>⟨_,T,Q,F⟩) hf
 rcases l with⟨b,L⟩|⟨b,c,O,f⟩;·exact wpAny_loadName_local I.ok.kind b K L t
 ·rcases b with b|b;·exact wpAny_loadName_cell I.ok.kind b O f t
  ·rcases o with k|k
   ·have:X.env.scope.names.lookup x=some .free:=b;rw[k]at this;cases this
   ·have:X.env.scope.names.lookup x=some .free:=b;rw[k]at this;cases this
def IY(f:Int->Int->Int):yf:=λx y H Q=>∃i j,x=.int i/\y=.int j/\Q (.int<|f i j) H
def Sq:yb X .Add (IY λi j=>i+j):=by intro a s f H x y v u Q I c b h;obtain⟨i,j,e,d,q⟩:=h;subst e;subst d;obtain⟨t,rfl⟩:=c;obtain⟨g,rfl⟩:=b;exact iadd_int ⟨.int _,H,I.tok _,⟨_,rfl⟩,q⟩
def Ss:yb X .Sub (IY λi j=>i - j):=by intro a s f H x y v u Q I c b h;obtain⟨i,j,e,d,q⟩:=h;subst e;subst d;obtain⟨t,rfl⟩:=c;obtain⟨g,rfl⟩:=b;exact isub_int ⟨.int _,H,I.tok _,⟨_,rfl⟩,q⟩
def abg(c:TT)(h:TS):TS:=λD a H=>∃W:Nat->St->Hp->Prop,(∃m,W m a H)/\∀m a H,W m a H->
 c a H λb f=>if b=true then∃N:St->Hp->Prop,(∀d g,N d g->∃e,e<m/\W e d g)/\h {D with nx:=N,ct:=N,bk:=D.nx} a f else D.nx a f
def K5(m:PassesOwn (model X.prog X.w) X.A X.env X.xe)(E:PT X c tc)(F:pj X body tb):PS X (.While c body [] B) (abg tc tb):=by
 intro a s u H D I h;obtain⟨W,⟨C,x⟩,i⟩:=h;refine wpAny_While (codeAny_whileLoop (λn A=>∃g t,Inv X a g t A/\W n g t) ?_ C ⟨u,H,I,x⟩)
 rintro n z ⟨d,r,J,w⟩
 refine dg m (jC (E a z d r _ J<|i n d r w) λb y ⟨q,o,k⟩=>?_);cases b with
 |true=>
  obtain⟨N,hN,k⟩:=k;rw[au rfl];refine dg m (jC (F a y d q _ o k) λf L j=>?_);cases f with
  |next=>
   obtain⟨e,p,G,l⟩:=j
   grind
  |cont=>
   obtain⟨e,p,G,l⟩:=j;obtain⟨M,O,K⟩:=hN e p l
   grind
  |brk=>exact j
  |ret v=>exact j
 |false=>exact f6 ⟨d,q,o,k⟩
end
structure It where
 go:Nat->Hp->Prop
 xI:Nat->Hp->V->Hp->Prop
 stop:Nat->Hp->Prop
def rT(X:Cx)(a:kX)(H:Hp)(b:ja):Prop:=
 H b=none/\b≠X.env.locals/\b∉X.fs/\(b∈X.ex\/X.s₀.heap.objs.size<=b)/\(∀x c,X.env.cells.lookup x=some c->c≠b)/\∀p∈X.pn++a,p.1≠b
def Inv.u0{d}{s}(I:Inv X pins σ H s)(a:s.heap.objs.size<=b)(g:d b=none):rT X pins d b:=by
 refine⟨g,cP<|aE I.lt a,I.Ve a,.inr<|aV I.sz a,λx c e z=>?_,λp f z=>?_⟩
 ·obtain⟨v,q⟩:=I.cell x c e;exact absurd (aE q.lt (by rw[z];exact a)) (cx _)
 ·exact absurd (aE (Heap.lt_size (I.pin p f).1)<|by rw[z];exact a) (cx _)
structure Turn(P:jT)(w:jK)(K:jx)(tg:jB)(J:It)(fp:nN)(it:ja)(tn:Nat->jw->Prop):Prop where
 mem:it∈fp
 obj:∀i h,tn i h->∀b∈fp,∃o,h.get? b=some o/\∀v,o.data≠.cell v
 keep:∀i h h',tn i h->(∀b∈fp,∀o,h.get? b=some o->h'.get? b=some o)->tn i h'
 item:∀(X:Cx),X.prog=P->X.w=w->X.K=K->X.calm=true->∀(i:Nat) (pins:kX) (s:jr) (σ:St) (H:Hp) (E:ki),Inv X pins σ H s->(∀b∈fp,rT X pins H b)->tn i s.heap->J.go i H->
  wpAny (model P w) X.A (pyNext (.ref it)) (λr s1=>∃u,r=some u/\
   wpAny (model P w) X.A (letOwnedTupleGo tg (.ref it) u) (λ_ s2=>∃x H',Inv X pins σ H' s2/\RelV x u/\J.xI i H x H'/\tn (i+1) s2.heap/\∀b∈fp,H' b=none) E s1) E s
 done:∀(X:Cx),X.prog=P->X.w=w->X.K=K->X.calm=true->∀(i:Nat) (pins:kX) (s:jr) (σ:St) (H:Hp) (E:ki),Inv X pins σ H s->(∀b∈fp,rT X pins H b)->tn i s.heap->J.stop i H->
  wpAny (model P w) X.A (pyNext<|.ref it) (λr s1=>r=none/\Inv X pins σ H s1) E s
 self:∀(A:kh) (i:Nat) (s:jr) (Q:ki) (E:ki),tn i s.heap->Q (.ref it) s->wpAny (model P w) A (pyIter<|.ref it) Q E s
abbrev TI:=St->Hp->(It->Hp->Prop)->Prop
def PIE(X:Cx)(a:kX)(i:St)(j:jB)(R:It->Hp->Prop)(c:je)(f:jr):Prop:=
 ∃g h e J d,c=.ref g/\Inv X a i d f/\Turn X.prog X.w X.K j J h g e/\e 0 f.heap/\(∀b∈h,rT X a d b)/\R J d
def PI(X:Cx)(e b:jB)(d:TI):Prop:=
 ∀a s c H R,Inv X a c H s->d c H R->
  wpAny (model X.prog X.w) X.A (eval b X.env) (λv f=>wpAny (model X.prog X.w) X.A (pyIter v) (PIE X a c e R) X.xe f) X.xe s
def tS{s}{u o n}{Q}(b:s.heap.get? it=some o)(e:o.cls=.type n)(d:o.data=.fields vs)
 (c:["enumerate","zip","dict_itemiterator","dict_reverseitemiterator","odict_iterator","itertools.zip_longest","itertools.pairwise"].contains n=false)(a:Q () s):wpAny M A (letOwnedTupleGo tg (.ref it) u) Q E s:=by
  unfold letOwnedTupleGo
  cases tg<;>first
   |exact af a
   |(cases u<;>first
      |exact af a
      |(refine ae (wpAny_load b ?_)
        rw[e,d];show wpAny M A (if(["enumerate","zip","dict_itemiterator","dict_reverseitemiterator","odict_iterator","itertools.zip_longest","itertools.pairwise"].contains n&&vs[0]?==some (rawInt _))=true then _ else _) Q E s;rw[ax (by intro h;rw[c,Bool.false_and]at h;cases h)];exact af a))
def AB(K:jx)(a:ja):It:=
 ⟨λi H=>∃b x,lz K H a b/\b[i]?=some x,λi H x c=>c=H/\∀b,lz K H a b->b[i]?=some x,λi H=>∃b,lz K H a b/\b.length<=i⟩
def AD(K:jx)(a:ja):It:=
 ⟨λi H=>∃b x,mx K H a b/\b[i]?=some x,λi H x c=>c=H/\∀b,mx K H a b->b[i]?=some x,λi H=>∃b,mx K H a b/\b.length<=i⟩
def xY(lo:Int)(n:Nat):It:=⟨λi _=>i<n,λi H x a=>a=H/\x=.int (lo+i),λi _=>n<=i⟩
def abx{P}{w}{K}{Q}(a it):Turn P w K Q (AB K a) [it] it (λi h=>h.IsListIter it a i) where
 mem:=by simp
 obj:=λi h f b j=>by
  have e:b=it:=by simpa using j
  subst e;obtain⟨o,e,c,d⟩:=f;exact⟨o,e,λv z=>by rw[d]at z;cases z⟩
 keep:=λi h n f k=>f.at λo e=>k it (by simp) o e
 item:=by intro X B y C N i g s M H E I hf f A;subst B y C;obtain⟨O,x,m,t⟩:=A;obtain⟨r,q,p,T⟩:=I.list m;obtain⟨u,V,S⟩:=q.get t;obtain⟨L,J,W,G,F,D⟩:=hf it (by simp);refine wpAny_pyNext_list_item f p.isList (x:=u) (by simpa using V) λn l R=>?_;have Z:Inv X g M H {s with heap:=n}:=I.turned (t':=s.toks) (λb o j e=>(R.2 b j).trans e) L J G F D;obtain⟨o,e,c,d⟩:=id l;exact⟨u,rfl,tS (s:={s with heap:=n}) e c d (by decide) ⟨x,H,Z,S,⟨rfl,λys U=>by rw[I.TJ U m];exact t⟩,l,λb j=>(hf b j).1⟩⟩
 done:=by intro X B y C N i g s M H E I hf f A;subst B y C;obtain⟨O,m,t⟩:=A;obtain⟨r,q,p,T⟩:=I.list m;obtain⟨L,J,W,G,F,D⟩:=hf it (by simp);have hl:=q.length;exact wpAny_pyNext_list_end (I.ok.hd N) f p.isList (by simp;simp_all) λn Y=>⟨rfl,I.turned (t':=s.toks) (λb o j e=>Y b o j e) L J G F D⟩
 self:=λ_ _ _ _ _ f h=>wpAny_pyIter_listiter f h
def abz{P}{w}{K}{Q}(a it):Turn P w K Q (AD K a) [it] it (λi h=>h.IsTupleIter it a i) where
 mem:=by simp
 obj:=λi h f b l=>by
  have e:b=it:=by simpa using l
  subst e;obtain⟨o,e,c,d⟩:=f;exact⟨o,e,λv z=>by rw[d]at z;cases z⟩
 keep:=λi h q f k=>f.at λo e=>k it (by simp) o e
 item:=by intro X B y C N i g s M H E I hf f A;subst B y C;obtain⟨O,x,n,t⟩:=A;obtain⟨j,r,p,T⟩:=I.tuple n;obtain⟨u,V,S⟩:=r.get t;obtain⟨L,J,W,G,F,D⟩:=hf it (by simp);refine wpAny_pyNext_tuple_item f (show s.heap.IsTuple a j.toArray from p) (x:=u) (by simpa using V) λq m R=>?_;have Z:Inv X g M H {s with heap:=q}:=I.turned (t':=s.toks) (λb o l e=>(R.2 b l).trans e) L J G F D;obtain⟨o,e,c,d⟩:=id m;exact⟨u,rfl,tS (s:={s with heap:=q}) e c d (by decide) ⟨x,H,Z,S,⟨rfl,λys U=>by rw[I.abu U n];exact t⟩,m,λb l=>(hf b l).1⟩⟩
 done:=by intro X B y C N i g s M H E I hf f A;subst B y C;obtain⟨O,n,t⟩:=A;obtain⟨j,r,p,T⟩:=I.tuple n;obtain⟨L,J,W,G,F,D⟩:=hf it (by simp);have hl:=r.length;exact wpAny_pyNext_tuple_end (I.ok.hd N) f (show s.heap.IsTuple a j.toArray from p) (by simp;simp_all) λq Y=>⟨rfl,I.turned (t':=s.toks) (λb o l e=>Y b o l e) L J G F D⟩
 self:=λ_ _ _ _ _ f h=>wpAny_pyIter_tupleiter f h
def aby{P}{w}{K}{D}(it)(lo)(n):Turn P w K D (xY lo n) [it] it (λi h=>IsRangeIter h it (lo+(i:Nat)*1) ((n:Int) - (i:Nat)) 1) where
 mem:=by simp
 obj:=λi h a b d=>by
  have e:b=it:=by simpa using d
  subst e;exact⟨_,a,λv z=>by have C:Data.fields _=Data.cell v:=z;cases C⟩
 keep:=λi h g a k=>k it (by simp) _ a
 item:=by intro X p j q m i c s B H E I hf a l;subst p j q;obtain⟨A,y,G,x,u,r⟩:=hf it (by simp);have W:=Walks.range (prog:=X.prog) (w:=X.w) (I.ok.hd m) it lo 1 n;refine W.item i s _ _ l a λv g tk hv f F=>?_;obtain⟨t,rfl⟩:=hv;have L:Inv X c B H {s with heap:=g,toks:=tk}:=I.turned (λb o d e=>F b o (by simpa using d) e) A y x u r;refine⟨_,rfl,tS (s:={s with heap:=g,toks:=tk}) (n:="range_iterator") f rfl rfl (by decide) ⟨.int<|lo+i,H,L,⟨t,?_⟩,⟨rfl,rfl⟩,f,λb d=>(hf b d).1⟩⟩;rw[Int.mul_one]
 done:=by intro X p j q m i c s B H E I hf a l;subst p j q;obtain⟨A,y,G,x,u,r⟩:=hf it (by simp);exact wpAny_pyNext_range_end (I.ok.hd m) a (by have:n<=i:=l;lia) λg J=>⟨rfl,I.turned (t':=s.toks) (λb o d e=>J b o d e) A y x u r⟩
 self:=λ_ _ _ _ _ a h=>wpAny_pyIter_rangeiter a h
section
variable{X:Cx}{Y:jB}
def R9(K:jx)(e:TE):TI:=λc H R=>e c H λx b=>∃a,x=.ref a/\(∃d,lz K b a d)/\R (AB K a) b
def Sd(K:jx)(e:TE):TI:=λc H R=>e c H λx b=>∃a,x=.ref a/\(∃d,mx K b a d)/\R (AD K a) b
def KN{l:jB}{i}(t:PE X l i):PI X Y l (R9 X.K i):=by
 intro c s j H R I h;refine jC (t c s j H _ I h) λv d g=>?_;obtain⟨x,w,f,k,m⟩:=g;obtain⟨a,e,⟨y,r⟩,q⟩:=m;subst e;cases k;obtain⟨n,z,p,A⟩:=f.list r;refine dm p.isList ?_;refine⟨d.heap.objs.size,[d.heap.objs.size],_,_,w,rfl,f.kept (t':=d.toks) λb o e=>ah _ e,abx a _,⟨_,aD _ rfl,rfl,rfl⟩,λb u=>?_,q⟩;have e:b=d.heap.objs.size:=by simpa using u
 subst e;exact f.u0 (ai _) (f.hok.fresh<|ai _)
def Xr{l:jB}{j}(t:PE X l j):PI X Y l (Sd X.K j):=by
 intro d s k H R I h;refine jC (t d s k H _ I h) λv c i=>?_;obtain⟨x,w,f,m,n⟩:=i;obtain⟨a,e,⟨y,r⟩,q⟩:=n;subst e;cases m;obtain⟨g,z,p,A⟩:=f.tuple r;refine wpAny_pyIter_tuple (show c.heap.IsTuple a g.toArray from p) ?_;refine⟨c.heap.objs.size,[c.heap.objs.size],_,_,w,rfl,f.kept (t':=c.toks) λb o e=>ah _ e,abz a _,⟨_,aD _ rfl,rfl,rfl⟩,λb u=>?_,q⟩;have e:b=c.heap.objs.size:=by simpa using u
 subst e;exact f.u0 (ai _) (f.hok.fresh<|ai _)
def Y5{s}{R:It->Hp->Prop}{lo a}{t u v:Tok}{tk:Nat}(I:Inv X pins σ H s)(i: -(2^62)<=lo)(h:lo<2^62)(g: -(2^62)<=a)(f:a<2^62)
 (q:R (xY lo (a - lo).toNat) H):wpAny (model X.prog X.w) X.A (pyIter<|.ref s.heap.objs.size) (PIE X pins σ Y R) E {s with heap:=s.heap.push {cls:=.type "range",data:=.fields #[.int lo t,.int a u,.int 1 v]},toks:=tk}:=by
  refine wpAny_pyIter_range (IsRange.new ..) (small_one i h g f) ?_;have c:Inv X pins σ H {s with heap:=s.heap.push {cls:=.type "range",data:=.fields #[.int lo t,.int a u,.int 1 v]},toks:=tk}:=I.kept λb o e=>ah _ e
  refine⟨(s.heap.push {cls:=.type "range",data:=.fields #[.int lo t,.int a u,.int 1 v]}).objs.size,[(s.heap.push {cls:=.type "range",data:=.fields #[.int lo t,.int a u,.int 1 v]}).objs.size],_,_,H,rfl,
   c.kept (t':=tk) λb o e=>ah _ e,aby _ lo (a - lo).toNat,?_,λb d=>?_,q⟩
  ·have k:lo+((0:Nat):Int)*1=lo:=by simp
   have j:(((a - lo).toNat:Nat):Int) - ((0:Nat):Int)=Builtin.Range.rangeSize lo a 1:=by rw[rangeSize_one];split<;>grind
   rw[k,j];exact aD _ rfl
  ·have e:b=(s.heap.push {cls:=.type "range",data:=.fields #[.int lo t,.int a u,.int 1 v]}).objs.size:=by simpa using d
   subst e;exact c.u0 (ai _) (c.hok.fresh<|ai _)
def Sa(c:TA):TI:=λa H R=>c a H λb d=>∃j:Int,b=[.int j]/\ -(2^62)<=j/\j<2^62/\R (xY 0 j.toNat) d
def Xp(m:Gl X "range")(l:X.mg "range"=none)(n:PA X [a] ta)(k:starEach [a] X.env=[(false,eval a X.env)]):PI X Y (.Call (.Name "range" p) [a] [] pos) (Sa ta):=by
 intro b s d H R I h;refine Call_ (sJ I m l boot_range (d6 (jC (n pos b s d H _ I h) λv w ⟨u,x,o,g,c⟩=>?_) k rfl) (by decide)<|by decide);obtain⟨j,e,c,i,q⟩:=c;subst e;cases g with
 |cons r f=>cases f;obtain⟨t,rfl⟩:=r;exact call_range_1 (Y5 o (by simp) (by simp) c i<|by simpa using q)
def aa0(f:TI)(g:TG)(h:TS):TS:=λD a H=>f a H λJ k=>∃W:Nat->Nat->St->Hp->Prop,(∃m,W 0 m a k)/\∀i m a H,W i m a H->
 (J.stop i H/\D.nx a H)\/(J.go i H/\∃N:St->Hp->Prop,(∀b c,N b c->∃e,e<m/\W (i+1) e b c)/\∀x c,J.xI i H x c->g x a c λd j=>h {D with nx:=N,ct:=N,bk:=D.nx} d j)
def xj(a:nN)(h:jw):aa (ja×lE):=a.filterMap λb=>(h.get? b).map λo=>(b,o)
def zh{h:jw}{o}(a:b∈fp)(e:h.get? b=some o):(b,o)∈xj fp h:=bo.mpr ⟨b,a,by rw[e];rfl⟩
def Vt(a:p∈xj fp h):p.1∈fp/\h.get? p.1=some p.2:=by
 obtain⟨b,c,e⟩:=bo.mp a;cases q:h.get? b with
 |none=>simp_all
 |some o=>grind
def Inv.pinned{s}(I:Inv X pins σ H s)(hf:∀b∈fp,rT X pins H b)(g:∀b∈fp,∃o,s.heap.get? b=some o/\∀v,o.data≠.cell v):Inv X (pins++xj fp s.heap) σ H s:=
 I.KR λp f=>(aX.mp f).elim (λz=>I.pin p (bK _ z)) λz=>by obtain⟨a,e⟩:=Vt z;obtain⟨j,i,h,_⟩:=hf p.1 a;obtain⟨o,c,d⟩:=g p.1 a;rw[e]at c;cases c;exact⟨e,j,i,h,d⟩
def Inv.z9{pl s}(I:Inv X (pins++pl) σ H s):Inv X pins σ H s:=I.KR λp a=>I.pin p (bK _<|cS _ a)
def K2{g}(K:PassesOwn (model X.prog X.w) X.A X.env X.xe)(hc:X.calm=true)(hi:PI X Y iter wi)(hg:PG X Y g)(p:pj X body tb)
 (hs:∀x,foldedSetIterable iter X.env x=pure x):PS X (.For Y iter body [] pos) (aa0 wi g tb):=by
  intro c s Z H D I h;refine wpAny_For (jC (hi c s Z H _ I h) λv s1 h1=>jC h1 λSI s2 h2=>?_) hs;obtain⟨it,M,tn,J,H2,e,I2,T,Q,f2,W,⟨m0,w0⟩,C⟩:=h2;subst e
  have l:∀{y:Hp},(∀b∈M,y b=none)->∀b∈M,rT X c y b:=λhn b p=>⟨hn b p,(f2 b p).2⟩;refine codeAny_forLoop_any (λn s'=>∃i k y,Inv X c k y s'/\tn i s'.heap/\(∀b∈M,y b=none)/\W i n k y) ?_ m0 ⟨0,Z,H2,I2,Q,λb p=>(f2 b p).1,w0⟩
  rintro n s3 ⟨i,j,O,I3,F,L,w3⟩
  rcases C i n j O w3 with⟨E,qn⟩|⟨go,N,hN,step⟩
  ·refine dg K (jC (T.done X rfl rfl rfl hc i c s3 j O X.xe I3 (l L) F E) λr s4 ⟨S,I4⟩=>?_);subst S;exact f6 ⟨j,O,I4,qn⟩
  ·refine dg K (jC (T.item X rfl rfl rfl hc i c s3 j O X.xe I3 (l L) F go) λr s4 ⟨u,S,h4⟩=>?_);subst S;refine dg K (jC h4 λ_ s5 B=>?_);obtain⟨x,H5,I5,r5,y5,A,U⟩:=B;have V:=I5.pinned (l U) (T.obj _ _ A);refine dg K (jC (hg _ s5 j H5 x u _ V r5<|step x H5 y5) λ_ s6 B=>?_);obtain⟨P,H6,I6,q6⟩:=B;refine dg K (jC (p _ s6 P H6 _ I6 q6) λf R z=>?_);have q:∀{a:St} {w:Hp},Inv X (c++xj M s5.heap) a w R->N a w->∃m,m<n/\∃i k y,Inv X c k y R/\tn i R.heap/\(∀b∈M,y b=none)/\W i m k y:=λ{a w} t G=>by
    obtain⟨m',hm,w7⟩:=hN a w G;refine⟨m',hm,i+1,a,w,t.z9,T.keep _ _ _ A λb p o e=>(t.pin (b,o)<|bK _<|bK _<|zh p e).1,λb p=>?_,w7⟩;obtain⟨o,e,d⟩:=T.obj _ _ A b p;exact(t.pin (b,o)<|bK _<|bK _<|zh p e).2.1
   cases f with
   |next=>obtain⟨a,w,t,G⟩:=z;exact q t G
   |cont=>obtain⟨a,w,t,G⟩:=z;exact q t G
   |brk=>obtain⟨a,w,t,z⟩:=z;exact⟨a,w,t.z9,z⟩
   |ret v=>obtain⟨x7,a,w,t,r7,z⟩:=z;exact⟨x7,a,w,t.z9,r7,z⟩
abbrev R2:=V->V->Hp->VK->Prop
def kW(X:Cx)(f:je->je->Sem je)(r:R2):Prop:=
 ∀a s b H x y v u Q,Inv X a b H s->RelV x v->RelV y u->r x y H Q->
  wpAny (model X.prog X.w) X.A (f v u) (EP X a b Q) X.xe s
def yt(X:Cx)(f:je->Sem je)(r:V->Hp->VK->Prop):Prop:=
 ∀a s b H x v Q,Inv X a b H s->RelV x v->r x H Q->
  wpAny (model X.prog X.w) X.A (f v) (EP X a b Q) X.xe s
def mV(X:Cx)(f:je)(r:aa V->Hp->VK->Prop):Prop:=
 ∀a s b H c d Q,Inv X a b H s->Vals c d->r c H Q->
  wpAny (model X.prog X.w) X.A (call f d) (EP X a b Q) X.xe s
def M6(X:Cx)(r:V->Hp->(jk->Hp->Prop)->Prop):Prop:=
 ∀(a:kX) (s:jr) (σ:St) (H:Hp) (x:V) (v:je) (Q:sd),Inv X a σ H s->RelV x v->r x H Q->
  wpAny (model X.prog X.w) X.A (truthy v) (TP X a σ Q) X.xe s
def z6(r:R2)(c b:TE):TE:=λa H Q=>c a H λx e=>b a e λy d=>r x y d Q
def tUn(r:V->Hp->VK->Prop)(b:TE):TE:=λa H Q=>b a H λx c=>r x c Q
def rI(C:Int->Int->Prop)(g:Int->Int->V):R2:=λx y H Q=>∃i j,x=.int i/\y=.int j/\C i j/\Q (g i j) H
def rM(g:Int->Int->V):R2:=λx y H Q=>∃i j,x=.int i/\y=.int j/\Q (g i j) H
def rU(g:Int->V):V->Hp->VK->Prop:=λx H Q=>∃i,x=.int i/\Q (g i) H
variable{a b c:jB}{F L tc:TE}{O:Pos}
def Bw(o:PE X a F)(n:PE X b L){s}{R:V->V->Hp->Prop}(I:Inv X pins σ H s)
 (h:F σ H λx k=>L σ k λy i=>R x y i){f:je->je->Sem je}
 (hf:∀v u j x y i,Inv X pins σ i j->RelV x v->RelV y u->R x y i->wpAny (model X.prog X.w) X.A (f v u) Q X.xe j):
   wpAny (model X.prog X.w) X.A (eval a X.env) (λv g=>wpAny (model X.prog X.w) X.A (eval b X.env) (λu e=>wpAny (model X.prog X.w) X.A (f v u) Q X.xe e) X.xe g) X.xe s:=by
  refine jC (o pins s σ H _ I h) λv l d=>?_;obtain⟨x,k,p,r,m⟩:=d;refine jC (n pins l σ k _ p m) λu j d=>?_;obtain⟨y,i,w,q,t⟩:=d
  grind
def KD(j:kW X (binaryOp op) r)(l:PE X a F)(k:PE X b L):PE X (.BinOp a op b O) (z6 r F L):=by intro d s e H Q I h;exact wpAny_BinOp (Bw l k I h λv u f x y n m i g q=>j d f e n x y v u Q m i g q)
def Xh(j:yt X (unaryOp op) r)(k:PE X a F):PE X (.UnaryOp op a O) (tUn r F):=by intro d s e H Q I h;exact UnaryOp_ (jC (k d s e H _ I h) λv f ⟨x,m,l,g,i⟩=>j d f e m x v Q l g i)
def xc{f}{C}{g:Int->Int->Int}
 (d:∀(i j:Int) t u (s:jr) (Q:ki) E,C i j->Q (.int (g i j) s.toks) {s with toks:=s.toks+1}->wpAny (model X.prog X.w) X.A (f (.int i t)<|.int j u) Q E s):
   kW X f (rI C λi j=>.int<|g i j):=by
  intro e s o H x y v u Q I m l h;obtain⟨i,j,rfl,rfl,n,q⟩:=h;obtain⟨t,rfl⟩:=m;obtain⟨k,rfl⟩:=l;exact d i j t k s _ _ n ⟨.int<|g i j,H,I.tok _,⟨_,rfl⟩,q⟩
def Kk{f}{g:Int->Int->Int}
 (d:∀(i j:Int) t u (s:jr) Q E,Q (.int (g i j) s.toks) {s with toks:=s.toks+1}->wpAny (model X.prog X.w) X.A (f (.int i t)<|.int j u) Q E s):
   kW X f (rM λi j=>.int<|g i j):=by
  intro e s n H x y v u Q I m l h;obtain⟨i,j,rfl,rfl,q⟩:=h;obtain⟨t,rfl⟩:=m;obtain⟨k,rfl⟩:=l;exact d i j t k s _ _ ⟨.int<|g i j,H,I.tok _,⟨_,rfl⟩,q⟩
def zz{f}{g:Int->Int->jk}
 (d:∀(i j:Int) t u s Q E,Q (.bool<|g i j) s->wpAny (model X.prog X.w) X.A (f (.int i t)<|.int j u) Q E s):
   kW X f (rM λi j=>.bl<|g i j):=by
  intro e s n H x y v u Q I m l h;obtain⟨i,j,rfl,rfl,q⟩:=h;obtain⟨t,rfl⟩:=m;obtain⟨k,rfl⟩:=l;exact d i j t k s _ _ ⟨.bl<|g i j,H,I,rfl,q⟩
def MV(i j:Int):Prop:=0<=j/\j<=1000000/\i.natAbs<2^64
def Av(i j:Int):Prop:=(-(2^64)<i/\i<2^64)\/(-(2^64)<j/\j<2^64)
def Av.ok{i j:Int}(h:Av i j):IntMulOk i j:=by
 rcases h with⟨e,d⟩|⟨e,d⟩;·exact .of_left (intBits_le_64 e d)
 ·exact .of_right (intBits_le_64 e d)
def Vz:kW X (binaryOp .Add) (rM λi j=>.int<|i+j):=Kk λ_ _ _ _ _ _ _ q=>add_int q
def V6:kW X (binaryOp .Sub) (rM λi j=>.int<|i - j):=Kk λ_ _ _ _ _ _ _ q=>sub_int q
def VX:kW X (binaryOp .Mult) (rI Av λi j=>.int<|i*j):=xc λ_ _ _ _ _ _ _ d q=>mul_int q d.ok
def VW:kW X (binaryOp .Mod) (rI (λ_ j=>j≠0) λi j=>.int<|i.fmod j):=xc λ_ _ _ _ _ _ _ d q=>mod_int' d q
def V4:kW X (binaryOp .Pow) (rI MV λi j=>.int<|i^j.toNat):=xc λ_ _ _ _ _ _ _ d q=>pow_int_small d.1 d.2.1 d.2.2 q
def unI{f}{g:Int->Int}
 (d:∀(i:Int) t (s:jr) Q E,Q (.int (g i) s.toks) {s with toks:=s.toks+1}->wpAny (model X.prog X.w) X.A (f<|.int i t) Q E s):
   yt X f (rU λi=>.int<|g i):=by
  intro e s k H x v Q I j h;obtain⟨i,rfl,q⟩:=h;obtain⟨t,rfl⟩:=j;exact d i t s _ _ ⟨.int<|g i,H,I.tok _,⟨_,rfl⟩,q⟩
def abD:yt X (unaryOp .USub) (rU λi=>.int<|-i):=unI λ_ _ _ _ _ q=>neg_int q
noncomputable def Ez:V->V->jk
 |.non,.non=>true|.non,.int _=>true|.int _,.non=>true|.non,.bl _=>true|.bl _,.non=>true|.non,.str _=>true|.str _,.non=>true
 |.int _,.int _=>true|.bl _,.bl _=>true|.str _,.str _=>true|.oC _,.oC _=>true
 |.int _,.str _=>true|.str _,.int _=>true|.bl _,.str _=>true|.str _,.bl _=>true
 |_,_=>false
def YX:R2:=λx y H Q=>Ez x y=true/\Q (.bl<|decide<|x=y) H
def Y0:R2:=λx y H Q=>Ez x y=true/\Q (.bl<|!decide (x=y)) H
def Hk:decide (V.int i=V.int j)=(i==j):=by lia
def Hi:decide (V.bl i=V.bl j)=(i==j):=by lia
def Hl:decide (V.str i=V.str j)=(i==j):=by lia
def Hj:decide (V.oC i=V.oC j)=(i.toList==j.toList):=by rw[dh];simp
def kS{s}{Q}{k}(I:Inv X pins σ H s)(q:Q (.bl k) H)(e:k=k'):EP X pins σ Q (.bool k') s:=by subst e;exact⟨.bl k,H,I,rfl,q⟩
def VC:kW X (compareOp .Eq) YX:=by
 intro k s l H x y v u Q I g d h;obtain⟨f,q⟩:=h;cases x with
 |non=>
  cases g;cases y with
  |non=>cases d;exact PySem.EqNone.eq_none_none (kS I q<|by simp)
  |bl j=>cases d;exact PySem.EqNone.eq_none_bool (kS I q<|by simp)
  |int j=>obtain⟨e,rfl⟩:=d;exact PySem.EqNone.eq_none_int (kS I q<|by simp)
  |str j=>obtain⟨e,rfl⟩:=d;exact PySem.EqNone.eq_none_str (kS I q<|by simp)
  |_=>exact absurd (show false=true from f) ay
 |bl i=>
  cases g;cases y with
  |non=>cases d;exact PySem.EqNone.eq_bool_none (kS I q<|by simp)
  |bl j=>cases d;exact eq_bool (kS I q Hi)
  |str j=>obtain⟨e,rfl⟩:=d;exact PySem.EqMixed.eq_bool_str (kS I q<|by simp)
  |_=>exact absurd (show false=true from f) ay
 |int i=>
  obtain⟨t,rfl⟩:=g;cases y with
  |non=>cases d;exact PySem.EqNone.eq_int_none (kS I q<|by simp)
  |int j=>obtain⟨e,rfl⟩:=d;exact eq_int (kS I q Hk)
  |str j=>obtain⟨e,rfl⟩:=d;exact PySem.EqMixed.eq_int_str (kS I q<|by simp)
  |_=>exact absurd (show false=true from f) ay
 |str i=>
  obtain⟨t,rfl⟩:=g;cases y with
  |non=>cases d;exact PySem.EqNone.eq_str_none (kS I q<|by simp)
  |bl j=>cases d;exact PySem.EqMixed.eq_str_bool (kS I q<|by simp)
  |int j=>obtain⟨e,rfl⟩:=d;exact PySem.EqMixed.eq_str_int (kS I q<|by simp)
  |str j=>obtain⟨e,rfl⟩:=d;exact eq_str (kS I q Hl)
  |_=>exact absurd (show false=true from f) ay
 |oC i=>
  obtain⟨t,rfl⟩:=g;cases y with
  |oC j=>obtain⟨e,rfl⟩:=d;exact W.eq_bytes (kS I q Hj)
  |_=>exact absurd (show false=true from f) ay
 |_=>cases y<;>exact absurd (show false=true from f) ay
def V1:kW X (compareOp .NotEq) Y0:=by
 intro k s l H x y v u Q I g d h;obtain⟨f,q⟩:=h;cases x with
 |non=>
  cases g;cases y with
  |non=>cases d;exact PySem.EqNone.ne_none_none (kS I q<|by simp)
  |bl j=>cases d;exact PySem.EqNone.ne_none_bool (kS I q<|by simp)
  |int j=>obtain⟨e,rfl⟩:=d;exact PySem.EqNone.ne_none_int (kS I q<|by simp)
  |str j=>obtain⟨e,rfl⟩:=d;exact PySem.EqNone.ne_none_str (kS I q<|by simp)
  |_=>exact absurd (show false=true from f) ay
 |bl i=>
  cases g;cases y with
  |non=>cases d;exact PySem.EqNone.ne_bool_none (kS I q<|by simp)
  |bl j=>cases d;exact ne_bool (kS I q<|bN not Hi)
  |str j=>obtain⟨e,rfl⟩:=d;exact PySem.EqMixed.ne_bool_str (kS I q<|by simp)
  |_=>exact absurd (show false=true from f) ay
 |int i=>
  obtain⟨t,rfl⟩:=g;cases y with
  |non=>cases d;exact PySem.EqNone.ne_int_none (kS I q<|by simp)
  |int j=>obtain⟨e,rfl⟩:=d;exact ne_int (kS I q<|bN not Hk)
  |str j=>obtain⟨e,rfl⟩:=d;exact PySem.EqMixed.ne_int_str (kS I q<|by simp)
  |_=>exact absurd (show false=true from f) ay
 |str i=>
  obtain⟨t,rfl⟩:=g;cases y with
  |non=>cases d;exact PySem.EqNone.ne_str_none (kS I q<|by simp)
  |bl j=>cases d;exact PySem.EqMixed.ne_str_bool (kS I q<|by simp)
  |int j=>obtain⟨e,rfl⟩:=d;exact PySem.EqMixed.ne_str_int (kS I q<|by simp)
  |str j=>obtain⟨e,rfl⟩:=d;exact ne_str (kS I q<|bN not Hl)
  |_=>exact absurd (show false=true from f) ay
 |oC i=>
  obtain⟨t,rfl⟩:=g;cases y with
  |oC j=>obtain⟨e,rfl⟩:=d;exact W.ne_bytes (kS I q<|bN not Hj)
  |_=>exact absurd (show false=true from f) ay
 |_=>cases y<;>exact absurd (show false=true from f) ay
def VS:kW X (compareOp .Lt) (rM λi j=>.bl<|decide<|i<j):=zz λ_ _ _ _ _ _ _ q=>lt_int q
def VQ:kW X (compareOp .LtE) (rM λi j=>.bl<|decide<|i<=j):=zz λ_ _ _ _ _ _ _ q=>le_int q
def VI:kW X (compareOp .Gt) (rM λi j=>.bl<|decide<|j<i):=zz λ_ _ _ _ _ _ _ q=>ix q
def VG:kW X (compareOp .GtE) (rM λi j=>.bl<|decide<|j<=i):=zz λ_ _ _ _ _ _ _ q=>ge_int q
def VO:kW X (compareOp .In) (λx y H Q=>∃i j,x=.str i/\y=.str j/\Q (.bl<|!(Builtin.Str.occurrences j i 0 j.length 1).isEmpty) H):=by intro d s g H x y v u Q I f e h;obtain⟨i,j,rfl,rfl,q⟩:=h;obtain⟨t,rfl⟩:=f;obtain⟨k,rfl⟩:=e;exact in_str (kS I q rfl)
def VP:kW X (compareOp .Is) (λx y H Q=>y=.non/\Q (.bl<|decide<|x=.non) H):=by
 intro e s g H x y v u Q I d f h;obtain⟨rfl,q⟩:=h;cases f;refine is_none_gen (kS I q ?_)
 cases x<;>first
  |(cases d;rfl)
  |(obtain⟨t,rfl⟩:=d;rfl)
def V3:kW X (compareOp .IsNot) (λx y H Q=>y=.non/\Q (.bl<|!decide (x=.non)) H):=by
 intro e s g H x y v u Q I d f h;obtain⟨rfl,q⟩:=h;cases f;refine isnot_none_gen (kS I q ?_)
 cases x<;>first
  |(cases d;rfl)
  |(obtain⟨t,rfl⟩:=d;rfl)
def vi(b)(h:autoParam (op≠.In) aZ1)(f:autoParam (op≠.NotIn) aZ1):behindInMarks op b=false:=by
 have e:(op==CmpOp.In)=false:=by simp_all
 have d:(op==CmpOp.NotIn)=false:=by simp_all
 cases b<;>simp[behindInMarks,e,d]
def Ky(j:kW X (compareOp op) r)(m:PE X a F)(l:PE X b L)(k:behindInMarks op b=false):PE X (.Compare a [op] [b] O) (z6 r F L):=by intro d s e H Q I h;exact wpAny_Compare1 (Bw m l I h λv u f x y o n i g q=>j d f e o x y v u Q n i g q) k
def Me(t:TE):TT:=λd H Q=>t d H λx e=>∃k,x=.bl k/\Q k e
def zK(t:kW X (compareOp op) r)(B:PE X a F)(A:PE X b L)(w:behindInMarks op b=false):PT X (.Compare a [op] [b] O) (Me<|z6 r F L):=by intro d s g H Q I h;refine wpAny_isTrue_Compare1 (jC (B d s g H _ I h) λv j f=>?_) w;obtain⟨x,K,E,n,q⟩:=f;refine jC (A d j g K _ E q) λu i f=>?_;obtain⟨y,J,D,m,p⟩:=f;refine jC (t d i g J x y v u _ D n m p) λc M f=>?_;obtain⟨z,G,C,l,k,e,o⟩:=f;subst e;cases l;exact cH ⟨G,C,o⟩
def aaS(r g:R2)(F L tc:TE):TE:=λd H Q=>F d H λx j=>L d j λy i=>r x y i λz e=>∃k,z=.bl k/\
 (if k=true then tc d e λf h=>g y f h Q else Q (.bl false) e)
def XO(R:kW X (compareOp op) r)(j:kW X (compareOp xb) r')(V:PE X a F)(U:PE X b L)(T:PE X c tc)
 (S:lastMarks [op,xb] [b,c]=false):PT X (.Compare a [op,xb] [b,c] O) (Me<|aaS r r' F L tc):=by
  intro g s i H Q I h;refine isTrue_chain (jC (V g s i H _ I h) λv B f=>?_) S;obtain⟨x,H1,I1,G,N⟩:=f;refine test_link (jC (U g B i H1 _ I1 N) λu A f=>?_);obtain⟨y,H2,I2,l,M⟩:=f;refine jC (R g A i H2 x y v u _ I2 G l M) λd w f=>?_;obtain⟨z,o,n,E,k,e,m⟩:=f;subst e;cases E;refine cH ?_;cases k with
  |false=>obtain⟨k',Z,P⟩:=m;cases Z;exact ite_ff ⟨o,n,P⟩
  |true=>refine ite_tt (test_last<|jC (T g w i o _ n m) λq t f=>?_);obtain⟨p,H4,I4,D,K⟩:=f;refine jC (j g t i H4 y p u q _ I4 l D K) λd' s5 f=>?_;obtain⟨z2,H5,I5,C,k2,W,J⟩:=f;subst W;cases C;exact cH ⟨H5,I5,J⟩
def vV(K:jx)(x:V)(H:Hp)(k:jk):Prop:=
 match x with
 |.non=>k=false
 |.bl b=>k=b
 |.int i=>k=(i !=0)
 |.str y=>y.length<=sizeLine/\k=((y.length:Int)!=0)
 |.oC y=>y.size<=sizeLine/\k=((y.size:Int)!=0)
 |.ref p=>(∃d,lz K H p d/\k=!d.isEmpty)\/(∃d,mx K H p d/\k=!d.isEmpty)\/∃e,H p=some (.dK e)/\k=!e.isEmpty
 |_=>False
def Sw{d:aa<|κ×V}{e:aa<|κ×je}(r:KV d e):(!e.isEmpty)=!d.isEmpty:=by cases r<;>rfl
def IZ{e:aa V}{d:kL}(r:Vals e d):(!d.toArray.isEmpty)=!e.isEmpty:=by cases r<;>simp
def tX:(sizeLine:Nat)<2^63:=by rw[dq];decide
def ES:M6 X (λx H Q=>∃k,vV X.K x H k/\Q k H):=by
 intro w s C H x v Q I l h;obtain⟨k,e,q⟩:=h;have E:=tX;have D:sizeLine=16777216:=dq;cases x with
 |non=>cases l;have d:k=false:=e;subst d;exact truthy_none ⟨H,I,q⟩
 |bl b=>cases l;have d:k=b:=e;subst d;exact cH ⟨H,I,q⟩
 |int i=>obtain⟨t,rfl⟩:=l;have d:k=(i !=0):=e;subst d;exact PySem.P.truthy_int ⟨H,I,q⟩
 |str y=>obtain⟨t,rfl⟩:=l;obtain⟨A,d⟩:y.length<=sizeLine/\k=((y.length:Int)!=0):=e;subst d;exact PySem.P.truthy_str (by lia) ⟨H,I.tok _,q⟩
 |oC y=>obtain⟨t,rfl⟩:=l;obtain⟨A,d⟩:y.size<=sizeLine/\k=((y.size:Int)!=0):=e;subst d;exact W.truthy_bytes (by walk_at "l") ⟨H,I.tok _,q⟩
 |ref p=>
  cases l;have d:(∃j,lz X.K H p j/\k=!j.isEmpty)\/(∃j,mx X.K H p j/\k=!j.isEmpty)\/∃f,H p=some (.dK f)/\k=!f.isEmpty:=e;rcases d with⟨j,n,d⟩|⟨j,n,d⟩|⟨f,n,d⟩
  ·subst d;obtain⟨u,r,pl,z⟩:=I.list n;have g:=r.length;exact wpAny_truthy_list pl.isList (by simp only[aQ];omega) ⟨H,I.tok _,by rw[IZ r];exact q⟩
  ·subst d;obtain⟨u,r,pl,z⟩:=I.tuple n;have g:=r.length;exact truthy_tuple pl (by simp only[aQ];omega) ⟨H,I.tok _,by rw[IZ r];exact q⟩
  ·subst d;obtain⟨z,B,o,r,m⟩:f.length<=sizeLine/\(p==sysModules)=false/\∃o,KV f o/\s.heap.DictOf (kg X.prog X.w) p o:=I.hok p _ n;have g:f.length=o.length:=Paired.length r;exact wpAny_truthy_dict B m (by omega) ⟨H,I.tok _,by rw[Sw r];exact q⟩
 |_=>exact(show False from e).elim
def K9(n:PE X a F)(m:∀d,isTrue a X.env d=(do let v<-d;standAt a.pos;holding [v]<|truthy v)):
    PT X a (λf H Q=>F f H λx g=>∃k,vV X.K x g k/\Q k g):=by
 intro e s f H Q I h;exact isTrue_plain (jC (n e s f H _ I h) λv i ⟨x,p,o,j,l⟩=>ES e i f p x v Q o j l) (m _)
def VB:kW X (binaryOp .Add) (λx y H Q=>∃i j,x=.str i/\y=.str j/\i.length+j.length<=sizeLine/\Q (.str<|i++j) H):=by intro d s l H x y v u Q I g f h;obtain⟨i,j,rfl,rfl,k,q⟩:=h;obtain⟨t,rfl⟩:=g;obtain⟨e,rfl⟩:=f;exact add_str (λe tk=>⟨.str<|i++j,H,I.tok _,⟨_,rfl⟩,q⟩) k
def vals1(r:Vals [x] us):∃u,us=[u]/\RelV x u:=by
 cases r with
 |cons e d=>cases d;exact⟨_,rfl,e⟩
def vals2(r:Vals [x,y] us):∃u d,us=[u,d]/\RelV x u/\RelV y d:=by
 cases r with
 |cons h g=>
  cases g with
  |cons f e=>cases e;exact⟨_,_,rfl,h,f⟩
def Nz:mV X (.builtin "abs") (λd H Q=>∃i,d=[.int i]/\Q (.int<|if i<0 then -i else i) H):=by intro e s f H d g Q I r h;obtain⟨i,rfl,q⟩:=h;obtain⟨u,rfl,t,rfl⟩:=vals1 r;exact call_abs_int λu tk=>⟨.int<|if i<0 then -i else i,H,I.tok _,⟨_,rfl⟩,q⟩
def NL(g:X.calm=true):mV X (.builtin "max") (λe H Q=>∃i j,e=[.int i,.int j]/\Q (.int<|if j>i then j else i) H):=by
 intro f s l H e n Q I r h;obtain⟨i,j,rfl,q⟩:=h;obtain⟨u,m,rfl,⟨t,rfl⟩,⟨o,rfl⟩⟩:=vals2 r;refine max_two_ints (I.ok.hd g) λp tk k=>⟨_,H,I.kept k,?_,q⟩;by_cases d:j>i;·rw[au d,au d];exact⟨_,rfl⟩
 ·rw[ax d,ax d];exact⟨_,rfl⟩
def NN(g:X.calm=true):mV X (.builtin "min") (λe H Q=>∃i j,e=[.int i,.int j]/\Q (.int<|if j<i then j else i) H):=by
 intro f s l H e n Q I r h;obtain⟨i,j,rfl,q⟩:=h;obtain⟨u,m,rfl,⟨t,rfl⟩,⟨o,rfl⟩⟩:=vals2 r;refine min_two_ints (I.ok.hd g) λp tk k=>⟨_,H,I.kept k,?_,q⟩;by_cases d:j<i;·rw[au d,au d];exact⟨_,rfl⟩
 ·rw[ax d,ax d];exact⟨_,rfl⟩
structure sZ(h:jw)(x dx C:ja)(mA:kG):Prop where
 obj:h.get? x=some (W.instObj C dx)
 ns:h.Ns1 dx mA
 ne:dx≠x
def TU{h:jw}(n:h.Ns1 dx mA):∃g,h.get? dx=some g/\∀d,W.lookIn d g=some (mA d):=by
 obtain⟨o,i,s,k,p,m,_,l⟩:=n;refine⟨o,k,λd=>?_⟩;have e:=l d;unfold nsFind findBy at e;rw[<-Array.find?_toList]at e;unfold W.lookIn;rw[p];dsimp only;split
 ·rename_i y q;rw[q]at e;exact bN some e
 ·rename_i q;rw[q]at e;have a:i.toList.any (·.refKey)=false:=by
   rw[b9];intro y j;obtain⟨z,t,f⟩:=m y (iH.mp j);simp[DictEntry.refKey,f]
  have r:¬i.toList.any (·.refKey)=true:=by rw[a];exact ay
  rw[ax r];exact bN some e
def sZ.look(I:sZ h x dx C mA):∃e,W.InstAt h x (W.instObj C dx) C (some e)/\∀d,W.lookIn d e=some (mA d):=
 let⟨e,f,g⟩:=TU I.ns
 ⟨e,⟨I.obj,rfl,rfl,f⟩,g⟩
variable{M:jT}{w:jK}{A:kh}{E:ki}{s:jr}{K:jx}{x S C f:ja}{U:kG}{B:jd}{v:je}
def get_map{Q}(X:K.In s.heap)(I:sZ s.heap x S C U)(i:W.plainGet K C B=true)(g:W.hasDictIn K C=true)
 (j:W.findIn K (.ref C) B=some none)(hv:U B=some v)(d:W.handedIn v=true)(h:Q v {s with toks:=s.toks+1}):
   wpAny (model M w) A (getAttr (.ref x) B expr) Q E s:=by
  obtain⟨k,J,e⟩:=I.look;exact W.get_value X J (W.plainGet_of i).1 (W.findObj_own g j rfl<|by rw[e,hv]) d h
def Qj{pl}{Q}(X:K.In s.heap)(I:sZ s.heap x S C U)(d:W.plainGet K C B=true)
 (hf:W.findIn K (.ref C) B=some (some<|.ref f))(g:W.isFn K (.ref f)=true)(hv:U B=none)(h:Q (.ref f,[.ref x]) s):
   wpAny (model M w) A (getMethod (.ref x) B pl) Q E s:=by
  obtain⟨e,J,i⟩:=I.look;exact W.method_fn X J (W.plainGet_of d).1 (W.plainGet_of d).2 hf (ee.mp g) (by show(W.lookIn B e).map (·.isSome)=some false;rw[i,hv];rfl) h
def aai{Q}(X:K.In s.heap)(I:sZ s.heap x S C U)
 (q:W.findIn K (.ref C) "__setattr__"=some (some<|.builtin "object.__setattr__"))(t:W.plainOver K C=true)(o:W.takerIn K C B=some none)(u:W.hasDictIn K C=true)
 (n:PySem.Within U ns)(p:ns.length<=sizeLine)
 (h:∀g,sZ g x S C (λy=>if y=B then some v else U y)->Heap.SameBut S s.heap g->Q () {s with heap:=g,toks:=s.toks+2}):
   wpAny (model M w) A (setAttr (.ref x) B v) Q E s:=by
  obtain⟨H,J,P⟩:=I.look;refine W.set_plain X J q (W.osa_open (s:={s with toks:=s.toks+1}) (r:=none) X J t o λb=>?_);obtain⟨R,z,k⟩:=W.any_some u;have m:s.heap.get? x=some ⟨.ref C,some S,.plain,#[]⟩:=I.obj;refine ae (af<|ae<|ae<|wpAny_loadPart m<|ae<|W.Looks.here (s:={s with toks:=s.toks+1}) (W.looks_clsIn X z) ?_);rw[k];refine af (a:=some S) (ae<|af<|ae ?_);refine wpAny_nsSet1 (s:={s with toks:=s.toks+1}) I.ns λg e d=>?_;obtain⟨N,D,G,i,j,l⟩:=e.count (PySem.Within.cons B v n);refine ae (wpAny_lookBehind i (by rw[j];exact pastItsLine_dict (aV l (by rw[aw];walk_at "l"))) ?_);exact af (h _ ⟨(d.2 _<|bV I.ne).trans I.obj,e,I.ne⟩ d)
def UL{R}(X:K.In s.heap)(i:W.makesIn K C=true)
 (j:W.findIn K (.ref C) "__init__"=some (some<|.ref f))(hf:W.typeIn K (.ref f)=some (.type "function"))
 (h:codeAny (model M w) (A.under (.builtin "type.__call__" ⟨.ref C::vs,kw⟩)) (.call (.ref f) ⟨.ref (s.heap.objs.size+1)::vs,kw⟩) (W.InitBack (s.heap.objs.size+1) R)
 {s with heap:=(s.heap.push W.emptyDict).push (W.instObj C s.heap.objs.size)}):
   codeAny (model M w) A (.call (.ref C) ⟨vs,kw⟩) R s:=by
  obtain⟨l,g,d,t,k⟩:=s;exact W.make_core (W.makes_of X i) (W.looks_findIn X j) (λe=>W.bind_fn X e hf) (.inl rfl) h
end
def mu(f:jd)(v:V):aa (jd×V)->aa (jd×V)
 |[]=>[(f,v)]
 |(g,x)::r=>if g=f then(g,v)::r else(g,x)::mu f v r
theorem JC(f g v):∀fs:aa (jd×V),(mu f v fs).lookup g=if g=f then some v else fs.lookup g
 |[]=>by
  show List.lookup g [(f,v)]=_;by_cases h:g=f
  ·have a:(g==f)=true:=ee.mpr h;simp only[List.lookup,a,au h]
  ·have a:(g==f)=false:=dJ.mpr h;simp only[List.lookup,a,ax h]
 |(k,x)::r=>by
  have c:=JC f g v r;rw[show mu f v ((k,x)::r)=(if k=f then(k,v)::r else(k,x)::mu f v r)from rfl];by_cases b:k=f
  ·rw[au b];by_cases h:g=k
   ·have a:(g==k)=true:=ee.mpr h;simp only[List.lookup,a,au<|h.trans b]
   ·have a:(g==k)=false:=dJ.mpr h;simp only[List.lookup,a,ax (λe:g=f=>h<|e.trans b.symm)]
  ·rw[ax b];by_cases h:g=k
   ·have a:(g==k)=true:=ee.mpr h;simp only[List.lookup,a,ax (λe:g=f=>b<|h.symm.trans e)]
   ·have a:(g==k)=false:=dJ.mpr h;simp only[List.lookup,a];exact c
theorem Ds(f v):∀fs:aa (jd×V),f∈(mu f v fs).map (·.1)/\∀g,g∈fs.map (·.1)->g∈(mu f v fs).map (·.1)
 |[]=>⟨by simp[mu],λg h=>by simp at h⟩
 |(k,x)::r=>by
  obtain⟨c,b⟩:=Ds f v r;rw[show mu f v ((k,x)::r)=(if k=f then(k,v)::r else(k,x)::mu f v r)from rfl];by_cases a:k=f
  ·rw[au a];subst a;exact⟨by simp,λg h=>by simpa using h⟩
  ·rw[ax a];refine⟨?_,λg h=>?_⟩
   ·rw[aW];exact bf _ c
   ·rw[aW]at h⊢;rcases az.mp h with e|e;·exact az.mpr (.inl e)
    ·exact bf _ (b g e)
theorem Jy(f v):∀fs:aa (jd×V),(mu f v fs).length<=fs.length+1
 |[]=>by simp[mu]
 |(k,x)::r=>by
  have b:=Jy f v r;rw[show mu f v ((k,x)::r)=(if k=f then(k,v)::r else(k,x)::mu f v r)from rfl];by_cases a:k=f;·rw[au a,aw,aw];simp
  ·rw[ax a,aw,aw];walk_at "l"
def mY.some_of{o}(r:mY (some v) o):∃u,o=some u/\RelV v u:=by
 cases o with
 |none=>exact(show False from r).elim
 |some u=>exact⟨u,rfl,r⟩
def mY.none_of{o}(r:mY none o):o=none:=by
 cases o with
 |none=>rfl
 |some u=>exact(show False from r).elim
def Q0{u}(r:RelV v u):W.handedIn u=true:=by
 cases v with
 |non=>cases(show u=Value.none from r);rfl
 |bl b=>cases(show u=Value.bool b from r);rfl
 |int i=>obtain⟨t,e⟩:=(show∃t,u=Value.int i t from r);cases e;rfl
 |str x=>obtain⟨t,e⟩:=(show∃t,u=Value.str x t from r);cases e;rfl
 |oC b=>obtain⟨t,e⟩:=(show∃t,u=Value.bytes b t from r);cases e;rfl
 |flt b=>obtain⟨t,e⟩:=(show∃t,u=Value.float b t from r);cases e;rfl
 |ref a=>cases(show u=Value.ref a from r);rfl
 |ty n=>cases(show u=Value.type n from r);rfl
section
variable{P:jT}{w:jK}{H j:Hp}{h i:jw}{a C b:ja}{fs c:aa<|jd×V}
def C9(k:kU P w H h)(e:H a=some (.ins C b fs)):∃g,sZ h a b C g/\(∀f,mY (fs.lookup f) (g f))/\PySem.Within g (fs.map (·.1))/\fs.length<=1000/\H b=some (.own a):=by obtain⟨d,z,ne,ob,g,n,r,q⟩:=(show kQ P w H h a (.ins C b fs)from k a _ e);exact⟨g,⟨ob,n,ne⟩,r,q,z,d⟩
end
structure pe(K:jx)(C:ja):Prop where
 pg:W.plainGet K C Str.empty=true
 hd:W.hasDictIn K C=true
 po:W.plainOver K C=true
 sa:W.findIn K (.ref C) "__setattr__"=some (some<|.builtin "object.__setattr__")
def pe.get{K:jx}{C:ja}(c:pe K C)(f:jd):W.plainGet K C f=true:=c.pg
def qH(K:jx)(C:ja)(f:jd):Prop:=W.findIn K (.ref C) f=some none
def qH.abj{K}{C}{f}(n:qH K C f):W.takerIn K C f=some none:=by unfold W.takerIn;rw[show W.findIn K (.ref C) f=some none from n];rfl
structure Meth(K:jx)(C:ja)(m:jd)(f:ja):Prop where
 at_:W.findIn K (.ref C) m=some (some<|.ref f)
 fn:W.isFn K (.ref f)=true
 kp:W.keepIn K (.ref f)=true
section
variable{X:Cx}{i:kX}{j:St}{H:Hp}{s:jr}{a C F:ja}{fs:aa<|jd×V}{f:jd}{v:V}{A:kh}{E:ki}
def Qk{Q:ki}(I:Inv X i j H s)(e:H a=some (.ins C F fs))(c:pe X.K C)(n:qH X.K C f)(l:fs.lookup f=some v)
 (h:∀u d,Inv X i j H d->RelV v u->Q u d):wpAny (model X.prog X.w) A (getAttr (.ref a) f b) Q E s:=by obtain⟨k,O,r,_,_,_⟩:=C9 I.hok e;obtain⟨u,m,g⟩:=mY.some_of (v:=v) (o:=k f) (by rw[<-l];exact r f);exact get_map I.mm O (c.get f) c.hd n m (Q0 g) (h u _ (I.tok _) g)
def Ql{g pl}{Q}(I:Inv X i j H s)(e:H a=some (.ins C F fs))(c:pe X.K C)(k:Meth X.K C m g)(l:fs.lookup m=none)
 (h:Q (.ref g,[.ref a]) s):wpAny (model X.prog X.w) A (getMethod (.ref a) m pl) Q E s:=by obtain⟨b,O,r,_,_,_⟩:=C9 I.hok e;have d:b m=none:=mY.none_of (by rw[<-l];exact r m);exact Qj I.mm O (c.get m) k.at_ k.fn d h
def aaj{u}{Q:uN}(I:Inv X i j H s)(e:H a=some (.ins C F fs))(c:pe X.K C)(n:qH X.K C f)(M:fs.length<1000)(w:RelV y u)
 (h:∀l,Inv X i j (upd H a<|.ins C F<|mu f y fs) l->Q () l):wpAny (model X.prog X.w) A (setAttr (.ref a) f u) Q E s:=by
  obtain⟨m,O,r,k,_,p⟩:=C9 I.hok e;have B:(fs.map (·.1)).length<=sizeLine:=by rw[ao,dq];walk_at "l"
  refine aai I.mm O c.sa c.po n.abj c.hd k B λK d t=>h _ ?_;have G:∃o,K.get? F=some o:=let⟨o,_,_,L,_⟩:=d.ns;⟨o,L⟩;refine I.write (x:=a) (e:=F) (by rw[e];exact True.intro) (.inr p) (λb q J z=>(t.2 b J).trans z) G ?_;refine⟨by rw[jL O.ne];exact p,?_,O.ne,d.obj,_,d.ns,λg=>?_,λg D=>?_⟩;·have:=Jy f y fs;walk_at "l"
  ·show mY ((mu f y fs).lookup g) (if g=f then some u else m g);rw[JC];by_cases q:g=f;·rw[au q,au q];exact w
   ·rw[ax q,ax q];exact r g
  ·by_cases q:g=f;·rw[q];exact(Ds f y fs).1
   ·refine(Ds f y fs).2 g (k g λz=>D ?_);show(if g=f then some u else m g)=none;rw[ax q];exact z
def Inv.made(I:Inv X i j H s):Inv X i j (upd (upd H s.heap.objs.size<|.own<|s.heap.objs.size+1) (s.heap.objs.size+1)<|.ins C s.heap.objs.size [])
    {s with heap:=(s.heap.push W.emptyDict).push (W.instObj C s.heap.objs.size)}:=by
 have c:(s.heap.push W.emptyDict).get? s.heap.objs.size=some W.emptyDict:=aD s.heap rfl;have k:((s.heap.push W.emptyDict).push (W.instObj C s.heap.objs.size)).get? (s.heap.objs.size+1)=some (W.instObj C s.heap.objs.size):=by
  have:=aD (s.heap.push W.emptyDict) (o:=W.instObj C s.heap.objs.size) rfl
  rwa [cy]at this
 have h:(s.heap.push W.emptyDict).Ns s.heap.objs.size (λ_=>none):=⟨W.emptyDict,#[],_,c,rfl,(λe g=>absurd g<|by simp),λ_=>rfl⟩;have l:=I.laid (a:=s.heap.objs.size) (o:=.own<|s.heap.objs.size+1) (h':=s.heap.push W.emptyDict) (t':=s.toks) (λb u q=>ah _ q) (ai _) ⟨_,c⟩;refine l.laid (a:=s.heap.objs.size+1) (o:=.ins C s.heap.objs.size []) (t':=s.toks) (λb u q=>ah _ q) (gg<|cy _ _) ?_;have ne:s.heap.objs.size≠s.heap.objs.size+1:=aU (bH _);refine⟨by rw[jL ne,kK],bQ _,ne,k,λ_=>none,(Heap.Ns1.of_empty h).at λo q=>ah _ q,λ_=>True.intro,λy d=>absurd rfl d⟩
def Nr{w s}(c:attributeBase e f env (eval e env)=eval e env)
 (h:wpAny (model prog w) A (eval e env) (λo b=>wpAny (model prog w) A (getAttr o f true) Q E b) E s):wpAny (model prog w) A (eval (.Attribute e f pos) env) Q E s:=
  Attribute_any_ h (by rw[arm_eval_Attribute,c])
def aaZ(K:jx)(c:TE)(f:jd):TE:=λj H Q=>c j H λx b=>∃a C F fs v,x=.ref a/\b a=some (.ins C F fs)/\pe K C/\qH K C f/\fs.lookup f=some v/\Q v b
def ZP(K:jx)(d c:TE)(f:jd):TS:=λD j H=>c j H λy e=>d j e λx b=>∃a C F fs,x=.ref a/\b a=some (.ins C F fs)/\pe K C/\qH K C f/\fs.length<1000/\
 D.nx j (upd b a<|.ins C F<|mu f y fs)
variable{o e B:jB}{J M U:Pos}{L S:TE}
def W2(k:PE X e L)(m:attributeBase e f X.env (eval e X.env)=eval e X.env):PE X (.Attribute e f J) (aaZ X.K L f):=by intro i s j H Q I h;refine Nr m (jC (k i s j H _ I h) λu D b=>?_);obtain⟨x,w,t,d,a,C,F,fs,v,ex,p,c,n,l,q⟩:=b;subst ex;obtain rfl:u=Value.ref a:=d;exact Qk t p c n l λy z r g=>⟨v,w,r,g,q⟩
def XJ(t:PE X o L)(hv:PE X B S)(r:swapsWith B (some<|.Attribute o f M) J.line X.env=pure false):PS X (.Assign [.Attribute o f M] B J) (ZP X.K L S f):=by intro i s j H D I h;refine plainObj_wpAny_Assign_Attribute (jC (hv i s j H _ I h) λu d b=>?_) r;obtain⟨y,N,K,g,q⟩:=b;refine jC (t i d j N _ K q) λp P b=>?_;obtain⟨x,Q,G,k,a,C,F,fs,ex,w,c,n,l,m⟩:=b;subst ex;obtain rfl:p=Value.ref a:=k;exact aaj G w c n l g λO z=>⟨j,_,z,m⟩
end
structure kN(k:Nat)(A:kh):Prop where
 hd:A.handled=none
 dp:A.depth+3*k+5<recursionLimit
 un:A.units+16*k+200<cLine
def kN.mono{k}(r:kN k A)(h:j<=k):kN j A:=⟨r.hd,by have:=r.dp;lia,by have:=r.un;lia⟩
def kN.deeper{k}(r:kN (k+1) A)(env):kN k (A.deeper env):=
 ⟨r.hd,by have:=r.dp;show A.depth+1+3*k+5<_;lia,by have:=r.un;show A.units+3+16*k+200<_;lia⟩
def UJ{A:kh}:(A.under<|.builtin "type.__call__" ⟨.ref C::us,kw⟩).depth=A.depth+1:=by rfl
def UM{A:kh}:(A.under<|.builtin "type.__call__" ⟨.ref C::us,kw⟩).units=A.units+1:=by rfl
def kN.make{k}(r:kN (k+1) A)(C us kw):kN k (A.under<|.builtin "type.__call__" ⟨.ref C::us,kw⟩):=
 ⟨r.hd,by have:=r.dp;rw[UJ];lia,by have:=r.un;rw[UM];lia⟩
def kN.depth{k}(r:kN k A):A.depth<recursionLimit:=by have:=r.dp;lia
def kN.units{k}(r:kN k A):A.units+64<cLine:=by have:=r.un;lia
def z5:TA:=λ_ H Q=>Q [] H
def zY(d:TE)(c:TA):TA:=λa H Q=>d a H λx f=>c a f λb e=>Q (x::b) e
section
variable{X:Cx}{e:jB}{m:lr}{y:TE}{t:TA}{c:Pos}
def sQ:PA X [] z5:=λ_ _ _ _ H Q I h=>fj ⟨[],H,I,.nil,h⟩
def sP(p:PE X e y)(o:PA X m t)(n:X.se e m):PA X (e::m) (zY y t):=by intro c a s d H Q I h;rw[n];show wpAny _ _ (spliced<|(false,eval e X.env)::backTo c (starEach m X.env)) _ _ s;refine dU (jC (p a s d H _ I h) λu g b=>?_);obtain⟨x,w,r,j,l⟩:=b;exact jC (o c a g d w _ r l) λz A ⟨f,v,q,i,k⟩=>⟨x::f,v,q,.cons j i,k⟩
def abe(t:TA):TE:=λd H Q=>t d H λa b=>a.length<=sizeLine/\∀p,b p=none->Q (.ref p) (upd b p<|.tup a)
def aa2(t:TA):TE:=λd H Q=>t d H λa b=>a.length<=sizeLine/\∀p,b p=none->Q (.ref p) (upd b p<|.lst a)
def Ef{l}(h:PA X m t):PE X (.Tuple m l c) (abe t):=by intro a s j H Q I o;refine wpAny_Tuple_spliced (jC (h c a s j H _ I o) λn d f=>?_);obtain⟨k,i,g,r,z,q⟩:=f;refine⟨by rw[<-r.length];exact z,?_⟩;have hf:i d.heap.objs.size=none:=g.hok.fresh (ai _);refine⟨.ref d.heap.objs.size,upd i d.heap.objs.size<|.tup k,g.laid (t':=d.toks) (λb u e=>ah _ e) (ai _) ?_,rfl,q _ hf⟩;exact⟨z,n,r,⟨_,aD _ rfl,rfl,_,rfl⟩⟩
def W6(h:PA X m t):PE X (.List m c) (aa2 t):=by intro a s j H Q I n;refine wpAny_List_spliced (jC (h c a s j H _ I n) λl d f=>?_);obtain⟨k,i,g,r,z,q⟩:=f;refine⟨by rw[<-r.length];exact z,?_⟩;have hf:i d.heap.objs.size=none:=g.hok.fresh (ai _);refine⟨.ref d.heap.objs.size,upd i d.heap.objs.size<|.lst k,g.laid (t':=d.toks) (λb u e=>ah _ e) (ai _) ?_,rfl,q _ hf⟩;exact⟨z,l,0,r,aD _ rfl⟩
abbrev Sp:=aa V->Hp->VK->XK->Prop
abbrev qB:=aa Env->Hp->jr->XK->ki
structure sX(P:jT)(w:jK)(K:jx)(mg:kG)(base:jw)(A:kh)(outer:my)(s:jr)(H:Hp):Prop where
 frames:A.frames=some outer
 mod:Mod K mg base
 bs:∀b o,base.get? b=some o->s.heap.get? b=some o/\H b=none
 tN:base.objs.size<=s.heap.objs.size
 pE:s.heap.FunFrames base outer
 wB:∀b∈frs outer,H b=none
 hok:kU P w H s.heap
 bare:AllBare s.gens
def CE(a:my)(P:jT)(w:jK)(H:Hp)(s:jr)(Q:VK)(u:je)(b:jr):Prop:=
 ∃v d,b.os=s.os/\AllBare b.gens/\Un (frs a) [] H d s.heap b.heap/\kU P w d b.heap/\RelV v u/\Q v d
def CR(d:qB)(a:my)(P:jT)(w:jK)(H:Hp)(s:jr)(Q:VK)(E:XK)(r:Result)(b:jr):Prop:=
 match r with
 |.ok (.ret u)=>CE a P w H s Q u b
 |.ok _=>False
 |.error e=>d a H s E e b
structure mf(P:jT)(w:jK)(K:jx)(mg:kG)(base:jw)(CX:qB)(k:Nat)(f:ja)(fd:nu)(ps:jS)(sp:Sp):Prop where
 len:∀vs H Q E,sp vs H Q E->vs.length=ps.length
 run:∀A outer s H args us vs Q E,kN k A->sX P w K mg base A outer s H->BindsTo s fd args (ps.zip us)->Vals vs us->sp vs H Q E->
  codeAny (model P w) A (.call (.ref f) args) (CR CX outer P w H s Q E) s
def mf.mono{P}{w}{K}{l}{a}{o}{k}{f}{n}{i}{g}(F:mf P w K l a o j f n i g)(h:j<=k):
    mf P w K l a o k f n i g:=⟨F.len,λA b s H d q p Q E r=>F.run A b s H d q p Q E<|r.mono h⟩
def mf.imp{P}{w}{K}{l}{a}{o}{k}{f}{n}{j}{i}(F:mf P w K l a o k f n j i)
 (h:∀d H Q E,sp' d H Q E->i d H Q E):mf P w K l a o k f n j sp':=
  ⟨λd H Q E q=>F.len d H Q E<|h _ _ _ _ q,λA b s H g p d Q E u v x hv r=>F.run A b s H g p d Q E u v x hv<|h _ _ _ _ r⟩
def sX.make{P}{w}{K}{b:kG}{a}{A}{s}{H}(e:sX P w K b a A outer s H)(C)(us)(kw):
    sX P w K b a (A.under<|.builtin "type.__call__" ⟨.ref C::us,kw⟩) outer s H:=⟨by first|exact e.frames|(simpa [Around.under,Code.envs,Code.isFrame,pushEnvs]using e.frames),e.mod,e.bs,e.tN,e.pE,e.wB,e.hok,e.bare⟩
variable{a:kX}{i:St}{H:Hp}{s l:jr}
def Inv.HG(I:Inv X a i H s):sX X.prog X.w X.K X.mg X.base X.A X.stack s H:=
 ⟨I.ok.frames,I.ok.mod,I.bs,aV I.ok.tN I.sz,I.stack,I.EI,I.hok,I.bare⟩
def Inv.after{u}(I:Inv X a i H s)(h:CE X.stack X.prog X.w H s Q u l):EP X a i Q u l:=by obtain⟨v,p,n,f,un,k,r,q⟩:=h;obtain⟨o,g,d,t,j⟩:=l;obtain rfl:j=s.os:=n;exact⟨v,p,I.call (h':=o) (g':=g) (d':=d) (t':=t) (ch:=[]) un k f<|λb z=>absurd z<|by simp,r,q⟩
end
def Mc(d:Sp)(a:aa V)(E:XK)(t:TA):TE:=λb H Q=>t b H λc e=>d (c++a) e Q E
def aa4(C:ja)(m:jd)(g:Sp)(b:aa V)(E:XK)(f:TE)(t:TA):TE:=λc H Q=>f c H λx d=>∃a h fs,x=.ref a/\d a=some (.ins C h fs)/\fs.lookup m=none/\
 t c d λe i=>g (x::(e++b)) i Q E
def aa3(C:ja)(f:Sp)(b:aa V)(E:XK)(t:TA):TE:=λd H Q=>t d H λe c=>∀x a,c x=none->c a=none->a≠x->
 f (.ref x::(e++b)) (upd (upd c a<|.own x) x<|.ins C a []) (λv g=>v=.non/\Q (.ref x) g) E
def Binds(K:jx)(c:nu)(a:jS)(b:kL):Prop:=
 ∀(s:jr) us,K.In s.heap->(us++b).length=a.length->BindsTo s c ⟨us,[]⟩ (a.zip<|us++b)
def Binds.all{K:jx}{d:nu}{b:jS}(h:∀a:aa je,a.length=b.length->bindArgs d ⟨a,[]⟩=pure (b.zip a)):Binds K d b []:=λs a _ c=>by rw[bz]at c⊢;exact .of_eq (h a c)
def Passes(d:qB)(X:Cx)(E:XK):Prop:=∀a c H s e b,Inv X a c H s->d X.stack H s E e b->X.xe e b
section
variable{X:Cx}{O:qB}{k:Nat}{f C:ja}{L:nu}{z:jS}{J:Sp}{i:aa V}{j:kL}{E:XK}{x m:jd}{p b B:Pos}{e o:jB}{y:lr}{S:TE}{t:TA}
def LG{s}(F:mf X.prog X.w X.K X.mg X.base O k f L z J)(l:kN k X.A)(v:Binds X.K L z j)(q:Vals i j)(g:Passes O X E)
 (I:Inv X pins σ H s)(r:Vals vs us)(h:J (vs++i) H Q E):wpAny (model X.prog X.w) X.A (call (.ref f) us) (EP X pins σ Q) X.xe s:=by
  have c:Vals (vs++i) (us++j):=r.append q;have n:(us++j).length=z.length:=by rw[<-c.length];exact F.len _ _ _ _ h
  refine wpAny_call (fm (F.run X.A X.stack s H ⟨us,[]⟩ (us++j) (vs++i) Q E l I.HG (v s us I.mm n) c h) λr d a=>?_);cases r with
  |error e=>exact g pins σ H s e d I a
  |ok w=>
   cases w with
   |ret u=>exact I.after a
   |next=>exact False.elim a
   |brk=>exact False.elim a
   |cont=>exact False.elim a
def WT(F:mf X.prog X.w X.K X.mg X.base O k f L z J)(v:kN k X.A)(D:Gl X x)(w:X.mg x=some (.ref f))(A:W.keepIn X.K (.ref f)=true)(M:Binds X.K L z j)(K:Vals i j)(u:Passes O X E)
 (N:PA X (e::y) t)(g:mq x)(G:X.se e y)(d:X.bk b y):
   PE X (.Call (.Name x p) (e::y) [] b) (Mc J i E t):=by
  intro a s n H Q I h;refine cz (Du I D w ?_ g);refine W.callWith_K (h₀:=X.base) I.ok.mod.wM A (jC (N b a s n H _ I h) λR T c=>?_) G d;obtain⟨P,U,l,r,q⟩:=c;refine⟨l.mm,?_⟩;exact LG F v M K u l r q
def W8{pl}(Y:PE X o S)(c:pe X.K C)(D:Meth X.K C m f)(F:mf X.prog X.w X.K X.mg X.base O k f L z J)(U:kN k X.A)(hb:Binds X.K L z j)(Z:Vals i j)(R:Passes O X E)(ha:PA X (e::y) t)
 (n:autoParam (X.se e y) aZ0)(v:autoParam (X.bk b y) aZ0)
 (T:autoParam (eval (.Call (.Attribute o m B) (e::y) [] b) X.env=(do
 let A<-eval o X.env
 standAt B.atName
 let(f,first)<-holding [A] (getMethod A m pl)
 callWith b f first (backTo b (starEach (e::y) X.env)) (backToKw b (keywordEach [] X.env)))) aZ0):
  PE X (.Call (.Attribute o m B) (e::y) [] b) (aa4 C m J i E S t):=by
  intro d s w H Q I h;refine W.methodCall_KW (pl:=pl) (jC (Y d s w H _ I h) λu M g=>?_) T;obtain⟨x,H1,K,N,a,dx,fs,ex,ea,l,q⟩:=g;subst ex;obtain rfl:u=Value.ref a:=N;refine Ql K ea c D l ?_;refine W.callWith_K (first:=[.ref a]) (h₀:=X.base) I.ok.mod.wM D.kp (jC (ha b d M w H1 _ K q) λus s2 g=>?_) n v;obtain⟨vs,H2,G,r,P⟩:=g;refine⟨G.mm,?_⟩;exact LG (us:=.ref a::us) (vs:=.ref a::vs) F U hb Z R G (.cons rfl r) P
structure Mk(K:jx)(C f:ja):Prop where
 makes:W.makesIn K C=true
 init:W.findIn K (.ref C) "__init__"=some (some<|.ref f)
 fn:W.isFn K (.ref f)=true
 kp:W.keepIn K (.ref C)=true
def ZJ{s}{Q}(M:Mk X.K C f)(F:mf X.prog X.w X.K X.mg X.base O k f L z J)(D:kN (k+1) X.A)(N:Binds X.K L z j)(K:Vals i j)
 (A:Passes O X E)(I:Inv X pins σ H s)(r:Vals vs us)
 (h:∀x c,H x=none->H c=none->c≠x->J (.ref x::(vs++i)) (upd (upd H c<|.own x) x<|.ins C c []) (λv U=>v=.non/\Q (.ref x) U) E):
   wpAny (model X.prog X.w) X.A (call (.ref C) us) (EP X pins σ Q) X.xe s:=by
  have l:=h (s.heap.objs.size+1) s.heap.objs.size (I.hok.fresh<|c6 _) (I.hok.fresh<|ai _) (aU<|bH _);have d:=Inv.made (C:=C) I;have g:Vals (V.ref (s.heap.objs.size+1)::(vs++i)) (Value.ref (s.heap.objs.size+1)::(us++j)):=.cons rfl (r.append K);have G:(Value.ref (s.heap.objs.size+1)::us++j).length=z.length:=by have e:=g.length;rw[F.len _ _ _ _ l]at e;exact e.symm
  refine wpAny_call (UL (f:=f) I.mm M.makes M.init (ee.mp M.fn) (fm (F.run _ X.stack _ _ ⟨Value.ref (s.heap.objs.size+1)::us,[]⟩ (Value.ref (s.heap.objs.size+1)::(us++j)) _ _ E (D.make C us [])
   (d.HG.make C us []) (N _ (Value.ref (s.heap.objs.size+1)::us) d.mm G) g l) λr n a=>?_))
  cases r with
  |error e=>exact A pins σ _ _ e n d a
  |ok P=>
   cases P with
   |ret u=>obtain⟨v,W,T,q,R,w⟩:=d.after a;subst R;exact⟨q,⟨V.ref<|s.heap.objs.size+1,W,T,rfl,w⟩⟩
   |next=>exact False.elim a
   |brk=>exact False.elim a
   |cont=>exact False.elim a
def W7(M:Mk X.K C f)(F:mf X.prog X.w X.K X.mg X.base O k f L z J)(v:kN (k+1) X.A)(A:Gl X x)(w:X.mg x=some (.ref C))(K:Binds X.K L z j)(G:Vals i j)(u:Passes O X E)
 (N:PA X (e::y) t)(g:autoParam (mq x) aZ1)(D:autoParam (X.se e y) aZ0)(d:autoParam (X.bk b y) aZ0):
   PE X (.Call (.Name x p) (e::y) [] b) (aa3 C J i E t):=by
  intro a s n H Q I h;refine cz (Du I A w ?_ g);refine W.callWith_K (h₀:=X.base) I.ok.mod.wM M.kp (jC (N b a s n H _ I h) λR T c=>?_) D d;obtain⟨P,U,l,r,q⟩:=c;refine⟨l.mm,?_⟩;exact ZJ M F v K G u l r q
end
structure sY(N P:jS)(sc:Scope):Prop where
 kind:sc.kind=.function
 co:sc.isCoroutine=false
 gen:sc.isGenerator=false
 nd:N.Nodup
 pre:N.take P.length=P
 par:∀x∈P,sc.names.lookup x=some .local\/sc.names.lookup x=some .cell
 Vd:∀y∈sc.names,y.2≠.free
theorem GA{a}{x}:∀{binds:aa<|jd×je} {m:kG},(∀v,(x,v)∉binds)->bindL a binds m x=m x
 |[],_,_=>rfl
 |(n,v)::r,m,h=>by
  unfold bindL;rw[GA λw b=>h w<|bf _ b];split
  ·have:x≠n:=by rintro rfl;exact h v bY
   simp[this]
  ·rfl
theorem Gy{a}{x}:∀{binds:aa<|jd×je} {m:kG},(∀v,(x,v)∉binds)->bindC a binds m x=m x
 |[],_,_=>rfl
 |(n,v)::r,m,h=>by
  unfold bindC;rw[Gy λw b=>h w<|bf _ b];split;·rfl
  ·have:x≠n:=by rintro rfl;exact h v bY
   simp[this]
theorem Gz{a:jd->jm NameKind}{x:jd}{v:je}:∀{P:jS} {b:kL} {i:Nat} {m:kG},P.Nodup->P[i]?=some x->b[i]?=some v->a x=some .local->
 bindL a (P.zip b) m x=some v
 |[],_,_,_,_,h,_,_=>by simp at h
 |_::_,[],_,_,_,_,h,_=>by simp at h
 |p::P,w::b,0,m,nd,d,c,e=>by simp at d c;subst d;subst c;show bindL a ((p,w)::P.zip b) m p=_;unfold bindL;rw[GA λv hv=>(bL.mp nd).1 (iq hv).1,au e];simp
 |p::P,w::b,i+1,m,nd,d,c,e=>by show bindL a ((p,w)::P.zip b) m x=_;unfold bindL;exact Gz (i:=i) (bL.mp nd).2 (by simpa using d) (by simpa using c) e
theorem Gx{a:jd->jm NameKind}{x:jd}{v:je}:∀{P:jS} {b:kL} {i:Nat} {m:kG},P.Nodup->P[i]?=some x->b[i]?=some v->a x≠some .local->
 bindC a (P.zip b) m x=some v
 |[],_,_,_,_,h,_,_=>by simp at h
 |_::_,[],_,_,_,_,h,_=>by simp at h
 |p::P,w::b,0,m,nd,d,c,e=>by simp at d c;subst d;subst c;show bindC a ((p,w)::P.zip b) m p=_;unfold bindC;rw[Gy λv hv=>(bL.mp nd).1 (iq hv).1,ax e];simp
 |p::P,w::b,i+1,m,nd,d,c,e=>by show bindC a ((p,w)::P.zip b) m x=_;unfold bindC;exact Gx (i:=i) (bL.mp nd).2 (by simpa using d) (by simpa using c) e
def start(N:jS)(a:aa V):St:=a.map some++List.replicate (N.length - a.length) none
def kR(g:qB)(P:jT)(w:jK)(K:jx)(mg:kG)(base:jw)(N:jS)(b:jd)(a:Scope)(f:ja)(d:je)(A:kh)(outer:my)(s:jr)(H:Hp)(E:XK):Cx where
 prog:=P
 w:=w
 K:=K
 mg:=mg
 base:=base
 A:=A.deeper (envOfC b a s.heap.objs.size f d)
 N:=N
 s₀:=s
 H₀:=H
 env:=envOfC b a s.heap.objs.size f d
 outer:=outer
 stack:=envOfC b a s.heap.objs.size f d::outer
 ex:=[]
 calm:=true
 fn:=λ_=>true
 pn:=[]
 xe:=λe h=>wpAny (model P w) (A.deeper<|envOfC b a s.heap.objs.size f d) (leaving (envOfC b a s.heap.objs.size f d) e) (λ_ c=>g outer H s E e c) (λi c=>g outer H s E i c) h
def GZ{sc:Scope}{n}(h:sc.names.lookup x=some .cell):∃c,(cellsFrom n sc.names []).lookup x=some c:=by have q:=W.cellsFrom_some sc.names n [] (.inl h);exact eR.mp q
def Sn{U:qB}{P:jT}{w:jK}{K:jx}{O:kG}{m:jw}{N B:jS}{j:jd}{d:Scope}{f:ja}{L:je}{A:kh}{g:my}{s Q:jr}{H:Hp}{E:XK}{M:kL}{t:aa V}
    (S:sY N B d)(Z:A.handled=none)(o:sX P w K O m A g s H)(hl:t.length=B.length)(r:Vals t M)
    (x:InCallC s s.heap.objs.size (bindL (envOfC j d s.heap.objs.size f L).kindOf (B.zip M) λ_=>none) (cellsFrom (s.heap.objs.size+1) d.names []) (bindC (envOfC j d s.heap.objs.size f L).kindOf (B.zip M) λ_=>none) Q):
    Inv (kR U P w K O m N j d f L A g s H E) [] (start N t) H Q:=by
 have Y:B.length<=N.length:=by have:=bN List.length S.pre;rw[c7]at this;lia
 obtain⟨J,tk,rfl,T⟩:=x.done;have C:∀b:ja,b∉(kR U P w K O m N j d f L A g s H E).ex:=λb z=>absurd (show b∈([]:aa ja)from z) (by simp)
 refine⟨⟨o.mod,S.kind,rfl,rfl,ai _,λy z c J l=>?_,λy D=>?_,λy c _ h=>?_,λ_=>Z,Around.frames_deeper o.frames,.inr ⟨rfl,rfl⟩,λb z=>absurd z (C b),o.bs,o.tN,λb _ _=>C b,λb z=>absurd z (C b),o.pE,o.wB⟩,
  rfl,o.bare,Un.kept T,⟨_,x.toInCall.ns,λi y v J l h3=>?_⟩,λy c h=>⟨_,x.cell y c h⟩,o.hok.fresh (ai _),λy c h=>?_,λp G=>absurd (show p∈([]:aa (ja×lE))from G) (by simp),o.hok.kept T,?_⟩
 ·exact name_of_addr x.apart (bO J) (bO l)
 ·have D:d.names.lookup y=some .cell\/d.names.lookup y=some .free:=D;rcases D with D|D;·exact GZ D
  ·exact absurd rfl (S.Vd _<|bO D)
 ·exact dS (x.above y c<|bO h)
 ·have I:i<t.length:=by
   unfold start at l;by_cases I:i<t.length;·exact I
   ·rw[aN<|by simpa using I]at l;rw[b8]at l;split at l<;>cases l
  have ha:t[i]?=some v:=by
   unfold start at l;rw[aA<|by simpa using I,aH]at l;cases e:t[i]? with
   |none=>rw[e]at l;cases l
   |some a=>rw[e]at l;cases l;rfl
  obtain⟨u,R,X⟩:=r.get ha;have G:B[i]?=some y:=by rw[<-S.pre,List.getElem?_take_of_lt<|by simp_all];exact J
  have F:B.Nodup:=by rw[<-S.pre];exact S.nd.sublist (List.take_sublist _ _)
  refine⟨u,X,?_⟩;rcases S.par y (bp G)with k|k;·exact .inl ⟨k,Gz F G R k⟩
  ·obtain⟨c,e⟩:=GZ (n:=s.heap.objs.size+1) k;refine .inr ⟨.inl k,c,e,?_⟩;have q:=x.cell y c e;rw[Gx F G R (by show d.names.lookup y≠_;rw[k];decide)]at q;exact q
 ·exact o.hok.fresh (dS<|x.above y c<|bO h)
 ·unfold start;show _=N.length;rw[aq,ao,df];simp_all
def HU{w}{K}{k dV kV}
 {p}(R:K.lookup f=some ⟨oc,od,.func<|W.fnOf name qual params body scope dV kV doc pm an cdv ct,osl⟩)(F:W.codeIn K cdv qual=true)(S:sY N ps scope)
 (len:∀c H Q E,p c H Q E->c.length=ps.length)
 (h:∀(A:kh) outer (s:jr) H c Q E,kN k (A.deeper (envOfC qual scope s.heap.objs.size f cdv))->p c H Q E->
 ∃t,pj (kR CX P w K mg base N qual scope f cdv A outer s H E) body t/\t {nx:=λ_ d=>Q .non d,rt:=Q} (start N c) H):
   mf P w K mg base CX (k+1) f (W.fnOf name qual params body scope dV kV doc pm an cdv ct) ps p:=by
  refine⟨len,λA outer s H L O c Q E D m hb r j=>?_⟩;have Y:=len _ _ _ _ j;have M:K.In s.heap:=m.mod.wM.keeps λb o e=>(m.bs b o e).1;have C:s.heap.NoLimit:=m.mod.nolimit.keeps λb o e=>(m.bs b o e).1;have g:∀y∈ps.zip O,scope.names.lookup y.1=some .local\/(scope.names.lookup y.1=some .cell/\((cellsFrom (s.heap.objs.size+1) scope.names []).lookup y.1).isSome=true):=λ⟨n,v⟩ T=>by
   rcases S.par n (iq T).1 with q|q;·exact .inl q
   ·exact .inr ⟨q,W.cellsFrom_some _ _ _<|.inl q⟩
  refine codeAny_call_function D.depth (M _ _ R) rfl S.co S.gen rfl (W.codeRec_of M F) (hb _ _ _ _ ?_);refine wpAny_newFunctionEnv_cells S.kind g λenv Z G x=>?_;subst Z;refine⟨C.keeps x.toInCall.keep,codeAny_func ?_⟩;obtain⟨t,U,X⟩:=h A outer s H c Q E (D.deeper _) j;have I:Inv (kR CX P w K mg base N qual scope f cdv A outer s H E) [] (start N c) H G:=Sn S D.hd m Y r x;refine bC (U [] G (start N c) H _ I X) (λfl z i=>?_) λe z i=>i
  have l:∀{a:St} {d:Hp} {v:V} {u:je},Inv (kR CX P w K mg base N qual scope f cdv A outer s H E) [] a d z->RelV v u->Q v d->CE outer P w H s Q u z:=
   λ{a d v u} J B q=>⟨v,d,J.os,J.bare,J.base,J.hok,B,q⟩
  cases fl with
  |ret u=>obtain⟨v,a,d,J,B,q⟩:=i;exact l J B q
  |next=>obtain⟨a,d,J,q⟩:=i;exact l (v:=V.non) (u:=Value.none) J rfl q
  |brk=>obtain⟨_,_,_,q⟩:=i;exact False.elim q
  |cont=>obtain⟨_,_,_,q⟩:=i;exact False.elim q
variable{X:Cx}{x:jd}{p pos:Pos}{e:jB}{es:lr}{t:TA}{id T:String}{r:aa V->Hp->VK->Prop}
def Mb(r:aa V->Hp->VK->Prop)(t:TA):TE:=λa H Q=>t a H λb c=>r b c Q
def WU(q:mV X (.builtin id) r)(n:Gl X x)(m:X.mg x=none)(hv:bootBuiltins x=some (.builtin id))(u:PA X (e::es) t)(l:x≠"__name__")(c:mq x)
 (o:X.se e es)(b:X.bk pos es):PE X (.Call (.Name x p) (e::es) [] pos) (Mb r t):=by intro a s d H Q I h;refine cz (sJ I n m hv ?_ l c);exact dO (jC (u pos a s d H _ I h) λg i ⟨f,w,v,j,k⟩=>q a i d w f g Q v j k) o b
def WV(q:mV X (.type T) r)(n:Gl X x)(m:X.mg x=none)(hv:bootBuiltins x=some (.type T))(u:PA X (e::es) t)(l:x≠"__name__")(c:mq x)
 (o:X.se e es)(b:X.bk pos es):PE X (.Call (.Name x p) (e::es) [] pos) (Mb r t):=by intro a s d H Q I h;refine cz (sJ I n m hv ?_ l c);exact d6 (jC (u pos a s d H _ I h) λg i ⟨f,w,v,j,k⟩=>q a i d w f g Q v j k) o b
end L2
namespace HT
open PySem PyProof.Rows
variable{a:jT}{w:jK}{A:kh}{E:ki}{s:jr}
def j3(n d:Nat):jm Int->Nat
 |none=>d
 |some v=>if v<0 then(v+(n:Int)).toNat else min v.toNat n
def ZQ(n d)(b:d<=n)(o):j3 n d o<=n:=by
 cases o with
 |none=>exact b
 |some v=>
  show(if v<0 then(v+(n:Int)).toNat else min v.toNat n)<=n;by_cases hv:v<0;·rw[au hv];lia
  ·rw[ax hv];exact Nat.min_le_right _ _
def G2(v)(n d:Nat):(if v<0 then max (v+(n:Int)) 0 else min v (n:Int))=((j3 n d<|some v:Nat):Int):=by
 show(if v<0 then max (v+(n:Int)) 0 else min v (n:Int))=(((if v<0 then(v+(n:Int)).toNat else min v.toNat n):Nat):Int);by_cases hv:v<0;·simp only[au hv];simp
 ·simp only[ax hv];grind
def Nf(lo b:jm Int)(n:Nat):Builtin.Slice.sliceAdjust lo b 1 (n:Int)=(((j3 n 0 lo:Nat):Int),((j3 n n b:Nat):Int)):=by
 have c:¬((1:Int)<0):=by simp
 unfold Builtin.Slice.sliceAdjust;simp only[c,bT];refine Prod.ext ?_ ?_
 ·cases lo with
  |none=>rfl
  |some v=>exact G2 v n 0
 ·cases b with
  |none=>rfl
  |some v=>exact G2 v n n
def XA(i j:Nat):Builtin.Slice.slicePlaces (i:Int) (j:Int) 1=j - i:=by
 unfold Builtin.Slice.slicePlaces;have b:(1:Int)>0:=by simp
 simp only[b,cQ,Int.ediv_one];split<;>simp_all
def LP{o}{Q:jm Int->jr->Prop}(p:IsPart v o)(h:Q o s):wpAny (model a w) A (Builtin.Slice.slicePartIndex v) Q E s:=by
 cases p with
 |none=>exact slicePart_none h
 |int i t=>exact slicePart_int h
def aaq{lo n}{Q:Int×Int×Nat->jr->Prop}(e:s.heap.IsSliceOf sl vl vu .none)(pl:IsPart vl lo)(d:IsPart vu hi)
 (h:Q (((j3 n 0 lo:Nat):Int),1,j3 n n hi - j3 n 0 lo) s):wpAny (model a w) A (Builtin.Slice.sliceApplied (.ref sl) (pure (n:Int))) Q E s:=by obtain⟨g,b,f,c⟩:=id e;unfold Builtin.Slice.sliceApplied Builtin.Slice.sliceFields;refine ae (ae<|ez b c (x:=vl) rfl<|ae<|ez b c (x:=vu) rfl<|ae<|ez b c (x:=.none) rfl<|af ?_);refine ae (slicePart_none ?_);show wpAny _ _ (if((1:Int)==0)=true then _ else _) _ _ s;rw[ax<|by decide];refine ae (LP pl<|ae<|LP d<|ae<|af ?_);show wpAny _ _ (match Builtin.Slice.sliceAdjust lo hi 1 (n:Int)with|(lo,hi)=>pure (lo,(1:Int),Builtin.Slice.slicePlaces lo hi 1)) _ _ s;rw[Nf lo hi n];show wpAny _ _ (pure (((j3 n 0 lo:Nat):Int),(1:Int),Builtin.Slice.slicePlaces ((j3 n 0 lo:Nat):Int) ((j3 n n hi:Nat):Int) 1)) _ _ s;rw[XA];exact af h
def Xs(b:tr)(i k:Nat):((List.range k).filterMap λ(m:Nat)=>b[((i:Int)+(m:Int)*1).toNat]?).toArray=((b.toList.drop i).take k).toArray:=by
 have e:(λ(m:Nat)=>b[((i:Int)+(m:Int)*1).toNat]?)=λm=>b[i+m]?:=by
  funext m;have:((i:Int)+(m:Int)*1).toNat=i+m:=by walk_at "l"
  rw[this]
 rw[e];have:=pick_run b i k;rw[List.filterMap_map]at this;have c:((λx=>b[x]?)∘λx=>i+x)=λm=>b[i+m]?:=rfl;rw[c]at this;rw[this]
def Qi{t}{lo c}{Q}(d:IsTup s.heap t items)(j:s.heap.IsSliceOf sl vl vu .none)(pl:IsPart vl lo)(k:IsPart vu c)
 (n:¬(j3 items.size 0 lo=0/\j3 items.size items.size c=items.size))
 (h:Q (.ref s.heap.objs.size) {s with heap:=s.heap.push {cls:=.type "tuple",data:=.seq ((items.toList.drop<|j3 items.size 0 lo).take (j3 items.size items.size c - j3 items.size 0 lo)).toArray}})
 (o:items.size<=sizeLine):wpAny (model a w) A (getItem (.ref t)<|.ref sl) Q E s:=by
  have b:sizeOk (.seq ((items.toList.drop<|j3 items.size 0 lo).take (j3 items.size items.size c - j3 items.size 0 lo)).toArray):=by show((items.toList.drop<|j3 items.size 0 lo).take (j3 items.size items.size c - j3 items.size 0 lo)).toArray.size<=sizeLine;rw[aQ,c7,c9,aG];omega
  have v:j3 items.size items.size c<=items.size:=ZQ _ _ (ai _) c;obtain⟨l,e,g,p⟩:=id j;have i:s.TypeIs (.ref sl) "slice":=⟨l,e,g⟩;unfold getItem;try with_reducible refine bI ?_
  first|refine ae (af ?_)|skip
  refine ae (wpAny_sequenceKey d.typeIs (by decide) ?_)
  refine ae (bR (name:=Str.ofString "__getitem__") d.typeIs fK
   (bB fK d.typeIs entry_tuple_getitem ?_ (args_tuple_getitem _ _)))
  show wpAny _ _ (Builtin.Tuple.tupleItemsOf (.ref t)>>=_) _ _ s;refine ae (tupleItemsOf_ d ?_);refine ae (eG i ?_);rw[au<|by decide];refine ae (aaq j pl k ?_);have f:¬((((j3 items.size 0 lo:Nat):Int)==0&&(1:Int)==1&&(j3 items.size items.size c - j3 items.size 0 lo)==items.size)=true):=by intro q;rw[aK,aK]at q;have u:((j3 items.size 0 lo:Nat):Int)=0:=eq_of_beq q.1.1;have r:j3 items.size items.size c - j3 items.size 0 lo=items.size:=eq_of_beq q.2;exact n ⟨by simp_all,by simp_all⟩
  show wpAny _ _ (if(((j3 items.size 0 lo:Nat):Int)==0&&(1:Int)==1&&(j3 items.size items.size c - j3 items.size 0 lo)==items.size)=true then _ else _) _ _ s;rw[ax f,Xs]
  first
   |exact ae (m:=Builtin.Tuple.tupleExact _) (a9 (af ⟨_,rfl,af h⟩) b)
   |exact ae (m:=Builtin.Tuple.tupleExact _) (a9 (ae<|af<|af ⟨_,rfl,af h⟩) b)
   |exact ae (ae (m:=Builtin.Tuple.tupleExact _)<|a9 (af<|af ⟨_,rfl,af h⟩) b)
   |exact ae (ae (m:=Builtin.Tuple.tupleExact _)<|a9 (af ⟨_,rfl,af h⟩) b)
end HT
namespace L2
open PySem PySem.Spec PyProof.Rows
abbrev TO:=St->Hp->(jm Int->Hp->Prop)->Prop
def PO(X:Cx)(e:jm jB)(t:TO):Prop:=
 ∀a s b H Q,Inv X a b H s->t b H Q->
  wpAny (model X.prog X.w) X.A (evalPart e X.env) (λu d=>∃o c,Inv X a b c d/\IsPart u o/\Q o c) X.xe s
def aa9(t:TE):TO:=λa H Q=>t a H λx b=>∃i,x=.int i/\Q (some i) b
section
variable{X:Cx}{e:jB}{j:TE}{lo c:jm jB}{m y:TO}{z B:Pos}
def XC(h:PE X e j):PO X (some e) (aa9 j):=by intro a s d H Q I k;rw[evalPart_some];refine jC (h a s d H _ I k) λu o b=>?_;obtain⟨x,n,l,f,g⟩:=b;obtain⟨i,rfl,q⟩:=g;obtain⟨t,rfl⟩:=f;exact⟨some i,n,l,.int i t,q⟩
def rh(X:Cx)(r:V->jm Int->jm Int->Hp->VK->Prop):Prop:=
 ∀a s b H x v f d lo c g Q,Inv X a b H s->RelV x v->s.heap.IsSliceOf g f d .none->IsPart f lo->IsPart d c->r x lo c H Q->
  ∃T h,typeLookup (.type T) "__getitem__"=pure (some<|.builtin h)/\s.TypeIs v T/\wpAny (model X.prog X.w) X.A (getItem v<|.ref g) (EP X a b Q) X.xe s
def rh.or{r k:V->jm Int->jm Int->Hp->VK->Prop}(h:rh X r)(o:rh X k):rh X (λx lo c H Q=>r x lo c H Q\/k x lo c H Q):=by
 intro a s b H x v f d lo c g Q I i n pl l q;rcases q with q|q;·exact h a s b H x v f d lo c g Q I i n pl l q
 ·exact o a s b H x v f d lo c g Q I i n pl l q
def tSl(r:V->jm Int->jm Int->Hp->VK->Prop)(j:TE)(m y:TO):TE:=λa H Q=>j a H λx f=>m a f λl d=>y a d λu b=>r x l u b Q
def Xb(G:rh X r)(L:PE X e j)(J:PO X lo m)(E:PO X c y):PE X (.Subscript e (.Slice lo c none B) z) (tSl r j m y):=by intro a s g H Q I h;refine Subscript_ (jC (L a s g H _ I h) λv p d=>?_);obtain⟨x,S,P,t,C⟩:=d;refine wpAny_Slice (jC (J a p g S _ P C) λk o d=>?_);obtain⟨l,R,O,pl,A⟩:=d;refine jC (E a o g R _ O A) λi f d=>?_;obtain⟨u,n,N,D,w⟩:=d;rw[evalPart_none];refine af ?_;have M:Inv X a g n {f with heap:=f.heap.push {cls:=.type "slice",data:=.fields #[k,i,.none]}}:=N.kept (t':=f.toks) λb ob q=>ah _ q;obtain⟨T,U,hT,F,K⟩:=G a {f with heap:=f.heap.push {cls:=.type "slice",data:=.fields #[k,i,.none]}} g n x v k i l u f.heap.objs.size Q M t (Heap.IsSliceOf.new ..) pl D w;show wpAny (model X.prog X.w) X.A (subscriptTail e (.Slice lo c none B) v<|.ref f.heap.objs.size) (EP X a g Q) X.xe {f with heap:=f.heap.push {cls:=.type "slice",data:=.fields #[k,i,.none]}};exact tail_any (ops:=[.ref f.heap.objs.size,v]) F hT K (by with_unfolding_all rfl)
def sr(a:aa V)(lo c:jm Int):aa V:=(a.drop<|HT.j3 a.length 0 lo).take (HT.j3 a.length a.length c - HT.j3 a.length 0 lo)
def Hc(xs lo c):(sr xs lo c).length<=xs.length:=by
 unfold sr;rw[c7,c9]
 lia
def Y4(K:jx):V->jm Int->jm Int->Hp->VK->Prop:=λx lo c H Q=>∃a b,x=.ref a/\mx K H a b/\
 ¬(HT.j3 b.length 0 lo=0/\HT.j3 b.length b.length c=b.length)/\∀p,H p=none->Q (.ref p) (upd H p<|.tup<|sr b lo c)
def aap:rh X (Y4 X.K):=by
 intro i s A H x v D C lo c E Q I n w pl p h;obtain⟨a,f,rfl,t,u,q⟩:=h;cases n;obtain⟨g,r,l,k⟩:=I.tuple t;have d:g.toArray.size=f.length:=by rw[aQ];exact r.length.symm
 refine⟨"tuple",_,PyProof.Rows.slot_tuple_getitem.lookup,l.typeIs,?_⟩;refine HT.Qi l w pl p (by rw[d];exact u) ?_ (by rw[d];exact k);rw[d];refine⟨.ref s.heap.objs.size,_,I.laid (t':=s.toks) (o:=.tup<|sr f lo c) (λb ob q=>ah _ q) (ai _) ?_,rfl,q _<|I.hok.fresh<|ai _⟩;exact⟨aV (Hc f lo c) k,_,(r.drop<|HT.j3 f.length 0 lo).take (HT.j3 f.length f.length c - HT.j3 f.length 0 lo),IsTup.new _ _⟩
end
noncomputable def qQ(n:Nat)(i:Int):jm Nat:=if 0<=i then(if i<n then some i.toNat else none)else if -(n:Int)<=i then some (i+n).toNat else none
def kc{a:Type}(b:aa a)(i:Int):jm a:=(qQ b.length i).bind λj=>b[j]?
def I9{n}(h:qQ n i=some j):seqIndex? i n=some j/\j<n/\ -(n:Int)<=i/\i<n:=by
 unfold qQ at h;by_cases b:0<=i
 ·rw[au b]at h;by_cases a:i<n
  ·rw[au a]at h;have e:i.toNat=j:=Option.some.inj h;exact⟨by rw[seqIndex_of b a,e],by lia,by lia,a⟩
  ·rw[ax a]at h;cases h
 ·rw[ax b]at h;by_cases a: -(n:Int)<=i
  ·rw[au a]at h;have e:(i+n).toNat=j:=Option.some.inj h;exact⟨by rw[seqIndex_neg (by simp_all) a,e],by lia,a,by lia⟩
  ·rw[ax a]at h;cases h
def Bg{a}{v:α}(h:kc a i=some v):∃j,seqIndex? i a.length=some j/\a[j]?=some v/\j<a.length/\ -(a.length:Int)<=i/\i<a.length:=by
 unfold kc at h;cases e:qQ a.length i with
 |none=>rw[e]at h;cases h
 |some j=>rw[e]at h;obtain⟨f,d,c,b⟩:=I9 e;exact⟨j,f,h,d,c,b⟩
def tH{a}{j:Nat}{v:α}(h:a[j]?=some v):kc a (j:Int)=some v:=by
 have b:j<a.length:=(aC.mp h).1;have e:qQ a.length (j:Int)=some j:=by unfold qQ;rw[au<|by simp,au<|by simp_all];simp
 unfold kc;rw[e];exact h
def A5(b:jB):Prop:=∀o i,subscripted b false o i=operate [o,i] (getItem o i)
def qF(X:Cx)(r:R2):Prop:=
 ∀(b a:jB) (pins:kX) (s:jr) (σ:St) (H:Hp) (x y:V) (v u:je) (Q:VK),Inv X pins σ H s->RelV x v->RelV y u->r x y H Q->
  subscripted a false v u=operate [v,u] (getItem v u)->wpAny (model X.prog X.w) X.A (subscriptTail b a v u) (EP X pins σ Q) X.xe s
def M5(X:Cx)(e:String)(r:V->aa V->Hp->VK->Prop):Prop:=
 ∀a s b H x c v d Q,Inv X a b H s->RelV x v->Vals c d->r x c H Q->
  wpAny (model X.prog X.w) X.A (call (.builtin e)<|v::d) (EP X a b Q) X.xe s
variable{X:Cx}{a b:jB}{ta tb:TE}{pos:Pos}
def qF.or{r j:R2}(h:qF X r)(l:qF X j):qF X (λx y H Q=>r x y H Q\/j x y H Q):=by
 intro c d e s f H x y v u Q I i g q k;rcases q with q|q;·exact h c d e s f H x y v u Q I i g q k
 ·exact l c d e s f H x y v u Q I i g q k
def KA(j:qF X r)(l:PE X a ta)(k:PE X b tb)(i:A5 b):PE X (.Subscript a b pos) (z6 r ta tb):=by intro c s d H Q I h;exact Subscript_ (Bw l k I h λv u e x y n m g f q=>j a b c e d n x y v u Q m g f q<|i _ _)
def Lp(K:jx):R2:=λx y H Q=>∃p c i v,x=.ref p/\y=.int i/\lz K H p c/\kc c i=some v/\Q v H
def Lr(K:jx):R2:=λx y H Q=>∃p c i v,x=.ref p/\y=.int i/\mx K H p c/\kc c i=some v/\Q v H
def Lq:R2:=λx y H Q=>∃z i c,x=.str z/\y=.int i/\z.length<=sizeLine/\kc z.cps.toList i=some c/\Q (.str ⟨#[c]⟩) H
def SK:qF X (Lp X.K):=by
 intro f g c s n H x y v u Q I E D h o;obtain⟨p,N,i,z,rfl,rfl,F,J,q⟩:=h;cases E;obtain⟨t,rfl⟩:=D;obtain⟨l,r,pl,O⟩:=I.list F;obtain⟨j,e,M,R,L,K⟩:=Bg J;obtain⟨w,B,k⟩:=r.get M;have G:=r.length;have P:=tX;have d:EP X c n Q w s:=⟨z,H,I,k,q⟩;by_cases A:0<=i
 ·have m:i.toNat=j:=by
   rw[seqIndex_of A K]at e;exact Option.some.inj e
  exact item_listR pl.isList A (by lia) (by rw[m];simpa using B) d o
 ·have m:(i+(l.toArray.size:Int)).toNat=j:=by
   rw[seqIndex_neg (by simp_all) L]at e;rw[aQ,<-G];exact Option.some.inj e
  exact subscriptTail_builtinR (x:=w) pl.isList.typeIs slot_list_getitem.lookup
   (wpAny_getItem_list_neg (Q:=λr C=>r=w/\EP X c n Q r C) pl.isList (by simp_all) (by rw[aQ]<;>simp_all) (by lia) (by rw[m];simpa using B) ⟨rfl,d⟩) o
def SQ:qF X (Lr X.K):=by
 intro d e c s k H x y v u Q I n m h A;obtain⟨p,J,i,z,rfl,rfl,B,D,q⟩:=h;cases n;obtain⟨t,rfl⟩:=m;obtain⟨o,r,pl,K⟩:=I.tuple B;obtain⟨j,F,E,O,N,M⟩:=Bg D;obtain⟨w,G,f⟩:=r.get E;have C:=r.length;have L:=tX;have g:EP X c k Q w s:=⟨z,H,I,f,q⟩
 exact subscriptTail_builtinR (x:=w) pl.typeIs slot_tuple_getitem.lookup
  (getItem_tuple (j:=j) (Q:=λr l=>r=w/\EP X c k Q r l) pl (by lia) (by lia) (by rw[aQ,<-C];exact F) (by simpa using G) ⟨rfl,g⟩) A
def SO:qF X Lq:=by
 intro d e f s C H x y v u Q I l k h m;obtain⟨z,i,c,rfl,rfl,E,o,q⟩:=h;obtain⟨t,rfl⟩:=l;obtain⟨D,rfl⟩:=k;obtain⟨j,g,w,G,r,p⟩:=Bg o;have n:z.cps.toList.length=z.length:=by simp[Str.length]
 rw[n]at g r p;have F:=tX;exact tail_any (typeIs_str s z t) slot_str_getitem.lookup (getItem_str (c:=c) (by have B:decide (i< -(2^63:Int))=false:=aJ (by lia);have A:decide (i≥2^63)=false:=aJ (by lia);rw[B,A,Bool.or_false]) (by rw[g];simpa using w) ⟨.str ⟨#[c]⟩,H,I.tok _,⟨_,rfl⟩,q⟩) m
def YZ(K:jx):R2:=λx y H Q=>Lp K x y H Q\/Lr K x y H Q\/Lq x y H Q
def SN:qF X (YZ X.K):=SK.or (SQ.or SO)
def UN(c:kL)(n j:Nat)(u):Obj.mapSeq (·.setIfInBounds j u) {cls:=.type "list",data:=.seq c.toArray n}={cls:=.type "list",data:=.seq (c.set j u).toArray n}:=by simp[Obj.mapSeq]
def Inv.lst{d:kX}{g:St}{H:Hp}{s:jr}{p:ja}{f:aa V}(I:Inv X d g H s)(h:H p=some (.lst f)):
    ∃(c:kL) (n:Nat),Vals f c/\s.heap.get? p=some {cls:=.type "list",data:=.seq c.toArray n}/\f.length<=sizeLine:=by
 obtain⟨z,c,n,r,e⟩:=I.hok p _ h;exact⟨c,n,r,e,z⟩
def Inv.TX{s}{d c:kL}{n}{f:lE->lE}(I:Inv X pins σ H s)(h:H p=some (.lst xs))
 (i:s.heap.get? p=some {cls:=.type "list",data:=.seq d.toArray n})(hf:f {cls:=.type "list",data:=.seq d.toArray n}={cls:=.type "list",data:=.seq c.toArray n'})(r:Vals ys c)(g:ys.length<=sizeLine)(t:Nat):
   Inv X pins σ (upd H p<|.lst ys) {s with heap:=s.heap.update p f,toks:=t}:=by
  have e:(s.heap.update p f).get? p=some {cls:=.type "list",data:=.seq c.toArray n'}:=by rw[aY f i<|by rw[hf]<;>rfl,hf]
  refine I.write (x:=p) (e:=p) (by rw[h];trivial) (.inl rfl) (λb u j q=>(br _ _<|bV j).trans q) ⟨_,e⟩ ?_;exact⟨g,c,n',r,e⟩
def Y1:V->V->V->Hp->(Hp->Prop)->Prop:=λo i v H Q=>∃p c k j,o=.ref p/\i=.int k/\H p=some (.lst c)/\qQ c.length k=some j/\Q (upd H p<|.lst<|c.set j v)
def set_list:FX X Y1:=by
 intro c s A H o i v J K u Q I D E C h;obtain⟨p,B,k,j,rfl,rfl,m,G,q⟩:=h;cases D;obtain⟨t,rfl⟩:=E;obtain⟨d,n,r,f,F⟩:=I.lst m;obtain⟨e,M,x,w⟩:=I9 G;have g:=r.length;have L:=tX
 have z:Inv X c A (upd H p<|.lst<|B.set j v) {s with heap:=s.heap.update p (Obj.mapSeq (·.setIfInBounds j u))}:=
  I.TX m f (UN d n j u) (r.set C j) (by rw[aT];exact F) s.toks
 by_cases y:0<=k
 ·have l:k.toNat=j:=by
   rw[seqIndex_of y w]at e;exact Option.some.inj e
  exact W.ki_setAt f y (by lia) (by rw[aQ,<-g];exact w) (by rw[l];exact⟨_,z,q⟩)
 ·have l:(k+(d.toArray.size:Int)).toNat=j:=by
   rw[seqIndex_neg (by simp_all) x]at e;rw[aQ,<-g];exact Option.some.inj e
  exact W.ki_setBack f (by simp_all) (by rw[aQ,<-g];exact x) (by lia) (by rw[l];exact⟨_,z,q⟩)
def aas(lo hi n):(sliceBounds lo hi none n).1=((HT.j3 n 0 lo:Nat):Int)/\(sliceBounds lo hi none n).2.1=((HT.j3 n n hi:Nat):Int)/\(sliceBounds lo hi none n).2.2=1:=by
 refine⟨?_,?_,rfl⟩
 ·cases lo with
  |none=>simp[sliceBounds,HT.j3]
  |some i=>
   simp only[sliceBounds,HT.j3,Option.getD_none,show(1:Int)>0 by decide,cQ];by_cases h:i<0;·simp only[h,cQ]<;>grind
   ·simp only[h,bT]<;>grind
 ·cases hi with
  |none=>simp[sliceBounds,HT.j3]
  |some i=>
   simp only[sliceBounds,HT.j3,Option.getD_none,show(1:Int)>0 by decide,cQ];by_cases h:i<0;·simp only[h,cQ]<;>grind
   ·simp only[h,bT]<;>grind
def aar(c:kL)(lo hi):slicePick c.toArray lo hi none=((c.drop (HT.j3 c.length 0 lo)).take (HT.j3 c.length c.length hi - HT.j3 c.length 0 lo)).toArray:=by obtain⟨f,e,d⟩:=aas lo hi c.toArray.size;unfold slicePick;rw[f,e,d];simp only[sliceRange_one,pick_run,aQ]<;>rfl
def Y2(K:jx):V->jm Int->jm Int->Hp->VK->Prop:=λx lo d H Q=>∃a c,x=.ref a/\lz K H a c/\∀p,H p=none->Q (.ref p) (upd H p<|.lst<|sr c lo d)
def aan:rh X (Y2 X.K):=by intro f s p H x v u t lo e w Q I i n pl j h;obtain⟨a,c,rfl,m,q⟩:=h;cases i;obtain⟨k,r,g,l⟩:=I.list m;have d:=r.length;refine⟨"list",_,slot_list_getitem.lookup,g.isList.typeIs,?_⟩;refine wpAny_getItem_list_slice g.isList n pl j .none (by simp) ?_ (by rw[aQ]<;>simp_all);rw[aar,<-d];refine⟨.ref s.heap.objs.size,_,I.laid (t':=s.toks) (o:=.lst<|sr c lo e) (λb ob q=>ah _ q) (ai _) ?_,rfl,q _<|I.hok.fresh<|ai _⟩;exact⟨aV (Hc c lo e) l,_,0,(r.drop<|HT.j3 c.length 0 lo).take (HT.j3 c.length c.length e - HT.j3 c.length 0 lo),aD _ rfl⟩
def NJ:mV X (.builtin "len") (λi H Q=>∃p d,i=[.ref p]/\(lz X.K H p d\/mx X.K H p d)/\Q (.int d.length) H):=by
 intro j s m H i n Q I r h;obtain⟨p,d,rfl,e,q⟩:=h;obtain⟨u,rfl,k⟩:=vals1 r;cases k;have o:=tX;rcases e with e|e
 ·obtain⟨g,f,pl,l⟩:=I.list e;have c:=f.length;exact Calls.call_len_list pl.isList (by simp only[aQ]<;>omega) ⟨.int d.length,H,I.tok _,⟨s.toks+1,by rw[aQ,c]⟩,q⟩
 ·obtain⟨g,f,pl,l⟩:=I.tuple e;have c:=f.length;exact len_tuple pl (by simp only[aQ]<;>omega) ⟨.int d.length,H,I.tok _,⟨s.toks+1,by rw[aQ,c]⟩,q⟩
def NK:mV X (.builtin "len") (λc H Q=>∃z,c=[.str z]/\z.length<=sizeLine/\Q (.int z.length) H):=by intro d s e H c f Q I r h;obtain⟨z,rfl,g,q⟩:=h;obtain⟨u,rfl,t,rfl⟩:=vals1 r;have i:=tX;exact len_str (by lia) ⟨.int z.length,H,I.tok _,⟨_,rfl⟩,q⟩
def mV.or{f:je}{r i:aa V->Hp->VK->Prop}(h:mV X f r)(j:mV X f i):mV X f (λd H Q=>r d H Q\/i d H Q):=by
 intro c s e H d g Q I rs q;rcases q with q|q;·exact h c s e H d g Q I rs q
 ·exact j c s e H d g Q I rs q
def Mm(K:jx)(T:String)(x:V)(H:Hp):Prop:=match x with
 |.str _=>T="str"
 |.int _=>T="int"
 |.ref p=>(T="list"/\∃d,lz K H p d)\/(T="tuple"/\∃o,K.lookup p=some o/\o.cls=.type "tuple"/\o.dict=none)\/
   (T="dict"/\((∃c,H p=some (.dK c))\/∃c,H p=some (.dT c)))\/(T="set"/\∃S n,H p=some (.set S n))
 |_=>False
def abC{s}(I:Inv X pins σ H s)(r:RelV x v)(ty:Mm X.K T x H):
    s.TypeIs v T/\∀a,v=.ref a->∃ob,s.heap.get? a=some ob/\ob.dict=none:=by
 cases x with
 |str z=>obtain⟨t,rfl⟩:=r;cases(show T="str" from ty);exact⟨typeIs_str s z t,λ_ e=>nomatch e⟩
 |int i=>obtain⟨t,rfl⟩:=r;cases(show T="int" from ty);exact⟨typeIs_int s i t,λ_ e=>nomatch e⟩
 |ref p=>
  cases r;rcases ty with⟨rfl,m,k⟩|⟨rfl,o,d,l,g⟩|⟨rfl,d⟩|⟨rfl,S,n,d⟩
  ·obtain⟨j,_,pl,_⟩:=I.list k;refine⟨pl.isList.typeIs,λa e=>?_⟩;cases e;obtain⟨o,n,e,c,g,_⟩:=pl;exact⟨o,e,g⟩
  ·refine⟨⟨o,I.mm p o d,l⟩,λa e=>?_⟩;cases e;exact⟨o,I.mm _ o d,g⟩
  ·have z:∃o,s.heap.get? p=some o/\o.ExactDict:=by
    rcases d with⟨f,d⟩|⟨f,d⟩
    ·obtain⟨_,_,_,_,o,_,_,e,ex,_⟩:=I.hok p _ d;exact⟨o,e,ex⟩
    ·obtain⟨_,_,_,_,o,_,_,e,ex,_⟩:=I.hok p _ d;exact⟨o,e,ex⟩
   obtain⟨o,e,ex⟩:=z;refine⟨⟨o,e,ex.1⟩,λa h=>?_⟩;cases h;exact⟨o,e,ex.2.1⟩
  ·obtain⟨o,_,_,_,e,ex,_⟩:=I.hok p _ d;refine⟨⟨o,e,ex.1⟩,λa h=>?_⟩;cases h;exact⟨o,e,ex.2.1⟩
 |_=>exact False.elim ty
def tBM(K:jx)(T:String)(r:V->aa V->Hp->VK->Prop)(to:TE)(t:TA):TE:=λc H Q=>to c H λx d=>Mm K T x d/\t c d λe f=>r x e f Q
variable{o e:jB}{es:lr}{to:TE}{t:TA}{U:jd}{apos M:Pos}{T Y:String}{r:V->aa V->Hp->VK->Prop}
def Kx(D:PlainAttrs T)(i:Slot T U Y)(l:typeOf (.builtin Y)=pure (.type "method_descriptor"))(G:M5 X Y r)(F:PE X o to)(J:PA X (e::es) t)
 (g:autoParam (attributeBase o U X.env (eval o X.env)=eval o X.env) aZ0)
 (j:autoParam (((backTo M (starEach (e::es) X.env)).all (λx=>!x.1)&&(backToKw M (keywordEach [] X.env)).all (λx=>x.1.isSome)
 &&decide ((e::es).length+([]:aa Keyword).length+(if([]:aa Keyword).isEmpty then 0 else 1)<30))=true) aZ0)
 (f:autoParam ((apos.endLine==M.line)=true) aZ0)(E:autoParam (X.se e es) aZ0)(d:autoParam ((backTo M<|starEach es X.env).any (·.1)=false) aZ0):
   PE X (.Call (.Attribute o U apos) (e::es) [] M) (tBM X.K T r to t):=by
  intro c s k H Q I h;refine wpAny_Call_method_late g j f rfl (jC (F c s k H _ I h) λv z m=>?_);obtain⟨x,P,q,n,ty,C⟩:=m;obtain⟨L,K⟩:=abC q n ty;refine⟨T,Y,D,i,l,L,K,?_⟩;have p:=J M c z k P _ q C;rw[E]at p⊢;refine dW (by show(false||(backTo M (starEach es X.env)).any (·.1))=false;rw[d]<;>rfl) (fX ?_);exact jC p λw y ⟨u,O,N,A,B⟩=>G c y k O x u v w Q N n A B
def FV(X:Cx)(Y:String)(r:V->aa V->Hp->VK->Prop):Prop:=
 ∀c s d H x f v g Q,Inv X c d H s->RelV x v->Vals f g->r x f H Q->
  wpAny (model X.prog X.w) X.A (call (.builtin Y)<|v::g) (EP X c d Q) X.xe s
def Vals.one:∀{x} {c},Vals [x] c->∃u,c=[u]/\RelV x u
 |_,_,.cons r .nil=>⟨_,rfl,r⟩
variable{C:kX}{L:St}{H:Hp}{s:jr}{l b:ja}{J O zs:aa V}
def Inv.JG{c:kL}{n}{f}{d:Nat}(I:Inv X C L H s)(j:H l=some (.lst J))
 (e:s.heap.get? l=some {cls:=.type "list",data:=.seq c.toArray n})(hf:f c.toArray=its'.toArray)(hv:Vals O its')(g:O.length<=sizeLine):
   Inv X C L (upd H l<|.lst O) {s with heap:=s.heap.update l<|Obj.mapSeq f,toks:=d}:=by
  have q:=PySem.IsL.update e f;rw[hf]at q;refine I.write (x:=l) (e:=l) (by rw[j];exact trivial) (.inl rfl) (λk u i h=>(br s.heap (Obj.mapSeq f)<|bV i).trans h) ⟨_,q⟩ ?_;exact⟨g,its',_,hv,q⟩
def Inv.TN{t':Nat}(I:Inv X C L H s)(hv:Vals O vd)(c:O.length<=sizeLine):
    Inv X C L (upd H s.heap.objs.size<|.lst O) {s with heap:=s.heap.push {cls:=.type "list",data:=.seq vd.toArray},toks:=t'}:=
 I.laid (λ_ _ q=>ah _ q) (ai _) ⟨c,vd,0,hv,aD _ rfl⟩
def Inv.fresh(I:Inv X C L H s):H s.heap.objs.size=none:=I.hok.fresh (ai _)
def Inv.JH(I:Inv X C L H s)(d:H l=some (.lst J)):J.length<=sizeLine/\∃(c:kL) (n:Nat),Vals J c/\J.length=c.length/\s.heap.get? l=some {cls:=.type "list",data:=.seq c.toArray n}:=by obtain⟨z,c,n,r,e⟩:=I.hok l _ d;exact⟨z,c,n,r,r.length,e⟩
def Vg{n}(h:n<=sizeLine):Builtin.List.listTooLong n=false:=by unfold Builtin.List.listTooLong;exact aJ (by simp_all)
def YV:V->aa V->Hp->VK->Prop:=λx c H Q=>∃l J y,x=.ref l/\c=[y]/\H l=some (.lst J)/\J.length<sizeLine/\Q .non (upd H l<|.lst<|J++[y])
def JT:FV X "list.append" YV:=by intro C s L H x j v k Q I f g h;obtain⟨l,J,y,rfl,rfl,d,m,q⟩:=h;cases f;obtain⟨u,rfl,i⟩:=g.one;obtain⟨z,c,n,r,p,e⟩:=I.JH d;refine call_meets F.slot_list_append ⟨_,e,rfl⟩ F.entry_list_append (F.args_list_append_2 _ _) (PySem.list_append l c.toArray n u (by rw[aQ];simp_all)) ⟨e,?_⟩;refine⟨.non,_,I.JG (its':=c++[u]) d e (by simp) (r.append<|.cons i .nil) ?_,rfl,q⟩;rw[aq,cm];walk_at "l"
end L2
namespace FC
open PySem PySem.W PySem.Calls PyProof.Rows
abbrev _root_.kv:=aa Int
def Sm:∀(c:kv) vs,WellAll P h vs (c.map WData.int)->IntsAre vs c:=by
 intro c;induction c with
 |nil=>intro vs w;rw[dr]at w;cases w;exact .nil
 |cons n c d=>
  intro vs w;rw[aW]at w;cases w with
  |cons a b=>cases a;exact .cons _ _ (d _ b)
def ZR{l:OpenLaw}{n}(v:l.most=some n)
 (c:l.row.toRowW.claim.pre args=true)(j:WellAll P h vals args):
   ∃a m b,vals=[Value.ref a]/\args=[WData.list<|b.map WData.int]/\h.get? a=some {cls:=.type "list",data:=.seq m.toArray}/\IntsAre m b/\b.length<=n:=by
  have k:WShape.hasAll [] args [.list .int]=true:=(pre_splitW c).1;have o:l.pre.holds [] {args:=args}=true:=(pre_splitW c).2;obtain⟨d,r,rfl,y,x⟩:=hasAllW_cons k;obtain rfl:=hasAllW_nil x;obtain⟨z,rfl,w⟩:=hasW_list y;obtain⟨b,rfl⟩:=items_int w;have e:b.length<=n:=by
   unfold OpenLaw.pre at o;have i:(WTm.not<|.lt (.lit<|.int (n:Int))<|.len<|.arg 0).holds [] {args:=[.list<|b.map .int]}=true:=by have i:=(holds_andW o).1;rw[v]at i;exact i
   have g:=condW_of i (w_not<|w_lt w_lit<|w_len_list<|w_arg rfl);rw[ao]at g;refine Nat.le_of_not_lt λq=>?_;have t:(n:Int)<((b.length:Nat):Int):=by simp_all
   first
    |(rw[aR t]at g;exact absurd g (by decide))
    |(simp at g;omega)
  cases j with
  |cons s p=>
   cases p;cases s with
   |list u f=>exact⟨_,_,b,rfl,rfl,u,Sm b _ f,e⟩
def XD(l:OpenLaw)(args):l.row.toRowW.claim.post args (.bool true) args=true:=
 postW_of (r:=l.row.toRowW) (X:=(true==true))
  (show WShape.has [] (.bool true) .bool=true by first|rfl|decide|simp[WShape.has,WShape.arms,WShape.armsAll])
  (show(WTm.eq .res<|.lit<|.bool true).value [] {args:=args,res:=some<|.bool true,after:=args}=some (.bool<|true==true)from w_eq_bool (w_res rfl) w_lit) rfl
def Nq{l:OpenLaw}{n XP}{z:jK->jw->Prop}{d:DefRec}
 (D:l.most=some n)(s:d.params.defaults=[])
 (call:∀w (c b:jr) mg mb fa o pm cd doc a (g:kL) ns,
 Ground q loose [] XP w c mg mb b.heap->z w b.heap->
 b.heap.get? fa=some o->o.data=.func (docDef d.name d.params d.body d.scope pm cd doc)->b.heap.CodeRec cd d.name->mg d.name=some (.ref fa)->
 b.heap.get? a=some {cls:=.type "list",data:=.seq g.toArray}->IntsAre g ns->ns.length<=n->b.gens=#[]->
 codeAny (model l.prog w) callerA (.call (.ref fa) ⟨[.ref a],[]⟩) (λr k=>r=.ok (.ret (.bool true))/\OldK b.heap k.heap/\k.os=b.os/\AllBare k.gens) b):
  WalkO q loose XP z l.row.toRowW d [] (λf g=>PySem.call f g):=by
  intro w c b mg mb G Y fa o pm cd doc dV kV C I t x p H y u M h v A m F;obtain rfl:dV=.none:=Dflts.none x s;obtain rfl:kV=.none:=Dflts.noKw x;obtain⟨a,g,ns,rfl,rfl,i,e,j⟩:=ZR D h m;refine enter_call (fm (call w c b mg mb fa o pm cd doc a g ns G Y C (fd_plain I) t p i e j H) λr k B=>?_);obtain⟨rfl,L,K,J⟩:=B;exact⟨.inl ⟨.bool true,.bool true,[],rfl,λ_=>rfl,.bool true,XD l _,λ_=>⟨List.Pairwise.nil,λ_ E=>(nomatch E)⟩⟩,L,K,J⟩
end FC
namespace L2
open PySem PySem.Spec PyProof.Rows
theorem Mt:∀{a} {b},IntsAre a b->Vals (b.map V.int) a
 |_,_,.nil=>.nil
 |_,_,.cons n t h=>.cons ⟨t,rfl⟩ (Mt h)
def inClass(s:Stmt)(j:Nat):Stmt:=match s with
 |.ClassDef _ _ _ body _ _ _ _ _ _ _=>body.getD j (.Pass ⟨0,0,0,0⟩)
 |_=>.Pass ⟨0,0,0,0⟩
def oF(s:Stmt):Arguments:=match s with
 |.FunctionDef _ a _ _ _ _ _ _ _ _=>a
 |_=>{posonlyargs:=[],args:=[],vararg:=none,kwonlyargs:=[],kw_defaults:=[],kwarg:=none,defaults:=[]}
def ml(s:Stmt):aa Stmt:=match s with
 |.FunctionDef _ _ b _ _ _ _ _ _ _=>b
 |_=>[]
def kf(s:Stmt):Scope:=match s with
 |.FunctionDef _ _ _ _ _ _ sc _ _ _=>sc
 |_=>{kind:=.function,names:=[],isGenerator:=false,isCoroutine:=false}
abbrev E0:XK:=λ_ _ _=>False
structure ou(K:jx)(x qual:jd)(st:Stmt)(f:ja)(fd:nu):Prop where
 ex:∃oc od kV doc pm an cdv ct osl,
  fd=W.fnOf x qual (oF st) (ml st) (kf st) .none kV doc pm an cdv ct/\K.lookup f=some ⟨oc,od,.func fd,osl⟩/\W.codeIn K cdv qual=true
 kp:W.keepIn K (.ref f)=true
variable{P:jT}{w:jK}{K:jx}{i:kG}{e:jw}
abbrev _root_.mP:=jm ja
def ou.binds{x}{c}{f}{l}{g}(F:ou K x qual c f l)
 (h:∀(kV a j:je) (k:mP) (b ct:je) (d:kL),d.length=g.length->bindArgs (W.fnOf x qual (oF c) (ml c) (kf c) .none kV a j k b ct) ⟨d,[]⟩=pure (g.zip d)):Binds K l g []:=by obtain⟨p,o,kV,a,j,k,b,ct,m,rfl,q,n⟩:=F.ex;exact .all (h kV a j k b ct)
def Ig{x}{st}{f}{kV}(l:K.lookup f=some ⟨oc,od,.func<|W.fnOf x qual (oF st) (ml st) (kf st) .none kV doc pm an cdv ct,osl⟩)
 (c:W.codeIn K cdv qual=true)(k:W.keepIn K (.ref f)=true):ou K x qual st f (W.fnOf x qual (oF st) (ml st) (kf st) .none kV doc pm an cdv ct):=⟨⟨oc,od,kV,doc,pm,an,cdv,ct,osl,rfl,l,c⟩,k⟩
def sF{A B:Prop}(h:B):if false=true then A else B:=by rw[ax ay];exact h
def tW{A B:Prop}(h:A):if true=true then A else B:=by rw[au rfl];exact h
def lj(H a:Hp):Prop:=∀b o,H b=some o->a b=some o
end L2
namespace Fx
open PySem
def Hm(o:lE)(f):(o.mapFields f).dict=o.dict:=by rcases o with⟨c,d,dt,a⟩;cases dt<;>rfl
def Dk(p:Prop)(h:jw)(e:ja)(d:mP):Prop:=(∀c,d=some c->∃a,h.get? e=some a/\a.dict=some c)/\∃a b,h.get? e=some a/\a.data=.fields b/\(p->b[2]?=some .none)
def oR(p:Prop)(B:jw)(l:my)(e:ja)(a:je)(d:mP)(h:jw):Prop:=
 (∃b,Heap.FlyingW B l e a b h)/\Dk p h e d
def xW(p:Prop)(B:jw)(l:my)(e:ja)(a:je)(d:mP)(L:ja)(h:jw):Prop:=
 (∃b,Heap.HeldW B l e a b L h)/\Dk p h e d
def Hq{p}{d}{f:kr je->kr je}{o}(n:h.get? b=some o)(m:o.data=.fields vs)(hf:∀i:kr je,(f i)[2]?=i[2]?)(k:Dk p h e d):
    Dk p (h.update b<|Obj.mapFields f) e d:=by
 by_cases q:b=e
 ·subst q;have g:=aY (Obj.mapFields f) n (b7<|bw m f);refine⟨λr l=>?_,?_⟩
  ·obtain⟨j,a,c⟩:=k.1 r l;rw[n]at a;cases a;exact⟨_,g,by rw[Hm];exact c⟩
  ·obtain⟨j,i,a,c,s⟩:=k.2;rw[n]at a;cases a;rw[m]at c;cases c;exact⟨_,_,g,bw m f,by rw[hf];exact s⟩
 ·have g:(h.update b<|Obj.mapFields f).get? e=h.get? e:=br _ _ q;refine⟨λr l=>?_,?_⟩
  ·obtain⟨j,a,c⟩:=k.1 r l;simp_all
  ·obtain⟨j,i,a,c,s⟩:=k.2;simp_all
def LJ(x)(a:tr):(a.setIfInBounds 3 x)[2]?=a[2]?:=cM (by decide)
variable{p:Prop}{M:Model}{A:kh}{E:ki}{s:jr}{B:jw}{a:Env}{outer l:my}{L e:ja}{cls:je}{d:mP}{Q:uN}
def HE{more}(C:A.frames=some (a::outer))(y:s.heap.FunFrames B<|a::outer)(hf:a.frame=some L)
 (v:s.heap.get? e=some oe)(P:B.StaysIn s.heap)(N:B.get? e=none)(w:oe.data=.fields vs)(J:1<vs.size)(V:vs[0]?=some a0)(dk:Dk p s.heap e d)
 (U:∀F,xW p B (a::outer) e oe.cls d L F->s.heap.UpToSlots F->Q () {s with heap:=F}):
   wpAny M A (do
    let fr<-frameOf a
    let at_<-entryPlaceOf L more
    let O<-EntryCells.newEntry head fr .none (rawInt L) .none at_
    setField (.ref e) 1 O) Q E s:=by
  have ne:e∉(a::outer).filterMap (·.frame):=λz=>by obtain⟨_,Y,i,m⟩:=y.mem z;rw[v]at i;cases i;exact m vs w
  refine ae (wpAny_frameOf_fun C y hf λf x=>?_);refine ae (wpAny_entryPlaceOf λc ok=>?_);unfold EntryCells.newEntry newFields;refine ae (a9 ?_ (ok.sizeOk5 _ _ _ _ _));have u:f.get? e=some oe:=by rw[x.2.1 e ne];exact v
  have n:B.StaysIn f:=λb o q=>by rw[x.2.1 b λz=>by rw[(y.mem z).1]at q;cases q];exact P b o q
  generalize K:({cls:=.type "traceback",dict:=none,data:=.fields ([head,.ref L,.none,rawInt L,.none]++(if c.isEmpty then List.replicate 6 Value.none else c)).toArray}:lE)=xD;have t:(f.push xD).get? e=some oe:=ah _ u;refine cg t w J (U _ ?_ ?_)
  all_goals
   have I:f.objs.size≠e:=cP (Heap.lt_size u);have keep:∀b o,b≠e->f.get? b=some o->((f.push xD).update e (Obj.mapFields (·.setIfInBounds 1 (Value.ref f.objs.size)))).get? b=some o:=λb o S g=>by rw[br _ _<|bV S];exact ah _ g
   have h:∀b o,s.heap.get? b=some o->(∀G,o.data≠.fields G)->b≠e:=λb o g r z=>by subst z;rw[v]at g;cases g;exact r vs w
  ·have k:=bw w (·.setIfInBounds 1 (Value.ref f.objs.size));have j:=aY (Obj.mapFields (·.setIfInBounds 1 (Value.ref f.objs.size))) t (b7 k);have D:((f.push xD).update e (Obj.mapFields (·.setIfInBounds 1 (Value.ref f.objs.size)))).get? f.objs.size=some xD:=by
    rw[br _ _<|bV I];exact aD f (by rw[<-K];rfl)
   refine⟨⟨a0,λb o q=>keep b o (λz=>by rw[z,N]at q;cases q)<|n b o q,N,y.of_keeps λb o g r=>?_,?_⟩,λX T=>?_,?_⟩
   ·obtain⟨H,z⟩:=x.2.2 b o g;exact⟨_,keep b _ (h b o g r) z,rfl⟩
   ·refine⟨_,_,f.objs.size,xD,_,j,⟨du _ _,?_⟩,k,by simp[J],n.fresh,I,D,by rw[<-K],?_⟩;·rw[cM<|by decide];exact V
    ·rcases ok with z|⟨_,_,_,_,_,_,_,z⟩<;>(rw[z];simp)
   ·obtain⟨R,i,m⟩:=dk.1 X T;rw[v]at i;cases i;exact⟨_,j,by rw[Hm];exact m⟩
   ·obtain⟨R,G,i,m,W⟩:=dk.2;rw[v]at i;cases i;rw[w]at m;cases m;exact⟨_,_,j,k,by rw[cM (by decide)];exact W⟩
  ·intro b o g r;obtain⟨H,z⟩:=x.2.2 b o g;exact⟨H,keep b _ (h b o g r) z⟩
def PY(j:A.frames=some (a::outer))(hf:a.frame=some L)(x:oR p B (a::outer) e cls d s.heap)
 (w:∀h,xW p B (a::outer) e cls d L h->s.heap.UpToSlots h->Q () {s with heap:=h}):wpAny M A (noteFrame (.ref e) a) Q E s:=by
  obtain⟨⟨O,t,F,D,K,I,T,N,J,k,⟨v,C⟩,m,h,G,H,hT,f,n⟩,dk⟩:=x;subst v;unfold noteFrame;simp only[hf];refine ae (ez k m h ?_);rw[au<|by simp];refine ae (ez hT f n ?_);rw[ax<|by simp[rawInt]];refine ae (cg hT f (bD.mp n).1 ?_);have oth:∀b,b≠T->(s.heap.update T (Obj.mapFields (·.setIfInBounds 3 Value.none))).get? b=s.heap.get? b:=λb z=>br _ _ (bV z);have c:∀b o,s.heap.get? b=some o->(∀r,o.data≠.fields r)->b≠T:=λb o g i z=>by simp_all
  refine HE (s:={s with heap:=s.heap.update T (Obj.mapFields (·.setIfInBounds 3 Value.none))}) j (D.of_keeps λb o g i=>⟨o,by rw[oth b<|c b o g i];exact g,rfl⟩) hf
   (by rw[oth e<|bV H];exact k) (λb o q=>by rw[oth b λz=>by rw[z,G]at q;cases q];exact t b o q) F m (bD.mp h).1 C (Hq hT f (LJ _) dk) λy u up=>?_
  exact w y u λb o g i=>up b o (by rw[oth b<|c b o g i];exact g) i
def Zg(c:A.frames=some (a::outer))(k:s.heap.FunFrames B<|a::outer)(hf:a.frame=some L)(f:s.heap.get? e=some oe)(h:B.StaysIn s.heap)
 (m:B.get? e=none)(g:oe.data=.fields vs)(b:vs[1]?=some .none)(j:vs[0]?=some a0)(dk:Dk p s.heap e d)
 (i:∀b,xW p B (a::outer) e oe.cls d L b->s.heap.UpToSlots b->Q () {s with heap:=b}):wpAny M A (noteFrame (.ref e) a) Q E s:=by unfold noteFrame;simp only[hf];refine ae (ez f g b ?_);exact HE c k hf f h m g (bD.mp b).1 j dk i
def Tt(y:B.StaysIn s.heap)(I:B.get? e=none)(H:s.heap.FunFrames B l)(x:s.heap.TracedAtW B e cls a0 fl)(dk:Dk p s.heap e d)
 (F:∀i,oR p B l e cls d i->s.heap.UpToSlots i->Q () {s with heap:=i}):wpAny M A (setFlight (.ref e) none) Q E s:=by
  obtain⟨C,v,T,J,w,m,D,n,i,r,t,hT,c,G⟩:=x;have k:3<w.size:=(bD.mp G).1;unfold setFlight;refine ae (ez m n i ?_);refine cg hT c k (F _ ⟨⟨a0,?_⟩,Hq hT c (LJ _) dk⟩ ?_)
  all_goals
   have oth:∀b,b≠T->(s.heap.update T (Obj.mapFields (·.setIfInBounds 3 ((none:mP).elim Value.none λf=>rawInt f)))).get? b=s.heap.get? b:=λb z=>br _ _ (bV z);have g:∀b o,s.heap.get? b=some o->(∀u,o.data≠.fields u)->b≠T:=λb o h j z=>by simp_all
  ·refine⟨λb o q=>by rw[oth b λz=>by rw[z,r]at q;cases q];exact y b o q,I,H.of_keeps λb o h j=>⟨o,by rw[oth b<|g b o h j];exact h,rfl⟩,?_⟩;exact⟨C,v,T,_,_,by rw[oth e<|bV t];exact m,D,n,i,r,t,aY _ hT<|b7<|bw c _,bw c _,by simp[k]⟩
  ·exact λb o h j=>⟨o.slots,by rw[oth b<|g b o h j];exact h⟩
def II(x:xW p B l e cls d L s.heap)(g:∀b,oR p B l e cls d b->s.heap.UpToSlots b->Q () {s with heap:=b}):wpAny M A (setFlight (.ref e) none) Q E s:=by obtain⟨⟨j,f,i,h,c⟩,dk⟩:=x;exact Tt f i h c dk g
def oR.less(x:oR p B (a::outer) e cls d s.heap):oR p B outer e cls d s.heap:=by obtain⟨⟨h,c,g,⟨_,_,f⟩,b⟩,dk⟩:=x;exact⟨⟨h,c,g,f,b⟩,dk⟩
def PX(c:A.frames=some (a::outer))(hf:a.frame=some L)(x:oR p B (a::outer) e cls d s.heap)
 (k:∀b,oR p B outer e cls d b->s.heap.UpToSlots b->Q () {s with heap:=b}):wpAny M A (leaving a<|.ref e) Q E s:=by unfold leaving;exact ae (PY c hf x λb h j=>II (s:={s with heap:=b}) h λf g i=>k f (oR.less (s:={s with heap:=f}) g)<|j.trans i)
def Ze(c:A.frames=some (a::outer))(t:s.heap.FunFrames B<|a::outer)(hf:a.frame=some L)(m:s.heap.get? e=some oe)(k:B.StaysIn s.heap)
 (u:B.get? e=none)(n:oe.data=.fields vs)(b:vs[1]?=some .none)(r:vs[0]?=some a0)(dk:Dk p s.heap e d)
 (o:∀b,oR p B outer e oe.cls d b->s.heap.UpToSlots b->Q () {s with heap:=b}):wpAny M A (leaving a<|.ref e) Q E s:=by unfold leaving;exact ae (Zg c t hf m k u n b r dk λq h j=>II (s:={s with heap:=q}) h λf g i=>o f (oR.less (s:={s with heap:=f}) g)<|j.trans i)
end Fx
set_option maxHeartbeats 4000000
namespace L2
open PySem PySem.Spec PyProof.Rows Fx
def Fg(d:mP)(H:Hp):Prop:=∀a,d=some a->∃f v,H a=some (.xd [(f,v)])
def ky(P:jT)(w:jK):qB:=λa H s E e f=>
 ∃h b d c B,e=.ref h/\f.os=s.os/\AllBare f.gens/\oR (Fg d c) B a h b d f.heap/\
  (∀g:jw,B.StaysIn g->f.heap.UpToSlots g->Un (frs a) [] H c s.heap g/\kU P w c g)/\c h=none/\s.heap.get? h=none/\E b d c
structure FW(X:Cx)(pins:kX)(e:ja):Prop where
 old:X.s₀.heap.get? e=none
 pin:∀p∈X.pn++pins,p.1≠e
 loc:e≠X.env.locals
 cel:∀x c,X.env.cells.lookup x=some c->c≠e
 frm:e∉X.fs
def XP(X:Cx)(a:kX)(i:St)(R:XK)(e:je)(g:jr):Prop:=
 ∃c b d f B,e=.ref c/\oR (Fg d f) B X.stack c b d g.heap/\
  (∀h:jw,B.StaysIn h->g.heap.UpToSlots h->Inv X a i f {g with heap:=h})/\f c=none/\FW X a c/\R b d f
section
variable{X:Cx}{a:kX}{i:St}{H:Hp}{s s':jr}{e:je}{E:XK}
def Inv.U1(I:Inv X a i H s)(n:s.heap.get? ea=none)(f:X.ex=[]):FW X a ea:=by
 have z:∀b o,s.heap.get? b=some o->b≠ea:=λb o q w=>by rw[w,n]at q;cases q
 refine⟨?_,λp h=>z _ _ (I.pin p h).1,λw=>?_,λx c j=>?_,λk=>?_⟩
 ·cases q:X.s₀.heap.get? ea with
  |none=>rfl
  |some o=>obtain⟨l,g⟩:=I.base.there ea o q (by rw[f];simp);rw[n]at g;cases g
 ·obtain⟨m,⟨o,_,_,d,_⟩,_⟩:=I.loc;exact z _ _ d w.symm
 ·obtain⟨v,o,d,_⟩:=I.cell x c j;exact z _ _ d
 ·obtain⟨_,o,d,_⟩:=I.pE.mem k;exact z _ _ d rfl
def abP(I:Inv X a i H s)(h:ky X.prog X.w X.stack H s E e s')(g:X.ex=[]):XP X a i E e s':=by obtain⟨q,j,d,t,B,rfl,m,c,o,cl,p,fr,n⟩:=h;refine⟨q,j,d,t,B,rfl,o,λk r l=>?_,p,I.U1 fr g,n⟩;obtain⟨un,f⟩:=cl k r l;exact I.GP (s':={s' with heap:=k}) (ch:=[]) m un f c λb z=>absurd z (by simp)
end
def kQ.there{w o}(x:kQ P w H h a o):∃ob,h.get? a=some ob:=by
 cases o with
 |lst b=>obtain⟨_,_,_,_,q⟩:=x;exact⟨_,q⟩
 |tup b=>obtain⟨_,_,_,ob,q,_⟩:=x;exact⟨_,q⟩
 |set S n=>obtain⟨ob,_,_,_,q,_⟩:=x;exact⟨_,q⟩
 |ins C g fs=>obtain⟨_,_,_,q,_⟩:=x;exact⟨_,q⟩
 |own y=>exact x
 |xd fs=>obtain⟨_,⟨_,_,_,q,_⟩,_⟩:=x;exact⟨_,q⟩
 |zP lo e=>obtain⟨_,_,_,q⟩:=x;exact⟨_,q⟩
 |ku ob u=>obtain⟨q,_⟩:=x;exact⟨_,q⟩
 |l6 d=>exact⟨_,(show h.get? a=some _ from x)⟩
 |met f y=>exact⟨_,(show h.get? a=some _ from x)⟩
 |ext c=>obtain⟨_,q,_⟩:=x;exact q
 |_=>obtain⟨_,_,_,_,ob,_,_,q,_⟩:=x;exact⟨_,q⟩
def kU.no{w}(x:kU P w H h)(n:h.get? a=none):H a=none:=by
 cases q:H a with
 |none=>rfl
 |some o=>obtain⟨ob,z⟩:=(x a o q).there;rw[n]at z;cases z
section
variable{P:jT}{w:jK}{K:jx}{v:kG}{r:jw}{N:jS}{c:jd}{m:Scope}{f:ja}{M:je}{A:kh}{outer:my}{s:jr}{H:Hp}{E:XK}
def vk:Passes (ky P w) (kR (ky P w) P w K v r N c m f M A outer s H E) E:=λn C O D e l I h=>by obtain⟨p,j,d,z,B,rfl,o,cl,y,u,x⟩:=abP I h rfl;have J:=λb g a=>cl b g a;obtain⟨G,t,_⟩:=o.1;have q:=J l.heap t (Heap.UpToSlots.refl _);show wpAny _ _ (leaving _<|.ref p) _ _ l;refine PX (outer:=outer) (L:=s.heap.objs.size) I.ok.frames rfl o λF i k=>?_;exact⟨p,j,d,z,B,rfl,q.os,q.bare,i,λb g a=>⟨(J b g<|k.trans a).base,(J b g<|k.trans a).hok⟩,y,u.old,x⟩
def Zj{d}
 (I:Inv (kR (ky P w) P w K v r N c m f M A outer s H E) pins σ H2 s2)(R:s2.heap.get? e=some j)(fr:s.heap.get? e=none)(S:j.data=.fields vs)(h1:vs[1]?=some .none)(h0:vs[0]?=some a0)
 (dk:∀U,d=some U->∃j,s2.heap.get? e=some j/\j.dict=some U)(cn:Fg d H2->vs[2]?=some .none)(T:H2 e=none)(hE:E j.cls d H2):(kR (ky P w) P w K v r N c m f M A outer s H E).xe (.ref e) s2:=by
  let X:=kR (ky P w) P w K v r N c m f M A outer s H E
  let B:=W.hideAll s2.heap (e::frs X.stack)
  have Z:B.StaysIn s2.heap:=λb o q=>W.of_hideAll _ q;have fe:B.get? e=none:=W.hideAll_none _ (List.Mem.head _);have ff:s2.heap.FunFrames B X.stack:=W.funFrames_hide I.stack λG hm b g=>List.Mem.tail _ (bo.mpr ⟨G,hm,g⟩);show wpAny _ _ (leaving _ (.ref e)) _ _ s2;refine Ze (B:=B) (outer:=outer) (L:=s.heap.objs.size) I.ok.frames ff rfl R Z fe S h1 h0 ⟨dk,j,vs,R,S,cn⟩ λh3 F Y=>?_;refine⟨e,j.cls,d,H2,B,rfl,I.os,I.bare,F,λD b5 V=>?_,T,fr,hE⟩;have up:s2.heap.UpToSlots D:=Y.trans V;have keep:∀b o,s2.heap.get? b=some o->b≠e->b∉frs X.stack->D.get? b=some o:=λb o q x t=>b5 b o (W.hideAll_get _ q λz=>by
   rcases az.mp z with z|z;· exact x z
   · exact t z)
  have h:∀b o,H2 b=some o->b≠e/\b∉frs X.stack:=λb o q=>⟨λz=>(by subst z;rw[T]at q;cases q),λz=>(by rw[I.EI b z]at q;cases q)⟩;have p:∀b o,s.heap.get? b=some o->b∉frs outer->b≠e/\b∉frs X.stack:=λb o q n=>⟨λz=>(by subst z;rw[fr]at q;cases q),λz=>(az.mp (I.zU b z)).elim (λz=>absurd (Heap.lt_size q) (by rw[z];exact cx _)) (λz=>n z)⟩;have i:∀b o,s2.heap.get? b=some o->b∈frs outer->∃O,D.get? b=some {o with slots:=O}:=λb o q g=>by obtain⟨_,o2,k,nf⟩:=I.pE.mem g;rw[q]at k;cases k;exact up b o q nf
  refine⟨⟨λb o q n g _=>?_,λb o q n g _=>?_,λb o q n C=>I.base.free b o q n C,λb o q C=>?_,I.base.tups,I.base.qa,I.base.rN⟩,λa o J=>?_⟩
  ·obtain⟨x,t⟩:=p b o q g;exact keep b o (I.base.keep b o q n g (by intro z;exact absurd (show b∈([]:aa ja)from z) (by simp))) x t
  ·obtain⟨O,y⟩:=I.base.slot b o q n g (by intro z;exact absurd (show b∈([]:aa ja)from z) (by simp));obtain⟨l,k⟩:=i b _ y g;exact⟨l,k⟩
  ·obtain⟨Q,y⟩:=I.base.there b o q C;by_cases g:b∈frs outer
   ·obtain⟨l,k⟩:=i b _ y g;exact⟨_,k⟩
   ·obtain⟨x,t⟩:=p b o q g;exact⟨Q,keep b Q y x t⟩
  ·refine(I.hok a o J).ur (λb u g q=>?_) (λ_ q=>q) λ_ _ q=>q;rcases g with rfl|g;·exact keep b u q (h b _ J).1 (h b _ J).2
   ·exact keep b u q (h b _ g).1 (h b _ g).2
def PJ{K}(X:K.In h)(q:W.excIn K C wj newId=true):
    ∃t N y x bs g u sub B d dd p o k j i D,h.get? C=some (excClassObj y x C N bs t g u sub B d dd p o k j i newId)/\h.Ns N D/\D "__init__"=none/\OwnTail h wj t:=by
 unfold W.excIn at q;split at q
 next dd M sl ho=>
  split at q
  next C' t p o k j n i hm hs=>
   simp only[aK,ee,dw]at q;obtain⟨⟨⟨⟨⟨rfl,rfl⟩,a⟩,F⟩,b⟩,e⟩:=q;rcases M with⟨y,bs,I,G,x,z,u,sub,B,d,L⟩;dsimp only at hm a b e;subst hm a;have J:sl=#[p,o,k,j,some (.builtin n),i]:=by rcases sl with⟨l⟩;simp only at hs;rw[hs]
   subst J;exact⟨t,G,y,x,bs,z,u,sub,B,d,dd,p,o,k,j,i,_,X _ _ ho,.of_isNs<|W.isNs_of_in X b,W.nsMap_none_of_in X b e,W.tail_of_in X F⟩
  next=>cases q
 next=>cases q
def aba(E:XK)(C:ja):TS:=λ_ _ H=>E (.ref C) none H
def XN(l:ExcBaseFacts B newId Si wj)(q:W.excIn K C wj newId=true)
 (u:Gl (kR (ky P w) P w K v r N c m f M A outer s H E) x)(p:v x=some (.ref C))(d:mq x):
   PS (kR (ky P w) P w K v r N c m f M A outer s H E) (.Raise (some<|.Call (.Name x np) [] [] cpos) none pos) (aba E C):=by
  intro a g n O D I h;obtain⟨bm,NS,T,R,bs,j,Q,sub,ab,J,dd,Z,Y,X,V,U,mN,hC,hN,b,k⟩:=PJ I.mm q;refine wpAny_Raise_call_subT (bm:=bm) l (mN:=mN) (k.hasType l.hasBase) (I.ok.hd rfl) rfl b (Du I u p ⟨rfl,evalArgs_empty ⟨rfl,bQ _,hC,hN,k,λG e mk=>?_⟩⟩ d);obtain⟨t,F,_,_⟩:=mk.there;have L:Inv (kR (ky P w) P w K v r N c m f M A outer s H E) a n O {g with heap:=G}:=I.kept (t':=g.toks) mk.keeps;refine Zj L F ?_ rfl rfl rfl (by intro dx z;cases z) (λ_=>rfl) (I.hok.no mk.new) h;cases z:s.heap.get? e with
  |none=>rfl
  |some o=>obtain⟨S,i⟩:=I.base.there e o z (by intro y;exact absurd (show e∈([]:aa ja)from y) (by simp));rw[mk.new]at i;cases i
def ou.Kf{x c}{e}{f}{l}{N h}{k}{g}(F:ou K x c e f l)(S:sY N h<|kf e)(len:∀b H Q E,g b H Q E->b.length=h.length)
 (d:∀(a:je) (A:kh) (outer:my) (s:jr) (H:Hp) (b:aa V) (Q:VK) (E:XK),kN k (A.deeper (envOfC c (kf e) s.heap.objs.size f a))->g b H Q E->
 ∃t,pj (kR (ky P w) P w K v r N c (kf e) f a A outer s H E) (ml e) t/\t {nx:=λ_ u=>Q .non u,rt:=Q} (start N b) H):mf P w K v r (ky P w) (k+1) f l h g:=by obtain⟨B,z,kV,q,y,C,a,ct,n,rfl,o,j⟩:=F.ex;exact HU o j S len λA outer s H b Q E p i=>d a A outer s H b Q E p i
variable{X:Cx}
def MU(i j:Int):Prop:=Builtin.Int.intBits i<=1048576/\Builtin.Int.intBits j<=1048576
def VY:kW X (binaryOp .Mult) (rI MU λi j=>.int<|i*j):=xc λ_ _ _ _ _ _ _ a q=>mul_int q (IntMulOk.of_le a.1 a.2<|by decide)
def FE(_ j:Int):Prop:=j≠0/\Builtin.Int.intBits j<=9000
def TQ(h:Builtin.Int.intBits j<=9000):j.natAbs.log2<9000:=by
 by_cases z:j.natAbs=0;·rw[z];decide+kernel
 ·exact(Nat.log2_lt z).mpr (intBits_le_iff.mp h)
def VE:kW X (binaryOp .FloorDiv) (rI FE λi j=>.int<|i.fdiv j):=xc λ_ _ _ _ _ _ _ a q=>floordiv_int a.1 q (.inl<|PyProof.noPylong_of_log2<|TQ a.2)
end
def qZ(P:jT)(w:jK)(K:jx)(c:kG)(a:jw)(g:qB)(k:Nat)(x:jd)(b:jS)(e:Sp):Prop:=
 ∃f d,mf P w K c a g k f d b e/\Binds K d b []/\W.keepIn K (.ref f)=true/\c x=some (.ref f)
abbrev kj(P:jT)(w:jK)(K:jx)(mg:kG)(base:jw):=qZ P w K mg base (ky P w)
abbrev lM(P:jT)(w:jK)(K:jx)(mg:kG)(base:jw):=mf P w K mg base (ky P w)
def WN{w}:Passes (ky P w) X E0:=λ_ _ _ _ _ _ _ h=>by obtain⟨_,_,_,_,_,_,_,_,_,_,_,_,z⟩:=h;exact z.elim
variable{X:Cx}{CX:qB}{k:Nat}{O:jS}{T:Sp}{E:XK}{x:jd}{p U:Pos}{e:jB}{Y:lr}{t:TA}
def Ed(h:qZ X.prog X.w X.K X.mg X.base CX k x O T)(g:kN k X.A)(i:Gl X x)(d:Passes CX X E)(l:PA X (e::Y) t)(c:mq x)
 (j:X.se e Y)(a:X.bk U Y):PE X (.Call (.Name x p) (e::Y) [] U) (Mc T [] E t):=by obtain⟨f,n,F,b,kp,m⟩:=h;exact WT F g i m kp b .nil d l c j a
end L2
namespace Fx
open PySem
variable{e:jT}{w:jK}{A:kh}{E:ki}{h:jw}{g:kr GenState}{d:Drawn}{t:Nat}{b:OsState}
abbrev _root_.yr:=jm je
variable{p q:jd}{C N:ja}{bs I l:kL}{i:jk}{m:jS}{sub:kL}{J:jk}{j:jm jk}{dd:mP}{F z x v r:yr}{B c a:String}
abbrev _root_.pV:=jm je->jr->Prop
abbrev r6(h:jw)(C:ja)(n:jd)(y:yr):Prop:=∀M A E g d t b (Q:pV),
 Q y ⟨h,g,d,t,b⟩->wpAny M A (typeLookup (.ref C) n) Q E ⟨h,g,d,t,b⟩
end Fx
namespace L2
open PySem PySem.Spec PyProof.Rows Fx
def yI(e C:ja)(d:mP):HO:=.ext λh=>∃a c,h.get? e=some a/\a.cls=.ref C/\(∀b,d=some b->a.dict=some b)/\a.data=.fields c
def ER{K:jx}{n}(X:K.In h)(e:W.findIn K (.ref C) n=some y):r6 h C n y:=λM A E g d t a Q b=>(W.looks_findIn (M:=M) X e).here (s:=⟨h,g,d,t,a⟩) b
end L2
namespace P2
open PySem L2
inductive D where
 |non|bl(b:Bool)|int(i:Int)|str(x:Str)|ty(n:String)|ref(a:Addr)
 |tup(ds:List D)|lst(ds:List D)|exc(c:Addr)(ns:List Str)(ds:List D)
inductive R(α:Type) where
 |ok(a:α)|ex(c:Addr)(ns:List Str)(ds:List D)|bad
abbrev jA:=aa D->R D
noncomputable def R.bind{d b:Type}:R d->(d->R b)->R b
 |.ok a,f=>f a
 |.ex c ns ds,_=>.ex c ns ds
 |.bad,_=>.bad
def GB{b a}{r:R b}{g}{y:a}(h:r.bind g=.ok y):∃x,r=.ok x/\g x=.ok y:=by
 cases r with
 |ok x=>exact⟨x,rfl,h⟩
 |_=>cases h
def KL(K:jx)(a:ja)(c:aa V):Prop:=∃(b:kL) (n:Nat),K.lookup a=some {cls:=.type "list",data:=.seq b.toArray n}/\b.length<=sizeLine/\Vals c b
def KL.sq(h:KL K a vs):lz K H a vs:=let⟨b,n,e,d,c⟩:=h;.inr ⟨_,b.toArray,n,e,rfl,rfl,rfl,by simpa using d,by simpa using c⟩
def KT(K:jx)(a:ja)(c:aa V):Prop:=∃o b n,K.lookup a=some o/\o.cls=.type "tuple"/\o.data=.seq b n/\b.size<=sizeLine/\Vals c b.toList
def namesOf(K:jx):aa jd:=match K.lookup mainGlobals with
 |some ⟨_,_,.dict a _,_⟩=>a.toList.filterMap λe=>match e.key with
  |.str x _=>some x
  |_=>none
 |_=>[]
noncomputable def XB(K:jx)(x:jd):jk:=match W.nsIn K mainGlobals x with
 |some (some (.ref f))=>(match K.lookup f with
  |some ⟨_,_,.func a,_⟩=>(match a.defaults,a.kwdefaults with
   |.none,.none=>true
   |_,_=>false)
  |_=>false)
 |_=>false
noncomputable def m8(K:jx):aa (jd×ja×ja):=(namesOf K).filterMap λx=>if XB K x then(W.tabIn K x).map λq=>(x,q.1,q.2)else none
def md(c:ja)(q:jd):HO:=.ext λh=>h.CodeRec (.ref c) q
def mh(K:jx)(H:Hp):Prop:=∀t∈m8 K,∃a,H t.2.2=some (.l6 a)/\TriplesOk a.toList/\∀b d,codeAmong b a.toList=some d->∃c,d=.ref c/\H c=some (md c<|t.1++".<locals>.<lambda>")
def NT(o:HO):Prop:=∀a,o≠.l6 a
def oi:NT (.lst l):=λ_ h=>nomatch h
def Vj:NT (.tup l):=λ_ h=>nomatch h
def Ka{o u}:NT (.ku o u):=λ_ h=>nomatch h
def zq:NT (.xd l):=λ_ h=>nomatch h
def zp:NT (.ext φ):=λ_ h=>nomatch h
structure lj(K:jx)(H H':Hp):Prop where
 at':∀b o,NT o->H b=some o->H' b=some o
 fr:∀b,H' b=none->H b=none
 tt:mh K H->mh K H'
def lj.refl{K}(H:Hp):lj K H H:=⟨λ_ _ _ h=>h,λ_ h=>h,λh=>h⟩
def lj.trans(a:lj K H H1)(b:lj K H1 H2):lj K H H2:=⟨λc o n h=>b.at' c o n<|a.at' c o n h,λc h=>a.fr c<|b.fr c h,λh=>b.tt<|a.tt h⟩
def lj.free(e:lj K H H')(h:H' l=Option.none):H l=Option.none:=e.fr l h
def mh.off{g}(t:mh K H)(i:∀a,H p≠some (.l6 a))(j:∀q,H p≠some (md p q))(e:∀b,b≠p->g b=H b):mh K g:=λx h=>by obtain⟨a,d,l,k⟩:=t x h;refine⟨a,by rw[e _ λw=>i a (by rw[<-w];exact d)];exact d,l,λc o n=>?_⟩;obtain⟨r,m,f⟩:=k c o n;exact⟨r,m,by rw[e _ λw=>j _ (by rw[<-w];exact f)];exact f⟩
def ze{H:Hp}(h:H p=some (.lst l)):(∀a,H p≠some (.l6 a))/\∀q,H p≠some (md p q):=
 ⟨λa w=>(by rw[h]at w;exact nomatch w),λq w=>(by rw[h]at w;unfold md at w;exact nomatch w)⟩
def mh.upd{o}(t:mh K H)(g:∀a,H p≠some (.l6 a))(h:∀q,H p≠some (md p q)):mh K (upd H p o):=λx f=>by obtain⟨a,c,j,i⟩:=t x f;refine⟨a,by rw[jL λw=>g a (by rw[<-w];exact c)];exact c,j,λb l e=>?_⟩;obtain⟨m,k,d⟩:=i b l e;exact⟨m,k,by rw[jL λw=>h _ (by rw[<-w];exact d)];exact d⟩
mutual
inductive Rep(K:W.Frag)(al:Addr->Prop)(H:Hp):V->D->Prop
 |non:Rep K al H .non .non
 |bl (b:Bool):Rep K al H (.bl b) (.bl b)
 |int (i:Int):Rep K al H (.int i) (.int i)
 |str (x:Str):Rep K al H (.str x) (.str x)
 |ty (n:String):Rep K al H (.ty n) (.ty n)
 |ref (a:Addr):Rep K al H (.ref a) (.ref a)
 |tup {a:Addr} {vs:List V} {ds:List D}:(al a/\H a=some (.tup vs))\/KT K a vs->jv K al H vs ds->Rep K al H (.ref a) (.tup ds)
 |lst {a:Addr} {vs:List V} {ds:List D}:(al a/\Rd H a (.lst vs))\/KL K a vs->jv K al H vs ds->Rep K al H (.ref a) (.lst ds)
 |exc {a c dx:Addr} {ns:List Str} {vs:List V} {ds:List D}:al a->H a=some (yI a c<|some dx)->al dx->H dx=some (.xd<|ns.zip vs)->jv K al H vs ds->Rep K al H (.ref a) (.exc c ns ds)
 |HJ {a c:Addr}:al a->H a=some (yI a c none)->Rep K al H (.ref a) (.exc c [] [])
inductive jv(K:W.Frag)(al:Addr->Prop)(H:Hp):List V->List D->Prop
 |nil:jv K al H [] []
 |cons {v:V} {d:D} {vs:List V} {ds:List D}:Rep K al H v d->jv K al H vs ds->jv K al H (v::vs) (d::ds)
end
abbrev _root_.kM:=ja->Prop
def Xt(c:kM)(H:Hp)(b:kM)(d:Hp):Prop:=∀a o,NT o->c a->H a=some o->b a/\d a=some o
def Xt.refl{a}{H:Hp}:Xt a H a H:=λ_ _ _ h e=>⟨h,e⟩
def Xt.trans(x:Xt al H qJ H1)(y:Xt qJ H1 yx H2):Xt al H yx H2:=λa o n h e=>y a o n (x a o n h e).1 (x a o n h e).2
def Xt.of(s:lj K H H'):Xt al H al H':=λa o n h e=>⟨h,s.at' a o n e⟩
def Xt.sub{c b}(s:∀a,c a->b a):Xt c H b H:=λa o _ h e=>⟨s a h,e⟩
def Zl{u}(h:Xt al H kH H')(n:NT u)(z:al a/\Rd H a u):kH a/\Rd H' a u:=by
 obtain⟨b,z2|⟨o,z2⟩⟩:=z;·exact⟨(h a _ n b z2).1,.inl (h a _ n b z2).2⟩
 ·exact⟨(h a _ Ka b z2).1,.inr ⟨o,(h a _ Ka b z2).2⟩⟩
def Rep.mv(h:Xt al H kH H'){v d}(r:Rep K al H v d):Rep K kH H' v d:=
 Rep.rec (motive_1:=λv d _=>Rep K kH H' v d) (motive_2:=λv d _=>jv K kH H' v d) .non .bl .int .str .ty .ref (λp _ q=>.tup (p.elim (λz=>.inl<|h _ _ Vj z.1 z.2) .inr) q) (λp _ q=>.lst (p.elim (λz=>.inl<|Zl h oi z) .inr) q)
  (λb a e c _ q=>.exc (h _ _ zp b a).1 (h _ _ zp b a).2 (h _ _ zq e c).1 (h _ _ zq e c).2 q) (λb a=>.HJ (h _ _ zp b a).1 (h _ _ zp b a).2) .nil (λ_ _ p q=>.cons p q) r
def jv.mv(h:Xt al H kH H'){v d}(r:jv K al H v d):jv K kH H' v d:=by
 induction d generalizing v with
 |nil=>cases r;exact .nil
 |cons d _ a=>
  cases r with
  |cons p q=>exact .cons (p.mv h) (a q)
section
abbrev _root_.j7:=aa D
variable{K:jx}{l F:kM}{H m:Hp}{v:V}{d:D}{c B:aa V}{j C:j7}
def Rep.up(r:Rep K l H v d)(s:lj K H m):Rep K l m v d:=r.mv (.of s)
def jv.up(r:jv K l H c j)(s:lj K H m):jv K l m c j:=r.mv (.of s)
def jv.length(r:jv K l H c j):c.length=j.length:=by
 induction j generalizing c with
 |nil=>cases r;rfl
 |cons d j e=>cases r with|cons a b=>rw[aw,aw,e b]
def jv.append(r:jv K l H c j)(q:jv K l H B C):jv K l H (c++B) (j++C):=by
 induction j generalizing c with
 |nil=>cases r;exact q
 |cons d j e=>cases r with|cons a b=>exact .cons a (e b)
def jv.get(r:jv K l H c j){i:Nat}{x}(e:c[i]?=some x):∃y,j[i]?=some y/\Rep K l H x y:=by
 induction j generalizing c i with
 |nil=>cases r;simp at e
 |cons d j f=>
  cases r with
  |cons a b=>
   cases i with
   |zero=>simp at e;subst e;exact⟨_,rfl,a⟩
   |succ i=>simpa using f b (by simpa using e)
def jv.getD(r:jv K l H c j){i:Nat}(e:j[i]?=some y):∃x,c[i]?=some x/\Rep K l H x y:=by
 have f:=r.length;have a:i<c.length:=by rw[f];exact(aC.mp e).1
 obtain⟨z,b,q⟩:=r.get (ar a);rw[e]at b;cases b;exact⟨_,ar a,q⟩
def jv.drop(r:jv K l H c j)(n):jv K l H (c.drop n) (j.drop n):=by
 induction n generalizing c j with
 |zero=>exact r
 |succ n e=>
  cases r with
  |nil=>exact .nil
  |cons a b=>exact e b
def jv.take(r:jv K l H c j)(n):jv K l H (c.take n) (j.take n):=by
 induction n generalizing c j with
 |zero=>exact .nil
 |succ n e=>
  cases r with
  |nil=>exact .nil
  |cons a b=>exact .cons a (e b)
def Rep.pO(r:Rep K l H v<|.tup j):∃a c,v=.ref a/\mx K H a c/\jv K l H c j:=by
 cases r with
 |tup p q=>exact⟨_,_,rfl,p.elim (λz=>.inl<|.inl z.2) .inr,q⟩
def Rep.oW(r:Rep K l H v<|.lst j):∃a c,v=.ref a/\lz K H a c/\jv K l H c j:=by
 cases r with
 |lst p q=>exact⟨_,_,rfl,p.elim (λz=>.inl z.2) KL.sq,q⟩
def Rep.zd(r:Rep K l H v<|.lst j):∃a c,v=.ref a/\(Rd H a (.lst c)\/KL K a c)/\jv K l H c j:=by
 cases r with
 |lst p q=>exact⟨_,_,rfl,p.imp (λz=>z.2) id,q⟩
def mH{o}(h:H p=none):lj K H (upd H p o):=⟨λb u _ q=>by rw[jL (nS q h)];exact q,λb q=>by
    by_cases z:b=p;· rw[z];exact h
    · rw[jL z]at q;exact q,λt=>t.upd (λa w=>by rw[h]at w;cases w) λq w=>by rw[h]at w;cases w⟩
def jv.ET(r:jv K l H c j)(h:H p=none)(a:l p):Rep K l (upd H p<|.tup c) (.ref p) (.tup j):=.tup (.inl ⟨a,kK⟩) (r.up<|mH h)
def jv.tY(r:jv K l H c j)(h:H p=none)(a:l p):Rep K l (upd H p<|.lst c) (.ref p) (.lst j):=.lst (.inl ⟨a,.inl kK⟩) (r.up<|mH h)
end
inductive Sl where
 |no|sh(d:D)|ow(ds:List D)
abbrev j9(x:Int):Sl:=.sh (.int x)
abbrev jO(x:j7):Sl:=.sh (.lst x)
abbrev oJ(x:jd):Sl:=.sh (.str x)
abbrev Ev:=aa Sl
abbrev jQ:=Ev->R D
structure RS(K:jx)(P:kM)(H0:Hp)(al:kM)(H:Hp)(σ:St)(ρ:Ev):Prop where
 same:lj K H0 H
 tt:mh K H
 fresh:∀a,H a=none->al a
 sub:∀a,al a->P a
 pf:∀a,H0 a=none->P a
 len:ρ.length=σ.length
 sh:∀(i:Nat) (d:D),ρ[i]?=some (.sh d)->∃v,σ[i]?=some (some v)/\Rep K al H v d
 ow:∀(i:Nat) (ds:j7),ρ[i]?=some (.ow ds)->∃a vs,σ[i]?=some (some<|.ref a)/\H a=some (.lst vs)/\jv K al H vs ds/\¬al a/\H0 a=none
 apart:∀(i j:Nat) (ds OY:j7) (a:ja),ρ[i]?=some (.ow ds)->ρ[j]?=some (.ow OY)->σ[i]?=some (some<|.ref a)->σ[j]?=some (some<|.ref a)->i=j
section
variable{K:jx}{P l:kM}{p H x:Hp}{m:St}{c:Ev}
def RS.grow(r:RS K P p l H m c)(s:lj K H x):RS K P p l x m c where
 same:=r.same.trans s
 tt:=s.tt r.tt
 fresh:=λa h=>r.fresh a (s.free h)
 sub:=r.sub
 pf:=r.pf
 len:=r.len
 sh:=λi d e=>let⟨v,a,b⟩:=r.sh i d e;⟨v,a,b.up s⟩
 ow:=λi o e=>let⟨a,f,n,k,j,g⟩:=r.ow i o e;⟨a,f,n,s.at' _ _ oi k,j.up s,g⟩
 apart:=r.apart
def RS.set(r:RS K P p l H m c){v}{d:D}(n:i<c.length)(q:Rep K l H v d):RS K P p l H (m.set i<|some v) (c.set i<|.sh d) where
 same:=r.same
 tt:=r.tt
 fresh:=r.fresh
 sub:=r.sub
 pf:=r.pf
 len:=by rw[aT,aT];exact r.len
 sh:=λj e h=>by
  by_cases z:i=j
  ·subst z;rw[aF n]at h;cases h;exact⟨v,aF<|by rw[<-r.len];exact n,q⟩
  ·rw[av z]at h;obtain⟨w,a,b⟩:=r.sh j e h;exact⟨w,by rw[av z];exact a,b⟩
 ow:=λj s h=>by
  by_cases z:i=j
  ·subst z;rw[aF n]at h;cases h
  ·rw[av z]at h;obtain⟨a,A,g,f⟩:=r.ow j s h;exact⟨a,A,by rw[av z];exact g,f⟩
 apart:=λj k s o a g f u t=>by
  by_cases z:i=j;·subst z;rw[aF n]at g;cases g
  ·by_cases y:i=k;·subst y;rw[aF n]at f;cases f
   ·rw[av z]at g u;rw[av y]at f t;exact r.apart j k s o a g f u t
end
def XR(K:jx)(e:kM)(H:Hp)(f:mP)(b:jS)(c:j7):Prop:=
 match f with
 |none=>b=[]/\c=[]
 |some d=>e d/\∃a,H d=some (.xd<|b.zip a)/\jv K e H a c
def XR.mv(h:Xt al H kH H')(r:XR K al H dx ns ds):XR K kH H' dx ns ds:=by
 cases dx with
 |none=>exact r
 |some d=>obtain⟨a,b,e,q⟩:=r;exact⟨(h _ _ zq a e).1,b,(h _ _ zq a e).2,q.mv h⟩
def Aft{d:Type}(K:jx)(f:kM)(E:XK)(H:Hp)(r:R d)(k:d->Hp->Prop):Prop:=
 match r with
 |.ok a=>∀b,lj K H b->k a b
 |.ex c ns ds=>∀e b,lj K H b->XR K f b e ns ds->E (.ref c) e b
 |.bad=>False
section
variable{e j:Type}{K:jx}{b:kM}{E:XK}{H i:Hp}{r:R e}{k h:e->Hp->Prop}
def Aft.up(a:Aft K b E H r k)(s:lj K H i):Aft K b E i r k:=by
 cases r with
 |ok x=>exact λf d=>a f (s.trans d)
 |ex c l m=>exact λg f d=>a g f (s.trans d)
 |bad=>exact a
def Aft.mono(a:Aft K b E H r k)(m:∀{x c},lj K H c->k x c->h x c):Aft K b E H r h:=by
 cases r with
 |ok x=>exact λc d=>m d (a c d)
 |_=>exact a
def Aft.split{g:e->R j}{k}(a:Aft K b E H (r.bind g) k):Aft K b E H r (λx c=>Aft K b E c (g x) k):=by
 cases r with
 |ok x=>exact λc d=>Aft.up a d
 |_=>exact a
end
structure DE(X:Cx)(E:XK)(e:jB)(f:jQ):Prop where
 w_::
 o_:∃t:TE,PE X e t/\
 ∀{P H0 al H σ ρ} {Q:VK},RS X.K P H0 al H σ ρ->Aft X.K al E H (f ρ) (λd H'=>∀v,Rep X.K al H' v d->Q v H')->t σ H Q
abbrev _root_.mi:=Ev->R jk
structure DT(X:Cx)(E:XK)(e:jB)(f:mi):Prop where
 w_::
 o_:∃t:TT,PT X e t/\
 ∀{P H0 al H σ ρ} {Q:sd},RS X.K P H0 al H σ ρ->Aft X.K al E H (f ρ) Q->t σ H Q
structure DW(X:Cx)(E:XK)(e:jB)(f:mi):Prop where
 w_::
 o_:∃t:TT,PW X e t/\
 ∀{P H0 al H σ ρ} {Q:sd},RS X.K P H0 al H σ ρ->Aft X.K al E H (f ρ) Q->t σ H Q
abbrev _root_.mj:=Ev->R (aa D)
structure DA(X:Cx)(E:XK)(es:lr)(f:mj):Prop where
 w_::
 o_:∃t:TA,PA X es t/\
 (∀{P H0 al H σ ρ} {Q:aa V->Hp->Prop},RS X.K P H0 al H σ ρ->Aft X.K al E H (f ρ) (λds H'=>∀vs,jv X.K al H' vs ds->Q vs H')->t σ H Q)/\∀ρ ds,f ρ=.ok ds->ds.length=es.length
structure DN(X:Cx)(E:XK)(e:jB)(f:mj):Prop where
 w_::
 o_:∃t:TE,PE X e t/\
 ∀{P H0 al H σ ρ} {Q:VK},RS X.K P H0 al H σ ρ->Aft X.K al E H (f ρ) (λds H'=>∀p vs,H' p=none->jv X.K al H' vs ds->Q (.ref p) (upd H' p<|.lst vs))->t σ H Q
abbrev _root_.qI:=D->D->R D
structure lh(X:Cx)(E:XK)(op:je->je->Sem je)(g:qI):Prop where
 w_::
 o_:∃r:R2,kW X op r/\
 ∀{al H x y dx dy} {Q:VK},(∀a,H a=none->al a)->Rep X.K al H x dx->Rep X.K al H y dy->Aft X.K al E H (g dx dy) (λd H'=>∀v,Rep X.K al H' v d->Q v H')->r x y H Q
structure AE(X:Cx)(E:XK)(g:qI):Prop where
 w_::
 o_:∃r:R2,qF X r/\
 ∀{al H x y dx dy} {Q:VK},(∀a,H a=none->al a)->Rep X.K al H x dx->Rep X.K al H y dy->Aft X.K al E H (g dx dy) (λd H'=>∀v,Rep X.K al H' v d->Q v H')->r x y H Q
structure Ga(X:Cx)(E:XK)(op:je->Sem je)(g:D->R D):Prop where
 w_::
 o_:∃r:V->Hp->VK->Prop,yt X op r/\
 ∀{al H x dx} {Q:VK},(∀a,H a=none->al a)->Rep X.K al H x dx->Aft X.K al E H (g dx) (λd H'=>∀v,Rep X.K al H' v d->Q v H')->r x H Q
structure qW(X:Cx)(E:XK)(f:je)(g:jA):Prop where
 w_::
 o_:∃r:aa V->Hp->VK->Prop,mV X f r/\
 ∀{al H xs ds} {Q:VK},(∀a,H a=none->al a)->jv X.K al H xs ds->Aft X.K al E H (g ds) (λd H'=>∀v,Rep X.K al H' v d->Q v H')->r xs H Q
noncomputable def dV(i:Nat):jQ:=λa=>match a[i]? with
 |some (.sh d)=>.ok d
 |_=>.bad
noncomputable def dC(d:D):jQ:=λ_=>.ok d
def d1(g:D->R D)(a:jQ):jQ:=λb=>(a b).bind g
def d2(g:qI)(a b:jQ):jQ:=λc=>(a c).bind λx=>(b c).bind λy=>g x y
abbrev jc(i:Int):jQ:=dC (.int i)
abbrev jF(x:jd):jQ:=dC (.str x)
def tB(d:D):R jk:=match d with
 |.bl b=>.ok b
 |_=>.bad
noncomputable def tT(d:D):R jk:=match d with
 |.non=>.ok false
 |.bl b=>.ok b
 |.int i=>.ok (i !=0)
 |.str y=>if y.length<=sizeLine then .ok ((y.length:Int)!=0)else .bad
 |.lst ds=>.ok (!ds.isEmpty)
 |.tup ds=>.ok (!ds.isEmpty)
 |_=>.bad
def b1(t:D->R jk)(a:jQ):Ev->R jk:=λb=>(a b).bind t
def qL(a b:mi):Ev->R jk:=λd=>(a d).bind λc=>if c=true then b d else .ok false
def rr(a b:mi):Ev->R jk:=λd=>(a d).bind λc=>if c=true then .ok true else b d
def uS(a:mi):Ev->R jk:=λb=>(a b).bind λc=>.ok (!c)
def BG(a b:jQ):jQ:=λd=>((a d).bind tB).bind λc=>if c=true then b d else .ok (.bl false)
def BH(a:jQ):jQ:=λb=>((a b).bind tB).bind λc=>.ok (.bl<|!c)
def wq(c:mi)(a b:jQ):jQ:=λd=>(c d).bind λk=>if k=true then a d else b d
noncomputable def jb:Ev->R (aa D):=λ_=>.ok []
def ba(a:jQ)(r:mj):Ev->R (aa D):=λb=>(a b).bind λx=>(r b).bind λc=>.ok (x::c)
def dA(g:jA)(a:mj):jQ:=λb=>(a b).bind g
def jN(a:j7):R D:=if a.length<=sizeLine then .ok (.tup a)else .bad
def jM(a:j7):R (aa D):=if a.length<=sizeLine then .ok a else .bad
def jz(g:mj):jQ:=λa=>(g a).bind λb=>.ok (.lst b)
section
variable{X:Cx}{E:XK}{e a b c:jB}{f m I:jQ}{l:Pos}
def BK(i){x}(hN:autoParam (X.N[i]?=some x) aZ0)(hv:autoParam (rm X.env.scope x) aZ5)(k:autoParam (mq x) aZ1)
 (g:autoParam ((x==("__classdict__":jd))=false) aZ1):DE X E (.Name x l) (dV i):=by
  refine⟨_,xh hN hv k g,λ{_ _ _ H _ j _} r h=>?_⟩;unfold dV at h;cases q:j[i]? with
  |none=>rw[q]at h;exact h.elim
  |some s=>
   cases s with
   |sh d=>rw[q]at h;obtain⟨v,o,n⟩:=r.sh i d q;exact⟨v,o,h H (.refl H) v n⟩
   |_=>rw[q]at h;exact h.elim
def wu{i j}:DE X E (.Constant (.int i) j l) (jc i):=⟨_,W5,λ_ h=>h _ (.refl _) _<|.int i⟩
def Ot{i j}:DE X E (.Constant (.bool i) j l) (dC<|.bl i):=⟨_,WR,λ_ h=>h _ (.refl _) _<|.bl i⟩
def Oz{j}:DE X E (.Constant .none j l) (dC .non):=⟨_,Ee,λ_ h=>h _ (.refl _) _ .non⟩
def OE{i j}:DE X E (.Constant (.str i) j l) (jF i):=⟨_,Xf,λ_ h=>h _ (.refl _) _<|.str i⟩
def OG{x}{n}(i:Gl X x)(g:X.mg x=none)(hv:bootBuiltins x=some (.type n))(d:autoParam (x≠"__name__") aZ1)(j:autoParam (mq x) aZ1):DE X E (.Name x l) (dC<|.ty n):=
 ⟨_,WS (v:=.ty n) i g hv rfl d j,λ_ h=>h _ (.refl _) _<|.ty n⟩
def OC{j:Operator}{g}(y:lh X E (binaryOp j) g)(A:DE X E a m)(z:DE X E b I):DE X E (.BinOp a j b l) (d2 g m I):=by obtain⟨r,p,o⟩:=y;obtain⟨F,x,t⟩:=A;obtain⟨D,w,q⟩:=z;refine⟨_,KD p x w,λs h=>t s<|Aft.mono (Aft.split h) λi C v k=>q (s.grow i)<|Aft.mono (Aft.split C) λd B u n=>?_⟩;exact o ((s.grow i).grow d).fresh (k.up d) n B
def OH{g:D->R D}(p:Ga X E (unaryOp op) g)(q:DE X E a m):DE X E (.UnaryOp op a l) (d1 g m):=by obtain⟨r,k,j⟩:=p;obtain⟨u,o,n⟩:=q;exact⟨_,Xh k o,λs h=>n s<|Aft.mono (Aft.split h) λd t v i=>j (s.grow d).fresh i t⟩
def Ow{d:CmpOp}{g}(y:lh X E (compareOp d) g)(B:DE X E a m)(A:DE X E b I)(z:autoParam (behindInMarks d b=false) aZ6):DE X E (.Compare a [d] [b] l) (d2 g m I):=by obtain⟨r,p,o⟩:=y;obtain⟨G,x,t⟩:=B;obtain⟨F,w,q⟩:=A;refine⟨_,Ky p x w z,λs h=>t s<|Aft.mono (Aft.split h) λj D v k=>q (s.grow j)<|Aft.mono (Aft.split D) λi C u n=>?_⟩;exact o ((s.grow j).grow i).fresh (k.up i) n C
def vq{d k}(r:Rep K al H v d)(h:Aft K al E H (tB d) k):∃c,v=.bl c/\k c H:=by
 cases r with
 |bl b=>exact⟨b,rfl,h H<|.refl H⟩
 |_=>exact(h:False).elim
def O9{j:CmpOp}{g}(F:lh X E (compareOp j) g)(J:DE X E a m)(H:DE X E b I)(G:autoParam (behindInMarks j b=false) aZ6):DT X E (.Compare a [j] [b] l) (b1 tB<|d2 g m I):=by
 obtain⟨r,z,t⟩:=F;obtain⟨R,D,B⟩:=J;obtain⟨P,C,A⟩:=H;refine⟨_,zK z D C G,λ{_ _ N _ _ _ Q} s h=>B s<|Aft.mono (Aft.split<|Aft.split h) λ{x _} o M v p=>?_⟩;refine A (s.grow o) (Aft.mono (Aft.split (g:=λy=>g x y) (k:=λd O=>Aft X.K N E O (tB d) Q) ?_) λn L u q=>?_);·exact M
 ·exact t ((s.grow o).grow n).fresh (p.up n) q (Aft.mono L λS K w i=>vq i K)
def zN{d k}(r:Rep K al H v d)(h:Aft K al E H (tT d) k):∃c,vV K v H c/\k c H:=by
 cases r with
 |non=>exact⟨_,rfl,h H<|.refl H⟩
 |bl b=>exact⟨_,rfl,h H<|.refl H⟩
 |int b=>exact⟨_,rfl,h H<|.refl H⟩
 |str b=>
  unfold tT at h;by_cases z:b.length<=sizeLine
  ·simp only[z,cQ]at h;exact⟨_,⟨z,rfl⟩,h H<|.refl H⟩
  ·simp only[z,bT]at h;exact h.elim
 |tup p q=>refine⟨_,.inr<|.inl ⟨_,p.elim (λz=>.inl<|.inl z.2) .inr,?_⟩,h H<|.refl H⟩;cases q<;>rfl
 |lst p q=>refine⟨_,.inl ⟨_,p.elim (λz=>.inl z.2) KL.sq,?_⟩,h H<|.refl H⟩;cases q<;>rfl
 |_=>exact(h:False).elim
def Pd(n:DE X E e m)(k:autoParam (∀d,isTrue e X.env d=(do let v<-d;standAt e.pos;holding [v] (truthy v))) aZ2):DT X E e (b1 tT m):=by obtain⟨p,j,i⟩:=n;exact⟨_,K9 j k,λs h=>i s<|Aft.mono (Aft.split h) λq o v g=>zN g o⟩
variable{C J:mi}{rest:lr}
def DW.dt(h:DW X E e C):DT X E e C:=let⟨t,p,r⟩:=h;⟨t,p.pt,r⟩
def Ph(h:DT X E a C):DW X E (.BoolOp .And [a] l) C:=let⟨t,p,r⟩:=h;⟨t,Le p,r⟩
def Pl(h:DT X E a C):DW X E (.BoolOp .Or [a] l) C:=let⟨t,p,r⟩:=h;⟨t,XX p,r⟩
def Pg(q:DT X E a C)(p:DW X E (.BoolOp .And (b::rest) l) J):DW X E (.BoolOp .And (a::b::rest) l) (qL C J):=by
 obtain⟨t,o,k⟩:=q;obtain⟨r,n,j⟩:=p;refine⟨_,Ld o n,λs h=>k s<|Aft.mono (Aft.split h) λ{c g} i d=>?_⟩;cases c with
 |true=>exact tW (j (s.grow i) d)
 |false=>exact sF (d g<|.refl g)
def Pj(q:DT X E a C)(p:DW X E (.BoolOp .Or (b::rest) l) J):DW X E (.BoolOp .Or (a::b::rest) l) (rr C J):=by
 obtain⟨t,o,k⟩:=q;obtain⟨r,n,j⟩:=p;refine⟨_,XW o n,λs h=>k s<|Aft.mono (Aft.split h) λ{c g} i d=>?_⟩;cases c with
 |true=>exact tW (d g<|.refl g)
 |false=>exact sF (j (s.grow i) d)
def Pc(j:DT X E a C):DT X E (.UnaryOp .Not a l) (uS C):=by obtain⟨n,i,g⟩:=j;exact⟨_,XQ i,λs h=>g s<|Aft.mono (Aft.split h) λ{_ d} o k=>k d<|.refl d⟩
def OB(h:DE X E a m):DE X E (.BoolOp op [a] l) m:=let⟨t,p,r⟩:=h;⟨t,W9 p,r⟩
def Oq(r:DE X E a m)(q:DE X E (.BoolOp .And (b::rest) l) I):DE X E (.BoolOp .And (a::b::rest) l) (BG m I):=by
 obtain⟨w,p,n⟩:=r;obtain⟨u,o,k⟩:=q;refine⟨_,WO p o,λs h=>n s<|Aft.mono (Aft.split<|Aft.split h) λ{_ g} i t v j=>?_⟩;obtain⟨c,e,d⟩:=vq j t;refine⟨c,e,?_⟩;cases c with
 |true=>exact tW (k (s.grow i) d)
 |false=>exact sF (d g (.refl g) _<|.bl false)
def OA(k:DE X E a m):DE X E (.UnaryOp .Not a l) (BH m):=by obtain⟨p,j,i⟩:=k;refine⟨_,KC j,λs h=>i s<|Aft.mono (Aft.split<|Aft.split h) λ{_ d} q o v g=>?_⟩;obtain⟨c,e,n⟩:=vq g o;exact⟨c,e,n d (.refl d) _<|.bl _⟩
def Ox(q:DT X E c C)(t:DE X E a m)(r:DE X E b I):DE X E (.IfExp c a b l) (wq C m I):=by
 obtain⟨u,n,i⟩:=q;obtain⟨w,p,k⟩:=t;obtain⟨v,o,j⟩:=r;refine⟨_,W4 n p o,λs h=>i s<|Aft.mono (Aft.split h) λ{c _} d g=>?_⟩;cases c with
 |true=>exact tW (k (s.grow d) g)
 |false=>exact sF (j (s.grow d) g)
variable{B:lr}{fs:mj}
def Oo:DA X E [] jb:=⟨_,sQ,λ_ h=>h _ (.refl _) _ .nil,λ_ _ h=>by cases h;rfl⟩
def Om(G:DE X E e m)(F:DA X E B fs)(A:autoParam (X.se e B) aZ0):DA X E (e::B) (ba m fs):=by
 obtain⟨L,w,r⟩:=G;obtain⟨K,t,q,z⟩:=F;refine⟨_,sP w t A,λ{_ _ _ _ _ i _} s h=>r s<|Aft.mono (Aft.split h) λ{x _} n g v o=>q (s.grow n)<|Aft.mono (Aft.split g) λ{y j} k d u p=>?_,λi M h=>?_⟩;·exact d j (.refl j) _ (.cons (o.up k) p)
 ·obtain⟨x,_,g⟩:=GB h;obtain⟨y,d,H⟩:=GB g;cases H;rw[aw,aw,z i y d]
def OF{j}(q:DA X E B fs):DE X E (.Tuple B j l) (dA jN fs):=by
 obtain⟨r,o,n,_⟩:=q;refine⟨_,Ef o,λs h=>n s<|Aft.mono (Aft.split h) λ{x _} k d v i=>?_⟩;unfold jN at d;by_cases z:x.length<=sizeLine
 ·rw[au z]at d;exact⟨by rw[i.length];exact z,λp g=>d _ (mH g) _<|i.ET g<|(s.grow k).fresh p g⟩
 ·rw[ax z]at d;exact d.elim
def OR(q:DA X E B fs):DN X E (.List B l) (λj=>(fs j).bind jM):=by
 obtain⟨r,n,k,_⟩:=q;refine⟨_,W6 n,λs h=>k s<|Aft.mono (Aft.split h) λ{x i} t d v g=>?_⟩;unfold jM at d;by_cases z:x.length<=sizeLine
 ·rw[au z]at d;exact⟨by rw[g.length];exact z,λp o=>d i (.refl i) p v o g⟩
 ·rw[ax z]at d;exact d.elim
def DN.de{g}(h:DN X E e g):DE X E e (jz g):=by obtain⟨t,p,r⟩:=h;exact⟨t,p,λs h=>r s<|Aft.mono (Aft.split h) λi k p n d j=>k _ (mH d) _<|j.tY d<|(s.grow i).fresh p d⟩
def Hh{g}(y:AE X E g)(A:DE X E a m)(z:DE X E b I)(x:autoParam (A5 b) aZ7):DE X E (.Subscript a b l) (d2 g m I):=by obtain⟨r,o,n⟩:=y;obtain⟨K,w,q⟩:=A;obtain⟨H,t,p⟩:=z;refine⟨_,KA o w t x,λs h=>q s<|Aft.mono (Aft.split h) λi G v j=>p (s.grow i)<|Aft.mono (Aft.split G) λd F u k=>?_⟩;exact n ((s.grow i).grow d).fresh (j.up d) k F
variable{x:jd}{p:Pos}
def Ov{j:String}{g}(F:qW X E (.builtin j) g)(z:Gl X x)(y:X.mg x=none)(hv:bootBuiltins x=some (.builtin j))(G:DA X E (e::B) fs)(w:autoParam (x≠"__name__") aZ1)(i:autoParam (mq x) aZ1)
 (A:autoParam (X.se e B) aZ0)(d:autoParam (X.bk l B) aZ0):DE X E (.Call (.Name x p) (e::B) [] l) (dA g fs):=by obtain⟨r,q,o⟩:=F;obtain⟨K,u,t,_⟩:=G;exact⟨_,WU q z y hv u w i A d,λs h=>t s<|Aft.mono (Aft.split h) λk H v n=>o (s.grow k).fresh n H⟩
def ly(n:Nat)(K:jx)(F:jA):Sp:=λh H Q E=>h.length=n/\mh K H/\∃g i,(∀a,H a=none->g a)/\jv K g H h i/\Aft K g E H (F i) (λd j=>∀v,Rep K g j v d->Q v j)
variable{k n:Nat}{L:jS}{F:jA}
def Ou(G:qZ X.prog X.w X.K X.mg X.base (ky X.prog X.w) k x L<|ly n X.K F)(y:kN k X.A)(A:Gl X x)(w:Passes (ky X.prog X.w) X E)(z:(e::B).length=n)(K:DA X E (e::B) fs)(i:autoParam (mq x) aZ1)
    (H:autoParam (X.se e B) aZ0)(g:autoParam (X.bk l B) aZ0):DE X E (.Call (.Name x p) (e::B) [] l) (dA F fs):=by
 obtain⟨O,u,t,v⟩:=K;refine⟨_,Ed G y A w u i H g,λ{_ _ M _ _ o _} s h=>t s ?_⟩;unfold dA at h;cases q:fs o with
 |ok j=>rw[q]at h;intro Q d N r;rw[bz];exact⟨by rw[r.length,v o j q];exact z,(s.grow d).tt,M,j,(s.grow d).fresh,r,Aft.up h d⟩
 |ex c P j=>rw[q]at h;exact h
 |bad=>rw[q]at h;exact h.elim
end
inductive RT where
 |nx(ρ:Ev)|rt(d:D)|bk(ρ:Ev)|ct(ρ:Ev)|ex(c:Addr)(ns:List Str)(ds:List D)|bad
abbrev jV:=Ev->RT
noncomputable def toS{b:Type}(r:R b)(k:b->RT):RT:=match r with
 |.ok a=>k a
 |.ex c ns ds=>.ex c ns ds
 |.bad=>.bad
def uk(r:RT)(k:jV):RT:=match r with
 |.nx a=>k a
 |r=>r
def lu(K:jx)(P:kM)(g:Hp)(E:XK)(D:Ends)(h:kM)(H:Hp):RT->Prop
 |.nx f=>∀e a b,Xt h H e a->RS K P g e a b f->D.nx b a
 |.bk f=>∀e a b,Xt h H e a->RS K P g e a b f->D.bk b a
 |.ct f=>∀e a b,Xt h H e a->RS K P g e a b f->D.ct b a
 |.rt d=>∀v a,lj K g a->Rep K P a v d->D.rt v a
 |.ex c ns ds=>∀i a,lj K g a->XR K P a i ns ds->E (.ref c) i a
 |.bad=>False
section
variable{K:jx}{P b e:kM}{i H j:Hp}{E:XK}{D:Ends}{s:RT}{l:St}{m:Ev}
def lu.ext(h:lu K P i E D b H s)(x:Xt b H e j):lu K P i E D e j s:=by
 cases s with
 |rt d=>exact h
 |ex c k n=>exact h
 |bad=>exact h
 |_=>exact λa g f y r=>h a g f (x.trans y) r
def lu.rK{f}{r:R f}{k}(h:lu K P i E D b H<|toS r k)(s:RS K P i b H l m):Aft K b E H r (λx a=>lu K P i E D b a<|k x):=by
 cases r with
 |ok x=>exact λa d=>lu.ext h (.of d)
 |ex c n o=>exact λg a d q=>h g a (s.same.trans d) (q.mv<|.sub s.sub)
 |bad=>exact h
end
structure DS(X:Cx)(E:XK)(st:Stmt)(g:jV):Prop where
 w_::
 o_:∃t:TS,PS X st t/\
 ∀{P H0 al H σ ρ} {D:Ends},RS X.K P H0 al H σ ρ->lu X.K P H0 E D al H (g ρ)->t D σ H
structure oP(X:Cx)(E:XK)(st:aa Stmt)(g:jV):Prop where
 w_::
 o_:∃t:TS,pj X st t/\
 ∀{P H0 al H σ ρ} {D:Ends},RS X.K P H0 al H σ ρ->lu X.K P H0 E D al H (g ρ)->t D σ H
def pN:jV:=.nx
def kd(a b:jV):jV:=λc=>uk (a c) b
def kY(f:jQ):jV:=λa=>toS (f a) .rt
def kT(i:Nat)(f:jQ):jV:=λa=>toS (f a) λd=>if i<a.length then .nx (a.set i<|.sh d)else .bad
def pM(c:mi)(a b:jV):jV:=λd=>toS (c d) λk=>if k=true then a d else b d
section
variable{X:Cx}{E:XK}{y:Stmt}{rest C B:aa Stmt}{g u F j:jV}{e c:jB}{f:jQ}{l:mi}{a:Pos}
def O7:oP X E [] pN:=⟨_,K7,λ{_ _ d H b _ _} s h=>h d H b .refl s⟩
def Hw(h:DS X E y g):oP X E [y] g:=let⟨t,p,r⟩:=h;⟨t,K8 p,r⟩
def O5(t:DS X E y g)(r:oP X E rest u):oP X E (y::rest) (kd g u):=by
 obtain⟨A,p,n⟩:=t;obtain⟨z,o,m⟩:=r;refine⟨_,K6 p o,λ{P I G H w i D} s h=>n s ?_⟩;unfold kd at h;cases q:g i with
 |nx d=>rw[q]at h;exact λv J b x k=>m k (lu.ext h x)
 |_=>rw[q]at h;exact h
def O1(i:DE X E e f):DS X E (.Return (some e) a) (kY f):=by obtain⟨t,p,r⟩:=i;exact⟨_,K4 p,λs h=>r s<|Aft.mono (lu.rK h s) λ{_ m} b k v d=>k v m (s.same.trans b)<|d.mv<|.sub s.sub⟩
def BN(i)(hN:X.N.Nodup)(q:X.N[i]?=some x)(n:Loc X.env.scope x)(w:DE X E e f)(o:autoParam (swapsWith e (some<|.Name x pos') a.line X.env=pure false) aZ0)(hf:autoParam (X.hf x) aZ3):
    DS X E (.Assign [.Name x pos'] e a) (kT i f):=by
 obtain⟨t,p,r⟩:=w;refine⟨_,Ej hN q n p o hf,λ{_ _ A _ _ d _} s h=>r s<|Aft.mono (lu.rK h s) λ{_ D} k b v m=>?_⟩;by_cases z:i<d.length
 ·simp only[z,cQ]at b;exact b A D _ .refl ((s.grow k).set z m)
 ·simp only[z,bT]at b;exact b.elim
def OZ(r:DT X E c l)(v:oP X E C F)(t:oP X E B j):DS X E (.If c C B a) (pM l F j):=by
 obtain⟨w,o,i⟩:=r;obtain⟨z,q,n⟩:=v;obtain⟨x,p,m⟩:=t;refine⟨_,K3 o q p,λs h=>i s<|Aft.mono (lu.rK h s) λ{k _} b d=>?_⟩;cases k with
 |true=>exact tW (n (s.grow b) d)
 |false=>exact sF (m (s.grow b) d)
def turnT(r:RT)(k:jV):RT:=match r with
 |.nx b=>k b
 |.ct b=>k b
 |.bk b=>.nx b
 |r=>r
def pP(c:mi)(b:jV):Nat->jV
 |0,_=>.bad
 |n+1,d=>toS (c d) λk=>if k=true then turnT (b d) (pP c b n)else .nx d
def Ml{D k}(h:lu K P H0 E D al H<|turnT r k)
 (hN:∀b i d m,Xt al H b i->RS K P H0 b i d m->lu K P H0 E D b i (k m)->N d i):lu K P H0 E {D with nx:=N,ct:=N,bk:=D.nx} al H r:=by
  cases r with
  |nx n=>exact λb i d x s=>hN b i d n x s (lu.ext h x)
  |ct n=>exact λb i d x s=>hN b i d n x s (lu.ext h x)
  |_=>exact h
def O3(n)(N:PassesOwn (model X.prog X.w) X.A X.env X.xe)(O:DT X E c l)(Q:oP X E B j):DS X E (.While c B [] a) (pP l j n):=by
 obtain⟨V,L,J⟩:=O;obtain⟨W,M,K⟩:=Q;refine⟨_,K5 N L M,λ{P q T _ _ H D} s h=>⟨λm i w=>∃b d,RS X.K P q b w i d/\lu X.K P q E D b w (pP l j m d),⟨n,T,H,s,h⟩,?_⟩⟩
 rintro m i w ⟨b,d,p,G⟩
 cases m with
 |zero=>exact G.elim
 |succ m=>
  refine J p (Aft.mono (lu.rK G p) λ{k U} x A=>?_);cases k with
  |true=>refine tW ⟨λo r=>∃b d,RS X.K P q b r o d/\lu X.K P q E D b r (pP l j m d),λo r z=>⟨m,bH m,z⟩,K (p.grow x)<|Ml (k:=pP l j m) A λv r o t _ I S=>⟨v,t,I,S⟩⟩
  |false=>exact sF (A b U i .refl<|p.grow x)
end
def Wk(K:jx)(g:kM)(H:Hp)(J:It)(f:j7):Prop:=∀b c,Xt g H b c->(∀a,c a=none->b a)->
 (∀i d,f[i]?=some d->J.go i c/\∀x e,J.xI i c x e->e=c/\Rep K b c x d)/\∀i,f.length<=i->J.stop i c
structure DI(X:Cx)(E:XK)(tg iter:jB)(f:mj):Prop where
 w_::
 o_:∃wi:TI,PI X tg iter wi/\
 ∀{P H0 al H σ ρ} {R:It->Hp->Prop},RS X.K P H0 al H σ ρ->Aft X.K al E H (f ρ) (λds H'=>∀J,Wk X.K al H' J ds->R J H')->wi σ H R
abbrev _root_.lC:=aa Nat
def Kp(l:lC)(b a:St):Prop:=a.length=b.length/\∀j,j∉l->a[j]?=b[j]?
abbrev _root_.rl:=D->Ev->jm Ev
structure DG(X:Cx)(tg:jB)(l:lC)(a:rl):Prop where
 w_::
 o_:∃g:TG,PG X tg g/\
 ∀{P H0 al H σ ρ v d} {Q:St->Hp->Prop},RS X.K P H0 al H σ ρ->Rep X.K al H v d->(∃l8,a d ρ=some l8/\∀pS,Kp l σ pS->RS X.K P H0 al H pS l8->Q pS H)->g v σ H Q
def gV(i:Nat):D->Ev->jm Ev:=λd a=>if i<a.length then some (a.set i<|.sh d)else none
def toO{b:Type}(r:jm b)(k:b->RT):RT:=match r with
 |some a=>k a
 |none=>.bad
def oU(a:rl)(b:jV):aa D->jV
 |[],e=>.nx e
 |d::r,e=>toO (a d e) λc=>turnT (b c) (oU a b r)
section
variable{X:Cx}{E:XK}{U I:jB}{C:aa Stmt}{T:mj}{a:rl}{L:jV}{M:Pos}
def vt(T:mj)(a:rl)(L:jV):jV:=λb=>toS (T b) λc=>oU a L c b
def BL(i)(hN:X.N.Nodup)(k:X.N[i]?=some x)(f:Loc X.env.scope x)(hf:autoParam (X.hf x) aZ3):DG X (.Name x M) [i] (gV i):=by
 refine⟨_,xi hN k f hf,λ{_ _ _ _ _ c _ _ _} s d h=>?_⟩;obtain⟨b,e,q⟩:=h;unfold gV at e;by_cases z:i<c.length
 ·rw[au z]at e;cases e;exact q _ ⟨aT ..,λj g=>av<|λw=>g<|by simp[w]⟩ (s.set z d)
 ·rw[ax z]at e;cases e
def Ht(hp:PassesOwn (model X.prog X.w) X.A X.env X.xe)(hc:X.calm=true)(u:DI X E U I T)(hg:DG X U l a)(hb:oP X E C L)(hs:autoParam (∀x,foldedSetIterable I X.env x=pure x) aZ2):
    DS X E (.For U I C [] M) (vt T a L):=by
 obtain⟨wi,pi,ri⟩:=u;obtain⟨g,pg,rg⟩:=hg;obtain⟨tb,pb,rb⟩:=hb;refine⟨_,K2 hp hc pi pg pb hs,λ{P v al _ _ H D} s h=>ri s<|Aft.mono (lu.rK h s) λ{d _} s1 h1 J V=>?_⟩;refine⟨λi m j p=>∃b c,RS X.K P v b p j c/\Wk X.K b p J d/\lu X.K P v E D b p (oU a L (d.drop i) c)/\m=d.length - i,⟨_,al,H,s.grow s1,V,h1,rfl⟩,?_⟩
 rintro i m j p ⟨b,c,z,r,f,rfl⟩
 obtain⟨Y,W⟩:=r b p .refl z.fresh;by_cases u:i<d.length
 ·right;have ed:d[i]?=some d[i]:=ar u;obtain⟨go,O⟩:=Y i _ ed;rw[cN u]at f;refine⟨go,λn t=>∃b c,RS X.K P v b t n c/\Wk X.K b t J d/\lu X.K P v E D b t (oU a L (d.drop<|i+1) c),λn t ⟨B,o,N,z2,K⟩=>⟨d.length - (i+1),by grind,B,o,N,z2,K,rfl⟩,λx H3 y=>?_⟩;obtain⟨rfl,rx⟩:=O x H3 y;unfold oU at f;cases q:a d[i] c with
  |some o=>rw[q]at f;refine rg z rx ⟨o,q,λG _ Z=>rb Z<|Ml (k:=oU a L<|d.drop<|i+1) f λF t n w S s' h'=>⟨F,w,s',λA H4 Q=>r A H4<|S.trans Q,h'⟩⟩
  |none=>rw[q]at f;exact f.elim
 ·left;have e:d.drop i=[]:=cZ (by simp_all);rw[e]at f;exact⟨W i<|by simp_all,f b p j .refl z⟩
def ke(n:Nat)(b:j7):Ev:=b.map .sh++List.replicate (n - b.length) .no
noncomputable def jX:RT->R D
 |.rt d=>.ok d
 |.nx _=>.ok .non
 |.ex c ns ds=>.ex c ns ds
 |_=>.bad
def Zz{c}(tt:mh K H)(fr:∀a,H a=none->c a)(r:jv K c H vs ds):RS K c H c H (L2.start N vs) (ke N.length ds) where
 same:=.refl H
 tt:=tt
 fresh:=fr
 sub:=λ_ h=>h
 pf:=fr
 len:=by unfold L2.start ke;simp[r.length]
 sh:=λi d h=>by
  unfold ke at h;by_cases b:i<ds.length
  ·rw[aA<|by simpa using b,aH]at h;cases q:ds[i]? with
   |none=>rw[q]at h;cases h
   |some y=>rw[q]at h;cases h;obtain⟨v,f,e⟩:=r.getD q;refine⟨v,?_,e⟩;unfold L2.start;rw[aA<|by simpa [r.length]using b,aH,f];rfl
  ·rw[aN<|by simpa using b,b8]at h;split at h<;>cases h
 ow:=λi d h=>by
  unfold ke at h;by_cases b:i<ds.length
  ·rw[aA<|by simpa using b,aH]at h;cases q:ds[i]? with
   |_=>rw[q]at h;cases h
  ·rw[aN<|by simpa using b,b8]at h;split at h<;>cases h
 apart:=λi j d g a h _ _ _=>by
  unfold ke at h;by_cases b:i<ds.length
  ·rw[aA<|by simpa using b,aH]at h;cases q:ds[i]? with
   |_=>rw[q]at h;cases h
  ·rw[aN<|by simpa using b,b8]at h;split at h<;>cases h
variable{P:jT}{w:jK}{K:jx}{O:kG}{B:jw}
def P4{k g}(F:ou K x x st f fd)(S:sY N ps<|kf st)
 (C:∀e A b s H E,kN k (kR (ky P w) P w K O B N x (kf st) f e A b s H E).A->oP (kR (ky P w) P w K O B N x (kf st) f e A b s H E) E (ml st) g):
   lM P w K O B (k+1) f fd ps (ly ps.length K λl=>jX<|g<|ke N.length l):=by
  refine F.Kf S (λo H Q E h=>h.1) (λe A b s H o Q E y h=>?_);obtain⟨V,u,Z,l,fr,j,h⟩:=h;obtain⟨t,p,r⟩:=C e A b s H E y;dsimp only at h;refine⟨t,p,r (Zz u fr j) ?_⟩;cases q:g (ke N.length l)with
  |nx G=>rw[q]at h;exact λz m n _ i=>h m i.same .non .non
  |rt d=>rw[q]at h;exact λv m i j=>h m i v j
  |ex c J Y=>rw[q]at h;exact h
  |_=>rw[q]at h;exact h.elim
def qZ.up{k}(G:kj P w K O B j x ps sp)(h:j<=k):kj P w K O B k x ps sp:=let⟨f,b,fo,r⟩:=G;⟨f,b,fo.mono h,r⟩
variable{N:jS}{qual:jd}{Y:Scope}{f:ja}{cd:je}{A:kh}{b:my}{s:jr}{H:Hp}
end
section
variable{X:Cx}{E:XK}{o e:jB}{y:lr}{fo:jQ}{fs:mj}{b:jd}{m c:Pos}{T q:String}{g:D->jA}
structure DO(X:Cx)(E:XK)(e:jm jB)(f:Ev->R (jm Int)):Prop where
 w_::
 o_:∃t:TO,PO X e t/\
 ∀{P H0 al H σ ρ} {Q:jm Int->Hp->Prop},RS X.K P H0 al H σ ρ->Aft X.K al E H (f ρ) Q->t σ H Q
abbrev _root_.A9:=D->jm Int->jm Int->R D
structure A8(X:Cx)(E:XK)(g:A9):Prop where
 w_::
 o_:∃r,rh X r/\
 ∀{al H x dx lo hi} {Q:VK},(∀a,H a=none->al a)->Rep X.K al H x dx->Aft X.K al E H (g dx lo hi) (λd H'=>∀v,Rep X.K al H' v d->Q v H')->r x lo hi H Q
def pI(d:D):R (jm Int):=match d with
 |.int i=>.ok (some i)
 |_=>.bad
def OW(h:DE X E e fo):DO X E (some e) (λf=>(fo f).bind pI):=by
 obtain⟨t,p,r⟩:=h;refine⟨_,XC p,λs h=>r s<|Aft.mono (Aft.split h) λ{_ d} k a v j=>?_⟩;cases j with
 |int i=>exact⟨i,rfl,a d<|.refl d⟩
 |_=>exact(a:False).elim
def He(g:A9)(a:jQ)(l u:Ev->R (jm Int)):jQ:=λd=>(a d).bind λx=>(l d).bind λi=>(u d).bind λj=>g x i j
def OD{g lo}(x:A8 X E g)(A:DE X E e fo)(z:DO X E lo fl)(w:DO X E hi fu):DE X E (.Subscript e (.Slice lo hi none p2) pos) (He g fo fl fu):=by obtain⟨r,n,k⟩:=x;obtain⟨to,u,l⟩:=A;obtain⟨H,pl,p⟩:=z;obtain⟨G,t,j⟩:=w;refine⟨_,Xb n u pl t,λs h=>l s<|Aft.mono (Aft.split h) λd F v i=>?_⟩;refine p (s.grow d) (Aft.mono (Aft.split F) λa C=>j ((s.grow d).grow a)<|Aft.mono (Aft.split C) λf B=>?_);exact k (((s.grow d).grow a).grow f).fresh ((i.up a).up f) B
end
def KO(d:PI X tg iter w1)(c:PI X tg iter w2):PI X tg iter (λb H R=>w1 b H R\/w2 b H R):=λa s b H R I h=>h.elim (d a s b H R I) (c a s b H R I)
section
variable{X:Cx}{E:XK}{M e:jB}{f:jQ}
def Mz(r:Rep K al H (.ref a)<|.lst ds):Wk K al H (AB K a) ds:=by intro g m x fr;obtain⟨l,b,e,q,rs⟩:=(r.mv x).oW;cases e;refine⟨λi d h=>?_,λi h=>⟨b,q,by rw[rs.length];exact h⟩⟩;obtain⟨v,c,k⟩:=rs.getD h;refine⟨⟨b,v,q,c⟩,λy j z=>⟨z.1,?_⟩⟩;have:=z.2 b q;simp_all
def abL(r:Rep K al H (.ref a)<|.tup ds):Wk K al H (AD K a) ds:=by intro g m x fr;obtain⟨l,b,e,q,rs⟩:=(r.mv x).pO;cases e;refine⟨λi d h=>?_,λi h=>⟨b,q,by rw[rs.length];exact h⟩⟩;obtain⟨v,c,k⟩:=rs.getD h;refine⟨⟨b,v,q,c⟩,λy j z=>⟨z.1,?_⟩⟩;have:=z.2 b q;simp_all
def qm(lo:Int)(n:Nat):aa D:=(List.range n).map λ(k:Nat)=>D.int (lo+(k:Int))
def abJ{lo}{n}:Wk K al H (xY lo n) (qm lo n):=by
 intro b g x fr;refine⟨λi d h=>?_,λi h=>?_⟩
 ·unfold qm at h;rw[aH]at h;by_cases a:i<n
  ·rw[List.getElem?_range a]at h;cases h;exact⟨a,λy c z=>⟨z.1,by rw[z.2];exact .int _⟩⟩
  ·simp_all
 ·unfold qm at h;show n<=i;simpa using h
noncomputable def qT(a:j7):R (aa D):=match a with
 |[.int j]=>if -(2^62)<=j/\j<2^62 then .ok (qm 0 j.toNat)else .bad
 |_=>.bad
def OL{fs}(n:Gl X "range")(m:X.mg "range"=none)(o:DA X E [a] fs)(l:autoParam (starEach [a] X.env=[(false,eval a X.env)]) aZ0):DI X E M (.Call (.Name "range" p) [a] [] pos) (λd=>(fs d).bind qT):=by
 obtain⟨t,q,r,_⟩:=o;refine⟨_,Xp n m q l,λs h=>r s<|Aft.mono (Aft.split h) λ{_ c} v b u g=>?_⟩;unfold qT at b;split at b
 ·rename_i j;cases g with
  |cons k i=>
   cases i;cases k;split at b
   ·rename_i z;exact⟨j,rfl,z.1,z.2,b c (.refl c) _ abJ⟩
   ·exact b.elim
 ·exact b.elim
variable{K:jx}{P B:kM}{I H:Hp}{C:St}{m:Ev}
def RS.own(r:RS K P I B H C m)(A:i<m.length)(t:H p=none)(q:jv K B H vs ds):
    RS K P I (λb=>B b/\b≠p) (upd H p<|.lst vs) (C.set i<|some<|.ref p) (m.set i<|.ow ds)/\Xt B H (λb=>B b/\b≠p) (upd H p<|.lst vs):=by
 have x:Xt B H (λb=>B b/\b≠p) (upd H p<|.lst vs):=λb o _ g e=>⟨⟨g,nS e t⟩,by rw[jL<|nS e t];exact e⟩;have s:=mH (K:=K) (o:=HO.lst vs) t;have R:i<C.length:=by rw[<-r.len];exact A
 refine⟨⟨r.same.trans s,s.tt r.tt,λb g=>?_,λb g=>r.sub b g.1,r.pf,by rw[aT,aT];exact r.len,λj d h=>?_,λj F h=>?_,λj k d1 d2 b T O S N=>?_⟩,x⟩
 ·refine⟨r.fresh b<|s.free g,λz=>?_⟩;rw[z,kK]at g;cases g
 ·by_cases z:i=j;·subst z;rw[aF A]at h;cases h
  ·rw[av z]at h;obtain⟨v,n,u⟩:=r.sh j d h;exact⟨v,by rw[av z];exact n,u.mv x⟩
 ·by_cases z:i=j
  ·subst z;rw[aF A]at h;cases h;exact⟨p,vs,aF R,kK,q.mv x,λw=>w.2 rfl,r.same.free t⟩
  ·rw[av z]at h;obtain⟨a,L,n,u,Y,V,U⟩:=r.ow j F h;exact⟨a,L,by rw[av z];exact n,s.at' _ _ oi u,Y.mv x,λw=>V w.1,U⟩
 ·have c:∀(l:Nat) (d:j7),(m.set i<|.ow ds)[l]?=some (.ow d)->(C.set i<|some<|.ref p)[l]?=some (some<|.ref b)->(l=i/\b=p)\/(l≠i/\b≠p/\m[l]?=some (.ow d)/\C[l]?=some (some<|.ref b)):=by
   intro l d y z2;by_cases z:i=l;·simp_all
   ·rw[av z]at y z2;right;obtain⟨a,L,n,u,_⟩:=r.ow l d y;rw[n]at z2;cases z2;exact⟨λw=>z w.symm,nS u t,y,n⟩
  rcases c j d1 T S with⟨Q,J⟩|⟨Q,J,a3,a4⟩
  ·rcases c k d2 O N with⟨b1,_⟩|⟨_,G,_⟩;·rw[Q,b1]
   ·exact absurd J G
  ·rcases c k d2 O N with⟨_,G⟩|⟨_,_,b3,Z⟩;·exact absurd G J
   ·exact r.apart j k d1 d2 b a3 b3 a4 Z
def RS.write(r:RS K P I B H C m)(h:m[i]?=some (.ow Hs))(e:C[i]?=some (some<|.ref a))(q:jv K B H vs ds):
    RS K P I B (upd H a<|.lst vs) C (m.set i<|.ow ds)/\Xt B H B (upd H a<|.lst vs):=by
 obtain⟨a',Z,N,L,e3,J,u⟩:=r.ow i Hs h;rw[e]at N;cases N;have G:i<m.length:=(aC.mp h).1;have ne:∀b,B b->b≠a:=λb g z=>J (z▸g);have x:Xt B H B (upd H a (.lst vs)):=λb o _ g w=>⟨g,by rw[jL (ne b g)];exact w⟩;have up:mh K H->mh K (upd H a (.lst vs)):=λt=>t.upd (λps w=>by rw[L]at w;cases w) λq w=>by rw[L]at w;unfold md at w;cases w
 refine⟨⟨⟨λb o n w=>?_,λb w=>?_,λt=>up<|r.same.tt t⟩,up r.tt,λb g=>?_,r.sub,r.pf,by rw[aT];exact r.len,λj d z=>?_,λj d z=>?_,λj k d1 d2 b R z2 Q O=>?_⟩,x⟩;·rw[jL<|nS w u];exact r.same.at' b o n w
 ·by_cases z:b=a;·rw[z];exact u
  ·rw[jL z]at w;exact r.same.fr b w
 ·by_cases z:b=a;·rw[z,kK]at g;cases g
  ·rw[jL z]at g;exact r.fresh b g
 ·by_cases y:i=j;·subst y;rw[aF G]at z;cases z
  ·rw[av y]at z;obtain⟨v,p,s⟩:=r.sh j d z;exact⟨v,p,s.mv x⟩
 ·by_cases y:i=j
  ·subst y;rw[aF G]at z;cases z;exact⟨a,vs,e,kK,q.mv x,J,u⟩
  ·rw[av y]at z;obtain⟨b,S,p,s,V,U,T⟩:=r.ow j d z;refine⟨b,S,p,?_,V.mv x,U,T⟩;rw[jL];exact s;intro c;subst c;exact y (r.apart i j Hs d b h z e p)
 ·have back:∀(l:Nat) (d:j7),(m.set i<|.ow ds)[l]?=some (.ow d)->∃Y,m[l]?=some (.ow Y):=λl d w=>by
   grind
  obtain⟨F,p⟩:=back j d1 R;obtain⟨A,s⟩:=back k d2 z2;exact r.apart j k F A b p s Q O
def wC(i:Nat)(m:Ev):Ev:=match m[i]? with
 |some (.ow a)=>m.set i (jO a)
 |_=>m
def RS.freeze(r:RS K P I B H C m)(i):∃g,RS K P I g H C (wC i m)/\Xt B H g H:=by
 unfold wC;split
 ·rename_i p h;obtain⟨a,R,s,Q,O,S,N⟩:=r.ow i p h;have q:i<m.length:=(aC.mp h).1;have x:Xt B H (λb=>B b\/b=a) H:=.sub λ_ z=>.inl z;refine⟨λb=>B b\/b=a,⟨r.same,r.tt,λb c=>.inl (r.fresh b c),λb c=>?_,r.pf,by rw[aT];exact r.len,λj d z=>?_,λj d z=>?_,λj k d1 d2 b A z2 u t=>?_⟩,x⟩
  ·rcases c with c|rfl;·exact r.sub b c
   ·exact r.pf _ N
  ·by_cases y:i=j
   ·subst y;rw[aF q]at z;cases z;exact⟨.ref a,s,.lst (.inl ⟨.inr rfl,.inl Q⟩)<|O.mv x⟩
   ·rw[av y]at z;obtain⟨v,n,o⟩:=r.sh j d z;exact⟨v,n,o.mv x⟩
  ·by_cases y:i=j;·subst y;rw[aF q]at z;cases z
   ·rw[av y]at z;obtain⟨b,F,n,o,L,J,G⟩:=r.ow j d z;refine⟨b,F,n,o,L.mv x,λw=>?_,G⟩;rcases w with w|rfl;·exact J w
    ·exact y (r.apart i j p d b h z s n)
  ·have back:∀(l:Nat) (d:j7),(m.set i<|jO p)[l]?=some (.ow d)->m[l]?=some (.ow d):=λl d w=>by
    grind
   exact r.apart j k d1 d2 b (back j d1 A) (back k d2 z2) u t
 ·exact⟨B,r,.refl⟩
variable{J:aa Stmt}{O:Stmt}{g:jV}{L:mj}{F:Pos}
def O6(i)(h:oP X E J g):oP X E J (λm=>g (wC i m)):=by obtain⟨t,p,r⟩:=h;refine⟨t,p,λs h=>?_⟩;obtain⟨b,a,x⟩:=s.freeze i;exact r a (lu.ext h x)
def vx(i:Nat)(f:mj):jV:=λm=>toS (f m) λa=>if i<m.length then .nx (m.set i<|.ow a)else .bad
def Hu(i)(hN:X.N.Nodup)(o:X.N[i]?=some x)(k:Loc X.env.scope x)(u:DN X E e L)(l:autoParam (swapsWith e (some<|.Name x pos') F.line X.env=pure false) aZ0)(hf:autoParam (X.hf x) aZ3):
    DS X E (.Assign [.Name x pos'] e F) (vx i L):=by
 obtain⟨t,p,r⟩:=u;refine⟨_,Ej hN o k p l hf,λ{_ _ _ _ _ m _} s h=>r s<|Aft.mono (lu.rK h s) λd a q v n j=>?_⟩;by_cases z:i<m.length
 ·simp only[z,cQ]at a;obtain⟨c,b⟩:=(s.grow d).own z n j;exact a _ _ _ b c
 ·simp only[z,bT]at a;exact a.elim
end
variable{P:jT}{w:jK}{K:jx}{mg:kG}{base:jw}{N:jS}{qual:jd}{scope:Scope}{f:ja}{cd:je}{A:kh}{outer:my}{s:jr}{H:Hp}{E:XK}
def O0(g:ExcBaseFacts B newId Si wj)(q:W.excIn K C wj newId=true)
 (d:Gl (kR (ky P w) P w K mg base N qual scope f cd A outer s H E) x)(c:mg x=some (.ref C))(a:autoParam (mq x) aZ1):
   DS (kR (ky P w) P w K mg base N qual scope f cd A outer s H E) E (.Raise (some<|.Call (.Name x np) [] [] cpos) none pos) (λ_=>.ex C [] []):=
  ⟨_,XN g q d c a,λ{l m k e i j D} b h=>h none e b.same ⟨rfl,rfl⟩⟩
end P2
namespace L2
open PySem PySem.Spec PyProof.Rows
abbrev _root_.tq:=Result->jr->Prop
variable{f:jT}{w:jK}{A:kh}{R:tq}{s:jr}
abbrev _root_.uO:=Nat->jr->Prop
def Od(I:uO)
 (q:∀n s,I n s->wpAny (model f w) A (pyNext it) (λr b=>match r with
 |none=>R (.ok .next) b
 |some v=>wpAny (model f w) A (letOwnedTupleGo target it v) (λ_ l=>wpAny (model f w) A (assign target env v) (λ_ k=>
 wpAny (model f w) A (forIn ifs true λc r=>if r=true then do let ok<-isTrue c env (eval c env);pure (ForInStep.yield ok)else pure (ForInStep.yield r)) (λok a=>
 if ok=true then wpAny (model f w) A (eval elt env) (λx j=>
 wpAny (model f w) A (call (.builtin "list.append") [acc,x]) (λ_ i=>∃m,m<n/\I m i) (notedBy (model f w) A env λe d=>R (.error e) d) j) (notedBy (model f w) A env λe d=>R (.error e) d) a
 else∃m,m<n/\I m a) (notedBy (model f w) A env λe d=>R (.error e) d) k) (notedBy (model f w) A env λe d=>R (.error e) d) l) (notedBy (model f w) A env λe d=>R (.error e) d) b) (notedBy (model f w) A env λe d=>R (.error e) d) s)
 (n)(h:I n s):codeAny (model f w) A (.compLoop (.ListComp elt [⟨target,iter,ifs,0⟩] scope pos) 0 it acc env) R s:=by
  refine codeAny_loop rfl I (λn s B=>?_) n h;refine wpAny_noted ?_;refine ae (fT<|ae<|bC (q n s B) (λr b p=>?_) λ_ _ g=>g);cases r with
  |none=>exact af p
  |some v=>
   refine ae (bC p (λ_ l z=>?_) λ_ _ g=>g);refine ae (bC z (λ_ k y=>ae<|bC y (λok a o=>?_) λ_ _ g=>g) λ_ _ g=>g);cases ok with
   |false=>exact af ⟨rfl,o⟩
   |true=>exact ae (ae<|bC o (λx j u=>ae<|bC u (λ_ i t=>af<|af ⟨rfl,t⟩) λ_ _ g=>g) λ_ _ g=>g)
abbrev _root_.tp:=aa (jd×ja)
abbrev Cx.comp(X:Cx)(scope:Scope)(N':jS)(cl:tp)(fp:nN)(s3:jr)(H3:Hp)(C:ja):Cx:=
 {X with N:=N',s₀:=s3,H₀:=H3,env:=compEnvC scope cl C X.env,outer:=X.stack,ex:=fp,fn:=λ_=>false,pn:=[],xe:=λ_ _=>False}
inductive nM(X:Cx)(cl:List<|Str×Addr):List Str->List Nat->Prop
 |nil:nM X cl [] []
 |cons {x:Str} {i:Nat} {N:List Str} {ci:List Nat}:X.N[i]?=some x->(X.env.kindOf x=some .cell\/X.env.kindOf x=some .free)->cl.lookup x=X.env.cells.lookup x->nM X cl N ci->nM X cl (x::N) (i::ci)
def nM.length{cl}(h:nM X cl N ci):N.length=ci.length:=by
 induction h with
 |nil=>rfl
 |cons _ _ _ _ a=>simp_all
def nM.get{X}{cl}{a}(h:nM X cl N a){k:Nat}(e:N[k]?=some x):∃i,a[k]?=some i/\X.N[i]?=some x/\(X.env.kindOf x=some .cell\/X.env.kindOf x=some .free)/\cl.lookup x=X.env.cells.lookup x:=by
 induction h generalizing k with
 |nil=>simp at e
 |cons g d c _ b=>grind
def mZ(b:Nat)(c:lC)(a:St):St:=List.replicate b none++c.map λi=>(a[i]?).getD none
def GV(h:(mZ tn ci σ)[j]?=some (some v)):∃k i,j=tn+k/\ci[k]?=some i/\σ[i]?=some (some v):=by
 unfold mZ at h
 grind
def wm:(mZ tn ci σ).length=tn+ci.length:=by unfold mZ;simp
def EL(y:TI)(h:Nat)(n:lC)(g:TG)(B:TT)(z:TE):TE:=λk H Q=>y k H λJ p=>∀l,p l=none->∃W:Nat->Nat->Hp->Prop,(∃m,W 0 m<|upd p l<|.lst [])/\∀i m d,W i m d->(∀b o u,upd p l (.lst []) b=some (.ku o u)->d b=some (.ku o u))->
 (J.stop i d/\Q (.ref l) d)\/(J.go i d/\∀x t,J.xI i d x t->g x (mZ h n k) t λa C=>(a.length=h+n.length/\∀j,h<=j->a[j]?=(mZ h n k)[j]?)/\B a C λb r=>if b=true then z a r λv q=>∃c,q l=some (.lst c)/\c.length<sizeLine/\∃e,e<m/\W (i+1) e (upd q l<|.lst<|c++[v])else∃e,e<m/\W (i+1) e r)
def PF(X:Cx)(d:lr)(t:TT):Prop:=
 ∀a s b H Q,Inv X a b H s->t b H Q->
  wpAny (model X.prog X.w) X.A (forIn d true λc r=>if r=true then do let ok<-isTrue c X.env (eval c X.env);pure (ForInStep.yield ok)else pure (ForInStep.yield r)) (TP X a b Q) X.xe s
def KI:PF X [] (λ_ H Q=>Q true H):=λ_ _ _ H _ I h=>wpAny_tests_nil ⟨H,I,h⟩
def KJ{t}(h:PT X c t):PF X [c] t:=λa s b H Q I d=>wpAny_tests_one (h a s b H Q I d)
variable{X:Cx}{M B K:jB}{F:lr}{scope:Scope}{L:Pos}{O:TI}{g:TG}{tc:TT}{te:TE}{cl:tp}{tn:Nat}{Nt Nc:jS}{E:lC}
def G9{s}{H:Hp}{RR:je->ja->Result->jr->Prop}(I:Inv X pins σ H s)(hc:X.calm=true)(hi:PI X M B O)
 (hg:∀D s3 H3 C,PG (X.comp scope (Nt++Nc) cl D s3 H3 C) M g)(hf:∀D s3 H3 C,PF (X.comp scope (Nt++Nc) cl D s3 H3 C) F tc)(he:∀D s3 H3 C,PE (X.comp scope (Nt++Nc) cl D s3 H3 C) K te)
 (hkind:scope.kind=.function)(hcell:rG scope)(qO:nM X cl Nc E)(yX:Nt.length=tn)
 (U:∀x c,cl.lookup x=some c->X.env.cells.lookup x=some c)(hhas:∀x,((relabel scope X.env).names.lookup x=some .cell\/(relabel scope X.env).names.lookup x=some .free)->∃c,cl.lookup x=some c)
 (u7:∀x∈Nc,(relabel scope X.env).names.lookup x=some .cell\/(relabel scope X.env).names.lookup x=some .free)
 (h:EL O tn E g tc te σ H Q)
 (fin:∀l C Z s' m,s'.heap.Ns C m->Inv X pins σ Z s'->Z C=none->C≠X.env.locals->X.s₀.heap.objs.size<=C->(∀x c,X.env.cells.lookup x=some c->c≠C)->(∀p∈X.pn++pins,p.1≠C)->Q (.ref l) Z->RR (.ref l) C (.ok .next) s'):
   wpAny (model X.prog X.w) X.A (eval B X.env) (λx aaK=>wpAny (model X.prog X.w) X.A (pyIter x) (λit aaL=>wpAny (model X.prog X.w) X.A (newList []) (λacc aaM=>wpAny (model X.prog X.w) X.A (newFunctionEnv scope X.env.globals cl [] X.env.qual none .none<|some X.env) (λG0 aaN=>codeAny (model X.prog X.w) X.A (.compStart (.ListComp K [⟨M,B,F,0⟩] scope L) 0 it acc {G0 with scope:=relabel scope X.env}) (RR acc G0.locals) aaN) X.xe aaM) X.xe aaL) X.xe aaK) X.xe s:=by
  refine jC (hi pins s σ H _ I h) λv s1 h1=>jC h1 λSI s2 h2=>?_;obtain⟨it,D,tk,J,H2,rfl,I2,T,L0,f2,hW⟩:=h2;refine a9 (wpAny_newFunctionEnv hcell (by intro y hy;simp at hy) (λC6 P N=>?_) hkind);dsimp only at P N⊢;generalize hG:s2.heap.push {cls:=.type "list",dict:=none,data:=.seq ([]:aa je).toArray}=G at P N⊢;have Qs:G.objs.size=s2.heap.objs.size+1:=by rw[<-hG,cy]
  have hl:H2 s2.heap.objs.size=none:=I2.hok.fresh (ai _);obtain⟨W,⟨m0,w0⟩,turn⟩:=hW _ hl;have t:Inv X pins σ (upd H2 s2.heap.objs.size<|.lst []) {s2 with heap:=G}:=by rw[<-hG];exact I2.laid (t':=s2.toks) (λb u e=>ah _ e) (ai _) ⟨bQ _,[],0,.nil,aD _ rfl⟩
  generalize Iw:upd H2 s2.heap.objs.size (.lst [])=H3 at w0 t;have keep:∀b o,G.get? b=some o->C6.get? b=some o:=λb o e=>N.extBut b o (aU<|Heap.lt_size e) (ah _ e);have JI:∀b∈D,b<s2.heap.objs.size:=λb a=>by obtain⟨o,e,_⟩:=T.obj 0 _ L0 b a;exact Heap.lt_size e
  have HZ:∀b∈D,b≠G.objs.size:=λb a=>aU (aE (JI b a)<|by rw[Qs];exact c6 _);have H7:∀b∈D,H3 b=none:=λb a=>by rw[<-Iw,jL<|aU<|JI b a];exact(f2 b a).1
  let X':=X.comp scope (Nt++Nc) cl D {s2 with heap:=G} H3 G.objs.size
  have ok':X'.Ok:=by
   refine⟨t.ok.mod,(by show(relabel scope X.env).kind=_;exact hkind),t.ok.glob,t.ok.blt,ai _,λx y c e1 e2=>t.ok.inj x y c (U x c e1)<|U y c e2,λx hx=>hhas x hx,(λx c z=>nomatch z),t.ok.hd,t.ok.frames,.inl rfl,λb a=>⟨HZ b a,λx c e=>(f2 b a).2.2.2.2.1 x c (U x c e)⟩,λb o e=>t.bs b o e,aV t.ok.tN t.sz,λb o e a=>?_,λb a z=>?_,t.stack,t.EI⟩
   ·rcases(f2 b a).2.2.2.1 with z|z;·exact t.ok.DX b o e z
    ·exact absurd (aE (Heap.lt_size e)<|aV t.ok.tN z) (cx _)
   ·rcases az.mp (t.zU b z)with e|e;·exact(f2 b a).2.1 e
    ·exact(f2 b a).2.2.1 e
  have J0:Inv X' [] (mZ tn E σ) H3 {s2 with heap:=C6,toks:=s2.toks+0}:=by
   refine⟨ok',rfl,t.bare,Un.kept keep,⟨_,P,λi x v e1 e2 e3=>?_⟩,λx c e=>?_,t.hok.fresh<|ai _,λx c e=>t.pZ x c<|U x c e,λp hp=>absurd (show p∈([]:aa<|ja×lE)from hp)<|by simp,t.hok.kept keep,?_⟩
   ·obtain⟨k,j,rfl,q1,q2⟩:=GV e2;have Hx:Nc[k]?=some x:=by
     rw[aN<|by simp_all]at e1;rw[show tn+k - Nt.length=k by simp_all]at e1;exact e1
    obtain⟨j',z1,z2,z3,z4⟩:=qO.get Hx;rw[q1]at z1;cases z1;obtain⟨m,hn,RB⟩:=t.loc;obtain⟨u,r,lk⟩:=RB j x v z2 q2 (z3.elim (λz=>.inr<|.inl z) λz=>.inr<|.inr z);refine⟨u,r,.inr ⟨u7 x<|bp Hx,?_⟩⟩;rcases lk with⟨k1,_⟩|⟨_,c,k2,k3⟩;·rcases z3 with z|z<;>(rw[k1]at z;cases z)
    ·refine⟨c,z4.trans k2,?_⟩;obtain⟨o,ho,hd⟩:=k3;exact⟨o,keep _ _ ho,hd⟩
   ·obtain⟨v,o,ho,hd⟩:=t.cell x c (U x c e);exact⟨v,o,keep _ _ ho,hd⟩
   ·rw[wm];show _=(Nt++Nc).length;rw[aq,qO.length,yX]
  have stat:∀{V:kX} {Z:Hp},(∀p∈V,p.1∉D)->(∀b∈D,Z b=none)->∀b∈D,rT X' V Z b:=λ{V Z} hp hn b a=>⟨hn b a,HZ b a,λz=>ok'.BV b a z,.inl a,λx c e=>(ok'.PK b a).2 x c e,λp RO z=>hp p ((aX.mp RO).elim (λw=>absurd (show p∈([]:aa<|ja×lE)from w)<|by simp) λw=>w)<|by rw[z];exact a⟩
  have mk:∀(s5:jr),(∀i H5,Inv X' [] (mZ tn E σ) H5 s5->tk i s5.heap->(∀b∈D,H5 b=none)->∀n,W i n H5->
   codeAny (model X.prog X.w) X.A (.compLoop (.ListComp K [⟨M,B,F,0⟩] scope L) 0 (.ref it) (.ref s2.heap.objs.size) (compEnvC scope cl G.objs.size X.env)) (RR (.ref s2.heap.objs.size) G.objs.size) s5):=by
   intro s5 i5 H5 J5 st5 P8 n5 w5;refine Od (λn s'=>∃i Z,Inv X' [] (mZ tn E σ) Z s'/\tk i s'.heap/\(∀b∈D,Z b=none)/\W i n Z) ?_ n5 ⟨i5,H5,J5,st5,P8,w5⟩
   rintro n s6 ⟨i,H6,J6,L1,Ia,w6⟩
   rcases turn i n H6 w6 (λb o u e=>J6.base.qa b o u (show H3 b=_ by rw[<-Iw];exact e))with⟨stop,q⟩|⟨go,step⟩
   ·refine bC (T.done X' rfl rfl rfl hc i [] s6 _ H6 (λ_ _=>False) J6 (stat (by simp) Ia) L1 stop) (λr s7 ⟨hr,J7⟩=>?_) λ_ _ z=>z.elim;subst hr;obtain⟨m,hn,_⟩:=J7.loc;have IX:Inv X pins σ H6 s7:=t.GP (ch:=D) J7.os J7.base J7.hok J7.bare λb a=>⟨(f2 b a).2.2.2.1,(f2 b a).2.1,(f2 b a).2.2.2.2.1,(f2 b a).2.2.2.2.2⟩;refine fin _ _ H6 s7 m hn IX J7.free (cP t.lt) (aV t.sz<|ai _) (λx c e z=>?_) (λp hp z=>?_) q
    ·obtain⟨v,o,ho,_⟩:=t.cell x c e;exact absurd (Heap.lt_size ho) (by rw[z];exact cx _)
    ·exact absurd (Heap.lt_size (t.pin p hp).1) (by rw[z];exact cx _)
   ·refine bC (T.item X' rfl rfl rfl hc i [] s6 _ H6 (λ_ _=>False) J6 (stat (by simp) Ia) L1 go) (λr s7 ⟨u,hr,h7⟩=>?_) λ_ _ z=>z.elim;subst hr;refine bC h7 (λ_ s8 Y=>?_) λ_ _ z=>z.elim;obtain⟨x,H8,J8,r8,y8,EH,P9⟩:=Y;have M3:=J8.pinned (stat (by simp) P9) (T.obj _ _ EH)
    have back:∀{S:St} {H9:Hp} {s9:jr},Inv X' ([]++xj D s8.heap) S H9 s9->S.length=tn+E.length->(∀j,tn<=j->S[j]?=(mZ tn E σ)[j]?)->∀m',m'<n->W (i+1) m' H9->
     ∃m,m<n/\∃i Z,Inv X' [] (mZ tn E σ) Z s9/\tk i s9.heap/\(∀b∈D,Z b=none)/\W i m Z:=λ{S H9 s9} J9 Rp Rk m' hm w9=>by
     refine⟨m',hm,i+1,H9,J9.z9.weak (by rw[wm,Rp]) λj v e=>?_,T.keep _ _ _ EH λb a o e=>(J9.pin (b,o)<|bK _<|bK _<|zh a e).1,λb a=>?_,w9⟩
     ·obtain⟨k,_,rfl,_⟩:=GV e;rw[Rk _<|by simp];exact e
     ·obtain⟨o,e,d⟩:=T.obj _ _ EH b a;exact(J9.pin (b,o)<|bK _<|bK _<|zh a e).2.1
    refine bC (hg D _ _ _ _ s8 _ H8 x u _ M3 r8<|step x H8 y8) (λ_ s9 Y=>?_) λ_ _ z=>z.elim;obtain⟨S,H9,J9,⟨l9,k9⟩,q9⟩:=Y;refine bC (hf D _ _ _ _ s9 S H9 _ J9 q9) (λb nI ⟨MX,FI,zL⟩=>?_) λ_ _ z=>z.elim;cases b with
    |false=>rw[ax ay]at zL⊢;obtain⟨m',hm,w10⟩:=zL;exact back FI l9 k9 m' hm w10
    |true=>rw[au rfl]at zL⊢;refine bC (he D _ _ _ _ nI S MX _ FI zL) (λy mG Y=>?_) λ_ _ z=>z.elim;obtain⟨v,MY,MZ,YS,acc,uX,z11,m',hm,w11⟩:=Y;refine bC (JT (X:=X') _ mG S MY (.ref _) [v] (.ref _) [y] (λ_ FH=>W (i+1) m' FH) MZ rfl (.cons YS .nil) ⟨_,acc,v,rfl,rfl,uX,z11,w11⟩) (λ_ s12 Y=>?_) λ_ _ z=>z.elim;obtain⟨_,FH,M0,_,w12⟩:=Y;exact back M0 l9 k9 m' hm w12
  have EG:tk 0 C6:=T.keep _ _ _ L0 λb _ o e=>keep b o (by rw[<-hG];exact ah _ e);exact codeAny_compStart_list (mk _ 0 H3 J0 EG H7 m0 w0) (T.self _ 0 _ _ _ EG<|mk _ 0 H3 J0 EG H7 m0 w0)
def Ec(U:X.calm=true)(P:PI X M B O)(S:∀v k y C,PG (X.comp scope (Nt++Nc) cl v k y C) M g)(hf:∀v k y C,PF (X.comp scope (Nt++Nc) cl v k y C) F tc)(T:∀v k y C,PE (X.comp scope (Nt++Nc) cl v k y C) K te)
 (i:closureFor scope X.env=pure cl)(a:scope.kind=.function)(j:rG scope)(d:sN scope)(u:nM X cl Nc E)(z:Nt.length=tn)
 (p:∀x c,cl.lookup x=some c->X.env.cells.lookup x=some c)(t:∀x,((relabel scope X.env).names.lookup x=some .cell\/(relabel scope X.env).names.lookup x=some .free)->∃c,cl.lookup x=some c)
 (n:∀x∈Nc,(relabel scope X.env).names.lookup x=some .cell\/(relabel scope X.env).names.lookup x=some .free)
 (J:∀x,foldedSetIterable B X.env x=pure x):PE X (.ListComp K [⟨M,B,F,0⟩] scope L) (EL O tn E g tc te):=by intro D s σ H Q I h;refine wpAny_comprehension_free (use:=none) rfl J i a d (G9 (Nt:=Nt) (Nc:=Nc) I U P S hf T a j u z p t n h ?_);intro l C H' G m N I' h1 h2 Z Y W q;exact⟨m,N,λCM r=>⟨.ref l,H',I'.turned (t':=G.toks) (λb o V e=>r.extBut b o V e) h1 h2 (.inr Z) Y W,rfl,q⟩⟩
def yc(X:Cx)(e:jB)(t:TE):Prop:=
 ∀(i:Nat) (x:jd) (pos':Pos) (_:X.N.Nodup) (_:X.N[i]?=some x) (_:Loc X.env.scope x) (_:X.hf x) (pins:kX) (s:jr) (σ:St) (H:Hp) (Q:VK),Inv X pins σ H s->t σ H Q->
  wpAny (model X.prog X.w) X.A (evalThenUse e X.env<|assign (.Name x pos') X.env) (λ_ b=>∃v a,Inv X pins (σ.set i<|some v) a b/\Q v a) X.xe s
def La(hc:X.calm=true)(hi:PI X M B O)(hg:∀J p N C,PG (X.comp scope (Nt++Nc) cl J p N C) M g)(hf:∀J p N C,PF (X.comp scope (Nt++Nc) cl J p N C) F tc)(he:∀J p N C,PE (X.comp scope (Nt++Nc) cl J p N C) K te)
    (k:closureFor scope X.env=pure cl)(d:scope.kind=.function)(n:rG scope)(j:sN scope)(G:nM X cl Nc E)(T:Nt.length=tn)
    (y:∀x c,cl.lookup x=some c->X.env.cells.lookup x=some c)(D:∀x,((relabel scope X.env).names.lookup x=some .cell\/(relabel scope X.env).names.lookup x=some .free)->∃c,cl.lookup x=some c)
    (u:∀x∈Nc,(relabel scope X.env).names.lookup x=some .cell\/(relabel scope X.env).names.lookup x=some .free)
    (hs:∀x,foldedSetIterable B X.env x=pure x):yc X (.ListComp K [⟨M,B,F,0⟩] scope L) (EL O tn E g tc te):=by
 intro i x t hN P Z S U s σ H Q I h;unfold evalThenUse;refine ae (wpAny_comprehension_free (use:=some<|assign (.Name x t) X.env) rfl hs k d j<|G9 (Nt:=Nt) (Nc:=Nc) I hc hi hg hf he d n G T y D u h ?_);intro l C H' s' m hn I' h1 h2 h3 h4 h5 q;refine ae (fT<|iG<|L5 I' hN P Z (v:=.ref l) rfl (λY I2 V=>?_) S);obtain⟨a,W,V⟩:=V;have ne:C≠a:=by grind
 obtain⟨o,es,ep,e,r⟩:=hn;refine⟨m,⟨o,es,ep,(W.2 C ne).trans e,r⟩,λCM z=>af ⟨.ref l,H',I2.turned (t':=Y.toks) (λb o hb e=>z.extBut b o hb e) h1 h2 (.inr h3) h4 h5,q⟩⟩
def Ek{te}(hN:X.N.Nodup)(j:X.N[i]?=some x)(c:Loc X.env.scope x)(k:yc X e te)(d:swapsWith e (some<|.Name x pos') aaA.line X.env=pure true)(hf:X.hf x):
    PS X (.Assign [.Name x pos'] e aaA) (EK te<|qN i):=by
 intro a s b H D I h;rw[exec_Assign_Name_used _ _ _ _ d];refine ae (fT<|ae<|jC (k i x pos' hN j c hf a s b H _ I h) λ_ n ⟨v,m,l,q⟩=>af ⟨_,m,l,q⟩)
end L2
namespace P2
open PySem L2 PyProof.Rows
abbrev bits(x:Int):Nat:=Builtin.Int.intBits x
def zA(h:kW X f r)(e:kW X f r'):kW X f (λx y H Q=>r x y H Q\/r' x y H Q):=
 λa s b H x y v u Q I d c q=>q.elim (h a s b H x y v u Q I d c) (e a s b H x y v u Q I d c)
def iB(C:Int->Int->jk)(g:Int->Int->D)(x y:D):R D:=match x,y with
 |.int i,.int j=>if C i j=true then .ok (g i j)else .bad
 |_,_=>.bad
section
variable{X:Cx}{E:XK}
def D6{g}(c:kW X op<|rI C g)(hC:∀i j,Cb i j=true->C i j)(d:∀i j K e H,Rep K e H (g i j)<|gd i j):lh X E op (iB Cb gd):=by
 refine⟨_,c,λ{_ H _ _ _ _ _} fr b a h=>?_⟩;unfold iB at h;split at h
 ·rename_i i j;cases b;cases a;split at h
  ·rename_i z;exact⟨i,j,rfl,rfl,hC i j z,h H (.refl H) _<|d i j _ _ _⟩
  ·exact h.elim
 ·exact h.elim
def xf{g}(c:kW X op<|rM g)(d:∀i j K e H,Rep K e H (g i j)<|gd i j):lh X E op (iB (λ_ _=>true) gd):=by
 refine⟨_,c,λ{_ H _ _ _ _ _} fr b a h=>?_⟩;unfold iB at h;split at h
 ·rename_i i j;cases b;cases a;exact⟨i,j,rfl,rfl,h H (.refl H) _<|d i j _ _ _⟩
 ·exact h.elim
def oo:D->D->R D:=iB (λ_ _=>true) λi j=>.int (i - j)
def V7:lh X E (binaryOp .Sub) oo:=xf V6 λ_ _ _ _ _=>.int _
def DZ(i j:Int):jk:=decide (bits i<=1048576)&&decide (bits j<=1048576)
def vj(_ j:Int):jk:=decide (j≠0)&&decide (bits j<=9000)
def Ke(i j:Int):jk:=decide (0<=j)&&decide (j<=1000000)&&decide (i.natAbs<2^64)
def kE:D->D->R D:=iB vj λi j=>.int (i.fdiv j)
def VF:lh X E (binaryOp .FloorDiv) kE:=D6 VE (λi j h=>by unfold vj at h;simpa [FE]using h) λ_ _ _ _ _=>.int _
def jU:D->D->R D:=iB (λ_ j=>decide<|j≠0) λi j=>.int (i.fmod j)
def VV:lh X E (binaryOp .Mod) jU:=D6 VW (λi j h=>by simpa using h) λ_ _ _ _ _=>.int _
def qS:D->D->R D:=iB Ke λi j=>.int (i^j.toNat)
def V5:lh X E (binaryOp .Pow) qS:=D6 V4 (λi j h=>by unfold Ke at h;simp only[aK,aS]at h;exact⟨h.1.1,h.1.2,h.2⟩) λ_ _ _ _ _=>.int _
def lH:D->D->R D:=iB (λ_ _=>true) λi j=>.bl (decide<|i<j)
def Dv:D->D->R D:=iB (λ_ _=>true) λi j=>.bl (decide<|i<=j)
def sy:D->D->R D:=iB (λ_ _=>true) λi j=>.bl (decide<|j<i)
def wF:D->D->R D:=iB (λ_ _=>true) λi j=>.bl (decide<|j<=i)
def VT:lh X E (compareOp .Lt) lH:=xf VS λ_ _ _ _ _=>.bl _
def VR:lh X E (compareOp .LtE) Dv:=xf VQ λ_ _ _ _ _=>.bl _
def VJ:lh X E (compareOp .Gt) sy:=xf VI λ_ _ _ _ _=>.bl _
def VH:lh X E (compareOp .GtE) wF:=xf VG λ_ _ _ _ _=>.bl _
def wW:D->R D
 |.int i=>.ok (.int<|-i)
 |_=>.bad
def abE:Ga X E (unaryOp .USub) wW:=by
 refine⟨_,abD,λ{_ H _ _ _} fr a h=>?_⟩;unfold wW at h;split at h;·cases a;exact⟨_,rfl,h H (.refl H) _<|.int _⟩
 ·exact h.elim
def yd(K:jx)(H:Hp)(a:ja)(b:aa V):Prop:=Rd H a (.lst b)\/KL K a b
def yd.is{s}(I:Inv X pins σ H s)(h:yd X.K H a xs):∃b n,Vals xs b/\s.heap.get? a=some {cls:=.type "list",data:=.seq b.toArray n}:=by
 rcases h with h|⟨b,n,h1,h2,h3⟩
 ·obtain⟨z,b,n,r,e⟩:=h.ok I.hok
  grind
 ·exact⟨b,n,h3,I.mm a _ h1⟩
def YW(K:jx):R2:=λx y H Q=>∃l b c a,x=.ref l/\y=.ref b/\yd K H l c/\yd K H b a/\c.length+a.length<=sizeLine/\∀p,H p=none->Q (.ref p) (upd H p<|.lst<|c++a)
def Km:kW X (binaryOp .Add) (YW X.K):=by
 intro f s t H x y v u Q I i g h;obtain⟨l,b,z,w,rfl,rfl,k,m,B,q⟩:=h;cases i;cases g;obtain⟨c,n,r,e⟩:=k.is I;obtain⟨a,A,d,p⟩:=m.is I;have C:=r.length;have j:=d.length;refine PySem.P.add_list e p ?_ (by rw[aQ,aQ];simp_all);have o:c.toArray++a.toArray=(c++a).toArray:=by simp
 rw[o];exact⟨.ref _,_,I.TN (t':=s.toks) (r.append d)<|by rw[aq];omega,rfl,q _ I.fresh⟩
noncomputable def kA:D->D->R D
 |.int i,.int j=>.ok (.int<|i+j)
 |.str i,.str j=>if i.length+j.length<=sizeLine then .ok (.str<|i++j)else .bad
 |.lst xs,.lst a=>if xs.length+a.length<=sizeLine then .ok (.lst<|xs++a)else .bad
 |_,_=>.bad
def VA:lh X E (binaryOp .Add) kA:=by
 refine⟨_,zA Vz<|zA VB Km,λ{_ H _ _ _ _ _} fr d c h=>?_⟩;unfold kA at h;split at h;·cases d;cases c;exact .inl ⟨_,_,rfl,rfl,h H (.refl H) _<|.int _⟩
 ·cases d;cases c;split at h;·rename_i z;exact .inr (.inl ⟨_,_,rfl,rfl,z,h H (.refl H) _<|.str _⟩)
  ·exact h.elim
 ·split at h
  ·rename_i z;obtain⟨a,j,rfl,l,g⟩:=d.zd;obtain⟨b,i,rfl,k,f⟩:=c.zd;exact .inr (.inr ⟨a,b,j,i,rfl,rfl,l,k,by rw[g.length,f.length];exact z,λp e=>h _ (mH e) _ ((g.append f).tY e (fr p e))⟩)
  ·exact h.elim
 ·exact h.elim
noncomputable def D0(x:jd)(n:Int):jk:=!(decide (n< -(2^63:Int))||decide (n≥2^63))&&decide (x.length*n.toNat<=1000000)&&decide (x.length<=1000000)&&decide (n<=1000000)
def V0:kW X (binaryOp .Mult) (λx y H Q=>∃i n,x=.str i/\y=.int n/\MulOk i n/\Q (.str<|Txt.mul i n) H):=by intro a s f H x y v u Q I d c h;obtain⟨i,j,rfl,rfl,e,q⟩:=h;obtain⟨t,rfl⟩:=d;obtain⟨g,rfl⟩:=c;exact SB.mul e λb k=>⟨.str _,H,I.tok _,⟨_,rfl⟩,q⟩
def mulOk_of{n}(h:D0 x n=true):MulOk x n:=by
 unfold D0 at h;simp only[aK,aS,dw]at h;obtain⟨⟨⟨a,g⟩,f⟩,e⟩:=h;refine⟨a,λd _=>?_,λ_ _=>?_⟩
 ·have c:(1:Int)<=n:=by simp_all
  have b:(1000000:Int)<=(2^63 - 1)/n:=by
   apply(Int.le_ediv_iff_mul_le<|by walk_at "l").mpr
   lia
  lia
 ·have:sizeLine=16777216:=dq;unfold Builtin.Str.tooLong;simp only[cV]
  lia
noncomputable def wA:D->D->jm jk
 |.non,.non=>some true
 |.int i,.int j=>some (decide<|i=j)
 |.str i,.str j=>some (decide<|i=j)
 |.bl i,.bl j=>some (decide<|i=j)
 |.non,.int _=>some false
 |.int _,.non=>some false
 |.non,.str _=>some false
 |.str _,.non=>some false
 |.non,.bl _=>some false
 |.bl _,.non=>some false
 |.int _,.str _=>some false
 |.str _,.int _=>some false
 |_,_=>none
def jW(x y:D):R D:=match wA x y with
 |some b=>.ok (.bl b)
 |none=>.bad
def qi(x y:D):R D:=match wA x y with
 |some b=>.ok (.bl<|!b)
 |none=>.bad
def HR{K}(c:Rep K al H x dx)(a:Rep K al H y dy)(h:wA dx dy=some b):Ez x y=true/\decide (x=y)=b:=by
 have f:∀{x i},Rep K al H x (.int i)->x=.int i:=λr=>by cases r;rfl
 have d:∀{x i},Rep K al H x (.str i)->x=.str i:=λr=>by cases r;rfl
 have g:∀{x i},Rep K al H x (.bl i)->x=.bl i:=λr=>by cases r;rfl
 have e:∀{x},Rep K al H x .non->x=.non:=λr=>by cases r;rfl
 cases dx<;>first|(cases h;done)|(cases dy<;>first|(cases h;done)|((first|cases f c|cases d c|cases g c|cases e c)<;>(first|cases f a|cases d a|cases g a|cases e a)<;>(cases h;exact⟨rfl,by simp⟩)))
def VD:lh X E (compareOp .Eq) jW:=by
 refine⟨_,VC,λ{_ H _ _ g f _} fr c a h=>?_⟩;unfold jW at h;cases q:wA g f with
 |none=>rw[q]at h;exact h.elim
 |some b=>rw[q]at h;obtain⟨e,d⟩:=HR c a q;exact⟨e,by rw[d];exact h H (.refl H) _ (.bl b)⟩
def V2:lh X E (compareOp .NotEq) qi:=by
 refine⟨_,V1,λ{_ H _ _ g f _} fr c a h=>?_⟩;unfold qi at h;cases q:wA g f with
 |none=>rw[q]at h;exact h.elim
 |some b=>rw[q]at h;obtain⟨e,d⟩:=HR c a q;exact⟨e,by rw[d];exact h H (.refl H) _ (.bl _)⟩
def C7:D->D->R D
 |.str i,.str j=>.ok (.bl<|Txt.contains j i)
 |_,_=>.bad
def VN:lh X E (compareOp .In) C7:=by
 refine⟨_,VO,λ{_ H _ _ _ _ _} fr b a h=>?_⟩;unfold C7 at h;split at h;·cases b;cases a;exact⟨_,_,rfl,rfl,h H (.refl H) _<|.bl _⟩
 ·exact h.elim
def jv.kc{K}(r:jv K al H vs ds){d}(h:L2.kc ds i=some d):∃v,L2.kc vs i=some v/\Rep K al H v d:=by
 unfold L2.kc at h⊢;rw[r.length];cases q:qQ ds.length i with
 |none=>simp_all
 |some j=>rw[q]at h;exact r.getD h
noncomputable def jG:D->D->R D
 |.lst ds,.int i=>match L2.kc ds i with
  |some d=>.ok d
  |none=>.bad
 |.tup ds,.int i=>match L2.kc ds i with
  |some d=>.ok d
  |none=>.bad
 |.str z,.int i=>if z.length<=sizeLine then(match L2.kc z.cps.toList i with
  |some c=>.ok (.str ⟨#[c]⟩)
  |none=>.bad)else .bad
 |_,_=>.bad
abbrev jg(i:Nat)(k:Int):jQ:=d2 jG (dV i) (jc k)
def Dl:AE X E jG:=by
 refine⟨_,SN,λ{_ H _ _ _ _ _} fr f e h=>?_⟩;unfold jG at h;split at h
 ·rename_i m i;cases e;cases q:L2.kc m i with
  |none=>rw[q]at h;exact h.elim
  |some d=>rw[q]at h;obtain⟨a,b,rfl,j,g⟩:=f.oW;obtain⟨v,l,k⟩:=jv.kc g q;exact .inl ⟨a,b,i,v,rfl,rfl,j,l,h H (.refl H) _ k⟩
 ·rename_i m i;cases e;cases q:L2.kc m i with
  |none=>rw[q]at h;exact h.elim
  |some d=>rw[q]at h;obtain⟨a,b,rfl,j,g⟩:=f.pO;obtain⟨v,l,k⟩:=jv.kc g q;exact .inr (.inl ⟨a,b,i,v,rfl,rfl,j,l,h H (.refl H) _ k⟩)
 ·rename_i z i;cases f;cases e;split at h
  ·rename_i n;cases q:L2.kc z.cps.toList i with
   |none=>rw[q]at h;exact h.elim
   |some c=>rw[q]at h;exact .inr (.inr ⟨z,i,c,rfl,rfl,n,q,h H (.refl H) _<|.str _⟩)
  ·exact h.elim
 ·exact h.elim
def ac9(i){x:jd}{k j}{p c b}(hN:autoParam (X.N[i]?=some x) aZ0)(hv:autoParam (rm X.env.scope x) aZ5)(d:autoParam ((x==("__debug__":jd))=false) aZ1)(a:autoParam ((x==("__classdict__":jd))=false) aZ1):DE X E (.Subscript (.Name x p) (.Constant (.int k) j c) b) (jg i k):=Hh Dl (BK i hN hv d a) wu
def Y3:V->jm Int->jm Int->Hp->VK->Prop:=λx lo a H Q=>∃z,x=.str z/\z.length<=sizeLine/\Q (.str<|Txt.slice z lo a) H
def aao:rh X Y3:=by
 intro m s r H x v y w lo B A Q I n p pl g h;obtain⟨z,rfl,a,q⟩:=h;obtain⟨t,rfl⟩:=n;refine⟨"str",_,PySem.F.slot_str_getitem.lookup,typeIs_str s z t,?_⟩;obtain⟨o,d,c,b⟩:=p;cases pl with
 |none=>
  cases g with
  |none=>exact dP (l:=none) (u:=none) (st:=none) ⟨o,d,c,b⟩ rfl (f7 ⟨aV (hZ z none none) a,λe k=>⟨.str _,H,I.tok _,⟨_,rfl⟩,q⟩⟩)
  |int j u=>exact dP (l:=none) (u:=some (j,u)) (st:=none) ⟨o,d,c,b⟩ rfl (f7 ⟨aV (hZ z none<|some j) a,λe k=>⟨.str _,H,I.tok _,⟨_,rfl⟩,q⟩⟩)
 |int i f=>
  cases g with
  |none=>exact dP (l:=some (i,f)) (u:=none) (st:=none) ⟨o,d,c,b⟩ rfl (f7 ⟨aV (hZ z (some i) none) a,λe k=>⟨.str _,H,I.tok _,⟨_,rfl⟩,q⟩⟩)
  |int j u=>exact dP (l:=some (i,f)) (u:=some (j,u)) (st:=none) ⟨o,d,c,b⟩ rfl (f7 ⟨aV (hZ z (some i)<|some j) a,λe k=>⟨.str _,H,I.tok _,⟨_,rfl⟩,q⟩⟩)
def cutD(a:j7)(lo b:jm Int):aa D:=(a.drop<|HT.j3 a.length 0 lo).take (HT.j3 a.length a.length b - HT.j3 a.length 0 lo)
def jv.cut{K}(r:jv K al H vs ds)(lo hi):jv K al H (sr vs lo hi) (cutD ds lo hi):=by unfold sr cutD;rw[r.length];exact(r.drop _).take _
def EC:D->jm Int->jm Int->R D
 |.lst ds,lo,a=>.ok (.lst<|cutD ds lo a)
 |.str z,lo,a=>if z.length<=sizeLine then .ok (.str<|Txt.slice z lo a)else .bad
 |_,_,_=>.bad
def aal:A8 X E EC:=by
 refine⟨_,aan.or aao,λ{_ H _ _ lo f _} fr c h=>?_⟩;unfold EC at h;split at h
 ·obtain⟨a,d,rfl,i,g⟩:=c.oW;exact .inl ⟨a,d,rfl,i,λp b=>h _ (mH b) _<|(g.cut lo f).tY b (fr p b)⟩
 ·cases c;split at h;·rename_i e;exact .inr ⟨_,rfl,e,h H (.refl H) _<|.str _⟩
  ·exact h.elim
 ·exact h.elim
noncomputable def lR:jA
 |[.str z]=>if z.length<=sizeLine then .ok (.int z.length)else .bad
 |[.lst ds]=>.ok (.int ds.length)
 |[.tup ds]=>.ok (.int ds.length)
 |_=>.bad
def jv.one{K}{d}(r:jv K al H vs [d]):∃v,vs=[v]/\Rep K al H v d:=by
 cases r with
 |cons a b=>cases b;exact⟨_,rfl,a⟩
def jv.two{K}{d}(r:jv K al H vs [d,e]):∃v u,vs=[v,u]/\Rep K al H v d/\Rep K al H u e:=by
 cases r with
 |cons a b=>obtain⟨u,rfl,q⟩:=jv.one b;exact⟨_,_,rfl,a,q⟩
def NI:qW X E (.builtin "len") lR:=by
 refine⟨_,NK.or NJ,λ{_ H _ _ _} fr r h=>?_⟩;unfold lR at h;split at h
 ·obtain⟨v,rfl,q⟩:=jv.one r;cases q;split at h;·rename_i e;exact .inl ⟨_,rfl,e,h H (.refl H) _<|.int _⟩
  ·exact h.elim
 ·obtain⟨v,rfl,q⟩:=jv.one r;obtain⟨a,b,rfl,d,c⟩:=q.oW;exact .inr ⟨a,b,rfl,.inl d,by rw[c.length];exact h H (.refl H) _ (.int _)⟩
 ·obtain⟨v,rfl,q⟩:=jv.one r;obtain⟨a,b,rfl,d,c⟩:=q.pO;exact .inr ⟨a,b,rfl,.inr d,by rw[c.length];exact h H (.refl H) _ (.int _)⟩
 ·exact h.elim
noncomputable def pB:jA
 |[.int i]=>.ok (.int<|if i<0 then -i else i)
 |_=>.bad
def NA:qW X E (.builtin "abs") pB:=by
 refine⟨_,Nz,λ{_ H _ _ _} fr r h=>?_⟩;unfold pB at h;split at h
 ·obtain⟨v,rfl,q⟩:=jv.one r;cases q;exact⟨_,rfl,h H (.refl H) _<|.int _⟩
 ·exact h.elim
noncomputable def zg:jA
 |[.int i,.int j]=>.ok (.int<|if j>i then j else i)
 |_=>.bad
def NM(b:X.calm=true):qW X E (.builtin "max") zg:=by
 refine⟨_,NL b,λ{_ H _ _ _} fr r h=>?_⟩;unfold zg at h;split at h
 ·obtain⟨v,u,rfl,q,a⟩:=jv.two r;cases q;cases a;exact⟨_,_,rfl,h H (.refl H) _<|.int _⟩
 ·exact h.elim
theorem Mr:∀{bs:aa jk} {a},Vals (bs.map V.bl) a->a=bs.map Value.bool
 |[],_,r=>by cases r;rfl
 |b::bs,_,r=>by
  cases r with
  |cons d c=>cases d;rw[Mr c];rfl
def any_range(bs:aa jk):(List.range bs.length).any (λi=>bs.getD i false)=bs.any id:=by
 rw[dh];simp only[eH,cf,id];constructor
 ·rintro ⟨i,a,h⟩
  rw[bc,ar a]at h;exact⟨_,bU a,h⟩
 ·rintro ⟨b,c,h⟩
  obtain⟨i,a,rfl⟩:=bS c;exact⟨i,a,by rw[bc,ar a];exact h⟩
def NB(p:X.calm=true):mV X (.builtin "any") (λd H Q=>∃(a:ja) (bs:aa jk),d=[.ref a]/\lz X.K H a (bs.map V.bl)/\Q (.bl<|bs.any id) H):=by
 intro f s x H d y Q I r h;obtain⟨a,bs,rfl,t,q⟩:=h;obtain⟨u,rfl,j⟩:=vals1 r;cases j;obtain⟨l,g,pl,A⟩:=I.list t;have w:=Mr g;subst w;refine call_any_walk (dm pl.isList ?_);have n:(X.A.in1).handled=none:=I.ok.hd p;have c:a≠s.heap.objs.size:=aU (by obtain⟨o,e,_⟩:=pl.isList;exact Heap.lt_size e);refine⟨s.heap.objs.size,_,_,_,_,_,λi=>bs.getD i false,rfl,Walks.list n s.heap.objs.size a c (bs.map Value.bool).toArray,⟨⟨_,aD _ rfl,rfl,rfl⟩,pl.isList.at λo e=>ah _ e⟩,?_,λB tk k=>?_⟩
 ·intro i v z C D hv m;have:v=Value.bool (bs.getD i false):=by grind
  subst this;exact cH m
 ·refine⟨.bl<|bs.any id,H,I.kept (t':=tk) λb o e=>k b o (by simp only[aI];exact aU (Heap.lt_size e))<|ah _ e,?_,q⟩;show Value.bool _=Value.bool _;rw[aQ,ao,any_range]
def ry:aa D->jm (aa jk)
 |[]=>some []
 |.bl b::r=>(ry r).map (b:: ·)
 |_=>none
theorem jv.bools{K}{i:kM}:∀{d:aa V} {c:j7} {bs:aa jk},jv K i H d c->ry c=some bs->d=bs.map V.bl
 |_,[],bs,r,h=>by cases r;cases h;rfl
 |_,.bl b::c,bs,r,h=>by
  unfold ry at h;obtain⟨g,f,e⟩:=aB.mp h;subst e;cases r with
  |cons a q=>cases a;rw[jv.bools q f];rfl
 |_,.non::_,_,_,h=>by cases h
 |_,.int _::_,_,_,h=>by cases h
 |_,.str _::_,_,_,h=>by cases h
 |_,.ty _::_,_,_,h=>by cases h
 |_,.ref _::_,_,_,h=>by cases h
 |_,.tup _::_,_,_,h=>by cases h
 |_,.lst _::_,_,_,h=>by cases h
 |_,.exc _ _ _::_,_,_,h=>by cases h
def tE:jA
 |[.lst ds]=>match ry ds with
  |some bs=>.ok (.bl<|bs.any id)
  |none=>.bad
 |_=>.bad
def GQ(c:X.calm=true):qW X E (.builtin "any") tE:=by
 refine⟨_,NB c,λ{_ H _ b _} fr r h=>?_⟩;unfold tE at h;split at h
 ·rename_i b;obtain⟨v,rfl,q⟩:=jv.one r;obtain⟨a,i,rfl,f,d⟩:=q.oW;cases e:ry b with
  |none=>rw[e]at h;exact h.elim
  |some bs=>rw[e]at h;have g:=jv.bools d e;subst g;exact⟨a,bs,rfl,f,h H (.refl H) _<|.bl _⟩
 ·exact h.elim
end
def wE(K:jx)(E:XK)(f:jQ):TE:=λe H Q=>∃P g a b,RS K P g a H e b/\Aft K a E H (f b) (λd c=>∀v,Rep K a c v d->Q v c)
def wT(K:jx)(E:XK)(f:mi):TT:=λc H Q=>∃P d b a,RS K P d b H c a/\Aft K b E H (f a) Q
def wG(K:jx)(l:lC)(a:rl):TG:=λv f H Q=>∃P h e g d,RS K P h e H f g/\Rep K e H v d/\∃c,a d g=some c/\∀b,Kp l f b->RS K P h e H b c->Q b H
def DE.w{X}{E}{e}{f}(h:DE X E e f):PE X e (wE X.K E f):=by obtain⟨t,p,r⟩:=h;intro b s c H Q I g;obtain⟨P,k,j,i,d,a⟩:=g;exact p b s c H Q I (r d a)
def DT.w{X}{E}{e}{f}(h:DT X E e f):PT X e (wT X.K E f):=by obtain⟨t,p,r⟩:=h;intro b s c H Q I g;obtain⟨P,k,j,i,d,a⟩:=g;exact p b s c H Q I (r d a)
def DG.w{X}{c}{l}{a}(h:DG X c l a):PG X c (wG X.K l a):=by obtain⟨t,p,r⟩:=h;intro b s e H v u Q I g j;obtain⟨P,n,m,k,d,f,i,a⟩:=j;exact p b s e H v u Q I g (r f i a)
def vO(X:Cx)(a:lr)(f:mi):Prop:=PF X a (wT X.K (λ_ _ _=>False) f)
def OI:vO X [] (λ_=>.ok true):=λb s c H Q I h=>by obtain⟨P,g,f,d,e,a⟩:=h;exact KI b s c H Q I (a H<|.refl H)
def OJ(h:DT X (λ_ _ _=>False) c f):vO X [c] f:=KJ h.w
noncomputable def pC(b:Nat)(c:lC)(a:Ev):Ev:=List.replicate b .no++c.map λi=>match a[i]? with
 |some (.sh d)=>.sh d
 |_=>.no
def pJ{b:Type}:R b->jm b
 |.ok a=>some a
 |_=>none
def uf{b:Type}:jm b->R b
 |some a=>.ok a
 |none=>.bad
noncomputable def lD(a:rl)(c:mi)(e:jQ)(f:Ev):aa D->jm (aa D)
 |[]=>some []
 |d::r=>(a d f).bind λg=>(pJ<|c g).bind λb=>if b=true then(pJ<|e g).bind λv=>(lD a c e f r).bind λh=>some (v::h)else lD a c e f r
def kl(g:mj)(f:Nat)(h:lC)(a:rl)(c:mi)(e:jQ):Ev->R (aa D):=λb=>(g b).bind λd=>if d.length<=sizeLine then uf (lD a c e (pC f h b) d)else .bad
def Kd{a}(h:pJ r=some a):r=.ok a:=by
 cases r with
 |ok x=>cases h;rfl
 |_=>cases h
def Zy{K}(s:RS K P H0 al H1 σ ρ)(x:Xt al H1 kH H2)(g:lj K H1 H2)(fr:∀a,H2 a=none->kH a)(sub:∀a,kH a->al a)(tn)(ci):
    RS K al H1 kH H2 (mZ tn ci σ) (pC tn ci ρ) where
 same:=g
 tt:=g.tt s.tt
 fresh:=fr
 sub:=sub
 pf:=s.fresh
 len:=by unfold mZ pC;simp
 sh:=λj d h=>by
  unfold pC at h;by_cases c:j<tn;·rw[aA<|by simpa using c,b8,au c]at h;cases h
  ·rw[aN<|by simpa using c,df,aH]at h;cases q:ci[j - tn]? with
   |none=>rw[q]at h;cases h
   |some i=>
    rw[q]at h;have f:(match ρ[i]? with|some (.sh d)=>Sl.sh d|_=>.no)=.sh d:=Option.some.inj h;cases z:ρ[i]? with
    |none=>rw[z]at f;cases f
    |some y=>
     rw[z]at f;cases y with
     |sh e=>cases f;obtain⟨v,m,l⟩:=s.sh i d z;refine⟨v,?_,l.mv x⟩;unfold mZ;rw[aN<|by simpa using c,df,aH,q];show some ((σ[i]?).getD none)=_;rw[m];rfl
     |_=>cases f
 ow:=λj d h=>by
  unfold pC at h;by_cases c:j<tn;·rw[aA<|by simpa using c,b8,au c]at h;cases h
  ·rw[aN<|by simpa using c,df,aH]at h;cases q:ci[j - tn]? with
   |none=>rw[q]at h;cases h
   |some i=>rw[q]at h;have f:(match ρ[i]? with|some (.sh d)=>Sl.sh d|_=>.no)=.ow d:=Option.some.inj h;split at f<;>cases f
 apart:=λj k d n b h _ _ _=>by
  exfalso;unfold pC at h;by_cases c:j<tn;·rw[aA<|by simpa using c,b8,au c]at h;cases h
  ·rw[aN<|by simpa using c,df,aH]at h;cases q:ci[j - tn]? with
   |none=>rw[q]at h;cases h
   |some i=>rw[q]at h;have f:(match ρ[i]? with|some (.sh d)=>Sl.sh d|_=>.no)=.ow d:=Option.some.inj h;split at f<;>cases f
variable{X:Cx}{E:XK}{L M U:jB}{N:lr}{A:Scope}{pos:Pos}{fi:mj}{a:rl}{S:mi}{O:jQ}{cl:tp}{B:Nat}{Nt Y:jS}{F l:lC}
structure uA(X:Cx)(E:XK)(e:jB)(f:mj):Prop where
 w_::
 o_:∃t:TE,PE X e t/\yc X e t/\
 ∀{P H0 al H σ ρ} {Q:VK},RS X.K P H0 al H σ ρ->Aft X.K al E H (f ρ) (λds H'=>∀p vs,H' p=none->jv X.K al H' vs ds->Q (.ref p) (upd H' p<|.lst vs))->t σ H Q
def uA.dn(h:uA X E e f):DN X E e f:=let⟨t,p,_,r⟩:=h;⟨t,p,r⟩
def OV(Z:X.calm=true)(hi:DI X E L M fi)(hg:∀I k r C,DG (X.comp A (Nt++Y) cl I k r C) L l a)(hl:∀j∈l,j<B)(hf:∀I k r C,vO (X.comp A (Nt++Y) cl I k r C) N S)
    (he:∀I k r C,DE (X.comp A (Nt++Y) cl I k r C) (λ_ _ _=>False) U O)
    (T:closureFor A X.env=pure cl)(Q:A.kind=.function)(V:rG A)(H:sN A)(qO:nM X cl Y F)(yX:Nt.length=B)
    (hsub:∀x c,cl.lookup x=some c->X.env.cells.lookup x=some c)(hhas:∀x,((relabel A X.env).names.lookup x=some .cell\/(relabel A X.env).names.lookup x=some .free)->∃c,cl.lookup x=some c)
    (u7:∀x∈Y,(relabel A X.env).names.lookup x=some .cell\/(relabel A X.env).names.lookup x=some .free)
    (hs:∀x,foldedSetIterable M X.env x=pure x):uA X E (.ListComp U [⟨L,M,N,0⟩] A pos) (kl fi B F a S O):=by
 obtain⟨wi,pi,ri⟩:=hi;refine⟨_,Ec (te:=wE X.K (λ_ _ _=>False) O) (tc:=wT X.K (λ_ _ _=>False) S) (g:=wG X.K l a) Z pi (λI k r C=>(hg I k r C).w) hf (λI k r C=>(he I k r C).w) T Q V H qO yX hsub hhas u7 hs,La (te:=wE X.K (λ_ _ _=>False) O) (tc:=wT X.K (λ_ _ _=>False) S) (g:=wG X.K l a) Z pi (λI k r C=>(hg I k r C).w) hf (λI k r C=>(he I k r C).w) T Q V H qO yX hsub hhas u7 hs,λ{_ _ al _ _ ρ _} s h=>ri s<|Aft.mono (Aft.split h) λ{K H1} s1 h1 J wk=>?_⟩;intro p hp;by_cases hz:K.length<=sizeLine
 ·rw[au hz]at h1;cases q:lD a S O (pC B F ρ) K with
  |none=>rw[q]at h1;exact h1.elim
  |some out=>
   rw[q]at h1;have s2:=s.grow s1
   let f:ja->Prop:=λb=>al b/\b≠p
   refine⟨λi m G=>∃e rest d,out=e++rest/\lD a S O (pC B F ρ) (K.drop i)=some rest/\G p=some (.lst d)/\jv X.K f G d e/\lj X.K H1 G/\(∀b,G b=none->f b)/\m=K.length - i/\i<=K.length/\e.length<=i,⟨_,[],out,[],rfl,q,kK,.nil,mH hp,λb W=>?_,rfl,bQ _,ai _⟩,?_⟩
   ·have z:b≠p:=λw=>by rw[w,kK]at W;cases W
    rw[jL z]at W;exact⟨s2.fresh b W,z⟩
   ·rintro i m G ⟨e,rest,d,e1,e2,e3,e4,e5,e6,rfl,e7,e8⟩ _
    have ME:Xt al H1 f G:=λb o n W w=>⟨⟨W,nS w hp⟩,e5.at' _ _ n w⟩;obtain⟨w1,w2⟩:=wk f G ME e6;by_cases hi:i<K.length
    ·right;have ed:K[i]?=some K[i]:=ar hi;obtain⟨go,yl⟩:=w1 i _ ed;refine⟨go,λx r y=>?_⟩;obtain⟨rfl,rx⟩:=yl x r y;rw[cN hi]at e2;unfold lD at e2;obtain⟨FA,a1,a2⟩:=aP.mp e2;obtain⟨b,a3,a4⟩:=aP.mp a2;refine⟨al,H1,f,pC B F ρ,K[i],Zy s2 ME e5 e6 (λ_ z=>z.1) B F,rx,FA,a1,λσ2 kp k=>⟨⟨?_,λj hj=>kp.2 j λw=>absurd (hl j w)<|by lia⟩,al,H1,f,FA,k,?_⟩⟩;·rw[kp.1,wm]
     ·rw[Kd a3];intro H5 P;cases b with
      |false=>rw[ax ay]at a4⊢;exact⟨K.length - (i+1),by grind,e,rest,d,e1,a4,P.at' _ _ oi e3,e4.up P,e5.trans P,λb W=>e6 b<|P.free W,rfl,hi,by walk_at "l"⟩
      |true=>
       rw[au rfl]at a4⊢;obtain⟨v,a5,a6⟩:=aP.mp a4;obtain⟨vs,a7,a8⟩:=aP.mp a6;cases a8;refine⟨al,H1,f,FA,k.grow P,?_⟩;rw[Kd a5];intro H6 s6 u ru;have BQ:=s6.at' _ _ oi (P.at' _ _ oi e3);have x6:Xt f H6 f (upd H6 p (.lst (d++[u]))):=λc o _ Z w=>⟨Z,by rw[jL Z.2];exact w⟩;refine⟨d,BQ,by rw[e4.length];lia,K.length - (i+1),by grind,e++[v],vs,d++[u],by rw[e1];simp,a7,kK,((((e4.up P).up s6).append (.cons ru .nil)).mv x6),?_,λc Z=>?_,rfl,hi,by rw[aq];simp;omega⟩
       ·exact⟨λc o n w=>by
         rw[jL<|nS w hp];exact s6.at' _ _ n (P.at' _ _ n<|e5.at' _ _ n w),λc w=>by
         by_cases z:c=p;· rw[z];exact hp
         · rw[jL z]at w;exact e5.fr c (P.fr c (s6.fr c w)),λt=>(s6.tt (P.tt (e5.tt t))).upd (ze BQ).1 (ze BQ).2⟩
       ·have z:c≠p:=λw=>by rw[w,kK]at Z;cases Z
        rw[jL z]at Z;exact e6 c (P.free<|s6.free Z)
    ·left;have ei:i=K.length:=by lia
     rw[cZ<|by simp_all]at e2;cases e2;rw[bz]at e1;subst e1;refine⟨w2 i<|by simp_all,?_⟩
     let H':Hp:=λb=>if b=p then none else G b
     have hH:upd H' p (.lst d)=G:=by
      funext b;by_cases z:b=p;·subst z;rw[kK,e3]
      ·rw[jL z];show(if b=p then none else G b)=_;rw[ax z]
     have sm:lj X.K H1 H':=⟨λb o n w=>by
      show(if b=p then none else G b)=_;rw[ax<|nS w hp];exact e5.at' _ _ n w,λb w=>by
      by_cases z:b=p;· rw[z];exact hp
      · have w':(if b=p then none else G b)=none:=w;rw[ax z]at w';exact e5.fr b w',λt=>(e5.tt t).off (ze e3).1 (ze e3).2 λb z=>by show(if b=p then none else G b)=_;rw[ax z]⟩
     rw[<-hH];refine h1 H' sm p d (by show(if p=p then none else G p)=_;rw[au rfl]) (e4.mv λb o _ W w=>⟨W.1,?_⟩);show(if b=p then none else G b)=_;rw[ax W.2];exact w
 ·rw[ax hz]at h1;exact h1.elim
def xZ(x:jd):It:=⟨λi _=>i<x.cps.size,λi H v b=>b=H/\∃c,x.cps[i]?=some c/\v=.str ⟨#[c]⟩,λi _=>x.cps.size<=i⟩
def abv{w}{K}{L}(x)(t)(it):Turn P w K L (xZ x) [it] it (λi h=>h.IsStrIter it "str_ascii_iterator" x t i) where
 mem:=by simp
 obj:=λi h g b n=>by
  have e:b=it:=by simpa using n
  subst e;obtain⟨o,e,c,d⟩:=g;exact⟨o,e,λv z=>by rw[d]at z;cases z⟩
 keep:=λi h q g k=>let⟨o,ho,r⟩:=g;⟨o,k it (by simp) o ho,r⟩
 item:=by intro X C u G f i m s Z H E I hf g y;subst C u G;obtain⟨W,V,f2,T,Q,J⟩:=hf it (by simp);have j:i<x.cps.size:=y;refine wpAny_pyNext_ascii_item g (c:=x.cps[i]) (by simp[j]) λq p sb=>?_;have I1:Inv X m Z H {s with heap:=q,toks:=s.toks+1}:=I.turned (λb o n e=>(sb.2 b n).trans e) W V T Q J;obtain⟨o,e,c,d⟩:=id p;exact⟨_,rfl,tS (s:={s with heap:=q,toks:=s.toks+1}) e c d (by decide) ⟨.str ⟨#[x.cps[i]]⟩,H,I1,⟨_,rfl⟩,⟨rfl,x.cps[i],by simp[j],rfl⟩,p,λb n=>(hf b n).1⟩⟩
 done:=by intro X C u G f i m s Z H E I hf g y;subst C u G;obtain⟨W,V,f2,T,Q,J⟩:=hf it (by simp);have j:x.cps.size<=i:=y;exact wpAny_pyNext_ascii_end (I.ok.hd f) g (by simp[j]) λq eb=>⟨rfl,I.turned (t':=s.toks) (λb o n e=>eb b o n e) W V T Q J⟩
 self:=λ_ _ _ _ _ g h=>wpAny_pyIter_striter_ascii g h
def abB{w}{K}{L}(x)(t)(it):Turn P w K L (xZ x) [it] it (λi h=>h.IsStrIter it "str_iterator" x t i) where
 mem:=by simp
 obj:=λi h g b n=>by
  have e:b=it:=by simpa using n
  subst e;obtain⟨o,e,c,d⟩:=g;exact⟨o,e,λv z=>by rw[d]at z;cases z⟩
 keep:=λi h q g k=>let⟨o,ho,r⟩:=g;⟨o,k it (by simp) o ho,r⟩
 item:=by intro X C u G f i m s Z H E I hf g y;subst C u G;obtain⟨W,V,f2,T,Q,J⟩:=hf it (by simp);have j:i<x.cps.size:=y;refine wpAny_pyNext_wide_item g (c:=x.cps[i]) (by simp[j]) λq p sb=>?_;have I1:Inv X m Z H {s with heap:=q,toks:=s.toks+1}:=I.turned (λb o n e=>(sb.2 b n).trans e) W V T Q J;obtain⟨o,e,c,d⟩:=id p;exact⟨_,rfl,tS (s:={s with heap:=q,toks:=s.toks+1}) e c d (by decide) ⟨.str ⟨#[x.cps[i]]⟩,H,I1,⟨_,rfl⟩,⟨rfl,x.cps[i],by simp[j],rfl⟩,p,λb n=>(hf b n).1⟩⟩
 done:=by intro X C u G f i m s Z H E I hf g y;subst C u G;obtain⟨W,V,f2,T,Q,J⟩:=hf it (by simp);have j:x.cps.size<=i:=y;exact wpAny_pyNext_wide_end (I.ok.hd f) g (by simp[j]) λq eb=>⟨rfl,I.turned (t':=s.toks) (λb o n e=>eb b o n e) W V T Q J⟩
 self:=λ_ _ _ _ _ g h=>wpAny_pyIter_striter_wide g h
variable{e:jB}{f:jQ}
def Sb(c:TE):TI:=λb H R=>c b H λx d=>∃z,x=.str z/\R (xZ z) d
def Xq{l}(u:PE X l tl):PI X L l (Sb tl):=by
 intro d s n H R I h;refine jC (u d s n H _ I h) λv c i=>?_;obtain⟨x,j,g,p,r⟩:=i;obtain⟨z,e,q⟩:=r;subst e;obtain⟨t,rfl⟩:=p;have m:∀b∈[c.heap.objs.size],rT X d j b:=λb w=>by
  have e:b=c.heap.objs.size:=by simpa using w
  subst e;exact g.u0 (ai _) (g.hok.fresh<|ai _)
 cases k:z.cps.all (· <128)with
 |true=>refine wpAny_pyIter_ascii k ?_;exact⟨c.heap.objs.size,[c.heap.objs.size],_,_,j,rfl,g.kept (t':=c.toks) λb o e=>ah _ e,abv z t _,⟨_,aD _ rfl,rfl,rfl⟩,m,q⟩
 |false=>refine wpAny_pyIter_wide k ?_;exact⟨c.heap.objs.size,[c.heap.objs.size],_,_,j,rfl,g.kept (t':=c.toks) λb o e=>ah _ e,abB z t _,⟨_,aD _ rfl,rfl,rfl⟩,m,q⟩
def signs(z:jd):aa D:=z.cps.toList.map λc=>.str ⟨#[c]⟩
def abK{K}:Wk K al H (xZ z) (signs z):=by
 intro j n x fr;refine⟨λi d h=>?_,λi h=>?_⟩
 ·unfold signs at h;rw[aH,bg]at h;cases q:z.cps[i]? with
  |none=>simp_all
  |some c=>rw[q]at h;cases h;refine⟨(bD.mp q).1,λy k w=>⟨w.1,?_⟩⟩;obtain⟨m,b,g⟩:=w.2;rw[q]at b;cases b;subst g;exact .str _
 ·unfold signs at h;show z.cps.size<=i;simpa using h
def j2(d:D):R (aa D):=match d with
 |.lst ds=>.ok ds
 |.tup ds=>.ok ds
 |.str z=>.ok (signs z)
 |_=>.bad
def OK(u:DE X E e f):DI X E L e (λj=>(f j).bind j2):=by
 obtain⟨t,p,r⟩:=u;refine⟨_,KO (KN p)<|KO (Xr p)<|Xq p,λ{_ _ _ _ _ j _} s h=>?_⟩
 (try dsimp only at h)
 cases q:f j with
 |bad=>rw[q]at h;exact h.elim
 |ex c x o=>rw[q]at h;exact .inl (r s<|by rw[q];exact h)
 |ok d=>
  rw[q]at h;cases d with
  |lst o=>left;refine r s ?_;rw[q];intro i g v b;obtain⟨a,k,n,m,w⟩:=b.oW;subst n;exact⟨a,rfl,⟨k,m⟩,h i g _<|Mz b⟩
  |tup o=>right;left;refine r s ?_;rw[q];intro i g v b;obtain⟨a,k,n,m,w⟩:=b.pO;subst n;exact⟨a,rfl,⟨k,m⟩,h i g _<|abL b⟩
  |str z=>right;right;refine r s ?_;rw[q];intro i g v b;cases b;exact⟨z,rfl,h i g _ abK⟩
  |_=>exact(h:False).elim
def tyName:D->jm String
 |.non=>some "NoneType"
 |.bl _=>some "bool"
 |.int _=>some "int"
 |.str _=>some "str"
 |.lst _=>some "list"
 |.tup _=>some "tuple"
 |_=>none
def vh:aa String:=["NoneType","bool","int","str","list","tuple"]
def Tn(K):∀T∈vh,∀n∈vh,W.kitOne K (.type T) (.type n)=some (T==n||(T=="bool"&&n=="int")):=by intro T hT n b;simp only[vh,az,cF,fY]at hT b;rcases hT with rfl|rfl|rfl|rfl|rfl|rfl<;>rcases b with rfl|rfl|rfl|rfl|rfl|rfl<;>first|rfl|kernel_rfl
noncomputable def isD:jA
 |[d,.ty n]=>match tyName d with
  |some T=>if vh.contains n then .ok (.bl<|T==n||(T=="bool"&&n=="int"))else .bad
  |none=>.bad
 |_=>.bad
def YY(X:Cx):aa V->Hp->VK->Prop:=λd H Q=>∃x n T,d=[x,.ty n]/\vh.contains T=true/\vh.contains n=true/\
 ((x=.non/\T="NoneType")\/(∃b,x=.bl b/\T="bool")\/(∃i,x=.int i/\T="int")\/(∃z,x=.str z/\T="str")\/(∃a c,x=.ref a/\lz X.K H a c/\T="list")\/(∃a c,x=.ref a/\mx X.K H a c/\T="tuple"))/\Q (.bl<|T==n||(T=="bool"&&n=="int")) H
def NF:mV X (.builtin "isinstance") (YY X):=by
 intro j s y H V Z Q I r h;obtain⟨x,n,T,rfl,K,J,P,q⟩:=h;obtain⟨u,c,rfl,g,G⟩:=vals2 r;cases G;have e:=Tn X.K T (by simpa using K) n (by simpa using J);have d:∀tk,EP X j y Q (.bool<|T==n||(T=="bool"&&n=="int")) {s with toks:=tk}:=λtk=>⟨.bl _,H,I.tok tk,rfl,q⟩;rcases P with⟨rfl,rfl⟩|⟨b,rfl,rfl⟩|⟨i,rfl,rfl⟩|⟨z,rfl,rfl⟩|⟨a,C,rfl,p,rfl⟩|⟨a,C,rfl,p,rfl⟩;·cases g;exact gj W.kitx_none I.mm True.intro e (λz=>nomatch z) d
 ·cases g;exact gj W.kitx_bool I.mm True.intro e (λz=>nomatch z) d
 ·obtain⟨t,rfl⟩:=g;exact gj W.kitx_int I.mm True.intro e (λz=>nomatch z) d
 ·obtain⟨t,rfl⟩:=g;exact gj W.kitx_str I.mm True.intro e (λz=>nomatch z) d
 ·cases g;obtain⟨m,_,pl,_⟩:=I.list p;obtain⟨o,k,w,v,_⟩:=pl;exact gj W.kitx_list I.mm ⟨o,w,v⟩ e (λz=>nomatch z) d
 ·cases g;obtain⟨m,_,pl,_⟩:=I.tuple p;obtain⟨o,w,v,_⟩:=pl;exact gj W.kitx_tuple I.mm ⟨o,w,v⟩ e (λz=>nomatch z) d
def NH:qW X E (.builtin "isinstance") isD:=by
 refine⟨_,NF,λ{_ H _ _ _} fr r h=>?_⟩;unfold isD at h;split at h
 ·rename_i d n;obtain⟨v,u,rfl,q,i⟩:=jv.two r;cases i;cases e:tyName d with
  |none=>rw[e]at h;exact h.elim
  |some T=>
   rw[e]at h;dsimp only at h;split at h
   ·rename_i g;have c:=h H (.refl H) _ (.bl _);cases q with
    |non=>cases e;exact⟨_,n,_,rfl,rfl,g,.inl ⟨rfl,rfl⟩,c⟩
    |bl b=>cases e;exact⟨_,n,_,rfl,rfl,g,.inr<|.inl ⟨b,rfl,rfl⟩,c⟩
    |int b=>cases e;exact⟨_,n,_,rfl,rfl,g,.inr<|.inr<|.inl ⟨b,rfl,rfl⟩,c⟩
    |str b=>cases e;exact⟨_,n,_,rfl,rfl,g,.inr<|.inr<|.inr<|.inl ⟨b,rfl,rfl⟩,c⟩
    |lst p _=>cases e;exact⟨_,n,_,rfl,rfl,g,.inr<|.inr<|.inr<|.inr<|.inl ⟨_,_,rfl,p.elim (λz=>.inl z.2) KL.sq,rfl⟩,c⟩
    |tup p _=>cases e;exact⟨_,n,_,rfl,rfl,g,.inr<|.inr<|.inr<|.inr<|.inr ⟨_,_,rfl,p.elim (λz=>.inl<|.inl z.2) .inr,rfl⟩,c⟩
    |_=>cases e
   ·exact h.elim
 ·exact h.elim
def GH:bootBuiltins "isinstance"=some (.builtin "isinstance"):=by decide+kernel
def GI:bootBuiltins "len"=some (.builtin "len"):=by decide+kernel
def GC:bootBuiltins "abs"=some (.builtin "abs"):=by decide+kernel
def Bz:bootBuiltins "max"=some (.builtin "max"):=by decide+kernel
def GD:bootBuiltins "any"=some (.builtin "any"):=by decide+kernel
def GG:bootBuiltins "int"=some (.type "int"):=by decide+kernel
def GF:bootBuiltins "bool"=some (.type "bool"):=by decide+kernel
end P2
namespace Fx
open PySem
variable{c:jT}{w:jK}{A:kh}{E:ki}{h:jw}{g:kr GenState}{d:Drawn}{t:Nat}{f:OsState}
variable{l q:jd}{C N:ja}{bs e B:kL}{b:jk}{j:jS}{sub:kL}{z:jk}{i:jm jk}{dd:mP}{y v r p m:yr}{a:String}
def N7{o}{R:tq}(hC:h.get? C=some (excClassObj l q C N bs e b j sub z i dd y v r p m a))(k:e.contains (.type "object")=true)
 (u:h.get? x=some o)(D:o.cls=.ref C)(F:R (.ok<|.ret<|.ref C) ⟨h,g,d,t,f⟩):
   codeAny (model c w) A (.call (.builtin "getset_descriptor.__get__") ⟨[.builtin "object.__class__",.ref x,.ref C],[]⟩) R ⟨h,g,d,t,f⟩:=by
  have s:(⟨h,g,d,t,f⟩:jr).TypeIs (.builtin "object.__class__") "getset_descriptor":=d7;have ow:".".intercalate ("object.__class__".cutAt '.').dropLast="object":=by decide+kernel
  have n:(Value.ref C::e).contains (.type<|".".intercalate ("object.__class__".cutAt '.').dropLast)=true:=by rw[ow,List.contains_cons,k,Bool.or_true]
  refine fZ PySem.F.slot_gs_get.plain PySem.F.entry_gs_get (PySem.F.slot_gs_get.check _ _ _ _ _ _ _ _ s (PySem.F.args_gs_get _ _ _) ?_);repeat(any_goals(first|assumption|(with_reducible refine d8 u ?_;rw[D])|(with_reducible refine wpAny_isSubtype_exc hC ?_;rw[n])|wp_step))
  refine⟨Code.quiet_builtin _<|by decide+kernel,cj PySem.F.entry_object_class ?_⟩;repeat(any_goals(first|assumption|(with_reducible refine d8 u ?_;rw[D])|wp_step))
def N6{o}{Q:Fin->jr->Prop}(hC:h.get? C=some (excClassObj l q C N bs e b j sub z i dd y v r p m a))(k:e.contains (.type "object")=true)
 (u:r6 h C "__class__"<|some<|.builtin "object.__class__")(n:h.get? x=some o)(s:o.cls=.ref C)(F:Q (.done<|.ret<|.ref C) ⟨h,g,d,t,f⟩):
   wpAny (model c w) A (Builtin.«object.__getattribute__» ⟨[.ref x,.str "__class__" tk],[]⟩) Q E ⟨h,g,d,t,f⟩:=by
  have D:(⟨h,g,d,t,f⟩:jr).TypeIs (.builtin "object.__class__") "getset_descriptor":=d7;have I:=d7;have H:=PySem.F.slot_gs_get.lookup;have G:=PySem.F.slot_gs_set.lookup;repeat(any_goals(first|assumption|(with_reducible refine d8 n ?_;rw[s])|with_reducible refine u _ _ _ _ _ _ _ _ ?_|wp_step))
  refine N7 hC k n s ?_;repeat(any_goals(first|assumption|wp_step))
def NV{o}{Q:uN}(hC:h.get? C=some (excClassObj l q C N bs e b j sub z i dd y v r p m a))
 (n:e.contains (.type "BaseException")=true)(u:h.get? x=some o)(G:o.cls=.ref C)(D:Q () ⟨h,g,d,t,f⟩):wpAny M A (checkBuiltinCall "BaseException.__getattribute__" ⟨[.ref x,nv],[]⟩) Q E ⟨h,g,d,t,f⟩:=by
  have F:builtinKind "BaseException.__getattribute__"=some .slot:=by decide+kernel
  have k:splitId "BaseException.__getattribute__"=some ("BaseException","__getattribute__"):=by decide+kernel
  have s:(Value.ref C::e).contains (.type "BaseException")=true:=by rw[List.contains_cons,n,Bool.or_true]
  have H:=PySem.F.args_bexc_ga (.ref x) nv;simp only[checkBuiltinCall,F,k];refine ae ?_;unfold isInstance;repeat(first|(with_reducible refine d8 u ?_;rw[G])|(with_reducible refine wpAny_isSubtype_exc hC ?_;rw[s])|wp_step)
  exact D
def N5{o}{Q:ki}(hC:h.get? C=some (excClassObj l q C N bs e b j sub z i dd y v r p m a))(H:e.contains (.type "BaseException")=true)(n:e.contains (.type "object")=true)
 (G:r6 h C "__getattribute__"<|some<|.builtin "BaseException.__getattribute__")(F:r6 h C "__getattr__" none)(D:r6 h C "__class__"<|some<|.builtin "object.__class__")(k:h.get? x=some o)(s:o.cls=.ref C)(J:Q (.ref C) ⟨h,g,d,t,f⟩):
   wpAny (model c w) A (getAttrBy (.ref x) (.str "__class__" tk) false) Q E ⟨h,g,d,t,f⟩:=by
  have u:=PySem.F.attr_ValueError;have K:=u.ga.bind (.ref x);have z2:(Value.builtin "BaseException.__getattribute__"==Value.builtin "object.__getattribute__")=false:=by decide+kernel
  have I:(onTheHeap (Value.ref C)&&Value.builtin "BaseException.__getattribute__"==Value.builtin "object.__getattribute__")=false:=by rw[z2];rfl
  repeat(any_goals(first|assumption|(with_reducible refine d8 k ?_;rw[s])|with_reducible refine G _ _ _ _ _ _ _ _ ?_|with_reducible refine F _ _ _ _ _ _ _ _ ?_|wp_step))
  refine fZ u.ga.plain PySem.F.entry_bexc_ga (NV hC H k s<|N6 hC n D k s ?_);repeat(any_goals(first|assumption|wp_step))
def N4{o}{Q:pV}(hC:h.get? C=some (excClassObj l q C N bs e b j sub z i dd y v r p m a))(G:e.contains (.type "BaseException")=true)(k:e.contains (.type "object")=true)
 (u:r6 h C "__getattribute__"<|some<|.builtin "BaseException.__getattribute__")(s:r6 h C "__getattr__" none)(n:r6 h C "__class__"<|some<|.builtin "object.__class__")(D:h.get? x=some o)(F:o.cls=.ref C)(H:Q (some<|.ref C) ⟨h,g,d,t+1,f⟩):
   wpAny (model c w) A (getAttr? (.ref x) "__class__") Q E ⟨h,g,d,t,f⟩:=by
  unfold getAttr? getAttrBy?;repeat(any_goals(first|assumption|with_reducible apply N5 hC G k u s n D F|wp_step))
end Fx
namespace L2
open PySem PySem.Spec PyProof.Rows
structure yu(K:jx)(C:ja):Prop where
 ob:∀h:jw,K.In h->∃nm q N bs bm Q5 sn sub ab col dd k0 k1 k2 k3 k5 newId,h.get? C=some (excClassObj nm q C N bs bm Q5 sn sub ab col dd k0 k1 k2 k3 k5 newId)/\bm.contains (.type "BaseException")=true/\bm.contains (.type "object")=true
 ga:W.findIn K (.ref C) "__getattribute__"=some (some<|.builtin "BaseException.__getattribute__")
 gn:W.findIn K (.ref C) "__getattr__"=some none
 cl:W.findIn K (.ref C) "__class__"=some (some<|.builtin "object.__class__")
structure Ge(K:jx)(C:ja):Prop where
 cls:W.excIn K C [.type "ValueError",.type "Exception",.type "BaseException",.type "object"] "ValueError.__new__"=true
 kp:W.keepIn K (.ref C)=true
 ga:W.findIn K (.ref C) "__getattribute__"=some (some<|.builtin "BaseException.__getattribute__")
 gn:W.findIn K (.ref C) "__getattr__"=some none
 cl:W.findIn K (.ref C) "__class__"=some (some<|.builtin "object.__class__")
def To{K:jx}{x C:ja}(c:yu K C):W.KitX K (.ref x) (.ref C) (λh=>∃o,h.get? x=some o/\o.cls=.ref C) where
 ty:=λM h k p=>by obtain⟨o,j,i⟩:=p;exact i▸(W.Looks.ld j).andThen .now
 it:=λM h k p=>by obtain⟨u,q,N,bs,H,a,m,sub,I,b,dd,G,F,D,B,y,v,hC,_⟩:=c.ob h k;intro A' Y Z V O L;unfold isType loadHead;exact ae (wpAny_loadPart (O _ _ hC)<|af L)
 ne:=λh J dd P n U k f=>by obtain⟨u,q,N,bs,H,a,m,sub,I,b,l,G,F,D,B,y,v,hC,_⟩:=c.ob h k;refine Bool.eq_false_iff.mpr λz=>?_;have e:C=J:=Value.ref.inj (ee.mp z);subst e;have z:=bN Obj.cls (Option.some.inj<|hC.symm.trans f);have z2:Value.type "type"=Value.type "tuple":=z;exact absurd (Value.type.inj z2) (by decide)
 ca:=λ{r w A E Q s} k p R=>by obtain⟨o,j,i⟩:=p;obtain⟨u,q,N,bs,H,a,m,sub,I,b,l,G,F,D,B,y,v,hC,T,S⟩:=c.ob _ k;obtain⟨h,g,d,t,X⟩:=s;exact Fx.N4 hC T S (ER k c.ga) (ER k c.gn) (ER k c.cl) j i R
variable{X:Cx}
def NG:mV X (.builtin "isinstance") (λg H Q=>∃a c d f u b,g=[.ref a,f]/\H a=some (yI a c d)/\yu X.K c/\(∀z,RelV f z->z=u)/\W.kitOne X.K (.ref c) u=some b/\Q (.bl b) H):=by intro i s v H g x Q I r h;obtain⟨a,c,d,f,u,b,rfl,o,j,un,e,q⟩:=h;obtain⟨y,k,rfl,m,l⟩:=vals2 r;cases un k l;cases m;obtain⟨⟨n,w,t,p,B,A⟩,_,_⟩:=I.hok a _ o;exact gj (To j) I.mm ⟨n,t,p⟩ e (λz=>nomatch z) λtk=>⟨.bl b,H,I.tok tk,rfl,q⟩
end L2
namespace P2
open PySem L2 PySem.Spec
open PyProof.Rows hiding St
section
variable{X:Cx}{E:XK}{x:jd}{e:Pos}
def NU(h:mV X f r)(i:mV X f r'):mV X f (λb H Q=>r b H Q\/r' b H Q):=
 λa s c H b d Q I g q=>q.elim (h a s c H b d Q I g) (i a s c H b d Q I g)
def G3:D->jm je
 |.ref C=>some (.ref C)
 |.ty T=>some (.type T)
 |_=>none
noncomputable def vc(q:ja->je->jm jk)(a:j7):R D:=match a with
 |[.exc c _ _,d]=>(match(G3 d).bind (q c)with
  |some b=>.ok (.bl b)
  |none=>.bad)
 |a=>isD a
def xX(K:jx)(q:ja->je->jm jk):Prop:=∀c u b,q c u=some b->yu K c/\W.kitOne K (.ref c) u=some b
def GS(s:xX X.K q):qW X E (.builtin "isinstance") (vc q):=by
 obtain⟨D,A,t⟩:=NH (X:=X) (E:=E);refine⟨_,NU NG A,λ{M H B L Q} fr r h=>?_⟩;unfold vc at h;split at h
 ·rename_i c J K d;obtain⟨v,u,rfl,p,f⟩:=jv.two r;left;cases z:(G3 d).bind (q c)with
  |none=>rw[z]at h;exact h.elim
  |some b=>
   rw[z]at h;have o:=h H (.refl H) _ (.bl _);obtain⟨w,g,z2⟩:=aP.mp z;obtain⟨l,n⟩:=s _ _ _ z2;have i:∃a j,v=.ref a/\H a=some (yI a c j):=by
    cases p with
    |exc m f I G F=>exact⟨_,_,rfl,f⟩
    |HJ m f=>exact⟨_,_,rfl,f⟩
   obtain⟨a,j,rfl,i⟩:=i;refine⟨a,c,j,u,w,b,rfl,i,l,λy k=>?_,n,o⟩;cases f with
   |ref C=>cases g;exact k
   |ty T=>cases g;exact k
   |_=>cases g
 ·exact .inr (t fr r h)
mutual
def nj:D->jm PyData
 |.non=>some .none
 |.bl b=>some (.bool b)
 |.int i=>some (.int i)
 |.str z=>some (.str z)
 |.tup ds=>(lI ds).map .tuple
 |.lst ds=>(lI ds).map .list
 |_=>none
def lI:aa D->jm (aa PyData)
 |[]=>some []
 |d::a=>(nj d).bind λp=>(lI a).map (p:: ·)
end
def xn{s}(I:Inv X pins σ H s){v d u p}(r:Rep X.K al H v d):RelV v u->nj d=some p->∃f,Reads s.heap u p f:=by
 revert u p;refine Rep.rec (motive_1:=λv d _=>∀{u p},RelV v u->nj d=some p->∃f,Reads s.heap u p f) (motive_2:=λg j _=>∀{k h},Vals g k->lI j=some h->∃f,ReadsAll s.heap k h f) ?_ ?_ ?_ ?_ ?_ ?_ ?_ ?_ ?_ ?_ ?_ ?_ r;·intro u p r e;cases r;cases e;exact⟨_,.none⟩
 ·intro b u p r e;cases r;cases e;exact⟨_,.bool _⟩
 ·intro b u p r e;obtain⟨t,rfl⟩:=r;cases e;exact⟨_,.int _ _⟩
 ·intro b u p r e;obtain⟨t,rfl⟩:=r;cases e;exact⟨_,.str _ _⟩
 ·intro b u p r e;cases e
 ·intro b u p r e;cases e
 ·intro a g j z _ A u p r e;cases r;have D:(lI _).map PyData.tuple=some _:=e;obtain⟨h,i,rfl⟩:=aB.mp D;have l:mx X.K H _ g:=z.elim (λz=>.inl<|.inl z.2) .inr;obtain⟨q,m,⟨o,C,B,n,E⟩,_⟩:=I.tuple l;obtain⟨f,w⟩:=A m i;exact⟨f,reads_tuple_at C B E<|by simpa using w⟩
 ·intro a g j z _ A u p r e;cases r;have D:(lI _).map PyData.list=some _:=e;obtain⟨h,i,rfl⟩:=aB.mp D;have l:lz X.K H _ g:=z.elim (λz=>.inl z.2) KL.sq;obtain⟨q,m,⟨o,n,C,B,E,L⟩,_⟩:=I.list l;obtain⟨f,w⟩:=A m i;exact⟨_,reads_list_at C B L<|by simpa using w⟩
 ·intro a c Q P g j _ _ _ _ _ _ u p r e;cases e
 ·intro a c _ _ u p r e;cases e
 ·intro k h r e;cases r;cases e;exact⟨_,.nil⟩
 ·intro v d g j _ _ y x k h r e;cases r with
  |cons K J=>obtain⟨O,i,N⟩:=aP.mp e;obtain⟨h,M,rfl⟩:=aB.mp N;obtain⟨f,G⟩:=y K i;obtain⟨bs,F⟩:=x J M;exact⟨_,.cons G F⟩
noncomputable def rB(a b:D):jm jk:=(nj a).bind λp=>(nj b).bind λq=>if(SeqAt.shaped p&&SeqAt.shaped q)=true then some (PyData.eqv p q)else none
def pY(a b:D):R D:=match rB a b with
 |some r=>.ok (.bl r)
 |none=>.bad
def nR(a b:D):R D:=match rB a b with
 |some r=>.ok (.bl<|!r)
 |none=>.bad
def HI{c:kX}{h:L2.St}{H:Hp}{s:jr}(I:Inv X c h H s){g:kM}{x y:V}{a b:D}{u v:je}{r:jk}(n:Rep X.K g H x a)(m:Rep X.K g H y b)(l:RelV x u)(k:RelV y v)(e:rB a b=some r):
    ∃p q f bs,Reads s.heap u p f/\Reads s.heap v q bs/\SeqAt.shaped p=true/\SeqAt.shaped q=true/\PyData.eqv p q=r:=by
 obtain⟨p,w,t⟩:=aP.mp e;obtain⟨q,o,d⟩:=aP.mp t;split at d
 ·rename_i z;rw[aK]at z;obtain⟨f,j⟩:=xn I n l w;obtain⟨bs,i⟩:=xn I m k o;exact⟨p,q,f,bs,j,i,z.1,z.2,Option.some.inj d⟩
 ·cases d
def Kn(o:X.A.units+64<cLine):lh X E (compareOp .Eq) pY:=by
 refine⟨λx y H Q=>∃c a b r,Rep X.K c H x a/\Rep X.K c H y b/\rB a b=some r/\Q (.bl r) H,λf s B H x y v u Q I e d h=>?_,λ{c H _ _ i g _} fr e d h=>?_⟩
 ·obtain⟨c,a,b,r,A,z,w,t⟩:=h;obtain⟨p,q,C,bs,n,m,l,k,j⟩:=HI I A z e d w;exact eq_dataH n m l k o (by rw[j];exact⟨.bl r,H,I,rfl,t⟩)
 ·unfold pY at h;cases q:rB i g with
  |none=>rw[q]at h;exact h.elim
  |some r=>rw[q]at h;exact⟨c,i,g,r,e,d,q,h H (.refl H) _<|.bl r⟩
def D5(o:X.A.units+64<cLine):lh X E (compareOp .NotEq) nR:=by
 refine⟨λx y H Q=>∃c a b r,Rep X.K c H x a/\Rep X.K c H y b/\rB a b=some r/\Q (.bl<|!r) H,λf s B H x y v u Q I e d h=>?_,λ{c H _ _ i g _} fr e d h=>?_⟩
 ·obtain⟨c,a,b,r,A,z,w,t⟩:=h;obtain⟨p,q,C,bs,n,m,l,k,j⟩:=HI I A z e d w;exact ne_dataH n m l k o (by rw[j];exact⟨.bl (!r),H,I,rfl,t⟩)
 ·unfold nR at h;cases q:rB i g with
  |none=>rw[q]at h;exact h.elim
  |some r=>rw[q]at h;exact⟨c,i,g,r,e,d,q,h H (.refl H) _<|.bl<|!r⟩
end
open PySem.Builtin PySem.Builtin.Str
open PyProof.Rows hiding St
variable{X:Cx}{E:XK}
def zv(i j:Int):jk:=(decide (-18446744073709551616<i)&&decide (i<18446744073709551616))||(decide (-18446744073709551616<j)&&decide (j<18446744073709551616))
end P2
namespace P2
open PySem L2 PySem.Spec
open PyProof.Rows hiding St
def xg{g:qB}{P:jT}{w:jK}{K:jx}{h:kG}{d:jw}{N:jS}{c:jd}{b:Scope}{f:ja}{i:je}{A:kh}{a:my}{s:jr}{H:Hp}{E:XK}:
    PassesOwn (model (kR g P w K h d N c b f i A a s H E).prog (kR g P w K h d N c b f i A a s H E).w) (kR g P w K h d N c b f i A a s H E).A (kR g P w K h d N c b f i A a s H E).env (kR g P w K h d N c b f i A a s H E).xe:=
 PassesOwn.leaving (Q₁:=λe j=>g a H s E e j)
section
variable{X:Cx}{E:XK}{e a b c B:jB}{f A q m:jQ}{l:Pos}
def zQ(i j:Nat)(fs:mj):jV:=λd=>toS (fs d) λg=>match g with
 |[d1,d2]=>if i<d.length/\j<d.length then .nx ((d.set i<|.sh d1).set j (.sh d2))else .bad
 |_=>.bad
def Hv{fs pt n o d}(i j)(L:X.calm=true)(hN:X.N.Nodup)(K:X.N[i]?=some x)(J:X.N[j]?=some y)(u:i≠j)
 (G:X.env.scope.names.lookup x=some .local)(F:X.env.scope.names.lookup y=some .local)(M:DA X E [a,b] fs)
 (H:autoParam (swappedStores [.Tuple [.Name x px,.Name y py] n pt] (.Tuple [a,b] o d) X.env=pure (some [x,y])) aZ0)
 (I:autoParam (swapsWithSole [.Tuple [.Name x px,.Name y py] n pt] (.Tuple [a,b] o d) l.line X.env=pure false) aZ0):
   DS X E (.Assign [.Tuple [.Name x px,.Name y py] n pt] (.Tuple [a,b] o d) l) (zQ i j fs):=by
  obtain⟨t,p,r,_⟩:=M;refine⟨_,XM L hN K J u G F p H I,λ{_ _ N _ _ _ _} s h=>r s<|Aft.mono (lu.rK h s) λ{_ O} v g P w=>?_⟩;split at g
  ·rename_i d1 d2;cases w with
   |cons D k=>
    cases k with
    |cons k C=>
     cases C;split at g
     ·rename_i z;exact⟨_,_,rfl,g N O _ .refl (((s.grow v).set z.1 D).set (by rw[aT];exact z.2) k)⟩
     ·exact g.elim
  ·exact g.elim
def su(g h:qI)(A q m:jQ):jQ:=λd=>(A d).bind λx=>(q d).bind λy=>(g x y).bind λz=>match z with
 |.bl true=>(m d).bind λw=>h y w
 |.bl false=>.ok (.bl false)
 |_=>.bad
def O8{g}(M:lh X E (compareOp op) g)(n:lh X E (compareOp xb) g')(Q:DE X E a A)(P:DE X E b q)(O:DE X E c m)
 (N:lastMarks [op,xb] [b,c]=false:=by with_unfolding_all rfl):DT X E (.Compare a [op,xb] [b,c] l) (b1 tB<|su g g' A q m):=by
  obtain⟨r1,L,d1⟩:=M;obtain⟨r2,K,d2⟩:=n;obtain⟨ta,J,F⟩:=Q;obtain⟨Z,I,D⟩:=P;obtain⟨Y,H,C⟩:=O;refine⟨_,XO L K J I H N,λs h=>F s<|Aft.mono (Aft.split<|Aft.split h) λr U v y=>D (s.grow r)<|Aft.mono (Aft.split U) λp T u w=>?_⟩;have i:=(s.grow r).grow p;refine d1 i.fresh (y.up p) w (Aft.mono (Aft.split T) λ{z x} j d V t=>?_);split at d
  ·cases t;refine⟨true,rfl,?_⟩;rw[au rfl];exact C (i.grow j) (Aft.mono (Aft.split d) λo S wv k=>d2 ((i.grow j).grow o).fresh (w.up<|j.trans o) k (Aft.mono S λs5 R W G=>vq G R))
  ·cases t;refine⟨false,rfl,?_⟩;rw[ax<|by decide];exact vq (.bl false) (d x<|.refl x)
  ·exact d.elim
noncomputable def ED:D->jm Int->jm Int->R D
 |.tup ds,lo,g=>if¬(HT.j3 ds.length 0 lo=0/\HT.j3 ds.length ds.length g=ds.length)then .ok (.tup<|cutD ds lo g)else .bad
 |d,lo,g=>EC d lo g
def aam:A8 X E ED:=by
 obtain⟨s,k,r⟩:=aal (X:=X) (E:=E);refine⟨_,aap.or k,λ{_ _ _ _ lo n _} fr g h=>?_⟩;unfold ED at h;split at h
 ·obtain⟨a,j,rfl,o,i⟩:=g.pO;split at h
  ·rename_i z;exact .inl ⟨a,j,rfl,o,by rw[i.length];exact z,λp d=>h _ (mH d) _ ((i.cut lo n).ET d (fr p d))⟩
  ·exact h.elim
 ·exact .inr (r fr g h)
structure Az(X:Cx)(E:XK)(op:Operator)(g:qI):Prop where
 w_::
 o_:∃t:yf,yb X op t/\
 ∀{al H x y dx dy} {Q:VK},(∀a,H a=none->al a)->Rep X.K al H x dx->Rep X.K al H y dy->Aft X.K al E H (g dx dy) (λd H'=>∀v,Rep X.K al H' v d->Q v H')->t x y H Q
def Bi:D->D->R D
 |.int i,.int j=>.ok (.int<|i+j)
 |_,_=>.bad
def Bj:D->D->R D
 |.int i,.int j=>.ok (.int<|i - j)
 |_,_=>.bad
def Sr:Az X E .Add Bi:=by
 refine⟨_,Sq,λ{_ H _ _ _ _ _} fr g d h=>?_⟩;unfold Bi at h;split at h;·cases g;cases d;exact⟨_,_,rfl,rfl,h H (.refl H) _<|.int _⟩
 ·exact h.elim
def Su:Az X E .Sub Bj:=by
 refine⟨_,Ss,λ{_ H _ _ _ _ _} fr g d h=>?_⟩;unfold Bj at h;split at h;·cases g;cases d;exact⟨_,_,rfl,rfl,h H (.refl H) _<|.int _⟩
 ·exact h.elim
end
variable{X:Cx}{E:XK}
noncomputable def sA(x:D)(b:j7):jm jk:=(nj x).bind λp=>(lI b).bind λa=>if(PyData.canLayAll0 a&&PyData.canLay0 p&&decide (p.depth<=63))=true then some (a.any λy=>PyData.eqv y p)else none
def lQ(x y:D):R D:=match y with
 |.lst a=>(match sA x a with
  |some b=>.ok (.bl b)
  |none=>.bad)
 |.tup a=>(match sA x a with
  |some b=>.ok (.bl b)
  |none=>.bad)
 |_=>C7 x y
def Q2{s}(I:Inv X pins σ H s)(q:X.A.units+64<cLine){d u}(m:Rep X.K al H x d)(f:Rep X.K al H y (.lst ys)\/Rep X.K al H y (.tup ys))(l:RelV x u)(j:RelV y v)(e:sA d ys=some b):
    ∃p a c bs,(Reads s.heap v (.list a) c\/Reads s.heap v (.tuple a) c)/\Reads s.heap u p bs/\PyData.canLayAll0 a=true/\PyData.canLay0 p=true/\X.A.units+1+min (PyData.depthAll a) p.depth<cLine/\(a.any λy=>PyData.eqv y p)=b:=by
 obtain⟨p,o,n⟩:=aP.mp e;obtain⟨a,k,g⟩:=aP.mp n;split at g
 ·rename_i z;simp only[aK,aS]at z;obtain⟨bs,i⟩:=xn I m l o;have:=Nat.min_le_right (PyData.depthAll a) p.depth;rcases f with f|f
  ·obtain⟨c,h⟩:=xn (p:=.list a) I f j (show(lI ys).map PyData.list=some _ by rw[k];rfl);exact⟨p,a,c,bs,.inl h,i,z.1.1,z.1.2,by lia,Option.some.inj g⟩
  ·obtain⟨c,h⟩:=xn (p:=.tuple a) I f j (show(lI ys).map PyData.tuple=some _ by rw[k];rfl);exact⟨p,a,c,bs,.inr h,i,z.1.1,z.1.2,by lia,Option.some.inj g⟩
 ·cases g
def VM(A:X.A.units+64<cLine):lh X E (compareOp .In) lQ:=by
 obtain⟨w,z,F⟩:=VN (X:=X) (E:=E);refine⟨λx y H Q=>(∃c d a b,Rep X.K c H x d/\(Rep X.K c H y (.lst a)\/Rep X.K c H y (.tup a))/\sA d a=some b/\Q (.bl b) H)\/w x y H Q,λi s t H x y v u Q I f e h=>?_,λ{c H x y j _ Q} fr f e h=>?_⟩
 ·rcases h with⟨c,d,a,b,D,C,B,r⟩|h
  ·obtain⟨p,G,J,bs,g,o,n,m,l,k⟩:=Q2 I A D C f e B;rcases g with g|g;·exact SeqAt.in_list_reads g o n m l (by rw[k];exact⟨.bl b,H,I,rfl,r⟩)
   ·exact SeqAt.in_tuple_reads g o n m l (by rw[k];exact⟨.bl b,H,I,rfl,r⟩)
  ·exact z i s t H x y v u Q I f e h
 ·unfold lQ at h;split at h
  ·rename_i a;cases q:sA j a with
   |none=>rw[q]at h;exact h.elim
   |some b=>rw[q]at h;exact .inl ⟨c,j,a,b,f,.inl e,q,h H (.refl H) _<|.bl b⟩
  ·rename_i a;cases q:sA j a with
   |none=>rw[q]at h;exact h.elim
   |some b=>rw[q]at h;exact .inl ⟨c,j,a,b,f,.inr e,q,h H (.refl H) _<|.bl b⟩
  ·exact .inr (F fr f e h)
variable{e:jB}{F:mj}{C:Pos}
def O2(i)(hN:X.N.Nodup)(n:X.N[i]?=some x)(l:Loc X.env.scope x)(u:uA X E e F)(m:autoParam (swapsWith e (some<|.Name x pos') C.line X.env=pure true) aZ0)(hf:autoParam (X.hf x) aZ3):
    DS X E (.Assign [.Name x pos'] e C) (kT i<|jz F):=by
 obtain⟨t,_,p,r⟩:=u;refine⟨_,Ek hN n l p m hf,λ{P y g H _ a D} s h=>?_⟩;have v:lu X.K P y E D g H (toS (F a) λw=>if i<a.length then .nx (a.set i<|jO w)else .bad):=by
  unfold kT jz at h;cases q:F a with
  |bad=>rw[q]at h;exact h.elim
  |_=>rw[q]at h;exact h
 refine r s (Aft.mono (lu.rK v s) λf b q j c k=>?_);by_cases z:i<a.length
 ·simp only[z,cQ]at b;have d:=mH (K:=X.K) (o:=HO.lst j) c;exact b g _ _ (.of d) (((s.grow f).grow d).set z (k.tY c<|(s.grow f).fresh q c))
 ·simp only[z,bT]at b;exact b.elim
variable{a b:jB}{L J:jQ}
def BB(x y:D):R (aa D):=match x,y with
 |.lst xs,.lst c=>if xs.length+c.length<=sizeLine then .ok (xs++c)else .bad
 |_,_=>.bad
def GJ:bootBuiltins "min"=some (.builtin "min"):=by decide+kernel
noncomputable def zj:jA
 |[.int i,.int j]=>.ok (.int<|if j<i then j else i)
 |_=>.bad
def NO(d:X.calm=true):qW X E (.builtin "min") zj:=by
 refine⟨_,NN d,λ{_ H _ _ _} fr r h=>?_⟩;unfold zj at h;split at h
 ·obtain⟨v,u,rfl,q,c⟩:=jv.two r;cases q;cases c;exact⟨_,_,rfl,h H (.refl H) _<|.int _⟩
 ·exact h.elim
end P2
namespace TM
open PySem PySem.NumText PySem.StrLaws Builtin Builtin.Str
def sk(x:jd):aa Nat:=x.cps.toList
def ext(h:sk x=sk y):x=y:=by obtain⟨x⟩:=x;obtain⟨y⟩:=y;have:x=y:=eI.mp h;rw[this]
def GY(x y):sk (x++y)=sk x++sk y:=by show(x.cps++y.cps).toList=x.cps.toList++y.cps.toList;simp
def Dw(x:jd):x.length=(sk x).length:=by simp[Str.length,sk]
def num(m:Nat):aa Nat:=(Nat.toDigits 10 m).map Char.toNat
def OP{c:Char}(h:c.isDigit=true):48<=c.toNat/\c.toNat<=57:=by unfold Char.isDigit at h;simp only[aK,aS,ge_iff_le]at h;obtain⟨e,d⟩:=h;have a:(48:UInt32).toNat<=c.val.toNat:=h8.mp e;have b:c.val.toNat<=(57:UInt32).toNat:=h8.mp d;exact⟨a,b⟩
def Vm(m):AllDigits (num m):=by intro c a;obtain⟨b,h,rfl⟩:=aO.mp a;exact OP (Nat.isDigit_of_mem_toDigits (by decide) (by decide) h)
def two(n:Nat):aa Nat:=[48+n/10,48+n%10]
end TM
namespace P2
open PySem L2
def bits_le{i:Int}{k}(h:i.natAbs<2^k):bits i<=k:=intBits_le_iff.mpr h
section
variable{v H:Type}{a:v}{c:ja}{K:jS}{S:j7}{k:v->RT}{h:v->R H}{e:Ev}{g u:jV}{f F E:jQ}{p C:mi}{fs:mj}{i j:Int}{x y:jd}{b U:jk}{l J:j7}{d:D}{n m:Nat}{A I:qI}{B:D->R D}{z:jA}{M:D->jA}
variable{t:String}{N:A9}{P O:Ev->R (jm Int)}{T:lC}{q:rl}{lo L:jm Int}{Q:jd->jQ}
def Lg:(R.ok a).bind h=h a:=rfl
def YK:toS (R.ok a) k=k a:=rfl
def YE:uk (.nx e) g=g e:=rfl
def YF:uk (.rt d) g=.rt d:=rfl
def Lm:turnT (.nx e) g=g e:=rfl
def Ye:jX (.rt d)=.ok d:=rfl
def YC:kd g u e=uk (g e) u:=rfl
def Yz:pN e=.nx e:=rfl
def YB:kY f e=toS (f e) .rt:=rfl
def YD:kT n f e=toS (f e) λd=>if n<e.length then .nx (e.set n<|.sh d)else .bad:=rfl
def Yy:pM p g u e=toS (p e) λk=>if k=true then g e else u e:=rfl
def Yb:dC d e=.ok d:=rfl
def X8:d1 B f e=(f e).bind B:=rfl
def X9:d2 A F E e=(F e).bind λx=>(E e).bind λy=>A x y:=rfl
def X4:b1 P2.tB f e=(f e).bind P2.tB:=rfl
def X5:b1 tT f e=(f e).bind tT:=rfl
def X7:rr p C e=(p e).bind λc=>if c=true then .ok true else C e:=rfl
def X6:uS p e=(p e).bind λc=>.ok (!c):=rfl
def Ya:dA z fs e=(fs e).bind z:=rfl
def XZ:jb e=.ok []:=rfl
def XY:ba f fs e=(f e).bind λx=>(fs e).bind λo=>.ok (x::o):=rfl
def X3:jz fs e=(fs e).bind λl=>.ok (.lst l):=rfl
def Yx:vt fs q g e=toS (fs e) λl=>oU q g l e:=rfl
def Yh:oU q g (d::l) e=toO (q d e) λo=>turnT (g o) (oU q g l):=rfl
def YJ:toO (some a) k=k a:=rfl
def Yi:gV n d e=if n<e.length then some (e.set n<|.sh d)else none:=rfl
def YH:P2.tB (.bl b)=.ok b:=rfl
def YI:tT (.bl b)=.ok b:=rfl
def X1:kA (.int i) (.int j)=.ok (.int<|i+j):=rfl
def X2:kA (.str x) (.str y)=if x.length+y.length<=sizeLine then .ok (.str<|x++y)else .bad:=rfl
def YG:oo (.int i) (.int j)=.ok (.int<|i - j):=rfl
def Em:kE (.int i) (.int j)=if vj i j=true then .ok (.int<|i.fdiv j)else .bad:=rfl
def Ys:jU (.int i) (.int j)=if decide (j≠0)=true then .ok (.int<|i.fmod j)else .bad:=rfl
def Yo:P2.lH (.int i) (.int j)=.ok (.bl<|decide<|i<j):=rfl
def Yj:sy (.int i) (.int j)=.ok (.bl<|decide<|j<i):=rfl
def Yw:wW (.int i)=.ok (.int<|-i):=rfl
def Yc:jW (.int i) (.int j)=.ok (.bl<|decide<|i=j):=rfl
def Yv:qi (.int i) (.int j)=.ok (.bl<|!decide (i=j)):=rfl
def Yk:jG (.lst l) (.int i)=match L2.kc l i with|some d=>.ok d|none=>.bad:=rfl
def Ym:jG (.tup l) (.int i)=match L2.kc l i with|some d=>.ok d|none=>.bad:=rfl
def Yl:jG (.str x) (.int i)=if x.length<=sizeLine then(match L2.kc x.cps.toList i with|some c=>.ok (.str ⟨#[c]⟩)|none=>.bad)else .bad:=rfl
def Yn:lR [.lst l]=.ok (.int l.length):=rfl
def X0:pB [.int i]=.ok (.int<|if i<0 then -i else i):=rfl
def Yq:jN l=if l.length<=sizeLine then .ok (.tup l)else .bad:=rfl
def Yf:jM l=if l.length<=sizeLine then .ok l else .bad:=rfl
def YL:dV 0 (.sh d::r)=.ok d:=rfl
def YM:dV 1 (s0::.sh d::r)=.ok d:=rfl
def YN:dV 2 (s0::s1::.sh d::r)=.ok d:=rfl
def YO:dV 3 (s0::s1::s2::.sh d::r)=.ok d:=rfl
def YP:dV 4 (s0::s1::s2::s3::.sh d::r)=.ok d:=rfl
def YQ:dV 5 (s0::s1::s2::s3::s4::.sh d::r)=.ok d:=rfl
def YR:dV 6 (s0::s1::s2::s3::s4::s5::.sh d::r)=.ok d:=rfl
def oj(o:0<j):jU (.int i) (.int j)=.ok (.int<|i%j):=by rw[Ys,au<|by simp;lia,Int.fmod_eq_emod_of_nonneg _<|by walk_at "l"]
def uj(o:0<j)(s:j<18446744073709551616):kE (.int i) (.int j)=.ok (.int<|i/j):=by have r:bits j<=64:=bits_le (by omega);rw[Em,au<|by unfold vj;simp only[aK,aS];lia,gp _<|by walk_at "l"]
def xm{x y:jd}(r:x.length<=1000)(o:y.length<=1000):kA (.str x) (.str y)=.ok (.str<|x++y):=by rw[X2,au<|aV (Nat.add_le_add r o)<|by decide]
def Yg{x:j7}(o:x.length<=1000):jM x=.ok x:=by rw[Yf,au<|aV o<|by decide]
def Yr{x:j7}(o:x.length<=1000):jN x=.ok (.tup x):=by rw[Yq,au<|aV o<|by decide]
end
open PySem.Spec
open PyProof.Rows hiding St
section
variable{X:Cx}{E:XK}
def sO(i j:Int):jk:=DZ i j||zv i j
noncomputable def kJ:D->D->R D
 |.int i,.int j=>if sO i j=true then .ok (.int<|i*j)else .bad
 |.str x,.int n=>if D0 x n=true then .ok (.str<|Txt.mul x n)else .bad
 |_,_=>.bad
def VZ:lh X E (binaryOp .Mult) kJ:=by
 refine⟨_,zA (zA VX VY) V0,λ{_ H _ _ _ _ _} fr b a h=>?_⟩;unfold kJ at h;split at h
 ·cases b;cases a;split at h
  ·rename_i z;unfold sO at z;rw[cJ]at z;rcases z with z|z
   ·unfold DZ at z;simp only[aK,aS]at z;exact .inl (.inr ⟨_,_,rfl,rfl,z,h H (.refl H) _<|.int _⟩)
   ·refine .inl (.inl ⟨_,_,rfl,rfl,?_,h H (.refl H) _<|.int _⟩);unfold zv at z;simp only[cJ,aK,aS]at z;exact z
  ·exact h.elim
 ·cases b;cases a;split at h;·rename_i z;exact .inr ⟨_,_,rfl,rfl,mulOk_of z,h H (.refl H) _<|.str _⟩
  ·exact h.elim
 ·exact h.elim
def WI:(10:Nat)^400<2^1500:=by decide+kernel
def Bx{i:Int}(h:i.natAbs<10^400):bits i<=1500:=bits_le (fq h WI)
def Yt{i j:Int}(b:i.natAbs<10^400)(a:j.natAbs<10^400):kJ (.int i) (.int j)=.ok (.int<|i*j):=by have d:=Bx b;have c:=Bx a;show(if sO i j=true then R.ok (D.int<|i*j)else .bad)=_;rw[au<|by unfold sO DZ;simp only[cJ,aK,aS];left;lia]
def En{i j:Int}(b: -18446744073709551616<j)(a:j<18446744073709551616):kJ (.int i) (.int j)=.ok (.int<|i*j):=by show(if sO i j=true then R.ok (D.int<|i*j)else .bad)=_;rw[au<|by unfold sO zv;simp only[cJ,aK,aS];right;right;exact⟨b,a⟩]
def Yu{i j:Int}(b: -18446744073709551616<i)(a:i<18446744073709551616):kJ (.int i) (.int j)=.ok (.int<|i*j):=by show(if sO i j=true then R.ok (D.int<|i*j)else .bad)=_;rw[au<|by unfold sO zv;simp only[cJ,aK,aS];right;left;exact⟨b,a⟩]
def zM{i j:Int}(b:j≠0)(a:j.natAbs<10^400):kE (.int i) (.int j)=.ok (.int<|i.fdiv j):=by have c:=Bx a;rw[Em,au<|by unfold vj;simp only[aK,aS];lia]
def Ln{n}:pP c b (n+1) ρ=toS (c ρ) λk=>if k=true then turnT (b ρ) (pP c b n)else .nx ρ:=rfl
variable{a b:jB}{rest:lr}{e:Pos}{l f:TE}{p m:jQ}
def Xa(A:PE X a l)(z:PE X (.BoolOp .Or (b::rest) e) f):PE X (.BoolOp .Or (a::b::rest) e) (λi H Q=>l i H λx j=>∃k,vV X.K x j k/\if k=true then Q x j else f i j Q):=by
 intro d s i H Q I h;refine BoolOp_or (jC (A d s i H _ I h) λv u g=>?_);obtain⟨x,j,D,o,w⟩:=g;obtain⟨k,y,q⟩:=w;refine jC (ES d u i j x v (λc n=>c=k/\n=j) D o ⟨k,y,rfl,rfl⟩) λc t g=>?_;obtain⟨n,r,C,B⟩:=g;subst C B;cases c with
 |true=>exact⟨x,n,r,o,by simpa using q⟩
 |false=>exact z d t i n Q r (by simpa using q)
end
open PySem.Calls
def BM(b:kG)(h:jw):Prop:=∃a ob,b "__builtins__"=some (.ref a)/\a≠builtinsNs/\h.get? a=some ob/\ob.cls=.type "module"/\ob.dict=some builtinsNs/\ob.data=.plain
def Tu{w}{K:jx}{k}{c:jr}{C:kL}
 (KX:K.In c.heap)(Q:c.heap.Ns mainGlobals mg)(hb:c.heap.Ns builtinsNs mb)(hbb:∀x:jd,x≠"__name__"->mb x=bootBuiltins x)(R:c.heap.NoLimit)(hg:c.gens=#[])
 (G:c.heap.get? a=some {cls:=.type "list",data:=.seq C.toArray})(hi:IntsAre C ns)(hl:ns.length<=sizeLine)(hr:kN k callerA)(hT:∀t∈m8 K,W.CodeHd c.heap t.2.1 t.2.2/\c.heap.get? t.2.2=some (W.tabObj #[]))(hN:W.noTabs K=true)
 (hB:BM mg c.heap)
 (F:∀l:jw,K.In l->l.Ns mainGlobals mg->BM mg l->mf P w K mg l CX k fa fd [x] sp)(D:∀s u,BindsTo s fd ⟨[u],[]⟩ [(x,u)])
 (hsp:∀H:Hp,mh K H->lz K H a (ns.map V.int)->sp [.ref a] H (λv _=>v=.bl true) λ_ _ _=>False)
 (Qr:∀H e j,CX [] H c (λ_ _ _=>False) e j->False):
   codeAny (model P w) callerA (.call (.ref fa) ⟨[.ref a],[]⟩) (λr j=>r=.ok (.ret<|.bool true)/\OldK c.heap j.heap/\j.os=c.os/\AllBare j.gens) c:=by
  have rv:=Mt hi;have N:=hi.length;have na:∀t∈m8 K,t.2.2≠a:=λt f e=>by have:=(hT t f).2;rw[e,G]at this;cases this
  have nK:∀t∈m8 K,K.lookup t.2.2=none:=λt f=>by
   cases q:K.lookup t.2.2 with
   |none=>rfl
   |some o=>have U:=KX _ _ q;rw[(hT t f).2]at U;cases U;have h2:=cG.mp hN (t.2.2,W.tabObj #[]) (W.mem_of_lookupK q);exact absurd (show false=true from h2) ay
  have B:∀H:Hp,(∀b,H b=none\/(∃o M,H b=some (.ku o<|.lst M)/\b=a/\K.lookup a=none)\/∃t∈m8 K,b=t.2.2/\H b=some (.l6 #[]))->(∀t∈m8 K,H t.2.2=some (.l6 #[]))->lz K H a (ns.map V.int)->kU P w H c.heap->
   codeAny (model P w) callerA (.call (.ref fa) ⟨[.ref a],[]⟩) (λr j=>r=.ok (.ret<|.bool true)/\OldK c.heap j.heap/\j.os=c.os/\AllBare j.gens) c:=by
   intro H hO QB hS O;have i:∀{b:ja} {o:lE},c.heap.get? b=some o->H b=none->(qP c.heap H).get? b=some o:=λe n=>Rf e n;have Va:∀{b:ja} {o:lE} {I:kr DictEntry} {J:Nat},c.heap.get? b=some o->o.data=.dict I J->H b=none:=λ{b o I J} e d=>by
    rcases hO b with z|⟨ob,M,z,g,_⟩|⟨t,f,g,z⟩;·exact z
    ·subst g;rw[G]at e;cases e;have d':Data.seq C.toArray _=Data.dict I J:=d;cases d'
    ·subst g;rw[(hT t f).2]at e;cases e;have d':Data.fields #[]=Data.dict I J:=d;cases d'
   have p:∀{b:ja} {m:kG},c.heap.Ns b m->(qP c.heap H).Ns b m:=λ{b m} ⟨o,I,J,e,d,r⟩=>⟨o,I,J,i e (Va e d),d,r⟩;have T:K.In (qP c.heap H):=λb o e=>i (KX b o e) (by
    rcases hO b with z|⟨ob,M,z,g,S⟩|⟨t,f,g,z⟩;· exact z
    · subst g;rw[S]at e;cases e
    · subst g;rw[nK t f]at e;cases e)
   have Qo:BM mg (qP c.heap H):=by
    obtain⟨bm,ob,b1,b2,Z,b4,b5,b6⟩:=hB;refine⟨bm,ob,b1,b2,i Z ?_,b4,b5,b6⟩;rcases hO bm with z|⟨o2,M,z,g,_⟩|⟨t,f,g,z⟩;·exact z
    ·subst g;rw[G]at Z;cases Z;cases b6
    ·subst g;rw[(hT t f).2]at Z;cases Z;cases b6
   have hM:Mod K mg (qP c.heap H):=⟨T,p Q,⟨mb,p hb,hbb⟩,let⟨mc,h1,h2⟩:=R;⟨mc,p h1,h2⟩⟩;have e0:sX P w K mg (qP c.heap H) callerA [] c H:=⟨rfl,hM,λb o e=>Vr e,gg<|Rg _ _,trivial,λb hb=>absurd (show b∈([]:aa ja)from hb)<|by simp,O,.of_eq hg⟩;have tb:mh K H:=λt f=>⟨#[],QB t f,trivial,λpos cv e=>by cases e⟩;refine fm ((F _ T (p Q) Qo).run callerA [] c H ⟨[.ref a],[]⟩ [.ref a] [.ref a] _ _ hr e0 (D c<|.ref a) (.cons rfl .nil) (hsp H tb hS)) λr j h=>?_;cases r with
   |error e=>exact(Qr H e j h).elim
   |ok fl=>
    cases fl with
    |ret u=>
     obtain⟨v,H',os,Y,un,A,r',q⟩:=h;have q':v=.bl true:=q;subst q';obtain rfl:u=Value.bool true:=r';have kept:∀b o,c.heap.get? b=some o->j.heap.get? b=some o\/∃t∈m8 K,b=t.2.2/\∃ps,j.heap.get? b=some (W.tabObj ps):=λb o e=>by
      rcases hO b with z|⟨ob,M,z,_⟩|⟨t,f,g,z⟩;·exact .inl (un.keep b o e z (by intro y;exact absurd (show b∈([]:aa ja)from y) (by simp)) (by simp))
      ·have z2:=un.qa b ob _ z;obtain⟨U,_⟩:=O b _ z;obtain⟨L,_⟩:=A b _ z2;rw[e]at U;cases U;exact .inl L
      ·obtain⟨more,z2⟩:=un.rN b #[] z;have L:j.heap.get? b=some {cls:=.none,data:=.fields<|#[]++more}:=A b _ z2;exact .inr ⟨t,f,g,_,L⟩
     refine⟨rfl,⟨λb o e=>?_,λb o e=>?_⟩,os,Y⟩
     ·rcases kept b o e with z|⟨t,f,g,ps,z⟩;·exact .inl z
      ·subst g;have L:=(hT t f).2;rw[e]at L;cases L;exact .inr (.inl ⟨((hT t f).1.tab (hT t f).2).isCodeTable,rfl,#[],ps,rfl,by rw[Array.empty_append];exact z⟩)
     ·rcases kept b o e with z|⟨_,_,_,ps,z⟩;·exact⟨o,z⟩
      ·exact⟨_,z⟩
    |_=>exact False.elim h
  have nz:¬∃t∈m8 K,a=t.2.2:=λ⟨t,f,e⟩=>na t f e.symm;have l6:∀(H:Hp) (b:ja),(∃t∈m8 K,b=t.2.2)->kQ P w H c.heap b (.l6 #[]):=λH b ⟨t,f,e⟩=>by subst e;exact(hT t f).2
  cases S:K.lookup a with
  |some o=>
   have e:=KX a o S;rw[G]at e;cases e;refine B (λb=>if(∃t∈m8 K,b=t.2.2)then some (.l6 #[])else none) (λb=>?_) (λt f=>au ⟨t,f,rfl⟩) (.inr ⟨_,C.toArray,_,S,rfl,rfl,rfl,by rw[aQ,N];exact hl,by simpa using rv⟩) (λb u e=>?_)
   ·by_cases z:∃t∈m8 K,b=t.2.2
    ·obtain⟨t,f,e⟩:=z;exact .inr (.inr ⟨t,f,e,au ⟨t,f,e⟩⟩)
    ·exact .inl (ax z)
   ·by_cases z:∃t∈m8 K,b=t.2.2
    ·have g:=(au z).symm.trans e;cases g;exact l6 _ b z
    ·have g:=(ax z).symm.trans e;cases g
  |none=>
   refine B (λb=>if(∃t∈m8 K,b=t.2.2)then some (.l6 #[])else if b=a then some (.ku {cls:=.type "list",data:=.seq C.toArray}<|.lst<|ns.map V.int)else none) (λb=>?_) (λt f=>au ⟨t,f,rfl⟩) (.inl<|.inr ⟨{cls:=.type "list",data:=.seq C.toArray},(ax nz).trans (au rfl)⟩) (λb u e=>?_)
   ·by_cases z:∃t∈m8 K,b=t.2.2
    ·obtain⟨t,f,e⟩:=z;exact .inr (.inr ⟨t,f,e,au ⟨t,f,e⟩⟩)
    ·by_cases y:b=a;·exact .inr (.inl ⟨_,_,(ax z).trans (au y),y,S⟩)
     ·exact .inl ((ax z).trans (ax y))
   ·by_cases z:∃t∈m8 K,b=t.2.2
    ·have g:=(au z).symm.trans e;cases g;exact l6 _ b z
    ·by_cases y:b=a
     ·have g:=((ax z).trans (au y)).symm.trans e;cases g;subst y;exact⟨G,by rw[ao];exact hl,C,_,rv,G⟩
     ·have g:=((ax z).trans (ax y)).symm.trans e;cases g
def abi{K:jx}(T:Top p loose adx mg mb h)(X:K.In h)(b:(m8 K).all (λt=>((recsOf p).find? λe=>e.name==t.1).isSome)=true):
    ∀t∈m8 K,W.CodeHd h t.2.1 t.2.2/\h.get? t.2.2=some (W.tabObj #[]):=λt a=>by
 have f:=cG.mp b t a;obtain⟨d,c⟩:=eR.mp f;unfold m8 at a;obtain⟨x,_,e⟩:=bo.mp a;split at e
 ·obtain⟨q,i,g⟩:=aB.mp e;subst g;exact W.tab_of T X c i
 ·cases e
end P2
namespace WP
open PySem L2 P2
structure Ad where
 WeatherError:ja:=0
 NoFraction:ja:=0
 NoText:ja:=0
 ac8:ja:=0
 ac7:ja:=0
 ac6:ja:=0
 Tokens:ja:=0
 Book:ja:=0
 Sight:ja:=0
 ac5:ja:=0
 ade:ja:=0
 ada:ja:=0
 adb:ja:=0
 sE:ja->je->jm jk:=λ_ _=>none
def v9(a:Ad):jV:=(kd (kT 2 (d2 jU (dV 0) (dV 1)))
    (kd (kT 0 (dV 1))
    (kT 1 (dV 2))))
def yN(a:Ad):jV:=(kd (pP (b1 tB (d2 qi (dV 1) (jc 0))) (v9 a) uU)
    (kY (dV 0)))
def Cg(a:Ad):jV:=(kY<|BG (dA (vc a.sE)<|ba (dV 0)<|ba (dC<|.ty "int") jb)<|BH<|dA (vc a.sE)<|ba (dV 0)<|ba (dC<|.ty "bool") jb)
def yO(a:Ad)(c b:jA):jV:=(kd (pM (rr (uS (b1 tT (dA c (ba (dV 0) jb)))) (rr (uS (b1 tT (dA c (ba (dV 1) jb)))) (b1 tB (d2 jW (dV 1) (jc 0))))) (λ_=>.ex a.NoFraction [] []) pN)
    (kd (kT 2 (dA b (ba (dA pB (ba (dV 0) jb)) (ba (dA pB (ba (dV 1) jb)) jb))))
    (kd (pM (b1 tB (d2 lH (dV 1) (jc 0))) (kT 2 (d1 wW (dV 2))) pN)
    (kY (dA jN (ba (d2 kE (dV 0) (dV 2)) (ba (d2 kE (dV 1) (dV 2)) jb)))))))
def yR(a:Ad)(b:jA):jV:=(kY<|dA b<|ba (d2 kA (d2 kJ (jg 0 0)<|jg 1 1)<|d2 kJ (jg 1 0)<|jg 0 1)<|ba (d2 kJ (jg 0 1)<|jg 1 1) jb)
def yQ(a:Ad)(b:jA):jV:=(kY<|dA b<|ba (d2 oo (d2 kJ (jg 0 0)<|jg 1 1)<|d2 kJ (jg 1 0)<|jg 0 1)<|ba (d2 kJ (jg 0 1)<|jg 1 1) jb)
def yS(a:Ad)(b:jA):jV:=(kY<|dA b<|ba (d2 kJ (jg 0 0)<|jg 1 0)<|ba (d2 kJ (jg 0 1)<|jg 1 1) jb)
def yT(a:Ad):jV:=(kY<|d2 lH (d2 kJ (jg 0 0)<|jg 1 1)<|d2 kJ (jg 1 0)<|jg 0 1)
def Ik(a:Ad):jV:=(kd (pM (b1 tB (d2 lQ (jg 0 0) (dA jN (ba (jF "+") (ba (jF "-") (ba (jF "<") (ba (jF "=") (ba (jF "and") (ba (jF "or") jb))))))))) (kY (jz (λb=>((ba (jg 0 1) (ba (jg 0 2) jb)) b).bind jM))) pN)
    (kd (pM (b1 tB (d2 jW (jg 0 0) (jF "times"))) (kY (jz (λb=>((ba (jg 0 2) jb) b).bind jM))) pN)
    (kd (pM (b1 tB (d2 lQ (jg 0 0) (dA jN (ba (jF "abs") (ba (jF "not") jb))))) (kY (jz (λb=>((ba (jg 0 1) jb) b).bind jM))) pN)
    (kY (jz (λb=>(jb b).bind jM))))))
def Cs(a:Ad)(b:jA):jV:=(kY<|dA b<|ba (dA pB<|ba (jg 0 0) jb)<|ba (jg 0 1) jb)
def Cv(a:Ad):jV:=(kd (pM (b1 tB (d2 lH (dV 1) (dA lR (ba (dV 0) jb)))) (kY (d2 jG (dV 0) (dV 1))) pN)
    (kY (jc 0)))
def Bk(a:Ad):jV:=(zQ 2 3<|ba (dV 3)<|ba (d2 jU (dV 2)<|dV 3) jb)
def CA(a:Ad):jV:=(kd (zQ 2 3 (ba (dA pB (ba (dV 0) jb)) (ba (dV 1) jb)))
    (kd (pP (b1 tB (d2 sy (dV 3) (jc 0))) (Bk a) uU)
    (kY (dA jN (ba (d2 kE (dV 0) (dV 2)) (ba (d2 kE (dV 1) (dV 2)) jb))))))
def wb(a:Ad):jV:=(kT 5<|d2 kA (dV 5)<|d2 jG (jF "qxz")<|d2 jU (d2 kE (dV 0)<|d2 kA (jc 3)<|dV 6)<|jc 3)
def yV(a:Ad):jV:=(kd (kT 2 (jF "abcdefghijklmnopqrstuvwxyz"))
    (kd (kT 3 (d2 jG (jz (λb=>((ba (jc 1) (ba (jc 3) (ba (jc 5) (ba (jc 7) (ba (jc 9) (ba (jc 11) (ba (jc 15) (ba (jc 17) (ba (jc 19) (ba (jc 21) (ba (jc 23) (ba (jc 25) jb)))))))))))) b).bind jM)) (d2 jU (d2 kE (dV 0) (jc 26)) (jc 12))))
    (kd (kT 4 (d2 kA (d2 jG (dV 2) (d2 jU (d2 kA (dV 0) (d2 kJ (dV 1) (dV 3))) (jc 26))) (d2 jG (jF "qxz") (d2 jU (d2 kE (dV 1) (jc 26)) (jc 3)))))
    (kd (kT 5 (jF ""))
    (kd (vt (λb=>((ba (d2 jU (d2 kE (dV 0) (jc 312)) (jc 7)) jb) b).bind qT) (gV 6) (wb a))
    (kd (pM (b1 tB (d2 jW (d2 jU (d2 kE (dV 0) (jc 2184)) (jc 2)) (jc 1))) (kY (d2 kA (dV 5) (dV 4))) pN)
    (kY (d2 kA (dV 4) (dV 5)))))))))
end WP
namespace P2
open PySem PySem.W PyProof.Rows
def lK{b:Type}(n:Nat)(c:Nat->Nat->jk):KasT b->(b->Prop)->Prop
 |.ret a,Q=>Q a
 |.ask i j k,Q=>i<n/\j<n/\lK n c (k<|c i j) Q
theorem lK.bind{n}{c}{f:α->KasT β}{Q:β->Prop}:∀{t:KasT α},lK n c t (λa=>lK n c (f a) Q)->lK n c (t.bind f) Q
 |.ret _,h=>h
 |.ask i j k,h=>⟨h.1,h.2.1,lK.bind (t:=k<|c i j) h.2.2⟩
theorem lK.wp{n}{c}{Q:α->Prop}{G}{s}
 (b:∀i j,i<n->j<n->∀C:jk->jr->Prop,C (c i j) s->cmp i j C s)(d:∀a,Q a->G a s):∀{t},lK n c t Q->t.kasWp cmp G s
  |.ret a,h=>d a h
  |.ask i j k,h=>b i j h.1 h.2.1 _ (lK.wp b d (t:=k<|c i j) h.2.2)
section
variable{n:Nat}{c:Nat->Nat->jk}{v:Nat->Int}
abbrev _root_.nO:=kr Nat
def KK(v:Nat->Int)(p:nO)(i:Nat):Int:=v ((p[i]?).getD 0)
def lg(n:Nat)(p:nO):Prop:=p.Perm (List.toArray<|List.range n)
def lg.size(h:lg n p):p.size=n:=by rw[h.size_eq];simp
def lg.lt(h:lg n p)(b:0<n)(k):p.getD k 0<n:=by
 rw[gh];cases e:p[k]? with
 |none=>simpa using b
 |some x=>
  have a:x∈p.toList:=by grind
  have:=(eA.mp h).mem_iff.mp a;simpa using this
def yU(v)(p)(i):v (p.getD i 0)=KK v p i:=by unfold KK;rw[gh]
def KK_congr(h:p[i]?=q[j]?):KK v p i=KK v q j:=by unfold KK;rw[h]
def x8(a:j<=p.size)(k):KK v (kas_rev p i j) k=if i<=k/\k<j then KK v p (i+j - 1 - k)else KK v p k:=by
 have:=getElem?_mirror_all (i:=i) a k;unfold kas_rev;split;·rename_i h;rw[au h]at this;exact KK_congr this
 ·rename_i h;rw[ax h]at this;exact KK_congr this
def lg.rev(h:lg n p)(i j):lg n (kas_rev p i j):=(mirror_perm ..).trans h
def lg.Nx(h:lg n p)(i j):lg n (bubble p i j):=(bubble_perm ..).trans h
variable(A:∀i j,i<n->j<n->c i j=decide (v i<v j))
include A
theorem v7{p:nO}(h:lg n p)(a:0<n)(i j){k}{Q:α->Prop}(q:lK n c (k<|decide<|KK v p i<KK v p j) Q):lK n c (.ask (p.getD i 0) (p.getD j 0) k) Q:=by refine⟨h.lt a i,h.lt a j,?_⟩;rw[A _ _ (h.lt a i)<|h.lt a j,yU v p i,yU v p j];exact q
def oO(v:Nat->Int)(p:nO)(m:Nat):Prop:=∀i j,i<=j->j<m->KK v p i<=KK v p j
def oQ(v:Nat->Int)(p:nO)(m:Nat):Prop:=∀i j,i<=j->j<m->KK v p j<=KK v p i
omit A in
theorem oO.snoc(h:oO v p m)(d:1<=m)(e:KK v p (m - 1)<=KK v p m):oO v p (m+1):=λi j a b=>by
 by_cases z:j=m
 ·subst z;by_cases y:i=j;·subst y;simp
  ·have:=h i (j - 1) (by lia) (by walk_at "l");walk_at "l"
 ·exact h i j a (by lia)
omit A in
theorem oQ.snoc(h:oQ v p m)(d:1<=m)(e:KK v p m<=KK v p (m - 1)):oQ v p (m+1):=λi j a b=>by
 by_cases z:j=m
 ·subst z;by_cases y:i=j;·subst y;simp
  ·have:=h i (j - 1) (by lia) (by walk_at "l");walk_at "l"
 ·exact h i j a (by lia)
theorem D2{p:nO}(h:lg n p)(d:0<n):∀(f m:Nat),1<=m->oO v p m->(∀b,m<=b->b<=m+f->oO v p b->(b<m+f->KK v p b<KK v p (b - 1))->Q b)->lK n c (kas_asc p f m) Q
 |0,m,_,a,q=>q m (ai _) (ai _) a λw=>absurd w (by simp)
 |f+1,m,e,a,q=>by
  refine v7 A h d m (m - 1) ?_;by_cases z:KK v p m<KK v p (m - 1)
  ·rw[aR z,au rfl];exact q m (ai _) (by simp) a λ_=>z
  ·rw[aJ z,ax<|by decide];exact D2 h d f (m+1) (by simp) (a.snoc e<|by simp_all) λb o l k g=>q b (by walk_at "l") (by lia) k λw=>g (by lia)
omit A in
theorem oQ.rev(h:oQ v p m)(d:b<=p.size)(f:b<=m)(e:∀k,a<=k->k<b->KK v p k=KK v p (b - 1))(k):KK v (kas_rev p a b) k=KK v p k:=by
 rw[x8 d]
 grind
theorem zx(s:0<n):∀(f:Nat) (p:nO) (m q:Nat),lg n p->1<=m->m+f<=n->q<m->oQ v p m->(∀k,m - (q+1)<=k->k<m->KK v p k=KK v p (m - 1))->
 (∀g d l,lg n g->m<=d->d<=m+f->l<d->oQ v g d->(∀k,d - (l+1)<=k->k<d->KK v g k=KK v g (d - 1))->Q (g,d,l))->lK n c (kas_desc f p m q) Q
 |0,p,m,q,h,_,_,D,a,e,r=>r p m q h (ai _) (ai _) D a e
 |f+1,p,m,q,h,G,I,D,a,e,r=>by
  have L:=h.size;refine v7 A h s m (m - 1) ?_;by_cases z:KK v p m<KK v p (m - 1)
  ·rw[aR z,au rfl];by_cases y:q>0
   ·rw[au y];have C:=oQ.rev (a:=m - (q+1)) (b:=m) a (by lia) (ai _) e;have K:oQ v (kas_rev p (m - (q+1)) m) (m+1):=oQ.snoc (λi j F J=>by rw[C,C];exact a i j F J) G (by rw[C,C];walk_at "l");exact zx s f _ (m+1) 0 (h.rev _ _) (by simp) (by lia) (by simp) K (λk o B=>by rw[show k=m+1 - 1 by lia]) λg d l o B H x u t=>r g d l o (by walk_at "l") (by lia) x u t
   ·rw[ax y];exact zx s f p (m+1) 0 h (by simp) (by lia) (by simp) (a.snoc G<|by walk_at "l") (λk o B=>by rw[show k=m+1 - 1 by lia]) λg d l o B H x u t=>r g d l o (by walk_at "l") (by lia) x u t
  ·rw[aJ z,ax<|by decide];refine v7 A h s (m - 1) m ?_;by_cases y:KK v p (m - 1)<KK v p m
   ·rw[aR y,au rfl];exact r p m q h (ai _) (by simp) D a e
   ·rw[aJ y,ax<|by decide];have eq:KK v p m=KK v p (m - 1):=by lia
    refine zx s f p (m+1) (q+1) h (by simp) (by lia) (by walk_at "l") (a.snoc G<|by walk_at "l") (λk o B=>?_) λg d l o B H x u t=>r g d l o (by walk_at "l") (by lia) x u t;rw[Nat.add_sub_cancel];by_cases w:k=m;·rw[w]
    ·rw[e k (by simp_all)<|by lia,eq]
theorem Kj{p:nO}(h:lg n p)(g:0<n){m:Nat}(f:1<=m)(o:m<=n)(a:oQ v p m)(q:∀b d,lg n d->1<=b->b<=n->oO v d b->Q (b,d)):lK n c (kas_tail3 m n p) Q:=by have l:=h.size;refine lK.bind (D2 A (h.rev 0 m) g _ _ f (λi j e r=>?_) λb u t k s=>q b _ (h.rev 0 m) (by walk_at "l") (by simp_all) k);rw[x8<|by simp_all,x8<|by simp_all,au<|by lia,au<|by simp_all];exact a _ _ (by grind) (by omega)
theorem Ki{p:nO}(h:lg n p)(o:0<n){m:Nat}(w:1<=m)(B:m<n)(a:oQ v p m)(e:KK v p m<KK v p (m - 1))(q:∀d f,lg n f->1<=d->d<=n->oO v f d->Q (d,f)):lK n c (kas_descPart m n p) Q:=by
 refine lK.bind (zx A o _ _ _ _ h (by simp) (by omega) (by simp) (a.snoc w<|by walk_at "l") (λk g y=>by rw[show k=m+1 - 1 by lia]) λf d t g y D C r x=>?_);dsimp only;have z:=g.size;split
 ·have s:=oQ.rev (a:=d - (t+1)) (b:=d) r (by lia) (ai _) x;exact Kj A (g.rev _ _) o (by lia) (by lia) (λi j l u=>by rw[s,s];exact r i j l u) q
 ·exact Kj A g o (by lia) (by lia) r q
theorem Vu{p:nO}(h:lg n p)(f:1<=n)(q:∀b o,lg n o->1<=b->b<=n->oO v o b->Q (b,o)):lK n c (kas_count n p) Q:=by
 have x:=h.size;refine lK.bind (D2 A h f _ _ (ai 1) (λi j a r=>by rw[show i=j by simp_all];simp) λm l B g w=>?_);by_cases z:m=n
 ·subst z;simp only[gN,cQ];exact q m p h l (ai _) g
 ·have t:¬(m==n)=true:=by simpa using z
  rw[ax t];have e:=w (by lia);split
  ·refine v7 A h f 0 (m - 1) ?_;by_cases y:KK v p 0<KK v p (m - 1)
   ·rw[aR y,au rfl];exact q m p h l (by simp_all) g
   ·rw[aJ y,ax<|by decide];have s:∀k,k<m->KK v p k=KK v p (m - 1):=λk u=>by
     have:=g 0 k (by simp) u;have:=g k (m - 1) (by lia) (by walk_at "l")
     lia
    have d:∀k,KK v (kas_rev p 0 m) k=KK v p k:=λk=>by
     rw[x8<|by simp_all]
     grind
    exact Ki A (h.rev 0 m) f l (by lia) (λi j a r=>by rw[d,d,s i<|by walk_at "l",s j r];simp) (by rw[d,d];exact e) q
  ·exact Ki A h f l (by lia) (λi j a r=>by rw[show i=j by lia];simp) e q
theorem D4{p:nO}(h:lg n p)(g:0<n){k:Nat}(a:oO v p k)(q:∀l,l<=k->(∀i,i<l->KK v p i<=KK v p k)->(∀i,l<=i->i<k->KK v p k<KK v p i)->Q l):
 ∀(f l r:Nat),l<=r->r<=k->r - l<=f->(∀i,i<l->KK v p i<=KK v p k)->(∀i,r<=i->i<k->KK v p k<KK v p i)->lK n c (kas_place p k f l r) Q
 |0,l,r,t,s,o,e,d=>q l (by walk_at "l") e λi m b=>d i (by lia) b
 |f+1,l,r,t,s,o,e,d=>by
  show lK n c (if l≥r then .ret l else _) Q;split;·exact q l (by walk_at "l") e λi m b=>d i (by walk_at "l") b
  ·refine v7 A h g k ((l+r)/2) ?_;by_cases z:KK v p k<KK v p ((l+r)/2)
   ·rw[aR z,au rfl];exact D4 h g a q f l ((l+r)/2) (by lia) (by lia) (by grind) e λi m b=>by have:=a ((l+r)/2) i (by omega) b;walk_at "l"
   ·rw[aJ z,ax<|by decide];exact D4 h g a q f ((l+r)/2+1) r (by lia) (by omega) (by grind) (λi w=>by have:=a i ((l+r)/2) (by walk_at "l") (by lia);lia) d
theorem Kh(s:0<n)(q:∀p,lg n p->oO v p n->Q p):∀(f:Nat) (p:nO) (k:Nat),lg n p->k+f=n->oO v p k->lK n c (kas_bin f p k) Q
 |0,p,k,h,e,a=>q p h (by rw[<-e];exact a)
 |f+1,p,k,h,e,a=>by
  have B:=h.size;refine lK.bind (D4 A h s a (λl D z y=>?_) k 0 k (by simp) (ai _) (by simp) (λi w=>absurd w<|by simp) λi u d=>absurd u<|by grind);refine Kh s q f _ (k+1) (h.Nx _ _) (by lia) λi j g C=>?_;have t:∀x,KK v (bubble p k<|k - l) x=if x=l then KK v p k else if l<x/\x<=k then KK v p (x - 1)else KK v p x:=λx=>by
   have:=getElem?_bubble (xs:=p) (src:=k) (by lia) (k - l) (by simp) x;rw[show k - (k - l)=l by lia]at this;split;·rename_i w;rw[au w]at this;exact KK_congr this
   ·rename_i w;rw[ax w]at this;split;·rename_i d;rw[au d]at this;exact KK_congr this
    ·rename_i d;rw[ax d]at this;exact KK_congr this
  rw[t,t];by_cases r:i=l
  ·rw[au r];by_cases b:j=l;·rw[au b];simp
   ·rw[ax b,au<|by lia];have:=y (j - 1) (by lia) (by grind);walk_at "l"
  ·rw[ax r];by_cases o:l<i/\i<=k
   ·rw[au o,ax<|by lia,au<|by grind];exact a _ _ (by lia) (by lia)
   ·rw[ax o];by_cases b:j=l;·rw[au b];exact z i (by lia)
    ·rw[ax b];by_cases m:l<j/\j<=k;·rw[au m];exact a _ _ (by grind) (by grind)
     ·rw[ax m];exact a _ _ g (by lia)
theorem Vw(b:1<=n)(q:∀p,lg n p->oO v p n->Q p):lK n c (kas_sort n) Q:=by
 refine lK.bind (Vu A (Array.Perm.refl _) b λa f e h g d=>?_);split
 ·rename_i z;rw[show max a 1=a by simp_all];exact Kh A b q _ _ _ e (by simp_all) d
 ·exact q f e (by rw[show n=a by lia];exact d)
end
def rankOf(n:Nat)(c:Nat->Nat->jk)(i:Nat):Int:=(((List.range n).filter λj=>c j i).length:Nat)
def HP{l:aa α}(h:∀x∈l,p x=true->q x=true):(l.filter p).length<=(l.filter q).length:=by
 induction l with
 |nil=>simp
 |cons a l b=>grind
def PM{l:aa α}(h:∀x∈l,p x=true->q x=true)(b:y∈l)(f:p y=false)(e:q y=true):(l.filter p).length<(l.filter q).length:=by
 induction l with
 |nil=>simp at b
 |cons a l d=>
  have le:=HP λx c=>h x (.tail _ c)
  grind
def Y6{n:Nat}{c:Nat->Nat->jk}(b:∀i,i<n->c i i=false)(g:∀i j k,i<n->j<n->k<n->c i j=true->c j k=true->c i k=true)
 (m:∀i j k,i<n->j<n->k<n->c i j=true->c k j=true\/c i k=true)(i j)(a:i<n)(f:j<n):c i j=decide (rankOf n c i<rankOf n c j):=by
  cases h:c i j with
  |true=>
   symm
   rw[aS];have:=PM (l:=List.range n) (p:=λk=>c k i) (q:=λk=>c k j) (λk d e=>g k i j (by simpa using d) a f e h) (y:=i) (by simpa using a) (b i a) h;unfold rankOf;simp_all
  |false=>
   symm
   rw[cV];have:=HP (l:=List.range n) (p:=λk=>c k j) (q:=λk=>c k i) (λk d e=>by
    rcases m k j i (by simpa using d) f a e with h2|h2;· lia
    · exact h2)
   unfold rankOf;simp_all
end P2
namespace P2
open PySem L2 PySem.Spec PySem.Calls
open PyProof.Rows hiding St
def GK:bootBuiltins "sorted"=some (.builtin "sorted"):=by decide+kernel
theorem De:∀{b:kv} {a},Vals (b.map V.int) a->IntsAre a b
 |[],_,.nil=>.nil
 |n::b,_,.cons h r=>by obtain⟨t,rfl⟩:=h;exact .cons n t (De r)
def sD:aa D->jm (aa Int)
 |[]=>some []
 |.int n::r=>(sD r).map (n:: ·)
 |_::_=>none
theorem Dd:∀{b} {a},sD b=some a->b=a.map D.int
 |[],_,h=>by cases h;rfl
 |.int n::r,a,h=>by obtain⟨m,d,c⟩:=aB.mp h;subst c;rw[aW,<-Dd d]
 |.non::_,_,h=>nomatch h
 |.bl _::_,_,h=>nomatch h
 |.str _::_,_,h=>nomatch h
 |.ty _::_,_,h=>nomatch h
 |.ref _::_,_,h=>nomatch h
 |.tup _::_,_,h=>nomatch h
 |.lst _::_,_,h=>nomatch h
 |.exc _ _ _::_,_,h=>nomatch h
theorem Et{K:jx}{c:kM}{H:Hp}:∀{a:kv} {b:aa V},jv K c H b (a.map D.int)->b=a.map V.int
 |[],_,.nil=>rfl
 |n::a,_,.cons r q=>by cases r;rw[Et q];rfl
end P2
namespace P2
open PySem L2 PySem.Spec PySem.Calls PySem.W
open PyProof.Rows hiding St K
variable{prog:jT}{w:jK}{A:kh}{E:ki}{s:jr}
abbrev ZH(κ:SortKind)(us:kL):SortSt:=SortSt.mk' κ (us.toArray.zip us.toArray) #[] 7 none
abbrev _root_.yn:=kr je->Prop
def ye(prog:jT)(w:jK)(G:yn)(a:kL)(t:jr):Prop:=
 ∀B:kh,wpAny (model prog w) B (keyKind' a.toArray) (λc d=>d=t/\wpAny (model prog w) B ((sortRuns').run (ZH c a)) (λr b=>b=t/\failedOf r.2=none/\((arrOf r.2).map (·.2)).size=a.length/\G ((arrOf r.2).map (·.2))) (λ_ _=>False) t) (λ_ _=>False) t
def LY{d}{a:kL}{G:yn}{Q:PySem.Fin->jr->Prop}(n:s.heap.get? d=some (seqObj "list" a.toArray e))(C:a.length<=sizeLine)(D:a.length<2->G a.toArray)
 (K:2<=a.length->∀t:jr,(∀b o,b≠d->s.heap.get? b=some o->t.heap.get? b=some o)->ye prog w G a t)
 (k:∀out:kr je,out.size=a.length->G out->Q (.done<|.ret .none) {s with heap:=sortedHeap s.heap d a out}):wpAny (model prog w) A (Builtin.«list.sort» ⟨[.ref d],[]⟩) Q E s:=by
  have i:d<s.heap.objs.size:=Heap.lt_size n;rw[list_sort_plain];apply ae;apply listItems_at n rfl;apply ae;apply listUpdate_at n rfl (hsz:=by simpa using C) (hsz2:=bQ _);have f:=get?_update_seq n (λ_=>(#[]:kr je));apply ae;apply seqEpoch_at f rfl;apply ae;refine wpAny_newTuple ?_ (by simpa using C);apply ae;refine gD ?_ (bQ _);refine bI ?_;generalize B:((s.heap.update d<|Obj.mapSeq λ_=>(#[]:kr je)).push (seqObj "tuple" a.toArray 0)).push (seqObj "list" #[] 0)=h6;have L:∀out:kr je,h6.update d (Obj.mapSeq λ_=>out)=sortedHeap s.heap d a out:=λout=>by rw[<-B];rfl
  have v:d≠(s.heap.update d<|Obj.mapSeq λ_=>(#[]:kr je)).objs.size:=by rw[gP];exact aU i
  have u:∀o:lE,d≠((s.heap.update d<|Obj.mapSeq λ_=>(#[]:kr je)).push o).objs.size:=λo=>by rw[size_push',gP];exact aU (bW i)
  have c:∃l,h6.get? d=some (seqObj "list" #[] l)/\((s.heap.update d<|Obj.mapSeq λ_=>(#[]:kr je)).get? d=some (seqObj "list" #[] l)):=by refine⟨_,?_,f⟩;rw[<-B,Heap.get?_push_ne _ _ _<|u _,Heap.get?_push_ne _ _ _ v];exact f
  obtain⟨l,c,j⟩:=c;have F:=f.symm.trans j;have p:∀b o,b≠d->s.heap.get? b=some o->h6.get? b=some o:=λb o J q=>by rw[<-B];refine ah _ (ah _ ?_);rw[eM _ _ _ _ J];exact q
  show wpAny (model prog w) A _ Q E {s with heap:=h6};dsimp only;have g:∀out:kr je,out.size=a.length->G out->wpAny (model prog w) A (Builtin.List.listUpdate (.ref d) λ_=>out) (λ_ t=>t={s with heap:=sortedHeap s.heap d a out}) E {s with heap:=h6}:=λout I m=>by refine listUpdate_at (s:={s with heap:=h6}) c rfl ?_ (hsz:=bQ _) (hsz2:=by rw[I];walk_at "l");show({s with heap:=h6.update d<|Obj.mapSeq λ_=>out}:jr)=_;rw[L out]
  by_cases h:a.toArray.size<2
  ·rw[au h,au h];apply ae;apply af;rw[StateT.run_pure];apply ae;apply af;dsimp only;apply ae;apply seqEpoch_at (s:={s with heap:=h6}) c rfl;have M:(arrOf<|SortSt.mk' general' (a.toArray.zip a.toArray) #[] 7 none).map (·.2)=a.toArray:=by
    show(a.toArray.zip a.toArray).map (·.2)=_;apply eI.mp;rw[Array.toList_map];simp only[Array.toList_zip];rw[<-List.unzip_snd,List.unzip_zip rfl]
   rw[M];refine ae (bC (g a.toArray (by simp)<|D<|by simpa using h) (λ_ t y=>?_) λ_ _ x=>x);subst y;have:l=(if(#[]:kr je).size==a.toArray.size then e else e+1):=by injection F with w1;injection w1 with _ _ w2;injection w2 with _ w3;exact w3.symm
   rw[<-this];simp only[bne_self_eq_false,bA,bT];exact af (k _ (by simp)<|D<|by simpa using h)
  ·rw[ax h,ax h];refine ae (bC (K (by simpa using h) {s with heap:=h6} p A) (λN t z=>?_) λ_ _ x=>x.elim);obtain⟨rfl,z⟩:=z;refine ae (bC z (λr t H=>?_) λ_ _ x=>x.elim);obtain⟨rfl,hf,hsz,m⟩:=H;obtain⟨⟨⟩,O⟩:=r;dsimp only at hf hsz m⊢;apply ae;apply seqEpoch_at (s:={s with heap:=h6}) c rfl;refine ae (bC (g _ hsz m) (λ_ t y=>?_) λ_ _ x=>x);subst y;rw[hf];have:l=(if(#[]:kr je).size==a.toArray.size then e else e+1):=by injection F with w1;injection w1 with _ _ w2;injection w2 with _ w3;exact w3.symm
   rw[<-this];simp only[bne_self_eq_false,bA,bT];exact af (k _ hsz m)
def aaB{a:kL}{G:yn}{Q:ki}(i:s.heap.IsList l a.toArray)(d:a.length<=sizeLine)(p:a.length<2->G a.toArray)
 (n:2<=a.length->∀t:jr,(∀b o,s.heap.get? b=some o->t.heap.get? b=some o)->ye prog w G a t)
 (k:∀out:kr je,out.size=a.length->G out->Q (.ref<|s.heap.objs.size+1) {s with heap:=sortedAll s.heap a out}):wpAny (model prog w) A (call (.builtin "sorted") [.ref l]) Q E s:=by
  refine call_function_entry kind_sorted plain_sorted entry_sorted (args_sorted1 _) ?_;unfold Builtin.«sorted»;refine ae (m:=checkCount "sorted" 1 1 _) (af ?_);apply ae;refine collect_list i ?_ d;apply ae;refine gD ?_ d;have c:((s.heap.push<|seqObj "list" #[] 0).update s.heap.objs.size (Obj.mapSeq (· ++a.toArray))).objs.size=s.heap.objs.size+1:=by rw[gP,size_push']
  generalize f:(s.heap.push<|seqObj "list" #[] 0).update s.heap.objs.size (Obj.mapSeq (· ++a.toArray))=g at c;have here:(g.push<|seqObj "list" a.toArray 0).get? (s.heap.objs.size+1)=some (seqObj "list" a.toArray 0):=by rw[<-c];exact aD _ rfl
  have kp:∀b o,s.heap.get? b=some o->b≠s.heap.objs.size+1/\(g.push<|seqObj "list" a.toArray 0).get? b=some o:=λb o q=>by have lt:=Heap.lt_size q;refine⟨aU<|bW lt,ah _ ?_⟩;rw[<-f,eM _ _ _ _<|aU lt];exact ah _ q
  show wpAny _ _ _ _ _ {s with heap:=g.push<|seqObj "list" a.toArray 0};rw[c];refine ae (bI<|bB slot_list_sort ⟨_,here,rfl⟩ entry_list_sort (LY (s:={s with heap:=g.push<|seqObj "list" a.toArray 0}) here d p (λj t h=>n j t λb o q=>h b o (kp b o q).1 (kp b o q).2) λout r u=>⟨_,rfl,?_⟩)<|args_list_sort _);refine af ⟨_,rfl,?_⟩;have e:sortedHeap (g.push<|seqObj "list" a.toArray 0) (s.heap.objs.size+1) a out=sortedAll s.heap a out:=by rw[<-f];rfl
  simp_all
noncomputable def oh:aa D->aa D->jk
 |.int i::xs,.int j::a=>if i=j then oh xs a else decide (i<j)
 |.str i::xs,.str j::a=>if i=j then oh xs a else decide (i.cps.toList<j.cps.toList)
 |[],_::_=>true
 |_,_=>false
noncomputable def ltQ:D->D->jk
 |.int i,.int j=>decide (i<j)
 |.str i,.str j=>decide (i.cps.toList<j.cps.toList)
 |.tup a,.tup b=>oh a b
 |_,_=>false
noncomputable def o4:aa D->jm (aa Nat)
 |[]=>some []
 |.int _::r=>(o4 r).map (0:: ·)
 |.str _::r=>(o4 r).map (1:: ·)
 |_=>none
noncomputable def kz:D->jm (aa Nat)
 |.int _=>some [0]
 |.str _=>some [1]
 |.tup (a::r)=>(o4<|a::r).map (2:: ·)
 |_=>none
def nE:aa D->jk
 |[]=>true
 |d::r=>(kz d).isSome&&r.all λe=>kz e==kz d
def y7(h:nE ds=true):∃s,∀d∈ds,kz d=some s:=by
 cases ds with
 |nil=>exact⟨[],λd c=>by simp at c⟩
 |cons d r=>
  unfold nE at h;simp only[aK,cG,ee]at h;obtain⟨s,b⟩:=eR.mp h.1;refine⟨s,λe a=>?_⟩;rcases az.mp a with rfl|a;·exact b
  ·rw[h.2 e a,b]
def aaJ{x y:jd}(h:x.cps.toList=y.cps.toList):x=y:=by
 cases x;cases y;simp only at h
 congr 1
 exact eI.mp h
def zT{x y:jd}(b:¬x.cps.toList<y.cps.toList)(a:¬y.cps.toList<x.cps.toList):x=y:=
 aaJ (List.le_antisymm (List.not_lt.mp a)<|List.not_lt.mp b)
def um{i:Int}{s}(h:o4 (.int i::r)=some s):∃t,s=0::t/\o4 r=some t:=by obtain⟨t,b,a⟩:=aB.mp (show(o4 r).map (0:: ·)=some s from h);exact⟨t,a.symm,b⟩
def uo{s}(h:o4 (.str i::r)=some s):∃t,s=1::t/\o4 r=some t:=by obtain⟨t,b,a⟩:=aB.mp (show(o4 r).map (1:: ·)=some s from h);exact⟨t,a.symm,b⟩
inductive nZ:List D->List D->Prop
 |nil:nZ [] []
 |int (i j:Int) {xs ys:List D}:nZ xs ys->nZ (.int i::xs) (.int j::ys)
 |str (i j:Str) {xs ys:List D}:nZ xs ys->nZ (.str i::xs) (.str j::ys)
theorem EU:∀{a b} {s},o4 a=some s->o4 b=some s->nZ a b
 |[],b,s,c,f=>by
  cases c;cases b with
  |nil=>exact .nil
  |cons d r=>
   cases d with
   |int i=>obtain⟨t,e,_⟩:=um f;cases e
   |str i=>obtain⟨t,e,_⟩:=uo f;cases e
   |_=>cases f
 |.int i::xs,b,s,c,f=>by
  obtain⟨t,rfl,k⟩:=um c;cases b with
  |nil=>cases f
  |cons d r=>
   cases d with
   |int j=>obtain⟨g,e,h⟩:=um f;cases e;exact .int i j (EU k h)
   |str j=>obtain⟨g,e,_⟩:=uo f;cases e
   |_=>cases f
 |.str i::xs,b,s,c,f=>by
  obtain⟨t,rfl,k⟩:=uo c;cases b with
  |nil=>cases f
  |cons d r=>
   cases d with
   |str j=>obtain⟨g,e,h⟩:=uo f;cases e;exact .str i j (EU k h)
   |int j=>obtain⟨g,e,_⟩:=um f;cases e
   |_=>cases f
 |.non::_,_,_,c,_=>by cases c
 |.bl _::_,_,_,c,_=>by cases c
 |.ty _::_,_,_,c,_=>by cases c
 |.ref _::_,_,_,c,_=>by cases c
 |.tup _::_,_,_,c,_=>by cases c
 |.lst _::_,_,_,c,_=>by cases c
 |.exc _ _ _::_,_,_,c,_=>by cases c
def wN(i j:Int)(xs ys):oh (.int i::xs) (.int j::ys)=if i=j then oh xs ys else decide (i<j):=rfl
def wO(i j xs ys):oh (.str i::xs) (.str j::ys)=if i=j then oh xs ys else decide (i.cps.toList<j.cps.toList):=rfl
def Jz(h:nZ a b):oh a a=false:=by
 induction h with
 |nil=>rfl
 |int i j h c=>rw[wN,au rfl];exact c
 |str i j h c=>rw[wO,au rfl];exact c
def TH(h:nZ a b)(d:oh a b=false)(c:oh b a=false):a=b:=by
 induction h with
 |nil=>rfl
 |int i j h f=>
  rw[wN]at d c;by_cases e:i=j
  ·subst e;rw[au rfl]at d c;rw[f d c]
  ·rw[ax e]at d;rw[ax<|bV e]at c;simp only[cV]at d c
   lia
 |str i j h f=>
  rw[wO]at d c;by_cases e:i=j
  ·subst e;rw[au rfl]at d c;rw[f d c]
  ·rw[ax e]at d;rw[ax<|bV e]at c;simp only[cV]at d c;exact absurd (zT d c) e
def TF(p:nZ a b)(q:nZ b c)(l:oh a b=true)(d:oh b c=true):oh a c=true:=by
 have o:∀{α m:Type} [DecidableEq α] [LT m] [DecidableRel (α:=m) (· < ·)] (g:α->m),(∀{i j k:m},i<j->j<k->i<k)->(∀i:m,¬i<i)->∀{i j k:α} {P Q R:jk},(P=true->Q=true->R=true)->(if i=j then P else decide (g i<g j))=true->(if j=k then Q else decide (g j<g k))=true->(if i=k then R else decide (g i<g k))=true:=by
  intro α m _ _ _ g r u i j k P Q R h l d;by_cases e:i=j
  ·subst e;rw[au rfl]at l;by_cases f:i=k
   ·subst f;rw[au rfl]at d⊢;exact h l d
   ·rw[ax f]at d⊢;exact d
  ·rw[ax e]at l;by_cases f:j=k
   ·subst f;rw[ax e];exact l
   ·rw[ax f]at d;have t:=r (bx l) (bx d);rw[ax λw=>u _<|w▸t];exact aR t
 induction p generalizing c with
 |nil=>cases l
 |int i j p n=>
  cases q with
  |int _ k q=>rw[wN]at l d⊢;exact o id Int.lt_trans Int.lt_irrefl (n q) l d
 |str i j p n=>
  cases q with
  |str _ k q=>rw[wO]at l d⊢;exact o (λx:jd=>x.cps.toList) iX (λ_=>iI _) (n q) l d
inductive yh:D->D->Prop
 |int (i j:Int):yh (.int i) (.int j)
 |str (i j:Str):yh (.str i) (.str j)
 |tup {a b:List D} {d e:D}:nZ (d::a) (e::b)->yh (.tup<|d::a) (.tup<|e::b)
def qq{s}(h:kz x=some s):(∃i,x=.int i/\s=[0])\/(∃i,x=.str i/\s=[1])\/∃d r t,x=.tup (d::r)/\s=2::t/\o4 (d::r)=some t:=by
 unfold kz at h;split at h;·cases h;exact .inl ⟨_,rfl,rfl⟩
 ·cases h;exact .inr (.inl ⟨_,rfl,rfl⟩)
 ·rename_i a r;obtain⟨t,c,b⟩:=aB.mp h;exact .inr (.inr ⟨a,r,t,rfl,b.symm,c⟩)
 ·cases h
def rO{s}(h:kz x=some s)(a:kz y=some s):yh x y:=by
 rcases qq h with⟨i,rfl,rfl⟩|⟨i,rfl,rfl⟩|⟨d,r,t,rfl,rfl,k⟩
 ·rcases qq a with⟨j,rfl,_⟩|⟨j,rfl,e⟩|⟨g,f,c,rfl,e,b⟩;·exact .int i j
  ·cases e
  ·cases e
 ·rcases qq a with⟨j,rfl,e⟩|⟨j,rfl,e⟩|⟨g,f,c,rfl,e,b⟩;·cases e
  ·exact .str i j
  ·cases e
 ·rcases qq a with⟨j,rfl,e⟩|⟨j,rfl,e⟩|⟨g,f,c,rfl,e,b⟩;·cases e
  ·cases e
  ·cases e;exact .tup (EU k b)
def JJ{s}(h:kz x=some s):ltQ x x=false:=by
 cases rO h h with
 |int i j=>exact aJ (by simp)
 |str i j=>exact aJ (iI _)
 |tup q=>exact Jz q
def DF{s}(f:kz x=some s)(e:kz y=some s)(d:ltQ x y=false)(c:ltQ y x=false):x=y:=by
 cases rO f e with
 |int i j=>have a:=dX d;have b:=dX c;rw[show i=j by lia]
 |str i j=>rw[zT (dX d)<|dX c]
 |tup q=>rw[TH q d c]
def zf{s}(h:kz x=some s)(c:kz y=some s)(d:kz z=some s)(f:ltQ x y=true)(e:ltQ y z=true):ltQ x z=true:=by
 cases rO h c with
 |int i j=>
  cases rO c d with
  |int _ k=>have a:=bx f;have b:=bx e;exact aR (by lia)
 |str i j=>
  cases rO c d with
  |str _ k=>exact aR (iX (bx f)<|bx e)
 |tup q=>
  cases rO c d with
  |tup g=>exact TF q g f e
def u9(x:D):aa D->aa D
 |[]=>[x]
 |y::r=>if ltQ y x=true then y::u9 x r else x::y::r
def kZ(a:j7):aa D:=a.foldr u9 []
def uJ(c:j7):Prop:=c.Pairwise λa b=>ltQ b a=false
theorem C8(x):∀r:aa D,(u9 x r).Perm (x::r)
 |[]=>.refl _
 |y::r=>by
  unfold u9;split;·exact((C8 x r).cons y).trans (.swap x y r)
  ·exact .refl _
theorem nJ:∀a:aa D,(kZ a).Perm a
 |[]=>.refl _
 |d::r=>(C8 d<|kZ r).trans ((nJ r).cons d)
theorem IU{s}(e:kz x=some s):∀{r},(∀d∈r,kz d=some s)->uJ r->uJ (u9 x r)
 |[],_,_=>dQ ..
 |y::r,g,h=>by
  have c:=g y (.head _);obtain⟨i,l⟩:=bZ.mp h;unfold u9;split
  ·rename_i lt;refine bZ.mpr ⟨λz a=>?_,IU e (λd k=>g d<|.tail _ k) l⟩;rcases az.mp ((C8 x r).mem_iff.mp a)with rfl|a
   ·cases q:ltQ z y with
    |false=>rfl
    |true=>have:=zf c e c lt q;rw[JJ c]at this;cases this
   ·exact i z a
  ·rename_i lt;have b:ltQ y x=false:=by simpa using lt
   refine bZ.mpr ⟨λz a=>?_,h⟩;rcases az.mp a with rfl|a;·exact b
   ·cases q:ltQ z x with
    |false=>rfl
    |true=>
     have f:=g z (.tail _ a);cases j:ltQ x y with
     |true=>have:=zf f e c q j;rw[i z a]at this;cases this
     |false=>rw[DF e c j b]at q;rw[i z a]at q;cases q
theorem uq{s}:∀{ds},(∀d∈ds,kz d=some s)->uJ (kZ ds)
 |[],_=>.nil
 |d::r,h=>IU (h d<|.head _) (λe a=>h e<|.tail _<|(nJ r).mem_iff.mp a) (uq λe a=>h e<|.tail _ a)
def Eu{s}{a:j7}(h:a.Perm b)(c:∀d∈a,kz d=some s)(i:uJ a)(g:uJ b):a=b:=
 List.Perm.eq_of_pairwise (λx y f e k j=>DF (c x f) (c y<|h.symm.mem_iff.mp e) j k) i g h
def xy:D->R (aa D)
 |.lst ds=>if nE ds=true/\ds.length<64 then .ok (kZ ds)else .bad
 |_=>.bad
def uC:D->je->Prop
 |.int i,.int j _=>i=j
 |.str x,.str y _=>x=y
 |_,_=>False
inductive qY:List D->List Value->Prop
 |nil:qY [] []
 |cons {d:D} {v:Value} {ds:List D} {vs:List Value}:uC d v->qY ds vs->qY (d::ds) (v::vs)
def TupAt(h:jw)(u:je)(c:j7):Prop:=∃a o b n,u=.ref a/\h.get? a=some o/\o.cls=.type "tuple"/\o.data=.seq b n/\qY c b.toList
def TupAt.keep{c:jw}{u}(t:TupAt h u ds)(k:∀b o,h.get? b=some o->c.get? b=some o):TupAt c u ds:=
 let⟨a,o,d,n,f,e,r⟩:=t;⟨a,o,d,n,f,k a o e,r⟩
def q8(h:jw)(u:je):D->Prop
 |.int i=>uC (.int i) u
 |.str x=>uC (.str x) u
 |.tup ds=>TupAt h u ds
 |_=>False
def q8.keep{a:jw}{u d}(t:q8 h u d)(k:∀b o,h.get? b=some o->a.get? b=some o):q8 a u d:=by
 cases d with
 |tup c=>exact TupAt.keep t k
 |_=>exact t
def uY{i:Int}(h:uC (.int i) v):∃t,v=.int i t:=by
 cases v with
 |int j t=>cases h;exact⟨t,rfl⟩
 |_=>exact h.elim
def uZ(h:uC (.str i) v):∃t,v=.str i t:=by
 cases v with
 |str j t=>cases h;exact⟨t,rfl⟩
 |_=>exact h.elim
abbrev _root_.pA:=jk->jr->Prop
def Vx{i j:Int}{t u}{Q:pA}(h:Q (decide<|i<j) s):wpAny (model prog w) A (oneLt' b (.int i t)<|.int j u) Q E s:=by
 cases b with
 |true=>exact oneLt_int h
 |false=>exact kat_one _ _ (lt_int h)
def Vy{i j:jd}{t u}{Q:pA}(h:Q (decide<|i.cps.toList<j.cps.toList) s):wpAny (model prog w) A (oneLt' b (.str i t)<|.str j u) Q E s:=by
 cases b with
 |true=>exact oneLt_str h
 |false=>exact kat_one _ _ (PyProof.Rows.lt_str h)
def TC{Q:pA}:∀{b a},nZ b a->∀{d c} i,qY b d->qY a c->(b=a->Q fin s)->(b≠a->Q (oh b a) s)->KatLex prog w A fl fin Q (d.zip c) i s:=by
 intro b a q;induction q with
 |nil=>intro d c i f g h _;cases f;cases g;exact h rfl
 |int x y q m=>
  intro d c i f g n j;cases f with
  |cons p l=>
   cases g with
   |cons o k=>
    obtain⟨t,rfl⟩:=uY p;obtain⟨r,rfl⟩:=uY o;rw[gq];refine kat_cons (gL ?_);by_cases e:x=y
    ·subst e;rw[show(x==x)=true by simp];refine kat_yes (m (i+1) l k (λw=>n<|by rw[w]) λw=>?_);have:=j (λz=>w<|by injection z)
     rwa [wN,au rfl]at this
    ·rw[show(x==y)=false by simpa using e];refine kat_no (Vx ?_);have:=j (λz=>e<|by injection z with z1;injection z1)
     rwa [wN,ax e]at this
 |str x y q m=>
  intro d c i f g n j;cases f with
  |cons p l=>
   cases g with
   |cons o k=>
    obtain⟨t,rfl⟩:=uZ p;obtain⟨r,rfl⟩:=uZ o;rw[gq];refine kat_cons (gM ?_);by_cases e:x=y
    ·subst e;rw[show decide (x=x)=true by simp];refine kat_yes (m (i+1) l k (λw=>n<|by rw[w]) λw=>?_);have:=j (λz=>w<|by injection z)
     rwa [wO,au rfl]at this
    ·rw[show decide (x=y)=false by simpa using e];refine kat_no (Vy ?_);have:=j (λz=>e<|by injection z with z1;injection z1)
     rwa [wO,ax e]at this
def nZ.len(q:nZ xs ys):xs.length=ys.length:=by
 induction q with
 |nil=>rfl
 |int i j h a=>rw[aw,aw,a]
 |str i j h a=>rw[aw,aw,a]
def Gh(h:qY xs us):xs.length=us.length:=by
 induction h with
 |nil=>rfl
 |cons _ _ a=>rw[aw,aw,a]
def abr{u}{Q:pA}(q:nZ xs ys)(k:TupAt s.heap u xs)(hv:TupAt s.heap v ys)(h:Q (oh xs ys) s):wpAny (model prog w) A (keyLt' (tuples' fl) u v) Q E s:=by obtain⟨a,o,g,n,rfl,r,z,l,c⟩:=k;obtain⟨b,p,f,m,rfl,x,B,t,d⟩:=hv;refine kat_lt r l x t (TC q 0 c d (λe=>?_) λ_=>h);have j:=Gh c;have i:=Gh d;have y:=q.len;simp only[aG]at j i;subst e;rw[Jz q]at h;rw[show decide (g.size<f.size)=false from aJ (by simp_all)];exact h
inductive nc(h:Heap):List Value->List D->Prop
 |nil:nc h [] []
 |cons {u:Value} {d:D} {us:List Value} {ds:List D}:q8 h u d->nc h us ds->nc h (u::us) (d::ds)
def nc.keep{c:jw}(t:nc h us ds)(k:∀b o,h.get? b=some o->c.get? b=some o):nc c us ds:=by
 induction t with
 |nil=>exact .nil
 |cons a _ d=>exact .cons (a.keep k) d
def nc.len(t:nc h us ds):us.length=ds.length:=by
 induction t with
 |nil=>rfl
 |cons a _ b=>rw[aw,aw,b]
def nc.get(t:nc h us ds):∀{i},i<ds.length->q8 h (us.getD i .none) (ds.getD i .non):=by
 induction t with
 |nil=>intro i b;simp at b
 |cons a _ c=>
  intro i b;cases i with
  |zero=>simpa using a
  |succ i=>simpa using c (by simpa using b)
theorem IV:∀{c} {f},nc h c f->(∀d∈f,kz d=some [0])->∃b,IntsAre c b
 |_,_,.nil,_=>⟨[],.nil⟩
 |_,_,.cons (d:=d) a r,hs=>by
  rcases qq (hs d (.head _))with⟨i,rfl,_⟩|⟨i,rfl,e⟩|⟨_,_,_,rfl,e,_⟩
  ·obtain⟨t,rfl⟩:=uY a;obtain⟨b,g⟩:=IV r λd j=>hs d (.tail _ j);exact⟨i::b,.cons i t g⟩
  ·cases e
  ·cases e
theorem L6:∀{c} {f},nc h c f->(∀d∈f,kz d=some [1])->∃b,StrsAre c b
 |_,_,.nil,_=>⟨[],.nil⟩
 |_,_,.cons (d:=d) a r,hs=>by
  rcases qq (hs d (.head _))with⟨i,rfl,e⟩|⟨i,rfl,_⟩|⟨_,_,_,rfl,e,_⟩;·cases e
  ·obtain⟨t,rfl⟩:=uZ a;obtain⟨b,g⟩:=L6 r λd j=>hs d (.tail _ j);exact⟨i::b,.cons i t g⟩
  ·cases e
theorem Mi{k t}:∀{g} {q},nc h g q->(∀d∈q,kz d=some (2::k::t))->∃fs,KatTups h g fs/\fs.length=g.length/\∀v∈fs,(k=0/\∃i u,v=.int i u)\/(k=1/\∃i u,v=.str i u)
 |_,_,.nil,_=>⟨[],.nil,rfl,λv hv=>by simp at hv⟩
 |_,_,.cons (d:=d) a r,hs=>by
  obtain⟨fs,H,G,F⟩:=Mi r λd x=>hs d (.tail _ x);rcases qq (hs d (.head _))with⟨i,rfl,e⟩|⟨i,rfl,e⟩|⟨I,L,K,rfl,e,l⟩;·cases e
  ·cases e
  ·cases e;obtain⟨b,o,p,n,rfl,C,B,y,c⟩:=a;cases j:p.toList with
   |nil=>rw[j]at c;cases c
   |cons f J=>
    rw[j]at c;cases c with
    |cons hf M=>
     have D:p[0]?=some f:=by rw[<-bg,j];rfl
     refine⟨f::fs,.cons C B y D H,by simp[G],λv hv=>?_⟩;rcases az.mp hv with rfl|hv
     ·cases I with
      |int i=>obtain⟨z,m,_⟩:=um l;cases m;obtain⟨u,rfl⟩:=uY hf;exact .inl ⟨rfl,i,u,rfl⟩
      |str i=>obtain⟨z,m,_⟩:=uo l;cases m;obtain⟨u,rfl⟩:=uZ hf;exact .inr ⟨rfl,i,u,rfl⟩
      |_=>cases l
     ·exact F v hv
def Tj(t:nc s.heap us ds)(W:2<=us.length)(G:∀d∈ds,kz d=some sg):
    ∃L:SortKind,(∀Q:SortKind->jr->Prop,Q L s->wpAny (model prog w) A (keyKind' us.toArray) Q E s)/\
     ∀i j,i<ds.length->j<ds.length->∀C:jk->jr->Prop,C (ltQ (ds.getD i .non)<|ds.getD j .non) s->wpAny (model prog w) A (keyLt' L (us.getD i .none)<|us.getD j .none) C E s:=by
 have hl:=t.len;have n:∀i,i<ds.length->kz (ds.getD i .non)=some sg:=λi h=>by rw[bc,ar h,gQ];exact G _ (bU h)
 have Y:=n 0 (by lia);obtain⟨D,B,r,rfl⟩:∃D B r,us=D::B::r:=by
  match us,W with
  |D::B::r,_=>exact⟨D,B,r,rfl⟩
 rcases qq Y with⟨U,N,rfl⟩|⟨U,N,rfl⟩|⟨O,Z,R,N,rfl,o⟩
 ·obtain⟨S,I⟩:=IV t G;refine⟨oneType',λQ q=>by rw[keyKind_ints I];exact af q,λi j h l C c=>?_⟩;have a:=t.get h;have b:=t.get l;have g:=n i h;have m:=n j l;generalize ds.getD i .non=x at a c g;generalize ds.getD j .non=y at b c m;cases rO g m with
  |int x y=>obtain⟨F,p⟩:=uY a;obtain⟨P,o⟩:=uY b;rw[p,o,keyLt'_oneType];exact oneLt_int c
  |str x y=>cases g
  |tup q=>rcases qq g with⟨_,e,_⟩|⟨_,e,_⟩|⟨_,_,_,_,e,_⟩<;>cases e
 ·obtain⟨S,I⟩:=L6 t G;refine⟨oneType',λQ q=>by rw[keyKind_strs I];exact af q,λi j h l C c=>?_⟩;have a:=t.get h;have b:=t.get l;have g:=n i h;have m:=n j l;generalize ds.getD i .non=x at a c g;generalize ds.getD j .non=y at b c m;cases rO g m with
  |int x y=>cases g
  |str x y=>obtain⟨F,p⟩:=uZ a;obtain⟨P,o⟩:=uZ b;rw[p,o,keyLt'_oneType];exact oneLt_str c
  |tup q=>rcases qq g with⟨_,e,_⟩|⟨_,e,_⟩|⟨_,_,_,_,e,_⟩<;>cases e
 ·obtain⟨k,F,H⟩:∃k F,R=k::F:=by
   cases O with
   |int i=>obtain⟨z,p,_⟩:=um o;exact⟨_,_,p⟩
   |str i=>obtain⟨z,p,_⟩:=uo o;exact⟨_,_,p⟩
   |_=>cases o
  subst H;obtain⟨fs,M,K,J⟩:=Mi t G;refine⟨tuples' true,λQ q=>?_,λi j h l C c=>?_⟩
  ·have V:k=0\/k=1:=by
    cases fs with
    |nil=>simp at K
    |cons f fr=>rcases J f (.head _)with⟨e,_⟩|⟨e,_⟩<;>simp_all
   rcases V with rfl|rfl
   ·refine kat_kind (T:=.type "int") M (by rw[K];simp) (λv hv=>?_) (by rfl) q;rcases J v hv with⟨_,i,u,rfl⟩|⟨e,_⟩;·exact .now
    ·cases e
   ·refine kat_kind (T:=.type "str") M (by rw[K];simp) (λv hv=>?_) (by rfl) q;rcases J v hv with⟨e,_⟩|⟨_,i,u,rfl⟩;·cases e
    ·exact .now
  ·have a:=t.get h;have b:=t.get l;have g:=n i h;have m:=n j l;generalize ds.getD i .non=x at a c g;generalize ds.getD j .non=y at b c m;cases rO g m with
   |tup q=>exact abr q a b c
   |_=>cases g
def outs(a:kL)(p:nO):aa je:=p.toList.map λi=>a.getD i .none
def outD(a:j7)(p:nO):aa D:=p.toList.map λi=>a.getD i .non
def Ct{a:Type}(l:aa a)(x):(List.range l.length).map (λi=>l.getD i x)=l:=by
 apply gR;·simp
 ·intro i c b;simp[gT,b]
def V8{a:j7}(h:lg a.length p):(outD a p).Perm a:=by have:=(eA.mp h).map λi=>a.getD i .non;rw[show(List.range a.length).toArray.toList=List.range a.length from rfl,Ct]at this;exact this
def V9(o:∀d∈ds,kz d=some sg)(h:lg ds.length p)(g:0<ds.length)
 (a:oO (rankOf ds.length λi j=>ltQ (ds.getD i .non)<|ds.getD j .non) p ds.length)(n:∀i j,i<ds.length->j<ds.length->ltQ (ds.getD i .non) (ds.getD j .non)=decide (rankOf ds.length (λi j=>ltQ (ds.getD i .non)<|ds.getD j .non) i<rankOf ds.length (λi j=>ltQ (ds.getD i .non)<|ds.getD j .non) j)):uJ (outD ds p):=by
  have sz:=h.size;refine gy.mpr λi j c b m=>?_;unfold outD at c b⊢;rw[ao,aG]at c b;rw[gT,gT,iJ,iJ];have l:p.getD i 0=p[i]:=by simp[Array.getD,c]
  have k:p.getD j 0=p[j]:=by simp[Array.getD,b]
  have f:=h.lt g i;have e:=h.lt g j;have le:=a i j (by walk_at "l") (by simp_all);rw[<-yU,<-yU]at le;rw[l]at f le;rw[k]at e le;rw[n _ _ e f];exact aJ (by simp_all)
def LX(t:nc s.heap us ds)(N:nE ds=true)(H:2<=us.length)(u:us.length<64):ye prog w (λout=>∃p,lg ds.length p/\out.toList=P2.outs us p/\outD ds p=kZ ds) us s:=by
 intro B;obtain⟨I,l⟩:=y7 N;obtain⟨Y,L,K⟩:=Tj (prog:=prog) (w:=w) (A:=B) (E:=λ_ _=>False) t H l;have M:=t.len;have f:∀i,i<ds.length->kz (ds.getD i .non)=some I:=λi a=>by rw[bc,ar a,gQ];exact l _ (bU a)
 have F:=Y6 (n:=ds.length) (c:=λi j=>ltQ (ds.getD i .non)<|ds.getD j .non) (λi a=>JJ<|f i a) (λi j k a m o=>zf (f i a) (f j m)<|f k o) λi j k a m o h=>by
  cases z:ltQ (ds.getD k .non) (ds.getD j .non)with
  |true=>exact .inl rfl
  |false=>
   cases J:ltQ (ds.getD i .non) (ds.getD k .non)with
   |true=>exact .inr rfl
   |false=>
    cases y:ltQ (ds.getD k .non) (ds.getD i .non)with
    |true=>have:=zf (f k o) (f i a) (f j m) y h;rw[z]at this;cases this
    |false=>have:=DF (f i a) (f k o) J y;rw[this,z]at h;cases h
 refine L _ ⟨rfl,?_⟩
 refine bC (kat_run (ks:=us) (vs:=us) (Q:=λb g=>g=s/\failedOf b=none/\((arrOf b).map (·.2)).size=us.length/\∃p,lg ds.length p/\((arrOf b).map (·.2)).toList=P2.outs us p/\outD ds p=kZ ds)
  (G:=λp g=>g=s/\lg ds.length p/\outD ds p=kZ ds) rfl H u (λp b g W V U T=>?_) ?_) (λr g q=>q) λ_ _ x=>x
 ·obtain⟨b1,S,R⟩:=T;have e:=kat_snds rfl V;refine⟨b1,U,?_,p,S,?_,R⟩;·rw[e];simp[W]
  ·rw[e];rfl
 ·rw[M];refine lK.wp (c:=λi j=>ltQ (ds.getD i .non)<|ds.getD j .non) (Q:=λp=>lg ds.length p/\outD ds p=kZ ds) (λi j a m C c=>K i j a m C c) (λp q=>⟨rfl,q⟩) ?_;refine Vw F (by lia) λp v P=>⟨v,?_⟩;have D:=V8 v;exact Eu (D.trans (nJ ds).symm) (λd O=>l d<|D.mem_iff.mp O) (V9 l v (by lia) P F) (uq l)
variable{X:Cx}{E:XK}{e:jB}{J:TE}{f:jQ}{L F:Pos}
def yJ{d u}(r:Rep K al H v d)(hv:RelV v u)(h:(∃i,d=.int i)\/∃i,d=.str i):uC d u:=by
 rcases h with⟨i,rfl⟩|⟨i,rfl⟩;·cases r;obtain⟨t,rfl⟩:=hv;rfl
 ·cases r;obtain⟨t,rfl⟩:=hv;rfl
def PR:∀{c} {k} {g} {j},o4 c=some k->jv K al H g c->Vals g j->qY c j:=by
 intro c k g j h r v;induction c generalizing k g j with
 |nil=>cases r;cases v;exact .nil
 |cons d _ l=>
  cases r with
  |cons a b=>
   cases v with
   |cons hv m=>
    cases d with
    |int i=>obtain⟨t,_,e⟩:=um h;exact .cons (yJ a hv<|.inl ⟨i,rfl⟩) (l e b m)
    |str i=>obtain⟨t,_,e⟩:=uo h;exact .cons (yJ a hv<|.inr ⟨i,rfl⟩) (l e b m)
    |_=>cases h
def SF{s}(I:Inv X pins σ H s){d u}(r:Rep X.K al H v d)(hv:RelV v u)(h:kz d=some sg):q8 s.heap u d:=by
 rcases qq h with⟨i,rfl,_⟩|⟨i,rfl,_⟩|⟨x,p,t,rfl,_,e⟩;·exact yJ r hv (.inl ⟨i,rfl⟩)
 ·exact yJ r hv (.inr ⟨i,rfl⟩)
 ·obtain⟨a,m,rfl,g,c⟩:=r.pO;obtain rfl:u=.ref a:=hv;obtain⟨b,q,⟨o,l,k,n,j⟩,_⟩:=I.tuple g;exact⟨a,o,_,n,rfl,l,k,j,PR e c q⟩
def SG{s}(I:Inv X pins σ H s):∀{c} {g} {i},(∀d∈c,kz d=some sg)->jv X.K al H g c->Vals g i->nc s.heap i c:=by
 intro c g i h r v;induction c generalizing g i with
 |nil=>cases r;cases v;exact .nil
 |cons d _ j=>
  cases r with
  |cons a b=>
   cases v with
   |cons hv k=>exact .cons (SF I a hv<|h d<|.head _) (j (λe l=>h e<|.tail _ l) b k)
theorem Mv(h:Vals vs us):∀l:aa Nat,(∀i∈l,i<us.length)->Vals (l.map λi=>vs.getD i .non) (l.map λi=>us.getD i .none)
 |[],_=>.nil
 |i::l,c=>by
  have get:∀{vs:aa V} {us:kL},Vals vs us->∀i,i<us.length->RelV (vs.getD i .non) (us.getD i .none):=λ{vs us} h=>by
   induction h with
   |nil=>intro i b;simp at b
   |cons a _ d=>
    intro i b;cases i with
    |zero=>simpa using a
    |succ i=>simpa using d i (by simpa using b)
  exact .cons (get h i<|c i<|.head _) (Mv h l λj g=>c j<|.tail _ g)
theorem Lz(h:jv K al H vs ds):∀l:aa Nat,(∀i∈l,i<ds.length)->jv K al H (l.map λi=>vs.getD i .non) (l.map λi=>ds.getD i .non)
 |[],_=>.nil
 |i::l,a=>by have b:=a i (.head _);obtain⟨v,g,d⟩:=h.getD (ar b);refine .cons ?_ (Lz h l λj c=>a j<|.tail _ c);show Rep K al H (vs.getD i V.non) (ds.getD i D.non);rw[bc,bc,g,ar b];exact d
def IT{n}(h:lg n p):∀i∈p.toList,i<n:=λi a=>by have:=(eA.mp h).mem_iff.mp a;simpa using this
def Xc(Y:PE X e J)(hg:Gl X "sorted")(hm:X.mg "sorted"=none)
 (hs:X.se e [])(W:X.bk F []):
   PE X (.Call (.Name "sorted" L) [e] [] F) (λz H Q=>J z H λx0 g=>∃x,[x0]=[x]/\∃l m c y,x=.ref l/\lz X.K g l m/\jv X.K y g m c/\nE c=true/\c.length<64/\∀p a,g p=none->jv X.K y g a (kZ c)->Q (.ref p) (upd g p<|.lst a)):=by
  intro j s z H Q I h;refine cz (sJ I hg hm GK ?_ (by decide) (by decide));have Z:PA X [e] (zY J z5):=sP Y sQ hs;refine dO (jC (Z F j s z H (λC g=>∃x,C=[x]/\∃(l:ja) (m:aa V) (c:j7) (y:kM),x=.ref l/\lz X.K g l m/\jv X.K y g m c/\nE c=true/\c.length<64/\∀p a,g p=none->jv X.K y g a (kZ c)->Q (.ref p) (upd g p<|.lst a)) I h) λus n U=>?_) hs W;obtain⟨C,g,S,r1,q1⟩:=U;obtain⟨x,rfl,l,m,c,y,rfl,hl,P,hh,Iu,q⟩:=q1;obtain⟨u,rfl,ru⟩:=vals1 r1;obtain rfl:u=Value.ref l:=ru;obtain⟨k,O,pl,hz⟩:=S.list hl;obtain⟨sg,T⟩:=y7 hh;have hle:=O.length;have K:=P.length;have it:=SG S T P O;have M:∀(out:tr) (a:aa V),out.size=k.length->Vals a out.toList->jv X.K y g a (kZ c)->∃v H',Inv X j z H' {n with heap:=sortedAll n.heap k out}/\RelV v (.ref<|n.heap.objs.size+1)/\Q v H':=λout a ho R o=>by
   obtain⟨ep,Y⟩:=sortedAll_at n.heap k out;have lw:a.length<=sizeLine:=by have:=R.length;simp only[aG]at this;simp_all
   have I2:Inv X j z (upd g (n.heap.objs.size+1)<|.lst a) {n with heap:=sortedAll n.heap k out}:=
    S.laid (t':=n.toks) (λb u e=>sortedAll_old e) (c6 _) (show kQ X.prog X.w _ _ _ (.lst a)from⟨lw,out.toList,ep,R,by rw[iK];exact Y⟩)
   exact⟨.ref _,_,I2,rfl,q _ a (S.hok.fresh<|c6 _) o⟩
  refine aaB (G:=λout=>∃a,Vals a out.toList/\jv X.K y g a (kZ c)) pl.isList (by simp_all) (λh2=>⟨m,by simpa using O,?_⟩) (λh2 t kp B=>?_) λout ho hG=>?_
  ·have:kZ c=c:=by
    match c,K with
    |[],_=>rfl
    |[d],_=>rfl
    |_::_::r,w=>simp at w;lia
   rw[this];exact P
  ·have:=LX (prog:=X.prog) (w:=X.w) (s:=t) (it.keep kp) hh h2 (by simp_all) B;refine bC this (λκ t' hk=>⟨hk.1,bC hk.2 (λr t'' o=>⟨o.1,o.2.1,o.2.2.1,?_⟩) λ_ _ x=>x⟩) λ_ _ x=>x;obtain⟨p,g1,g2,g3⟩:=o.2.2.2;have N:=IT g1;refine⟨p.toList.map λi=>m.getD i .non,?_,?_⟩;·rw[g2];exact Mv O _ λi hi=>by have:=N i hi;simp_all
   ·rw[<-g3];exact Lz P _ N
  ·obtain⟨a,R,o⟩:=hG;exact M out a ho R o
def OT(x:Gl X "sorted")(q:X.mg "sorted"=none)(y:DE X E e f)
 (n:autoParam (X.se e []) aZ0)(c:autoParam (X.bk F []) aZ0):
   DN X E (.Call (.Name "sorted" L) [e] [] F) (λg=>(f g).bind xy):=by
  obtain⟨t,p,r⟩:=y;refine⟨_,Xc p x q n c,λ{_ _ C _ _ _ _} s h=>r s<|Aft.mono (Aft.split h) λ{_ d} D a v k=>⟨v,rfl,?_⟩⟩;unfold xy at a;split at a
  ·rename_i B;split at a
   ·rename_i z;obtain⟨l,j,rfl,u,b⟩:=k.oW;exact⟨l,j,B,C,rfl,u,b,z.1,z.2,λp i o m=>a d (.refl d) p i o m⟩
   ·exact a.elim
  ·exact a.elim
end P2
namespace P2
open PySem L2
inductive Z where
 |d(x:D)|loc(n:Nat)|tk(ks:List Key)
abbrev ji(x:Int):jm Z:=some (.d<|.int x)
abbrev jj(x:j7):jm Z:=some (.d<|.lst x)
abbrev i9(x:D):jm Z:=some (.d x)
abbrev i8(n:Nat):jm Z:=some (.loc n)
inductive Cell where
 |li(zs:List Z)|ob(C:Addr)(fs:List<|Str×Z)|dk(kvs:List<|Key×Z)|dt(kvs:List<|List Key×Z)|ft(kvs:List<|List Key×Z)|no|mk
abbrev jt:=aa Cell
abbrev Lo:=Nat->jm ja
abbrev jP:=aa (jm Z)
def ko(K:jx)(b:kM)(lo:Lo)(H:Hp)(v:V):Z->Prop
 |.d x=>Rep K b H v x
 |.loc n=>∃a,lo n=some a/\v=.ref a
 |.tk c=>∃a,b a/\H a=some (.tup<|c.map kV)/\v=.ref a
inductive kq(K:W.Frag)(al:Addr->Prop)(lo:Lo)(H:Hp):List V->List Z->Prop
 |nil:kq K al lo H [] []
 |cons {v:V} {z:Z} {vs:List V} {zs:List Z}:ko K al lo H v z->kq K al lo H vs zs->kq K al lo H (v::vs) (z::zs)
inductive kC{κ:Type}(K:W.Frag)(al:Addr->Prop)(lo:Lo)(H:Hp):List (κ×V)->List (κ×Z)->Prop
 |nil:kC K al lo H [] []
 |cons {k:κ} {v:V} {z:Z} {vs:List<|κ×V} {zs:List<|κ×Z}:ko K al lo H v z->kC K al lo H vs zs->kC K al lo H ((k,v)::vs) ((k,z)::zs)
def lV(K:jx)(d:kM)(lo:Lo)(H:Hp)(a:ja):Cell->Prop
 |.li zs=>∃e,H a=some (.lst e)/\kq K d lo H e zs
 |.ob C fs=>∃f b,H a=some (.ins C f b)/\kC K d lo H b fs
 |.dk c=>∃b,H a=some (.dK b)/\kC K d lo H b c
 |.dt c=>∃b,H a=some (.dT b)/\kC K d lo H b c
 |.ft c=>∃b o,H a=some (.ku o<|.dT b)/\kC K d lo H b c
 |.no=>False
 |.mk=>False
def F8(o:HO):Prop:=(∃a,o=.tup a)\/∃b,o=.l6 b
structure r4(K:jx)(al:kM)(lo:Lo)(H:Hp)(S:jt):Prop where
 at':∀n a,lo n=some a->∃c,S[n]?=some c/\lV K al lo H a c
 has:∀n c,S[n]?=some c->c≠.no->c≠.mk->∃a,lo n=some a
 na:∀n a,lo n=some a->¬al a
 inj:∀m n a,lo m=some a->lo n=some a->m=n
 tl:S[0]?=some .mk->∀b o,H b=some o->F8 o->al b
structure Z0 where
 H:Hp
 al:ja->Prop
 lo:Lo
 n:Nat
structure EZ(K:jx)(B:Z0)(al:kM)(lo:Lo)(H:Hp)(S:jt):Prop where
 fr:∀b o,NT o->B.H b=some o->(∀n,B.lo n≠some b)->H b=some o
 hf:∀b,H b=none->B.H b=none
 tt:mh K H
 fresh:∀a,H a=none->al a
 st:r4 K al lo H S
 lx:∀n a,B.lo n=some a->lo n=some a
 nw:∀n a,lo n=some a->B.lo n=some a\/(B.H a=none/\B.n<=n)
 bd:∀n a,B.lo n=some a->n<B.n
 sz:B.n<=S.length
 xt:Xt B.al B.H al H
 sb:∀a,al a->B.al a\/B.H a=none
structure RZ(K:jx)(B:Z0)(al:kM)(lo:Lo)(H:Hp)(σ:St)(ρ:jP)(S:jt):Prop extends EZ K B al lo H S where
 len:ρ.length=σ.length
 vr:∀(i:Nat) (z:Z),ρ[i]?=some (some z)->∃v,σ[i]?=some (some v)/\ko K al lo H v z
def Lx(lo b:Lo):Prop:=∀n a,lo n=some a->b n=some a
def Lx.refl{lo}:Lx lo lo:=λ_ _ h=>h
def Lx.trans{lo}(x:Lx lo lo1)(y:Lx lo1 wQ):Lx lo wQ:=λn a h=>y n a (x n a h)
section
variable{K:jx}{f A:kM}{lo l:Lo}{H F:Hp}
def ko.mv(x:Xt f H A F)(y:Lx lo l)(r:ko K f lo H v z):ko K A l F v z:=by
 cases z with
 |d d=>exact Rep.mv x r
 |loc n=>obtain⟨a,c,b⟩:=r;exact⟨a,y n a c,b⟩
 |tk e=>obtain⟨a,c,b,g⟩:=r;obtain⟨j,i⟩:=x a (.tup<|e.map kV) (λ_ h=>nomatch h) c b;exact⟨a,j,i,g⟩
def kq.mv(x:Xt f H A F)(y:Lx lo l)(r:kq K f lo H vs zs):kq K A l F vs zs:=by
 induction r with
 |nil=>exact .nil
 |cons a _ b=>exact .cons (a.mv x y) b
def kC.mv(x:Xt f H A F)(y:Lx lo l){c:aa<|κ×V}{b:aa<|κ×Z}(r:kC K f lo H c b):kC K A l F c b:=by
 induction r with
 |nil=>exact .nil
 |cons a _ d=>exact .cons (a.mv x y) d
def kq.length(r:kq K f lo H vs zs):vs.length=zs.length:=by
 induction r with
 |nil=>rfl
 |cons _ _ a=>simp_all
def kq.append(r:kq K f lo H vs zs)(q:kq K f lo H ws ys):kq K f lo H (vs++ws) (zs++ys):=by
 induction r with
 |nil=>exact q
 |cons a _ b=>exact .cons a b
def kq.get(r:kq K f lo H vs zs){i:Nat}(e:zs[i]?=some z):∃v,vs[i]?=some v/\ko K f lo H v z:=by
 induction r generalizing i with
 |nil=>simp at e
 |cons a _ b=>grind
def kq.set(r:kq K f lo H vs zs)(q:ko K f lo H v z)(i):kq K f lo H (vs.set i v) (zs.set i z):=by
 induction r generalizing i with
 |nil=>exact .nil
 |cons a b c=>
  cases i with
  |zero=>exact .cons q b
  |succ i=>exact .cons a (c i)
def kq.ofD(r:jv K f H vs ds):kq K f lo H vs (ds.map .d):=by
 induction ds generalizing vs with
 |nil=>cases r;exact .nil
 |cons d ds c=>cases r with|cons a b=>exact .cons a (c b)
def kq.toD(r:kq K f lo H vs<|ds.map .d):jv K f H vs ds:=by
 induction ds generalizing vs with
 |nil=>cases r;exact .nil
 |cons d ds c=>cases r with|cons a b=>exact .cons a (c b)
def lV.mv(x:Xt f H A F)(y:Lx lo l){a:ja}{c:Cell}(e:∀o,NT o->H a=some o->F a=some o)(r:lV K f lo H a c):lV K A l F a c:=by
 cases c with
 |li m=>obtain⟨i,d,b⟩:=r;exact⟨i,e _ oi d,b.mv x y⟩
 |ob C fs=>obtain⟨k,g,d,b⟩:=r;exact⟨k,g,e _ (λ_ h=>nomatch h) d,b.mv x y⟩
 |ft j=>obtain⟨g,o,d,b⟩:=r;exact⟨g,o,e _ (λ_ h=>nomatch h) d,b.mv x y⟩
 |no=>exact r
 |mk=>exact r
 |_=>obtain⟨g,d,b⟩:=r;exact⟨g,e _ (λ_ h=>nomatch h) d,b.mv x y⟩
def lV.tV(r:lV K f lo H a c):H a≠none/\(∀g,H a≠some (.l6 g))/\(∀q,H a≠some (md a q)):=by
 cases c with
 |li i=>obtain⟨j,b,d⟩:=r;rw[b];exact⟨nofun,λ_=>nofun,λ_ w=>by unfold md at w;exact nomatch w⟩
 |ob C fs=>obtain⟨k,e,b,d⟩:=r;rw[b];exact⟨nofun,λ_=>nofun,λ_ w=>by unfold md at w;exact nomatch w⟩
 |ft h=>obtain⟨e,o,b,d⟩:=r;rw[b];exact⟨nofun,λ_=>nofun,λ_ w=>by unfold md at w;exact nomatch w⟩
 |no=>exact r.elim
 |mk=>exact r.elim
 |_=>obtain⟨e,b,d⟩:=r;rw[b];exact⟨nofun,λ_=>nofun,λ_ w=>by unfold md at w;exact nomatch w⟩
def lV.JU(r:lV K f lo H a c){o}(h:H a=some o):¬F8 o:=by
 rintro (⟨k,rfl⟩|⟨g,rfl⟩)
 ·cases c with
  |li j=>obtain⟨m,b,d⟩:=r;rw[h]at b;cases b
  |ob C fs=>obtain⟨n,e,b,d⟩:=r;rw[h]at b;cases b
  |ft i=>obtain⟨e,o,b,d⟩:=r;rw[h]at b;cases b
  |no=>exact r.elim
  |mk=>exact r.elim
  |_=>obtain⟨e,b,d⟩:=r;rw[h]at b;cases b
 ·exact r.tV.2.1 g h
variable{B:Z0}{I:St}{E:jP}{S:jt}
def EZ.start{zs:aa Z}(tt:mh K H)(fr:∀a,H a=none->f a)(st:r4 K f lo H S):EZ K ⟨H,f,lo,S.length⟩ f lo H S where
 fr:=λ_ _ _ h _=>h
 hf:=λ_ h=>h
 tt:=tt
 fresh:=fr
 st:=st
 lx:=λ_ _ h=>h
 nw:=λ_ _ h=>.inl h
 bd:=λn a h=>by obtain⟨c,e,_⟩:=st.at' n a h;exact(aC.mp e).1
 sz:=ai _
 xt:=.refl
 sb:=λ_ h=>.inl h
def EZ.grow(r:EZ K B f lo H S)(s:lj K H F):EZ K B f lo F S where
 fr:=λb o n h w=>s.at' b o n (r.fr b o n h w)
 hf:=λb h=>r.hf b (s.fr b h)
 tt:=s.tt r.tt
 fresh:=λa h=>r.fresh a (s.fr a h)
 st:={
  at':=λn a h=>by obtain⟨c,e,q⟩:=r.st.at' n a h;exact⟨c,e,q.mv (.of s) .refl λo no h=>s.at' _ o no h⟩
  has:=r.st.has
  na:=r.st.na
  inj:=r.st.inj
  tl:=λm b o k j=>by
   cases q:H b with
   |none=>exact r.fresh b q
   |some d=>
    by_cases g:NT d
    · have e:=s.at' b d g q;rw[k]at e;cases e;exact r.st.tl m b o q j
    · exact r.st.tl m b d q (.inr (cu λw=>g λi e=>w ⟨i,e⟩))}
 lx:=r.lx
 nw:=r.nw
 bd:=r.bd
 sz:=r.sz
 xt:=r.xt.trans (.of s)
 sb:=r.sb
def RZ.grow(r:RZ K B f lo H I E S)(s:lj K H F):RZ K B f lo F I E S:=
 ⟨r.toEZ.grow s,r.len,λi z e=>let⟨v,b,a⟩:=r.vr i z e;⟨v,b,a.mv (.of s) .refl⟩⟩
def XS:jm Z->Sl
 |some (.d x)=>.sh x
 |_=>.no
def kO(E:jP):Ev:=E.map XS
def RZ.rs(r:RZ K B f lo H I E S):RS K f H f H I (kO E) where
 same:=.refl H
 tt:=r.tt
 fresh:=r.fresh
 sub:=λ_ h=>h
 pf:=r.fresh
 len:=by unfold kO;rw[ao];exact r.len
 sh:=λi d h=>by
  unfold kO at h;rw[aH]at h;obtain⟨z,c,b⟩:=aB.mp h;cases z with
  |none=>cases b
  |some z=>
   cases z with
   |d x=>cases b;exact r.vr i _ c
   |_=>cases b
 ow:=λi g h=>by
  unfold kO at h;rw[aH]at h;obtain⟨z,c,b⟩:=aB.mp h;cases z with
  |none=>cases b
  |some z=>cases z<;>cases b
 apart:=λi j g e a h _ _ _=>by
  unfold kO at h;rw[aH]at h;obtain⟨z,c,b⟩:=aB.mp h;cases z with
  |none=>cases b
  |some z=>cases z<;>cases b
def RZ.set(r:RZ K B f lo H I E S)(c:i<E.length)(q:ko K f lo H v z):RZ K B f lo H (I.set i<|some v) (E.set i<|some z) S where
 toEZ:=r.toEZ
 len:=by rw[aT,aT];exact r.len
 vr:=λj e h=>by
  by_cases w:i=j
  ·subst w;rw[aF c]at h;cases h;exact⟨v,aF<|by rw[<-r.len];exact c,q⟩
  ·rw[av w]at h;obtain⟨u,a,b⟩:=r.vr j e h;exact⟨u,by rw[av w];exact a,b⟩
def k8(lo:Lo)(n:Nat)(p:ja):Lo:=λm=>if m=n then some p else lo m
def r4.none(b:r4 K f lo H S):lo S.length=Option.none:=by
 cases h:lo S.length with
 |none=>rfl
 |some a=>obtain⟨c,e,_⟩:=b.at' _ a h;simp_all
def oV(b:r4 K f lo H S)(p):Lx lo (k8 lo S.length p):=λn a h=>by
 unfold k8;rw[ax];·exact h
 ·intro w;rw[w,b.none]at h;cases h
def qu{o}(a:H p=none):Xt f H (λb=>f b/\b≠p) (upd H p o):=λb u _ c e=>⟨⟨c,nS e a⟩,by rw[jL<|nS e a];exact e⟩
def EZ.new(r:EZ K B f lo H S){o}(C:H p=none)(no:NT o)(G:lV K (λb=>f b/\b≠p) (k8 lo S.length p) (upd H p o) p c)(O:c≠.no):
    EZ K B (λb=>f b/\b≠p) (k8 lo S.length p) (upd H p o) (S++[c]):=by
 have s:lj K H (upd H p o):=mH C;have x:Xt f H (λb=>f b/\b≠p) (upd H p o):=qu C;have g:=r.grow s;refine⟨g.fr,g.hf,g.tt,λa h=>⟨g.fresh a h,λw=>by rw[w,kK]at h;cases h⟩,⟨λn a h=>?_,λn D h w L=>?_,λn a h w=>?_,λm n a i j=>?_,λm b u t J=>?_⟩,λn a h=>oV r.st p n a<|r.lx n a h,λn a h=>?_,r.bd,by rw[aq];have:=r.sz;walk_at "l",r.xt.trans x,λb t=>r.sb b t.1⟩
 ·unfold k8 at h;by_cases w:n=S.length
  ·rw[au w]at h;cases h;exact⟨c,by rw[w];simp,G⟩
  ·rw[ax w]at h;obtain⟨D,e,q⟩:=r.st.at' n a h;have ne:a≠p:=λz=>q.tV.1 (by rw[z];exact C);exact⟨D,by rw[aA (aC.mp e).1];exact e,q.mv x (oV r.st p) λu _ h=>by rw[jL ne];exact h⟩
 ·by_cases z:n<S.length
  ·rw[aA z]at h;obtain⟨a,i⟩:=r.st.has n D h w L;exact⟨a,oV r.st p n a i⟩
  ·have:n=S.length:=by
    have:=(aC.mp h).1;rw[aq,cm]at this
    lia
   exact⟨p,by unfold k8;rw[au this]⟩
 ·unfold k8 at h;by_cases z:n=S.length;·rw[au z]at h;cases h;exact w.2 rfl
  ·rw[ax z]at h;exact r.st.na n a h w.1
 ·have v:∀k b,lo k=some b->b≠p:=λk b N z=>by
   obtain⟨D,_,q⟩:=r.st.at' k b N;exact q.tV.1 (by rw[z];exact C)
  unfold k8 at i j;by_cases z:m=S.length
  ·rw[au z]at i;cases i;by_cases y:n=S.length;·simp_all
   ·rw[ax y]at j;exact absurd rfl (v n _ j)
  ·rw[ax z]at i;by_cases y:n=S.length;·rw[au y]at j;cases j;exact absurd rfl (v m _ i)
   ·rw[ax y]at j;exact r.st.inj m n a i j
 ·have M:S[0]?=some .mk:=by
   cases S with
   |nil=>have e:some c=some Cell.mk:=m;cases e;exact G.elim
   |cons d r=>exact m
  by_cases z:b=p
  ·rw[z]at t;exact absurd J (G.JU t)
  ·rw[jL z]at t;exact⟨r.st.tl M b u t J,z⟩
 ·unfold k8 at h;by_cases z:n=S.length;·rw[au z]at h;cases h;exact .inr ⟨r.hf _ C,by rw[z];exact r.sz⟩
  ·rw[ax z]at h;exact r.nw n a h
def RZ.new(r:RZ K B f lo H I E S){o}(a:H p=none)(no:NT o)(d:lV K (λb=>f b/\b≠p) (k8 lo S.length p) (upd H p o) p c)(j:c≠.no):
    RZ K B (λb=>f b/\b≠p) (k8 lo S.length p) (upd H p o) I E (S++[c]):=
 ⟨r.toEZ.new a no d j,r.len,λi z e=>let⟨v,h,g⟩:=r.vr i z e;⟨v,h,g.mv (qu a)<|oV r.st p⟩⟩
def EZ.write(r:EZ K B f lo H S){n o}(g:lo n=some a)(no:NT o)(J:∀q,o≠md a q)(p:lV K f lo (upd H a o) a c)(L:c≠.no):EZ K B f lo (upd H a o) (S.set n c)/\Xt f H f (upd H a o):=by
 obtain⟨M,G,j⟩:=r.st.at' n a g;have C:n<S.length:=(aC.mp G).1;have v:=r.st.na n a g;have x:Xt f H f (upd H a o):=λb u _ d e=>⟨d,by rw[jL λw=>v (by rw[<-w];exact d)];exact e⟩;refine⟨⟨λb u t h w=>?_,λb h=>?_,r.tt.upd j.tV.2.1 j.tV.2.2,λb h=>?_,⟨λm b h=>?_,λm i h w s=>?_,r.st.na,r.st.inj,λm b u d k=>?_⟩,r.lx,r.nw,r.bd,by rw[aT];exact r.sz,r.xt.trans x,r.sb⟩,x⟩
 ·have:=r.fr b u t h w;by_cases z:b=a
  ·subst z;rcases r.nw n b g with q|q;·exact absurd q (w n)
   ·rw[q.1]at h;cases h
  ·rw[jL z];exact this
 ·by_cases z:b=a;·rw[z,kK]at h;cases h
  ·rw[jL z]at h;exact r.hf b h
 ·by_cases z:b=a;·rw[z,kK]at h;cases h
  ·rw[jL z]at h;exact r.fresh b h
 ·by_cases z:n=m;·simp_all
  ·obtain⟨i,e,q⟩:=r.st.at' m b h;refine⟨i,by rw[av z];exact e,q.mv x .refl λu _ D=>?_⟩;rw[jL λw=>z (r.st.inj n m a g (by rw[<-w];exact h))];exact D
 ·by_cases z:n=m;·subst z;exact⟨a,g⟩
  ·rw[av z]at h;exact r.st.has m i h w s
 ·have y:S[0]?=some .mk:=by
   by_cases z:n=0
   ·subst z;rw[aF C]at m;cases m;exact p.elim
   ·rw[av z]at m;exact m
  by_cases z:b=a
  ·rw[z]at d;exact absurd k (p.JU d)
  ·rw[jL z]at d;exact r.st.tl y b u d k
def RZ.write(r:RZ K B f lo H I E S){n}{o}(d:lo n=some a)(no:NT o)(b:∀q,o≠md a q)(g:lV K f lo (upd H a o) a c)(k:c≠.no):RZ K B f lo (upd H a o) I E (S.set n c)/\Xt f H f (upd H a o):=
 let⟨e,x⟩:=r.toEZ.write d no b g k
 ⟨⟨e,r.len,λi z e=>let⟨v,j,h⟩:=r.vr i z e;⟨v,j,h.mv x .refl⟩⟩,x⟩
end
inductive RX(α:Type) where
 |ok(a:α)(S:jt)|ex(c:Addr)(ns:List Str)(ds:List D)(S:jt)|bad
abbrev jE:=jP->jt->RX Z
abbrev jD:=aa Z->jt->RX Z
noncomputable def RX.bind{d b:Type}:RX d->(d->jt->RX b)->RX b
 |.ok a S,f=>f a S
 |.ex c ns ds S,_=>.ex c ns ds S
 |.bad,_=>.bad
def lJ{b:Type}(r:R b)(S:jt):RX b:=match r with
 |.ok a=>.ok a S
 |.ex c ns ds=>.ex c ns ds S
 |.bad=>.bad
def jh{f:Type}(K:jx)(B:Z0)(E:XK)(j:kM)(lo:Lo)(H:Hp)(h:St)(i:jP)(r:RX f)(k:f->(ja->Prop)->Lo->Hp->jt->Prop):Prop:=match r with
 |.ok x e=>∀a b d,RZ K B a b d h i e->Xt j H a d->Lx lo b->k x a b d e
 |.ex c ns ds e=>∀a b d g,EZ K B a b d e->XR K a d g ns ds->E (.ref c) g d
 |.bad=>False
section
variable{v C:Type}{K:jx}{B:Z0}{E:XK}{f e:kM}{lo b:Lo}{H i:Hp}{j:St}{l:jP}{S p:jt}{k A:v->(ja->Prop)->Lo->Hp->jt->Prop}
def jh.up(h:jh K B E f lo H j l r k)(x:Xt f H e i)(y:Lx lo b):jh K B E e b i j l r k:=by
 cases r with
 |ok a S=>exact λd c n z m g=>h d c n z (x.trans m) (y.trans g)
 |_=>exact h
def jh.mono(h:jh K B E f lo H j l r k)(m:∀{x e b i p},RZ K B e b i j l p->Xt f H e i->Lx lo b->k x e b i p->A x e b i p):jh K B E f lo H j l r A:=by
 cases r with
 |ok a S=>exact λd c o z n g=>m z n g (h d c o z n g)
 |_=>exact h
def jh.split{g:v->jt->RX C}{k}(h:jh K B E f lo H j l (r.bind g) k):jh K B E f lo H j l r (λx e b i p=>jh K B E e b i j l (g x p) k):=by
 cases r with
 |ok a S=>exact λn m o z d c=>jh.up h d c
 |_=>exact h
def jh.toAft(z:RZ K B f lo H j l S)(h:jh K B E f lo H j l (lJ r S) k):Aft K f E H r (λx i=>k x f lo i S):=by
 cases r with
 |ok a=>exact λg d=>h f lo g (z.grow d) (.of d) .refl
 |ex c n o=>exact λm g d q=>h f lo g m (z.toEZ.grow d) q
 |bad=>exact h
end
structure ZE(X:Cx)(E:XK)(e:jB)(f:jE):Prop where
 w_::
 o_:∃t:TE,PE X e t/\
 ∀{B al lo H σ ρ S} {Q:VK},RZ X.K B al lo H σ ρ S->jh X.K B E al lo H σ ρ (f ρ S) (λz kH mS H' _=>∀v,ko X.K kH mS H' v z->Q v H')->t σ H Q
abbrev _root_.ny:=jP->jt->RX jk
structure ZT(X:Cx)(E:XK)(e:jB)(f:ny):Prop where
 w_::
 o_:∃t:TT,PT X e t/\
 ∀{B al lo H σ ρ S} {Q:sd},RZ X.K B al lo H σ ρ S->jh X.K B E al lo H σ ρ (f ρ S) (λb _ _ H' _=>Q b H')->t σ H Q
abbrev _root_.n6:=jP->jt->RX (aa Z)
structure ZA(X:Cx)(E:XK)(es:lr)(f:n6):Prop where
 w_::
 o_:∃t:TA,PA X es t/\
 (∀{B al lo H σ ρ S} {Q:aa V->Hp->Prop},RZ X.K B al lo H σ ρ S->jh X.K B E al lo H σ ρ (f ρ S) (λzs kH mS H' _=>∀vs,kq X.K kH mS H' vs zs->Q vs H')->t σ H Q)/\∀ρ S zs S',f ρ S=.ok zs S'->zs.length=es.length
noncomputable def zD(f:jQ):jE:=λa S=>(lJ (f<|kO a) S).bind λd S=>.ok (.d d) S
def zB(f:mi):jP->jt->RX jk:=λa S=>lJ (f<|kO a) S
noncomputable def zV(i:Nat):jE:=λa S=>match a[i]? with
 |some (some z)=>.ok z S
 |_=>.bad
def lY:aa Z->jm (aa D)
 |[]=>some []
 |.d x::r=>(lY r).map (x:: ·)
 |_::_=>none
theorem tF:∀{b} {a},lY b=some a->b=a.map .d
 |[],_,h=>by cases h;rfl
 |.d x::r,a,h=>by obtain⟨t,d,c⟩:=aB.mp (show(lY r).map (x:: ·)=some a from h);subst c;rw[aW,<-tF d]
 |.loc _::_,_,h=>by cases h
theorem tG:∀a:aa D,lY (a.map .d)=some a
 |[]=>rfl
 |d::r=>by show(lY<|r.map .d).map (d:: ·)=_;rw[tG r];rfl
def z2(g:qI)(a b:jE):jE:=λc S=>(a c S).bind λx f=>(b c f).bind λy e=>match x,y with
 |.d x,.d y=>(lJ (g x y) e).bind λd S=>.ok (.d d) S
 |_,_=>.bad
def pR(t:D->R jk)(a:jE):jP->jt->RX jk:=λb S=>(a b S).bind λx c=>match x with
 |.d x=>lJ (t x) c
 |_=>.bad
def ux(a b:ny):jP->jt->RX jk:=λc S=>(a c S).bind λk d=>if k=true then b c d else .ok false d
noncomputable def jo:jP->jt->RX (aa Z):=λ_ S=>.ok [] S
def i7(a:jE)(r:n6):jP->jt->RX (aa Z):=λb S=>(a b S).bind λx e=>(r b e).bind λc d=>.ok (x::c) d
def zF(g:jA)(a:n6):jE:=λb S=>(a b S).bind λc f=>match lY c with
 |some e=>(lJ (g e) f).bind λd S=>.ok (.d d) S
 |none=>.bad
def zZ(F:jD)(a:n6):jE:=λb S=>(a b S).bind F
section
variable{X:Cx}{E:XK}{e a b c:jB}{l rest:lr}{j:Pos}{f y A:jE}{C J:ny}{fs:n6}
def aco{f}(h:DE X E e f):ZE X E e (zD f):=by obtain⟨t,p,r⟩:=h;refine⟨t,p,λ{_ k lo _ _ _ _ _} z h=>r z.rs ?_⟩;have:=jh.toAft z (jh.split h);exact Aft.mono this λ{_ m} d i v g=>i k lo m (z.grow d) .refl .refl v g
def acZ{f}(h:DT X E e f):ZT X E e (zB f):=by obtain⟨t,p,r⟩:=h;exact⟨t,p,λz h=>r z.rs<|jh.toAft z h⟩
def mL(i)(hN:autoParam (X.N[i]?=some x) aZ0)(hv:autoParam (rm X.env.scope x) aZ5)(k:autoParam (mq x) aZ1)
 (d:autoParam ((x==("__classdict__":jd))=false) aZ1):ZE X E (.Name x j) (zV i):=by
  refine⟨_,xh hN hv k d,λ{_ o lo H _ _ _ _} z h=>?_⟩;unfold zV at h;split at h
  ·rename_i g q;obtain⟨v,n,m⟩:=z.vr i g q;exact⟨v,n,h o lo H z .refl .refl v m⟩
  ·exact h.elim
def acs{o:Operator}{g}(L:lh X E (binaryOp o) g)(N:ZE X E a y)(M:ZE X E b A):ZE X E (.BinOp a o b j) (z2 g y A):=by
 obtain⟨r,F,D⟩:=L;obtain⟨U,K,H⟩:=N;obtain⟨T,I,G⟩:=M;refine⟨_,KD F K I,λs h=>H s<|jh.mono (jh.split h) λx S R P v z=>G x<|jh.mono (jh.split P) λ{_ n k _ _} d q p m u B=>?_⟩;split at m;·exact D d.fresh (ko.mv q p z) B (Aft.mono (jh.toAft d<|jh.split m) λ{_ Q} t O w i=>O n k Q (d.grow t) .refl .refl w i)
 ·exact m.elim
def acb{k:CmpOp}{g}(L:lh X E (compareOp k) g)(O:ZE X E a y)(N:ZE X E b A)(M:autoParam (behindInMarks k b=false) aZ6):ZE X E (.Compare a [k] [b] j) (z2 g y A):=by
 obtain⟨r,F,D⟩:=L;obtain⟨V,K,H⟩:=O;obtain⟨U,I,G⟩:=N;refine⟨_,Ky F K I M,λs h=>H s<|jh.mono (jh.split h) λx T S Q v z=>G x<|jh.mono (jh.split Q) λ{_ o m _ _} d q p n u B=>?_⟩;split at n;·exact D d.fresh (ko.mv q p z) B (Aft.mono (jh.toAft d<|jh.split n) λ{_ R} t P w i=>P o m R (d.grow t) .refl .refl w i)
 ·exact n.elim
def acX{k:CmpOp}{g}(M:lh X E (compareOp k) g)(P:ZE X E a y)(O:ZE X E b A)(N:autoParam (behindInMarks k b=false) aZ6):ZT X E (.Compare a [k] [b] j) (pR tB<|z2 g y A):=by
 obtain⟨r,G,F⟩:=M;obtain⟨Y,L,I⟩:=P;obtain⟨W,K,H⟩:=O;refine⟨_,zK G L K N,λs h=>I s<|jh.mono (jh.split<|jh.split h) λz V U S v B=>H z<|jh.mono (jh.split S) λ{_ o m _ _} d x t n u D=>?_⟩;split at n
 ·refine F d.fresh (ko.mv x t B) D (Aft.mono (jh.toAft d<|jh.split n) λ{_ T} p R w i=>?_);have Q:=R o m T (d.grow p) .refl .refl;exact vq i (Aft.mono (jh.toAft (d.grow p) Q) λ_ q=>q)
 ·exact n.elim
def ac1(p:ZE X E e y)(o:autoParam (∀d,isTrue e X.env d=(do let v<-d;standAt e.pos;holding [v]<|truthy v)) aZ2):ZT X E e (pR tT y):=by
 obtain⟨t,n,m⟩:=p;refine⟨_,K9 n o,λs h=>m s<|jh.mono (jh.split h) λi r q g v k=>?_⟩;split at g;·exact zN k (jh.toAft i g)
 ·exact g.elim
structure ZW(X:Cx)(E:XK)(e:jB)(f:ny):Prop where
 w_::
 o_:∃t:TT,PW X e t/\
 ∀{B al lo H σ ρ S} {Q:sd},RZ X.K B al lo H σ ρ S->jh X.K B E al lo H σ ρ (f ρ S) (λb _ _ H' _=>Q b H')->t σ H Q
def ZW.zt(h:ZW X E e C):ZT X E e C:=let⟨t,p,r⟩:=h;⟨t,p.pt,r⟩
def ac3(h:ZT X E a C):ZW X E (.BoolOp .And [a] j) C:=let⟨t,p,r⟩:=h;⟨t,Le p,r⟩
def ac2(p:ZT X E a C)(o:ZW X E (.BoolOp .And (b::rest) j) J):ZW X E (.BoolOp .And (a::b::rest) j) (ux C J):=by
 obtain⟨u,n,k⟩:=p;obtain⟨t,m,v⟩:=o;refine⟨_,Ld n m,λs h=>k s<|jh.mono (jh.split h) λ{c g d r _} i _ _ q=>?_⟩;cases c with
 |true=>grind
 |false=>exact sF (q g d r i .refl .refl)
def acn{g}(L:AE X E g)(N:ZE X E a y)(M:ZE X E b A)(K:autoParam (A5 b) aZ7):ZE X E (.Subscript a b j) (z2 g y A):=by
 obtain⟨r,D,B⟩:=L;obtain⟨U,I,G⟩:=N;obtain⟨T,H,F⟩:=M;refine⟨_,KA D I H K,λs h=>G s<|jh.mono (jh.split h) λt S R P v x=>F t<|jh.mono (jh.split P) λ{_ n k _ _} d p o m u z=>?_⟩;split at m;·exact B d.fresh (ko.mv p o x) z (Aft.mono (jh.toAft d<|jh.split m) λ{_ Q} q O w i=>O n k Q (d.grow q) .refl .refl w i)
 ·exact m.elim
def ab5:ZA X E [] jo:=⟨_,sQ,λ{_ d lo H _ _ _ _} s h=>h d lo H s .refl .refl _ .nil,λ_ _ _ _ h=>by cases h;rfl⟩
def ab4(N:ZE X E e y)(M:ZA X E l fs)(L:autoParam (X.se e l) aZ0):ZA X E (e::l) (i7 y fs):=by
 obtain⟨W,K,H⟩:=N;obtain⟨V,I,G,Y⟩:=M;refine⟨_,sP K I L,λ{_ _ _ _ _ d S _} s h=>H s<|jh.mono (jh.split h) λ{x _ _ _ n} B U T P v D=>G B<|jh.mono (jh.split P) λ{_ k i R m} z w t O u F=>?_,λd S r Q h=>?_⟩;·exact O k i R z .refl .refl _ (.cons (D.mv w t) F)
 ·unfold i7 at h;cases q:y d S with
  |ok x n=>
   rw[q]at h;have g:(fs d n).bind (λo m=>.ok (x::o) m)=RX.ok r Q:=h;cases p:fs d n with
   |ok o m=>
    rw[p]at g;cases g
    grind
   |_=>rw[p]at g;cases g
  |_=>rw[q]at h;cases h
def acx{q}(x:ZA X E l fs):ZE X E (.Tuple l q j) (zF jN fs):=by
 obtain⟨H,w,u,_⟩:=x;refine⟨_,Ef w,λs h=>u s<|jh.mono (jh.split h) λ{_ o k _ _} i q G n v t=>?_⟩;split at n
 ·rename_i D e;have:=tF e;subst this;have d:=t.toD;have g:=Aft.mono (jh.toAft i<|jh.split n) λ{_ F} r B=>B o k F (i.grow r) .refl .refl;unfold jN at g;by_cases z:D.length<=sizeLine
  ·rw[au z]at g;exact⟨by rw[d.length];exact z,λp m=>g _ (mH m) _<|d.ET m<|i.fresh p m⟩
  ·rw[ax z]at g;exact g.elim
 ·exact n.elim
variable{x:jd}{p:Pos}
variable{k n:Nat}{I:jS}{F:jA}
def ab9(G:qZ X.prog X.w X.K X.mg X.base (ky X.prog X.w) k x I<|ly n X.K F)(hr:kN k X.A)(hg:Gl X x)(hx:Passes (ky X.prog X.w) X E)(hn:(e::l).length=n)(ha:ZA X E (e::l) fs)(w:autoParam (mq x) aZ1)
    (he:autoParam (X.se e l) aZ0)(u:autoParam (X.bk j l) aZ0):ZE X E (.Call (.Name x p) (e::l) [] j) (zF F fs):=by
 obtain⟨ta,pa,Y,lb⟩:=ha;refine⟨_,Ed G hr hg hx pa w he u,λ{B al lo H P L S Q} s h=>Y s ?_⟩;unfold zF at h;cases q:fs L S with
 |bad=>rw[q]at h;exact h.elim
 |ex c ns o N=>rw[q]at h;exact h
 |ok R N=>
  rw[q]at h;intro i r H1 m U T vs W;have M:=lb _ _ _ _ q;have D:jh X.K B E al lo H P L (match lY R with|some o=>(lJ (F o) N).bind λd S=>.ok (.d d) S|none=>.bad) (λz K t O _=>∀v,ko X.K K t O v z->Q v O):=h;split at D
  ·rename_i o e;have:=tF e;subst this;have g:=W.toD;rw[bz];exact⟨by rw[g.length];rw[ao]at M;rw[M];exact hn,m.tt,i,o,m.fresh,g,Aft.mono (jh.toAft m (jh.split (jh.up D U T))) λ{_ H3} V h3=>h3 i r H3 (m.grow V) .refl .refl⟩
  ·exact D.elim
def MS(K:jx)(B:Z0)(E:XK)(r:RX Z)(Q:VK):Prop:=match r with
 |.ok z i=>∀d g h v,EZ K B d g h i->ko K d g h v z->Q v h
 |.ex c ns ds i=>∀d g h m,EZ K B d g h i->XR K d h m ns ds->E (.ref c) m h
 |.bad=>False
def kB(n:Nat)(K:jx)(F:jD):Sp:=λh H Q E=>h.length=n/\mh K H/\∃d lo g S,(∀a,H a=none->d a)/\r4 K d lo H S/\kq K d lo H h g/\MS K ⟨H,d,lo,S.length⟩ E (F g S) Q
def EZ.trans{lo}(r:EZ K B al lo H S)(q:EZ K ⟨H,al,lo,S.length⟩ kH mS H' S'):EZ K B kH mS H' S' where
 fr:=λb o n h w=>q.fr b o n (r.fr b o n h w) λm d=>by
  rcases r.nw m b d with z|z;·exact w m z
  ·rw[z.1]at h;cases h
 hf:=λb h=>r.hf b (q.hf b h)
 tt:=q.tt
 fresh:=q.fresh
 st:=q.st
 lx:=λn a h=>q.lx n a (r.lx n a h)
 nw:=λn a h=>by
  rcases q.nw n a h with z|z;·exact r.nw n a z
  ·exact .inr ⟨r.hf a z.1,aV r.sz z.2⟩
 bd:=r.bd
 sz:=aV r.sz q.sz
 xt:=r.xt.trans q.xt
 sb:=λa h=>by
  rcases q.sb a h with z|z;·exact r.sb a z
  ·exact .inr (r.hf a z)
def RZ.after{lo}(r:RZ K B al lo H σ ρ S)(q:EZ K ⟨H,al,lo,S.length⟩ kH mS H' S'):RZ K B kH mS H' σ ρ S':=
 ⟨r.toEZ.trans q,r.len,λi z e=>let⟨v,g,d⟩:=r.vr i z e;⟨v,g,d.mv q.xt q.lx⟩⟩
variable{F:jD}
def aca(G:qZ X.prog X.w X.K X.mg X.base (ky X.prog X.w) k x I<|kB n X.K F)(hr:kN k X.A)(hg:Gl X x)(hx:Passes (ky X.prog X.w) X E)(hn:(e::l).length=n)(ha:ZA X E (e::l) fs)(M:autoParam (mq x) aZ1)
 (he:autoParam (X.se e l) aZ0)(L:autoParam (X.bk j l) aZ0):ZE X E (.Call (.Name x p) (e::l) [] j) (zZ F fs):=by
  obtain⟨ta,pa,ra,lb⟩:=ha;refine⟨_,Ed G hr hg hx pa M he L,λ{B al lo H V R S Q} s h=>ra s ?_⟩;unfold zZ at h;cases q:fs R S with
  |bad=>rw[q]at h;exact h.elim
  |ex c ns ds r=>rw[q]at h;exact h
  |ok t r=>
   rw[q]at h;intro N D H1 m x1 W vs T;have ll:=lb _ _ _ _ q;have i:jh X.K B E al lo H V R (F t r) (λz O K U _=>∀v,ko X.K O K U v z->Q v U):=h;rw[bz];refine⟨by rw[T.length,ll];exact hn,m.tt,N,D,t,r,m.fresh,m.st,T,?_⟩;cases w:F t r with
   |bad=>rw[w]at i;exact i.elim
   |ex c ns ds S2=>rw[w]at i;exact λg d P dx o Y=>i g d P dx (m.toEZ.trans o) Y
   |ok z S2=>rw[w]at i;exact λg d P v o u=>i g d P (m.after o) (x1.trans o.xt) (W.trans o.lx) v u
end
inductive lX where
 |nx(ρ:jP)(S:jt)|rt(z:Z)(S:jt)|bk(ρ:jP)(S:jt)|ct(ρ:jP)(S:jt)|ex(c:Addr)(ns:List Str)(ds:List D)(S:jt)|bad
abbrev jJ:=jP->jt->lX
noncomputable def toZ{b:Type}(r:RX b)(k:b->jt->lX):lX:=match r with
 |.ok a S=>k a S
 |.ex c ns ds S=>.ex c ns ds S
 |.bad=>.bad
def aaa(r:lX)(k:jJ):lX:=match r with
 |.nx a S=>k a S
 |r=>r
def kF(K:jx)(B:Z0)(E:XK)(D:Ends)(g:kM)(H:Hp):lX->Prop
 |.nx f S=>∀a b d e,Xt g H a d->RZ K B a b d e f S->D.nx e d
 |.bk f S=>∀a b d e,Xt g H a d->RZ K B a b d e f S->D.bk e d
 |.ct f S=>∀a b d e,Xt g H a d->RZ K B a b d e f S->D.ct e d
 |.rt z S=>∀a b d v,EZ K B a b d S->ko K a b d v z->D.rt v d
 |.ex c ns ds S=>∀a b d h,EZ K B a b d S->XR K a d h ns ds->E (.ref c) h d
 |.bad=>False
section
variable{K:jx}{B:Z0}{E:XK}{D:Ends}{e b:kM}{lo:Lo}{H f:Hp}{s:lX}{i:St}{j:jP}
def kF.ext(h:kF K B E D e H s)(x:Xt e H b f):kF K B E D b f s:=by
 cases s with
 |rt d S=>exact h
 |ex c m n S=>exact h
 |bad=>exact h
 |_=>exact λa l k g y r=>h a l k g (x.trans y) r
def kF.nG{k}(h:kF K B E D e H<|toZ r k):jh K B E e lo H i j r (λx b d f l=>kF K B E D b f<|k x l):=by
 cases r with
 |ok x S=>exact λg c o n a m=>kF.ext h a
 |_=>exact h
end
structure ZS(X:Cx)(E:XK)(b:Nat)(st:Stmt)(g:jJ):Prop where
 w_::
 o_:∃t:TS,PS X st t/\
 ∀{B:Z0} {al lo H σ ρ S} {D:Ends},B.n=b->RZ X.K B al lo H σ ρ S->kF X.K B E D al H (g ρ S)->t D σ H
structure oA(X:Cx)(E:XK)(b:Nat)(st:aa Stmt)(g:jJ):Prop where
 w_::
 o_:∃t:TS,pj X st t/\
 ∀{B:Z0} {al lo H σ ρ S} {D:Ends},B.n=b->RZ X.K B al lo H σ ρ S->kF X.K B E D al H (g ρ S)->t D σ H
def kn:jJ:=.nx
def jf(a b:jJ):jJ:=λc S=>aaa (a c S) b
def jZ(f:jE):jJ:=λa S=>toZ (f a S) .rt
def jy(i:Nat)(f:jE):jJ:=λa S=>toZ (f a S) λz b=>if i<a.length then .nx (a.set i<|some z) b else .bad
def j4(c:ny)(a b:jJ):jJ:=λd S=>toZ (c d S) λk e=>if k=true then a d e else b d e
section
variable{X:Cx}{E:XK}{b:Nat}{y:Stmt}{rest C A:aa Stmt}{g u F j:jJ}{e c:jB}{f:jE}{l:ny}{a:Pos}
def acV:oA X E b [] kn:=⟨_,K7,λ{_ i lo H d _ _ _} k s h=>h i lo H d .refl s⟩
def acW(h:ZS X E b y g):oA X E b [y] g:=let⟨t,p,r⟩:=h;⟨t,K8 p,r⟩
def acU(z:ZS X E b y g)(w:oA X E b rest u):oA X E b (y::rest) (jf g u):=by
 obtain⟨K,t,p⟩:=z;obtain⟨J,r,o⟩:=w;refine⟨_,K6 t r,λ{B L lo H I m S D} d s h=>p d s ?_⟩;unfold jf at h;cases q:g m S with
 |nx k M=>rw[q]at h;exact λG v N i x n=>o d n (kF.ext h x)
 |_=>rw[q]at h;exact h
def acM:ZS X E b (.Break a) .bk:=⟨_,XH,λ{_ i lo H d _ _ _} k s h=>h i lo H d .refl s⟩
def acQ(n:ZE X E e f):ZS X E b (.Return (some e) a) (jZ f):=by obtain⟨t,p,r⟩:=n;exact⟨_,K4 p,λz s h=>r s<|jh.mono (kF.nG h) λ{_ i d q _} k x w o v m=>o i d q v k.toEZ m⟩
def MQ(i)(hN:X.N.Nodup)(D:X.N[i]?=some x)(z:Loc X.env.scope x)(G:ZE X E e f)(B:autoParam (swapsWith e (some<|.Name x pos') a.line X.env=pure false) aZ0)(hf:autoParam (X.hf x) aZ3):
    ZS X E b (.Assign [.Name x pos'] e a) (jy i f):=by
 obtain⟨t,p,r⟩:=G;refine⟨_,Ej hN D z p B hf,λ{_ _ _ _ _ n _ _} K s h=>r s<|jh.mono (kF.nG h) λ{_ m k H _} o J I d v q=>?_⟩;by_cases w:i<n.length
 ·simp only[w,cQ]at d;exact d m k H _ .refl (o.set w q)
 ·simp only[w,bT]at d;exact d.elim
def acP(p:ZT X E c l)(q:oA X E b C F)(d:oA X E b A j):ZS X E b (.If c C A a) (j4 l F j):=by
 obtain⟨v,m,i⟩:=p;obtain⟨x,o,D⟩:=q;obtain⟨w,n,B⟩:=d;refine⟨_,K3 m o n,λd s h=>i s<|jh.mono (kF.nG h) λ{k _ _ _ _} z t r G=>?_⟩;cases k with
 |true=>grind
 |false=>grind
def oM(r:lX)(k:jJ):lX:=match r with
 |.nx d S=>k d S
 |.ct d S=>k d S
 |.bk d S=>.nx d S
 |r=>r
def rP(c:ny)(b:jJ):Nat->jJ
 |0,_,_=>.bad
 |n+1,d,S=>toZ (c d S) λk h=>if k=true then oM (b d h) (rP c b n)else .nx d h
def Mj{K}{B}{E}{q}{H}{D}{k}(h:kF K B E D q H<|oM r k)
 (hN:∀d m n i o t,Xt q H d n->RZ K B d m n i o t->kF K B E D d n (k o t)->N i n):kF K B E {D with nx:=N,ct:=N,bk:=D.nx} q H r:=by
  cases r with
  |nx p S=>exact λd m n i x s=>hN d m n i p S x s (kF.ext h x)
  |ct p S=>exact λd m n i x s=>hN d m n i p S x s (kF.ext h x)
  |_=>exact h
def acT(n)(V:PassesOwn (model X.prog X.w) X.A X.env X.xe)(W:ZT X E c l)(G:oA X E b A j):ZS X E b (.While c A [] a) (rP l j n):=by
 obtain⟨tc,T,Q⟩:=W;obtain⟨tb,U,R⟩:=G;refine⟨_,K5 V T U,λ{B Z lo _ _ N S D} G s h=>⟨λm p J=>∃i o d r,RZ X.K B i o J p d r/\kF X.K B E D i J (rP l j m d r),⟨n,Z,lo,N,S,s,h⟩,?_⟩⟩
 rintro m p J ⟨i,o,d,r,O,M⟩
 cases m with
 |zero=>exact M.elim
 |succ m=>
  refine Q O (jh.mono (kF.nG M) λ{k H w H2 _} K x2 y2 L=>?_);cases k with
  |true=>refine tW ⟨λq t=>∃i o d r,RZ X.K B i o t q d r/\kF X.K B E D i t (rP l j m d r),λq t z=>⟨m,bH m,z⟩,R G K<|Mj (k:=rP l j m) L λI x t q v S' _ P Y=>⟨I,x,v,S',P,Y⟩⟩
  |false=>exact sF (L H w H2 p .refl K)
end
abbrev _root_.vW:=D->jP->jm jP
structure ZG(X:Cx)(tg:jB)(a:vW):Prop where
 w_::
 o_:∃g:TG,PG X tg g/\
 ∀{B al lo H σ ρ S v d} {Q:St->Hp->Prop},RZ X.K B al lo H σ ρ S->Rep X.K al H v d->(∃l8,a d ρ=some l8/\∀pS,RZ X.K B al lo H pS l8 S->Q pS H)->g v σ H Q
abbrev _root_.Ba:=aa D->jP->jm jP
structure yv(X:Cx)(tg:lr)(a:Ba):Prop where
 w_::
 o_:∃g:uK,vR X tg g/\
 ∀{B al lo H σ ρ S v d} {Q:St->Hp->Prop},RZ X.K B al lo H σ ρ S->jv X.K al H v d->(∃l8,a d ρ=some l8/\∀pS,RZ X.K B al lo H pS l8 S->Q pS H)->g v σ H Q
def hV(i:Nat):D->jP->jm jP:=λd a=>if i<a.length then some (a.set i<|i9 d)else none
def hN:aa D->jP->jm jP:=λb a=>match b with
 |[]=>some a
 |_=>none
def hC(a:vW)(b:Ba):aa D->jP->jm jP:=λe c=>match e with
 |d::r=>(a d c).bind (b r)
 |[]=>none
def hT(n:Nat)(a:Ba):D->jP->jm jP:=λd b=>match d with
 |.tup ds=>if ds.length=n then a ds b else none
 |_=>none
def abl{b:Type}(r:jm b)(k:b->lX):lX:=match r with
 |some a=>k a
 |none=>.bad
def k6(a:vW)(b:jJ):aa D->jJ
 |[],e,S=>.nx e S
 |d::r,e,S=>abl (a d e) λc=>oM (b c S) (k6 a b r)
section
variable{X:Cx}{E:XK}{b:Nat}{F c:jB}{A:aa Stmt}{C:mj}{a:vW}{l:jJ}{j:Pos}{e:jB}{f:jE}
def mJ(C:mj)(a:vW)(l:jJ):jJ:=λd S=>toZ (lJ (C<|kO d) S) λg h=>k6 a l g d h
def acD(i)(hN:X.N.Nodup)(n:X.N[i]?=some x)(m:Loc X.env.scope x)(hf:autoParam (X.hf x) aZ3):ZG X (.Name x j) (hV i):=by
 refine⟨_,xi hN n m hf,λ{_ _ _ _ _ g _ _ _ _} s k h=>?_⟩;obtain⟨d,e,q⟩:=h;unfold hV at e;by_cases z:i<g.length
 ·rw[au z]at e;cases e;exact q _ (s.set z k)
 ·simp_all
def acF:yv X [] hN:=by
 refine⟨_,Xm,λs g h=>?_⟩;obtain⟨d,e,q⟩:=h;cases g with
 |nil=>cases e;exact⟨rfl,q _ s⟩
 |cons _ _=>cases e
def Fu{u}(y:ZG X e a)(x:yv X es u)(w:autoParam ((assignEach (e::es) X.env).map (·.2)=assign e X.env::(assignEach es X.env).map (·.2)) aZ0):yv X (e::es) (hC a u):=by
 obtain⟨H,v,r⟩:=y;obtain⟨G,t,p⟩:=x;refine⟨_,Xl v t w,λs m h=>?_⟩;obtain⟨g,e,q⟩:=h;cases m with
 |nil=>cases e
 |cons o n=>obtain⟨d,B,z⟩:=aP.mp e;exact⟨_,_,rfl,r s o ⟨d,B,λi k=>p k n ⟨g,z,q⟩⟩⟩
def acE{k n u}(w:X.calm=true)(h:yv X es u)(v:autoParam ((assignEach es X.env).length=n) aZ0)(i:autoParam ((assignEach es X.env).findIdx? (·.1)=none) aZ0):ZG X (.Tuple es k j) (hT n u):=by
 obtain⟨G,t,r⟩:=h;refine⟨_,Xk w t v i,λ{_ _ _ _ _ _ _ _ d _} s p h=>?_⟩;obtain⟨g,e,q⟩:=h;unfold hT at e;cases d with
 |tup B=>
  by_cases z:B.length=n
  ·simp only[z,cQ]at e;obtain⟨a,o,y,x,m⟩:=p.pO;exact⟨a,o,y,x,by rw[m.length];exact z,r s m ⟨g,e,q⟩⟩
  ·simp_all
 |_=>cases e
def acN(hp:PassesOwn (model X.prog X.w) X.A X.env X.xe)(hc:X.calm=true)(L:DI X E F c C)(hg:ZG X F a)(P:oA X E b A l)(hs:autoParam (∀x,foldedSetIterable c X.env x=pure x) aZ2):
    ZS X E b (.For F c A [] j) (mJ C a l):=by
 obtain⟨wi,pi,ri⟩:=L;obtain⟨g,pg,rg⟩:=hg;obtain⟨tb,pb,rb⟩:=P;refine⟨_,K2 hp hc pi pg pb hs,λ{B al lo _ _ V S D} P s h=>ri s.rs<|Aft.mono (jh.toAft (k:=λo w K z U=>kF X.K B E D w z<|k6 a l o V U) s<|kF.nG h) λ{o _} s1 h1 J wk=>?_⟩;refine⟨λi m t H=>∃d p n G,RZ X.K B d p H t n G/\Wk X.K d H J o/\kF X.K B E D d H (k6 a l (o.drop i) n G)/\m=o.length - i,⟨_,al,lo,V,S,s.grow s1,wk,h1,rfl⟩,?_⟩
 rintro i m t H ⟨d,p,n,G,N,I,r,rfl⟩
 obtain⟨w1,w2⟩:=I d H .refl N.fresh;by_cases L:i<o.length
 ·right;have ed:o[i]?=some o[i]:=ar L;obtain⟨go,yl⟩:=w1 i _ ed;rw[cN L]at r;refine⟨go,λu z=>∃d p n G,RZ X.K B d p z u n G/\Wk X.K d z J o/\kF X.K B E D d z (k6 a l (o.drop<|i+1) n G),λu z ⟨T,O,v,S3,Z,z2,Y⟩=>⟨o.length - (i+1),by grind,T,O,v,S3,Z,z2,Y,rfl⟩,λx H3 y=>?_⟩;obtain⟨rfl,rx⟩:=yl x H3 y;unfold k6 at r;cases q:a o[i] n with
  |some v=>rw[q]at r;refine rg N rx ⟨v,q,λW s3=>rb P s3<|Mj (k:=k6 a l<|o.drop<|i+1) r λw K z u M U x' s' h'=>⟨w,K,M,U,s',λQ H4 x4=>I Q H4<|x'.trans x4,h'⟩⟩
  |none=>rw[q]at r;exact r.elim
 ·left;have e:o.drop i=[]:=cZ (by simp_all);rw[e]at r;exact⟨w2 i<|by simp_all,r d p H t .refl N⟩
def Ag(i:Nat)(g:qI)(f:jE):jJ:=λh S=>match h[i]? with
 |some (some (.d d))=>toZ (f h S) λz m=>match z with
  |.d e=>toZ (lJ (g d e) m) λr k=>.nx (h.set i<|i9 r) k
  |_=>.bad
 |_=>.bad
def MN(i){g}(hN:X.N.Nodup)(O:X.N[i]?=some x)(L:Loc X.env.scope x)(M:Az X E op g)(P:ZE X E e f)(hf:autoParam (X.hf x) aZ3):
    ZS X E b (.AugAssign (.Name x pos') op e j) (Ag i g f):=by
 obtain⟨V,K,S⟩:=M;obtain⟨t,p,r⟩:=P;refine⟨_,XG hN O L p K hf,λ{_ _ _ _ _ y _ _} W s h=>?_⟩;unfold Ag at h;split at h
 ·rename_i d o;obtain⟨v,hv,I⟩:=s.vr i _ o;have N:i<y.length:=(aC.mp o).1;refine⟨v,hv,r s<|jh.mono (kF.nG h) λ{z n m _ _} k B U q u J=>?_⟩;cases z with
  |d e=>refine S k.fresh (Rep.mv B I) J (Aft.mono (jh.toAft k<|kF.nG q) λ{_ T} G Q w H=>?_);exact Q n m T _ .refl ((k.grow G).set N H)
  |_=>exact q.elim
 ·exact h.elim
end
def jY(n:Nat)(a:aa Z):jP:=a.map some++List.replicate (n - a.length) none
noncomputable def ju:lX->RX Z
 |.rt z S=>.ok z S
 |.nx _ S=>.ok (.d .non) S
 |.ex c ns ds S=>.ex c ns ds S
 |_=>.bad
def LI{b:kM}{lo}(d:mh K H)(fr:∀a,H a=none->b a)(e:r4 K b lo H S)(r:kq K b lo H vs zs):RZ K ⟨H,b,lo,S.length⟩ b lo H (L2.start N vs) (jY N.length zs) S where
 toEZ:=EZ.start (zs:=zs) d fr e
 len:=by unfold L2.start jY;simp[r.length]
 vr:=λi z h=>by
  unfold jY at h;by_cases c:i<zs.length
  ·rw[aA<|by simpa using c,aH]at h;cases q:zs[i]? with
   |none=>rw[q]at h;cases h
   |some y=>rw[q]at h;cases h;obtain⟨v,g,f⟩:=r.get q;refine⟨v,?_,f⟩;unfold L2.start;rw[aA<|by simpa [r.length]using c,aH,g];rfl
  ·rw[aN<|by simpa using c,b8]at h;split at h<;>cases h
section
variable{P:jT}{w:jK}{K:jx}{y:kG}{j:jw}
def HS{x:jd}{e:Stmt}{f:ja}{v:nu}{N n:jS}{k:Nat}{g:Nat->jJ}(F:ou K x x e f v)(S:sY N n<|kf e)
    (i:∀(b:Nat) (d:je) (A:kh) (a:my) (s:jr) (H:Hp) (E:XK),kN k (kR (ky P w) P w K y j N x (kf e) f d A a s H E).A->oA (kR (ky P w) P w K y j N x (kf e) f d A a s H E) E b (ml e) (g b)):
    lM P w K y j (k+1) f v n (kB n.length K λm S=>ju<|g S.length (jY N.length m) S):=by
 refine F.Kf S (λG H Q E h=>h.1) (λd A a s H G Q E M h=>?_);obtain⟨V,I,O,lo,m,l,fr,e,L,h⟩:=h;obtain⟨t,p,r⟩:=i l.length d A a s H E M;dsimp only at h;refine⟨t,p,r (B:=⟨H,O,lo,l.length⟩) rfl (LI I fr e L) ?_⟩;cases q:g l.length (jY N.length m) l with
 |nx T C=>rw[q]at h;exact λu o R D _ J=>h u o R .non J.toEZ .non
 |rt z C=>rw[q]at h;exact h
 |ex c U Y C=>rw[q]at h;exact h
 |_=>rw[q]at h;exact h.elim
def clo:RX Z->R D
 |.ok (.d x) _=>.ok x
 |.ex c ns ds _=>.ex c ns ds
 |_=>.bad
def aaE:r4 K al (λ_=>none) H []:=
 {at':=λ_ _ h=>(by cases h),has:=λn c h _ _=>(by simp at h),na:=λ_ _ h=>(by cases h),inj:=λ_ _ _ h=>(by cases h),tl:=λh=>(by simp at h)}
def aay{n}{F:jD}(h:ly n K (λl=>clo<|F (l.map .d) []) vs H Q E):kB n K F vs H Q E:=by
 obtain⟨u,t,m,l,fr,p,h⟩:=h;refine⟨u,t,m,λ_=>none,l.map .d,[],fr,aaE,.ofD p,?_⟩;have i:∀{f g k r},EZ K ⟨H,m,λ_=>none,([]:jt).length⟩ f g k r->lj K H k:=λe=>⟨λb o no A=>e.fr b o no A λ_=>nofun,e.hf,λ_=>e.tt⟩;have sub:∀{f g k r},EZ K ⟨H,m,λ_=>none,([]:jt).length⟩ f g k r->∀a,f a->m a:=λe a B=>(e.sb a B).elim id (fr a);dsimp only at h;cases q:F (l.map .d) []with
 |bad=>rw[q]at h;exact h.elim
 |ex c G I D=>rw[q]at h;exact λf g k C e s=>h C k (i e) (s.mv<|.sub<|sub e)
 |ok z D=>
  rw[q]at h;cases z with
  |d x=>exact λf g k v e p=>h k (i e) v (Rep.mv (.sub<|sub e) p)
  |_=>exact h.elim
def mf.close{k n}(h:lM P w K y j k f fd ps<|kB n K F):lM P w K y j k f fd ps (ly n K<|λa=>clo<|F (a.map .d) []):=
 h.imp λb H Q E q=>aay q
variable{X:Cx}{E:XK}{b:Nat}{l:Stmt}{e:jB}{m:Pos}
def mU(d:mj):jE:=λc S=>(lJ (d<|kO c) S).bind λf a=>.ok (.loc a.length) (a++[.li<|f.map .d])
def acq(i:DN X E e fn):ZE X E e (mU fn):=by obtain⟨t,p,r⟩:=i;refine⟨t,p,λ{_ q lo _ _ _ S _} s h=>r s.rs<|Aft.mono (jh.toAft s<|jh.split h) λ{o u} f n p d c g=>?_⟩;have a:=s.grow f;have k:lV X.K (λb=>q b/\b≠p) (k8 lo S.length p) (upd u p<|.lst d) p (.li<|o.map .d):=⟨d,kK,kq.mv (qu c) (oV a.st p)<|.ofD g⟩;exact n _ _ _ (a.new c oi k nofun) (qu c) (oV a.st p) _ ⟨p,by unfold k8;rw[au rfl],rfl⟩
def acR(i)(hN:X.N.Nodup)(z:X.N[i]?=some x)(u:Loc X.env.scope x)(A:uA X E e fn)(v:autoParam (swapsWith e (some<|.Name x pos') m.line X.env=pure true) aZ0)(hf:autoParam (X.hf x) aZ3):
    ZS X E b (.Assign [.Name x pos'] e m) (jy i<|zD<|jz fn):=by
 obtain⟨t,_,p,r⟩:=A;refine⟨_,Ek hN z u p v hf,λ{_ k lo _ _ n _ _} F s h=>r s.rs ?_⟩;have C:=jh.toAft s (jh.split<|kF.nG h);refine Aft.mono (Aft.split C) λ{D _} g B p d c q=>?_;have f:=(s.grow g).grow (mH (K:=X.K) (o:=HO.lst d) c);have a:=B _ (mH (K:=X.K) (o:=HO.lst d) c) k lo _ f .refl .refl;dsimp only at a;by_cases w:i<n.length
 ·rw[au w]at a;exact a _ _ _ _ .refl (f.set w<|show ko X.K k lo _ (.ref p) (.d<|.lst D)from q.tY c ((s.grow g).fresh p c))
 ·rw[ax w]at a;exact a.elim
end
section
variable{X:Cx}{E:XK}{b:Nat}{e:jB}{l:Pos}{f:jE}
def o9(i:Nat)(f:jE):jJ:=λa S=>match a[i]? with
 |some (some (.loc n))=>(match S[n]? with
  |some (.li _)=>toZ (f a S) λz d=>(match d[n]? with
   |some (.li c)=>if c.length<sizeLine then .nx a (d.set n<|.li<|c++[z])else .bad
   |_=>.bad)
  |_=>.bad)
 |_=>.bad
def RZ.cell{lo}(s:RZ K B al lo H σ ρ S){n}(d:lo n=some a)(h:S[n]?=some c):lV K al lo H a c:=by obtain⟨j,i,g⟩:=s.st.at' n a d;simp_all
def acL(i){d:Pos}(Z:PlainAttrs "list")(A:Slot "list" "append" "list.append")(G:typeOf (.builtin "list.append")=pure (.type "method_descriptor"))(he:ZE X E e f)
 (hN:autoParam (X.N[i]?=some x) aZ0)(hv:autoParam (rm X.env.scope x) aZ5)(hd:autoParam (mq x) aZ1)
 (I:autoParam ((x==("__classdict__":jd))=false) aZ1)
 (m:autoParam (attributeBase (.Name x nT) "append" X.env (eval (.Name x nT) X.env)=eval (.Name x nT) X.env) aZ0)
 (B:autoParam (((backTo cpos (starEach [e] X.env)).all (λx=>!x.1)&&(backToKw cpos (keywordEach [] X.env)).all (λx=>x.1.isSome)
 &&decide ([e].length+([]:aa Keyword).length+(if([]:aa Keyword).isEmpty then 0 else 1)<30))=true) aZ0)
 (k:autoParam ((d.endLine==cpos.line)=true) aZ0)(L:autoParam (X.se e []) aZ0)(g:autoParam ((backTo cpos<|starEach [] X.env).any (·.1)=false) aZ0)
 (H:autoParam (swapsWith (.Call (.Attribute (.Name x nT) "append" d) [e] [] cpos) none l.line X.env=pure false) aZ0):
   ZS X E b (.Expr (.Call (.Attribute (.Name x nT) "append" d) [e] [] cpos) l) (o9 i f):=by
  obtain⟨t,p,r⟩:=he;refine⟨_,K1 (Kx Z A G JT (xh hN hv hd I) (sP p sQ L) m B k L g) H,λJ s h=>?_⟩;unfold o9 at h;split at h
  ·rename_i n q;split at h
   ·rename_i P Y;obtain⟨v,e1,a,M,rfl⟩:=s.vr i _ q;obtain⟨T,e2,e3⟩:=s.cell M Y;refine⟨_,e1,.inl ⟨rfl,T,.inl<|.inl e2⟩,r s<|jh.mono (kF.nG h) λ{z C _ O _} F x1 Q y u V=>?_⟩;split at y
    ·rename_i K W;have j:=Q n a M;obtain⟨D,g2,N⟩:=F.cell j W;by_cases w:K.length<sizeLine
     ·rw[au w]at y;have S:Xt C O C (upd O a (.lst (D++[u]))):=λb o _ J eb=>⟨J,by rw[jL λz=>F.st.na n a j (by rw[<-z];exact J)];exact eb⟩;obtain⟨U,R⟩:=F.write j (o:=.lst (D++[u])) (c:=.li (K++[z])) oi (λq w=>by unfold md at w;cases w) ⟨_,kK,kq.mv S .refl (N.append (.cons V .nil))⟩ nofun;exact⟨a,D,u,rfl,rfl,g2,by rw[N.length];exact w,y _ _ _ _ R U⟩
     ·rw[ax w]at y;exact y.elim
    ·exact y.elim
   ·exact h.elim
  ·exact h.elim
def vF(i:Nat)(d:jQ)(f:jE):jJ:=λa S=>toZ (f a S) λz g=>match a[i]? with
 |some (some (.loc n))=>toZ (lJ (d (kO a)) g) λk c=>(match k,c[n]? with
  |.int j,some (.li zs)=>(match qQ zs.length j with
   |some m=>.nx a (c.set n<|.li<|zs.set m z)
   |none=>.bad)
  |_,_=>.bad)
 |_=>.bad
variable{k:jB}{y:jQ}
def MP(i)(hk:DE X E k y)(he:ZE X E e f)
 (hN:autoParam (X.N[i]?=some x) aZ0)(hv:autoParam (rm X.env.scope x) aZ5)(hd:autoParam (mq x) aZ1)
 (K:autoParam ((x==("__classdict__":jd))=false) aZ1)
 (ha:autoParam (∀v,assign (.Subscript (.Name x nT) k vA) X.env v=(do
 let C<-holding [v] (eval (.Name x nT) X.env)
 let I<-holding [v,C] (eval k X.env)
 standAt vA
 holding [v,C,I] (setItem C I v)
 release [v,C,I] [])) aZ2)
 (Z:autoParam (swapsWithSole [.Subscript (.Name x nT) k vA] e l.line X.env=pure false) aZ0)(Y:autoParam (swappedStores [.Subscript (.Name x nT) k vA] e X.env=pure none) aZ0)
 (g:autoParam ((assignEach [.Subscript (.Name x nT) k vA] X.env).map (·.2)=[assign (.Subscript (.Name x nT) k vA) X.env]) aZ0):
   ZS X E b (.Assign [.Subscript (.Name x nT) k vA] e l) (vF i y f):=by
  obtain⟨t,p,r⟩:=he;obtain⟨tk,pk,U⟩:=hk;refine⟨_,XF p (Xj (xh hN hv hd K) pk set_list ha) Z Y g,λL s h=>r s<|jh.mono (kF.nG h) λ{z A _ _ _} B x1 y1 g v T=>?_⟩;split at g
  ·rename_i n q;obtain⟨u,e1,a,J,rfl⟩:=B.vr i _ q;refine⟨_,e1,U B.rs<|Aft.mono (jh.toAft B<|kF.nG g) λ{_ O} M d w G=>?_⟩;have F:=B.grow M;split at d
   ·rename_i j P W;cases G;obtain⟨D,g1,N⟩:=F.cell J W;split at d
    ·rename_i m V;have H:=ko.mv (.of M) .refl T;have R:Xt A O A (upd O a (.lst (D.set m v))):=λb o _ L eb=>⟨L,by rw[jL λz=>F.st.na n a J (by rw[<-z];exact L)];exact eb⟩;obtain⟨S,Q⟩:=F.write J (o:=.lst (D.set m v)) (c:=.li (P.set m z)) oi (λq w=>by unfold md at w;cases w) ⟨_,kK,kq.mv R .refl (N.set H m)⟩ nofun;exact⟨a,D,j,m,rfl,rfl,g1,by rw[N.length];exact V,d _ _ _ _ Q S⟩
    ·exact d.elim
   ·exact d.elim
  ·exact g.elim
end
mutual
def rH:D->jk
 |.lst _=>false
 |.tup ds=>zo ds
 |.exc _ _ _=>false
 |_=>true
def zo:aa D->jk
 |[]=>true
 |d::r=>rH d&&zo r
end
noncomputable def oN(S:jt):jm Z->Sl
 |some (.d x)=>.sh x
 |some (.loc n)=>(match S[n]? with
  |some (.li a)=>(match lY a with
   |some b=>jO b
   |none=>.no)
  |_=>.no)
 |_=>.no
def vw(S:jt)(a:jP):Ev:=a.map (oN S)
variable{K:jx}{B:Z0}{al:kM}{lo:Lo}{H H':Hp}{σ:St}{ρ:jP}{S:jt}
def Be(al:kM)(lo:Lo):ja->Prop:=λa=>al a\/∃n,lo n=some a
def RZ.LC(r:RZ K B al lo H σ ρ S):RS K (Be al lo) H (Be al lo) H σ (vw S ρ) where
 same:=.refl H
 tt:=r.tt
 fresh:=λa h=>.inl (r.fresh a h)
 sub:=λ_ h=>h
 pf:=λa h=>.inl (r.fresh a h)
 len:=by unfold vw;rw[ao];exact r.len
 sh:=λi d h=>by
  unfold vw at h;rw[aH]at h;obtain⟨z,c,b⟩:=aB.mp h;cases z with
  |none=>cases b
  |some z=>
   obtain⟨v,o,f⟩:=r.vr i z c;refine⟨v,o,?_⟩;cases z with
   |d x=>cases b;exact Rep.mv (.sub λ_ h=>.inl h) f
   |tk u=>cases b
   |loc n=>
    unfold oN at b;dsimp only at b;split at b
    ·rename_i s q;split at b
     ·rename_i g k;cases b;have:=tF k;subst this;obtain⟨a,e,rfl⟩:=f;obtain⟨t,m,l⟩:=r.cell e q;exact .lst (.inl ⟨.inr ⟨n,e⟩,.inl m⟩) (jv.mv (.sub λ_ h=>.inl h) l.toD)
     ·cases b
    ·cases b
 ow:=λi g h=>by
  unfold vw at h;rw[aH]at h;obtain⟨z,c,b⟩:=aB.mp h;unfold oN at b;split at b;·cases b
  ·split at b;·split at b<;>cases b
   ·cases b
  ·cases b
 apart:=λi j g p a h _ _ _=>by
  unfold vw at h;rw[aH]at h;obtain⟨z,c,b⟩:=aB.mp h;unfold oN at b;split at b;·cases b
  ·split at b;·split at b<;>cases b
   ·cases b
  ·cases b
def Rep.rH(f:∀n a,lo n=some a->¬∃e,Rd H a<|.tup e){d}(r:Rep K (Be al lo) H v d):P2.rH d=true->Rep K al H v d:=
 Rep.rec (motive_1:=λv d _=>P2.rH d=true->Rep K al H v d) (motive_2:=λv d _=>zo d=true->jv K al H v d) (λ_=>.non) (λb _=>.bl b) (λb _=>.int b) (λb _=>.str b) (λb _=>.ty b) (λb _=>.ref b)
  (λp _ q h=>.tup (p.elim (λz=>.inl ⟨z.1.elim id λ⟨n,g⟩=>absurd ⟨_,.inl z.2⟩<|f n _ g,z.2⟩) .inr)<|q h) (λ_ _ _ h=>by cases h) (λ_ _ _ _ _ _ h=>by cases h) (λ_ _ h=>by cases h) (λ_=>.nil) (λ{_ d _ i} _ _ p q h=>by have c:(P2.rH d&&zo i)=true:=h;rw[aK]at c;exact .cons (p c.1) (q c.2)) r
def RZ.rJ(r:RZ K B al lo H σ ρ S):∀n a,lo n=some a->¬∃d,Rd H a (.tup d):=λn a f ⟨d,h⟩=>by
 obtain⟨c,_,q⟩:=r.st.at' n a f;cases c with
 |ob C fs=>obtain⟨j,b,g,_⟩:=q;rcases h with h|⟨o,h⟩<;>(rw[g]at h;cases h)
 |ft e=>obtain⟨b,i,g,_⟩:=q;rcases h with h|⟨o,h⟩<;>(rw[g]at h;cases h)
 |no=>exact q
 |mk=>exact q
 |_=>obtain⟨b,g,_⟩:=q;rcases h with h|⟨o,h⟩<;>(rw[g]at h;cases h)
def zR(f:jQ):jE:=λρ S=>match f (vw S ρ)with
 |.ok d=>if rH d=true then .ok (.d d) S else .bad
 |_=>.bad
def qz(f:mi):jP->jt->RX jk:=λρ S=>match f (vw S ρ)with
 |.ok d=>.ok d S
 |_=>.bad
variable{X:Cx}{E:XK}{b:Nat}{e:jB}{pos:Pos}
def acv(h:DE X E e f):ZE X E e (zR f):=by
 obtain⟨t,p,r⟩:=h;refine⟨t,p,λ{_ al lo _ _ ρ S _} z h=>r z.LC ?_⟩;unfold zR at h;cases q:f (vw S ρ)with
 |ok d=>
  rw[q]at h;dsimp only at h;by_cases w:rH d=true
  ·rw[au w]at h;exact λg a v c=>h al lo g (z.grow a) (.of a) .refl v (Rep.rH (z.grow a).rJ c w)
  ·rw[ax w]at h;exact h.elim
 |_=>rw[q]at h;exact h.elim
def ac0(h:DT X E e f):ZT X E e (qz f):=by
 obtain⟨t,p,r⟩:=h;refine⟨t,p,λ{_ al lo _ _ ρ S _} z h=>r z.LC ?_⟩;unfold qz at h;cases q:f (vw S ρ)with
 |ok d=>rw[q]at h;exact λc a=>h al lo c (z.grow a) (.of a) .refl
 |_=>rw[q]at h;exact h.elim
def qt(n:Nat)(d:D):jm Z->jm Z
 |some (.loc m)=>if m=n then i9 d else i8 m
 |o=>o
def mR(n:Nat):Z->jk
 |.loc m=>decide (m=n)
 |_=>false
def kI(n:Nat):Cell->jk
 |.li zs=>zs.any (mR n)
 |.ob _ fs=>fs.any λp=>mR n p.2
 |.dk a=>a.any λp=>mR n p.2
 |.dt a=>a.any λp=>mR n p.2
 |.ft a=>a.any λp=>mR n p.2
 |.no=>false
 |.mk=>false
noncomputable def u1(b i:Nat)(ρ:jP)(S:jt):jm (jP×jt):=match ρ[i]? with
 |some (some (.loc n))=>(match S[n]? with
  |some (.li a)=>(match lY a with
   |some c=>if b<=n/\(S.any<|kI n)=false then some (ρ.map<|qt n<|.lst c,S.set n .no)else none
   |none=>none)
  |_=>none)
 |some _=>some (ρ,S)
 |none=>none
variable{l8:jP}{S':jt}
def ko.out{n}(x:Xt al H kH H)(y:∀m a,m≠n->lo m=some a->mS m=some a)(r:ko K al lo H v z)(h:mR n z=false):ko K kH mS H v z:=by
 cases z with
 |d d=>exact Rep.mv x r
 |loc m=>obtain⟨a,f,c⟩:=r;exact⟨a,y m a (by simpa [mR]using h) f,c⟩
 |tk g=>obtain⟨a,f,c,i⟩:=r;obtain⟨k,j⟩:=x a (.tup<|g.map kV) (λ_ h=>nomatch h) f c;exact⟨a,k,j,i⟩
def kq.out{n}(x:Xt al H kH H)(y:∀m a,m≠n->lo m=some a->mS m=some a)(r:kq K al lo H vs zs)(h:zs.any (mR n)=false):kq K kH mS H vs zs:=by
 induction r with
 |nil=>exact .nil
 |cons a _ c=>rw[fU,iL]at h;exact .cons (a.out x y h.1) (c h.2)
def kC.out{n}(x:Xt al H kH H)(y:∀m a,m≠n->lo m=some a->mS m=some a){d:aa<|κ×V}{c:aa<|κ×Z}(r:kC K al lo H d c)(h:(c.any λp=>mR n p.2)=false):kC K kH mS H d c:=by
 induction r with
 |nil=>exact .nil
 |cons a _ f=>rw[fU,iL]at h;exact .cons (a.out x y h.1) (f h.2)
def lV.out{i:Lo}{n}(x:Xt al H kH H)(y:∀m a,m≠n->lo m=some a->i m=some a){a:ja}(r:lV K al lo H a c)(h:kI n c=false):lV K kH i H a c:=by
 cases c with
 |li p=>obtain⟨j,f,d⟩:=r;exact⟨j,f,d.out x y h⟩
 |ob C fs=>obtain⟨l,g,f,d⟩:=r;exact⟨l,g,f,d.out x y h⟩
 |ft k=>obtain⟨g,o,f,d⟩:=r;exact⟨g,o,f,d.out x y h⟩
 |no=>exact r
 |mk=>exact r
 |_=>obtain⟨g,f,d⟩:=r;exact⟨g,f,d.out x y h⟩
def RZ.freeze(r:RZ K B al lo H σ ρ S)(h:u1 B.n i ρ S=some (l8,S')):∃s p,RZ K B s p H σ l8 S'/\Xt al H s H/\∀n,ρ[i]?=some (i8 n)->∀m a,m≠n->lo m=some a->p m=some a:=by
 unfold u1 at h;split at h
 ·rename_i n q;split at h
  ·rename_i zs M;split at h
   ·rename_i ds R;split at h
    ·rename_i w;cases h;obtain⟨v,e1,a,F,rfl⟩:=r.vr i _ q;have:=tF R;subst this;obtain⟨vs,g1,g2⟩:=r.cell F M;have P:n<S.length:=(aC.mp M).1;have x:Xt al H (λb=>al b\/b=a) H:=λb o _ g e=>⟨.inl g,e⟩;have hB:B.H a=none:=by
      rcases r.nw n a F with z|z;·exact absurd (r.bd n a z) (by simp_all)
      ·exact z.1
     refine⟨λb=>al b\/b=a,λm=>if m=n then none else lo m,?_,x,λn' e m b f g=>?_⟩;rotate_left;·rw[q]at e;cases e;dsimp only;rw[ax f];exact g
     have y:∀m b,m≠n->lo m=some b->(λm=>if m=n then none else lo m) m=some b:=λm b f h=>by dsimp only;rw[ax f];exact h
     have back:∀m b,(if m=n then none else lo m)=some b->m≠n/\lo m=some b:=λm b h=>by
      by_cases z:m=n;·rw[au z]at h;cases h
      ·rw[ax z]at h;exact⟨z,h⟩
     have cl:∀c∈S,kI n c=false:=λc G=>by have:=b9.mp w.2 c G;simpa using this
     refine {fr:=r.fr,hf:=r.hf,tt:=r.tt,fresh:=λb g=>.inl<|r.fresh b g,st:=⟨λm b f=>?_,λm c f G J=>?_,λm b f g=>?_,λm N b h1 h2=>?_,λm b u g hu=>.inl<|r.st.tl ?_ b u g hu⟩,lx:=λm b f=>?_,nw:=λm b f=>r.nw m b (back m b f).2,bd:=r.bd,sz:=by rw[aT];exact r.sz,xt:=r.xt.trans x,sb:=λb g=>?_,len:=by rw[ao];exact r.len,vr:=λj z O=>?_}
     ·obtain⟨I,z2⟩:=back m b f;obtain⟨c,D,l⟩:=r.st.at' m b z2;exact⟨c,by rw[av (bV I)];exact D,l.out x y (cl c (bp D))⟩
     ·by_cases z:n=m
      ·subst z;rw[aF P]at f;cases f;exact absurd rfl G
      ·rw[av z]at f;obtain⟨b,k⟩:=r.st.has m c f G J;exact⟨b,by show(if m=n then none else lo m)=some b;rw[ax<|bV z];exact k⟩
     ·obtain⟨I,z2⟩:=back m b f;rcases g with g|rfl;·exact r.st.na m b z2 g
      ·exact I (r.st.inj m n _ z2 F)
     ·exact r.st.inj m N b (back m b h1).2 (back N b h2).2
     ·by_cases z:n=0
      ·subst z;rw[aF P]at m;cases m
      ·rw[av z]at m;exact m
     ·have:=r.bd m b f;show(if m=n then none else lo m)=some b;rw[ax<|by lia];exact r.lx m b f
     ·rcases g with g|rfl;·exact r.sb b g
      ·exact .inr hB
     ·rw[aH]at O;obtain⟨o,D,l⟩:=aB.mp O;cases o with
      |none=>cases l
      |some L=>
       obtain⟨u,T,A⟩:=r.vr j L D;refine⟨u,T,?_⟩;cases L with
       |d x0=>cases l;exact Rep.mv x A
       |tk U=>cases l;obtain⟨Q,j1,Y,V⟩:=A;obtain⟨i1,i2⟩:=x Q (.tup<|U.map kV) (λ_ h=>nomatch h) j1 Y;exact⟨Q,i1,i2,V⟩
       |loc m=>
        have l:(if m=n then some (Z.d<|.lst ds)else some (Z.loc m))=some z:=l;by_cases t:m=n
        ·rw[au t]at l;cases l;obtain⟨b,C,rfl⟩:=A;rw[t,F]at C;cases C;exact .lst (.inl ⟨.inr rfl,.inl g1⟩) (jv.mv x g2.toD)
        ·rw[ax t]at l;cases l;obtain⟨b,C,rfl⟩:=A;exact⟨b,by dsimp only;rw[ax t];exact C,rfl⟩
    ·cases h
   ·cases h
  ·cases h
 ·cases h;exact⟨al,lo,r,.refl,λ_ _ _ _ _ h=>h⟩
 ·cases h
variable{sts:aa Stmt}{st:Stmt}{g:jJ}
def sT(b i:Nat)(g:jJ):jJ:=λρ S=>match u1 b i ρ S with
 |some (l8,S')=>g l8 S'
 |none=>.bad
def acO(i)(h:ZS X E b st g):ZS X E b st (sT b i g):=by
 obtain⟨t,p,r⟩:=h;refine⟨t,p,λ{B _ _ _ _ _ _ _} a s h=>?_⟩;unfold sT at h;split at h
 ·rename_i l8 S' q;rw[<-a]at q;obtain⟨f,d,c,x,_⟩:=s.freeze q;exact r a c (kF.ext h x)
 ·exact h.elim
end P2
namespace L2
open PySem PySem.Spec PyProof.Rows
section
variable{c:Type}[DecidableEq c]
def lT(a:aa<|c×V)(k:c):jm V:=(a.find? λd=>decide<|d.1=k).map (·.2)
def putK(a:aa<|c×V)(k:c)(v:V):aa (c×V):=
 if(a.any λd=>decide<|d.1=k)=true then a.map (λd=>if d.1=k then(d.1,v)else d)else a++[(k,v)]
def EX{p:c×V}{k}(e:p.1=k):lT (p::r) k=some p.2:=by simp[lT,cW,e]
def EW{p:c×V}{k}(e:¬p.1=k):lT (p::r) k=lT r k:=by simp[lT,cW,e]
theorem Mq(k):∀a:aa (c×V),(a.any λd=>decide<|d.1=k)=(lT a k).isSome
 |[]=>rfl
 |p::r=>by
  rw[fU];by_cases e:p.1=k;·simp only[EX e,aR e,Bool.true_or,Option.isSome_some]
  ·rw[EW e,aJ e,Bool.false_or];exact Mq k r
def Dx(kvs)(k:c)(v):(putK kvs k v).length<=kvs.length+1:=by
 unfold putK
 grind
def mY.SA{o u}(r:mY o u):o.isSome=u.isSome:=by
 cases o with
 |none=>cases u with
  |none=>rfl
  |some _=>exact(show False from r).elim
 |some _=>cases u with
  |none=>exact(show False from r).elim
  |some _=>rfl
def mY.getD{o u d}(r:mY o u)(a:RelV d d'):RelV (o.getD d) (u.getD d'):=by
 cases o with
 |none=>cases u with
  |none=>exact a
  |some _=>exact(show False from r).elim
 |some _=>cases u with
  |none=>exact(show False from r).elim
  |some _=>exact r
def KV.val{a}{i:aa<|c×je}(r:KV a i)(k):mY (lT a k) (valueAt i k):=by
 unfold KV at r;induction r with
 |nil=>exact True.intro
 |@cons p q n d h t l=>
  obtain⟨j,m⟩:=h;by_cases e:p.1=k
  ·have f:q.1=k:=j.symm.trans e;have b:valueAt (q::d) k=some q.2:=by simp[valueAt,cW,f]
   rw[EX e,b];exact m
  ·have f:¬q.1=k:=λz=>e (j.trans z);have b:valueAt (q::d) k=valueAt d k:=by simp[valueAt,cW,f]
   rw[EW e,b];exact l
def KV.any{a}{f:aa<|c×je}(r:KV a f)(k):(a.any λd=>decide<|d.1=k)=f.any λd=>decide (d.1=k):=by
 unfold KV at r;induction r with
 |nil=>rfl
 |cons h t i=>simp_all
def KV.Er(r:KV kvs vs)(k:c){u}(f:RelV y u):
    KV (kvs.map λa=>if a.1=k then(a.1,y)else a) (vs.map λa=>if a.1=k then(a.1,u)else a):=by
 unfold KV at r⊢;induction r with
 |nil=>exact .nil
 |@cons p q j i h t d=>
  refine .cons ?_ d
  lia
def KV.put{a}{d:aa<|c×je}(r:KV a d)(k){y}{u}(f:RelV y u):KV (putK a k y) (stored d k u):=by
 unfold putK stored;rw[r.any k];by_cases e:(d.any λh=>decide<|h.1=k)=true;·rw[au e,au e];exact r.Er k f
 ·rw[ax e,ax e];exact Paired.snoc r ⟨rfl,f⟩
def KV.length(r:KV kvs vs):kvs.length=vs.length:=Paired.length r
end
def pG{w k u}(r:RelV (kV k) u):(kg P w).is k u=true:=by
 cases k with
 |inl i=>obtain⟨t,e⟩:=(show∃t,u=Value.int i t from r);subst e;exact UT P w i t
 |inr x=>obtain⟨t,e⟩:=(show∃t,u=Value.str x t from r);subst e;exact UU P w x t
abbrev _root_.oz:=aa Key
theorem Dj{w}:∀{a:oz} {c},Vals (a.map kV) c->ItemsAre (kg P w) a c
 |[],_,r=>by rw[dr]at r;cases r;exact .nil
 |k::a,_,r=>by
  rw[aW]at r;cases r with
  |cons h t=>exact .cons (pG h) (Dj t)
abbrev KT(H:Hp):aa (aa Key×V)->aa (aa Key×ja×je)->Prop:=Paired λp q=>p.1=q.1/\H q.2.1=some (.tup<|p.1.map kV)/\RelV p.2 q.2.2
def KT.val(r:KT H kvs xs)(k):mY (lT kvs k) ((atKey xs k).map (·.2)):=by
 induction r with
 |nil=>exact True.intro
 |@cons p q j a h t f=>
  obtain⟨d,_,i⟩:=h;by_cases e:p.1=k
  ·have c:q.1=k:=d.symm.trans e;have b:atKey (q::a) k=some q.2:=by simp[atKey,cW,c]
   rw[EX e,b];exact i
  ·have c:¬q.1=k:=λz=>e (d.trans z);have b:atKey (q::a) k=atKey a k:=by simp[atKey,cW,c]
   rw[EW e,b];exact f
def KT.Er(r:KT H kvs xs)(k){u}(d:RelV y u):
    KT H (kvs.map λa=>if a.1=k then(a.1,y)else a) (xs.map<|putAt k u):=by
 induction r with
 |nil=>exact .nil
 |@cons p q i f h t c=>
  refine .cons ?_ c;obtain⟨m,l,j⟩:=h;unfold putAt
  lia
def KT.put(r:KT H kvs xs)(k){u}(d:H b=some (.tup<|k.map kV))(a:RelV y u):
    KT H (putK kvs k y) (storedH xs k b u):=by
 have e:(kvs.any λc=>decide<|c.1=k)=(atKey xs k).isSome:=by rw[Mq,(r.val k).SA,Option.isSome_map]
 unfold putK storedH;rw[e];by_cases q:(atKey xs k).isSome=true;·rw[au q,au q];exact r.Er k a
 ·rw[ax q,ax q];exact Paired.snoc r ⟨rfl,d,a⟩
def KT.keeps(r:KT H kvs xs)(c:∀b a,H b=some (.tup a)->H' b=some (.tup a)):KT H' kvs xs:=
 Paired.DJ r λ_ _ z=>⟨z.1,c _ _ z.2.1,z.2.2⟩
section
variable{P:jT}{w:jK}{H:Hp}{h:jw}{a:ja}
def Lu{u}(ok:kU P w H h)(e:Rd H a u):kQ P w H h a u:=e.ok ok
def wx(ok:kU P w H h)(e:Rd H a<|.dK kvs):kvs.length<=sizeLine/\(a==sysModules)=false/\∃c,KV kvs c/\h.DictOf (kg P w) a c:=
 show kQ P w H h a (.dK kvs)from Lu ok e
def Ho(ok:kU P w H h)(e:H a=some (.dK kvs)):kvs.length<=sizeLine/\(a==sysModules)=false/\∃c,KV kvs c/\h.DictOf (kg P w) a c:=wx ok (.inl e)
def wL(ok:kU P w H h)(e:H a=some (.tup (ks.map kV))):(tupleKind (kg P w)).is h ks a:=by obtain⟨_,c,r,o,i,f,n,d⟩:=(show kQ P w H h a (.tup<|ks.map kV)from ok a _ e);exact⟨o,c.toArray,n,i,f,d,by simpa using Dj r⟩
abbrev _root_.tj:=aa (aa Key×ja×je)
def uW(ok:kU P w H h)(e:Rd H a<|.dT kvs):kvs.length<=sizeLine/\(a==sysModules)=false/\
    ∃d,KT H kvs d/\h.DictOfH (tupleKind<|kg P w) a d:=by
 obtain⟨z,y,d,r,o,v,A,u,s,n,k,j⟩:=(show kQ P w H h a (.dT kvs)from Lu ok e);refine⟨z,y,d,r,o,v,A,u,s,n,k,λx c=>?_,j⟩;have all:∀{l:aa<|aa Key×V} {m:tj},KT H l m->∀x∈m,(tupleKind<|kg P w).is h x.1 x.2.1:=by
  intro l m q;induction q with
  |nil=>simp
  |@cons p q D C f t i=>
   intro x c;rcases az.mp c with e|c
   ·subst e;exact wL ok (by rw[<-f.1];exact f.2.1)
   ·exact i x c
 exact all r x c
def BO(ok:kU P w H h)(e:H a=some (.dT kvs)):kvs.length<=sizeLine/\(a==sysModules)=false/\
    ∃c,KT H kvs c/\h.DictOfH (tupleKind<|kg P w) a c:=uW ok (.inl e)
end
def qX(H:Hp)(a:ja)(y:V)(r:jm V):Prop:=
 (∃c k,Rd H a (.dK c)/\y=kV k/\r=lT c k)\/∃c k b,Rd H a (.dT c)/\y=.ref b/\H b=some (.tup<|k.map kV)/\r=lT c k
def xU(H:Hp)(a:ja)(y v:V)(H':Hp):Prop:=
 (∃c k,H a=some (.dK c)/\y=kV k/\c.length<sizeLine/\H'=upd H a (.dK<|putK c k v))\/
 ∃c k b,H a=some (.dT c)/\y=.ref b/\H b=some (.tup<|k.map kV)/\c.length<sizeLine/\H'=upd H a (.dT<|putK c k v)
def qX.k{H:Hp}{k}(e:H a=some (.dK kvs)):qX H a (kV k) (lT kvs k):=.inl ⟨kvs,k,.inl e,rfl,rfl⟩
def qX.t{H}{k:oz}(e:H a=some (.dT kvs))(c:H b=some (.tup<|k.map kV)):qX H a (.ref b) (lT kvs k):=.inr ⟨kvs,k,b,.inl e,rfl,c,rfl⟩
def xU.t{H}{k:oz}(e:H a=some (.dT kvs))(d:H b=some (.tup<|k.map kV))(c:kvs.length<sizeLine):
    xU H a (.ref b) v (upd H a<|.dT<|putK kvs k v):=.inr ⟨kvs,k,b,e,rfl,d,c,rfl⟩
section
variable{X:Cx}{i:kX}{j:St}{H:Hp}{s:jr}{a:ja}{y v:V}{u r:je}{o:jm V}{A:kh}{E:ki}
def Inv.big(I:Inv X i j H s):sysModules<s.heap.objs.size:=by have h:mainGlobals<s.heap.objs.size:=(I.mod.glob.keeps I.bk).lt;exact fq (by decide) h
def Oi(F:A.units+1<cLine)(I:Inv X i j H s)(g:qX H a y<|some v)(x:RelV y u)(h:∀f w,Inv X i j H w->RelV v f->Q f w):
    wpAny (model X.prog X.w) A (getItem (.ref a) u) Q E s:=by
 rcases g with⟨m,k,e,t,l⟩|⟨m,k,b,e,t,L,l⟩
 ·subst t;obtain⟨z,J,D,d,dd⟩:=wx I.hok e;obtain⟨f,n,c⟩:=mY.some_of (v:=v) (o:=valueAt D k) (by rw[l];exact d.val k);exact wpAny_getItem_of (pG x) dd.mapOf n (h f _ (I.tok _) c)
 ·subst t;cases(show u=Value.ref b from x);obtain⟨z,J,C,d,dd⟩:=uW I.hok e;obtain⟨f,n,c⟩:=mY.some_of (v:=v) (o:=(atKey C k).map (·.2)) (by rw[l];exact d.val k);obtain⟨p,G,q⟩:=aB.mp n;refine wpAny_getItem_heap (dY F) (wL I.hok L) dd G ?_;rw[q];exact h f _ (I.tok _) c
def BI{c:Nat}(I:Inv X i j H s)(d:vQ<|H a)(f:Heap.SameBut a s.heap h')(h:∃q,h'.get? a=some q)(new:kQ X.prog X.w (upd H a ob) h' a ob):
    Inv X i j (upd H a ob) {s with heap:=h',toks:=c}:=
 I.write (x:=a) (e:=a) d (.inl rfl) (λb q k z=>(f.2 b k).trans z) h new
def Hn{w}{c}(z:c.length<=sizeLine)(f:(a==sysModules)=false)(d:KV c vs)(dd:h'.DictOf (kg P w) a vs):
    kQ P w H' h' a (.dK c):=⟨z,f,vs,d,dd⟩
def Oj{H':Hp}(R:A.units+1<cLine)(I:Inv X i j H s)(g:xU H a y v H')(G:RelV y u)(J:RelV v r)(h:∀F,Inv X i j H' F->Q () F):
    wpAny (model X.prog X.w) A (setItem (.ref a) u r) Q E s:=by
 rcases g with⟨f,k,e,C,l,D⟩|⟨f,k,b,e,C,N,l,D⟩
 ·subst C D;obtain⟨z,x,P,d,dd⟩:=Ho I.hok e;have p:P.length<=sizeLine:=by rw[<-d.length];exact z
  have w:(putK f k v).length<=sizeLine:=by have:=Dx f k v;walk_at "l"
  refine wpAny_setItem_pairs (hsz:=p) (pG G) dd λL m t=>h _ ?_;have T:∃q,L.get? a=some q:=let⟨q,_,_,n,_⟩:=m;⟨q,n⟩;exact BI I (by rw[e];exact True.intro) t T (Hn w x (d.put k J) m)
 ·subst C D;cases(show u=Value.ref b from G);obtain⟨z,x,O,d,dd⟩:=BO I.hok e;have p:O.length<=sizeLine:=by rw[<-Paired.length d];exact z
  have w:(putK f k v).length<=sizeLine:=by have:=Dx f k v;walk_at "l"
  refine wpAny_setItem_heap (hsz:=p) (dY R) (wL I.hok N) dd λL m t=>h _ ?_;obtain⟨q,es,ep,n,h2,Z,Y,_,U⟩:=m;refine BI I (by rw[e];exact True.intro) t ⟨q,n⟩ ⟨w,x,_,(d.put k N J).keeps λc ys M=>?_,q,es,ep,n,h2,Z,Y,U⟩;rw[jL<|JY M e<|λz=>nomatch z];exact M
end
def uF(i:jB):Prop:=∀a c,subscripted i false a c=operate [a,c] (getItem a c)
def L7{w}{A}{E}{s}{a}{pos}{n}
 (q:typeLookup (.type T) "__getitem__"=pure (some<|.builtin n))(p:uF slice)
 (h:wpAny (model prog w) A (eval a env) (λo j=>wpAny (model prog w) A (eval slice env) (λi c=>c.TypeIs o T/\wpAny (model prog w) A (getItem o i) Q E c) E j) E s):
   wpAny (model prog w) A (eval (.Subscript a slice pos) env) Q E s:=by
  refine Subscript_ (bC h (λo j m=>bC m (λi c d=>?_) λ_ _ x=>x) λ_ _ x=>x);obtain⟨hT,d⟩:=d;unfold subscriptTail;refine ae ?_;refine ae (ir hT q ?_);have k:wpAny (model prog w) A (subscripted slice false o i) (λr f=>wpAny (model prog w) A (letTemporaryGo a o r>>=λ_=>pure r) Q E f) E c:=by rw[p o i];exact wpAny_operating (bC d (λr f l=>ae<|wpAny_letTemporaryGo<|af l) λ_ _ x=>x)
  first
   |exact af (ae k)
   |exact ae (af<|ae k)
   |exact ae k
def OO{s o}(I:Inv X pins σ H s)(g:qX H a y o):s.TypeIs (.ref a) "dict":=by
 rcases g with⟨c,k,e,_,_⟩|⟨c,k,b,e,_,_,_⟩
 ·obtain⟨_,_,f,_,dd⟩:=wx I.hok e;exact dd.typeIs
 ·obtain⟨_,_,d,_,dd⟩:=uW I.hok e;exact dd.typeIs
def aaT(d ty:TE):TE:=λσ H Q=>d σ H λx f=>ty σ f λy c=>∃a v,x=.ref a/\qX c a y (some v)/\Q v c
def ZO(f ty d:TE):TS:=λD σ H=>d σ H λv j=>f σ j λx i=>ty σ i λy h=>∃a c,x=.ref a/\xU h a y v c/\D.nx σ c
section
variable{X:Cx}{o i e b:jB}{c j z:Pos}{l ty m:TE}
def WW(A:X.A.units+1<cLine)(D:PE X o l)(F:PE X i ty)(C:uF i):PE X (.Subscript o i c) (aaT l ty):=by intro d s σ H Q I h;refine L7 PySem.F.slot_dict_getitem.lookup C (jC (D d s σ H _ I h) λu p f=>?_);obtain⟨x,M,J,r,w⟩:=f;refine jC (F d p σ M _ J w) λR P f=>?_;obtain⟨y,L,n,q,a,v,ex,g,t⟩:=f;subst ex;obtain rfl:u=Value.ref a:=r;exact⟨OO n g,Oi A n g q λN O G k=>⟨v,L,G,k,t⟩⟩
def XI(F:X.A.units+1<cLine)(J:PE X o l)(L:PE X i ty)(hv:PE X b m)(G:swapsWith b (some<|.Subscript o i j) c.line X.env=pure false):
    PS X (.Assign [.Subscript o i j] b c) (ZO l ty m):=by
 intro d s σ H D I h;refine wpAny_Assign_Subscript (jC (hv d s σ H _ I h) λr n f=>?_) G;obtain⟨v,T,P,t,C⟩:=f;refine jC (J d n σ T _ P C) λu k f=>?_;obtain⟨x,R,O,q,A⟩:=f;refine jC (L d k σ R _ O A) λY V f=>?_;obtain⟨y,Z,N,p,a,Q,ex,g,w⟩:=f;subst ex;obtain rfl:u=Value.ref a:=q;exact Oj F N g p t λU M=>⟨σ,Q,M,w⟩
def OQ{w}(h:jw)(a:sysModules<h.objs.size):kQ P w H (h.push {cls:=.type "dict",data:=.dict #[]}) h.objs.size (.dK []):=
 ⟨bQ _,dJ.mpr<|bV<|aU a,[],.nil,Heap.DictOf.new h⟩
def Pa{w}(h:jw)(a:sysModules<h.objs.size):kQ P w H (h.push {cls:=.type "dict",data:=.dict #[]}) h.objs.size (.dT []):=
 ⟨bQ _,dJ.mpr<|bV<|aU a,[],.nil,_,#[],0,aD _ rfl,⟨rfl,rfl,rfl⟩,rfl,rfl,List.nodup_nil⟩
def aaV:TE:=λ_ H Q=>∀p,H p=none->Q (.ref p) (upd H p<|.dK [])
def aaW:TE:=λ_ H Q=>∀p,H p=none->Q (.ref p) (upd H p<|.dT [])
def WY:PE X (.Dict [] [] c) aaV:=λd s σ H Q I h=>wpAny_Dict_empty ⟨.ref s.heap.objs.size,_,I.laid (a:=s.heap.objs.size) (o:=.dK []) (t':=s.toks) (λ_ _ q=>ah _ q) (ai _)<|OQ s.heap I.big,rfl,h _<|I.hok.fresh<|ai _⟩
def WZ:PE X (.Dict [] [] c) aaW:=λd s σ H Q I h=>wpAny_Dict_empty ⟨.ref s.heap.objs.size,_,I.laid (a:=s.heap.objs.size) (o:=.dT []) (t':=s.toks) (λ_ _ q=>ah _ q) (ai _)<|Pa s.heap I.big,rfl,h _<|I.hok.fresh<|ai _⟩
end
structure M1(X:Cx)(o:jB)(m:jd)(apos:Pos)(e:jB)(cpos:Pos):Prop where
 base:attributeBase o m X.env (eval o X.env)=eval o X.env
 few:((backTo cpos (starEach [e] X.env)).all (λx=>!x.1)&&(backToKw cpos (keywordEach [] X.env)).all (λx=>x.1.isSome)
  &&decide (([e]:aa jB).length+([]:aa Keyword).length+(if([]:aa Keyword).isEmpty then 0 else 1)<30))=true
 line:(apos.endLine==cpos.line)=true
 trees:backTo cpos (starEach [e] X.env)=[(false,eval e X.env)]
structure M2(X:Cx)(o:jB)(m:jd)(apos:Pos)(e f:jB)(cpos:Pos):Prop where
 base:attributeBase o m X.env (eval o X.env)=eval o X.env
 few:((backTo cpos (starEach [e,f] X.env)).all (λx=>!x.1)&&(backToKw cpos (keywordEach [] X.env)).all (λx=>x.1.isSome)
  &&decide (([e,f]:aa jB).length+([]:aa Keyword).length+(if([]:aa Keyword).isEmpty then 0 else 1)<30))=true
 line:(apos.endLine==cpos.line)=true
 trees:backTo cpos (starEach [e,f] X.env)=[(false,eval e X.env),(false,eval f X.env)]
def AA(H:Hp)(a:ja):Prop:=(∃c,Rd H a<|.dK c)\/∃c,Rd H a (.dT c)
def Df{s}(I:Inv X pins σ H s)(d:AA H a):
    s.TypeIs (.ref a) "dict"/\(∀b,Value.ref a=.ref b->∃ob,s.heap.get? b=some ob/\ob.dict=none)/\(a==sysModules)=false:=by
 rcases d with⟨c,e⟩|⟨c,e⟩
 ·obtain⟨_,f,k,_,dd⟩:=wx I.hok e;refine⟨dd.typeIs,λb q=>?_,f⟩;cases q;obtain⟨ob,_,_,i,h,_⟩:=dd;exact⟨ob,i,h.2.1⟩
 ·obtain⟨_,f,j,_,dd⟩:=uW I.hok e;refine⟨dd.typeIs,λb q=>?_,f⟩;cases q;obtain⟨ob,_,_,i,h,_⟩:=dd;exact⟨ob,i,h.2.1⟩
variable{X:Cx}{B:kX}{F:St}{H:Hp}{s:jr}{a:ja}{y d:V}{u r:je}{o:jm V}{A:kh}{E:ki}
def Oh(t:A.units+1<cLine)(I:Inv X B F H s)(g:qX H a y o)(p:RelV y u)(h:∀m n,Inv X B F H n->RelV (o.getD .non) m->Q m n):
    wpAny (model X.prog X.w) A (call (.builtin "dict.get") [.ref a,u]) Q E s:=by
 rcases g with⟨f,k,e,j,l⟩|⟨f,k,b,e,j,v,l⟩
 ·subst j;obtain⟨z,i,w,c,dd⟩:=wx I.hok e;refine ia fL dd.typeIs ib (gU _ _) (meets_dict_get (kg X.prog X.w) a (pG p) i) ⟨_,dd.mapOf,h _ _ (I.tok _) ?_⟩;rw[l];exact(c.val k).getD rfl
 ·subst j;cases(show u=Value.ref b from p);obtain⟨z,i,q,c,dd⟩:=uW I.hok e;refine ia fL dd.typeIs ib (gU _ _) (meetsH_dict_get (tupleKind<|kg X.prog X.w) a b i) ⟨dY t,k,q,wL I.hok v,dd,h _ _ (I.tok _) ?_⟩;rw[l];exact(c.val k).getD rfl
def aaU(h ty:TE):TE:=λF H Q=>h F H λx f=>∃a,x=.ref a/\AA f a/\ty F f λy c=>∃o,qX c a y o/\Q (o.getD .non) c
variable{o e f:jB}{J C:Pos}{K ty L:TE}
def WX(w:X.A.units+1<cLine)(z:PE X o K)(D:PE X e ty)(m:M1 X o "get" J e C):PE X (.Call (.Attribute o "get" J) [e] [] C) (aaU K ty):=by intro B s F H Q I h;refine wpAny_Call_method m.base m.few m.line eZ fL PySem.F.type_dict_get (jC (z B s F H _ I h) λu n c=>?_);obtain⟨x,O,j,q,a,ex,d,v⟩:=c;subst ex;obtain rfl:u=Value.ref a:=q;obtain⟨l,k,_⟩:=Df j d;refine⟨l,k,?_⟩;rw[m.trees];refine dW rfl (fX<|dU<|jC (D B n F O _ j v) λY T c=>?_);obtain⟨y,N,M,p,U,g,t⟩:=c;refine fj ?_;exact Oh w M g p λP R G i=>⟨_,N,G,i,t⟩
end L2
namespace P2
open PySem L2
section
variable{i:Type}[DecidableEq i]{K:jx}{j:kM}{lo:Lo}{H:Hp}
def valZ(a:aa<|i×Z)(k:i):jm Z:=(a.find? λc=>decide<|c.1=k).map (·.2)
noncomputable def kx(a:aa<|i×Z)(k:i)(v:Z):aa (i×Z):=
 if(a.any λc=>decide<|c.1=k)=true then a.map λc=>if c.1=k then(c.1,v)else c else a++[(k,v)]
def kC.val(r:kC K j lo H us zs){k:i}(h:valZ zs k=some z):∃v,lT us k=some v/\ko K j lo H v z:=by
 induction r with
 |nil=>cases h
 |@cons c v f l zs a _ d=>
  unfold valZ at h;unfold lT;rw[cW]at h⊢;by_cases e:c=k;·simp_all
  ·simp only[e,fw]at h⊢;exact d h
def kC.none(r:kC K j lo H us zs){k:i}(h:valZ zs k=Option.none):lT us k=Option.none:=by
 induction r with
 |nil=>rfl
 |@cons c v f l zs a _ d=>
  unfold valZ at h;unfold lT;rw[cW]at h⊢;by_cases e:c=k;·simp_all
  ·simp only[e,fw]at h⊢;exact d h
def kC.length(r:kC K j lo H us zs):us.length=zs.length:=by
 induction r with
 |nil=>rfl
 |cons _ _ a=>simp_all
def kC.any(r:kC K j lo H us zs)(k:i):(us.any λa=>decide<|a.1=k)=zs.any λa=>decide (a.1=k):=by
 induction r with
 |nil=>rfl
 |cons _ _ c=>simp_all
def kC.put(r:kC K j lo H us zs)(k:i){v:V}(q:ko K j lo H v z):kC K j lo H (putK us k v) (kx zs k z):=by
 unfold putK kx;rw[r.any k];split
 ·rename_i d;clear d;induction r with
  |nil=>exact .nil
  |@cons f m h l zs a _ c=>
   rw[aW,aW];by_cases e:f=k
   ·simp only[e,cQ];exact .cons q c
   ·simp only[e,bT];exact .cons a c
 ·rename_i d;clear d;induction r with
  |nil=>exact .cons q .nil
  |cons a _ c=>exact .cons a c
end
def og:D->jm Key
 |.int i=>some (.inl i)
 |.str x=>some (.inr x)
 |_=>none
def Dr{d k}(r:Rep K al H v d)(h:og d=some k):v=kV k:=by
 cases r with
 |int i=>cases h;rfl
 |str i=>cases h;rfl
 |_=>cases h
def xJ(fo:jE)(f:jQ):jE:=λρ S=>(fo ρ S).bind λz h=>(lJ (f<|kO ρ) h).bind λd c=>match z,og d with
 |.loc n,some k=>(match c[n]? with
  |some (.dk a)=>(match valZ a k with
   |some z=>.ok z c
   |none=>.bad)
  |_=>.bad)
 |_,_=>.bad
section
variable{X:Cx}{E:XK}{b:Nat}{o k e:jB}{fo f:jE}{z:jQ}{y:Pos}
def J4:NT (.dK l):=λ_ h=>nomatch h
def DY:NT (.dT l):=λ_ h=>nomatch h
def acf(hu:X.A.units+64<cLine)(I:ZE X E o fo)(L:DE X E k z)(G:autoParam (uF k) aZ7):ZE X E (.Subscript o k y) (xJ fo z):=by
 obtain⟨to,D,x⟩:=I;obtain⟨tk,pk,A⟩:=L;refine⟨_,WW (by lia) D pk G,λs h=>x s<|jh.mono (jh.split h) λ{_ l i _ _} d Y V M v r=>A d.rs<|Aft.mono (jh.toAft d<|jh.split M) λ{_ T} p c u t=>?_⟩;have m:=d.grow p;split at c
 ·rename_i n k0 j;split at c
  ·rename_i F q;split at c
   ·rename_i U C;obtain⟨a,J,rfl⟩:=r;have P:=Dr t j;subst P;obtain⟨Z,O,N⟩:=m.cell J q;obtain⟨w,R,Q⟩:=N.val C;refine⟨a,w,rfl,?_,c l i T m .refl .refl w Q⟩;rw[<-R];exact .k O
   ·exact c.elim
  ·exact c.elim
 ·exact c.elim
variable{P:jT}{w:jK}{K:jx}{p:kG}{i:jw}{f:ja}{r:nu}{x:jd}{j:jS}
def PZ{k}:lM P w K p i k f r j (ly j.length K λ_=>.bad):=
 ⟨λd H Q E h=>h.1,λA a s H c l d Q E _ _ _ _ h=>by obtain⟨_,_,_,_,_,_,h⟩:=h;exact h.elim⟩
def P0{k}:lM P w K p i k f r j (kB j.length K λ_ _=>.bad):=
 ⟨λd H Q E h=>h.1,λA a s H c l d Q E _ _ _ _ h=>by obtain⟨_,_,_,_,_,_,_,_,_,h⟩:=h;exact h.elim⟩
noncomputable def sv(a:(jA)->jA):Nat->jA
 |0=>λ_=>.bad
 |m+1=>a (sv a m)
noncomputable def oG(a:(jD)->jD):Nat->jD
 |0=>λ_ _=>.bad
 |m+1=>a (oG a m)
theorem Lv{n}{F0:(jA)->jA}(hn:n=j.length)
 (a:∀{k} {c},lM P w K p i k f r j c->kj P w K p i k x j c)
 (step:∀d k,k0<=k->kj P w K p i k x j (ly n K d)->lM P w K p i (k+st) f r j (ly n K<|F0 d)):∀m:Nat,lM P w K p i (k0+m*st) f r j (ly n K<|sv F0 m)
  |0=>by subst hn;exact PZ
  |m+1=>by have:=step (sv F0 m) (k0+m*st) (cO _ _) (a<|Lv hn a step m);rw[Nat.succ_mul,<-Nat.add_assoc];exact this
theorem Eo{n}{F0:(jD)->jD}(hn:n=j.length)
 (a:∀{k} {c},lM P w K p i k f r j c->kj P w K p i k x j c)
 (step:∀d k,k0<=k->kj P w K p i k x j (kB n K d)->lM P w K p i (k+st) f r j (kB n K<|F0 d)):∀m:Nat,lM P w K p i (k0+m*st) f r j (kB n K<|oG F0 m)
  |0=>by subst hn;exact P0
  |m+1=>by have:=step (oG F0 m) (k0+m*st) (cO _ _) (a<|Eo hn a step m);rw[Nat.succ_mul,<-Nat.add_assoc];exact this
end
def ui(f:jd)(v:Z):aa (jd×Z)->aa (jd×Z)
 |[]=>[(f,v)]
 |(g,x)::r=>if g=f then(g,v)::r else(g,x)::ui f v r
section
variable{K:jx}{i:kM}{lo:Lo}{H:Hp}
def kC.look(r:kC K i lo H us zs){f:jd}(h:zs.lookup f=some z):∃v,us.lookup f=some v/\ko K i lo H v z:=by
 induction r with
 |nil=>cases h
 |@cons k v c d a q _ j=>
  rw[gX]at h⊢;cases e:f==k with
  |true=>simp_all
  |false=>simp_all
def kC.Vf(r:kC K i lo H us zs){f:jd}(h:zs.lookup f=Option.none):us.lookup f=Option.none:=by
 induction r with
 |nil=>rfl
 |@cons k v c d a q _ j=>
  rw[gX]at h⊢;cases e:f==k with
  |true=>simp_all
  |false=>lia
def kC.mu(r:kC K i lo H us zs)(f)(q:ko K i lo H v z):kC K i lo H (L2.mu f v us) (ui f z zs):=by
 induction r with
 |nil=>exact .cons q .nil
 |@cons k m j l a d c h=>
  unfold L2.mu ui;by_cases e:k=f;·rw[au e,au e];exact .cons q c
  ·rw[ax e,ax e];exact .cons d h
def Kb:NT (.ins C dx us):=λ_ h=>nomatch h
end
def qw(C:ja)(fo:jE)(f:jd):jE:=λρ S=>(fo ρ S).bind λz a=>match z with
 |.loc n=>(match a[n]? with
  |some (.ob c fs)=>if c=C then(match fs.lookup f with
   |some z=>.ok z a
   |none=>.bad)else .bad
  |_=>.bad)
 |_=>.bad
def xG(C:ja)(fo:jE)(f:jd)(d:jE):jJ:=λρ S=>toZ (d ρ S) λv h=>toZ (fo ρ h) λz a=>match z with
 |.loc n=>(match a[n]? with
  |some (.ob c fs)=>if c=C/\fs.length<1000 then .nx ρ (a.set n<|.ob c<|ui f v fs)else .bad
  |_=>.bad)
 |_=>.bad
def xO(C:ja)(m:jd)(F:jD)(f:j7)(fo:jE)(fs:n6):jE:=λρ S=>(fo ρ S).bind λz a=>match z with
 |.loc n=>(match a[n]? with
  |some (.ob i d)=>if i=C/\d.lookup m=none then(fs ρ a).bind λc h=>F (.loc n::(c++f.map .d)) h else .bad
  |_=>.bad)
 |_=>.bad
def xN(C:ja)(F:jD)(fs:n6):jE:=λρ S=>(fs ρ S).bind λf d=>match F (.loc d.length::f) (d++[.ob C []])with
 |.ok (.d .non) a=>.ok (.loc d.length) a
 |.ex c ns ds a=>.ex c ns ds a
 |_=>.bad
def pT(P:jT)(w:jK)(K:jx)(l:kG)(c:jw)(k:Nat)(C:ja)(m:jd)(d:jS)(n:j7)(j:Sp):Prop:=
 ∃f h i a,lM P w K l c k f h d j/\Binds K h d i/\Vals a i/\(∀al H,jv K al H a n)/\Meth K C m f
def pT.up{w k}(G:pT P w K mg base j C m ps dz sp)(h:j<=k):pT P w K mg base k C m ps dz sp:=
 let⟨f,c,d,a,fo,r⟩:=G;⟨f,c,d,a,fo.mono h,r⟩
def qE(P:jT)(w:jK)(K:jx)(i:kG)(a:jw)(k:Nat)(C:ja)(c:jS)(h:Sp):Prop:=
 ∃f d,lM P w K i a k f d c h/\Binds K d c []/\Mk K C f
def qE.up{w k}(G:qE P w K mg base j C ps sp)(h:j<=k):qE P w K mg base k C ps sp:=
 let⟨f,a,fo,r⟩:=G;⟨f,a,fo.mono h,r⟩
section
variable{X:Cx}{E:XK}{b:Nat}{o e l:jB}{A:lr}{i p I J M:Pos}{fo O:jE}{fs:n6}{f m x:jd}{C:ja}{k n:Nat}{N:jS}{L:j7}{F:jD}
def Au(c:pe X.K C)(Q:qH X.K C f)(R:ZE X E o fo)(V:autoParam (attributeBase o f X.env (eval o X.env)=eval o X.env) aZ0):ZE X E (.Attribute o f i) (qw C fo f):=by
 obtain⟨to,P,z⟩:=R;refine⟨_,W2 P V,λs h=>z s<|jh.mono (jh.split h) λ{_ r j H1 _} t x1 y1 d v y=>?_⟩;split at d
 ·rename_i n;split at d
  ·rename_i C' us q;split at d
   ·rename_i U;subst U;split at d
    ·rename_i z0 G;obtain⟨a,T,rfl⟩:=y;obtain⟨dx,u,g1,Y⟩:=t.cell T q;obtain⟨w,e1,e2⟩:=Y.look G;exact⟨a,_,dx,u,w,rfl,g1,c,Q,e1,d r j H1 t .refl .refl w e2⟩
    ·exact d.elim
   ·exact d.elim
  ·exact d.elim
 ·exact d.elim
def MO(c:pe X.K C)(na:qH X.K C f)(ho:ZE X E o fo)(hv:ZE X E l O)(hs:autoParam (swapsWith l (some<|.Attribute o f J) i.line X.env=pure false) aZ0):ZS X E b (.Assign [.Attribute o f J] l i) (xG C fo f O):=by
 obtain⟨to,po,ro⟩:=ho;obtain⟨tv,pv,rv⟩:=hv;refine⟨_,XJ po pv hs,λR s h=>rv s<|jh.mono (kF.nG h) λ{y _ _ _ _} s0 x0 y0 h0 t r0=>ro s0<|jh.mono (kF.nG h0) λ{z j G U _} u x1 y1 d v1 r1=>?_⟩;split at d
 ·rename_i n;split at d
  ·rename_i V us q;split at d
   ·rename_i Q;obtain⟨Q,hl⟩:=Q;subst Q;obtain⟨a,P,rfl⟩:=r1;obtain⟨T,r,g1,Y⟩:=u.cell P q;have v:ko X.K j G U t y:=r0.mv x1 y1;have x2:Xt j U j (upd U a (.ins V T (L2.mu f t r))):=λb o _ R eb=>⟨R,by rw[jL λz=>u.st.na n a P (by rw[<-z];exact R)];exact eb⟩;obtain⟨s4,x4⟩:=u.write P (o:=.ins V T (L2.mu f t r)) (c:=.ob V (ui f y us)) Kb (λq w=>by unfold md at w;cases w) ⟨_,_,kK,kC.mv x2 .refl (Y.mu f v)⟩ nofun;exact⟨a,_,T,r,rfl,g1,c,na,by rw[Y.length];exact hl,d _ _ _ _ x4 s4⟩
   ·exact d.elim
  ·exact d.elim
 ·exact d.elim
def Zw{lo}(r:kq K al lo H vs zs)(q:jv K al H ws ds):kq K al lo H (vs++ws) (zs++ds.map .d):=r.append (.ofD q)
def US{lo}(s:RZ X.K B al lo H σ ρ S)(G:kq X.K al lo H vs zs)(P:vs.length=n)
 (h:jh X.K B E al lo H σ ρ (F zs S) (λz u t H' _=>∀v,ko X.K u t H' v z->Q v H')):kB n X.K F vs H Q E:=by
  refine⟨P,s.tt,al,lo,zs,S,s.fresh,s.st,G,?_⟩;cases r:F zs S with
  |bad=>rw[r]at h;exact h.elim
  |ex c U V T=>rw[r]at h;exact λd a w R j y=>h d a w R (s.toEZ.trans j) y
  |ok z T=>rw[r]at h;exact λd a w v j q=>h d a w (s.after j) j.xt j.lx v q
def MK{pl}(G:pT X.prog X.w X.K X.mg X.base k C m N L<|kB n X.K F)(c:pe X.K C)(hr:kN k X.A)(hx:Passes (ky X.prog X.w) X E)(ho:ZE X E o fo)(ha:ZA X E (e::A) fs)(hn:(e::A).length+1+L.length=n)
 (y:autoParam (X.se e A) aZ0)(z:autoParam (X.bk i A) aZ0)
 (ht:autoParam (eval (.Call (.Attribute o m I) (e::A) [] i) X.env=(do
 let V<-eval o X.env
 standAt I.atName
 let(f,first)<-holding [V] (getMethod V m pl)
 callWith i f first (backTo i (starEach (e::A) X.env)) (backToKw i (keywordEach [] X.env)))) aZ0):
  ZE X E (.Call (.Attribute o m I) (e::A) [] i) (xO C m F L fo fs):=by
  obtain⟨to,po,ro⟩:=ho;obtain⟨ta,pa,ra,lb⟩:=ha;obtain⟨f,fd,ds,dvs,Q,bi,va,U,me⟩:=G;refine⟨_,W8 po c me Q hr bi va hx pa y z ht,λ{_ _ _ _ _ ρ _ _} s h=>ro s<|jh.mono (jh.split h) λ{_ _ _ _ S1} T x1 y1 d v rv=>?_⟩;split at d
  ·rename_i j;split at d
   ·rename_i C' us q;split at d
    ·rename_i P;obtain⟨P,hl⟩:=P;subst P;obtain⟨a,t,rfl⟩:=rv;obtain⟨dx,vs,g1,g2⟩:=T.cell t q;refine⟨a,dx,vs,rfl,g1,g2.Vf hl,ra T ?_⟩;cases w:fs ρ S1 with
     |bad=>rw[w]at d;exact d.elim
     |ex c ns ds S2=>rw[w]at d;exact d
     |ok zs S2=>
      rw[w]at d;have ll:=lb _ _ _ _ w;intro u wQ Y s2 x2 R ws r;refine US s2 (zs:=.loc j::(zs++L.map .d)) (.cons ⟨a,R _ _ t,rfl⟩<|Zw r<|U u Y) ?_ (jh.up d x2 R);have:=(U u Y).length;rw[aw,aq,r.length,this,ll,<-hn]
      lia
    ·exact d.elim
   ·exact d.elim
  ·exact d.elim
def UK{lo}{Q:VK}(s:RZ X.K B al lo H σ ρ S)(rv:kq X.K al lo H vs zs)(hl:vs.length+1=n)
 (h:jh X.K B E al lo H σ ρ (match F (.loc S.length::zs) (S++[.ob C []])with
 |.ok (.d .non) u=>RX.ok (Z.loc S.length) u
 |.ex c ns ds u=>.ex c ns ds u
 |_=>.bad) (λz R P H' _=>∀v,ko X.K R P H' v z->Q v H'))(hy:H y=none)(hd:H dx=none)(ne:dx≠y):kB n X.K F (.ref y::(vs++[])) (upd (upd H dx (.own y)) y (.ins C dx [])) (λv H2=>v=.non/\Q (.ref y) H2) E:=by
  have Y:=s.grow (mH (K:=X.K) (o:=.own y) hd);have t:(upd H dx<|.own y) y=none:=by rw[jL<|bV ne];exact hy
  have hc:lV X.K (λb=>al b/\b≠y) (k8 lo S.length y) (upd (upd H dx<|.own y) y<|.ins C dx []) y (.ob C []):=⟨dx,[],kK,.nil⟩;have r:=Y.new t Kb hc nofun;have V:Xt al H (λb=>al b/\b≠y) (upd (upd H dx<|.own y) y<|.ins C dx []):=(Xt.of<|mH (K:=X.K) (o:=.own y) hd).trans (qu t);have U:=oV Y.st y;have hn:k8 lo S.length y S.length=some y:=by unfold k8;rw[au rfl]
  refine⟨by rw[bz,aw];exact hl,r.tt,_,_,.loc S.length::zs,S++[.ob C []],r.fresh,r.st,.cons ⟨y,hn,rfl⟩<|by rw[bz];exact rv.mv V U,?_⟩;cases G:F (.loc S.length::zs) (S++[.ob C []])with
  |bad=>rw[G]at h;exact h.elim
  |ex c ns ds u=>rw[G]at h;exact λj a T dx q xr=>h j a T dx (r.toEZ.trans q) xr
  |ok z u=>
   rw[G]at h;cases z with
   |d d=>
    cases d with
    |non=>
     intro j a T v q w;have ev:v=.non:=by cases w;rfl
     exact⟨ev,h j a T (r.after q) (V.trans q.xt) (U.trans q.lx) _ ⟨y,q.lx _ _ hn,rfl⟩⟩
    |_=>exact h.elim
   |_=>exact h.elim
def acp(G:qE X.prog X.w X.K X.mg X.base k C N<|kB n X.K F)(V:kN (k+1) X.A)(hg:Gl X x)(hm:X.mg x=some (.ref C))(U:Passes (ky X.prog X.w) X E)(ha:ZA X E (e::A) fs)(Y:(e::A).length+1=n)
 (d:autoParam (mq x) aZ1)(he:autoParam (X.se e A) aZ0)(a:autoParam (X.bk i A) aZ0):
   ZE X E (.Call (.Name x p) (e::A) [] i) (xN C F fs):=by
  obtain⟨ta,z,w,R⟩:=ha;obtain⟨f,fd,j,bi,mk⟩:=G;refine⟨_,W7 mk j V hg hm bi .nil U z d he a,λ{_ _ _ _ _ ρ S _} s h=>w s ?_⟩;unfold xN at h;cases q:fs ρ S with
  |bad=>rw[q]at h;exact h.elim
  |ex c ns ds S1=>rw[q]at h;exact h
  |ok zs S1=>rw[q]at h;intro qJ P H1 v u t vs r y dx T hd ne;have Q:=R _ _ _ _ q;exact UK v r (by rw[r.length,Q];exact Y) (jh.up h u t) T hd ne
end
abbrev _root_.yk:=kr (jm je)
structure rV(K:jx)(x qual:jd)(st:Stmt)(dV:je)(f:ja)(fd:nu):Prop where
 ex:∃(oc:je) (od:mP) (kV doc pm:je) (an:mP) (cdv ct:je) (osl:yk),
  fd=W.fnOf x qual (oF st) (ml st) (kf st) dV kV doc pm an cdv ct/\K.lookup f=some ⟨oc,od,.func fd,osl⟩/\W.codeIn K cdv qual=true
 kp:W.keepIn K (.ref f)=true
section
variable{P:jT}{w:jK}{K:jx}{j:kG}{i:jw}
def Qb{x}{st}{f}{dV kV}(l:K.lookup f=some ⟨oc,od,.func<|W.fnOf x qual (oF st) (ml st) (kf st) dV kV doc pm an cdv ct,osl⟩)
 (c:W.codeIn K cdv qual=true)(k:W.keepIn K (.ref f)=true):rV K x qual st dV f (W.fnOf x qual (oF st) (ml st) (kf st) dV kV doc pm an cdv ct):=⟨⟨oc,od,kV,doc,pm,an,cdv,ct,osl,rfl,l,c⟩,k⟩
def P5{x}{st}{dV}{f}{o}{k}{g:Nat->jJ}(F:rV K x qual st dV f fd)(S:sY N o<|kf st)
 (l:∀(b:Nat) (d:je) (A:kh) (a:my) (s:jr) (H:Hp) (E:XK),kN k (kR (ky P w) P w K j i N qual (kf st) f d A a s H E).A->oA (kR (ky P w) P w K j i N qual (kf st) f d A a s H E) E b (ml st) (g b)):
   lM P w K j i (k+1) f fd o (kB o.length K λn S=>ju<|g S.length (jY N.length n) S):=by
  obtain⟨Y,V,kV,T,U,an,d,ct,M,rfl,O,v⟩:=F.ex;refine HU O v S (λG H Q E h=>h.1) λA a s H G Q E R h=>?_;obtain⟨hl,I,al,lo,n,m,fr,st,L,h⟩:=h;obtain⟨t,p,r⟩:=l m.length d A a s H E R;dsimp only at h;refine⟨t,p,r (B:=⟨H,al,lo,m.length⟩) rfl (LI I fr st L) ?_⟩;cases q:g m.length (jY N.length n) m with
  |nx ρ C=>rw[q]at h;exact λy u H' D _ J=>h y u H' .non J.toEZ .non
  |rt z C=>rw[q]at h;exact h
  |ex c Z es C=>rw[q]at h;exact h
  |_=>rw[q]at h;exact h.elim
def rV.binds{x}{st}{dV}{f}{k}(F:rV K x qual st dV f fd)
 (h:∀(kV a l:je) (m:mP) (c ct:je) (d:kL),d.length=k.length->bindArgs (W.fnOf x qual (oF st) (ml st) (kf st) dV kV a l m c ct) ⟨d,[]⟩=pure (k.zip d)):Binds K fd k []:=by obtain⟨q,p,kV,a,l,m,c,ct,n,rfl,r,o⟩:=F.ex;exact .all (h kV a l m c ct)
end
def lL:aa D->jm (aa Key)
 |[]=>some []
 |d::r=>(og d).bind λk=>(lL r).map (k:: ·)
theorem vg:∀{c} {d} {a},jv K al H c d->lL d=some a->c=a.map kV
 |_,_,_,.nil,h=>by cases h;rfl
 |_,_,_,.cons r q,h=>by obtain⟨k,j,i⟩:=aP.mp h;obtain⟨a,f,rfl⟩:=aB.mp i;rw[Dr r j,vg q f];rfl
def qx(fs:n6):jE:=λρ S=>(fs ρ S).bind λc d=>match(lY c).bind lL with
 |some a=>if a.length<=sizeLine then .ok (.tk a) d else .bad
 |none=>.bad
def uw(fo d f:jE):jJ:=λρ S=>toZ (f ρ S) λv i=>toZ (fo ρ i) λz h=>toZ (d ρ h) λy c=>match z,y with
 |.loc n,.tk k=>(match c[n]? with
  |some (.dt a)=>if a.length<sizeLine then .nx ρ (c.set n<|.dt<|kx a k v)else .bad
  |_=>.bad)
 |_,_=>.bad
def vJ:jE:=λ_ S=>.ok (.loc S.length) (S++[.dt []])
section
variable{X:Cx}{E:XK}{b:Nat}{o k e:jB}{l:lr}{fo j f:jE}{fs:n6}{i:Pos}
def xS{q}(A:ZA X E l fs):ZE X E (.Tuple l q i) (qx fs):=by
 obtain⟨J,y,x,_⟩:=A;refine⟨_,Ef y,λs h=>x s<|jh.mono (jh.split h) λ{_ n d _ _} r q I a v w=>?_⟩;split at a
 ·rename_i t D;obtain⟨L,G,F⟩:=aP.mp D;have:=tF G;subst this;have c:=w.toD;have C:=vg c F;subst C;split at a
  ·rename_i z;refine⟨by rw[ao];exact z,λp m=>?_⟩;have u:=r.grow (mH (K:=X.K) (o:=.tup<|t.map kV) m);exact a n d _ u (Xt.of<|mH (K:=X.K) (o:=.tup<|t.map kV) m) .refl (.ref p) ⟨p,r.fresh p m,kK,rfl⟩
  ·exact a.elim
 ·exact a.elim
def Fp:ZE X E (.Dict [] [] i) vJ:=by
 refine⟨_,WZ,λ{_ al lo H _ _ S _} s h=>λp a=>?_⟩;have m:lV X.K (λb=>al b/\b≠p) (k8 lo S.length p) (upd H p<|.dT []) p (.dt []):=⟨[],kK,.nil⟩;have c:=s.new a DY m nofun;have d:k8 lo S.length p S.length=some p:=by unfold k8;rw[au rfl]
 exact h _ _ _ c (qu a) (oV s.st p) _ ⟨p,d,rfl⟩
def Fy(hu:X.A.units+64<cLine)(ho:ZE X E o fo)(hk:ZE X E k j)(hv:ZE X E e f)(hs:autoParam (swapsWith e (some<|.Subscript o k pos') i.line X.env=pure false) aZ0):
    ZS X E b (.Assign [.Subscript o k pos'] e i) (uw fo j f):=by
 obtain⟨to,po,Y⟩:=ho;obtain⟨tk,pk,rk⟩:=hk;obtain⟨tv,pv,U⟩:=hv;refine⟨_,XI (by lia) po pk pv hs,λD s h=>U s<|jh.mono (kF.nG h) λ{y _ _ _ _} T x0 y0 h0 t r0=>Y T<|jh.mono (kF.nG h0) λ{z _ _ _ _} R P L h1 v1 r1=>rk R<|jh.mono (kF.nG h1) λ{_ p A F _} v O G m u V=>?_⟩;split at m
 ·rename_i n r;split at m
  ·rename_i C q;split at m
   ·rename_i hl;obtain⟨a,hn,rfl⟩:=r1;obtain⟨c,ha,hc,rfl⟩:=V;have d:=G _ _ hn;obtain⟨I,g1,J⟩:=v.cell d q;have x:ko X.K p A F t y:=(r0.mv P L).mv O G;have N:Xt p F p (upd F a (.dT (putK I r t))):=λb o _ D eb=>⟨D,by rw[jL λz=>v.st.na n a d (by rw[<-z];exact D)];exact eb⟩;obtain⟨Q,M⟩:=v.write d (o:=.dT (putK I r t)) (c:=.dt (kx C r y)) DY (λq w=>by unfold md at w;cases w) ⟨_,kK,kC.mv N .refl (J.put r x)⟩ nofun;exact⟨a,_,rfl,.t g1 hc (by rw[J.length];exact hl),m _ _ _ _ M Q⟩
   ·exact m.elim
  ·exact m.elim
 ·exact m.elim
end
def Ab(K:jx)(f:jE):TE:=λσ H Q=>∃B al lo ρ S,RZ K B al lo H σ ρ S/\jh K B (λ_ _ _=>False) al lo H σ ρ (f ρ S) (λz c a H' _=>∀v,ko K c a H' v z->Q v H')
def xF(K:jx)(f:ny):TT:=λσ H Q=>∃B al lo ρ S,RZ K B al lo H σ ρ S/\jh K B (λ_ _ _=>False) al lo H σ ρ (f ρ S) (λb _ _ H' _=>Q b H')
def ZE.w(h:ZE X (λ_ _ _=>False) e f):PE X e (Ab X.K f):=by obtain⟨t,p,r⟩:=h;intro c s σ H Q I i;obtain⟨B,al,lo,ρ,S,d,a⟩:=i;exact p c s σ H Q I (r d a)
def ZT.w(h:ZT X (λ_ _ _=>False) e f):PT X e (xF X.K f):=by obtain⟨t,p,r⟩:=h;intro c s σ H Q I i;obtain⟨B,al,lo,ρ,S,d,a⟩:=i;exact p c s σ H Q I (r d a)
def ts(X:Cx)(a:lr)(f:ny):Prop:=PF X a (xF X.K f)
def qA:jP->jt->RX jk:=λ_ S=>.ok true S
def Ft:ts X [] qA:=λc s σ H Q I h=>by obtain⟨B,al,lo,ρ,S,d,a⟩:=h;exact KI c s σ H Q I (a al lo H d .refl .refl)
def acB(h:ZT X (λ_ _ _=>False) c f):ts X [c] f:=KJ h.w
abbrev _root_.ym:=jP->jt->RX (aa D)
structure ZI(X:Cx)(E:XK)(tg iter:jB)(f:ym):Prop where
 w_::
 o_:∃wi:TI,PI X tg iter wi/\
 ∀{B al lo H σ ρ S} {R:It->Hp->Prop},RZ X.K B al lo H σ ρ S->jh X.K B E al lo H σ ρ (f ρ S) (λds kH mS H' _=>∀J,Wk X.K kH H' J ds->R J H')->wi σ H R
def vI(f:jE):jP->jt->RX (aa D):=λρ S=>(f ρ S).bind λz a=>match z with
 |.d (.lst ds)=>.ok ds a
 |_=>.bad
section
variable{X:Cx}{E:XK}{i e:jB}{f:jE}
def acG(q:ZE X E e f):ZI X E i e (vI f):=by
 obtain⟨t,p,r⟩:=q;refine⟨_,KN p,λs h=>r s<|jh.mono (jh.split h) λ{_ c j m _} o z y k v l=>?_⟩;split at k
 ·rename_i x;have d:Rep X.K c m v (.lst x):=l;obtain⟨a,n,w,u,A⟩:=d.oW;subst w;exact⟨a,rfl,⟨n,u⟩,k c j m o .refl .refl _<|Mz l⟩
 ·exact k.elim
end
def mQ(a:lC)(ρ:jP):jP:=none::a.map λi=>(ρ[i]?).getD none
def LH(s:RZ K B qJ lo1 H1 σ ρ S1)(l:EZ K B yx wQ H2 S2)(x:Xt qJ H1 yx H2)(y:Lx lo1 wQ)(ci):RZ K B yx wQ H2 (mZ 1 ci σ) (mQ ci ρ) S2 where
 toEZ:=l
 len:=by unfold mZ mQ;simp
 vr:=λj z h=>by
  unfold mQ at h;cases j with
  |zero=>cases h
  |succ k=>
   rw[fh,aH]at h;cases q:ci[k]? with
   |none=>rw[q]at h;cases h
   |some i=>
    rw[q]at h;have a:(ρ[i]?).getD none=some z:=Option.some.inj h;cases w:ρ[i]? with
    |none=>rw[w]at a;cases a
    |some o=>rw[w]at a;have c:o=some z:=a;subst c;obtain⟨v,f,d⟩:=s.vr i z w;refine⟨v,?_,d.mv x y⟩;unfold mZ;show(none::(ci.map λi=>(σ[i]?).getD none))[k+1]?=_;rw[fh,aH,q];show some ((σ[i]?).getD none)=_;rw[f];rfl
noncomputable def uz(c:ny)(e:jE)(a:jP)(f:Nat):aa D->jt->RX Z
 |[],S=>.ok (.loc f) S
 |d::r,S=>match c (a.set 0<|i9 d) S with
  |.ok b j=>if b=true then(match e (a.set 0 (i9 d)) j with
   |.ok z i=>(match i[f]? with
    |some (.li h)=>if h.length<sizeLine then uz c e a f r (i.set f<|.li<|h++[z])else .bad
    |_=>.bad)
   |_=>.bad)else uz c e a f r j
  |_=>.bad
def uy(d:ym)(h:lC)(c:ny)(e:jE):jE:=λρ S=>(d ρ S).bind λf a=>uz c e (mQ h ρ) a.length f (a++[.li []])
structure vY(X:Cx)(E:XK)(e:jB)(f:jE):Prop where
 w_::
 o_:∃t:TE,PE X e t/\yc X e t/\∀{B al lo H σ ρ S} {Q:VK},RZ X.K B al lo H σ ρ S->jh X.K B E al lo H σ ρ (f ρ S) (λz kH mS H' _=>∀v,ko X.K kH mS H' v z->Q v H')->t σ H Q
def acS{X}{pos}(i)(hN:X.N.Nodup)(n:X.N[i]?=some x)(l:Loc X.env.scope x)(o:vY X E e f)(m:autoParam (swapsWith e (some<|.Name x pos') pos.line X.env=pure true) aZ0)(hf:autoParam (X.hf x) aZ3):
    ZS X E b (.Assign [.Name x pos'] e pos) (jy i f):=by
 obtain⟨t,_,p,r⟩:=o;refine⟨_,Ek hN n l p m hf,λ{_ _ _ _ _ ρ _ _} z s h=>r s<|jh.mono (kF.nG h) λ{_ d c q _} j y u a v k=>?_⟩;by_cases w:i<ρ.length
 ·simp only[w,cQ]at a;exact a d c q _ .refl (j.set w k)
 ·simp only[w,bT]at a;exact a.elim
section
variable{X:Cx}{E:XK}{A M:jB}{L:lr}{l:Scope}{O P:Pos}{T:ym}{K:ny}{I:jE}{cl:tp}{N:jS}{F:lC}{x:jd}
def acy(hc:X.calm=true)(hi:ZI X E (.Name x P) A T)(hg:∀Y U n C,PG (X.comp l ([x]++N) cl Y U n C) (.Name x P)<|qN 0)(hf:∀Y U n C,ts (X.comp l ([x]++N) cl Y U n C) L K)
 (he:∀Y U n C,ZE (X.comp l ([x]++N) cl Y U n C) (λ_ _ _=>False) M I)
 (t:closureFor l X.env=pure cl)(r:l.kind=.function)(G:rG l)(k:sN l)(qO:nM X cl N F)
 (hsub:∀x c,cl.lookup x=some c->X.env.cells.lookup x=some c)(hhas:∀x,((relabel l X.env).names.lookup x=some .cell\/(relabel l X.env).names.lookup x=some .free)->∃c,cl.lookup x=some c)
 (Z:∀x∈N,(relabel l X.env).names.lookup x=some .cell\/(relabel l X.env).names.lookup x=some .free)
 (hs:∀x,foldedSetIterable A X.env x=pure x):vY X E (.ListComp M [⟨.Name x P,A,L,0⟩] l O) (uy T F K I):=by
  obtain⟨wi,pi,ri⟩:=hi;refine⟨_,Ec (Nt:=[x]) (tn:=1) (te:=Ab X.K I) (tc:=xF X.K K) (g:=qN 0) hc pi hg hf (λY U n C=>(he Y U n C).w) t r G k qO rfl hsub hhas Z hs,La (Nt:=[x]) (tn:=1) (te:=Ab X.K I) (tc:=xF X.K K) (g:=qN 0) hc pi hg hf (λY U n C=>(he Y U n C).w) t r G k qO rfl hsub hhas Z hs,λ{B _ _ _ σ ρ _ Q} s h=>ri s<|jh.mono (jh.split h) λ{R qJ V H1 S1} s1 x1 y1 h1 J wk=>?_⟩;intro p hp;have CQ:lV X.K (λb=>qJ b/\b≠p) (k8 V S1.length p) (upd H1 p<|.lst []) p (.li []):=⟨[],kK,.nil⟩;have e0:=s1.toEZ.new hp oi CQ nofun;have C1:k8 V S1.length p S1.length=some p:=by unfold k8;rw[au rfl]
  refine⟨λi m H2=>∃f d S2,EZ X.K B f d H2 S2/\Xt qJ H1 f H2/\Lx V d/\d S1.length=some p/\jh X.K B E qJ V H1 σ ρ (uz K I (mQ F ρ) S1.length (R.drop i) S2) (λz kH mS H' _=>∀v,ko X.K kH mS H' v z->Q v H')/\m=R.length - i,⟨_,_,_,_,e0,qu hp,oV s1.st p,C1,h1,rfl⟩,?_⟩
  rintro i m H2 ⟨f,d,S2,e2,x2,y2,n2,a,rfl⟩ _
  obtain⟨w1,w2⟩:=wk f H2 x2 e2.fresh;have cap:=LH s1 e2 x2 y2 F;by_cases hi:i<R.length
  ·right;have ed:R[i]?=some R[i]:=ar hi;obtain⟨go,yl⟩:=w1 i _ ed;refine⟨go,λv n y=>?_⟩;obtain⟨rfl,rx⟩:=yl v n y;rw[cN hi]at a;unfold uz at a;have c1:RZ X.K B f d n ((mZ 1 F σ).set 0 (some v)) ((mQ F ρ).set 0 (some (.d R[i]))) S2:=cap.set (by unfold mQ;simp) rx;refine⟨⟨by rw[aT,wm],λj hj=>av<|by walk_at "l"⟩,B,f,d,_,S2,c1,?_⟩;cases qc:K ((mQ F ρ).set 0 (some<|.d R[i])) S2 with
   |ok b S3=>
    rw[qc]at a;intro vZ wR H4 c3 x3 y3;dsimp only at a;cases b with
    |false=>rw[ax ay]at a⊢;exact⟨R.length - (i+1),by grind,vZ,wR,S3,c3.toEZ,x2.trans x3,y2.trans y3,y3 _ _ n2,a,rfl⟩
    |true=>
     rw[au rfl]at a⊢;refine⟨B,vZ,wR,_,S3,c3,?_⟩;cases qe:I ((mQ F ρ).set 0 (some<|.d R[i])) S3 with
     |ok z S4=>
      rw[qe]at a;dsimp only at a;split at a
      ·rename_i zs q4;split at a
       ·rename_i hz;intro tA Dz H5 c4 x4 y4 u ru;have n4:=y4 _ _ (y3 _ _ n2);obtain⟨ws,g1,g2⟩:=c4.cell n4 q4;have xx:Xt tA H5 tA (upd H5 p (.lst (ws++[u]))):=λb o _ hb eb=>⟨hb,by rw[jL λz=>c4.st.na _ p n4 (by rw[<-z];exact hb)];exact eb⟩;obtain⟨e5,x5⟩:=c4.toEZ.write n4 (o:=.lst (ws++[u])) (c:=.li (zs++[z])) oi (λq w=>by unfold md at w;cases w) ⟨_,kK,kq.mv xx .refl (g2.append (.cons ru .nil))⟩ nofun;exact⟨ws,g1,by rw[g2.length];exact hz,R.length - (i+1),by lia,tA,Dz,_,e5,((x2.trans x3).trans x4).trans x5,(y2.trans y3).trans y4,n4,a,rfl⟩
       ·exact a.elim
      ·exact a.elim
     |_=>rw[qe]at a;exact a.elim
   |_=>rw[qc]at a;exact a.elim
  ·left;rw[cZ<|by simp_all]at a;exact⟨w2 i<|by simp_all,a f d H2 ⟨e2,s1.len,λi z e=>let⟨v,k1,k2⟩:=s1.vr i z e;⟨v,k1,k2.mv x2 y2⟩⟩ x2 y2 _ ⟨p,n2,rfl⟩⟩
def mI(n:Nat):jm Z->jk
 |some z=>mR n z
 |none=>false
noncomputable def pQ(f:jE):jE:=λρ S=>match f ρ S with
 |.ok z a=>(match z with
  |.loc n=>(match a[n]? with
   |some (.li h)=>(match lY h with
    |some d=>if S.length<=n/\a.any (kI n)=false/\ρ.any (mI n)=false then .ok (.d<|.lst d) (a.set n .no)else .bad
    |none=>.bad)
   |_=>.bad)
  |_=>.bad)
 |.ex c ns d a=>.ex c ns d a
 |.bad=>.bad
variable{e:jB}{f:jE}
def abk{n d o}(h:mI n o=false):qt n d o=o:=by
 cases o with
 |none=>rfl
 |some z=>
  cases z with
  |loc m=>
   have a:decide (m=n)=false:=h;have:m≠n:=by simpa using a
   show(if m=n then some (Z.d d)else some (Z.loc m))=_;rw[ax this]
  |_=>rfl
def Ic{t:TE}(r:∀{B al lo H σ ρ S} {Q:VK},RZ X.K B al lo H σ ρ S->jh X.K B E al lo H σ ρ (f ρ S) (λz C k H' _=>∀v,ko X.K C k H' v z->Q v H')->t σ H Q){lo}{Q:VK}(s:RZ X.K B al lo H σ ρ S)(h:jh X.K B E al lo H σ ρ (pQ f ρ S) (λz C k H' _=>∀v,ko X.K C k H' v z->Q v H')):t σ H Q:=by
 refine r s ?_;unfold pQ at h;cases q:f ρ S with
 |bad=>rw[q]at h;exact h.elim
 |ex c ns y Y=>rw[q]at h;exact h
 |ok z Y=>
  rw[q]at h;intro qJ lo1 H1 j x1 y1 v rv;dsimp only at h;split at h
  ·rename_i n;split at h
   ·rename_i zs q0;split at h
    ·rename_i y qd;split at h
     ·rename_i w;obtain⟨w1,w2,w3⟩:=w;obtain⟨a,hn,rfl⟩:=rv;have ZM:RZ X.K B qJ lo1 H1 (σ++[some (.ref a)]) (ρ++[i8 n]) Y:=⟨j.toEZ,by rw[aq,aq,j.len];rfl,λi z d=>by
       by_cases G:i<ρ.length
       · rw[aA G]at d;obtain⟨u,o,U⟩:=j.vr i z d;exact⟨u,by rw[aA (by rw[<-j.len];exact G)];exact o,U⟩
       · rw[aN<|by simp_all]at d;have e0:i - ρ.length=0:=by
          have:=(aC.mp d).1;simp at this;omega
         rw[e0]at d;cases d;refine⟨.ref a,?_,a,hn,rfl⟩;rw[aN (by rw[<-j.len];simp_all),<-j.len,e0];rfl⟩
      have p:(ρ++[some<|Z.loc n])[ρ.length]?=some (i8 n):=by simp
      have fz:u1 B.n ρ.length (ρ++[i8 n]) Y=some ((ρ++[some<|Z.loc n]).map (qt n<|.lst y),Y.set n .no):=by unfold u1;rw[p];dsimp only;rw[q0];dsimp only;rw[qd];dsimp only;rw[au ⟨aV s.sz w1,w2⟩]
      obtain⟨V,J,s2,x2,y2⟩:=ZM.freeze fz;have ids:∀i z,ρ[i]?=some (some z)->((ρ++[some<|Z.loc n]).map (qt n<|.lst y))[i]?=some (some z):=λi z d=>by have G:=(aC.mp d).1;rw[aH,aA G,d];have:=b9.mp w3 (some z) (bp d);show some (qt n (.lst y)<|some z)=_;rw[abk<|by simpa using this]
      have s3:RZ X.K B V J H1 σ ρ (Y.set n .no):=⟨s2.toEZ,j.len,λi z d=>by obtain⟨u,o,U⟩:=s2.vr i z (ids i z d);have G:=(aC.mp d).1;rw[aA (by rw[<-j.len];exact G)]at o;exact⟨u,o,U⟩⟩
      have R:((ρ++[some<|Z.loc n]).map (qt n<|.lst y))[ρ.length]?=some (jj y):=by rw[aH,p];show some (if n=n then some (Z.d<|.lst y)else some (Z.loc n))=_;rw[au rfl]
      obtain⟨u,o,U⟩:=s2.vr _ _ R;rw[j.len,aN<|ai _,fx]at o;cases o;refine h V J H1 s3 (x1.trans x2) (λm b hm=>?_) _ U;obtain⟨c,g1,_⟩:=s.st.at' m b hm;have hm2:=(aC.mp g1).1;exact y2 n p m b (by lia) (y1 m b hm)
     ·exact h.elim
    ·exact h.elim
   ·exact h.elim
  ·exact h.elim
def acm(a:ZE X E e f):ZE X E e (pQ f):=let⟨t,p,r⟩:=a;⟨t,p,Ic r⟩
def acz(a:vY X E e f):vY X E e (pQ f):=let⟨t,p,u,r⟩:=a;⟨t,p,u,Ic r⟩
end
open PySem.Spec PySem.Calls PySem.W
open PyProof.Rows hiding St K
def rY(h:jw)(d:ja)(a:kr DictEntry)(c:Nat):Prop:=∃o,h.get? d=some o/\o.ExactDict/\o.data=.dict a c
def rY.typeIs{s:jr}{d}(x:rY s.heap d es ep):s.TypeIs (.ref d) "dict":=let⟨o,a,c,_⟩:=x;⟨o,a,c.1⟩
section
variable{B:jT}{w:jK}{A:kh}{E:ki}{s:jr}{j d:ja}{i C:Nat}{q:kr DictEntry}
def Zd{Q:ki}(h:(d==sysModules)=false)(f:rY s.heap d q C)
 (k:Q (.ref s.heap.objs.size) {s with heap:=s.heap.push {cls:=.type "dict_keyiterator",data:=.fields #[.ref d,.int 0 0,.int q.size 0,.int C 0]}}):wpAny (model B w) A (pyIter (.ref d)) Q E s:=by obtain⟨o,c,l,a⟩:=id f;have hT:=f.typeIs;refine fy hT ic (bB ic hT PySem.F.entry_dict_iter ?_ (PySem.F.args_dict_iter_1 _));unfold Builtin.«dict.__iter__»;refine ae ?_;unfold Builtin.Dict.dictSlotNone;refine ae (fM hT ?_);refine af ?_;show wpAny _ _ (Builtin.Dict.showsAll d>>=_) _ _ s;unfold Builtin.Dict.showsAll;rw[ax (by rw[h];exact ay)];refine ae (af ?_);refine ae (dB c a ?_);refine ae (d3 c a ?_);refine ae (a9<|af ⟨_,rfl,"dict_keyiterator",_,⟨_,aD _ rfl,rfl⟩,PySem.F.slot_dict_keyiterator_next.lookup,?_⟩);simpa [rawInt]using k
def Zb{Q:pV}(hit:s.heap.IsKeyIter j d i q.size C)(p:rY s.heap d q C)(h:i<q.size)
 (u:∀n,n.IsKeyIter j d (i+1) q.size C->Heap.SameBut j s.heap n->Q (some q[i].key) {s with heap:=n}):wpAny (model B w) A (pyNext<|.ref j) Q E s:=by
  obtain⟨o,m,t,l⟩:=id hit;obtain⟨v,f,r,k⟩:=id p;unfold pyNext
  refine ae (dE (bR (name:=Str.ofString "__next__") hit.typeIs cB
   (bB cB hit.typeIs eS ?_ (eN _))))
  refine ae (af ?_);refine ae ?_;refine ae ?_;first|refine ae (cT hit.typeIs<|af ?_)|refine ae (dF hit.typeIs<|af ?_)
  refine ae (da m l ?_);have c:Builtin.Dict_items.ownsTuple "dict_keyiterator"=false:=by decide
  simp only[c,bA,bT];show wpAny _ _ (if(Value.ref d==Value.none)=true then _ else _) _ _ s;rw[ax<|show¬((Value.ref d==Value.none)=true)from ay];refine ae (af ?_);refine ae (dB f k ?_);rw[ax<|by simp];refine ae (af ?_);refine ae (d3 f k ?_);rw[ax<|by simp];refine af ?_;simp only[show¬((i:Int)<0)from by simp,bT,bJ,aM h];refine ae ?_;first|refine ae (cT hit.typeIs<|af ?_)|refine ae (dF hit.typeIs<|af ?_)
  refine ae (wpAny_isOneOf_keyiter hit.typeIs ?_);show wpAny _ _ (setField (.ref j) 1 (rawInt<|(i:Int)+1)>>=_) _ _ s;refine ae (cg m l (by simp) ?_)
  have a:(s.heap.update j (Obj.mapFields (·.setIfInBounds 1 (rawInt<|(i:Int)+1)))).IsKeyIter j d (i+1) q.size C:=
   ⟨_,aY _ m<|b7<|bw l _,(du ..).trans t,by rw[bw l];simp[rawInt]⟩
  refine ae (bI ?_);refine ae (wpAny_isOneOf_keyiter (s:={s with heap:=s.heap.update j (Obj.mapFields (·.setIfInBounds 1 (rawInt<|(i:Int)+1)))}) a.typeIs ?_);show wpAny _ _ (pure q[i].key) _ _ _;exact af (af ⟨_,rfl,af<|u _ a<|bF ..⟩)
def Za{Q:pV}(t:A.handled=none)(hit:s.heap.IsKeyIter j d i q.size C)(r:rY s.heap d q C)(k:q.size<=i)
 (v:∀p,Heap.ExtBut j s.heap p->Q none {s with heap:=p}):wpAny (model B w) A (pyNext<|.ref j) Q E s:=by
  obtain⟨o,l,y,n⟩:=id hit;obtain⟨x,f,u,h⟩:=id r;unfold pyNext
  refine ae (dE (bR (name:=Str.ofString "__next__") hit.typeIs cB
   (bB cB hit.typeIs eS ?_ (eN _))))
  refine ae (af ?_);refine ae ?_;refine ae ?_;first|refine ae (cT hit.typeIs<|af ?_)|refine ae (dF hit.typeIs<|af ?_)
  refine ae (da l n ?_);have c:Builtin.Dict_items.ownsTuple "dict_keyiterator"=false:=by decide
  simp only[c,bA,bT];show wpAny _ _ (if(Value.ref d==Value.none)=true then _ else _) _ _ s;rw[ax<|show¬((Value.ref d==Value.none)=true)from ay];refine ae (af ?_);refine ae (dB f h ?_);rw[ax<|by simp];refine ae (af ?_);refine ae (d3 f h ?_);rw[ax<|by simp];refine af ?_;simp only[show¬((i:Int)<0)from by simp,bT,bJ,cI k];refine ae ?_;first|refine ae (cT hit.typeIs<|af ?_)|refine ae (dF hit.typeIs<|af ?_)
  show wpAny _ _ (setField (.ref j) 0 .none>>=_) _ _ s;refine ae (cg l n (by simp) ?_);show wpAny _ _ (newExc (.type "StopIteration") []>>=_) _ _ _;refine ae ?_;simp only[newExc,newTuple];refine ae (a9 ?_ (by size_fits));refine ae (m:=firstArgMember _ _) (f3 (a:=Value.none) (by first|rfl|(simp only[firstArgMember];rfl)) ?_);refine a9 ?_ (by size_fits);simp only[raiseNew];refine ae (gE ?_);rw[show A.in1.handled=none from t];refine ae (af<|iM ?_);refine ae (dR (T:="StopIteration") (b:=true) ⟨_,aD _ rfl,rfl⟩ gs ?_);exact af (v _<|((bF ..).extBut.push _).push _)
def kD:Key->D
 |.inl i=>.int i
 |.inr x=>.str x
theorem zO:∀k:aa Key,jv K al H (k.map kV) (k.map kD)
 |[]=>.nil
 |.inl i::r=>.cons (.int i) (zO r)
 |.inr x::r=>.cons (.str x) (zO r)
theorem Mu:∀a:aa (aa Key×ja×je),Vals (a.map λx=>V.ref x.2.1) (a.map λx=>Value.ref x.2.1)
 |[]=>.nil
 |_::r=>.cons rfl (Mu r)
variable{X:Cx}{E:XK}{e o k:jB}{L J ty:TE}{M F:Pos}
def Tg{s}(I:Inv X pins σ H s){c:oz}(h:mx X.K H b (c.map kV)):(tupleKind (kg X.prog X.w)).is s.heap c b:=by obtain⟨a,r,⟨o,m,l,n,f⟩,_⟩:=I.tuple h;exact⟨o,a.toArray,n,m,l,f,by simpa using Dj r⟩
def Kz(hu:X.A.units+1<cLine)(ho:PE X o J)(hi:PE X k ty)(hs:uF k):PE X (.Subscript o k F) (λσ H Q=>J σ H λx O=>ty σ O λy r=>∃a b f n v,x=.ref a/\y=.ref b/\Rd r a (.dT f)/\mx X.K r b (n.map kV)/\lT f n=some v/\Q v r):=by intro c s σ H Q I h;refine L7 PySem.F.slot_dict_getitem.lookup hs (jC (ho c s σ H _ I h) λu R m=>?_);obtain⟨x,O,I1,U,Y⟩:=m;refine jC (hi c R σ O _ I1 Y) λZ s2 m=>?_;obtain⟨y,r,N,T,a,b,f,n,v,ex,ey,e,hb,l,V⟩:=m;subst ex ey;obtain rfl:u=Value.ref a:=U;obtain rfl:Z=Value.ref b:=T;obtain⟨z,hd,P,D,dd⟩:=uW N.hok e;refine⟨dd.typeIs,?_⟩;obtain⟨w',hw,t⟩:=mY.some_of (v:=v) (o:=(atKey P n).map (·.2)) (by rw[<-l];exact D.val n);obtain⟨p,hp,G⟩:=aB.mp hw;refine wpAny_getItem_heap (dY hu) (Tg N hb) dd hp ?_;rw[G];exact⟨v,r,N.tok _,t,V⟩
end
def sU(fo d:jE):jE:=λρ S=>(fo ρ S).bind λz f=>(d ρ f).bind λy c=>match z,y with
 |.loc n,.d (.tup ds)=>(match lL ds,c[n]? with
  |some k,some (.dt a)=>(match valZ a k with
   |some z=>.ok z c
   |none=>.bad)
  |_,_=>.bad)
 |_,_=>.bad
def Ak(a b:jE):jE:=λρ S=>(a ρ S).bind λx h=>match x with
 |.d d=>(lJ (tT d) h).bind λc f=>if c=true then b ρ f else .ok (.d d) f
 |_=>.bad
variable{X:Cx}{E:XK}{b:Nat}{o k e a c:jB}{rest:lr}{fo Y f fa fb:jE}{U p1:Pos}
def Fo(hu:X.A.units+64<cLine)(M:ZE X E o fo)(O:ZE X E k Y)(L:autoParam (uF k) aZ7):ZE X E (.Subscript o k U) (sU fo Y):=by
 obtain⟨to,G,A⟩:=M;obtain⟨tk,pk,C⟩:=O;refine⟨_,Kz (by lia) G pk L,λs h=>A s<|jh.mono (jh.split h) λx x1 y1 Q v y=>C x<|jh.mono (jh.split Q) λ{_ i l p _} m x2 r d u z=>?_⟩;split at d
 ·rename_i n ds;split at d
  ·rename_i J I D q;split at d
   ·rename_i z0 F;obtain⟨a,N,rfl⟩:=y;obtain⟨b,vs,rfl,P,j⟩:=Rep.pO (show Rep X.K i p u (.tup ds)from z);have V:=vg j D;subst V;obtain⟨t,T,R⟩:=m.cell (r _ _ N) q;obtain⟨w,e1,Z⟩:=R.val F;exact⟨a,b,t,J,w,rfl,rfl,.inl T,P,e1,d i l p m .refl .refl w Z⟩
   ·exact d.elim
  ·exact d.elim
 ·exact d.elim
def WQ(y:PE X a ta)(w:PE X (.BoolOp .And (c::rest) U) tb):PE X (.BoolOp .And (a::c::rest) U) (λσ H Q=>ta σ H λx j=>∃k,vV X.K x j k/\if k=true then tb σ j Q else Q x j):=by
 intro d s σ H Q I h;refine BoolOp_and (jC (y d s σ H _ I h) λv r i=>?_);obtain⟨x,j,C,m,t⟩:=i;obtain⟨k,u,q⟩:=t;refine jC (ES d r σ j x v (λc l=>c=k/\l=j) C m ⟨k,u,rfl,rfl⟩) λc p i=>?_;obtain⟨l,n,A,z⟩:=i;subst A z;cases c with
 |false=>exact⟨x,l,n,m,by simpa using q⟩
 |true=>exact w d p σ l Q n (by simpa using q)
def ab8(y:ZE X E a fa)(x:ZE X E (.BoolOp .And (c::rest) U) fb):ZE X E (.BoolOp .And (a::c::rest) U) (Ak fa fb):=by
 obtain⟨F,u,r⟩:=y;obtain⟨D,t,p⟩:=x;refine⟨_,WQ u t,λs h=>r s<|jh.mono (jh.split h) λ{_ m j z _} i C A l v n=>?_⟩;split at l
 ·rename_i d;obtain⟨k,w,q⟩:=zN n (jh.toAft i<|jh.split l);refine⟨k,w,?_⟩;cases k with
  |false=>rw[ax<|by simp]at q⊢;exact q m j z i .refl .refl v n
  |true=>rw[au rfl]at q⊢;exact p i q
 ·exact l.elim
def ML(i:ZE X E a fa):ZE X E (.BoolOp op [a] U) fa:=let⟨t,p,r⟩:=i;⟨t,λd s σ H Q I h=>BoolOp_one<|p d s σ H Q I h,r⟩
end P2
namespace P2
open PySem
def mw(a:nO):Prop:=a.toList.Pairwise (· < ·)
def mw.lt(h:mw xs)(a:i<j)(c:j<xs.size):xs[i]<xs[j]:=by have:=gy.mp h i j (by simpa using fq a c) (by simpa using c) a;simpa using this
theorem Bv(xs j)(h:mw xs):∀a lo c,lo<=c->c<=xs.size->c - lo<=a->(∀i,(d:i<xs.size)->i<lo->xs[i]<j)->(∀i,(d:i<xs.size)->c<=i->j<=xs[i])->
 SetTable.below.go xs j a lo c<=xs.size/\(∀i,(d:i<xs.size)->i<SetTable.below.go xs j a lo c->xs[i]<j)/\∀i,(d:i<xs.size)->SetTable.below.go xs j a lo c<=i->j<=xs[i]
 |0,lo,c,s,m,r,l,k=>by
  have e:lo=c:=by grind
  subst e;show lo<=xs.size/\_;exact⟨m,l,k⟩
 |a+1,lo,c,s,m,r,l,k=>by
  unfold SetTable.below.go;by_cases o:lo<c
  ·rw[au o];have n:(lo+c)/2<xs.size:=by lia
   have t:xs.getD ((lo+c)/2) j=xs[(lo+c)/2]:=by simp[Array.getD,n]
   dsimp only;rw[t];by_cases f:xs[(lo+c)/2]<j
   ·rw[au f];refine Bv xs j h a _ c (by lia) m (by omega) (λi d p=>?_) k;by_cases e:i=(lo+c)/2;·subst e;exact f
    ·exact fq (h.lt (show i<(lo+c)/2 by lia) n) f
   ·rw[ax f];refine Bv xs j h a lo _ (by lia) (by walk_at "l") (by omega) l λi d q=>?_;by_cases e:i=(lo+c)/2;·subst e;simp_all
    ·have:=h.lt (show(lo+c)/2<i by lia) d
     lia
  ·rw[ax o];have e:lo=c:=by lia
   subst e;exact⟨m,l,k⟩
def yC(h:mw xs)(j):SetTable.below xs j<=xs.size/\(∀i,(a:i<xs.size)->i<SetTable.below xs j->xs[i]<j)/\∀i,(a:i<xs.size)->SetTable.below xs j<=i->j<=xs[i]:=
 Bv xs j h xs.size 0 xs.size (bQ _) (ai _) (ai _) (λi _ h=>absurd h<|cK _) λi a h=>absurd a (iZ.mpr h)
def Nu(h:mw xs)(c:i<xs.size):SetTable.below xs (xs[i]+1)=i+1:=by
 obtain⟨l,f,d⟩:=yC h (xs[i]+1);generalize SetTable.below xs (xs[i]+1)=b at*;rcases fA b (i+1)with q|q|q;·have:=d i c (by walk_at "l");lia
 ·exact q
 ·have a:i+1<xs.size:=by walk_at "l"
  have k:=f (i+1) a q;have j:xs[i]<xs[i+1]:=h.lt (show i<i+1 by simp) a
  lia
def Nv(h:mw xs):SetTable.below xs 0=0:=by
 obtain⟨d,a,c⟩:=yC h 0;generalize SetTable.below xs 0=b at*;cases b with
 |zero=>rfl
 |succ b=>exact absurd (a 0 (by lia)<|by simp) (cK _)
def LA(h:mw xs)(p:xs[SetTable.below xs j]?≠some j):mw (SetTable.insertAt xs (SetTable.below xs j) j):=by
 obtain⟨u,s,r⟩:=yC h j;generalize t:SetTable.below xs j=b at*;have f:∀i,(c:i<xs.size)->b<=i->j<xs[i]:=λi c n=>by
  rcases ie j xs[i]with q|q;·exact q
  ·have v:=r b (by walk_at "l") (ai _);have:xs[b]<=xs[i]:=by
    by_cases e:b=i;·subst e;exact ai _
    ·exact dS (h.lt (show b<i by lia) c)
   exact absurd (by rw[aM<|show b<xs.size by walk_at "l"];exact bN some (by lia)) p
 unfold mw;have e:(SetTable.insertAt xs b j).toList=xs.toList.take b++j::xs.toList.drop b:=by unfold SetTable.insertAt;simp[iN];exact c0 (by rw[c9,aG];exact ai _)
 rw[e];refine eD.mpr ⟨d4 (List.take_sublist _ _) h,bZ.mpr ⟨λy a=>?_,d4 (List.drop_sublist _ _) h⟩,λx m y a=>?_⟩
 ·obtain⟨i,d,rfl⟩:=bS a;rw[List.getElem_drop];rw[c9,aG]at d;simpa using f (b+i) (by lia) (by simp)
 ·obtain⟨i,d,rfl⟩:=bS m;rw[c7,aG]at d;have l:=s i (by lia) (by simp_all);rw[List.getElem_take];rcases az.mp a with rfl|a;·simpa using l
  ·obtain⟨k,o,rfl⟩:=bS a;rw[List.getElem_drop];rw[c9,aG]at o;have:=f (b+k) (by lia) (by simp);have q:xs[i]<xs[b+k]:=by lia
   simpa using q
structure ox(bt:jk)(t:lF):Prop where
 led:t.led=!bt
 qo:t.plain=true->mw t.place
 pD:t.plain=true->t.dummies=#[]
def abm(bt):ox bt (.fresh 0 0<|!bt):=⟨rfl,λ_=>by unfold mw;exact .nil,λ_=>rfl⟩
def z7{bt t}(h:ox bt t)(n):ox bt (t.standIn n):=⟨h.led,λw=>(by cases w),λw=>(by cases w)⟩
def abo{bt t}(h:ox bt t)(n):ox bt (t.orStandIn n):=by
 unfold SetTable.orStandIn;split;·exact h
 ·exact z7 h n
theorem K0{t:lF}(k:t.dummies=#[]){h:Int}:∀a (p:SetTable.Probe) j d,p.dummy=none->SetTable.probe.go t f h a p=some (.empty j d)->d=none/\t.slot j=.empty
 |0,p,j,d,_,e=>by cases e
 |a+1,p,j,d,c,e=>by
  unfold SetTable.probe.go at e;cases q:t.slot p.j with
  |empty=>rw[q]at e;cases e;exact⟨c,q⟩
  |dummy=>
   exfalso;unfold SetTable.slot at q;dsimp only at q;split at q;·cases q
   ·rw[k]at q;have:SetTable.has #[] p.j=false:=rfl;rw[this]at q;cases q
  |live i=>
   rw[q]at e;dsimp only at e;split at e;·cases e
   ·refine K0 k a (t.advance p) j d ?_ e;unfold SetTable.advance;split<;>exact c
def abn{bt t}(h:ox bt t)(es)(k:Int)(x):ox bt (layNew t es k x).2.1:=by
 unfold layNew;cases e:t.freeSlot k with
 |none=>exact z7 h _
 |some r=>
  obtain⟨a,wd⟩:=r;dsimp only;refine abo (t:=(t.put a).1) ⟨h.led,λw=>?_,λw=>?_⟩ _
  ·have f:=h.pD w;unfold SetTable.freeSlot at e;split at e
   ·rename_i j d q;obtain⟨rfl,c⟩:=K0 f _ _ _ _ rfl q;cases e;refine LA (h.qo w) λi=>?_;unfold SetTable.slot at c;dsimp only at c;rw[show(none:jm Nat).getD j=j from rfl]at i;rw[i]at c;simp at c
   ·cases e
  ·show(if SetTable.has t.dummies a then SetTable.eraseAt t.dummies (SetTable.below t.dummies a)else t.dummies)=#[];have f:=h.pD w;rw[f];rfl
def abp{bt t}(h:ox bt t)(es n):ox bt (relayAll t es n).2.1:=by
 unfold relayAll;cases e:t.relaid (es.map (·.1)) n with
 |none=>exact z7 h _
 |some r=>
  obtain⟨m,d⟩:=r;dsimp only;split
  ·unfold SetTable.relaid SetTable.laid at e;cases q:SetTable.layClean (SetTable.sizeAbove n - 1) (es.map (·.1))with
   |none=>rw[q]at e;cases e
   |some c=>
    rw[q]at e;cases e;refine⟨h.led,λ_=>?_,λ_=>rfl⟩;unfold mw;show((List.map _<|List.filterMap _<|List.range _).toArray).toList.Pairwise _;rw[gf,List.map_filterMap];have sub:∀(l:lC) (g:Nat->jm Nat),(∀j k,g j=some k->k=j)->(l.filterMap g).Sublist l:=λl g i=>by
     induction l with
     |nil=>exact .slnil
     |cons a l f=>
      rw[dI];cases q:g a with
      |none=>exact f.cons _
      |some k=>rw[i a k q];exact f.cons₂ _
    refine d4 (sub _ _ λj k w=>?_) fC;cases z:c.getD j none with
    |none=>rw[z]at w;cases w
    |some o=>rw[z]at w;cases w;rfl
  ·exact z7 h _
open L2 PySem.Spec PySem.Calls PySem.W
open PyProof.Rows hiding St K
def vK:je->Key
 |.int i _=>.inl i
 |.str x _=>.inr x
 |_=>.inl 0
def rS(v:je):Prop:=RelV (kV<|vK v) v
def Aa{k}(h:RelV (kV k) v):vK v=k:=by
 cases k with
 |inl i=>obtain⟨t,rfl⟩:=(show∃t,v=Value.int i t from h);rfl
 |inr x=>obtain⟨t,rfl⟩:=(show∃t,v=Value.str x t from h);rfl
def PU{k}(h:RelV (kV k) v):rS v:=by unfold rS;rw[Aa h];exact h
def EA{k}(h:RelV (kV k) v):v.scannable=true:=by
 cases k with
 |inl i=>obtain⟨t,rfl⟩:=(show∃t,v=Value.int i t from h);rfl
 |inr x=>obtain⟨t,rfl⟩:=(show∃t,v=Value.str x t from h);rfl
abbrev _root_.uM:=aa (Int×je)
def xV(P:jT)(w:jK)(a:uM):Prop:=∀e∈a,rS e.2/\e.1=(kg P w).hash (vK e.2)
def xV.elems{w}(h:xV P w es):ElemsOf (kg P w) es:=λe a=>⟨⟨vK e.2,pG (h e a).1,(h e a).2⟩,EA (h e a).1⟩
def qf(a:uM):aa Key:=a.map λe=>vK e.2
def pz(P:jT)(w:jK)(h:jw)(a:ja)(d:oz)(n:Nat):Prop:=
 ∃o c f t,h.get? a=some o/\o.ExactSet/\o.data=.set c f t/\xV P w c.toList/\c.size<=n/\t.fits c.size=true/\ox (w.params.followText "set-order") t/\(qf c.toList).Nodup/\∀k,k∈qf c.toList↔k∈d
def pz.keep{w}{c:jw}{n}(x:pz P w h a ks n)(k:∀o,h.get? a=some o->c.get? a=some o):pz P w c a ks n:=let⟨o,f,i,t,d,r⟩:=x;⟨o,f,i,t,k o d,r⟩
section
variable{c:jT}{w:jK}{A:kh}{E:ki}{s:jr}
def Nd{n k}{Q:pA}(hx:RelV (kV k) x)(hS:pz c w s.heap a ks n)(hroom:n+1<scanBound)
 (h:∀b G,Heap.SameBut a s.heap G->pz c w G a (k::ks) (n+1)->Q b {s with heap:=G}):
   wpAny (model c w) A (setAddHashed a x<|(kg c w).hash k) Q E s:=by
  obtain⟨o,v,ep,t,ho,Y,hd,p,hn,hf,tok,ue,D⟩:=hS;have IH:=p.elems;have CW:(kg c w).is k x=true:=pG hx;have IK:=EA hx;have hb:v.size<scanBound:=by lia
  unfold setAddHashed setAddHashedIn;refine bI (ae<|cb ho hd hf ?_);dsimp only;rw[byScan_of IK hb IH];simp only[↓reduceIte];unfold setAddByScan;refine ae ?_;refine ae (eX ?_);refine ae (wpAny_setScan_of CW ho hd hf IH ?_);cases hr:List.findIdx? (λe=>(kg c w).is k e.2) v.toList with
  |some j=>
   dsimp only;obtain⟨hj,RN,_⟩:=List.findIdx?_eq_some_iff_getElem.mp hr;refine af (af ?_);have e:s={s with heap:=s.heap}:=by cases s;rfl
   have hin:k∈qf v.toList:=by have R:=(p v.toList[j] (bU hj)).1;have h2:=(kg c w).inj _ _ _ RN (pG R);rw[h2];exact aO.mpr ⟨_,bU hj,rfl⟩
   have:=h false s.heap (Heap.SameBut.refl a s.heap) ⟨o,v,ep,t,ho,Y,hd,p,by walk_at "l",hf,tok,ue,λN=>by rw[D N,az];exact⟨.inr,λz=>z.elim (λz=>by rw[z];exact(D k).mp hin) id⟩⟩
   rw[e];exact this
  |none=>
   dsimp only;have hnot:k∉qf v.toList:=λhk=>by obtain⟨e,F,ek⟩:=aO.mp hk;have:=List.findIdx?_eq_none_iff.mp hr e F;have R:=pG (P:=c) (w:=w) (p e F).1;rw[ek]at R;rw[R]at this;exact Bool.noConfusion this
   have hgw:∀(b:jk) {C:jr} {Q':uN},Q' () C->wpAny (model c w) A (match b with|true=>rule "set.scan.the-table-gave-way"|false=>pure ()) Q' E C:=
    λb C Q' hq=>by cases b<;>first|exact af hq|exact eX hq
   have f:=layNew_perm t v ((kg c w).hash k) x;have i:=layNew_fits t v ((kg c w).hash k) x;have m:=abn tok v ((kg c w).hash k) x;generalize hL:layNew t v ((kg c w).hash k) x=L at f i m⊢;obtain⟨d,t1,u,adf⟩:=L;dsimp only at f i m⊢;rw[Array.toList_push]at f;have Hz:xV c w d.toList:=λe F=>by
    rcases aX.mp (f.mem_iff.mp F)with F|F;·exact p e F
    ·rw[aI]at F;subst F;exact⟨PU hx,by rw[Aa hx]⟩
   have kp:(qf d.toList).Perm (qf v.toList++[k]):=by have:=f.map λe=>vK e.2;rw[bM]at this;rw[show[k]=List.map (λe=>vK e.2) [((kg c w).hash k,x)]from by rw[aW,dr,Aa hx]];exact this
   have J:(qf d.toList).Nodup:=kp.nodup_iff.mpr (List.nodup_append.mpr ⟨ue,by simp,λy hy z hz w=>hnot<|by rw[aI]at hz;rw[<-hz,<-w];exact hy⟩);have M:∀N,N∈qf d.toList↔N∈k::ks:=λN=>by rw[kp.mem_iff,aX,aI,az,D N];exact or_comm
   have ads:d.size=v.size+1:=by rw[<-aG,f.length_eq,aq,aG];rfl
   have yY:d.size<scanBound:=by lia
   refine ae (hgw _ ?_)
   have I:∀(l:lF),l.fits d.size=true->ox (w.params.followText "set-order") l->wpAny (model c w) A (do
    storeSet a d l
    if(!u&&l.tooFull)=true then do
       (match(relayAll l d<|SetTable.grown d.size).2.2 with|true=>rule "set.scan.the-table-gave-way"|false=>pure ())
       storeSet a (relayAll l d<|SetTable.grown d.size).1 (relayAll l d<|SetTable.grown d.size).2.1
       pure (some true)
     else pure (some true)) (λr s'=>∃G,s'={s with heap:=G}/\r=some true/\Heap.SameBut a s.heap G/\pz c w G a (k::ks) (n+1)) E s:=λl Q7 EO=>by
    refine ae (fD ho hd ?_ (fits_of_scanBound yY));have U:(s.heap.update a<|Obj.putSet d l).get? a=some {o with data:=.set d (ep+1) l}:=by have:=aY (Obj.putSet d l) ho (by rw[fQ d l hd];rfl);rw[fQ d l hd]at this;exact this
    have O:=bF s.heap a (Obj.putSet d l);split
    ·have hp:=relayAll_perm l d (SetTable.grown d.size);have V:=relayAll_fits l d (SetTable.grown d.size);have T:=abp EO d (SetTable.grown d.size);generalize Qx:relayAll l d (SetTable.grown d.size)=Rl at hp V T⊢;obtain⟨q,Z,adg⟩:=Rl;dsimp only at hp V T⊢;have hsz:q.size=d.size:=by rw[<-aG,hp.length_eq,aG]
     refine ae (hgw _ ?_);refine ae (fD U rfl ?_ (fits_of_scanBound<|by rw[hsz];exact yY));have C2:((s.heap.update a<|Obj.putSet d l).update a (Obj.putSet q Z)).get? a=some {o with data:=.set q (ep+1+1) Z}:=by have:=aY (Obj.putSet q Z) U (by rw[fQ q Z rfl];rfl);rw[fQ q Z rfl]at this;exact this
     exact af ⟨_,rfl,rfl,O.trans<|bF _ a _,_,q,_,Z,C2,Y,rfl,λe F=>Hz e<|hp.mem_iff.mp F,by simp_all,V,T,(hp.map λe:Int×je=>vK e.2).nodup_iff.mpr J,λN=>by rw[<-M N];exact(hp.map λe:Int×je=>vK e.2).mem_iff⟩
    ·exact af ⟨_,rfl,rfl,O,_,d,_,l,U,Y,rfl,Hz,by simp_all,Q7,EO,J,M⟩
   split
   ·refine ae ?_;rw[hashByValue_scannable 8 IK];refine af ?_;refine bC (I _ ?_ ?_) (λr s' hr=>?_) λ_ _ z=>z
    ·split;·exact i
     ·exact SetTable.fits_plain_off i
    ·split;·exact m
     ·exact⟨m.led,λz=>(by cases z),λz=>(by cases z)⟩
    ·obtain⟨G,rfl,rfl,R,h2⟩:=hr;exact af (h true G R h2)
   ·refine ae (af ?_);simp only[↓reduceIte];refine bC (I _ i m) (λr s' hr=>?_) λ_ _ z=>z;obtain⟨G,rfl,rfl,R,h2⟩:=hr;exact af (h true G R h2)
end
section
abbrev _root_.yq:=Nat->je->Prop
variable{f:jT}{w:jK}{A:kh}{R:tq}{I:ja}{K H:nN}{G:kr GenState->kr GenState->Prop}{n:Nat}{P:yq}{St:uO}
def LM(W:WalksS f w A.in1 I K H G n P St)(S:ja)(D:S∉K){J:uO}(mv:∀i s a,St i s->Moved H G s a->J i s->J i a)
    (step:∀i v s (Q:pA) E,i<n->P i v->J i s->(∀r y tk,s.toks<=tk->Heap.SameBut S s.heap y->J (i+1) {s with heap:=y,toks:=tk}->Q r {s with heap:=y,toks:=tk})->wpAny (model f w) A.in1 (setAdd S v) Q E s):
    ∀(k i:Nat) (s:jr),n - i=k->i<=n->St i s->J i s->(∀a,Moved (S::H) G s a->J n a->R (.ok<|.ret .none) a)->codeAny (model f w) A (.builtin "set.update.loop" ⟨[.ref S,.ref I],[]⟩) R s:=by
 have j:∀b∈H,b∈S::H:=λb u=>bf _ u;intro k;induction k with
 |zero=>
  intro i s O T c M F;have C:i=n:=by grind
  subst C;refine cj eP ?_;rw[bX cY _];show wpAny _ A.in1 (pyNext (.ref I)>>=_) _ _ s;refine ae (W.done s _ _ c λa d=>?_);show wpAny _ A.in1 (ret Value.none) _ _ a;exact af (F a (d.mono j)<|mv _ _ _ c d M)
 |succ k N=>
  intro i s O T c M F;have l:i<n:=by omega
  refine cj eP ?_;rw[bX cY _];show wpAny _ A.in1 (pyNext (.ref I)>>=_) _ _ s;refine ae (W.item i s _ _ l c λv a U p d=>?_);show wpAny _ A.in1 (holding [v] (setAdd S v)>>=_) _ _ a;refine ae (bI<|step i v a _ _ l U (mv _ _ _ c d M) λr y tk m q L=>?_);refine af ⟨cR cY _,N (i+1) _ (by grind) l (W.frame _ a _ _ p m λb u o e=>?_) L λz t x=>?_⟩;·rw[q.2 b (λh:b=S=>D<|by rw[<-h];exact u)];exact e
  ·refine F z (Moved.trans W.gtrans ((d.mono j).then_heap m λb o u e=>?_) t) x;rw[q.2 b (λh:b=S=>u<|by rw[h];exact bY)];exact e
def JP{a:Type}{val:Nat->a}{i:Nat}{c:aa a}(d:∀x,x∈c↔x∈(List.range i).map val)(x:a):x∈val i::c↔x∈(List.range<|i+1).map val:=by rw[List.range_succ,bM,aX,az,d x];show x=val i\/_↔_\/x∈[val i];rw[aI];exact or_comm
def aah(W:WalksS f w A.in1 I K H G n P St)(S:ja)(l:S∉K)
    (val:Nat->Key)(j:∀i v,P i v->RelV (kV<|val i) v)(O:n+1<scanBound)(s:jr)(m:St 0 s)(t:pz f w s.heap S [] 0)
      (F:∀c d,Moved (S::H) G s c->pz f w c.heap S d n->(∀x,x∈d↔x∈(List.range n).map val)->R (.ok<|.ret .none) c):
      codeAny (model f w) A (.builtin "set.update.loop" ⟨[.ref S,.ref I],[]⟩) R s:=by
 refine LM W S l (J:=λi s=>∃a,pz f w s.heap S a i/\∀x,x∈a↔x∈(List.range i).map val) (λi s c _ q ⟨a,y,u⟩=>⟨a,y.keep λo e=>q.heap S _ (λh=>l<|W.sub _ h) e,u⟩) (λi v s Q E D M ⟨a,t,C⟩ L=>?_) n 0 s rfl (bQ _) m ⟨[],t,λx=>by simp⟩ λc y ⟨a,u,N⟩=>F c a y u N;have z:=j i v M;unfold setAdd;refine bI ?_;refine ae ((kg f w).pyHash (k:=val i) (pG z) ?_);exact Nd (s:={s with toks:=s.toks+1}) z t (by lia) λb T p r=>L _ _ _ (c6 _) p ⟨_,r,JP C⟩
variable{E:ki}{s:jr}
abbrev oX(w:jK):lE:={cls:=.type "set",dict:=none,data:=.set #[] 0 (.fresh 0 0<|!(w.params.followText "set-order"))}
def Oc(a){Q₁:ki}(h:Q₁ (.ref s.heap.objs.size) {s with heap:=s.heap.push<|oX w}):
    codeAny (model f w) A (.call (.builtin "set.__new__") ⟨[.type "set",a],[]⟩) (wants Q₁ E) s:=by
 refine codeAny_of_tree ?_;show wpAny _ A.in1 (do checkBuiltinCall "set.__new__" ⟨[.type "set",a],[]⟩;again (.builtin "set.__new__" ⟨[.type "set",a],[]⟩)) _ _ s;refine ae (f3 (PySem.F.newCall_set_1 a)<|af ⟨cR iy _,cj PySem.F.entry_set_new ?_⟩);rw[bX iy _];unfold Builtin.«set.__new__» Builtin.Frozenset.newClass;have c:=sub_set_self;obtain⟨j,g,d,tk,i⟩:=s;dsimp only
 wp_walk
 refine gY (af ?_);dsimp only;simp only[newObj];refine ae (wpAny_alloc<|af ?_);exact af h
def aac{h:jw}(e:h.get? a=some (oX w)):pz f w h a [] 0:=
 ⟨_,#[],0,_,e,⟨rfl,rfl,rfl⟩,rfl,λe c=>by simp at c,ai _,by rfl,abm _,by unfold qf;exact .nil,λk=>by unfold qf;simp⟩
def GU{F:jw->Prop}{Q:ki}(hh:A.handled=none)(hl:s.heap.IsList l items)
 (u:∀{I} {K H} {G} {St} {R:tq} {z},WalksS f w A.in1.in1.in1 I K H G items.size (λi v=>items[i]?=some v) St->s.heap.objs.size∉K->St 0 z->z.heap.get? s.heap.objs.size=some (oX w)->
 (∀b o,s.heap.get? b=some o->z.heap.get? b=some o)->(∀b∈H,s.heap.objs.size<b)->(∀i s,St i s->∀b∈H,∀o L m,s.heap.get? b=some o->o.data=.seq L m->o.cls=.type "tuple"->False)->(∀C,Moved (s.heap.objs.size::H) G z C->F C.heap->R (.ok<|.ret .none) C)->
 codeAny (model f w) A.in1.in1 (.builtin "set.update.loop" ⟨[.ref s.heap.objs.size,.ref I],[]⟩) R z)
 (h:∀d tk,F d->(∀b o,b<s.heap.objs.size->s.heap.get? b=some o->d.get? b=some o)->Q (.ref s.heap.objs.size) {s with heap:=d,toks:=tk}):
   wpAny (model f w) A (call (.type "set") [.ref l]) Q E s:=by
  obtain⟨c,tl,adm⟩:=PySem.F.called_set.mro;have adk:=PySem.F.called_set.made;have hsub:=PySem.F.called_set.sub;refine wpAny_call (codeAny_of_tree ?_);show wpAny _ _ (callAny (.type "set") _) _ _ _;refine af ⟨Code.quiet_builtin _<|by decide+kernel,cj PySem.F.entry_type_call ?_⟩;rw[Around.under_plain (weight_type_call_type "set" [.ref l] []) rfl];have h1:=PySem.F.called_set.notType;have h2:=PySem.F.called_set.canCreate;have hct:=PySem.F.typeCall_set_1 (.ref l);repeat(any_goals(first|assumption|wp_step))
  refine fm (Oc (.ref l) (E:=E) (Q₁:=λJ p=>J=.ref s.heap.objs.size/\p={s with heap:=s.heap.push<|oX w}) ⟨rfl,rfl⟩) λr p hr=>?_;cases r with
  |error e=>exact hr
  |ok fl=>
   cases fl with
   |ret J=>
    obtain⟨rfl,rfl⟩:=hr;have hS:(s.heap.push<|oX w).get? s.heap.objs.size=some (oX w):=aD _ rfl;have hT:Shared.TypeIs {s with heap:=s.heap.push<|oX w} (.ref s.heap.objs.size) "set":=⟨_,hS,rfl⟩;have hli:=PySem.F.called_set.init.lookup;have hbi:=PySem.F.called_set.init.bind (.ref s.heap.objs.size);repeat(any_goals(first|assumption|wp_step))
    refine fm (fZ (R:=wants (λr k=>r=.none/\∃d tk,k={s with heap:=d,toks:=tk}/\F d/\
     (∀b o,b<s.heap.objs.size->s.heap.get? b=some o->d.get? b=some o)) E) PySem.F.called_set.init.plain PySem.F.entry_set_init (check_set_init_1 hT ?_)) λD k a=>?_
    ·obtain⟨ol,N,Z,nl,Y⟩:=hl;obtain⟨ady,t,adz,j⟩:=ol;simp only at Z Y;subst Z;subst Y;have M:(s.heap.push<|oX w).get? l=some {cls:=.type "list",dict:=t,data:=.seq items nl,slots:=j}:=ah _ N;have adq:=PySem.F.sub_list_set;have adp:=PySem.F.sub_list_frozenset;have hne:(Value.type "list"==Value.type "dict")=false:=by decide
     have V:(s.heap.push<|oX w).IsList l items:=⟨_,M,rfl,nl,rfl⟩;unfold Builtin.«set.__init__» noKeywords Builtin.Frozenset.updateFrom;generalize Qv:pyIter=PI
     wp_walk
     subst Qv;refine dm V ?_;refine ae (wpAny_runValue ?_);have U:l<s.heap.objs.size:=Heap.lt_size N;have CS:A.in1.in1.in1.handled=none:=by simp[hh]
     have T:l≠(s.heap.push<|oX w).objs.size:=by rw[cy];exact aU (bW U)
     have hSf:s.heap.objs.size∉[(s.heap.push<|oX w).objs.size,l]:=by rw[cy];simp only[az,aI,cF,fY,i6];exact⟨aU<|bH _,cP U⟩
     refine u ((Walks.list CS _ l T items).toS) hSf ⟨⟨_,aD _ rfl,rfl,rfl⟩,(V.push _)⟩ (ah _ hS) (λb o e=>ah _<|ah _ e) (λb q=>?hw) ?hnt ?hR;case hw=>rw[aI]at q;rw[q,cy];exact bH _
     case hnt=>intro i s3 wJ b q o L m ho hd hc;rw[aI]at q;subst q;obtain⟨⟨o',O,IF,_⟩,_⟩:=wJ;rw[ho]at O;cases O;rw[hc]at IF;exact absurd IF (by simp)
     case hR=>
      intro C hm x;obtain⟨d,g',d',EN,D7⟩:=C;have eg:g'=s.gens:=hm.gens;have ed:d'=s.drawn:=hm.drawn;have eo:D7=s.os:=hm.os;subst eg;subst ed;subst eo;show wpAny _ _ _ _ _ _;refine af ?_;show wpAny _ _ (ret Value.none) _ _ _;refine af ⟨rfl,d,EN,rfl,x,λb o q e=>?_⟩
      ·have yY:b≠s.heap.objs.size:=aU q;have Q3:b≠(s.heap.push<|oX w).objs.size:=by
        rw[cy];exact aU (bW q)
       exact hm.heap b o (by simp only[az,aI,cF,fY,i6];exact⟨yY,Q3⟩) (ah _<|ah _ e)
    ·cases D with
     |error e=>exact a
     |ok y=>
      cases y with
      |ret r=>
       obtain⟨rfl,d,tk,rfl,x,Ri⟩:=a;repeat(any_goals(first|assumption|wp_step))
       exact h _ _ x Ri
      |_=>exact a.elim
   |_=>exact hr.elim
def NQ{ks:oz}{Q:ki}(D:A.handled=none)(C:s.heap.IsList l items)(r:Vals (ks.map kV) items.toList)(J:items.size+1<scanBound)
 (h:∀d tk a,pz f w d s.heap.objs.size a items.size->(∀x,x∈a↔x∈ks)->
 (∀b o,b<s.heap.objs.size->s.heap.get? b=some o->d.get? b=some o)->Q (.ref s.heap.objs.size) {s with heap:=d,toks:=tk}):
   wpAny (model f w) A (call (.type "set") [.ref l]) Q E s:=by
  have c:items.size=ks.length:=by have:=r.length;rw[ao,aG]at this;exact this.symm
  refine GU (F:=λd=>∃a,pz f w d s.heap.objs.size a items.size/\∀x,x∈a↔x∈ks) D C (λW k st O _ _ _ L=>?_) λd tk ⟨a,p,m⟩ M=>h d tk a p m M;refine aah W _ k (λi=>ks.getD i<|.inl 0) (λi v hv=>?_) J _ st (aac O) λt a z p m=>L t z ⟨a,p,λx=>by rw[m x,c,Ct ks<|.inl 0]⟩;have j:i<ks.length:=by rw[<-c];exact(bD.mp hv).1
  have N:(ks.map kV)[i]?=some (kV<|ks.getD i<|.inl 0):=by rw[aH,ar j,bc,ar j];rfl
  obtain⟨u,q,y⟩:=r.get N;rw[bg,hv]at q;cases q;exact y
def qr:Slot "set_iterator" "__next__" "set_iterator.__next__":=
 .of (owner:="set_iterator") (n:="__next__") (by rw[iu,fN];kernel_rfl) (by decide+kernel) (by decide+kernel) (by decide+kernel)
  (by first|exact .inl (by decide+kernel)|exact .inr (by decide+kernel)) (by rw[iO];kernel_rfl)
def yH:entryFor table "set_iterator.__next__"=some Builtin.«set_iterator.__next__»:=entryFor_of_tree (by kernel_rfl)
def adA:Manifest.owners.lookup (String.ofList ['r','o','t','a','r','e','t','i','_','t','e','s'].reverse)=some Manifest.sig_set_iterator:=by kernel_rfl
def yy(a):argsOk "set_iterator.__next__" ⟨[a],[]⟩:=by rfl
def Px:entryFor table "set.__iter__"=some Builtin.«frozenset.__iter__»:=
 entryFor_alias (id':="frozenset.__iter__") (by kernel_rfl) rfl (by decide+kernel) (by kernel_rfl)
theorem Eg{a:Type}:∀(l:aa a) i (h:i<l.length),(l[i]::l.eraseIdx i).Perm l
 |x::l,0,_=>.refl _
 |x::l,i+1,h=>by
  have c:i<l.length:=by simpa using h
  show(l[i]::x::l.eraseIdx i).Perm (x::l);exact(List.Perm.swap _ _ _).trans (List.Perm.cons x<|Eg l i c)
def Af{Q:pA}(h:Q (w.params.followText "set-order") s):wpAny (model f w) A setsByText Q E s:=by unfold setsByText;exact ae (gY<|af h)
def wp_choose{n}{Q:uO}(a:n≠0)(h:∀i d,i<n->Q i {s with drawn:=d}):wpAny (model f w) A (choose src n) Q E s:=λj p c=>by show Sem.wp _ _ (.choose src n .pure) _ _ _ _;rw[Sem.wp_choose];refine⟨a,?_⟩;exact h _ _ (eY _<|Nat.pos_of_ne_zero a)
theorem MB{k:Type}:∀n (xs:aa k) {s:jr} {Q:aa k->jr->Prop},xs.length=n->(∀c d,c.Perm xs->Q c {s with drawn:=d})->wpAny (model f w) A (drawOrder n xs) Q E s
 |0,xs,s,Q,a,h=>by have e:xs=[]:=gZ.mp a;subst e;unfold drawOrder;exact af (h [] s.drawn<|.refl _)
 |n+1,[],s,Q,a,h=>by simp at a
 |n+1,x::xs,s,Q,a,h=>by unfold drawOrder;refine ae (wp_choose (by simp) λi d j=>?_);rw[ar j];dsimp only;refine ae (MB n ((x::xs).eraseIdx i) (by rw[iP,au j];simp_all) λc d2 l=>af ?_);refine h _ d2 ?_;exact(List.Perm.cons _ l).trans (Eg (x::xs) i j)
def mX(h:jw)(c:ja)(first:je)(i:Nat)(a:ja)(n d:Nat):Prop:=∃o,h.get? c=some o/\o.cls=.type "set_iterator"/\o.data=.fields #[first,.int i 0,.ref a,.int n 0,.int d 0]
abbrev _root_.rj:=kr (Int×je)
def nq(h:jw)(a:ja)(c:rj)(d:Nat)(t:lF):Prop:=∃o,h.get? a=some o/\o.ExactSet/\o.data=.set c d t/\t.fits c.size=true
def nq.at'{h':jw}{t}(x:nq h a es ep t)(k:∀o,h.get? a=some o->h'.get? a=some o):nq h' a es ep t:=let⟨o,c,r⟩:=x;⟨o,k o c,r⟩
def mX.at'{h':jw}{n}(x:mX h it first i a n ep)(k:∀o,h.get? it=some o->h'.get? it=some o):mX h' it first i a n ep:=let⟨o,c,r⟩:=x;⟨o,k o c,r⟩
def mX.typeIs{s:jr}{n}(x:mX s.heap it first i a n ep):s.TypeIs (.ref it) "set_iterator":=let⟨o,c,d,_⟩:=x;⟨o,c,d⟩
variable{z a:ja}{i y:Nat}{C:rj}{t:lF}
abbrev _root_.yi:=jm (je×Nat)->jr->Prop
def LK{Q:yi}(q:w.params.followText "set-order"=false)(l:nq s.heap a C y t)(k:(!t.plain&&decide (C.size>1))=false)(d:t.led=true)
 (h:Q (match C[SetTable.below t.place slot]?,t.place[SetTable.below t.place slot]? with|some (_,x),some j=>some (x,j+1)|_,_=>none) s):wpAny (model f w) A (setNext a slot i y) Q E s:=by obtain⟨o,m,_,p,hf⟩:=l;unfold setNext;refine ae (cb m p hf ?_);refine ae (Af ?_);rw[q];refine aZ (λc=>absurd c ay) (λ_=>?_);refine aZ (λc=>absurd (show(!t.plain&&decide (C.size>1))=true from c) (by rw[k];exact ay)) (λ_=>?_);refine ae ?_;show wpAny _ _ (if(!t.led&&!C.isEmpty)=true then _ else _) _ _ _;rw[d];refine aZ (λc=>absurd (show false=true from c) ay) (λ_=>af ?_);exact af h
def LL{Q:yi}(k:w.params.followText "set-order"=true)(l:nq s.heap a C y t)
 (h:Q (((pickOrder (w.params.setOrder a y) C)[i]?).map λe=>(e.2,slot)) s):wpAny (model f w) A (setNext a slot i y) Q E s:=by obtain⟨o,d,_,j,hf⟩:=l;unfold setNext;refine ae (cb d j hf ?_);refine ae (Af ?_);rw[k];refine aZ (λ_=>?_) (λc=>absurd rfl c);refine aZ (λc=>absurd c<|by simp) (λ_=>?_);refine ae ?_;unfold setWalk;refine ae (cb d j hf ?_);dsimp only;refine ae (Af ?_);rw[k];refine aZ (λ_=>?_) (λc=>absurd rfl c);refine ae (gY<|af ?_);exact af h
def I7{slot nx:Nat}{x:je}{Q:pV}(hit:mX s.heap z (.int slot 0) i a C.size y)(v:nq s.heap a C y t)
    (D:∀(B:kh) (M:ki) (u:yi),u (some (x,nx)) s->wpAny (model f w) B (setNext a slot i y) u M s)
    (L:∀r,mX r z (.int nx 0) (i+1) a C.size y->Heap.SameBut z s.heap r->Q (some x) {s with heap:=r}):wpAny (model f w) A (pyNext<|.ref z) Q E s:=by
 obtain⟨o,l,J,h⟩:=id hit;obtain⟨N,j,F,p,m⟩:=id v;unfold pyNext
 refine ae (dE (bR (name:=Str.ofString "__next__") hit.typeIs qr
  (bB qr hit.typeIs yH ?_ (yy _))))
 show wpAny _ _ (fieldsOf (.ref z)>>=_) _ _ s;refine ae (da l h ?_);show wpAny _ _ (setEntries a>>=_) _ _ s;refine ae (dM j p m ?_);refine aZ (λq=>absurd q<|by simp) (λ_=>?_);show wpAny _ _ (setNext a (Int.toNat slot) (Int.toNat i) (Int.toNat y)>>=_) _ _ s;rw[bJ,bJ,bJ];refine ae (D _ _ _ ?_);show wpAny _ _ (setField (.ref z) 0 (rawInt nx)>>=_) _ _ s;refine ae (cg l h (by simp) ?_);have d:=aY (Obj.mapFields (·.setIfInBounds 0 (rawInt nx))) l (b7<|bw h _);have c:(Obj.mapFields (·.setIfInBounds 0 (rawInt nx)) o).data=.fields #[rawInt nx,.int i 0,.ref a,.int C.size 0,.int y 0]:=by rw[bw h];simp
 refine ae (cg d c (by simp) ?_);have k:=aY (Obj.mapFields (·.setIfInBounds 1 (rawInt<|(i:Int)+1))) d (b7<|bw c _);show wpAny _ _ (pure _) _ _ _;exact af ⟨_,rfl,af<|L _ ⟨_,k,(du ..).trans ((du ..).trans J),by rw[bw c];simp[rawInt]⟩<|(bF ..).trans (bF ..)⟩
def I0{c:Nat}{Q:pV}(x:A.handled=none)(hit:mX s.heap z (.int c 0) i a C.size y)(u:nq s.heap a C y t)
    (v:∀(B:kh) (J:ki) (r:yi),r none s->wpAny (model f w) B (setNext a c i y) r J s)
    (F:∀q,Heap.ExtBut z s.heap q->Q none {s with heap:=q}):wpAny (model f w) A (pyNext<|.ref z) Q E s:=by
 obtain⟨o,l,M,p⟩:=id hit;obtain⟨L,d,D,j,h⟩:=id u;unfold pyNext
 refine ae (dE (bR (name:=Str.ofString "__next__") hit.typeIs qr
  (bB qr hit.typeIs yH ?_ (yy _))))
 show wpAny _ _ (fieldsOf (.ref z)>>=_) _ _ s;refine ae (da l p ?_);show wpAny _ _ (setEntries a>>=_) _ _ s;refine ae (dM d j h ?_);refine aZ (λk=>absurd k<|by simp) (λ_=>?_);show wpAny _ _ (setNext a (Int.toNat c) (Int.toNat i) (Int.toNat y)>>=_) _ _ s;rw[bJ,bJ,bJ];refine ae (v _ _ _ ?_);show wpAny _ _ (setField (.ref z) 2 .none>>=_) _ _ s;refine ae (cg l p (by simp) ?_);refine ae ?_;simp only[newExc,newTuple];refine ae (a9 ?_ (by size_fits));refine ae (m:=firstArgMember _ _) (f3 (a:=Value.none) (by first|rfl|(simp only[firstArgMember];rfl)) ?_);refine a9 ?_ (by size_fits);simp only[raiseNew];refine ae (gE ?_);rw[show A.in1.handled=none from x];refine ae (af<|iM ?_);refine ae (dR (T:="StopIteration") (b:=true) ⟨_,aD _ rfl,rfl⟩ gs ?_);exact af (F _<|((bF ..).extBut.push _).push _)
def SE{p:ja}{x:lE}{pl:tr}{m q:Nat}{tk:Tok}{e:Int×je}{Q:pV}(J:s.heap.get? p=some x)(l:x.data=.seq pl m)(hit:mX s.heap z (.ref p) i a C.size y)(D:nq s.heap a C y t)
    (F:pl[i]?=some (.int q tk))(M:C[q]?=some e)
    (O:∀v,mX v z (.ref p) (i+1) a C.size y->Heap.SameBut z s.heap v->Q (some e.2) {s with heap:=v}):wpAny (model f w) A (pyNext<|.ref z) Q E s:=by
 obtain⟨o,u,N,k⟩:=id hit;obtain⟨T,d,L,j,h⟩:=id D;unfold pyNext
 refine ae (dE (bR (name:=Str.ofString "__next__") hit.typeIs qr
  (bB qr hit.typeIs yH ?_ (yy _))))
 show wpAny _ _ (fieldsOf (.ref z)>>=_) _ _ s;refine ae (da u k ?_);show wpAny _ _ (setEntries a>>=_) _ _ s;refine ae (dM d j h ?_);refine aZ (λc=>absurd c<|by simp) (λ_=>?_);show wpAny _ _ (seqItems? (.ref p)>>=_) _ _ s;refine ae (dc J l ?_);dsimp only;rw[show(Int.toNat (i:Int))=i from bJ i,F];show wpAny _ _ (setNextDrawn a (Int.toNat q) (Int.toNat y)>>=_) _ _ s;rw[bJ,bJ];refine ae ?_;unfold setNextDrawn;refine ae (cb d j h ?_);dsimp only;refine aZ (λc=>absurd c<|by simp) (λ_=>?_);rw[M];refine af ?_;refine ae (cg u k (by simp) ?_);have r:=aY (Obj.mapFields (·.setIfInBounds 1 (rawInt<|(i:Int)+1))) u (b7<|bw k _);show wpAny _ _ (pure _) _ _ _;exact af ⟨_,rfl,af<|O _ ⟨_,r,(du ..).trans N,by rw[bw k];simp[rawInt]⟩<|bF ..⟩
def SD{pl}{Q:pV}(J:A.handled=none)(F:s.heap.get? p=some op)(d:op.data=.seq pl m)(hit:mX s.heap z (.ref p) i a C.size y)(x:nq s.heap a C y t)
 (D:pl[i]?=none)(M:∀v,Heap.ExtBut z s.heap v->Q none {s with heap:=v}):wpAny (model f w) A (pyNext<|.ref z) Q E s:=by
  obtain⟨o,k,O,c⟩:=id hit;obtain⟨N,h,L,q,l⟩:=id x;unfold pyNext
  refine ae (dE (bR (name:=Str.ofString "__next__") hit.typeIs qr
   (bB qr hit.typeIs yH ?_ (yy _))))
  show wpAny _ _ (fieldsOf (.ref z)>>=_) _ _ s;refine ae (da k c ?_);show wpAny _ _ (setEntries a>>=_) _ _ s;refine ae (dM h q l ?_);refine aZ (λu=>absurd u<|by simp) (λ_=>?_);show wpAny _ _ (seqItems? (.ref p)>>=_) _ _ s;refine ae (dc F d ?_);dsimp only;rw[show(Int.toNat (i:Int))=i from bJ i,D];show wpAny _ _ (setField (.ref z) 0 (rawInt 0)>>=_) _ _ s;refine ae (cg k c (by simp) ?_);have j:=aY (Obj.mapFields (·.setIfInBounds 0 (rawInt 0))) k (b7<|bw c _);have r:(Obj.mapFields (·.setIfInBounds 0 (rawInt 0)) o).data=.fields #[rawInt 0,.int i 0,.ref a,.int C.size 0,.int y 0]:=by rw[bw c];simp
  show wpAny _ _ (setField (.ref z) 2 .none>>=_) _ _ _;refine ae (cg j r (by simp) ?_);show wpAny _ _ (newExc (.type "StopIteration") []>>=_) _ _ _;refine ae ?_;simp only[newExc,newTuple];refine ae (a9 ?_ (by size_fits));refine ae (m:=firstArgMember _ _) (f3 (a:=Value.none) (by first|rfl|(simp only[firstArgMember];rfl)) ?_);refine a9 ?_ (by size_fits);simp only[raiseNew];refine ae (gE ?_);rw[show A.in1.handled=none from J];refine ae (af<|iM ?_);refine ae (dR (T:="StopIteration") (b:=true) ⟨_,aD _ rfl,rfl⟩ gs ?_);exact af (M _<|(((bF ..).trans (bF ..)).extBut.push _).push _)
end
def LQ:Slot "set_iterator" "__iter__" "set_iterator.__iter__":=
 .of (owner:="set_iterator") (n:="__iter__") (by rw[iu,fN];kernel_rfl) (by decide+kernel) (by decide+kernel) (by decide+kernel)
  (by first|exact .inl (by decide+kernel)|exact .inr (by decide+kernel)) (by rw[iO];kernel_rfl)
def Py:entryFor table "set_iterator.__iter__"=some Builtin.«dict_keyiterator.__iter__»:=
 entryFor_alias (id':="dict_keyiterator.__iter__") (by kernel_rfl) rfl (by decide+kernel) (by kernel_rfl)
def Nk(a):argsOk "set_iterator.__iter__" ⟨[a],[]⟩:=by rfl
def Di{w}{s:jr}{n}{Q:ki}(hit:mX s.heap it first i a n ep)(h:Q (.ref it) s):wpAny (model prog w) A (pyIter<|.ref it) Q E s:=by refine fy hit.typeIs LQ (bB LQ hit.typeIs Py ?_ (Nk _));exact af ⟨_,rfl,"set_iterator",_,hit.typeIs,qr.lookup,h⟩
theorem KQ{h:Type}(f):∀a k (left:aa h) out,left.length=a->(pickOrder.go f a k left out).toList.Perm (out.toList++left)
 |0,k,left,out,d=>by have e:left=[]:=gZ.mp d;subst e;show out.toList.Perm (out.toList++[]);rw[bz]
 |a+1,k,left,out,d=>by unfold pickOrder.go;have c:f k%left.length<left.length:=eY _ (by simp_all);rw[ar c];dsimp only;refine(KQ f a (k+1) _ _<|by rw[iP,au c];simp_all).trans ?_;rw[Array.toList_push,bP];exact List.Perm.append_left _ (Eg left _ c)
def Eh{c:Type}(f:Nat->Nat)(a:kr c):(pickOrder f a).toList.Perm a.toList:=by have:=KQ f a.size 0 a.toList #[] (by simp);simpa [pickOrder]using this
def slotAt(place:nO)(i:Nat):Nat:=if i=0 then 0 else place.getD (i - 1) 0+1
def Gw{place}(h:mw place):∀i,i<=place.size->SetTable.below place (slotAt place i)=i
 |0,_=>Nv h
 |i+1,a=>by
  have e:slotAt place (i+1)=place[i]+1:=by unfold slotAt;simp[Array.getD,show i<place.size by walk_at "l"]
  rw[e];exact Nu h (by walk_at "l")
section
variable{f:jT}{w:jK}{A:kh}{E:ki}{s:jr}{a:ja}{C:Nat}{c:rj}{t:lF}
def My(F:A.handled=none)(d:w.params.followText "set-order"=false)(I)(ne:a≠I)(k:mw t.place)(L:t.place.size=c.size)(n:(!t.plain&&decide (c.size>1))=false)(j:t.led=true):
    Walks f w A I [I,a] [I] c.size (λi v=>(c.toList.map Prod.snd)[i]?=some v) (λi h=>mX h I (.int (slotAt t.place i) 0) i a c.size C/\nq h a c C t) where
 sub:=λb d=>by simp at d;simp[d]
 frame:=λ_ _ _ st z=>⟨st.1.at' λo e=>z I (by simp) o e,st.2.at' λo e=>z a (by simp) o e⟩
 item:=λi s Q E D st p=>by
  have y:i<t.place.size:=by simp_all
  refine I7 (slot:=slotAt t.place i) (nx:=slotAt t.place<|i+1) (x:=c[i].2) st.1 st.2 (λB J G q=>LK d st.2 n j ?_) λu m l=>?_
  ·rw[Gw k i<|by walk_at "l",aM D,aM y];have e:slotAt t.place (i+1)=t.place[i]+1:=by
    unfold slotAt;rw[ax<|by lia,Nat.add_sub_cancel];simp[Array.getD,y]
   rw[e]at q;exact q
  ·exact p _ u s.toks (by rw[aH,bg,aM D];rfl) ⟨m,st.2.at' λo e=>l.extBut a o ne e⟩ λb o d e=>l.extBut b o (λh=>d<|by simp[h]) e
 done:=λs Q E st p=>by refine I0 F st.1 st.2 (λB J G q=>LK d st.2 n j ?_) λu r=>p u s.toks λb o d e=>r b o (λh=>d<|by simp[h]) e;rw[Gw k c.size<|by simp_all,cI<|ai _];exact q
 self:=λi s Q E st p=>Di st.1 p
def abI(y:A.handled=none)(d:w.params.followText "set-order"=true)(I:ja)(ne:a≠I):
    Walks f w A I [I,a] [I] c.size (λi v=>((pickOrder (w.params.setOrder a C) c).toList.map Prod.snd)[i]?=some v) (λi h=>mX h I (.int (0:Nat) 0) i a c.size C/\nq h a c C t) where
 sub:=λb d=>by simp at d;simp[d]
 frame:=λ_ _ _ st u=>⟨st.1.at' λo e=>u I (by simp) o e,st.2.at' λo e=>u a (by simp) o e⟩
 item:=λi s Q E F st l=>by
  have m:(pickOrder (w.params.setOrder a C) c).size=c.size:=by have:=(Eh (w.params.setOrder a C) c).length_eq;simpa using this
  have r:i<(pickOrder (w.params.setOrder a C) c).size:=by simp_all
  refine I7 (slot:=0) (nx:=0) (x:=(pickOrder (w.params.setOrder a C) c)[i].2) st.1 st.2 (λB D z q=>LL d st.2 ?_) λp k j=>?_
  ·rw[aM r];exact q
  ·exact l _ p s.toks (by rw[aH,bg,aM r];rfl) ⟨k,st.2.at' λo e=>j.extBut a o ne e⟩ λb o d e=>j.extBut b o (λh=>d<|by simp[h]) e
 done:=λs Q E st l=>by
  have m:(pickOrder (w.params.setOrder a C) c).size=c.size:=by have:=(Eh (w.params.setOrder a C) c).length_eq;simpa using this
  refine I0 y st.1 st.2 (λB D z q=>LL d st.2 ?_) λp n=>l p s.toks λb o d e=>n b o (λh=>d<|by simp[h]) e;rw[cI<|by walk_at "l"];exact q
 self:=λi s Q E st l=>Di st.1 l
def abH(P:A.handled=none)(I p)(ne:a≠I)(O:p≠I){d:lC}(k:d.Perm<|List.range c.size):
    Walks f w A I [I,a,p] [I] c.size (λi v=>(d.map λq=>(c.getD q (0,.none)).2)[i]?=some v) (λi h=>mX h I (.ref p) i a c.size C/\nq h a c C t/\∃j m,h.get? p=some j/\j.data=.seq (d.map λ(i:Nat)=>rawInt i).toArray m) where
 sub:=λb r=>by simp at r;simp[r]
 frame:=λ_ _ _ st G=>⟨st.1.at' λo e=>G I (by simp) o e,st.2.1.at' λo e=>G a (by simp) o e,let⟨j,m,x,u⟩:=st.2.2;⟨j,m,G p (by simp) j x,u⟩⟩
 item:=λi s Q E R st z=>by
  obtain⟨F,D,j,m,x,u⟩:=st;have N:d.length=c.size:=by have:=k.length_eq;simpa using this
  have n:i<d.length:=by simp_all
  have M:d[i]<c.size:=by have:=k.mem_iff.mp (bU n);simpa using this
  refine SE (q:=d[i]) (tk:=0) (e:=c[d[i]]) x u F D (by simp[n,rawInt]) (aM M) λL y l=>?_;exact z _ L s.toks (by rw[aH,ar n];simp[Array.getD,M]) ⟨y,D.at' λo e=>l.extBut a o ne e,j,m,l.extBut p j O x,u⟩ λb o r e=>l.extBut b o (λh=>r<|by simp[h]) e
 done:=λs Q E st z=>by
  obtain⟨F,D,j,m,x,u⟩:=st;have N:d.length=c.size:=by have:=k.length_eq;simpa using this
  exact SD P x u F D (by simp[N]) λL J=>z L s.toks λb o r e=>J b o (λh=>r<|by simp[h]) e
 self:=λi s Q E st z=>Di st.1 z
def Xi{h:lC}(d:h.Perm<|List.range c.size):(h.map λq=>(c.getD q (0,.none)).2).Perm (c.toList.map Prod.snd):=by
 refine(d.map _).trans ?_;have:(List.range c.size).map (λq=>(c.getD q (0,.none)).2)=c.toList.map Prod.snd:=by
  apply gR;·simp
  ·simp_all
 rw[this]
def aaf{Q:ki}(Y:nq s.heap a c C t)(tok:ox (w.params.followText "set-order") t)(hn:c.size<=sizeLine)
    (R:∀(U:jw) (d:Drawn) (J:ja) (fp:nN) (I:kL) (St:Nat->jw->Prop),J∈fp->s.heap.objs.size<=J->(∀b∈fp,(b=a\/s.heap.objs.size<=b)/\b<U.objs.size)->I.Perm (c.toList.map Prod.snd)->
      (∀B:kh,B.handled=none->Walks f w B J fp [J] c.size (λi v=>I[i]?=some v) St)->St 0 U->(∀b o,s.heap.get? b=some o->U.get? b=some o)->Q (.ref J) {s with heap:=U,drawn:=d}):
    wpAny (model f w) A (pyIter<|.ref a) Q E s:=by
 obtain⟨o,F,hex,P,hf⟩:=id Y;have hT:s.TypeIs (.ref a) "set":=⟨o,F,hex.1⟩;have l:a<s.heap.objs.size:=Heap.lt_size F;have L:t.place.size=c.size:=by simp only[SetTable.fits,aK,ee]at hf;exact hf.1
 refine fy hT iz (bB iz hT Px ?_ (PySem.F.args_set_iter_1 _));unfold Builtin.«frozenset.__iter__»;refine ae (m:=Builtin.Frozenset.slot0 _ _) (af ?_);refine ae ?_;unfold Builtin.Frozenset.sizeOf;refine ae (dM F P hf<|af ?_);refine ae ?_;unfold setDrawn;refine ae (cb F P hf ?_);dsimp only;refine ae (Af<|af ?_);have n:∀(h:(!(w.params.followText "set-order")&&(!t.plain&&decide (c.size>1)))=false),wpAny (model f w) A.in1 (setEpoch a>>=λe=>newFields "set_iterator" [rawInt 0,rawInt 0,.ref a,rawInt c.size,rawInt e]>>=λv=>ret v) (λfin s'=>∃v,fin=.done (.ret v)/\∃T,∃x,s'.TypeIs v T/\typeLookup (.type T) "__next__"=pure (some x)/\Q v s') E s:=λh=>by
  refine ae (wpAny_setEpoch_of F P hf ?_);refine ae (a9 ?_);have hit:mX (s.heap.push {cls:=.type "set_iterator",data:=.fields [rawInt 0,rawInt 0,.ref a,rawInt c.size,rawInt C].toArray}) s.heap.objs.size (.int (0:Nat) 0) 0 a c.size C:=⟨_,aD _ rfl,rfl,rfl⟩;refine af ⟨_,rfl,"set_iterator",_,mX.typeIs (s:={s with heap:=_}) hit,qr.lookup,?_⟩;have ne:a≠s.heap.objs.size:=aU l;have q:nq (s.heap.push {cls:=.type "set_iterator",data:=.fields [rawInt 0,rawInt 0,.ref a,rawInt c.size,rawInt C].toArray}) a c C t:=Y.at' λo e=>ah _ e;have z:∀b∈[s.heap.objs.size,a],(b=a\/s.heap.objs.size<=b)/\b<(s.heap.push {cls:=.type "set_iterator",data:=.fields [rawInt 0,rawInt 0,.ref a,rawInt c.size,rawInt C].toArray}).objs.size:=λb j=>by
   rw[cy];rcases az.mp j with rfl|j;·exact⟨.inr<|ai _,bH _⟩
   ·rw[aI.mp j];exact⟨.inl rfl,bW l⟩
  cases j:w.params.followText "set-order" with
  |true=>exact R _ s.drawn _ _ _ _ (.head _) (ai _) z ((Eh (w.params.setOrder a C) c).map _) (λB u=>abI u j _ ne) ⟨hit,q⟩ λb o e=>ah _ e
  |false=>
   rw[j]at h;have G:t.led=true:=by rw[tok.led,j];rfl
   by_cases O:t.plain=true;·exact R _ s.drawn _ _ _ _ (.head _) (ai _) z (.refl _) (λB u=>My (t:=t) u j _ ne (tok.qo O) L (by simpa using h) G) ⟨hit,q⟩ λb o e=>ah _ e
   ·have h1:c.size<=1:=by
     have Z:t.plain=false:=by simpa using O
     rw[Z]at h;simpa using h
    have V:mw t.place:=by
     unfold mw;match hx:t.place.toList with
     |[]=>exact .nil
     |[x]=>exact dQ _ _
     |x::y::r=>
      have:=bN List.length hx;rw[aG]at this;simp at this
      lia
    exact R _ s.drawn _ _ _ _ (.head _) (ai _) z (.refl _) (λB u=>My (t:=t) u j _ ne V L (by simpa using h) G) ⟨hit,q⟩ λb o e=>ah _ e
 refine aZ (λN=>?_) (λN=>?_)
 ·refine ae (MB c.size (List.range c.size) (by simp) λD d p=>?_);have hl:D.length=c.size:=by have:=p.length_eq;simpa using this
  refine ae (wpAny_newTuple ?_ (by rw[ao,hl];exact hn));have RI:(s.heap.push<|seqObj "tuple" (D.map λ(i:Nat)=>rawInt i).toArray 0).get? a=some o:=ah _ F;refine ae (wpAny_setEpoch_of (s:={s with heap:=s.heap.push<|seqObj "tuple" (D.map λ(i:Nat)=>rawInt i).toArray 0,drawn:=d}) RI P hf ?_);refine ae (a9 ?_);have k:(s.heap.push<|seqObj "tuple" (D.map λ(i:Nat)=>rawInt i).toArray 0).objs.size=s.heap.objs.size+1:=size_push' ..;generalize hg:s.heap.push (seqObj "tuple" (D.map λ(i:Nat)=>rawInt i).toArray 0)=g at*;have O:g.get? s.heap.objs.size=some (seqObj "tuple" (D.map λ(i:Nat)=>rawInt i).toArray 0):=by rw[<-hg];exact aD _ rfl
  have kp:∀b o,s.heap.get? b=some o->g.get? b=some o:=λb o e=>by rw[<-hg];exact ah _ e
  have hit:mX (g.push {cls:=.type "set_iterator",data:=.fields [.ref s.heap.objs.size,rawInt 0,.ref a,rawInt c.size,rawInt C].toArray}) g.objs.size (.ref s.heap.objs.size) 0 a c.size C:=⟨_,aD _ rfl,rfl,rfl⟩;refine af ⟨_,rfl,"set_iterator",_,mX.typeIs (s:={s with heap:=_,drawn:=d}) hit,qr.lookup,?_⟩;refine R _ d g.objs.size [g.objs.size,a,s.heap.objs.size] _ _ (.head _) (by rw[k];exact c6 _) (λb j=>?_) (Xi p) (λB u=>abH u _ _ (by rw[k];exact aU (bW l)) (by rw[k];exact aU (bH _)) p) ⟨hit,Y.at' λo e=>ah _ (kp a o e),_,0,ah _ O,rfl⟩ λb o e=>ah _ (kp b o e);rw[cy,k];simp only[az,cF,fY]at j;rcases j with rfl|rfl|rfl;·rw[k];exact⟨.inr<|c6 _,bH _⟩
  ·exact⟨.inl rfl,bW<|bW l⟩
  ·exact⟨.inr<|ai _,bW<|bH _⟩
 ·have M:(!(w.params.followText "set-order")&&(!t.plain&&decide (c.size>1)))=false:=Bool.eq_false_iff.mpr N;exact ae (af<|n M)
def Nw:bootBuiltins "set"=some (.type "set"):=by decide+kernel
def aae{Q:pA}(hT:s.TypeIs (.ref r) "set")(h:Q false s):wpAny (model f w) A (Builtin.List.listLengthHint<|.ref r) Q E s:=by
 unfold Builtin.List.listLengthHint;refine ae (ir hT PySem.F.slot_set_len.lookup ?_);generalize d:("set.__len__":String)=id0
 wp_delta
 subst d;refine ae (dR (T:="set") (b:=true) hT (by rw[iO];kernel_rfl) ?_);refine ae (eG hT ?_);exact af h
def aad{Q:aa je->jr->Prop}(hh:A.handled=none)(hr:nq s.heap a c C t)(tok:ox (w.params.followText "set-order") t)(hn:c.size<=sizeLine)
 (hQ:∀(h':jw) tk d (us:kL),us.Perm (c.toList.map Prod.snd)->(∀b o,s.heap.get? b=some o->h'.get? b=some o)->s.heap.objs.size<=h'.objs.size->Q us {s with heap:=h',toks:=tk,drawn:=d}):wpAny (model f w) A (collect<|.ref a) Q E s:=by
  obtain⟨o,Y,F,hd,hf⟩:=id hr;have y:a<s.heap.objs.size:=Heap.lt_size Y;unfold collect;refine ae (wpAny_runValue<|cj PySem.F.entry_proto_collect ?_);rw[bX PySem.F.plain_proto_collect _];show wpAny _ A.in1 (newList []>>=λl=>again<|.builtin "list.__iadd__" ⟨[l,.ref a],[]⟩) _ _ s;refine ae (a9 ?_);refine af ⟨cR hA _,cj PySem.F.entry_list_iadd ?_⟩;rw[bX hA _];show wpAny _ A.in1 (Builtin.List.listExtendWith (.ref s.heap.objs.size) (.ref a)<|.ref s.heap.objs.size) _ _ _;have v:(s.heap.push {cls:=.type "list",data:=.seq ([]:aa je).toArray}).get? s.heap.objs.size=some {cls:=.type "list",data:=.seq #[]}:=aD _ rfl;have x:(s.heap.push {cls:=.type "list",data:=.seq ([]:aa je).toArray}).objs.size=s.heap.objs.size+1:=cy ..;have J:∀b o,s.heap.get? b=some o->(s.heap.push {cls:=.type "list",data:=.seq ([]:aa je).toArray}).get? b=some o:=λb o e=>ah _ e;generalize s.heap.push {cls:=.type "list",data:=.seq ([]:aa je).toArray}=g at*;have V:nq g a c C t:=hr.at' λo e=>J a o e;have Iz:Shared.TypeIs {s with heap:=g} (.ref a) "set":=⟨o,J a o Y,F.1⟩;unfold Builtin.List.listExtendWith;refine ae (eG (T:="set") Iz ?_);have h1:Builtin.List.listSameRef (.ref s.heap.objs.size) (.ref a)=false:=by simp[Builtin.List.listSameRef,cP y]
  rw[ax<|by rw[h1];decide];refine ae (aaf (s:={s with heap:=g}) V tok hn λN d it fp r St adj Z hfp q W P U=>?_);have p:=U _ _ v;have G:s.heap.objs.size∉fp:=λL=>by
   rcases(hfp _ L).1 with z|z;·exact absurd z (cP y)
   ·exact absurd (show g.objs.size<=s.heap.objs.size from z) (by rw[x];exact Nat.not_succ_le_self _)
  have IA:Shared.TypeIs {s with heap:=N,drawn:=d} (.ref a) "set":=⟨o,U a o<|J a o Y,F.1⟩;refine ae (bI<|aae IA ?_);refine aZ (λ_=>?_) (λwH=>absurd (by decide) wH);refine ae (eX ?_);refine ae ?_;show wpAny _ _ (updateSeq s.heap.objs.size (·.push .none)>>=λ_=>updateSeq s.heap.objs.size (·.pop)) _ _ _;refine ae (eU p rfl ?_);have n:=aY (Obj.mapSeq (·.push Value.none)) p rfl;refine eU (hz:=by seq_fits) n rfl ?_;have u:=aY (Obj.mapSeq (·.pop)) n rfl
  have oth:∀b o,b≠s.heap.objs.size->N.get? b=some o->((N.update s.heap.objs.size (Obj.mapSeq (·.push Value.none))).update s.heap.objs.size (Obj.mapSeq (·.pop))).get? b=some o:=
   λb o M e=>(br _ _<|bV M).trans ((br _ _<|bV M).trans e)
  have W1:=W A.in1 hh;have O:St 0 ((N.update s.heap.objs.size (Obj.mapSeq (·.push Value.none))).update s.heap.objs.size (Obj.mapSeq (·.pop))):=W1.frame 0 _ _ P λb M o e=>oth b o (λh=>G<|h▸M) e;refine af ⟨cR PySem.F.plain_extend_loop _,codeAny_extend_loopS W1.toS hn _ G _ c.size 0 _ #[] _ rfl (bQ _) O u (ItemsOf.nil _) λR i c' L I m=>?_⟩;show wpAny _ A (load s.heap.objs.size>>=_) _ _ R;refine ae (wpAny_load I ?_);show wpAny _ _ (pure i.toList) _ _ _;have lp:r.length=c.size:=by have:=q.length_eq;simpa using this
  have ea:i.toList=r:=by
   apply List.ext_getElem?;intro j;rw[bg];by_cases hj:j<c.size
   ·have h3:j<i.size:=by rw[m.1];exact hj
    rw[m.2 j i[j] (by simp[h3])];simp[h3]
   ·rw[cI<|by rw[m.1];simp_all,List.getElem?_eq_none<|by simp_all]
  rw[ea];rw[Moved.eq_with L];refine af (hQ R.heap R.toks d r q (λb o e=>L.heap b o (λk=>?_)<|oth b o (aU<|Heap.lt_size e)<|U b o<|J b o e)<|dS<|Heap.lt_size I);rcases az.mp k with e'|k;·exact absurd (Heap.lt_size e) (by rw[e'];exact cx _)
  ·have e2:=aI.mp k;have D:g.objs.size<=it:=Z;exact absurd (Heap.lt_size e) (by rw[e2];exact iZ.mpr (aV (by rw[x];exact c6 _) D))
def aaC{Gd:aa je->Prop}{G:yn}{Q:ki}(J:A.handled=none)
 (r:∀(B:kh) (z:aa je->jr->Prop),B.handled=none->(∀j tk d h,Gd h->(∀b o,s.heap.get? b=some o->j.get? b=some o)->s.heap.objs.size<=j.objs.size->z h {s with heap:=j,toks:=tk,drawn:=d})->wpAny (model f w) B (collect<|.ref l) z E s)
 (D:∀h,Gd h->h.length<=sizeLine)(P:∀h,Gd h->h.length<2->G h.toArray)
 (O:∀h,Gd h->2<=h.length->∀t:jr,(∀b o,s.heap.get? b=some o->t.heap.get? b=some o)->ye f w G h t)
 (k:∀(out:tr) p (j:jw) tk e d,out.size<=sizeLine->G out->s.heap.objs.size<=p->(∀b o,s.heap.get? b=some o->j.get? b=some o)->j.get? p=some (seqObj "list" out e)->Q (.ref p) {s with heap:=j,toks:=tk,drawn:=d}):wpAny (model f w) A (call (.builtin "sorted") [.ref l]) Q E s:=by
  refine call_function_entry kind_sorted plain_sorted entry_sorted (args_sorted1 _) ?_;unfold Builtin.«sorted»;refine ae (m:=checkCount "sorted" 1 1 _) (af ?_);apply ae;refine r _ _ J λg tk d h x v n=>?_;have i:=D h x;apply ae;refine gD ?_ i;have here:(g.push<|seqObj "list" h.toArray 0).get? g.objs.size=some (seqObj "list" h.toArray 0):=aD _ rfl
  have kp:∀b o,s.heap.get? b=some o->b≠g.objs.size/\(g.push<|seqObj "list" h.toArray 0).get? b=some o:=λb o q=>⟨aU<|aE (Heap.lt_size q) n,ah _<|v b o q⟩
  refine ae (bI<|bB slot_list_sort ⟨_,here,rfl⟩ entry_list_sort (LY (s:={s with heap:=g.push<|seqObj "list" h.toArray 0,toks:=tk,drawn:=d}) here i (P h x) (λN t F=>O h x N t λb o q=>F b o (kp b o q).1 (kp b o q).2) λout I M=>⟨_,rfl,?_⟩)<|args_list_sort _);refine af ⟨_,rfl,?_⟩;have R:=get?_update_seq here (λ_=>(#[]:kr je));have u:∀b o,b≠g.objs.size->(g.push<|seqObj "list" h.toArray 0).get? b=some o->(sortedHeap (g.push<|seqObj "list" h.toArray 0) g.objs.size h out).get? b=some o:=λb o y q=>by show((((((g.push<|seqObj "list" h.toArray 0).update g.objs.size (Obj.mapSeq λ_=>(#[]:kr je))).push (seqObj "tuple" h.toArray 0)).push (seqObj "list" #[] 0)).update g.objs.size (Obj.mapSeq λ_=>out))).get? b=some o;rw[eM _ _ _ _ y];refine ah _ (ah _ ?_);rw[eM _ _ _ _ y];exact q
  have new:∃e,(sortedHeap (g.push<|seqObj "list" h.toArray 0) g.objs.size h out).get? g.objs.size=some (seqObj "list" out e):=by exact⟨_,get?_update_seq (ah (seqObj "list" #[] 0)<|ah (seqObj "tuple" h.toArray 0) R)<|λ_=>out⟩
  obtain⟨e,L⟩:=new;exact k out g.objs.size _ tk e d (by rw[I];exact i) M n (λb o q=>u b o (kp b o q).1 (kp b o q).2) L
end
def dd:aa Key->aa Key
 |[]=>[]
 |k::r=>if(r.any λj=>decide<|j=k)=true then dd r else k::dd r
def Gm{k}{r:oz}:(r.any λj=>decide<|j=k)=true↔k∈r:=by simp
theorem t8(x):∀a:aa Key,x∈dd a↔x∈a
 |[]=>Iff.rfl
 |k::r=>by
  unfold dd;by_cases h:(r.any λj=>decide<|j=k)=true
  ·rw[au h,t8 x r,az];exact⟨.inr,λz=>z.elim (λz=>by rw[z];exact Gm.mp h) id⟩
  ·rw[ax h,az,az,t8 x r]
theorem DV:∀a:aa Key,(dd a).Nodup
 |[]=>.nil
 |k::r=>by
  unfold dd;by_cases h:(r.any λj=>decide<|j=k)=true;·rw[au h];exact DV r
  ·rw[ax h];exact bL.mpr ⟨λz=>h<|Gm.mpr<|(t8 k r).mp z,DV r⟩
theorem Jv:∀a:aa Key,(dd a).length<=a.length
 |[]=>ai _
 |k::r=>by
  have d:=Jv r;have c:(k::r).length=r.length+1:=rfl;unfold dd;split;·walk_at "l"
  ·rw[aw];walk_at "l"
theorem zE{f:Type}[DecidableEq f]:∀{d c:aa f},d.Nodup->c.Nodup->(∀x,x∈d↔x∈c)->d.Perm c
 |[],c,_,_,h=>by
  cases c with
  |nil=>exact .refl _
  |cons y r=>exact absurd ((h y).mpr (.head _)) (by simp)
 |a::l,c,n,i,h=>by
  have o:=(h a).mp (.head _);obtain⟨m,k⟩:=bL.mp n;refine(List.Perm.cons a<|zE k (i.erase a) λx=>?_).trans (iQ o).symm;rw[i.mem_erase_iff];constructor
  ·intro j;exact⟨λe=>m<|by rw[<-e];exact j,(h x).mp (.tail _ j)⟩
  ·rintro ⟨q,p⟩
   rcases az.mp ((h x).mpr p)with e|e;·exact absurd e q
   ·exact e
def vD(v:je):D:=kD (vK v)
def PV(h:rS v):q8 hp v (vD v):=by
 unfold rS at h;cases v with
 |int i t=>rfl
 |str x t=>rfl
 |_=>obtain⟨t,e⟩:=(show∃t,_=Value.int 0 t from h);cases e
theorem I8:∀a:aa je,(∀v∈a,rS v)->nc h a (a.map vD)
 |[],_=>.nil
 |u::a,H=>.cons (PV<|H u<|.head _) (I8 a λv hv=>H v<|.tail _ hv)
theorem Ms:∀a:aa je,(∀v∈a,rS v)->Vals ((a.map vK).map kV) a
 |[],_=>.nil
 |u::a,H=>.cons (H u<|.head _) (Ms a λv hv=>H v<|.tail _ hv)
def SY{d k}(h:og d=some k):kD k=d:=by
 cases d with
 |int i=>cases h;rfl
 |str x=>cases h;rfl
 |_=>cases h
theorem Dq:∀{c} {a},lL c=some a->a.map kD=c
 |[],_,h=>by cases h;rfl
 |d::r,_,h=>by obtain⟨k,j,i⟩:=aP.mp h;obtain⟨a,f,rfl⟩:=aB.mp i;rw[aW,SY j,Dq f]
def RL(h:∀d∈ds,kz d=some sg):nE ds=true:=by
 cases ds with
 |nil=>rfl
 |cons d r=>show((kz d).isSome&&r.all λe=>kz e==kz d)=true;simp_all
def LU{f:j7}(h:f.Perm es)(a:∀d∈es,kz d=some sg):kZ f=kZ es:=
 Eu ((nJ _).trans (h.trans (nJ _).symm)) (λd c=>a d<|h.mem_iff.mp<|(nJ _).mem_iff.mp c) (uq λd c=>a d<|h.mem_iff.mp c) (uq a)
def aaw{a:j7}(h:a.length<2):kZ a=a:=by
 match a,h with
 |[],_=>rfl
 |[d],_=>rfl
 |_::_::r,w=>simp at w;lia
noncomputable def oK:D->R (aa D)
 |.lst ds=>match lL ds with
  |some a=>if nE ds=true/\ds.length<64 then .ok (kZ<|(dd a).map kD)else .bad
  |none=>.bad
 |_=>.bad
section
variable{X:Cx}{E:XK}{e:jB}{O:TE}{f:jQ}{N M L J:Pos}
def KG{C:V->Hp->VK->Prop}(P:PE X e O)(G:Gl X "sorted")(F:X.mg "sorted"=none)(o:Gl X "set")(n:X.mg "set"=none)
 (hC:∀a k σ c x u Q,Inv X a σ c k->RelV x u->C x c Q->wpAny (model X.prog X.w) X.A (call (.type "set") [u]) (λv r=>wpAny (model X.prog X.w) X.A (call (.builtin "sorted") [v]) (EP X a σ Q) X.xe r) X.xe k)
 (t:X.se e [])(m:X.bk J [])
 (i:starEach [.Call (.Name "set" M) [e] [] J] X.env=(false,eval (.Call (.Name "set" M) [e] [] J) X.env)::starEach [] X.env)(j:X.bk L []):
   PE X (.Call (.Name "sorted" N) [.Call (.Name "set" M) [e] [] J] [] L) (λσ H Q=>O σ H λw c=>∃x,[w]=[x]/\C x c Q):=by
  intro a s σ H Q I h;refine cz (sJ I G F GK ?_ (by decide) (by decide));refine dO ?_ i j;rw[i];show wpAny _ _ (spliced<|(false,eval (.Call (.Name "set" M) [e] [] J) X.env)::backTo L (starEach [] X.env)) _ _ s;refine dU ?_;refine cz (sJ I o n Nw ?_ (by decide) (by decide));have p:PA X [e] (zY O z5):=sP P sQ t;refine d6 (jC (p J a s σ H (λd c=>∃x,d=[x]/\C x c Q) I h) λT k l=>?_) t m;obtain⟨d,c,R,A,D⟩:=l;obtain⟨x,rfl,q⟩:=D;obtain⟨u,rfl,y⟩:=vals1 A;exact bC (hC _ _ _ _ _ _ _ R y q) (λv r z=>fj z) λ_ _ z=>z
abbrev _root_.vX:=je->Prop
def LZ{Q:VK}(hc:X.calm=true)(y:Inv X pins σ H1 s2){t}(R:nq s2.heap a es ep t)(tok:ox (X.w.params.followText "set-order") t)(hz:es.size<=sizeLine)
 {Gd:vX}{dv}(n:∀d∈DD,kz d=some sg)(k:∀c:aa je,c.Perm (es.toList.map Prod.snd)->(∀v∈c,Gd v)/\(c.map dv).Perm DD/\c.length<64)
 (j:∀c:aa je,(∀v∈c,Gd v)->Vals (c.map rv) c/\jv X.K al H1 (c.map rv) (c.map dv))(Z:∀t':jr,(∀b o,s2.heap.get? b=some o->t'.heap.get? b=some o)->∀c:aa je,(∀v∈c,Gd v)->nc t'.heap c (c.map dv))
 (q:∀p h,H1 p=none->jv X.K al H1 h (kZ DD)->Q (.ref p) (upd H1 p<|.lst h)):wpAny (model X.prog X.w) X.A (call (.builtin "sorted") [.ref a]) (EP X pins σ Q) X.xe s2:=by
  have sl:=dq
  refine aaC (A:=X.A) (s:=s2) (Gd:=λc=>c.Perm<|es.toList.map Prod.snd) (G:=λout=>∃h,Vals h out.toList/\jv X.K al H1 h (kZ DD)) (y.ok.hd hc)
   (λB Q' hB hq=>aad hB R tok hz λF V d c m e2 s2=>hq F V d c m e2 s2)
   (λc m=>by have:=(k c m).2.2;lia) (λc m F=>?_) (λc m F t' kp B=>?_) λout p h3 z PC d hz3 hG l C Q6=>?_
  ·obtain⟨U,T,_⟩:=k c m;obtain⟨g1,g2⟩:=j c U;refine⟨c.map rv,by simpa using g1,?_⟩;rw[<-LU T n,aaw (by rw[ao];exact F)];exact g2
  ·obtain⟨U,T,Y⟩:=k c m;have:=LX (prog:=X.prog) (w:=X.w) (s:=t') (Z t' kp c U) (RL λd hd=>n d<|T.mem_iff.mp hd) F Y B;refine bC this (λκ t1 hk=>⟨hk.1,bC hk.2 (λr t2 u=>⟨u.1,u.2.1,u.2.2.1,?_⟩) λ_ _ x=>x⟩) λ_ _ x=>x;obtain⟨P,g1,g2,g3⟩:=u.2.2.2;have I:=IT g1;rw[ao]at I;have fo:∀v∈outs c P,Gd v:=λv hv=>by
    unfold outs at hv;obtain⟨i,hi,rfl⟩:=aO.mp hv;have D:=I i hi;rw[bc,ar D,gQ];exact U _ (bU D)
   obtain⟨v1,v2⟩:=j _ fo;refine⟨(outs c P).map rv,by rw[g2];exact v1,?_⟩;rw[<-LU T n,<-g3];have e9:(outs c P).map dv=outD (c.map dv) P:=by unfold outs outD;simp_all
   rw[<-e9];exact v2
  ·obtain⟨h,hw,u⟩:=hG;have lw:h.length<=sizeLine:=by
    have:=hw.length;simp only[aG]at this;simp_all
   have new:kQ X.prog X.w (upd H1 p<|.lst h) h3 p (.lst h):=⟨lw,out.toList,PC,hw,by rw[iK];exact Q6⟩
   have I3:Inv X pins σ (upd H1 p<|.lst h) {s2 with heap:=h3,toks:=z,drawn:=d}:=
    Inv.call (s:=s2) (g':=s2.gens) (t':=z) (d':=d) (ch:=[]) y (Un.laid C l<|y.hok.fresh l) (y.hok.laid C l new) y.bare (λb hb=>by simp at hb)
   exact⟨.ref p,_,I3,rfl,q p h (y.hok.fresh l) u⟩
def Xd(hc:X.calm=true)(R:PE X e O)(hg:Gl X "sorted")(hm:X.mg "sorted"=none)(I:Gl X "set")(F:X.mg "set"=none)
 (hs:X.se e [])(D:X.bk J [])
 (C:starEach [.Call (.Name "set" M) [e] [] J] X.env=(false,eval (.Call (.Name "set" M) [e] [] J) X.env)::starEach [] X.env)(m:X.bk L []):
   PE X (.Call (.Name "sorted" N) [.Call (.Name "set" M) [e] [] J] [] L) (λσ H Q=>O σ H λx0 h=>∃x,[x0]=[x]/\∃l s j al ks,x=.ref l/\lz X.K h l s/\jv X.K al h s j/\lL j=some ks/\nE j=true/\j.length<64/\∀p Y,h p=none->jv X.K al h Y (kZ<|(dd ks).map kD)->Q (.ref p) (upd h p<|.lst Y)):=by
  refine KG R hg hm I F (λpins s1 σ h x u Q V ru q1=>?_) hs D C m;obtain⟨l,s,j,al,ks,rfl,hl,rv,hk,hh,Iu,q⟩:=q1;obtain rfl:u=Value.ref l:=ru;obtain⟨c,Z,pl,hz⟩:=V.list hl;have ev:=vg rv hk;subst ev;have r:=Dq hk;obtain⟨sg,z⟩:=y7 hh;have Tz:j.length=ks.length:=by rw[<-r,ao]
  have lits:c.length=ks.length:=by have:=Z.length;rw[ao]at this;exact this.symm
  have sb:scanBound=4096:=rfl;refine NQ (A:=X.A) (items:=c.toArray) (ks:=ks) (V.ok.hd hc) pl.isList (by simpa using Z) (by rw[aQ];lia) λh' tk js SV y ext=>?_;obtain⟨o,es,ep,t,ho,P,T,el,hn,hf,tok,w,n⟩:=SV;have a:(qf es.toList).Perm (dd ks):=zE w (DV ks) λx=>by rw[n x,y x,t8]
  have sl:=dq;have wI:es.size<=c.length:=by simpa using hn
  refine LZ hc (V.kept (t':=tk) λb o e=>ext b o (Heap.lt_size e) e) ⟨o,ho,P,T,hf⟩ tok (by lia) (Gd:=rS) (dv:=vD) (rv:=λv=>kV<|vK v) (sg:=sg) (λd T=>?_) (λi hp=>?_) (λi U=>⟨?_,?_⟩) (λ_ _ i U=>I8 i U) q
  ·obtain⟨k,G,rfl⟩:=aO.mp T;exact z _ (by rw[<-r];exact aO.mpr ⟨k,(t8 k ks).mp G,rfl⟩)
  ·have N:(i.map vK).Perm (dd ks):=by
    have:=hp.map vK;rw[bh]at this;exact this.trans a
   refine⟨λv hv=>?_,?_,?_⟩
   ·obtain⟨e,R,rfl⟩:=aO.mp (hp.mem_iff.mp hv);exact(el e R).1
   ·have:=N.map kD;rw[bh]at this;exact this
   ·have:=N.length_eq;rw[ao]at this;have:=Jv ks
    lia
  ·have:=Ms i U
   rwa [bh]at this
  ·have:=zO (K:=X.K) (al:=al) (H:=h) (i.map vK);rw[bh,bh]at this;exact this
def OU(P:X.calm=true)(G:Gl X "sorted")(C:X.mg "sorted"=none)(m:Gl X "set")(k:X.mg "set"=none)(I:DE X E e f)
 (y:autoParam (X.se e []) aZ0)(j:autoParam (X.bk J []) aZ0)
 (i:autoParam (starEach [.Call (.Name "set" M) [e] [] J] X.env=(false,eval (.Call (.Name "set" M) [e] [] J) X.env)::starEach [] X.env) aZ0)(c:autoParam (X.bk L []) aZ0):
   DN X E (.Call (.Name "sorted" N) [.Call (.Name "set" M) [e] [] J] [] L) (λρ=>(f ρ).bind oK):=by
  obtain⟨t,p,r⟩:=I;refine⟨_,Xd P p G C m k y j i c,λ{_ _ al _ _ _ _} s h=>r s<|Aft.mono (Aft.split h) λ{_ n} R a v u=>⟨v,rfl,?_⟩⟩;unfold oK at a;split at a
  ·rename_i Q;split at a
   ·rename_i w F;split at a
    ·rename_i z;obtain⟨l,q,rfl,D,d⟩:=u.oW;exact⟨l,q,Q,al,w,rfl,D,d,F,z.1,z.2,λp o A x=>a n (.refl n) p o A x⟩
    ·exact a.elim
   ·exact a.elim
  ·exact a.elim
def UW:FV X "list.extend" (λx o H Q=>∃l b i d,x=.ref l/\o=[.ref b]/\H l=some (.lst i)/\lz X.K H b d/\i.length+d.length<=sizeLine/\Q .non (upd H l<|.lst<|i++d)):=by
 intro t s σ H x o v R Q I y A h;obtain⟨l,b,i,d,rfl,rfl,w,P,V,q⟩:=h;cases y;obtain⟨u,rfl,C⟩:=A.one;cases C;obtain⟨z,j,n,r,Y,e⟩:=I.JH w;obtain⟨a,p,pl,D⟩:=I.list P;have G:=p.length;obtain⟨ob,c,m,U,k⟩:=pl.isList;refine bB gF ⟨_,e,rfl⟩ PySem.F.entry_list_extend ?_ (PySem.F.args_list_extend_2 _ _);show wpAny _ _ (Builtin.List.listExtendWith (.ref l) (.ref b) .none) _ _ s;unfold Builtin.List.listExtendWith;refine ae (eG (T:="list") ⟨ob,c,m⟩ ?_);have F:(Value.type "list"==Value.type "list")=true:=by rfl
 rw[au<|by rw[F];simp];refine ae (listItems_at c k ?_);refine ae (listItems_at e rfl ?_);rw[ax<|by rw[Vg<|by rw[aQ,aQ];simp_all,iR];exact ay];refine ae (listUpdate_at e rfl ?_ (by rw[aQ];simp_all) (by simp only[Array.size_append,aQ];lia));refine af ⟨_,rfl,?_⟩;refine⟨.non,_,I.JG (its':=j++a) w e (by simp) (r.append p) ?_,rfl,q⟩;rw[aq];omega
def qp(i:Nat)(f:jQ):jV:=λρ=>match ρ[i]? with
 |some (.ow c)=>toS (f ρ) λd=>(match d with
  |.lst a=>if c.length+a.length<=sizeLine then .nx (ρ.set i<|.ow<|c++a)else .bad
  |_=>.bad)
 |_=>.bad
def yE(i){c:Pos}(T:DE X E e f)
 (hN:autoParam (X.N[i]?=some x) aZ0)(hv:autoParam (rm X.env.scope x) aZ5)(U:autoParam (mq x) aZ1)
 (w:autoParam ((x==("__classdict__":jd))=false) aZ1)
 (k:autoParam (attributeBase (.Name x nT) "extend" X.env (eval (.Name x nT) X.env)=eval (.Name x nT) X.env) aZ0)
 (n:autoParam (((backTo cpos (starEach [e] X.env)).all (λx=>!x.1)&&(backToKw cpos (keywordEach [] X.env)).all (λx=>x.1.isSome)
 &&decide ([e].length+([]:aa Keyword).length+(if([]:aa Keyword).isEmpty then 0 else 1)<30))=true) aZ0)
 (j:autoParam ((c.endLine==cpos.line)=true) aZ0)(A:autoParam (X.se e []) aZ0)(d:autoParam ((backTo cpos<|starEach [] X.env).any (·.1)=false) aZ0)
 (u:autoParam (swapsWith (.Call (.Attribute (.Name x nT) "extend" c) [e] [] cpos) none L.line X.env=pure false) aZ0):
   DS X E (.Expr (.Call (.Attribute (.Name x nT) "extend" c) [e] [] cpos) L) (qp i f):=by
  obtain⟨t,p,r⟩:=T;refine⟨_,K1 (Kx hI gF PySem.F.type_list_extend UW (xh hN hv U w) (sP p sQ A) k n j A d) u,λs h=>?_⟩;unfold qp at h;split at h
  ·rename_i G q;obtain⟨a,y,F,D,C,e4,Z⟩:=s.ow i G q;refine⟨_,F,.inl ⟨rfl,y,.inl<|.inl D⟩,r s<|Aft.mono (lu.rK h s) λo l v R=>?_⟩;split at l
   ·rename_i Y;obtain⟨b,P,rfl,V,m⟩:=R.oW;by_cases z:G.length+Y.length<=sizeLine
    ·simp only[z,cQ]at l;obtain⟨Q,I⟩:=(s.grow o).write q F ((C.up o).append m);exact⟨a,b,y,P,rfl,rfl,o.at' _ _ oi D,V,by rw[C.length,m.length];exact z,l _ _ _ I Q⟩
    ·simp only[z,bT]at l;exact l.elim
   ·exact l.elim
  ·exact h.elim
theorem KZ(a:kv):∀k,k<=a.length->preSum (λi=>a.getD i 0) k=(a.take k).sum
 |0,_=>rfl
 |k+1,d=>by
  have c:=KZ a k (by walk_at "l");have e:a.take (k+1)=a.take k++[a.getD k 0]:=by rw[List.take_succ,bc,ar<|show k<a.length by walk_at "l"];rfl
  rw[e,List.sum_append,<-c];simp[preSum]
def zX:jA
 |[.lst ds]=>match sD ds with
  |some a=>.ok (.int a.sum)
  |none=>.bad
 |_=>.bad
def GL:bootBuiltins "sum"=some (.builtin "sum"):=by decide+kernel
def NR(R:X.calm=true):qW X E (.builtin "sum") zX:=by
 refine⟨λm H Q=>∃(l:ja) (a:kv),m=[.ref l]/\lz X.K H l (a.map V.int)/\Q (.int a.sum) H,?_,λ{_ H m _ Q} fr y h=>?_⟩
 ·intro x s σ H m Z Q I r h;obtain⟨l,a,rfl,p,q⟩:=h;obtain⟨u,rfl,C⟩:=vals1 r;obtain rfl:u=Value.ref l:=C;obtain⟨c,w,pl,hz⟩:=I.list p;have P:=De w;have d:=w.length;rw[ao]at d;have j:l<s.heap.objs.size:=by obtain⟨o,D,_⟩:=pl.isList;exact Heap.lt_size D
  refine call_sum_walkG (dm pl.isList ?_);refine⟨s.heap.objs.size,[s.heap.objs.size,l],[s.heap.objs.size],c.toArray.size,λi v=>c.toArray[i]?=some v,_,λi=>a.getD i 0,rfl,Walks.list (A:=X.A.in1) (I.ok.hd R) _ l (aU j) c.toArray,⟨⟨_,aD _ rfl,rfl,rfl⟩,pl.isList.push _⟩,λb t=>?_,λi v hv=>?_,λh' tk t' k=>?_⟩
  ·show b<(s.heap.push _).objs.size;rw[cy];rcases az.mp t with rfl|t;·exact bH _
   ·rw[aI.mp t];exact bW j
  ·exact c5 P i v (by simpa using hv)
  ·rw[show c.toArray.size=a.length by rw[aQ];exact d.symm,KZ a a.length<|ai _,c0<|ai _];refine⟨.int _,H,I.kept (t':=tk) λb o e=>k b o (λG=>?_)<|ah _ e,⟨_,rfl⟩,q⟩;rw[aI.mp G]at e;exact absurd (Heap.lt_size e) (cx _)
 ·unfold zX at h;split at h
  ·rename_i U;split at h
   ·rename_i a F;have e:=Dd F;subst e;obtain⟨v,rfl,z⟩:=jv.one y;obtain⟨l,Y,rfl,p,n⟩:=z.oW;have T:=Et n;subst T;exact⟨l,a,rfl,p,h H (.refl H) _<|.int _⟩
   ·exact h.elim
  ·exact h.elim
def nQ:aa Int->Int
 |[]=>0
 |a::r=>r.foldl (λm x=>if m<x then x else m) a
def pX(a:kv)(i j:Nat):jk:=decide (a.getD j 0<a.getD i 0)
theorem Gq(c:kv):∀k,k<c.length->c.getD (argBest (pX c) k) 0=nQ (c.take<|k+1)
 |0,h=>by
  cases c with
  |nil=>simp at h
  |cons a r=>rfl
 |k+1,h=>by
  have j:=Gq c k (by walk_at "l");have e:c.take (k+1+1)=c.take (k+1)++[c.getD (k+1) 0]:=by rw[List.take_succ (i:=k+1),bc,ar h];rfl
  have l:nQ (c.take (k+1)++[c.getD (k+1) 0])=if nQ (c.take<|k+1)<c.getD (k+1) 0 then c.getD (k+1) 0 else nQ (c.take<|k+1):=by
   cases c with
   |nil=>simp at h
   |cons a r=>
    show nQ ((a::r.take k)++[_])=if nQ (a::r.take k)<_ then _ else nQ (a::r.take k)
    show((r.take k)++[_]).foldl _ a=_;rw[fE];rfl
  rw[e,l,<-j];show c.getD (if pX c (k+1) (argBest (pX c) k)then k+1 else argBest (pX c) k) 0=_;by_cases d:c.getD (argBest (pX c) k) 0<c.getD (k+1) 0;·rw[au<|show pX c (k+1) (argBest (pX c) k)=true from aR d,au d]
  ·rw[ax<|show¬pX c (k+1) (argBest (pX c) k)=true from λz=>d<|bx z,ax d]
variable{prog:jT}{w:jK}{A:kh}{R:tq}{I:ja}{Y U:nN}{n:Nat}{P:yq}{St:Nat->jw->Prop}{dv:je}
def UP(W:Walks prog w A.in1 I Y U n P St)(bt)(D:CmpOf prog w A.in1 .Gt P bt)(S)(G:S∉Y):
    ∀k j (s:jr) vb (c:Nat),n - (j+1)=k->j+1<=n->St (j+1) s.heap->P (argBest bt j) vb->
    s.heap.get? S=some {cls:=.type "list",dict:=none,data:=.seq #[vb,vb] c,slots:=#[]}->
    (∀v V tk,P (argBest bt<|n - 1) v->(∀b o,b∉U->b≠S->s.heap.get? b=some o->V.get? b=some o)->R (.ok<|.ret v) {s with heap:=V,toks:=tk})->
    codeAny (model prog w) A (.builtin "max.loop" ⟨[.ref I,.none,.ref S],[(Str.ofString "default",dv)]⟩) R s:=by
 have F:S∉U:=λh=>G (W.sub _ h);have m:(toString "max"++toString ".loop":String)="max.loop":=by decide
 intro k;induction k with
 |zero=>
  intro j s vb c hk hj u r Q T;have C:j+1=n:=by grind
  refine cj fF ?_;rw[bX cq _];show wpAny _ A.in1 (seqItems? (.ref S)>>=_) _ _ s;refine ae (dc Q rfl ?_);show wpAny _ A.in1 (tryCatch (pyNext<|.ref I) _>>=_) _ _ s;refine ae (eE<|W.done s _ _ (C▸u) λV tk d=>?_);have q:=d S _ F Q;show wpAny _ A.in1 (updateSeq S (λ_=>#[])>>=_) _ _ _;refine ae ?_;refine eU q rfl (ae<|iS<|af ?_);refine T vb _ tk (by rw[<-C];exact r) λb o a i e=>(br _ _<|bV i).trans (d b o a e)
 |succ k ih=>
  intro j s vb c hk hj u r Q T;have x:j+1<n:=by omega
  refine cj fF ?_;rw[bX cq _];show wpAny _ A.in1 (seqItems? (.ref S)>>=_) _ _ s;refine ae (dc Q rfl ?_);show wpAny _ A.in1 (tryCatch (pyNext<|.ref I) _>>=_) _ _ s;refine ae (eE<|W.item (j+1) s _ _ x u λv V tk hP t d=>?_);have q:=d S _ F Q;show wpAny _ A.in1 (tryCatch (holding [v,v]<|richCompare .Gt v vb>>=_) _>>=_) _ _ _;refine ae (eE<|bI<|ae<|D (j+1) (argBest bt j) v vb _ _ _ hP r ?_);refine ae (bI<|cH ?_);refine ae (iS<|af ?_);cases hb:bt (j+1) (argBest bt j)with
  |true=>
   simp only[cQ];refine ae ?_;refine eU q rfl (ae<|iS ?_);rw[m]
   refine af ⟨cR cq _,ih (j+1) _ v _ (by grind) x (W.frame _ _ _ t λb CP o e=>?_) (by simp only[argBest,hb,cQ];exact hP) (aY _ q rfl)
    λZ z l y p=>?_⟩
   ·exact(br _ _ (λh:S=b=>G<|by rw[h];exact CP)).trans e
   ·exact T Z z l y λb o a i e=>p b o a i ((br _ _<|bV i).trans (d b o a e))
  |false=>simp only[bA,bT];refine ae (iS ?_);rw[m];refine af ⟨cR cq _,ih (j+1) _ vb c (by lia) x t (by simp only[argBest,hb,bA,bT];exact r) q λZ z l y p=>?_⟩;exact T Z z l y λb o a i e=>p b o a i (d b o a e)
def Nj(a d):argsOk "max" ⟨[a],[(Str.ofString "default",d)]⟩:=by unfold argsOk;kernel_rfl
variable{E:ki}{s:jr}{l:ja}{F:kL}{y:kv}
def N9(d:IntsAre F y):CmpOf prog w B .Gt (λi v=>F.toArray[i]?=some v) (pX y):=λi j k h s Q E c a m=>by obtain⟨t,rfl⟩:=c5 d i k (by simpa using c);obtain⟨u,rfl⟩:=c5 d j h (by simpa using a);exact ix m
def UO{Q:ki}(hh:A.handled=none)(hl:s.heap.IsList l F.toArray)(hi:IntsAre F y)
 (hQ:∀c tk t,y≠[]->(∀b o,s.heap.get? b=some o->c.get? b=some o)->Q (.int (nQ y) t) {s with heap:=c,toks:=tk})
 (hD:∀c tk,y=[]->(∀b o,s.heap.get? b=some o->c.get? b=some o)->Q dv {s with heap:=c,toks:=tk}):
   wpAny (model prog w) A (call (.builtin "max") [.ref l] [(Str.ofString "default",dv)]) Q E s:=by
  have d:(toString "max"++toString ".loop":String)="max.loop":=by decide
  obtain⟨ol,RK,_⟩:=id hl;have C:l<s.heap.objs.size:=Heap.lt_size RK;have m:F.length=y.length:=hi.length;have Z:F.toArray.size=F.length:=aQ ..;refine kmk_tree PySem.F.kind_max PySem.F.plain_max PySem.F.entry_max (Nj _ _) ?_;show wpAny _ A.in1 (Builtin.Builtins.bindParams "max" ["key","default"] 0 ⟨[],[(Str.ofString "default",dv)]⟩>>=_) _ _ s;refine ae (f3 (show Builtin.Builtins.bindParams "max" ["key","default"] 0 ⟨[],[(Str.ofString "default",dv)]⟩=pure [none,some dv]from rfl) ?_);refine ae (af ?_);refine ae (dm hl ?_);refine ae (gD ?_ (bQ _));rw[d];have W:=Walks.list (prog:=prog) (w:=w) (A:=A.in1) hh s.heap.objs.size l (aU C) F.toArray;have V:∀c:jw,(∀b o,(s.heap.push {cls:=.type "list_iterator",data:=.fields #[.ref l,.int 0 0]}).get? b=some o->c.get? b=some o)->c.IsListIter s.heap.objs.size l 0/\c.IsList l F.toArray:=λc k=>⟨⟨_,k _ _<|aD _ rfl,rfl,rfl⟩,hl.at λo e=>k _ _<|ah _ e⟩;have p:(s.heap.push {cls:=.type "list_iterator",data:=.fields #[.ref l,.int 0 0]}).objs.size=s.heap.objs.size+1:=size_push' ..;have k1:∀b o,s.heap.get? b=some o->(s.heap.push {cls:=.type "list_iterator",data:=.fields #[.ref l,.int 0 0]}).get? b=some o:=λb o e=>ah _ e;generalize s.heap.push {cls:=.type "list_iterator",data:=.fields #[.ref l,.int 0 0]}=g at*;have G:g.objs.size∉[s.heap.objs.size,l]:=by rw[p];simp only[az,cF,fY,i6];exact⟨cP<|bH _,cP<|bW C⟩
  have gS:(g.push<|seqObj "list" #[] 0).get? g.objs.size=some (seqObj "list" #[] 0):=aD _ rfl;have u:=V (g.push<|seqObj "list" #[] 0) λb o e=>ah _ e
  have a:∀b o,s.heap.get? b=some o->b∉[s.heap.objs.size]/\b≠g.objs.size/\(g.push<|seqObj "list" #[] 0).get? b=some o:=λb o e=>⟨λhm=>absurd (Heap.lt_size e)<|by rw[aI.mp hm];exact cx _,λz=>absurd (Heap.lt_size e)<|by rw[z,p];exact iZ.mpr (c6 _),ah _<|k1 b o e⟩
  refine af ⟨cR cq _,?_⟩;refine cj fF ?_;rw[bX cq _];show wpAny _ A.in1 (seqItems? (.ref g.objs.size)>>=_) _ _ _;refine ae (dc gS rfl ?_);show wpAny _ A.in1 (tryCatch (pyNext<|.ref s.heap.objs.size) _>>=_) _ _ _;by_cases i:y=[]
  ·have e0:F.toArray.size=0:=by rw[Z,m,i];rfl
   refine ae (eE<|W.done _ _ _ (by rw[e0];exact u) λc r j=>?_);show wpAny _ A.in1 (rule _>>=_) _ _ _;exact ae (eX<|af<|hD c r i λb o e=>j b o (a b o e).1 (a b o e).2.2)
  ·have adn:0<y.length:=List.length_pos_iff.mpr i;refine ae (eE<|W.item 0 _ _ _ (by simp_all) u λv c r hP x j=>?_);have T:=j g.objs.size _ (by rw[aI,p];exact cP (bH _)) gS;show wpAny _ A.in1 (updateSeq g.objs.size (λ_=>#[v,v])>>=_) _ _ _;refine ae ?_;refine eU T rfl ?_;rw[d];refine af ⟨cR cq _,UP W (pX y) (N9 hi) g.objs.size G _ 0 _ v _ rfl (by lia) (W.frame _ _ _ x λb CP o e=>?_) hP (aY _ T rfl) λv' CM q Qu D=>?_⟩;·exact(br _ _ (λh:g.objs.size=b=>G<|by rw[h];exact CP)).trans e
   ·obtain⟨t',rfl⟩:=c5 hi _ v' (by simpa using Qu);have em:=Gq y (y.length - 1) (by walk_at "l");rw[show y.length - 1+1=y.length by grind,c0<|ai _]at em;rw[show F.length=y.length from m,em];exact hQ CM q t' i λb o e=>D b o (a b o e).1 (a b o e).2.1 ((br _ _<|bV (a b o e).2.1).trans (j b o (a b o e).1 (a b o e).2.2))
end
variable{X:Cx}{E:XK}{e de:jB}{fa fb:jQ}{pos p0 p3:Pos}
def DK(d:D):D->R D
 |.lst ds=>match sD ds with
  |some a=>if a.isEmpty then .ok d else .ok (.int<|nQ a)
  |none=>.bad
 |_=>.bad
def Hd(fa fb:jQ):jQ:=λρ=>(fa ρ).bind λd1=>(fb ρ).bind λd2=>DK d2 d1
def Oy(hc:X.calm=true)(D:Gl X "max")(A:X.mg "max"=none)(he:DE X E e fa)(hd:DE X E de fb)
 (hs:X.se e [])(r:backTo pos (starEach [e] X.env)=(false,eval e X.env)::backTo pos (starEach [] X.env))(d:(backTo pos<|starEach [e] X.env).any (·.1)=false):
   DE X E (.Call (.Name "max" p0) [e] [⟨some<|Str.ofString "default",de,p3⟩] pos) (Hd fa fb):=by
  obtain⟨M,pa,ra⟩:=he;obtain⟨L,pb,Z⟩:=hd
  refine⟨λσ H Q=>M σ H λO m=>∃x,[O]=[x]/\L σ m λy a=>∃(l:ja) (c:kv),x=.ref l/\lz X.K a l (c.map V.int)/\
   (c≠[]->Q (.int (nQ c)) a)/\(c=[]->Q y a),λf s σ H Q I h=>?_,λ{_ _ _ H σ _ Q} s h=>?_⟩
  ·refine cz (sJ I D A Bz ?_ (by decide) (by decide));refine callWith_kw ?_ r d;have G:PA X [e] (zY M z5):=sP pa sQ hs
   refine jC (G pos f s σ H (λJ m=>∃x,J=[x]/\L σ m λy a=>∃(l:ja) (c:kv),x=.ref l/\lz X.K a l (c.map V.int)/\
    (c≠[]->Q (.int (nQ c)) a)/\(c=[]->Q y a)) I h) λus o ⟨R,m,I1,r1,q⟩=>?_
   obtain⟨x,rfl,q⟩:=q;obtain⟨u,rfl,Y⟩:=vals1 r1;refine kws_cons (jC (pb f o σ m _ I1 q) λw N z=>?_);obtain⟨y,a,n,r2,q2⟩:=z;refine kws_nil ?_;obtain⟨l,c,rfl,C,q3,q4⟩:=q2;obtain rfl:u=Value.ref l:=Y;obtain⟨vd,P,pl,hz⟩:=n.list C
   exact UO (n.ok.hd hc) pl.isList (De P) (λh' tk t j k=>⟨.int _,a,n.kept (t':=tk) k,⟨_,rfl⟩,q3 j⟩)
    (λh' tk F k=>⟨y,a,n.kept (t':=tk) k,r2,q4 F⟩)
  ·refine ra s (Aft.mono (Aft.split h) λo h1 v U=>⟨v,rfl,Z (s.grow o)<|Aft.mono (Aft.split h1) λ{_ a} N i y T=>?_⟩);unfold DK at i;split at i
   ·rename_i ds;split at i
    ·rename_i c hn;have e:=Dd hn;subst e;obtain⟨l,J,rfl,C,p⟩:=(U.up N).oW;have ev:=Et p;subst ev;refine⟨l,c,rfl,C,λj=>?_,λF=>?_⟩
     ·rw[ax<|by simpa using j]at i;exact i a (.refl a) _ (.int _)
     ·subst F;exact i a (.refl a) y T
    ·exact i.elim
   ·exact i.elim
end P2
set_option maxHeartbeats 1000000
namespace P2
open PySem L2
def Am(f:jE):jE:=λρ S=>(f ρ S).bind λz a=>match z with
 |.d (.bl b)=>.ok (.d<|.bl<|!b) a
 |_=>.bad
def An(a b:jE):jE:=λρ S=>(a ρ S).bind λx h=>match x with
 |.d d=>(lJ (tT d) h).bind λc f=>if c=true then .ok (.d d) f else b ρ f
 |_=>.bad
def wK:Z->jk
 |.d .non=>true
 |_=>false
def xK(f:jE):jP->jt->RX jk:=λρ S=>(f ρ S).bind λz a=>.ok (wK z) a
def xM(f:jE):jP->jt->RX jk:=λρ S=>(f ρ S).bind λz a=>.ok (!wK z) a
variable{X:Cx}{E:XK}{b:Nat}{o k e a c:jB}{rest:lr}{fo B f C F:jE}{i J:Pos}
def acr(u:ZE X E a C):ZE X E (.UnaryOp .Not a i) (Am C):=by
 obtain⟨y,t,r⟩:=u;refine⟨_,KC t,λs h=>r s<|jh.mono (jh.split h) λ{_ d l n _} p x w m v q=>?_⟩;split at m
 ·rename_i b;have j:Rep X.K d n v (.bl b):=q;cases j;exact⟨b,rfl,m d l n p .refl .refl _<|show Rep X.K d n (.bl<|!b) (.bl<|!b)from .bl _⟩
 ·exact m.elim
def acu(y:ZE X E a C)(x:ZE X E (.BoolOp .Or (c::rest) i) F):ZE X E (.BoolOp .Or (a::c::rest) i) (An C F):=by
 obtain⟨I,u,r⟩:=y;obtain⟨G,t,L⟩:=x;refine⟨_,Xa u t,λs h=>r s<|jh.mono (jh.split h) λ{_ m j z _} n D A l v p=>?_⟩;split at l
 ·rename_i d;obtain⟨k,w,q⟩:=zN p (jh.toAft n<|jh.split l);refine⟨k,w,?_⟩;cases k with
  |true=>rw[au rfl]at q⊢;exact q m j z n .refl .refl v p
  |false=>grind
 ·exact l.elim
def Ly{lo}(r:ko K al lo H v z):decide (v=.non)=wK z:=by
 cases z with
 |loc n=>obtain⟨a,_,rfl⟩:=r;rfl
 |tk j=>obtain⟨a,_,_,rfl⟩:=r;rfl
 |d d=>have h:Rep K al H v d:=r;cases h<;>rfl
def MR(u:ZE X E a C)(t:autoParam (behindInMarks .Is (.Constant .none j p2)=false) aZ6):ZT X E (.Compare a [.Is] [.Constant .none j p2] i) (xK C):=by obtain⟨z,r,q⟩:=u;refine⟨_,zK VP r Ee t,λs h=>q s<|jh.mono (jh.split h) λ{_ l d w _} n y x m v p=>?_⟩;rw[<-Ly p]at m;exact⟨rfl,_,rfl,m l d w n .refl .refl⟩
def acY(u:ZE X E a C)(t:autoParam (behindInMarks .IsNot (.Constant .none j p2)=false) aZ6):ZT X E (.Compare a [.IsNot] [.Constant .none j p2] i) (xM C):=by obtain⟨z,r,q⟩:=u;refine⟨_,zK V3 r Ee t,λs h=>q s<|jh.mono (jh.split h) λ{_ l d w _} n y x m v p=>?_⟩;rw[<-Ly p]at m;exact⟨rfl,_,rfl,m l d w n .refl .refl⟩
def E3:jE:=λ_ S=>.ok (.loc S.length) (S++[.dk []])
def acj:ZE X E (.Dict [] [] i) E3:=by
 refine⟨_,WY,λ{_ al lo H _ _ S _} s h=>λp d=>?_⟩;have m:lV X.K (λb=>al b/\b≠p) (k8 lo S.length p) (upd H p<|.dK []) p (.dk []):=⟨[],kK,.nil⟩;have j:=s.new d J4 m nofun;have l:k8 lo S.length p S.length=some p:=by unfold k8;rw[au rfl]
 exact h _ _ _ j (qu d) (oV s.st p) _ ⟨p,l,rfl⟩
def vH(fo B:jE):jE:=λρ S=>(fo ρ S).bind λz j=>match z with
 |.loc n=>(match j[n]? with
  |some (.dt _)=>(B ρ j).bind λy h=>(match y,h[n]? with
   |.tk k,some (.dt d)=>.ok ((valZ d k).getD (.d .non)) h
   |_,_=>.bad)
  |_=>.bad)
 |_=>.bad
def acg(hu:X.A.units+64<cLine)(U:ZE X E o fo)(V:ZE X E k B)(m:M1 X o "get" apos k i):ZE X E (.Call (.Attribute o "get" apos) [k] [] i) (vH fo B):=by
 obtain⟨to,R,O⟩:=U;obtain⟨tk,pk,P⟩:=V;refine⟨_,WX (by lia) R pk m,λs h=>O s<|jh.mono (jh.split h) λz x1 y1 p v M=>?_⟩;split at p
 ·rename_i n;split at p
  ·rename_i T Q;obtain⟨a,D,rfl⟩:=M;obtain⟨r,g0,_⟩:=z.cell D Q;refine⟨a,rfl,.inr ⟨r,.inl g0⟩,P z<|jh.mono (jh.split p) λ{_ d l y _} t x2 I j u N=>?_⟩;split at j
   ·rename_i A x q;obtain⟨c,ha,Y,rfl⟩:=N;obtain⟨L,Z,G⟩:=t.cell (I _ _ D) q;refine⟨lT L A,.t Z Y,?_⟩;cases e:valZ x A with
    |none=>rw[G.none e];rw[e]at j;exact j d l y t .refl .refl .non (show Rep X.K d y .non .non from .non)
    |some z0=>obtain⟨w,e1,e2⟩:=G.val e;rw[e1];rw[e]at j;exact j d l y t .refl .refl w e2
   ·exact j.elim
  ·exact p.elim
 ·exact p.elim
def Ol{s}{a}{k}{u}{E}(I:Inv X pins σ H s)(e:H a=some (.dK kvs))(U:kvs.length<sizeLine)
 (y:RelV (kV k) u)(x:RelV z r)(R:∀v m j,lT kvs k=some v->Inv X pins σ H j->RelV v m->Q m j)(P:lT kvs k=none->∀j,Inv X pins σ (upd H a<|.dK<|putK kvs k z) j->Q r j):
   wpAny (model X.prog X.w) A (call (.builtin "dict.setdefault") [.ref a,u,r]) Q E s:=by
  obtain⟨t,p,n,h,dd⟩:=Ho I.hok e;have D:n.length<=sizeLine:=by rw[<-h.length];exact t
  have M:(putK kvs k z).length<=sizeLine:=by have:=Dx kvs k z;walk_at "l"
  refine ia f9 dd.typeIs PySem.F.entry_dict_setdefault (PySem.F.args_dict_setdefault_3 _ _ _) (kt_meets_setdefault (kg X.prog X.w) a (pG y) p r) ⟨n,dd,D,λv hv=>?_,λN T l G=>?_⟩
  ·have d:=h.val k;rw[hv]at d;cases q:lT kvs k with
   |none=>rw[q]at d;exact d.elim
   |some w=>rw[q]at d;exact R w v _ q (I.tok _) d
  ·have d:=h.val k;rw[N]at d;cases q:lT kvs k with
   |some w=>rw[q]at d;exact d.elim
   |none=>have O:∃q,T.get? a=some q:=let⟨q,_,_,L,_⟩:=l;⟨q,L⟩;exact P q _ (BI I (by rw[e];exact True.intro) G O<|Hn M p (h.put k x) l)
def aaX(m ty l:TE):TE:=λσ H Q=>m σ H λx j=>∃a,x=.ref a/\AA j a/\ty σ j λy n=>l σ n λz h=>∃d k,h a=some (.dK d)/\d.length<sizeLine/\y=kV k/\
 (∀v,lT d k=some v->Q v h)/\(lT d k=none->Q z (upd h a<|.dK<|putK d k z))
def W0{f}(V:PE X o td)(Z:PE X e ty)(hf:PE X f tx)(m:M2 X o "setdefault" apos e f cpos):PE X (.Call (.Attribute o "setdefault" apos) [e,f] [] cpos) (aaX td ty tx):=by intro j s σ H Q I h;refine wpAny_Call_method m.base m.few m.line eZ f9 PySem.F.type_dict_setdefault (jC (V j s σ H _ I h) λu L n=>?_);obtain⟨x,H1,t,N,a,ex,d,T⟩:=n;subst ex;obtain rfl:u=Value.ref a:=N;obtain⟨A,w,_⟩:=Df t d;refine⟨A,w,?_⟩;rw[m.trees];refine dW rfl (fX<|dU<|jC (Z j L σ H1 _ t T) λiv G n=>?_);obtain⟨y,H2,I2,M,R⟩:=n;refine dU (jC (hf j G σ H2 _ I2 R) λfv s3 n=>?_);obtain⟨z,H3,I3,r,U,k,ea,Y,ey,P,O⟩:=n;refine fj ?_;subst ey;exact Ol I3 ea Y M r (λv w' D l q p=>⟨v,H3,q,p,P v l⟩) λl D q=>⟨z,_,q,r,O l⟩
def xP(fo B f:jE):jE:=λρ S=>(fo ρ S).bind λz l=>match z with
 |.loc n=>(match l[n]? with
  |some (.dk _)=>(B ρ l).bind λy m=>(f ρ m).bind λx j=>(match y,j[n]? with
   |.d d,some (.dk h)=>(match og d with
    |some k=>if h.length<sizeLine then(match valZ h k with
     |some z=>.ok z j
     |none=>.ok x (j.set n (.dk (kx h k x))))else .bad
    |none=>.bad)
   |_,_=>.bad)
  |_=>.bad)
 |_=>.bad
def ack{g}(ho:ZE X E o fo)(hk:ZE X E k B)(hg:ZE X E g fg)(m:M2 X o "setdefault" apos k g i):ZE X E (.Call (.Attribute o "setdefault" apos) [k,g] [] i) (xP fo B fg):=by
 obtain⟨to,po,ro⟩:=ho;obtain⟨tk,pk,rk⟩:=hk;obtain⟨tg,pg,rg⟩:=hg;refine⟨_,W0 po pk pg m,λs h=>ro s<|jh.mono (jh.split h) λ{z _ _ _ _} T x1 y1 A v rv=>?_⟩;split at A
 ·rename_i n;split at A
  ·rename_i kv0 q0;obtain⟨a,U,rfl⟩:=rv;obtain⟨I,g0,_⟩:=T.cell U q0;refine⟨a,rfl,.inl ⟨I,.inl g0⟩,rk T<|jh.mono (jh.split A) λ{_ P _ H2 _} s2 x2 y2 h2 u ru=>rg s2<|jh.mono (jh.split h2) λ{x t N Q _} G x3 y3 j w y=>?_⟩;split at j
   ·rename_i d l q;split at j
    ·rename_i p ek;split at j
     ·rename_i hl;have r:=y3 _ _ (y2 _ _ U);obtain⟨L,g1,D⟩:=G.cell r q;have M:Rep X.K P H2 u d:=ru;refine⟨L,p,g1,by rw[D.length];exact hl,Dr M ek,λv' hv=>?_,λhv=>?_⟩
      ·cases e:valZ l p with
       |none=>rw[D.none e]at hv;cases hv
       |some Z=>obtain⟨w0,O,Y⟩:=D.val e;rw[O]at hv;cases hv;rw[e]at j;exact j t N Q G .refl .refl _ Y
      ·cases e:valZ l p with
       |some Z=>obtain⟨w0,O,Y⟩:=D.val e;rw[O]at hv;cases hv
       |none=>rw[e]at j;have xx:Xt t Q t (upd Q a (.dK (putK L p w))):=λb o _ V eb=>⟨V,by rw[jL λz=>G.st.na n a r (by rw[<-z];exact V)];exact eb⟩;obtain⟨s4,R⟩:=G.write r (o:=.dK (putK L p w)) (c:=.dk (kx l p x)) J4 (λq w=>by unfold md at w;cases w) ⟨_,kK,kC.mv xx .refl (D.put p y)⟩ nofun;exact j _ _ _ s4 R .refl w (ko.mv R .refl y)
     ·exact j.elim
    ·exact j.elim
   ·exact j.elim
  ·exact A.elim
 ·exact A.elim
end P2
namespace P2
open PySem
namespace yg
def G:Nat->Nat
 |0=>0
 |n+1=>5*G n+1
theorem zJ:∀n,5^n=4*G n+1
 |0=>rfl
 |n+1=>by rw[dD,zJ n];show _=4*(5*G n+1)+1;lia
theorem FG:∀n,G n%2=n%2
 |0=>rfl
 |n+1=>by have:=FG n;show(5*G n+1)%2=_;lia
theorem Ay(a):∀b,G (a+b)=G a+5^a*G b
 |0=>by show G a=G a+5^a*0;simp
 |b+1=>by
  show 5*G (a+b)+1=G a+5^a*(5*G b+1);rw[Ay a b,zJ a,iT,iT,i4];have e:(4*G a+1)*(5*G b)=5*((4*G a+1)*G b):=by rw[Nat.mul_left_comm]
  rw[e]
  lia
def BD{k}(h:c%2=1):Nat.Coprime (2^k) c:=by apply Nat.Coprime.pow_left;show Nat.gcd 2 c=1;rw[Nat.gcd_rec,h];rfl
theorem FF:∀k b,2^k∣G b->2^k∣b
 |0,b,_=>by rw[Nat.pow_zero];exact Nat.one_dvd b
 |k+1,b,h=>by
  have j:2∣G b:=Nat.dvd_trans ⟨2^k,by rw[dD,ig]⟩ h;have l:=FG b;have a:b=b/2+b/2:=by have:G b%2=0:=Nat.mod_eq_zero_of_dvd j;lia
  generalize b/2=c at a;subst a;rw[Ay,zJ]at h;have e:G c+(4*G c+1)*G c=2*(G c*(2*G c+1)):=by
   rw[iU,Nat.one_mul,iT,iT,i4,gG,Nat.mul_left_comm (G c) 2<|G c]
   lia
  rw[e,dD,ig (2^k) 2]at h;have i:2^k∣G c*(2*G c+1):=Nat.dvd_of_mul_dvd_mul_left (by decide) h;have f:=FF k c (fG (BD<|by simp) i);obtain⟨d,rfl⟩:=f;exact⟨d,by rw[dD];rw[<-Nat.two_mul,ig (2^k) 2,gG]⟩
def stp(N i:Nat):Nat:=(i*5+1)%N
def qs(N:Nat):Nat->Nat->Nat
 |0,x=>x
 |n+1,x=>stp N (qs N n x)
theorem zW(a:x<N):∀d,qs N d x=(x+G d*(4*x+1))%N
 |0=>by show x=(x+0*_)%N;rw[Nat.zero_mul,Nat.add_zero,Nat.mod_eq_of_lt a]
 |d+1=>by
  show(qs N d x*5+1)%N=(x+(5*G d+1)*(4*x+1))%N;rw[zW a d,Nat.add_mod,Nat.mul_mod,Nat.mod_mod,<-Nat.mul_mod,<-Nat.add_mod]
  congr 1
  rw[iU,iU,gG 5,Nat.one_mul]
  lia
def aaI{k}(c:x<2^k)(h:a<b)(m:b<2^k):qs (2^k) a x≠qs (2^k) b x:=λe=>by
 rw[zW c,zW c]at e;obtain⟨d,rfl⟩:∃d,b=a+d:=⟨b - a,by lia⟩;rw[Ay]at e;have f:2^k∣(x+(G a+5^a*G d)*(4*x+1)) - (x+G a*(4*x+1)):=Nat.dvd_of_mod_eq_zero (Nat.sub_mod_eq_zero_of_mod_eq e.symm);have l:(x+(G a+5^a*G d)*(4*x+1)) - (x+G a*(4*x+1))=5^a*G d*(4*x+1):=by rw[iU];omega
 rw[l]at f;have j:2^k∣5^a*G d:=fG (BD<|by lia) f;have i:2^k∣G d:=Nat.Coprime.dvd_of_dvd_mul_left (BD<|by rw[zJ];lia) j;have n:=Nat.le_of_dvd (by simp_all) (FF k d i)
 lia
theorem zm:∀{l m:lC},l.Nodup->(∀x∈l,x∈m)->l.length<=m.length
 |[],m,_,_=>bQ _
 |a::l,m,h,s=>by
  obtain⟨i,f⟩:=bL.mp h;have d:=s a (.head _);have:=zm (l:=l) (m:=m.erase a) f λx c=>(List.mem_erase_of_ne (λe=>i (by rw[<-e];exact c))).mpr (s x (.tail _ c));rw[List.length_erase_of_mem d]at this;have:=List.length_pos_of_mem d;rw[aw]
  lia
def DR(n):(List.range n).Nodup:=List.nodup_range
def aaH{k}(c:x<2^k)(j:e<2^k):∃d,d<2^k/\qs (2^k) d x=e:=by
 have nd:((List.range<|2^k).map λd=>qs (2^k) d x).Nodup:=by refine gz _ (R:=λa b=>a<b/\b<2^k) (λa b h=>aaI c h.1 h.2) ?_;refine eT (λ{a b} l f h=>⟨h,cf.mp f⟩) fC
 have lt:∀d,qs (2^k) d x<2^k:=λd=>by rw[zW c];exact eY _ (Nat.two_pow_pos k)
 by_cases h:e∈(List.range<|2^k).map λd=>qs (2^k) d x;·simp_all
 ·exfalso;have:=zm (m:=(List.range<|2^k).erase e) nd λy i=>by grind
  grind
def l0(a:Nat):Nat->Nat×Nat->Nat×Nat
 |0,q=>q
 |n+1,q=>SetTable.leap a (l0 a n q).1 (l0 a n q).2
theorem Js(mask q):∀n,(l0 mask n q).2=q.2/32^n
 |0=>by show q.2=q.2/1;rw[Nat.div_one]
 |n+1=>by show(l0 mask n q).2/32=_;rw[Js mask q n,Nat.div_div_eq_div_mul,dD]
def TB(mask q):∀n,(l0 mask (n+1) q).1<mask+1:=λn=>eY _ (dZ _)
theorem Jr(a:q.2<2^64):∀d,(l0 mask (13+d) q).1=qs (mask+1) d (l0 mask 13 q).1
 |0=>rfl
 |d+1=>by
  show(SetTable.leap mask (l0 mask (13+d) q).1 (l0 mask (13+d) q).2).1=stp (mask+1) (qs (mask+1) d (l0 mask 13 q).1);have z:(l0 mask (13+d) q).2=0:=by
   rw[Js,Nat.div_eq_of_lt]
   grind
  rw[Jr a d,z];rfl
def Jt{k}(a:mask+1=2^k)(c:q.2<2^64)(h:e<=mask):∃m,13<=m/\m<=13+mask/\(l0 mask m q).1=e:=by obtain⟨d,i,f⟩:=aaH (k:=k) (x:=(l0 mask 13 q).1) (e:=e) (by rw[<-a];exact TB mask q 12) (by lia);exact⟨13+d,by simp,by lia,by rw[Jr c,a];exact f⟩
open SetTable
def j6(t:lF):Nat->Probe->Probe
 |0,p=>p
 |n+1,p=>j6 t n (t.advance p)
theorem rn(t):∀a b p,j6 t (a+b) p=j6 t b (j6 t a p)
 |0,b,p=>by rw[Nat.zero_add];rfl
 |a+1,b,p=>by rw[Nat.succ_add];exact rn t a b (t.advance p)
def Nh(t n p):j6 t (n+1) p=t.advance (j6 t n p):=rn t n 1 p
def blk(a:Nat)(q:Nat×Nat)(d:jm Nat):Probe:={j:=q.1,more:=runEnd a q.1 - q.1,i:=q.1,perturb:=q.2,dummy:=d}
def Ex(mask i):runEnd mask i - i<=9:=by unfold runEnd;split<;>simp
def Ew{a}(h:i<=a):runEnd a i<=a:=by unfold runEnd;split<;>omega
def LF(mask i):i<=runEnd mask i:=by unfold runEnd;split<;>simp
theorem Bb(t):∀k (p:Probe),k<=p.more->j6 t k p={p with j:=p.j+k,more:=p.more - k}
 |0,p,_=>rfl
 |k+1,p,h=>by
  have a:p.more>0:=by lia
  show j6 t k (t.advance p)=_;have e:t.advance p={p with j:=p.j+1,more:=p.more - 1}:=by unfold advance;rw[au a]
  rw[e,Bb t k _<|by show k<=p.more - 1;lia];show({p with j:=p.j+1+k,more:=p.more - 1 - k}:Probe)=_;rw[show p.j+1+k=p.j+(k+1)by lia,show p.more - 1 - k=p.more - (k+1)by lia]
def yw(t)(p):j6 t (p.more+1) p=blk t.mask (leap t.mask p.i p.perturb) p.dummy:=by rw[Nh,Bb t p.more p<|ai _];unfold advance;rw[ax<|by show¬p.more - p.more>0;simp];rfl
theorem Gg(t):∀m q d,∃n,n<=10*m/\j6 t n (blk t.mask q d)=blk t.mask (l0 t.mask m q) d
 |0,q,d=>⟨0,ai _,rfl⟩
 |m+1,q,d=>by
  obtain⟨n,c,a⟩:=Gg t m q d;have:=Ex t.mask (l0 t.mask m q).1;refine⟨n+((blk t.mask (l0 t.mask m q) d).more+1),?_,?_⟩;·show n+(runEnd t.mask (l0 t.mask m q).1 - (l0 t.mask m q).1+1)<=_;lia
  ·rw[rn,a,yw];rfl
def Gf{t}{k}(c:t.mask+1=2^k)(a:p.perturb<2^64)(j:p.more<=9)(f:e<=t.mask):∃n,n<10*turns t.mask/\(j6 t n p).j=e:=by have d:(leap t.mask p.i p.perturb).2<2^64:=cC (Nat.div_le_self _ _) a;obtain⟨m,q,o,i⟩:=Jt c d f;obtain⟨n,l,h⟩:=Gg t m (leap t.mask p.i p.perturb) p.dummy;refine⟨p.more+1+n,by unfold turns;lia,?_⟩;rw[rn,yw,h];exact i
structure ph(t:lF)(p:Probe):Prop where
 b:p.perturb<2^64
 r:p.more<=9
 j:p.j+p.more<=t.mask
 d:p.dummy=none
def KY(t)(h):ph t (t.probeStart h) where
 b:=by unfold probeStart;show SetTable.bits h<2^64;unfold SetTable.bits;lia
 r:=by unfold probeStart;exact Ex _ _
 j:=by unfold probeStart;show SetTable.bits h%(t.mask+1)+(runEnd t.mask (SetTable.bits h%(t.mask+1)) - SetTable.bits h%(t.mask+1))<=t.mask;have f:SetTable.bits h%(t.mask+1)<t.mask+1:=eY _ (dZ _);have c:=Ew (show SetTable.bits h%(t.mask+1)<=t.mask by walk_at "l");have a:=LF t.mask (SetTable.bits h%(t.mask+1));simp_all
 d:=by unfold probeStart;rfl
def ph.Ng{t}(h:ph t p):ph t (t.advance p):=by
 obtain⟨a,d,f,c⟩:=h;unfold advance;by_cases w:p.more>0
 ·rw[au w];exact⟨a,by show p.more - 1<=9;lia,by show p.j+1+(p.more - 1)<=t.mask;lia,c⟩
 ·rw[ax w];refine⟨cC (Nat.div_le_self _ _) a,Ex _ _,?_,c⟩;show(leap t.mask p.i p.perturb).1+(runEnd t.mask (leap t.mask p.i p.perturb).1 - (leap t.mask p.i p.perturb).1)<=t.mask;have a:(leap t.mask p.i p.perturb).1<t.mask+1:=eY _ (dZ _);have d:=Ew (show(leap t.mask p.i p.perturb).1<=t.mask by walk_at "l")
  lia
theorem ph.j6{t}:∀n {p},ph t p->ph t (j6 t n p)
 |0,_,h=>h
 |n+1,_,h=>ph.j6 n h.Ng
theorem tu{t a:lF}(h:t.mask=a.mask):∀n p,j6 t n p=j6 a n p
 |0,_=>rfl
 |n+1,p=>by
  show j6 t n (t.advance p)=j6 a n (a.advance p);have:t.advance p=a.advance p:=by unfold advance;rw[h]
  rw[this];exact tu h n _
def vy{t a:lF}(h:t.mask=a.mask)(x:Int):t.probeStart x=a.probeStart x:=by unfold probeStart;rw[h]
def slot_mem{t:lF}(c:mw t.place)(h:j∈t.place.toList):∃i,t.slot j=.live i/\t.place[i]?=some j:=by
 obtain⟨o,n,f⟩:=yC c j;obtain⟨m,d,e⟩:=bS h;have a:m<t.place.size:=by simpa using d
 have k:t.place[m]=j:=by simpa using e
 have l:below t.place j=m:=by
  rcases fA (below t.place j) m with q|q|q
  ·have:=f _ (by lia) (ai<|below t.place j);have:=c.lt q a
   lia
  ·exact q
  ·grind
 refine⟨m,?_,by rw[aM a,k]⟩;unfold slot;simp_all
def aat{t:lF}(a:t.dummies=#[])(h:j∉t.place.toList):t.slot j=.empty:=by
 unfold slot;rw[ax,a];·rfl
 ·grind
def vS(t:lF)(h:Int)(j:Nat):Prop:=∃m,(j6 t m<|t.probeStart h).j=j/\∀a,a<m->(j6 t a<|t.probeStart h).j∈t.place.toList
structure Tab(t:lF)(es:uM):Prop where
 k:∃k,3<=k/\t.mask+1=2^k
 qo:mw t.place
 le:∀j∈t.place.toList,j<=t.mask
 pD:t.dummies=#[]
 sz:t.place.size=es.length
 fl:es.length<=t.mask
 reach:∀j e,(j,e)∈List.zip t.place.toList es->vS t e.1 j
variable{t:lF}{v:uM}
def Tab.odd(a:Tab t v):t.gaveWay=false:=by
 obtain⟨k,c,h⟩:=a.k;obtain⟨j,rfl⟩:∃j,k=j+1:=⟨k - 1,by lia⟩;unfold gaveWay
 lia
def Tab.m7(a:Tab t v):7<=t.mask:=by
 obtain⟨k,c,h⟩:=a.k;have:2^3<=2^k:=iV (by decide) c
 lia
def Tab.fits(a:Tab t v):t.fits v.length=true:=by unfold SetTable.fits fill;rw[a.pD,a.sz];have:=a.fl;simp_all
def Tab.room(a:Tab t v):∃e,e<=t.mask/\e∉t.place.toList:=by
 refine cu λw=>?_;have:=zm (m:=t.place.toList) (DR<|t.mask+1) λx c=>cu λy=>w ⟨x,by have:=cf.mp c;walk_at "l",y⟩;rw[fH,aG,a.sz]at this;have:=a.fl
 lia
theorem Ip(j:Tab t v)(f:Nat->Int)(h:Int):∀a (p:Probe),p.dummy=none->(∃n,n<a/\(j6 t n p).j∉t.place.toList)->
 ∃m,m<a/\(∀c,c<m->∃i,t.place[i]?=some (j6 t c p).j/\f i≠h)/\(((j6 t m p).j∉t.place.toList/\probe.go t f h a p=some (.empty (j6 t m p).j none))\/∃i,t.place[i]?=some (j6 t m p).j/\t.slot (j6 t m p).j=.live i/\f i=h/\probe.go t f h a p=some (.candidate (j6 t m p).j i (j6 t (m+1) p)))
 |0,p,_,⟨n,q,_⟩=>absurd q (cK _)
 |a+1,p,o,⟨n,q,r⟩=>by
  by_cases d:p.j∈t.place.toList
  ·obtain⟨i,l,s⟩:=slot_mem j.qo d;by_cases hf:f i=h
   ·refine⟨0,dZ _,λc w=>absurd w<|cK _,.inr ⟨i,s,l,hf,?_⟩⟩;unfold probe.go;rw[l];simp[hf];exact⟨rfl,rfl⟩
   ·have u:(t.advance p).dummy=none:=by unfold advance;split<;>exact o
    obtain⟨k,rfl⟩:∃k,n=k+1:=⟨n - 1,by cases n with|zero=>exact absurd d r|succ n=>rfl⟩;obtain⟨m,A,y,x⟩:=Ip j f h a (t.advance p) u ⟨k,by walk_at "l",r⟩;have z:probe.go t f h (a+1) p=probe.go t f h a (t.advance p):=by rw[probe.go];rw[l];simp[hf]
    refine⟨m+1,by walk_at "l",λc w=>?_,?_⟩
    ·cases c with
     |zero=>exact⟨i,s,hf⟩
     |succ c=>exact y c (by walk_at "l")
    ·rw[z];exact x
  ·refine⟨0,dZ _,λc w=>absurd w<|cK _,.inl ⟨d,?_⟩⟩;unfold probe.go;rw[aat j.pD d];simp[o];rfl
def XE(a:Tab t v)(f:Nat->Int)(h:Int)(c:ph t p):
    ∃m,(∀d,d<m->∃i,t.place[i]?=some (j6 t d p).j/\f i≠h)/\(((j6 t m p).j∉t.place.toList/\t.probe f h p=some (.empty (j6 t m p).j none))\/∃i,t.place[i]?=some (j6 t m p).j/\t.slot (j6 t m p).j=.live i/\f i=h/\t.probe f h p=some (.candidate (j6 t m p).j i (j6 t (m+1) p))):=by
 obtain⟨e,r,q⟩:=a.room;obtain⟨k,_,j⟩:=a.k;obtain⟨n,o,l⟩:=Gf j c.b c.r r;obtain⟨m,w,u,s⟩:=Ip a f h (10*turns t.mask) p c.d ⟨n,o,by rw[l];exact q⟩;exact⟨m,u,s⟩
def Dc{c:Type}(a:kr c)(p:Nat)(x:c):(insertAt a p x).toList=a.toList.take p++x::a.toList.drop p:=by unfold insertAt;simp[iN];exact c0 (by rw[c9,aG];exact ai _)
def insertAt_perm{a:Type}(c:kr a)(p:Nat)(x:a):(insertAt c p x).toList.Perm (x::c.toList):=by rw[Dc];refine List.perm_middle.trans ?_;simp
def acI{f d:Type}(a:aa f)(b:aa d)(x y p)(h:a.length=b.length)(q)(c:q∈List.zip (a.take p++x::a.drop p) (b.take p++y::b.drop p)):q=(x,y)\/q∈List.zip a b:=by
 rw[List.zip_append<|by rw[c7,c7,h],gq]at c;rcases aX.mp c with c|c
 ·rw[List.zip_eq_zipWith,<-List.take_zipWith]at c;exact .inr (List.mem_of_mem_take c)
 ·rcases az.mp c with c|c;·exact .inl c
  ·rw[List.zip_eq_zipWith,<-List.drop_zipWith]at c;exact .inr (List.mem_of_mem_drop c)
def Tab.put{k:rj}(a:Tab t k.toList)(hf:k.size+1<=t.mask){h:Int}(s:j∉t.place.toList)(r:j<=t.mask)(q:vS t h j):
    Tab (t.put j).1 (insertAt k (t.put j).2 (h,x)).toList/\(t.put j).1.mask=t.mask/\(t.put j).1.led=t.led/\(t.put j).1.moves=t.moves:=by
 have A:has t.dummies j=false:=by rw[a.pD];rfl
 have i:(t.put j).1.place=insertAt t.place (below t.place j) j:=rfl;have f:(t.put j).1.mask=t.mask:=rfl;have sub:∀y,y∈t.place.toList->y∈(t.put j).1.place.toList:=λy d=>by rw[i];exact(insertAt_perm _ _ _).mem_iff.mpr (.tail _ d)
 have l:∀{o n},vS t o n->vS (t.put j).1 o n:=λ⟨m,z,u⟩=>⟨m,by rw[tu f,vy f];exact z,λp w=>by rw[tu f,vy f];exact sub _ (u p w)⟩;refine⟨⟨a.k,?_,?_,?_,?_,?_,?_⟩,f,rfl,rfl⟩
 ·rw[i];refine LA a.qo λw=>s (iH.mpr<|Array.mem_of_getElem? w)
 ·intro y d;rcases az.mp ((insertAt_perm _ _ _).mem_iff.mp d)with rfl|d;·exact r
  ·exact a.le y d
 ·show(if has t.dummies j=true then _ else t.dummies)=#[];rw[A,ax<|by decide];exact a.pD
 ·rw[i,<-aG,(insertAt_perm _ _ _).length_eq,(insertAt_perm _ _ _).length_eq,aw,aw,aG,a.sz]
 ·rw[(insertAt_perm _ _ _).length_eq,aw,aG];exact hf
 ·intro y e c;rw[i,Dc,Dc]at c;rcases acI _ _ _ _ _ (by rw[aG,a.sz]) _ c with c|c;·cases c;exact l q
  ·exact l (a.reach y e c)
def Tab.off(a:Tab t v)(b:jk):Tab {t with plain:=b} v where
 k:=a.k
 qo:=a.qo
 le:=a.le
 pD:=a.pD
 sz:=a.sz
 fl:=a.fl
 reach:=λj e f=>by obtain⟨m,i,h⟩:=a.reach j e f;have c:({t with plain:=b}:lF).mask=t.mask:=rfl;exact⟨m,by rw[tu c,vy c];exact i,λd w=>by rw[tu c,vy c];exact h d w⟩
def abh(f m l):Tab (.fresh f m l) [] where
 k:=⟨3,ai _,rfl⟩
 qo:=by unfold mw;exact .nil
 le:=λj h=>by cases h
 pD:=rfl
 sz:=rfl
 fl:=bQ _
 reach:=λj e h=>by cases h
theorem KH:∀{d c:lC},d.Nodup->c.Nodup->(∀x,x∈d↔x∈c)->d.Perm c
 |[],c,_,_,h=>by
  cases c with
  |nil=>exact .refl _
  |cons y r=>exact absurd ((h y).mpr (.head _)) (by simp)
 |a::l,c,m,f,h=>by
  have n:=(h a).mp (.head _);obtain⟨k,j⟩:=bL.mp m;refine(List.Perm.cons a<|KH j (f.erase a) λx=>?_).trans (iQ n).symm;rw[f.mem_erase_iff];constructor
  ·intro i;exact⟨λe=>k<|by rw[<-e];exact i,(h x).mp (.tail _ i)⟩
  ·rintro ⟨p,o⟩
   rcases az.mp ((h x).mpr o)with e|e;·exact absurd e p
   ·exact e
theorem Ju(mask q):∀n,l0 mask (n+1) q=l0 mask n (leap mask q.1 q.2)
 |0=>rfl
 |n+1=>by show leap mask (l0 mask (n+1) q).1 (l0 mask (n+1) q).2=_;rw[Ju mask q n];rfl
abbrev uH(owner:kr<|jm Nat)(j:Nat):Prop:=((owner.getD j<|some 0).isNone)=false
def HQ:∀{n},(∀k,(List.range n).find? p=some k->k<n/\p k=true/\∀a,a<k->p a=false)/\((List.range n).find? p=none->∀k,k<n->p k=false)
 |n=>by
  constructor
  ·intro k h;rw[List.find?_range_eq_some]at h;refine⟨cf.mp h.2.1,h.1,λa w=>?_⟩;have:=h.2.2 a w;simpa using this
  ·intro h k c;have:=List.find?_eq_none.mp h k (cf.mpr c);simpa using this
theorem Ib(T:lF)(owner):∀a (q:Nat×Nat),q.1<=T.mask->(∃m,m<a/\¬uH owner (l0 T.mask m q).1)->
 ∃j n,layClean.free T.mask owner a q.1 q.2=some j/\(j6 T n<|blk T.mask q none).j=j/\j<=T.mask/\¬uH owner j/\∀c,c<n->uH owner (j6 T c<|blk T.mask q none).j
 |0,q,_,⟨m,o,_⟩=>absurd o (cK _)
 |a+1,q,p,⟨m,o,i⟩=>by
  have G:=Ew p;have I:=LF T.mask q.1;have d:∀k,k<=runEnd T.mask q.1 - q.1->(j6 T k<|blk T.mask q none).j=q.1+k:=λk s=>by rw[Bb T k (blk T.mask q none) s];rfl
  unfold layClean.free;cases hf:(List.range<|runEnd T.mask q.1+1 - q.1).find? λk=>(owner.getD (q.1+k)<|some 0).isNone with
  |some k=>obtain⟨l,x,u⟩:=HQ.1 k hf;refine⟨q.1+k,k,rfl,d k (by grind),by grind,by unfold uH;rw[x];decide,λc w=>?_⟩;rw[d c<|by grind];exact u c w
  |none=>
   have l:=HQ.2 hf;have r:m≠0:=λe=>by subst e;exact i (l 0<|by omega)
   obtain⟨h,rfl⟩:∃h,m=h+1:=⟨m - 1,by lia⟩;rw[Ju]at i;obtain⟨j,n,F,D,C,A,y⟩:=Ib T owner a (leap T.mask q.1 q.2) (by have:(leap T.mask q.1 q.2).1<T.mask+1:=eY _ (dZ _);walk_at "l") ⟨h,by walk_at "l",i⟩;refine⟨j,(blk T.mask q none).more+1+n,F,?_,C,A,λc w=>?_⟩;·rw[rn,yw];exact D
   ·by_cases z:c<=(blk T.mask q none).more
    ·rw[d c z];exact l c (by have:(blk T.mask q none).more=runEnd T.mask q.1 - q.1:=rfl;grind)
    ·obtain⟨f,rfl⟩:∃f,c=(blk T.mask q none).more+1+f:=⟨c - ((blk T.mask q none).more+1),by grind⟩;rw[rn,yw];exact y f (by simp_all)
structure rf(T:lF)(hs:kv)(owner:kr<|jm Nat)(pl:lC):Prop where
 len:pl.length=hs.length
 sz:owner.size=T.mask+1
 own:∀(j k:Nat),owner[j]?=some (some k)↔pl[k]?=some j
 le:∀j∈pl,j<=T.mask
 nd:pl.Nodup
 reach:∀(k:Nat) (h:Int) (j:Nat),hs[k]?=some h->pl[k]?=some j->∃m,(j6 T m<|T.probeStart h).j=j/\∀m',m'<m->(j6 T m'<|T.probeStart h).j∈pl
def rf.wZ{pl}(L:rf T hs owner pl)(i:j<=T.mask):uH owner j↔j∈pl:=by
 have a:j<owner.size:=by rw[L.sz];walk_at "l"
 have e:owner.getD j (some 0)=owner[j]:=by simp[Array.getD,a]
 unfold uH;rw[e];constructor
 ·intro h;cases q:owner[j]with
  |none=>rw[q]at h;cases h
  |some k=>exact bp ((L.own j k).mp (by rw[aM a,q]))
 ·intro h;obtain⟨k,c,d⟩:=bS h;have:=(L.own j k).mpr (by rw[ar c,d]);rw[aM a]at this;have f:owner[j]=some k:=Option.some.inj this;rw[f];rfl
def rf.step{T:lF}{k}(P:T.mask+1=2^k){pl}(L:rf T hs owner pl)(h:Int)(hl:hs.length<=T.mask):
    ∃j,layClean.free T.mask owner (turns T.mask) (SetTable.bits h%(T.mask+1)) (SetTable.bits h)=some j/\rf T (hs++[h]) (owner.setIfInBounds j<|some hs.length) (pl++[j]):=by
 have A:SetTable.bits h<2^64:=by unfold SetTable.bits;lia
 have O:SetTable.bits h%(T.mask+1)<=T.mask:=Nat.le_of_lt_succ (eY (SetTable.bits h)<|dZ T.mask);obtain⟨e,o,u⟩:∃e,e<=T.mask/\e∉pl:=by
  refine cu λw=>?_;have:=zm (m:=pl) (DR<|T.mask+1) λx N=>cu λy=>w ⟨x,by have:=cf.mp N;walk_at "l",y⟩;rw[fH,L.len]at this
  lia
 obtain⟨m,U,R,C⟩:=Jt P (q:=(SetTable.bits h%(T.mask+1),SetTable.bits h)) A o;obtain⟨j,n,Z,I,G,Y,F⟩:=Ib T owner (turns T.mask) (SetTable.bits h%(T.mask+1),SetTable.bits h) O ⟨m,by unfold turns;lia,by rw[C];exact λz=>u ((L.wZ o).mp z)⟩;have D:j∉pl:=λz=>Y ((L.wZ G).mpr z);have eb:blk T.mask (SetTable.bits h%(T.mask+1),SetTable.bits h) none=T.probeStart h:=rfl;rw[eb]at I F;refine⟨j,Z,⟨?_,?_,?_,?_,?_,?_⟩⟩;·rw[aq,aq,L.len];rfl
 ·rw[Array.size_setIfInBounds];exact L.sz
 ·intro i c;have s:j<owner.size:=by rw[L.sz];walk_at "l"
  by_cases w:j=i
  ·subst w;rw[Array.getElem?_setIfInBounds_self_of_lt s];constructor
   ·intro z;cases z;rw[<-L.len,aN<|ai _];simp
   ·intro z;by_cases y:c<pl.length
    ·rw[aA y]at z;exact absurd (bp z) D
    ·have:c=pl.length:=by
      have:=(aC.mp z).1;rw[aq,cm]at this
      lia
     rw[this,L.len]
  ·rw[cM w,L.own i c];constructor
   ·intro z;rw[aA (aC.mp z).1];exact z
   ·intro z;by_cases y:c<pl.length;·rw[aA y]at z;exact z
    ·rw[aN<|by simp_all]at z;have:c - pl.length=0:=by
      have:=(aC.mp z).1;rw[cm]at this
      lia
     rw[this]at z;simp at z;exact absurd z w
 ·intro i l;rcases aX.mp l with l|l;·exact L.le i l
  ·rw[aI.mp l];exact G
 ·exact List.nodup_append.mpr ⟨L.nd,by simp,λa Q b A e=>D<|by rw[<-aI.mp A,<-e];exact Q⟩
 ·intro c V i p d;by_cases y:c<pl.length
  ·rw[aA y]at d;rw[aA (by rw[<-L.len];exact y)]at p;obtain⟨m,M,J⟩:=L.reach c V i p d;exact⟨m,M,λr w=>cS _<|J r w⟩
  ·have f:c=pl.length:=by
    have:=(aC.mp d).1;rw[aq,cm]at this
    lia
   rw[f,aN<|ai _]at d;rw[f,L.len,aN<|ai _]at p;simp at p d;subst p;subst d;refine⟨n,I,λr w=>cS _<|(L.wZ ?_).mp (F r w)⟩;have:=(ph.j6 r<|KY T h).j;walk_at "l"
theorem Jq{T:lF}{k}(m:T.mask+1=2^k):∀(more c:kv) owner pl,rf T c owner pl->c.length+more.length<=T.mask->
 ∃a d,more.foldl (λ(f:jm (kr (jm Nat)×Nat)) h=>do
  let(owner,k)<-f
  let j<-layClean.free T.mask owner (turns T.mask) (SetTable.bits h%(T.mask+1)) (SetTable.bits h)
  pure (owner.setIfInBounds j (some k),k+1)) (some (owner,c.length))=some (a,(c++more).length)/\rf T (c++more) a d
 |[],c,owner,pl,L,_=>⟨owner,pl,by rw[bz];rfl,by rw[bz];exact L⟩
 |h::more,c,owner,pl,L,p=>by
  rw[aw]at p;obtain⟨j,r,q⟩:=L.step m h (by walk_at "l");obtain⟨o,n,l,i⟩:=Jq m more (c++[h]) _ _ q (by rw[aq,cm];lia);refine⟨o,n,?_,?_⟩
  ·rw[bP,iA]at l;rw[<-l,eV]
   congr 1
   show(layClean.free T.mask owner (turns T.mask) (SetTable.bits h%(T.mask+1))<|SetTable.bits h).bind _=_;rw[r,aq,cm];rfl
  ·rw[bP,iA]at i;exact i
def Tv{T:lF}{k}(n:T.mask+1=2^k)(c:kr Int)(m:c.size<=T.mask):∃a pl,layClean T.mask c=some a/\rf T c.toList a pl:=by
 have o:rf T [] (Array.replicate (T.mask+1) none) []:=by refine⟨rfl,by simp,λj k=>?_,λj h=>(by cases h),List.Pairwise.nil,λk h j e=>(by simp at e)⟩;rw[Array.getElem?_replicate];split<;>simp
 obtain⟨l,i,d,f⟩:=Jq n c.toList [] _ _ o (by simpa using m);refine⟨l,i,?_,f⟩;unfold layClean;rw[<-Array.foldl_toList];rw[di]at d;rw[d];rfl
def LO(n)(l:n<10^6):∃k,3<=k/\sizeAbove n=2^k/\n<sizeAbove n/\sizeAbove n<=2*n+8:=by
 have m:∀(a size k:Nat),size=2^k->3<=k->(size<=2*n+8)->n<size*2^a->∃h,3<=h/\sizeAbove.go n a size=2^h/\n<sizeAbove.go n a size/\sizeAbove.go n a size<=2*n+8:=by
  intro a;induction a with
  |zero=>intro size k c f d i;exact⟨k,f,c,by show n<size;simp_all,d⟩
  |succ a j=>
   intro size k c f d i;unfold sizeAbove.go;by_cases w:size<=n
   ·rw[au w];refine j (size*2) (k+1) (by rw[c,dD]) (by walk_at "l") (by lia) ?_;rw[gG,ig 2,<-dD];exact i
   ·rw[ax w];exact⟨k,f,c,by walk_at "l",d⟩
 exact m 64 8 3 rfl (ai _) (by simp) (aE l<|by decide)
def Zo(t:lF)(c:rj)(n)(hn:n<10^6)(hl:4*c.size<=n):
    ∃G f,t.relaid (c.map (·.1)) n=some (G,f)/\(f.filterMap (c[·]?)).toList.Perm c.toList/\Tab G (f.filterMap (c[·]?)).toList/\G.led=t.led/\G.plain=t.plain/\n<=G.mask/\G.mask<=2*n+7:=by
 obtain⟨k,h3,hk,C,hu⟩:=LO n hn;obtain⟨T,hT⟩:∃T:lF,T={t with mask:=sizeAbove n - 1}:=⟨_,rfl⟩;have D:T.mask=sizeAbove n - 1:=by rw[hT]
 have M:T.mask+1=2^k:=by rw[D,<-hk];lia
 obtain⟨u,pl,e,L⟩:=Tv M (c.map (·.1)) (by rw[Array.size_map,D];lia);have y:pl.length=c.size:=by rw[L.len];simp
 unfold relaid laid;rw[<-D,e];generalize p:(List.range<|T.mask+1).filterMap (λj=>(u.getD j none).map (j, ·))=live;have o:∀j i,(j,i)∈live↔pl[i]?=some j:=λj i=>by
  rw[<-p,bo,<-L.own j i];constructor
  ·rintro ⟨a,Z,e⟩
   obtain⟨b,C,e2⟩:=aB.mp e;obtain⟨rfl,rfl⟩:=Prod.mk.inj e2;have d:a<u.size:=by rw[L.sz];exact cf.mp Z
   rw[aM d];simp[Array.getD,d]at C;rw[C]
  ·intro z;have d:=(bD.mp z).1;refine⟨j,cf.mpr<|by rw[<-L.sz];exact d,?_⟩;rw[aM d]at z;have z':=Option.some.inj z;simp[Array.getD,d,z']
 have I:live.Pairwise λa b=>a.1<b.1:=by rw[<-p];refine List.Pairwise.filterMap (R:=λa b=>a<b) (S:=λ(a b:Nat×Nat)=>a.1<b.1) _ ?_ fC;intro a a' h b C b' Y;obtain⟨_,_,N⟩:=aB.mp C;obtain⟨_,_,e2⟩:=aB.mp Y;subst N;subst e2;exact h
 have P:(live.map (·.2)).Nodup:=by refine gz _ (R:=λa b=>a.2≠b.2) (λ_ _ h=>h) ?_;refine eT (λ{a b} Z C h w=>?_) I;have s:=(o a.1 a.2).mp Z;have h2:=(o b.1 b.2).mp C;rw[w,h2]at s;have:=Option.some.inj s;simp_all
 have p2:(live.map (·.2)).Perm (List.range c.size):=KH P (DR _) λx=>by
  rw[aO,cf];constructor
  ·rintro ⟨⟨j,i⟩,s,rfl⟩
   have:=(aC.mp<|(o j i).mp s).1;rw[y]at this;exact this
  ·intro h;exact⟨(pl[x]'(by rw[y];exact h),x),(o _ _).mpr (ar _),rfl⟩
 have F:((live.map (·.2)).toArray.filterMap (c[·]?)).toList=live.map λq=>c.getD q.2 (0,.none):=by
  rw[Array.toList_filterMap,List.filterMap_map];have go:∀l:aa (Nat×Nat),(∀q∈l,q.2<c.size)->l.filterMap ((λx=>c[x]?)∘λx=>x.2)=l.map λq=>c.getD q.2 (0,.none):=by
   intro l;induction l with
   |nil=>intro _;rfl
   |cons q r ih=>
    intro h;have d:=h q (.head _);have N:((λx=>c[x]?)∘λ(x:Nat×Nat)=>x.2) q=some (c.getD q.2 (0,.none)):=by show c[q.2]?=_;rw[aM d];simp[Array.getD,d]
    rw[gH N,ih λx hx=>h x<|.tail _ hx,aW]
  exact go live λq hq=>cf.mp (p2.mem_iff.mp<|aO.mpr ⟨q,hq,rfl⟩)
 have A:((live.map (·.2)).toArray.filterMap (c[·]?)).toList.Perm c.toList:=by
  rw[F];have s:=p2.map λi=>c.getD i (0,.none);rw[bh]at s;refine s.trans ?_;have:(List.range c.size).map (λi=>c.getD i (0,.none))=c.toList:=by
   apply gR;·simp
   ·intro i s h2;have:i<c.size:=by simpa using s
    simp[Array.getD,this]
  rw[this]
 have L4:=L.len;refine⟨{mask:=T.mask,place:=(live.map (·.1)).toArray,dummies:=#[],finger:=t.finger,led:=t.led,moves:=t.movedTo T.mask,plain:=t.plain},(live.map (·.2)).toArray,by rw[<-p];rfl,A,⟨⟨k,h3,M⟩,?_,?_,rfl,?_,?_,?_⟩,rfl,rfl,by show n<=T.mask;grind,by show T.mask<=_;simp_all⟩
 ·show mw (live.map (·.1)).toArray;unfold mw;rw[gf];exact gz _ (λ_ _ h=>h) I
 ·intro j hj;have V:j∈live.map (·.1):=by simpa using hj
  obtain⟨⟨a,i⟩,s,rfl⟩:=aO.mp V;exact L.le _ (bp<|(o a i).mp s)
 ·rw[F];simp
 ·rw[A.length_eq,aG];show c.size<=T.mask
  lia
 ·intro j e hz;rw[F]at hz;have J:(j,e)∈List.zip (live.map (·.1)) (live.map λq=>c.getD q.2 (0,.none)):=by simpa using hz
  rw[List.zip_map',aO]at J;obtain⟨⟨a,i⟩,s,N⟩:=J;cases N;have hp:=(o a i).mp s;have hi:i<c.size:=by rw[<-y];exact(aC.mp hp).1
  obtain⟨m,r1,r2⟩:=L.reach i (c.getD i (0,.none)).1 a (by simp[Array.getD,hi]) hp;have O:T.mask=(({mask:=T.mask,place:=(live.map (·.1)).toArray,dummies:=#[],finger:=t.finger,led:=t.led,moves:=t.movedTo T.mask,plain:=t.plain}:lF)).mask:=rfl;refine⟨m,by rw[<-tu O,<-vy O];exact r1,λm' w=>?_⟩;rw[<-tu O,<-vy O];obtain⟨k',U,Q⟩:=bS (r2 m' w);show _∈(live.map (·.1)).toArray.toList;rw[gf];exact aO.mpr ⟨(_,k'),(o _ _).mpr (by rw[ar U,Q]),rfl⟩
end yg
open L2 PySem.Spec PySem.Calls PySem.W yg
open PyProof.Rows hiding St K
def tK(h:jw):je->aa Key
 |.ref b=>match h.get? b with
  |some o=>match o.data with
   |.seq items _=>items.toList.map vK
   |_=>[]
  |none=>[]
 |_=>[]
variable{prog:jT}{w:jK}{A:kh}{E:ki}{s:jr}
abbrev mM(P:jT)(w:jK)(h:jw)(ks:oz)(b:ja):Prop:=IsTupleKey (kg P w) h ks b
abbrev lG(P:jT)(w:jK)(ks:oz):Int:=tupleKeyHash (kg P w) ks
def Dg{k}(h:(kg prog w).is k v=true):RelV (kV k) v:=by
 have a:qb k v=true:=h;cases k with
 |inl i=>
  cases v with
  |int j t=>
   have e:j=i:=by simpa [qb,Value.isInt]using a
   exact⟨t,by rw[e]⟩
  |_=>exact absurd a (by simp[qb,Value.isInt])
 |inr x=>
  cases v with
  |str y t=>
   have e:y=x:=by simpa [qb,Value.isStrOf]using a
   exact⟨t,by rw[e]⟩
  |_=>exact absurd a (by simp[qb,Value.isStrOf])
def SH(h:ItemsAre (kg prog w) ks vs):vs.map vK=ks:=by
 induction h with
 |nil=>rfl
 |cons c _ a=>rw[aW,a,Aa<|Dg c]
def mM.tK(x:mM prog w h ks b):tK h (.ref b)=ks:=by obtain⟨o,a,n,c,_,f,d⟩:=x;unfold P2.tK;dsimp only;rw[c];dsimp only;rw[f];exact SH d
def TK(P:jT)(w:jK)(h:jw)(v:je):Prop:=∃b,v=.ref b/\mM P w h (tK h v) b
def mM.at'{h':jw}(x:mM prog w h ks b)(e:∀o,h.get? b=some o->h'.get? b=some o):mM prog w h' ks b:=by obtain⟨o,a,n,c,r⟩:=x;exact⟨o,a,n,e o c,r⟩
def mM.ne{o t}(x:mM prog w h ks b)(j:h.get? a=some o)(k:o.data=.set es ep t):b≠a:=by
 obtain⟨i,c,n,d,_,f,_⟩:=x
 lia
def qD(P:jT)(w:jK)(h:jw)(a:uM):Prop:=∀e∈a,TK P w h e.2/\e.1=lG P w (tK h e.2)
def mD(h:jw)(a:uM):aa (aa Key):=a.map λe=>tK h e.2
abbrev _root_.yp:=aa (aa Key)
def nY(P:jT)(w:jK)(M:vX)(h:jw)(a:ja)(d:yp)(n:Nat):Prop:=
 ∃o c f t,h.get? a=some o/\o.ExactSet/\o.data=.set c f t/\qD P w h c.toList/\(∀e∈c.toList,M e.2)/\c.size<=n/\Tab t c.toList/\c.size*5<t.mask*3/\t.mask<=8100/\t.led=!(w.params.followText "set-order")/\(mD h c.toList).Nodup/\∀k,k∈mD h c.toList↔k∈d
def qD.at'{h':jw}(x:qD prog w h es)(k:∀e∈es,∀b o,e.2=.ref b->h.get? b=some o->h'.get? b=some o):qD prog w h' es/\mD h' es=mD h es:=by
 have eq:∀e∈es,TK prog w h' e.2/\tK h' e.2=tK h e.2:=λe a=>by
  obtain⟨⟨b,d,tk⟩,_⟩:=x e a;have c:=tk.at' (λo i=>k e a b o d i);have f:tK h' e.2=tK h e.2:=by rw[d]at c⊢;exact c.tK
  exact⟨⟨b,d,by rw[f];exact c⟩,f⟩
 refine⟨λe a=>⟨(eq e a).1,by rw[(eq e a).2];exact(x e a).2⟩,?_⟩;unfold mD;exact dN λe a=>(eq e a).2
def nY.keep{h':jw}{n}(x:nY prog w M h a k7 n)(k:∀b o,h.get? b=some o->(∀c m,o.data=.seq c m->o.cls=.type "tuple"->True)->(b=a\/∃c m,o.data=.seq c m/\o.cls=.type "tuple")->h'.get? b=some o):nY prog w M h' a k7 n:=by
 obtain⟨o,I,J,t,z,f,F,j,v,u,r,q,p,l,nd,d⟩:=x;obtain⟨G,i⟩:=j.at' (h':=h') λe C b ob Q P=>by obtain⟨⟨R,L,tk⟩,_⟩:=j e C;obtain⟨N,c,m,y,O,D,_⟩:=tk;simp_all
 exact⟨o,I,J,t,k a o z (λ_ _ _ _=>True.intro)<|.inl rfl,f,F,G,v,u,r,q,p,l,by rw[i];exact nd,by rw[i];exact d⟩
def N8(n)(h:carriedByValue v=true):ofAClassStatement n v=pure false:=by
 cases v with
 |ref a=>simp[carriedByValue]at h
 |_=>first|rfl|simp[ofAClassStatement]|(unfold ofAClassStatement;rfl)
def MC{Q:pA}(j:mM prog w s.heap ks b)(h:Q false s):wpAny (model prog w) A (ofAClassStatement 8<|.ref b) Q E s:=by
 have hT:=j.typeIs;obtain⟨o,d,n,k,_,m,l⟩:=j;unfold ofAClassStatement;refine ae (eG hT ?_);dsimp only;rw[au<|by decide];refine ae (af ?_);refine ae (dc k m ?_);dsimp only;refine ae ?_;rw[<-Array.forIn_toList];refine fR _ (λrest r c=>r.1=none/\c=s/\∀v∈rest,carriedByValue v=true) _ ?_ ?_ _ _ ⟨rfl,rfl,l.byValue⟩
 ·rintro v rest r c ⟨i,rfl,a⟩
  rw[N8 _<|a v bY];refine ae (af ?_);exact af ⟨rfl,rfl,λu f=>a u<|bf _ f⟩
 ·rintro ⟨q,p⟩ c ⟨i,rfl,_⟩
  simp only at i;subst i;exact af h
def abO{Q:pA}(j:mM prog w s.heap ks b)(l:∀y∈ys,TK prog w s.heap y)(h:Q false s):wpAny (model prog w) A (searchCouldBeSeen (.ref b) ys) Q E s:=by
 unfold searchCouldBeSeen;refine ae ?_;refine fR _ (λrest r d=>r.1=none/\d=s/\∀y∈rest,TK prog w s.heap y) _ ?_ ?_ _ _ ⟨rfl,rfl,l⟩
 ·rintro y rest r d ⟨i,rfl,a⟩
  obtain⟨c,rfl,k⟩:=a y bY;dsimp only;refine aZ (λ_=>af ⟨rfl,rfl,λu f=>a u<|bf _ f⟩) (λ_=>?_);refine ae (wpAny_eqIsQuiet_tuple j ?_);refine ae (wpAny_eqIsQuiet_tuple k ?_);simp only[fV,bA,bT];refine ae (MC j ?_);refine ae (MC k ?_);simp only[bA,bT];exact af ⟨rfl,rfl,λu f=>a u<|bf _ f⟩
 ·rintro ⟨n,m⟩ d ⟨i,rfl,_⟩
  simp only at i;subst i;exact af h
def abN{Q:pA}(j:mM prog w s.heap ks b)(h:∀r,Q r s):wpAny (model prog w) A (hashByValue 8<|.ref b) Q E s:=by
 have hT:=j.typeIs;obtain⟨o,d,n,k,_,m,l⟩:=j;unfold hashByValue;refine ae (ir hT PySem.F.slot_tuple_hash.lookup ?_);dsimp only;refine ae (dc k m ?_);refine ae ?_;rw[<-Array.forIn_toList];refine fR _ (λrest r c=>r.1=none/\c=s/\∃a,ItemsAre (kg prog w) a rest) _ ?_ ?_ _ _ ⟨rfl,rfl,ks,l⟩
 ·rintro v rest r c ⟨f,rfl,a,i⟩
  cases i with
  |cons q p=>
   rw[hashByValue_scannable _<|EA<|Dg q];refine ae (af ?_);cases plainKind v with
   |true=>exact af ⟨rfl,rfl,_,p⟩
   |false=>exact af (af<|h false)
 ·rintro ⟨u,t⟩ c ⟨f,rfl,_⟩
  simp only at f;subst f;exact af (h true)
def Sy(h:Q true s):wpAny (model prog w) A (isSame (.ref b)<|.ref b) Q E s:=by unfold isSame;dsimp only;refine aZ (λ_=>af h) (λa=>absurd (gN b) a)
def BR{c:rj}(d:qD prog w h c.toList){i:Nat}(a:c[i]?=some e):TK prog w h e.2/\e.1=lG prog w (tK h e.2):=
 d e (by rw[<-bg]at a;exact bp a)
def Tb{c:rj}{i:Nat}(a:c[i]?=some e):tK h e.2∈mD h c.toList:=by unfold mD;rw[<-bg]at a;exact aO.mpr ⟨e,bp a,rfl⟩
def acH{t:lF}{d:rj}{i:Nat}(c:t.place[i]?=some j)(a:d[i]?=some e):(j,e)∈List.zip t.place.toList d.toList:=by rw[<-bg]at c a;exact bp (i:=i) (by rw[List.getElem?_zip_eq_some];exact⟨c,a⟩)
def ZU{d:oz}{o:lE}{t:lF}{Q:SetFound->jr->Prop}(hx:mM prog w s.heap d b)(hu:A.units<cLine)(ho:s.heap.get? a=some o)(hd:o.data=.set es ep t)(el:qD prog w s.heap es.toList)(D:Tab t es.toList)(hm:t.mask<=8100)
 (hin:d∈mD s.heap es.toList->Q (.there none) s)(N:∀j,j∉t.place.toList->j<=t.mask->vS t (lG prog w d) j->d∉mD s.heap es.toList->Q (.free j false) s):
   wpAny (model prog w) A (setSearch a (.ref b) (lG prog w d) true) Q E s:=by
  have hf:t.fits es.size=true:=by have:=D.fits;rw[aG]at this;exact this
  have M:t.place.size=es.size:=by rw[D.sz,aG]
  obtain⟨em,Z,Y⟩:=D.room;obtain⟨kk,_,Rm⟩:=D.k;have F:=KY t (lG prog w d);obtain⟨C,Qp,Qq⟩:=Gf Rm F.b F.r Z;have Iv:(j6 t C<|t.probeStart<|lG prog w d).j∉t.place.toList:=by rw[Qq];exact Y
  have go:∀(f c:Nat) (r:jm SetTable.Probe),r.getD (t.probeStart<|lG prog w d)=j6 t c (t.probeStart<|lG prog w d)->c<=C->C - c<f->
   (∀m,m<c->∃(i:Nat) (e:Int×je),t.place[i]?=some (j6 t m<|t.probeStart<|lG prog w d).j/\es[i]?=some e/\tK s.heap e.2≠d)->wpAny (model prog w) A (setSearchFrom a (.ref b) (lG prog w d) true f r) Q E s:=by
   intro f;induction f with
   |zero=>intro c st _ _ h;exact absurd h (cK _)
   |succ f ih=>
    intro c r hs hc hfu old;obtain⟨m,g1,g2⟩:=XE D (λi=>(es[i]?.map (·.1)).getD 0) (lG prog w d) (ph.j6 c F);have wZ:∀k,k<m->∃(i:Nat) (e:Int×je),t.place[i]?=some (j6 t (c+k)<|t.probeStart<|lG prog w d).j/\es[i]?=some e/\tK s.heap e.2≠d:=λk R=>by
     obtain⟨i,I,h2⟩:=g1 k R;rw[<-rn]at I;have P:i<es.size:=by rw[<-M];exact(bD.mp I).1
     have x:=aM P;refine⟨i,es[i],I,x,λz=>h2 ?_⟩;rw[x];show es[i].1=_;rw[(BR el x).2,z]
    have u:∀k,k<c+m->∃(i:Nat) (e:Int×je),t.place[i]?=some (j6 t k<|t.probeStart<|lG prog w d).j/\es[i]?=some e/\tK s.heap e.2≠d:=λk R=>by
     by_cases z:k<c;·exact old k z
     ·obtain⟨m2,rfl⟩:∃m2,k=c+m2:=⟨k - c,by simp_all⟩;exact wZ m2 (by simp_all)
    have T:∀k,(∃(i:Nat) (e:Int×je),t.place[i]?=some (j6 t k<|t.probeStart<|lG prog w d).j/\es[i]?=some e/\tK s.heap e.2≠d)->(j6 t k<|t.probeStart<|lG prog w d).j∈t.place.toList:=λk ⟨i,e,I,_⟩=>by rw[<-bg]at I;exact bp I
    have hcm:c+m<=C:=Nat.le_of_not_lt λz=>Iv (T C<|u C z);rw[<-rn,<-rn,<-hs]at g2;unfold setSearchFrom;refine ae (cb ho hd hf ?_);dsimp only;refine aZ (λwH=>absurd wH (by rw[D.odd];decide)) (λ_=>?_);rcases g2 with⟨J,g4⟩|⟨i,J,g4,g5,g6⟩
    ·split
     ·rename_i met l;have e:=g4.symm.trans l;cases e;dsimp only;refine af (N _ J (by have:=(ph.j6 (c+m) F).j;walk_at "l") ⟨c+m,rfl,λk R=>T k (u k R)⟩ λhk=>?_);unfold mD at hk;obtain⟨e,x,ek⟩:=aO.mp hk;obtain⟨i,P,ei⟩:=bS x;have Rb:i<es.size:=by simpa using P
      have V:i<t.place.size:=by rw[M];exact Rb
      have O:es[i]?=some e:=by rw[<-bg,ar P,ei]
      have U:t.place[i]?=some t.place[i]:=aM V;obtain⟨m1,r1,r2⟩:=D.reach _ _ (acH U O);have eh:e.1=lG prog w d:=by rw[(BR el O).2,ek]
      rw[eh]at r1 r2;rcases fA m1 (c+m)with q|q|q
      ·obtain⟨v,e',I,h2,h3⟩:=u m1 q;rw[r1]at I;have:v=i:=by
        have Rc:=(bD.mp I);obtain⟨l1,l2⟩:=Rc;rcases fA v i with q2|q2|q2;·have:=D.qo.lt q2 V;lia
        ·exact q2
        ·have:=D.qo.lt q2 l1;lia
       subst this;rw[O]at h2;cases h2;exact h3 ek
      ·subst q;exact J (by rw[r1,<-bg]at*;exact bp U)
      ·exact J (r2 _ q)
     ·rename_i l;exact(l _ g4).elim
    ·split
     ·rename_i met l;have e:=g6.symm.trans l;cases e;dsimp only;have P:i<es.size:=by rw[<-M];exact(bD.mp J).1
      have x:es[i]?=some es[i]:=aM P;obtain⟨⟨y,ey,hy⟩,_⟩:=BR el x
      have rest:wpAny (model prog w) A (do
       let n<-holding [es[i].2] (eqBool es[i].2 (.ref b))
       let(es',_,t')<-setState a
       if true&&n then return .there none
       let some EE:=t'.sameMemory t.moves t.mask|unsupported "set.changed-during-lookup:is-the-new-block-at-the-old-address"
       let p<-match(if EE then t'.slot (j6 t (c+m)<|t.probeStart<|lG prog w d).j else .empty)with
        |.live v=>match es'[v]? with
         |some (_,y')=>do pure (if<-isSame y' es[i].2 then some v else none)
         |none=>pure none
        |_=>pure none
       match p with
       |none=>rule "set.search.anew";setSearchFrom a (.ref b) (lG prog w d) true f none
       |some v=>if n then return .there (some v)else setSearchFrom a (.ref b) (lG prog w d) true f (some (j6 t (c+(m+1)) (t.probeStart (lG prog w d))))) Q E s:=by
       rw[ey]at hy⊢;refine ae (bI<|wpAny_eqBool_tuple hu hy hx ?_);refine ae (cb ho hd hf ?_);dsimp only;by_cases G:tK s.heap (.ref y)=d
       ·rw[aR G];refine aZ (λ_=>af<|hin ?_) (λz=>absurd rfl z);have:=Tb (h:=s.heap) x;rw[ey,G]at this;exact this
       ·rw[aJ G];refine aZ (λz=>absurd z<|by decide) (λ_=>?_);have sm:t.sameMemory t.moves t.mask=some true:=by unfold SetTable.sameMemory;simp
        rw[sm];dsimp only;rw[au rfl,g4];dsimp only;rw[x];dsimp only;rw[ey];refine ae (Sy<|ae<|af ?_);rw[au rfl];dsimp only;refine aZ (λz=>absurd z<|by decide) (λ_=>?_);have CZ:c+(m+1)<=C:=by
         rcases ie (c+m) C with q|q;·walk_at "l"
         ·have:c+m=C:=by lia
          rw[this]at J;rw[<-bg]at J;exact absurd (bp J) Iv
        refine ih (c+(m+1)) _ rfl CZ (by grind) λk R=>?_;rcases ie k (c+m)with q|q;·exact u k q
        ·have:k=c+m:=by lia
         subst this;exact⟨i,es[i],J,x,by rw[ey];exact G⟩
      have L:wpAny (model prog w) A (do
       let some (_,y):=es[i]?|unsupported "internal:set-entry"
       let n<-holding [y] (eqBool y<|.ref b)
       let(es',_,t')<-setState a
       if true&&n then return .there none
       let some EE:=t'.sameMemory t.moves t.mask|unsupported "set.changed-during-lookup:is-the-new-block-at-the-old-address"
       let p<-match(if EE then t'.slot (j6 t (c+m)<|t.probeStart<|lG prog w d).j else .empty)with
        |.live v=>match es'[v]? with
         |some (_,y')=>do pure (if<-isSame y' y then some v else none)
         |none=>pure none
        |_=>pure none
       match p with
       |none=>rule "set.search.anew";setSearchFrom a (.ref b) (lG prog w d) true f none
       |some v=>if n then return .there (some v)else setSearchFrom a (.ref b) (lG prog w d) true f (some (j6 t (c+(m+1)) (t.probeStart (lG prog w d))))) Q E s:=by
       rw[x];exact rest
      refine aZ (λ_=>?_) (λ_=>L);refine ae (abO hx (λy' R6=>?_) ?_)
      ·obtain⟨e,IG,rfl⟩:=aO.mp R6;have:e∈es.toList:=by
        rw[Array.toList_filter]at IG;exact(aL.mp IG).1
       exact(el e this).1
      ·refine aZ (λz=>absurd z<|by decide) (λ_=>L)
     ·rename_i l;exact(l _ g6).elim
  unfold setSearch;refine go 100000 0 none rfl (bQ _) ?_ λm h=>absurd h (cK _);unfold SetTable.turns at Qp
  lia
def HA{h:jw}{o}(i:h.get? a=some o)(k:o.data=.set es0 ep t0)(d:qD prog w h es)(f:Heap.SameBut a h h'):qD prog w h' es/\mD h' es=mD h es:=
 d.at' λe j b ob m l=>by obtain⟨⟨n,c,tk⟩,_⟩:=d e j;rw[m]at c;cases c;rw[f.2 b<|tk.ne i k];exact l
def Zq{o t n}{Q:uN}(j:s.heap.get? a=some o)(m:o.data=.set es ep t)(hf:t.fits es.size=true)(l:n<10^6)(r:4*es.size<=n)
 (h:∀(c:rj) t',c.toList.Perm es.toList->Tab t' c.toList->t'.led=t.led->n<=t'.mask->t'.mask<=2*n+7->Q () {s with heap:=s.heap.update a<|Obj.putSet c t'}):
   wpAny (model prog w) A (setRelay a n) Q E s:=by
  obtain⟨k,_,y,z,x⟩:=LO n l;obtain⟨t',d,e,i,p,v,C,u,q⟩:=Zo t es n l r;unfold setRelay;refine ae (cb j m hf ?_);dsimp only;refine aZ (λf=>absurd f (by rw[dq];lia)) (λ_=>?_);rw[e];have sz:(d.filterMap (es[·]?)).size=es.size:=by rw[<-aG,i.length_eq,aG]
  refine ae ?_
  show wpAny _ _ (do
   let c:=d.filterMap (es[·]?)
   if c.size !=es.size then unsupported "internal:set-table-lost-an-element"
   pure (c,t')) _ _ s
  dsimp only;refine aZ (λf=>absurd f<|by rw[sz];simp) (λ_=>af ?_);dsimp only;refine fD j m (h _ t' i p v u q) (by rw[sz,dq];lia)
def Nb{M:vX}{n}{Q:pA}(hx:mM prog w s.heap ks b)(hu:A.units<cLine)(hM:M<|.ref b)(hS:nY prog w M s.heap a k7 n)(hroom:n+1<=1000)
 (h:∀r h',Heap.SameBut a s.heap h'->nY prog w M h' a (ks::k7) (n+1)->Q r {s with heap:=h'}):
   wpAny (model prog w) A (setAddHashed a (.ref b)<|lG prog w ks) Q E s:=by
  obtain⟨o,v,ep,t,P,hex,F,el,hin,hn,tb,Y,f,q,ue,m⟩:=hS;have hf:t.fits v.size=true:=by have:=tb.fits;rw[aG]at this;exact this
  have m7:=tb.m7;unfold setAddHashed setAddHashedIn;refine bI (ae<|cb P F hf ?_);dsimp only;refine aZ (λwH=>absurd wH<|by unfold byScan;simp[Value.scannable]) (λ_=>?_);refine ae (ZU hx hu P F el tb f (λhk=>?_) λj hj hl hr hk=>?_)
  ·dsimp only;refine af ?_;have e:s={s with heap:=s.heap}:=by cases s;rfl
   have:=h false s.heap (Heap.SameBut.refl a s.heap) ⟨o,v,ep,t,P,hex,F,el,hin,by walk_at "l",tb,Y,f,q,ue,λN=>by rw[m N,az];exact⟨.inr,λz=>z.elim (λz=>by rw[z];exact(m ks).mp hk) id⟩⟩
   rw[e];exact this
  ·dsimp only;refine ae (cb P F hf ?_);dsimp only;obtain⟨i,em,G,_⟩:=tb.put (x:=.ref b) (by lia) hj hl hr;generalize ado:t.put j=pt at i em G⊢;obtain⟨t1,p⟩:=pt;dsimp only at i em G⊢;have k:=insertAt_perm v p (lG prog w ks,Value.ref b);generalize adh:SetTable.insertAt v p (lG prog w ks,Value.ref b)=mz at i k⊢;have U:mz.size=v.size+1:=by rw[<-aG,k.length_eq,aw,aG]
   have HB:qD prog w s.heap mz.toList:=λe u=>by
    rcases az.mp (k.mem_iff.mp u)with rfl|u;·exact⟨⟨b,rfl,by rw[hx.tK];exact hx⟩,by rw[hx.tK]⟩
    ·exact el e u
   have R:∀e∈mz.toList,M e.2:=λe u=>by
    rcases az.mp (k.mem_iff.mp u)with rfl|u;·exact hM
    ·exact hin e u
   have kp:(mD s.heap mz.toList).Perm (ks::mD s.heap v.toList):=by have:=k.map λe=>tK s.heap e.2;rw[aW,hx.tK]at this;exact this
   have J:(mD s.heap mz.toList).Nodup:=kp.nodup_iff.mpr (bL.mpr ⟨hk,ue⟩);have L:∀N,N∈mD s.heap mz.toList↔N∈ks::k7:=λN=>by rw[kp.mem_iff,az,az,m N]
   have I:∀(c:lF),Tab c mz.toList->c.mask=t.mask->c.led=t.led->wpAny (model prog w) A (do
    storeSet a mz c
    if(!false&&c.tooFull)=true then setRelay a (SetTable.grown<|v.size+1)
    return true) Q E s:=λc y Pt Hy=>by
    refine ae (fD P F ?_ (by rw[U,dq];lia));have V:(s.heap.update a<|Obj.putSet mz c).get? a=some {o with data:=.set mz (ep+1) c}:=by have:=aY (Obj.putSet mz c) P (by rw[fQ mz c F];rfl);rw[fQ mz c F]at this;exact this
    have l:=bF s.heap a (Obj.putSet mz c);obtain⟨Pp,ka⟩:=HA P F HB l;have Q9:c.fill=v.size+1:=by unfold SetTable.fill;rw[y.pD,y.sz,aG,U];rfl
    have fin:∀(D:¬(c.tooFull=true)),nY prog w M (s.heap.update a<|Obj.putSet mz c) a (ks::k7) (n+1):=λD=>by refine⟨_,mz,_,c,V,hex,rfl,Pp,R,by simp_all,y,?_,by rw[Pt];exact f,by rw[Hy];exact q,by rw[ka];exact J,by rw[ka];exact L⟩;unfold SetTable.tooFull at D;rw[Q9]at D;rw[U];simp at D;omega
    by_cases Z:c.tooFull=true
    ·rw[Z];simp only[gu,Bool.and_true,cQ];have g4:SetTable.grown (v.size+1)=4*(v.size+1):=by
      unfold SetTable.grown;rw[ax<|by lia];lia
     rw[g4];refine ae (Zq (s:={s with heap:=s.heap.update a<|Obj.putSet mz c}) V rfl (by have:=y.fits;rw[aG]at this;exact this) (by lia) (by simp_all) λd T C tb3 Po hm3 hm4=>af ?_);have C2:((s.heap.update a<|Obj.putSet mz c).update a (Obj.putSet d T)).get? a=some {o with data:=.set d (ep+1+1) T}:=by have:=aY (Obj.putSet d T) V (by rw[fQ d T rfl];rfl);rw[fQ d T rfl]at this;exact this
     have O:=l.trans (bF (s.heap.update a<|Obj.putSet mz c) a<|Obj.putSet d T);have Pr:qD prog w s.heap d.toList:=λe u=>HB e (C.mem_iff.mp u);obtain⟨Pq,kb⟩:=HA P F Pr O;have Jm:(mD s.heap d.toList).Perm (mD s.heap mz.toList):=C.map _;have sz2:d.size=mz.size:=by rw[<-aG,C.length_eq,aG]
     exact h true _ O ⟨_,d,_,T,C2,hex,rfl,Pq,λe u=>R e<|C.mem_iff.mp u,by simp_all,tb3,by lia,by lia,by rw[Po,Hy];exact q,by rw[kb];exact Jm.nodup_iff.mpr J,λN=>by rw[kb,Jm.mem_iff];exact L N⟩
    ·have Ra:c.tooFull=false:=by simpa using Z
     rw[Ra];simp only[iR,bA,bT];exact ae (af<|af<|h true _ l<|fin Z)
   refine aZ (λhp=>ae<|abN hx λr=>?_) (λhp=>ae<|af ?_)
   ·refine I _ ?_ ?_ ?_
    ·split;·exact i
     ·exact i.off false
    ·split<;>exact em
    ·split<;>exact G
   ·simp only[cQ];exact I t1 i em G
def nY.kp{prog:jT}{w:jK}{M:vX}{h q:jw}{a:ja}{d:yp}{n:Nat}{j:nN}(x:nY prog w M h a d n)(l:∀b∈j,b≠a/\∀o c m,h.get? b=some o->o.data=.seq c m->o.cls=.type "tuple"->False)(k:∀b o,b∉j->h.get? b=some o->q.get? b=some o):nY prog w M q a d n:=
 x.keep λb o p _ i=>k b o (λf=>by
  rcases i with rfl|⟨c,m,h1,h2⟩;· exact(l _ f).1 rfl
  · exact(l b f).2 o c m p h1 h2) p
variable{R:tq}{I:ja}{fp wr:nN}{G:kr GenState->kr GenState->Prop}{n:Nat}{P:yq}{St:uO}
def aag{M:vX}(W:WalksS prog w A.in1 I fp wr G n P St)(S:ja)(t:S∉fp)(hu:A.units+1<cLine)(Y:jw)
    (val:Nat->aa Key)(k:∀i v,P i v->∃b,v=.ref b/\b∉S::wr/\M (.ref b)/\mM prog w Y (val i) b)(a:n+1<=1000)(D:∀i s,St i s->∀b∈wr,∀o u m,s.heap.get? b=some o->o.data=.seq u m->o.cls=.type "tuple"->False)(s:jr)(C:St 0 s)
    (V:∀b o,b∉S::wr->Y.get? b=some o->s.heap.get? b=some o)(O:nY prog w M s.heap S [] 0)
      (hR:∀d j,Moved (S::wr) G s d->nY prog w M d.heap S j n->(∀x,x∈j↔x∈(List.range n).map val)->R (.ok<|.ret .none) d):
      codeAny (model prog w) A (.builtin "set.update.loop" ⟨[.ref S,.ref I],[]⟩) R s:=by
 have L:S∉wr:=λh=>t (W.sub _ h)
 refine LM W S t (J:=λi s=>(∀b o,b∉S::wr->Y.get? b=some o->s.heap.get? b=some o)/\∃c,nY prog w M s.heap S c i/\∀x,x∈c↔x∈(List.range i).map val)
  (λi s d st q ⟨f,c,U,T⟩=>⟨λb o a e=>q.heap b o (λz=>a<|bf _ z)<|f b o a e,c,U.kp (λb a=>⟨λe=>L<|by rw[<-e];exact a,D _ s st b a⟩) q.heap,T⟩) (λi v s Q E CZ hP ⟨f,c,O,hm⟩ hQ=>?_) n 0 s rfl (bQ _) C ⟨V,[],O,λx=>by simp⟩ λd f ⟨_,c,U,T⟩=>hR d c f U T
 obtain⟨b,rfl,F,hM,y⟩:=k i v hP;have Z:mM prog w s.heap (val i) b:=y.at' λo e=>f b o F e;unfold setAdd;refine bI ?_;have l:A.in1.units<cLine:=by omega
 refine ae (wpAny_pyHash_tuple l Z ?_);refine Nb (s:={s with toks:=s.toks+((val i).length+1)}) Z l hM O (by lia) λr h' p N=>hQ _ _ _ (cO _ _) p ⟨λb o a e=>?_,_,N,JP hm⟩;rw[p.2 b (λh:b=S=>a<|by rw[h];exact bY)];exact f b o a e
def aab{h:jw}(e:h.get? a=some (oX w)):nY prog w M h a [] 0:=
 ⟨_,#[],0,_,e,⟨rfl,rfl,rfl⟩,rfl,λe c=>(by simp at c),λe c=>(by simp at c),ai _,abh _ _ _,(show 0*5<7*3 by decide),(show 7<=8100 by decide),rfl,by unfold mD;exact .nil,λk=>by unfold mD;simp⟩
def NP{k7:yp}{Q:ki}(J:A.handled=none)(T:A.units+64<cLine)(y:s.heap.IsList l items)(d:items.size=k7.length)(D:∀i v,items[i]?=some v->∃b,v=.ref b/\mM prog w s.heap (k7.getD i []) b)(L:items.size+1<=1000)
 (h:∀c tk a,nY prog w (λv=>v∈items.toList) c s.heap.objs.size a items.size->(∀x,x∈a↔x∈k7)->
 (∀b o,b<s.heap.objs.size->s.heap.get? b=some o->c.get? b=some o)->Q (.ref s.heap.objs.size) {s with heap:=c,toks:=tk}):
   wpAny (model prog w) A (call (.type "set") [.ref l]) Q E s:=by
  refine GU (F:=λc=>∃a,nY prog w (λv=>v∈items.toList) c s.heap.objs.size a items.size/\∀x,x∈a↔x∈k7) J y (λ{I fp wr} {_ _ _ _} W k st O C r j M=>?_) λc tk ⟨a,p,m⟩ N=>h c tk a p m N;refine aag W _ k (by simp only[hK];lia) s.heap (λi=>k7.getD i []) (λi v hv=>?_) L j _ st (λb o _ e=>C b o e) (aab O) λq a u p m=>M q u ⟨a,p,λx=>by rw[m x,d,Ct k7 []]⟩;obtain⟨b,rfl,tk⟩:=D i v hv;have f:b<s.heap.objs.size:=by obtain⟨o,_,_,t,_⟩:=tk;exact Heap.lt_size t
  refine⟨b,rfl,λz=>?_,by rw[<-bg]at hv;exact bp hv,tk⟩;rcases az.mp z with z|z;·exact absurd z (aU f)
  ·exact absurd f (iZ.mpr<|dS<|r b z)
end P2
namespace PySem
open Sem (wp)
def Qh{w}{A:kh}{s:jr}{o k}{Q:pV}
 (q:s.heap.get? a=some o)(t:o.cls=.type "list")(f:o.data=.seq xs k)(r:o.dict=none)(j:typeLookup (.type "list") name=pure none)(i:(["__module__","__name__","__qualname__","__doc__","__annotations__"]:aa jd).contains name=false)(y:A.handled=none)
 (h:∀p tk e,Heap.NewExcOf s.heap p e "AttributeError"->Q none {s with heap:=p,toks:=tk})(n:name.length+100<=sizeLine):
   wpAny (model prog w) A (getAttr? (.ref a) name) Q E s:=by
  obtain⟨c,z,C,u⟩:=o;simp only at t f r;subst t f r;obtain⟨x,g,d,tk,v⟩:=s;have hT:∀l,(⟨x,g,d,l,v⟩:jr).TypeIs (.ref a) "list":=λ_=>⟨_,q,rfl⟩;have N:=sub_AttributeError;have M:=F.slot_list_getattribute.lookup;have L:=F.slot_list_getattribute.bind (.ref a);have J:=am_list_getattr_none;unfold getAttr? getAttrBy? getAttrBy;repeat(any_goals(first|assumption|exact hT _|((with_reducible show wpAny _ _ (call (Value.builtin "list.__getattribute__") _ _) _ _ _);refine call_meets F.slot_list_getattribute (hT _) am_entry_list_getattribute (F.args_list_getattribute_2 _ _) (meets_getattribute_miss_list a xs k u name _ j i n) ⟨q,y,λp l e m=>?_⟩)|wp_step))
  obtain⟨G,D,I⟩:=m.there;show wpAny _ _ (getattributeRaised _ _ _ _ _ _ _) _ _ _;unfold getattributeRaised;repeat(any_goals(first|assumption|wp_step))
  exact h _ _ _ m.of
end PySem
namespace P2
open PySem L2 PySem.Spec PySem.Calls PySem.W yg
open PyProof.Rows hiding St K
def HD:entryFor table "dict.update.loop"=some Builtin.«dict.update.loop»:=entryFor_of_tree (by kernel_rfl)
def zH:plainId "dict.update.loop"=true:=by decide+kernel
def OM{w}{h f:jw}(x:h.DictOfH (tupleKind (kg prog w)) a xs)(k:∀b o,(b=a\/∃p∈xs,p.2.1=b)->h.get? b=some o->f.get? b=some o):f.DictOfH (tupleKind (kg prog w)) a xs:=by obtain⟨o,z,A,s,r,m,l,j,i⟩:=x;refine⟨o,z,A,k a o (.inl rfl) s,r,m,l,λp d=>?_,i⟩;obtain⟨q,c,n,y,v,u,t⟩:=j p d;exact⟨q,c,n,k _ _ (.inr ⟨p,d,rfl⟩) y,v,u,t⟩
variable{f:jT}{w:jK}{A:kh}{R:tq}{I:ja}{y wr:nN}{G:kr GenState->kr GenState->Prop}{n:Nat}{P:yq}{St:uO}
def A3(f:jT)(w:jK)(h:jw)(a:nN)(x:aa Key×ja×je)(b:ja):Prop:=
 b∉a/\x.2.1∉a/\(∃o m,h.get? b=some o/\o.cls=.type "tuple"/\o.data=.seq #[.ref x.2.1,x.2.2] m)/\(tupleKind<|kg f w).is h x.1 x.2.1
def ON(W:WalksS f w A.in1 I y wr G n P St)(S)(hSf:S∉y)(hu:A.units+1<cLine)(h0){rs}
 (val:Nat->aa Key×ja×je)(V:∀i v,P i v->∃b,v=.ref b/\A3 f w h0 (S::wr) (val i) b)(r:n<=sizeLine)(J:Nat->aa (aa Key×ja×je)->Prop)
 (hJ:∀i a,i<n->J i a->J (i+1) (storedH a (val i).1 (val i).2.1 (val i).2.2))(yW:∀i a,J i a->a.length<=i/\∀p∈a,p.2.1∉S::wr):
   ∀k i s t a,n - i=k->i<=n->St i s->(∀b o,b∉S::wr->h0.get? b=some o->s.heap.get? b=some o)->s.heap.DictOfH (tupleKind<|kg f w) S a->J i a->
    (∀d O,Moved (S::wr) G s d->d.heap.DictOfH (tupleKind<|kg f w) S O->J n O->R (.ok<|.ret rs) d)->
    codeAny (model f w) A (.builtin "dict.update.loop" ⟨[.ref S,.ref I,.int (i:Int) t,rs],[]⟩) R s:=by
  have QA:S∉wr:=λh=>hSf (W.sub _ h);have l:∀b∈wr,b∈S::wr:=λb r=>bf _ r;have T:∀{i:Nat} {a:tj} {s d:jr},J i a->s.heap.DictOfH (tupleKind (kg f w)) S a->Moved wr G s d->d.heap.DictOfH (tupleKind (kg f w)) S a:=λj hd hm=>OM hd λb o r e=>hm.heap b o (λz=>by
   rcases r with rfl|⟨p,hp,rfl⟩;· exact QA z
   · exact(yW _ _ j).2 p hp (l _ z)) e
  intro k;induction k with
  |zero=>
   intro i s t a hk hi C Ir hS M hR;have hin:i=n:=by grind
   subst hin;refine cj HD ?_;rw[bX zH _];show wpAny _ A.in1 (pyNext (.ref I)>>=_) _ _ s;refine ae (W.done s _ _ C λd u=>?_);show wpAny _ A.in1 (Builtin.Dict.addKeywords S []>>=_) _ _ d;refine ae (af ?_);exact af (hR d a (u.mono l) (T M hS u) M)
  |succ k ih=>
   intro i s t a hk hi C Ir hS M hR;have F:i<n:=by lia
   refine cj HD ?_;rw[bX zH _];show wpAny _ A.in1 (pyNext (.ref I)>>=_) _ _ s;refine ae (W.item i s _ _ F C λv d hP Y u=>?_);obtain⟨b,rfl,Q4,Rn,⟨o,m,ho,hc,hd⟩,CW⟩:=V i v hP;have x:∀b o,b∉S::wr->h0.get? b=some o->d.heap.get? b=some o:=λb o r e=>u.heap b o (λz=>r<|l b z) (Ir b o r e);have Z:=x b o Q4 ho;have L:(tupleKind (kg f w)).is d.heap (val i).1 (val i).2.1:=by obtain⟨q,vd,n',g1,g2⟩:=CW;exact⟨q,vd,n',x _ _ Rn g1,g2⟩
   have CN:=T M hS u;have hT:d.TypeIs (.ref b) "tuple":=⟨o,Z,hc⟩;have hu':A.in1.units<cLine:=by rw[hK];exact hu
   show wpAny _ A.in1 (holding [.ref b] _>>=_) _ _ d;refine ae (bI ?_);refine ae (eE ?_);unfold Builtin.Dict.pairItems;refine ae (eG hT ?_);rw[au<|by decide];refine ae (dc Z hd<|af ?_);show wpAny _ _ (holding [.ref (val i).2.1,(val i).2.2]<|dictSet S (.ref (val i).2.1) (val i).2.2) _ _ _;refine bI (wpAny_dictSet_heap (hsz:=by have:=(yW _ _ M).1;lia) (dY hu) L CN λh' RC D=>?_);have er:rawInt ((i:Int)+1)=.int ((i+1:Nat):Int) 0:=by unfold rawInt;rfl
   rw[er];have Q:∀{c:ja},c∉S::wr->c≠S:=λh z=>h (by rw[z];exact bY);refine af ⟨cR zH _,ih (i+1) _ 0 _ (by grind) F (W.frame _ d _ _ Y (cO _ _) λb r o e=>?_) (λb o r e=>?_) RC (hJ i a F M) λZL N RD Qz U=>?_⟩;·rw[D.2 b (λh:b=S=>hSf<|by rw[<-h];exact r)];exact e
   ·show h'.get? b=some o;rw[D.2 b<|Q r];exact x b o r e
   ·refine hR ZL N (Moved.trans W.gtrans ((u.mono l).then_heap (cO _ _) λb o r e=>?_) RD) Qz U;rw[D.2 b<|Q r];exact e
def TL:typeLookup (.type "list") "keys"=pure none:=by rw[iu,fN];kernel_rfl
noncomputable def qM(a:tj):aa (aa Key×ja×je):=a.foldl (λc x=>storedH c x.1 x.2.1 x.2.2) []
def aaF{d:tj}{k:oz}{a:ja}{v:je}:∀p∈storedH d k a v,p.2.1=a\/∃q∈d,q.2.1=p.2.1:=by
 intro p c;unfold storedH at c;split at c
 ·obtain⟨q,i,e⟩:=aO.mp c;right;refine⟨q,i,?_⟩;subst e;unfold putAt;split<;>rfl
 ·rcases aX.mp c with h|h;·exact .inr ⟨p,h,rfl⟩
  ·rw[aI]at h;subst h;exact .inl rfl
def aaG{c:tj}{k:oz}{a:ja}{v:je}:(storedH c k a v).length<=c.length+1:=by
 unfold storedH;split;·rw[ao];simp
 ·rw[aq];simp
theorem yK(a:tj):∀i≤a.length,(qM<|a.take i).length<=i/\∀p∈qM (a.take i),∃q∈a,q.2.1=p.2.1
 |0,_=>⟨ai _,λp d=>nomatch d⟩
 |i+1,h=>by
  obtain⟨m,k⟩:=yK a i (by walk_at "l");have c:i<a.length:=by walk_at "l"
  have e:qM (a.take<|i+1)=storedH (qM<|a.take i) a[i].1 a[i].2.1 a[i].2.2:=by unfold qM;rw[fI c,fE];rfl
  rw[e];refine⟨aV aaG<|by walk_at "l",λp d=>?_⟩;rcases aaF p d with h|⟨q,hq,e⟩;·exact⟨a[i],bU c,h.symm⟩
  ·obtain⟨r,j,l⟩:=k q hq;exact⟨r,j,l.trans e⟩
variable{E:ki}{s:jr}
def ND{vals:tj}{Q:ki}(hh:A.handled=none)(hu:A.units+64<cLine)(hl:s.heap.get? l=some {cls:=.type "list",data:=.seq items nl})(M:items.size=vals.length)
 (hi:∀(i:Nat) v x,items[i]?=some v->vals[i]?=some x->∃b,v=.ref b/\A3 f w s.heap [] x b)(hb:items.size<=sizeLine)
 (h:∀(h':jw) tk,h'.DictOfH (tupleKind<|kg f w) s.heap.objs.size (qM vals)->(∀b o,b<s.heap.objs.size->s.heap.get? b=some o->h'.get? b=some o)->Q (.ref s.heap.objs.size) {s with heap:=h',toks:=tk}):
   wpAny (model f w) A (call (.type "dict") [.ref l]) Q E s:=by
  refine callType_codes (Q₁:=λD c=>D=.ref s.heap.objs.size/\c={s with heap:=s.heap.push {cls:=.type "dict",data:=.dict #[]}}) F.kt_called_dict (F.kt_typeCall_dict_1 _) F.entry_dict_init (kt_code_dict_new _ ⟨rfl,rfl⟩) ?_
  rintro D c ⟨rfl,rfl⟩
  have d:(s.heap.push {cls:=.type "dict",data:=.dict #[]}).DictOfH (tupleKind<|kg f w) s.heap.objs.size []:=Heap.DictOfH.new s.heap;have r:(s.heap.push {cls:=.type "dict",data:=.dict #[]}).get? l=some {cls:=.type "list",data:=.seq items nl}:=ah _ hl;have N:l<s.heap.objs.size:=Heap.lt_size hl;refine⟨d.typeIs,F.args_dict_init_2 _ _,?_⟩;unfold Builtin.«dict.__init__»;refine ae ?_;unfold Builtin.Dict.selfAndRest;refine ae (fM d.typeIs ?_);show wpAny _ _ (pure (s.heap.objs.size,[Value.ref l])) _ _ _;refine af ?_;show wpAny _ _ (Builtin.Dict.updateFrom "dict.__init__" s.heap.objs.size (.ref l) [] .none) _ _ _;unfold Builtin.Dict.updateFrom;refine ae (eG (T:="list") ⟨_,r,rfl⟩ ?_);rw[au<|by decide];refine ae (Qh r rfl rfl rfl TL (by decide+kernel) (by simp[hh]) (λu EO e hx=>?_)<|by decide+kernel);rw[au<|show(none:yr).isNone=true from rfl];have O:u.IsList l items:=⟨_,hx.keeps _ _ r,rfl,nl,rfl⟩;have C:∀{b:ja} {o:lE},s.heap.get? b=some o->u.get? b=some o:=λe=>hx.keeps _ _ (ah _ e);have Y:u.get? s.heap.objs.size=some {cls:=.type "dict",data:=.dict #[]}:=hx.keeps _ _ (aD _ rfl);have t:s.heap.objs.size<u.objs.size:=Heap.lt_size Y;have a:∀{b:ja} {o:lE},s.heap.get? b=some o->b∉[s.heap.objs.size,u.objs.size]:=λe=>by have Z:=Heap.lt_size e;simp only[az,cF,fY,i6];exact⟨aU Z,aU<|fq Z t⟩
  refine ae (eX<|ae<|dm O ?_);have CS:A.in1.in1.handled=none:=by simp[hh]
  have e0:rawInt 0=.int ((0:Nat):Int) 0:=rfl;rw[e0];refine af ⟨cR zH _,?_⟩
  refine ON (A:=A.in1) (wr:=[u.objs.size]) ((Walks.list CS u.objs.size l (aU<|fq N t) items).toS) s.heap.objs.size ?hSf (by simp only[hK];lia) s.heap (λi=>vals.getD i ([],0,.none)) ?hval hb (λi xs=>xs=qM (vals.take i)) ?hJ ?yW (items.size - 0) 0 _ 0 [] (by simp) (bQ _)
   ⟨⟨_,aD _ rfl,rfl,rfl⟩,O.push _⟩ (λb o _ e=>ah _<|C e) ?hS0 rfl ?hR
  case hSf=>simp only[az,cF,fY,i6];exact⟨aU t,cP N⟩
  case hval=>
   intro i v hv;have hiv:i<items.size:=by
    rcases ie i items.size with h|h;·exact h
    ·rw[cI h]at hv;cases hv
   have R5:vals[i]?=some (vals.getD i ([],0,.none)):=by rw[bc,ar<|by simp_all];rfl
   obtain⟨b,rfl,_,_,⟨o,m,Z,Qn,h3⟩,z⟩:=hi i v _ hv R5;refine⟨b,rfl,a Z,?_,⟨o,m,Z,Qn,h3⟩,z⟩;obtain⟨q,J,n',g1,g2⟩:=z;exact a g1
  case hJ=>
   rintro i xs CZ rfl
   have k:i<vals.length:=by simp_all
   unfold qM;rw[fI k,fE];rw[show vals.getD i ([],0,.none)=vals[i]by rw[bc,ar k];rfl];rfl
  case yW=>
   rintro i xs rfl
   by_cases hle:i<=vals.length
   ·obtain⟨f1,f2⟩:=yK vals i hle;refine⟨f1,λp L=>?_⟩;obtain⟨q,hq,e⟩:=f2 p L;obtain⟨j,V,ej⟩:=bS hq;obtain⟨b,_,_,_,_,z⟩:=hi j items[j] q (aM<|by simp_all) (by rw[ar V,ej]);obtain⟨q',J,n',g1,g2⟩:=z;rw[<-e];exact a g1
   ·rw[c0<|by grind];obtain⟨f1,f2⟩:=yK vals vals.length (ai _);rw[hU]at f1 f2;refine⟨by lia,λp L=>?_⟩;obtain⟨q,hq,e⟩:=f2 p L;obtain⟨j,V,ej⟩:=bS hq;obtain⟨b,_,_,_,_,z⟩:=hi j items[j] q (aM<|by simp_all) (by rw[ar V,ej]);obtain⟨q',J,n',g1,g2⟩:=z;rw[<-e];exact a g1
  case hS0=>exact⟨_,#[],0,ah _ Y,⟨rfl,rfl,rfl⟩,rfl,rfl,(λp L=>nomatch L),.nil⟩
  case hR=>intro s' xs' hm CN V;obtain⟨h',g',d',EN,D7⟩:=s';have eg:g'=s.gens:=hm.gens;have ed:d'=s.drawn:=hm.drawn;have eo:D7=s.os:=hm.os;subst eg;subst ed;subst eo;have U:xs'=qM (vals.take items.size):=V;rw[M,hU]at U;subst U;exact⟨rfl,h h' EN CN λb o hb e=>hm.heap b o (a e)<|ah _<|C e⟩
end P2
namespace P2
open PySem L2
noncomputable def CK:aa Key->jk
 |[.inr x]=>decide (x=Str.ofString "here")
 |[.inr _,.inl _]=>true
 |[.inr x,.inr _]=>decide (x=Str.ofString "at")
 |_=>false
noncomputable def Bu:aa je->jk
 |[.str x _]=>decide (x=Str.ofString "here")
 |[.str _ _,.int _ _]=>true
 |[.str x _,.str _ _]=>decide (x=Str.ofString "at")
 |_=>false
def rJ(K:jx):jk:=K.all λp=>match p.2.data with
 |.seq a _=>!Bu a.toList
 |_=>true
def sG:D->jm (aa Key)
 |.tup ds=>(lL ds).bind λa=>if CK a=true then some a else none
 |_=>none
theorem JB{o}:∀{K:kX},K.lookup a=some o->(a,o)∈K
 |(b,q)::K,h=>by
  rw[gX]at h;split at h
  ·rename_i z;obtain rfl:a=b:=by simpa using z
   cases h;exact .head _
  ·exact .tail _ (JB h)
def Vb(h:rJ K=true)(f:CK ks=true)(k:KT K a<|ks.map kV):False:=by
 obtain⟨o,d,n,w,y,v,x,i⟩:=k;have u:(a,o)∈K:=JB w;have:=cG.mp h _ u;dsimp only at this;rw[v]at this;have r:Bu d.toList=true:=by
  generalize d.toList=l at i;unfold CK at f;split at f
  ·cases i with
   |cons p q=>cases q;obtain⟨t,rfl⟩:=p;exact f
  ·cases i with
   |cons p q=>
    cases q with
    |cons m j=>cases j;obtain⟨t,rfl⟩:=p;obtain⟨s,rfl⟩:=m;rfl
  ·cases i with
   |cons p q=>
    cases q with
    |cons m j=>cases j;obtain⟨t,rfl⟩:=p;obtain⟨s,rfl⟩:=m;exact f
  ·cases f
 have c:(!Bu d.toList)=true:=this;rw[r]at c;cases c
def Jh{d}(j:rJ K=true)(r:Rep K al H v d)(e:sG d=some ks):∃b,al b/\H b=some (.tup<|ks.map kV)/\v=.ref b:=by
 cases r with
 |tup p q=>
  obtain⟨h,l,a⟩:=aP.mp (show((lL _).bind _)=some ks from e);have k:=vg q l;subst k;split at a
  ·rename_i i;cases a;rcases p with⟨f,c⟩|p;·exact⟨_,f,c,rfl⟩
   ·exact(Vb j i p).elim
  ·cases a
 |_=>cases e
def Al(f:jE):jE:=λρ S=>(f ρ S).bind λz c=>match z with
 |.d d=>(match sG d with
  |some a=>.ok (.tk a) c
  |none=>.bad)
 |_=>.bad
section
variable{X:Cx}{E:XK}{e:jB}{f:jE}{a c:Pos}
def aci(o:rJ X.K=true)(h:ZE X E e f):ZE X E e (Al f):=by
 obtain⟨t,p,r⟩:=h;refine⟨t,p,λs h=>r s<|jh.mono (jh.split h) λ{_ j k l _} m z y i v n=>?_⟩;split at i
 ·rename_i d;split at i
  ·rename_i A x;obtain⟨b,w,u,q⟩:=Jh o (show Rep X.K j l v d from n) x;exact i j k l m .refl .refl v ⟨b,w,u,q⟩
  ·exact i.elim
 ·exact i.elim
end
inductive uI(K:W.Frag)(H:Hp):List V->List (List Key×V)->Prop
 |nil:uI K H [] []
 |cons {b kb:Addr} {k:List Key} {y:V} {vs:List V} {kvs:List<|List Key×V}:mx K H b [.ref kb,y]->H kb=some (.tup<|k.map kV)->uI K H vs kvs->uI K H (.ref b::vs) ((k,y)::kvs)
def WJ{s}(I:Inv X pins σ H s):∀{f} {d} {c},uI X.K H f c->Vals f d->
    ∃a:aa (aa Key×ja×je),a.length=d.length/\(∀(i:Nat) v x,d[i]?=some v->a[i]?=some x->∃b,v=.ref b/\A3 X.prog X.w s.heap [] x b)/\L2.KT H c a:=by
 intro f d c r v;induction r generalizing d with
 |nil=>cases v;exact⟨[],rfl,λi v x h=>by simp at h,.nil⟩
 |@cons b l k _ _ _ sq m r G=>
  cases v with
  |cons p q=>
   obtain⟨a,M,L,J⟩:=G q;have D:_=Value.ref b:=p;subst D;obtain⟨F,y,⟨o,P,O,n,N⟩,_⟩:=I.tuple sq;cases y with
   |cons C z=>
    cases z with
    |cons w A=>
     cases A;rename_i u t;obtain rfl:u=Value.ref l:=C;refine⟨(k,l,t)::a,by simp[M],λi v x hv j=>?_,.cons ⟨rfl,m,w⟩ J⟩;cases i with
     |zero=>simp at hv j;subst hv j;exact⟨b,rfl,by simp,by simp,⟨o,n,P,O,N⟩,wL I.hok m⟩
     |succ i=>exact L i v x (by simpa using hv) (by simpa using j)
theorem HW:∀{kvs} {vals} {acc} {xs},L2.KT H kvs vals->L2.KT H acc xs->L2.KT H (kvs.foldl (λa p=>putK a p.1 p.2) acc) (vals.foldl (λa x=>storedH a x.1 x.2.1 x.2.2) xs)
 |_,_,_,_,.nil,r=>r
 |_,_,_,_,.cons (a:=p) (b:=q) h t,r=>by obtain⟨pk,i⟩:=p;obtain⟨l,f,d⟩:=q;obtain⟨c,k,j⟩:=h;dsimp only at c;subst c;exact HW (kvs:=_) (vals:=_) (acc:=putK _ pk i) (xs:=storedH _ pk f d) t (L2.KT.put r pk k j)
section
variable{X:Cx}{E:XK}{e:jB}{f:jE}{M N:Pos}
def NC(Z:X.calm=true)(P:X.A.units+64<cLine):mV X (.type "dict") (λm d Q=>∃l t c,m=[.ref l]/\d l=some (.lst t)/\uI X.K d t c/\
    ∀p,d p=none->Q (.ref p) (upd d p (.dT (c.foldl (λa p=>putK a p.1 p.2) [])))):=by
 intro r j σ d m us Q k L h;obtain⟨l,t,c,rfl,U,R,q⟩:=h;obtain⟨u,rfl,J⟩:=vals1 L;obtain rfl:u=Value.ref l:=J;obtain⟨z,O,n,C,T⟩:=(show kQ X.prog X.w d j.heap l (.lst t)from k.hok l _ U);obtain⟨vals,h1,h2,h3⟩:=WJ k R C;have F:=Paired.length C;have s:=k.hok.fresh (ai j.heap.objs.size);refine ND (vals:=vals) (k.ok.hd Z) P T (by simp[h1]) (λi v x I w=>h2 i v x (by simpa using I) w) (by simp;simp_all) λG tk dd kp=>?_;have y:∀b u,j.heap.get? b=some u->G.get? b=some u:=λb u e=>kp b u (Heap.lt_size e) e;have D:=HW h3 (acc:=[]) (xs:=[]) .nil;obtain⟨o,es,ep,g1,g2,g3,g4,g5,g6⟩:=dd;have Y:=L2.KT.keeps (H':=upd d j.heap.objs.size (.dT (c.foldl (λa p=>putK a p.1 p.2) []))) D (λb ys e=>by rw[jL (nS e s)];exact e);have A:(c.foldl (λa p=>putK a p.1 p.2) ([]:aa<|aa Key×V)).length<=sizeLine:=by
  have I:=Paired.length D;have w:=(yK vals vals.length<|ai _).1;rw[hU]at w;unfold qM at w
  lia
 have I2:Inv X r σ (upd d j.heap.objs.size<|.dT<|c.foldl (λa p=>putK a p.1 p.2) []) {j with heap:=G,toks:=tk}:=
  k.laid (t':=tk) y (ai _) ⟨A,by simpa using cP k.big,_,Y,o,es,ep,g1,g2,g3,g4,g6⟩
 exact⟨.ref _,_,I2,rfl,q _ s⟩
noncomputable def rL:aa D->jm (aa<|aa Key×D)
 |[]=>some []
 |.tup [k,v]::r=>(sG k).bind λa=>(rL r).map ((a,v):: ·)
 |_::_=>none
theorem Ku(k:rJ K=true):∀{j} {l} {c},jv K al H j l->rL l=some c->
 ∃a,uI K H j a/\Paired (λ(p:aa Key×V) (q:aa Key×D)=>p.1=q.1/\Rep K al H p.2 q.2) a c
 |_,_,_,.nil,h=>by cases h;exact⟨[],.nil,.nil⟩
 |_,_,_,.cons (d:=d) r q,h=>by
  cases r with
  |tup p t=>
   cases t with
   |nil=>cases h
   |cons n s=>
    cases s with
    |nil=>cases h
    |cons m o=>
     cases o with
     |cons _ _=>cases h
     |nil=>obtain⟨i,x,w⟩:=aP.mp (show((sG _).bind λi=>(rL _).map ((i,_):: ·))=some _ from h);obtain⟨c,v,rfl⟩:=aB.mp w;obtain⟨a,A,y⟩:=Ku k q v;obtain⟨b,_,u,rfl⟩:=Jh k n x;exact⟨(i,_)::a,.cons (p.elim (λz=>.inl<|.inl z.2) .inr) u A,.cons ⟨rfl,m⟩ y⟩
  |_=>cases h
def foldZ(c:aa<|aa Key×D):aa (aa Key×Z):=c.foldl (λa p=>kx a p.1<|.d p.2) []
theorem HX{lo}:∀{c} {j} {us} {zs},Paired (λ(p:aa Key×V) (q:aa Key×D)=>p.1=q.1/\Rep K al H p.2 q.2) c j->kC K al lo H us zs->
 kC K al lo H (c.foldl (λa p=>putK a p.1 p.2) us) (j.foldl (λa p=>kx a p.1<|.d p.2) zs)
 |_,_,_,_,.nil,r=>r
 |_,_,_,_,.cons (a:=p) (b:=q) h t,r=>by obtain⟨pk,i⟩:=p;obtain⟨m,d⟩:=q;obtain⟨k,l⟩:=h;dsimp only at k;subst k;exact HX (us:=putK _ pk i) (zs:=kx _ pk<|.d d) t (kC.put r pk<|show ko K al lo H i (.d d)from l)
def E2(f:jE):jE:=λρ S=>(f ρ S).bind λz a=>match z with
 |.loc n=>(match a[n]? with
  |some (.li c)=>(match(lY c).bind rL with
   |some d=>.ok (.loc a.length) (a++[.dt<|foldZ d])
   |none=>.bad)
  |_=>.bad)
 |_=>.bad
def ach(Q:rJ X.K=true)(P:X.calm=true)(G:X.A.units+64<cLine)(O:Gl X "dict")(L:X.mg "dict"=none)(hv:bootBuiltins "dict"=some (.type "dict"))(I:ZE X E e f)
 (u:autoParam (X.se e []) aZ0)(k:autoParam (X.bk M []) aZ0):ZE X E (.Call (.Name "dict" N) [e] [] M) (E2 f):=by
  obtain⟨to,F,z⟩:=I;refine⟨_,WV (NC P G) O L hv (sP F sQ u) (by decide) (by decide) u k,λ{_ _ lo _ _ _ _ _} s h=>z s<|jh.mono (jh.split h) λ{_ r c H1 t} j x1 y1 d v y=>?_⟩;split at d
  ·rename_i n;split at d
   ·rename_i zs q;split at d
    ·rename_i D C;obtain⟨ds,e1,Z⟩:=aP.mp C;have Y:=tF e1;subst Y;obtain⟨a,J,rfl⟩:=y;obtain⟨w,V,U⟩:=j.cell J q;obtain⟨i,T,R⟩:=Ku Q U.toD Z;refine⟨a,w,i,rfl,V,T,λp l=>?_⟩;have A:=HX (lo:=c) R (us:=[]) (zs:=[]) .nil;have o:lV X.K (λb=>r b/\b≠p) (k8 c t.length p) (upd H1 p<|.dT<|i.foldl (λa p=>putK a p.1 p.2) []) p (.dt<|foldZ D):=⟨_,kK,A.mv (qu l)<|oV j.st p⟩;have x:=j.new l DY o nofun;have m:k8 c t.length p t.length=some p:=by unfold k8;rw[au rfl]
     exact d _ _ _ x (qu l) (oV j.st p) _ ⟨p,m,rfl⟩
    ·exact d.elim
   ·exact d.elim
  ·exact d.elim
variable{y:kX}{L:St}{H:Hp}{s:jr}{a:ja}{o:lE}{j:aa<|aa Key×V}
def IW(I:Inv X y L H s)(e:H a=some (.dT j))(h:s.heap.get? a=some o):Inv X y L (upd H a<|.ku o<|.dT j) s:=by
 have ok:=I.hok a _ e;obtain⟨z,l,k,d,r⟩:=(show kQ X.prog X.w H s.heap a (.dT j)from ok)
 exact I.write (x:=a) (e:=a) (t':=s.toks) (h':=s.heap) (by rw[e];exact True.intro) (.inl rfl) (λb u _ z=>z) ⟨o,h⟩
  (show kQ X.prog X.w (upd H a<|.ku o<|.dT j) s.heap a (.ku o<|.dT j)from⟨h,z,l,k,L2.KT.keeps d<|λc m i=>by rw[jL<|JY i e<|λz=>nomatch z];exact i,r⟩)
def J3(I:Inv X y L H s)(e:H a=some (.dT j)):∀c u,X.H₀ a≠some (.ku c u):=λc u z=>by have:=I.base.qa a c u z;rw[e]at this;cases this
def So(I:Inv X y L H s)(e:H a=some (.ku o<|.dT j))(R:∀d u,X.H₀ a≠some (.ku d u)):Inv X y L (upd H a<|.dT j) s:=by
 have l:∀{b:ja},H b=none->b≠a:=λh z=>by rw[z,e]at h;cases h
 have w:∀{b:ja} {m:aa V},H b=some (.tup m)->b≠a:=λh z=>by rw[z,e]at h;cases h
 obtain⟨_,z,O,m,t,r⟩:=(show kQ X.prog X.w H s.heap a (.ku o<|.dT j)from I.hok a _ e);refine⟨I.ok,I.os,I.bare,⟨I.base.keep,I.base.slot,λb d F n A=>by rw[jL (l (I.base.free b d F n A))];exact I.base.free b d F n A,I.base.there,λb k h=>by rw[jL<|w<|I.base.tups b k h];exact I.base.tups b k h,λb d u h=>?_,λb G h=>?_⟩,I.loc,I.cell,by rw[jL (l I.free)];exact I.free,λx c h=>by rw[jL<|l<|I.pZ x c h];exact I.pZ x c h,λp J=>?_,λb u h=>?_,I.len⟩
 ·by_cases i:b=a;·simp_all
  ·rw[jL i];exact I.base.qa b d u h
 ·obtain⟨more,q⟩:=I.base.rN b G h;have i:b≠a:=λz=>by rw[z,e]at q;cases q
  exact⟨more,by rw[jL i];exact q⟩
 ·obtain⟨Q,C,P⟩:=I.pin p J;exact⟨Q,by rw[jL (l C)];exact C,P⟩
 ·by_cases i:b=a
  ·subst i;rw[kK]at h;cases h;exact⟨z,O,m,L2.KT.keeps t<|λc k D=>by rw[jL<|w D];exact D,r⟩
  ·rw[jL i]at h;exact(I.hok b u h).ur (λc v T r=>r) (λc r=>by rw[jL<|λz=>by rw[z,e]at r;cases r];exact r) λc k r=>by rw[jL<|w r];exact r
open PySem.Spec PySem.Calls PySem.W
open PyProof.Rows hiding St K
variable{F:jT}{w:jK}{A:kh}{E:ki}{C d:ja}{i J:Nat}{B:kr DictEntry}
def Y9{Q:ki}(hv:s.heap.IsValuesView v d)(n:rY s.heap d B J)
 (q:Q (.ref s.heap.objs.size) {s with heap:=s.heap.push {cls:=.type "dict_valueiterator",data:=.fields #[.ref d,.int 0 0,.int B.size 0,.int J 0]}}):wpAny (model F w) A (pyIter<|.ref v) Q E s:=by
  obtain⟨r,k,p,l⟩:=id hv;obtain⟨o,m,t,c⟩:=id n;refine fy hv.typeIs f5 (bB f5 hv.typeIs PySem.F.entry_dict_values_iter ?_ (PySem.F.args_dict_values_iter_1 _));unfold Builtin.«dict_values.__iter__»;refine ae (af ?_);refine ae ?_;unfold Builtin.Dict_items.dictOf;refine ae (ez k l (x:=.ref d) rfl<|af ?_);refine ae ?_;unfold Builtin.Dict_items.newIterator;refine ae (dB m c ?_);refine ae (d3 m c ?_);have h:Builtin.Dict_items.ownsTuple "dict_valueiterator"=false:=by decide
  simp only[h,bA,bT];refine a9 (af ⟨_,rfl,"dict_valueiterator",_,⟨_,aD _ rfl,rfl⟩,PySem.F.slot_dict_valueiterator_next.lookup,?_⟩);simpa [rawInt]using q
def Y8{Q:pV}(hit:s.heap.IsValIter C d i B.size J)(r:rY s.heap d B J)(l:i<B.size)
 (v:∀q,q.IsValIter C d (i+1) B.size J->Heap.SameBut C s.heap q->Q (some B[i].val) {s with heap:=q}):wpAny (model F w) A (pyNext<|.ref C) Q E s:=by
  obtain⟨o,p,u,n⟩:=id hit;obtain⟨x,k,t,m⟩:=id r;unfold pyNext
  refine ae (dE (bR (name:=Str.ofString "__next__") hit.typeIs cw
   (bB cw hit.typeIs eJ ?_ (eF _))))
  refine ae (af ?_);refine ae ?_;refine ae ?_;first|refine ae (cU hit.typeIs<|af ?_)|refine ae (dG hit.typeIs<|af ?_)
  refine ae (da p n ?_);have h:Builtin.Dict_items.ownsTuple "dict_valueiterator"=false:=by decide
  simp only[h,bA,bT];show wpAny _ _ (if(Value.ref d==Value.none)=true then _ else _) _ _ s;rw[ax<|show¬((Value.ref d==Value.none)=true)from ay];refine ae (af ?_);refine ae (dB k m ?_);rw[ax<|by simp];refine ae (af ?_);refine ae (d3 k m ?_);rw[ax<|by simp];refine af ?_;simp only[show¬((i:Int)<0)from by simp,bT,bJ,aM l];refine ae ?_;first|refine ae (cU hit.typeIs<|af ?_)|refine ae (dG hit.typeIs<|af ?_)
  refine ae (fP hit.typeIs ?_);show wpAny _ _ (setField (.ref C) 1 (rawInt<|(i:Int)+1)>>=_) _ _ s;refine ae (cg p n (by simp) ?_)
  have c:(s.heap.update C (Obj.mapFields (·.setIfInBounds 1 (rawInt<|(i:Int)+1)))).IsValIter C d (i+1) B.size J:=
   ⟨_,aY _ p<|b7<|bw n _,(du ..).trans u,by rw[bw n];simp[rawInt]⟩
  refine ae (bI ?_);refine ae (fP (s:={s with heap:=s.heap.update C (Obj.mapFields (·.setIfInBounds 1 (rawInt<|(i:Int)+1)))}) c.typeIs ?_);refine ae (fP (s:={s with heap:=s.heap.update C (Obj.mapFields (·.setIfInBounds 1 (rawInt<|(i:Int)+1)))}) c.typeIs ?_);show wpAny _ _ (pure B[i].val) _ _ _;exact af (af ⟨_,rfl,af<|v _ c<|bF ..⟩)
def Y7{Q:pV}(t:A.handled=none)(hit:s.heap.IsValIter C d i B.size J)(r:rY s.heap d B J)(l:B.size<=i)
 (v:∀q,Heap.ExtBut C s.heap q->Q none {s with heap:=q}):wpAny (model F w) A (pyNext<|.ref C) Q E s:=by
  obtain⟨o,n,z,p⟩:=id hit;obtain⟨x,h,u,k⟩:=id r;unfold pyNext
  refine ae (dE (bR (name:=Str.ofString "__next__") hit.typeIs cw
   (bB cw hit.typeIs eJ ?_ (eF _))))
  refine ae (af ?_);refine ae ?_;refine ae ?_;first|refine ae (cU hit.typeIs<|af ?_)|refine ae (dG hit.typeIs<|af ?_)
  refine ae (da n p ?_);have c:Builtin.Dict_items.ownsTuple "dict_valueiterator"=false:=by decide
  simp only[c,bA,bT];show wpAny _ _ (if(Value.ref d==Value.none)=true then _ else _) _ _ s;rw[ax<|show¬((Value.ref d==Value.none)=true)from ay];refine ae (af ?_);refine ae (dB h k ?_);rw[ax<|by simp];refine ae (af ?_);refine ae (d3 h k ?_);rw[ax<|by simp];refine af ?_;simp only[show¬((i:Int)<0)from by simp,bT,bJ,cI l];refine ae ?_;first|refine ae (cU hit.typeIs<|af ?_)|refine ae (dG hit.typeIs<|af ?_)
  show wpAny _ _ (setField (.ref C) 0 .none>>=_) _ _ s;refine ae (cg n p (by simp) ?_);show wpAny _ _ (newExc (.type "StopIteration") []>>=_) _ _ _;refine ae ?_;simp only[newExc,newTuple];refine ae (a9 ?_ (by size_fits));refine ae (m:=firstArgMember _ _) (f3 (a:=Value.none) (by first|rfl|(simp only[firstArgMember];rfl)) ?_);refine a9 ?_ (by size_fits);simp only[raiseNew];refine ae (gE ?_);rw[show A.in1.handled=none from t];refine ae (af<|iM ?_);refine ae (dR (T:="StopIteration") (b:=true) ⟨_,aD _ rfl,rfl⟩ gs ?_);exact af (v _<|((bF ..).extBut.push _).push _)
end
def vP(a:ja)(o:lE)(u:HO)(c:aa V):It where
 go:=λi H=>H a=some (.ku o u)/\i<c.length
 xI:=λi H x H'=>H'=H/\c[i]?=some x
 stop:=λi H=>H a=some (.ku o u)/\c.length<=i
def abw{w}(a it){o:lE}{u}(p:o.ExactDict)(j:o.data=.dict es ep)(hv:Vals vs (es.toList.map (·.key))):
    Turn P w K tg (vP a o u vs) [it] it (λi h=>h.IsKeyIter it a i es.size ep) where
 mem:=by simp
 obj:=λi h st b l=>by
  have e:b=it:=by simpa using l
  subst e;obtain⟨o,e,c,d⟩:=st;exact⟨o,e,λv z=>by rw[d]at z;cases z⟩
 keep:=λi h q st k=>let⟨o,e,r⟩:=st;⟨o,k it (by simp) o e,r⟩
 item:=by
  intro X F t G R i f s σ H E I hf st D;subst F t G;obtain⟨x,C⟩:=D;obtain⟨y,_⟩:=(show kQ X.prog X.w H s.heap a (.ku o u)from I.hok a _ x);obtain⟨O,N,Y,M,L,J⟩:=hf it (by simp);have A:=Paired.length hv;have n:i<es.size:=by simp at A;simp_all
  obtain⟨T,Q,V⟩:=Vals.get hv (ar C);have Z:T=es[i].key:=by rw[aH,bg,aM n]at Q;exact(Option.some.inj Q).symm
  subst Z;refine Zb st ⟨o,y,p,j⟩ n λq m U=>?_;have I1:Inv X f σ H {s with heap:=q}:=I.turned (t':=s.toks) (λb o l e=>(U.2 b l).trans e) O N M L J;obtain⟨o',e,c,d⟩:=id m;exact⟨_,rfl,tS (s:={s with heap:=q}) e c d (by decide) ⟨vs[i],H,I1,V,⟨rfl,ar C⟩,m,λb l=>(hf b l).1⟩⟩
 done:=by intro X F t G R i f s σ H E I hf st D;subst F t G;obtain⟨x,C⟩:=D;obtain⟨y,_⟩:=(show kQ X.prog X.w H s.heap a (.ku o u)from I.hok a _ x);obtain⟨O,N,Y,M,L,J⟩:=hf it (by simp);have A:=Paired.length hv;exact Za (I.ok.hd R) st ⟨o,y,p,j⟩ (by simp at A;simp_all) λq eb=>⟨rfl,I.turned (t':=s.toks) (λb o l e=>eb b o l e) O N M L J⟩
 self:=λ_ _ _ _ _ st h=>wpAny_pyIter_keyiter st h
def abA{w}(a it){o:lE}{u}(p:o.ExactDict)(j:o.data=.dict es ep)(hv:Vals vs (es.toList.map (·.val))):
    Turn P w K tg (vP a o u vs) [it] it (λi h=>h.IsValIter it a i es.size ep) where
 mem:=by simp
 obj:=λi h st b l=>by
  have e:b=it:=by simpa using l
  subst e;obtain⟨o,e,c,d⟩:=st;exact⟨o,e,λv z=>by rw[d]at z;cases z⟩
 keep:=λi h q st k=>let⟨o,e,r⟩:=st;⟨o,k it (by simp) o e,r⟩
 item:=by
  intro X F t G R i f s σ H E I hf st D;subst F t G;obtain⟨x,C⟩:=D;obtain⟨y,_⟩:=(show kQ X.prog X.w H s.heap a (.ku o u)from I.hok a _ x);obtain⟨O,N,Y,M,L,J⟩:=hf it (by simp);have A:=Paired.length hv;have n:i<es.size:=by simp at A;simp_all
  obtain⟨T,Q,V⟩:=Vals.get hv (ar C);have Z:T=es[i].val:=by rw[aH,bg,aM n]at Q;exact(Option.some.inj Q).symm
  subst Z;refine Y8 st ⟨o,y,p,j⟩ n λq m U=>?_;have I1:Inv X f σ H {s with heap:=q}:=I.turned (t':=s.toks) (λb o l e=>(U.2 b l).trans e) O N M L J;obtain⟨o',e,c,d⟩:=id m;exact⟨_,rfl,tS (s:={s with heap:=q}) e c d (by decide) ⟨vs[i],H,I1,V,⟨rfl,ar C⟩,m,λb l=>(hf b l).1⟩⟩
 done:=by intro X F t G R i f s σ H E I hf st D;subst F t G;obtain⟨x,C⟩:=D;obtain⟨y,_⟩:=(show kQ X.prog X.w H s.heap a (.ku o u)from I.hok a _ x);obtain⟨O,N,Y,M,L,J⟩:=hf it (by simp);have A:=Paired.length hv;exact Y7 (I.ok.hd R) st ⟨o,y,p,j⟩ (by simp at A;simp_all) λq eb=>⟨rfl,I.turned (t':=s.toks) (λb o l e=>eb b o l e) O N M L J⟩
 self:=λ_ _ _ _ _ st h=>wpAny_pyIter_valiter st h
def AF(H:Hp)(a:aa<|aa Key×V)(c:aa V):Prop:=Paired (λ(p:aa Key×V) (v:V)=>∃b,v=.ref b/\H b=some (.tup<|p.1.map kV)) a c
theorem keys_of:∀{a} {c},L2.KT H a c->AF H a (c.map λx=>V.ref x.2.1)
 |_,_,.nil=>.nil
 |_,_,.cons h t=>.cons ⟨_,rfl,h.2.1⟩ (keys_of t)
theorem Jo:∀{a} {c},L2.KT H a c->Vals (a.map (·.2)) (c.map (·.2.2))
 |_,_,.nil=>.nil
 |_,_,.cons h t=>.cons h.2.2 (Jo t)
section
variable{X:Cx}{tg o:jB}{N:TE}{M L:Pos}
def R7(X:Cx)(N:TE):TI:=λσ H R=>N σ H λx d=>∃a c,x=.ref a/\d a=some (.dT c)/\∀ob f,(∀h u,X.H₀ a≠some (.ku h u))->AF d c f->R (vP a ob (.dT c) f) (upd d a<|.ku ob<|.dT c)
def R8(X:Cx)(N:TE):TI:=λσ H R=>N σ H λx f=>∃a c,x=.ref a/\f a=some (.dT c)/\∀ob d,(∀h u,X.H₀ a≠some (.ku h u))->d=c.map (·.2)->R (vP a ob (.dT c) d) (upd f a<|.ku ob<|.dT c)
def Xn(w:PE X o N):PI X tg o (R7 X N):=by
 intro c s σ H R I h;refine jC (w c s σ H _ I h) λv d j=>?_;obtain⟨x,Q,l,r,t⟩:=j;obtain⟨a,u,ex,e,q⟩:=t;subst ex;cases r;obtain⟨z,y,f,i,dd⟩:=BO l.hok e;obtain⟨ob,D,P,p,n,m,C,O,J⟩:=dd;have F:D.toList.map (·.key)=f.map λx=>Value.ref x.2.1:=by rw[C,bh];rfl
 have k:=IW l e p;refine Zd y ⟨ob,p,n,m⟩ ?_;refine⟨d.heap.objs.size,[d.heap.objs.size],_,_,_,rfl,k.kept (t':=d.toks) λb o e=>ah _ e,abw a _ n m (vs:=f.map λx=>V.ref x.2.1)<|by rw[F];exact Mu f,⟨_,aD _ rfl,rfl,rfl⟩,λb A=>?_,q ob _ (J3 l e)<|keys_of i⟩;have G:b=d.heap.objs.size:=by simpa using A
 subst G;exact k.u0 (ai _) (k.hok.fresh<|ai _)
def UQ{w}(d)(c:(d==sysModules)=false):
    MeetsIn prog w (Builtin.«dict.values» ⟨[.ref d],[]⟩) (λ_ R s=>s.TypeIs (.ref d) "dict"/\R (.ok<|.ret<|.ref s.heap.objs.size) {s with heap:=s.heap.push {cls:=.type "dict_values",data:=.fields #[.ref d]}}):=
 .of_wp λA R s ⟨a,h⟩=>by refine ae ?_;unfold Builtin.Dict.noArgs;refine ae (fM a ?_);show wpAny _ _ (pure d) _ _ s;refine af ?_;show wpAny _ _ (Builtin.Dict.showsAll d>>=_) _ _ s;unfold Builtin.Dict.showsAll;rw[ax<|by rw[c];exact ay];refine ae (af ?_);exact ae (a9<|af ⟨_,rfl,h⟩)
def Xo(D:PE X o N)(i:attributeBase o "values" X.env (eval o X.env)=eval o X.env)(f:(M.endLine==L.line)=true):PI X tg (.Call (.Attribute o "values" M) [] [] L) (R8 X N):=by
 intro c s σ H R I h;refine wpAny_Call_method0_late i f (jC (D c s σ H _ I h) λv j n=>?_);obtain⟨x,U,k,A,C⟩:=n;obtain⟨a,d,ex,e,q⟩:=C;subst ex;cases A;obtain⟨l,y,F⟩:=Df k (.inr ⟨d,.inl e⟩);obtain⟨z,_,w,m,dd⟩:=BO k.hok e;obtain⟨ob,P,Z,u,t,r,J,Y,V⟩:=dd;have O:P.toList.map (·.val)=w.map (·.2.2):=by rw[J,bh];rfl
 refine⟨"dict","dict.values",eZ,gI,PySem.F.type_dict_values,l,y,dW rfl<|PySem.evalArgs_none ?_⟩;refine ia gI l PySem.F.entry_dict_values (PySem.F.args_dict_values_1 _) (UQ a F) ⟨l,?_⟩;have T:=IW k e u;have p:Inv X c σ (upd U a<|.ku ob<|.dT d) {j with heap:=j.heap.push {cls:=.type "dict_values",data:=.fields #[.ref a]}}:=T.kept (t':=j.toks) λb o e=>ah _ e;refine Y9 ⟨_,aD _ rfl,rfl,rfl⟩ ⟨ob,ah _ u,t,r⟩ ?_;refine⟨_,[_],_,_,_,rfl,p.kept (t':=j.toks) λb o e=>ah _ e,abA a _ t r (vs:=d.map (·.2))<|by rw[O];exact Jo m,⟨_,aD _ rfl,rfl,rfl⟩,λb G=>?_,q ob _ (J3 k e) rfl⟩;have Q:=aI.mp G;subst Q;exact p.u0 (ai _) (p.hok.fresh<|ai _)
variable{e:jB}{t:TE}
def abd(X:Cx)(t:TE):TE:=λσ H Q=>t σ H λv H'=>∃a o c,H' a=some (.ku o<|.dT c)/\(∀d u,X.H₀ a≠some (.ku d u))/\Q v (upd H' a<|.dT c)
def Xg(h:PE X e t):PE X e (abd X t):=λc s σ H Q I j=>jC (h c s σ H _ I j) λv m ⟨x,n,l,d,a,o,i,k,f,q⟩=>⟨x,_,So l k f,d,q⟩
noncomputable def qy(c:ny)(e:jE)(a:jP)(f:Nat):jD
 |[],S=>.ok (.loc f) S
 |d::r,S=>match c (a.set 0<|some d) S with
  |.ok b j=>if b=true then(match e (a.set 0 (some d)) j with
   |.ok z i=>(match i[f]? with
    |some (.li h)=>if h.length<sizeLine then qy c e a f r (i.set f<|.li<|h++[z])else .bad
    |_=>.bad)
   |_=>.bad)else qy c e a f r j
  |_=>.bad
abbrev _root_.oy:=aa (aa Key×Z)
def Ap(n:Nat)(a:oy):RX Z->RX Z
 |.ok z S=>.ok z (S.set n<|.dt a)
 |_=>.bad
abbrev _root_.yj:=aa (aa Key×Z)->aa Z
def rR(d:yj)(fo:jE)(h:lC)(c:ny)(e:jE):jE:=λρ S=>(fo ρ S).bind λz f=>match z with
 |.loc n=>(match f[n]?,(f[0]?:jm Cell)with
  |some (.dt a),some Cell.mk=>Ap n a (qy c e (mQ h ρ) f.length (d a)<|f.set n (.ft a)++[.li []])
  |_,_=>.bad)
 |_=>.bad
def A4(K:jx)(V:Hp->aa (aa Key×V)->aa V->Prop)(a:yj):Prop:=
 ∀al lo H f c d,V H f d->kC K al lo H f c->(∀b h,H b=some (.tup h)->al b)->kq K al lo H d (a c)
def ID(X:Cx)(i:Hp->aa (aa Key×V)->aa V->Prop)(N:TE):TI:=λσ H R=>N σ H λx d=>∃a c,x=.ref a/\d a=some (.dT c)/\∀ob f,(∀h u,X.H₀ a≠some (.ku h u))->i d c f->R (vP a ob (.dT c) f) (upd d a<|.ku ob<|.dT c)
theorem kq.at{K:jx}{al:kM}{lo:Lo}{H:Hp}:∀{c:aa V} {a:aa Z},kq K al lo H c a->∀(i:Nat) (v:V),c[i]?=some v->∃z,a[i]?=some z/\ko K al lo H v z
 |_,_,.nil,i,v,h=>by simp at h
 |_,_,.cons r t,0,v,h=>by cases h;exact⟨_,rfl,r⟩
 |_,_,.cons r t,i+1,v,h=>by rw[fh]at h⊢;exact kq.at t i v h
variable{E:XK}{J P:jB}{O:lr}{l:Scope}{T p0:Pos}{fo:jE}{Y:ny}{U:jE}{cl:tp}{Nc:jS}{ci:lC}{x:jd}{Vs:Hp->aa (aa Key×V)->aa V->Prop}{F:yj}
def MI(hp:A4 X.K Vs F)(hpi:∀N,PE X o N->∃wi,PI X (.Name x p0) J wi/\∀σ H R,ID X Vs N σ H R->wi σ H R)(ho:ZE X E o fo)(hc:X.calm=true)(hg:∀fp s3 I C,PG (X.comp l ([x]++Nc) cl fp s3 I C) (.Name x p0)<|qN 0)(hf:∀fp s3 I C,ts (X.comp l ([x]++Nc) cl fp s3 I C) O Y)
    (he:∀fp s3 I C,ZE (X.comp l ([x]++Nc) cl fp s3 I C) (λ_ _ _=>False) P U)
    (hclos:closureFor l X.env=pure cl)(hkind:l.kind=.function)(hcell:rG l)(hnames:sN l)(qO:nM X cl Nc ci)
    (hsub:∀x c,cl.lookup x=some c->X.env.cells.lookup x=some c)(hhas:∀x,((relabel l X.env).names.lookup x=some .cell\/(relabel l X.env).names.lookup x=some .free)->∃c,cl.lookup x=some c)
    (u7:∀x∈Nc,(relabel l X.env).names.lookup x=some .cell\/(relabel l X.env).names.lookup x=some .free)
    (hs:∀x,foldedSetIterable J X.env x=pure x):ZE X E (.ListComp P [⟨.Name x p0,J,O,0⟩] l T) (rR F fo ci Y U):=by
 obtain⟨N,pd,rd⟩:=ho;obtain⟨wi,pi,ri⟩:=hpi N pd;refine⟨_,Xg<|Ec (Nt:=[x]) (tn:=1) (te:=Ab X.K U) (tc:=xF X.K Y) (g:=qN 0) hc pi hg hf (λfp s3 I C=>(he fp s3 I C).w) hclos hkind hcell hnames qO rfl hsub hhas u7 hs,λ{B _ _ _ σ ρ _ Q} s h=>ri _ _ _<|rd s<|jh.mono (jh.split h) λ{z r D H1 S1} s1 x1 y1 h1 v rv=>?_⟩;split at h1
 ·rename_i n;split at h1
  ·rename_i d q1 q0;obtain⟨a,hn,rfl⟩:=rv;obtain⟨G,g1,g2⟩:=s1.cell hn q1;refine⟨a,G,rfl,g1,λob vs nf hv=>?_⟩;have xa:Xt r H1 r (upd H1 a (.ku ob (.dT G))):=λb o _ hb eb=>⟨hb,by rw[jL λz=>s1.st.na _ a hn (by rw[<-z];exact hb)];exact eb⟩;have rz:=hp r D H1 G d vs hv g2 λb ys e=>s1.st.tl q0 b _ e (.inl ⟨_,rfl⟩);obtain⟨ea,xa'⟩:=s1.toEZ.write hn (o:=.ku ob (.dT G)) (c:=.ft d) (λ_ z=>nomatch z) (λq w=>by unfold md at w;cases w) ⟨G,ob,kK,g2.mv xa .refl⟩ nofun;intro p hp;have Vi:p≠a:=λz=>by rw[z,kK]at hp;cases hp
   have ln:(S1.set n<|.ft d).length=S1.length:=aT;have CQ:lV X.K (λb=>r b/\b≠p) (k8 D (S1.set n<|.ft d).length p) (upd (upd H1 a<|.ku ob<|.dT G) p<|.lst []) p (.li []):=⟨[],kK,.nil⟩;have e0:=ea.new hp oi CQ nofun;have C1:k8 D (S1.set n<|.ft d).length p S1.length=some p:=by unfold k8;rw[au ln.symm]
   have x0:Xt r H1 (λb=>r b/\b≠p) (upd (upd H1 a<|.ku ob<|.dT G) p<|.lst []):=xa'.trans (qu hp);have y0:Lx D (k8 D (S1.set n<|.ft d).length p):=oV ea.st p;have hlen:vs.length=(F d).length:=rz.length;refine⟨λi m H2=>∃k A S2,EZ X.K B k A H2 S2/\Xt r H1 k H2/\Lx D A/\A S1.length=some p/\jh X.K B E r D H1 σ ρ (Ap n d<|qy Y U (mQ ci ρ) S1.length ((F d).drop i) S2) (λz kH mS H' _=>∀v,ko X.K kH mS H' v z->Q v H')/\m=(F d).length - i,⟨_,_,_,_,e0,x0,y0,C1,h1,rfl⟩,?_⟩
   rintro i m H2 ⟨k,A,S2,e2,x2,y2,n2,f,rfl⟩ fz
   have ha:H2 a=some (.ku ob<|.dT G):=fz a ob _ (by rw[jL<|bV Vi,kK]);have cap:=LH s1 e2 x2 y2 ci;have ZK:=kq.mv x2 y2 rz;by_cases hi:i<(F d).length
   ·right;refine⟨⟨ha,by simp_all⟩,λv I y=>?_⟩;obtain⟨rfl,RY⟩:=(show I=H2/\vs[i]?=some v from y);obtain⟨zi,HK,rx⟩:=ZK.at i v RY;have PL:(F d)[i]=zi:=by rw[ar hi]at HK;exact Option.some.inj HK
    rw[cN hi,PL]at f;unfold qy at f;have c1:RZ X.K B k A I ((mZ 1 ci σ).set 0 (some v)) ((mQ ci ρ).set 0 (some zi)) S2:=cap.set (by unfold mQ;simp) rx;refine⟨⟨by rw[aT,wm],λj hj=>av<|by walk_at "l"⟩,B,k,A,_,S2,c1,?_⟩;cases qc:Y ((mQ ci ρ).set 0 (some zi)) S2 with
    |ok b S3=>
     rw[qc]at f;intro vZ wR H4 c3 x3 y3;dsimp only at f;cases b with
     |false=>rw[ax ay]at f⊢;exact⟨(F d).length - (i+1),by grind,vZ,wR,S3,c3.toEZ,x2.trans x3,y2.trans y3,y3 _ _ n2,f,rfl⟩
     |true=>
      rw[au rfl]at f⊢;refine⟨B,vZ,wR,_,S3,c3,?_⟩;cases qe:U ((mQ ci ρ).set 0 (some zi)) S3 with
      |ok z S4=>
       rw[qe]at f;dsimp only at f;split at f
       ·rename_i zs q4;split at f
        ·rename_i hz;intro tA Dz H5 c4 x4 y4 u ru;have n4:=y4 _ _ (y3 _ _ n2);obtain⟨ws,g1,g2⟩:=c4.cell n4 q4;have xx:Xt tA H5 tA (upd H5 p (.lst (ws++[u]))):=λb o _ hb eb=>⟨hb,by rw[jL λz=>c4.st.na _ p n4 (by rw[<-z];exact hb)];exact eb⟩;obtain⟨e5,x5⟩:=c4.toEZ.write n4 (o:=.lst (ws++[u])) (c:=.li (zs++[z])) oi (λq w=>by unfold md at w;cases w) ⟨_,kK,kq.mv xx .refl (g2.append (.cons ru .nil))⟩ nofun;exact⟨ws,g1,by rw[g2.length];exact hz,(F d).length - (i+1),by lia,tA,Dz,_,e5,((x2.trans x3).trans x4).trans x5,(y2.trans y3).trans y4,n4,f,rfl⟩
        ·exact f.elim
       ·exact f.elim
      |_=>rw[qe]at f;exact f.elim
    |_=>rw[qc]at f;exact f.elim
   ·left;rw[cZ<|by simp_all]at f;have xx:Xt k H2 k (upd H2 a (.dT G)):=λb o _ hb eb=>⟨hb,by rw[jL λz=>e2.st.na _ a (y2 _ _ hn) (by rw[<-z];exact hb)];exact eb⟩;obtain⟨e5,x5⟩:=e2.write (y2 _ _ hn) (o:=.dT G) (c:=.dt d) (λ_ z=>nomatch z) (λq w=>by unfold md at w;cases w) ⟨G,kK,(g2.mv x2 y2).mv xx .refl⟩ nofun;refine⟨⟨ha,by simp_all⟩,a,ob,G,ha,nf,?_⟩;exact f k A _ ⟨e5,s1.len,λi z e=>let⟨v,k1,k2⟩:=s1.vr i z e;⟨v,k1,k2.mv (x2.trans x5) y2⟩⟩ (x2.trans x5) y2 _ ⟨p,n2,rfl⟩
  ·exact h1.elim
 ·exact h1.elim
def pickK(a:oy):aa Z:=a.map λp=>.d (.tup<|p.1.map kD)
def uh(a:oy):aa Z:=a.map (·.2)
def Xu:A4 K AF pickK:=by
 intro al lo H j d c hv r i;induction r generalizing c with
 |nil=>cases hv;exact .nil
 |cons k m f=>
  cases hv with
  |cons h t=>obtain⟨b,rfl,a⟩:=h;exact .cons (show Rep K al H (.ref b) _ from .tup (.inl ⟨i b _ a,a⟩) (zO _)) (f _ t)
def Xv:A4 K (λ_ c a=>a=c.map (·.2)) uh:=by
 intro al lo H c f a hv r j;subst hv;induction r with
 |nil=>exact .nil
 |cons d i h=>exact .cons d h
def sV(fo d:jE):jE:=λρ S=>(fo ρ S).bind λz f=>(d ρ f).bind λy c=>match z,y with
 |.loc n,.d (.tup ds)=>(match lL ds,c[n]? with
  |some k,some (.ft a)=>(match valZ a k with
   |some z=>.ok z c
   |none=>.bad)
  |_,_=>.bad)
 |_,_=>.bad
variable{k:jB}{fk:jE}
def MJ(hu:X.A.units+64<cLine)(ho:ZE X E o fo)(hk:ZE X E k fk)(hs:autoParam (uF k) aZ7):ZE X E (.Subscript o k T) (sV fo fk):=by
 obtain⟨to,Q,C⟩:=ho;obtain⟨tk,pk,D⟩:=hk;refine⟨_,Kz (by lia) Q pk hs,λs h=>C s<|jh.mono (jh.split h) λy x1 y1 h1 v z=>D y<|jh.mono (jh.split h1) λ{_ d i m _} j x2 p c u A=>?_⟩;split at c
 ·rename_i n ds;split at c
  ·rename_i k0 R G q;split at c
   ·rename_i z0 I;obtain⟨a,hn,rfl⟩:=z;obtain⟨b,vs,rfl,hb,f⟩:=Rep.pO (show Rep X.K d m u (.tup ds)from A);have ev:=vg f G;subst ev;obtain⟨r,ob,g1,g2⟩:=j.cell (p _ _ hn) q;obtain⟨w,e1,e2⟩:=g2.val I;exact⟨a,b,r,k0,w,rfl,rfl,.inr ⟨ob,g1⟩,hb,e1,c d i m j .refl .refl w e2⟩
   ·exact c.elim
  ·exact c.elim
 ·exact c.elim
def acd(i nm)(hc:X.calm=true)(Q:ZE X E J fo)(hg:∀A n D C,PG (X.comp l ([x]++[y]) [(y,c)] A n D C) (.Name x p0)<|qN 0)(hf:∀A n D C,ts (X.comp l ([x]++[y]) [(y,c)] A n D C) O Y)
 (he:∀A n D C,ZE (X.comp l ([x]++[y]) [(y,c)] A n D C) (λ_ _ _=>False) P U)
 (f:l.kind=.function)(m:rG l)(a:sN l)
 (hN:X.N[i]?=some y)(R:X.env.kindOf y=some .cell)(v:X.env.cells.lookup y=some c)(j:closureFor l X.env=pure [(y,c)])(s:(relabel l X.env).names=nm)
 (u:∀p∈nm,(p.2=.cell\/p.2=.free)->p.1=y)(r:nm.lookup y=some .cell\/nm.lookup y=some .free)
 (I:autoParam (∀x,foldedSetIterable J X.env x=pure x) aZ2):ZE X E (.ListComp P [⟨.Name x p0,J,O,0⟩] l T) (rR pickK fo [i] Y U):=by
  refine MI Xu (λN h=>⟨_,Xn h,λ_ _ _ h=>h⟩) (cl:=[(y,c)]) (Nc:=[y]) (ci:=[i]) Q hc hg hf he j f m a (.cons hN (.inl R) (by rw[v];simp[List.lookup]) .nil) (λz d q=>?_) (λz q=>?_) (λz G=>?_) I
  ·by_cases w:z=y;·subst w;simp[List.lookup]at q;rw[v,q]
   ·have:(z==y)=false:=by simpa using w
    simp[List.lookup,this]at q
  ·rw[s]at q;have:z=y:=q.elim (λq=>u _ (bO q)<|.inl rfl) λq=>u _ (bO q) (.inr rfl);subst this;exact⟨c,by simp[List.lookup]⟩
  ·rw[aI]at G;subst G;rw[s];exact r
def ace{M L:Pos}(G:X.calm=true)(w:ZE X E o fo)(A:∀r p s C,PG (X.comp l [x] [] r p s C) (.Name x p0)<|qN 0)(hf:∀r p s C,ts (X.comp l [x] [] r p s C) O Y)
 (D:∀r p s C,ZE (X.comp l [x] [] r p s C) (λ_ _ _=>False) P U)
 (a:∀y∈l.names,y.2≠.free)(j:l.kind=.function)(d:rG l)(f:sN l)
 (m:autoParam (attributeBase o "values" X.env (eval o X.env)=eval o X.env) aZ0)(i:autoParam ((M.endLine==L.line)=true) aZ0)
 (v:autoParam (∀x,foldedSetIterable (.Call (.Attribute o "values" M) [] [] L) X.env x=pure x) aZ2):ZE X E (.ListComp P [⟨.Name x p0,.Call (.Attribute o "values" M) [] [] L,O,0⟩] l T) (rR uh fo [] Y U):=by
  have e:relabel l X.env=l:=by
   have:l.names.map (λ(n,k)=>if(k==NameKind.free&&X.env.scope.kind==.function&&X.env.kindOf n==some .cell)then(n,NameKind.cell)else(n,k))=l.names:=by
    refine map_eq_self λy u=>?_;obtain⟨n,k⟩:=y;have:(k==NameKind.free)=false:=by simpa using a _ u
    simp[this]
   unfold relabel;rw[this]
  refine MI Xv (λN h=>⟨_,Xo h m i,λσ H R q=>?_⟩) (cl:=[]) (Nc:=[]) (ci:=[]) w G (by rw[bz];exact A) (by rw[bz];exact hf) (by rw[bz];exact D) (closureFor_none a) j d f .nil (λx c z=>nomatch z) (λx z=>?_) (λx z=>nomatch z) v;·exact q
  ·rw[e]at z;rcases z with z|z;·exact absurd rfl (d _<|bO z)
   ·exact absurd rfl (a _<|bO z)
end
open PySem.Spec PySem.Calls PySem.W yg
open PyProof.Rows hiding St K
def tD(a:oz):D:=.tup (a.map kD)
def vB:aa D->jm (aa<|aa Key)
 |[]=>some []
 |.tup ds::r=>(lL ds).bind λa=>(vB r).map (a:: ·)
 |_=>none
theorem Md:∀{c} {a},vB c=some a->a.map tD=c
 |[],_,h=>by cases h;rfl
 |.tup x::r,_,h=>by obtain⟨k,i,f⟩:=aP.mp h;obtain⟨j,d,rfl⟩:=aB.mp f;rw[aW,Md d];show D.tup (k.map kD)::r=_;rw[Dq i]
 |.non::_,_,h=>by cases h
 |.bl _::_,_,h=>by cases h
 |.int _::_,_,h=>by cases h
 |.str _::_,_,h=>by cases h
 |.ty _::_,_,h=>by cases h
 |.ref _::_,_,h=>by cases h
 |.lst _::_,_,h=>by cases h
 |.exc _ _ _::_,_,h=>by cases h
theorem Jk:∀a:aa Key,lL (a.map kD)=some a
 |[]=>rfl
 |k::r=>by show(og<|kD k).bind (λk=>(lL<|r.map kD).map (k:: ·))=_;rw[Jk r];cases k<;>rfl
def lZ:aa (aa Key)->aa (aa Key)
 |[]=>[]
 |k::r=>if(r.any λj=>decide<|j=k)=true then lZ r else k::lZ r
def Gk{k}{r:yp}:(r.any λj=>decide<|j=k)=true↔k∈r:=by simp
theorem rF(x):∀a:aa (aa Key),x∈lZ a↔x∈a
 |[]=>Iff.rfl
 |k::r=>by
  unfold lZ;by_cases h:(r.any λj=>decide<|j=k)=true
  ·rw[au h,rF x r,az];exact⟨.inr,λz=>z.elim (λz=>by rw[z];exact Gk.mp h) id⟩
  ·rw[ax h,az,az,rF x r]
theorem wY:∀a:aa (aa Key),(lZ a).Nodup
 |[]=>.nil
 |k::r=>by
  unfold lZ;by_cases h:(r.any λj=>decide<|j=k)=true;·rw[au h];exact wY r
  ·rw[ax h];exact bL.mpr ⟨λz=>h<|Gk.mpr<|(rF k r).mp z,wY r⟩
theorem Jw:∀a:aa (aa Key),(lZ a).length<=a.length
 |[]=>ai _
 |k::r=>by
  have d:=Jw r;have c:(k::r).length=r.length+1:=rfl;unfold lZ;split;·walk_at "l"
  ·rw[aw];walk_at "l"
noncomputable def xA:D->R (aa D)
 |.lst ds=>match vB ds with
  |some a=>if nE ds=true/\ds.length<64 then .ok (kZ<|(lZ a).map tD)else .bad
  |none=>.bad
 |_=>.bad
variable{X:Cx}
def Th{w}:∀{l} {c} {f} {j},lL l=some c->jv K al H f l->Vals f j->ItemsAre (kg P w) c j:=by
 intro l c f j h r v;induction l generalizing c f j with
 |nil=>cases r;cases v;cases h;exact .nil
 |cons d _ n=>
  cases r with
  |cons a b=>
   cases v with
   |cons hv o=>
    obtain⟨k,m,q⟩:=aP.mp h;obtain⟨c,p,rfl⟩:=aB.mp q;refine .cons ?_ (n p b o);cases d with
    |int i=>cases m;cases a;exact pG hv
    |str i=>cases m;cases a;exact pG hv
    |_=>cases m
def abt{s}(I:Inv X pins σ H s){u}(r:Rep X.K al H v (tD ks))(hv:RelV v u):∃b,u=.ref b/\v=.ref b/\mM X.prog X.w s.heap ks b:=by obtain⟨a,k,rfl,f,d⟩:=r.pO;obtain rfl:u=.ref a:=hv;obtain⟨c,q,⟨o,j,i,n,h⟩,_⟩:=I.tuple f;exact⟨a,rfl,rfl,o,_,n,j,i,h,Th (Jk ks) d q⟩
def PQ{w}(h:ItemsAre (kg P w) ks vs):qY (ks.map kD) vs:=by
 induction h with
 |nil=>exact .nil
 |@cons k v ks vs c _ a=>
  refine .cons ?_ a;have:=Dg c;cases k with
  |inl i=>obtain⟨t,rfl⟩:=(show∃t,v=Value.int i t from this);rfl
  |inr x=>obtain⟨t,rfl⟩:=(show∃t,v=Value.str x t from this);rfl
def item_tup{w}(x:mM P w h ks b):q8 h (.ref b) (tD ks):=by obtain⟨o,a,n,c,i,f,d⟩:=x;exact⟨b,o,a,n,rfl,c,i,f,PQ d⟩
def Ep:je->V
 |.ref b=>.ref b
 |_=>.non
variable{E:XK}{e:jB}{ta:TE}{f:jQ}{p1 p2 pos zI:Pos}
def Xe(hc:X.calm=true)(m:X.A.units+64<cLine)(he:PE X e ta)(hg:Gl X "sorted")(hm:X.mg "sorted"=none)(hg2:Gl X "set")(hm2:X.mg "set"=none)
 (hs:X.se e [])(hpl:X.bk zI [])
 (hs2:starEach [.Call (.Name "set" p2) [e] [] zI] X.env=(false,eval (.Call (.Name "set" p2) [e] [] zI) X.env)::starEach [] X.env)(L:X.bk pos []):
   PE X (.Call (.Name "sorted" p1) [.Call (.Name "set" p2) [e] [] zI] [] pos) (λσ H Q=>ta σ H λx0 j=>∃x,[x0]=[x]/\∃l R n al k7,x=.ref l/\lz X.K j l R/\jv X.K al j R n/\vB n=some k7/\nE n=true/\n.length<64/\∀p ws,j p=none->jv X.K al j ws (kZ<|(lZ k7).map tD)->Q (.ref p) (upd j p<|.lst ws)):=by
  refine KG he hg hm hg2 hm2 (λI s1 σ j x u Q Y ru q1=>?_) hs hpl hs2 L;obtain⟨l,R,n,al,k7,rfl,hl,rv,hk,hh,Iu,q⟩:=q1;obtain rfl:u=Value.ref l:=ru;obtain⟨c,vv,pl,hz⟩:=Y.list hl;have D:=Md hk;obtain⟨sg,RU⟩:=y7 hh;have Tz:n.length=k7.length:=by rw[<-D,ao]
  have lvs:R.length=n.length:=rv.length;have s:c.length=k7.length:=by have:=vv.length;simp_all
  have at_:∀(i:Nat) (v:je),c[i]?=some v->∃b,v=.ref b/\mM X.prog X.w s1.heap (k7.getD i []) b/\Rep X.K al j (.ref b) (tD<|k7.getD i [])/\tD (k7.getD i [])∈n:=λi v hv=>by
   have T:i<k7.length:=by rw[<-s];exact(aC.mp hv).1
   have ed:n[i]?=some (tD<|k7.getD i []):=by rw[<-D,aH,ar T,bc,ar T];rfl
   obtain⟨y,G,V⟩:=rv.getD ed;obtain⟨u',J,ru⟩:=vv.get G;rw[hv]at J;cases J;obtain⟨b,rfl,rfl,tk⟩:=abt Y V ru;exact⟨b,rfl,tk,V,bp ed⟩
  refine NP (A:=X.A) (items:=c.toArray) (k7:=k7) (Y.ok.hd hc) m pl.isList (by rw[aQ];exact s) (λi v hv=>by obtain⟨b,h1,F,_⟩:=at_ i v (by simpa using hv);exact⟨b,h1,F⟩) (by rw[aQ];lia) λh tk js SV mem ext=>?_
  have w:∀b o,s1.heap.get? b=some o->h.get? b=some o:=λb o e=>ext b o (Heap.lt_size e) e;have I2:Inv X I σ j {s1 with heap:=h,toks:=tk}:=Y.kept (t':=tk) w;obtain⟨o,U,ep,t,ho,hex,hd,el,hin,hn,Z,adi,adl,N,ue,M⟩:=SV;have hf:t.fits U.size=true:=by have:=Z.fits;rw[aG]at this;exact this
  have C:(mD h U.toList).Perm (lZ k7):=zE ue (wY k7) λx=>by rw[M x,mem x,rF]
  have O4:∀d∈(lZ k7).map tD,kz d=some sg:=λd hd=>by obtain⟨k,CV,rfl⟩:=aO.mp hd;exact RU _ (by rw[<-D];exact aO.mpr ⟨k,(rF k k7).mp CV,rfl⟩)
  have sl:=dq;have wI:U.size<=c.length:=by simpa using hn
  have P:∀u∈c,∃b,u=.ref b/\mM X.prog X.w h (tK h u) b/\Rep X.K al j (.ref b) (tD (tK h u)):=λu m=>by obtain⟨i,T,ei⟩:=bS m;obtain⟨b,rfl,F,h3,_⟩:=at_ i u (by rw[ar T,ei]);have t2:=F.at' (λo e=>w b o e);rw[t2.tK];exact⟨b,rfl,t2,h3⟩
  have O:∀a:aa je,a.Perm (U.toList.map Prod.snd)->(∀v∈a,v∈c)/\(a.map λu=>tD<|tK h u).Perm ((lZ k7).map tD)/\a.length<64:=λa hp=>by
   have fl:∀v∈a,v∈c:=λv hv=>by obtain⟨e,he,rfl⟩:=aO.mp (hp.mem_iff.mp hv);simpa using hin e he
   have p1:(a.map λu=>tK h u).Perm (lZ k7):=by have:=hp.map λu=>tK h u;rw[bh]at this;exact this.trans C
   refine⟨fl,?_,?_⟩
   ·have:=p1.map tD;rw[bh]at this;exact this
   ·have:=p1.length_eq;rw[ao]at this;have:=Jw k7
    lia
  have z:∀a:aa je,(∀v∈a,v∈c)->Vals (a.map Ep) a/\jv X.K al j (a.map Ep) (a.map λu=>tD<|tK h u):=λa=>by
   induction a with
   |nil=>intro _;exact⟨.nil,.nil⟩
   |cons u r ih=>
    intro m;obtain⟨g1,g2⟩:=ih λv hv=>m v (.tail _ hv);obtain⟨b,G,_,h3⟩:=P u (m u<|.head _);have V:Ep u=.ref b:=by rw[G];rfl
    rw[aW,aW,V];exact⟨.cons (by rw[G];rfl) g1,.cons h3 g2⟩
  refine LZ hc I2 ⟨o,ho,hex,hd,hf⟩ ⟨N,λ_=>Z.qo,λ_=>Z.pD⟩ (by lia) O4 O z (λt' kp a=>?_) q;induction a with
  |nil=>intro _;exact .nil
  |cons u r ih=>intro m;obtain⟨b,G,F,_⟩:=P u (m u<|.head _);refine .cons ?_ (ih λv hv=>m v<|.tail _ hv);rw[G]at F⊢;exact q8.keep (item_tup F) kp
end P2
namespace P2
open PySem L2
def Ao(f:jE):jE:=λρ S=>(f ρ S).bind λz a=>match z with
 |.d d=>(match xA d with
  |.ok ds=>.ok (.d<|.lst ds) a
  |_=>.bad)
 |_=>.bad
section
variable{X:Cx}{E:XK}{e:jB}{f:jE}{b a i c:Pos}
def acw(J:X.A.units+64<cLine)(T:X.calm=true)(Q:Gl X "sorted")(N:X.mg "sorted"=none)(A:Gl X "set")(z:X.mg "set"=none)(R:ZE X E e f)
 (L:autoParam (X.se e []) aZ0)(y:autoParam (X.bk a []) aZ0)
 (x:autoParam (starEach [.Call (.Name "set" c) [e] [] a] X.env=(false,eval (.Call (.Name "set" c) [e] [] a) X.env)::starEach [] X.env) aZ0)(o:autoParam (X.bk b []) aZ0):
   ZE X E (.Call (.Name "sorted" i) [.Call (.Name "set" c) [e] [] a] [] b) (Ao f):=by
  obtain⟨t,p,r⟩:=R;refine⟨_,Xe T J p Q N A z L y x o,λs h=>r s<|jh.mono (jh.split h) λ{_ j n Y _} D x1 Z m v G=>⟨v,rfl,?_⟩⟩;split at m
  ·rename_i d;have w:Rep X.K j Y v d:=G;unfold xA at m;split at m
   ·rename_i U k;split at k
    ·rename_i V;split at k
     ·rename_i I P;split at k
      ·rename_i C;cases k;obtain⟨l,F,rfl,O,u⟩:=w.oW;exact⟨l,F,V,j,I,rfl,O,u,P,C.1,C.2,λp ws q M=>m j n _ (D.grow<|mH q) (.of<|mH (K:=X.K) q) .refl _<|show ko X.K j n _ (.ref p) (.d<|.lst _)from M.tY q (D.fresh p q)⟩
      ·cases k
     ·cases k
    ·cases k
   ·exact m.elim
  ·exact m.elim
end
def sj(x y:D):R D:=match BB x y with
 |.ok ds=>.ok (.lst ds)
 |_=>.bad
def Kl:lh X E (binaryOp .Add) sj:=by
 refine⟨_,Km,λfr n k h=>?_⟩;unfold sj BB at h;split at h
 ·rename_i r a;split at a
  ·split at a
   ·rename_i z;cases a;obtain⟨l,j,rfl,q,f⟩:=n.zd;obtain⟨m,i,rfl,o,d⟩:=k.zd;exact⟨l,m,j,i,rfl,rfl,q,o,by rw[f.length,d.length];exact z,λp c=>h _ (mH c) _ ((f.append d).tY c (fr p c))⟩
   ·cases a
  ·cases a
 ·exact h.elim
end P2
namespace WM
open PySem L2 P2 WP
def tJ(a:Ad)(d c:jA):jV:=(qp 1<|dA c<|ba (dV 2) jb)
def tR(a:Ad)(c d:jA):jV:=(kd (vx 1 (λρ=>((ba (dV 0) jb) ρ).bind jM))
    (kd (vt (λρ=>((dA c (ba (dV 0) jb)) ρ).bind j2) (gV 2) (tJ a c d))
    (λρ=>(kY (dV 1)) (wC 1 ρ))))
def Cc(a:Ad)(c:jA):jV:=(kd (kT 1 (dA c (ba (dV 0) jb)))
    (kd (kT 2 (jz (λρ=>((jz (kl (λρ=>((dV 1) ρ).bind j2) 1 [] (gV 0) (b1 tB (d2 lQ (jg 0 0) (dA jN (ba (jF "back") (ba (jF "ago") jb))))) (jg 0 1))) ρ).bind oK)))
    (kd (kT 3 (jz (λρ=>((jz (kl (λρ=>((dV 1) ρ).bind j2) 1 [] (gV 0) (b1 tB (d2 lQ (jg 0 0) (dA jN (ba (jF "on") (ba (jF "until") jb))))) (jg 0 1))) ρ).bind oK)))
    (kd (kT 4 (jz (λρ=>((jz (kl (λρ=>((dV 1) ρ).bind j2) 1 [] (gV 0) (b1 tB (d2 jW (jg 0 0) (jF "at"))) (jg 0 1))) ρ).bind oK)))
    (kd (vx 5 (λρ=>((ba (dA jN (ba (jF "here") jb)) jb) ρ).bind jM))
    (kd (qp 5 (jz (kl (λρ=>((dV 2) ρ).bind j2) 1 [] (gV 0) (λ_=>.ok true) (dA jN (ba (jF "back") (ba (dV 0) jb))))))
    (kd (qp 5 (jz (kl (λρ=>((dV 3) ρ).bind j2) 1 [] (gV 0) (λ_=>.ok true) (dA jN (ba (jF "on") (ba (dV 0) jb))))))
    (kd (qp 5 (jz (kl (λρ=>((dV 4) ρ).bind j2) 1 [] (gV 0) (λ_=>.ok true) (dA jN (ba (jF "at") (ba (dV 0) jb))))))
    (λρ=>(kY (dV 5)) (wC 5 ρ))))))))))
def Cp(a:Ad)(c:jA)(b:Nat):jJ:=(jZ<|zF c<|i7 (z2 oo (z2 jG (sU (zV 2)<|zD<|dV 1)<|zD<|jc 0)<|z2 jG (sU (zV 2)<|zD<|dV 0)<|zD<|jc 0)<|i7 (zD<|jc 1) jo)
def pF(a:Ad)(f k j i h:jA)(c d:jD)(b:Nat):jJ:=(jf (jy 2 (zD (jg 0 0)))
    (jf (j4 (zB (b1 tB (d2 jW (dV 2) (jF "num")))) (jZ (zD (dA f (ba (d2 jG (jg 0 1) (jc 0)) (ba (d2 jG (jg 0 1) (jc 1)) jb))))) kn)
    (jf (j4 (zB (b1 tB (d2 jW (dV 2) (jF "ago")))) (jZ (zZ c (i7 (zD (dA jN (ba (jF "back") (ba (jg 0 1) jb)))) (i7 (zD (dA jN (ba (jF "here") jb))) (i7 (zV 1) jo))))) kn)
    (jf (j4 (zB (b1 tB (d2 jW (dV 2) (jF "until")))) (jZ (zZ c (i7 (zD (dA jN (ba (jF "here") jb))) (i7 (zD (dA jN (ba (jF "on") (ba (jg 0 1) jb)))) (i7 (zV 1) jo))))) kn)
    (jf (j4 (zB (b1 tB (d2 jW (dV 2) (jF "+")))) (jZ (zF k (i7 (zZ d (i7 (zD (jg 0 1)) (i7 (zV 1) jo))) (i7 (zZ d (i7 (zD (jg 0 2)) (i7 (zV 1) jo))) jo)))) kn)
    (jf (j4 (zB (b1 tB (d2 jW (dV 2) (jF "-")))) (jZ (zF j (i7 (zZ d (i7 (zD (jg 0 1)) (i7 (zV 1) jo))) (i7 (zZ d (i7 (zD (jg 0 2)) (i7 (zV 1) jo))) jo)))) kn)
    (jf (j4 (zB (b1 tB (d2 jW (dV 2) (jF "times")))) (jZ (zF i (i7 (zD (jg 0 1)) (i7 (zZ d (i7 (zD (jg 0 2)) (i7 (zV 1) jo))) jo)))) kn)
    (jf (j4 (zB (b1 tB (d2 jW (dV 2) (jF "abs")))) (jZ (zF h (i7 (zZ d (i7 (zD (jg 0 1)) (i7 (zV 1) jo))) jo))) kn)
    (jf (jy 3 (z2 jG (sU (zV 1) (zD (dV 0))) (zD (jc 1))))
    (jZ (zD (dA f (ba (jg 3 0) (ba (jg 3 1) jb))))))))))))))
def yP(a:Ad)(f:jA)(d c:jD)(b:Nat):jJ:=(jf (jy 2 (zD (jg 0 0)))
    (jf (j4 (zB (b1 tB (d2 jW (dV 2) (jF "<")))) (jZ (zF f (i7 (zZ d (i7 (zD (jg 0 1)) (i7 (zV 1) jo))) (i7 (zZ d (i7 (zD (jg 0 2)) (i7 (zV 1) jo))) jo)))) kn)
    (jf (j4 (zB (b1 tB (d2 jW (dV 2) (jF "=")))) (jZ (z2 pY (zZ d (i7 (zD (jg 0 1)) (i7 (zV 1) jo))) (zZ d (i7 (zD (jg 0 2)) (i7 (zV 1) jo))))) kn)
    (jf (j4 (zB (b1 tB (d2 jW (dV 2) (jF "not")))) (jZ (Am (zZ c (i7 (zD (jg 0 1)) (i7 (zV 1) jo))))) kn)
    (jf (j4 (zB (b1 tB (d2 jW (dV 2) (jF "and")))) (jZ (Ak (zZ c (i7 (zD (jg 0 1)) (i7 (zV 1) jo))) (zZ c (i7 (zD (jg 0 2)) (i7 (zV 1) jo))))) kn)
    (jZ (An (zZ c (i7 (zD (jg 0 1)) (i7 (zV 1) jo))) (zZ c (i7 (zD (jg 0 2)) (i7 (zV 1) jo))))))))))
def tI(a:Ad):jJ:=(jf (jy 3 (xP (qw a.Sight (zV 0) "masts") (zD (jg 2 0)) (mU (λρ=>(jb ρ).bind jM))))
    (jf (uw (qw a.Sight (zV 0) "places") (qx (i7 (zD (jg 2 0)) (i7 (zD (jg 2 1)) jo))) (zR (dA lR (ba (dV 3) jb))))
    (o9 3 (zD (dV 2)))))
def B0(a:Ad)(b:Nat):jJ:=(jf (xG a.Sight (zV 0) "masts" E3)
    (jf (xG a.Sight (zV 0) "places" vJ)
    (mJ (λρ=>((dV 1) ρ).bind j2) (hV 2) (tI a))))
def B6(a:Ad)(b:Nat):jJ:=(jf (jy 3 (zD (wq (b1 tB (d2 jW (jg 2 0) (jF "at"))) (jg 2 1) (jg 1 0))))
    (jf (jy 4 (vH (qw a.Sight (zV 0) "places") (qx (i7 (zD (dV 3)) (i7 (zD (jg 1 1)) jo)))))
    (jf (j4 (xK (zV 4)) (jZ (zD (dC .non))) kn)
    (jf (j4 (zB (b1 tB (d2 jW (jg 2 0) (jF "back")))) (Ag 4 Bj (zD (jg 2 1))) kn)
    (jf (j4 (zB (b1 tB (d2 jW (jg 2 0) (jF "on")))) (Ag 4 Bi (zD (jg 2 1))) kn)
    (jf (jy 5 (xJ (qw a.Sight (zV 0) "masts") (dV 3)))
    (jZ (zR (wq (b1 tB (su Dv lH (jc 0) (dV 4) (dA lR (ba (dV 5) jb)))) (d2 jG (dV 5) (dV 4)) (dC .non))))))))))
def qK(a:Ad)(c:jD):jJ:=(jf (jy 5 (xO a.Sight "one_seen" c [] (zV 0) (i7 (zD (dV 1)) (i7 (zD (dV 4)) jo))))
    (jf (j4 (xK (zV 5)) (jZ (zD (dC .non))) kn)
    (uw (zV 3) (Al (zD (dV 4))) (zD (dV 5)))))
def yM(a:Ad)(c:jD)(b:Nat):jJ:=(jf (jy 3 vJ)
    (jf (mJ (λρ=>((dV 2) ρ).bind j2) (hV 4) (qK a c))
    (jZ (zV 3))))
def Cf(a:Ad)(b:Nat):jJ:=(jZ<|E2<|rR pickK (zV 0) [0] qA<|zF jN<|i7 (zD<|dV 0)<|i7 (zF jN<|i7 (z2 jG (sV (zV 1)<|zD<|dV 0)<|zD<|jc 1)<|i7 (z2 jG (sV (zV 1)<|zD<|dV 0)<|zD<|jc 2) jo) jo)
def Cj(a:Ad)(b:Nat):jJ:=(jf (jy 1 (Ao (pQ (rR uh (zV 0) [] qA (zD (dA jN (ba (jg 0 1) (ba (jg 0 0) jb))))))))
    (jZ (zD (jz (kl (λρ=>((dV 1) ρ).bind j2) 1 [] (gV 0) (λ_=>.ok true) (dA jN (ba (jg 0 1) (ba (jg 0 0) jb))))))))
def rq(a:Ad)(j k:jA)(h c d i f:jD):jJ:=(jf (jy 9 (xO a.Sight "seen_from" c [] (zV 5) (i7 (zD (dV 8)) (i7 (zD (dV 6)) jo))))
    (j4 (ux (xM (zV 9)) (pR tT (zZ i (i7 (zD (jg 4 1)) (i7 (zZ d (i7 (zV 9) jo)) jo))))) (o9 2 (zF jN (i7 (zD (jg 8 0)) (i7 (zD (jg 8 1)) (i7 (zD (jg 4 0)) (i7 (zZ f (i7 (zV 9) jo)) jo)))))) (o9 7 (zD (dV 8)))))
def tM(a:Ad)(i f:jA)(c d h k j:jD)(b:Nat):jJ:=(jf (jy 5 (xN a.Sight c (i7 (zD (dV 3)) jo)))
    (jf (jy 6 (zD (dA f (ba (jg 4 1) jb))))
    (jf (jy 7 (mU (λρ=>(jb ρ).bind jM)))
    (jf (mJ (λρ=>((dV 3) ρ).bind j2) (hV 8) (rq a i f c d h k j))
    (sT b 7 (jy 3 (zD (dV 7))))))))
def Ci(a:Ad)(d i:jA)(f c h k j:jD)(b:Nat):jJ:=(jf (jy 2 (mU (λρ=>(jb ρ).bind jM)))
    (jf (jy 3 (zD (jz (kl (λρ=>((dV 0) ρ).bind j2) 1 [] (gV 0) (λ_=>.ok true) (dA jN (ba (jg 0 0) (ba (jg 0 1) (ba (dA d (ba (d2 jG (jg 0 2) (jc 0)) (ba (d2 jG (jg 0 2) (jc 1)) jb))) jb))))))))
    (jf (mJ (λρ=>((dV 1) ρ).bind j2) (hV 4) (tM a d i f c h k j b))
    (sT b 2 (jZ (zD (dA jN (ba (dV 2) (ba (dV 3) jb)))))))))
def Co(a:Ad)(c:jD)(b:Nat):jJ:=(jZ<|z2 jG (zZ c<|i7 (zD<|dV 0)<|i7 (zD<|dV 1) jo)<|zD<|jc 0)
def Cr(a:Ad)(c:jD)(b:Nat):jJ:=(jZ<|z2 jG (zZ c<|i7 (zD<|dV 0)<|i7 (zD<|dV 1) jo)<|zD<|jc 1)
def CC(a:Ad)(b:Nat):jJ:=(jf (j4 (qz (b1 tB (d2 jW (jg 0 1) (jc 0)))) (jf (jy 2 (zR (d2 jU (jg 0 0) (dV 1))))
    (jf (vF 0 (jc 0) (zR (d2 kE (jg 0 0) (dV 1))))
    (jZ (zD (dV 2))))) kn)
    (jf (vF 0 (jc 0) (zR (d2 jU (d2 kA (d2 kJ (d2 jU (jg 0 0) (jc 2147483647)) (jc 48271)) (jc 1013)) (jc 2147483629))))
    (jZ (zR (d2 jU (d2 kE (d2 jU (d2 kJ (jg 0 0) (jc 69621)) (jc 2147483587)) (jc 11)) (dV 1))))))
def CJ(a:Ad)(d:jA)(c:jD)(b:Nat):jJ:=(jf (jy 1 (zZ c (i7 (zV 0) (i7 (zD (jc 8)) jo))))
    (jf (j4 (zB (b1 tB (d2 jW (dV 1) (jc 7)))) (jZ (zF jN (i7 (z2 kJ (zZ c (i7 (zV 0) (i7 (zD (d2 qS (jc 10) (jc 60))) jo))) (z2 oo (zD (jc 1)) (z2 kJ (zD (jc 2)) (zZ c (i7 (zV 0) (i7 (zD (jc 2)) jo)))))) (i7 (zD (jc 1)) jo)))) kn)
    (jf (j4 (zB (b1 tB (d2 jW (dV 1) (jc 6)))) (jZ (zF d (i7 (z2 oo (zZ c (i7 (zV 0) (i7 (zD (jc 9)) jo))) (zD (jc 3))) (i7 (zD (jc 2)) jo)))) kn)
    (jZ (zF jN (i7 (zZ c (i7 (zV 0) (i7 (zD (jc 4)) jo))) (i7 (zD (jc 1)) jo)))))))
def tL(a:Ad)(d:jA)(f c:jD):jJ:=(jf (o9 4 (zF jN (i7 (zD (d2 jG (dV 3) (d2 jU (dV 6) (jc 3)))) (i7 (zD (dV 5)) (i7 (zZ c (i7 (zV 7) jo)) jo)))))
    (jy 5 (zD (d2 kA (dV 5) (jc 1)))))
def we(a:Ad)(d:jA)(f c:jD):jJ:=(o9 4<|zF jN<|i7 (zD<|dV 11)<|i7 (zD<|dV 5)<|i7 (zZ c<|i7 (zV 7) jo) jo)
def si(a:Ad)(d:jA)(c f:jD):jJ:=(jf (j4 (qz (b1 tB (d2 sy (dA lR (ba (dV 4) jb)) (dV 2)))) lX.bk kn)
    (jf (jy 7 (mU (λρ=>((ba (dV 6) (ba (d2 jU (d2 kE (dA d (ba (dV 0) (ba (jc 0) jb))) (jc 7)) (jc 2)) jb)) ρ).bind jM)))
    (jf (jy 5 (z2 kA (zD (d2 kA (dV 5) (jc 1))) (zZ c (i7 (zV 7) (i7 (zD (jc 4)) jo)))))
    (jf (j4 (pR tB (z2 jW (zZ c (i7 (zV 7) (i7 (zD (jc 9)) jo))) (zD (jc 1)))) (jy 5 (z2 kA (zD (dV 5)) (zZ c (i7 (zV 7) (i7 (zD (jc 3000)) jo))))) kn)
    (jf (jy 8 (zZ c (i7 (zV 7) (i7 (zD (jc 12)) jo))))
    (jf (j4 (qz (qL (b1 tB (d2 jW (dV 8) (jc 11))) (b1 tB (d2 lH (dA lR (ba (dV 4) jb)) (jc 50))))) (mJ (λρ=>((ba (jc 9) jb) ρ).bind qT) (hV 9) (tL a d c f)) kn)
    (jf (jy 10 (zD (d2 jG (jz (λρ=>((ba (jz (λρ=>((ba (jc 0) jb) ρ).bind jM)) (ba (jz (λρ=>((ba (jc 0) jb) ρ).bind jM)) (ba (jz (λρ=>((ba (jc 0) jb) ρ).bind jM)) (ba (jz (λρ=>((ba (jc 1) jb) ρ).bind jM)) (ba (jz (λρ=>((ba (jc 0) (ba (jc 1) jb)) ρ).bind jM)) (ba (jz (λρ=>((ba (jc 0) (ba (jc 1) (ba (jc 2) jb))) ρ).bind jM)) (ba (jz (λρ=>((ba (jc 2) jb) ρ).bind jM)) (ba (jz (λρ=>((ba (jc 0) (ba (jc 2) jb)) ρ).bind jM)) (ba (jz (λρ=>((ba (jc 1) (ba (jc 2) jb)) ρ).bind jM)) (ba (jz (λρ=>((ba (jc 1) jb) ρ).bind jM)) (ba (jz (λρ=>((ba (jc 0) jb) ρ).bind jM)) (ba (jz (λρ=>((ba (jc 0) (ba (jc 1) jb)) ρ).bind jM)) jb)))))))))))) ρ).bind jM)) (dV 8))))
    (mJ (λρ=>((jz (λρ=>((jz (kl (λρ=>((dV 10) ρ).bind j2) 1 [3] (gV 0) (λ_=>.ok true) (d2 jG (dV 1) (dV 0)))) ρ).bind xy)) ρ).bind j2) (hV 11) (we a d c f)))))))))
def CD(a:Ad)(c:jA)(f d:jD)(b:Nat):jJ:=(jf (jy 4 (mU (λρ=>(jb ρ).bind jM)))
    (jf (jy 5 (zD (d2 jU (dA c (ba (dV 0) (ba (jc 1) jb))) (d2 oo (d2 qS (jc 10) (jc 9)) (d2 qS (jc 10) (jc 6))))))
    (jf (mJ (λρ=>((He ED (dV 0) (λρ=>((dV 1) ρ).bind pI) (λρ=>((d2 kA (dV 1) (jc 60)) ρ).bind pI)) ρ).bind j2) (hV 6) (si a c f d))
    (sT b 4 (jZ (zD (dV 4)))))))
def CH(a:Ad)(d:jA)(c:jD)(b:Nat):jJ:=(jf (jy 2 (zZ c (i7 (zV 0) (i7 (zD (jc 10)) jo))))
    (jf (j4 (zB (b1 tB (d2 jW (dV 2) (jc 0)))) (jZ (zF jN (i7 (zD (jF "num")) (i7 (zF d (i7 (zZ c (i7 (zV 0) (i7 (zD (jc 9)) jo))) (i7 (z2 kA (zD (jc 1)) (zZ c (i7 (zV 0) (i7 (zD (jc 3)) jo)))) jo))) jo)))) kn)
    (jf (j4 (zB (qL (b1 tB (d2 jW (dV 2) (jc 8))) (b1 tB (d2 nR (dV 1) (jz (λρ=>(jb ρ).bind jM)))))) (jZ (zF jN (i7 (zD (jF "at")) (i7 (z2 jG (zD (dV 1)) (zZ c (i7 (zV 0) (i7 (zD (dA lR (ba (dV 1) jb))) jo)))) jo)))) kn)
    (jf (j4 (zB (b1 tB (d2 lQ (dV 2) (jz (λρ=>((ba (jc 1) (ba (jc 2) (ba (jc 8) (ba (jc 9) jb)))) ρ).bind jM))))) (jZ (zD (dA jN (ba (jF "here") jb)))) kn)
    (jf (jy 3 (z2 kA (zD (jc 1)) (zZ c (i7 (zV 0) (i7 (zD (jc 3)) jo)))))
    (jf (j4 (zB (b1 tB (d2 jW (dV 3) (jc 3)))) (jy 3 (z2 kA (zD (jc 1)) (zZ c (i7 (zV 0) (i7 (zD (jc 9)) jo))))) kn)
    (jZ (zD (dA jN (ba (d2 jG (jz (λρ=>((ba (jF "back") (ba (jF "back") (ba (jF "on") (ba (jF "ago") (ba (jF "until") jb))))) ρ).bind jM)) (d2 oo (dV 2) (jc 3))) (ba (dV 3) jb)))))))))))
def CG(a:Ad)(f:jA)(c d:jD)(b:Nat):jJ:=(jf (jy 2 (zZ c (i7 (zV 0) (i7 (zD (dC (.int 6))) jo))))
    (jf (jy 3 (zZ d (i7 (zV 0) (i7 (zD (dV 1)) jo))))
    (jf (j4 (zB (b1 tB (d2 jW (dV 2) (dC (.int 3))))) (jZ (zF jN (i7 (zD (dC (.str "times"))) (i7 (zF f (i7 (zZ c (i7 (zV 0) (i7 (zD (dC (.int 4))) jo))) (i7 (z2 kA (zD (dC (.int 1))) (zZ c (i7 (zV 0) (i7 (zD (dC (.int 3))) jo)))) jo))) (i7 (zD (dV 3)) jo))))) kn)
    (jf (j4 (zB (b1 tB (d2 sy (dV 2) (dC (.int 3))))) (jZ (zD (dV 3))) kn)
    (jf (jy 4 (zZ d (i7 (zV 0) (i7 (zD (dV 1)) jo))))
    (jf (j4 (zB (b1 tB (d2 jW (dV 2) (dC (.int 0))))) (jZ (zD (dA jN (ba (dC (.str "abs")) (ba (dA jN (ba (dC (.str "-")) (ba (dV 3) (ba (dV 4) jb)))) jb))))) kn)
    (jZ (zD (dA jN (ba (d2 jG (jz (λρ=>((ba (dC (.str "+")) (ba (dC (.str "-")) jb)) ρ).bind jM)) (d2 oo (dV 2) (dC (.int 1)))) (ba (dV 3) (ba (dV 4) jb))))))))))))
def Cy(a:Ad)(f:jA)(c d:jD)(b:Nat):jJ:=(jf (jy 2 (z2 jG (zD (jz (λρ=>((ba (jF "<") (ba (jF "<") (ba (jF "=") jb))) ρ).bind jM))) (zZ c (i7 (zV 0) (i7 (zD (jc 3)) jo)))))
    (jf (jy 3 (zZ d (i7 (zV 0) (i7 (zD (dV 1)) jo))))
    (jf (j4 (pR tB (z2 jW (zZ c (i7 (zV 0) (i7 (zD (jc 2)) jo))) (zD (jc 0)))) (jZ (zF jN (i7 (zD (dV 2)) (i7 (zD (dV 3)) (i7 (zF jN (i7 (zD (jF "num")) (i7 (zF f (i7 (zZ c (i7 (zV 0) (i7 (zD (jc 6)) jo))) (i7 (z2 kA (zD (jc 1)) (zZ c (i7 (zV 0) (i7 (zD (jc 2)) jo)))) jo))) jo))) jo))))) kn)
    (jZ (zF jN (i7 (zD (dV 2)) (i7 (zD (dV 3)) (i7 (zZ d (i7 (zV 0) (i7 (zD (dV 1)) jo))) jo))))))))
def Cz(a:Ad)(d c:jD)(b:Nat):jJ:=(jf (jy 2 (zZ d (i7 (zV 0) (i7 (zD (jc 6)) jo))))
    (jf (jy 3 (zZ c (i7 (zV 0) (i7 (zD (dV 1)) jo))))
    (jf (j4 (zB (b1 tB (d2 lH (dV 2) (jc 3)))) (jZ (zD (dV 3))) kn)
    (jf (j4 (zB (b1 tB (d2 jW (dV 2) (jc 3)))) (jZ (zD (dA jN (ba (jF "not") (ba (dV 3) jb))))) kn)
    (jZ (zF jN (i7 (zD (d2 jG (jz (λρ=>((ba (jF "and") (ba (jF "or") jb)) ρ).bind jM)) (d2 oo (dV 2) (jc 4)))) (i7 (zD (dV 3)) (i7 (zZ c (i7 (zV 0) (i7 (zD (dV 1)) jo))) jo)))))))))
def uR(a:Ad)(c:jA)(d:jD):jJ:=(jf (jy 7 (mU (λρ=>((ba (dA c (ba (dV 0) (ba (d2 kA (dV 1) (dV 6)) jb))) (ba (d2 jU (d2 kE (dA c (ba (dV 0) (ba (jc 0) jb))) (jc 7)) (jc 2)) jb)) ρ).bind jM)))
    (o9 5 (zF jN (i7 (zD (d2 jG (dV 4) (dV 6))) (i7 (zZ d (i7 (zV 7) (i7 (zD (dV 3)) jo))) jo)))))
def CF(a:Ad)(d:jA)(c:jD)(b:Nat):jJ:=(jf (jy 4 (zD (jz (λρ=>((ba (jF "a") (ba (jF "bb") (ba (jF "ab") (ba (jF "ba") (ba (jF "c") (ba (jF "b") (ba (jF "aa") (ba (jF "d") (ba (jF "e") (ba (jF "f") (ba (jF "g") (ba (jF "h") jb)))))))))))) ρ).bind jM))))
    (jf (jy 5 (mU (λρ=>(jb ρ).bind jM)))
    (jf (mJ (λρ=>((ba (dV 2) jb) ρ).bind qT) (hV 6) (uR a d c))
    (sT b 5 (jZ (zD (dV 5)))))))
end WM
namespace P2
open PySem L2
noncomputable def wo(sc:Scope)(a:Env)(x:jd)(c d:jS):jk:=decide (sc.kind=.function)&&sc.names.all (λy=>decide (y.2≠.cell)&&(decide (y.2≠.local)||decide (sc.names.lookup y.1=some .local)))&&
 (relabel sc a).names.all (λy=>decide (y.2≠.cell)&&decide (y.2≠.free)||decide (y.1∈d))&&c.all (λy=>decide ((relabel sc a).names.lookup y=some .cell)||decide ((relabel sc a).names.lookup y=some .free))&&decide ((relabel sc a).names.lookup x=some .local)&&decide (x∉c)
theorem Dy:∀{cl:tp},x∈cl.map (·.1)->∃c,cl.lookup x=some c
 |p::cl,h=>by
  unfold List.lookup;cases q:x==p.1 with
  |true=>exact⟨_,rfl⟩
  |false=>
   rcases az.mp h with z|z;·rw[z,gN]at q;cases q
   ·exact Dy z
section
variable{X:Cx}{E:XK}{b j:jB}{h:lr}{a:Scope}{l m:Pos}{x:jd}{f:jS}{cl:tp}{q:lC}
def G4(i:cl.map (λp=>X.env.cells.lookup p.1)=cl.map λp=>some p.2)(k:wo a X.env x f (cl.map (·.1))=true):
    a.kind=.function/\(rG a)/\(sN a)/\(∀x c,cl.lookup x=some c->X.env.cells.lookup x=some c)/\
    (∀x,((relabel a X.env).names.lookup x=some .cell\/(relabel a X.env).names.lookup x=some .free)->∃c,cl.lookup x=some c)/\(∀x∈f,(relabel a X.env).names.lookup x=some .cell\/(relabel a X.env).names.lookup x=some .free)/\(relabel a X.env).names.lookup x=some .local/\x∉f:=by
 simp only[wo,aK,cJ,cG,aS]at k;obtain⟨⟨⟨⟨⟨v,r⟩,o⟩,u⟩,t⟩,s⟩:=k;refine⟨v,λy d=>(r y d).1,λy d z=>(r y d).2.resolve_left λn=>n z,λy c e=>List.map_inj_left.mp i (y,c)<|bO e,λy e=>?_,u,t,s⟩;rcases e with e|e;·exact Dy ((o _<|bO e).resolve_left λn=>n.1 rfl)
 ·exact Dy ((o _<|bO e).resolve_left λn=>n.2 rfl)
variable{r:mj}{A:mi}{v:jQ}
def Hr(w:DI X E (.Name x m) b r)(hf:∀o i s C,vO (X.comp a (x::f) cl o i s C) h A)(y:∀o i s C,DE (X.comp a (x::f) cl o i s C) (λ_ _ _=>False) j v)
 (c:autoParam (closureFor a X.env=pure cl) aZ0)(d:autoParam (nM X cl f q) aZ9)(k:autoParam (cl.map (λp=>X.env.cells.lookup p.1)=cl.map λp=>some p.2) aZ0)(n:autoParam f.Nodup aZ10)
 (F:autoParam (wo a X.env x f (cl.map (·.1))=true) aZ11)(z:autoParam (X.calm=true) aZ0)(u:autoParam (∀x,foldedSetIterable b X.env x=pure x) aZ2):uA X E (.ListComp j [⟨.Name x m,b,h,0⟩] a l) (kl r 1 q (gV 0) A v):=by obtain⟨O,N,M,L,J,I,t,G⟩:=G4 k F;exact OV (Nt:=[x]) z w (λ_ _ _ _=>BL 0 (bL.mpr ⟨G,n⟩) rfl (.inl t)<|.inr t) (by simp) hf y c O N M d rfl L J I u
def OS(u:DI X E (.Name x m) b r)(hf:∀o i s C,vO (X.comp a (x::f) cl o i s C) h A)(w:∀o i s C,DE (X.comp a (x::f) cl o i s C) (λ_ _ _=>False) j v)
 (c:autoParam (closureFor a X.env=pure cl) aZ0)(d:autoParam (nM X cl f q) aZ9)(k:autoParam (cl.map (λp=>X.env.cells.lookup p.1)=cl.map λp=>some p.2) aZ0)(n:autoParam f.Nodup aZ10)
 (z:autoParam (wo a X.env x f (cl.map (·.1))=true) aZ11)(y:autoParam (X.calm=true) aZ0)(t:autoParam (∀x,foldedSetIterable b X.env x=pure x) aZ2):DN X E (.ListComp j [⟨.Name x m,b,h,0⟩] a l) (kl r 1 q (gV 0) A v):=(Hr u hf w c d k n z y t).dn
variable{B:ym}{H:ny}{F:jE}
def acA(y:ZI X E (.Name x m) b B)(hf:∀s k t C,ts (X.comp a (x::f) cl s k t C) h H)(z:∀s k t C,ZE (X.comp a (x::f) cl s k t C) (λ_ _ _=>False) j F)
 (c:autoParam (closureFor a X.env=pure cl) aZ0)(d:autoParam (nM X cl f q) aZ9)(n:autoParam (cl.map (λp=>X.env.cells.lookup p.1)=cl.map λp=>some p.2) aZ0)(o:autoParam f.Nodup aZ10)
 (I:autoParam (wo a X.env x f (cl.map (·.1))=true) aZ11)(G:autoParam (X.calm=true) aZ0)(w:autoParam (∀x,foldedSetIterable b X.env x=pure x) aZ2):vY X E (.ListComp j [⟨.Name x m,b,h,0⟩] a l) (uy B q H F):=by obtain⟨Q,P,O,N,M,L,u,J⟩:=G4 n I;exact acy G y (λ_ _ _ _=>xi (i:=0) (bL.mpr ⟨J,o⟩) rfl (.inl u)<|.inr u) hf z c Q P O d N M L w
end
def qg(i:Int)(x:jd)(m:Int)(y:jd):jk:=if i=m then(if x=y then false else decide (x.cps.toList<y.cps.toList))else decide (i<m)
noncomputable def wV:D->D->R D
 |.tup [.int i,.str x],.tup [.int m,.str y]=>.ok (.bl<|qg i x m y)
 |_,_=>.bad
def Iq(d e:D):R D:=wV e d
def CI(a:jT)(w:jK)(A:kh)(s:jr)(c:CmpOp)(u v:je)(b:jk):Prop:=∀{E} {Q:ki},Q (.bool b) s->wpAny (model a w) A (richCompare c u v) Q E s
section
variable{c:jT}{w:jK}{A:kh}{E:ki}{s:jr}
def Ll{i m:Int}{P:PySem.Fin->jr->Prop}(C:(B=Builtin.«tuple.__lt__»/\r=qg i x m y/\CI c w A s .Lt (.int i t1) (.int m t3) (decide<|i<m)/\CI c w A s .Lt (.str x t2) (.str y t4) (decide<|x.cps.toList<y.cps.toList))\/B=Builtin.«tuple.__gt__»/\r=qg m y i x/\CI c w A s .Gt (.int i t1) (.int m t3) (decide<|m<i)/\CI c w A s .Gt (.str x t2) (.str y t4) (decide<|y.cps.toList<x.cps.toList))
 (l:s.heap.get? a=some oa)(o:oa.data=.seq #[.int i t1,.str x t2] na)(f:s.heap.get? b=some ob)(p:ob.cls=.type "tuple")
 (n:ob.data=.seq #[.int m t3,.str y t4] nb)(h:P (.done<|.ret<|.bool r) s):wpAny (model c w) A (B ⟨[.ref a,.ref b],[]⟩) P E s:=by
  rcases C with⟨rfl,e,t,q⟩|⟨rfl,e,t,q⟩<;>(
   show wpAny _ _ (isInstance (.ref b) (.type "tuple")>>=_) _ _ s;refine ae (dR ⟨ob,f,p⟩ isSubtype_tuple_tuple ?_);simp only[fV,bA,bT];refine ae (wpAny_tupleItemsOf l o ?_);refine ae (wpAny_tupleItemsOf f n ?_);refine ae ?_;refine fR _ (λrest r j=>r.1=none/\j=s/\((rest=[(Value.int i t1,Value.int m t3),(Value.str x t2,Value.str y t4)])\/(i=m/\rest=[(Value.str x t2,Value.str y t4)])\/(i=m/\x=y/\rest=[]))) _ ?_ ?_ _ _ ⟨rfl,rfl,.inl rfl⟩
   · rintro ⟨u,v⟩ rest r j ⟨k,rfl,d⟩
     rcases d with d|⟨e1,d⟩|⟨_,_,d⟩
     · cases d;refine ae (gL ?_);by_cases z:i=m
       · rw[show(i==m)=true by simpa using z];simp only[fV,bA,bT];exact af ⟨rfl,rfl,.inr<|.inl ⟨z,by first|rfl|trivial⟩⟩
       · rw[show(i==m)=false by simpa using z];simp only[gu,cQ];refine ae (eX<|ae ?_);unfold qg at e;first|rw[ax z]at e|rw[ax λw=>z w.symm]at e
         rw[e]at h;refine t ?_;exact ae (af<|af<|af h)
     · cases d;refine ae (gM ?_);by_cases z:x=y
       · rw[aR z];simp only[fV,bA,bT];exact af ⟨rfl,rfl,.inr<|.inr ⟨e1,z,by first|rfl|trivial⟩⟩
       · rw[aJ z];simp only[gu,cQ];refine ae (eX<|ae ?_);unfold qg at e;first|rw[au e1,ax z]at e|rw[au e1.symm,ax λw=>z w.symm]at e
         rw[e]at h;refine q ?_;exact ae (af<|af<|af h)
     · cases d
   · rintro ⟨F,D⟩ j ⟨k,rfl,d⟩
     simp only at k;subst k;rcases d with d|⟨_,d⟩|⟨e1,e2,_⟩;· cases d
     · cases d
     · refine af ?_;unfold qg at e;first|rw[au e1,au e2]at e|rw[au e1.symm,au e2.symm]at e
       rw[e]at h;exact h)
end
def Lj{X:Cx}{g:qI}{f:Int->jd->Int->jd->jk}(hg:∀{d e},g d e≠.bad->∃i x m y,d=.tup [.int i,.str x]/\e=.tup [.int m,.str y]/\g d e=.ok (.bl<|f i x m y))
 (ht:∀{s:jr} {a b} {o ob} {T P} {i m:Int} {x y} {N M L J} {Q:ki},s.heap.get? a=some o->o.cls=.type "tuple"->o.data=.seq #[.int i N,.str x M] T->s.heap.get? b=some ob->ob.cls=.type "tuple"->ob.data=.seq #[.int m L,.str y J] P->
 Q (.bool (f i x m y)) s->wpAny (model X.prog X.w) X.A (compareOp op (.ref a) (.ref b)) Q X.xe s):lh X E (compareOp op) g:=by
  refine⟨λu v H Q=>∃a b i x m y,u=.ref a/\v=.ref b/\mx X.K H a [.int i,.str x]/\mx X.K H b [.int m,.str y]/\Q (.bl<|f i x m y) H,?_,λ{_ H u v dx dy Q} fr w r h=>?_⟩
  ·intro O s σ H u v u' v' Q I w r h;obtain⟨a,b,i,x,m,y,rfl,rfl,ha,hb,q⟩:=h;cases w;cases r;obtain⟨A,Z,⟨o,G,F,T,a3⟩,_⟩:=I.tuple ha;obtain⟨n,Y,⟨ob,b1,C,P,b3⟩,_⟩:=I.tuple hb;obtain⟨l,k,rfl,⟨N,rfl⟩,⟨M,rfl⟩⟩:∃l k,A=[l,k]/\(∃t,l=Value.int i t)/\∃t,k=Value.str x t:=by cases Z with|cons p q=>cases q with|cons j c=>cases c;exact⟨_,_,rfl,p,j⟩
   obtain⟨u3,u4,rfl,⟨L,rfl⟩,⟨J,rfl⟩⟩:∃l k,n=[l,k]/\(∃t,l=Value.int m t)/\∃t,k=Value.str y t:=by cases Y with|cons p q=>cases q with|cons j c=>cases c;exact⟨_,_,rfl,p,j⟩
   exact ht G F a3 b1 C b3 (kS I q rfl)
  ·by_cases z:g dx dy=.bad;·rw[z]at h;exact h.elim
   ·obtain⟨i,x,m,y,rfl,rfl,e⟩:=hg z;rw[e]at h;obtain⟨a,V,rfl,G,F⟩:=w.pO;obtain⟨b,U,rfl,b1,C⟩:=r.pO;have e1:V=[.int i,.str x]:=by
     cases F with|cons p q=>cases q with|cons j c=>cases c;cases p;cases j;rfl
    have e2:U=[.int m,.str y]:=by cases C with|cons p q=>cases q with|cons j c=>cases c;cases p;cases j;rfl
    subst e1 e2;exact⟨a,b,i,x,m,y,rfl,rfl,G,b1,h H (.refl H) _<|.bl _⟩
def JK{d}(h:wV d e≠.bad):∃i x m y,d=.tup [.int i,.str x]/\e=.tup [.int m,.str y]/\wV d e=.ok (.bl<|qg i x m y):=by
 cases d<;>try exact absurd rfl h
 rename_i l;rcases l with _|⟨a,l⟩<;>try exact absurd rfl h
 cases a<;>try exact absurd rfl h
 rcases l with _|⟨b,l⟩<;>try exact absurd rfl h
 cases b<;>try exact absurd rfl h
 cases l<;>try exact absurd rfl h
 cases e<;>try exact absurd rfl h
 rename_i l;rcases l with _|⟨a,l⟩<;>try exact absurd rfl h
 cases a<;>try exact absurd rfl h
 rcases l with _|⟨b,l⟩<;>try exact absurd rfl h
 cases b<;>try exact absurd rfl h
 cases l<;>try exact absurd rfl h
 exact⟨_,_,_,_,rfl,rfl,rfl⟩
def VU{X:Cx}(m:X.A.units+64<cLine):lh X E (compareOp .Lt) wV:=Lj (f:=qg) JK λ{s a b d ob _ _ _ _ _ _ _ _ _ _ _} c j l b1 i k q=>by show wpAny _ _ (richCompare .Lt (.ref a)<|.ref b) _ _ s;exact gi (op:=.Lt) (T:="tuple") ⟨d,c,j⟩ ⟨ob,b1,i⟩ iC (bB iC ⟨d,c,j⟩ PySem.F.entry_tuple_lt (Ll (.inl ⟨rfl,rfl,λh=>PyProof.Rows.lt_int h,λh=>PyProof.Rows.lt_str h⟩) c l b1 i k ⟨_,rfl,(λe=>nomatch e),q⟩)<|PySem.F.args_tuple_lt_2 _ _) (by lia)
def VL{X:Cx}(t:X.A.units+64<cLine):lh X E (compareOp .Gt) Iq:=Lj (f:=λi x m y=>qg m y i x) (λh=>let⟨i,x,m,y,o,n,l⟩:=JK h;⟨m,y,i,x,n,o,l⟩) λ{s a b d ob _ _ _ _ _ _ _ _ _ _ _} c k r b1 j p q=>by show wpAny _ _ (richCompare .Gt (.ref a)<|.ref b) _ _ s;exact gi (op:=.Gt) (T:="tuple") ⟨d,c,k⟩ ⟨ob,b1,j⟩ iD (bB iD ⟨d,c,k⟩ PySem.F.entry_tuple_gt (Ll (.inr ⟨rfl,rfl,λh=>ix h,λh=>PySem.P.gt_str h⟩) c r b1 j p ⟨_,rfl,(λe=>nomatch e),q⟩)<|PySem.F.args_tuple_gt_2 _ _) (by lia)
end P2
namespace pW
open PySem L2 P2 WP WM
def at_(i:Nat):Stmt:=PySem.Challenge.pw_weather_k73_whole_one_reading_more.main.body.getD i (.Pass ⟨0,0,0,0⟩)
def v9(a:Ad):jV:=(kd (kT 2 (d2 jU (dV 0) (dV 1)))
    (kd (kT 0 (dV 1))
    (kT 1 (dV 2))))
def yN(a:Ad):jV:=(kd (pP (b1 tB (d2 qi (dV 1) (jc 0))) (v9 a) uU)
    (kY (dV 0)))
def Cg(a:Ad):jV:=(kY<|BG (dA (vc a.sE)<|ba (dV 0)<|ba (dC<|.ty "int") jb)<|BH<|dA (vc a.sE)<|ba (dV 0)<|ba (dC<|.ty "bool") jb)
def yO(a:Ad)(d c:jA):jV:=(kd (pM (rr (uS (b1 tT (dA d (ba (dV 0) jb)))) (rr (uS (b1 tT (dA d (ba (dV 1) jb)))) (b1 tB (d2 jW (dV 1) (jc 0))))) (λ_=>.ex a.NoFraction [] []) pN)
    (kd (kT 2 (dA c (ba (dA pB (ba (dV 0) jb)) (ba (dA pB (ba (dV 1) jb)) jb))))
    (kd (pM (b1 tB (d2 lH (dV 1) (jc 0))) (kT 2 (d1 wW (dV 2))) pN)
    (kY (dA jN (ba (d2 kE (dV 0) (dV 2)) (ba (d2 kE (dV 1) (dV 2)) jb)))))))
def yR(a:Ad)(c:jA):jV:=(kY<|dA c<|ba (d2 kA (d2 kJ (jg 0 0)<|jg 1 1)<|d2 kJ (jg 1 0)<|jg 0 1)<|ba (d2 kJ (jg 0 1)<|jg 1 1) jb)
def yQ(a:Ad)(c:jA):jV:=(kY<|dA c<|ba (d2 oo (d2 kJ (jg 0 0)<|jg 1 1)<|d2 kJ (jg 1 0)<|jg 0 1)<|ba (d2 kJ (jg 0 1)<|jg 1 1) jb)
def yS(a:Ad)(c:jA):jV:=(kY<|dA c<|ba (d2 kJ (jg 0 0)<|jg 1 0)<|ba (d2 kJ (jg 0 1)<|jg 1 1) jb)
def yT(a:Ad):jV:=(kY<|d2 lH (d2 kJ (jg 0 0)<|jg 1 1)<|d2 kJ (jg 1 0)<|jg 0 1)
def Cd(a:Ad):jV:=(kY<|dA tE<|ba (jz<|kl (λρ=>((dV 0) ρ).bind j2) 1 [] (gV 0) (λ_=>.ok true)<|d2 jW (jg 0 0)<|jF "at") jb)
def Ce(a:Ad):jV:=(kY<|Hd (jz<|kl (λρ=>((dV 0) ρ).bind j2) 1 [] (gV 0) (b1 tB<|d2 lQ (jg 0 0)<|dA jN<|ba (jF "back")<|ba (jF "on") jb)<|jg 0 1)<|jc 0)
def Cq(a:Ad)(f c d:jA):jV:=(kd (kT 1 (jz (kl (λρ=>((dV 0) ρ).bind j2) 1 [] (gV 0) (λ_=>.ok true) (dA f (ba (jg 0 1) jb)))))
    (kd (pM (b1 tT (dA tE (ba (jz (kl (λρ=>((dV 1) ρ).bind j2) 1 [] (gV 0) (λ_=>.ok true) (dA c (ba (dV 0) jb)))) jb))) (kY (dC .non)) pN)
    (kY (dA zX (ba (jz (kl (λρ=>((dV 1) ρ).bind j2) 1 [] (gV 0) (λ_=>.ok true) (dA d (ba (dV 0) jb)))) jb)))))
def wa(a:Ad):jJ:=(uw (zV 1) (qx<|i7 (zD<|jg 2 0)<|i7 (zD<|jg 2 1) jo)<|zD<|jg 2 2)
def CB(a:Ad)(b:Nat):jJ:=(jf (jy 1 vJ)
    (jf (mJ (λρ=>((dV 0) ρ).bind j2) (hV 2) (wa a))
    (jZ (zV 1))))
def Cu(a:Ad):jV:=(kd (kT 3 (dA zj (ba (dV 0) (ba (dV 1) jb))))
    (kd (kT 4 (dA zg (ba (dV 0) (ba (dV 1) jb))))
    (kY (dA lR (ba (jz (kl (λρ=>((dV 2) ρ).bind j2) 1 [3,4] (gV 0) (b1 tB (su lH lH (dV 1) (dV 0) (dV 2))) (dV 0))) jb)))))
def Gu(a:Ad)(d l m f:jA)(n i h k j c:jD):jJ:=(jy 5<|zD<|d2 kA (dV 5)<|jc 1)
def wc(a:Ad)(f l m c:jA)(n i h k j d:jD):jJ:=(j4 (zB<|rr (b1 tB<|d2 qi (dV 14)<|dV 4)<|b1 tB<|d2 wF (dA c<|ba (dV 15)<|ba (dV 5)<|ba (dV 12) jb)<|dV 13) (j4 (pR tB<|z2 nR (vH (zV 9)<|qx<|i7 (zD<|dV 14)<|i7 (zD<|dV 15) jo)<|vH (zV 10)<|qx<|i7 (zD<|dV 14)<|i7 (zD<|dV 15) jo) (jZ<|zD<|dC<|.bl false) kn) kn)
def Cn(a:Ad)(c l m k:jA)(n j i h f d:jD)(b:Nat):jJ:=(jf (jy 1 (zD (jz (kl (λρ=>((ba (dC (.int 3)) jb) ρ).bind qT) 1 [0] (gV 0) (λ_=>.ok true) (dA l (ba (dA c (ba (dV 1) (ba (dC (.int 0)) jb))) (ba (dV 0) jb)))))))
    (jf (jy 2 (zZ n (i7 (zD (dV 0)) (i7 (zD (dC (.int 7))) (i7 (zD (dC (.int 120))) (i7 (zD (dV 1)) jo))))))
    (jf (jy 3 (zZ j (i7 (zD (dV 0)) (i7 (zD (dC (.int 4))) (i7 (zD (d2 kA (dC (.int 1)) (d2 jU (dA c (ba (dV 0) (ba (dC (.int 3)) jb))) (dC (.int 3))))) (i7 (zD (jz (λρ=>(jb ρ).bind jM))) jo))))))
    (jf (jy 4 (zD (d2 jG (dV 1) (d2 jU (d2 kE (dA c (ba (dV 0) (ba (dC (.int 3)) jb))) (dC (.int 3))) (dC (.int 3))))))
    (jf (jy 5 (zD (d2 jU (dA c (ba (dV 0) (ba (dC (.int 1)) jb))) (d2 oo (d2 qS (dC (.int 10)) (dC (.int 9))) (d2 qS (dC (.int 10)) (dC (.int 6)))))))
    (jf (j4 (zB (b1 tB (d2 nR (dV 2) (jz (λρ=>(jb ρ).bind jM))))) (jy 5 (zD (d2 jG (d2 jG (dV 2) (d2 jU (d2 kE (dA c (ba (dV 0) (ba (dC (.int 3)) jb))) (dC (.int 9))) (dA lR (ba (dV 2) jb)))) (dC (.int 1))))) kn)
    (jf (jy 6 (zD (jz (kl (λρ=>((dV 2) ρ).bind j2) 1 [4] (gV 0) (b1 tB (d2 jW (d2 jG (dV 0) (dC (.int 0))) (dV 1))) (d2 jG (dV 0) (dC (.int 1)))))))
    (jf (rP (zB (b1 tB (d2 lQ (dV 5) (dV 6)))) (Gu a c l m k n j i h f d) 1000)
    (jf (jy 7 (zF jN (i7 (zD (dV 4)) (i7 (zD (dV 5)) (i7 (zZ i (i7 (mU (λρ=>((ba (dA c (ba (dV 0) (ba (dC (.int 2)) jb))) (ba (dC (.int 0)) jb)) ρ).bind jM)) jo)) jo)))))
    (jf (jy 8 (zD (d2 sj (jz (kl (λρ=>((dV 2) ρ).bind j2) 1 [5,4] (gV 0) (b1 tB (d2 wV (dA jN (ba (d2 jG (dV 0) (dC (.int 1))) (ba (d2 jG (dV 0) (dC (.int 0))) jb))) (dA jN (ba (dV 1) (ba (dV 2) jb))))) (dV 0))) (jz (λρ=>((ba (dV 7) jb) ρ).bind jM)))))
    (jf (jy 8 (zD (d2 sj (dV 8) (jz (kl (λρ=>((dV 2) ρ).bind j2) 1 [5,4] (gV 0) (b1 tB (d2 Iq (dA jN (ba (d2 jG (dV 0) (dC (.int 1))) (ba (d2 jG (dV 0) (dC (.int 0))) jb))) (dA jN (ba (dV 1) (ba (dV 2) jb))))) (dV 0))))))
    (jf (jy 9 (zZ f (i7 (zZ h (i7 (zD (dV 2)) (i7 (zD (dV 3)) jo))) jo)))
    (jf (jy 10 (zZ f (i7 (zZ h (i7 (zD (dV 8)) (i7 (zD (dV 3)) jo))) jo)))
    (jf (jy 11 (zZ d (i7 (zD (dV 8)) (i7 (zD (dV 3)) jo))))
    (jf (jy 12 (pQ (uy (vI (zZ d (i7 (zD (dV 2)) (i7 (zD (dV 3)) jo)))) [11,4] (zB (qL (b1 tB (d2 jW (d2 jG (dV 0) (dC (.int 0))) (dV 2))) (b1 tB (d2 lQ (dV 0) (dV 1))))) (zD (d2 jG (dV 0) (dC (.int 1)))))))
    (jf (jy 13 (zD (dA m (ba (dV 3) jb))))
    (jf (mJ (λρ=>((dV 2) ρ).bind j2) (hT 3 (hC (hV 14) (hC (hV 15) (hC (hV 16) P2.hN)))) (wc a c l m k n j i h f d))
    (jf (jy 17 (pQ (uy (vI (zZ d (i7 (zD (dV 2)) (i7 (zD (dV 3)) jo)))) [4] (zB (b1 tB (d2 qi (d2 jG (dV 0) (dC (.int 0))) (dV 1)))) (zD (dV 0)))))
    (jZ (zD (d2 pY (dV 17) (jz (kl (λρ=>((dV 11) ρ).bind j2) 1 [4] (gV 0) (b1 tB (d2 qi (d2 jG (dV 0) (dC (.int 0))) (dV 1))) (dV 0))))))))))))))))))))))))
end pW
namespace P2
open PySem
mutual
def mr:D->jk
 |.non=>true
 |.int _=>true
 |.str z=>PyData.strOk z
 |.tup ds=>l5 ds
 |.lst ds=>l5 ds
 |_=>false
def l5:aa D->jk
 |[]=>true
 |d::r=>mr d&&l5 r
end
mutual
def nC:D->Nat
 |.tup ds=>n8 ds+1
 |.lst ds=>n8 ds+1
 |_=>0
def n8:aa D->Nat
 |[]=>0
 |d::r=>max (nC d) (n8 r)
end
mutual
theorem xk:∀{d},mr d=true->∃p,nj d=some p/\PyData.canLay0 p=true/\p.depth<=nC d
 |.non,_=>⟨.none,rfl,by simp[PyData.canLay0],by simp[PyData.depth]⟩
 |.int i,_=>⟨.int i,rfl,by simp[PyData.canLay0],by simp[PyData.depth]⟩
 |.str z,h=>⟨.str z,rfl,by have j:PyData.strOk z=true:=h;simpa [PyData.canLay0]using j,by simp[PyData.depth]⟩
 |.tup ds,h=>by obtain⟨a,f,c,k⟩:=xl (show l5 ds=true from h);exact⟨.tuple a,by show(lI ds).map PyData.tuple=_;rw[f];rfl,by simpa [PyData.canLay0]using c,by simp only[PyData.depth,nC];walk_at "l"⟩
 |.lst ds,h=>by obtain⟨a,f,c,k⟩:=xl (show l5 ds=true from h);exact⟨.list a,by show(lI ds).map PyData.list=_;rw[f];rfl,by simpa [PyData.canLay0]using c,by simp only[PyData.depth,nC];walk_at "l"⟩
 |.bl _,h=>by cases h
 |.ty _,h=>by cases h
 |.ref _,h=>by cases h
 |.exc _ _ _,h=>by cases h
theorem xl:∀{f},l5 f=true->∃a,lI f=some a/\PyData.canLayAll0 a=true/\PyData.depthAll a<=n8 f
 |[],_=>⟨[],rfl,by simp[PyData.canLayAll0],by simp[PyData.depthAll]⟩
 |d::r,h=>by
  have c:(mr d&&l5 r)=true:=h;rw[aK]at c;obtain⟨p,l,k,n⟩:=xk c.1;obtain⟨a,j,i,m⟩:=xl c.2;refine⟨p::a,?_,?_,?_⟩
  ·show(nj d).bind (λp=>(lI r).map (p:: ·))=_;rw[l,j];rfl
  ·simp[PyData.canLayAll0,k,i]
  ·simp only[PyData.depthAll,n8];grind
end
def vo(h:nj (.tup ds)=some p):∃a,p=.tuple a/\lI ds=some a:=by obtain⟨a,d,c⟩:=aB.mp (show(lI ds).map PyData.tuple=some p from h);exact⟨a,c.symm,d⟩
def vn(h:nj (.lst ds)=some p):∃a,p=.list a/\lI ds=some a:=by obtain⟨a,d,c⟩:=aB.mp (show(lI ds).map PyData.list=some p from h);exact⟨a,c.symm,d⟩
mutual
theorem BS:∀{a b} {p q},mr a=true->mr b=true->nj a=some p->nj b=some q->(PyData.eqv p q=true↔a=b)
 |a,b,p,q,j,d,f,eq=>by
  cases a with
  |non=>
   cases f;cases b with
   |non=>cases eq;simp[PyData.eqv]
   |int i=>cases eq;simp[PyData.eqv]
   |str i=>cases eq;simp[PyData.eqv]
   |tup r=>obtain⟨c,rfl,_⟩:=vo eq;simp[PyData.eqv]
   |lst r=>obtain⟨c,rfl,_⟩:=vn eq;simp[PyData.eqv]
   |_=>cases d
  |int i=>
   cases f;cases b with
   |non=>cases eq;simp[PyData.eqv]
   |int i=>cases eq;simp[PyData.eqv]
   |str i=>cases eq;simp[PyData.eqv]
   |tup r=>obtain⟨c,rfl,_⟩:=vo eq;simp[PyData.eqv]
   |lst r=>obtain⟨c,rfl,_⟩:=vn eq;simp[PyData.eqv]
   |_=>cases d
  |str i=>
   cases f;cases b with
   |non=>cases eq;simp[PyData.eqv]
   |int i=>cases eq;simp[PyData.eqv]
   |str i=>cases eq;simp[PyData.eqv]
   |tup r=>obtain⟨c,rfl,_⟩:=vo eq;simp[PyData.eqv]
   |lst r=>obtain⟨c,rfl,_⟩:=vn eq;simp[PyData.eqv]
   |_=>cases d
  |tup m=>
   obtain⟨c,rfl,l⟩:=vo f;cases b with
   |non=>cases eq;simp[PyData.eqv]
   |int i=>cases eq;simp[PyData.eqv]
   |str i=>cases eq;simp[PyData.eqv]
   |tup r=>obtain⟨h,rfl,k⟩:=vo eq;have:=BU (show l5 m=true from j) (show l5 r=true from d) l k;simp only[PyData.eqv,this,D.tup.injEq]
   |lst r=>obtain⟨h,rfl,_⟩:=vn eq;simp[PyData.eqv]
   |_=>cases d
  |lst m=>
   obtain⟨c,rfl,l⟩:=vn f;cases b with
   |non=>cases eq;simp[PyData.eqv]
   |int i=>cases eq;simp[PyData.eqv]
   |str i=>cases eq;simp[PyData.eqv]
   |tup r=>obtain⟨h,rfl,_⟩:=vo eq;simp[PyData.eqv]
   |lst r=>obtain⟨h,rfl,k⟩:=vn eq;have:=BU (show l5 m=true from j) (show l5 r=true from d) l k;simp only[PyData.eqv,this,D.lst.injEq]
   |_=>cases d
  |_=>cases j
 termination_by a=>sizeOf a
theorem BU:∀{a b} {p q},l5 a=true->l5 b=true->lI a=some p->lI b=some q->(PyData.eqvAll p q=true↔a=b)
 |[],[],p,q,_,_,i,eq=>by cases i;cases eq;simp[PyData.eqvAll]
 |[],d::r,p,q,_,_,i,eq=>by cases i;obtain⟨x,_,h⟩:=aP.mp (show(nj d).bind (λp=>(lI r).map (p:: ·))=some q from eq);obtain⟨j,_,rfl⟩:=aB.mp h;simp[PyData.eqvAll]
 |d::r,[],p,q,_,_,i,eq=>by cases eq;obtain⟨x,_,h⟩:=aP.mp (show(nj d).bind (λp=>(lI r).map (p:: ·))=some p from i);obtain⟨j,_,rfl⟩:=aB.mp h;simp[PyData.eqvAll]
 |d::r,e::s,p,q,v,u,i,eq=>by have f:(mr d&&l5 r)=true:=v;have c:(mr e&&l5 s)=true:=u;rw[aK]at f c;obtain⟨x,n,h⟩:=aP.mp (show(nj d).bind (λp=>(lI r).map (p:: ·))=some p from i);obtain⟨j,m,rfl⟩:=aB.mp h;obtain⟨y,l,w⟩:=aP.mp (show(nj e).bind (λp=>(lI s).map (p:: ·))=some q from eq);obtain⟨z,k,rfl⟩:=aB.mp w;have t:=BS f.1 c.1 n l;have o:=BU f.2 c.2 m k;simp only[PyData.eqvAll,aK,t,o,List.cons.injEq]
 termination_by a=>sizeOf a
end
def wy(h:mr a=true)(f:mr b=true)(n:nC a<=60)(m:nC b<=60):∃r,rB a b=some r/\(r=true↔a=b):=by obtain⟨p,d,j,l⟩:=xk h;obtain⟨q,c,i,k⟩:=xk f;refine⟨PyData.eqv p q,?_,BS h f d c⟩;unfold rB;rw[d,c];show(if(SeqAt.shaped p&&SeqAt.shaped q)=true then some (PyData.eqv p q)else none)=_;rw[au];simp only[SeqAt.shaped,aK,aS];exact⟨⟨j,by lia⟩,i,by lia⟩
def ne_self(c:mr a=true)(d:nC a<=60):nR a a=.ok (.bl false):=by obtain⟨r,e,h⟩:=wy c c d d;unfold nR;rw[e,h.mpr rfl];rfl
def eq_self(c:mr a=true)(d:nC a<=60):pY a a=.ok (.bl true):=by obtain⟨r,e,h⟩:=wy c c d d;unfold pY;rw[e,h.mpr rfl]
def PD(d:mr a=true)(c:mr b=true)(j:nC a<=60)(f:nC b<=60)(h:a≠b):pY a b=.ok (.bl false):=by
 obtain⟨r,e,i⟩:=wy d c j f;unfold pY;rw[e];cases r with
 |false=>rfl
 |true=>exact absurd (i.mp rfl) h
def D1{c:Type}{f:c->D}{l:aa c}(h:∀x∈l,mr (f x)=true):l5 (l.map f)=true:=by
 induction l with
 |nil=>rfl
 |cons a l d=>show(mr (f a)&&l5 (l.map f))=true;rw[h a<|.head _,d λx i=>h x<|.tail _ i];rfl
def OX{c:Type}{f:c->D}{l:aa c}{k:Nat}(h:∀x∈l,nC (f x)<=k):n8 (l.map f)<=k:=by
 induction l with
 |nil=>exact bQ _
 |cons a l d=>
  show max (nC<|f a) (n8<|l.map f)<=k;have:=h a (.head _);have:=d λx i=>h x (.tail _ i)
  lia
end P2
namespace FM
def g(a b:Int):Int:=(Int.gcd a b:Int)
def Io{a:Int}(c:0<=a):g a 0=a:=by unfold g;rw[Int.gcd_zero_right];lia
def Im{a b:Int}(d:0<=a)(c:0<b):g b (a%b)=g a b:=by
 unfold g
 congr 1
 obtain⟨m,rfl⟩:=bu d;obtain⟨n,rfl⟩:=bu (ik c);show Nat.gcd n ((m:Int)%(n:Int)).natAbs=Nat.gcd m n;rw[show((m:Int)%(n:Int)).natAbs=m%n from by lia];rw[Nat.gcd_comm m n,Nat.gcd_rec n m,Nat.gcd_comm]
def Ih(a b:Int):g (if a<0 then -a else a) (if b<0 then -b else b)=g a b:=by
 unfold g
 congr 1
 unfold Int.gcd
 congr 1
 ·split<;>simp
 ·split<;>simp
def Il{a b:Int}(c:b≠0):0<g a b:=by unfold g;have h:=Int.gcd_pos_of_ne_zero_right a c;simp_all
def Ii(a b:Int):g a b∣a:=Int.gcd_dvd_left ..
def Ij(a b:Int):g a b∣b:=Int.gcd_dvd_right ..
def dv(t b:Int):Int:=if b<0 then -(g t b)else g t b
def top(t b:Int):Int:=t.fdiv (dv t b)
def bot(t b:Int):Int:=b.fdiv (dv t b)
def tP{t b:Int}(c:b≠0):dv t b≠0:=by have:=Il (a:=t) c;unfold dv;split<;>lia
def HN{a d q:Int}(c:d≠0)(h:a=d*q):a.fdiv d=q:=by subst h;rw[i3];exact Int.mul_fdiv_cancel q c
theorem split{t b:Int}(f:b≠0):t=dv t b*top t b/\b=dv t b*bot t b:=by
 have d:=tP (t:=t) f;have i:dv t b∣t:=by
  unfold dv;split;·exact Int.neg_dvd.mpr (Ii t b)
  ·exact Ii t b
 have h:dv t b∣b:=by
  unfold dv;split;·exact Int.neg_dvd.mpr (Ij t b)
  ·exact Ij t b
 obtain⟨p,c⟩:=i;obtain⟨q,a⟩:=h;constructor
 ·show t=dv t b*t.fdiv (dv t b);rw[HN d c];exact c
 ·show b=dv t b*b.fdiv (dv t b);rw[HN d a];exact a
structure qG(p q:Int):Prop where
 pos:0<q
 one:Int.gcd p q=1
def DC{t b:Int}(c:b≠0):qG (top t b) (bot t b):=by
 obtain⟨l,i⟩:=split (t:=t) c;have m:=tP (t:=t) c;have j:=Il (a:=t) c;have f:(dv t b).natAbs=Int.gcd t b:=by unfold dv g;split<;>omega
 refine⟨?_,?_⟩
 ·rcases Int.lt_trichotomy b 0 with h|h|h
  ·have e:dv t b= -(g t b):=by unfold dv;rw[au h]
   rw[e]at i;refine Int.lt_of_not_ge λd=>?_;have:0<= -(g t b)*bot t b:=by have:=Int.mul_nonneg_of_nonpos_of_nonpos (show -(g t b)<=0 by omega) d;exact this
   omega
  ·exact absurd h c
  ·have e:dv t b=g t b:=by unfold dv;rw[ax<|by omega]
   rw[e]at i;refine Int.lt_of_not_ge λd=>?_;have:g t b*bot t b<=0:=Int.mul_nonpos_of_nonneg_of_nonpos (ik j) d;omega
 ·have e:Int.gcd (dv t b*top t b) (dv t b*bot t b)=(dv t b).natAbs*Int.gcd (top t b) (bot t b):=Int.gcd_mul_left ..;rw[<-l,<-i,f]at e;have k:0<Int.gcd t b:=by unfold g at j;omega
  exact(Nat.eq_of_mul_eq_mul_left k<|by rw[i4];exact e).symm
def Of{t b:Int}(a:b≠0):top t b*b=t*bot t b:=by
 obtain⟨d,c⟩:=split (t:=t) a;have h:top t b*b=top t b*(dv t b*bot t b):=by rw[<-c]
 have f:t*bot t b=(dv t b*top t b)*bot t b:=by rw[<-d]
 rw[h,f];rw[<-gJ,i3<|top t b]
def Ha{a b c:Int}(h:Int.gcd a b=1)(d:a∣b*c):a∣c:=by
 have f:Nat.Coprime a.natAbs b.natAbs:=h;have i:a.natAbs∣b.natAbs*c.natAbs:=by rw[<-gw];exact iE.mpr d
 exact iE.mp (f.dvd_of_dvd_mul_left i)
def TV{p q d c:Int}(a:qG p q)(b:qG d c)(h:p*c=d*q):p=d/\q=c:=by
 obtain⟨i,k⟩:=a;obtain⟨f,j⟩:=b;have d1:q∣c:=by
  have:q∣p*c:=by rw[h];exact Int.dvd_mul_left ..
  exact Ha (by rw[Int.gcd_comm];exact k) this
 have d2:c∣q:=by
  have:c∣d*q:=by rw[<-h];exact Int.dvd_mul_left ..
  exact Ha (by rw[Int.gcd_comm];exact j) this
 have e:q=c:=Int.dvd_antisymm (ik i) (ik f) d1 d2;subst e;exact⟨gx (by lia) h,rfl⟩
def scaled{p q k:Int}(L:qG p q)(a:k≠0):top (p*k) (q*k)=p/\bot (p*k) (q*k)=q:=by
 have f:q≠0:=by have:=L.pos;lia
 have d:q*k≠0:=dj f a;refine TV (DC d) L ?_;have c:=Of (t:=p*k) d
 refine gx a ?_;rw[gJ,c,gJ,gJ,i3 k]
def Pe(t b:Int):(dv t b).natAbs=Int.gcd t b:=by unfold dv g;split<;>simp
def Pf{t b:Int}(a:b≠0):(dv t b).natAbs<=b.natAbs:=by rw[Pe];exact Nat.le_of_dvd (by simp_all) (Nat.gcd_dvd_right ..)
end FM
namespace T2
open PySem PySem.NumText TM
def zu(t:Int):aa Nat:=if t<0 then 45::num t.natAbs else num t.natAbs
def o6(c:Nat):aa Nat->aa (aa Nat)
 |[]=>[[]]
 |x::r=>if x=c then[]::o6 c r else match o6 c r with
  |p::a=>(x::p)::a
  |[]=>[[x]]
def aaz:o6 c (c::r)=[]::o6 c r:=by show(if c=c then[]::o6 c r else _)=_;rw[au rfl]
def LW(h:x≠c)(e:o6 c r=p::ps):o6 c (x::r)=(x::p)::ps:=by show(if x=c then[]::o6 c r else match o6 c r with|p::ps=>(x::p)::ps|[]=>[[x]])=_;rw[ax h,e]
theorem LV:∀{l},c∉l->o6 c l=[l]
 |[],_=>rfl
 |x::r,h=>LW (λz=>h<|by rw[z];exact bY ..) (LV λz=>h<|bf _ z)
theorem xB:∀{l},c∉l->o6 c (l++c::r)=l::o6 c r
 |[],_=>aaz
 |x::l,h=>LW (λz=>h<|by rw[z];exact bY ..) (xB λz=>h<|bf _ z)
def Vh(h:c<48\/57<c):c∉num m:=λz=>by have:=Vm m c z;lia
structure Ok(t b:Int):Prop where
 low:FM.qG t b
 ht:t.natAbs<10^60
 hb:b.natAbs<10^60
def Mg(t:Int){b:Int}(c:b≠0):(FM.top t b).natAbs<=t.natAbs/\(FM.bot t b).natAbs<=b.natAbs:=by
 obtain⟨f,d⟩:=FM.split (t:=t) c;have j:=FM.tP (t:=t) c;have a:1<=(FM.dv t b).natAbs:=by omega
 have i:t.natAbs=(FM.dv t b).natAbs*(FM.top t b).natAbs:=by rw[<-gw,<-f]
 have h:b.natAbs=(FM.dv t b).natAbs*(FM.bot t b).natAbs:=by rw[<-gw,<-d]
 rw[i,h];exact⟨il _ a,il _ a⟩
end T2
namespace TR
open PySem PySem.NumText TM T2
noncomputable def Ji:aa (aa Nat):=[[109,97,114,107],[102,105,108,108],[104,101,114,101],[98,97,99,107],[111,110],[97,116],[97,103,111],[117,110,116,105,108],[97,98,115],[97,110,100],[111,114],[110,111,116]]
def JL(c:Nat):jk:=decide (97<=c)&&decide (c<=122)
noncomputable def Ae(m:lC):jk:=decide (m≠[])&&decide (m.length<=8)&&m.all JL&&!decide (m∈Ji)
def y6(t:Nat):aa Nat:=two (t%1440/60)++58::two (t%1440%60)
def LN(m:lC)(t u:Nat)(n:Int):aa Nat:=m++32::(num (t/1440)++32::(y6 t++32::(num u++32::zu n)))
structure Ok(m:lC)(t u:Nat)(n:Int):Prop where
 m:Ae m=true
 t:t<=1000000000
 u:u<=1000000000
 n:n.natAbs<10^60
def abM(h:Ae m=true):m≠[]/\m.length<=8/\(∀c∈m,97<=c/\c<=122)/\m∉Ji:=by unfold Ae at h;simp only[aK,aS,dw,cV,cG]at h;refine⟨h.1.1.1,h.1.1.2,λc a=>?_,h.2⟩;have:=h.1.2 c a;unfold JL at this;simpa using this
def U9(h:Ae m=true):32∉m:=λz=>by have:=(abM h).2.2.1 32 z;lia
def zr(k):32∉num k:=Vh (.inl<|by decide)
def RE(t):32∉y6 t:=by
 unfold y6 two
 grind
def Vk(n:Int):32∉zu n:=by
 unfold zu;split
 ·intro z;rcases az.mp z with z|z;·cases z
  ·exact zr _ z
 ·exact zr _
def parts{t u}{n:Int}(O:Ok m t u n):o6 32 (LN m t u n)=[m,num<|t/1440,y6 t,num u,zu n]:=by unfold LN;rw[xB<|U9 O.m,xB<|zr _,xB<|RE _,xB<|zr _,LV<|Vk _]
end TR
set_option exponentiation.threshold 500
namespace P2
open PySem L2
def YA{fs}:zQ i j fs ρ=toS (fs ρ) λa=>match a with
 |[d1,d2]=>if i<ρ.length/\j<ρ.length then .nx ((ρ.set i<|.sh d1).set j (.sh d2))else .bad
 |_=>.bad:=rfl
def Lk(c:0<=j)(a:j<1000000):qT [.int j]=.ok (qm 0 j.toNat):=by
 show(if -(2^62)<=j/\j<2^62 then R.ok (qm 0 j.toNat)else .bad)=_
 grind
end P2
local macro_rules|`(tactic|walk_at "d")=>`(tactic|try simp(disch:=first|assumption|decide|exact aj rfl)only[P2.Lg,P2.YK,P2.YE,P2.YF,P2.Lm,P2.Ye,P2.YC,P2.Yz,P2.YB,P2.YD,P2.Yy,P2.Yb,P2.X8,P2.X9,P2.X4,P2.X5,P2.X7,P2.X6,P2.Ya,P2.XZ,P2.XY,P2.X3,P2.Yx,P2.YA,P2.YJ,P2.Yi,P2.YH,P2.YI,P2.X1,P2.YG,P2.uj,P2.oj,P2.Yo,P2.Yj,P2.Yw,P2.Yc,P2.Yv,P2.Yk,P2.Ym,P2.Yl,P2.Yn,P2.X0,P2.Yg,P2.xm,P2.Yr,P2.YL,P2.YM,P2.YN,P2.YO,P2.YP,P2.YQ,P2.YR,P2.ke,aW,dr,aw,di,fx,Nat.reduceAdd,Nat.reduceSub,List.replicate_zero,List.replicate_succ,bz,gc,eK,List.set_cons_zero,List.set_cons_succ,cQ,bT,Nat.reduceLT,Nat.zero_lt_succ,fV,gu,bA,iW,fw,Int.reduceLT,Int.reduceSub,Int.reduceAdd])
namespace WP
open PySem L2 P2 TM T2 PySem.NumText
variable{a:Ad}
def UE(i:Int):jX (Cg a<|ke 1 [.int i])=.ok (.bl true):=by rfl
theorem Mw:∀(n:Nat) (x y:Int) (s2:Sl),0<=x->0<=y->y<n->
 ∃s,pP (b1 tB<|d2 qi (dV 1)<|jc 0) (v9 a) n [j9 x,j9 y,s2]=.nx [j9<|FM.g x y,j9 0,s]
 |0,x,y,s2,c,f,h=>by lia
 |n+1,x,y,s2,c,f,h=>by
  rw[Ln];by_cases z:y=0
  ·subst z;refine⟨s2,?_⟩;walk_at "d"
   rw[FM.Io c]
  ·have d:0<y:=by lia
   have i:=cD x d;obtain⟨s,e⟩:=Mw n y (x%y) (j9<|x%y) f (cL x z) (by lia);refine⟨s,?_⟩;unfold v9;iterate 4 (walk_at "d";try simp only[z,oj d])
   rw[<-FM.Im c d];exact e
def Ue(x y:Int)(d:0<=x)(c:0<=y)(h:y.natAbs<10^400):jX (yN a<|ke 3 [.int x,.int y])=.ok (.int<|FM.g x y):=by
 obtain⟨s,e⟩:=Mw (a:=a) uU x y .no d c (by lia);unfold yN;walk_at "d"
 rw[e];walk_at "d"
def yF{t b:Int}(c:b≠0)(h:b.natAbs<10^400):(FM.dv t b).natAbs<10^400:=by have:=FM.Pf (t:=t) (b:=b) c;walk_at "l"
abbrev fr(t b:Int):D:=.tup [.int<|FM.top t b,.int<|FM.bot t b]
def Ud{j Fg:jA}(f:∀i:Int,j [.int i]=.ok (.bl true))(k:∀x y:Int,0<=x->0<=y->y.natAbs<10^400->Fg [.int x,.int y]=.ok (.int<|FM.g x y))(t b:Int)(c:b≠0)(h:b.natAbs<10^400):
    jX (yO a j Fg<|ke 3 [.int t,.int b])=.ok (fr t b):=by
 have d:=k (if t<0 then -t else t) (if b<0 then -b else b) (by split<;>lia) (by split<;>grind) (by split<;>simp_all);rw[FM.Ih t b]at d;have d1:=zM (i:=t) (FM.tP (t:=t) (b:=b) c) (yF c h);have d2:=zM (i:=b) (FM.tP (t:=t) (b:=b) c) (yF c h);unfold yO;by_cases b1:b<0
 ·have e:FM.dv t b= -(FM.g t b):=by unfold FM.dv;rw[au b1]
  rw[au b1]at d;rw[e]at d1 d2;iterate 8 (walk_at "d";try simp only[f,c,b1,d,d1,d2,fw,iW])
  unfold fr FM.top FM.bot;rw[e]
 ·have e:FM.dv t b=FM.g t b:=by unfold FM.dv;rw[ax b1]
  rw[ax b1]at d;rw[e]at d1 d2;iterate 8 (walk_at "d";try simp only[f,c,b1,d,d1,d2,fw,iW])
  unfold fr FM.top FM.bot;rw[e]
variable{a:Ad}
def Sz(n:Nat)(i:Int):Prop:=i.natAbs<10^n
def Sz.mono{n}{i:Int}(h:Sz m i)(le:m<=n):Sz n i:=aE h (iV (by decide) le)
def Sz.mul{n}{i j:Int}(h:Sz m i)(g:Sz n j):Sz (m+n) (i*j):=by unfold Sz at*;rw[gw,Nat.pow_add];exact Nat.mul_lt_mul'' h g
def Sz.add{n}{i j:Int}(h:Sz n i)(g:Sz n j):Sz (n+1) (i+j):=by unfold Sz at*;have:(10:Nat)^(n+1)=10^n*10:=dD ..;omega
def Sz.sub{n}{i j:Int}(h:Sz n i)(g:Sz n j):Sz (n+1) (i - j):=by unfold Sz at*;have:(10:Nat)^(n+1)=10^n*10:=dD ..;omega
def Sz.top{n}{t b:Int}(h:Sz n t)(c:b≠0):Sz n (FM.top t b):=cC (Mg t c).1 h
def Sz.bot{n}{t b:Int}(h:Sz n b)(c:b≠0):Sz n (FM.bot t b):=cC (Mg t c).2 h
def qk{i j:Int}(h:Sz 190 i)(g:Sz 190 j):kJ (.int i) (.int j)=.ok (.int<|i*j):=Yt (h.mono<|by decide) (g.mono<|by decide)
abbrev pr(p q:Int):D:=.tup [.int p,.int q]
section
variable{j:jA}(hf:∀t b:Int,b≠0->b.natAbs<10^400->j [.int t,.int b]=.ok (fr t b)){p q x y:Int}(i:Sz 190 p)(e:Sz 190 q)(h:Sz 190 x)(c:Sz 190 y)
include hf i e h c
theorem Uu(u:q≠0)(s:y≠0):jX (yR a j<|ke 2 [pr p q,pr x y])=.ok (fr (p*y+x*q)<|q*y):=by have r:L2.kc [D.int p,D.int q] 0=some (.int p):=rfl;have o:L2.kc [D.int p,D.int q] 1=some (.int q):=rfl;have n:L2.kc [D.int x,D.int y] 0=some (.int x):=rfl;have m:L2.kc [D.int x,D.int y] 1=some (.int y):=rfl;have l:=qk i c;have k:=qk h e;have d:=qk e c;have f:=hf (p*y+x*q) (q*y) (dj u s) ((e.mul c).mono (by decide));unfold yR;iterate 7 (walk_at "d";try simp only[r,o,n,m,l,k,d,f])
theorem Uo(u:q≠0)(s:y≠0):jX (yQ a j<|ke 2 [pr p q,pr x y])=.ok (fr (p*y - x*q)<|q*y):=by have r:L2.kc [D.int p,D.int q] 0=some (.int p):=rfl;have o:L2.kc [D.int p,D.int q] 1=some (.int q):=rfl;have n:L2.kc [D.int x,D.int y] 0=some (.int x):=rfl;have m:L2.kc [D.int x,D.int y] 1=some (.int y):=rfl;have l:=qk i c;have k:=qk h e;have d:=qk e c;have f:=hf (p*y - x*q) (q*y) (dj u s) ((e.mul c).mono (by decide));unfold yQ;iterate 7 (walk_at "d";try simp only[r,o,n,m,l,k,d,f])
theorem UC(s:q≠0)(r:y≠0):jX (yS a j<|ke 2 [pr p q,pr x y])=.ok (fr (p*x)<|q*y):=by have o:L2.kc [D.int p,D.int q] 0=some (.int p):=rfl;have n:L2.kc [D.int p,D.int q] 1=some (.int q):=rfl;have m:L2.kc [D.int x,D.int y] 0=some (.int x):=rfl;have l:L2.kc [D.int x,D.int y] 1=some (.int y):=rfl;have k:=qk i h;have d:=qk e c;have f:=hf (p*x) (q*y) (dj s r) ((e.mul c).mono (by decide));unfold yS;iterate 7 (walk_at "d";try simp only[o,n,m,l,k,d,f])
end
structure Ck where
 m:jd
 t:Int
 p:Int
 q:Int
abbrev Ck.d(c:Ck):D:=.tup [.str c.m,.int c.t,pr c.p c.q]
end WP
namespace WP
open PySem L2 P2 TM T2 PySem.NumText
variable{a:Ad}
def lt_size{n}(h:n<1000000):n<sizeLine:=aE h (by decide)
def Nl(c:kv)(k)(h:k<c.length):L2.kc (c.map D.int) (k:Int)=some (.int<|c.getD k 0):=by refine tH ?_;simp_all
def T8(c:kv)(k:Nat):jX (Cv a<|ke 2 [.lst<|c.map .int,.int k])=.ok (.int<|c.getD k 0):=by
 unfold Cv;walk_at "d"
 rw[ao];by_cases h:k<c.length
 ·rw[au<|aR<|by simp_all,Nl c k h];walk_at "d"
 ·rw[ax<|by simp;simp_all];walk_at "d"
  simp_all
theorem Mx:∀(n:Nat) (x y:Int) (d c:Sl),0<=x->0<=y->y<n->
 pP (b1 tB<|d2 sy (dV 3)<|jc 0) (Bk a) n [d,c,j9 x,j9 y]=.nx [d,c,j9<|FM.g x y,j9 0]
 |0,x,y,d,c,i,j,h=>by lia
 |n+1,x,y,d,c,i,j,h=>by
  rw[Ln];by_cases z:y=0
  ·subst z;walk_at "d"
   rw[FM.Io i]
  ·have f:0<y:=by lia
   have k:=cD x f;have e:=Mx n y (x%y) d c j (cL x z) (by lia);unfold Bk;iterate 4 (walk_at "d";try simp only[aR f,oj f,and_self])
   rw[<-FM.Im i f];exact e
def Ul(t b)(d:0<b)(h:b.natAbs<10^400):jX (CA a<|ke 4 [.int t,.int b])=.ok (fr t b):=by
 have e:=Mx (a:=a) uU (if t<0 then -t else t) b (j9 t) (j9 b) (by split<;>lia) (by walk_at "l") (by lia);have c:FM.g (if t<0 then -t else t) b=FM.dv t b:=by have:=FM.Ih t b;rw[ax<|show¬b<0 by lia]at this;rw[this];unfold FM.dv;rw[ax<|by lia]
 rw[c]at e;have d1:=zM (i:=t) (FM.tP (t:=t) (b:=b)<|by lia) (yF (t:=t) (b:=b) (by lia) h);have d2:=zM (i:=b) (FM.tP (t:=t) (b:=b)<|by lia) (yF (t:=t) (b:=b) (by lia) h);unfold CA;iterate 4 (walk_at "d";try simp only[and_self])
 rw[e];iterate 4 (walk_at "d";try simp only[d1,d2])
 rfl
def zw(d:PyData.strOk x=true)(c:PyData.strOk y=true):PyData.strOk (x++y)=true:=by unfold PyData.strOk at*;rw[<-Array.all_toList]at*;show((sk<|x++y).all _)=true;rw[GY,List.all_append,aK];exact⟨d,c⟩
def len_app{y:jd}:(x++y).length=x.length+y.length:=by rw[Dw,GY,aq,<-Dw,<-Dw]
def Nn:∀n:Nat,n<3->∃c,c<128/\L2.kc (Str.ofString "qxz").cps.toList (n:Int)=some c:=by decide
def Nm:∀n:Nat,n<26->∃c,c<128/\L2.kc (Str.ofString "abcdefghijklmnopqrstuvwxyz").cps.toList (n:Int)=some c:=by decide
def D3(h:c<128):PyData.strOk ⟨#[c]⟩=true:=by unfold PyData.strOk;simp;walk_at "l"
def SM(j)(h:0<=j/\j<3):∃c,c<128/\L2.kc (Str.ofString "qxz").cps.toList j=some c:=by obtain⟨n,rfl⟩:=bu h.1;exact Nn n (by omega)
def SJ(j)(h:0<=j/\j<26):∃c,c<128/\L2.kc (Str.ofString "abcdefghijklmnopqrstuvwxyz").cps.toList j=some c:=by obtain⟨n,rfl⟩:=bu h.1;exact Nm n (by omega)
def lq:(Str.ofString "qxz").length<=sizeLine:=by decide
def la:(Str.ofString "abcdefghijklmnopqrstuvwxyz").length<=sizeLine:=by decide
def Ls(n):qm 0 n=((List.range n).map λ(k:Nat)=>(k:Int)).map D.int:=by unfold qm;simp
end WP
namespace WM
open PySem L2 P2 WP TM T2 PySem.NumText
variable{a:Ad}
inductive Fq where
 |back|on|ago|sR
inductive Bq where
 |add|sub|lt|eq|and|or
inductive T7 where
 |num(p q:Int)|at(w:Str)|here|far(k:Fq)(n:Int)|times(p q:Int)(t:T7)|abs(t:T7)|not(t:T7)|bin(k:Bq)(l r:T7)
def Fq.s:Fq->jd
 |.back=>"back"|.on=>"on"|.ago=>"ago"|.sR=>"until"
def Bq.s:Bq->jd
 |.add=>"+"|.sub=>"-"|.lt=>"<"|.eq=>"="|.and=>"and"|.or=>"or"
def T7.d:T7->D
 |.num p q=>.tup [.str "num",.tup [.int p,.int q]]
 |.at w=>.tup [.str "at",.str w]
 |.here=>.tup [.str "here"]
 |.far k n=>.tup [.str k.s,.int n]
 |.times p q t=>.tup [.str "times",.tup [.int p,.int q],t.d]
 |.abs t=>.tup [.str "abs",t.d]
 |.not t=>.tup [.str "not",t.d]
 |.bin k l r=>.tup [.str k.s,l.d,r.d]
def T7.kids:T7->aa T7
 |.times _ _ t=>[t]
 |.abs t=>[t]
 |.not t=>[t]
 |.bin _ l r=>[l,r]
 |_=>[]
def T7.parts:T7->aa T7
 |.times p q t=>.times p q t::t.parts
 |.abs t=>.abs t::t.parts
 |.not t=>.not t::t.parts
 |.bin k l r=>.bin k l r::(l.parts++r.parts)
 |t=>[t]
def T7.dep:T7->Nat
 |.times _ _ t=>t.dep+1
 |.abs t=>t.dep+1
 |.not t=>t.dep+1
 |.bin _ l r=>max l.dep r.dep+1
 |_=>0
def Eb(t:T7):t.parts=t::t.kids.flatMap T7.parts:=by cases t<;>simp[T7.parts,T7.kids]
def Ti{t u:T7}(h:u∈t.kids):u.dep<t.dep:=by
 cases t<;>simp[T7.kids]at h;·subst h;show _<_+1;simp
 ·subst h;show _<_+1;simp
 ·subst h;show _<_+1;simp
 ·rename_i k l r;show _<max l.dep r.dep+1;rcases h with rfl|rfl<;>lia
def Ui(t:T7):jX (Ik a<|ke 1 [t.d])=.ok (.lst<|t.kids.map T7.d):=by
 cases t with
 |far k n=>cases k<;>kernel_rfl
 |bin k l r=>cases k<;>kernel_rfl
 |_=>kernel_rfl
section
variable{Fi p:jA}
def WL{t:T7}(h:p [t.d]=.ok (.lst<|t.parts.map T7.d))(s0)(acc)(c:acc.length+t.parts.length<=1000000):
    tJ a Fi p [s0,.ow acc,.sh t.d]=.nx [s0,.ow<|acc++t.parts.map T7.d,.sh t.d]:=by
 show toS (p [t.d]) _=_;rw[h];show(if acc.length+(t.parts.map T7.d).length<=sizeLine then RT.nx _ else .bad)=_;rw[au<|by rw[ao];exact aV c (by decide)];rfl
theorem Kw(c:Sl):∀(L:aa T7) (acc:j7) (s2:Sl),(∀t∈L,p [t.d]=.ok (.lst<|t.parts.map T7.d))->acc.length+(L.flatMap T7.parts).length<=1000000->
 ∃d,oU (gV 2) (tJ a Fi p) (L.map T7.d) [c,.ow acc,s2]=.nx [c,.ow<|acc++(L.flatMap T7.parts).map T7.d,d]
 |[],acc,s2,_,_=>⟨s2,by rw[List.flatMap_nil,dr,bz];rfl⟩
 |t::L,acc,s2,h,f=>by rw[gA,aq]at f;obtain⟨d,e⟩:=Kw c L (acc++t.parts.map T7.d) (.sh t.d) (λu i=>h u (.tail _ i)) (by rw[aq,ao];lia);refine⟨d,?_⟩;rw[gA,bM,<-bP,<-e];show turnT (tJ a Fi p [c,.ow acc,.sh t.d]) (oU (gV 2) (tJ a Fi p)<|L.map T7.d)=_;rw[WL (h t<|.head _) c acc<|by lia];rfl
theorem JM(i:∀t:T7,Fi [t.d]=.ok (.lst<|t.kids.map T7.d)):∀(n:Nat) (t:T7),t.dep<n->t.parts.length<=1000000->
 sv (λF c=>jX<|tR a Fi F<|ke 3 c) n [t.d]=.ok (.lst<|t.parts.map T7.d)
 |0,t,h,_=>by simp_all
 |n+1,t,h,l=>by
  have d:=l;rw[Eb,aw]at d;have k:∀u∈t.kids,sv (λF c=>jX (tR a Fi F (ke 3 c))) n [u.d]=.ok (.lst (u.parts.map T7.d)):=λu f=>JM i n u (by have:=Ti f;lia) (by
   have:u.parts.length<=(t.kids.flatMap T7.parts).length:=by obtain⟨x,y,e⟩:=List.append_of_mem f;rw[e,List.flatMap_append,gA,aq,aq];lia
   lia)
  obtain⟨j,e⟩:=Kw (a:=a) (Fi:=Fi) (.sh t.d) t.kids [t.d] .no k (by simp only[aw,di];lia);show jX (tR a Fi (sv (λF c=>jX<|tR a Fi F<|ke 3 c) n) [.sh t.d,.no,.no])=_;generalize sv (λF c=>jX<|tR a Fi F<|ke 3 c) n=p at*;have o:vx 1 (λρ=>((ba (dV 0) jb) ρ).bind jM) [.sh t.d,.no,.no]=.nx [.sh t.d,.ow [t.d],.no]:=rfl;have m:vt (λρ=>((dA Fi<|ba (dV 0) jb) ρ).bind j2) (gV 2) (tJ a Fi p) [.sh t.d,.ow [t.d],.no]=.nx [.sh t.d,.ow<|[t.d]++(t.kids.flatMap T7.parts).map T7.d,j]:=by rw[<-e];show toS ((Fi [t.d]).bind j2) _=_;rw[i t];rfl
  unfold tR;show jX (uk (vx 1 (λρ=>((ba (dV 0) jb) ρ).bind jM) [.sh t.d,.no,.no]) _)=_;rw[o];show jX (uk (vt (λρ=>((dA Fi<|ba (dV 0) jb) ρ).bind j2) (gV 2) (tJ a Fi p) [.sh t.d,.ow [t.d],.no]) _)=_;rw[m,Eb];rfl
theorem G7{k}{g:β->D}:∀L:aa α,(∀x∈L,k x=none->fc [.sh<|f x]=.ok false)->(∀x∈L,∀y,k x=some y->fc [.sh<|f x]=.ok true/\fe [.sh<|f x]=.ok (g y))->
 lD (gV 0) fc fe [.no] (L.map f)=some ((L.filterMap k).map g)
 |[],_,_=>rfl
 |x::L,i,h=>by
  have l:=G7 (f:=f) (k:=k) (g:=g) (fc:=fc) (fe:=fe) L (λy d=>i y<|.tail _ d) (λy d=>h y<|.tail _ d);show(some [Sl.sh<|f x]).bind (λc=>(pJ<|fc c).bind λb=>if b=true then(pJ<|fe c).bind λv=>(lD (gV 0) fc fe [.no]<|L.map f).bind λj=>some (v::j)else lD (gV 0) fc fe [.no] (L.map f))=_;rw[Option.bind_some,l];cases q:k x with
  |none=>rw[List.filterMap_cons_none q,i x (.head _) q];rfl
  |some y=>rw[gH q,(h x (.head _) y q).1,(h x (.head _) y q).2];rfl
def wt{f:α->D}{k:α->jm β}{g}{fc:mi}{fe:jQ}{L:aa α}(d:fi ρ=.ok (L.map f))(c:L.length<=1000000)(i:∀x∈L,k x=none->fc [.sh<|f x]=.ok false)(h:∀x∈L,∀y,k x=some y->fc [.sh<|f x]=.ok true/\fe [.sh<|f x]=.ok (g y)):
    kl fi 1 [] (gV 0) fc fe ρ=.ok ((L.filterMap k).map g):=by
 unfold kl;rw[d];show(if(L.map f).length<=sizeLine then uf (lD (gV 0) fc fe [.no]<|L.map f)else .bad)=_;rw[au<|by rw[ao];exact aV c (by decide),G7 L i h];rfl
def rA{f:α->D}{g}{fe:jQ}{ρ:Ev}{L:aa α}(i:fi ρ=.ok (L.map f))(c:L.length<=1000000)(j:∀x∈L,fe [.sh<|f x]=.ok (g x)):
    kl fi 1 [] (gV 0) (λ_=>.ok true) fe ρ=.ok (L.map g):=by
 have:=wt (k:=λx=>some x) (g:=g) (fc:=λ_=>.ok true) (fe:=fe) i c (λx _ h=>by cases h) (λx d y h=>by cases h;exact⟨rfl,j x d⟩);simp_all
theorem Jl{f:α->D}{g}(h:∀x,og (f x)=some (g x)):∀c:aa α,lL (c.map f)=some (c.map g)
 |[]=>rfl
 |n::r=>by show(og<|f n).bind (λk=>(lL<|r.map f).map (k:: ·))=_;rw[Jl h r,h];rfl
def C3{f:α->D}(h:∀x,kz (f x)=some sg)(L:aa α):nE (L.map f)=true:=by
 cases L with
 |nil=>rfl
 |cons x r=>show((kz<|f x).isSome&&(r.map f).all λe=>kz e==kz (f x))=true;simp_all
theorem KP{f:α->D}:∀c,(∀d∈c,∃n,d=f n)->∃L:aa α,c=L.map f
 |[],_=>⟨[],rfl⟩
 |d::r,h=>by obtain⟨n,rfl⟩:=h d (.head _);obtain⟨L,rfl⟩:=KP r λd i=>h d (.tail _ i);exact⟨n::L,rfl⟩
theorem Hg:∀c:aa Key,(dd c).length<=c.length
 |[]=>ai _
 |k::r=>by
  have:=Hg r;unfold dd;split;·rw[aw];walk_at "l"
  ·rw[aw,aw];walk_at "l"
def UR(ks d):d∈kZ ((dd ks).map kD)↔∃k∈ks,d=kD k:=by rw[(nJ _).mem_iff,aO];exact⟨λ⟨k,h,e⟩=>⟨k,(t8 k ks).mp h,e.symm⟩,λ⟨k,h,e⟩=>⟨k,(t8 k ks).mpr h,e.symm⟩⟩
def LR{j:Type}{f:j->D}{g:j->Key}(o:∀x,og (f x)=some (g x))(r:∀x,kD (g x)=f x)(w:∀x,kz (f x)=some sg)(q:∀x y,f x=f y->x=y)(c:aa j)(h:c.length<64):∃L:aa j,oK (.lst<|c.map f)=.ok (L.map f)/\(∀x,x∈L↔x∈c)/\L.length<=c.length:=by
 have l:∀d,d∈kZ ((dd (c.map g)).map kD)↔∃n∈c,d=f n:=λd=>(UR (c.map g) d).trans ⟨λ⟨k,u,e⟩=>by obtain⟨n,i,rfl⟩:=aO.mp u;exact⟨n,i,e.trans (r n)⟩,λ⟨n,i,e⟩=>⟨g n,aO.mpr ⟨n,i,rfl⟩,e.trans (r n).symm⟩⟩
 obtain⟨L,e⟩:=KP (f:=f) (kZ ((dd (c.map g)).map kD)) λd v=>let⟨n,_,h⟩:=(l d).mp v;⟨n,h⟩;rw[e]at l;refine⟨L,?_,λx=>⟨λm=>?_,λm=>?_⟩,?_⟩
 ·show(match lL (c.map f)with|some s=>if nE (c.map f)=true/\(c.map f).length<64 then R.ok (kZ<|(dd s).map kD)else .bad|none=>.bad)=_;rw[Jl o];show(if nE (c.map f)=true/\(c.map f).length<64 then R.ok (kZ<|(dd<|c.map g).map kD)else .bad)=_;rw[au ⟨C3 w c,by rw[ao];exact h⟩,e]
 ·obtain⟨n,i,e⟩:=(l<|f x).mp (aO.mpr ⟨x,m,rfl⟩);rw[q _ _ e];exact i
 ·obtain⟨y,t,e⟩:=aO.mp ((l<|f x).mpr ⟨x,m,rfl⟩);rw[<-q _ _ e];exact t
 ·have o:=bN List.length e;rw[(nJ _).length_eq,ao,ao]at o;have:=Hg (c.map g);simp_all
def LS(c:kv)(h:c.length<64):∃L:aa Int,oK (.lst<|c.map D.int)=.ok (L.map D.int)/\(∀x,x∈L↔x∈c)/\L.length<=c.length:=LR (g:=Sum.inl) (sg:=[0]) (λ_=>rfl) (λ_=>rfl) (λ_=>rfl) (λ_ _ e=>by cases e;rfl) c h
inductive Ask where
 |here|back(n:Int)|on(n:Int)|at(w:Str)
def Ask.d:Ask->D
 |.here=>.tup [.str "here"]
 |.back n=>.tup [.str "back",.int n]
 |.on n=>.tup [.str "on",.int n]
 |.at w=>.tup [.str "at",.str w]
def Ask.isAt:Ask->jk
 |.at _=>true
 |_=>false
def Ask.pl:Ask->jm Int
 |.back n=>some n
 |.on n=>some n
 |_=>none
def v3:T7->jm Ask
 |.far .back n=>some (.back n)
 |.far .ago n=>some (.back n)
 |.far .on n=>some (.on n)
 |.far .sR n=>some (.on n)
 |.at w=>some (.at w)
 |_=>none
def wh:T7->jm Int
 |.far .back n=>some n
 |.far .ago n=>some n
 |_=>none
def w4:T7->jm Int
 |.far .on n=>some n
 |.far .sR n=>some n
 |_=>none
def v8:T7->jm jd
 |.at w=>some w
 |_=>none
def T7.asks(t:T7):aa Ask:=t.parts.filterMap v3
def n7(h:f ρ=.ok X):jz f ρ=.ok (.lst X):=by unfold jz;rw[h];rfl
def EB(h:f ρ=.ok X)(c:oK (.lst X)=.ok Y)(d:i<ρ.length):kT i (jz<|λρ=>((jz f) ρ).bind oK) ρ=.nx (ρ.set i<|jO Y):=by have e:jz (λρ=>((jz f) ρ).bind oK) ρ=.ok (.lst Y):=n7 (by rw[n7 h];exact c);show toS (jz (λρ=>((jz f) ρ).bind oK) ρ) _=_;rw[e];exact au d
def BW(d:ρ[i]?=some (.ow X))(h:f ρ=.ok Y)(c:X.length+Y.length<=1000000):qp i (jz f) ρ=.nx (ρ.set i<|.ow<|X++Y):=by unfold qp;rw[d];rw[n7 h];exact au (aV c<|by decide)
abbrev cA(u v:jd):Ev->R (aa D):=kl (λρ=>((dV 1) ρ).bind j2) 1 [] (gV 0) (b1 tB<|d2 lQ (jg 0 0)<|dA jN<|ba (jF u)<|ba (jF v) jb) (jg 0 1)
abbrev cE(i:Nat)(u:jd):jQ:=jz (kl (λρ=>((dV i) ρ).bind j2) 1 [] (gV 0) (λ_=>.ok true)<|dA jN<|ba (jF u)<|ba (dV 0) jb)
def T5{t:T7}(T:p [t.d]=.ok (.lst<|t.parts.map T7.d))(hz:t.parts.length<64):
    ∃A:aa Ask,jX (Cc a p<|ke 6 [t.d])=.ok (.lst<|A.map Ask.d)/\A.length<=3*t.parts.length+1/\∀x,x∈A↔x=.here\/x∈t.asks:=by
 have M:t.parts.length<=1000000:=by lia
 have I {V:Type} (k:T7->jm V):(t.parts.filterMap k).length<64:=cC (dH ..) hz;obtain⟨B,eB,mB,lB⟩:=LS (t.parts.filterMap wh) (I _);obtain⟨O,eO,mO,lO⟩:=LS (t.parts.filterMap w4) (I _);obtain⟨W,eW,mW,lW⟩:=LR (f:=D.str) (g:=Sum.inr) (sg:=[1]) (λ_=>rfl) (λ_=>rfl) (λ_=>rfl) (λ_ _ e=>by cases e;rfl) (t.parts.filterMap v8) (I _);have fB:=I wh;have gB:=dH wh t.parts;have gO:=dH w4 t.parts;have gW:=dH v8 t.parts;have fO:=I w4;have fW:=I v8;refine⟨.here::(B.map .back++(O.map .on++W.map .at)),?_,by simp only[aw,aq,ao];lia,λx=>?_⟩
 ·generalize N:t.parts.map T7.d=P at T;have c1:∀ρ:Ev,ρ[1]?=some (jO P)->cA "back" "ago" ρ=.ok ((t.parts.filterMap wh).map D.int):=λρ C=>by
   refine wt (f:=T7.d) (L:=t.parts) (k:=wh) (by show(dV 1 ρ).bind j2=_;unfold dV;rw[C,N];rfl) M (λx _ J=>?_) (λx _ y G=>?_)
   ·cases x with
    |far k n=>cases k<;>first|cases J;done|kernel_rfl
    |bin k l r=>cases k<;>kernel_rfl
    |_=>kernel_rfl
   ·cases x with
    |far k n=>cases k<;>first|(cases G;done)|(cases G;exact⟨by kernel_rfl,rfl⟩)
    |_=>cases G
  have c2:∀ρ:Ev,ρ[1]?=some (jO P)->cA "on" "until" ρ=.ok ((t.parts.filterMap w4).map D.int):=λρ C=>by
   refine wt (f:=T7.d) (L:=t.parts) (k:=w4) (by show(dV 1 ρ).bind j2=_;unfold dV;rw[C,N];rfl) M (λx _ J=>?_) (λx _ y G=>?_)
   ·cases x with
    |far k n=>cases k<;>first|cases J;done|kernel_rfl
    |bin k l r=>cases k<;>kernel_rfl
    |_=>kernel_rfl
   ·cases x with
    |far k n=>cases k<;>first|(cases G;done)|(cases G;exact⟨by kernel_rfl,rfl⟩)
    |_=>cases G
  have c3:∀ρ:Ev,ρ[1]?=some (jO P)->kl (λρ=>((dV 1) ρ).bind j2) 1 [] (gV 0) (b1 tB<|d2 jW (jg 0 0)<|jF "at") (jg 0 1) ρ=.ok ((t.parts.filterMap v8).map D.str):=λρ C=>by
   refine wt (f:=T7.d) (L:=t.parts) (k:=v8) (by show(dV 1 ρ).bind j2=_;unfold dV;rw[C,N];rfl) M (λx _ J=>?_) (λx _ y G=>?_)
   ·cases x with
    |far k n=>cases k<;>kernel_rfl
    |bin k l r=>cases k<;>kernel_rfl
    |«at» w=>cases J
    |_=>kernel_rfl
   ·cases x with
    |«at» w=>cases G;exact⟨by kernel_rfl,rfl⟩
    |_=>cases G
  have n1:∀(c q j d s:Sl),kT 2 (jz<|λρ=>((jz<|cA "back" "ago") ρ).bind oK) [c,jO P,q,j,d,s]=.nx [c,jO P,jO<|B.map D.int,j,d,s]:=λc q j d s=>EB (c1 _ rfl) eB (aj rfl);have Z:∀(c q j d s:Sl),kT 3 (jz<|λρ=>((jz<|cA "on" "until") ρ).bind oK) [c,jO P,q,j,d,s]=.nx [c,jO P,q,jO<|O.map D.int,d,s]:=λc q j d s=>EB (c2 _ rfl) eO (aj rfl);have Y:∀(c q j d s:Sl),kT 4 (jz<|λρ=>((jz<|kl (λρ=>((dV 1) ρ).bind j2) 1 [] (gV 0) (b1 tB<|d2 jW (jg 0 0)<|jF "at")<|jg 0 1) ρ).bind oK) [c,jO P,q,j,d,s]=.nx [c,jO P,q,j,jO<|W.map D.str,s]:=λc q j d s=>EB (c3 _ rfl) eW (aj rfl)
  have e1:∀(c z j d:Sl) (X:j7),X.length<=10000->qp 5 (cE 2 "back") [c,z,jO<|B.map D.int,j,d,.ow X]=.nx [c,z,jO<|B.map D.int,j,d,.ow<|X++(B.map Ask.back).map Ask.d]:=λc z j d X U=>BW (i:=5) rfl (by rw[bh];exact rA (f:=D.int) (L:=B) rfl (by lia) λx _=>rfl) (by rw[ao,ao];lia)
  have e2:∀(c z q d:Sl) (X:j7),X.length<=10000->qp 5 (cE 3 "on") [c,z,q,jO<|O.map D.int,d,.ow X]=.nx [c,z,q,jO<|O.map D.int,d,.ow<|X++(O.map Ask.on).map Ask.d]:=λc z j d X U=>BW (i:=5) rfl (by rw[bh];exact rA (f:=D.int) (L:=O) rfl (by lia) λx _=>rfl) (by rw[ao,ao];lia)
  have e3:∀(c z q j:Sl) (X:j7),X.length<=10000->qp 5 (cE 4 "at") [c,z,q,j,jO<|W.map D.str,.ow X]=.nx [c,z,q,j,jO<|W.map D.str,.ow<|X++(W.map Ask.at).map Ask.d]:=λc z j d X U=>BW (i:=5) rfl (by rw[bh];exact rA (f:=D.str) (L:=W) rfl (by lia) λx _=>rfl) (by rw[ao,ao];lia)
  have h0:kT 1 (dA p<|ba (dV 0) jb) [.sh t.d,.no,.no,.no,.no,.no]=.nx [.sh t.d,jO P,.no,.no,.no,.no]:=by show toS (p [t.d]) _=_;rw[T];rfl
  have o:∀{g h:jV} {ρ l8:Ev},g ρ=.nx l8->kd g h ρ=h l8:=λe=>by unfold kd;rw[e];rfl
  unfold Cc;show jX (kd _ _ [.sh t.d,.no,.no,.no,.no,.no])=_;rw[o h0,o<|n1 _ _ _ _ _,o<|Z _ _ _ _ _,o<|Y _ _ _ _ _];have ho:vx 5 (λρ=>((ba (dA jN<|ba (jF "here") jb) jb) ρ).bind jM) [.sh t.d,jO P,jO<|B.map D.int,jO<|O.map D.int,jO<|W.map D.str,.no]=.nx [.sh t.d,jO P,jO<|B.map D.int,jO<|O.map D.int,jO<|W.map D.str,.ow [Ask.here.d]]:=rfl;rw[o ho,o<|e1 _ _ _ _ _<|by simp,o<|e2 _ _ _ _ _<|by simp only[aq,ao,aw,di];lia,o<|e3 _ _ _ _ _<|by simp only[aq,ao,aw,di];lia];show R.ok (D.lst _)=_
  congr 2
  simp
 ·have Q:∀y:Ask,y∈t.asks↔∃u∈t.parts,v3 u=some y:=λy=>bo;rw[Q];simp only[az,aX,aO,mB,mO,mW,bo];constructor
  ·rintro (h|⟨n,⟨u,F,e⟩,rfl⟩|⟨n,⟨u,F,e⟩,rfl⟩|⟨w,⟨u,F,e⟩,rfl⟩)
   ·exact .inl h
   ·refine .inr ⟨u,F,?_⟩;cases u with
    |far k m=>cases k<;>first|(cases e;done)|(cases e;rfl)
    |_=>cases e
   ·refine .inr ⟨u,F,?_⟩;cases u with
    |far k m=>cases k<;>first|(cases e;done)|(cases e;rfl)
    |_=>cases e
   ·refine .inr ⟨u,F,?_⟩;cases u with
    |«at» v=>cases e;rfl
    |_=>cases e
  ·rintro (h|⟨u,F,e⟩)
   ·exact .inl h
   ·cases u with
    |far k m=>
     cases k with
     |back=>cases e;exact .inr (.inl ⟨m,⟨_,F,rfl⟩,rfl⟩)
     |ago=>cases e;exact .inr (.inl ⟨m,⟨_,F,rfl⟩,rfl⟩)
     |on=>cases e;exact .inr (.inr<|.inl ⟨m,⟨_,F,rfl⟩,rfl⟩)
     |sR=>cases e;exact .inr (.inr<|.inl ⟨m,⟨_,F,rfl⟩,rfl⟩)
    |«at» w=>cases e;exact .inr (.inr<|.inr ⟨w,⟨_,F,rfl⟩,rfl⟩)
    |_=>cases e
variable{a:Ad}
variable{j C:jP}{S S1 E H:jt}{f g h:jE}{i:Nat}{z:Z}{c:ny}{u v:jJ}
def jI(e:u j S=.nx C S1):jf u v j S=v C S1:=by unfold jf;rw[e];rfl
def qv(e:u j S=.rt z S1):jf u v j S=.rt z S1:=by unfold jf;rw[e];rfl
def j5(e:f j S=.ok z S1)(d:i<j.length):jy i f j S=.nx (j.set i<|some z) S1:=by unfold jy;rw[e];exact au d
def y_ret(e:f j S=.ok z S1):jZ f j S=.rt z S1:=by unfold jZ;rw[e];rfl
def nL(e:c j S=.ok true S1):j4 c u v j S=u j S1:=by unfold j4;rw[e];rfl
def rQ(e:c j S=.ok false S1):j4 c u v j S=v j S1:=by unfold j4;rw[e];rfl
def mT{w}(e:c j S=.ok false S1):jf (j4 c u kn) w j S=w j S1:=jI (rQ e)
def Ai{w}(e:c j S=.ok true S1)(h:u j S1=.rt z E):jf (j4 c u kn) w j S=.rt z E:=qv ((nL e).trans h)
def k4(e:j[i]?=some (some z)):zV i j S=.ok z S:=by unfold zV;rw[e]
def jn{q:jQ}{d}(e:q (kO j)=.ok d):zD q j S=.ok (.d d) S:=by unfold zD;rw[e];rfl
def mK{q:mi}{d}(e:q (kO j)=.ok d):zB q j S=.ok d S:=by unfold zB;rw[e];rfl
def vL{q:jQ}{d}(e:q (vw S j)=.ok d)(h:rH d=true):zR q j S=.ok (.d d) S:=by unfold zR;rw[e];exact au h
def Aq{q:mi}{d}(e:q (vw S j)=.ok d):qz q j S=.ok d S:=by unfold qz;rw[e]
def j0:jo j S=.ok [] S:=rfl
def jq{r:n6}(e:f j S=.ok z S1)(d:r j S1=.ok zs E):i7 f r j S=.ok (z::zs) E:=by unfold i7;rw[e];show((r j S1).bind _)=_;rw[d];rfl
def l7{q:jA}{r:n6}(k:j7){d}(e:r j S=.ok (k.map .d) S1)(l:q k=.ok d):zF q r j S=.ok (.d d) S1:=by
 unfold zF;rw[e];show(match lY (k.map Z.d)with
 |some k=>(lJ (q k) S1).bind λd S=>RX.ok (Z.d d) S
 |none=>.bad)=_
 rw[tG];show(lJ (q k) S1).bind _=_;rw[l];rfl
def lU{q:qI}{w}(l:f j S=.ok (.d x) S1)(k:g j S1=.ok (.d y) E)(d:q x y=.ok w):z2 q f g j S=.ok (.d w) E:=by unfold z2;rw[l];show((g j S1).bind _)=_;rw[k];show((lJ (q x y) E).bind _)=_;rw[d];rfl
def xR{q:D->R jk}{k}(l:f j S=.ok (.d x) S1)(d:q x=.ok k):pR q f j S=.ok k S1:=by unfold pR;rw[l];show lJ (q x) S1=_;rw[d];rfl
def lP{F:jD}{r:n6}(e:r j S=.ok zs S1)(d:F zs S1=x):zZ F r j S=x:=by unfold zZ;rw[e];exact d
def abQ(d:c j S=.ok true S1):ux c e j S=e j S1:=by unfold ux;rw[d];rfl
def abR(d:c j S=.ok false S1):ux c e j S=.ok false S1:=by unfold ux;rw[d];rfl
def E8(e:f j S=.ok z S1):xK f j S=.ok (wK z) S1:=by unfold xK;rw[e];rfl
def MG(e:f j S=.ok z S1):xM f j S=.ok (!wK z) S1:=by unfold xM;rw[e];rfl
def abV{n k}(h:f j S=.ok (.loc n) S)(d:g j S=.ok (.d<|.tup ds) S)(l:lL ds=some k)(m:S[n]?=some (.dt kvs))(hv:valZ kvs k=some z):sU f g j S=.ok z S:=by
 unfold sU;rw[h];show((g j S).bind _)=_;rw[d]
 show(match lL ds,S[n]? with
  |some k,some (.dt kvs)=>(match valZ kvs k with
   |some z=>RX.ok z S
   |none=>.bad)
  |_,_=>.bad)=_
 rw[l,m]
 show(match valZ kvs k with
  |some z=>RX.ok z S
  |none=>.bad)=_
 rw[hv]
end
def Ask.k:Ask->aa Key
 |.here=>[.inr "here"]
 |.back n=>[.inr "back",.inl n]
 |.on n=>[.inr "on",.inl n]
 |.at w=>[.inr "at",.inr w]
def Gs(x:Ask):∃c,x.d=.tup c/\lL c=some x.k:=by cases x<;>exact⟨_,rfl,rfl⟩
abbrev Env:=Ask->Int×Int×Int
def lo(t b:Int):Int×Int:=(FM.top t b,FM.bot t b)
abbrev pK(x:Int×Int):D:=pr x.1 x.2
noncomputable def wv(e:Env):T7->Int×Int
 |.num p q=>lo p q
 |.here=>lo (e .here).2.1 (e .here).2.2
 |.at w=>lo (e<|.at w).2.1 (e<|.at w).2.2
 |.far .back n=>lo (e<|.back n).2.1 (e<|.back n).2.2
 |.far .on n=>lo (e<|.on n).2.1 (e<|.on n).2.2
 |.far .ago n=>lo ((e .here).1 - (e<|.back n).1) 1
 |.far .sR n=>lo ((e<|.on n).1 - (e .here).1) 1
 |.times p q t=>lo (p*(wv e t).1) (q*(wv e t).2)
 |.abs t=>lo ((wv e t).1.natAbs:Int) (wv e t).2
 |.bin .add l r=>lo ((wv e l).1*(wv e r).2+(wv e r).1*(wv e l).2) ((wv e l).2*(wv e r).2)
 |.bin .sub l r=>lo ((wv e l).1*(wv e r).2 - (wv e r).1*(wv e l).2) ((wv e l).2*(wv e r).2)
 |_=>(0,1)
noncomputable def hv(e:Env):T7->jk
 |.bin .lt l r=>decide ((wv e l).1*(wv e r).2<(wv e r).1*(wv e l).2)
 |.bin .eq l r=>decide (wv e l=wv e r)
 |.not t=>!hv e t
 |.bin .and l r=>hv e l&&hv e r
 |.bin .or l r=>hv e l||hv e r
 |_=>false
inductive Tw:Nat->T7->Prop
 |num {p q:Int}:q≠0->Sz 62 p->Sz 62 q->Tw 62 (.num p q)
 |«at» (w:Str):Tw 62 (.at w)
 |here:Tw 62 .here
 |far (k:Fq) (n:Int):Tw 62 (.far k n)
 |times {p q:Int} {s:Nat} {t:T7}:q≠0->Sz 62 p->Sz 62 q->Tw s t->s<=190->Tw (62+s) (.times p q t)
 |abs {s:Nat} {t:T7}:Tw s t->Tw s (.abs t)
 |add {s r:Nat} {t u:T7}:Tw s t->Tw r u->s<=190->r<=190->Tw (s+r+1) (.bin .add t u)
 |sub {s r:Nat} {t u:T7}:Tw s t->Tw r u->s<=190->r<=190->Tw (s+r+1) (.bin .sub t u)
inductive Cw:T7->Prop
 |lt {s r:Nat} {t u:T7}:Tw s t->Tw r u->s<=190->r<=190->Cw (.bin .lt t u)
 |eq {s r:Nat} {t u:T7}:Tw s t->Tw r u->s<=190->r<=190->Cw (.bin .eq t u)
 |not {t:T7}:Cw t->Cw (.not t)
 |and {t u:T7}:Cw t->Cw u->Cw (.bin .and t u)
 |or {t u:T7}:Cw t->Cw u->Cw (.bin .or t u)
structure uB(e:Env):Prop where
 t:∀x,Sz 61 (e x).1
 p:∀x,Sz 62 (e x).2.1
 q:∀x,Sz 62 (e x).2.2
 n:∀x,(e x).2.2≠0
def pH{s}{t b:Int}(c:b≠0)(d:Sz s t)(f:Sz r b):Sz s (lo t b).1/\Sz r (lo t b).2/\(lo t b).2≠0:=⟨d.top c,f.bot c,λh=>by have:=(FM.DC (t:=t) c).pos;have i:FM.bot t b=0:=h;simp_all⟩
def w8:Sz 62 1:=by unfold Sz;decide
def sS(E:uB e){s t}(h:Tw s t):Sz s (wv e t).1/\Sz s (wv e t).2/\(wv e t).2≠0:=by
 induction h with
 |num l j i=>exact pH l j i
 |«at» w=>exact pH (E.n _) (E.p _) (E.q _)
 |here=>exact pH (E.n _) (E.p _) (E.q _)
 |far k n=>
  cases k with
  |back=>exact pH (E.n _) (E.p _) (E.q _)
  |on=>exact pH (E.n _) (E.p _) (E.q _)
  |ago=>exact pH (by decide) ((E.t _).sub (E.t _)) w8
  |sR=>exact pH (by decide) ((E.t _).sub (E.t _)) w8
 |times l j i _ _ f=>exact pH (dj l f.2.2) (j.mul f.1) (i.mul f.2.1)
 |abs _ f=>exact pH f.2.2 (show Nat.lt _ _ by rw[Int.natAbs_natCast];exact f.1) f.2.1
 |add _ _ _ _ d c=>exact pH (dj d.2.2 c.2.2) ((d.1.mul c.2.1).add ((c.1.mul d.2.1).mono (by lia))) ((d.2.1.mul c.2.1).mono (by simp))
 |sub _ _ _ _ d c=>exact pH (dj d.2.2 c.2.2) ((d.1.mul c.2.1).sub ((c.1.mul d.2.1).mono (by lia))) ((d.2.1.mul c.2.1).mono (by simp))
abbrev _root_.nP:=aa Ask
structure Fd(S:jt)(n:Nat)(A:nP)(e:Env)(kvs:oy):Prop where
 at':S[n]?=some (.dt kvs)
 val:∀x∈A,valZ kvs x.k=i9 (.tup [.int (e x).1,pr (e x).2.1 (e x).2.2])
abbrev HF(Ff:jA):Prop:=∀t b:Int,b≠0->b.natAbs<10^400->Ff [.int t,.int b]=.ok (fr t b)
section
variable{S:jt}{n:Nat}{A:nP}{e:Env}{l:oy}{c v B r C J:jA}{I H:jD}{E:jP}{i j:Nat}{x:Ask}
def Ca(F:Fd S n A e l)(h:x∈A)(k:E[i]?=some (i8 n))(f:E[j]?=some (i9 x.d)):sU (zV i) (zD (dV j)) E S=.ok (.d (.tup [.int (e x).1,pr (e x).2.1 (e x).2.2])) S:=by obtain⟨p,o,m⟩:=Gs x;rw[o]at f;exact abV (k4 k) (jn (d:=.tup p) (by unfold dV kO;rw[aH,f];rfl)) m F.at' (F.val x h)
def Uq(hf:HF c)(F:Fd S n A e l)(h:x∈A)(f:y∈A)(b):
    ju (Cp a c b (jY 3 [.d x.d,.d y.d,.loc n]) S)=.ok (.d<|fr ((e y).1 - (e x).1) 1) S:=by
 unfold Cp;rw[y_ret<|l7 [.int<|(e y).1 - (e x).1,.int 1] (jq (lU (lU (Ca F f rfl rfl) (jn (d:=.int 0) rfl) (w:=.int (e y).1) rfl) (lU (Ca F h rfl rfl) (jn (d:=.int 0) rfl) (w:=.int (e x).1) rfl) rfl)<|jq (jn (d:=.int 1) rfl) j0)<|hf _ 1 (by decide)<|by decide];rfl
def Lh(x y):zB (b1 tB<|d2 jW (dV 2)<|jF y) (s0::s1::i9 (.str x)::s3) S=.ok (decide<|x=y) S:=rfl
abbrev _root_.lA:=jm Z
def kP{k f:lA}{d:jP}{x y:jd}{u w:jJ}(h:decide (x=y)=false):jf (j4 (zB<|b1 tB<|d2 jW (dV 2)<|jF y) u kn) w (k::f::i9 (.str x)::d) S=w (k::f::i9 (.str x)::d) S:=mT (by rw[Lh,h])
def ql{k f:lA}{d:jP}{x y:jd}{u w:jJ}{z:Z}(h:decide (x=y)=true)(m:u (k::f::i9 (.str x)::d) S=.rt z S):jf (j4 (zB<|b1 tB<|d2 jW (dV 2)<|jF y) u kn) w (k::f::i9 (.str x)::d) S=.rt z S:=Ai (by rw[Lh,h]) m
structure Ar(a:Ad)(c v B r C J:jA):Prop where
 f:HF c
 p:∀{p q x y:Int},Sz 190 p->Sz 190 q->Sz 190 x->Sz 190 y->q≠0->y≠0->v [pr p q,pr x y]=.ok (fr (p*y+x*q)<|q*y)
 m:∀{p q x y:Int},Sz 190 p->Sz 190 q->Sz 190 x->Sz 190 y->q≠0->y≠0->B [pr p q,pr x y]=.ok (fr (p*y - x*q)<|q*y)
 t:∀{p q x y:Int},Sz 190 p->Sz 190 q->Sz 190 x->Sz 190 y->q≠0->y≠0->r [pr p q,pr x y]=.ok (fr (p*x)<|q*y)
 a:∀{p q:Int},q≠0->Sz 390 q->C [pr p q]=.ok (fr (p.natAbs:Int) q)
 u:∀{p q x y:Int},Sz 190 p->Sz 190 q->Sz 190 x->Sz 190 y->J [pr p q,pr x y]=.ok (.bl<|decide<|p*y<x*q)
abbrev FY(a:Ad)(c v B r C:jA)(I:jD):(jD)->jD:=λH zs S=>ju (pF a c v B r C I H S.length (jY 4 zs) S)
end
variable{a:Ad}
section
variable{S:jt}{n:Nat}{A:nP}{e:Env}{J:oy}{i C H B I f:jA}{K c:jD}
def nU{x:jd}{rest:j7}{h z2:lA}{k:jP}{v:jJ}:jf (jy 2<|zD<|jg 0 0) v (i9 (.tup<|.str x::rest)::h::z2::k) S=v (i9 (.tup<|.str x::rest)::h::i9 (.str x)::k) S:=by refine jI (j5 (jn (d:=.str x) ?_)<|by simp);show jG (.tup<|.str x::rest) (.int 0)=_;unfold jG;dsimp only;rw[show L2.kc (D.str x::rest) 0=some (.str x)from L2.tH (j:=0) rfl];try rfl
def Aj{q:Int}{s}(h:Sz s q)(d:s<=400):q.natAbs<10^400:=h.mono d
def Ac(hf:HF i)(E:uB e)(F:Fd S n A e J)(l:x∈A)(b):ju (pF a i C H B I K c b (jY 4 [.d x.d,.loc n]) S)=.ok (.d<|fr (e x).2.1 (e x).2.2) S:=by
 have h:∀j:jd,(jf (jy 3<|z2 jG (sU (zV 1)<|zD<|dV 0)<|zD<|jc 1)<|jZ<|zD<|dA i<|ba (jg 3 0)<|ba (jg 3 1) jb) [i9 x.d,i8 n,i9<|.str j,none] S=.rt (.d<|fr (e x).2.1 (e x).2.2) S:=λj=>by rw[jI<|j5 (lU (Ca F l rfl rfl) (jn (d:=.int 1) rfl) (w:=pr (e x).2.1 (e x).2.2) rfl)<|aj rfl];exact y_ret (jn<|hf _ _ (E.n x)<|Aj (E.q x)<|by decide)
 unfold pF;cases x with
 |here=>show ju (jf (jy 2 _) _ (i9 (.tup<|.str "here"::[])::i8 n::none::[none]) S)=_;rw[nU];simp(disch:=decide+kernel)only[kP];first|exact bN ju (h _)|(rw[h];rfl)
 |back k=>show ju (jf (jy 2 _) _ (i9 (.tup<|.str "back"::[.int k])::i8 n::none::[none]) S)=_;rw[nU];simp(disch:=decide+kernel)only[kP];first|exact bN ju (h _)|(rw[h];rfl)
 |on k=>show ju (jf (jy 2 _) _ (i9 (.tup<|.str "on"::[.int k])::i8 n::none::[none]) S)=_;rw[nU];simp(disch:=decide+kernel)only[kP];first|exact bN ju (h _)|(rw[h];rfl)
 |«at» w=>show ju (jf (jy 2 _) _ (i9 (.tup<|.str "at"::[.str w])::i8 n::none::[none]) S)=_;rw[nU];simp(disch:=decide+kernel)only[kP];first|exact bN ju (h _)|(rw[h];rfl)
def Tw.le{s t}(h:Tw s t):s<=381:=by induction h<;>lia
def uP{k}{l:T7}(h:x∈l.asks):x∈(T7.bin k l r).asks:=by unfold T7.asks at*;obtain⟨u,d,q⟩:=bo.mp h;exact bo.mpr ⟨u,bf _<|aX.mpr<|.inl d,q⟩
def uQ{k}{r:T7}(h:x∈r.asks):x∈(T7.bin k l r).asks:=by unfold T7.asks at*;obtain⟨u,d,q⟩:=bo.mp h;exact bo.mpr ⟨u,bf _<|aX.mpr<|.inr d,q⟩
def ot{F:jD}{t:T7}{d}{q:jQ}(k:q (kO ρ)=.ok t.d)(j:ρ[1]?=some (i8 n))(h:F [.d t.d,.loc n] S=.ok (.d d) S):zZ F (i7 (zD q)<|i7 (zV 1) jo) ρ S=.ok (.d d) S:=
 lP (jq (jn k)<|jq (k4 j) j0) h
def UI(R:Ar a i C H B I f)(E:uB e)(F:Fd S n A e J)(hm:∀x y,x∈A->y∈A->K [.d x.d,.d y.d,.loc n] S=.ok (.d<|fr ((e y).1 - (e x).1) 1) S)(V:Ask.here∈A):
    ∀m {s} {t},Tw s t->t.dep<m->(∀x∈t.asks,x∈A)->oG (FY a i C H B I K) m [.d t.d,.loc n] S=.ok (.d<|pK<|wv e t) S:=by
 intro m;induction m with
 |zero=>intro s t _ h;simp_all
 |succ m M=>
  intro s t h P z;show ju (pF a i C H B I K (oG (FY a i C H B I K) m) S.length (jY 4 [.d t.d,.loc n]) S)=_;cases h with
  |«at» w=>exact Ac (x:=.at w) R.f E F (z _<|.head _) _
  |here=>exact Ac (x:=.here) R.f E F V _
  |num U h2 T=>rename_i p q;unfold pF;show ju (jf (jy 2 _) _ (i9 (.tup<|.str "num"::[pr p q])::i8 n::none::[none]) S)=_;rw[nU];rw[ql (by decide+kernel)<|y_ret<|jn<|R.f p q U<|Aj T<|by decide];rfl
  |far k j=>
   cases k with
   |back=>exact Ac (x:=.back j) R.f E F (z _<|.head _) _
   |on=>exact Ac (x:=.on j) R.f E F (z _<|.head _) _
   |ago=>unfold pF;show ju (jf (jy 2 _) _ (i9 (.tup<|.str "ago"::[.int j])::i8 n::none::[none]) S)=_;rw[nU];rw[kP<|by decide+kernel];rw[ql (by decide+kernel)<|y_ret<|lP (jq (jn (d:=(Ask.back j).d) rfl)<|jq (jn (d:=Ask.here.d) rfl)<|jq (k4 rfl) j0)<|hm (.back j) .here (z _<|.head _) V];rfl
   |sR=>unfold pF;show ju (jf (jy 2 _) _ (i9 (.tup<|.str "until"::[.int j])::i8 n::none::[none]) S)=_;rw[nU];rw[kP<|by decide+kernel,kP<|by decide+kernel];rw[ql (by decide+kernel)<|y_ret<|lP (jq (jn (d:=Ask.here.d) rfl)<|jq (jn (d:=(Ask.on j).d) rfl)<|jq (k4 rfl) j0)<|hm .here (.on j) V<|z _<|.head _];rfl
  |add o N D O=>rename_i s r t u;have Y:max t.dep u.dep+1<m+1:=P;have l:=sS E o;have G:=sS E N;have L:=M o (by grind) λx v=>z x (uP v);have Q:=M N (by grind) λx v=>z x (uQ v);unfold pF;show ju (jf (jy 2 _) _ (i9 (.tup<|.str "+"::[t.d,u.d])::i8 n::none::[none]) S)=_;rw[nU];rw[kP<|by decide+kernel,kP<|by decide+kernel,kP<|by decide+kernel];rw[ql (by decide+kernel)<|y_ret<|l7 [pK<|wv e t,pK<|wv e u] (jq (ot (t:=t) rfl rfl L)<|jq (ot (t:=u) rfl rfl Q) j0)<|R.p (l.1.mono D) (l.2.1.mono D) (G.1.mono O) (G.2.1.mono O) l.2.2 G.2.2];rfl
  |sub o N D O=>rename_i s r t u;have Y:max t.dep u.dep+1<m+1:=P;have l:=sS E o;have G:=sS E N;have L:=M o (by lia) λx v=>z x (uP v);have Q:=M N (by lia) λx v=>z x (uQ v);unfold pF;show ju (jf (jy 2 _) _ (i9 (.tup<|.str "-"::[t.d,u.d])::i8 n::none::[none]) S)=_;rw[nU];rw[kP<|by decide+kernel,kP<|by decide+kernel,kP<|by decide+kernel,kP<|by decide+kernel];rw[ql (by decide+kernel)<|y_ret<|l7 [pK<|wv e t,pK<|wv e u] (jq (ot (t:=t) rfl rfl L)<|jq (ot (t:=u) rfl rfl Q) j0)<|R.m (l.1.mono D) (l.2.1.mono D) (G.1.mono O) (G.2.1.mono O) l.2.2 G.2.2];rfl
  |times U h2 T o D=>rename_i p q s t;have Y:t.dep+1<m+1:=P;have l:=sS E o;have L:=M o (by walk_at "l") λx v=>z x v;unfold pF;show ju (jf (jy 2 _) _ (i9 (.tup<|.str "times"::[pr p q,t.d])::i8 n::none::[none]) S)=_;rw[nU];rw[kP<|by decide+kernel,kP<|by decide+kernel,kP<|by decide+kernel,kP<|by decide+kernel,kP<|by decide+kernel];rw[ql (by decide+kernel)<|y_ret<|l7 [pr p q,pK<|wv e t] (jq (jn (d:=pr p q) rfl)<|jq (ot (t:=t) rfl rfl L) j0)<|R.t (h2.mono<|by decide) (T.mono<|by decide) (l.1.mono D) (l.2.1.mono D) U l.2.2];rfl
  |abs o=>rename_i t;have Y:t.dep+1<m+1:=P;have l:=sS E o;have L:=M o (by walk_at "l") λx v=>z x v;unfold pF;show ju (jf (jy 2 _) _ (i9 (.tup<|.str "abs"::[t.d])::i8 n::none::[none]) S)=_;rw[nU];rw[kP<|by decide+kernel,kP<|by decide+kernel,kP<|by decide+kernel,kP<|by decide+kernel,kP<|by decide+kernel,kP<|by decide+kernel];rw[ql (by decide+kernel)<|y_ret<|l7 [pK<|wv e t] (jq (ot (t:=t) rfl rfl L) j0)<|R.a l.2.2<|l.2.1.mono<|aV o.le<|by decide];rfl
variable{a:Ad}
def PH(x y:Int×Int):pY (pK x) (pK y)=.ok (.bl<|decide<|x=y):=by
 by_cases h:x=y;·subst h;rw[eq_self rfl<|by show 1<=60;decide,aR rfl]
 ·rw[PD rfl rfl (by show 1<=60;decide) (by show 1<=60;decide) λd=>h ?_,aJ h]
  grind
abbrev tf(a:Ad)(f:jA)(c:jD):(jD)->jD:=λZh zs S=>ju (yP a f c Zh S.length (jY 3 zs) S)
def Ug(R:Ar a i C H B I f)(E:uB e)(M)(w:∀{s} {t},Tw s t->t.dep<M->(∀x∈t.asks,x∈A)->c [.d t.d,.loc n] S=.ok (.d<|pK<|wv e t) S):
    ∀m {t},Cw t->t.dep<m->t.dep<M->(∀x∈t.asks,x∈A)->oG (tf a f c) m [.d t.d,.loc n] S=.ok (.d<|.bl<|hv e t) S:=by
 intro m;induction m with
 |zero=>intro t _ h;simp_all
 |succ m o=>
  intro t h L q k;show ju (yP a f c (oG (tf a f c) m) S.length (jY 3 [.d t.d,.loc n]) S)=_;unfold yP;cases h with
  |lt j l F D=>rename_i s r t u;have y:max t.dep u.dep+1<M:=q;have O:=sS E j;have N:=sS E l;show ju (jf (jy 2 _) _ (i9 (.tup<|.str "<"::[t.d,u.d])::i8 n::none::[]) S)=_;rw[nU];rw[ql (by decide+kernel)<|y_ret<|l7 [pK<|wv e t,pK<|wv e u] (jq (ot (t:=t) rfl rfl<|w j (by grind) λx d=>k x<|uP d)<|jq (ot (t:=u) rfl rfl<|w l (by grind) λx d=>k x<|uQ d) j0)<|R.u (O.1.mono F) (O.2.1.mono F) (N.1.mono D)<|N.2.1.mono D];rfl
  |eq j l F D=>rename_i s r t u;have y:max t.dep u.dep+1<M:=q;show ju (jf (jy 2 _) _ (i9 (.tup<|.str "="::[t.d,u.d])::i8 n::none::[]) S)=_;rw[nU,kP<|by decide+kernel];rw[ql (by decide+kernel)<|y_ret<|lU (ot (t:=t) rfl rfl<|w j (by lia) λx d=>k x<|uP d) (ot (t:=u) rfl rfl<|w l (by lia) λx d=>k x<|uQ d)<|PH (wv e t)<|wv e u];rfl
  |not j=>
   rename_i t;have y:t.dep+1<m+1:=L;have v:t.dep+1<M:=q;have p:=o j (by walk_at "l") (by walk_at "l") λx d=>k x d;show ju (jf (jy 2 _) _ (i9 (.tup<|.str "not"::[t.d])::i8 n::none::[]) S)=_;rw[nU,kP<|by decide+kernel,kP<|by decide+kernel];have z:Am (zZ (oG (tf a f c) m)<|i7 (zD<|jg 0 1)<|i7 (zV 1) jo) (i9 (.tup<|.str "not"::[t.d])::i8 n::i9 (.str "not")::[]) S=.ok (.d<|.bl<|!hv e t) S:=by unfold Am;rw[ot (t:=t) rfl rfl p];rfl
   rw[ql (by decide+kernel)<|y_ret z];rfl
  |and j l=>
   rename_i t u;have y:max t.dep u.dep+1<m+1:=L;have v:max t.dep u.dep+1<M:=q;have p:=o j (by grind) (by lia) λx d=>k x (uP d);have G:=o l (by grind) (by lia) λx d=>k x (uQ d);show ju (jf (jy 2 _) _ (i9 (.tup<|.str "and"::[t.d,u.d])::i8 n::none::[]) S)=_;rw[nU,kP<|by decide+kernel,kP<|by decide+kernel,kP<|by decide+kernel];have z:Ak (zZ (oG (tf a f c) m)<|i7 (zD<|jg 0 1)<|i7 (zV 1) jo) (zZ (oG (tf a f c) m)<|i7 (zD<|jg 0 2)<|i7 (zV 1) jo) (i9 (.tup<|.str "and"::[t.d,u.d])::i8 n::i9 (.str "and")::[]) S=.ok (.d<|.bl<|hv e t&&hv e u) S:=by
    unfold Ak;rw[ot (t:=t) rfl rfl p];show(if hv e t=true then _ else _)=_;cases hv e t with
    |true=>rw[au rfl,ot (t:=u) rfl rfl G];rfl
    |false=>rw[ax ay];rfl
   rw[ql (by decide+kernel)<|y_ret z];rfl
  |or j l=>
   rename_i t u;have y:max t.dep u.dep+1<m+1:=L;have v:max t.dep u.dep+1<M:=q;have p:=o j (by lia) (by lia) λx d=>k x (uP d);have G:=o l (by lia) (by lia) λx d=>k x (uQ d);show ju (jf (jy 2 _) _ (i9 (.tup<|.str "or"::[t.d,u.d])::i8 n::none::[]) S)=_;rw[nU,kP<|by decide+kernel,kP<|by decide+kernel,kP<|by decide+kernel,kP<|by decide+kernel];have z:An (zZ (oG (tf a f c) m)<|i7 (zD<|jg 0 1)<|i7 (zV 1) jo) (zZ (oG (tf a f c) m)<|i7 (zD<|jg 0 2)<|i7 (zV 1) jo) (i9 (.tup<|.str "or"::[t.d,u.d])::i8 n::i9 (.str "or")::[]) S=.ok (.d<|.bl<|hv e t||hv e u) S:=by
    unfold An;rw[ot (t:=t) rfl rfl p];show(if hv e t=true then _ else _)=_;cases hv e t with
    |true=>rw[au rfl];rfl
    |false=>rw[ax ay,ot (t:=u) rfl rfl G];rfl
   rw[y_ret z];rfl
end
variable{a:Ad}
section
variable{i:Type}[DecidableEq i]{c:aa<|i×Z}{k f:i}{v:Z}
def uv(x):valZ (x::c) k=if x.1=k then some x.2 else valZ c k:=by
 unfold valZ;by_cases h:x.1=k;·rw[List.find?_cons_of_pos<|by simpa using h,au h];rfl
 ·rw[List.find?_cons_of_neg<|by simpa using h,ax h]
def abF(x):valZ (c++[x]) k=(match valZ c k with|some z=>some z|none=>if x.1=k then some x.2 else none):=by
 induction c with
 |nil=>exact uv x
 |cons y r d=>
  rw[eK,uv,uv];by_cases h:y.1=k;·rw[au h,au h]
  ·rw[ax h,ax h,d]
def abG(h:(c.any λd=>decide<|d.1=k)=false):valZ c k=none:=by unfold valZ;rw[List.find?_eq_none.mpr λx j=>by simpa using b9.mp h x j];rfl
def vE:valZ (kx c k v) f=if k=f then some v else valZ c f:=by
 unfold kx;cases h:c.any λl=>decide (l.1=k)with
 |false=>
  rw[ax ay,abF];by_cases e:k=f;·subst e;rw[abG h,au rfl];try rfl
  ·rw[ax e];cases valZ c f<;>simp[e]
 |true=>
  rw[au rfl];by_cases e:k=f
  ·subst e;rw[au rfl];induction c with
   |nil=>cases h
   |cons x r j=>
    rw[aW,uv];by_cases d:x.1=k;·rw[au d,au d]
    ·rw[ax d,ax d];rw[fU,aJ d,Bool.false_or]at h;exact j h
  ·rw[ax e];clear h;induction c with
   |nil=>rfl
   |cons x r j=>
    rw[aW,uv,uv,j];by_cases d:x.1=k;·rw[au d,ax<|show¬(x.1,v).1=f from λw=>e<|d.symm.trans w,ax λw=>e<|d.symm.trans w]
    ·rw[ax d]
def Jx:(kx c k v).length<=c.length+1:=by
 unfold kx;split;·rw[ao];simp
 ·rw[aq];exact ai _
def CO{n}(h:((kx c k v).any λp=>mR n p.2)=true):(c.any λp=>mR n p.2)=true\/mR n v=true:=by
 obtain⟨x,d,q⟩:=eH.mp h;unfold kx at d;split at d
 ·obtain⟨y,j,rfl⟩:=aO.mp d;by_cases e:y.1=k;·rw[au e]at q;exact .inr q
  ·rw[ax e]at q;exact .inl (eH.mpr ⟨y,j,q⟩)
 ·rcases aX.mp d with d|d;·exact .inl (eH.mpr ⟨x,d,q⟩)
  ·rw[aI]at d;subst d;exact .inr q
end
abbrev oS(S:jt)(j:Nat):Prop:=S.any (kI j)=false
def m9(S:jt):Prop:=∀j,S.length<=j->oS S j
def qU(h:oS S j)(d:kI j c=false):oS (S++[c]) j:=by show(S++[c]).any (kI j)=false;rw[iw,h];simpa using d
def nV{n}(h:oS S j)(f:kI j c=false):oS (S.set n c) j:=
 b9.mpr λx d=>by
  rcases List.mem_or_eq_of_mem_set d with d|d;·exact b9.mp h x d
  ·subst d;rw[f];exact ay
def mC(L:j7)(j):kI j (.li<|L.map Z.d)=false:=by show(L.map Z.d).any (mR j)=false;rw[ip];exact b9.mpr λ_ _=>nofun
structure Gr(S S':jt):Prop where
 len:S.length<=S'.length
 pre:∀j,j<S.length->S'[j]?=S[j]?
 sf:∀j,j<S.length->oS S j->oS S' j
 bnd:m9 S->m9 S'
def Gr.trans(g:Gr S S1)(h:Gr S1 S2):Gr S S2:=⟨aV g.len h.len,λj c=>(h.pre j<|aE c g.len).trans (g.pre j c),λj c s=>h.sf j (aE c g.len)<|g.sf j c s,λb=>h.bnd<|g.bnd b⟩
def Gr.app(f:∀j,kI j c=false):Gr S (S++[c]):=⟨by rw[aq];exact cO ..,λj d=>aA d,λj _ h=>qU h<|f j,λb j d=>qU (b j<|by rw[aq]at d;walk_at "l")<|f j⟩
def Gr.get{S S':jt}{n:Nat}{c:Cell}(g:Gr S S')(h:S[n]?=some c):S'[n]?=some c:=(g.pre n (aC.mp h).1).trans h
def uu{n}(h:n<100000):n<sizeLine:=aE h (by decide)
def m5(S:jt)(c:Cell):(S++[c])[S.length]?=some c:=by simp
def m6{S:jt}{n:Nat}{c:Cell}(h:S[n]?=some c):n<S.length:=(aC.mp h).1
section
variable{ρ:jP}{S c e j:jt}{f g h:jE}{i n:Nat}{z:Z}{q:jQ}
def As{fs}(h:f ρ S=.ok (.loc n) S)(k:S[n]?=some (.ob C fs))(d:fs.lookup x=some z):qw C f x ρ S=.ok z S:=by
 unfold qw;rw[h]
 show(match S[n]? with
  |some (.ob l fs)=>if l=C then(match fs.lookup x with
   |some z=>RX.ok z S
   |none=>.bad)else .bad
  |_=>.bad)=_
 rw[k];show(if C=C then _ else _)=_;rw[au rfl,d]
def xQ{fs:n6}{ds:j7}{k}(h:fs ρ S=.ok (ds.map Z.d) S)(l:lL ds=some k)(m:k.length<1000):qx fs ρ S=.ok (.tk k) S:=by
 unfold qx;rw[h]
 show(match(lY (ds.map Z.d)).bind lL with
  |some d=>if d.length<=sizeLine then RX.ok (Z.tk d) S else .bad
  |none=>.bad)=_
 rw[tG]
 show(match lL ds with
  |some d=>if d.length<=sizeLine then RX.ok (Z.tk d) S else .bad
  |none=>.bad)=_
 rw[l];exact au (dS<|uu<|by walk_at "l")
def abU{d k}(h:f ρ S=.ok (.d d) S)(m:sG d=some k):Al f ρ S=.ok (.tk k) S:=by
 unfold Al;rw[h]
 show(match sG d with
  |some l=>RX.ok (Z.tk l) S
  |none=>.bad)=_
 rw[m]
def E6{k}(h:f ρ S=.ok (.loc n) S)(d:S[n]?=some (.dt kvs))(l:g ρ S=.ok (.tk k) S):vH f g ρ S=.ok ((valZ kvs k).getD (.d .non)) S:=by
 unfold vH;rw[h]
 show(match S[n]? with
  |some (.dt _)=>(g ρ S).bind λy e=>(match y,e[n]? with
   |.tk k,some (.dt kvs)=>RX.ok ((valZ kvs k).getD (.d .non)) e
   |_,_=>.bad)
  |_=>.bad)=_
 rw[d];show((g ρ S).bind _)=_;rw[l]
 show(match Z.tk k,S[n]? with
  |.tk k,some (.dt kvs)=>RX.ok ((valZ kvs k).getD (.d .non)) S
  |_,_=>.bad)=_
 rw[d]
def abX{d k}(h:f ρ S=.ok (.loc n) S)(l:q (kO ρ)=.ok d)(m:og d=some k)(o:S[n]?=some (.dk kvs))(hv:valZ kvs k=some z):xJ f q ρ S=.ok z S:=by
 unfold xJ;rw[h];show((lJ (q<|kO ρ) S).bind _)=_;rw[l]
 show(match Z.loc n,og d with
  |.loc n,some k=>(match S[n]? with
   |some (.dk kvs)=>(match valZ kvs k with
    |some z=>RX.ok z S
    |none=>.bad)
   |_=>.bad)
  |_,_=>.bad)=_
 rw[m]
 show(match S[n]? with
  |some (.dk kvs)=>(match valZ kvs k with
   |some z=>RX.ok z S
   |none=>.bad)
  |_=>.bad)=_
 rw[o]
 show(match valZ kvs k with
      |some z=>RX.ok z S
      |none=>.bad)=_
 rw[hv]
def E1{k}(m:h ρ S=.ok z S)(hf:f ρ S=.ok (.loc n) S)(l:g ρ S=.ok (.tk k) S)(o:S[n]?=some (.dt kvs))(d:kvs.length<100000):uw f g h ρ S=.nx ρ (S.set n<|.dt<|kx kvs k z):=by
 unfold uw;rw[m];show toZ (f ρ S) _=_;rw[hf];show toZ (g ρ S) _=_;rw[l]
 show(match S[n]? with
  |some (.dt kvs)=>if kvs.length<sizeLine then lX.nx ρ (S.set n<|.dt<|kx kvs k z)else .bad
  |_=>.bad)=_
 rw[o];exact au (uu d)
def vG(k:ρ[i]?=some (i8 n))(m:S[n]?=some (.li zs))(hf:f ρ S=.ok z c)(l:c[n]?=some (.li MM))(d:MM.length<100000):o9 i f ρ S=.nx ρ (c.set n<|.li<|MM++[z]):=by
 unfold o9;rw[k]
 show(match S[n]? with
  |some (.li _)=>toZ (f ρ S) λz c=>(match c[n]? with
   |some (.li zs)=>if zs.length<sizeLine then lX.nx ρ (c.set n<|.li<|zs++[z])else .bad
   |_=>.bad)
  |_=>.bad)=_
 rw[m];show toZ (f ρ S) _=_;rw[hf]
 show(match c[n]? with
  |some (.li zs)=>if zs.length<sizeLine then lX.nx ρ (c.set n<|.li<|zs++[z])else .bad
  |_=>.bad)=_
 rw[l];exact au (uu d)
def xE{L:j7}(l:S[n]?=some (.li<|L.map Z.d)):oN S (i8 n)=jO L:=by
 show(match S[n]? with
  |some (.li k)=>(match lY k with
   |some d=>Sl.sh (.lst d)
   |none=>.no)
  |_=>.no)=_
 rw[l]
 show(match lY (L.map Z.d)with
  |some d=>Sl.sh (.lst d)
  |none=>.no)=_
 rw[tG]
end
variable{a:Ad}
structure Rd where
 m:jd
 t:Int
 p:Int
 q:Int
def Rd.d(r:Rd):D:=.tup [.str r.m,.int r.t,pr r.p r.q]
def own(c:aa Rd)(m:jd):aa Rd:=c.filter λr=>decide (r.m=m)
def qj:aa Rd->jd->Int->jm Nat
 |[],_,_=>none
 |r::l,m,t=>if r.m=m/\r.t=t then some (own l m).length else qj l m t
def place(c:aa Rd)(m:jd)(t:Int):jm Nat:=qj c.reverse m t
def Ea(l:aa Rd)(m):(own l.reverse m).length=(own l m).length:=by unfold own;simp
def zC(row r m):own (row++[r]) m=own row m++(if r.m=m then[r]else[]):=by
 unfold own
 grind
def Xx(row r m)(t:Int):place (row++[r]) m t=if r.m=m/\r.t=t then some (own row m).length else place row m t:=by unfold place;rw[List.reverse_append];show(if r.m=m/\r.t=t then some (own row.reverse m).length else qj row.reverse m t)=_;rw[Ea]
def Xy{t:Int}(h:place row m t=some i):∃r,(own row m)[i]?=some r/\r.t=t/\r.m=m:=by
 unfold place at h;rw[<-List.reverse_reverse row];generalize row.reverse=l at h;induction l with
 |nil=>cases h
 |cons r l c=>
  rw[List.reverse_cons,zC];unfold qj at h;split at h
  ·rename_i w;cases h;refine⟨r,?_,w.2,w.1⟩;rw[au w.1,<-Ea];simp
  ·grind
def Ask.tZ(r:Rd):Ask->jd
 |.at w=>w
 |_=>r.m
def Ask.to(i:Int):Ask->Int
 |.back n=>i - n
 |.on n=>i+n
 |_=>i
noncomputable def see(c:aa Rd)(r:Rd)(k:Ask):jm Rd:=match place c (k.tZ r) r.t with
 |none=>none
 |some i=>if 0<=k.to i/\k.to i<(own c<|k.tZ r).length then(own c<|k.tZ r)[(k.to i).toNat]? else none
def xv:jm Rd->D
 |none=>.non
 |some r=>r.d
def ZX{s k}(h:see row r k=some s):s∈row:=by
 unfold see at h;split at h;·cases h
 ·split at h;·exact(aL.mp<|bp h).1
  ·cases h
abbrev pk(m:jd)(t:Int):aa Key:=[.inr m,.inl t]
abbrev _root_.yo:=jd->jm Nat
structure Sg(a:Ad)(S:jt)(n hi nm np:Nat)(M:aa<|Key×Z)(P:oy)(lc:yo)(row:aa Rd):Prop where
 b1:n<nm
 b2:nm<hi
 b3:n<np
 b4:np<hi
 b5:nm≠np
 ob:S[n]?=some (.ob a.Sight [("masts",.loc nm),("places",.loc np)])
 mc:S[nm]?=some (.dk M)
 pc:S[np]?=some (.dt P)
 vp:∀m t,valZ P (pk m t)=(place row m t).map λi=>Z.d (.int i)
 vm:∀m:jd,valZ M (.inr m)=(lc m).map Z.loc
 no:∀m,lc m=none->own row m=[]
 li:∀m q,lc m=some q->n<q/\q<hi/\q≠nm/\q≠np/\S[q]?=some (.li<|(own row m).map λr=>Z.d r.d)
 ij:∀m m' q,lc m=some q->lc m'=some q->m=m'
 hm:∀j,kI j (.dk M)=true->n<j/\j<hi
 hp:∀j,kI j (.dt P)=false
section
variable{S v:jt}{n p l f:Nat}{M:aa<|Key×Z}{P:oy}{lc:yo}{c:aa Rd}
def Sg.mv(g:Sg a S n p l f M P lc c)(h:∀j,n<=j->j<p->v[j]?=S[j]?):Sg a v n p l f M P lc c:=
 {g with
  ob:=by have:=g.b1;have:=g.b2;rw[h n (ai _)<|by lia];exact g.ob
  mc:=by have:=g.b1;rw[h l (by walk_at "l") g.b2];exact g.mc
  pc:=by have:=g.b3;rw[h f (by walk_at "l") g.b4];exact g.pc
  li:=λm q e=>by obtain⟨r,d,o,k,i⟩:=g.li m q e;exact⟨r,d,o,k,by rw[h q (by walk_at "l") d];exact i⟩}
def Ask.Sv:Ask->jk
 |.back _=>true
 |_=>false
def Ask.tV:Ask->jk
 |.on _=>true
 |_=>false
def Lf(x:Ask):zB (b1 tB<|d2 jW (jg 2 0)<|jF "back") (s0::s1::i9 x.d::s3) S=.ok x.Sv S:=by cases x<;>kernel_rfl
def Li(x:Ask):zB (b1 tB<|d2 jW (jg 2 0)<|jF "on") (s0::s1::i9 x.d::s3) S=.ok x.tV S:=by cases x<;>kernel_rfl
def Yp(r:Rd)(x:Ask):zD (wq (b1 tB<|d2 jW (jg 2 0)<|jF "at") (jg 2 1)<|jg 1 0) (s0::i9 r.d::i9 x.d::s3) S=.ok (.d<|.str<|x.tZ r) S:=by cases x<;>kernel_rfl
def Us(g:Sg a S n p l f M P lc c)(r:Rd)(x:Ask)(b):
    ju (B6 a b (jY 6 [.loc n,.d r.d,.d x.d]) S)=.ok (.d<|xv<|see c r x) S:=by
 unfold B6;show ju (jf (jy 3 _) _ [i8 n,i9 r.d,i9 x.d,none,none,none] S)=_;rw[jI<|j5 (Yp r x)<|aj rfl];show ju (jf (jy 4 _) _ [i8 n,i9 r.d,i9 x.d,i9<|.str<|x.tZ r,none,none] S)=_;generalize N:x.tZ r=m;rw[jI<|j5 (E6 (As (k4 rfl) g.ob rfl) g.pc<|xQ (ds:=[.str m,.int r.t]) (jq (jn rfl)<|jq (jn rfl) j0) rfl (by decide:2<1000))<|aj rfl];rw[g.vp];unfold see;rw[N];cases A:place c m r.t with
 |none=>show ju (jf _ _ [i8 n,i9 r.d,i9 x.d,i9<|.str m,i9 .non,none] S)=_;rw[Ai (E8<|k4 (z:=.d .non) rfl)<|y_ret<|jn (d:=.non) rfl];rfl
 |some i=>
  show ju (jf _ _ [i8 n,i9 r.d,i9 x.d,i9<|.str m,ji i,none] S)=_;rw[mT<|E8<|k4 (z:=.d<|.int i) rfl];obtain⟨O,I,T,Q⟩:=Xy A;have C:lc m≠none:=λw=>by rw[g.no m w]at I;cases I
  obtain⟨q,G⟩:=Option.ne_none_iff_exists'.mp C;obtain⟨_,_,_,_,F⟩:=g.li m q G;have s:S[q]?=some (.li<|((own c m).map Rd.d).map Z.d):=by rw[bh];exact F
  have L:valZ M (.inr m)=i8 q:=by rw[g.vm,G];rfl
  generalize u:x.to (i:Int)=j
  have h:(jf (jy 5 (xJ (qw a.Sight (zV 0) "masts") (dV 3)))
   (jZ (zR (wq (b1 tB (su Dv lH (jc 0) (dV 4) (dA lR (ba (dV 5) jb)))) (d2 jG (dV 5) (dV 4)) (dC .non))))) [i8 n,i9 r.d,i9 x.d,i9 (.str m),ji j,none] S
   =.rt (.d<|xv<|if 0<=j/\j<(own c m).length then(own c m)[j.toNat]? else none) S:=by
   rw[jI<|j5 (abX (As (k4 rfl) g.ob rfl) (d:=.str m) rfl rfl g.mc L)<|aj rfl];show jZ _ [i8 n,i9 r.d,i9 x.d,i9<|.str m,ji j,i8 q] S=_;have hv:vw S [i8 n,i9 r.d,i9 x.d,i9<|.str m,ji j,i8 q]=[oN S<|i8 n,.sh r.d,.sh x.d,oJ m,j9 j,jO<|(own c m).map Rd.d]:=by show[oN S<|i8 n,Sl.sh r.d,.sh x.d,oJ m,j9 j,oN S<|i8 q]=_;rw[xE s]
   refine y_ret (vL (d:=xv<|if 0<=j/\j<(own c m).length then(own c m)[j.toNat]? else none) ?_ ?_)
   ·rw[hv]
    show((((R.ok (D.bl (decide (0<=j)))).bind λz=>match z with
     |.bl true=>(R.ok<|D.int ((own c m).map Rd.d).length).bind λw=>lH (.int j) w
     |.bl false=>.ok (.bl false)
     |_=>.bad).bind tB).bind λk=>if k=true then jG (.lst ((own c m).map Rd.d)) (.int j)else R.ok .non)=_
    rw[ao];by_cases t:0<=j
    ·rw[aR t];show(if decide (j<((own c m).length:Int))=true then jG (.lst<|(own c m).map Rd.d) (.int j)else R.ok .non)=_;by_cases y:j<((own c m).length:Int)
     ·rw[au<|aR y,au ⟨t,y⟩];have o:j.toNat<(own c m).length:=by simp_all
      have e:((own c m).map Rd.d)[j.toNat]?=some ((own c m)[j.toNat]).d:=by rw[aH,ar o];rfl
      have J:=L2.tH e;rw[Int.toNat_of_nonneg t]at J
      show(match L2.kc ((own c m).map Rd.d) j with
       |some d=>R.ok d
       |none=>.bad)=_
      rw[J,ar o];rfl
     ·rw[ax<|by simpa using y,ax λw=>y w.2];rfl
    ·rw[aJ t,ax λw=>t w.1];rfl
   ·split;·cases(own c m)[j.toNat]?<;>rfl
    ·rfl
  cases x with
  |here=>rw[mT<|Lf (x:=.here),mT<|Li (x:=.here)];subst u;rw[show(Ask.here).to (i:Int)=(i:Int)from rfl]at h;exact bN ju h
  |«at» w=>rw[mT<|Lf (x:=.at w),mT<|Li (x:=.at w)];subst u;exact bN ju h
  |back k=>subst u;exact bN ju h
  |on k=>subst u;exact bN ju h
end
variable{a:Ad}
def y9{y:Ask}(h:x.k=y.k):x=y:=by cases x<;>cases y<;>simp[Ask.k]at h<;>first|rfl|(subst h;rfl)|(exact absurd h (by decide+kernel))|(exact absurd h.1 (by decide+kernel))|(obtain⟨c,d⟩:=h;exact absurd c (by decide+kernel))
abbrev encP(p:Ask×Rd):aa Key×Z:=(p.1.k,Z.d p.2.d)
structure Seen(row:aa Rd)(r:Rd)(A:nP)(B:aa<|Ask×Rd):Prop where
 mem:∀p,p∈B↔p.1∈A/\see row r p.1=some p.2
 len:B.length<=A.length
def Z9{c}{r:Rd}{B:aa<|Ask×Rd}(h:∀p∈B,see c r p.1=some p.2){k}{s}(d:(k,s)∈B):valZ (B.map encP) k.k=i9 s.d:=by
 induction B with
 |nil=>cases d
 |cons p B f=>
  rw[aW,uv];by_cases e:p.1=k;·grind
  ·rw[ax λw=>e<|y9 w]
   grind
def Z8{c}{r:Rd}{B:aa<|Ask×Rd}(h:∀p∈B,see c r p.1=some p.2){k}{s}(n:see c r k=some s):∃f:aa (Ask×Rd),kx (B.map encP) k.k (.d s.d)=f.map encP/\(∀p,p∈f↔p∈B\/p=(k,s))/\f.length<=B.length+1:=by
 unfold kx;cases q:(B.map encP).any λi=>decide (i.1=k.k)with
 |false=>rw[ax ay];exact⟨B++[(k,s)],by rw[bM];rfl,λp=>by simp,by simp⟩
 |true=>
  rw[au rfl];obtain⟨y,j,e⟩:=eH.mp q;obtain⟨p,l,rfl⟩:=aO.mp j;have o:p.1=k:=y9 (bx e);have d:p=(k,s):=by grind
  refine⟨B,?_,λx=>⟨.inl,λw=>w.elim id λw=>by rw[w,<-d];exact l⟩,c6 _⟩;rw[bh];refine dN λx m=>?_;show(if(encP x).1=k.k then((encP x).1,Z.d s.d)else encP x)=encP x;by_cases w:(encP x).1=k.k
  ·rw[au w];have ex:x.1=k:=y9 w
   grind
  ·rw[ax w]
def Jj(x:Ask):sG x.d=some x.k:=by cases x<;>rfl
def S5(x:Ask):D.tup (x.k.map kD)=x.d:=by cases x<;>rfl
def Pb(B:aa κ)(f:κ->aa Key×D)(j):kI j (.dt<|B.map λp=>((f p).1,Z.d (f p).2))=false:=by show(B.map λp=>((f p).1,Z.d (f p).2)).any (λp=>mR j p.2)=false;rw[ip];exact b9.mpr λ_ _=>nofun
def HC(B:aa<|Ask×Rd)(j):kI j (.dt<|B.map encP)=false:=Pb B (λp=>(p.1.k,p.2.d)) j
section
variable{S v:jt}{n y H E:Nat}{M:aa<|Key×Z}{P:oy}{lc:yo}{l:aa Rd}{m:jD}
def Fh{fs}(h:f ρ S=.ok (.loc n) S)(k:S[n]?=some (.ob C fs))(j:fs.lookup mn=none)(d:fz ρ S=.ok zs v)(i:F (.loc n::(zs++[])) v=x):xO C mn F [] f fz ρ S=x:=by
 unfold xO;rw[h]
 show(match S[n]? with
  |some (.ob p c)=>if p=C/\c.lookup mn=none then(fz ρ S).bind λzs o=>F (.loc n::(zs++[].map Z.d)) o else .bad
  |_=>.bad)=_
 rw[k];show(if C=C/\fs.lookup mn=none then _ else _)=_;rw[au ⟨rfl,j⟩,d];exact i
def qV(S:jt)(c c'):(S++[c]).set S.length c'=S++[c']:=by simp
def Z7(U:∀v,Sg a v n y H E M P lc l->∀r k,m [.loc n,.d r.d,.d k.d] v=.ok (.d<|xv<|see l r k) v)(g:Sg a S n y H E M P lc l)(hl:y<=S.length)(r:Rd)(A:D):∀(c:nP) (B:aa<|Ask×Rd) (q i:lA),(∀p∈B,see l r p.1=some p.2)->B.length+c.length<=10000->
    (∃k∈c,see l r k=none)/\(∃f:aa<|Ask×Rd,k6 (hV 4) (qK a m) (c.map Ask.d) [i8 n,i9 r.d,i9 A,i8 S.length,q,i] (S++[.dt<|B.map encP])=.rt (.d .non) (S++[.dt<|f.map encP]))
    \/(∀k∈c,∃s,see l r k=some s)/\∃(f:aa<|Ask×Rd) (x u:lA),(∀p,p∈f↔p∈B\/(p.1∈c/\see l r p.1=some p.2))/\f.length<=B.length+c.length/\k6 (hV 4) (qK a m) (c.map Ask.d) [i8 n,i9 r.d,i9 A,i8 S.length,q,i] (S++[.dt<|B.map encP])=.nx [i8 n,i9 r.d,i9 A,i8 S.length,x,u] (S++[.dt<|f.map encP]):=by
 intro c;induction c with
 |nil=>intro B q i _ _;exact .inr ⟨(λ_ h=>nomatch h),B,q,i,λp=>⟨.inl,λw=>w.elim id<|λw=>nomatch w.1⟩,ai _,rfl⟩
 |cons k c Q=>
  intro B q i J R;rw[aw]at R;have O:Sg a (S++[.dt<|B.map encP]) n y H E M P lc l:=g.mv λj _ hj=>aA (by walk_at "l")
  have step:qK a m [i8 n,i9 r.d,i9 A,i8 S.length,i9 k.d,i] (S++[.dt (B.map encP)])=(match see l r k with
   |none=>.rt (.d .non) (S++[.dt<|B.map encP])
   |some s=>.nx [i8 n,i9 r.d,i9 A,i8 S.length,i9 k.d,i9 s.d] (S++[.dt (kx (B.map encP) k.k (.d s.d))])):=by
   unfold qK;rw[jI<|j5 (Fh (k4 rfl) O.ob (by kernel_rfl) (jq (jn (d:=r.d) rfl)<|jq (jn (d:=k.d) rfl) j0)<|U _ O r k)<|aj rfl];cases see l r k with
   |none=>rfl
   |some s=>show jf _ _ [i8 n,i9 r.d,i9 A,i8 S.length,i9 k.d,i9 s.d] _=_;rw[mT<|E8<|k4 (z:=.d s.d) rfl];rw[E1 (jn (d:=s.d) rfl) (k4 rfl) (abU (jn (d:=k.d) rfl)<|Jj k) (m5 S _)<|by rw[ao];lia,qV]
  show(∃t∈k::c,see l r t=none)/\(∃f,oM (qK a m [i8 n,i9 r.d,i9 A,i8 S.length,i9 k.d,i]<|S++[.dt<|B.map encP]) _=_)\/(_/\∃f x u,_/\_/\oM (qK a m [i8 n,i9 r.d,i9 A,i8 S.length,i9 k.d,i]<|S++[.dt<|B.map encP]) _=_);cases o:see l r k with
  |none=>rw[o]at step;rw[show qK a m _ _=_ from step];exact .inl ⟨⟨k,.head _,o⟩,B,rfl⟩
  |some s=>
   rw[o]at step;rw[show qK a m _ _=lX.nx _ _ from step];obtain⟨f,e1,Y,e3⟩:=Z8 J o;rw[e1];have F:∀p∈f,see l r p.1=some p.2:=λp T=>by
    rcases(Y p).mp T with w|w;·exact J p w
    ·rw[w];exact o
   rcases Q f (i9 k.d) (i9 s.d) F (by lia)with⟨⟨t,G,N⟩,I,L⟩|⟨G,I,x,u,N,L,V⟩;·exact .inl ⟨⟨t,.tail _ G,N⟩,I,L⟩
   ·refine .inr ⟨λt C=>?_,I,x,u,λp=>?_,by rw[aw];lia,V⟩
    ·rcases az.mp C with rfl|C;·exact⟨s,o⟩
     ·exact G t C
    ·grind
def Uy(f:∀v,Sg a v n y H E M P lc l->∀r k,m [.loc n,.d r.d,.d k.d] v=.ok (.d<|xv<|see l r k) v)(g:Sg a S n y H E M P lc l)(i:y<=S.length)(r)(A)(j:A.length<=10000)(b):
    (∃k∈A,see l r k=none)/\(∃B:aa<|Ask×Rd,ju (yM a m b (jY 6 [.loc n,.d r.d,.d<|.lst<|A.map Ask.d]) S)=.ok (.d .non) (S++[.dt<|B.map encP]))
    \/(∀k∈A,∃s,see l r k=some s)/\∃B:aa (Ask×Rd),Seen l r A B/\ju (yM a m b (jY 6 [.loc n,.d r.d,.d<|.lst<|A.map Ask.d]) S)=.ok (.loc S.length) (S++[.dt<|B.map encP]):=by
 have t:yM a m b (jY 6 [.loc n,.d r.d,.d<|.lst<|A.map Ask.d]) S=jf (λρ S=>k6 (hV 4) (qK a m) (A.map Ask.d) ρ S) (jZ<|zV 3) [i8 n,i9 r.d,jj<|A.map Ask.d,i8 S.length,none,none] (S++[.dt<|([]:aa<|Ask×Rd).map encP]):=rfl;rw[t];rcases Z7 f g i r (.lst (A.map Ask.d)) A [] none none (λ_ h=>nomatch h) (by simpa using j)with⟨d,B,c⟩|⟨d,B,x,u,c,q,o⟩;·exact .inl ⟨d,B,by rw[qv c];rfl⟩
 ·refine .inr ⟨d,B,⟨λp=>(c p).trans ⟨λw=>w.elim (λw=>nomatch w) id,.inr⟩,by simpa using q⟩,?_⟩;rw[jI o,y_ret<|k4 rfl];rfl
variable{a:Ad}
variable{S0:jt}{ρ vM:jP}{e f g:jE}{z:Z}
theorem JD{u}:∀(L:aa β) (acc:aa Z),(∀p∈L,∀c,e (vM.set 0<|some<|u p) (S0++[.li c])=.ok (h p) (S0++[.li c]))->acc.length+L.length<100000->
 qy qA e vM S0.length (L.map u) (S0++[.li acc])=.ok (.loc S0.length) (S0++[.li<|acc++L.map h])
 |[],acc,_,_=>by rw[dr,dr,bz];rfl
 |p::L,acc,i,k=>by
  rw[aw]at k;rw[aW];unfold qy
  show(match e (vM.set 0 (some (u p))) (S0++[.li acc])with
   |.ok z j=>(match j[S0.length]? with
    |some (.li d)=>if d.length<sizeLine then qy qA e vM S0.length (L.map u) (j.set S0.length<|.li<|d++[z])else .bad
    |_=>.bad)
   |_=>.bad)=_
  rw[i p (.head _) acc]
  show(match(S0++[Cell.li acc])[S0.length]? with
   |some (.li d)=>if d.length<sizeLine then qy qA e vM S0.length (L.map u) ((S0++[Cell.li acc]).set S0.length (.li<|d++[h p]))else .bad
   |_=>RX.bad)=_
  rw[m5];show(if acc.length<sizeLine then _ else _)=_;rw[au<|uu<|by lia,qV,JD L (acc++[h p]) (λq o=>i q<|.tail _ o)<|by rw[aq];simp;lia,bP];rfl
def G5{u}{L:aa β}{pick:yj}(hf:f ρ S=.ok (.loc n) S)(d:S[n]?=some (.dt kvs))(t:S[0]?=some .mk)(r:pick kvs=L.map u)
 (s:∀p∈L,∀c,e ((mQ ci ρ).set 0 (some<|u p)) (S.set n (.ft kvs)++[.li c])=.ok (h p) (S.set n (.ft kvs)++[.li c]))(o:L.length<100000):rR pick f ci qA e ρ S=.ok (.loc S.length) (S++[.li<|L.map h]):=by
  unfold rR;rw[hf]
  show(match S[n]?,(S[0]?:jm Cell)with
   |some (.dt kvs),some Cell.mk=>Ap n kvs (qy qA e (mQ ci ρ) S.length (pick kvs)<|S.set n (.ft kvs)++[Cell.li []])
   |_,_=>RX.bad)=_
  rw[d,t];show Ap n kvs (qy qA e (mQ ci ρ) S.length (pick kvs)<|S.set n (.ft kvs)++[Cell.li []])=_;have k:=m6 d;have j:=JD (S0:=S.set n<|.ft kvs) (vM:=mQ ci ρ) (e:=e) (u:=u) (h:=h) L [] s (by simpa using o);rw[aT]at j;rw[r,j];show RX.ok (Z.loc S.length) ((S.set n (.ft kvs)++[Cell.li<|[]++L.map h]).set n (.dt kvs))=_;rw[List.set_append_left _ _<|by rw[aT];exact k,List.set_set,gc];have:S.set n (.dt kvs)=S:=by
   apply List.ext_getElem?;intro i;by_cases q:n=i;·subst q;rw[aF k,d]
   ·rw[av q]
  rw[this]
def abW{k}(h:f ρ S=.ok (.loc n) S)(c:g ρ S=.ok (.d<|.tup ds) S)(d:lL ds=some k)(i:S[n]?=some (.ft kvs))(hv:valZ kvs k=some z):sV f g ρ S=.ok z S:=by
 unfold sV;rw[h];show((g ρ S).bind _)=_;rw[c]
 show(match lL ds,S[n]? with
  |some k,some (.ft kvs)=>(match valZ kvs k with
   |some z=>RX.ok z S
   |none=>.bad)
  |_,_=>.bad)=_
 rw[d,i]
 show(match valZ kvs k with
  |some z=>RX.ok z S
  |none=>.bad)=_
 rw[hv]
end
def nD(s:Rd):D:=.tup [.int s.t,pr s.p s.q]
theorem HY{d}:∀(c:aa<|aa Key×D) (acc:oy),(∀q∈c,q.1=key->q.2=d)->((∃q∈c,q.1=key)\/valZ acc key=i9 d)->valZ (c.foldl (λa p=>kx a p.1<|.d p.2) acc) key=i9 d
 |[],acc,_,h=>h.elim (λ⟨_,w,_⟩=>nomatch w) id
 |q::c,acc,f,h=>by
  rw[eV];refine HY c _ (λq k=>f q<|.tail _ k) ?_;by_cases e:q.1=key;·exact .inr (by rw[vE,au e,f q (.head _) e])
  ·rcases h with⟨j,l,i⟩|h
   ·rcases az.mp l with w|w;·exact absurd (by rw[<-w];exact i) e
    ·exact .inl ⟨j,w,i⟩
   ·exact .inr (by rw[vE,ax e];exact h)
theorem BY(j):∀(c:aa<|aa Key×D) acc,kI j (.dt acc)=false->kI j (.dt<|c.foldl (λa p=>kx a p.1<|.d p.2) acc)=false
 |[],acc,h=>h
 |q::c,acc,h=>by
  rw[eV];refine BY j c _ ?_;cases w:kI j (.dt<|kx acc q.1<|.d q.2)with
  |false=>rfl
  |true=>exact(CO<|show((kx acc q.1<|.d q.2).any λp=>mR j p.2)=true from w).elim (λw=>absurd (h.symm.trans w) ay) (λw=>nomatch w)
theorem Kv:∀B:aa (Ask×Rd),rL (B.map λp=>.tup [p.1.d,nD p.2])=some (B.map λp=>(p.1.k,nD p.2))
 |[]=>rfl
 |p::B=>by show(sG p.1.d).bind (λc=>(rL<|B.map λp=>.tup [p.1.d,nD p.2]).map ((c,nD p.2):: ·))=_;rw[Jj,Kv B];rfl
section
variable{S:jt}{n:Nat}{m:aa Rd}{r:Rd}{A:nP}{B:aa<|Ask×Rd}
def envOf(m:aa Rd)(r:Rd):Env:=λk=>match see m r k with
 |some s=>(s.t,s.p,s.q)
 |none=>(0,0,1)
def PB{k s}(h:see m r k=some s):D.tup [.int (envOf m r k).1,pr (envOf m r k).2.1 (envOf m r k).2.2]=nD s:=by unfold envOf;rw[h];rfl
def Uc(G:Seen m r A B)(O:∀k∈A,∃s,see m r k=some s)(I:S[n]?=some (.dt<|B.map encP))(P:S[0]?=some .mk)(U:B.length<1000)(b):
    ∃S' x,Gr S S'/\ju (Cf a b (jY 1 [.loc n]) S)=.ok (.loc<|S.length+1) S'/\Fd S' (S.length+1) A (envOf m r) x:=by
 have i:∀p∈B,see m r p.1=some p.2:=λp o=>((G.mem p).mp o).2
 let L:aa Z:=B.map λp=>Z.d (.tup [p.1.d,nD p.2])
 have C:=m6 I;refine⟨S++[.li L]++[.dt<|foldZ<|B.map λp=>(p.1.k,nD p.2)],_,(Gr.app<|λj=>?_).trans (Gr.app λj=>BY j _ [] rfl),?_,⟨(by have:=m5 (S++[Cell.li L])<|.dt<|foldZ<|B.map λp=>(p.1.k,nD p.2);rw[aq]at this;exact this),λk F=>?_⟩⟩
 ·show(B.map λp=>Z.d<|.tup [p.1.d,nD p.2]).any (mR j)=false;rw[ip];exact b9.mpr λ_ _=>nofun
 ·unfold Cf;show ju (jZ _ [i8 n] S)=_;have c:=G5 (pick:=pickK) (ci:=[0]) (f:=zV 0) (ρ:=[i8 n]) (u:=λp:Ask×Rd=>Z.d p.1.d) (h:=λp=>Z.d (.tup [p.1.d,nD p.2])) (L:=B) (e:=zF jN (i7 (zD (dV 0)) (i7 (zF jN (i7 (z2 jG (sV (zV 1) (zD (dV 0))) (zD (jc 1))) (i7 (z2 jG (sV (zV 1) (zD (dV 0))) (zD (jc 2))) jo))) jo))) (k4 rfl) I P (by
   unfold pickK;rw[bh];exact dN λp _=>bN Z.d (S5 p.1)) (λp o l=>by
   obtain⟨T,R,t⟩:=Gs p.1
   have J:sV (zV 1) (zD<|dV 0) [i9 p.1.d,i8 n] (S.set n (.ft<|B.map encP)++[.li l])=.ok (.d p.2.d) (S.set n (.ft<|B.map encP)++[.li l]):=
    abW (k4 rfl) (jn (d:=.tup T)<|by rw[<-R];rfl) t (by rw[aA<|by rw[aT];exact C,aF C]) (Z9 i o)
   exact l7 [p.1.d,nD p.2] (jq (jn (d:=p.1.d) rfl) (jq (l7 [.int p.2.t,pr p.2.p p.2.q] (jq (lU J (jn (d:=.int 1) rfl) (w:=.int p.2.t) rfl) (jq (lU J (jn (d:=.int 2) rfl) (w:=pr p.2.p p.2.q) rfl) j0)) rfl) j0)) rfl) (by walk_at "l")
  rw[y_ret (z:=.loc<|S.length+1) (S1:=S++[.li L]++[.dt<|foldZ<|B.map λp=>(p.1.k,nD p.2)])];·rfl
  ·unfold E2;rw[c]
   show(match(S++[Cell.li L])[S.length]? with
    |some (.li M)=>(match(lY M).bind rL with
     |some v=>RX.ok (Z.loc (S++[Cell.li L]).length) (S++[Cell.li L]++[Cell.dt<|foldZ v])
     |none=>RX.bad)
    |_=>RX.bad)=_
   rw[m5]
   show(match(lY L).bind rL with
    |some v=>RX.ok (Z.loc (S++[Cell.li L]).length) (S++[Cell.li L]++[Cell.dt<|foldZ v])
    |none=>RX.bad)=_
   have Q:L=(B.map λp=>D.tup [p.1.d,nD p.2]).map Z.d:=by rw[bh];rfl
   rw[show(lY L).bind rL=some (B.map λp=>(p.1.k,nD p.2))from by rw[Q,tG];exact Kv B];show RX.ok (Z.loc (S++[Cell.li L]).length) _=_;rw[aq];rfl
 ·obtain⟨s,y⟩:=O k F;rw[PB y];refine HY _ [] (λq N e=>?_) (.inl ⟨(k.k,nD s),aO.mpr ⟨(k,s),(G.mem (k,s)).mpr ⟨F,y⟩,rfl⟩,rfl⟩);obtain⟨p,o,rfl⟩:=aO.mp N;have:p.1=k:=y9 e;have t:=i p o;rw[this,y]at t;show nD p.2=nD s;rw[Option.some.inj t]
variable{a:Ad}
abbrev Kt:=Int×jd
def mE(k:Kt):D:=.tup [.int k.1,.str k.2]
def sI(k:Kt):D:=.tup [.str k.2,.int k.1]
def sH(k:Kt):aa Key:=[.inl k.1,.inr k.2]
noncomputable def Jn:D->Kt
 |.tup [.int i,.str x]=>(i,x)
 |_=>(0,Str.ofString "")
def ktL(c:aa Kt):aa Kt:=(kZ<|(lZ<|c.map sH).map tD).map Jn
theorem Mh:∀c:aa Kt,vB (c.map mE)=some (c.map sH)
 |[]=>rfl
 |k::r=>by show(lL [.int k.1,.str k.2]).bind (λx=>(vB<|r.map mE).map (x:: ·))=_;rw[Mh r];rfl
def Ts(ks):(ktL ks).map mE=kZ ((lZ<|ks.map sH).map tD):=by
 unfold ktL;rw[bh];have:∀d∈kZ ((lZ (ks.map sH)).map tD),(mE∘Jn) d=d:=λd f=>by obtain⟨k,c,rfl⟩:=aO.mp ((nJ _).mem_iff.mp f);obtain⟨j,_,rfl⟩:=aO.mp ((rF k _).mp c);rfl
 exact(dN this).trans (List.map_id' _)
def Tq(h:∀k,k∈ks↔k∈js):ktL ks=ktL js:=by
 have o:(lZ<|ks.map sH).Perm (lZ<|js.map sH):=zE (wY _) (wY _) λx=>by rw[rF,rF,aO,aO];simp_all
 have c:∀(l:aa Kt),∀d∈(lZ (l.map sH)).map tD,kz d=some [2,0,1]:=λl d f=>by obtain⟨x,i,rfl⟩:=aO.mp f;obtain⟨j,_,rfl⟩:=aO.mp ((rF x _).mp i);rfl
 unfold ktL;rw[Eu ((nJ _).trans ((o.map tD).trans (nJ _).symm)) (λd f=>c ks d<|(nJ _).mem_iff.mp f) (uq<|c ks)<|uq<|c js]
def Tr(ks):(ktL ks).length<=ks.length:=by
 have e:(ktL ks).length=(lZ<|ks.map sH).length:=by unfold ktL;rw[ao,(nJ _).length_eq,ao]
 have d:∀l:aa (aa Key),(lZ l).length<=l.length:=by
  intro l;induction l with
  |nil=>exact ai _
  |cons x r c=>
   unfold lZ
   grind
 grind
def aav(c:aa Kt)(h:c.length<64):xA (.lst<|c.map mE)=.ok ((ktL c).map mE):=by unfold xA;dsimp only;rw[Mh];show(if nE (c.map mE)=true/\(c.map mE).length<64 then _ else _)=_;rw[au ⟨C3 (sg:=[2,0,1]) (λ_=>rfl) c,by rw[ao];exact h⟩,Ts]
def jH(s:Rd):Kt:=(s.t,s.m)
def m_keys(j:S[n]?=some (.dt<|B.map encP))(t:S[0]?=some .mk)(s:m9 S)(q:B.length<64)(b):
    ∃S',Gr S S'/\ju (Cj a b (jY 2 [.loc n]) S)=.ok (.d<|.lst<|(ktL<|B.map λp=>jH p.2).map sI) S':=by
 have y:=m6 j;refine⟨S++[.no],Gr.app λ_=>rfl,?_⟩;unfold Cj;show ju (jf (jy 1 _) _ [i8 n,none] S)=_;have c:=G5 (pick:=uh) (ci:=[]) (f:=zV 0) (ρ:=[i8 n,none]) (u:=λp:Ask×Rd=>Z.d p.2.d) (h:=λp=>Z.d<|mE<|jH p.2) (L:=B) (e:=zD<|dA jN<|ba (jg 0 1)<|ba (jg 0 0) jb) (k4 rfl) j t (by unfold uh;rw[bh];rfl) (λp _ k=>jn rfl) (by walk_at "l");have w:(B.map λp=>Z.d<|mE<|jH p.2)=((B.map λp=>jH p.2).map mE).map Z.d:=by rw[bh,bh];rfl
 rw[w]at c;have v:pQ (rR uh (zV 0) [] qA<|zD<|dA jN<|ba (jg 0 1)<|ba (jg 0 0) jb) [i8 n,none] S=.ok (.d<|.lst<|(B.map λp=>jH p.2).map mE) (S++[.no]):=by
  unfold pQ;rw[c]
  show(match(S++[Cell.li (((B.map λp:Ask×Rd=>jH p.2).map mE).map Z.d)])[S.length]? with
   |some (.li l)=>(match lY l with
    |some i=>if S.length<=S.length/\(S++[Cell.li<|((B.map λp:Ask×Rd=>jH p.2).map mE).map Z.d]).any (kI S.length)=false/\[some<|Z.loc n,none].any (mI S.length)=false then RX.ok (Z.d<|.lst i) ((S++[Cell.li<|((B.map λp:Ask×Rd=>jH p.2).map mE).map Z.d]).set S.length .no)else .bad
    |none=>.bad)
   |_=>.bad)=_
  rw[m5]
  show(match lY (((B.map λp=>jH p.2).map mE).map Z.d)with
   |some i=>if S.length<=S.length/\(S++[Cell.li<|((B.map λp:Ask×Rd=>jH p.2).map mE).map Z.d]).any (kI S.length)=false/\[some<|Z.loc n,none].any (mI S.length)=false then RX.ok (Z.d<|.lst i) ((S++[Cell.li<|((B.map λp:Ask×Rd=>jH p.2).map mE).map Z.d]).set S.length .no)else RX.bad
   |none=>RX.bad)=_
  rw[tG];show(if _ then _ else _)=_;rw[au ⟨ai _,qU (s _<|ai _)<|mC _ _,by show(decide (n=S.length)||(false||false))=false;rw[aJ<|by walk_at "l"];rfl⟩,qV]
 have o:Ao (pQ<|rR uh (zV 0) [] qA<|zD<|dA jN<|ba (jg 0 1)<|ba (jg 0 0) jb) [i8 n,none] S=.ok (.d<|.lst<|(ktL<|B.map λp=>jH p.2).map mE) (S++[.no]):=by
  unfold Ao;rw[v]
  show(match xA (.lst ((B.map λp=>jH p.2).map mE))with
   |.ok i=>RX.ok (Z.d<|.lst i) (S++[Cell.no])
   |_=>.bad)=_
  rw[aav _<|by rw[ao];exact q]
 rw[jI<|j5 o<|aj rfl];rw[y_ret<|jn (d:=.lst<|(ktL<|B.map λp=>jH p.2).map sI)<|n7<|rA (f:=mE) (g:=sI) (L:=ktL<|B.map λp=>jH p.2) rfl (by have:=Tr<|B.map λp=>jH p.2;rw[ao]at this;lia) λx _=>rfl];rfl
end
variable{a:Ad}
structure j8(n:Nat)(T T':jt):Prop where
 len:T.length<=T'.length
 pre:∀j,j<n->T'[j]?=T[j]?
 sf:∀j,j<n->oS T j->oS T' j
 bnd:m9 T->m9 T'
def j8.refl(n T):j8 n T T:=⟨ai _,λ_ _=>rfl,λ_ _ h=>h,λh=>h⟩
def j8.trans{n}(x:j8 n T T1)(y:j8 n T1 T2):j8 n T T2:=⟨aV x.len y.len,λj h=>(y.pre j h).trans (x.pre j h),λj h s=>y.sf j h<|x.sf j h s,λb=>y.bnd<|x.bnd b⟩
def j8.app{n}{T:jt}(i:n<=T.length)(f:∀j,(j<n\/T.length<j)->kI j c=false):j8 n T (T++[c]):=⟨by rw[aq];exact cO ..,λj h=>aA<|by walk_at "l",λj h s=>qU s<|f j<|.inl h,λb j d=>by rw[aq]at d;exact qU (b j<|by walk_at "l") (f j<|.inr<|by simp at d;walk_at "l")⟩
def j8.set{n}{T:jt}(k:n<=i)(f:∀j,(j<n\/T.length<=j)->kI j c=false):j8 n T (T.set i c):=⟨by rw[aT];exact ai _,λj h=>av<|by lia,λj h s=>nV s<|f j<|.inl h,λb j d=>by rw[aT]at d;exact nV (b j d) (f j<|.inr d)⟩
section
variable{T:jt}{n B l q:Nat}{M:aa<|Key×Z}{P:oy}{lc:yo}{i:aa Rd}{ρ:jP}{f fk:jE}
def ab2{d k}(hf:f ρ T=.ok (.loc n) T)(h:T[n]?=some (.dk M))(p:fk ρ T=.ok (.d d) T)(m:og d=some k)(o:M.length<100000):xP f fk (mU (λρ=>(jb ρ).bind jM)) ρ T=(match valZ M k with
    |some z=>RX.ok z (T++[Cell.li []])
    |none=>RX.ok (Z.loc T.length) ((T++[Cell.li []]).set n (.dk (kx M k (.loc T.length))))):=by
 have r:(T++[Cell.li []])[n]?=some (.dk M):=by rw[aA<|m6 h];exact h
 unfold xP;rw[hf]
 show(match T[n]? with
  |some (.dk _)=>(fk ρ T).bind λy s=>(mU (λρ=>(jb ρ).bind jM) ρ s).bind λx j=>(match y,j[n]? with
   |.d d,some (.dk c)=>(match og d with
    |some k=>if c.length<sizeLine then(match valZ c k with
     |some z=>RX.ok z j
     |none=>RX.ok x (j.set n (.dk (kx c k x))))else RX.bad
    |none=>RX.bad)
   |_,_=>RX.bad)
  |_=>RX.bad)=_
 rw[h];show((fk ρ T).bind _)=_;rw[p]
 show(match Z.d d,(T++[Cell.li []])[n]? with
  |.d d,some (.dk c)=>(match og d with
   |some k=>if c.length<sizeLine then(match valZ c k with
    |some z=>RX.ok z (T++[Cell.li []])
    |none=>RX.ok (.loc T.length) ((T++[Cell.li []]).set n (.dk (kx c k (.loc T.length)))))else RX.bad
   |none=>RX.bad)
  |_,_=>RX.bad)=_
 rw[r]
 show(match og d with
      |some k=>if M.length<sizeLine then(match valZ M k with
       |some z=>RX.ok z (T++[Cell.li []])
       |none=>RX.ok (.loc T.length) ((T++[Cell.li []]).set n (.dk (kx M k (.loc T.length)))))else RX.bad
      |none=>RX.bad)=_
 rw[m];exact au (uu o)
def Sg.wide(g:Sg a T n U8 B l M P lc i)(h:U8<=hi):Sg a T n hi B l M P lc i:=
 {g with
  b2:=aE g.b2 h
  b4:=aE g.b4 h
  li:=λm q e=>let⟨d,c,k⟩:=g.li m q e;⟨d,aE c h,k⟩
  hm:=λj e=>let⟨d,c⟩:=g.hm j e;⟨d,aE c h⟩}
def Sj(g:Sg a T n T.length B l M P lc i)(r:Rd)(V:M.length<=10000)(A s3):∃C M1 o q,xP (qw a.Sight (zV 0) "masts") (zD<|jg 2 0) (mU<|λρ=>(jb ρ).bind jM) [i8 n,A,i9 r.d,s3] T=.ok (.loc q) C
    /\Sg a C n C.length B l M1 P o i/\o r.m=some q/\M1.length<=M.length+1/\j8 n T C:=by
 have b1:=g.b1;have b2:=g.b2;have U:=g.b3;have Y:=g.b4;have z:=ab2 (f:=qw a.Sight (zV 0) "masts") (fk:=zD<|jg 2 0) (ρ:=[i8 n,A,i9 r.d,s3]) (d:=.str r.m) (k:=.inr r.m) (As (k4 rfl) g.ob rfl) g.mc (jn rfl) rfl (by walk_at "l");rw[g.vm]at z;have la:j8 n T (T++[.li []]):=j8.app (by lia) λ_ _=>rfl;have R:Sg a (T++[.li []]) n T.length B l M P lc i:=g.mv λj _ h=>aA h;cases u:lc r.m with
 |some q=>rw[u]at z;exact⟨_,M,lc,q,z,R.wide la.len,u,c6 _,la⟩
 |none=>
  rw[u]at z;have D:(T++[Cell.li []]).length=T.length+1:=by rw[aq];rfl
  have s:∀j,kI j (.dk<|kx M (.inr r.m)<|.loc T.length)=true->n<j/\j<T.length+1:=λj e=>by
   rcases CO (show((kx M (.inr r.m) (.loc T.length)).any λp=>mR j p.2)=true from e)with w|w;·obtain⟨x,I⟩:=g.hm j w;exact⟨x,by walk_at "l"⟩
   ·have:T.length=j:=bx w
    lia
  refine⟨_,kx M (.inr r.m)<|.loc T.length,λm=>if m=r.m then some T.length else lc m,T.length,z,?_,au rfl,Jx,la.trans<|j8.set (by walk_at "l") λj h=>?_⟩
  ·have N:((T++[Cell.li []]).set B (.dk<|kx M (.inr r.m)<|.loc T.length)).length=T.length+1:=by rw[aT,D]
   have keep:∀j c,j≠B->T[j]?=some c->((T++[Cell.li []]).set B (.dk<|kx M (.inr r.m)<|.loc T.length))[j]?=some c:=λj c h e=>by rw[av<|bV h,aA<|m6 e];exact e
   rw[N];refine⟨b1,by walk_at "l",U,by walk_at "l",g.b5,keep n _ (by walk_at "l") g.ob,aF<|by rw[D];walk_at "l",keep l _ (bV g.b5) g.pc,g.vp,λm=>?_,λm e=>?_,λm q e=>?_,λm F q y t=>?_,s,g.hp⟩
   ·rw[vE,g.vm];by_cases w:m=r.m;·subst w;rw[au rfl,au rfl];rfl
    ·rw[ax w,ax λv=>w (Sum.inr.inj v).symm]
   ·split at e;·cases e
    ·exact g.no m e
   ·split at e
    ·rename_i w;cases e;refine⟨by lia,by simp,by walk_at "l",by walk_at "l",?_⟩;rw[av<|by walk_at "l",m5,w,g.no _ u];rfl
    ·obtain⟨x,I,G,Q,O⟩:=g.li m q e;exact⟨x,by walk_at "l",G,Q,keep q _ G O⟩
   ·split at y
    ·rename_i L;split at t;·rename_i J;rw[L,J]
     ·cases y;have:=(g.li F _ t).2.1;simp_all
    ·split at t
     ·cases t;have:=(g.li m _ y).2.1;simp_all
     ·exact g.ij m F q y t
  ·cases w:kI j (.dk<|kx M (.inr r.m)<|.loc T.length)with
   |false=>rfl
   |true=>obtain⟨x,I⟩:=s j w;rw[D]at h;rcases h with h|h<;>lia
def Sk(g:Sg a T n T.length B l M P lc i)(r:Rd)(u:lc r.m=some q)(hP:P.length<=10000)(hz:i.length<=10000)(A):
    ∃x o,(jf (uw (qw a.Sight (zV 0) "places") (qx<|i7 (zD<|jg 2 0)<|i7 (zD<|jg 2 1) jo)<|zR<|dA lR<|ba (dV 3) jb)<|o9 3<|zD<|dV 2) [i8 n,A,i9 r.d,i8 q] T=.nx [i8 n,A,i9 r.d,i8 q] x
     /\Sg a x n x.length B l M o lc (i++[r])/\o.length<=P.length+1/\j8 n T x:=by
 have b1:=g.b1;have b3:=g.b3;obtain⟨O,L,J,z,I⟩:=g.li _ _ u;have y:T[q]?=some (.li<|((own i r.m).map Rd.d).map Z.d):=by rw[bh];exact I
 have Q:zR (dA lR<|ba (dV 3) jb) [i8 n,A,i9 r.d,i8 q] T=.ok (.d<|.int (own i r.m).length) T:=by refine vL ?_ rfl;show(dA lR<|ba (dV 3) jb) [oN T<|i8 n,oN T A,.sh r.d,oN T<|i8 q]=_;rw[xE y];show R.ok (D.int ((own i r.m).map Rd.d).length)=_;rw[ao]
 let o:=kx P (pk r.m r.t) (.d<|.int (own i r.m).length)
 let d:Cell:=.dt o
 let k:Cell:=.li (((own i r.m).map λr=>Z.d r.d)++[.d r.d])
 have h:∀j,kI j d=false:=λj=>by
  cases w:kI j d with
  |false=>rfl
  |true=>exact(CO<|show((kx P (pk r.m r.t)<|.d<|.int (own i r.m).length).any λp=>mR j p.2)=true from w).elim (λw=>absurd ((g.hp j).symm.trans w) ay) (λw=>nomatch w)
 have C:∀j,kI j k=false:=λj=>by
  have:k=.li (((own i r.m++[r]).map Rd.d).map Z.d):=by show Cell.li _=_;rw[bh,bM];rfl
  rw[this];exact mC _ _
 have hT:q<T.length:=L;refine⟨(T.set l d).set q k,o,?_,?_,Jx,(j8.set (by walk_at "l") λj _=>h j).trans (j8.set (by walk_at "l") λj _=>C j)⟩
 ·rw[jI<|E1 Q (As (k4 rfl) g.ob rfl) (xQ (ds:=[.str r.m,.int r.t]) (jq (jn rfl)<|jq (jn rfl) j0) rfl (by decide:2<1000)) g.pc<|by walk_at "l"];have e:(T.set l d)[q]?=some (.li<|(own i r.m).map λr=>Z.d r.d):=by rw[av<|bV z];exact I
  exact vG rfl e (jn rfl) e (by rw[ao];exact cC (d5 ..) (by walk_at "l"))
 ·have U:((T.set l d).set q k).length=T.length:=by rw[aT,aT]
  have keep:∀j c,j≠l->j≠q->T[j]?=some c->((T.set l d).set q k)[j]?=some c:=λj c G F e=>by rw[av<|bV F,av<|bV G];exact e
  rw[U];refine⟨b1,g.b2,b3,g.b4,g.b5,keep n _ (by walk_at "l") (by walk_at "l") g.ob,keep B _ g.b5 (bV J) g.mc,?_,λm t=>?_,g.vm,λm e=>?_,λm s e=>?_,g.ij,g.hm,h⟩;·rw[av z,aF g.b4]
  ·show valZ (kx P (pk r.m r.t) _) _=_;rw[vE,Xx,g.vp];by_cases w:r.m=m/\r.t=t
   ·obtain⟨rfl,rfl⟩:=w;rw[au rfl,au ⟨rfl,rfl⟩];rfl
   ·rw[ax w,ax λv=>w ?_];injection v with v1 v2;injection v1 with v1;injection v2 with v2 _;injection v2 with v2;exact⟨v1,v2⟩
  ·have ne:r.m≠m:=λw=>by rw[<-w,u]at e;cases e
   rw[zC,g.no m e,ax ne];rfl
  ·by_cases w:s=q
   ·have em:m=r.m:=g.ij m r.m s e (by rw[w];exact u);rw[w,em];refine⟨O,L,J,z,?_⟩;rw[aF<|by rw[aT];exact hT,zC,au rfl,bM];rfl
   ·obtain⟨G,F,Y,N,V⟩:=g.li m s e;have ne:r.m≠m:=λv=>w (by rw[<-v,u]at e;exact(Option.some.inj e).symm);refine⟨G,F,Y,N,?_⟩;rw[zC,ax ne,bz];exact keep s _ N w V
theorem IP(N A):∀(rest i:aa Rd) T M P lc s2 s3,Sg a T N T.length B l M P lc i->M.length<=i.length->P.length<=i.length->i.length+rest.length<=10000->
 ∃d M1 O c j h,k6 (hV 2) (tI a) (rest.map Rd.d) [i8 N,A,s2,s3] T=.nx [i8 N,A,j,h] d/\Sg a d N d.length B l M1 O c (i++rest)/\j8 N T d
 |[],i,T,M,P,lc,s2,s3,g,_,_,_=>⟨T,M,P,lc,s2,s3,rfl,by rw[bz];exact g,.refl _ _⟩
 |r::rest,i,T,M,P,lc,s2,s3,g,U,R,v=>by
  rw[aw]at v;obtain⟨d,M1,c,q,G,C,w,y,u⟩:=Sj g r (by lia) A s3;obtain⟨p,L,F,z,x,t⟩:=Sk C r w (by lia) (by walk_at "l") A;have m:(i++[r]).length=i.length+1:=by rw[aq];rfl
  obtain⟨I,Q,J,k,j,h,D,o,s⟩:=IP N A rest (i++[r]) p M1 L c (i9 r.d) (i8 q) z (by rw[m];lia) (by rw[m];lia) (by rw[m];lia);refine⟨I,Q,J,k,j,h,?_,by rw[bP]at o;exact o,(u.trans t).trans s⟩;have st:tI a [i8 N,A,i9 r.d,s3] T=.nx [i8 N,A,i9 r.d,i8 q] p:=by unfold tI;rw[jI<|j5 G<|aj rfl];exact F
  show oM (tI a [i8 N,A,i9 r.d,s3] T) (k6 (hV 2) (tI a)<|rest.map Rd.d)=_;rw[st];exact D
end
def Uh(S:jt)(d:aa Rd)(u:d.length<=10000)(b):∃S',ju (B0 a b (jY 4 [.loc S.length,.d<|.lst<|d.map Rd.d])<|S++[.ob a.Sight []])=.ok (.d .non) S'/\(∃q p M P lc,Sg a S' S.length S'.length q p M P lc d)/\Gr S S':=by
 let f:Cell:=.ob a.Sight [("masts",.loc<|S.length+1),("places",.loc<|S.length+2)]
 have y:Sg a (S++[f,.dk [],.dt []]) S.length (S++[f,.dk [],.dt []]).length (S.length+1) (S.length+2) [] [] (λ_=>none) []:=by
  have at_:∀(i:Nat) (c:Cell),[f,Cell.dk [],Cell.dt []][i]?=some c->(S++[f,.dk [],.dt []])[S.length+i]?=some c:=λi c h=>by rw[aN<|by simp,hY];exact h
  have v:(S++[f,Cell.dk [],Cell.dt []]).length=S.length+3:=by rw[aq];rfl
  rw[v];exact⟨by simp,by simp,by simp,by simp,by simp,at_ 0 _ rfl,at_ 1 _ rfl,at_ 2 _ rfl,λ_ _=>rfl,λ_=>rfl,λ_ _=>rfl,(λ_ _ e=>by cases e),(λ_ _ _ e=>by cases e),(λ_ e=>by cases e),λ_=>rfl⟩
 obtain⟨D,M1,F,m,I,G,C,x,r⟩:=IP (a:=a) S.length (jj (d.map Rd.d)) d [] _ [] [] (λ_=>none) none none y (ai _) (ai _) (by simpa using u);have t:j8 S.length S (S++[f,.dk [],.dt []]):=by
  have o:∀j,(j<S.length\/S.length+2<j)->kI j f=false:=λj n=>by show(decide (S.length+1=j)||(decide (S.length+2=j)||false))=false;rw[aJ<|by lia,aJ<|by lia];rfl
  refine⟨by rw[aq];exact cO ..,λj h=>aA h,λj h s=>?_,λb j n=>?_⟩
  ·show(S++[f,.dk [],.dt []]).any (kI j)=false;rw[iw,s];show(false||(kI j f||(false||(false||false))))=false;rw[o j<|.inl h];rfl
  ·rw[aq]at n;have w:S.length+3<=j:=n;show(S++[f,.dk [],.dt []]).any (kI j)=false;rw[iw,show S.any (kI j)=false from b j (by walk_at "l")];show(false||(kI j f||(false||(false||false))))=false;rw[o j<|.inr<|by walk_at "l"];rfl
 have l:=t.trans r;refine⟨D,?_,⟨_,_,M1,F,m,by simpa using x⟩,⟨l.len,l.pre,l.sf,l.bnd⟩⟩;unfold B0;show ju (jf _ _ [i8 S.length,jj<|d.map Rd.d,none,none]<|S++[.ob a.Sight []])=_;have A:xG a.Sight (zV 0) "masts" E3 [i8 S.length,jj<|d.map Rd.d,none,none] (S++[.ob a.Sight []])=.nx [i8 S.length,jj<|d.map Rd.d,none,none] (S++[.ob a.Sight [("masts",.loc<|S.length+1)],.dk []]):=by
  show(match(S++[Cell.ob a.Sight []]++[Cell.dk []])[S.length]? with
   |some (.ob k fs)=>if k=a.Sight/\fs.length<1000 then lX.nx [i8 S.length,jj<|d.map Rd.d,none,none] ((S++[Cell.ob a.Sight []]++[Cell.dk []]).set S.length (.ob k<|ui "masts" (.loc (S++[Cell.ob a.Sight []]).length) fs))else .bad
   |_=>.bad)=_
  rw[bP,aN<|ai _,fx];show(if a.Sight=a.Sight/\0<1000 then _ else _)=_;rw[au ⟨rfl,by decide⟩,iF _ _<|ai _,fx,aq];rfl
 have z:xG a.Sight (zV 0) "places" vJ [i8 S.length,jj<|d.map Rd.d,none,none] (S++[.ob a.Sight [("masts",.loc<|S.length+1)],.dk []])=.nx [i8 S.length,jj<|d.map Rd.d,none,none] (S++[f,.dk [],.dt []]):=by
  show(match(S++[Cell.ob a.Sight [("masts",.loc (S.length+1))],.dk []]++[Cell.dt []])[S.length]? with
   |some (.ob k fs)=>if k=a.Sight/\fs.length<1000 then lX.nx [i8 S.length,jj<|d.map Rd.d,none,none] ((S++[Cell.ob a.Sight [("masts",.loc<|S.length+1)],.dk []]++[Cell.dt []]).set S.length (.ob k<|ui "places" (.loc (S++[Cell.ob a.Sight [("masts",.loc<|S.length+1)],.dk []]).length) fs))else .bad
   |_=>.bad)=_
  rw[bP,aN<|ai _,fx];show(if a.Sight=a.Sight/\1<1000 then _ else _)=_;rw[au ⟨rfl,by decide⟩,iF _ _<|ai _,fx,aq];kernel_rfl
 rw[jI A,jI z];show ju (k6 (hV 2) (tI a) (d.map Rd.d) [i8 S.length,jj<|d.map Rd.d,none,none]<|S++[f,.dk [],.dt []])=_;rw[C];rfl
variable{a:Ad}
structure pq(r:Rd):Prop where
 t:Sz 61 r.t
 low:FM.qG r.p r.q
 p:Sz 62 r.p
 q:Sz 62 r.q
def pq.n(h:pq r):r.q≠0:=by have:=h.low.pos;lia
def Qa{p q:Int}(L:FM.qG p q):fr p q=pr p q:=by have:=FM.scaled L (show(1:Int)≠0 by decide);simp_all
def Pz(h:∀r∈row,pq r)(r):uB (envOf row r):=by
 have c:∀x,Sz 61 (envOf row r x).1/\Sz 62 (envOf row r x).2.1/\Sz 62 (envOf row r x).2.2/\(envOf row r x).2.2≠0:=λx=>by
  unfold envOf;cases q:see row r x with
  |none=>exact⟨(by unfold Sz;decide:Sz 61 0),(by unfold Sz;decide:Sz 62 0),w8,by decide⟩
  |some s=>have k:=h s (ZX q);exact⟨k.t,k.p,k.q,k.n⟩
 exact⟨λx=>(c x).1,λx=>(c x).2.1,λx=>(c x).2.2.1,λx=>(c x).2.2.2⟩
abbrev nW:=jd×T7
def jR(r:nW):D:=.tup [.str r.1,r.2.d]
def hit(c:aa Rd)(A:nP)(t:T7)(r:Rd):jk:=(A.all λk=>(see c r k).isSome)&&hv (envOf c r) t
noncomputable def uc(c:aa Rd)(A:nP)(d:jd)(r:Rd):D:=.tup [.str r.m,.int r.t,.str d,.lst<|(ktL<|(A.filterMap<|see c r).map jH).map sI]
structure th(A:nP)(t:T7):Prop where
 w:Cw t
 dep:t.dep<8
 here:Ask.here∈A
 asks:∀x∈t.asks,x∈A
 len:A.length<64
structure Jd(a:Ad)(Ff Fa:jA)(Zi Zs Zf Zh Zk:jD):Prop where
 f:HF Ff
 i:∀(S:jt) (row:aa Rd),row.length<=10000->∃S',Zi [.loc S.length,.d<|.lst<|row.map Rd.d] (S++[.ob a.Sight []])=.ok (.d .non) S'/\(∃nm np M P lc,Sg a S' S.length S'.length nm np M P lc row)/\Gr S S'
 s:∀{S} {n hi nm np} {M} {P} {lc} {row},Sg a S n hi nm np M P lc row->hi<=S.length->∀r (A:nP),A.length<=10000->
  (∃k∈A,see row r k=none)/\(∃B:aa<|Ask×Rd,Zs [.loc n,.d r.d,.d<|.lst<|A.map Ask.d] S=.ok (.d .non) (S++[.dt<|B.map encP]))
  \/(∀k∈A,∃s,see row r k=some s)/\∃B:aa (Ask×Rd),Seen row r A B/\Zs [.loc n,.d r.d,.d<|.lst<|A.map Ask.d] S=.ok (.loc S.length) (S++[.dt<|B.map encP])
 o:∀{S} {n} {row} {r} {A} {B},Seen row r A B->(∀k∈A,∃s,see row r k=some s)->S[n]?=some (.dt<|B.map encP)->S[0]?=some .mk->B.length<1000->
  ∃S' kvs,Gr S S'/\Zf [.loc n] S=.ok (.loc<|S.length+1) S'/\Fd S' (S.length+1) A (envOf row r) kvs
 h:∀{S} {n} {A} {e} {kvs} {t},Fd S n A e kvs->uB e->th A t->Zh [.d t.d,.loc n] S=.ok (.d<|.bl<|hv e t) S
 k:∀{S} {n} {B:aa<|Ask×Rd},S[n]?=some (.dt<|B.map encP)->S[0]?=some .mk->m9 S->B.length<64->∃S',Gr S S'/\Zk [.loc n] S=.ok (.d<|.lst<|(ktL<|B.map λp=>jH p.2).map sI) S'
structure In(a:Ad)(S:jt)(nt ns nl:Nat)(row:aa Rd)(told left:j7):Prop where
 m0:S[0]?=some .mk
 bnd:m9 S
 tt:S[nt]?=some (.li<|told.map .d)
 st:oS S nt
 ll:S[nl]?=some (.li<|left.map .d)
 sl:oS S nl
 sg:∃hi nm np M P lc,hi<=nl/\Sg a S ns hi nm np M P lc row
 o0:0<nt
 o1:nt<ns
 o2:ns<nl
section
variable{S E:jt}{v H I b:Nat}{m:aa Rd}{q left:j7}
def In.gr(h:In a S v H I m q left)(g:Gr S E):In a E v H I m q left:=
 ⟨g.get h.m0,g.bnd h.bnd,g.get h.tt,g.sf _ (m6 h.tt) h.st,g.get h.ll,g.sf _ (m6 h.ll) h.sl,let⟨f,d,c,M,P,lc,k,i⟩:=h.sg;⟨f,d,c,M,P,lc,k,i.mv λj _ l=>g.pre j (by have:=m6 h.ll;lia)⟩,h.o0,h.o1,h.o2⟩
def In.tld(h:In a S v H I m q left)(d):In a (S.set v<|.li<|(q++[d]).map .d) v H I m (q++[d]) left:=by have k:=h.o0;have i:=h.o1;have f:=h.o2;exact⟨by rw[av<|by walk_at "l"];exact h.m0,λj c=>nV (h.bnd j<|by rw[aT]at c;exact c)<|mC _ _,aF<|m6 h.tt,nV h.st<|mC _ _,by rw[av<|by lia];exact h.ll,nV h.sl<|mC _ _,let⟨o,n,l,M,P,lc,r,p⟩:=h.sg;⟨o,n,l,M,P,lc,r,p.mv λj c _=>av<|by lia⟩,k,i,f⟩
def In.JA(h:In a S v H I m q left)(d):In a (S.set I<|.li<|(left++[d]).map .d) v H I m q (left++[d]):=by have k:=h.o0;have i:=h.o1;have f:=h.o2;exact⟨by rw[av<|by lia];exact h.m0,λj c=>nV (h.bnd j<|by rw[aT]at c;exact c)<|mC _ _,by rw[av<|by lia];exact h.tt,nV h.st<|mC _ _,aF<|m6 h.ll,nV h.sl<|mC _ _,let⟨o,n,l,M,P,lc,r,p⟩:=h.sg;⟨o,n,l,M,P,lc,r,p.mv λj _ c=>av<|by lia⟩,k,i,f⟩
def Gr.lw(g:Gr S E)(c:b<=S.length):j8 b S E:=⟨g.len,λj h=>g.pre j<|by walk_at "l",λj h=>g.sf j<|by walk_at "l",g.bnd⟩
def j8.xw{L:j7}(h:b<=i):j8 b S (S.set i<|.li<|L.map .d):=j8.set h λj _=>mC _ _
variable{U K:jA}{Y X T O N:jD}
def Tp(h:Seen m r A B):ktL (B.map λp=>jH p.2)=ktL ((A.filterMap<|see m r).map jH):=Tq λk=>by
 rw[aO,aO];constructor
 ·rintro ⟨p,i,rfl⟩
  obtain⟨d,c⟩:=(h.mem p).mp i;exact⟨p.2,bo.mpr ⟨p.1,d,c⟩,rfl⟩
 ·rintro ⟨s,f,rfl⟩
  obtain⟨k,d,c⟩:=bo.mp f;exact⟨(k,s),(h.mem (k,s)).mpr ⟨d,c⟩,rfl⟩
def SS(J:Jd a U K Y X T O N){t}(F:th A t)(x:∀r∈m,pq r)(h:In a S v H I m q left)(hb:b<=v)(hz:q.length<50000/\left.length<50000)(r:Rd)(R0 R1 R3 s9):
    ∃E t9,rq a U K Y X T O N [R0,R1,i8 v,R3,i9<|jR (nm,t),i8 H,jj<|A.map Ask.d,i8 I,i9 r.d,s9] S
     =.nx [R0,R1,i8 v,R3,i9<|jR (nm,t),i8 H,jj<|A.map Ask.d,i8 I,i9 r.d,t9] E
     /\In a E v H I m (if hit m A t r=true then q++[uc m A nm r]else q) (if hit m A t r=true then left else left++[r.d])/\j8 b S E:=by
 obtain⟨hi,nm',np,M,P,lc,h1,g⟩:=h.sg;have R:=m6 h.ll;have o1:=h.o1;have o2:=h.o2;unfold rq;rcases J.s g (by lia) r A (by have:=F.len;lia)with⟨⟨k,k1,k2⟩,B,e⟩|⟨f,B,L,e⟩
 ·-- not all is there
  have j:hit m A t r=false:=by unfold hit;rw[show(A.all λk=>(see m r k).isSome)=false from List.all_eq_false.mpr ⟨k,k1,by rw[k2];exact ay⟩];rfl
  rw[j,ax ay,ax ay];have u:Gr S (S++[.dt<|B.map encP]):=Gr.app (HC B);have o:=h.gr u;rw[jI<|j5 (Fh (k4 rfl) g.ob (by kernel_rfl) (jq (jn (d:=r.d) rfl)<|jq (jn (d:=.lst<|A.map Ask.d) rfl) j0) e)<|aj rfl];refine⟨_,i9 .non,?_,o.JA r.d,(u.lw<|by lia).trans (j8.xw<|by lia)⟩;show j4 _ _ _ [R0,R1,i8 v,R3,i9<|jR (nm,t),i8 H,jj<|A.map Ask.d,i8 I,i9 r.d,i9 .non] (S++[.dt<|B.map encP])=_;rw[rQ<|abR<|MG<|k4 (z:=.d .non) rfl];rw[vG rfl o.ll (jn (d:=r.d) rfl) o.ll<|by rw[ao];lia,bM];rfl
 ·have i:(A.all λk=>(see m r k).isSome)=true:=cG.mpr λk hk=>by obtain⟨s,hs⟩:=f k hk;rw[hs];rfl
  have u:Gr S (S++[.dt<|B.map encP]):=Gr.app (HC B);have o:=h.gr u;have G:B.length<64:=cC L.len F.len;obtain⟨Q,kvs,C,e2,fd⟩:=J.o (S:=S++[.dt (B.map encP)]) (n:=S.length) L f (m5 S _) o.m0 (by walk_at "l");have l:=o.gr C;have eh:=J.h fd (Pz x r) F;rw[jI<|j5 (Fh (k4 rfl) g.ob (by kernel_rfl) (jq (jn (d:=r.d) rfl)<|jq (jn (d:=.lst<|A.map Ask.d) rfl) j0) e)<|aj rfl];have c:ux (xM<|zV 9) (pR tT<|zZ O<|i7 (zD<|jg 4 1)<|i7 (zZ T<|i7 (zV 9) jo) jo) [R0,R1,i8 v,R3,i9<|jR (nm,t),i8 H,jj<|A.map Ask.d,i8 I,i9 r.d,i8 S.length] (S++[.dt<|B.map encP])=.ok (hv (envOf m r) t) Q:=by rw[abQ<|MG<|k4 (z:=.loc S.length) rfl];exact xR (lP (jq (jn (d:=t.d) rfl)<|jq (lP (jq (k4 rfl) j0) e2) j0) eh) rfl
  cases y:hv (envOf m r) t with
  |false=>
   have j:hit m A t r=false:=by unfold hit;rw[y,iR]
   rw[j,ax ay,ax ay];rw[y]at c;refine⟨_,i8 S.length,?_,l.JA r.d,((u.trans C).lw (by lia)).trans (j8.xw<|by lia)⟩;show j4 _ _ _ [R0,R1,i8 v,R3,i9<|jR (nm,t),i8 H,jj<|A.map Ask.d,i8 I,i9 r.d,i8 S.length] (S++[.dt<|B.map encP])=_;rw[rQ c];rw[vG rfl l.ll (jn (d:=r.d) rfl) l.ll<|by rw[ao];lia,bM];rfl
  |true=>
   have w:hit m A t r=true:=by unfold hit;rw[y,i];rfl
   rw[w,au rfl,au rfl];rw[y]at c;obtain⟨S3,Z,e3⟩:=J.k (S:=Q) (n:=S.length) (C.get (m5 S _)) l.m0 l.bnd G;have V:=l.gr Z;have em:uc m A nm r=.tup [.str r.m,.int r.t,.str nm,.lst<|(ktL<|B.map λp=>jH p.2).map sI]:=by unfold uc;rw[Tp L]
   refine⟨_,i8 S.length,?_,V.tld<|uc m A nm r,(((u.trans C).trans Z).lw (by lia)).trans (j8.xw hb)⟩;show j4 _ _ _ [R0,R1,i8 v,R3,i9<|jR (nm,t),i8 H,jj<|A.map Ask.d,i8 I,i9 r.d,i8 S.length] (S++[.dt<|B.map encP])=_;rw[nL c];have ev:zF jN (i7 (zD<|jg 8 0)<|i7 (zD<|jg 8 1)<|i7 (zD<|jg 4 0)<|i7 (zZ N<|i7 (zV 9) jo) jo) [R0,R1,i8 v,R3,i9<|jR (nm,t),i8 H,jj<|A.map Ask.d,i8 I,i9 r.d,i8 S.length] Q=.ok (.d<|uc m A nm r) S3:=by rw[em];exact l7 [.str r.m,.int r.t,.str nm,.lst<|(ktL<|B.map λp=>jH p.2).map sI] (jq (jn rfl)<|jq (jn rfl)<|jq (jn rfl)<|jq (lP (jq (k4 rfl) j0) e3) j0) rfl
   rw[vG rfl l.tt ev V.tt<|by rw[ao];lia,bM];rfl
variable{a:Ad}
variable{ρ:jP}
def abZ{F:jD}{fs:n6}(f:fs ρ S=.ok zs S)(h:F (.loc S.length::zs) (S++[.ob C []])=.ok (.d .non) E):xN C F fs ρ S=.ok (.loc S.length) E:=by
 unfold xN;rw[f]
 show(match F (.loc S.length::zs) (S++[.ob C []])with
  |.ok (.d .non) d=>RX.ok (Z.loc S.length) d
  |.ex c H ds d=>.ex c H ds d
  |_=>.bad)=_
 rw[h]
def Ah{n g}{L:j7}(h:ρ[i]?=some (i8 n))(f:S[n]?=some (.li<|L.map .d))(d:b<=n)(c:oS S n):sT b i g ρ S=g (ρ.map<|qt n<|.lst L) (S.set n .no):=by unfold sT u1;rw[h];dsimp only;rw[f];dsimp only;rw[tG];dsimp only;rw[au ⟨d,c⟩]
theorem EV{c:Type}(p):∀l:aa c,(l.filter p).length+(l.filter λx=>!p x).length=l.length
 |[]=>rfl
 |x::l=>by
  have:=EV p l;cases h:p x with
  |true=>rw[bG h,bj<|by rw[h];decide,aw,aw];lia
  |false=>rw[bj<|by rw[h];decide,bG<|by rw[h];rfl,aw,aw];lia
theorem Dm(J:Jd a U K Y X T O N){t}(p:th A t)(c:∀r∈m,pq r)(o:b<=v)(R0 R1 R3):∀(rest:aa Rd) S q left s8 s9,In a S v H I m q left->q.length+left.length+rest.length<50000->
 ∃E z f,k6 (hV 8) (rq a U K Y X T O N) (rest.map Rd.d) [R0,R1,i8 v,R3,i9<|jR (nm,t),i8 H,jj<|A.map Ask.d,i8 I,s8,s9] S
  =.nx [R0,R1,i8 v,R3,i9<|jR (nm,t),i8 H,jj<|A.map Ask.d,i8 I,z,f] E
  /\In a E v H I m (q++(rest.filter<|hit m A t).map (uc m A nm)) (left++(rest.filter λr=>!hit m A t r).map Rd.d)/\j8 b S E
 |[],S,q,left,s8,s9,h,_=>⟨S,s8,s9,rfl,by simpa using h,.refl _ _⟩
 |r::rest,S,q,left,s8,s9,h,C=>by
  rw[aw]at C;obtain⟨w,f,G,j,y⟩:=SS (nm:=nm) J p c h o ⟨by lia,by lia⟩ r R0 R1 R3 s9;have st:∀x:lX,k6 (hV 8) (rq a U K Y X T O N) (rest.map Rd.d) [R0,R1,i8 v,R3,i9<|jR (nm,t),i8 H,jj<|A.map Ask.d,i8 I,i9 r.d,f] w=x->k6 (hV 8) (rq a U K Y X T O N) ((r::rest).map Rd.d) [R0,R1,i8 v,R3,i9<|jR (nm,t),i8 H,jj<|A.map Ask.d,i8 I,s8,s9] S=x:=λx F=>by show oM (rq a U K Y X T O N [R0,R1,i8 v,R3,i9<|jR (nm,t),i8 H,jj<|A.map Ask.d,i8 I,i9 r.d,s9] S) (k6 (hV 8) (rq a U K Y X T O N)<|rest.map Rd.d)=_;rw[G];exact F
  cases d:hit m A t r with
  |true=>rw[d,au rfl,au rfl]at j;obtain⟨u,l,k,s,i,n⟩:=Dm J p c o R0 R1 R3 rest w _ _ (i9 r.d) f j (by rw[aq];simp;lia);refine⟨u,l,k,st _ s,?_,y.trans n⟩;rw[bG d,bj (by rw[d];decide),aW];rw[bP]at i;exact i
  |false=>rw[d,ax ay,ax ay]at j;obtain⟨u,l,k,s,i,n⟩:=Dm J p c o R0 R1 R3 rest w _ _ (i9 r.d) f j (by rw[aq];simp;lia);refine⟨u,l,k,st _ s,?_,y.trans n⟩;rw[bj (by rw[d];decide),bG (by rw[d];rfl),aW];rw[bP]at i;exact i
structure Out(S:jt)(v:Nat)(q:j7):Prop where
 m0:S[0]?=some .mk
 bnd:m9 S
 tt:S[v]?=some (.li<|q.map .d)
 st:oS S v
 o0:0<v
abbrev _root_.nA:=T7->aa Ask
noncomputable def lN(d:nA)(st:aa D×aa Rd)(c:nW):aa D×aa Rd:=(st.1++(st.2.filter<|hit st.2 (d c.2) c.2).map (uc st.2 (d c.2) c.1),st.2.filter λr=>!hit st.2 (d c.2) c.2 r)
abbrev _root_.nB:=aa nW
def judge(d:nA)(c:nB)(m:aa Rd):aa D×aa Rd:=c.foldl (lN d) ([],m)
def SR(J:Jd a U K Y X T O N){f:nA}(i:nW)(hF:K [i.2.d]=.ok (.lst<|(f i.2).map Ask.d))(Z:th (f i.2) i.2)(l:∀r∈m,pq r)(h:Out S v q)(V:b<=v)(hz:q.length+m.length<10000)(d0 d1 s5 s6 s7 s8 s9):
    ∃E F C A u s,tM a U K Y X T O N b [i9 d0,i9 d1,i8 v,jj<|m.map Rd.d,i9<|jR i,s5,s6,s7,s8,s9] S
     =.nx [i9 d0,i9 d1,i8 v,jj<|(lN f (q,m) i).2.map Rd.d,i9<|jR i,F,C,A,u,s] E/\Out E v (lN f (q,m) i).1/\j8 b S E:=by
 obtain⟨nm,t⟩:=i;have n:=m6 h.tt;obtain⟨c,e1,⟨L,G,M,P,lc,x⟩,p⟩:=J.i S m (by lia);have g1b:=x.b1;have g1c:=x.b2;have o:Gr c (c++[.li []]):=Gr.app λ_=>rfl;have gr:=p.trans o
 have h2:In a (c++[.li []]) v S.length c.length m q []:=
  ⟨gr.get h.m0,gr.bnd h.bnd,gr.get h.tt,gr.sf _ n h.st,m5 c _,qU (p.bnd h.bnd _<|ai _) rfl,⟨c.length,L,G,M,P,lc,ai _,x.mv λj _ w=>o.pre j w⟩,h.o0,n,by lia⟩
 obtain⟨y,u,s,e3,k,R⟩:=Dm (nm:=nm) J Z l V (i9 d0) (i9 d1) (jj (m.map Rd.d)) m (c++[.li []]) q [] s8 s9 h2 (by simp;walk_at "l");rw[gc]at k;have z:v≠c.length:=by lia
 have Q:j8 b y (y.set c.length .no):=j8.set (by lia) λ_ _=>rfl;refine⟨y.set c.length .no,i8 S.length,jj<|(f t).map Ask.d,jj<|(m.filter λr=>!hit m (f t) t r).map Rd.d,qt c.length (.lst<|(m.filter λr=>!hit m (f t) t r).map Rd.d) u,qt c.length (.lst<|(m.filter λr=>!hit m (f t) t r).map Rd.d) s,?_,⟨?_,λj w=>nV (k.bnd j<|by rw[aT]at w;exact w) rfl,?_,nV k.st rfl,h.o0⟩,((gr.lw<|by lia).trans R).trans Q⟩
 ·unfold tM;rw[jI<|j5 (abZ (jq (jn (d:=.lst<|m.map Rd.d) rfl) j0) e1)<|aj rfl];rw[jI<|j5 (jn (d:=.lst<|(f t).map Ask.d) hF)<|aj rfl];rw[jI<|j5 (show mU (λρ=>(jb ρ).bind jM) _ c=.ok (.loc c.length) (c++[.li []])from rfl)<|aj rfl];show jf (mJ _ _ _) _ [i9 d0,i9 d1,i8 v,jj<|m.map Rd.d,i9<|jR (nm,t),i8 S.length,jj<|(f t).map Ask.d,i8 c.length,s8,s9] (c++[.li []])=_;rw[jI<|show mJ (λρ=>((dV 3) ρ).bind j2) (hV 8) (rq a U K Y X T O N) [i9 d0,i9 d1,i8 v,jj<|m.map Rd.d,i9<|jR (nm,t),i8 S.length,jj<|(f t).map Ask.d,i8 c.length,s8,s9] (c++[.li []])=_ from e3];rw[Ah rfl k.ll (by lia) k.sl];show jy 3 _ [i9 d0,i9 d1,(if v=c.length then _ else i8 v),jj<|m.map Rd.d,i9<|jR (nm,t),(if S.length=c.length then _ else i8 S.length),jj<|(f t).map Ask.d,(if c.length=c.length then jj ((m.filter λr=>!hit m (f t) t r).map Rd.d)else _),qt c.length (.lst<|(m.filter λr=>!hit m (f t) t r).map Rd.d) u,qt c.length (.lst<|(m.filter λr=>!hit m (f t) t r).map Rd.d) s] _=_;rw[ax z,ax<|show¬S.length=c.length by lia,au rfl];rfl
 ·rw[av<|by lia];exact k.m0
 ·rw[av<|bV z];exact k.tt
theorem Jb(J:Jd a U K Y X T O N){f:nA}(F:b<=v)(p d1:D):∀(c:nB) (S:jt) (q:j7) (m:aa Rd) (s o n l k j:lA),(∀d∈c,K [d.2.d]=.ok (.lst<|(f d.2).map Ask.d)/\th (f d.2) d.2)->(∀r∈m,pq r)->Out S v q->q.length+m.length<10000->
 ∃E V y x w u t,k6 (hV 4) (tM a U K Y X T O N b) (c.map jR) [i9 p,i9 d1,i8 v,jj<|m.map Rd.d,s,o,n,l,k,j] S
  =.nx [i9 p,i9 d1,i8 v,jj<|(c.foldl (lN f) (q,m)).2.map Rd.d,V,y,x,w,u,t] E/\Out E v (c.foldl (lN f) (q,m)).1/\j8 b S E
 |[],S,q,m,s,o,n,l,k,j,_,_,h,_=>⟨S,s,o,n,l,k,j,rfl,h,.refl _ _⟩
 |d::c,S,q,m,s,o,n,l,k,j,C,i,h,hz=>by
  obtain⟨S1,y,x,w,u,t,e1,h1,l1⟩:=SR J d (C d<|.head _).1 (C d<|.head _).2 i h F hz p d1 o n l k j;have z:(lN f (q,m) d).1.length+(lN f (q,m) d).2.length<10000:=by
   show(q++(m.filter<|hit m (f d.2) d.2).map _).length+(m.filter λr=>!hit m (f d.2) d.2 r).length<10000;have:=EV (hit m (f d.2) d.2) m;rw[aq,ao]
   lia
  obtain⟨S2,R,Q,P,M,L,G,e2,h2,l2⟩:=Jb J F p d1 c S1 (lN f (q,m) d).1 (lN f (q,m) d).2 (i9<|jR d) y x w u t (λr A=>C r<|.tail _ A) (λr A=>i r (aL.mp A).1) h1 z;refine⟨S2,R,Q,P,M,L,G,?_,h2,l1.trans l2⟩;show oM (tM a U K Y X T O N b [i9 p,i9 d1,i8 v,jj<|m.map Rd.d,i9<|jR d,o,n,l,k,j] S) (k6 (hV 4) (tM a U K Y X T O N b)<|c.map jR)=_;rw[e1];exact e2
def Uj(J:Jd a U K Y X T O N){i:nA}(c:nB)(m:aa Rd)(M:∀j∈c,K [j.2.d]=.ok (.lst<|(i j.2).map Ask.d)/\th (i j.2) j.2)(h:∀r∈m,pq r)(C:m.length<10000)(s:S[0]?=some .mk)(o:m9 S):
    ∃E,Gr S E/\ju (Ci a U K Y X T O N S.length (jY 10 [.d<|.lst<|m.map Rd.d,.d<|.lst<|c.map jR]) S)=.ok (.d<|.tup [.lst (judge i c m).1,.lst<|(judge i c m).2.map Rd.d]) E:=by
 have G:=m6 s;have gr:Gr S (S++[.li []]):=Gr.app λ_=>rfl;have P:Out (S++[.li []]) S.length []:=⟨gr.get s,gr.bnd o,m5 S _,qU (o _<|ai _) rfl,G⟩;obtain⟨n,t4,t5,t6,t7,Z,V,Q,p,A⟩:=Jb (b:=S.length) J (ai _) (.lst (m.map Rd.d)) (.lst (c.map jR)) c (S++[.li []]) [] m none none none none none none M h P (by simpa using C);have w:j8 S.length n (n.set S.length .no):=j8.set (ai _) λ_ _=>rfl;have l:=((gr.lw<|ai _).trans A).trans w;refine⟨n.set S.length .no,⟨l.len,l.pre,l.sf,l.bnd⟩,?_⟩;unfold Ci;show ju (jf (jy 2 _) _ [jj<|m.map Rd.d,jj<|c.map jR,none,none,none,none,none,none,none,none] S)=_;rw[jI<|j5 (show mU (λρ=>(jb ρ).bind jM) _ S=.ok (.loc S.length) (S++[.li []])from rfl)<|aj rfl];rw[jI (j5 (jn (d:=.lst (m.map Rd.d)) (n7 (rA (f:=Rd.d) (g:=Rd.d) (L:=m) rfl (by lia) λr F=>by have k:=h r F;show((R.ok<|D.str r.m).bind λx=>((R.ok<|D.int r.t).bind λy=>((U [.int r.p,.int r.q]).bind λz=>(R.ok [z])).bind λt=>R.ok<|y::t).bind λu=>R.ok<|x::u).bind jN=_;rw[J.f r.p r.q k.n<|Aj k.q<|by decide,Qa k.low];rfl))) (aj rfl))]
 show ju (jf (mJ _ _ _) _ [jj<|m.map Rd.d,jj<|c.map jR,i8 S.length,jj<|m.map Rd.d,none,none,none,none,none,none]<|S++[.li []])=_;rw[jI<|show mJ (λρ=>((dV 1) ρ).bind j2) (hV 4) (tM a U K Y X T O N S.length) [jj<|m.map Rd.d,jj<|c.map jR,i8 S.length,jj<|m.map Rd.d,none,none,none,none,none,none] (S++[.li []])=_ from Q];rw[Ah rfl p.tt (ai _) p.st];show ju (jZ _ [jj<|m.map Rd.d,jj<|c.map jR,(if S.length=S.length then jj (c.foldl (lN i) ([],m)).1 else _),jj<|(c.foldl (lN i) ([],m)).2.map Rd.d,_,_,_,_,_,_] _)=_;rw[au rfl,y_ret<|jn (d:=.tup [.lst (judge i c m).1,.lst<|(judge i c m).2.map Rd.d]) rfl];rfl
end
variable{a:Ad}
abbrev sc(x b:Int):Cell:=.li [.d<|.int x,.d<|.int b]
abbrev sx(S:jt)(nn:Nat)(x b:Int):jt:=S.set nn (sc x b)
variable{S:jt}{nn:Nat}
def L9(c:nn<S.length)(x b):(sx S nn x b)[nn]?=some (.li<|([.int x,.int b]:aa D).map Z.d):=aF c
def vz(c:nn<S.length)(x b)(s):vw (sx S nn x b) (i8 nn::s)=jO [.int x,.int b]::vw (sx S nn x b) s:=by show oN _ _::_=_;rw[xE<|L9 c x b];rfl
def Ma(c:nn<S.length){b}{s}(h:f (i8 nn::s) (sx S nn x b)=.ok (.d<|.int y) (sx S nn x b)):vF 0 (jc 0) f (i8 nn::s) (sx S nn x b)=.nx (i8 nn::s) (sx S nn y b):=by
 unfold vF;rw[h]
 show(match D.int 0,(sx S nn x b)[nn]? with
  |.int j,some (.li zs)=>(match qQ zs.length j with
   |some m=>lX.nx (i8 nn::s) ((sx S nn x b).set nn (.li<|zs.set m<|.d<|.int y))
   |none=>.bad)
  |_,_=>.bad)=_
 rw[L9 c];show lX.nx (i8 nn::s) ((sx S nn x b).set nn (sc y b))=_;simp
def Yd(d:0<j)(c:j.natAbs<2^300):kE (.int i) (.int j)=.ok (.int<|i/j):=by have f:bits j<=300:=bits_le c;rw[Em,au<|by unfold vj;simp only[aK,aS];lia,gp _<|by walk_at "l"]
def Ut(f:nn<S.length)(m x b)(h:0<m)(o:m.natAbs<2^300)(bb):∃r c:Int,0<=r/\r<m/\ju (CC a bb (jY 3 [.loc nn,.d<|.int m])<|sx S nn x b)=.ok (.d<|.int r) (sx S nn c b):=by
 have l:=cL x (show m≠0 by lia);have k:=cD x h;unfold CC;show∃r c:Int,0<=r/\r<m/\ju (jf (j4 (qz _) _ _) _ [i8 nn,ji m,none]<|sx S nn x b)=_;by_cases j:b=0
 ·subst j;refine⟨x%m,x/m,l,k,?_⟩;rw[qv (z:=.d<|.int<|x%m) (S1:=sx S nn (x/m) 0)];·rfl
  ·rw[nL<|Aq (d:=true)<|by rw[vz f];rfl];rw[jI<|j5 (vL (d:=.int<|x%m) (by rw[vz f];show jU (.int x) (.int m)=_;exact oj h) rfl)<|aj rfl];show jf (vF 0 _ _) _ [i8 nn,ji m,ji<|x%m] (sx S nn x 0)=_;rw[jI<|Ma f (y:=x/m)<|vL (by rw[vz f];show kE (.int x) (.int m)=_;exact Yd h o) rfl];exact y_ret (jn rfl)
 ·generalize n:(x%2147483647*48271+1013)%2147483629=c;generalize i:c*69621%2147483587/11%m=r;refine⟨r,c,by rw[<-i];exact cL _ (by lia),by rw[<-i];exact cD _ h,?_⟩;rw[mT (Aq (d:=false) (S:=sx S nn x b) (by rw[vz f];show(R.ok (decide (b=0)):R jk)=_;rw[aJ j]))];rw[jI (Ma f (y:=c) (vL (by
   rw[vz f];show(((((jU (.int x) (.int 2147483647)).bind λy=>kJ y (.int 48271)).bind λy=>kA y (.int 1013)).bind λy=>jU y (.int 2147483629)))=_;rw[oj (by decide)];show(((kJ (.int (x%2147483647)) (.int 48271)).bind λy=>kA y (.int 1013)).bind λy=>jU y (.int 2147483629))=_;rw[En (by decide) (by decide)];show jU (.int (x%2147483647*48271+1013)) (.int 2147483629)=_;rw[oj (by decide),n]) rfl))]
  rw[y_ret<|vL (d:=.int r) (by rw[vz f];show(((((kJ (.int c)<|.int 69621).bind λy=>jU y<|.int 2147483587).bind λy=>kE y<|.int 11).bind λy=>jU y<|.int m))=_;rw[En (by decide)<|by decide];show(((jU (.int<|c*69621)<|.int 2147483587).bind λy=>kE y<|.int 11).bind λy=>jU y<|.int m)=_;rw[oj<|by decide];show((kE (.int<|c*69621%2147483587)<|.int 11).bind λy=>jU y<|.int m)=_;rw[uj (by decide)<|by decide];show jU (.int<|c*69621%2147483587/11) (.int m)=_;rw[oj h,i]) rfl]
  rfl
def T7.Ok(c:jS):T7->Prop
 |.at w=>PyData.strOk w=true/\w∈c
 |.far _ n=>0<=n
 |.times _ _ t=>t.Ok c
 |.abs t=>t.Ok c
 |.not t=>t.Ok c
 |.bin _ l r=>l.Ok c/\r.Ok c
 |_=>True
structure Gd(ws:jS)(Q:T7->Prop)(n k:Nat)(t:T7):Prop where
 ok:t.Ok ws
 dep:t.dep<=n
 sz:t.parts.length<=k
 w:Q t
def QS(t:T7):Prop:=∃s,s<=190/\Tw s t
def Pk(d:jD):Prop:=∀{S:jt} {nn},nn<S.length->∀m x b:Int,0<m->m.natAbs<2^300->∃r c:Int,0<=r/\r<m/\d [.loc nn,.d<|.int m] (sx S nn x b)=.ok (.d<|.int r) (sx S nn c b)
def Lw(c:jA):Prop:=∀t b:Int,0<b->b.natAbs<10^400->c [.int t,.int b]=.ok (fr t b)
def Gv(f:jD)(c:jS)(Q:T7->Prop)(n k:Nat):Prop:=∀{S:jt} {nn:Nat},nn<S.length->∀x b:Int,∃(t:T7) (d:Int),Gd c Q n k t/\f [.loc nn,.d<|.lst<|c.map D.str] (sx S nn x b)=.ok (.d t.d) (sx S nn d b)
variable{Zp Zt Zs Zc:jD}{Fl:jA}{b:Int}{ws:jS}{Q:T7->Prop}{n k:Nat}
def Ks{m:Int}(d:0<m)(c:m<1000):m.natAbs<2^300:=aE (by omega:m.natAbs<1000) (by decide)
def oZ(h:Pk Zp)(i:nn<S.length)(m x:Int)(f:0<m)(o:m<1000):∃r c:Int,0<=r/\r<m/\∀ρ:jP,ρ[0]?=some (i8 nn)->zZ Zp (i7 (zV 0) (i7 (zD (jc m)) jo)) ρ (sx S nn x b)=.ok (.d (.int r)) (sx S nn c b):=by obtain⟨r,c,l,j,e⟩:=h i m x b f (Ks f o);exact⟨r,c,l,j,λρ d=>lP (jq (k4 d)<|jq (jn rfl) j0) e⟩
def gv(f:Gv Zt ws Q n k)(d:nn<S.length)(x):∃(t:T7) (c:Int),Gd ws Q n k t/\∀ρ:jP,ρ[0]?=some (i8 nn)->ρ[1]?=some (jj (ws.map D.str))->zZ Zt (i7 (zV 0) (i7 (zD (dV 1)) jo)) ρ (sx S nn x b)=.ok (.d t.d) (sx S nn c b):=by obtain⟨t,c,h,e⟩:=f d x b;refine⟨t,c,h,λρ j i=>lP (jq (k4 j)<|jq (jn ?_) j0) e⟩;unfold dV kO;rw[aH,i];rfl
def JF{t b}(d:0<b)(f:b<1000)(c:t.natAbs<1000):(lo t b).2≠0/\Sz 62 (lo t b).1/\Sz 62 (lo t b).2:=by have h:=pH (t:=t) (b:=b) (s:=62) (r:=62) (by lia) (aE c<|by decide) (aE (by grind:b.natAbs<1000)<|by decide);simp_all
def DB(c:Pk Zp)(o:Lw Fl)(d:nn<S.length)(m k x:Int)(f:0<m/\m<1000)(u:0<k/\k<900):∃p q l:Int,(q≠0/\Sz 62 p/\Sz 62 q)/\∀ρ:jP,ρ[0]?=some (i8 nn)->
    zF Fl (i7 (zZ Zp<|i7 (zV 0)<|i7 (zD<|jc m) jo)<|i7 (z2 kA (zD<|jc 1)<|zZ Zp<|i7 (zV 0)<|i7 (zD<|jc k) jo) jo) ρ (sx S nn x b)=.ok (.d<|.tup [.int p,.int q]) (sx S nn l b):=by
 obtain⟨r,j,C,A,w⟩:=oZ (b:=b) c d m x f.1 f.2;obtain⟨s,i,z,y,v⟩:=oZ (b:=b) c d k j u.1 (by lia);exact⟨_,_,i,JF (t:=r) (b:=1+s) (by lia) (by lia)<|by lia,λρ h=>l7 [.int r,.int<|1+s] (jq (w ρ h)<|jq (lU (jn rfl) (v ρ h) rfl) j0)<|o r (1+s) (by lia)<|aE (by grind:(1+s).natAbs<2000)<|by decide⟩
def U0(j:∀w∈ws,PyData.strOk w=true):nR (.lst<|ws.map D.str) (.lst [])=.ok (.bl<|!ws.isEmpty):=by
 have l:∀L:aa jd,(∀w∈L,PyData.strOk w=true)->l5 (L.map D.str)=true/\n8 (L.map D.str)=0:=by
  intro L;induction L with
  |nil=>intro _;exact⟨rfl,rfl⟩
  |cons w L f=>
   intro h;obtain⟨d,c⟩:=f λx i=>h x (.tail _ i);refine⟨?_,?_⟩
   ·show(PyData.strOk w&&l5 (L.map D.str))=true;simp_all
   ·show max 0 (n8<|L.map D.str)=0;rw[c];rfl
 obtain⟨d,c⟩:=l ws j;obtain⟨r,e,h⟩:=wy (a:=.lst (ws.map D.str)) (b:=.lst []) d rfl (by show n8 (ws.map D.str)+1<=60;simp_all) (by decide);unfold nR;rw[e];cases ws with
 |nil=>rw[h.mpr rfl];rfl
 |cons w L=>simp_all
def PN(r:Int)(a:3<=r)(b:r<=7):r=3\/r=4\/r=5\/r=6\/r=7:=by lia
def Sh(r:Int)(c:0<=r)(d:r<10):lQ (.int r) (.lst [.int 1,.int 2,.int 8,.int 9])=.ok (.bl<|decide<|r=1\/r=2\/r=8\/r=9):=by
 obtain⟨r,rfl⟩:=bu c;have:r=0\/r=1\/r=2\/r=3\/r=4\/r=5\/r=6\/r=7\/r=8\/r=9:=by lia
 rcases this with rfl|rfl|rfl|rfl|rfl|rfl|rfl|rfl|rfl|rfl<;>kernel_rfl
abbrev wd(ws:jS):D:=.lst (ws.map D.str)
def UB(v:Pk Zp)(hl:Lw Fl)(M:∀w∈ws,PyData.strOk w=true)(o:ws.length<1000):Gv (λT S=>ju<|CH a Fl Zp S.length (jY 4 T) S) ws (Tw 62) 0 1:=by
 intro S nn o x b;obtain⟨r,l,Y,V,e1⟩:=oZ (b:=b) v o 10 x (by decide) (by decide);have Z:=U0 M;have F:=Sh r Y V;have step:∀g:jJ,jf (jy 2<|zZ Zp<|i7 (zV 0)<|i7 (zD<|jc 10) jo) g [i8 nn,i9<|wd ws,none,none] (sx S nn x b)=g [i8 nn,i9<|wd ws,ji r,none] (sx S nn l b):=λg=>jI (j5 (e1 _ rfl)<|aj rfl);have L:∀S,zB (b1 tB<|d2 jW (dV 2)<|jc 0) [i8 nn,i9<|wd ws,ji r,none] S=.ok (decide<|r=0) S:=λS=>mK rfl;have J:∀S,zB (qL (b1 tB (d2 jW (dV 2) (jc 8))) (b1 tB (d2 nR (dV 1) (jz (λρ=>(jb ρ).bind jM))))) [i8 nn,i9 (wd ws),ji r,none] S=.ok (decide (r=8)&&!ws.isEmpty) S:=λS=>mK (by show((R.ok (decide (r=8)):R jk).bind λk=>if k=true then(nR (wd ws) (.lst [])).bind P2.tB else .ok false)=_;rw[Z];by_cases h:r=8<;>simp[h,R.bind,P2.tB])
 have I:∀S,zB (b1 tB<|d2 lQ (dV 2)<|jz<|λρ=>((ba (jc 1)<|ba (jc 2)<|ba (jc 8)<|ba (jc 9) jb) ρ).bind jM) [i8 nn,i9<|wd ws,ji r,none] S=.ok (decide<|r=1\/r=2\/r=8\/r=9) S:=λS=>mK (by show(lQ (.int r)<|.lst [.int 1,.int 2,.int 8,.int 9]).bind P2.tB=_;rw[F];rfl)
 dsimp only;unfold CH;show∃(t:T7) (U:Int),Gd ws (Tw 62) 0 1 t/\ju (jf _ _ [i8 nn,i9<|wd ws,none,none]<|sx S nn x b)=_;rw[step];by_cases P:r=0
 ·obtain⟨p,q,c,m,A⟩:=DB (b:=b) v hl o 9 3 l (by decide) (by decide);refine⟨.num p q,c,⟨trivial,ai _,ai _,.num m.1 m.2.1 m.2.2⟩,?_⟩;rw[qv (z:=.d (T7.num p q).d) (S1:=sx S nn c b)];·rfl
  ·rw[nL<|(L _).trans (by rw[aR P])];exact y_ret (l7 [.str "num",.tup [.int p,.int q]] (jq (jn rfl)<|jq (A _ rfl) j0) rfl)
 ·rw[mT<|(L _).trans (by rw[aJ P])];by_cases C:r=8/\ws≠[]
  ·obtain⟨C,y⟩:=C;have lw:0<ws.length:=List.length_pos_iff.mpr y;obtain⟨k,c,k0,k1,A⟩:=v o (ws.length:Int) l b (by simp_all) (Ks (by simp_all)<|by lia);obtain⟨j,rfl⟩:=bu k0;have jl:j<ws.length:=by simp_all
   refine⟨.at ws[j],c,⟨⟨M _<|bU _,bU _⟩,ai _,ai _,.at _⟩,?_⟩;rw[qv (z:=.d (T7.at ws[j]).d) (S1:=sx S nn c b)];·rfl
   ·rw[nL<|(J _).trans (by rw[aR C,List.isEmpty_eq_false_iff.mpr y];rfl)];have ea:zZ Zp (i7 (zV 0)<|i7 (zD<|dA lR<|ba (dV 1) jb) jo) [i8 nn,i9<|wd ws,ji r,none] (sx S nn l b)=.ok (.d<|.int (j:Int)) (sx S nn c b):=lP (jq rfl<|jq (jn (d:=.int (ws.length:Int))<|by show lR [wd ws]=_;show R.ok (D.int ((ws.map D.str).length:Int))=_;rw[ao]) j0) A;refine y_ret (l7 [.str "at",.str ws[j]] (jq (jn rfl)<|jq (lU (x:=wd ws) (jn rfl) ea ?_) j0) rfl);show(match L2.kc (ws.map D.str) (j:Int)with|some d=>R.ok d|none=>.bad)=_;rw[L2.tH<|show(ws.map D.str)[j]?=some (.str ws[j])by rw[aH,ar jl];rfl]
  ·rw[mT ((J _).trans (by
    congr 1
    by_cases z:r=8
    · have:ws=[]:=cu λw=>C ⟨z,w⟩;rw[this];simp
    · rw[aJ z];rfl))]
   by_cases N:r=1\/r=2\/r=8\/r=9
   ·refine⟨.here,l,⟨trivial,ai _,ai _,.here⟩,?_⟩;rw[qv (z:=.d T7.here.d) (S1:=sx S nn l b)];·rfl
    ·rw[nL<|(I _).trans (by rw[aR N])];exact y_ret (jn rfl)
   ·rw[mT<|(I _).trans (by rw[aJ N])];obtain⟨f,c,f0,f1,A⟩:=oZ (b:=b) v o 3 l (by decide) (by decide);rw[jI<|j5 (z:=.d<|.int<|1+f) (lU (jn rfl) (A _ rfl) rfl)<|aj rfl];have u:∃(n i:Int),0<=n/\j4 (zB<|b1 tB<|d2 jW (dV 3)<|jc 3) (jy 3<|z2 kA (zD<|jc 1)<|zZ Zp<|i7 (zV 0)<|i7 (zD<|jc 9) jo) kn [i8 nn,i9<|wd ws,ji r,ji<|1+f] (sx S nn c b)=.nx [i8 nn,i9<|wd ws,ji r,ji n] (sx S nn i b):=by
     by_cases O:1+f=3
     ·obtain⟨g,i,g0,g1,G⟩:=oZ (b:=b) v o 9 c (by decide) (by decide);refine⟨1+g,i,by lia,?_⟩;rw[nL (mK (d:=true) (by show(R.ok (decide (1+f=3)):R jk)=_;rw[aR O]))];exact j5 (lU (jn rfl) (G _ rfl) rfl) (aj rfl)
     ·refine⟨1+f,c,by lia,?_⟩;rw[rQ<|mK (d:=false)<|by show(R.ok<|decide<|1+f=3:R jk)=_;rw[aJ O]];rfl
    obtain⟨n,i,s,G⟩:=u;show∃(t:T7) (U:Int),Gd ws (Tw 62) 0 1 t/\ju (jf _ _ [i8 nn,i9<|wd ws,ji r,ji<|1+f]<|sx S nn c b)=_;rw[jI G];have hk:=PN r (by lia) (by lia);rcases hk with rfl|rfl|rfl|rfl|rfl;·exact⟨.far .back n,i,⟨s,ai _,ai _,.far _ _⟩,by kernel_rfl⟩
    ·exact⟨.far .back n,i,⟨s,ai _,ai _,.far _ _⟩,by kernel_rfl⟩
    ·exact⟨.far .on n,i,⟨s,ai _,ai _,.far _ _⟩,by kernel_rfl⟩
    ·exact⟨.far .ago n,i,⟨s,ai _,ai _,.far _ _⟩,by kernel_rfl⟩
    ·exact⟨.far .sR n,i,⟨s,ai _,ai _,.far _ _⟩,by kernel_rfl⟩
def u2{n k}(q)(d:Gd ws Q n k l)(c:Gd ws Q n k r)(w:Q'<|.bin q l r):Gd ws Q' (n+1) (2*k+1) (.bin q l r):=
 ⟨⟨d.ok,c.ok⟩,by show max l.dep r.dep+1<=n+1;have:=d.dep;have:=c.dep;lia,by show(l.parts++r.parts).length+1<=_;rw[aq];have:=d.sz;have:=c.sz;lia,w⟩
def Gd.up{n k}{t}(h:Gd ws Q n k t)(d:n<=m)(c:k<=j)(w:Q t->Q' t):Gd ws Q' m j t:=⟨h.ok,aV h.dep d,aV h.sz c,w h.w⟩
def UA(y:Pk Zp)(I:Lw Fl)(v:Gv Zt ws (Tw 62) 0 1):Gv (λD S=>ju<|CG a Fl Zp Zt S.length (jY 5 D) S) ws QS 2 4:=by
 intro S nn l x b;obtain⟨r,F,O,N,M⟩:=oZ (b:=b) y l 6 x (by decide) (by decide);obtain⟨t,j,c,L⟩:=gv (b:=b) v l F;dsimp only;unfold CG;show∃(m:T7) (G:Int),Gd ws QS 2 4 m/\ju (jf _ _ [i8 nn,i9<|wd ws,none,none,none]<|sx S nn x b)=_;rw[jI<|j5 (M _ rfl)<|aj rfl,jI<|j5 (L _ rfl rfl)<|aj rfl];show∃(m:T7) (G:Int),Gd ws QS 2 4 m/\ju (jf (j4 _ _ _) _ [i8 nn,i9<|wd ws,ji r,i9 t.d,none]<|sx S nn j b)=_;by_cases C:r=3
 ·obtain⟨p,q,i,f,s⟩:=DB (b:=b) y I l 4 3 j (by decide) (by decide);refine⟨.times p q t,i,⟨c.ok,by show t.dep+1<=2;have:=c.dep;walk_at "l",by show t.parts.length+1<=4;have:=c.sz;walk_at "l",⟨62+62,by decide,.times f.1 f.2.1 f.2.2 c.w (by decide)⟩⟩,?_⟩;rw[qv (z:=.d (T7.times p q t).d) (S1:=sx S nn i b)];·rfl
  ·rw[nL<|mK (d:=true)<|by show(R.ok<|decide<|r=3:R jk)=_;rw[aR C]];exact y_ret (l7 [.str "times",.tup [.int p,.int q],t.d] (jq (jn rfl)<|jq (s _ rfl)<|jq (jn rfl) j0) rfl)
 ·rw[mT<|mK (d:=false)<|by show(R.ok<|decide<|r=3:R jk)=_;rw[aJ C]];by_cases A:3<r
  ·refine⟨t,j,c.up (by decide) (by decide) λw=>⟨62,by decide,w⟩,?_⟩;rw[qv (z:=.d t.d) (S1:=sx S nn j b)];·rfl
   ·rw[nL<|mK (d:=true)<|by show(R.ok<|decide<|r>3:R jk)=_;rw[aR A]];exact y_ret (jn rfl)
  ·rw[mT (mK (d:=false) (by show(R.ok (decide (r>3)):R jk)=_;rw[aJ A]))];obtain⟨u,i,h,s⟩:=gv (b:=b) v l j;rw[jI<|j5 (s _ rfl rfl)<|aj rfl];have J:r=0\/r=1\/r=2:=by lia
   rcases J with rfl|rfl|rfl
   ·have o:=u2 (Q':=QS) .sub c h ⟨62+62+1,by decide,.sub c.w h.w (by decide)<|by decide⟩;exact⟨.abs<|.bin .sub t u,i,⟨o.ok,by show(T7.bin .sub t u).dep+1<=2;have:=o.dep;walk_at "l",by show(T7.bin .sub t u).parts.length+1<=4;have:=o.sz;walk_at "l",⟨62+62+1,by decide,.abs<|.sub c.w h.w (by decide)<|by decide⟩⟩,by kernel_rfl⟩
   ·exact⟨.bin .add t u,i,(u2 (Q':=QS) .add c h ⟨62+62+1,by decide,.add c.w h.w (by decide)<|by decide⟩).up (by decide) (by decide) id,by kernel_rfl⟩
   ·exact⟨.bin .sub t u,i,(u2 (Q':=QS) .sub c h ⟨62+62+1,by decide,.sub c.w h.w (by decide)<|by decide⟩).up (by decide) (by decide) id,by kernel_rfl⟩
def T9(C:Pk Zp)(P:Lw Fl)(F:Gv Zs ws QS 2 4):Gv (λL S=>ju<|Cy a Fl Zp Zs S.length (jY 4 L) S) ws Cw 3 9:=by
 intro S nn i x b;obtain⟨r,M,r0,Z,V⟩:=oZ (b:=b) C i 3 x (by decide) (by decide);obtain⟨t,A,w,U⟩:=gv (b:=b) F i M;obtain⟨k,y,k0,k1,T⟩:=oZ (b:=b) C i 2 A (by decide) (by decide);have R:∃q:Bq,(∀t u,QS t->QS u->Cw (.bin q t u))/\jG (.lst [.str "<",.str "<",.str "="]) (.int r)=.ok (.str q.s):=by
  have:r=0\/r=1\/r=2:=by lia
  rcases this with rfl|rfl|rfl;·exact⟨.lt,λ_ _ ⟨_,o,m⟩ ⟨_,l,j⟩=>.lt m j o l,rfl⟩
  ·exact⟨.lt,λ_ _ ⟨_,o,m⟩ ⟨_,l,j⟩=>.lt m j o l,rfl⟩
  ·exact⟨.eq,λ_ _ ⟨_,o,m⟩ ⟨_,l,j⟩=>.eq m j o l,rfl⟩
 obtain⟨q,h,O⟩:=R;dsimp only;unfold Cy;rw[jI<|j5 (lU (jn (d:=.lst [.str "<",.str "<",.str "="]) rfl) (V _ rfl) O)<|aj rfl,jI<|j5 (U _ rfl rfl)<|aj rfl];show∃(N:T7) (Y:Int),Gd ws Cw 3 9 N/\ju (jf (j4 _ _ _) _ [i8 nn,i9<|wd ws,i9<|.str q.s,i9 t.d]<|sx S nn A b)=_;have f:pR tB (z2 jW (zZ Zp<|i7 (zV 0)<|i7 (zD<|jc 2) jo)<|zD<|jc 0) [i8 nn,i9<|wd ws,i9<|.str q.s,i9 t.d] (sx S nn A b)=.ok (decide<|k=0) (sx S nn y b):=xR (lU (T _ rfl) (jn rfl) rfl) rfl;by_cases G:k=0
 ·obtain⟨p,s,v,c,D⟩:=DB (b:=b) C P i 6 2 y (by decide) (by decide);have J:Gd ws QS 2 4 (T7.num p s):=⟨trivial,by show 0<=2;decide,by show 1<=4;decide,⟨62,by decide,.num c.1 c.2.1 c.2.2⟩⟩;refine⟨.bin q t<|.num p s,v,u2 q w J<|h _ _ w.w J.w,?_⟩;rw[qv (z:=.d (T7.bin q t<|.num p s).d) (S1:=sx S nn v b)];·rfl
  ·rw[nL<|f.trans<|by rw[aR G]];exact y_ret (l7 [.str q.s,t.d,.tup [.str "num",.tup [.int p,.int s]]] (jq (jn rfl)<|jq (jn rfl)<|jq (l7 [.str "num",.tup [.int p,.int s]] (jq (jn rfl)<|jq (D _ rfl) j0) rfl) j0) rfl)
 ·rw[mT<|f.trans<|by rw[aJ G]];obtain⟨u,v,I,D⟩:=gv (b:=b) F i y;refine⟨.bin q t u,v,u2 q w I<|h _ _ w.w I.w,?_⟩;rw[y_ret<|l7 [.str q.s,t.d,u.d] (jq (jn rfl)<|jq (jn rfl)<|jq (D _ rfl rfl) j0) rfl];rfl
def Ua(A:Pk Zp)(j:Gv Zc ws Cw 3 9):Gv (λp S=>ju<|Cz a Zp Zc S.length (jY 4 p) S) ws Cw 4 19:=by
 intro S nn i x b;obtain⟨r,v,L,J,G⟩:=oZ (b:=b) A i 6 x (by decide) (by decide);obtain⟨t,f,c,F⟩:=gv (b:=b) j i v;dsimp only;unfold Cz;rw[jI<|j5 (G _ rfl)<|aj rfl,jI<|j5 (F _ rfl rfl)<|aj rfl];show∃(w:T7) (I:Int),Gd ws Cw 4 19 w/\ju (jf (j4 _ _ _) _ [i8 nn,i9<|wd ws,ji r,i9 t.d]<|sx S nn f b)=_;by_cases m:r<3
 ·refine⟨t,f,c.up (by decide) (by decide) id,?_⟩;rw[qv (z:=.d t.d) (S1:=sx S nn f b)];·rfl
  ·rw[nL<|mK (d:=true)<|by show(R.ok<|decide<|r<3:R jk)=_;rw[aR m]];exact y_ret (jn rfl)
 ·rw[mT<|mK (d:=false)<|by show(R.ok<|decide<|r<3:R jk)=_;rw[aJ m]];by_cases l:r=3
  ·refine⟨.not t,f,⟨c.ok,by show t.dep+1<=4;have:=c.dep;walk_at "l",by show t.parts.length+1<=19;have:=c.sz;walk_at "l",.not c.w⟩,?_⟩;rw[qv (z:=.d (T7.not t).d) (S1:=sx S nn f b)];·rfl
   ·rw[nL<|mK (d:=true)<|by show(R.ok<|decide<|r=3:R jk)=_;rw[aR l]];exact y_ret (jn rfl)
  ·rw[mT (mK (d:=false) (by show(R.ok (decide (r=3)):R jk)=_;rw[aJ l]))];obtain⟨u,s,o,D⟩:=gv (b:=b) j i f;have C:∃q:Bq,(∀t u,Cw t->Cw u->Cw (.bin q t u))/\∀S:jt,zD (d2 jG (jz<|λρ=>((ba (jF "and")<|ba (jF "or") jb) ρ).bind jM)<|d2 oo (dV 2)<|jc 4) [i8 nn,i9<|wd ws,ji r,i9 t.d] S=.ok (.d<|.str q.s) S:=by
    have:r=4\/r=5:=by lia
    rcases this with rfl|rfl;·exact⟨.and,λ_ _=>.and,λS=>jn rfl⟩
    ·exact⟨.or,λ_ _=>.or,λS=>jn rfl⟩
   obtain⟨q,h,y⟩:=C;refine⟨.bin q t u,s,u2 q c o<|h _ _ c.w o.w,?_⟩;rw[y_ret<|l7 [.str q.s,t.d,u.d] (jq (y _)<|jq (jn rfl)<|jq (D _ rfl rfl) j0) rfl];rfl
end WM
namespace WP
open PySem L2 P2 TM T2 PySem.NumText
variable{a:Ad}
def oT(j:Int):Nat:=(L2.kc (Str.ofString "qxz").cps.toList j).getD 0
def oE(j:Int):Nat:=(L2.kc (Str.ofString "abcdefghijklmnopqrstuvwxyz").cps.toList j).getD 0
def G1(j)(h:0<=j/\j<3):oT j<128/\L2.kc (Str.ofString "qxz").cps.toList j=some (oT j):=by obtain⟨c,f,d⟩:=SM j h;unfold oT;rw[d];exact⟨f,rfl⟩
def NW(j)(h:0<=j/\j<26):oE j<128/\L2.kc (Str.ofString "abcdefghijklmnopqrstuvwxyz").cps.toList j=some (oE j):=by obtain⟨c,f,d⟩:=SJ j h;unfold oE;rw[d];exact⟨f,rfl⟩
def NX(f:0<=i/\i<26)(d:0<=j/\j<26)(h:oE i=oE j):i=j:=by
 have c:∀n:Nat,n<26->oE (n:Int)=97+n:=by decide+kernel
 obtain⟨n,rfl⟩:=bu f.1;obtain⟨m,rfl⟩:=bu d.1;have l:=c n (by lia);have k:=c m (by lia);have:oE (n:Int)=oE (m:Int):=h;simp_all
def more(c:Int)(d:kv)(z:jd):jd:=d.foldl (λz j=>z++⟨#[oT<|c/(3+j)%3]⟩) z
theorem MA(c)(s1 s2 s3 s4):∀d z h,(∀j∈d,0<=j/\j<100)->PyData.strOk z=true->z.length+d.length<=100->
 ∃f,PyData.strOk (more c d z)=true/\(more c d z).length=z.length+d.length/\oU (gV 6) (wb a) (d.map D.int) [j9 c,s1,s2,s3,s4,oJ z,h]=.nx [j9 c,s1,s2,s3,s4,oJ<|more c d z,f]
 |[],z,h,_,l,m=>⟨h,l,by simp[more],rfl⟩
 |j::d,z,h,n,l,m=>by
  have p:=n j (bY ..);rw[aw]at m;obtain⟨r,o⟩:=G1 (c/(3+j)%3) (by grind);have v:kE (.int c) (.int<|3+j)=.ok (.int<|c/(3+j)):=uj (by lia) (by lia);have k:(⟨#[oT<|c/(3+j)%3]⟩:jd).length=1:=rfl;have w:kA (.str z) (.str ⟨#[oT (c/(3+j)%3)]⟩)=.ok (.str (z++⟨#[oT (c/(3+j)%3)]⟩)):=xm (by lia) (by rw[k];decide);obtain⟨f,u,t,s⟩:=MA c s1 s2 s3 s4 d (z++⟨#[oT (c/(3+j)%3)]⟩) (j9 j) (λi q=>n i (bf _ q)) (zw l (D3 r)) (by rw[len_app,k];lia);refine⟨f,u,by show(more c d (z++_)).length=_;rw[t,len_app,k,aw];lia,?_⟩;rw[aW,Yh];walk_at "d"
  have e:wb a [j9 c,s1,s2,s3,s4,oJ z,j9 j]=.nx [j9 c,s1,s2,s3,s4,oJ<|z++⟨#[oT<|c/(3+j)%3]⟩,j9 j]:=by unfold wb;iterate 4 (walk_at "d";try simp only[v,au lq,o,w])
  rw[e,Lm];exact s
def qR(c:Int):jd:=more c ((List.range (c/312%7).toNat).map λ(k:Nat)=>(k:Int)) (Str.ofString "")
def oI(c st k:Int):jd:=⟨#[oE<|(c+k*st)%26]⟩++⟨#[oT<|k/26%3]⟩
def oq(c st k:Int):jd:=if c/2184%2=1 then qR c++oI c st k else oI c st k++qR c
def Np(n:Nat)(h:n<12):∃st:Int,(st%26≠0/\st*2%26≠0)/\0<st/\st<26/\L2.kc [D.int 1,.int 3,.int 5,.int 7,.int 9,.int 11,.int 15,.int 17,.int 19,.int 21,.int 23,.int 25] (n:Int)=some (.int st):=by
 have:n=0\/n=1\/n=2\/n=3\/n=4\/n=5\/n=6\/n=7\/n=8\/n=9\/n=10\/n=11:=by revert n;decide
 rcases this with rfl|rfl|rfl|rfl|rfl|rfl|rfl|rfl|rfl|rfl|rfl|rfl<;>exact⟨_,by decide,by decide,by decide,rfl⟩
def UH(c):∃st:Int,(st%26≠0/\st*2%26≠0)/\∀k:Int,0<=k->k<26->PyData.strOk (oq c st k)=true/\jX (yV a<|ke 7 [.int c,.int k])=.ok (.str<|oq c st k):=by
 obtain⟨n,x⟩:=bu (show 0<=c/26%12 by lia);obtain⟨st,F,A,st1,o⟩:=Np n (by lia);refine⟨st,F,λk J I=>?_⟩;have mk:kJ (.int k) (.int st)=.ok (.int<|k*st):=En (by lia) (by walk_at "l");obtain⟨O,t⟩:=NW ((c+k*st)%26) (by grind);obtain⟨N,s⟩:=G1 (k/26%3) (by lia);have w:(⟨#[oE<|(c+k*st)%26]⟩:jd).length=1:=rfl;have v:(⟨#[oT<|k/26%3]⟩:jd).length=1:=rfl;have T:kA (.str ⟨#[oE ((c+k*st)%26)]⟩) (.str ⟨#[oT (k/26%3)]⟩)=.ok (.str (oI c st k)):=xm (by rw[w];decide) (by rw[v];decide);have h:PyData.strOk (oI c st k)=true:=zw (D3 O) (D3 N);have D:(oI c st k).length=2:=by unfold oI;rw[len_app,w,v]
 obtain⟨d,l⟩:∃d,d=oI c st k:=⟨_,rfl⟩;have f:d=(⟨#[oE<|(c+k*st)%26]⟩:jd)++⟨#[oT<|k/26%3]⟩:=l;rw[<-l]at T h D;have G:0<=c/312%7/\c/312%7<7:=by lia
 have u:qT [.int<|c/312%7]=.ok (qm 0 (c/312%7).toNat):=Lk G.1 (by lia);have R:PyData.strOk (Str.ofString "")=true:=by decide+kernel
 have m:(Str.ofString "").length=0:=by decide
 obtain⟨C,Q,P,y⟩:=MA (a:=a) c (j9 k) (oJ (Str.ofString "abcdefghijklmnopqrstuvwxyz")) (j9 st) (oJ d) ((List.range (c/312%7).toNat).map λ(k:Nat)=>(k:Int)) (Str.ofString "") .no (λj L=>by
  obtain⟨i,M,rfl⟩:=aO.mp L;have:=cf.mp M
  lia) R (by rw[m,ao,fH];lia)
 rw[<-Ls]at y;have Y:(qR c).length<=7:=by show(more c _ _).length<=7;rw[P,m,ao,fH];lia
 have p:oU (gV 6) (wb a) (qm 0 (c/312%7).toNat) [j9 c,j9 k,oJ<|Str.ofString "abcdefghijklmnopqrstuvwxyz",j9 st,oJ d,oJ<|Str.ofString "",.no]=.nx [j9 c,j9 k,oJ<|Str.ofString "abcdefghijklmnopqrstuvwxyz",j9 st,oJ d,oJ<|qR c,C]:=y;have q:PyData.strOk (qR c)=true:=Q;unfold oq;rw[<-l];generalize qR c=z at*;have V:kA (.str z) (.str d)=.ok (.str<|z++d):=xm (by walk_at "l") (by lia);have U:kA (.str d) (.str z)=.ok (.str<|d++z):=xm (by lia) (by walk_at "l");by_cases r:c/2184%2=1
 ·rw[au r];refine⟨zw q h,?_⟩;unfold yV;iterate 6 (walk_at "d";try simp only[x,o,mk,au lq,au la,t,s,<-f,u])
  simp only[p];iterate 6 (walk_at "d";try simp only[r,V,iW])
 ·rw[ax r];refine⟨zw h q,?_⟩;unfold yV;iterate 6 (walk_at "d";try simp only[x,o,mk,au lq,au la,t,s,<-f,u])
  simp only[p];iterate 6 (walk_at "d";try simp only[r,U,fw])
def uV(x y:jd):(x++y).cps.toList=x.cps.toList++y.cps.toList:=by show(x.cps++y.cps).toList=_;simp
def EY{st}(m:st%26≠0/\st*2%26≠0)(o:0<=i/\i<3)(n:0<=j/\j<3)(h:i≠j):oq c st i≠oq c st j:=by
 intro w;have e:oI c st i=oI c st j:=by
  unfold oq at w;have inj:∀x y:jd,x.cps=y.cps->x=y:=λx y h=>by cases x;cases y;exact bN Str.mk h
  split at w
  ·have k:=bN (λs:jd=>s.cps.toList) w;refine inj _ _ (eI.mp ?_);have f:(qR c).cps.toList++(oI c st i).cps.toList=(qR c).cps.toList++(oI c st j).cps.toList:=by rw[<-uV,<-uV];exact k
   exact List.append_cancel_left f
  ·have k:=bN (λs:jd=>s.cps.toList) w;refine inj _ _ (eI.mp ?_);have f:(oI c st i).cps.toList++(qR c).cps.toList=(oI c st j).cps.toList++(qR c).cps.toList:=by rw[<-uV,<-uV];exact k
   exact List.append_cancel_right f
 have l:oE ((c+i*st)%26)=oE ((c+j*st)%26):=by
  have:=bN (λs:jd=>s.cps.toList[0]?) e;unfold oI at this;try dsimp only at this
  rw[uV,uV]at this;exact Option.some.inj this
 have p:=NX (by grind) (by grind) l;have d:(i=0\/i=1\/i=2)/\(j=0\/j=1\/j=2):=by lia
 rcases d with⟨rfl|rfl|rfl,rfl|rfl|rfl⟩<;>lia
end WP
namespace WM
open PySem L2 P2 WP TM T2 PySem.NumText
variable{a:Ad}
def Vl(f:jD):Prop:=∀{S:jt} {c},c<S.length->∀x b:Int,∃p q d:Int,(FM.qG p q/\Sz 62 p/\Sz 62 q)/\f [.loc c] (sx S c x b)=.ok (.d<|pr p q) (sx S c d b)
def JE(p:Int):FM.qG p 1:=⟨by decide,by simp⟩
section
variable{m l:jD}{z A:jA}
def JN(f:Pk m)(L:Lw z):Vl (λF S=>ju<|CJ a z m S.length (jY 2 F) S):=by
 intro S s h x b;obtain⟨r,j,U,T,N⟩:=oZ (b:=b) f h 8 x (by decide) (by decide);dsimp only;unfold CJ;show∃p q O:Int,_/\ju (jf (jy 1 _) _ [i8 s,none]<|sx S s x b)=_;rw[jI<|j5 (N _ rfl)<|aj rfl];by_cases C:r=7
 ·obtain⟨u,c,Q,P,i⟩:=f h (10^60) j b (by decide) (by decide);obtain⟨v,G,o,n,M⟩:=oZ (b:=b) f h 2 c (by decide) (by decide);have hv:v=0\/v=1:=by lia
  have k:Sz 62 u:=aE (show u.natAbs<10^60 by lia) (by decide);have I:Sz 62 (1 - 2*v):=aE (show(1 - 2*v).natAbs<10 by omega) (by decide);have J:Sz 62 (u*(1 - 2*v)):=by
   rcases hv with rfl|rfl;·rw[show u*(1 - 2*0)=u by simp];exact k
   ·rw[show u*(1 - 2*1)= -u by simp];unfold Sz;rw[Int.natAbs_neg];exact k
  refine⟨u*(1 - 2*v),1,G,⟨JE _,J,w8⟩,?_⟩;rw[Ai (mK (d:=true)<|by show(R.ok<|decide<|r=7:R jk)=_;rw[aR C])<|y_ret<|l7 [.int<|u*(1 - 2*v),.int 1] (jq (lU (lP (jq (k4 rfl)<|jq (jn (d:=.int<|10^60) rfl) j0) i) (lU (jn (d:=.int 1) rfl) (lU (jn (d:=.int 2) rfl) (M _ rfl)<|Yu (by decide)<|by decide) (w:=.int<|1 - 2*v) rfl)<|qk (k.mono<|by decide)<|I.mono<|by decide)<|jq (jn (d:=.int 1) rfl) j0) rfl];rfl
 ·rw[mT<|mK (d:=false)<|by show(R.ok<|decide<|r=7:R jk)=_;rw[aJ C]];by_cases D:r=6
  ·obtain⟨v,c,o,n,i⟩:=oZ (b:=b) f h 9 j (by decide) (by decide);have y:=JF (t:=v - 3) (b:=2) (by decide) (by decide) (by omega);refine⟨_,_,c,⟨FM.DC (t:=v - 3) (b:=2)<|by decide,y.2.1,y.2.2⟩,?_⟩;rw[Ai (mK (d:=true) (by show(R.ok (decide (r=6)):R jk)=_;rw[aR D])) (y_ret (l7 [.int (v - 3),.int 2] (jq (lU (i _ rfl) (jn (d:=.int 3) rfl) (w:=.int (v - 3)) rfl) (jq (jn (d:=.int 2) rfl) j0)) (L (v - 3) 2 (by decide) (by decide))))];rfl
  ·rw[mT (mK (d:=false) (by show(R.ok (decide (r=6)):R jk)=_;rw[aJ D]))];obtain⟨v,c,o,n,i⟩:=oZ (b:=b) f h 4 j (by decide) (by decide);refine⟨v,1,c,⟨JE _,aE (show v.natAbs<10 by lia)<|by decide,w8⟩,?_⟩;rw[y_ret<|l7 [.int v,.int 1] (jq (i _ rfl)<|jq (jn (d:=.int 1) rfl) j0) rfl];rfl
def Lx(a b:Rd):Prop:=a.t<b.t\/a.t=b.t/\a.m.cps.toList<b.m.cps.toList
def Lx.ne{a b:Rd}(h:Lx a b):jH a≠jH b:=λe=>by
 have d:a.t=b.t:=bN Prod.fst e;have c:a.m=b.m:=bN Prod.snd e;rcases h with h|h;·simp_all
 ·rw[c]at h;exact iI _ h.2
structure ng(row:aa Rd):Prop where
 ok:∀r∈row,pq r/\PyData.strOk r.m=true
 so:row.Pairwise Lx
 tm:∀r∈row,Sz 60 r.t
def ng.nd(h:ng row):(row.map jH).Nodup:=d9.mpr (h.so.imp Lx.ne)
def ng.add(h:ng row){r:Rd}(n:Sz 60 r.t)(k:pq r)(j:PyData.strOk r.m=true)(i:∀s∈row,Lx s r):ng (row++[r]):=
 ⟨λs c=>by
   rcases aX.mp c with w|w;· exact h.ok s w
   · rw[aI]at w;subst w;exact⟨k,j⟩,eD.mpr ⟨h.so,dQ ..,λx f y d=>by rw[aI]at d;subst d;exact i x f⟩,λs c=>by
   rcases aX.mp c with w|w;· exact h.tm s w
   · rw[aI]at w;subst w;exact n⟩
structure Mk(B:jt)(nr nn:Nat)(row:aa Rd):Prop extends Out B nr (row.map Rd.d) where
 hn:nn<B.length
 ne:nr≠nn
 n0:0<nn
section
variable{B:jt}{i f b0:Nat}{c:aa Rd}{ρ:jP}
def Mk.out(h:Mk B i f c)(x b:Int):Out (sx B f x b) i (c.map Rd.d):=
 ⟨by have:=h.n0;rw[av<|by walk_at "l"];exact h.m0,λj d=>nV (h.bnd j<|by rw[aT]at d;exact d)<|mC [.int x,.int b] _,by rw[av<|bV h.ne];exact h.tt,nV h.st<|mC [.int x,.int b] _,h.o0⟩
def j8.sx(d:b0<=f)(x b:Int):j8 b0 B (sx B f x b):=j8.set d λj _=>mC [.int x,.int b] j
def Gn(hv:Vl l)(h:Mk B i f c)(r:b0<=i)(D:c.length<10000){w:jd}{t:Int}{f1 f2:jQ}(u:ρ[4]?=some (i8 i))(s:ρ[7]?=some (i8 f))(C:f1 (kO ρ)=.ok (.str w))(y:f2 (kO ρ)=.ok (.int t))(x b:Int):
    ∃(p q d:Int) (n:jt),(FM.qG p q/\Sz 62 p/\Sz 62 q)/\o9 4 (zF jN<|i7 (zD f1)<|i7 (zD f2)<|i7 (zZ l<|i7 (zV 7) jo) jo) ρ (sx B f x b)=.nx ρ (sx n f d b)/\Mk n i f (c++[⟨w,t,p,q⟩])/\j8 b0 B n:=by
 obtain⟨p,q,d,k,e⟩:=hv h.hn x b;refine⟨p,q,d,B.set i (.li (((c++[(⟨w,t,p,q⟩:Rd)]).map Rd.d).map .d)),k,?_,⟨⟨?_,λj o=>nV (h.bnd j (by rw[aT]at o;exact o)) (mC _ _),aF (m6 h.tt),nV h.st (mC _ _),h.o0⟩,by rw[aT];exact h.hn,h.ne,h.n0⟩,j8.xw r⟩
 ·have v:zF jN (i7 (zD f1)<|i7 (zD f2)<|i7 (zZ l<|i7 (zV 7) jo) jo) ρ (sx B f x b)=.ok (.d<|Rd.d ⟨w,t,p,q⟩) (sx B f d b):=l7 [.str w,.int t,pr p q] (jq (jn C)<|jq (jn y)<|jq (lP (jq (k4 s) j0) e) j0) rfl;rw[vG u (h.out x b).tt v (h.out d b).tt (by rw[ao,ao];walk_at "l")];rw[List.set_comm _ _<|bV h.ne,bM,bM];rfl
 ·have:=h.o0;rw[av<|by walk_at "l"];exact h.m0
end
end
variable{a:Ad}
abbrev Gb(L:jS):Prop:=L.Pairwise λx y=>x.cps.toList<y.cps.toList
def aaD(c:jS)(h:c.length<64)(nd:c.Nodup):∃L:aa jd,L.Perm c/\Gb L/\xy (.lst<|c.map D.str)=.ok (L.map D.str):=by
 let bk:D->jd:=λd=>match d with|.str x=>x|_=>Str.ofString ""
 have n:nE (c.map D.str)=true:=C3 (λ_=>rfl) c;have j:((kZ<|c.map D.str).map bk).Perm c:=by
  have:=(nJ<|c.map D.str).map bk
  grind
 refine⟨(kZ<|c.map D.str).map bk,j,?_,?_⟩
 ·have k:=uq (s:=[1]) (ds:=c.map D.str) λd i=>by obtain⟨w,_,rfl⟩:=aO.mp i;rfl
  have f:=j.nodup_iff.mpr nd;refine d9.mpr (eT (λ{x y} m l q=>?_)<|k.and<|d9.mp f);obtain⟨u,_,rfl⟩:=aO.mp ((nJ _).mem_iff.mp m);obtain⟨v,_,rfl⟩:=aO.mp ((nJ _).mem_iff.mp l);by_cases z:u.cps.toList<v.cps.toList;·exact z
  ·exact absurd (zT z<|dX q.1) q.2
 ·show(if nE (c.map D.str)=true/\(c.map D.str).length<64 then R.ok (kZ<|c.map D.str)else .bad)=_;rw[au ⟨n,by rw[ao];exact h⟩,bh]
  congr 1
  refine((dN λd i=>?_).trans (List.map_id' _)).symm;obtain⟨w,_,rfl⟩:=aO.mp ((nJ _).mem_iff.mp i);rfl
structure W3(ws:jS):Prop where
 ok:∀w∈ws,PyData.strOk w=true
 nd:ws.Nodup
 len:ws.length=3
def EM{t:Int}(d:0<=t)(c:t<10000000000):Sz 60 t:=aE (show t.natAbs<10000000000 by lia) (by decide)
def Mf{t:Int}(d:0<=t)(c:t<10000000000):Sz 61 t:=aE (show t.natAbs<10000000000 by lia) (by decide)
section
variable{Zp H:jD}{Fc:jA}{F C b0:Nat}{E:jS}
def Ja(W:W3 E)(c:Int):∃w∈E,((jU (.int c)<|.int 3).bind λi=>jG (.lst<|E.map D.str) i)=.ok (.str w):=by
 have k:=cL c (show(3:Int)≠0 by decide);obtain⟨j,h⟩:=bu k;have f:j<E.length:=by rw[W.len];lia
 refine⟨E[j],bU _,?_⟩;rw[oj<|by decide,h];show(match L2.kc (E.map D.str) (j:Int)with|some d=>R.ok d|none=>.bad)=_;rw[L2.tH<|show(E.map D.str)[j]?=some (.str E[j])by rw[aH,ar f];rfl]
theorem nine(hv:Vl H)(W:W3 E)(R:b0<=F)(o n m:lA)(c b:Int)(l i f:lA):∀(j:j7) (T:Int) (row:aa Rd) (B:jt) (x:Int) (A:lA),Mk B F C row->ng row->(∀r∈row,r.t<T)->0<=T->T+j.length<10000000000->row.length+j.length<9000->
 ∃(v:Int) (d:aa Rd) (z:jt) (I:Int) (J:lA),k6 (hV 9) (tL a Fc Zp H) j [o,n,m,jj<|E.map D.str,i8 F,ji T,ji c,i8 C,l,A,i,f] (sx B C x b)
  =.nx [o,n,m,jj<|E.map D.str,i8 F,ji v,ji c,i8 C,l,J,i,f] (sx z C I b)/\Mk z F C d/\ng d/\(∀r∈d,r.t<v)/\T<=v/\v<=T+j.length/\d.length=row.length+j.length/\j8 b0 B z
 |[],T,row,B,x,A,h,y,G,O,U,Q=>⟨T,row,B,x,A,rfl,h,y,G,gC _,by simp,rfl,.refl _ _⟩
 |k::j,T,row,B,x,A,h,y,G,O,U,Q=>by
  rw[aw]at U Q;obtain⟨w,hw,ew⟩:=Ja W c;obtain⟨p,q,P,V,u,e1,h2,l1⟩:=Gn (b0:=b0) (ρ:=[o,n,m,jj (E.map D.str),i8 F,ji T,ji c,i8 C,l,i9 k,i,f]) (w:=w) (t:=T) (f1:=d2 jG (dV 3) (d2 jU (dV 6) (jc 3))) (f2:=dV 5) hv h R (by lia) rfl rfl ew rfl x b;have N:ng (row++[⟨w,T,p,q⟩]):=y.add (EM O<|show T<10000000000 by lia) ⟨Mf O<|show T<10000000000 by lia,u.1,u.2.1,u.2.2⟩ (W.ok w hw) λs hs=>.inl (G s hs);obtain⟨v,d,z,I,J,e2,h3,M,L,g1,g2,g3,Y⟩:=nine hv W R o n m c b l i f j (T+1) (row++[⟨w,T,p,q⟩]) V P (i9 k) h2 N (λr y=>by
   rcases aX.mp y with w'|w';· have:=G r w';lia
   · rw[aI]at w';subst w';show T<T+1;lia) (by lia) (by lia) (by rw[aq];simp;lia)
  refine⟨v,d,z,I,J,?_,h3,M,L,by walk_at "l",by rw[aw];lia,by rw[g3,aq,aw];simp;lia,l1.trans Y⟩;have st:tL a Fc Zp H [o,n,m,jj<|E.map D.str,i8 F,ji T,ji c,i8 C,l,i9 k,i,f] (sx B C x b)=.nx [o,n,m,jj<|E.map D.str,i8 F,ji<|T+1,ji c,i8 C,l,i9 k,i,f] (sx V C P b):=by unfold tL;rw[jI e1];rfl
  show oM (tL a Fc Zp H [o,n,m,jj<|E.map D.str,i8 F,ji T,ji c,i8 C,l,i9 k,i,f]<|sx B C x b) (k6 (hV 9) (tL a Fc Zp H) j)=_;rw[st];exact e2
theorem three(hv:Vl H)(hb:b0<=F)(A y u o:lA)(T:Int)(R:0<=T)(Q:T<10000000000)(n:lA)(b:Int)(m l d:lA):∀(L:jS) (row:aa Rd) (B:jt) (x:Int) (f:lA),Mk B F C row->ng row->(∀w∈L,PyData.strOk w=true)->Gb L->(∀r∈row,r.t<=T)->(∀r∈row,r.t=T->∀w∈L,r.m.cps.toList<w.cps.toList)->row.length+L.length<9000->
 ∃(c:aa Rd) (I:jt) (M:Int) (i:lA),k6 (hV 11) (we a Fc Zp H) (L.map D.str) [A,y,u,o,i8 F,ji T,n,i8 C,m,l,d,f] (sx B C x b)
  =.nx [A,y,u,o,i8 F,ji T,n,i8 C,m,l,d,i] (sx I C M b)/\Mk I F C c/\ng c/\(∀r∈c,r.t<=T)/\c.length=row.length+L.length/\j8 b0 B I
 |[],row,B,x,f,h,j,_,_,J,_,_=>⟨row,B,x,f,rfl,h,j,J,rfl,.refl _ _⟩
 |w::L,row,B,x,f,h,j,V,hd,J,Y,hz=>by
  rw[aw]at hz;obtain⟨p,q,x1,B1,k,e1,h2,l1⟩:=Gn (b0:=b0) (ρ:=[A,y,u,o,i8 F,ji T,n,i8 C,m,l,d,i9 (.str w)]) (w:=w) (t:=T) (f1:=dV 11) (f2:=dV 5) hv h hb (by lia) rfl rfl rfl rfl x b;have G:=bZ.mp hd;have P:ng (row++[⟨w,T,p,q⟩]):=j.add (EM R Q) ⟨Mf R Q,k.1,k.2.1,k.2.2⟩ (V w<|.head _) λs U=>(Int.lt_or_eq_of_le<|J s U).imp id λe=>⟨e,Y s U e w<|.head _⟩;obtain⟨c,I,M,i,e2,h3,O,N,g3,l2⟩:=three hv hb A y u o T R Q n b m l d L (row++[⟨w,T,p,q⟩]) B1 x1 (i9 (.str w)) h2 P (λv hv=>V v (.tail _ hv)) G.2 (λr j=>by
   rcases aX.mp j with w'|w';· exact J r w'
   · rw[aI]at w';subst w';exact gC _) (λr j e=>by
   rcases aX.mp j with w'|w';· exact λv z=>Y r w' e v (.tail _ z)
   · rw[aI]at w';subst w';exact G.1) (by rw[aq];simp;lia)
  refine⟨c,I,M,i,?_,h3,O,N,by rw[g3,aq,aw];simp;lia,l1.trans l2⟩;show oM (we a Fc Zp H [A,y,u,o,i8 F,ji T,n,i8 C,m,l,d,i9<|.str w]<|sx B C x b) (k6 (hV 11) (we a Fc Zp H)<|L.map D.str)=_;rw[show we a Fc Zp H [A,y,u,o,i8 F,ji T,n,i8 C,m,l,d,i9<|.str w] (sx B C x b)=_ from e1];exact e2
def aau(W:W3 E)(r:Int)(l:0<=r)(n:r<12):∃(h:kv) (L:jS),L.Nodup/\(∀w∈L,w∈E)/\L.length<=3/\
    jG (.lst [.lst [.int 0],.lst [.int 0],.lst [.int 0],.lst [.int 1],.lst [.int 0,.int 1],.lst [.int 0,.int 1,.int 2],.lst [.int 2],.lst [.int 0,.int 2],.lst [.int 1,.int 2],.lst [.int 1],.lst [.int 0],.lst [.int 0,.int 1]]) (.int r)=.ok (.lst<|h.map D.int)/\h.map (λi=>jG (.lst<|E.map D.str)<|.int i)=L.map λw=>R.ok (D.str w):=by
 have m:∃u v w,E=[u,v,w]:=by
  have k:=W.len;match E,k with
  |[u,v,w],_=>simp
 obtain⟨u,v,w,rfl⟩:=m;have nd:=W.nd;simp only[bL,az,cF,fY,i6]at nd;obtain⟨⟨c,f⟩,d,_⟩:=nd;obtain⟨r,rfl⟩:=bu l;have j:r=0\/r=1\/r=2\/r=3\/r=4\/r=5\/r=6\/r=7\/r=8\/r=9\/r=10\/r=11:=by lia
 rcases j with rfl|rfl|rfl|rfl|rfl|rfl|rfl|rfl|rfl|rfl|rfl|rfl;·exact⟨[0],[u],by simp,by simp,by simp,rfl,rfl⟩
 ·exact⟨[0],[u],by simp,by simp,by simp,rfl,rfl⟩
 ·exact⟨[0],[u],by simp,by simp,by simp,rfl,rfl⟩
 ·exact⟨[1],[v],by simp,by simp,by simp,rfl,rfl⟩
 ·exact⟨[0,1],[u,v],by simp[c],by simp,by simp,rfl,rfl⟩
 ·exact⟨[0,1,2],[u,v,w],by simp[c,f,d],by simp,by simp,rfl,rfl⟩
 ·exact⟨[2],[w],by simp,by simp,by simp,rfl,rfl⟩
 ·exact⟨[0,2],[u,w],by simp[f],by simp,by simp,rfl,rfl⟩
 ·exact⟨[1,2],[v,w],by simp[d],by simp,by simp,rfl,rfl⟩
 ·exact⟨[1],[v],by simp,by simp,by simp,rfl,rfl⟩
 ·exact⟨[0],[u],by simp,by simp,by simp,rfl,rfl⟩
 ·exact⟨[0,1],[u,v],by simp[c],by simp,by simp,rfl,rfl⟩
variable{a:Ad}
variable{S:jt}{A:aa Rd}
def xH(e:fi (kO ρ)=.ok ds):mJ fi h gb ρ S=k6 h gb ds ρ S:=by unfold mJ;rw[e];rfl
def zG(f:Pk Zp)(h:C<S.length)(i)(m x b)(l:0<m)(n:m<10000):∃r c:Int,0<=r/\r<m/\∀ρ:jP,ρ[i]?=some (i8 C)->zZ Zp (i7 (zV i) (i7 (zD (jc m)) jo)) ρ (sx S C x b)=.ok (.d (.int r)) (sx S C c b):=by obtain⟨r,c,k,j,e⟩:=f h m x b l (aE (by grind:m.natAbs<10000)<|by decide);exact⟨r,c,k,j,λρ d=>lP (jq (k4 d)<|jq (jn rfl) j0) e⟩
abbrev Cl(Fc:jA):Prop:=∀(ns:kv) (k:Nat),Fc [.lst<|ns.map .int,.int k]=.ok (.int<|ns.getD k 0)
def Zx(hp:Pk Zp)(hv:Vl H)(hc:Cl Fc)(W:W3 E)(hb:b0<=F)(m:kv)(s1)(f T c:Int)(h:Out S F<|A.map Rd.d)(J:ng A)(ht:∀r∈A,r.t<=T)(h0:0<=T)(h1:T<9000000000)(hz:A.length<=5000)(s7 s8 s9 nI mG):
    (f<A.length/\si a Fc Zp H [jj<|m.map .int,s1,ji f,jj<|E.map D.str,i8 F,ji T,ji c,s7,s8,s9,nI,mG] S=.bk [jj<|m.map .int,s1,ji f,jj<|E.map D.str,i8 F,ji T,ji c,s7,s8,s9,nI,mG] S)
    \/(A.length<=f/\∃(O:Int) (n:aa Rd) (S':jt) (t7 z o G s:lA),si a Fc Zp H [jj (m.map .int),s1,ji f,jj (E.map D.str),i8 F,ji T,ji c,s7,s8,s9,nI,mG] S=.nx [jj (m.map .int),s1,ji f,jj (E.map D.str),i8 F,ji O,ji c,t7,z,o,G,s] S'
     /\Out S' F (n.map Rd.d)/\ng n/\(∀r∈n,r.t<=O)/\T<=O/\O<=T+4000/\n.length<=A.length+12/\j8 b0 S S'):=by
 have V:∀k:jk,decide (f<(A.length:Int))=k->qz (b1 tB<|d2 sy (dA lR<|ba (dV 4) jb)<|dV 2) [jj<|m.map .int,s1,ji f,jj<|E.map D.str,i8 F,ji T,ji c,s7,s8,s9,nI,mG] S=.ok k S:=λk hk=>by refine Aq ?_;show(b1 tB<|d2 sy (dA lR<|ba (dV 4) jb)<|dV 2) [_,_,j9 f,_,oN S<|i8 F,_,_,_,_,_,_,_]=_;rw[xE h.tt];show R.ok (decide<|f<(((A.map Rd.d).length:Nat):Int))=_;rw[ao,hk]
 unfold si;by_cases hm:f<(A.length:Int)
 ·left;refine⟨hm,?_⟩;unfold jf;rw[nL<|V true<|aR hm];rfl
 right;refine⟨by simp_all,?_⟩;rw[mT<|V false<|aJ hm];generalize hbb:m.getD 0 0/7%2=b;have e7:mU (λρ=>((ba (dV 6)<|ba (d2 jU (d2 kE (dA Fc<|ba (dV 0)<|ba (jc 0) jb)<|jc 7)<|jc 2) jb) ρ).bind jM) [jj<|m.map .int,s1,ji f,jj<|E.map D.str,i8 F,ji T,ji c,s7,s8,s9,nI,mG] S=.ok (.loc S.length) (S++[sc c b]):=by show(lJ ((((((Fc [.lst<|m.map .int,.int (0:Nat)]).bind λx=>kE x<|.int 7).bind λy=>jU y<|.int 2).bind λy=>R.ok [y]).bind λQ=>R.ok<|D.int c::Q).bind jM) S).bind _=_;rw[hc m 0];show(lJ ((((((kE (.int<|m.getD 0 0)<|.int 7).bind λy=>jU y<|.int 2).bind λy=>R.ok [y]).bind λQ=>R.ok<|D.int c::Q).bind jM)) S).bind _=_;rw[uj (by decide)<|by decide];show(lJ (((((jU (.int<|m.getD 0 0/7)<|.int 2).bind λy=>R.ok [y]).bind λQ=>R.ok<|D.int c::Q).bind jM)) S).bind _=_;rw[oj<|by decide,hbb];rfl
 rw[jI<|j5 e7<|aj rfl];have RH:=m6 h.tt;have gB:Gr S (S++[sc c b]):=Gr.app λj=>mC [.int c,.int b] j;have hn:S.length<(S++[sc c b]).length:=by rw[aq];exact bH _
 have mB:Mk (S++[sc c b]) F S.length A:=⟨⟨gB.get h.m0,gB.bnd h.bnd,gB.get h.tt,gB.sf _ RH h.st,h.o0⟩,hn,by walk_at "l",by have:=h.o0;lia⟩;have lB:j8 b0 S (S++[sc c b]):=gB.lw (by lia);have eB:S++[sc c b]=sx (S++[sc c b]) S.length c b:=(qV S _ _).symm;generalize S++[sc c b]=B at*;generalize S.length=C at*;rw[eB];obtain⟨I,x1,r40,r41,e4⟩:=zG hp hn 7 4 c b (by decide) (by decide);show∃(O:Int) (n:aa Rd) (S':jt) (t7 z o G s:lA),jf _ _ [jj<|m.map .int,s1,ji f,jj<|E.map D.str,i8 F,ji T,ji c,i8 C,s8,s9,nI,mG] (sx B C c b)=_/\_;rw[jI<|j5 (lU (jn (d:=.int<|T+1) rfl) (e4 _ rfl) (w:=.int<|T+1+I) rfl)<|aj rfl];obtain⟨r9,x2,r90,r91,e9⟩:=zG hp hn 7 9 x1 b (by decide) (by decide);have far:∃(t U:Int),T+1<=t/\t<=T+3900/\j4 (pR tB<|z2 jW (zZ Zp<|i7 (zV 7)<|i7 (zD<|jc 9) jo)<|zD<|jc 1) (jy 5<|z2 kA (zD<|dV 5)<|zZ Zp<|i7 (zV 7)<|i7 (zD<|jc 3000) jo) kn [jj<|m.map .int,s1,ji f,jj<|E.map D.str,i8 F,ji<|T+1+I,ji c,i8 C,s8,s9,nI,mG] (sx B C x1 b)=.nx [jj<|m.map .int,s1,ji f,jj<|E.map D.str,i8 F,ji t,ji c,i8 C,s8,s9,nI,mG] (sx B C U b):=by
  have o:pR tB (z2 jW (zZ Zp<|i7 (zV 7)<|i7 (zD<|jc 9) jo)<|zD<|jc 1) [jj<|m.map .int,s1,ji f,jj<|E.map D.str,i8 F,ji<|T+1+I,ji c,i8 C,s8,s9,nI,mG] (sx B C x1 b)=.ok (decide<|r9=1) (sx B C x2 b):=xR (lU (e9 _ rfl) (jn (d:=.int 1) rfl) (w:=.bl<|decide<|r9=1) rfl) rfl;by_cases h9:r9=1
  ·rw[aR h9]at o;obtain⟨r3,U,r30,r31,e3⟩:=zG hp hn 7 3000 x2 b (by decide) (by decide);refine⟨T+1+I+r3,U,by omega,by omega,?_⟩;rw[nL o,j5 (lU (jn (d:=.int<|T+1+I) rfl) (e3 _ rfl) (w:=.int<|T+1+I+r3) rfl)<|aj rfl];rfl
  ·rw[aJ h9]at o;exact⟨T+1+I,x2,by omega,by omega,(rQ o).trans rfl⟩
 obtain⟨t,U,T20,T21,ef⟩:=far;show∃(O:Int) (n:aa Rd) (S':jt) (t7 z o G s:lA),jf _ _ [jj<|m.map .int,s1,ji f,jj<|E.map D.str,i8 F,ji<|T+1+I,ji c,i8 C,s8,s9,nI,mG] (sx B C x1 b)=_/\_;rw[jI ef];obtain⟨q,N,YT,YU,e8⟩:=zG hp hn 7 12 U b (by decide) (by decide);rw[jI<|j5 (e8 _ rfl)<|aj rfl];show∃(O:Int) (n:aa Rd) (S':jt) (t7 z o G s:lA),jf _ _ [jj<|m.map .int,s1,ji f,jj<|E.map D.str,i8 F,ji t,ji c,i8 C,ji q,s9,nI,mG] (sx B C N b)=_/\_;have IL:∀r∈A,r.t<t:=λr J=>by have:=ht r J;omega
 have U2:∃(u:Int) (l:aa Rd) (M:jt) (P:Int) (o:lA),j4 (qz<|qL (b1 tB<|d2 jW (dV 8)<|jc 11)<|b1 tB<|d2 lH (dA lR<|ba (dV 4) jb)<|jc 50) (mJ (λρ=>((ba (jc 9) jb) ρ).bind qT) (hV 9)<|tL a Fc Zp H) kn [jj<|m.map .int,s1,ji f,jj<|E.map D.str,i8 F,ji t,ji c,i8 C,ji q,s9,nI,mG] (sx B C N b)
  =.nx [jj<|m.map .int,s1,ji f,jj<|E.map D.str,i8 F,ji u,ji c,i8 C,ji q,o,nI,mG] (sx M C P b)/\Mk M F C l/\ng l/\(∀r∈l,r.t<u)/\t<=u/\u<=t+9/\l.length<=A.length+9/\j8 b0 B M:=by
  have z:qz (qL (b1 tB<|d2 jW (dV 8)<|jc 11)<|b1 tB<|d2 lH (dA lR<|ba (dV 4) jb)<|jc 50) [jj<|m.map .int,s1,ji f,jj<|E.map D.str,i8 F,ji t,ji c,i8 C,ji q,s9,nI,mG] (sx B C N b)=.ok (decide (q=11)&&decide ((A.length:Int)<50)) (sx B C N b):=by refine Aq ?_;show(qL (b1 tB<|d2 jW (dV 8)<|jc 11)<|b1 tB<|d2 lH (dA lR<|ba (dV 4) jb)<|jc 50) [_,_,_,_,oN _<|i8 F,_,_,_,j9 q,_,_,_]=_;rw[xE (mB.out N b).tt];show(if decide (q=11)=true then R.ok (decide<|(((A.map Rd.d).length:Nat):Int)<50)else R.ok false)=_;rw[ao];cases decide (q=11)<;>rfl
  cases hk:(decide (q=11)&&decide ((A.length:Int)<50))with
  |false=>rw[hk]at z;exact⟨t,A,B,N,s9,(rQ z).trans rfl,mB,J,IL,gC _,by omega,by omega,.refl _ _⟩
  |true=>rw[hk]at z;obtain⟨u,l,M,P,o,e5,m3,r3,l3,g1,g2,g3,g4⟩:=nine (a:=a) (Fc:=Fc) (Zp:=Zp) hv W hb (jj (m.map .int)) s1 (ji f) c b (ji q) nI mG (qm 0 9) t A B N s9 mB J IL (by omega) (show t+9<10000000000 by omega) (show A.length+9<9000 by omega);exact⟨u,l,M,P,o,(nL z).trans e5,m3,r3,l3,g1,g2,gg g3,g4⟩
 obtain⟨u,l,M,P,o,en,m3,RP,IM,T30,T31,hl3,l3⟩:=U2;rw[jI en];obtain⟨p,L,Qt,hL2,hL3,yG,uX⟩:=aau W q YT YU;rw[jI<|j5 (jn (d:=.lst<|p.map D.int) yG)<|aj rfl];obtain⟨L',pL,uL,eL⟩:=aaD L (by omega) Qt;have it:((jz<|λρ=>((jz<|kl (λρ=>((dV 10) ρ).bind j2) 1 [3] (gV 0) (λ_=>.ok true)<|d2 jG (dV 1)<|dV 0) ρ).bind xy) (kO [jj<|m.map .int,s1,ji f,jj<|E.map D.str,i8 F,ji u,ji c,i8 C,ji q,o,jj<|p.map D.int,mG])).bind j2=.ok (L'.map D.str):=by
  have cp:∀(p:kv) (L:jS),p.map (λi=>jG (.lst<|E.map D.str)<|.int i)=L.map (λw=>R.ok<|D.str w)->lD (gV 0) (λ_=>R.ok true) (d2 jG (dV 1)<|dV 0) [.no,jO<|E.map D.str] (p.map D.int)=some (L.map D.str):=by
   intro p;induction p with
   |nil=>intro L h;cases L with|nil=>rfl|cons _ _=>cases h
   |cons i p ih=>
    intro L h;cases L with
    |nil=>cases h
    |cons w L=>rw[aW,aW,List.cons.injEq]at h;rw[aW,aW];unfold lD;show((pJ<|jG (.lst<|E.map D.str)<|.int i).bind λv=>(lD (gV 0) (λ_=>R.ok true) (d2 jG (dV 1)<|dV 0) [.no,jO<|E.map D.str]<|p.map D.int).bind λvs=>some<|v::vs)=_;rw[h.1,ih L h.2];rfl
  have ixl:p.length<=3:=by have:=bN List.length uX;rw[ao,ao]at this;omega
  have hd:kl (λρ=>((dV 10) ρ).bind j2) 1 [3] (gV 0) (λ_=>.ok true) (d2 jG (dV 1)<|dV 0) (kO [jj<|m.map .int,s1,ji f,jj<|E.map D.str,i8 F,ji u,ji c,i8 C,ji q,o,jj<|p.map D.int,mG])=.ok (L.map D.str):=by show(if(p.map D.int).length<=sizeLine then uf (lD (gV 0) (λ_=>R.ok true) (d2 jG (dV 1)<|dV 0) [.no,jO<|E.map D.str]<|p.map D.int)else .bad)=_;rw[au<|by rw[ao];exact dS (uu<|by omega),cp p L uX];rfl
  rw[n7 (X:=L'.map D.str)<|by rw[n7 hd];exact eL];rfl
 obtain⟨Y,B4,x6,s,BP,m4,RQ,RV,Ro,l4⟩:=three (a:=a) (Fc:=Fc) (Zp:=Zp) hv hb (jj (m.map .int)) s1 (ji f) (jj (E.map D.str)) u (by omega) (by omega) (ji c) b (ji q) o (jj (p.map D.int)) L' l M P mG m3 RP (λw hw=>W.ok w (hL2 w (pL.mem_iff.mp hw))) uL (λr J=>by have:=IM r J;omega) (λr J e=>by have:=IM r J;omega) (by rw[pL.length_eq];omega);refine⟨u,Y,sx B4 C x6 b,i8 C,ji q,o,jj (p.map D.int),s,?_,m4.out x6 b,RQ,RV,by omega,by omega,by rw[Ro,pL.length_eq];omega,((lB.trans l3).trans l4).trans (j8.sx (by omega) x6 b)⟩;show mJ _ _ _ [jj<|m.map .int,s1,ji f,jj<|E.map D.str,i8 F,ji u,ji c,i8 C,ji q,o,jj<|p.map D.int,mG] (sx M C P b)=_;exact(xH it).trans BP
theorem LB(N:Pk Zp)(hv:Vl H)(O:Cl Fc)(W:W3 E)(P:b0<=F)(o:kv)(s1)(most)(hm:most<=1000):∀(p:kv) (T:Int) (A:aa Rd) (S:jt) (q l k j f d:lA),Out S F (A.map Rd.d)->ng A->(∀r∈A,r.t<=T)->0<=T->T+p.length*4000<9000000000->(A.length:Int)<=most+12->
 ∃(i:aa Rd) (S':jt) (t5 t6 z y w n m:lA),k6 (hV 6) (si a Fc Zp H) (p.map D.int) [jj<|o.map .int,s1,ji most,jj<|E.map D.str,i8 F,ji T,q,l,k,j,f,d] S
  =.nx [jj<|o.map .int,s1,ji most,jj<|E.map D.str,i8 F,t5,t6,z,y,w,n,m] S'/\Out S' F (i.map Rd.d)/\ng i/\(i.length:Int)<=most+12/\j8 b0 S S'
 |[],T,A,S,q,l,k,j,f,d,h,t,_,_,_,M=>⟨A,S,_,q,l,k,j,f,d,rfl,h,t,M,.refl _ _⟩
 |c::p,T,A,S,q,l,k,j,f,d,h,t,ht,h0,Q,M=>by
  rw[aw]at Q;have st:∀x:lX,oM (si a Fc Zp H [jj<|o.map .int,s1,ji most,jj<|E.map D.str,i8 F,ji T,ji c,l,k,j,f,d] S) (k6 (hV 6) (si a Fc Zp H)<|p.map D.int)=x->k6 (hV 6) (si a Fc Zp H) ((c::p).map D.int) [jj<|o.map .int,s1,ji most,jj<|E.map D.str,i8 F,ji T,q,l,k,j,f,d] S=x:=λx hx=>hx;rcases Zx (b0:=b0) (a:=a) N hv O W P o s1 most T c h t ht h0 (by lia) (by lia) l k j f d with⟨_,e⟩|⟨hle,T',i,S',z,y,w,n,m,e,h',J,G,g1,g2,g3,l1⟩;·exact⟨A,S,_,_,l,k,j,f,d,st _ (by rw[e];rfl),h,t,M,.refl _ _⟩
  ·obtain⟨s,S2,u5,Y,V,U,R,v,u,e2,h2,I,L,l2⟩:=LB N hv O W P o s1 most hm p T' i S' (ji c) z y w n m h' J G (by walk_at "l") (by push_cast at Q;lia) (by lia);exact⟨s,S2,u5,Y,V,U,R,v,u,st _ (by rw[e];exact e2),h2,I,L,l1.trans l2⟩
def Og(f)(c:aa α)(lo hi):∃d:aa α,cutD (c.map f) lo hi=d.map f/\d.length<=c.length:=by
 unfold cutD;refine⟨?_,?_,?_⟩
 rotate_left
 ·rw[ao,<-List.map_drop,<-List.map_take]
 ·rw[c7,c9];lia
def Uw(y:Pk Zp)(hv:Vl H)(n:Cl Fc)(W:W3 E)(f:kv)(z:f.length<=63)(first c:Int)(G:c<=1000/\0<=c)(q:S[0]?=some .mk)(o:m9 S):
    ∃(A:aa Rd) (S':jt),ng A/\(A.length:Int)<=c+12/\Gr S S'/\ju (CD a Fc Zp H S.length (jY 12 [.d<|.lst<|f.map .int,.d<|.int first,.d<|.int c,.d<|.lst<|E.map D.str]) S)=.ok (.d<|.lst<|A.map Rd.d) S':=by
 have J:=m6 q;have gr:Gr S (S++[.li []]):=Gr.app λ_=>rfl;have L:Out (S++[.li []]) S.length (([]:aa Rd).map Rd.d):=⟨gr.get q,gr.bnd o,m5 S _,qU (o _<|ai _) rfl,J⟩;obtain⟨i,N,lc⟩:=Og D.int f (some first) (some<|first+60);have m:=cL (f.getD 1 0) (show(10^9 - 10^6:Int)≠0 by decide);have t:=cD (f.getD 1 0) (show(0:Int)<10^9 - 10^6 by decide);generalize hT:f.getD 1 0%(10^9 - 10^6)=T at m t;have j:T+(i.length:Int)*4000<9000000000:=by
  have M:(i.length:Int)<=63:=by lia
  lia
 obtain⟨A,k,Y,V,U,Q,P,s,r,O,p,w,I,v⟩:=LB (b0:=S.length) (a:=a) y hv n W (ai _) f (ji first) c G.1 i T [] (S++[.li []]) none none none none none none L ⟨(λ_ h=>nomatch h),List.Pairwise.nil,(λ_ h=>nomatch h)⟩ (λ_ h=>nomatch h) m j (by simp;lia);have u:j8 S.length k (k.set S.length .no):=j8.set (ai _) λ_ _=>rfl;have l:=((gr.lw<|ai _).trans v).trans u;refine⟨A,k.set S.length .no,w,I,⟨l.len,l.pre,l.sf,l.bnd⟩,?_⟩;unfold CD;show ju (jf (jy 4 _) _ [jj<|f.map .int,ji first,ji c,jj<|E.map D.str,none,none,none,none,none,none,none,none] S)=_;rw[jI<|j5 (show mU (λρ=>(jb ρ).bind jM) _ S=.ok (.loc S.length) (S++[.li []])from rfl)<|aj rfl];rw[jI (j5 (jn (d:=.int T) (by show((Fc [.lst (f.map .int),.int (1:Nat)]).bind λx=>jU x (.int (10^9 - 10^6)))=_;rw[n f 1];show jU (.int<|f.getD 1 0) (.int<|10^9 - 10^6)=_;rw[oj (by decide),hT])) (aj rfl))]
 show ju (jf (mJ _ _ _) _ [jj<|f.map .int,ji first,ji c,jj<|E.map D.str,i8 S.length,ji T,none,none,none,none,none,none]<|S++[.li []])=_;rw[jI<|(xH (ds:=i.map D.int)<|by show R.ok (cutD (f.map D.int) (some first)<|some<|first+60)=_;rw[N]).trans O]
 rw[Ah rfl p.tt (ai _) p.st];show ju (jZ _ [jj<|f.map .int,ji first,ji c,jj<|E.map D.str,(if S.length=S.length then jj (A.map Rd.d)else _),_,_,_,_,_,_,_] _)=_;rw[au rfl,y_ret<|jn (d:=.lst<|A.map Rd.d) rfl];rfl
end
variable{a:Ad}
noncomputable def ud:aa jd:=["a","bb","ab","ba","c","b","aa","d","e","f","g","h"]
structure rZ(ws:jS)(R:nB):Prop where
 ok:∀r∈R,PyData.strOk r.1=true/\Gd ws Cw 4 19 r.2
 nm:∀r∈R,r.1∈ud
section
variable{q:jD}{p:jA}{i b0:Nat}{ws:jS}{S:jt}
noncomputable def oY:aa D:=[.str "a",.str "bb",.str "ab",.str "ba",.str "c",.str "b",.str "aa",.str "d",.str "e",.str "f",.str "g",.str "h"]
def U6:∀w∈ud,PyData.strOk w=true:=by decide+kernel
def U5(k:Nat)(h:k<12):∃c:jd,c∈ud/\jG (.lst oY) (.int k)=.ok (.str c):=by have f:k<ud.length:=h;refine⟨ud[k],bU _,?_⟩;show(match L2.kc oY (k:Int)with|some d=>R.ok d|none=>.bad)=_;rw[L2.tH<|show oY[k]?=some (.str ud[k])by rw[show oY=ud.map D.str from rfl,aH,ar f];rfl]
theorem LD(hg:Gv q ws Cw 4 19)(O:Cl p)(hb:b0<=i)(f:kv)(first:Nat)(s2):∀(o:lC) (R:nB) (S:jt) (A m:lA),Out S i (R.map jR)->rZ ws R->(∀k∈o,k<12)->R.length+o.length<1000->
 ∃(V:nB) (S':jt) (I G:lA),k6 (hV 6) (uR a p q) (o.map λ(k:Nat)=>D.int (k:Int)) [jj<|f.map .int,ji first,s2,jj<|ws.map D.str,jj oY,i8 i,A,m] S
  =.nx [jj<|f.map .int,ji first,s2,jj<|ws.map D.str,jj oY,i8 i,I,G] S'/\Out S' i (V.map jR)/\rZ ws V/\V.length=R.length+o.length/\j8 b0 S S'
 |[],R,S,A,m,h,F,_,_=>⟨R,S,A,m,rfl,h,F,rfl,.refl _ _⟩
 |k::o,R,S,A,m,h,F,Y,hz=>by
  rw[aw]at hz;obtain⟨n,v,U⟩:=U5 k (Y k<|.head _);generalize N:f.getD (first+k) 0=c;generalize P:f.getD 0 0/7%2=b;have e7:mU (λρ=>((ba (dA p<|ba (dV 0)<|ba (d2 kA (dV 1)<|dV 6) jb)<|ba (d2 jU (d2 kE (dA p<|ba (dV 0)<|ba (jc 0) jb)<|jc 7)<|jc 2) jb) ρ).bind jM) [jj<|f.map .int,ji first,s2,jj<|ws.map D.str,jj oY,i8 i,ji k,m] S=.ok (.loc S.length) (S++[sc c b]):=by show(lJ (((p [.lst<|f.map .int,.int<|(first:Int)+(k:Int)]).bind λx=>((((p [.lst<|f.map .int,.int (0:Nat)]).bind λx=>kE x<|.int 7).bind λy=>jU y<|.int 2).bind λy=>P2.R.ok [y]).bind λs=>P2.R.ok<|x::s).bind jM) S).bind _=_;rw[show((first:Int)+(k:Int))=((first+k:Nat):Int)from rfl,O f<|first+k,O f 0,N];show(lJ ((((((kE (.int<|f.getD 0 0)<|.int 7).bind λy=>jU y<|.int 2).bind λy=>P2.R.ok [y]).bind λs=>P2.R.ok<|D.int c::s).bind jM)) S).bind _=_;rw[uj (by decide)<|by decide];show(lJ (((((jU (.int<|f.getD 0 0/7)<|.int 2).bind λy=>P2.R.ok [y]).bind λs=>P2.R.ok<|D.int c::s).bind jM)) S).bind _=_;rw[oj<|by decide,P];rfl
  have L:=m6 h.tt;have hn:S.length<(S++[sc c b]).length:=by rw[aq];exact bH _
  have gB:Gr S (S++[sc c b]):=Gr.app λj=>mC [.int c,.int b] j;obtain⟨t,l,gd,et⟩:=hg (S:=S++[sc c b]) hn c b;rw[show sx (S++[sc c b]) S.length c b=S++[sc c b]from qV S _ _,show sx (S++[sc c b]) S.length l b=S++[sc l b]from qV S _ _]at et;have z:Gr S (S++[sc l b]):=Gr.app λj=>mC [.int l,.int b] j;have u:Out (S++[sc l b]) i (R.map jR):=⟨z.get h.m0,z.bnd h.bnd,z.get h.tt,z.sf _ L h.st,h.o0⟩
  have oD:Out ((S++[sc l b]).set i (.li<|((R++[(n,t)]).map jR).map .d)) i ((R++[(n,t)]).map jR):=
   ⟨by have:=h.o0;rw[av<|by walk_at "l"];exact u.m0,λj C=>nV (u.bnd j<|by rw[aT]at C;exact C)<|mC _ _,aF<|m6 u.tt,nV u.st<|mC _ _,h.o0⟩
  have T:rZ ws (R++[(n,t)]):=⟨λr J=>by
   rcases aX.mp J with w|w;· exact F.ok r w
   · rw[aI]at w;subst w;exact⟨U6 _ v,gd⟩,λr J=>by
   rcases aX.mp J with w|w;· exact F.nm r w
   · rw[aI]at w;subst w;exact v⟩
  obtain⟨R2,S2,I,G,e2,h2,Q,M,l2⟩:=LD hg O hb f first s2 o (R++[(n,t)]) _ (ji k) (i8 S.length) oD T (λj C=>Y j (.tail _ C)) (by rw[aq];simp;lia)
  refine⟨R2,S2,I,G,?_,h2,Q,by rw[M,aq,aw];simp;lia,((z.lw<|by lia).trans (j8.xw hb)).trans l2⟩;have st:uR a p q [jj<|f.map .int,ji first,s2,jj<|ws.map D.str,jj oY,i8 i,ji k,m] S=.nx [jj<|f.map .int,ji first,s2,jj<|ws.map D.str,jj oY,i8 i,ji k,i8 S.length] ((S++[sc l b]).set i (.li<|((R++[(n,t)]).map jR).map .d)):=by unfold uR;rw[jI<|j5 e7<|aj rfl];have oB:(S++[sc c b])[i]?=some (.li<|(R.map jR).map .d):=gB.get h.tt;show o9 5 _ [jj<|f.map .int,ji first,s2,jj<|ws.map D.str,jj oY,i8 i,ji k,i8 S.length] (S++[sc c b])=_;rw[vG rfl oB (l7 [.str n,t.d] (jq (jn U)<|jq (lP (jq (k4 rfl)<|jq (jn (d:=.lst<|ws.map D.str) rfl) j0) et) j0) (d:=jR (n,t)) rfl) u.tt<|by rw[ao,ao];lia];rw[bM,bM];rfl
  show oM (uR a p q [jj<|f.map .int,ji first,s2,jj<|ws.map D.str,jj oY,i8 i,ji k,m] S) (k6 (hV 6) (uR a p q)<|o.map λ(k:Nat)=>D.int (k:Int))=_;rw[st];exact e2
def Ux(u:Gv q ws Cw 4 19)(v:Cl p)(c:kv)(first many:Nat)(F:many<=12)(n:S[0]?=some .mk)(j:m9 S):
    ∃(R:nB) (S':jt),rZ ws R/\R.length=many/\Gr S S'/\ju (CF a p q S.length (jY 8 [.d<|.lst<|c.map .int,.d<|.int first,.d<|.int many,.d<|.lst<|ws.map D.str]) S)=.ok (.d<|.lst<|R.map jR) S':=by
 have w:=m6 n;have gr:Gr S (S++[.li []]):=Gr.app λ_=>rfl;have y:Out (S++[.li []]) S.length (([]:aa nW).map jR):=⟨gr.get n,gr.bnd j,m5 S _,qU (j _<|ai _) rfl,w⟩;obtain⟨R,f,C,A,z,m,x,s,r⟩:=LD (b0:=S.length) (a:=a) u v (ai _) c first (some (.d (.int many))) (List.range many) [] (S++[.li []]) none none y ⟨(λ_ h=>nomatch h),(λ_ h=>nomatch h)⟩ (λk t=>by have:=cf.mp t;walk_at "l") (by simp;walk_at "l")
 have o:j8 S.length f (f.set S.length .no):=j8.set (ai _) λ_ _=>rfl;have l:=((gr.lw<|ai _).trans r).trans o;refine⟨R,f.set S.length .no,x,by simpa using s,⟨l.len,l.pre,l.sf,l.bnd⟩,?_⟩;unfold CF;rw[jI<|j5 (jn (d:=.lst oY) rfl)<|aj rfl];generalize oY=nm at*;show ju (jf (jy 5 _) _ [some<|.d<|.lst<|c.map .int,some<|.d<|.int first,some<|.d<|.int many,some<|.d<|.lst<|ws.map D.str,some<|.d<|.lst nm,none,none,none] S)=_;rw[jI<|j5 (show mU (λρ=>(jb ρ).bind jM) _ S=.ok (.loc S.length) (S++[.li []])from rfl)<|aj rfl];rw[show List.set [some<|Z.d<|.lst<|c.map .int,some<|.d<|.int first,some<|.d<|.int many,some<|.d<|.lst<|ws.map D.str,some<|.d<|.lst nm,none,none,none] 5 (some<|Z.loc S.length)=[some<|.d<|.lst<|c.map .int,some<|.d<|.int first,some<|.d<|.int many,some<|.d<|.lst<|ws.map D.str,some<|.d<|.lst nm,some<|.loc S.length,none,none]from rfl];rw[jI<|(xH (ds:=(List.range many).map λ(k:Nat)=>D.int (k:Int))<|by rw[show(ba (dV 2) jb) (kO [some<|.d<|.lst<|c.map .int,some<|.d<|.int first,some<|.d<|.int many,some<|.d<|.lst<|ws.map D.str,some<|.d<|.lst nm,some<|.loc S.length,none,none])=.ok [.int (many:Int)]from rfl,Lg,Lk (by simp)<|by omega,Ls,bh];rfl).trans z]
 rw[Ah rfl m.tt (ai _) m.st];show ju (jZ _ [some<|.d<|.lst<|c.map .int,some<|.d<|.int first,some<|.d<|.int many,some<|.d<|.lst<|ws.map D.str,some<|.d<|.lst nm,(if S.length=S.length then some (.d<|.lst<|R.map jR)else _),_,_] _)=_;rw[au rfl,y_ret<|jn (d:=.lst<|R.map jR) rfl];rfl
variable{a:Ad}{e:nA}
def SW(f:nB):∀d c,f.foldl (lN e) (d,c)=(d++(judge e f c).1,(judge e f c).2):=by
 induction f with
 |nil=>intro d c;show(d,c)=(d++[],c);rw[bz]
 |cons h R j=>
  intro d c;unfold judge;rw[eV,eV];have l:lN e (d,c) h=(d++(lN e ([],c) h).1,(lN e ([],c) h).2):=by unfold lN;dsimp only;rw[gc]
  rw[l,j];have k:=j (lN e ([],c) h).1 (lN e ([],c) h).2;rw[show((lN e ([],c) h).1,(lN e ([],c) h).2)=lN e ([],c) h from rfl]at k;rw[k,bP]
def SX(R1 R2 row):judge e (R1++R2) row=((judge e R1 row).1++(judge e R2 (judge e R1 row).2).1,(judge e R2 (judge e R1 row).2).2):=by show(R1++R2).foldl (lN e) ([],row)=_;rw[fE];exact SW R2 (judge e R1 row).1 (judge e R1 row).2
def Je(ru R row):judge e (ru::R) row=((lN e ([],row) ru).1++(judge e R (lN e ([],row) ru).2).1,(judge e R (lN e ([],row) ru).2).2):=SX [ru] R row
def zy{r:Rd}(h:PyData.strOk r.m=true):mr r.d=true/\nC r.d<=5:=by
 constructor
 ·show(PyData.strOk r.m&&(true&&((true&&(true&&true))&&true)))=true;rw[h];rfl
 ·show 2<=5;decide
def TY{d:Type}{f:d->D}{l:aa d}(h:∀x∈l,mr (f x)=true/\nC (f x)<=5):mr (.lst<|l.map f)=true/\nC (.lst<|l.map f)<=60:=by have:n8 (l.map f)<=5:=OX λx c=>(h x c).2;exact⟨D1 λx c=>(h x c).1,by show n8 (l.map f)+1<=60;walk_at "l"⟩
variable{a:Ad}{e:nA}
abbrev vU(R:nB):Prop:=∀ru∈R,Cw ru.2/\ru.2.dep<=4/\ru.2.parts.length<=19
abbrev vT(row:aa Rd):Prop:=(∀r∈row,pq r)/\row.length<10000
variable{v:jD}{m:jt}
def Um(h:v [.d x,.d y] S=.ok (.d<|.tup [A,B]) m):ju (Co a v b (jY 2 [.d x,.d y]) S)=.ok (.d A) m:=by unfold Co;rw[y_ret<|lU (lP (jq (jn (d:=x) rfl)<|jq (jn (d:=y) rfl) j0) h) (jn (d:=.int 0) rfl) (w:=A) rfl];rfl
def Uz(h:v [.d x,.d y] S=.ok (.d<|.tup [A,B]) m):ju (Cr a v b (jY 2 [.d x,.d y]) S)=.ok (.d B) m:=by unfold Cr;rw[y_ret<|lU (lP (jq (jn (d:=x) rfl)<|jq (jn (d:=y) rfl) j0) h) (jn (d:=.int 1) rfl) (w:=B) rfl];rfl
end
def vN(c:jA)(t:T7)(A:nP):Prop:=c [t.d]=.ok (.lst<|A.map Ask.d)/\A.length<=3*t.parts.length+1/\∀x,x∈A↔x=.here\/x∈t.asks
open Classical in
def tw(c:jA)(t:T7):aa Ask:=if h:∃A,vN c t A then h.choose else[]
def Bc{t}(h:∃A,vN Fa t A):vN Fa t (tw Fa t):=by
 unfold tw
 grind
def ZC(k:∀t:T7,t.dep<8->t.parts.length<64->∃A,vN Fa t A){R}(h:vU R):∀c∈R,Fa [c.2.d]=.ok (.lst ((tw Fa c.2).map Ask.d))/\th (tw Fa c.2) c.2:=λc j=>by obtain⟨l,o,n⟩:=h c j;obtain⟨f,m,d⟩:=Bc (k c.2 (by walk_at "l")<|by walk_at "l");exact⟨f,l,by walk_at "l",(d _).mpr (.inl rfl),λx i=>(d x).mpr (.inr i),by lia⟩
def IE(k:mr x=true)(t:nC x<=60):∀{c},l5 c=true->∃b,sA x c=some b/\(b=true↔x∈c):=by
 intro c j;obtain⟨p,r,u,d1⟩:=xk k;obtain⟨i,h,s,d2⟩:=xl j;refine⟨i.any λy=>PyData.eqv y p,?_,?_⟩
 ·unfold sA
  grind
 ·clear s d2;induction c generalizing i with
  |nil=>cases h;simp
  |cons y c n=>
   have d:mr y=true/\l5 c=true:=by have:(mr y&&l5 c)=true:=j;simpa using this
   obtain⟨q,m,_⟩:=xk d.1;obtain⟨f,l,_⟩:=xl d.2;have o:lI (y::c)=(nj y).bind λq=>(lI c).bind λf=>some (q::f):=by rw[lI];cases nj y<;>cases lI c<;>rfl
   rw[o,m,l]at h;cases h;rw[fU,cJ,BS d.1 k m r,n d.2 f l,az]
   lia
def rp{t u:T7}(h:u∈t.kids):∀x∈u.asks,x∈t.asks:=λx c=>by
 unfold T7.asks at c⊢;rw[Eb t,dI];obtain⟨p,d,e⟩:=bo.mp c;have:x∈(t.kids.flatMap T7.parts).filterMap v3:=bo.mpr ⟨p,List.mem_flatMap.mpr ⟨u,h,d⟩,e⟩;split;·exact this
 ·exact .tail _ this
def MD{e f:Env}(i:e .here=f .here)(t:T7)(h:∀x∈t.asks,e x=f x):wv e t=wv f t:=by
 induction t with
 |num|here=>simp[wv,i]
 |«at» w=>simp[wv,h (.at w)<|by simp[T7.asks,T7.parts,v3]]
 |far k n=>cases k<;>simp[wv,i,h<|.back n,h<|.on n,T7.asks,T7.parts,v3]
 |times p q t d=>simp[wv,d λx c=>h x<|rp (by simp[T7.kids]) x c]
 |abs t d=>simp[wv,d λx c=>h x<|rp (by simp[T7.kids]) x c]
 |not t d=>simp[wv]
 |bin k l r s o=>have m:=s λx c=>h x (rp (by simp[T7.kids]) x c);have j:=o λx c=>h x (rp (by simp[T7.kids]) x c);cases k<;>simp[wv,m,j]
def RW{e d:Env}(f:e .here=d .here)(t:T7)(h:∀x∈t.asks,e x=d x):hv e t=hv d t:=by
 induction t with
 |not t o=>simp[hv,o λx c=>h x<|rp (by simp[T7.kids]) x c]
 |bin k l r q p=>have n:=q λx c=>h x (rp (by simp[T7.kids]) x c);have m:=p λx c=>h x (rp (by simp[T7.kids]) x c);have j:=MD f l λx c=>h x (rp (t:=.bin k l r) (by simp[T7.kids]) x c);have i:=MD f r λx c=>h x (rp (t:=.bin k l r) (by simp[T7.kids]) x c);cases k<;>simp[hv,n,m,j,i]
 |_=>simp[hv]
structure Ru(A:nP)(t:T7):Prop where
 here:Ask.here∈A
 asks:∀x∈t.asks,x∈A
 DU:∀k∈A,k.isAt=false
def CT{t}(R:Ru A t)(h:∀k∈A,see L r k=see L' r k):hit L A t r=hit L' A t r:=by
 unfold hit
 congr 1
 ·grind
 ·have e:∀k∈A,envOf L r k=envOf L' r k:=λk d=>by unfold envOf;rw[h k d]
  exact RW (e _ R.here) t λx c=>e x (R.asks x c)
def D9(l m):own (own l m) m=own l m:=by unfold own;rw[bE];simp
def Wa(r l m):own (r::l) m=if r.m=m then r::own l m else own l m:=by
 unfold own
 grind
theorem Ei(m)(t:Int):∀l:aa Rd,qj l m t=qj (own l m) m t
 |[]=>rfl
 |r::l=>by
  rw[Wa];show(if r.m=m/\r.t=t then some (own l m).length else qj l m t)=_;by_cases h:r.m=m
  ·rw[au h];show _=if r.m=m/\r.t=t then some (own (own l m) m).length else qj (own l m) m t
   rw[D9,Ei m t l]
  ·rw[ax h,ax λw=>h w.1,Ei m t l]
def KU(row m)(t:Int):place row m t=place (own row m) m t:=by unfold place;rw[Ei,show own row.reverse m=(own row m).reverse from List.filter_reverse]
def JO{k:Ask}(h:k.isAt=false)(r):k.tZ r=r.m:=by cases k<;>first|rfl|cases h
def ZY{r:Rd}{k:Ask}(h:own row r.m=own om r.m)(c:k.isAt=false):see row r k=see om r k:=by unfold see;rw[JO c,KU row,KU om,h]
def CU{t}{r:Rd}(R:Ru A t)(h:own row r.m=own om r.m):hit row A t r=hit om A t r:=CT R λk c=>ZY h (R.DU k c)
theorem KS{t:Int}:∀Y Z,(∀s∈Y,¬(s.m=m/\s.t=t))->qj (Y++Z) m t=qj Z m t
 |[],_,_=>rfl
 |s::Y,Z,h=>by show(if s.m=m/\s.t=t then _ else qj (Y++Z) m t)=_;rw[ax<|h s<|.head _,KS Y Z λs c=>h s<|.tail _ c]
def Gi(h:∀s∈l,s.m=m):own l m=l:=eQ.mpr λs c=>by simpa using h s c
def Xz(h:∀s∈X++r::Y,s.m=r.m)(d:∀s∈Y,s.t≠r.t):place (X++r::Y) r.m r.t=some X.length:=by unfold place;rw[List.reverse_append,List.reverse_cons,bP,KS _ _ λs c w=>d s (fS.mp c) w.2];show(if r.m=r.m/\r.t=r.t then some (own X.reverse r.m).length else _)=_;rw[au ⟨rfl,rfl⟩,Ea,Gi λs c=>h s<|cS _ c]
def zS{k:Ask}(h:∀s∈X++r::Y,s.m=r.m)(c:∀s∈Y,s.t≠r.t)(d:k.isAt=false):
    see (X++r::Y) r k=if 0<=k.to X.length/\k.to X.length<((X++r::Y).length:Int)then(X++r::Y)[(k.to X.length).toNat]? else none:=by
 unfold see;rw[JO d,Xz h c,Gi h]
def Ask.far(k:Ask):Int:=(k.pl).getD 0
def ZV{k:Ask}(j:∀s∈X++r::(Y++A),s.m=r.m)(h:∀s∈X++r::(Y++B),s.m=r.m)(m:∀s∈Y++A,s.t≠r.t)(l:∀s∈Y++B,s.t≠r.t)(d:k.isAt=false)(o:0<=k.far)(hf:k.far<=Y.length):
    see (X++r::(Y++A)) r k=see (X++r::(Y++B)) r k:=by
 rw[zS j m d,zS h l d];have c:∀Z:aa Rd,(X++r::(Y++Z)).length=X.length+Y.length+1+Z.length/\∀i,i<X.length+Y.length+1->(X++r::(Y++Z))[i]?=(X++r::Y)[i]?:=λZ=>by grind
 obtain⟨u,q⟩:=c A;obtain⟨t,p⟩:=c B;have f:k.to X.length<(X.length+Y.length+1:Nat):=by
  cases k with
  |here=>show(X.length:Int)<_;lia
  |back n=>have:(0:Int)<=n:=o;show(X.length:Int) - n<_;lia
  |on n=>have:n<=Y.length:=hf;show(X.length:Int)+n<_;lia
  |«at» w=>cases d
 by_cases z:0<=k.to X.length;·rw[au ⟨z,by lia⟩,au ⟨z,by lia⟩,q _<|by simp_all,p _<|by simp_all]
 ·grind
def ZZ{k:Ask}(t:∀s∈(A++Y)++r::X,s.m=r.m)(q:∀s∈(B++Y)++r::X,s.m=r.m)(h:∀s∈X,s.t≠r.t)(f:k.isAt=false)(u:0<=k.far)(hf:k.far<=Y.length):
    see ((A++Y)++r::X) r k=see ((B++Y)++r::X) r k:=by
 rw[zS t h f,zS q h f]
 have c:∀Z:aa Rd,((Z++Y)++r::X).length=Z.length+Y.length+1+X.length/\∀i,((Z++Y)++r::X)[Z.length+i]?=(Y++r::X)[i]?:=λZ=>⟨by simp;lia,λi=>by rw[bP,aN<|by simp,hY]⟩
 obtain⟨l,x⟩:=c A;obtain⟨j,v⟩:=c B;obtain⟨d,p,o⟩:∃d:Int,(∀n:Int,k.to n=n+d)/\ -(Y.length:Int)<=d:=by
  cases k with
  |here=>exact⟨0,λn=>(Int.add_zero n).symm,by simp⟩
  |back n=>exact⟨-n,λm=>Int.sub_eq_add_neg,by have:n<=Y.length:=hf;simp_all⟩
  |on n=>exact⟨n,λm=>rfl,by have:(0:Int)<=n:=u;lia⟩
  |«at» w=>cases f
 have D:k.to (A++Y).length=A.length+(Y.length+d):=by grind
 have C:k.to (B++Y).length=B.length+(Y.length+d):=by rw[p,aq];lia
 rw[D,C,l,j];have z:((A.length:Int)+(Y.length+d)).toNat=A.length+(Y.length+d).toNat:=by lia
 have y:((B.length:Int)+(Y.length+d)).toNat=B.length+(Y.length+d).toNat:=by lia
 rw[z,y,x,v]
 lia
abbrev Up(L:aa Rd):Prop:=L.Pairwise λa b=>a.t<b.t
def vC(p)(h:Up L):Up (L.filter p):=d4 ck h
theorem HH:∀{L M},Up L->Up M->(∀s,s∈L↔s∈M)->L=M
 |[],[],_,_,_=>rfl
 |[],b::M,_,_,h=>nomatch (h b).mpr (.head _)
 |a::L,[],_,_,h=>nomatch (h a).mp (.head _)
 |a::L,b::M,i,f,h=>by
  obtain⟨d,k⟩:=bZ.mp i;obtain⟨b1,j⟩:=bZ.mp f;have e:a=b:=by
   rcases az.mp ((h a).mp (.head _))with z|z;·exact z
   ·rcases az.mp ((h b).mpr (.head _))with y|y;·exact y.symm
    ·have:=b1 a z;have:=d b y;lia
  subst e;rw[HH k j λs=>?_];have c:=h s;rw[az,az]at c;constructor
  ·intro z;rcases c.mp (.inr z)with w|w;·have:=d s z;rw[w]at this;lia
   ·exact w
  ·intro z;rcases c.mpr (.inr z)with w|w;·have:=b1 s z;rw[w]at this;lia
   ·exact w
def filter_eq(p:Rd->jk)(d:Up L)(c:Up M)(h:∀s,p s=true->(s∈L↔s∈M)):L.filter p=M.filter p:=
 HH (vC p d) (vC p c) λs=>by rw[aL,aL];exact⟨λw=>⟨(h s w.2).mp w.1,w.2⟩,λw=>⟨(h s w.2).mpr w.1,w.2⟩⟩
theorem BE{p:Rd->jk}:∀{L},Up L->(∀a b:Rd,a.t<b.t->p b=true->p a=true)->L=L.filter p++L.filter λx=>!p x
 |[],_,_=>rfl
 |a::L,h,m=>by
  obtain⟨d,i⟩:=bZ.mp h;cases q:p a with
  |true=>rw[bG q,bj<|by simp[q],eK,<-BE i m]
  |false=>
   have n:L.filter p=[]:=fJ.mpr λs c w=>by rw[m a s (d s c) w]at q;cases q
   have f:(L.filter λx=>!p x)=L:=eQ.mpr λs c=>by
    cases z:p s with
    |false=>rfl
    |true=>rw[m a s (d s c) z]at q;cases q
   rw[bj<|by simp[q],bG<|by simp[q],n,f];rfl
theorem Bh:∀{L},Up L->r∈L->L=(L.filter λs=>decide<|s.t<r.t)++r::L.filter λs=>decide (r.t<s.t)
 |a::L,h,c=>by
  obtain⟨f,j⟩:=bZ.mp h;rcases az.mp c with e|c
  ·subst e;have n:(L.filter λs=>decide<|s.t<r.t)=[]:=fJ.mpr λs d w=>by have:=f s d;have:=bx w;lia
   have i:(L.filter λs=>decide<|r.t<s.t)=L:=eQ.mpr λs d=>aR (f s d);rw[bj<|by simp,bj<|by simp,n,i];rfl
  ·have:=f r c;rw[bG<|by simpa using this,bj<|by simp;walk_at "l",eK,<-Bh j c]
def bq(d x c:Int):jk:=decide (min x d<c)&&decide (c<max x d)
def bt(c:Int)(C:kv)(x:Int):Nat:=C.countP (bq c x)
def few{R:Int->Int->Prop}{q:Int->Int->jk}{D:kv}(m:D.Sublist C)(h:D.Pairwise R)(j:∀c∈D,∀d∈D,R c d->q c d=true)(l:∀c∈D,C.countP (q c)<F):D.length<=F:=by
 cases D with
 |nil=>exact bQ _
 |cons c D=>
  obtain⟨i,k⟩:=bZ.mp h;have n:D.countP (q c)=D.length:=List.countP_eq_length.mpr λd f=>j c (.head _) d (.tail _ f) (i d f)
  grind
def yD{τ x y:Int}(h:y<=x/\x<τ\/τ<x/\x<=y):bt τ C x<=bt τ C y:=List.countP_mono_left λc _ d=>by
 simp only[bq,aK,aS]at d⊢
 grind
def many{f x:Int}{C:kv}{k}(s:C.Pairwise (· < ·))(h:F+k<=bt f C x)(u:x≠f):k<=(C.filter λc=>bq f x c&&decide (F<=bt f C c)).length:=by
 have t:bt f C x=((C.filter<|bq f x).filter λc=>decide<|F<=bt f C c).length+((C.filter<|bq f x).filter λc=>!decide (F<=bt f C c)).length:=by unfold bt;rw[cX];exact(EV (λc=>decide<|F<=bt f C c) _).symm
 have e:(C.filter<|bq f x).filter (λc=>decide<|F<=bt f C c)=C.filter λc=>bq f x c&&decide (F<=bt f C c):=by rw[bE];congr 1;funext c;exact gK _ _
 rw[e]at t;have hf:((C.filter<|bq f x).filter λc=>!decide (F<=bt f C c)).length<=F:=by
  generalize p:((C.filter<|bq f x).filter λc=>!decide (F<=bt f C c))=D;have sub:D.Sublist C:=by rw[<-p];exact ck.trans ck
  have i:∀c∈D,bq f x c=true/\bt f C c<F:=λc j=>by rw[<-p]at j;obtain⟨m,l⟩:=aL.mp j;exact⟨(aL.mp m).2,by simpa using l⟩
  have o:D.Pairwise (· < ·):=s.sublist sub;by_cases z:x<f
  ·refine few (R:=(· < ·)) (q:=bq f) sub o (λc j d n r=>?_) λc j=>(i c j).2;have m:=(i c j).1;have l:=(i d n).1;simp only[bq,aK,aS]at m l⊢
   grind
  ·rw[<-List.length_reverse];refine few (R:=λc d=>d<c) (q:=bq f) (C:=C.reverse) (List.reverse_sublist.mpr sub) (List.pairwise_reverse.mpr o) (λc j d n r=>?_) λc j=>by rw[List.countP_reverse];exact(i c<|fS.mp j).2
   have m:=(i c<|fS.mp j).1;have l:=(i d<|fS.mp n).1;simp only[bq,aK,aS]at m l⊢
   grind
 lia
structure F9(m:jd)(τ:Int)(C:kv)(F:Nat)(A B:aa Rd):Prop where
 ua:Up A
 ub:Up B
 ma:∀s∈A,s.m=m
 mb:∀s∈B,s.m=m
 ag:∀s:Rd,s.t≠τ->F<=bt τ C s.t->(s∈A↔s∈B)
def Rh{m:jd}{τ:Int}{i:aa Rd}{F k:Nat}{A B:aa Rd}{K:nP}{t:T7}{r:Rd}(R:Ru K t)(n:∀x∈K,0<=x.far/\x.far<=k)(T:F9 m τ (i.map Rd.t) F A B)(hC:i.Sublist A)(O:r∈A)(Z:r∈B)(U:r.t≠τ)(D:F+k<=bt τ (i.map Rd.t) r.t):
    hit A K t r=hit B K t r:=by
 have M:r.m=m:=T.ma r O;have pw:(i.map Rd.t).Pairwise (· < ·):=d9.mpr (T.ua.sublist hC);have f:=many pw D U;have N:∀p:Int->jk,((i.map Rd.t).filter p).length<=(A.filter λs=>p s.t).length:=λp=>by rw[List.filter_map,ao];exact(hC.filter _).length_le
 by_cases z:r.t<τ
 ·let p:Rd->jk:=λs=>decide (s.t<τ)&&decide (F<=bt τ (i.map Rd.t) s.t)
  have mono:∀a b:Rd,a.t<b.t->p b=true->p a=true:=λa b h G=>by
   simp only[p,aK,aS]at G⊢;have:=yD (τ:=τ) (C:=i.map Rd.t) (x:=b.t) (y:=a.t) (.inl ⟨by walk_at "l",G.1⟩)
   lia
  have c:∀{L:aa Rd},Up L->r∈L->L=(L.filter λs=>decide<|s.t<r.t)++r::(((L.filter λs=>decide<|r.t<s.t).filter p)++((L.filter λs=>decide<|r.t<s.t).filter λs=>!p s)):=λ{L} u D=>by rw[<-BE (vC _ u) mono];exact Bh u D
  have J:(A.filter λs=>decide<|s.t<r.t)=B.filter λs=>decide (s.t<r.t):=filter_eq _ T.ua T.ub λs d=>by have d:=bx d;have:=yD (τ:=τ) (C:=i.map Rd.t) (x:=r.t) (y:=s.t) (.inl ⟨by walk_at "l",z⟩);exact T.ag s (by lia) (by lia)
  have I:((A.filter λs=>decide<|r.t<s.t).filter p)=(B.filter λs=>decide<|r.t<s.t).filter p:=by rw[bE,bE];refine filter_eq _ T.ua T.ub λs d=>?_;simp only[p,aK,aS]at d;exact T.ag s (by lia) d.1.2
  have len:k<=((A.filter λs=>decide<|r.t<s.t).filter p).length:=by
   refine aV f (aV (N _)<|gg ?_);rw[bE]
   congr 2;funext s
   rw[dh];simp only[p,bq,aK,aS];constructor;·intro w;exact⟨⟨by lia,w.2⟩,by lia⟩
   ·intro w;exact⟨by grind,w.1.2⟩
  have l:=c T.ua O;have j:=c T.ub Z;rw[<-J,<-I]at j;have gt:∀{L:aa Rd} {s:Rd},s∈(L.filter λs=>decide<|r.t<s.t)->s.t≠r.t:=λh=>by have:=bx (aL.mp h).2;omega
  have Q:∀s∈((A.filter λs=>decide (r.t<s.t)).filter p)++((A.filter λs=>decide (r.t<s.t)).filter λs=>!p s),s.t≠r.t:=λs d=>by rcases aX.mp d with h|h<;>exact gt (aL.mp h).1
  have P:∀s∈((A.filter λs=>decide (r.t<s.t)).filter p)++((B.filter λs=>decide (r.t<s.t)).filter λs=>!p s),s.t≠r.t:=λs d=>by rcases aX.mp d with h|h<;>exact gt (aL.mp h).1
  have q:∀s∈A,s.m=r.m:=λs d=>by rw[T.ma s d,M]
  have o:∀s∈B,s.m=r.m:=λs d=>by rw[T.mb s d,M]
  generalize hX:(A.filter λs=>decide<|s.t<r.t)=X at l j;generalize V:((A.filter λs=>decide<|r.t<s.t).filter p)=Y at l j Q P len;generalize((A.filter λs=>decide<|r.t<s.t).filter λs=>!p s)=A' at l Q;generalize((B.filter λs=>decide<|r.t<s.t).filter λs=>!p s)=B' at j P;clear J I hX V f N c;refine CT R λx v=>?_;have n:=n x v;rw[l]at q⊢;rw[j]at o⊢;exact ZV q o Q P (R.DU x v) n.1 (by lia)
 ·let p:Rd->jk:=λs=>!(decide (τ<s.t)&&decide (F<=bt τ (i.map Rd.t) s.t))
  have mono:∀a b:Rd,a.t<b.t->p b=true->p a=true:=λa b h G=>by
   by_cases w:(decide (τ<a.t)&&decide (F<=bt τ (i.map Rd.t) a.t))=true
   ·simp only[aK,aS]at w;have:=yD (τ:=τ) (C:=i.map Rd.t) (x:=a.t) (y:=b.t) (.inr ⟨w.1,by walk_at "l"⟩);have hb:(decide (τ<b.t)&&decide (F<=bt τ (i.map Rd.t) b.t))=true:=by
     simp only[aK,aS];lia
    simp only[p,hb]at G;cases G
   ·simp only[p];rw[Bool.not_eq_true]at w;rw[w];rfl
  have c:∀{L:aa Rd},Up L->r∈L->L=(((L.filter λs=>decide<|s.t<r.t).filter p)++((L.filter λs=>decide<|s.t<r.t).filter λs=>!p s))++r::(L.filter λs=>decide<|r.t<s.t):=λ{L} u D=>by rw[<-BE (vC _ u) mono];exact Bh u D
  have J:(A.filter λs=>decide<|r.t<s.t)=B.filter λs=>decide (r.t<s.t):=filter_eq _ T.ua T.ub λs d=>by have d:=bx d;have:=yD (τ:=τ) (C:=i.map Rd.t) (x:=r.t) (y:=s.t) (.inr ⟨by lia,by walk_at "l"⟩);exact T.ag s (by lia) (by lia)
  have I:((A.filter λs=>decide<|s.t<r.t).filter λs=>!p s)=(B.filter λs=>decide<|s.t<r.t).filter λs=>!p s:=by rw[bE,bE];refine filter_eq _ T.ua T.ub λs d=>?_;simp only[p,Bool.not_not,aK,aS]at d;exact T.ag s (by lia) d.1.2
  have len:k<=((A.filter λs=>decide<|s.t<r.t).filter λs=>!p s).length:=by
   refine aV f (aV (N _)<|gg ?_);rw[bE]
   congr 2;funext s
   rw[dh];simp only[p,bq,Bool.not_not,aK,aS];constructor;·intro w;exact⟨⟨by lia,w.2⟩,by grind⟩
   ·intro w;exact⟨by grind,w.1.2⟩
  have l:=c T.ua O;have j:=c T.ub Z;rw[<-J,<-I]at j;have nX:∀s∈(A.filter λs=>decide<|r.t<s.t),s.t≠r.t:=λs h=>by have:=bx (aL.mp h).2;omega
  have q:∀s∈A,s.m=r.m:=λs d=>by rw[T.ma s d,M]
  have o:∀s∈B,s.m=r.m:=λs d=>by rw[T.mb s d,M]
  generalize(A.filter λs=>decide<|r.t<s.t)=X at l j nX;generalize((A.filter λs=>decide<|s.t<r.t).filter λs=>!p s)=Y at l j len;generalize((A.filter λs=>decide<|s.t<r.t).filter p)=A' at l;generalize((B.filter λs=>decide<|s.t<r.t).filter p)=B' at j;clear J I f N c;refine CT R λx v=>?_;have n:=n x v;rw[l]at q⊢;rw[j]at o⊢;exact ZZ q o nX (R.DU x v) n.1 (by lia)
variable{I:nA}
noncomputable def ni(I:nA):aa nW->aa Rd->Rd->jm jd
 |[],_,_=>none
 |ru::R,L,r=>if hit L (I ru.2) ru.2 r=true then some ru.1 else ni I R (L.filter λs=>!hit L (I ru.2) ru.2 s) r
abbrev st1(I:nA)(ru:nW)(L:aa Rd):aa Rd:=L.filter λs=>!hit L (I ru.2) ru.2 s
abbrev Jg(I:nA)(R:nB)(L:aa Rd):aa Rd:=(judge I R L).2
def ve(ru R L):Jg I (ru::R) L=Jg I R (st1 I ru L):=by unfold Jg;rw[Je];rfl
theorem vf:∀R L,(Jg I R L).Sublist L
 |[],L=>.refl _
 |ru::R,L=>by rw[ve];exact(vf R _).trans ck
structure A6(I:nA)(far:T7->Nat)(t:T7):Prop where
 ru:Ru (I t) t
 fr:∀x∈I t,0<=x.far/\x.far<=far t
variable{far:T7->Nat}
theorem J1{τ:Int}{CL:aa Rd}:∀{R} {F} {A B} {r},(∀c∈R,A6 I far c.2)->F9 m τ (CL.map Rd.t) F A B->CL.Sublist (Jg I R A)->r∈A->r∈B->r.t≠τ->F+(R.map λc=>far c.2).sum<=bt τ (CL.map Rd.t) r.t->ni I R A r=ni I R B r
 |[],_,_,_,_,_,_,_,_,_,_,_=>rfl
 |c::R,F,A,B,r,q,T,hC,o,n,d,w=>by
  obtain⟨C,y⟩:=q c (.head _);rw[ve]at hC;rw[aW,iY]at w;have sub:CL.Sublist A:=(hC.trans<|vf R _).trans ck;have eq:∀s:Rd,s∈A->s∈B->s.t≠τ->F+far c.2<=bt τ (CL.map Rd.t) s.t->hit A (I c.2) c.2 s=hit B (I c.2) c.2 s:=λs u t h k=>Rh C y T sub u t h k;unfold ni;rw[eq r o n d<|by lia];split;·rfl
  ·rename_i z;refine J1 (F:=F+far c.2) (λx v=>q x<|.tail _ v) ⟨vC _ T.ua,vC _ T.ub,λs p=>T.ma s (aL.mp p).1,λs p=>T.mb s (aL.mp p).1,λs h k=>?_⟩ hC ?_ ?_ d (by lia)
   ·rw[aL,aL];have j:=T.ag s h (by walk_at "l");constructor
    ·rintro ⟨i,l⟩
     have f:=j.mp i;exact⟨f,by rw[<-eq s i f h k];exact l⟩
    ·rintro ⟨i,l⟩
     have f:=j.mpr i;exact⟨f,by rw[eq s f i h k];exact l⟩
   ·refine aL.mpr ⟨o,?_⟩;rw[eq r o n d<|by lia];simpa using z
   ·exact aL.mpr ⟨n,by simpa using z⟩
def Kr{c:nW}(h:Ru (I c.2) c.2)(row m):own (st1 I c row) m=st1 I c (own row m):=by
 unfold st1 own;rw[bE,bE];refine ec λs d=>?_;by_cases z:s.m=m;·rw[CU (row:=row) (om:=row.filter λr=>decide<|r.m=m) h<|by rw[z];exact(D9 row m).symm,gK]
 ·simp_all
theorem wX:∀{R} {row} {r:Rd},(∀c∈R,Ru (I c.2) c.2)->r.m=m->ni I R row r=ni I R (own row m) r
 |[],_,_,_,_=>rfl
 |c::R,row,r,f,d=>by
  have h:=f c (.head _);unfold ni;rw[CU (om:=own row m) h<|by rw[d];exact(D9 row m).symm];split;·rfl
  ·have:=Kr h row m;rw[wX (λx i=>f x<|.tail _ i) d,this]
theorem Kq:∀{R} {c},(∀d∈R,Ru (I d.2) d.2)->own (Jg I R c) m=Jg I R (own c m)
 |[],_,_=>rfl
 |d::R,c,f=>by rw[ve,ve,Kq λx h=>f x<|.tail _ h,Kr<|f d<|.head _]
abbrev oth(w:jd)(row:aa Rd):aa Rd:=row.filter λr=>decide (r.m≠w)
def D8{w}(h:m≠w)(row):own (oth w row) m=own row m:=by
 unfold own oth;rw[bE]
 grind
theorem Ko{w}:∀{R} {c om},(∀d∈R,Ru (I d.2) d.2)->oth w c=oth w om->oth w (Jg I R c)=oth w (Jg I R om)
 |[],_,_,_,h=>h
 |d::R,c,om,i,h=>by
  rw[ve,ve];refine Ko (λx j=>i x<|.tail _ j) ?_;have f:∀c:aa Rd,oth w (st1 I d c)=(oth w c).filter λs=>!hit (oth w c) (I d.2) d.2 s:=λc=>by
   unfold oth st1;rw[bE,bE];refine ec λs k=>?_;by_cases z:s.m=w;·rw[aJ<|λn=>n z];simp
   ·rw[CU (om:=c.filter λr=>decide<|r.m≠w) (i d<|.head _) (D8 z c).symm,gK]
  rw[f,f,h]
def U7{w R}{r:Rd}(f:∀c∈R,Ru (I c.2) c.2)(h:oth w row=oth w om)(d:r.m≠w):ni I R row r=ni I R om r:=by rw[wX f rfl,wX (row:=om) f rfl,<-D8 d row,<-D8 d om,h]
noncomputable def oH(I:nA):aa nW->aa Rd->aa (Rd×jd×D)
 |[],_=>[]
 |ru::R,L=>((L.filter λs=>hit L (I ru.2) ru.2 s).map λs=>(s,ru.1,.lst<|(ktL<|((I ru.2).filterMap (see L s)).map jH).map sI))++oH I R (st1 I ru L)
theorem Dn:∀R L,(judge I R L).1=(oH I R L).map λg=>.tup [.str g.1.m,.int g.1.t,.str g.2.1,g.2.2]
 |[],_=>rfl
 |ru::R,L=>by
  rw[Je,Dn R,oH,bM,bh]
  congr 1
theorem DP:∀{R} {L} {g},g∈oH I R L->g.1∈L
 |ru::R,L,g,h=>by
  unfold oH at h;rcases aX.mp h with h|h
  ·obtain⟨s,c,rfl⟩:=aO.mp h;exact(aL.mp c).1
  ·exact(aL.mp<|DP h).1
theorem DM:∀{R} {L} {r} {n},r∈L->((∃d,(r,n,d)∈oH I R L)↔ni I R L r=some n)
 |[],_,_,_,_=>⟨λ⟨_,h⟩=>(nomatch h),λh=>nomatch h⟩
 |ru::R,L,r,n,f=>by
  unfold oH ni;by_cases z:hit L (I ru.2) ru.2 r=true
  ·rw[au z];constructor
   ·rintro ⟨d,h⟩
    rcases aX.mp h with h|h
    ·obtain⟨s,c,e⟩:=aO.mp h;cases e;rfl
    ·have:=(aL.mp<|DP h).2;rw[z]at this;cases this
   ·intro e;cases e;exact⟨_,cS _<|aO.mpr ⟨r,aL.mpr ⟨f,z⟩,rfl⟩⟩
  ·rw[ax z,<-DM (aL.mpr ⟨f,by simpa using z⟩)];constructor
   ·rintro ⟨d,h⟩
    rcases aX.mp h with h|h
    ·obtain⟨s,c,e⟩:=aO.mp h;cases e;exact absurd (aL.mp c).2 z
    ·exact⟨d,h⟩
   ·rintro ⟨d,h⟩
    exact⟨d,bK _ h⟩
end WM
namespace pW
open PySem L2 P2 WP WM TM T2 PySem.NumText
variable{a:Ad}
def DQ(r:kv):∀m:Int,(r.foldl (λm x=>if m<x then x else m) m=m\/r.foldl (λm x=>if m<x then x else m) m∈r)/\m<=r.foldl (λm x=>if m<x then x else m) m/\∀x∈r,x<=r.foldl (λm x=>if m<x then x else m) m:=by
 induction r with
 |nil=>simp
 |cons y r c=>grind
def UY(h:l≠[]):nQ l∈l:=by
 cases l with
 |nil=>lia
 |cons a r=>rcases(DQ r a).1 with e|e
            ·show r.foldl _ a∈_;rw[e];exact .head _
            ·exact .tail _ e
def UX{x:Int}(h:x∈l):x<=nQ l:=by
 cases l with
 |nil=>cases h
 |cons a r=>
  rcases az.mp h with rfl|h;·exact(DQ r x).2.1
  ·exact(DQ r a).2.2 x h
theorem ints_map:∀l:aa Int,sD (l.map D.int)=some l
 |[]=>rfl
 |n::r=>by show(sD<|r.map D.int).map (n:: ·)=_;rw[ints_map r];rfl
theorem By:∀l:aa jk,ry (l.map D.bl)=some l
 |[]=>rfl
 |n::r=>by have:=By r;rw[aW];unfold ry;rw[this];rfl
def T4{A:nP}(d:A.length<=1000):jX (Cd a<|ke 1 [.lst<|A.map Ask.d])=.ok (.bl<|A.any Ask.isAt):=by
 have c:kl (λρ=>((dV 0) ρ).bind j2) 1 [] (gV 0) (λ_=>.ok true) (d2 jW (jg 0 0)<|jF "at") [jO<|A.map Ask.d]=.ok (A.map λx=>D.bl x.isAt):=
  rA (f:=Ask.d) (L:=A) rfl (by walk_at "l") λx _=>by cases x<;>kernel_rfl
 have e:A.map (λx=>D.bl x.isAt)=(A.map Ask.isAt).map D.bl:=by simp
 unfold Cd;show jX (toS ((jz _ [jO<|A.map Ask.d]).bind _ |>.bind tE) _)=_;rw[n7 c];show jX (toS (match ry (A.map λx=>D.bl x.isAt)with|some bs=>R.ok (D.bl<|bs.any id)|none=>.bad) _)=_;rw[e,By];show R.ok (D.bl<|(A.map Ask.isAt).any id)=_;simp
def Ub{A:nP}(j:A.length<=1000):jX (Ce a<|ke 1 [.lst<|A.map Ask.d])=.ok (.int<|if(A.filterMap Ask.pl).isEmpty then 0 else nQ (A.filterMap Ask.pl)):=by
 have c:kl (λρ=>((dV 0) ρ).bind j2) 1 [] (gV 0) (b1 tB<|d2 lQ (jg 0 0)<|dA jN<|ba (jF "back")<|ba (jF "on") jb) (jg 0 1) [jO<|A.map Ask.d]=.ok ((A.filterMap Ask.pl).map D.int):=
  wt (f:=Ask.d) (L:=A) (k:=Ask.pl) rfl (by walk_at "l") (λx _ i=>by cases x<;>first|(cases i;done)|kernel_rfl) (λx _ y h=>by cases x<;>first|(cases h;done)|(cases h;exact⟨by kernel_rfl,rfl⟩))
 unfold Ce;show jX (toS ((jz _ [jO<|A.map Ask.d]).bind λd1=>DK (.int 0) d1) _)=_;rw[n7 c];show jX (toS (match sD ((A.filterMap Ask.pl).map D.int)with|some d=>if d.isEmpty then R.ok (D.int 0)else R.ok (.int<|nQ d)|none=>.bad) _)=_;rw[ints_map];dsimp only;cases(A.filterMap Ask.pl).isEmpty<;>rfl
def nh(A:nP):Int:=if(A.filterMap Ask.pl).isEmpty then 0 else nQ (A.filterMap Ask.pl)
variable{p j B:aa D->P2.R D}{i:nA}
def HL(h:x∈A)(m:∀y∈A,0<=y.far):0<=nh A/\x.far<=nh A:=by
 have f:0<=nh A:=by
  unfold nh;cases q:A.filterMap Ask.pl with
  |nil=>exact gC _
  |cons n r=>have c:=UY (l:=n::r) (by simp);rw[<-q]at c;obtain⟨y,k,e⟩:=bo.mp c;have:=m y k;unfold Ask.far at this;simp_all
 refine⟨f,?_⟩;unfold Ask.far;cases e:x.pl with
 |none=>exact f
 |some n=>
  have c:n∈A.filterMap Ask.pl:=bo.mpr ⟨x,h,e⟩;unfold nh;cases q:A.filterMap Ask.pl with
  |nil=>rw[q]at c;cases c
  |cons z r=>rw[<-q];exact(by cases d:(A.filterMap Ask.pl).isEmpty with|true=>rw[List.isEmpty_iff]at d;rw[d]at c;cases c|false=>exact UX c)
def Uv(o:∀A:aa Ask,A.length<=1000->j [.lst<|A.map Ask.d]=.ok (.bl<|A.any Ask.isAt))(hf:∀A:aa Ask,A.length<=1000->B [.lst<|A.map Ask.d]=.ok (.int<|nh A))
    {R:nB}(k:∀c∈R,p [c.2.d]=.ok (.lst<|(i c.2).map Ask.d)/\(i c.2).length<=1000/\(i c.2).any Ask.isAt=false)(u:R.length<=1000):jX (Cq a p j B<|ke 2 [.lst<|R.map jR])=.ok (.int<|(R.map λc=>nh<|i c.2).sum):=by
 have t:kl (λρ=>((dV 0) ρ).bind j2) 1 [] (gV 0) (λ_=>.ok true) (dA p<|ba (jg 0 1) jb) [jO<|R.map jR,.no]=.ok (R.map λc=>D.lst<|(i c.2).map Ask.d):=
  rA (f:=jR) (L:=R) rfl (by walk_at "l") λc d=>(k c d).1
 have q:kT 1 (jz<|kl (λρ=>((dV 0) ρ).bind j2) 1 [] (gV 0) (λ_=>.ok true)<|dA p<|ba (jg 0 1) jb) [jO<|R.map jR,.no]=.nx [jO<|R.map jR,jO<|R.map λc=>D.lst<|(i c.2).map Ask.d]:=by show toS (jz _ [jO<|R.map jR,.no]) _=_;rw[n7 t];rfl
 have s:kl (λρ=>((dV 1) ρ).bind j2) 1 [] (gV 0) (λ_=>.ok true) (dA j<|ba (dV 0) jb) [jO<|R.map jR,jO<|R.map λc=>D.lst<|(i c.2).map Ask.d]=.ok (R.map λ_=>D.bl false):=
  rA (f:=λc:nW=>D.lst<|(i c.2).map Ask.d) (L:=R) rfl (by walk_at "l") λc d=>by show j [.lst<|(i c.2).map Ask.d]=_;rw[o _ (k c d).2.1,(k c d).2.2]
 have r:kl (λρ=>((dV 1) ρ).bind j2) 1 [] (gV 0) (λ_=>.ok true) (dA B<|ba (dV 0) jb) [jO<|R.map jR,jO<|R.map λc=>D.lst<|(i c.2).map Ask.d]=.ok (R.map λc=>D.int<|nh<|i c.2):=
  rA (f:=λc:nW=>D.lst<|(i c.2).map Ask.d) (L:=R) rfl (by walk_at "l") λc d=>hf _ (k c d).2.1
 have n:b1 tT (dA tE<|ba (jz<|kl (λρ=>((dV 1) ρ).bind j2) 1 [] (gV 0) (λ_=>.ok true)<|dA j<|ba (dV 0) jb) jb) [jO<|R.map jR,jO<|R.map λc=>D.lst<|(i c.2).map Ask.d]=.ok false:=by show((jz _ [jO<|R.map jR,jO<|R.map λc=>D.lst<|(i c.2).map Ask.d]).bind _ |>.bind tE |>.bind tT)=_;rw[n7 s];show(match ry (R.map λ_:nW=>D.bl false)with|some bs=>P2.R.ok (D.bl<|bs.any id)|none=>P2.R.bad).bind tT=_;rw[show(R.map λ_:nW=>D.bl false)=(R.map λ_:nW=>false).map D.bl by rw[bh];rfl,By];show P2.R.ok ((R.map λ_:nW=>false).any id)=_;rw[ip,b9.mpr λ_ _=>by simp]
 unfold Cq;show jX (kd _ _ [jO<|R.map jR,.no])=_;have l:∀{g h:jV} {ρ l8:Ev},g ρ=.nx l8->kd g h ρ=h l8:=λe=>by unfold kd;rw[e];rfl
 rw[l q];show jX (uk (toS (b1 tT _ [jO<|R.map jR,jO<|R.map λc=>D.lst<|(i c.2).map Ask.d]) _) _)=_;rw[n];show jX (toS ((jz _ [jO<|R.map jR,jO<|R.map λc=>D.lst<|(i c.2).map Ask.d]).bind _ |>.bind zX) _)=_;rw[n7 r];show jX (toS (match sD (R.map λc=>D.int<|nh<|i c.2)with|some m=>P2.R.ok (D.int m.sum)|none=>P2.R.bad) _)=_;rw[show(R.map λc=>D.int<|nh<|i c.2)=(R.map λc=>nh<|i c.2).map D.int by rw[bh];rfl,ints_map];rfl
theorem G6{f:D->jk}{fc:Ev->P2.R jk}{u}:∀{l},(∀d∈l,fc [.sh d,.sh u,.sh v]=.ok (f d))->lD (gV 0) fc (dV 0) [.no,.sh u,.sh v] l=some (l.filter f)
 |[],_=>rfl
 |d::l,h=>by
  have c:=G6 λe m=>h e (.tail _ m);unfold lD;show(pJ<|fc [.sh d,.sh u,.sh v]).bind (λb=>if b=true then(lD (gV 0) fc (dV 0) [.no,.sh u,.sh v] l).bind λk=>some (d::k)else lD (gV 0) fc (dV 0) [.no,.sh u,.sh v] l)=_;rw[h d<|.head _];show(if f d=true then _ else _)=_;cases q:f d with
  |true=>rw[au rfl,c,bG q];rfl
  |false=>rw[ax ay,c,bj<|by simp[q]]
end pW
namespace WM
open PySem L2 P2 WP TM T2 PySem.NumText
variable{a:Ad}
def IQ{c d:Type}{f:c->d}{l:aa c}(nd:(l.map f).Nodup):∀x∈l,∀y∈l,f x=f y->x=y:=by
 induction l with
 |nil=>simp
 |cons z l h=>grind
def nF(r:Rd):aa Key:=[.inr r.m,.inl r.t]
def Jp{s}:nF r=nF s↔jH r=jH s:=by
 constructor
 ·intro e;injection e with d c;injection d with d;injection c with c _;injection c with c;exact Prod.ext c d
 ·intro e;have d:r.t=s.t:=bN Prod.fst e;have c:r.m=s.m:=bN Prod.snd e;show([.inr r.m,.inl r.t]:aa Key)=[.inr s.m,.inl s.t];rw[d,c]
variable{S:jt}{n:Nat}{c:jP}{f g:jE}
def Se{r:Rd}{L:aa Rd}(j:PyData.strOk r.m=true)(h:∀s∈L,PyData.strOk s.m=true)(o:∀s∈L,jH s=jH r->s=r):lQ r.d (.lst<|L.map Rd.d)=.ok (.bl<|decide<|jH r∈L.map jH):=by
 obtain⟨b,i,d⟩:=IE (x:=r.d) (zy j).1 (aV (zy j).2 (by decide)) (D1 (f:=Rd.d) (l:=L) λs m=>(zy (h s m)).1);unfold lQ;dsimp only;rw[i];have:b=decide (jH r∈L.map jH):=by
  rw[dh,d,decide_eq_true_iff,aO,aO];constructor
  ·rintro ⟨y,k,e⟩
   refine⟨y,k,?_⟩;injection e with e;injection e with i d;injection i with i;injection d with d _;injection d with d;exact Prod.ext d i
  ·grind
 rw[this]
end WM
namespace pW
open PySem L2 P2 WP WM TM T2 PySem.NumText
variable{a:Ad}
theorem G8{cap:Ev}{fc:Ev->P2.R jk}{fe:Ev->P2.R D}{f:WM.Rd->jk}{g:WM.Rd->D}:∀{L:aa WM.Rd},(∀r∈L,fc (.sh r.d::cap)=.ok (f r))->(∀r∈L,fe (.sh r.d::cap)=.ok (g r))->lD (gV 0) fc fe (.no::cap) (L.map WM.Rd.d)=some ((L.filter f).map g)
 |[],_,_=>rfl
 |r::L,h,d=>by
  have j:=G8 (cap:=cap) (fc:=fc) (fe:=fe) (f:=f) (g:=g) (L:=L) (λs c=>h s<|.tail _ c) λs c=>d s (.tail _ c);rw[aW];unfold lD;show(pJ<|fc<|.sh r.d::cap).bind (λb=>if b=true then(pJ<|fe<|.sh r.d::cap).bind λv=>(lD (gV 0) fc fe (.no::cap)<|L.map WM.Rd.d).bind λi=>some (v::i)else lD (gV 0) fc fe (.no::cap) (L.map WM.Rd.d))=_;rw[h r<|.head _,d r<|.head _,j];show(if f r=true then _ else _)=_;cases q:f r with
  |true=>rw[au rfl,bG q];rfl
  |false=>rw[ax ay,bj<|by simp[q]]
def BJ{ρ cap:Ev}{ci:lC}{i:Nat}{fc:Ev->P2.R jk}{fe:Ev->P2.R D}{f:WM.Rd->jk}{g:WM.Rd->D}{L:aa WM.Rd}(h:dV i ρ=.ok (.lst<|L.map WM.Rd.d))(j:pC 1 ci ρ=.no::cap)(d:L.length<=100000)
    (l:∀r∈L,fc (.sh r.d::cap)=.ok (f r))(k:∀r∈L,fe (.sh r.d::cap)=.ok (g r)):jz (kl (λρ=>((dV i) ρ).bind j2) 1 ci (gV 0) fc fe) ρ=.ok (.lst<|(L.filter f).map g):=by
 refine n7 ?_;show(((dV i ρ).bind j2).bind λc=>if c.length<=sizeLine then uf (lD (gV 0) fc fe (pC 1 ci ρ) c)else .bad)=_;rw[h];show(if(L.map WM.Rd.d).length<=sizeLine then uf (lD (gV 0) fc fe (pC 1 ci ρ)<|L.map WM.Rd.d)else .bad)=_;rw[au<|by rw[ao];exact aV d (by decide),j,G8 l k];rfl
theorem Fv{cap:aa Z}{fc:Ev->P2.R jk}{fe:Ev->P2.R D}{f:WM.Rd->jk}{g:WM.Rd->D}{S:jt}:∀{L:aa WM.Rd} {acc:j7},(∀r∈L,fc (.sh r.d::kO (cap.map some))=.ok (f r))->(∀r∈L,fe (.sh r.d::kO (cap.map some))=.ok (g r))->acc.length+L.length<100000->
 uz (zB fc) (zD fe) (none::cap.map some) S.length (L.map WM.Rd.d) (S++[.li<|acc.map Z.d])=.ok (.loc S.length) (S++[.li<|(acc++(L.filter f).map g).map Z.d])
 |[],acc,_,_,_=>by rw[List.filter_nil,dr,dr,bz];rfl
 |r::L,acc,h,d,i=>by
  rw[aw]at i;rw[aW];unfold uz;have k:zB fc ((none::cap.map some).set 0 (some<|Z.d r.d)) (S++[.li<|acc.map Z.d])=.ok (f r) (S++[.li<|acc.map Z.d]):=by show lJ (fc<|.sh r.d::kO (cap.map some)) _=_;rw[h r<|.head _];rfl
  rw[k];dsimp only;cases q:f r with
  |false=>rw[ax ay,Fv (acc:=acc) (λs c=>h s<|.tail _ c) (λs c=>d s<|.tail _ c)<|by walk_at "l",bj<|by simp[q]]
  |true=>
   rw[au rfl];have j:zD fe ((none::cap.map some).set 0 (some<|Z.d r.d)) (S++[.li<|acc.map Z.d])=.ok (.d<|g r) (S++[.li<|acc.map Z.d]):=by show(lJ (fe<|.sh r.d::kO (cap.map some)) _).bind _=_;rw[d r<|.head _];rfl
   rw[j];dsimp only;rw[m5];dsimp only;rw[au<|uu<|by rw[ao];lia,qV];have:=Fv (cap:=cap) (fc:=fc) (fe:=fe) (f:=f) (g:=g) (S:=S) (L:=L) (acc:=acc++[g r]) (λs c=>h s<|.tail _ c) (λs c=>d s<|.tail _ c) (by rw[aq];simp;lia);simp_all
def MH{h:jE}{ρ:jP}{cap:aa Z}{k:lC}{j:Ev->P2.R jk}{i:Ev->P2.R D}{f:WM.Rd->jk}{g:WM.Rd->D}{S c:jt}{L:aa WM.Rd}(o:h ρ S=.ok (.d<|.lst<|L.map WM.Rd.d) c)(p:mQ k ρ=none::cap.map some)(v:L.length<50000)
    (t:∀r∈L,j (.sh r.d::kO (cap.map some))=.ok (f r))(s:∀r∈L,i (.sh r.d::kO (cap.map some))=.ok (g r))(q:m9 c)(w:S.length<=c.length)(n:ρ.any (mI c.length)=false):
    pQ (uy (vI h) k (zB j)<|zD i) ρ S=.ok (.d<|.lst<|(L.filter f).map g) (c++[.no]):=by
 have e:uy (vI h) k (zB j) (zD i) ρ S=.ok (.loc c.length) (c++[.li<|((L.filter f).map g).map Z.d]):=by unfold uy vI;rw[o];rw[p];exact Fv (acc:=[]) t s (by simp;walk_at "l")
 unfold pQ;rw[e];dsimp only;rw[m5];dsimp only;have u:∀L:aa D,lY (L.map Z.d)=some L:=λL=>by
  induction L with
  |nil=>rfl
  |cons d L m=>show(lY<|L.map Z.d).map (d:: ·)=_;rw[m];rfl
 rw[u];dsimp only;have l:(c++[Cell.li<|((L.filter f).map g).map Z.d]).any (kI c.length)=false:=qU (q _<|ai _) (mC _ _)
 grind
def T6(x y:Int)(C:kv)(j:C.length<=100000):jX (Cu a<|ke 5 [.int x,.int y,.lst<|C.map D.int])=.ok (.int (bt y C x:Nat)):=by
 have n:(if y<x then y else x)=min x y:=by grind
 have m:(if y>x then y else x)=max x y:=by grind
 have c:lD (gV 0) (b1 tB<|su lH lH (dV 1) (dV 0)<|dV 2) (dV 0) [.no,j9<|min x y,j9<|max x y] (C.map D.int)=some ((C.filter<|bq y x).map D.int):=by
  have:=G6 (f:=λd=>match d with|.int c=>bq y x c|_=>false) (fc:=b1 tB (su lH lH (dV 1) (dV 0) (dV 2))) (u:=.int (min x y)) (v:=.int (max x y)) (l:=C.map D.int) λd k=>by obtain⟨c,_,rfl⟩:=aO.mp k;show((match D.bl (decide<|min x y<c)with|.bl true=>(P2.R.ok<|D.int<|max x y).bind λw=>lH (.int c) w|.bl false=>.ok (.bl false)|_=>.bad).bind tB)=.ok (decide (min x y<c)&&decide (c<max x y));cases decide (min x y<c)<;>rfl
  rw[this,List.filter_map];rfl
 have d:kl (λρ=>((dV 2) ρ).bind j2) 1 [3,4] (gV 0) (b1 tB<|su lH lH (dV 1) (dV 0)<|dV 2) (dV 0) [j9 x,j9 y,jO<|C.map D.int,j9<|min x y,j9<|max x y]=.ok ((C.filter<|bq y x).map D.int):=by show(if(C.map D.int).length<=sizeLine then uf (lD (gV 0) (b1 tB<|su lH lH (dV 1) (dV 0)<|dV 2) (dV 0) [.no,j9<|min x y,j9<|max x y]<|C.map D.int)else .bad)=_;rw[au<|by rw[ao];exact aV j (by decide),c];rfl
 have i:∀{g h:jV} {ρ l8:Ev},g ρ=.nx l8->kd g h ρ=h l8:=λe=>by unfold kd;rw[e];rfl
 unfold Cu
 rw[i (show kT 3 (dA zj (ba (dV 0) (ba (dV 1) jb))) (ke 5 [.int x,.int y,.lst (C.map D.int)])=.nx [j9 x,j9 y,jO (C.map D.int),j9 (if y<x then y else x),.no]from rfl),n,
  i (show kT 4 (dA zg (ba (dV 0) (ba (dV 1) jb))) [j9 x,j9 y,jO (C.map D.int),j9 (min x y),.no]=.nx [j9 x,j9 y,jO (C.map D.int),j9 (min x y),j9 (if y>x then y else x)]from rfl),m]
 show jX (toS (((jz _ [j9 x,j9 y,jO<|C.map D.int,j9<|min x y,j9<|max x y]).bind λv=>P2.R.ok [v]).bind lR) _)=_;rw[n7 d];show P2.R.ok (D.int (((C.filter<|bq y x).map D.int).length:Nat))=_;rw[ao,<-cX];rfl
abbrev qh(g:WM.Rd×jd×D):D:=.tup [.str g.1.m,.int g.1.t,.str g.2.1,g.2.2]
def XT{k:oz}{v:Z}(c:oy):(kx c k v).length<=c.length+1:=by
 unfold kx
 grind
theorem JV{S:jt}(f:D):∀(G:aa<|WM.Rd×jd×D) (kvs:oy) (s2:lA),kvs.length+G.length<50000->
 ∃c i,k6 (hV 2) (wa a) (G.map qh) [i9 f,i8 S.length,s2] (S++[.dt kvs])=.nx [i9 f,i8 S.length,i] (S++[.dt c])/\(∀j,kI j (.dt kvs)=false->kI j (.dt c)=false)/\
  ∀(r:WM.Rd) (o:jm jd),(∀g∈G,jH g.1=jH r->o=some g.2.1)->((∃g∈G,jH g.1=jH r)\/valZ kvs (nF r)=o.map λn=>.d<|.str n)->valZ c (nF r)=o.map λn=>.d (.str n)
 |[],kvs,s2,_=>⟨kvs,s2,rfl,λ_ h=>h,λr o _ h=>h.resolve_left λ⟨_,h,_⟩=>nomatch h⟩
 |g::G,kvs,s2,q=>by
  rw[aw]at q;have u:=XT (k:=nF g.1) (v:=.d<|.str g.2.1) kvs;obtain⟨c,i,e,t,h⟩:=JV (S:=S) f G (kx kvs (nF g.1) (.d (.str g.2.1))) (i9 (qh g)) (by lia);refine⟨c,i,?_,λj s=>t j ?_,λr o p l=>h r o (λm d=>p m<|.tail _ d) ?_⟩
  ·have st:wa a [i9 f,i8 S.length,i9<|qh g] (S++[.dt kvs])=.nx [i9 f,i8 S.length,i9<|qh g] (S++[.dt<|kx kvs (nF g.1)<|.d<|.str g.2.1]):=by
    refine(E1 (z:=.d<|.str g.2.1) (k:=nF g.1) (kvs:=kvs) (jn rfl) (k4 rfl) (xQ (ds:=[.str g.1.m,.int g.1.t]) (jq (jn rfl)<|jq (jn rfl) j0) rfl<|show 2<1000 by decide) (m5 S _)<|by lia).trans ?_;rw[qV]
   show oM (wa a [i9 f,i8 S.length,i9<|qh g]<|S++[.dt kvs]) (k6 (hV 2) (wa a)<|G.map qh)=_;rw[st];exact e
  ·exact BY j [(nF g.1,.str g.2.1)] kvs s
  ·by_cases z:jH g.1=jH r
   ·refine .inr ?_;rw[vE,au<|Jp.mpr z,p g (.head _) z];rfl
   ·rcases l with⟨m,d,w⟩|l
    ·rcases az.mp d with rfl|d;·exact absurd w z
     ·exact .inl ⟨m,d,w⟩
    ·refine .inr ?_;rw[vE,ax λw=>z<|Jp.mp w];exact l
def Ur(G:aa<|WM.Rd×jd×D)(l:G.length<40000)(b):∃c,ju (CB a b (jY 3 [.d<|.lst<|G.map qh]) S)=.ok (.loc S.length) (S++[.dt c])/\(∀j,kI j (.dt c)=false)/\
    ∀r o,(∀g∈G,jH g.1=jH r->o=some g.2.1)->((∃g∈G,jH g.1=jH r)\/o=none)->valZ c (nF r)=o.map λn=>.d (.str n):=by
 obtain⟨c,k,e,d,h⟩:=JV (a:=a) (S:=S) (.lst (G.map qh)) G [] none (by simp;walk_at "l");refine⟨c,?_,λj=>d j rfl,λr o i f=>h r o i (f.imp id λe=>by rw[e];rfl)⟩;unfold CB;rw[jI<|j5 (show vJ _ S=.ok (.loc S.length) (S++[.dt []])from rfl)<|aj rfl];show ju (jf _ _ [jj<|G.map qh,i8 S.length,none]<|S++[.dt []])=_;rw[jI<|(xH (ds:=G.map qh) rfl).trans e,y_ret<|k4 rfl];rfl
abbrev lS(r s:WM.Rd):jk:=qg r.t r.m s.t s.m
def lt_iff{s}:lS r s=true↔WM.Lx r s:=by
 unfold lS qg WM.Lx
 grind
def DH{s t}(d:WM.Lx r s)(c:WM.Lx s t):WM.Lx r t:=by
 rcases d with d|⟨d,g1⟩<;>rcases c with c|⟨c,g2⟩;·exact .inl (by lia)
 ·exact .inl (by simp_all)
 ·exact .inl (by simp_all)
 ·exact .inr ⟨by lia,iX g1 g2⟩
def T3{s}(h:jH r≠jH s):WM.Lx r s\/WM.Lx s r:=by
 by_cases z:r.t=s.t
 ·have c:r.m≠s.m:=λe=>h (Prod.ext z e);by_cases w:r.m.cps.toList<s.m.cps.toList;·exact .inl (.inr ⟨z,w⟩)
  ·by_cases v:s.m.cps.toList<r.m.cps.toList;·exact .inr (.inr ⟨z.symm,v⟩)
   ·exact absurd (zT w v) c
 ·rcases Int.lt_or_gt_of_ne z with w|w;·exact .inl (.inl w)
  ·exact .inr (.inl w)
def TZ{s}(d:WM.Lx r s)(c:WM.Lx s r):False:=WM.Lx.ne (DH d c) rfl
noncomputable def nH(c:aa WM.Rd)(d:WM.Rd):aa WM.Rd:=c.filter (λr=>lS r d)++[d]++c.filter λr=>lS d r
section
variable{b:aa WM.Rd}{ν:WM.Rd}(c:b.Pairwise WM.Lx)(f:∀r∈b,jH r≠jH ν)
include c f
theorem BF:b=b.filter (λr=>lS r ν)++b.filter λr=>lS ν r:=by
 have d:(b.filter λr=>lS ν r)=b.filter λr=>!lS r ν:=ec λr m=>by rw[dh,dw,<-Bool.not_eq_true,lt_iff,lt_iff];exact⟨λh n=>TZ h n,λh=>(T3<|f r m).resolve_left h⟩
 rw[d];clear d f;induction b with
 |nil=>rfl
 |cons r b l=>
  obtain⟨k,j⟩:=bZ.mp c;cases q:lS r ν with
  |true=>rw[bG (p:=λr=>lS r ν) q,bj<|by simp[q],eK,<-l j]
  |false=>
   have al:∀s∈b,lS s ν=false:=λs i=>by
    cases w:lS s ν with
    |false=>rfl
    |true=>rw[lt_iff.mpr<|DH (k s i)<|lt_iff.mp w]at q;cases q
   rw[bj<|by simp[q],bG<|by simp[q],fJ.mpr λs i=>by rw[al s i];simp,eQ.mpr λs i=>by rw[al s i];rfl];rfl
theorem El(s):s∈nH b ν↔s∈b\/s=ν:=by
 have h:s∈b↔s∈b.filter (λr=>lS r ν)++b.filter λr=>lS ν r:=by rw[<-BF c f]
 rw[h];unfold nH;simp only[aX,aI];constructor
 ·rintro ((h|h)|h)
  ·lia
  ·exact .inr h
  ·exact .inl (.inr h)
 ·rintro ((h|h)|h)
  ·exact .inl (.inl h)
  ·exact .inr h
  ·exact .inl (.inr h)
theorem Lc:(nH b ν).Pairwise WM.Lx:=by
 unfold nH;refine eD.mpr ⟨eD.mpr ⟨c.sublist ck,dQ ..,λx h y d=>?_⟩,c.sublist ck,λx h y d=>?_⟩
 ·rw[aI]at d;subst d;exact lt_iff.mp (aL.mp h).2
 ·have i:=lt_iff.mp (aL.mp d).2;rcases aX.mp h with w|w;·exact DH (lt_iff.mp (aL.mp w).2) i
  ·simp_all
theorem Lb:oth ν.m (nH b ν)=oth ν.m b:=by
 have e:oth ν.m b=oth ν.m (b.filter (λr=>lS r ν)++b.filter λr=>lS ν r):=by rw[<-BF c f]
 rw[e];unfold oth nH;simp
theorem XU:(nH b ν).length=b.length+1:=by
 have e:=bN List.length (BF c f);unfold nH
 grind
end
def Mn{c:aa WM.Rd}(d:c.Pairwise WM.Lx)(m):Up (own c m):=by
 refine(d.sublist<|ck (p:=λr:WM.Rd=>decide<|r.m=m)).imp_of_mem λ{x y} i f h=>?_;have k:=bx (aL.mp i).2;have j:=bx (aL.mp f).2;rcases h with h|h;·exact h
 ·grind
def alike{far R}{row:aa WM.Rd}(f:row.Pairwise WM.Lx)(i:∀r∈row,jH r≠jH ν)(o:∀d∈R,A6 ak far d.2)
 (hC:C=((Jg ak R row).filter λr:WM.Rd=>decide (r.m=ν.m)&&decide (jH r∈(Jg ak R<|nH row ν).map jH)).map WM.Rd.t)(l:r∈row)(h:r.m≠ν.m\/(R.map λd=>far d.2).sum<=bt ν.t C r.t):ni ak R row r=ni ak R (nH row ν) r:=by
  have c:∀d∈R,Ru (ak d.2) d.2:=λd h=>(o d h).ru;by_cases z:r.m=ν.m
  ·have h:=h.resolve_left λn=>n z;subst hC;rw[wX c z,wX (row:=nH row ν) c z];have p:r∈own row ν.m:=aL.mpr ⟨l,aR z⟩;have k:r.t≠ν.t:=λe=>i r l (Prod.ext e z);refine J1 (m:=ν.m) (τ:=ν.t) (F:=0) (CL:=(Jg ak R row).filter λr:WM.Rd=>decide (r.m=ν.m)&&decide (jH r∈(Jg ak R<|nH row ν).map jH)) o ⟨Mn f _,Mn (Lc f i) _,λs j=>bx (aL.mp j).2,λs j=>bx (aL.mp j).2,λs j _=>?_⟩ ?_ p (aL.mpr ⟨(El f i r).mpr (.inl l),aR z⟩) k (by simp_all)
   ·unfold own;rw[aL,aL,El f i];exact⟨λw=>⟨.inl w.1,w.2⟩,λw=>⟨w.1.resolve_right λe=>j<|by rw[e],w.2⟩⟩
   ·rw[<-Kq c];unfold own;rw[show((Jg ak R row).filter λr:WM.Rd=>decide (r.m=ν.m)&&decide (jH r∈(Jg ak R<|nH row ν).map jH))=((Jg ak R row).filter λr=>decide<|r.m=ν.m).filter λr=>decide (jH r∈(Jg ak R<|nH row ν).map jH)by rw[bE];exact ec λr _=>gK ..];exact ck
  ·exact U7 c (Lb f i).symm z
variable{a:Ad}
def Vv:∀{t:T7},t.Ok ws->∀u∈t.parts,u.Ok ws:=λ{t}=>by
 induction t with
 |times p q t d=>exact λh u c=>(az.mp c).elim (λe=>e▸h) λc=>d h u (by simpa [T7.parts]using c)
 |abs t d=>exact λh u c=>(az.mp c).elim (λe=>e▸h) λc=>d h u (by simpa [T7.parts]using c)
 |not t d=>exact λh u c=>(az.mp c).elim (λe=>e▸h) λc=>d h u (by simpa [T7.parts]using c)
 |bin k l r i f=>
  intro h u c;have c:u=.bin k l r\/u∈l.parts\/u∈r.parts:=by simpa [T7.parts]using c
  rcases c with rfl|c|c;·exact h
  ·exact i h.1 u c
  ·exact f h.2 u c
 |_=>exact λh u c=>(aI.mp c)▸h
def Kg{t:T7}(h:t.Ok []):∀x∈t.asks,x.isAt=false/\0<=x.far:=λx d=>by
 obtain⟨u,f,e⟩:=bo.mp d;have c:=Vv h u f;cases u with
 |«at» w=>exact nomatch c.2
 |far k n=>cases k<;>(cases e;exact⟨rfl,c⟩)
 |_=>cases e
theorem JZ:∀{R} {L} {r} {n},ni ak R L r=some n->∃c∈R,c.1=n
 |[],_,_,_,h=>nomatch h
 |c::R,L,r,n,h=>by
  unfold ni at h;split at h;·cases h;exact⟨c,.head _,rfl⟩
  ·obtain⟨x,d,e⟩:=JZ h;exact⟨x,.tail _ d,e⟩
def JW{R}{c:aa WM.Rd}(nd:(c.map jH).Nodup)(h:∀r o,(∀g∈oH ak R c,jH g.1=jH r->o=some g.2.1)->((∃g∈oH ak R c,jH g.1=jH r)\/o=none)->valZ kvs (nF r)=o.map λn=>.d<|.str n)(i:r∈c):
    valZ kvs (nF r)=(ni ak R c r).map λn=>.d (.str n):=by
 have inj:∀g∈oH ak R c,jH g.1=jH r->g.1=r:=λg f e=>IQ nd _ (DP f) _ i e;refine h r _ (λg f e=>?_) ?_
 ·obtain⟨s,n,d⟩:=g;have e:=inj _ f e;subst e;exact(DM i).mp ⟨d,f⟩
 ·cases q:ni ak R c r with
  |none=>exact .inr rfl
  |some n=>
   obtain⟨d,j⟩:=(DM i).mpr q
   grind
theorem DL:∀R L,(oH ak R L).length<=L.length
 |[],_=>bQ _
 |ru::R,L=>by
  unfold oH;rw[aq,ao];have d:=DL (ak:=ak) R (st1 ak ru L);have c:(L.filter λs=>hit L (ak ru.2) ru.2 s).length+(st1 ak ru L).length=L.length:=by
   unfold st1;rw[<-cX,<-cX];rw[List.length_eq_countP_add_countP λs=>hit L (ak ru.2) ru.2 s]
   congr 1
   exact List.countP_congr λs _=>by simp
  lia
variable{F1 F2 F3 F4:aa D->P2.R D}{Z1 Z2 Z3 Z4 Z5 Z6:jD}{S:jt}
def Sf(t:Int)(C:kv):lQ (.int t) (.lst<|C.map D.int)=.ok (.bl<|decide<|t∈C):=by
 obtain⟨b,d,c⟩:=IE (x:=.int t) rfl (show 0<=60 by decide) (D1 (f:=D.int) (l:=C) λ_ _=>rfl);unfold lQ
 grind
theorem free(s0 s1 s2 s3 s4)(C:kv):∀n (T:Int),(C.filter λc=>decide<|T<=c).length<n->∃d,T<=d/\d<=T+n/\d∉C/\
 rP (zB<|b1 tB<|d2 lQ (dV 5)<|dV 6) (Gu a F1 F2 F3 F4 Z1 Z2 Z3 Z4 Z5 Z6) n [s0,s1,s2,s3,s4,ji T,jj<|C.map D.int,none,none,none,none,none,none,none,none,none,none,none] S
  =.nx [s0,s1,s2,s3,s4,ji d,jj<|C.map D.int,none,none,none,none,none,none,none,none,none,none,none] S
 |0,_,h=>absurd h (cK _)
 |n+1,T,h=>by
  have t:zB (b1 tB<|d2 lQ (dV 5)<|dV 6) [s0,s1,s2,s3,s4,ji T,jj<|C.map D.int,none,none,none,none,none,none,none,none,none,none,none] S=.ok (decide<|T∈C) S:=mK (by show(lQ (.int T)<|.lst<|C.map D.int).bind tB=_;rw[Sf];rfl)
  unfold rP;rw[t];by_cases z:T∈C
  ·have lt:(C.filter λc=>decide<|T+1<=c).length<(C.filter λc=>decide<|T<=c).length:=by
    have e:(C.filter λc=>decide<|T+1<=c)=(C.filter λc=>decide<|T<=c).filter λc=>decide (T+1<=c):=by rw[bE];exact ec λc _=>by rw[dh];simp;lia
    rw[e];exact List.length_filter_lt_length_iff_exists.mpr ⟨T,aL.mpr ⟨z,by simp⟩,by simp;lia⟩
   obtain⟨d,j,i,f,e⟩:=free s0 s1 s2 s3 s4 C n (T+1) (by omega);refine⟨d,by walk_at "l",by lia,f,?_⟩;rw[aR z];exact e
  ·exact⟨T,gC _,by lia,z,by rw[aJ z];rfl⟩
theorem HM{M p:Nat}{P O:oy}(h9:S[M]?=some (.dt P))(Q:S[p]?=some (.dt O))(L J I G F A z l:lA)(m:jd)(T:Int)(C:kv)(far:Int)
 (Y:∀x:Int,F4 [.int x,.int T,.lst<|C.map D.int]=.ok (.int (bt T C x:Nat))):∀(w:aa WM.Rd) (j i d:lA),(∀r∈w,(r.m≠m\/far<=bt T C r.t)->∃o:jm jd,(∀n,o=some n->PyData.strOk n=true)/\valZ P (nF r)=(o.map λn=>.d<|.str n)/\valZ O (nF r)=o.map λn=>.d<|.str n)->
 ∃v u t,(∀N,(∀s∈[j,i,d],mI N s=false)->∀s∈[v,u,t],mI N s=false)/\k6 (hT 3<|hC (hV 14)<|hC (hV 15)<|hC (hV 16) P2.hN) (wc a F1 F2 F3 F4 Z1 Z2 Z3 Z4 Z5 Z6) (w.map WM.Rd.d) [L,J,I,G,i9<|.str m,ji T,F,A,z,i8 M,i8 p,l,jj<|C.map D.int,ji far,j,i,d,none] S
  =.nx [L,J,I,G,i9<|.str m,ji T,F,A,z,i8 M,i8 p,l,jj<|C.map D.int,ji far,v,u,t,none] S
 |[],j,i,d,_=>⟨j,i,d,λ_ h=>h,rfl⟩
 |r::w,j,i,d,h=>by
  obtain⟨v,u,t,ht,e⟩:=HM h9 Q L J I G F A z l m T C far Y w (i9<|.str r.m) (ji r.t) (i9<|pr r.p r.q) λs hs=>h s (.tail _ hs);refine⟨v,u,t,λN _=>ht N<|by simp[mI,mR],?_⟩;generalize c:[L,J,I,G,some<|Z.d<|.str m,ji T,F,A,z,i8 M,i8 p,l,jj<|C.map D.int,ji far,i9<|.str r.m,ji r.t,i9<|pr r.p r.q,none]=ρ at e;have st:wc a F1 F2 F3 F4 Z1 Z2 Z3 Z4 Z5 Z6 ρ S=.nx ρ S:=by
   unfold wc;have c1:b1 tB (d2 qi (dV 14)<|dV 4) (kO ρ)=.ok (!decide (r.m=m)):=by subst c;rfl
   have c2:b1 tB (d2 wF (dA F4<|ba (dV 15)<|ba (dV 5)<|ba (dV 12) jb)<|dV 13) (kO ρ)=.ok (decide<|far<=bt T C r.t):=by subst c;show((F4 [.int r.t,.int T,.lst<|C.map D.int]).bind λx=>wF x<|.int far).bind tB=_;rw[Y];rfl
   have ct:zB (rr (b1 tB (d2 qi (dV 14) (dV 4))) (b1 tB (d2 wF (dA F4 (ba (dV 15) (ba (dV 5) (ba (dV 12) jb)))) (dV 13)))) ρ S=.ok (!decide (r.m=m)||decide (far<=bt T C r.t)) S:=mK (by
    unfold rr;rw[c1];cases !decide (r.m=m)with
    |true=>rfl
    |false=>show b1 tB _ _=_;rw[c2];rfl)
   cases q:(!decide (r.m=m)||decide (far<=bt T C r.t))with
   |false=>rw[q]at ct;exact rQ ct
   |true=>
    rw[q]at ct;rw[nL ct];have hq:r.m≠m\/far<=bt T C r.t:=by simpa using q
    obtain⟨o,ho,v1,v2⟩:=h r (.head _) hq;have V:=E6 (ρ:=ρ) (f:=zV 9) (g:=qx (i7 (zD (dV 14)) (i7 (zD (dV 15)) jo))) (k4 (by subst c;rfl)) h9 (xQ (k:=nF r) (ds:=[.str r.m,.int r.t]) (jq (jn (by subst c;rfl)) (jq (jn (by subst c;rfl)) j0)) rfl (show 2<1000 by decide));have U:=E6 (ρ:=ρ) (f:=zV 10) (g:=qx (i7 (zD (dV 14)) (i7 (zD (dV 15)) jo))) (k4 (by subst c;rfl)) Q (xQ (k:=nF r) (ds:=[.str r.m,.int r.t]) (jq (jn (by subst c;rfl)) (jq (jn (by subst c;rfl)) j0)) rfl (show 2<1000 by decide));rw[v1]at V;rw[v2]at U;cases o with
    |none=>exact rQ (xR (lU (x:=.non) (y:=.non) V U<|ne_self rfl<|by decide) rfl)
    |some n=>exact rQ (xR (lU (x:=.str n) (y:=.str n) V U<|ne_self (ho n rfl)<|show 0<=60 by decide) rfl)
  show oM (wc a F1 F2 F3 F4 Z1 Z2 Z3 Z4 Z5 Z6 [L,J,I,G,some<|Z.d<|.str m,ji T,F,A,z,i8 M,i8 p,l,jj<|C.map D.int,ji far,i9<|.str r.m,ji r.t,i9<|pr r.p r.q,none] S) _=_;rw[c,st];exact e
end pW
namespace WM
open PySem L2 P2 WP TM T2 PySem.NumText
variable{a:Ad}
def UG(hf:HF Ff){p q:Int}(h:q≠0)(c:Sz 390 q):jX (Cs a Ff<|ke 1 [pr p q])=.ok (fr (p.natAbs:Int) q):=by
 unfold Cs;show jX (toS (((pB [.int p]).bind λx=>R.ok [x,D.int q]).bind Ff) RT.rt)=_;have e:pB [.int p]=.ok (.int (p.natAbs:Int)):=by unfold pB;dsimp only;first|rfl|(congr 2;split<;>grind)|(congr 1;congr 1;omega)
 rw[e];show jX (toS (Ff [.int (p.natAbs:Int),.int q]) RT.rt)=_;rw[hf _ q h<|Aj c<|by decide];rfl
def UD{p q x y:Int}(h:Sz 190 p)(f:Sz 190 q)(d:Sz 190 x)(c:Sz 190 y):jX (yT a<|ke 2 [pr p q,pr x y])=.ok (.bl<|decide<|p*y<x*q):=by unfold yT;show jX (toS ((kJ (.int p)<|.int y).bind λu=>(kJ (.int x)<|.int q).bind λv=>lH u v) RT.rt)=_;rw[qk h c,qk d f];rfl
end WM
namespace WM
open PySem L2 P2 WP
def abq{F:jD}{d:aa V}{Q:VK}{a:kv}(p:d.length=1)(j:jv K al H d [.lst<|a.map D.int])(i:mh K H)(e:F [.d<|.lst<|a.map .int] [.mk]=.ok (.d<|.bl true) S')(q:∀H',lj K H H'->Q (.bl true) H'):kB 1 K F d H Q E:=by
 refine⟨p,i,λ_=>True,λ_=>none,[.d<|.lst<|a.map .int],[.mk],λ_ _=>trivial,⟨λ_ _ h=>(by cases h),λn c h _ m=>?_,λ_ _ h=>(by cases h),λ_ _ _ h=>(by cases h),λ_ _ _ _ _=>trivial⟩,.ofD (ds:=[.lst<|a.map .int])<|jv.mv (.sub λ_ _=>trivial) j,?_⟩
 ·cases n with
  |zero=>cases h;exact absurd rfl m
  |succ n=>simp at h
 ·rw[e];intro t l H' v f k;have s:v=.bl true:=by cases k;rfl
  rw[s];exact q H' ⟨λb o no r=>f.fr b o no r λ_=>nofun,f.hf,λ_=>f.tt⟩
end WM
namespace pW
open PySem L2 P2 WP WM TM T2 PySem.NumText
variable{a:Ad}
structure Fz(ak:nA)(Fc Fw Fk Fb:aa D->P2.R D)(Zr Zu Zv Zm Zn Zs:jD):Prop where
 c:Cl Fc
 w:∀c:Int,∃st:Int,(st%26≠0/\st*2%26≠0)/\∀k:Int,0<=k->k<26->PyData.strOk (oq c st k)=true/\Fw [.int c,.int k]=.ok (.str<|oq c st k)
 r:∀{S:jt} {ws:jS},W3 ws->∀(ns:kv),ns.length<=63->∀first most:Int,most<=1000/\0<=most->S[0]?=some .mk->m9 S->∃(row:aa WM.Rd) (S':jt),ng row/\(row.length:Int)<=most+12/\Gr S S'/\Zr [.d<|.lst<|ns.map .int,.d<|.int first,.d<|.int most,.d<|.lst<|ws.map D.str] S=.ok (.d<|.lst<|row.map WM.Rd.d) S'
 u:∀{S:jt} (ns:kv) (first many:Nat),many<=12->S[0]?=some .mk->m9 S->∃(R:nB) (S':jt),rZ [] R/\R.length=many/\Gr S S'/\Zu [.d<|.lst<|ns.map .int,.d<|.int first,.d<|.int many,.d<|.lst []] S=.ok (.d<|.lst<|R.map jR) S'
 v:Vl Zv
 m:∀{S:jt} {R:nB} {row:aa WM.Rd},vU R->vT row->S[0]?=some .mk->m9 S->∃S',Gr S S'/\Zm [.d<|.lst<|row.map WM.Rd.d,.d<|.lst<|R.map jR] S=.ok (.d<|.lst (judge ak R row).1) S'
 n:∀{S:jt} (G:aa<|WM.Rd×jd×D),G.length<40000->∃kvs,Zn [.d<|.lst<|G.map qh] S=.ok (.loc S.length) (S++[.dt kvs])/\(∀j,kI j (.dt kvs)=false)/\
  ∀(r:WM.Rd) (o:jm jd),(∀g∈G,jH g.1=jH r->o=some g.2.1)->((∃g∈G,jH g.1=jH r)\/o=none)->valZ kvs (nF r)=o.map λn=>.d (.str n)
 s:∀{S:jt} {R:nB} {row:aa WM.Rd},vU R->vT row->S[0]?=some .mk->m9 S->∃S',Gr S S'/\Zs [.d<|.lst<|row.map WM.Rd.d,.d<|.lst<|R.map jR] S=.ok (.d<|.lst<|(Jg ak R row).map WM.Rd.d) S'
 h:∀t:T7,t.dep<8->t.parts.length<64->∀x,x∈ak t↔x=.here\/x∈t.asks
 k:∀{R:nB},rZ [] R->R.length<=12->Fk [.lst<|R.map jR]=.ok (.int<|(R.map λru=>nh<|ak ru.2).sum)
 b:∀(x y:Int) (C:kv),C.length<=100000->Fb [.int x,.int y,.lst<|C.map D.int]=.ok (.int (bt y C x:Nat))
variable{ak:nA}{l z E Q:aa D->P2.R D}{M I F P O J:jD}
def ZF{R}(h:rZ [] R):vU R:=λc d=>let g:=(h.ok c d).2;⟨g.w,g.dep,g.sz⟩
abbrev wz(ak:nA)(t:T7):Nat:=(nh<|ak t).toNat
def ZD{R}(k:∀t:T7,t.dep<8->t.parts.length<64->∀x,x∈ak t↔x=.here\/x∈t.asks)(h:rZ [] R):(∀c∈R,A6 ak (wz ak) c.2)/\∀c∈R,0<=nh (ak c.2):=by
 have d:∀c∈R,(∀x,x∈ak c.2↔x=.here\/x∈c.2.asks)/\∀x∈ak c.2,x.isAt=false/\0<=x.far:=λc i=>by
  have g:=(h.ok c i).2;have e:=k c.2 (by have:=g.dep;walk_at "l") (by have:=g.sz;walk_at "l");refine⟨e,λx f=>?_⟩;rcases(e x).mp f with rfl|f;·exact⟨rfl,by decide⟩
  ·exact Kg g.ok x f
 have m:∀c∈R,0<=nh (ak c.2):=λc i=>(HL (((d c i).1 _).mpr (.inl rfl)) λy j=>((d c i).2 y j).2).1;refine⟨λc i=>⟨⟨((d c i).1 _).mpr (.inl rfl),λx f=>((d c i).1 x).mpr (.inr f),λx f=>((d c i).2 x f).1⟩,λx f=>⟨((d c i).2 x f).2,?_⟩⟩,m⟩;have:=(HL f λy j=>((d c i).2 y j).2).2
 lia
theorem sum_nat:∀{R:nB},(∀c∈R,0<=nh (ak c.2))->(R.map λc=>nh<|ak c.2).sum=(((R.map λc=>wz ak c.2).sum:Nat):Int)
 |[],_=>rfl
 |c::R,h=>by
  rw[aW,iY,aW,iY,sum_nat λx d=>h x<|.tail _ d];have:=h c (.head _);unfold wz
  lia
def ab0{c:Ev->P2.R (aa D)}(e:c (kO ρ)=.ok ds):mU c ρ S=.ok (.loc S.length) (S++[.li<|ds.map .d]):=by unfold mU;rw[e];rfl
def GX{A B:j7}(h:A.length+B.length<=1000000):sj (.lst A) (.lst B)=.ok (.lst<|A++B):=by unfold sj BB;dsimp only;rw[au<|aV h<|by decide]
def JX(c:l5 ds=true)(d:n8 ds<=59):nR (.lst ds) (.lst [])=.ok (.bl<|!ds.isEmpty):=by
 obtain⟨r,e,h⟩:=wy (a:=.lst ds) (b:=.lst []) c rfl (by show n8 ds+1<=60;walk_at "l") (by decide);unfold nR;rw[e];cases ds with
 |nil=>simp_all
 |cons w L=>simp_all
def Uk(H:Fz ak l z E Q M I F P O J)(o:kv)(hn:o.length<=63)(b:Nat):∃S',ju (Cn a l z E Q M I F P O J b (jY 18 [.d<|.lst<|o.map .int]) [.mk])=.ok (.d<|.bl true) S':=by
 have o0:([Cell.mk]:jt)[0]?=some .mk:=rfl;have b0:m9 [Cell.mk]:=λ_ _=>rfl
 obtain⟨st,wJ,hw⟩:=H.w (o.getD 0 0)
 let ws:aa jd:=[oq (o.getD 0 0) st 0,oq (o.getD 0 0) st 1,oq (o.getD 0 0) st 2]
 have W:W3 ws:=⟨λw R4=>by
  have:w=oq (o.getD 0 0) st 0\/w=oq (o.getD 0 0) st 1\/w=oq (o.getD 0 0) st 2:=by simpa [ws]using R4
  rcases this with rfl|rfl|rfl;· exact(hw 0 (by decide)<|by decide).1
  · exact(hw 1 (by decide)<|by decide).1
  · exact(hw 2 (by decide)<|by decide).1,by
  have n1:=EY (c:=o.getD 0 0) (i:=0) (j:=1) wJ (by decide) (by decide) (by decide);have n2:=EY (c:=o.getD 0 0) (i:=0) (j:=2) wJ (by decide) (by decide) (by decide);have n3:=EY (c:=o.getD 0 0) (i:=1) (j:=2) wJ (by decide) (by decide) (by decide);show List.Nodup [_,_,_];exact bL.mpr ⟨λh=>(az.mp h).elim n1 λh=>n2 (aI.mp h),bL.mpr ⟨λh=>n3 (aI.mp h),bL.mpr ⟨(λh=>nomatch h),List.Pairwise.nil⟩⟩⟩,rfl⟩
 have e1:zD (jz<|kl (λρ=>((ba (dC<|.int 3) jb) ρ).bind qT) 1 [0] (gV 0) (λ_=>.ok true)<|dA z<|ba (dA l<|ba (dV 1)<|ba (dC<|.int 0) jb)<|ba (dV 0) jb) [some<|.d<|.lst<|o.map .int,none,none,none,none,none,none,none,none,none,none,none,none,none,none,none,none,none] [.mk]=.ok (.d<|.lst<|ws.map D.str) [.mk]:=by
  refine jn (n7 (X:=ws.map D.str) ?_);generalize Q8:dA z (ba (dA l<|ba (dV 1)<|ba (dC<|.int 0) jb)<|ba (dV 0) jb)=fe;have ev:∀k:Int,0<=k->k<26->fe [.sh<|.int k,.sh<|.lst<|o.map .int]=.ok (.str<|oq (o.getD 0 0) st k):=λk k0 k1=>by subst Q8;show(((l [.lst<|o.map .int,.int (0:Nat)]).bind λx=>P2.R.ok [x,D.int k]).bind z)=_;rw[H.c o 0];exact(hw k k0 k1).2
  have e0:=ev 0 (by decide) (by decide);have e1:=ev 1 (by decide) (by decide);have e2:=ev 2 (by decide) (by decide);show(if 3<=sizeLine then uf (lD (gV 0) (λ_=>P2.R.ok true) fe [.no,.sh<|.lst<|o.map .int] [.int 0,.int 1,.int 2])else .bad)=_;rw[au<|by decide];have c3:lD (gV 0) (λ_=>P2.R.ok true) fe [.no,.sh<|.lst<|o.map .int] [.int 0,.int 1,.int 2]=some (ws.map D.str):=by show((pJ<|fe [.sh<|.int 0,.sh<|.lst<|o.map .int]).bind λv=>((pJ<|fe [.sh<|.int 1,.sh<|.lst<|o.map .int]).bind λv=>((pJ<|fe [.sh<|.int 2,.sh<|.lst<|o.map .int]).bind λv=>some [v]).bind λvs=>some<|v::vs).bind λvs=>some<|v::vs)=_;rw[e0,e1,e2];rfl
  rw[c3];rfl
 clear_value ws
 obtain⟨row,S1,t,hlen,g1,er⟩:=H.r W o hn 7 120 (by decide) o0 b0;have o1:=g1.get o0;have B1:=g1.bnd b0;generalize C5:o.getD 3 0=w;obtain⟨p3,RM⟩:=bu (cL w<|show(3:Int)≠0 by decide);have l3:=cD w (show(0:Int)<3 by decide);obtain⟨R,S2,hR,Qx,g2,eu⟩:=H.u o 4 (1+p3) (by lia) o1 B1;have o2:=g2.get o1;have B2:=g2.bnd B1
 obtain⟨m,hm,em⟩:=Ja W (w/3);have RG:=W.ok m hm
 let xT:jP:=[some<|.d<|.lst<|o.map .int,some<|.d<|.lst<|ws.map D.str,some<|.d<|.lst<|row.map WM.Rd.d,some<|.d<|.lst<|R.map jR,some<|.d<|.str m,none,none,none,none,none,none,none,none,none,none,none,none,none]
 have GW:vT row:=⟨λr u=>(t.ok r u).1,by lia⟩;have okR:∀L:aa WM.Rd,(∀r∈L,PyData.strOk r.m=true)->mr (.lst<|L.map WM.Rd.d)=true/\nC (.lst<|L.map WM.Rd.d)<=60:=λL hL=>TY λr u=>zy (hL r u);have cc:∀k:Nat,l [.lst<|o.map .int,.int k]=.ok (.int<|o.getD k 0):=λk=>H.c o k
 have e5:∃T:Int,Sz 60 T/\∀rest:jJ,jf (jy 5<|zD<|d2 jU (dA l<|ba (dV 0)<|ba (dC<|.int 1) jb)<|d2 oo (d2 qS (dC<|.int 10)<|dC<|.int 9)<|d2 qS (dC<|.int 10)<|dC<|.int 6)
  (jf (j4 (zB<|b1 tB<|d2 nR (dV 2)<|jz<|λρ=>(jb ρ).bind jM) (jy 5<|zD<|d2 jG (d2 jG (dV 2)<|d2 jU (d2 kE (dA l<|ba (dV 0)<|ba (dC<|.int 3) jb)<|dC<|.int 9)<|dA lR<|ba (dV 2) jb)<|dC<|.int 1) kn) rest) xT S2=rest (xT.set 5<|some<|.d<|.int T) S2:=by
  have t0:=cL (o.getD 1 0) (show(10^9 - 10^6:Int)≠0 by decide);have t1:=cD (o.getD 1 0) (show(0:Int)<10^9 - 10^6 by decide);have v5:zD (d2 jU (dA l<|ba (dV 0)<|ba (dC<|.int 1) jb)<|d2 oo (d2 qS (dC<|.int 10)<|dC<|.int 9)<|d2 qS (dC<|.int 10)<|dC<|.int 6) xT S2=.ok (.d<|.int<|o.getD 1 0%(10^9 - 10^6)) S2:=jn (by show(l [.lst<|o.map .int,.int (1:Nat)]).bind (λx=>jU x<|.int<|10^9 - 10^6)=_;rw[cc 1];exact oj (by decide))
  generalize hT:o.getD 1 0%(10^9 - 10^6)=T at t0 t1 v5;have Ey:Sz 60 T:=EM t0 (by walk_at "l");cases hq:row with
  |nil=>refine⟨T,Ey,λrest=>?_⟩;rw[jI<|j5 v5<|aj rfl,mT<|mK (d:=false)<|by show(nR (.lst<|row.map WM.Rd.d)<|.lst []).bind tB=_;rw[hq];exact bN (λx=>P2.R.bind x tB) (JX (ds:=[]) rfl<|by decide)]
  |cons r0 rw'=>
   have hl0:0<row.length:=by rw[hq];exact dZ _
   have i0:=cL (w/9) (show(row.length:Int)≠0 by lia);have i1:=cD (w/9) (show(0:Int)<row.length by simp_all);obtain⟨j,hj⟩:=bu i0;have jl:j<row.length:=by lia
   refine⟨row[j].t,t.tm _ (bU _),λrest=>?_⟩;have nn:=JX (ds:=row.map WM.Rd.d) (okR row λr u=>(t.ok r u).2).1 (by have:=(okR row λr u=>(t.ok r u).2).2;have h:n8 (row.map WM.Rd.d)+1<=60:=this;walk_at "l");rw[show(row.map WM.Rd.d).isEmpty=false by rw[hq];rfl]at nn;rw[jI (j5 v5 (aj rfl)),jI ((nL (mK (d:=true) (by
    show(nR (.lst (row.map WM.Rd.d)) (.lst [])).bind tB=_;rw[nn];rfl))).trans (j5 (jn (d:=.int row[j].t) (by
    show((((l [.lst (o.map .int),.int (3:Nat)]).bind λx=>kE x (.int 9)).bind λx=>jU x (.int ((row.map WM.Rd.d).length:Nat))).bind λi=>jG (.lst (row.map WM.Rd.d)) i).bind (λd=>jG d (.int 1))=_;rw[cc 3,C5,ao];show((((kE (.int w) (.int 9))).bind λx=>jU x (.int (row.length:Nat))).bind λi=>jG (.lst (row.map WM.Rd.d)) i).bind (λd=>jG d (.int 1))=_;rw[uj (by decide) (by decide)];show((jU (.int (w/9)) (.int (row.length:Nat))).bind λi=>jG (.lst (row.map WM.Rd.d)) i).bind (λd=>jG d (.int 1))=_;rw[oj (by walk_at "l"),hj];show(match L2.kc (row.map WM.Rd.d) ((j:Nat):Int)with|some d=>P2.R.ok d|none=>.bad).bind (λd=>jG d (.int 1))=_;rw[tH (v:=row[j].d) (by rw[aH,ar jl];rfl)];rfl)) (aj rfl)))]
   rfl
 obtain⟨T0,Ey,e5⟩:=e5;have fe:∀{α:Type} (f:WM.Rd->jk) (g:WM.Rd->α),((row.filter f).map g).length<=row.length:=λf g=>by rw[ao];exact d5 ..
 let C0:aa Int:=(row.filter λr:WM.Rd=>decide<|r.m=m).map WM.Rd.t
 have e6:∀T:Int,zD (jz<|kl (λρ=>((dV 2) ρ).bind j2) 1 [4] (gV 0) (b1 tB<|d2 jW (d2 jG (dV 0)<|dC<|.int 0)<|dV 1)<|d2 jG (dV 0)<|dC<|.int 1) (xT.set 5<|some<|.d<|.int T) S2=.ok (.d<|.lst<|C0.map D.int) S2:=λT=>jn (by have:=BJ (i:=2) (ci:=[4]) (cap:=[.sh<|.str m]) (ρ:=kO<|xT.set 5<|some<|.d<|.int T) (fc:=b1 tB<|d2 jW (d2 jG (dV 0)<|dC<|.int 0)<|dV 1) (fe:=d2 jG (dV 0)<|dC<|.int 1) (f:=λr:WM.Rd=>decide<|r.m=m) (g:=λr=>.int r.t) (L:=row) rfl rfl (by lia) (λ_ _=>rfl)<|λ_ _=>rfl;rw[this,bh];rfl)
 obtain⟨T,Iz,IA,hTC,e7⟩:=free (a:=a) (F1:=l) (F2:=z) (F3:=E) (F4:=Q) (Z1:=M) (Z2:=I) (Z3:=F) (Z4:=P) (Z5:=O) (Z6:=J) (S:=S2) (some (.d (.lst (o.map .int)))) (some (.d (.lst (ws.map D.str)))) (some (.d (.lst (row.map WM.Rd.d)))) (some (.d (.lst (R.map jR)))) (some (.d (.str m))) C0 1000 T0 (by
  refine cC (d5 ..) ?_;have:=fe (λr:WM.Rd=>decide<|r.m=m) WM.Rd.t;show((row.filter λr:WM.Rd=>decide<|r.m=m).map WM.Rd.t).length<1000
  lia)
 have ZN:Sz 61 T:=by
  have h:T0.natAbs<10^60:=Ey;show T.natAbs<10^61;have:(10:Nat)^61=10*10^60:=rfl;have:1000<(10:Nat)^60:=by decide
  generalize(10:Nat)^60=K at*;omega
 obtain⟨p,q,x',C4,ev⟩:=H.v (show S2.length<(S2++[sc (o.getD 2 0) 0]).length by simp) (o.getD 2 0) 0
 let ν:WM.Rd:=⟨m,T,p,q⟩
 let S3:jt:=S2++[sc x' 0]
 unfold WM.sx at ev;rw[qV,qV]at ev;have g3:Gr S2 S3:=Gr.app λj=>mC [.int x',.int 0] j;have o3:=g3.get o2;have B3:=g3.bnd B2;have nk:∀r∈row,jH r≠jH ν:=λr u e=>hTC (aO.mpr ⟨r,aL.mpr ⟨u,aR<|bN Prod.snd e⟩,bN Prod.fst e⟩)
 let more:=nH row ν
 have hml:more.length=row.length+1:=XU t.so nk;have mem:=El t.so nk;have JS:∀r∈more,pq r/\PyData.strOk r.m=true:=λr u=>by
  rcases(mem r).mp u with u|rfl;·exact t.ok r u
  ·exact⟨⟨ZN,C4.1,C4.2.1,C4.2.2⟩,RG⟩
 have GM:vT more:=⟨λr u=>(JS r u).1,by lia⟩;have GR:=ZF hR;obtain⟨Iy,Qw⟩:=ZD H.h hR;have Qy:∀ru∈R,Ru (ak ru.2) ru.2:=λru h=>(Iy ru h).ru;have JR:(more.map jH).Nodup:=d9.mpr ((Lc t.so nk).imp WM.Lx.ne);have EJ:∀r∈Jg ak R row,r∈row:=λr u=>(vf R row).subset u;have L8:∀r∈Jg ak R more,r∈more:=λr u=>(vf R more).subset u;have adt:(Jg ak R row).length<=row.length:=(vf R row).length_le;have adu:(Jg ak R more).length<=more.length:=(vf R more).length_le;obtain⟨A,g4,e9⟩:=H.m (row:=row) GR GW o3 B3;rw[Dn]at e9;obtain⟨za,Pu,CV,U3⟩:=H.n (S:=A) (oH ak R row) (by have:=DL (ak:=ak) R row;lia);have g5:Gr A (A++[.dt za]):=Gr.app CV;have B5:=g5.bnd (g4.bnd B3);have o5:=g5.get (g4.get o3);obtain⟨U,g6,yG⟩:=H.m (row:=more) GR GM o5 B5;rw[Dn]at yG;obtain⟨zb,Pw,Rj,U4⟩:=H.n (S:=U) (oH ak R more) (by have:=DL (ak:=ak) R more;lia);have g7:Gr U (U++[.dt zb]):=Gr.app Rj;have B7:=g7.bnd (g6.bnd B5);have o7:=g7.get (g6.get o5);obtain⟨S8,g8,uX⟩:=H.s (row:=more) GR GM o7 B7;have B8:=g8.bnd B7;have o8:=g8.get o7;obtain⟨S9,g9,BP⟩:=H.s (row:=row) GR GW o8 B8;have B9:=g9.bnd B8;have yL:Gr S9 (S9++[.no]):=Gr.app λ_=>rfl;have FD:=yL.bnd B9;have Vn:=yL.get (g9.get o8);obtain⟨A7,BZ,Pn⟩:=H.s (row:=row) GR GW Vn FD;have MT:=BZ.bnd FD;have Qm:(S9++[Cell.no])[U.length]?=some (.dt zb):=(g8.trans<|g9.trans yL).get (m5 U _);have h9:(S9++[Cell.no])[A.length]?=some (.dt za):=(g6.trans<|g7.trans<|g8.trans<|g9.trans yL).get (m5 A _);have n9:A.length<S9.length:=(aC.mp<|(g6.trans<|g7.trans<|g8.trans g9).get (m5 A<|.dt za)).1;have UZ:U.length<S9.length:=(aC.mp<|(g8.trans g9).get (m5 U<|.dt zb)).1
 let Y:D:=.lst (o.map .int)
 let sW:D:=.lst (ws.map D.str)
 let V:D:=.lst (row.map WM.Rd.d)
 let G:D:=.lst (R.map jR)
 let sM:D:=.lst (more.map WM.Rd.d)
 let sL:D:=.lst ((Jg ak R more).map WM.Rd.d)
 let sC:D:=.lst (C0.map D.int)
 let C:aa Int:=((Jg ak R row).filter λr:WM.Rd=>decide (r.m=m)&&decide (jH r∈(Jg ak R more).map jH)).map WM.Rd.t
 let far:Int:=(R.map λru=>nh<|ak ru.2).sum
 have hCl:C.length<=row.length:=by
  have:C.length<=(Jg ak R row).length:=by show(List.map _ _).length<=_;rw[ao];exact d5 ..
  walk_at "l"
 obtain⟨t14,t15,t16,ht,el⟩:=HM (a:=a) (F1:=l) (F2:=z) (F3:=E) (F4:=Q) (Z1:=M) (Z2:=I) (Z3:=F) (Z4:=P) (Z5:=O) (Z6:=J) h9 Qm (some (.d Y)) (some (.d sW)) (some (.d V)) (some (.d G)) (some (.d sC)) (some (.d ν.d)) (some (.d sM)) (some (.d sL)) m T C far (λx=>H.b x T C (by lia)) row none none none λr u hf=>by
  refine⟨ni ak R row r,λn wI=>?_,JW t.nd U3 u,?_⟩
  ·obtain⟨ru,h1,h2⟩:=JZ wI;rw[<-h2];exact(hR.ok ru h1).1
  ·rw[alike (ak:=ak) (far:=wz ak) (ν:=ν) t.so nk Iy (C:=C) rfl u (hf.imp id λh=>by
    have h':far<=(bt T C r.t:Int):=h;have e:far=_:=sum_nat Qw;rw[e]at h';show(R.map λru=>wz ak ru.2).sum<=bt T C r.t;simp_all)]
   exact JW JR U4 ((mem r).mpr (.inl u))
 refine⟨A7++[.no],?_⟩;unfold Cn;show ju (jf (jy 1 _) _ [some<|.d Y,none,none,none,none,none,none,none,none,none,none,none,none,none,none,none,none,none] [.mk])=_;rw[jI<|j5 e1<|aj rfl];rw[jI<|j5 (lP (jq (jn (d:=Y) rfl)<|jq (jn (d:=.int 7) rfl)<|jq (jn (d:=.int 120) rfl)<|jq (jn (d:=sW) rfl) j0) er)<|aj rfl];rw[jI<|j5 (lP (jq (jn (d:=Y) rfl)<|jq (jn (d:=.int (4:Nat)) rfl)<|jq (jn (d:=.int ((1+p3:Nat):Int))<|by show(((l [.lst<|o.map .int,.int (3:Nat)]).bind λx=>jU x<|.int 3).bind λy=>kA (.int 1) y)=_;rw[cc 3,C5];show((jU (.int w)<|.int 3).bind λy=>kA (.int 1) y)=_;rw[oj<|by decide,RM];show P2.R.ok (D.int<|1+(p3:Int))=_;rw[Int.natCast_add];rfl)<|jq (jn (d:=.lst []) rfl) j0) eu)<|aj rfl]
 rw[jI<|j5 (jn (d:=.str m)<|by show((((l [.lst<|o.map .int,.int (3:Nat)]).bind λx=>kE x<|.int 3).bind λx=>jU x<|.int 3).bind λi=>jG (.lst<|ws.map D.str) i)=_;rw[cc 3,C5];show(((kE (.int w)<|.int 3).bind λx=>jU x<|.int 3).bind λi=>jG (.lst<|ws.map D.str) i)=_;rw[uj (by decide)<|by decide];exact em)<|aj rfl]
 refine Eq.trans (bN ju<|e5 _) ?_;rw[jI<|j5 (e6 T0)<|aj rfl];show ju (jf (rP _ _ _) _ [some<|.d<|.lst<|o.map .int,some<|.d<|.lst<|ws.map D.str,some<|.d<|.lst<|row.map WM.Rd.d,some<|.d<|.lst<|R.map jR,some<|.d<|.str m,some<|.d<|.int T0,some<|.d<|.lst<|C0.map D.int,none,none,none,none,none,none,none,none,none,none,none] S2)=_;rw[jI e7];rw[jI<|j5 (l7 (d:=ν.d) (S1:=S3) [.str m,.int T,pr p q] (jq (jn (d:=.str m) rfl)<|jq (jn (d:=.int T) rfl)<|jq (lP (jq (ab0 (ds:=[.int<|o.getD 2 0,.int 0])<|by show(((l [.lst<|o.map .int,.int (2:Nat)]).bind λx=>P2.R.ok [x,D.int 0]).bind jM)=_;rw[cc 2];rfl) j0) ev) j0) rfl)<|aj rfl]
 show ju (jf (jy 8 _) _ [some<|.d Y,some<|.d sW,some<|.d V,some<|.d G,some<|.d<|.str m,some<|.d<|.int T,some<|.d sC,some<|.d ν.d,none,none,none,none,none,none,none,none,none,none] S3)=_
 have c8:∀s8:jm Z,∀(fc:Ev->P2.R jk) (f:WM.Rd->jk),(∀r∈row,fc [.sh r.d,.sh<|.int T,.sh<|.str m]=.ok (f r))->jz (kl (λρ=>((dV 2) ρ).bind j2) 1 [5,4] (gV 0) fc<|dV 0) (kO [some<|.d Y,some<|.d sW,some<|.d V,some<|.d G,some<|.d<|.str m,some<|.d<|.int T,some<|.d sC,some<|.d ν.d,s8,none,none,none,none,none,none,none,none,none])=.ok (.lst<|(row.filter f).map WM.Rd.d):=λs8 fc f h=>BJ (i:=2) (ci:=[5,4]) (cap:=[.sh<|.int T,.sh<|.str m]) (fe:=dV 0) (g:=WM.Rd.d) rfl rfl (by lia) h λ_ _=>rfl
 rw[jI<|j5 (jn (d:=.lst<|(row.filter λr=>lS r ν).map WM.Rd.d++[ν.d])<|by show((jz _ _).bind λx=>(P2.R.ok<|D.lst [ν.d]).bind λy=>sj x y)=_;rw[c8 none _ (λr=>lS r ν) λr _=>rfl];exact GX (by have:=fe (λr=>lS r ν) WM.Rd.d;simp only[aw,di];lia))<|aj rfl]
 show ju (jf (jy 8 _) _ [some<|.d Y,some<|.d sW,some<|.d V,some<|.d G,some<|.d<|.str m,some<|.d<|.int T,some<|.d sC,some<|.d ν.d,some<|.d<|.lst<|(row.filter λr=>lS r ν).map WM.Rd.d++[ν.d],none,none,none,none,none,none,none,none,none] S3)=_;rw[jI<|j5 (jn (d:=sM)<|by show((P2.R.ok<|D.lst<|(row.filter λr=>lS r ν).map WM.Rd.d++[ν.d]).bind λx=>(jz _ _).bind λy=>sj x y)=_;rw[c8 _ _ (λr=>lS ν r) λr _=>rfl];refine(GX (by have:=fe (λr=>lS r ν) WM.Rd.d;have:=fe (λr=>lS ν r) WM.Rd.d;simp only[aq,aw,di];lia)).trans ?_;show _=P2.R.ok (D.lst<|(nH row ν).map WM.Rd.d);unfold nH;rw[bM,bM];rfl)<|aj rfl]
 show ju (jf (jy 9 _) _ [some<|.d Y,some<|.d sW,some<|.d V,some<|.d G,some<|.d<|.str m,some<|.d<|.int T,some<|.d sC,some<|.d ν.d,some<|.d sM,none,none,none,none,none,none,none,none,none] S3)=_;rw[jI<|j5 (lP (jq (lP (jq (jn (d:=V) rfl)<|jq (jn (d:=G) rfl) j0) e9) j0) Pu)<|aj rfl];show ju (jf (jy 10 _) _ [some<|.d Y,some<|.d sW,some<|.d V,some<|.d G,some<|.d<|.str m,some<|.d<|.int T,some<|.d sC,some<|.d ν.d,some<|.d sM,some<|.loc A.length,none,none,none,none,none,none,none,none]<|A++[.dt za])=_;rw[jI<|j5 (lP (jq (lP (jq (jn (d:=sM) rfl)<|jq (jn (d:=G) rfl) j0) yG) j0) Pw)<|aj rfl];show ju (jf (jy 11 _) _ [some<|.d Y,some<|.d sW,some<|.d V,some<|.d G,some<|.d<|.str m,some<|.d<|.int T,some<|.d sC,some<|.d ν.d,some<|.d sM,some<|.loc A.length,some<|.loc U.length,none,none,none,none,none,none,none]<|U++[.dt zb])=_;rw[jI<|j5 (lP (jq (jn (d:=sM) rfl)<|jq (jn (d:=G) rfl) j0) uX)<|aj rfl];show ju (jf (jy 12 _) _ [some<|.d Y,some<|.d sW,some<|.d V,some<|.d G,some<|.d<|.str m,some<|.d<|.int T,some<|.d sC,some<|.d ν.d,some<|.d sM,some<|.loc A.length,some<|.loc U.length,some<|.d sL,none,none,none,none,none,none] S8)=_;have sl:∀(s12 xo xp xq xu:lA) (N:Nat),A.length<N->U.length<N->(∀s∈[s12,xo,xp,xq,xu],mI N s=false)->[some<|Z.d Y,some<|.d sW,some<|.d V,some<|.d G,some<|.d<|.str m,some<|.d<|.int T,some<|.d sC,some<|.d ν.d,some<|.d sM,some<|.loc A.length,some<|.loc U.length,some<|.d sL,s12,xo,xp,xq,xu,none].any (mI N)=false:=λs12 xo xp xq xu N h1 h2 h3=>by have q1:mI N (some<|.loc A.length)=false:=aJ (by walk_at "l");have q2:mI N (some<|.loc U.length)=false:=aJ (by walk_at "l");have q3:=h3 s12 (by simp);have q4:=h3 xo (by simp);have q5:=h3 xp (by simp);have q6:=h3 xq (by simp);have q7:=h3 xu (by simp);show(false||(false||(false||(false||(false||(false||(false||(false||(false||(mI N (some<|.loc A.length)||(mI N (some<|.loc U.length)||(false||(mI N s12||(mI N xo||(mI N xp||(mI N xq||(mI N xu||(false||false))))))))))))))))))=false;rw[q1,q2,q3,q4,q5,q6,q7];rfl
 rw[jI (j5 (MH (L:=Jg ak R row) (f:=λr:WM.Rd=>decide (r.m=m)&&decide (jH r∈(Jg ak R more).map jH)) (g:=λr=>.int r.t) (cap:=[.d sL,.d (.str m)]) (lP (jq (jn (d:=V) rfl) (jq (jn (d:=G) rfl) j0)) BP) rfl (by lia) (λr u=>by
  show(qL (b1 tB<|d2 jW (d2 jG (dV 0)<|dC<|.int 0)<|dV 2)<|b1 tB<|d2 lQ (dV 0)<|dV 1) [.sh r.d,.sh sL,.sh<|.str m]=_;have i1:=Se (r:=r) (L:=Jg ak R more) (t.ok r<|EJ r u).2 (λs hs=>(JS s<|L8 s hs).2) λs hs e=>IQ JR s (L8 s hs) r ((mem r).mpr (.inl<|EJ r u)) e;unfold qL;show(P2.R.ok<|decide<|r.m=m).bind _=_;cases decide (r.m=m)with
  |false=>rfl
  |true=>show(lQ r.d (.lst ((Jg ak R more).map WM.Rd.d))).bind tB=_;rw[i1];rfl) (λr _=>rfl) B9 g9.len (sl none none none none none _ n9 UZ (by simp[mI]))) (aj rfl))]
 have eC:(((Jg ak R row).filter λr:WM.Rd=>decide (r.m=m)&&decide (jH r∈(Jg ak R more).map jH)).map λr=>D.int r.t)=C.map D.int:=by show _=List.map _ (List.map _ _);rw[bh];rfl
 rw[eC];show ju (jf (jy 13 _) _ [some<|.d Y,some<|.d sW,some<|.d V,some<|.d G,some<|.d<|.str m,some<|.d<|.int T,some<|.d sC,some<|.d ν.d,some<|.d sM,some<|.loc A.length,some<|.loc U.length,some<|.d sL,some<|.d<|.lst<|C.map D.int,none,none,none,none,none]<|S9++[.no])=_;rw[jI<|j5 (jn (d:=.int far)<|by show E [.lst<|R.map jR]=_;rw[H.k hR<|by lia])<|aj rfl]
 show ju (jf (mJ _ _ _) _ [some<|.d Y,some<|.d sW,some<|.d V,some<|.d G,some<|.d<|.str m,some<|.d<|.int T,some<|.d sC,some<|.d ν.d,some<|.d sM,some<|.loc A.length,some<|.loc U.length,some<|.d sL,some<|.d<|.lst<|C.map D.int,some<|.d<|.int far,none,none,none,none]<|S9++[.no])=_;rw[jI<|(xH (ds:=row.map WM.Rd.d) rfl).trans el];show ju (jf (jy 17 _) _ [some<|.d Y,some<|.d sW,some<|.d V,some<|.d G,some<|.d<|.str m,some<|.d<|.int T,some<|.d sC,some<|.d ν.d,some<|.d sM,some<|.loc A.length,some<|.loc U.length,some<|.d sL,some<|.d<|.lst<|C.map D.int,some<|.d<|.int far,t14,t15,t16,none]<|S9++[.no])=_;have adw:S9.length<A7.length:=by have:=BZ.len;rw[aq,cm]at this;walk_at "l"
 have t3:=ht A7.length (by simp[mI]);rw[jI (j5 (MH (L:=Jg ak R row) (f:=λr:WM.Rd=>decide (r.m≠m)) (g:=WM.Rd.d) (cap:=[.d (.str m)]) (lP (jq (jn (d:=V) rfl) (jq (jn (d:=G) rfl) j0)) Pn) rfl (by lia) (λr u=>by
  show P2.R.ok (!decide (r.m=m))=_;rw[decide_not]) (λr _=>rfl) MT BZ.len (sl _ _ _ _ _ _ (by lia) (by lia) λs hs=>by
   rcases az.mp hs with rfl|hs;· rfl
   · rcases az.mp hs with rfl|hs;· rfl
     · exact t3 s hs)) (aj rfl))]
 have eo:oth m (Jg ak R more)=oth m (Jg ak R row):=Ko (w:=m) Qy (Lb (ν:=ν) t.so nk);have Kc:=okR (oth m (Jg ak R row)) λr u=>(t.ok r (EJ r (aL.mp u).1)).2;rw[y_ret (jn (d:=.bl true) (by
  show(P2.R.ok<|D.lst<|(oth m<|Jg ak R row).map WM.Rd.d).bind (λx=>(jz _ _).bind λy=>pY x y)=_;rw[BJ (i:=11) (ci:=[4]) (cap:=[.sh<|.str m]) (L:=Jg ak R more) (f:=λr:WM.Rd=>decide<|r.m≠m) (g:=WM.Rd.d) (fe:=dV 0) rfl rfl (by lia) (λr u=>by show P2.R.ok (!decide (r.m=m))=_;rw[decide_not]) λ_ _=>rfl]
  show pY (.lst ((oth m (Jg ak R row)).map WM.Rd.d)) (.lst ((oth m (Jg ak R more)).map WM.Rd.d))=_;rw[eo];exact eq_self Kc.1 Kc.2))]
 rfl
end pW
namespace P2
open PySem PySem.Spec PyProof.Rows Fx L2
structure Wt(P:jT)(w:jK)(K:jx)(mg:kG)(base h:jw):Prop where
 X:K.In h
 G:h.Ns mainGlobals mg
abbrev uG(K:jx)(x:jd)(v:je):Prop:=W.nsIn K mainGlobals x=some (some v)
abbrev ov(K:jx)(x:jd):Prop:=W.nsIn K mainGlobals x=some none
abbrev Aw(K:jx)(C:ja)(x:jd)(b:String):Prop:=W.findIn K (.ref C) x=some (some<|.builtin b)
abbrev Ax(K:jx)(C:ja)(x:jd):Prop:=W.findIn K (.ref C) x=some none
def km(K:jx)(x:jd)(st:Stmt):Prop:=∃f a,ou K x x st f a/\uG K x (.ref f)
def qC(K:jx)(C:ja)(x a:jd)(st:Stmt):Prop:=∃f c,rV K x a st .none f c/\W.findIn K (.ref C) x=some (some<|.ref f)/\W.isFn K (.ref f)=true
def ups(u:Nat->je):aa jd->aa je
 |[]=>[]
 |_::r=>u r.length::ups u r
abbrev Bd(x qual:jd)(st:Stmt)(ps:jS):Prop:=∀(kV doc pm:je) (an:mP) (cdv ct:je) (u:Nat->je),bindArgs (W.fnOf x qual (oF st) (ml st) (kf st) .none kV doc pm an cdv ct) ⟨ups u ps,[]⟩=pure (ps.zip<|ups u ps)
variable{P:jT}{w:jK}{K:jx}{I:kG}{i h:jw}{x B:jd}{q:Stmt}{C:ja}{k:Nat}{z:jS}{J:Sp}
def Wt.g{v:je}(Y:Wt P w K I i h)(e:uG K x v):I x=some v:=W.mg_of Y.X Y.G e
def Wt.n(Y:Wt P w K I i h)(e:ov K x):I x=none:=W.mg_none_of Y.X Y.G e
theorem Mo{u v:Nat->je}:∀{z:jS},(∀n,n<z.length->u n=v n)->ups u z=ups v z
 |[],_=>rfl
 |_::r,h=>by show u r.length::ups u r=v r.length::ups v r;rw[h _<|bH _,Mo λn a=>h n<|bW a]
theorem Mp:∀(z:jS) (us:kL),us.length=z.length->∃u,us=ups u z
 |[],[],_=>⟨λ_=>.none,rfl⟩
 |_::r,x::us,h=>by obtain⟨u,e⟩:=Mp r us (Nat.succ.inj h);refine⟨λn=>if n=r.length then x else u n,?_⟩;show x::us=(if r.length=r.length then x else _)::ups _ r;rw[au rfl,e,Mo (v:=u) λn a=>ax<|aU a]
def Bd.o(b:Bd x B q z)(kV c f:je)(j:mP)(d ct:je)(a:kL)(h:a.length=z.length):bindArgs (W.fnOf x B (oF q) (ml q) (kf q) .none kV c f j d ct) ⟨a,[]⟩=pure (z.zip a):=by obtain⟨u,rfl⟩:=Mp z a h;exact b ..
def km.mk{f:ja}{p:je}{o r:mP}{j:yk}{kV m n d ct:je}(a:autoParam (W.nsIn K mainGlobals x=some (some<|.ref f)) aZ4)
    (l:autoParam (K.lookup f=some ⟨p,o,.func<|W.fnOf x x (oF q) (ml q) (kf q) .none kV m n r d ct,j⟩) aZ4)(c:autoParam (W.codeIn K d x=true) aZ4)(k:autoParam (W.keepIn K (.ref f)=true) aZ4):km K x q:=⟨f,_,Ig l c k,a⟩
def qC.mk{f:ja}{r:je}{p s:mP}{j:yk}{kV m o d ct:je}(a:autoParam (W.findIn K (.ref C) x=some (some<|.ref f)) aZ4)(n:autoParam (W.isFn K (.ref f)=true) aZ4)
    (l:autoParam (K.lookup f=some ⟨r,p,.func<|W.fnOf x B (oF q) (ml q) (kf q) .none kV m o s d ct,j⟩) aZ4)(c:autoParam (W.codeIn K d B=true) aZ4)(k:autoParam (W.keepIn K (.ref f)=true) aZ4):qC K C x B q:=⟨f,_,Qb l c k,a,n⟩
def km.get(p:km K x q)(Y:Wt P w K I i h)(z:jS)(b:autoParam (Bd x x q z) aZ8):
    ∃f c,ou K x x q f c/\Binds K c z []/\W.keepIn K (.ref f)=true/\I x=some (.ref f):=let⟨f,c,F,a⟩:=p;⟨f,c,F,F.binds b.o,F.kp,Y.g a⟩
def km.has(p:km K x q)(Y:Wt P w K I i h)(o:∀f a,ou K x x q f a->lM P w K I i k f a z J)(b:autoParam (Bd x x q z) aZ8):kj P w K I i k x z J:=let⟨f,a,F,b,k,m⟩:=p.get Y z b;⟨f,a,o f a F,b,k,m⟩
def qC.has(p:qC K C x B q)(Y:Wt P w K I i h)(o:∀f c,rV K x B q .none f c->lM P w K I i k f c z J)(b:autoParam (Bd x B q z) aZ8):
    pT P w K I i k C x z [] J:=let⟨f,c,F,a,n⟩:=p;⟨f,c,[],[],o f c F,F.binds b.o,.nil,λ_ _=>.nil,⟨a,n,F.kp⟩⟩
def qC.Q1(p:qC K C "__init__" B q)(Y:Wt P w K I i h)(m:W.makesIn K C=true)(kp:W.keepIn K (.ref C)=true)(o:∀f c,rV K "__init__" B q .none f c->lM P w K I i k f c z J)(b:autoParam (Bd "__init__" B q z) aZ8):
    qE P w K I i k C z J:=let⟨f,c,F,a,n⟩:=p;⟨f,c,o f c F,F.binds b.o,⟨m,a,n,kp⟩⟩
def _root_.L2.qZ.u{j:Nat}(G:kj P w K I i j x z J)(h:autoParam (j<=k) aZ12):kj P w K I i k x z J:=qZ.up G h
def pT.u{j:Nat}{a:j7}(G:pT P w K I i j C x z a J)(h:autoParam (j<=k) aZ12):pT P w K I i k C x z a J:=G.up h
def qE.u{j:Nat}(G:qE P w K I i j C z J)(h:autoParam (j<=k) aZ12):qE P w K I i k C z J:=G.up h
def _root_.L2.mf.cl{f:ja}{a:nu}{n:Nat}{F:jD}(h:lM P w K I i k f a z<|kB n K F):lM P w K I i k f a z (ly n K<|λc=>clo<|F (c.map .d) []):=mf.close h
def lc(s:Scope):aa jd:=(s.names.filter λp=>p.2 !=.globalImplicit).map (·.1)
noncomputable def wD(s:Scope)(z:jS)(n:Nat):jk:=decide (s.kind=.function)&&!s.isCoroutine&&!s.isGenerator&&decide (lc s).Nodup&&decide ((lc s).take z.length=z)&&decide ((lc s).length=n)&&z.all (λx=>decide (s.names.lookup x=some .local)||decide (s.names.lookup x=some .cell))&&s.names.all λy=>decide (y.2≠.free)
def rC{s:Scope}{n:Nat}(h:wD s z n=true):sY (lc s) z s/\(lc s).length=n:=by simp only[wD,aK,dw,cJ,cG,aS]at h;obtain⟨⟨⟨⟨⟨⟨⟨o,m⟩,l⟩,j⟩,f⟩,d⟩,c⟩,a⟩:=h;exact⟨⟨o,m,l,j,f,c,a⟩,d⟩
def P1{f:ja}{j:nu}{n:Nat}{g:jV}(F:ou K x x q f j)(S:wD (kf q) z n=true)
    (d:(lc<|kf q).Nodup->∀(c:je) (A:kh) (a:my) (s:jr) (H:Hp) (E:XK),kN k (kR (ky P w) P w K I i (lc<|kf q) x (kf q) f c A a s H E).A->oP (kR (ky P w) P w K I i (lc<|kf q) x (kf q) f c A a s H E) E (ml q) g):
    lM P w K I i (k+1) f j z (ly z.length K λl=>jX<|g<|ke n l):=by
 have:=P4 F (rC S).1 (d (rC S).1.nd);rwa [(rC S).2]at this
def P7{f:ja}{j:nu}{n:Nat}{g:Nat->jJ}(F:ou K x x q f j)(S:wD (kf q) z n=true)
    (d:(lc<|kf q).Nodup->∀(b:Nat) (c:je) (A:kh) (a:my) (s:jr) (H:Hp) (E:XK),kN k (kR (ky P w) P w K I i (lc<|kf q) x (kf q) f c A a s H E).A->oA (kR (ky P w) P w K I i (lc<|kf q) x (kf q) f c A a s H E) E b (ml q) (g b)):
    lM P w K I i (k+1) f j z (kB z.length K λl S=>ju<|g S.length (jY n l) S):=by
 have:=HS F (rC S).1 (d (rC S).1.nd);rwa [(rC S).2]at this
def P6{dV:je}{f:ja}{j:nu}{n:Nat}{g:Nat->jJ}(F:rV K x B q dV f j)(S:wD (kf q) z n=true)
    (d:(lc<|kf q).Nodup->∀(b:Nat) (c:je) (A:kh) (a:my) (s:jr) (H:Hp) (E:XK),kN k (kR (ky P w) P w K I i (lc<|kf q) B (kf q) f c A a s H E).A->oA (kR (ky P w) P w K I i (lc<|kf q) B (kf q) f c A a s H E) E b (ml q) (g b)):
    lM P w K I i (k+1) f j z (kB z.length K λl S=>ju<|g S.length (jY n l) S):=by
 have:=P5 F (rC S).1 (d (rC S).1.nd);rwa [(rC S).2]at this
noncomputable def Ie(s:Scope)(N z:jS)(n:Nat):jk:=decide (s.kind=.function)&&!s.isCoroutine&&!s.isGenerator&&decide N.Nodup&&decide (N.take z.length=z)&&decide (N.length=n)&&z.all (λx=>decide (s.names.lookup x=some .local)||decide (s.names.lookup x=some .cell))&&s.names.all λy=>decide (y.2≠.free)
def HV{f:ja}{l:nu}{n:Nat}{g:Nat->jJ}(N:jS)(F:ou K x x q f l)(S:Ie (kf q) N z n=true)
    (d:N.Nodup->∀(b:Nat) (c:je) (A:kh) (a:my) (s:jr) (H:Hp) (E:XK),kN k (kR (ky P w) P w K I i N x (kf q) f c A a s H E).A->oA (kR (ky P w) P w K I i N x (kf q) f c A a s H E) E b (ml q) (g b)):
    lM P w K I i (k+1) f l z (kB z.length K λm S=>ju<|g S.length (jY n m) S):=by
 simp only[Ie,aK,dw,cJ,cG,aS]at S;obtain⟨⟨⟨⟨⟨⟨⟨y,v⟩,u⟩,j⟩,t⟩,r⟩,p⟩,o⟩:=S;have:=HS F ⟨y,v,u,j,t,p,o⟩ (d j);rwa [r]at this
end P2
namespace pW
open PySem L2 P2 WP WM TM T2 PySem.NumText
abbrev fo(x q:jd)(st:Stmt)(dV kV doc pm:je)(an:mP)(cdv ct:je):nu:=PySem.W.fnOf x q (oF st) (ml st) (kf st) dV kV doc pm an cdv ct
def EF(K:PySem.W.Frag):Sp:=λc H Q E=>∃(al:kM) (ns:kv),c.length=1/\(∀a,H a=none->al a)/\ns.length<=63/\jv K al H c [.lst<|ns.map D.int]/\mh K H/\∀H',lj K H H'->Q (.bl true) H'
theorem Es{K:PySem.W.Frag}{al:kM}{H:Hp}:∀a:aa Int,jv K al H (a.map V.int) (a.map D.int)
 |[]=>.nil
 |_::a=>.cons (.int _) (Es a)
def aax{K:PySem.W.Frag}{H:Hp}{a:ja}{c:kv}(f:c.length<=63)(d:mh K H)(r:Rep K (λ_=>True) H (.ref a)<|.lst<|c.map D.int):EF K [.ref a] H (λv _=>v=.bl true) λ_ _ _=>False:=
 ⟨λ_=>True,c,rfl,λ_ _=>trivial,f,.cons r .nil,d,λ_ _=>rfl⟩
def isF(K:PySem.W.Frag)(a:nN)(c:ja)(u:je):jm jk:=if c∈a then PySem.W.kitOne K (.ref c) u else none
def Sx{K:PySem.W.Frag}{a:nN}(h:∀c∈a,yu K c):xX K (isF K a):=λc u b e=>by
 unfold isF at e;split at e;·rename_i z;exact⟨h c z,e⟩
 ·cases e
section
variable(a:Ad)
abbrev AG:jD:=λzs S=>ju (B0 a S.length (jY 4 zs) S)
abbrev FJ:jD:=λzs S=>ju (B6 a S.length (jY 6 zs) S)
abbrev AH:jD:=λzs S=>ju (yM a (FJ a) S.length (jY 6 zs) S)
abbrev FL:jA:=λds=>jX (yN a<|ke 3 ds)
abbrev FO:jA:=λds=>jX (Cg a<|ke 1 ds)
abbrev pU:jA:=λds=>jX (yO a (FO a) (FL a)<|ke 3 ds)
abbrev AQ:jA:=λds=>jX (yR a (pU a)<|ke 2 ds)
abbrev AN:jA:=λds=>jX (yQ a (pU a)<|ke 2 ds)
abbrev AU:jA:=λds=>jX (yS a (pU a)<|ke 2 ds)
abbrev AV:jA:=λds=>jX (yT a<|ke 2 ds)
abbrev AK:jA:=λds=>jX (Ik a<|ke 1 ds)
abbrev F5(Fs:jA):jA:=λds=>jX (tR a (AK a) Fs<|ke 3 ds)
abbrev AO:jA:=sv (F5 a) 8
abbrev rW:jA:=λds=>jX (Cc a (AO a)<|ke 6 ds)
abbrev FP:jD:=λzs S=>ju (Cp a (pU a) S.length (jY 3 zs) S)
abbrev AW:jA:=λds=>jX (Cs a (pU a)<|ke 1 ds)
abbrev F6(Fs:jD):jD:=λzs S=>ju (pF a (pU a) (AQ a) (AN a) (AU a) (AW a) (FP a) Fs S.length (jY 4 zs) S)
abbrev FQ:jD:=oG (F6 a) 8
abbrev FZ(Fs:jD):jD:=λzs S=>ju (yP a (AV a) (FQ a) Fs S.length (jY 3 zs) S)
abbrev AJ:jD:=oG (FZ a) 8
abbrev AI:jD:=λzs S=>ju (Cf a S.length (jY 1 zs) S)
abbrev AL:jD:=λzs S=>ju (Cj a S.length (jY 2 zs) S)
abbrev x9:jD:=λzs S=>ju (Ci a (pU a) (rW a) (AG a) (AH a) (AI a) (AJ a) (AL a) S.length (jY 10 zs) S)
abbrev AM:jD:=λzs S=>ju (Co a (x9 a) S.length (jY 2 zs) S)
abbrev AS:jD:=λzs S=>ju (Cr a (x9 a) S.length (jY 2 zs) S)
abbrev FK:jA:=λds=>jX (Cd a<|ke 1 ds)
abbrev FN:jA:=λds=>jX (Ce a<|ke 1 ds)
abbrev AR:jA:=λds=>jX (Cq a (rW a) (FK a) (FN a)<|ke 2 ds)
abbrev uD:jA:=λds=>jX (Cv a<|ke 2 ds)
abbrev uE:jA:=λds=>jX (CA a<|ke 4 ds)
abbrev A2:jA:=λds=>jX (yV a<|ke 7 ds)
abbrev rX:jD:=λzs S=>ju (CC a S.length (jY 3 zs) S)
abbrev ya:jD:=λzs S=>ju (CJ a (uE a) (rX a) S.length (jY 2 zs) S)
abbrev A0:jD:=λzs S=>ju (CD a (uD a) (rX a) (ya a) S.length (jY 12 zs) S)
abbrev FU:jD:=λzs S=>ju (CH a (uE a) (rX a) S.length (jY 4 zs) S)
abbrev FT:jD:=λzs S=>ju (CG a (uE a) (rX a) (FU a) S.length (jY 5 zs) S)
abbrev FR:jD:=λzs S=>ju (Cy a (uE a) (rX a) (FT a) S.length (jY 4 zs) S)
abbrev AY:jD:=λzs S=>ju (Cz a (rX a) (FR a) S.length (jY 4 zs) S)
abbrev A1:jD:=λzs S=>ju (CF a (uD a) (AY a) S.length (jY 8 zs) S)
abbrev AZ:jD:=λzs S=>ju (CB a S.length (jY 3 zs) S)
abbrev AX:jA:=λds=>jX (Cu a<|ke 5 ds)
abbrev M4:jD:=λzs S=>ju (Cn a (uD a) (A2 a) (AR a) (AX a) (A0 a) (A1 a) (ya a) (AM a) (AZ a) (AS a) S.length (jY 18 zs) S)
def tQ:HF (pU a):=λt b f h=>Ud (λi=>UE (a:=a) i) (λx y d c h=>Ue (a:=a) x y d c h) t b f h
def Gp:Ar a (pU a) (AQ a) (AN a) (AU a) (AW a) (AV a) where
 f:=tQ a
 p:=λk j i d c l=>Uu (a:=a) (tQ a) k j i d c l
 m:=λk j i d c l=>Uo (a:=a) (tQ a) k j i d c l
 t:=λk j i d c l=>UC (a:=a) (tQ a) k j i d c l
 a:=λh c=>UG (a:=a) (tQ a) h c
 u:=λk j i d=>UD (a:=a) k j i d
def WK(t:T7)(c:t.dep<8)(d:t.parts.length<64):AO a [t.d]=.ok (.lst<|t.parts.map T7.d):=
 JM (a:=a) (Fi:=AK a) (λt=>Ui t) 8 t c (by omega)
def Bf(t:T7)(d:t.dep<8)(c:t.parts.length<64):∃A,vN (rW a) t A:=T5 (WK a t d c) c
def SU:Jd a (pU a) (rW a) (AG a) (AH a) (AI a) (AJ a) (AL a) where
 f:=tQ a
 i:=λS c t=>Uh S c t _
 s:=λg w r A d=>Uy (λS' g r k=>Us g r k _) g w r A d _
 o:=λn m l j C=>Uc n m l j C _
 h:=λp E R=>Ug (Gp a) E 8 (λq z d=>UI (Gp a) E p (λx y v u=>Uq (tQ a) p v u _) R.here 8 q z d) 8 R.w R.dep R.dep R.asks
 k:=λn m l j=>m_keys n m l j _
def Jc{S:jt}{R:nB}{c:aa WM.Rd}(f:vU R)(d:vT c)(i:S[0]?=some .mk)(h:m9 S):∃S',Gr S S'/\x9 a [.d<|.lst<|c.map WM.Rd.d,.d<|.lst<|R.map jR] S=.ok (.d<|.tup [.lst (judge (tw<|rW a) R c).1,.lst<|(judge (tw<|rW a) R c).2.map WM.Rd.d]) S':=
 Uj (SU a) R c (ZC (Bf a) f) d.1 d.2 i h
def ug:Pk (rX a):=λc m x b f d=>Ut c m x b f d _
def wU:Lw (uE a):=λt b d c=>Ul t b d c
def BC:Cl (uD a):=λc k=>T8 c k
def Oe{ws:jS}(c:∀w∈ws,PyData.strOk w=true)(d:ws.length<=3):Gv (AY a) ws Cw 4 19:=Ua (ug a) (T9 (ug a) (wU a)<|UA (ug a) (wU a)<|UB (ug a) (wU a) c<|by omega)
def Qc:Fz (tw<|rW a) (uD a) (A2 a) (AR a) (AX a) (A0 a) (A1 a) (ya a) (AM a) (AZ a) (AS a) where
 c:=BC a
 w:=λc=>UH c
 r:=λW l L f k q i d=>Uw (ug a) (JN (ug a)<|wU a) (BC a) W l L f k q i d
 u:=λl f k q i d=>Ux (ws:=[]) (Oe a (ws:=[]) (λ_ h=>nomatch h)<|by decide) (BC a) l f k q i d
 v:=JN (ug a) (wU a)
 m:=λj z i d=>let⟨S',g,e⟩:=Jc a j z i d;⟨S',g,Um e⟩
 n:=λG o=>Ur G o _
 s:=λj z i d=>let⟨S',g,e⟩:=Jc a j z i d;⟨S',g,Uz e⟩
 h:=λt N M=>(Bc<|Bf a t N M).2.2
 k:=λ{R} j P=>Uv (λA h=>T4 h) (λA h=>Ub h) (λD J=>by
  have g:=(j.ok D J).2;obtain⟨I,O,F⟩:=Bc (Bf a D.2 (by have:=g.dep;omega) (by have:=g.sz;omega));refine⟨I,by have:=g.sz;omega,?_⟩;rw[b9];intro x p;rcases(F x).mp p with rfl|p;· exact ay
  · rw[(Kg g.ok x p).1];exact ay) (by omega)
 b:=λx y C o=>T6 x y C o
end
structure Tx(K:PySem.W.Frag)(mg:kG)(a:Ad):Prop where
 Bl:mg "abs"=none
 Bm:mg "any"=none
 Bn:mg "bool"=none
 yz:mg "dict"=none
 Bo:mg "int"=none
 Bp:mg "isinstance"=none
 Br:mg "len"=none
 yA:mg "max"=none
 Bs:mg "min"=none
 yB:mg "range"=none
 wg:mg "set"=none
 uT:mg "sorted"=none
 Bt:mg "sum"=none
 Ny:mg "WeatherError"=some (.ref a.WeatherError)
 GN:mg "NoFraction"=some (.ref a.NoFraction)
 GO:mg "Sight"=some (.ref a.Sight)
 MF:Ge K a.NoFraction
 rD:pe K a.Sight
 zk:qH K a.Sight "masts"
 zl:qH K a.Sight "places"
 nt:rJ K=true
 Dh:xX K a.sE
structure Pm(K:PySem.W.Frag)(a:Ad):Prop where
 p1:qC K a.Sight "__init__" "Sight.__init__" (inClass (at_ 20) 0)
 p2:qC K a.Sight "one_seen" "Sight.one_seen" (inClass (at_ 20) 2)
 p3:qC K a.Sight "seen_from" "Sight.seen_from" (inClass (at_ 20) 1)
 p4:km K "common_divisor" (at_ 6)
 p5:km K "is_whole" (at_ 5)
 p6:km K "fraction" (at_ 4)
 p7:km K "plus" (at_ 7)
 p8:km K "minus" (at_ 8)
 p9:km K "times" (at_ 9)
 Wb:km K "under" (at_ 10)
 Wc:km K "inner_parts" (at_ 14)
 Wd:km K "parts_of" (at_ 13)
 We:km K "asked_by" (at_ 12)
 Wf:km K "minutes_between" (at_ 16)
 Wg:km K "without_sign" (at_ 17)
 Wh:km K "worth" (at_ 15)
 Wi:km K "holds" (at_ 18)
 Wj:km K "found_of" (at_ 25)
 Wl:km K "keys_of" (at_ 26)
 Wm:km K "judged" (at_ 24)
 Wn:km K "marks" (at_ 22)
 Wo:km K "standing" (at_ 23)
 Wq:km K "asks_for_a_mast" (at_ 29)
 Wr:km K "farthest" (at_ 30)
 Ws:km K "reach" (at_ 28)
 Wu:km K "_law_cell_at" (at_ 32)
 Wv:km K "_law_low" (at_ 33)
 Ww:km K "_law_word" (at_ 34)
 Wx:km K "_law_pick" (at_ 35)
 Wy:km K "_law_value" (at_ 36)
 Wz:km K "_law_row" (at_ 37)
 WA:km K "_law_term" (at_ 38)
 WB:km K "_law_sum" (at_ 39)
 WC:km K "_law_compare" (at_ 40)
 WD:km K "_law_condition" (at_ 41)
 WE:km K "_law_rules" (at_ 42)
 WG:km K "_law_names" (at_ 43)
 WH:km K "_law_between" (at_ 44)
structure Cm(P:jT)(w:jK)(K:PySem.W.Frag)(mg:kG)(base h:jw)(a:Ad):Prop where
 T:Tx K mg a
 W:Wt P w K mg base h
 q:Pm K a
 JQ:PySem.W.makesIn K a.Sight=true/\PySem.W.keepIn K (.ref a.Sight)=true
section
variable{P:jT}{w:jK}{K:PySem.W.Frag}{e:kG}{c h:jw}{a:Ad}(C:Cm P w K e c h a)
include C
local macro_rules|`(tactic|walk_at "h")=>`(tactic|first|assumption|exact qZ.u (by assumption)|exact pT.u (by assumption)|exact qE.u (by assumption))
set_option hygiene false in
local macro_rules|`(tactic|walk_at "o")=>`(tactic|repeat' first|(show DE _ _ _ _;first|exact BK _|exact wu|exact OE|refine Hh Dl ?_ ?_|refine OC ?_ ?_ ?_|exact Ot|exact Oz|refine OF ?_|refine Ow ?_ ?_ ?_|refine Oq ?_ ?_|refine OB ?_|refine OA ?_|refine Ox ?_ ?_ ?_|refine OD ?_ ?_ ?_ ?_|refine Ou (by walk_at "h") hr rfl (by first|exact vk|exact WN) rfl ?_|refine Ov ?_ rfl (by first|exact T.Br|exact T.uT|exact T.Bl|exact T.wg|exact T.yB|exact T.Bp|exact T.Bm|exact T.yA|exact T.Bo|exact T.Bn|exact T.yz|exact T.Bt|exact T.Bs) (by with_reducible first|exact GI|exact GC|exact GH|exact GD|exact GG|exact GF|exact GL|exact GJ|exact Bz) ?_|exact OG rfl (by first|exact T.Br|exact T.uT|exact T.Bl|exact T.wg|exact T.yB|exact T.Bp|exact T.Bm|exact T.yA|exact T.Bo|exact T.Bn|exact T.yz|exact T.Bt|exact T.Bs) (by with_reducible first|exact GI|exact GC|exact GH|exact GD|exact GG|exact GF|exact GL|exact GJ|exact Bz)|refine OH ?_ ?_|refine DN.de ?_)|(show DA _ _ _ _;first|exact Oo|refine Om ?_ ?_)|(show ZE _ _ _ _;first|refine aco ?_|exact mL _|refine acx ?_|refine acs ?_ ?_ ?_|refine acn Dl ?_ ?_|refine acv ?_|refine acq ?_|refine aca (by walk_at "h") hr rfl vk rfl ?_|refine ab9 (by walk_at "h") hr rfl vk rfl ?_|refine acg hr.units ?_ ?_ ⟨rfl,rfl,rfl,rfl⟩)|(show ZA _ _ _ _;first|exact ab5|refine ab4 ?_ ?_)|(show oP _ _ _ _;first|refine O6 _ ?_|refine Hw ?_|refine O5 ?_ ?_|exact O7)|(show oA _ _ _ _ _;first|refine acW ?_|refine acU ?_ ?_|exact acV)|(show ZS _ _ _ _ _;first|refine acO _ ?_|refine MQ _ mF rfl (Or.inl rfl) ?_|refine acQ ?_|refine acP ?_ ?_ ?_|refine acN xg rfl ?_ ?_ ?_|refine acL _ hI PySem.F.slot_list_append PySem.F.type_list_append ?_|refine MQ _ mF rfl (Or.inr rfl) ?_|refine acR _ mF rfl (Or.inl rfl) ?_|refine acS _ mF rfl (Or.inl rfl) ?_)|(show DT _ _ _ _;first|refine O9 ?_ ?_ ?_|refine O8 ?_ ?_ ?_ ?_ ?_|refine Pc ?_|refine Pd ?_|refine DW.dt ?_)|(show DS _ _ _ _;first|refine BN _ mF rfl (Or.inl rfl) ?_|refine O1 ?_|refine OZ ?_ ?_ ?_|refine O3 uU xg ?_ ?_)|(show DN _ _ _ _;first|refine OR ?_|refine OS ?_ (fun _ _ _ _=>?_) (fun _ _ _ _=>?_)|refine OU rfl rfl T.uT rfl T.wg ?_)|(show ZT _ _ _ _;first|refine acZ ?_|refine acX ?_ ?_ ?_|refine ac0 ?_)|(show DW _ _ _ _;first|refine Pj ?_ ?_|refine Pg ?_ ?_|refine Pl ?_|refine Ph ?_)|refine OW ?_|refine OK ?_|exact OI|refine acD _ mF rfl (Or.inl rfl)|refine OJ ?_|refine VM hr.units|refine Hr ?_ (fun _ _ _ _=>?_) (fun _ _ _ _=>?_)|refine OL rfl T.yB ?_|refine Ft|refine acz ?_|refine acA ?_ (fun _ _ _ _=>?_) (fun _ _ _ _=>?_)|refine acG ?_|refine acB ?_|with_reducible first|exact VD|exact VV|exact VA|exact VZ|exact VF|exact V7|exact VT|exact NI|exact V5|exact V2|exact NA|exact VJ|exact abE|exact aam|exact VR|exact VH)
set_option hygiene false in
local macro_rules|`(tactic|walk_at "g")=>`(tactic|(have T:=C.T;(first|refine P1 F (by kernel_rfl) fun mF cdv A outer s H E hr=>?_|((try refine mf.cl ?_);refine P7 F (by kernel_rfl) fun mF b cdv A outer s H E hr=>?_)|refine P6 F (by kernel_rfl) fun mF b cdv A outer s H E hr=>?_);walk_at "o"))
set_option hygiene false in
local macro_rules|`(tactic|walk_at "f")=>`(tactic|((first|refine km.has p C.W fun _ _ F=>?_|refine qC.has p C.W fun _ _ F=>?_);walk_at "g"))
set_option hygiene false in
local macro_rules|`(tactic|walk_at "n0")=>`(tactic|(have T:=C.T;refine HV ["row","rules","told","stands","rule","sight","asked","left","reading","seen"] F (by kernel_rfl) fun mF b cdv A outer s H E hr=>?_;walk_at "o"))
set_option hygiene false in
local macro_rules|`(tactic|walk_at "n1")=>`(tactic|(have T:=C.T;refine HV ["_law_script","_law_words","_law_row_here","_law_rules_here","_law_word_here","_law_time","_law_taken","_law_new","_law_more","_law_one","_law_other","_law_left","_law_in_both","_law_far","_law_mast","_law_here","_law_value_here","_law_some"] F (by kernel_rfl) fun mF b cdv A outer s H E hr=>?_;walk_at "o"))
theorem QC:qE P w K e c 1 a.Sight ["self","row"] (kB 2 K<|AG a):=by refine C.q.p1.Q1 C.W C.JQ.1 C.JQ.2 λ_ _ F=>?_;walk_at "g";exact MO T.rD T.zk (mL 0) acj;exact MO T.rD T.zl (mL 0) Fp;exact ack (Au T.rD T.zk<|mL 0) (by walk_at "o") (by walk_at "o") ⟨rfl,rfl,rfl,rfl⟩;exact Fy hr.units (Au T.rD T.zl<|mL 0) (xS<|by walk_at "o") (by walk_at "o")
theorem QD:pT P w K e c 1 a.Sight "one_seen" ["self","reading","ask"] [] (kB 3 K<|FJ a):=by have p:=C.q.p2;walk_at "f";exact Au T.rD T.zl (mL 0);exact xS (by walk_at "o");exact MR (mL 4);exact MN 4 mF rfl (Or.inl rfl) Su (by walk_at "o");exact MN 4 mF rfl (Or.inl rfl) Sr (by walk_at "o");exact acf hr.units (Au T.rD T.zk<|mL 0) (BK 3)
theorem QE:pT P w K e c 2 a.Sight "seen_from" ["self","reading","asked"] [] (kB 3 K<|AH a):=by have:=QD C;have p:=C.q.p3;walk_at "f";exact Fp;exact MK (by walk_at "h") T.rD hr vk (mL 0) (by walk_at "o") rfl;exact MR (mL 5);exact Fy hr.units (mL 3) (aci T.nt<|by walk_at "o") (by walk_at "o")
theorem QG:kj P w K e c 1 "common_divisor" ["one","other"] (ly 2 K<|FL a):=by have p:=C.q.p4;walk_at "f"
theorem QL:kj P w K e c 1 "is_whole" ["thing"] (ly 1 K<|FO a):=by have p:=C.q.p5;walk_at "f";exact GS T.Dh;exact GS T.Dh
theorem tU:kj P w K e c 3 "fraction" ["top","bottom"] (ly 2 K<|pU a):=by have:=QL C;have:=QG C;have p:=C.q.p6;walk_at "f";exact O0 PySem.F.excBase_ValueError T.MF.cls rfl T.GN
theorem QT:kj P w K e c 4 "plus" ["one","other"] (ly 2 K<|AQ a):=by have:=tU C;have p:=C.q.p7;walk_at "f"
theorem QP:kj P w K e c 4 "minus" ["one","other"] (ly 2 K<|AN a):=by have:=tU C;have p:=C.q.p8;walk_at "f"
theorem QW:kj P w K e c 4 "times" ["one","other"] (ly 2 K<|AU a):=by have:=tU C;have p:=C.q.p9;walk_at "f"
theorem QX:kj P w K e c 1 "under" ["one","other"] (ly 2 K<|AV a):=by have p:=C.q.Wb;walk_at "f"
theorem QK:kj P w K e c 1 "inner_parts" ["part"] (ly 1 K<|AK a):=by have p:=C.q.Wc;walk_at "f"
theorem QR:kj P w K e c 9 "parts_of" ["part"] (ly 1 K (AO a)):=by obtain⟨_,_,F,b,k,m⟩:=C.q.Wd.get C.W ["part"];exact⟨_,_,Lv (k0:=1) (st:=1) (F0:=F5 a) (hn:=rfl) (λo=>⟨_,_,o,b,k,m⟩) (λi k d f=>by have:=QK C;walk_at "g";exact Hu 1 mF rfl (Or.inl rfl) (by walk_at "o");exact Ht xg rfl (by walk_at "o") (BL 2 mF rfl (Or.inl rfl)) (Hw (yE 1 (by walk_at "o")))) 8,b,k,m⟩
theorem IB:kj P w K e c 10 "asked_by" ["condition"] (ly 1 K<|rW a):=by have:=QR C;have p:=C.q.We;walk_at "f";exact Hu 5 mF rfl (Or.inl rfl) (by walk_at "o");exact yE 5 (by walk_at "o");exact yE 5 (by walk_at "o");exact yE 5 (by walk_at "o")
theorem QQ:kj P w K e c 4 "minutes_between" ["first","second","found"] (kB 3 K<|FP a):=by have:=tU C;have p:=C.q.Wf;walk_at "f";exact Fo hr.units (mL 2) (by walk_at "o");exact Fo hr.units (mL 2) (by walk_at "o")
theorem QY:kj P w K e c 4 "without_sign" ["value"] (ly 1 K<|AW a):=by have:=tU C;have p:=C.q.Wg;walk_at "f"
theorem QZ:kj P w K e c 12 "worth" ["term","found"] (kB 2 K (FQ a)):=by obtain⟨_,_,F,b,k,m⟩:=C.q.Wh.get C.W ["term","found"];exact⟨_,_,Eo (k0:=4) (st:=1) (F0:=F6 a) (hn:=rfl) (λo=>⟨_,_,o,b,k,m⟩) (λi k d f=>by have:=tU C;have:=QT C;have:=QP C;have:=QW C;have:=QY C;have:=QQ C;walk_at "g";exact Fo hr.units (mL 1) (by walk_at "o")) 8,b,k,m⟩
theorem QJ:kj P w K e c 20 "holds" ["condition","found"] (kB 2 K (AJ a)):=by obtain⟨_,_,F,b,k,m⟩:=C.q.Wi.get C.W ["condition","found"];exact⟨_,_,Eo (k0:=12) (st:=1) (F0:=FZ a) (hn:=rfl) (λo=>⟨_,_,o,b,k,m⟩) (λi k d f=>by have:=QX C;have:=QZ C;walk_at "g";exact acb (Kn hr.units) (by walk_at "o") (by walk_at "o");exact acr (by walk_at "o");exact ab8 (by walk_at "o") (ML<|by walk_at "o");exact acu (by walk_at "o") (ML (by walk_at "o"))) 8,b,k,m⟩
theorem QI:kj P w K e c 1 "found_of" ["seen"] (kB 1 K<|AI a):=by have p:=C.q.Wj;walk_at "f";exact ach T.nt rfl hr.units rfl T.yz rfl (acd (x:="ask") (y:="seen") 0 [(".0",.local),("ask",.local),("seen",.cell)] rfl (mL 0) (λ_ _ _ _=>xi (i:=0) (show List.Nodup (["ask","seen"]:aa jd)from by decide+kernel) rfl (Or.inl rfl)<|by first|exact .inl rfl|exact .inr rfl|assumption) (λ_ _ _ _=>Ft) (λ_ _ _ _=>by walk_at "o";exact MJ hr.units (mL 1) (by walk_at "o");exact MJ hr.units (mL 1) (by walk_at "o")) rfl (by decide+kernel) (by decide+kernel) rfl rfl rfl rfl rfl (by decide+kernel)<|by decide+kernel)
theorem QM:kj P w K e c 1 "keys_of" ["seen"] (kB 1 K<|AL a):=by have p:=C.q.Wl;walk_at "f";exact acw hr.units rfl rfl T.uT rfl T.wg (acm<|ace (x:="reading") rfl (mL 0) (λ_ _ _ _=>xi (i:=0) (show List.Nodup (["reading"]:aa jd)from by decide+kernel) rfl (Or.inl rfl)<|by first|exact .inl rfl|exact .inr rfl|assumption) (λ_ _ _ _=>Ft) (λ_ _ _ _=>by walk_at "o") (by decide+kernel) rfl (by decide+kernel)<|by decide+kernel)
theorem IC:kj P w K e c 21 "judged" ["row","rules"] (kB 2 K<|x9 a):=by have:=tU C;have:=IB C;have:=QI C;have:=QJ C;have:=QM C;have:=QC C;have:=QE C;have p:=C.q.Wm;refine km.has p C.W λ_ _ F=>?_;walk_at "n0";exact acp (by walk_at "h") hr rfl T.GO vk (by walk_at "o") rfl;exact MK (by walk_at "h") T.rD hr vk (mL 5) (by walk_at "o") rfl;exact ZW.zt (ac2 (acY<|mL 9)<|ac3<|ac1<|by walk_at "o")
theorem QO:kj P w K e c 22 "marks" ["row","rules"] (kB 2 K<|AM a):=by have:=IC C;have p:=C.q.Wn;walk_at "f"
theorem QV:kj P w K e c 22 "standing" ["row","rules"] (kB 2 K<|AS a):=by have:=IC C;have p:=C.q.Wo;walk_at "f"
theorem QF:kj P w K e c 1 "asks_for_a_mast" ["asks"] (ly 1 K<|FK a):=by have p:=C.q.Wq;walk_at "f";exact GQ rfl
theorem QH:kj P w K e c 1 "farthest" ["asks"] (ly 1 K<|FN a):=by have p:=C.q.Wr;walk_at "f";exact Oy rfl rfl T.yA (by walk_at "o") wu (by rfl) (by rfl) (by rfl)
theorem QU:kj P w K e c 11 "reach" ["rules"] (ly 1 K<|AR a):=by have:=IB C;have:=QF C;have:=QH C;have p:=C.q.Ws;walk_at "f";exact O2 1 mF rfl (Or.inl rfl) (by walk_at "o");exact GQ rfl;exact NR rfl
theorem CY:kj P w K e c 1 "_law_cell_at" ["_law_script","_law_k"] (ly 2 K<|uD a):=by have p:=C.q.Wu;walk_at "f"
theorem yZ:kj P w K e c 1 "_law_low" ["_law_top","_law_bottom"] (ly 2 K<|uE a):=by have p:=C.q.Wv;walk_at "f";exact Hv 2 3 rfl mF rfl rfl (by decide) rfl rfl (by walk_at "o");exact Hv 2 3 rfl mF rfl rfl (by decide) rfl rfl (by walk_at "o")
theorem RA:kj P w K e c 1 "_law_word" ["_law_cell","_law_k"] (ly 2 K<|A2 a):=by have p:=C.q.Ww;walk_at "f";exact Ht xg rfl (by walk_at "o") (BL 6 mF rfl<|Or.inl rfl) (by walk_at "o")
theorem u6:kj P w K e c 1 "_law_pick" ["_law_stream","_law_many"] (kB 2 K<|rX a):=by have p:=C.q.Wx;walk_at "f";exact MP 0 wu (by walk_at "o");exact MP 0 wu (by walk_at "o")
theorem IJ:kj P w K e c 2 "_law_value" ["_law_stream"] (kB 1 K<|ya a):=by have:=yZ C;have:=u6 C;have p:=C.q.Wy;walk_at "f"
theorem Rw:kj P w K e c 3 "_law_row" ["_law_script","_law_first","_law_most","_law_words"] (kB 4 K<|A0 a):=by have:=CY C;have:=u6 C;have:=IJ C;have p:=C.q.Wz;walk_at "f";exact acM;exact OT rfl T.uT (by walk_at "o")
theorem Rz:kj P w K e c 2 "_law_term" zc (kB 2 K<|FU a):=by have:=yZ C;have:=u6 C;have p:=C.q.WA;walk_at "f";exact D5 hr.units
theorem Ry:kj P w K e c 3 "_law_sum" zc (kB 2 K<|FT a):=by have:=yZ C;have:=u6 C;have:=Rz C;have p:=C.q.WB;walk_at "f"
theorem Rr:kj P w K e c 4 "_law_compare" zc (kB 2 K<|FR a):=by have:=yZ C;have:=u6 C;have:=Ry C;have p:=C.q.WC;walk_at "f"
theorem Rt:kj P w K e c 5 "_law_condition" zc (kB 2 K<|AY a):=by have:=u6 C;have:=Rr C;have p:=C.q.WD;walk_at "f"
theorem Rx:kj P w K e c 6 "_law_rules" ["_law_script","_law_first","_law_many","_law_words"] (kB 4 K<|A1 a):=by have:=CY C;have:=Rt C;have p:=C.q.WE;walk_at "f"
theorem Rv:kj P w K e c 1 "_law_names" ["_law_found"] (kB 1 K<|AZ a):=by have p:=C.q.WG;walk_at "f";exact Fp;exact Fy hr.units (mL 1) (xS<|by walk_at "o") (by walk_at "o")
theorem Rq:kj P w K e c 1 "_law_between" ["_law_one","_law_other","_law_line"] (ly 3 K<|AX a):=by have p:=C.q.WH;walk_at "f";exact BN 3 mF rfl (Or.inr rfl) (by walk_at "o";exact NO rfl);exact BN 4 mF rfl (Or.inr rfl) (by walk_at "o";exact NM rfl)
theorem QN{f:ja}{d:nu}(F:ou K "law" "law" (at_ 45) f d):lM P w K e c 23 f d ["_law_script"] (kB 1 K<|M4 a):=by have:=CY C;have:=RA C;have:=QU C;have:=Rq C;have:=Rw C;have:=Rx C;have:=IJ C;have:=QO C;have:=Rv C;have:=QV C;walk_at "n1";exact D5 hr.units;exact acT 1000 xg (by walk_at "o") (by walk_at "o");exact Kl;exact VU hr.units;exact Kl;exact VL hr.units;exact acE rfl (Fu (by walk_at "o")<|Fu (by walk_at "o")<|Fu (by walk_at "o") acF);exact D5 hr.units;exact xS (by walk_at "o");exact xS (by walk_at "o");exact Kn hr.units
end
def all_mk{l:PySem.W.OpenLaw}{w:jK}{K:PySem.W.Frag}{h:jw}{mg:kG}{fa BX i d f:ja}(X:K.In h)(G:h.Ns mainGlobals mg)(hfa:mg "law"=some (.ref fa))
    {Vq Gj:mP}{aak:yk}{Vp Jf Hf KW V Hb:je}
    (a39:uG K "law"<|.ref BX)
    (Dt:K.lookup BX=some ⟨Vp,Vq,.func<|fo "law" "law" (at_ 45) .none Jf Hf KW Gj V Hb,aak⟩)(BA:PySem.W.codeIn K V "law"=true)(Dp:PySem.W.keepIn K (.ref BX)=true)
    (k:uG K "WeatherError"<|.ref i)
    (x:uG K "NoFraction"<|.ref d)
    (P:uG K "Sight"<|.ref f)
    (N:PySem.W.plainGet K f Str.empty=true)(M:PySem.W.hasDictIn K f=true)(L:PySem.W.plainOver K f=true)(J:Aw K f "__setattr__" "object.__setattr__")(I:PySem.W.makesIn K f=true)(F:PySem.W.keepIn K (.ref f)=true)
    (n:Ax K f "masts")
    (j:Ax K f "places")
    (t:PySem.W.excIn K d [.type "ValueError",.type "Exception",.type "BaseException",.type "object"] "ValueError.__new__"=true)(p:PySem.W.keepIn K (.ref d)=true)(r:Aw K d "__getattribute__" "BaseException.__getattribute__")(o:Ax K d "__getattr__")
    (u:Aw K d "__class__" "object.__class__")
    (hnt:rJ K=true)
    (E4:ov K "abs")(E5:ov K "any")(Z:ov K "bool")(Y:ov K "dict")(E7:ov K "int")(y:ov K "isinstance")(E9:ov K "len")(Fe:ov K "max")(Fj:ov K "min")(R:ov K "range")(Fm:ov K "set")(O:ov K "sorted")(Fn:ov K "sum")(pm:Pm K {WeatherError:=i,NoFraction:=d,Sight:=f,sE:=isF K []}):
    ∃fd:nu,(∀(s:jr) (v:je),BindsTo s fd ⟨[v],[]⟩ [("_law_script",v)])/\∀D:jw,K.In D->D.Ns mainGlobals mg->BM mg D->mf l.prog w K mg D (ky l.prog w) 23 fa fd ["_law_script"] (EF K):=by
 have e:=hfa.symm.trans (PySem.W.mg_of X G a39);cases e;have A:Ge K d:=⟨t,p,r,o,u⟩;have IS:xX K (isF K []):=Sx λc hc=>by simp only[az,cF,fY]at hc
 have W:Wt l.prog w K mg h h:=⟨X,G⟩;obtain⟨a,ea⟩:∃a:Ad,a={WeatherError:=i,NoFraction:=d,Sight:=f,sE:=isF K []}:=⟨_,rfl⟩;have T:Tx K mg a:=by subst ea;exact {Bl:=W.n E4,Bm:=W.n E5,Bn:=W.n Z,yz:=W.n Y,Bo:=W.n E7,Bp:=W.n y,Br:=W.n E9,yA:=W.n Fe,Bs:=W.n Fj,yB:=W.n R,wg:=W.n Fm,uT:=W.n O,Bt:=W.n Fn,Ny:=W.g k,GN:=W.g x,GO:=W.g P,MF:=A,rD:=⟨N,M,L,J⟩,zk:=n,zl:=j,nt:=hnt,Dh:=IS}
 rw[<-ea]at pm;have ei:a.sE=isF K []:=by rw[ea]
 have m:a.WeatherError=i:=by rw[ea]
 have z:a.NoFraction=d:=by rw[ea]
 have U:a.Sight=f:=by rw[ea]
 clear ea;subst m;subst z;subst U;have MW:=Ig (st:=(at_ 45)) Dt BA Dp;refine⟨PySem.W.fnOf "law" "law" (oF<|at_ 45) (ml<|at_ 45) (kf<|at_ 45) .none Jf Hf KW Gj V Hb,λs v=>.of_eq rfl,λD _ _ bm=>?_⟩;have C:Cm l.prog w K mg D h a:=⟨T,⟨X,G⟩,pm,⟨I,F⟩⟩;have Vo:=QN C MW;refine Vo.imp λvs H Q E q=>?_;obtain⟨al,ns,hl,fr,hn,rv,tt,q⟩:=q;obtain⟨S',e⟩:=Uk (Qc a) ns hn 1;exact abq hl rv tt e q
def walk{l:PySem.W.OpenLaw}{q:jT}{m:jS}{XP:(kG)->jw->Prop}{J:jK->jw->Prop}{d:DefRec}{K:Params->PySem.W.Frag}(M:l.most=some 63)(A:d.params.defaults=[])
    (Q:∀(w:jK) (h:jw),J w h->(K w.params).In h)(hT:∀w:jK,(m8<|K w.params).all (λt=>((PyProof.Rows.recsOf q).find? λe=>e.name==t.1).isSome)=true)(hN:∀w:jK,PySem.W.noTabs (K w.params)=true)
    (F:∀(w:jK) (k:kG) (r:ja) (h:jw),(K w.params).In h->h.Ns mainGlobals k->k d.name=some (.ref r)->
      ∃C:nu,(∀(s:jr) (u:je),BindsTo s C ⟨[u],[]⟩ [("_law_script",u)])/\∀c:jw,(K w.params).In c->c.Ns mainGlobals k->BM k c->mf l.prog w (K w.params) k c (ky l.prog w) 23 r C ["_law_script"] (EF (K w.params))):
    PySem.W.WalkO q m XP J l.row.toRowW d [] (λf x=>PySem.call f x):=by
 refine FC.Nq M A λw I D k mb r o Z cd U a x ns G Y ho hd O y i p j N=>?_;have v:=Q w _ Y;obtain⟨C,P,T⟩:=F w k r _ v G.T.g y;refine Tu v G.T.g G.T.b G.T.builtins G.T.nolimit N i p (aV j<|by decide) ⟨rfl,by decide,by decide⟩ (abi G.T v<|hT w) (hN w) G.T.bmain T P (λH L R=>aax j L ?_) λH e V h=>?_
 ·rcases R with h|⟨o,vd,n,h1,h2,h3,h4,h5,h6⟩;·exact .lst (.inl ⟨trivial,h⟩) (Es _)
  ·have e:=v a o h1;rw[i]at e;cases e;cases h4;exact .lst (.inr ⟨x,_,h1,by simpa using h5,by simpa using h6⟩) (Es _)
 ·obtain⟨_,_,_,_,_,_,_,_,_,_,_,_,z⟩:=h;exact z
end pW
structure PySem.W.Fast:Prop where
 (tw2211972853219341393 tw13905303201038468873 tw11283698401413253548 tw6343690961393511453 tw2146834361411325676 tw8043220987921285095 tw16039818256286598867 tw11203044339331876917 tw3063215310587175780 tw5386795547168896942 tw4050789071626510274 tw6145663100303949602 tw10633203871418275670 tw13251646154814564742 tw5956480390069656092 tw5375110143494436518 tw6360365034466105462 tw930036127824205972 tw18203302660107122947 tw6355768865038080365 tw14757951069392584129 tw11581720692187370445 tw5903156485840172327 tw17609655126581539751 tw7475120636310205601 tw1441827809016727070 tw16914499979380377940 tw15221858762460957942 tw7977079240334063553 tw854897314099212673 tw5111185402433683437 tw9505032356156499577 tw15222281773227903135 tw12968256435008008271 tw2277346441700301754 tw9119973812486969279 tw16935025013780076862 tw6881335309381160824 tw1834147362188511350 tw15891770597757052750 tw16757175391554111957 tw5578030245593062818 tw4152996013975677213 tw3186021322926137414 tw3875842038287905707 tw11604996399834064358 tw57569776178646541 tw18271303648645414659 tw3125136575492921191 tw797656748918449205 tw12678388195762200098 tw15135410644976238601 tw5809440402954609829 tw7662280579389140419 tw4706659138078305821 tw16686247562654279241 tw15281339161070296782 tw14034686138931126300 tw8315042328299074633 tw2767495020970578872 tw17959484463456439383 tw12592010668824345465 tw4705108705671157427 tw14542379877977648191 tw6376793495152821768 tw7864603114739346487 tw15723327008653520422 tw2070341756801003036 tw14064432885691733453 tw14430887489333531761 tw17409731981845125686 tw11223035734659885498 tw6981278707096672322 tw98530080128993331 tw6633492061726406095 tw17486214840155122616 tw12771587710131213618 tw4586123606178071303 tw2779993738622365032 tw14810536313295940810 tw742013823635807689 tw10838837233668577675 tw12583087642850858197 tw15696849784722312004 tw10702043839684418623 tw4574432038704279118 tw3821057224606603715 tw8257001139842223140 tw8618654407713259022 tw1847035623713898046 tw12526489701065969270 tw9188292482923576135 tw17706252534920798277 tw17569635208281899192 tw8870092518553688987 tw2600440595898008981 tw4617132997449423207 tw18214842836003135887 tw3505107649899742378 tw11386107003542095774 tw13818701072485868541 tw10973080764861189153 tw12974219397452797932 tw11659509912906868050 tw10024686128821179054 tw4886405893271144916 tw4824161076774166141 tw1683876592036734977 tw16672457583292535894 tw8152339970077627720 tw6044072633018997076 tw12688935780084921356 tw7707884612814234786 tw15654529103727173052 tw4569995307983329140 tw6118141156199971774 tw3867912325134366549 tw15797808042213445894 tw17795661861496323899 tw6303730208024216263 tw9956227331397863809 tw15178071564768690149 tw3164722618956762271 tw14509940651253843372 tw4150886897449380733 tw15122024970639729576 tw4112785502023494133 tw11904736377679334672 tw16780833194442076821 tw16000055445978024656 tw17719146878578949052 tw10613906096489378233 tw5554614308746811085 tw8592138273433171327 tw10915269818215801058 tw5178585339894358074 tw3045504740172965224 tw10554005751674760423 tw12143326211502944647 tw16411259326663693205 tw17722131803394671849 tw4743603766993976925 tw3165118847719817758 tw11278062024760311470 tw1107735617035993058 tw7092978799062112231 tw6304955964943904503 tw18100146654243683793 tw1148607598378118120 tw16912444900122559038 tw11849066726538434810 tw18010646393040461671 tw10522760004010268676 tw17642137820940034951 tw17426011096234084674 tw9942124869794824948 tw7872620490082051932 tw7820376348576123586 tw16913896334903263586 tw581460252092344379 tw3805728492786328594 tw15469465387914267836 tw14755738471204788371 tw14972523319836035624 tw17845471919200345148 tw17104410206616516535 tw15823221977902993715 tw4960877496234743406 tw11563233920049942399 tw8998282537764864793:True)
open PySem PySem.W PyProof.Rows
set_option maxRecDepth 100000 in
set_option maxHeartbeats 0 in
theorem PySem.Challenge.cw_weather_k73_whole_one_reading_more_holds : PySem.Challenge.rw_weather_k73_whole_one_reading_more.Holds := by
 w_on;o_law;k_head;(case hw=>w_witness2)
 k_fill
 refine pW.walk (l:=PySem.Challenge.rw_weather_k73_whole_one_reading_more) rfl rfl (λw h Y=>by first|exact PySem.W.km_in_of Y|exact PySem.W.kIn_of Y) ?hT ?hN ?F;case hT=>exact λw=>by kernel_rfl
 case hN=>exact λw=>by kernel_rfl
 case F=>
  intro w mg fa h KX G RF;refine' pW.all_mk KX G RF ?a39 ?Dt ?BA ?Dp ?M9 ?M7 ?M8 ?NY ?NZ ?N0 ?N1 ?N2 ?N3 ?Oa ?Ob ?ab7 ?acJ ?acC ?acK ?ab6 ?hnt ?E4 ?E5 ?abS ?abT ?E7 ?abY ?E9 ?Fe ?Fj ?ab1 ?Fm ?ab3 ?Fn ?pm;case a39|Dt|BA|Dp|M9|M7|M8=>(show _=_;k_is)
  case NY|NZ|N0=>kernel_rfl
  case N1=>(show _=_;k_is)
  case N2=>kernel_rfl
  case N3|Oa|Ob=>(show _=_;k_is)
  case ab7=>k_exc
  case acJ|acC|acK|ab6=>(show _=_;k_is)
  case hnt=>kernel_rfl
  case E4|E5|abS|abT|E7|abY|E9|Fe|Fj|ab1|Fm|ab3|Fn=>(show _=_;k_is)
  case pm=>constructor<;>(try dsimp only)<;>exact .mk
